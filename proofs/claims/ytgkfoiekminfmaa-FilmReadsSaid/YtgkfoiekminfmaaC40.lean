/- Layer 7: the document's own reader in memory, and the contract of its next bytes. -/
import Derived.Test.YtgkfoiekminfmaaC39
import Derived.BigQuiet
import Derived.WalkSmall
import Derived.StillTailTactics
import Derived.Deep.DeepCutAuto
import Derived.Deep.RegionHeld3
import Derived.Deep.AppendLies
namespace Go.Proofs.Ytgkfoiekminfmaa.Re
open Go.RowKit Go.Proofs.Ytgkfoiekminfmaa Go.Proofs.Ytgkfoiekminfmaa.Rp
set_option linter.unusedVariables false

/-- the document's reader in block g: its bytes (ahead of block N), its place, its error -/
def MAt (g N : Nat) (a : Option Addr) (n c : Nat) (lb : List UInt8) (s : St) (w : World) : Prop :=
  N ≤ g ∧ g < w.heap.size ∧ (∀ j, w.frozen? ⟨g, j, none⟩ = false) ∧ w.cell? ⟨g, 0, none⟩ = some (.slice a n c) ∧ w.cell? ⟨g, 2, none⟩ = some (.int .i64 s.2) ∧
    Bs w (.slice a n c) lb ∧ n ≤ 140737488355328 ∧ (∀ ad, a = some ad → lb ≠ [] → ad.block < N) ∧ ∃ p, p ≤ lb.length ∧ s.1 = lb.drop p ∧ w.cell? ⟨g, 1, none⟩ = some (.int .i64 (p : Nat))

theorem MAt.on {g N : Nat} {a : Option Addr} {n c : Nat} {lb : List UInt8} {s : St} {w w' : World} (h : MAt g N a n c lb s w) (hb : Below w.heap.size w w') : MAt g N a n c lb s w' := by
  obtain ⟨h1, h2, h3, h4, h5, h6, h7, h8, p, h9, h10, h11⟩ := h
  exact ⟨h1, Nat.lt_of_lt_of_le h2 hb.size, fun j => (hb.frozen (p := ⟨g, j, none⟩) h2).trans (h3 j), (hb.cell (p := ⟨g, 0, none⟩) h2).trans h4, (hb.cell (p := ⟨g, 2, none⟩) h2).trans h5, h6.on hb, h7, h8, p, h9, h10, (hb.cell (p := ⟨g, 1, none⟩) h2).trans h11⟩
theorem MAt.aft {g g1 N : Nat} {a : Option Addr} {n c : Nat} {lb : List UInt8} {s : St} {w w' : World} (h : MAt g N a n c lb s w) (hb : Aft g1 w.heap.size w w') (hn : g ≠ g1) (hN : N ≤ g1) : MAt g N a n c lb s w' := by
  obtain ⟨h1, h2, h3, h4, h5, h6, h7, h8, p, h9, h10, h11⟩ := h
  exact ⟨h1, Nat.lt_of_lt_of_le h2 hb.size, fun j => (hb.frozen (p := ⟨g, j, none⟩) h2 h2 hn).trans (h3 j), (hb.cell (p := ⟨g, 0, none⟩) h2 h2 hn).trans h4, (hb.cell (p := ⟨g, 2, none⟩) h2 h2 hn).trans h5,
    h6.aft hb (fun ad _ _ e he => by have := h8 ad (by simp at e; exact e.1) he; omega), h7, h8, p, h9, h10, (hb.cell (p := ⟨g, 1, none⟩) h2 h2 hn).trans h11⟩
theorem RP.aft {p : Value} {g g2 B : Nat} {s : St} {w w' : World} (h : RP p g B s w) (hb : Aft g2 w.heap.size w w') (hn : B ≤ g2) : RP p g B s w' := by
  rcases h with h | ⟨h, k⟩
  · exact .inl h
  · exact .inr ⟨h, k.on (hb.below hn k.2.1 k.2.1)⟩

theorem mset {w : World} {g i : Nat} {a : Option Addr} {n c : Nat} {lb : List UInt8} (u : Value) (h6 : Bs w (.slice a n c) lb) (h8 : ∀ ad, a = some ad → lb ≠ [] → ad.block ≠ g) : Bs (w.setCell ⟨g, i, none⟩ u) (.slice a n c) lb := by
  rcases h6 with h | ⟨ad, cap, h, hc⟩
  · exact .inl h
  · cases h
    refine .inr ⟨ad, c, rfl, fun j v hv => ?_⟩
    have hne := h8 ad rfl (fun e => by subst e; simp [vals] at hv)
    rw [World.cell?_setCell_other _ _ _ _ (fun e => hne (by have := congrArg Addr.block e; rw [ad_block] at this; exact this.symm))]
    exact hc j v hv

theorem MAt.setErr {g N : Nat} {a : Option Addr} {n c : Nat} {lb l : List UInt8} {e : Int} {w : World} (h : MAt g N a n c lb (l, e) w) (x : Int) : MAt g N a n c lb (l, x) (w.setCell ⟨g, 2, none⟩ (.int .i64 x)) := by
  obtain ⟨h1, h2, h3, h4, h5, h6, h7, h8, p, h9, h10, h11⟩ := h
  exact ⟨h1, by simpa using h2, fun j => by rw [World.frozen?_setCell]; exact h3 j, by rw [cset h5, if_neg (by omega)]; exact h4, by rw [cset h5, if_pos rfl], mset _ h6 (fun ad e he => by have := h8 ad e he; omega), h7, h8, p, h9, h10, by rw [cset h5, if_neg (by omega)]; exact h11⟩
theorem MAt.setAt {g N : Nat} {a : Option Addr} {n c : Nat} {lb : List UInt8} {p q : Nat} {w : World} (h : MAt g N a n c lb (lb.drop p, 0) w) (hq : q ≤ lb.length) : MAt g N a n c lb (lb.drop q, 0) (w.setCell ⟨g, 1, none⟩ (.int .i64 (q : Nat))) := by
  obtain ⟨h1, h2, h3, h4, h5, h6, h7, h8, p', h9, h10, h11⟩ := h
  exact ⟨h1, by simpa using h2, fun j => by rw [World.frozen?_setCell]; exact h3 j, by rw [cset h11, if_neg (by omega)]; exact h4, by rw [cset h11, if_neg (by omega)]; exact h5, mset _ h6 (fun ad e he => by have := h8 ad e he; omega), h7, h8, q, hq, rfl, by rw [cset h11, if_pos rfl]⟩

theorem raw_err (g N : Nat) (a : Option Addr) (n c : Nat) (lb : List UInt8) (s : St) (k : Nat) (w : World) (h : MAt g N a n c lb s w) (he : s.2 ≠ 0) :
    Calls Try.prog 75 #[.pointer (some ⟨g, 0, none⟩), .int .i64 k] w fun e w' => e = .returned (.slice none 0 0) ∧ w' = w := by
  obtain ⟨h1, h2, h3, h4, h5, h6, h7, h8, p, h9, h10, h11⟩ := h
  have he' : (s.2 == 0) = false := by simpa using he
  clear he h6 h10 h8
  go_enter Try.func75, Try.ntmps75
  go_wp2
  go_ret
  exact ⟨rfl, rfl⟩

theorem raw_short (g N : Nat) (a : Option Addr) (n c : Nat) (lb l : List UInt8) (k : Nat) (hk : k ≤ 9223372036854775807) (w : World) (h : MAt g N a n c lb (l, 0) w) (hs : l.length < k) :
    Calls Try.prog 75 #[.pointer (some ⟨g, 0, none⟩), .int .i64 k] w fun e w' => e = .returned (.slice none 0 0) ∧ MAt g N a n c lb (l, 9) w' ∧ Aft g w.heap.size w w' := by
  have HE := Lib.hid (fun nq : Nat => (h.on (w' := w.drewN nq) (below_drewN (Below.refl _ _) nq)).setErr 9)
  obtain ⟨h1, h2, h3, h4, h5, h6, h7, h8, p, h9, h10, h11⟩ := h
  have hf := h3 2
  have hn := bs_len h6
  have hs' : ((n : Int) - (p : Int)) < (k : Int) := by
    have : l = lb.drop p := h10
    rw [this, List.length_drop] at hs
    omega
  have hpn : p ≤ n := by omega
  have HA := Lib.hid (fun nq : Nat => (Aft.of (g := g) (base := w.heap.size) (below_drewN (Below.refl w.heap.size w) nq)).setCell 2 (.int .i64 9))
  clear h6 h10 h8 hn h9 hs
  go_enter Try.func75, Try.ntmps75
  go_wp2
  go_quiet (fail)
  go_wp2
  go_ret
  exact ⟨rfl, HE.out _, HA.out _⟩

theorem own_setCell_far {w : World} {base : Nat} {v : Value} {n : Nat} {xs : List Value} (h : w.ownsRow base 5 1 v n xs) {b : Nat} (hb : b < base) (i : Nat) (u : Value) : (w.setCell ⟨b, i, none⟩ u).ownsRow base 5 1 v n xs :=
  own_heap h fun q hq => Below.heap_setCell _ _ _ _ (by have := (h.lt q hq).1; show q ≠ b; omega)

theorem drop_take_snoc (l : List UInt8) (k : Nat) (h : k < l.length) : l.take (k + 1) = l.take k ++ [l[k]] := List.take_succ_eq_append_getElem h

set_option maxHeartbeats 4000000 in
set_option maxRecDepth 100000 in
theorem raw_ok (g N : Nat) (a : Option Addr) (n c : Nat) (lb l : List UInt8) (k : Nat) (hk : k ≤ 1099511627776) (w : World) (h : MAt g N a n c lb (l, 0) w) (hs : k ≤ l.length) :
    Calls Try.prog 75 #[.pointer (some ⟨g, 0, none⟩), .int .i64 k] w fun e w' => (∃ v, e = .returned v ∧ w'.ownsRow w.heap.size 5 1 v k (vals (l.take k))) ∧ MAt g N a n c lb (l.drop k, 0) w' ∧ Aft g w.heap.size w w' := by
  obtain ⟨i0, hi, hz0, hz1, hz2⟩ := info_parts infoByte
  have HM := Lib.hid h
  obtain ⟨h1, h2, h3, h4, h5, h6, h7, h8, p, h9, h10, h11⟩ := h
  have hf := h3 1
  have hn := bs_len h6
  have hl : l = lb.drop p := h10
  have hll : l.length = lb.length - p := by rw [hl, List.length_drop]
  have hs' : ¬ ((n : Int) - (p : Int)) < (k : Int) := by omega
  have hpk : p + k ≤ n := by omega
  have HB := Lib.hid h6
  have HL := Lib.hid hl
  have HS := Lib.hid hs
  have HN := Lib.hid hn
  have H8 := Lib.hid h8
  clear h6 h10 h8 hn h9 hs hl hll
  go_enter Try.func75, Try.ntmps75
  go_wp2
  go_quiet (fail)
  have hb0 : Below w.heap.size w (w.drewN nq) := below_drewN (Below.refl _ _) nq
  go_wp2_with fail
  go_loopw [5, 6] (fun v i wr => ∃ j : Nat, j ≤ k ∧ i = .int .i64 j ∧ Hid (wr.ownsRow w.heap.size 5 1 v j (vals (l.take j))) ∧ Below w.heap.size w wr) (fun _ i _ => k - (intOf i).toNat)
  case atStart => exact ⟨0, Nat.zero_le _, rfl, Lib.hid (World.ownsRow_nil _ _ _ _), hb0⟩
  case round =>
    obtain ⟨j, hj, rfl, HI, hbk⟩ := hrel
    have hsz := hbk.size
    by_cases hlt : j < k
    · have hlt' : (j : Int) < k := by omega
      have hjl : j < l.length := by have := HS.out; omega
      obtain ⟨b, hb⟩ : ∃ b, b = l[j] := ⟨_, rfl⟩
      have hbl : lb[p + j]? = some b := by rw [hb]; have h := HL.out; subst h; simp
      obtain ⟨ad, rfl, hcell⟩ : ∃ ad, a = some ad ∧ w.cell? (ad.add (p + j)) = some (.int .u8 (b.toNat : Int)) := by
        rcases HB.out with ⟨hv, h0⟩ | ⟨ad, cap, hv, hc⟩
        · rw [h0] at hbl; simp at hbl
        · cases hv; exact ⟨ad, rfl, hc (p + j) _ (by simp [vals, hbl])⟩
      have c0 : wr.cell? ⟨g, 0, none⟩ = some (.slice (some ad) n c) := (hbk.cell (p := ⟨g, 0, none⟩) h2).trans h4
      have c1 : wr.cell? ⟨g, 1, none⟩ = some (.int .i64 (p : Nat)) := (hbk.cell (p := ⟨g, 1, none⟩) h2).trans h11
      have cb : wr.cell? (ad.add (p + j)) = some (.int .u8 (b.toNat : Int)) := (hbk.cell (World.block_lt_of_cell? w _ hcell)).trans hcell
      have hx1 : (p : Int) + j < n := by omega
      have hx2 : (p : Int) + j ≤ 9223372036854775807 := by omega
      have hx0 : 0 ≤ (p : Int) + j := by omega
      have hwp : IntKind.i64.wrap ((p : Int) + j) = (p : Int) + j := by rw [IntKind.wrap_i64]; omega
      have hxt : ((p : Int) + j).toNat = p + j := by omega
      have HAD := Lib.hid (show ad.block < N from H8.out ad rfl (fun e => by rw [e] at hbl; simp at hbl))
      have HBB := Lib.hid (show l.take (j + 1) = l.take j ++ [b] by rw [drop_take_snoc l j hjl, hb])
      clear hb hbl hcell h4 h11 h5
      go_upto_region 10 with fail
      refine wp_region_held_drew (S := fun w' => w'.cell? ⟨g, 0, none⟩ = some (.slice (some ad) n c) ∧ w'.cell? ⟨g, 1, none⟩ = some (.int .i64 (p : Nat)) ∧ w'.cell? (ad.add (p + j)) = some (.int .u8 (b.toNat : Int))) (by kernel_rfl) ⟨c0, c1, cb⟩ (fun hS0 => ?_)
      refine wpAnyH_take (i := 0) (v := ?_) rfl (by kernel_rfl) (by kernel_rfl) (by kernel_rfl) (fun _ _ _ h => h) (Or.inl ⟨by kernel_rfl, by (intro wz hSz; obtain ⟨z0, z1, z2⟩ := hSz; go_simp; try with_reducible rfl)⟩) hS0 ?_
      go_simp
      refine wpAnyH_take (i := 1) (v := ?_) rfl (by kernel_rfl) (by kernel_rfl) (by kernel_rfl) (fun _ _ _ h => h) (Or.inl ⟨by kernel_rfl, by (intro wz hSz; obtain ⟨z0, z1, z2⟩ := hSz; go_simp; try with_reducible rfl)⟩) hS0 ?_
      go_simp
      refine wpAnyH_take (i := 2) (v := ?_) rfl (by kernel_rfl) (by kernel_rfl) (by kernel_rfl) (fun _ _ _ h => h) (Or.inl ⟨by kernel_rfl, by (intro wz hSz; obtain ⟨z0, z1, z2⟩ := hSz; go_simp; try with_reducible rfl)⟩) hS0 ?_
      go_simp
      refine wpAnyH_take (i := 3) (v := ?_) rfl (by kernel_rfl) (by kernel_rfl) (by kernel_rfl) (fun _ _ _ h => h) (Or.inl ⟨by kernel_rfl, by (intro wz hSz; obtain ⟨z0, z1, z2⟩ := hSz; go_simp; try with_reducible rfl)⟩) hS0 ?_
      go_simp
      refine wpAnyH_take (i := 4) (v := ?_) rfl (by kernel_rfl) (by kernel_rfl) (by kernel_rfl) (fun _ _ _ h => h) (Or.inl ⟨by kernel_rfl, by (intro wz hSz; obtain ⟨z0, z1, z2⟩ := hSz; go_simp; try with_reducible rfl)⟩) hS0 ?_
      go_simp
      refine wpAnyH_take (i := 5) (v := ?_) rfl (by kernel_rfl) (by kernel_rfl) (by kernel_rfl) (fun _ _ _ h => h) (Or.inl ⟨by kernel_rfl, by (intro wz hSz; obtain ⟨z0, z1, z2⟩ := hSz; go_simp; try with_reducible rfl)⟩) hS0 ?_
      go_simp
      refine wpAnyH_take (i := 6) (v := ?_) rfl (by kernel_rfl) (by kernel_rfl) (by kernel_rfl) (fun _ _ _ h => h) (Or.inl ⟨by kernel_rfl, by (intro wz hSz; obtain ⟨z0, z1, z2⟩ := hSz; go_simp; try with_reducible rfl)⟩) hS0 ?_
      go_simp
      refine wpAnyH_take (i := 7) (v := ?_) rfl (by kernel_rfl) (by kernel_rfl) (by kernel_rfl) (fun _ _ _ h => h) (Or.inl ⟨by kernel_rfl, by (intro wz hSz; obtain ⟨z0, z1, z2⟩ := hSz; go_simp; try with_reducible rfl)⟩) hS0 ?_
      go_simp
      refine wpAnyH_take (i := 8) (v := ?_) rfl (by kernel_rfl) (by kernel_rfl) (by kernel_rfl) (fun _ _ _ h => h) (Or.inl ⟨by kernel_rfl, by (intro wz hSz; obtain ⟨z0, z1, z2⟩ := hSz; go_simp; try with_reducible rfl)⟩) hS0 ?_
      go_simp
      refine wpAnyH_take (i := 9) (v := ?_) rfl (by kernel_rfl) (by kernel_rfl) (by kernel_rfl) (fun _ _ _ h => h) (Or.inl ⟨by kernel_rfl, by (intro wz hSz; obtain ⟨z0, z1, z2⟩ := hSz; go_simp; try with_reducible rfl)⟩) hS0 ?_
      go_simp
      refine wpAnyH_take (i := 10) (v := ?_) rfl (by kernel_rfl) (by kernel_rfl) (by kernel_rfl) (fun _ _ _ h => h) (Or.inl ⟨by kernel_rfl, by (intro wz hSz; obtain ⟨z0, z1, z2⟩ := hSz; go_simp; try with_reducible rfl)⟩) hS0 ?_
      go_simp
      refine wpAnyH_take (i := 11) (v := ?_) rfl (by kernel_rfl) (by kernel_rfl) (by kernel_rfl) (fun _ _ _ h => h) (Or.inl ⟨by kernel_rfl, by (intro wz hSz; obtain ⟨z0, z1, z2⟩ := hSz; go_simp; try with_reducible rfl)⟩) hS0 ?_
      go_simp
      refine wpAnyH_take (i := 12) (v := ?_) rfl (by kernel_rfl) (by kernel_rfl) (by kernel_rfl) (fun _ _ _ h => h) (Or.inl ⟨by kernel_rfl, by (intro wz hSz; obtain ⟨z0, z1, z2⟩ := hSz; go_simp; try with_reducible rfl)⟩) hS0 ?_
      go_simp
      refine wpAnyH_ready (rs := [13]) (by kernel_rfl) (by simp) ?_
      refine AllReadyH.cons rfl (fun K hK => ?_) AllReadyH.nil
      go_simp
      have hS1 : (wr.alloc (.cells #[.int .u8 (b.toNat : Int)] 5)).drew.cell? ⟨g, 0, none⟩ = some (.slice (some ad) n c) ∧ (wr.alloc (.cells #[.int .u8 (b.toNat : Int)] 5)).drew.cell? ⟨g, 1, none⟩ = some (.int .i64 (p : Nat)) ∧ (wr.alloc (.cells #[.int .u8 (b.toNat : Int)] 5)).drew.cell? (ad.add (p + j)) = some (.int .u8 (b.toNat : Int)) := ⟨old1 _ c0, old1 _ c1, old1 _ cb⟩
      refine hK.out _ _ hS1 (fun _ => ?_)
      clear hK K
      refine wpAnyH_ready (rs := [14]) (by kernel_rfl) (by simp) ?_
      refine AllReadyH.cons rfl (fun K hK => ?_) AllReadyH.nil
      refine step_append_lies _ rfl (.tmp 32) (.tmp 45) 45 rfl w.heap.size 5 i0 (.int .u8 0) 1 1 Try.underlying45 hi hz0 hz1 hz2 rfl (by decide) _ _ _ rfl (HI.out.alloc _).drew ⟨wr.heap.size, 0, none⟩ 1 1 (vals [b]) rfl rfl (vals_one1 _ b rfl wr wr.heap.size rfl) (vals_one _) (by omega) ?d3 ?d4 ?d5 _ rfl ?_
      case d3 => unfold maxLen; omega
      case d4 => omega
      case d5 => simp; omega
      intro q2 cap2 w2 hown2 hgrow2 hat2 hlt2
      have hrow : ∀ r, u5.ownBlock = some r → w.heap.size ≤ r := fun r hr => (HI.out.lt r hr).1
      have hadb := HAD.out
      have hS2 : w2.cell? ⟨g, 0, none⟩ = some (.slice (some ad) n c) ∧ w2.cell? ⟨g, 1, none⟩ = some (.int .i64 (p : Nat)) ∧ w2.cell? (ad.add (p + j)) = some (.int .u8 (b.toNat : Int)) := ⟨hgrow2.cell hS1.1 (fun e => by have := hrow _ e.symm; simp at this; omega), hgrow2.cell hS1.2.1 (fun e => by have := hrow _ e.symm; simp at this; omega), hgrow2.cell hS1.2.2 (fun e => by have := hrow _ e.symm; rw [ad_block] at this; omega)⟩
      refine hK.out _ _ hS2 (fun _ => ?_)
      clear hK K
      have hb2 : Below w.heap.size w w2 := ((hbk.alloc hsz _).drew).grown hgrow2 (by simp; omega) hrow
      have HI2 := Lib.hid (show w2.ownsRow w.heap.size 5 1 (.slice (some ⟨q2, 0, none⟩) (j + 1) cap2) (j + 1) (vals (l.take (j + 1))) by rw [HBB.out, vals_append]; exact hown2)
      clear hown2 hgrow2 hat2 hrow hS1
      refine wpAnyH_take (i := 15) (v := ?_) rfl (by kernel_rfl) (by kernel_rfl) (by kernel_rfl) (fun _ _ _ h => h) (Or.inl ⟨by kernel_rfl, by (intro wz hSz; go_simp; try with_reducible rfl)⟩) hS2 ?_
      go_simp
      refine wpAnyH_done (by kernel_rfl) ?_ _
      go_wp2_with fail
      go_roundw
      case rel => exact ⟨j + 1, by omega, by go_num, HI2, hb2⟩
      case measure => simp [intOf]; omega
    · obtain rfl : j = k := by omega
      have HF := Lib.hid (show MAt g N a n c lb (l.drop j, 0) (wr.setCell ⟨g, 1, none⟩ (.int .i64 (p + j : Nat))) from by
        have h := (HM.out.on hbk)
        have hl := HL.out
        subst hl
        rw [List.drop_drop]
        exact h.setAt (by have := HN.out; omega))
      have hf1 : wr.frozen? ⟨g, 1, none⟩ = false := (hbk.frozen (p := ⟨g, 1, none⟩) h2).trans hf
      have c1 : wr.cell? ⟨g, 1, none⟩ = some (.int .i64 (p : Nat)) := (hbk.cell (p := ⟨g, 1, none⟩) h2).trans h11
      have hA := Lib.hid ((Aft.of (g := g) (base := w.heap.size) hbk).setCell 1 (.int .i64 (p + j : Nat)))
      have HO := Lib.hid (own_setCell_far (w := wr) HI.out (b := g) (by omega) 1 (.int .i64 (p + j : Nat)))
      have hcast : ((p + j : Nat) : Int) = (p : Int) + j := by omega
      rw [hcast] at HF hA HO
      obtain ⟨a9, c9, hv9⟩ := own_form HI.out
      subst hv9
      clear h4 h5 h11 hcast
      go_wp2_with fail
      go_ret
      exact ⟨⟨_, rfl, HO.out⟩, HF.out, hA.out⟩
end Go.Proofs.Ytgkfoiekminfmaa.Re
