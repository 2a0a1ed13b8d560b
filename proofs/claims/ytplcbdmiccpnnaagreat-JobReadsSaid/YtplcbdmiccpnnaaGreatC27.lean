/- Jobs: things of numbers, one behind the other, read off a reader, by the program. -/
import Derived.Test.YtplcbdmiccpnnaaGreatC26
namespace Go.Proofs.YtplcbdmiccpnnaaGreat.Jb
open Go.RowKit Go.Proofs.YtplcbdmiccpnnaaGreat Go.Proofs.YtplcbdmiccpnnaaGreat.Rp Go.Proofs.YtplcbdmiccpnnaaGreat.Re Go.Proofs.YtplcbdmiccpnnaaGreat.Au
set_option linter.unusedVariables false
set_option linter.unusedSimpArgs false

/-- things one behind the other: the state behind so many, and their numbers -/
def itS (e : St → St) (s : St) : Nat → St
  | 0 => s
  | k + 1 => e (itS e s k)

def itV (e : St → St) (v : St → Nat → Int) (c : Nat) (s : St) (j : Nat) : Int := v (itS e s (j / c)) (j % c)

def flatc (c : Nat) (L : Nat → Int) (k : Nat) : List Value := (List.range (k * c)).map fun j => .int .i64 (L j)

theorem flatc_step (c : Nat) (L : Nat → Int) (k : Nat) : flatc c L (k + 1) = flatc c L k ++ (List.range c).map fun i => .int .i64 (L (k * c + i)) := by
  unfold flatc
  rw [Nat.succ_mul, List.range_add, List.map_append, List.map_map]
  rfl

theorem flatc_at (c : Nat) (L : Nat → Int) (k j : Nat) (h : j < k * c) : (flatc c L k)[j]? = some (.int .i64 (L j)) := by
  simp [flatc, h]

theorem itV_at (e : St → St) (v : St → Nat → Int) (c : Nat) (s : St) (k i : Nat) (h : i < c) : itV e v c s (k * c + i) = v (itS e s k) i := by
  unfold itV
  rw [Nat.mul_comm k c, Nat.mul_add_div (by omega), Nat.div_eq_of_lt h, Nat.add_zero, Nat.mul_add_mod, Nat.mod_eq_of_lt h]

/-- a slice that was read: none, or it begins a block that is new -/
def LP (c : Nat) (e : TypeId) (base : Nat) (w : World) (a : Option Addr) (n : Nat) (L : Nat → Int) : Prop :=
  n = 0 ∨ ∃ b, a = some ⟨b, 0, none⟩ ∧ base ≤ b ∧ (∃ cs fr, w.heap[b]? = some (.cells cs e fr)) ∧ ∀ j, j < n * c → w.cell? ⟨b, j, none⟩ = some (.int .i64 (L j))

def LA (c : Nat) (e : TypeId) (base : Nat) (w : World) (v : Value) (n : Nat) (L : Nat → Int) : Prop :=
  ∃ a cap, v = .slice a n cap ∧ LP c e base w a n L

theorem LP.heap {c base : Nat} {e : TypeId} {w w' : World} {a : Option Addr} {n : Nat} {L : Nat → Int} (h : LP c e base w a n L) (hk : ∀ k cs fr, base ≤ k → w.heap[k]? = some (.cells cs e fr) → w'.heap[k]? = w.heap[k]?) : LP c e base w' a n L := by
  rcases h with h | ⟨b, rfl, h1, ⟨cs, fr, h2⟩, h3⟩
  · exact .inl h
  · have hb := hk b cs fr h1 h2
    exact .inr ⟨b, rfl, h1, ⟨cs, fr, hb.trans h2⟩, fun j hj => (show w'.cell? ⟨b, j, none⟩ = w.cell? ⟨b, j, none⟩ from World.cell?_of_block (w := w) hb).trans (h3 j hj)⟩

theorem LP.aft {c base g : Nat} {e : TypeId} {w w' : World} {a : Option Addr} {n : Nat} {L : Nat → Int} (h : LP c e base w a n L) (ha : Aft g w.heap.size w w') (hg : g < base) : LP c e base w' a n L :=
  h.heap fun k cs fr h1 h2 => ha.block k (lt_of_heap h2) (lt_of_heap h2) (by omega)

theorem LP.low {c base base' : Nat} {e : TypeId} {w : World} {a : Option Addr} {n : Nat} {L : Nat → Int} (h : LP c e base w a n L) (hb : base' ≤ base) : LP c e base' w a n L := by
  rcases h with h | ⟨b, h0, h1, h2⟩
  · exact .inl h
  · exact .inr ⟨b, h0, Nat.le_trans hb h1, h2⟩

theorem la_own {c base : Nat} {w : World} {e : TypeId} {v : Value} {n : Nat} {L : Nat → Int} (h : w.ownsRow base e c v n (flatc c L n)) : LA c e base w v n L := by
  have h' := h
  rcases h.2 with ⟨hv, hn⟩ | ⟨g, cap, cur, hv, hb, h2, hle, -, -, -⟩
  · subst hn; exact ⟨none, 0, hv, .inl rfl⟩
  · refine ⟨some ⟨g, 0, none⟩, cap, hv, .inr ⟨g, rfl, (h.lt g (by rw [hv]; rfl)).1, ⟨_, _, h2⟩, fun j hj => ?_⟩⟩
    rw [hv] at h'
    exact (h'.cellAt j hj).trans (flatc_at c L n j hj)

theorem own_aft {base g c : Nat} {e : TypeId} {w w' : World} {v : Value} {n : Nat} {xs : List Value} (h : w.ownsRow base e c v n xs) (ha : Aft g w.heap.size w w') (hg : g < base) : w'.ownsRow base e c v n xs := by
  refine ⟨h.1, ?_⟩
  have hl := fun q hq => h.lt q hq
  rcases h.2 with hn | ⟨q, cap, cur, rfl, h1, h2, h3⟩
  · exact .inl hn
  · have := hl q rfl
    exact .inr ⟨q, cap, cur, rfl, h1, (ha.block q this.2 this.2 (by omega)).trans h2, h3⟩

theorem aft_grown {base g c b0 : Nat} {e : TypeId} {a w w' : World} {v : Value} {n : Nat} {xs : List Value} (h : Aft g b0 a w) (ho : w.ownsRow base e c v n xs) (hg : w.grownBy w' v.ownBlock) (hb : a.heap.size ≤ base ∧ b0 ≤ base) : Aft g b0 a w' := by
  refine ⟨hg.os.trans h.os, hg.tape.trans h.tape, hg.output.trans h.output, Nat.le_trans h.size hg.size, fun k h1 h2 h3 => ?_, fun k cs t fr h1 h2 h3 => ?_⟩
  · exact (hg.block k (Nat.lt_of_lt_of_le h2 h.size) fun e => by have := ho.lt k e.symm; omega).trans (h.block k h1 h2 h3)
  · have hk := lt_of_heap h3
    exact (hg.block k (Nat.lt_of_lt_of_le hk h.size) fun e => by have := ho.lt k e.symm; omega).trans (h.other k cs t fr h1 h2 h3)

theorem rp_grown {p : Value} {g B base c : Nat} {e : TypeId} {s : St} {w w' : World} {v : Value} {n : Nat} {xs : List Value} (h : RP p g B s w) (ho : w.ownsRow base e c v n xs) (hg : w.grownBy w' v.ownBlock) (hb : B ≤ base ∧ B ≤ w.heap.size) : RP p g B s w' :=
  h.on ⟨hg.os, hg.tape, hg.output, hg.size, fun k hk => hg.block k (by omega) fun e => by have := ho.lt k e.symm; omega⟩

/-- what is read of paint, and the state behind it -/
def paintV (s : St) (j : Nat) : Int := [(((numS (s) 1).1 : Int)), ((threeS ((numS (s) 1).2)).1 0), ((threeS ((numS (s) 1).2)).1 1), ((threeS ((numS (s) 1).2)).1 2), (fixS ((threeS ((numS (s) 1).2)).2)).1].getD j 0
def paintE (s : St) : St := (fixS ((threeS ((numS (s) 1).2)).2)).2

theorem jpaintR (g : Nat) {B : Nat} (s : St) (w : World) (hw : RP (.pointer (some ⟨g, 0, none⟩)) g B s w) (hg : g < w.heap.size) (hB : B ≤ w.heap.size) : Calls Tryz.prog 30 #[.agg #[.pointer (some ⟨g, 0, none⟩)]] w fun e' w' => e' = .returned (.agg #[.int .i64 (paintV s 0), .int .i64 (paintV s 1), .int .i64 (paintV s 2), .int .i64 (paintV s 3), .int .i64 (paintV s 4)]) ∧ RP (.pointer (some ⟨g, 0, none⟩)) g B (paintE s) w' ∧ Aft g w.heap.size w w' := jpaint g s w hw hg hB

theorem info_paint : (Tryz.prog.info? 91).map (fun i => (i.zero, i.size, i.bytes)) = some (some (.agg #[.int .i64 0, .int .i64 0, .int .i64 0, .int .i64 0, .int .i64 0]), 5, 40) := by kernel_rfl

theorem step_paint (s : St) (k : Nat) : flatc 5 (itV paintE paintV 5 s) (k + 1) = flatc 5 (itV paintE paintV 5 s) k ++ [.int .i64 (paintV (itS paintE s k) 0), .int .i64 (paintV (itS paintE s k) 1), .int .i64 (paintV (itS paintE s k) 2), .int .i64 (paintV (itS paintE s k) 3), .int .i64 (paintV (itS paintE s k) 4)] := by
  rw [flatc_step]
  congr 1
  simp only [show List.range 5 = [0, 1, 2, 3, 4] from rfl, List.map_cons, List.map_nil]
  rw [itV_at paintE paintV 5 s k 0 (by omega), itV_at paintE paintV 5 s k 1 (by omega), itV_at paintE paintV 5 s k 2 (by omega), itV_at paintE paintV 5 s k 3 (by omega), itV_at paintE paintV 5 s k 4 (by omega)]

set_option maxHeartbeats 4000000 in
set_option maxRecDepth 100000 in
theorem jlist_paint (g : Nat) {B : Nat} (s : St) (n : Nat) (hn : n ≤ 100000) (w : World) (hw : RP (.pointer (some ⟨g, 0, none⟩)) g B s w) (hg : g < w.heap.size) (hB : B ≤ w.heap.size) :
    Calls Tryz.prog 29 #[.int .i64 (n : Int), .func (.func 30) #[.agg #[.pointer (some ⟨g, 0, none⟩)]] #[]] w fun e' w' => (∃ v, e' = .returned v ∧ LA 5 91 w.heap.size w' v n (itV paintE paintV 5 s)) ∧ RP (.pointer (some ⟨g, 0, none⟩)) g B (itS paintE s n) w' ∧ Aft g w.heap.size w w' := by
  obtain ⟨i0, hi, hz0, hz1, hz2⟩ := info_parts info_paint
  have HPw := Lib.hid hw
  clear hw
  go_enter Tryz.func29, Tryz.ntmps29
  go_wp2_with fail
  go_loopw [5, 7] (fun s5 s7 wr => ∃ k : Nat, k ≤ n ∧ s7 = .int .i64 k ∧ wr.ownsRow w.heap.size 91 5 s5 k (flatc 5 (itV paintE paintV 5 s) k) ∧ Hid (RP (.pointer (some ⟨g, 0, none⟩)) g B (itS paintE s k) wr) ∧ Hid (Aft g w.heap.size w wr)) (fun _ s7 _ => n - (intOf s7).toNat)
  case atStart => exact ⟨0, by omega, rfl, by simpa [flatc] using World.ownsRow_nil _ _ _ _, HPw, Lib.hid (Aft.refl _ _ _)⟩
  case round =>
    obtain ⟨k, hk, rfl, hin, HP, HU⟩ := hrel
    obtain ⟨y0, rfl⟩ : ∃ y : World, y = wr := ⟨_, rfl⟩
    have hz := HU.out.size
    by_cases hlt : k < n
    · have hlt' : (k : Int) < n := by omega
      have HI := Lib.hid hin
      clear hin
      go_wp2_with fail
      refine (jpaintR g (itS paintE s k) _ HP.out (by omega) (by omega)).mono ?_
      rintro e y1 ⟨rfl, hp1, hb1⟩
      have HI1 := Lib.hid (own_aft HI.out hb1 hg)
      have HU1 := Lib.hid (HU.out.trans (hb1.mono HU.out.size))
      have HP1 := Lib.hid hp1
      have hsz := HU1.out.size
      clear HI HU HP hb1 hp1
      go_wp2_with (first | (at_builtin; refine wpList_append_own _ rfl _ _ 31 rfl w.heap.size 91 i0 (.agg #[.int .i64 0, .int .i64 0, .int .i64 0, .int .i64 0, .int .i64 0]) 5 40 Tryz.underlying31 hi hz0 hz1 hz2 rfl (by decide) _ _ _ rfl (HI1.out.alloc _) ⟨y1.heap.size, 0, none⟩ 1 1 [.int .i64 (paintV (itS paintE s k) 0), .int .i64 (paintV (itS paintE s k) 1), .int .i64 (paintV (itS paintE s k) 2), .int .i64 (paintV (itS paintE s k) 3), .int .i64 (paintV (itS paintE s k) 4)] rfl rfl ?c1 ?c2 ?c3 ?c4 ?c5 ?_))
      case c1 =>
        intro j u hj
        match j, hj with
        | 0, hj => simp at hj; subst hj; simp [Addr.add]
        | 1, hj => simp at hj; subst hj; simp [Addr.add]
        | 2, hj => simp at hj; subst hj; simp [Addr.add]
        | 3, hj => simp at hj; subst hj; simp [Addr.add]
        | 4, hj => simp at hj; subst hj; simp [Addr.add]
      case c2 => intro u hu; simp at hu; rcases hu with rfl | rfl | rfl | rfl | rfl <;> rfl
      case c3 => unfold maxLen; omega
      case c4 => omega
      case c5 => simp; omega
      intro v5 y2 hin2 hgrow _
      rw [← step_paint] at hin2
      have HU2 := Lib.hid (aft_grown (HU1.out.alloc _) (HI1.out.alloc _) hgrow (by omega))
      have HP2 := Lib.hid (rp_grown (HP1.out.new (Ve.below_n1 _ _)) (HI1.out.alloc _) hgrow (by constructor <;> first | omega | (simp; omega)))
      go_wp2_with fail
      go_roundw
      case rel => exact ⟨k + 1, by omega, by go_num, hin2, HP2, HU2⟩
      case measure => simp [intOf]; omega
    · obtain rfl : k = n := by omega
      go_wp2
      go_ret
      exact ⟨⟨_, rfl, la_own hin⟩, HP.out, HU.out⟩

/-- what is read of key, and the state behind it -/
def keyV (s : St) (j : Nat) : Int := [(fixS (s)).1, ((threeS ((fixS (s)).2)).1 0), ((threeS ((fixS (s)).2)).1 1), ((threeS ((fixS (s)).2)).1 2)].getD j 0
def keyE (s : St) : St := (threeS ((fixS (s)).2)).2

theorem jkeyR (g : Nat) {B : Nat} (s : St) (w : World) (hw : RP (.pointer (some ⟨g, 0, none⟩)) g B s w) (hg : g < w.heap.size) (hB : B ≤ w.heap.size) : Calls Tryz.prog 66 #[.agg #[.pointer (some ⟨g, 0, none⟩)]] w fun e' w' => e' = .returned (.agg #[.int .i64 (keyV s 0), .int .i64 (keyV s 1), .int .i64 (keyV s 2), .int .i64 (keyV s 3)]) ∧ RP (.pointer (some ⟨g, 0, none⟩)) g B (keyE s) w' ∧ Aft g w.heap.size w w' := jkey g s w hw hg hB

theorem info_key : (Tryz.prog.info? 137).map (fun i => (i.zero, i.size, i.bytes)) = some (some (.agg #[.int .i64 0, .int .i64 0, .int .i64 0, .int .i64 0]), 4, 32) := by kernel_rfl

theorem step_key (s : St) (k : Nat) : flatc 4 (itV keyE keyV 4 s) (k + 1) = flatc 4 (itV keyE keyV 4 s) k ++ [.int .i64 (keyV (itS keyE s k) 0), .int .i64 (keyV (itS keyE s k) 1), .int .i64 (keyV (itS keyE s k) 2), .int .i64 (keyV (itS keyE s k) 3)] := by
  rw [flatc_step]
  congr 1
  simp only [show List.range 4 = [0, 1, 2, 3] from rfl, List.map_cons, List.map_nil]
  rw [itV_at keyE keyV 4 s k 0 (by omega), itV_at keyE keyV 4 s k 1 (by omega), itV_at keyE keyV 4 s k 2 (by omega), itV_at keyE keyV 4 s k 3 (by omega)]

set_option maxHeartbeats 4000000 in
set_option maxRecDepth 100000 in
theorem jlist_key (g : Nat) {B : Nat} (s : St) (n : Nat) (hn : n ≤ 100000) (w : World) (hw : RP (.pointer (some ⟨g, 0, none⟩)) g B s w) (hg : g < w.heap.size) (hB : B ≤ w.heap.size) :
    Calls Tryz.prog 65 #[.int .i64 (n : Int), .func (.func 66) #[.agg #[.pointer (some ⟨g, 0, none⟩)]] #[]] w fun e' w' => (∃ v, e' = .returned v ∧ LA 4 137 w.heap.size w' v n (itV keyE keyV 4 s)) ∧ RP (.pointer (some ⟨g, 0, none⟩)) g B (itS keyE s n) w' ∧ Aft g w.heap.size w w' := by
  obtain ⟨i0, hi, hz0, hz1, hz2⟩ := info_parts info_key
  have HPw := Lib.hid hw
  clear hw
  go_enter Tryz.func65, Tryz.ntmps65
  go_wp2_with fail
  go_loopw [5, 7] (fun s5 s7 wr => ∃ k : Nat, k ≤ n ∧ s7 = .int .i64 k ∧ wr.ownsRow w.heap.size 137 4 s5 k (flatc 4 (itV keyE keyV 4 s) k) ∧ Hid (RP (.pointer (some ⟨g, 0, none⟩)) g B (itS keyE s k) wr) ∧ Hid (Aft g w.heap.size w wr)) (fun _ s7 _ => n - (intOf s7).toNat)
  case atStart => exact ⟨0, by omega, rfl, by simpa [flatc] using World.ownsRow_nil _ _ _ _, HPw, Lib.hid (Aft.refl _ _ _)⟩
  case round =>
    obtain ⟨k, hk, rfl, hin, HP, HU⟩ := hrel
    obtain ⟨y0, rfl⟩ : ∃ y : World, y = wr := ⟨_, rfl⟩
    have hz := HU.out.size
    by_cases hlt : k < n
    · have hlt' : (k : Int) < n := by omega
      have HI := Lib.hid hin
      clear hin
      go_wp2_with fail
      refine (jkeyR g (itS keyE s k) _ HP.out (by omega) (by omega)).mono ?_
      rintro e y1 ⟨rfl, hp1, hb1⟩
      have HI1 := Lib.hid (own_aft HI.out hb1 hg)
      have HU1 := Lib.hid (HU.out.trans (hb1.mono HU.out.size))
      have HP1 := Lib.hid hp1
      have hsz := HU1.out.size
      clear HI HU HP hb1 hp1
      go_wp2_with (first | (at_builtin; refine wpList_append_own _ rfl _ _ 92 rfl w.heap.size 137 i0 (.agg #[.int .i64 0, .int .i64 0, .int .i64 0, .int .i64 0]) 4 32 Tryz.underlying92 hi hz0 hz1 hz2 rfl (by decide) _ _ _ rfl (HI1.out.alloc _) ⟨y1.heap.size, 0, none⟩ 1 1 [.int .i64 (keyV (itS keyE s k) 0), .int .i64 (keyV (itS keyE s k) 1), .int .i64 (keyV (itS keyE s k) 2), .int .i64 (keyV (itS keyE s k) 3)] rfl rfl ?c1 ?c2 ?c3 ?c4 ?c5 ?_))
      case c1 =>
        intro j u hj
        match j, hj with
        | 0, hj => simp at hj; subst hj; simp [Addr.add]
        | 1, hj => simp at hj; subst hj; simp [Addr.add]
        | 2, hj => simp at hj; subst hj; simp [Addr.add]
        | 3, hj => simp at hj; subst hj; simp [Addr.add]
      case c2 => intro u hu; simp at hu; rcases hu with rfl | rfl | rfl | rfl <;> rfl
      case c3 => unfold maxLen; omega
      case c4 => omega
      case c5 => simp; omega
      intro v5 y2 hin2 hgrow _
      rw [← step_key] at hin2
      have HU2 := Lib.hid (aft_grown (HU1.out.alloc _) (HI1.out.alloc _) hgrow (by omega))
      have HP2 := Lib.hid (rp_grown (HP1.out.new (Ve.below_n1 _ _)) (HI1.out.alloc _) hgrow (by constructor <;> first | omega | (simp; omega)))
      go_wp2_with fail
      go_roundw
      case rel => exact ⟨k + 1, by omega, by go_num, hin2, HP2, HU2⟩
      case measure => simp [intOf]; omega
    · obtain rfl : k = n := by omega
      go_wp2
      go_ret
      exact ⟨⟨_, rfl, la_own hin⟩, HP.out, HU.out⟩

/-- what is read of joint, and the state behind it -/
def jointV (s : St) (j : Nat) : Int := [(small16 (numS (s) 2).1), (small16 (numS ((numS (s) 2).2) 2).1), (small16 (numS ((numS ((numS (s) 2).2) 2).2) 2).1), (fixS ((numS ((numS ((numS (s) 2).2) 2).2) 2).2)).1].getD j 0
def jointE (s : St) : St := (fixS ((numS ((numS ((numS (s) 2).2) 2).2) 2).2)).2

theorem jjointR (g : Nat) {B : Nat} (s : St) (w : World) (hw : RP (.pointer (some ⟨g, 0, none⟩)) g B s w) (hg : g < w.heap.size) (hB : B ≤ w.heap.size) : Calls Tryz.prog 34 #[.agg #[.pointer (some ⟨g, 0, none⟩)]] w fun e' w' => e' = .returned (.agg #[.int .i64 (jointV s 0), .int .i64 (jointV s 1), .int .i64 (jointV s 2), .int .i64 (jointV s 3)]) ∧ RP (.pointer (some ⟨g, 0, none⟩)) g B (jointE s) w' ∧ Aft g w.heap.size w w' := jjoint g s w hw hg hB

theorem info_joint : (Tryz.prog.info? 97).map (fun i => (i.zero, i.size, i.bytes)) = some (some (.agg #[.int .i64 0, .int .i64 0, .int .i64 0, .int .i64 0]), 4, 32) := by kernel_rfl

theorem step_joint (s : St) (k : Nat) : flatc 4 (itV jointE jointV 4 s) (k + 1) = flatc 4 (itV jointE jointV 4 s) k ++ [.int .i64 (jointV (itS jointE s k) 0), .int .i64 (jointV (itS jointE s k) 1), .int .i64 (jointV (itS jointE s k) 2), .int .i64 (jointV (itS jointE s k) 3)] := by
  rw [flatc_step]
  congr 1
  simp only [show List.range 4 = [0, 1, 2, 3] from rfl, List.map_cons, List.map_nil]
  rw [itV_at jointE jointV 4 s k 0 (by omega), itV_at jointE jointV 4 s k 1 (by omega), itV_at jointE jointV 4 s k 2 (by omega), itV_at jointE jointV 4 s k 3 (by omega)]

set_option maxHeartbeats 4000000 in
set_option maxRecDepth 100000 in
theorem jlist_joint (g : Nat) {B : Nat} (s : St) (n : Nat) (hn : n ≤ 100000) (w : World) (hw : RP (.pointer (some ⟨g, 0, none⟩)) g B s w) (hg : g < w.heap.size) (hB : B ≤ w.heap.size) :
    Calls Tryz.prog 33 #[.int .i64 (n : Int), .func (.func 34) #[.agg #[.pointer (some ⟨g, 0, none⟩)]] #[]] w fun e' w' => (∃ v, e' = .returned v ∧ LA 4 97 w.heap.size w' v n (itV jointE jointV 4 s)) ∧ RP (.pointer (some ⟨g, 0, none⟩)) g B (itS jointE s n) w' ∧ Aft g w.heap.size w w' := by
  obtain ⟨i0, hi, hz0, hz1, hz2⟩ := info_parts info_joint
  have HPw := Lib.hid hw
  clear hw
  go_enter Tryz.func33, Tryz.ntmps33
  go_wp2_with fail
  go_loopw [5, 7] (fun s5 s7 wr => ∃ k : Nat, k ≤ n ∧ s7 = .int .i64 k ∧ wr.ownsRow w.heap.size 97 4 s5 k (flatc 4 (itV jointE jointV 4 s) k) ∧ Hid (RP (.pointer (some ⟨g, 0, none⟩)) g B (itS jointE s k) wr) ∧ Hid (Aft g w.heap.size w wr)) (fun _ s7 _ => n - (intOf s7).toNat)
  case atStart => exact ⟨0, by omega, rfl, by simpa [flatc] using World.ownsRow_nil _ _ _ _, HPw, Lib.hid (Aft.refl _ _ _)⟩
  case round =>
    obtain ⟨k, hk, rfl, hin, HP, HU⟩ := hrel
    obtain ⟨y0, rfl⟩ : ∃ y : World, y = wr := ⟨_, rfl⟩
    have hz := HU.out.size
    by_cases hlt : k < n
    · have hlt' : (k : Int) < n := by omega
      have HI := Lib.hid hin
      clear hin
      go_wp2_with fail
      refine (jjointR g (itS jointE s k) _ HP.out (by omega) (by omega)).mono ?_
      rintro e y1 ⟨rfl, hp1, hb1⟩
      have HI1 := Lib.hid (own_aft HI.out hb1 hg)
      have HU1 := Lib.hid (HU.out.trans (hb1.mono HU.out.size))
      have HP1 := Lib.hid hp1
      have hsz := HU1.out.size
      clear HI HU HP hb1 hp1
      go_wp2_with (first | (at_builtin; refine wpList_append_own _ rfl _ _ 33 rfl w.heap.size 97 i0 (.agg #[.int .i64 0, .int .i64 0, .int .i64 0, .int .i64 0]) 4 32 Tryz.underlying33 hi hz0 hz1 hz2 rfl (by decide) _ _ _ rfl (HI1.out.alloc _) ⟨y1.heap.size, 0, none⟩ 1 1 [.int .i64 (jointV (itS jointE s k) 0), .int .i64 (jointV (itS jointE s k) 1), .int .i64 (jointV (itS jointE s k) 2), .int .i64 (jointV (itS jointE s k) 3)] rfl rfl ?c1 ?c2 ?c3 ?c4 ?c5 ?_))
      case c1 =>
        intro j u hj
        match j, hj with
        | 0, hj => simp at hj; subst hj; simp [Addr.add]
        | 1, hj => simp at hj; subst hj; simp [Addr.add]
        | 2, hj => simp at hj; subst hj; simp [Addr.add]
        | 3, hj => simp at hj; subst hj; simp [Addr.add]
      case c2 => intro u hu; simp at hu; rcases hu with rfl | rfl | rfl | rfl <;> rfl
      case c3 => unfold maxLen; omega
      case c4 => omega
      case c5 => simp; omega
      intro v5 y2 hin2 hgrow _
      rw [← step_joint] at hin2
      have HU2 := Lib.hid (aft_grown (HU1.out.alloc _) (HI1.out.alloc _) hgrow (by omega))
      have HP2 := Lib.hid (rp_grown (HP1.out.new (Ve.below_n1 _ _)) (HI1.out.alloc _) hgrow (by constructor <;> first | omega | (simp; omega)))
      go_wp2_with fail
      go_roundw
      case rel => exact ⟨k + 1, by omega, by go_num, hin2, HP2, HU2⟩
      case measure => simp [intOf]; omega
    · obtain rfl : k = n := by omega
      go_wp2
      go_ret
      exact ⟨⟨_, rfl, la_own hin⟩, HP.out, HU.out⟩

end Go.Proofs.YtplcbdmiccpnnaaGreat.Jb
