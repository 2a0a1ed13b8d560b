/- Scenes in memory: rows of numbers, rows of tracks, a scene's value and its box. -/
import Derived.Test.YtplcbdmiccpnnaaGreatC17
import Derived.Test.YtplcbdmiccpnnaaGreatC15
namespace Go.Proofs.YtplcbdmiccpnnaaGreat.Sc
open Go.RowKit Go.Proofs.YtplcbdmiccpnnaaGreat Go.Proofs.YtplcbdmiccpnnaaGreat.Wa Go.Proofs.YtplcbdmiccpnnaaGreat.Ve Go.Proofs.YtplcbdmiccpnnaaGreat.Tk
set_option linter.unusedVariables false

/-- a slice of things of so many numbers each -/
def Nums (c : Nat) (w : World) (a : Option Addr) (n : Nat) (L : Nat → Int) : Prop :=
  n * (c * 8) ≤ 140737488351232 ∧ (n = 0 ∨ ∃ b off, a = some ⟨b, off, none⟩ ∧ b < w.heap.size ∧ ∀ j, j < n * c → w.cell? ⟨b, off + j, none⟩ = some (.int .i64 (L j)))

theorem Nums.on {c : Nat} {w w' : World} {a : Option Addr} {n : Nat} {L : Nat → Int} (h : Nums c w a n L) (hb : Below w.heap.size w w') : Nums c w' a n L := by
  obtain ⟨h0, h | ⟨b, off, rfl, hlt, hc⟩⟩ := h
  · exact ⟨h0, .inl h⟩
  · exact ⟨h0, .inr ⟨b, off, rfl, Nat.lt_of_lt_of_le hlt hb.size, fun j hj => (hb.cell (p := ⟨b, off + j, none⟩) hlt).trans (hc j hj)⟩⟩

theorem Nums.congr {c : Nat} {w : World} {a : Option Addr} {n : Nat} {L M : Nat → Int} (h : Nums c w a n L) (he : ∀ j, j < n * c → L j = M j) : Nums c w a n M := by
  obtain ⟨h0, h | ⟨b, off, rfl, hlt, hc⟩⟩ := h
  · exact ⟨h0, .inl h⟩
  · exact ⟨h0, .inr ⟨b, off, rfl, hlt, fun j hj => by rw [hc j hj, he j hj]⟩⟩

/-- a slice of tracks -/
def Tracks (w : World) (a : Option Addr) (n : Nat) (way : Nat → Int) (kn : Nat → Nat) (K : Nat → Nat → Int) : Prop :=
  n * 32 ≤ 140737488351232 ∧ (n = 0 ∨ ∃ b off, a = some ⟨b, off, none⟩ ∧ b < w.heap.size ∧ ∀ i, i < n → ∃ ka kc, w.cell? ⟨b, off + i * 2, none⟩ = some (.int .i64 (way i)) ∧ w.cell? ⟨b, off + (i * 2 + 1), none⟩ = some (.slice ka (kn i) kc) ∧ KeysAt w ka (kn i) (K i))

theorem Tracks.on {w w' : World} {a : Option Addr} {n : Nat} {way : Nat → Int} {kn : Nat → Nat} {K : Nat → Nat → Int} (h : Tracks w a n way kn K) (hb : Below w.heap.size w w') : Tracks w' a n way kn K := by
  obtain ⟨h0, h | ⟨b, off, rfl, hlt, hc⟩⟩ := h
  · exact ⟨h0, .inl h⟩
  · refine ⟨h0, .inr ⟨b, off, rfl, Nat.lt_of_lt_of_le hlt hb.size, fun i hi => ?_⟩⟩
    obtain ⟨ka, kc, h1, h2, h3⟩ := hc i hi
    exact ⟨ka, kc, (hb.cell (p := ⟨b, off + i * 2, none⟩) hlt).trans h1, (hb.cell (p := ⟨b, off + (i * 2 + 1), none⟩) hlt).trans h2, h3.on hb⟩

/-- where a scene's lists stand -/
structure Pla where
  pa : Option Addr
  pc : Nat
  ta : Option Addr
  tc : Nat
  ja : Option Addr
  jc : Nat
  sa : Option Addr
  sc : Nat

abbrev HV (w h sm dp fr sh : Int) (sd : Nat) (r g b : Int) : Value := .agg #[.int .i64 w, .int .i64 h, .int .i64 sm, .int .i64 dp, .int .i64 fr, .int .i64 sh, .int .u64 sd, .int .i64 r, .int .i64 g, .int .i64 b]

abbrev HS (s : Scn) : Value := HV s.w s.h s.sm s.dp s.fr s.sh s.sd s.r s.g s.b

/-- a scene's cells -/
abbrev SC (s : Scn) (a : Pla) : Array Value := #[.int .i64 s.w, .int .i64 s.h, .int .i64 s.sm, .int .i64 s.dp, .int .i64 s.fr, .int .i64 s.sh, .int .u64 s.sd, .int .i64 s.r, .int .i64 s.g, .int .i64 s.b, .int .i64 s.ey, .int .i64 s.lk, .int .i64 s.wd, .slice a.pa s.np a.pc, .slice a.ta s.nt a.tc, .slice a.ja s.nj a.jc, .slice a.sa s.ns a.sc]

abbrev SV (s : Scn) (a : Pla) : Value := .agg (SC s a)

structure ScAt (w : World) (s : Scn) (a : Pla) : Prop where
  p : Nums 5 w a.pa s.np s.P
  t : Tracks w a.ta s.nt s.way s.kn s.K
  j : Nums 4 w a.ja s.nj s.J
  sh : Nums 13 w a.sa s.ns s.S
  sd : s.sd < 18446744073709551616

theorem ScAt.on {w w' : World} {s : Scn} {a : Pla} (h : ScAt w s a) (hb : Below w.heap.size w w') : ScAt w' s a := ⟨h.p.on hb, h.t.on hb, h.j.on hb, h.sh.on hb, h.sd⟩

/-- a block that holds a scene -/
def SBox (w : World) (q : Nat) (s : Scn) (a : Pla) : Prop := q < w.heap.size ∧
  w.cell? ⟨q, 0, none⟩ = some (.int .i64 s.w) ∧ w.cell? ⟨q, 1, none⟩ = some (.int .i64 s.h) ∧ w.cell? ⟨q, 2, none⟩ = some (.int .i64 s.sm) ∧ w.cell? ⟨q, 3, none⟩ = some (.int .i64 s.dp) ∧ w.cell? ⟨q, 4, none⟩ = some (.int .i64 s.fr) ∧ w.cell? ⟨q, 5, none⟩ = some (.int .i64 s.sh) ∧ w.cell? ⟨q, 6, none⟩ = some (.int .u64 s.sd) ∧ w.cell? ⟨q, 7, none⟩ = some (.int .i64 s.r) ∧ w.cell? ⟨q, 8, none⟩ = some (.int .i64 s.g) ∧ w.cell? ⟨q, 9, none⟩ = some (.int .i64 s.b) ∧ w.cell? ⟨q, 10, none⟩ = some (.int .i64 s.ey) ∧ w.cell? ⟨q, 11, none⟩ = some (.int .i64 s.lk) ∧ w.cell? ⟨q, 12, none⟩ = some (.int .i64 s.wd) ∧ w.cell? ⟨q, 13, none⟩ = some (.slice a.pa s.np a.pc) ∧ w.cell? ⟨q, 14, none⟩ = some (.slice a.ta s.nt a.tc) ∧ w.cell? ⟨q, 15, none⟩ = some (.slice a.ja s.nj a.jc) ∧ w.cell? ⟨q, 16, none⟩ = some (.slice a.sa s.ns a.sc)

theorem SBox.on {w w' : World} {q : Nat} {s : Scn} {a : Pla} (h : SBox w q s a) (hb : Below w.heap.size w w') : SBox w' q s a := by
  obtain ⟨h0, h⟩ := h
  have e : ∀ i, w'.cell? ⟨q, i, none⟩ = w.cell? ⟨q, i, none⟩ := fun i => hb.cell (p := ⟨q, i, none⟩) h0
  refine ⟨Nat.lt_of_lt_of_le h0 hb.size, ?_⟩
  rw [e, e, e, e, e, e, e, e, e, e, e, e, e, e, e, e, e]
  exact h

theorem SBox.new (w : World) (s : Scn) (a : Pla) (t : TypeId) : SBox (w.alloc (.cells (SC s a) t)) w.heap.size s a := by
  refine ⟨by simp, ?_⟩
  refine ⟨?_, ?_, ?_, ?_, ?_, ?_, ?_, ?_, ?_, ?_, ?_, ?_, ?_, ?_, ?_, ?_, ?_⟩ <;> simp [go_sem]

theorem SBox.range {w : World} {q : Nat} {s : Scn} {a : Pla} (h : SBox w q s a) : w.rangeAt q 0 (SC s a).toList := by
  obtain ⟨h0, h1, h2, h3, h4, h5, h6, h7, h8, h9, h10, h11, h12, h13, h14, h15, h16, h17⟩ := h
  intro j v hv
  match j, hv with
  | 0, hv => simp at hv; subst hv; exact h1
  | 1, hv => simp at hv; subst hv; exact h2
  | 2, hv => simp at hv; subst hv; exact h3
  | 3, hv => simp at hv; subst hv; exact h4
  | 4, hv => simp at hv; subst hv; exact h5
  | 5, hv => simp at hv; subst hv; exact h6
  | 6, hv => simp at hv; subst hv; exact h7
  | 7, hv => simp at hv; subst hv; exact h8
  | 8, hv => simp at hv; subst hv; exact h9
  | 9, hv => simp at hv; subst hv; exact h10
  | 10, hv => simp at hv; subst hv; exact h11
  | 11, hv => simp at hv; subst hv; exact h12
  | 12, hv => simp at hv; subst hv; exact h13
  | 13, hv => simp at hv; subst hv; exact h14
  | 14, hv => simp at hv; subst hv; exact h15
  | 15, hv => simp at hv; subst hv; exact h16
  | 16, hv => simp at hv; subst hv; exact h17
  | j + 17, hv => simp at hv

theorem eq_avec (x y z a b c : Int) (W : World) : (Op.equalIn 10000 101 (V3 x y z) (V3 a b c)).run Tryz.prog W = .ok (decide (x = a ∧ y = b ∧ z = c)) W := by
  rw [run_equalIn_struct W 9999 101 _ _ (by kernel_rfl) (by kernel_rfl)]
  simp only [Program.fieldsOf, Tryz.underlying101, Op.eqFields]
  by_cases h1 : x = a <;> by_cases h2 : y = b <;> by_cases h3 : z = c <;> simp [go_sem, h1, h2, h3]

theorem eq_rvec (x y z a b c : Int) (W : World) : (Op.equalIn 10000 70 (V3 x y z) (V3 a b c)).run Tryz.prog W = .ok (decide (x = a ∧ y = b ∧ z = c)) W := by
  obtain ⟨i0, hi, hz0, hz1, hz2⟩ := info_parts infoInt
  rw [run_equalIn_array W 9999 _ _ Tryz.underlying70 hi, cellsInt]
  simp only [show List.range 3 = [0, 1, 2] from rfl, Op.eqItems, Sem.run_bind]
  by_cases h1 : x = a <;> by_cases h2 : y = b <;> by_cases h3 : z = c <;> simp [go_sem, h1, h2, h3]

end Go.Proofs.YtplcbdmiccpnnaaGreat.Sc

/- What a fold over points gives, step by step; a row of points. -/
namespace Go.Proofs.YtplcbdmiccpnnaaGreat.Ve
open Go.RowKit Go.Proofs.YtplcbdmiccpnnaaGreat Go.Proofs.YtplcbdmiccpnnaaGreat.Wa

/-- what has come out behind so many steps -/
def foldN (f : Int → Int → Int) (a : Int) (l : Nat → Int) : Nat → Int
  | 0 => a
  | k + 1 => f (foldN f a l k) (l k)

/-- a row of points of the call's own, or one whose cells are known -/
def Pts (w : World) (g n : Nat) (lx ly lz : Nat → Int) : Prop :=
  g < w.heap.size ∧ ∀ j, j < n → w.cell? ⟨g, j * 3, none⟩ = some (.int .i64 (lx j)) ∧ w.cell? ⟨g, j * 3 + 1, none⟩ = some (.int .i64 (ly j)) ∧ w.cell? ⟨g, j * 3 + 2, none⟩ = some (.int .i64 (lz j))

theorem Pts.on {w w' : World} {g n : Nat} {lx ly lz : Nat → Int} (h : Pts w g n lx ly lz) (hb : Below w.heap.size w w') : Pts w' g n lx ly lz :=
  ⟨Nat.lt_of_lt_of_le h.1 hb.size, fun j hj => ⟨(hb.cell (p := ⟨g, j * 3, none⟩) h.1).trans (h.2 j hj).1, (hb.cell (p := ⟨g, j * 3 + 1, none⟩) h.1).trans (h.2 j hj).2.1, (hb.cell (p := ⟨g, j * 3 + 2, none⟩) h.1).trans (h.2 j hj).2.2⟩⟩

/-- a slice of points: none, or a row whose cells are known -/
def PtsV (w : World) (v : Value) (n : Nat) (lx ly lz : Nat → Int) : Prop :=
  (v = .slice none 0 0 ∧ n = 0) ∨ ∃ g cap, v = .slice (some ⟨g, 0, none⟩) n cap ∧ Pts w g n lx ly lz

theorem PtsV.on {w w' : World} {v : Value} {n : Nat} {lx ly lz : Nat → Int} (h : PtsV w v n lx ly lz) (hb : Below w.heap.size w w') : PtsV w' v n lx ly lz := by
  rcases h with h | ⟨g, cap, hv, hp⟩
  · exact .inl h
  · exact .inr ⟨g, cap, hv, hp.on hb⟩

end Go.Proofs.YtplcbdmiccpnnaaGreat.Ve

/- The contract of a fold by sums. -/
namespace Go.Proofs.YtplcbdmiccpnnaaGreat.Ve
open Go.RowKit Go.Proofs.YtplcbdmiccpnnaaGreat Go.Proofs.YtplcbdmiccpnnaaGreat.Wa

end Go.Proofs.YtplcbdmiccpnnaaGreat.Ve

/- The contract of layer 2's each at the least ones. -/
namespace Go.Proofs.YtplcbdmiccpnnaaGreat.Ve
open Go.RowKit Go.Proofs.YtplcbdmiccpnnaaGreat Go.Proofs.YtplcbdmiccpnnaaGreat.Wa

theorem least1_any (x y : Int) (w : World) : Calls Tryz.prog 96 #[.int .i64 x, .int .i64 y] w fun e w' => e = .returned (.int .i64 (min x y)) ∧ w = w' := by
  go_enter Tryz.func96, Tryz.ntmps96
  go_wp2
  go_ret
  exact ⟨rfl, rfl⟩

set_option maxHeartbeats 800000 in
theorem each_least (ax ay az bx by_ bz : Int) (w : World) :
    Calls Tryz.prog 98 #[V3 ax ay az, V3 bx by_ bz, .func (.func 96) #[] #[]] w fun e w' => e = .returned (V3 (min ax bx) (min ay by_) (min az bz)) ∧ Below w.heap.size w w' := by
  go_enter Tryz.func98, Tryz.ntmps98
  go_wp2_with fail
  go_region_held3 (fun w' => w'.cell? ⟨w.heap.size, 0, none⟩ = some (.int .i64 ax) ∧ w'.cell? ⟨w.heap.size, 1, none⟩ = some (.int .i64 ay) ∧ w'.cell? ⟨w.heap.size, 2, none⟩ = some (.int .i64 az) ∧ w'.cell? ⟨w.heap.size + 1, 0, none⟩ = some (.int .i64 bx) ∧ w'.cell? ⟨w.heap.size + 1, 1, none⟩ = some (.int .i64 by_) ∧ w'.cell? ⟨w.heap.size + 1, 2, none⟩ = some (.int .i64 bz)) (go_keep) (first | (go_at_call 96; refine (least1_any _ _ _).mono ?_; rintro e w1 ⟨rfl, rfl⟩))
  go_wp2
  exact bodyPost_ret (v := V3 (min ax bx) (min ay by_) (min az bz)) (by simp [results, Tryz.results98, go_sem]) rfl ⟨rfl, below3 _ _ _ _⟩

end Go.Proofs.YtplcbdmiccpnnaaGreat.Ve

/- The contract of a fold by least numbers. -/
namespace Go.Proofs.YtplcbdmiccpnnaaGreat.Ve
open Go.RowKit Go.Proofs.YtplcbdmiccpnnaaGreat Go.Proofs.YtplcbdmiccpnnaaGreat.Wa

theorem fold_least_none (ax ay az : Int) (w : World) :
    Calls Tryz.prog 95 #[V3 ax ay az, .slice none 0 0, .func (.func 96) #[] #[]] w fun e w' => e = .returned (V3 ax ay az) ∧ Below w.heap.size w w' := by
  go_enter Tryz.func95, Tryz.ntmps95
  go_wp2
  refine wp_loop_rounds 1 ?_
  rw [rounds_succ]
  go_wp2
  exact bodyPost_ret (v := V3 ax ay az) (by simp [results, Tryz.results95, go_sem]) rfl ⟨rfl, below_n2 _ _ _⟩

set_option maxHeartbeats 2000000 in
set_option maxRecDepth 100000 in
theorem fold_least (ax ay az : Int) (g n cap : Nat) (lx ly lz : Nat → Int) (hn : n ≤ 4611686018427387904) (w : World) (hp : Pts w g n lx ly lz) :
    Calls Tryz.prog 95 #[V3 ax ay az, .slice (some ⟨g, 0, none⟩) n cap, .func (.func 96) #[] #[]] w fun e w' => e = .returned (V3 (foldN min ax lx n) (foldN min ay ly n) (foldN min az lz n)) ∧ Below w.heap.size w w' := by
  have HP := Lib.hid hp
  clear hp
  go_enter Tryz.func95, Tryz.ntmps95
  go_wp2
  go_loopw [11] (fun i wr => ∃ k : Nat, k ≤ n ∧ i = .int .i64 k ∧ wr.cell? ⟨w.heap.size, 0, none⟩ = some (.int .i64 (foldN min ax lx k)) ∧ wr.cell? ⟨w.heap.size, 1, none⟩ = some (.int .i64 (foldN min ay ly k)) ∧ wr.cell? ⟨w.heap.size, 2, none⟩ = some (.int .i64 (foldN min az lz k)) ∧ (∀ j, wr.frozen? ⟨w.heap.size, j, none⟩ = false) ∧ (∀ j, wr.frozen? ⟨w.heap.size + 1, j, none⟩ = false) ∧ wr.cell? ⟨w.heap.size + 1, 0, none⟩ = some (.int .i64 0) ∧ wr.cell? ⟨w.heap.size + 1, 1, none⟩ = some (.int .i64 0) ∧ wr.cell? ⟨w.heap.size + 1, 2, none⟩ = some (.int .i64 0) ∧ Below w.heap.size w wr) (fun i _ => n - (intOf i).toNat)
  case atStart => exact ⟨0, Nat.zero_le _, rfl, by go_simp; rfl, by go_simp; rfl, by go_simp; rfl, fun j => by go_simp, fun j => by go_simp, by go_simp, by go_simp, by go_simp, below_n2 _ _ _⟩
  case round =>
    obtain ⟨k, hk, rfl, a0, a1, a2, af, bf, b0, b1, b2, hnx⟩ := hrel
    by_cases hlt : k < n
    · obtain ⟨e0, e1, e2⟩ := (HP.out.on hnx).2 k hlt
      have s0 := World.block_lt_of_cell? _ _ a0
      have s1 := World.block_lt_of_cell? _ _ b0
      simp only at s0 s1
      have t0 : w.heap.size < wr.heap.size + 1 := by omega
      have t1 : w.heap.size + 1 < wr.heap.size + 1 := by omega
      go_wp2_with fail
      refine (each_least _ _ _ _ _ _ _).mono ?_
      rintro e w1 ⟨rfl, hb⟩
      obtain ⟨hc, hf⟩ := bcell hb
      have hz := hb.size
      simp at hz
      go_wp2
      go_roundw
      case rel =>
        refine ⟨k + 1, by omega, by go_num, ?_, ?_, ?_, fun j => ?_, fun j => ?_, ?_, ?_, ?_, below_put3 ((hnx.alloc hnx.size _).trans (hb.mono (by simp; omega))) (Nat.le_refl _) _ _ _⟩
        · go_simp; rfl
        · go_simp; rfl
        · go_simp; rfl
        · go_simp
        · go_simp
        · go_simp
        · go_simp
        · go_simp
      case measure => simp [intOf]; omega
    · obtain rfl : k = n := by omega
      go_wp2
      exact bodyPost_ret (v := V3 (foldN min ax lx k) (foldN min ay ly k) (foldN min az lz k)) (by simp [results, Tryz.results95, go_sem, b0, b1, b2]) rfl ⟨rfl, below_put3 hnx (by omega) _ _ _⟩

theorem fold_least_v (ax ay az : Int) (v : Value) (n : Nat) (lx ly lz : Nat → Int) (hn : n ≤ 4611686018427387904) (w : World) (hp : PtsV w v n lx ly lz) :
    Calls Tryz.prog 95 #[V3 ax ay az, v, .func (.func 96) #[] #[]] w fun e w' => e = .returned (V3 (foldN min ax lx n) (foldN min ay ly n) (foldN min az lz n)) ∧ Below w.heap.size w w' := by
  rcases hp with ⟨rfl, rfl⟩ | ⟨g, cap, rfl, hp⟩
  · exact fold_least_none ax ay az w
  · exact fold_least ax ay az g n cap lx ly lz hn w hp

end Go.Proofs.YtplcbdmiccpnnaaGreat.Ve

/- The contract of layer 2's each at the greatest ones. -/
namespace Go.Proofs.YtplcbdmiccpnnaaGreat.Ve
open Go.RowKit Go.Proofs.YtplcbdmiccpnnaaGreat Go.Proofs.YtplcbdmiccpnnaaGreat.Wa

theorem greatest1_any (x y : Int) (w : World) : Calls Tryz.prog 97 #[.int .i64 x, .int .i64 y] w fun e w' => e = .returned (.int .i64 (max x y)) ∧ w = w' := by
  go_enter Tryz.func97, Tryz.ntmps97
  go_wp2
  go_ret
  exact ⟨rfl, rfl⟩

set_option maxHeartbeats 800000 in
theorem each_greatest (ax ay az bx by_ bz : Int) (w : World) :
    Calls Tryz.prog 98 #[V3 ax ay az, V3 bx by_ bz, .func (.func 97) #[] #[]] w fun e w' => e = .returned (V3 (max ax bx) (max ay by_) (max az bz)) ∧ Below w.heap.size w w' := by
  go_enter Tryz.func98, Tryz.ntmps98
  go_wp2_with fail
  go_region_held3 (fun w' => w'.cell? ⟨w.heap.size, 0, none⟩ = some (.int .i64 ax) ∧ w'.cell? ⟨w.heap.size, 1, none⟩ = some (.int .i64 ay) ∧ w'.cell? ⟨w.heap.size, 2, none⟩ = some (.int .i64 az) ∧ w'.cell? ⟨w.heap.size + 1, 0, none⟩ = some (.int .i64 bx) ∧ w'.cell? ⟨w.heap.size + 1, 1, none⟩ = some (.int .i64 by_) ∧ w'.cell? ⟨w.heap.size + 1, 2, none⟩ = some (.int .i64 bz)) (go_keep) (first | (go_at_call 97; refine (greatest1_any _ _ _).mono ?_; rintro e w1 ⟨rfl, rfl⟩))
  go_wp2
  exact bodyPost_ret (v := V3 (max ax bx) (max ay by_) (max az bz)) (by simp [results, Tryz.results98, go_sem]) rfl ⟨rfl, below3 _ _ _ _⟩

end Go.Proofs.YtplcbdmiccpnnaaGreat.Ve
