/- Films, sheets, read off a reader, by the program: some numbers, points, lights, one behind the other; a size. -/
import Derived.Test.YtgkfoiekminfmaaFd
import Derived.Test.YtgkfoiekminfmaaRen
import Derived.OwnWalk
namespace Go.Proofs.Ytgkfoiekminfmaa.Fm
open Go.RowKit Go.Proofs.Ytgkfoiekminfmaa Go.Proofs.Ytgkfoiekminfmaa.Rp Go.Proofs.Ytgkfoiekminfmaa.Re Go.Proofs.Ytgkfoiekminfmaa.Au
set_option linter.unusedVariables false
set_option linter.unusedSimpArgs false

/-- things one behind the other: the state behind so many, and their numbers -/
def itS (e : St → St) (s : St) : Nat → St
  | 0 => s
  | k + 1 => e (itS e s k)

def itV (e : St → St) (v : St → Nat → Int) (c : Nat) (s : St) (j : Nat) : Int := v (itS e s (j / c)) (j % c)

theorem itV_at (e : St → St) (v : St → Nat → Int) (c : Nat) (s : St) (k i : Nat) (h : i < c) : itV e v c s (k * c + i) = v (itS e s k) i := by
  unfold itV
  rw [Nat.mul_comm k c, Nat.mul_add_div (by omega), Nat.div_eq_of_lt h, Nat.add_zero, Nat.mul_add_mod, Nat.mod_eq_of_lt h]

theorem own_aft {base g c : Nat} {e : TypeId} {w w' : World} {v : Value} {n : Nat} {xs : List Value} (h : w.ownsRow base e c v n xs) (ha : Aft g w.heap.size w w') (hg : g < base) : w'.ownsRow base e c v n xs := by
  refine ⟨h.1, ?_⟩
  have hl := fun q hq => h.lt q hq
  rcases h.2 with hn | ⟨q, cap, cur, rfl, h1, h2, h3⟩
  · exact .inl hn
  · have := hl q rfl
    exact .inr ⟨q, cap, cur, rfl, h1, (ha.block q this.2 this.2 (by omega)).trans h2, h3⟩

theorem aft_grown {base g c b0 : Nat} {e : TypeId} {a w w' : World} {v : Value} {n : Nat} {xs : List Value} (h : Aft g b0 a w) (ho : w.ownsRow base e c v n xs) (hg : w.grownBy w' v.ownBlock) (hb : a.heap.size ≤ base ∧ b0 ≤ base) : Aft g b0 a w' := by
  refine ⟨hg.os.trans h.os, hg.tape.trans h.tape, hg.output.trans h.output, Nat.le_trans h.size hg.size, fun k h1 h2 h3 => ?_, fun k cs t fr h1 h2 h3 => ?_⟩
  · exact (hg.block k (Nat.lt_of_lt_of_le h2 h.size) fun e => by have := ho.lt k e.symm; omega).trans (h.block k h1 h2 h3)
  · have hk := lt_of_heap h3
    exact (hg.block k (Nat.lt_of_lt_of_le hk h.size) fun e => by have := ho.lt k e.symm; omega).trans (h.other k cs t fr h1 h2 h3)

theorem rp_grown {p : Value} {g B base c : Nat} {e : TypeId} {s : St} {w w' : World} {v : Value} {n : Nat} {xs : List Value} (h : RP p g B s w) (ho : w.ownsRow base e c v n xs) (hg : w.grownBy w' v.ownBlock) (hb : B ≤ base ∧ B ≤ w.heap.size) : RP p g B s w' :=
  h.on ⟨hg.os, hg.tape, hg.output, hg.size, fun k hk => hg.block k (by omega) fun e => by have := ho.lt k e.symm; omega⟩

theorem aft_setRow {g base k : Nat} {a w : World} (h : Aft g base a w) (hb : a.heap.size ≤ k) (hB : base ≤ k) (R : Array Value) : Aft g base a (w.setRow k R) := by
  have hb2 := below_setRow (g := k) (Below.refl k w) (Nat.le_refl _) R
  refine ⟨hb2.os.trans h.os, hb2.tape.trans h.tape, hb2.output.trans h.output, Nat.le_trans h.size hb2.size, fun i h1 h2 h3 => (setRow_other _ _ _ _ (by omega)).trans (h.block i h1 h2 h3), fun i cs t fr h1 h2 h3 => ?_⟩
  have hi := lt_of_heap h3
  exact (setRow_other _ _ _ _ (by omega)).trans (h.other i cs t fr h1 h2 h3)

theorem rp_setRow {p : Value} {g B k : Nat} {s : St} {w : World} (h : RP p g B s w) (hb : B ≤ k) (R : Array Value) : RP p g B s (w.setRow k R) :=
  h.on (below_setRow (g := k) (Below.refl B w) hb R)

theorem rp_drew {p : Value} {g B : Nat} {s : St} {w : World} (h : RP p g B s w) : RP p g B s w.drew := h.on (Below.refl B w).drew

/-- a row that begins a block that is new stays while a reader is read -/
theorem RwP.read {base g c : Nat} {w w' : World} {a : Option Addr} {n : Nat} {L : Nat → Int} (h : RwP (fun b => base ≤ b) c w a n L) (hc : 0 < c) (ha : Aft g w.heap.size w w') (hg : g < base) : RwP (fun b => base ≤ b) c w' a n L :=
  ((h.lt hc).keep (fun b hb => ha.block b hb.2 hb.2 (by omega))).weak (fun b hb => hb.1)

/-! ### what is read of each kind -/
def triV (s : St) (j : Nat) : Int := (threeS s).1 j
def triE (s : St) : St := (threeS s).2
def oneV (s : St) (j : Nat) : Int := (fixS s).1
def oneE (s : St) : St := (fixS s).2
def smlV (s : St) (j : Nat) : Int := small16 (numS s 2).1
def smlE (s : St) : St := (numS s 2).2

theorem stp_hue (s : St) (k : Nat) : flatc 3 (itV triE triV 3 s) (k + 1) = flatc 3 (itV triE triV 3 s) k ++ [.int .i64 (triV (itS triE s k) 0), .int .i64 (triV (itS triE s k) 1), .int .i64 (triV (itS triE s k) 2)] := by
  have h0 := itV_at triE triV 3 s k 0 (by omega)
  rw [Nat.add_zero] at h0
  rw [flatc_step3, h0, itV_at triE triV 3 s k 1 (by omega), itV_at triE triV 3 s k 2 (by omega)]

set_option maxHeartbeats 4000000 in
set_option maxRecDepth 100000 in
theorem flist_hue (g : Nat) {B : Nat} (s : St) (n : Nat) (hn : n ≤ 100000) (w : World) (hw : RP (.pointer (some ⟨g, 0, none⟩)) g B s w) (hg : g < w.heap.size) (hB : B ≤ w.heap.size) :
    Calls Try.prog 58 #[.int .i64 (n : Int), .func (.func 59) #[.pointer (some ⟨g, 0, none⟩)] #[]] w fun e' w' => (∃ a c, e' = .returned (.slice a n c) ∧ RwP (fun b => w.heap.size ≤ b) 3 w' a n (itV triE triV 3 s)) ∧ RP (.pointer (some ⟨g, 0, none⟩)) g B (itS triE s n) w' ∧ Aft g w.heap.size w w' := by
  obtain ⟨i0, hi, hz0, hz1, hz2⟩ := info_parts info_hue
  have HPw := Lib.hid hw
  clear hw
  go_enter Try.func58, Try.ntmps58
  go_wp2_with fail
  go_loopw [5, 7] (fun s5 s7 wr => ∃ k : Nat, k ≤ n ∧ s7 = .int .i64 k ∧ wr.ownsRow w.heap.size 68 3 s5 k (flatc 3 (itV triE triV 3 s) k) ∧ Hid (RP (.pointer (some ⟨g, 0, none⟩)) g B (itS triE s k) wr) ∧ Hid (Aft g w.heap.size w wr)) (fun _ s7 _ => n - (intOf s7).toNat)
  case atStart => exact ⟨0, by omega, rfl, by simpa [flatc] using World.ownsRow_nil _ _ _ _, HPw, Lib.hid (Aft.refl _ _ _)⟩
  case round =>
    obtain ⟨k, hk, rfl, hin, HP, HU⟩ := hrel
    obtain ⟨y0, rfl⟩ : ∃ y : World, y = wr := ⟨_, rfl⟩
    have hz := HU.out.size
    by_cases hlt : k < n
    · have hlt' : (k : Int) < n := by omega
      have HI := Lib.hid hin
      clear hin
      go_wp2_with fail
      refine (show Calls _ _ _ _ (fun e w' => e = .returned (.agg #[.int .i64 (triV (itS triE s k) 0), .int .i64 (triV (itS triE s k) 1), .int .i64 (triV (itS triE s k) 2)]) ∧ RP (.pointer (some ⟨g, 0, none⟩)) g B (triE (itS triE s k)) w' ∧ Aft g _ _ w') from rhue_any _ g (itS triE s k) _ HP.out (by omega) (by omega)).mono ?_
      rintro e y1 ⟨rfl, hp1, hb1⟩
      have HI1 := Lib.hid (own_aft HI.out hb1 hg)
      have HU1 := Lib.hid (HU.out.trans (hb1.mono HU.out.size))
      have HP1 := Lib.hid hp1
      have hsz := HU1.out.size
      clear HI HU HP hb1 hp1
      go_wp2_with (first | (at_builtin; refine wpList_append_own _ rfl _ _ 33 rfl w.heap.size 68 i0 (.agg #[.int .i64 0, .int .i64 0, .int .i64 0]) 3 24 Try.underlying33 hi hz0 hz1 hz2 rfl (by decide) _ _ _ rfl (HI1.out.alloc _) ⟨y1.heap.size, 0, none⟩ 1 1 [.int .i64 (triV (itS triE s k) 0), .int .i64 (triV (itS triE s k) 1), .int .i64 (triV (itS triE s k) 2)] rfl rfl ?c1 ?c2 ?c3 ?c4 ?c5 ?_))
      case c1 =>
        intro j u hj
        match j, hj with
        | 0, hj => simp at hj; subst hj; simp [Addr.add]
        | 1, hj => simp at hj; subst hj; simp [Addr.add]
        | 2, hj => simp at hj; subst hj; simp [Addr.add]
      case c2 => intro u hu; simp at hu; rcases hu with rfl | rfl | rfl <;> rfl
      case c3 => unfold maxLen; omega
      case c4 => omega
      case c5 => simp; omega
      intro v5 y2 hin2 hgrow _
      rw [← stp_hue] at hin2
      have HU2 := Lib.hid (aft_grown (HU1.out.alloc _) (HI1.out.alloc _) hgrow (by omega))
      have HP2 := Lib.hid (rp_grown (HP1.out.new (Ve.below_n1 _ _)) (HI1.out.alloc _) hgrow (by constructor <;> first | omega | (simp; omega)))
      go_wp2_with fail
      go_roundw
      case rel => exact ⟨k + 1, by omega, by go_num, hin2, HP2, HU2⟩
      case measure => simp [intOf]; omega
    · obtain rfl : k = n := by omega
      obtain ⟨a9, c9, hv9⟩ := own_slice hin
      subst hv9
      have HR := Lib.hid (rwp_own (fun b => w.heap.size ≤ b) hin (fun b h1 _ _ => h1))
      clear hin
      go_wp2
      go_ret
      exact ⟨⟨a9, c9, rfl, HR.out⟩, HP.out, HU.out⟩

theorem stp_vec (s : St) (k : Nat) : flatc 3 (itV triE triV 3 s) (k + 1) = flatc 3 (itV triE triV 3 s) k ++ [.int .i64 (triV (itS triE s k) 0), .int .i64 (triV (itS triE s k) 1), .int .i64 (triV (itS triE s k) 2)] := by
  have h0 := itV_at triE triV 3 s k 0 (by omega)
  rw [Nat.add_zero] at h0
  rw [flatc_step3, h0, itV_at triE triV 3 s k 1 (by omega), itV_at triE triV 3 s k 2 (by omega)]

set_option maxHeartbeats 4000000 in
set_option maxRecDepth 100000 in
theorem flist_vec (g : Nat) {B : Nat} (s : St) (n : Nat) (hn : n ≤ 100000) (w : World) (hw : RP (.pointer (some ⟨g, 0, none⟩)) g B s w) (hg : g < w.heap.size) (hB : B ≤ w.heap.size) :
    Calls Try.prog 67 #[.int .i64 (n : Int), .func (.func 68) #[.pointer (some ⟨g, 0, none⟩)] #[]] w fun e' w' => (∃ a c, e' = .returned (.slice a n c) ∧ RwP (fun b => w.heap.size ≤ b) 3 w' a n (itV triE triV 3 s)) ∧ RP (.pointer (some ⟨g, 0, none⟩)) g B (itS triE s n) w' ∧ Aft g w.heap.size w w' := by
  obtain ⟨i0, hi, hz0, hz1, hz2⟩ := info_parts info_vec
  have HPw := Lib.hid hw
  clear hw
  go_enter Try.func67, Try.ntmps67
  go_wp2_with fail
  go_loopw [5, 7] (fun s5 s7 wr => ∃ k : Nat, k ≤ n ∧ s7 = .int .i64 k ∧ wr.ownsRow w.heap.size 73 3 s5 k (flatc 3 (itV triE triV 3 s) k) ∧ Hid (RP (.pointer (some ⟨g, 0, none⟩)) g B (itS triE s k) wr) ∧ Hid (Aft g w.heap.size w wr)) (fun _ s7 _ => n - (intOf s7).toNat)
  case atStart => exact ⟨0, by omega, rfl, by simpa [flatc] using World.ownsRow_nil _ _ _ _, HPw, Lib.hid (Aft.refl _ _ _)⟩
  case round =>
    obtain ⟨k, hk, rfl, hin, HP, HU⟩ := hrel
    obtain ⟨y0, rfl⟩ : ∃ y : World, y = wr := ⟨_, rfl⟩
    have hz := HU.out.size
    by_cases hlt : k < n
    · have hlt' : (k : Int) < n := by omega
      have HI := Lib.hid hin
      clear hin
      go_wp2_with fail
      refine (show Calls _ _ _ _ (fun e w' => e = .returned (.agg #[.int .i64 (triV (itS triE s k) 0), .int .i64 (triV (itS triE s k) 1), .int .i64 (triV (itS triE s k) 2)]) ∧ RP (.pointer (some ⟨g, 0, none⟩)) g B (triE (itS triE s k)) w' ∧ Aft g _ _ w') from rvec_any _ g (itS triE s k) _ HP.out (by omega) (by omega)).mono ?_
      rintro e y1 ⟨rfl, hp1, hb1⟩
      have HI1 := Lib.hid (own_aft HI.out hb1 hg)
      have HU1 := Lib.hid (HU.out.trans (hb1.mono HU.out.size))
      have HP1 := Lib.hid hp1
      have hsz := HU1.out.size
      clear HI HU HP hb1 hp1
      go_wp2_with (first | (at_builtin; refine wpList_append_own _ rfl _ _ 37 rfl w.heap.size 73 i0 (.agg #[.int .i64 0, .int .i64 0, .int .i64 0]) 3 24 Try.underlying37 hi hz0 hz1 hz2 rfl (by decide) _ _ _ rfl (HI1.out.alloc _) ⟨y1.heap.size, 0, none⟩ 1 1 [.int .i64 (triV (itS triE s k) 0), .int .i64 (triV (itS triE s k) 1), .int .i64 (triV (itS triE s k) 2)] rfl rfl ?c1 ?c2 ?c3 ?c4 ?c5 ?_))
      case c1 =>
        intro j u hj
        match j, hj with
        | 0, hj => simp at hj; subst hj; simp [Addr.add]
        | 1, hj => simp at hj; subst hj; simp [Addr.add]
        | 2, hj => simp at hj; subst hj; simp [Addr.add]
      case c2 => intro u hu; simp at hu; rcases hu with rfl | rfl | rfl <;> rfl
      case c3 => unfold maxLen; omega
      case c4 => omega
      case c5 => simp; omega
      intro v5 y2 hin2 hgrow _
      rw [← stp_vec] at hin2
      have HU2 := Lib.hid (aft_grown (HU1.out.alloc _) (HI1.out.alloc _) hgrow (by omega))
      have HP2 := Lib.hid (rp_grown (HP1.out.new (Ve.below_n1 _ _)) (HI1.out.alloc _) hgrow (by constructor <;> first | omega | (simp; omega)))
      go_wp2_with fail
      go_roundw
      case rel => exact ⟨k + 1, by omega, by go_num, hin2, HP2, HU2⟩
      case measure => simp [intOf]; omega
    · obtain rfl : k = n := by omega
      obtain ⟨a9, c9, hv9⟩ := own_slice hin
      subst hv9
      have HR := Lib.hid (rwp_own (fun b => w.heap.size ≤ b) hin (fun b h1 _ _ => h1))
      clear hin
      go_wp2
      go_ret
      exact ⟨⟨a9, c9, rfl, HR.out⟩, HP.out, HU.out⟩

theorem stp_fix (s : St) (k : Nat) : flatc 1 (itV oneE oneV 1 s) (k + 1) = flatc 1 (itV oneE oneV 1 s) k ++ [.int .i64 (oneV (itS oneE s k) 0)] := by
  have h0 := itV_at oneE oneV 1 s k 0 (by omega)
  rw [Nat.mul_one, Nat.add_zero] at h0
  rw [flatc_step1, h0]

set_option maxHeartbeats 4000000 in
set_option maxRecDepth 100000 in
theorem flist_fix (g : Nat) {B : Nat} (s : St) (n : Nat) (hn : n ≤ 100000) (w : World) (hw : RP (.pointer (some ⟨g, 0, none⟩)) g B s w) (hg : g < w.heap.size) (hB : B ≤ w.heap.size) :
    Calls Try.prog 65 #[.int .i64 (n : Int), .func (.func 66) #[.pointer (some ⟨g, 0, none⟩)] #[]] w fun e' w' => (∃ a c, e' = .returned (.slice a n c) ∧ RwP (fun b => w.heap.size ≤ b) 1 w' a n (itV oneE oneV 1 s)) ∧ RP (.pointer (some ⟨g, 0, none⟩)) g B (itS oneE s n) w' ∧ Aft g w.heap.size w w' := by
  obtain ⟨i0, hi, hz0, hz1, hz2⟩ := info_parts info_fix
  have HPw := Lib.hid hw
  clear hw
  go_enter Try.func65, Try.ntmps65
  go_wp2_with fail
  go_loopw [5, 7] (fun s5 s7 wr => ∃ k : Nat, k ≤ n ∧ s7 = .int .i64 k ∧ wr.ownsRow w.heap.size 66 1 s5 k (flatc 1 (itV oneE oneV 1 s) k) ∧ Hid (RP (.pointer (some ⟨g, 0, none⟩)) g B (itS oneE s k) wr) ∧ Hid (Aft g w.heap.size w wr)) (fun _ s7 _ => n - (intOf s7).toNat)
  case atStart => exact ⟨0, by omega, rfl, by simpa [flatc] using World.ownsRow_nil _ _ _ _, HPw, Lib.hid (Aft.refl _ _ _)⟩
  case round =>
    obtain ⟨k, hk, rfl, hin, HP, HU⟩ := hrel
    obtain ⟨y0, rfl⟩ : ∃ y : World, y = wr := ⟨_, rfl⟩
    have hz := HU.out.size
    by_cases hlt : k < n
    · have hlt' : (k : Int) < n := by omega
      have HI := Lib.hid hin
      clear hin
      go_wp2_with fail
      refine (show Calls _ _ _ _ (fun e w' => e = .returned (.int .i64 (oneV (itS oneE s k) 0)) ∧ RP (.pointer (some ⟨g, 0, none⟩)) g B (oneE (itS oneE s k)) w' ∧ Aft g _ _ w') from rfix_any _ g (itS oneE s k) _ HP.out).mono ?_
      rintro e y1 ⟨rfl, hp1, hb1⟩
      have HI1 := Lib.hid (own_aft HI.out hb1 hg)
      have HU1 := Lib.hid (HU.out.trans (hb1.mono HU.out.size))
      have HP1 := Lib.hid hp1
      have hsz := HU1.out.size
      clear HI HU HP hb1 hp1
      go_wp2_with (first | (at_builtin; refine wpList_append_own _ rfl _ _ 36 rfl w.heap.size 66 i0 (.int .i64 0) 1 8 Try.underlying36 hi hz0 hz1 hz2 rfl (by decide) _ _ _ rfl (HI1.out.alloc _) ⟨y1.heap.size, 0, none⟩ 1 1 [.int .i64 (oneV (itS oneE s k) 0)] rfl rfl ?c1 ?c2 ?c3 ?c4 ?c5 ?_))
      case c1 =>
        intro j u hj
        match j, hj with
        | 0, hj => simp at hj; subst hj; simp [Addr.add]
      case c2 => intro u hu; simp at hu; rcases hu with rfl <;> rfl
      case c3 => unfold maxLen; omega
      case c4 => omega
      case c5 => simp; omega
      intro v5 y2 hin2 hgrow _
      rw [← stp_fix] at hin2
      have HU2 := Lib.hid (aft_grown (HU1.out.alloc _) (HI1.out.alloc _) hgrow (by omega))
      have HP2 := Lib.hid (rp_grown (HP1.out.new (Ve.below_n1 _ _)) (HI1.out.alloc _) hgrow (by constructor <;> first | omega | (simp; omega)))
      go_wp2_with fail
      go_roundw
      case rel => exact ⟨k + 1, by omega, by go_num, hin2, HP2, HU2⟩
      case measure => simp [intOf]; omega
    · obtain rfl : k = n := by omega
      obtain ⟨a9, c9, hv9⟩ := own_slice hin
      subst hv9
      have HR := Lib.hid (rwp_own (fun b => w.heap.size ≤ b) hin (fun b h1 _ _ => h1))
      clear hin
      go_wp2
      go_ret
      exact ⟨⟨a9, c9, rfl, HR.out⟩, HP.out, HU.out⟩

theorem stp_sml (s : St) (k : Nat) : flatc 1 (itV smlE smlV 1 s) (k + 1) = flatc 1 (itV smlE smlV 1 s) k ++ [.int .i64 (smlV (itS smlE s k) 0)] := by
  have h0 := itV_at smlE smlV 1 s k 0 (by omega)
  rw [Nat.mul_one, Nat.add_zero] at h0
  rw [flatc_step1, h0]

set_option maxHeartbeats 4000000 in
set_option maxRecDepth 100000 in
theorem flist_sml (g : Nat) {B : Nat} (s : St) (n : Nat) (hn : n ≤ 100000) (w : World) (hw : RP (.pointer (some ⟨g, 0, none⟩)) g B s w) (hg : g < w.heap.size) (hB : B ≤ w.heap.size) :
    Calls Try.prog 69 #[.int .i64 (n : Int), .func (.func 70) #[.pointer (some ⟨g, 0, none⟩)] #[]] w fun e' w' => (∃ a c, e' = .returned (.slice a n c) ∧ RwP (fun b => w.heap.size ≤ b) 1 w' a n (itV smlE smlV 1 s)) ∧ RP (.pointer (some ⟨g, 0, none⟩)) g B (itS smlE s n) w' ∧ Aft g w.heap.size w w' := by
  obtain ⟨i0, hi, hz0, hz1, hz2⟩ := info_parts info_int
  have HPw := Lib.hid hw
  clear hw
  go_enter Try.func69, Try.ntmps69
  go_wp2_with fail
  go_loopw [5, 7] (fun s5 s7 wr => ∃ k : Nat, k ≤ n ∧ s7 = .int .i64 k ∧ wr.ownsRow w.heap.size 3 1 s5 k (flatc 1 (itV smlE smlV 1 s) k) ∧ Hid (RP (.pointer (some ⟨g, 0, none⟩)) g B (itS smlE s k) wr) ∧ Hid (Aft g w.heap.size w wr)) (fun _ s7 _ => n - (intOf s7).toNat)
  case atStart => exact ⟨0, by omega, rfl, by simpa [flatc] using World.ownsRow_nil _ _ _ _, HPw, Lib.hid (Aft.refl _ _ _)⟩
  case round =>
    obtain ⟨k, hk, rfl, hin, HP, HU⟩ := hrel
    obtain ⟨y0, rfl⟩ : ∃ y : World, y = wr := ⟨_, rfl⟩
    have hz := HU.out.size
    by_cases hlt : k < n
    · have hlt' : (k : Int) < n := by omega
      have HI := Lib.hid hin
      clear hin
      go_wp2_with fail
      refine (show Calls _ _ _ _ (fun e w' => e = .returned (.int .i64 (smlV (itS smlE s k) 0)) ∧ RP (.pointer (some ⟨g, 0, none⟩)) g B (smlE (itS smlE s k)) w' ∧ Aft g _ _ w') from rsmall_any _ g (itS smlE s k) _ HP.out).mono ?_
      rintro e y1 ⟨rfl, hp1, hb1⟩
      have HI1 := Lib.hid (own_aft HI.out hb1 hg)
      have HU1 := Lib.hid (HU.out.trans (hb1.mono HU.out.size))
      have HP1 := Lib.hid hp1
      have hsz := HU1.out.size
      clear HI HU HP hb1 hp1
      go_wp2_with (first | (at_builtin; refine wpList_append_own _ rfl _ _ 27 rfl w.heap.size 3 i0 (.int .i64 0) 1 8 Try.underlying27 hi hz0 hz1 hz2 rfl (by decide) _ _ _ rfl (HI1.out.alloc _) ⟨y1.heap.size, 0, none⟩ 1 1 [.int .i64 (smlV (itS smlE s k) 0)] rfl rfl ?c1 ?c2 ?c3 ?c4 ?c5 ?_))
      case c1 =>
        intro j u hj
        match j, hj with
        | 0, hj => simp at hj; subst hj; simp [Addr.add]
      case c2 => intro u hu; simp at hu; rcases hu with rfl <;> rfl
      case c3 => unfold maxLen; omega
      case c4 => omega
      case c5 => simp; omega
      intro v5 y2 hin2 hgrow _
      rw [← stp_sml] at hin2
      have HU2 := Lib.hid (aft_grown (HU1.out.alloc _) (HI1.out.alloc _) hgrow (by omega))
      have HP2 := Lib.hid (rp_grown (HP1.out.new (Ve.below_n1 _ _)) (HI1.out.alloc _) hgrow (by constructor <;> first | omega | (simp; omega)))
      go_wp2_with fail
      go_roundw
      case rel => exact ⟨k + 1, by omega, by go_num, hin2, HP2, HU2⟩
      case measure => simp [intOf]; omega
    · obtain rfl : k = n := by omega
      obtain ⟨a9, c9, hv9⟩ := own_slice hin
      subst hv9
      have HR := Lib.hid (rwp_own (fun b => w.heap.size ≤ b) hin (fun b h1 _ _ => h1))
      clear hin
      go_wp2
      go_ret
      exact ⟨⟨a9, c9, rfl, HR.out⟩, HP.out, HU.out⟩

/-- what a size is read as: its numbers, whether it may be, the state behind it -/
def szW (s : St) : Int := ((numS s 2).1 : Int)
def szH (s : St) : Int := ((numS (numS s 2).2 2).1 : Int)
def szT (s : St) : St := (numS (numS s 2).2 2).2
def szS (s : St) : St := if okSz (szW s) (szH s) then szT s else failS (szT s) 10

theorem part2 {w : World} {b : Nat} {t : TypeId} (h : w.heap[b]? = some (.cells #[.int .i64 0, .int .i64 0] t (0, 0))) (u v : Value) : ((w.setCell ⟨b, 0, none⟩ u).setCell ⟨b, 1, none⟩ v).cell? ⟨b, 0, none⟩ = some u ∧ ((w.setCell ⟨b, 0, none⟩ u).setCell ⟨b, 1, none⟩ v).cell? ⟨b, 1, none⟩ = some v := by
  have h1 : (w.setCell ⟨b, 0, none⟩ u).heap[b]? = some (.cells #[u, .int .i64 0] t (0, 0)) := heap_setCell_same _ _ 0 _ _ _ h
  have h2 : ((w.setCell ⟨b, 0, none⟩ u).setCell ⟨b, 1, none⟩ v).heap[b]? = some (.cells #[u, v] t (0, 0)) := heap_setCell_same _ _ 1 _ _ _ h1
  exact ⟨cell_of_row _ _ 0 _ _ _ h2, cell_of_row _ _ 1 _ _ _ h2⟩

set_option maxHeartbeats 8000000 in
set_option maxRecDepth 100000 in
theorem fsize_ok (g : Nat) {B : Nat} (s : St) (W H : Int) (t : St) (w : World) (hw : RP (.pointer (some ⟨g, 0, none⟩)) g B s w) (hg : g < w.heap.size) (hB : B ≤ w.heap.size) (hW : W = szW s) (hH : H = szH s) (ht : t = szT s) (hok : okSz W H) : Calls Try.prog 57 #[.agg #[.pointer (some ⟨g, 0, none⟩)]] w fun e' w' => e' = .returned (.agg #[.int .i64 W, .int .i64 H]) ∧ RP (.pointer (some ⟨g, 0, none⟩)) g B (t) w' ∧ Aft g w.heap.size w w' := by
  have HPw := Lib.hid hw
  clear hw
  have HW := Lib.hid hW
  have HH := Lib.hid hH
  have HT := Lib.hid ht
  have HOK := Lib.hid hok
  clear hW hH ht hok
  go_enter Try.func57, Try.ntmps57
  go_upto_region 1 with fail
  have hR := Au.rows2 w (.cells #[.pointer (some ⟨g, 0, none⟩)] 92) (.cells #[.int .i64 0, .int .i64 0] 32)
  have HUx := Ve.below_n2 w (.cells #[.pointer (some ⟨g, 0, none⟩)] 92) (.cells #[.int .i64 0, .int .i64 0] 32)
  obtain ⟨y0, hy0⟩ : ∃ y0, (w.alloc (.cells #[.pointer (some ⟨g, 0, none⟩)] 92)).alloc (.cells #[.int .i64 0, .int .i64 0] 32) = y0 := ⟨_, rfl⟩
  rw [hy0] at hR HUx ⊢
  clear hy0
  have HP0 := Lib.hid (HPw.out.new HUx)
  have hz0 := HUx.size
  have HU0 := Lib.hid (Aft.of (g := g) (base := w.heap.size) HUx)
  clear HUx
  obtain ⟨hr0_0, hr0_1⟩ := hR
  refine wp_region_held_drew (S := fun y => y.heap[w.heap.size]? = some (.cells #[.pointer (some ⟨g, 0, none⟩)] 92 (0, 0))) (by kernel_rfl) (hr0_0) (fun hS0 => ?_)
  obtain ⟨y1, hy1⟩ : ∃ y, y0.drew = y := ⟨_, rfl⟩
  have HU1 := Lib.hid (show Aft g w.heap.size w y1 by rw [← hy1]; exact HU0.out.drew)
  have HP1 := Lib.hid (show RP (.pointer (some ⟨g, 0, none⟩)) g B _ y1 by rw [← hy1]; exact rp_drew HP0.out)
  have hz1 := HU1.out.size
  have hr1_0 : y1.heap[w.heap.size]? = some (.cells #[.pointer (some ⟨g, 0, none⟩)] 92 (0, 0)) := by rw [← hy1]; exact hr0_0
  have hr1_1 : y1.heap[w.heap.size + 1]? = some (.cells #[.int .i64 0, .int .i64 0] 32 (0, 0)) := by rw [← hy1]; exact hr0_1
  have hl1_0 := lt_heap hr1_0
  have hl1_1 := lt_heap hr1_1
  rw [hy1] at hS0 ⊢
  clear hy1
  refine wpAnyH_take (i := 0) (v := ?_) rfl (by kernel_rfl) (by kernel_rfl) (by kernel_rfl) (fun _ _ _ h => h) (Or.inl ⟨by kernel_rfl, by (intro wz hSz; go_simp; try with_reducible rfl)⟩) hS0 ?_
  go_simp
  refine wpAnyH_take (i := 1) (v := ?_) rfl (by kernel_rfl) (by kernel_rfl) (by kernel_rfl) (fun _ _ _ h => h) (Or.inl ⟨by kernel_rfl, by (intro wz hSz; have c0_0 := cell_of_row _ _ 0 _ _ _ hSz; simp at c0_0; go_simp; try with_reducible rfl)⟩) hS0 ?_
  go_simp
  refine wpAnyH_take (i := 3) (v := ?_) rfl (by kernel_rfl) (by kernel_rfl) (by kernel_rfl) (fun _ _ _ h => h) (Or.inl ⟨by kernel_rfl, by (intro wz hSz; go_simp; try with_reducible rfl)⟩) hS0 ?_
  go_simp
  refine wpAnyH_take (i := 4) (v := ?_) rfl (by kernel_rfl) (by kernel_rfl) (by kernel_rfl) (fun _ _ _ h => h) (Or.inl ⟨by kernel_rfl, by (intro wz hSz; have c0_0 := cell_of_row _ _ 0 _ _ _ hSz; simp at c0_0; go_simp; try with_reducible rfl)⟩) hS0 ?_
  go_simp
  refine wpAnyH_ready (rs := [2, 7]) (by kernel_rfl) (by simp) ?_
  refine AllReadyH.cons rfl (fun K hK => ?_) (AllReadyH.cons rfl (fun K hK => ?_) AllReadyH.nil)
  · skip
    go_simp
    go_wp2_with (go_at_call 73; refine ((show Calls _ _ _ _ (fun e w' => e = .returned (.int .i64 W) ∧ RP (.pointer (some ⟨g, 0, none⟩)) g B (numS s 2).2 w' ∧ Aft g _ _ w') from by rw [HW.out]; exact rhalf_any _ g s _ HP1.out)).mono ?_; rintro e y2 ⟨rfl, hp2, hb2⟩)
    have HP2 := Lib.hid hp2
    have hz2 := hb2.size
    have hr2_0 := (hb2.block _ (lt_heap hr1_0) (lt_heap hr1_0) (by omega)).trans hr1_0
    have hr2_1 := (hb2.block _ (lt_heap hr1_1) (lt_heap hr1_1) (by omega)).trans hr1_1
    have HU2 := Lib.hid (HU1.out.trans (hb2.mono HU1.out.size))
    refine hK.out _ _ ((hb2.block _ (lt_heap hS0) (lt_heap hS0) (by omega)).trans hS0) (fun hS2c => ?_)
    clear hK K
    refine wpAnyH_ready (rs := [5, 7]) (by kernel_rfl) (by simp) ?_
    refine AllReadyH.cons rfl (fun K hK => ?_) (AllReadyH.cons rfl (fun K hK => ?_) AllReadyH.nil)
    · skip
      go_simp
      go_wp2_with (go_at_call 73; refine ((show Calls _ _ _ _ (fun e w' => e = .returned (.int .i64 H) ∧ RP (.pointer (some ⟨g, 0, none⟩)) g B t w' ∧ Aft g _ _ w') from by rw [HH.out, HT.out]; exact rhalf_any _ g (numS s 2).2 _ HP2.out)).mono ?_; rintro e y3 ⟨rfl, hp3, hb3⟩)
      have HP3 := Lib.hid hp3
      have hz3 := hb3.size
      have hr3_0 := (hb3.block _ (lt_heap hr2_0) (lt_heap hr2_0) (by omega)).trans hr2_0
      have hr3_1 := (hb3.block _ (lt_heap hr2_1) (lt_heap hr2_1) (by omega)).trans hr2_1
      have HU3 := Lib.hid (HU2.out.trans (hb3.mono HU2.out.size))
      refine hK.out _ _ ((hb3.block _ (lt_heap hS2c) (lt_heap hS2c) (by omega)).trans hS2c) (fun hS3c => ?_)
      clear hK K
      refine wpAnyH_take (i := 6) (v := ?_) rfl (by kernel_rfl) (by kernel_rfl) (by kernel_rfl) (fun _ _ _ h => h) (Or.inl ⟨by kernel_rfl, by (intro wz hSz; go_simp; try with_reducible rfl)⟩) hS3c ?_
      go_simp
      refine wpAnyH_ready (rs := [7]) (by kernel_rfl) (by simp) ?_
      refine AllReadyH.cons rfl (fun K hK => ?_) AllReadyH.nil
      go_simp
      have hb4 := Ve.below_n1 y3 (.cells #[.int .i64 0, .int .i64 0] 32)
      have hp4 := HP3.out.new hb4
      have hb4 := Aft.of (g := g) (base := y3.heap.size) hb4
      have hN := heap_alloc_last y3 (.cells #[.int .i64 0, .int .i64 0] 32)
      obtain ⟨y4, hy4⟩ : ∃ y, y3.alloc (.cells #[.int .i64 0, .int .i64 0] 32) = y := ⟨_, rfl⟩
      rw [hy4] at hb4 hN hp4 ⊢
      clear hy4
      have HP4 := Lib.hid hp4
      have hz4 := hb4.size
      have hl4_0 := lt_heap hr3_0
      have hr4_0 := (hb4.block _ (lt_heap hr3_0) (lt_heap hr3_0) (by omega)).trans hr3_0
      have hl4_1 := lt_heap hr3_1
      have hr4_1 := (hb4.block _ (lt_heap hr3_1) (lt_heap hr3_1) (by omega)).trans hr3_1
      have hr4_2 := hN
      clear hN
      have HU4 := Lib.hid (HU3.out.trans (hb4.mono HU3.out.size))
      refine hK.out _ _ ((hb4.block _ (lt_heap hS3c) (lt_heap hS3c) (by omega)).trans hS3c) (fun hS4a => ?_)
      clear hK K
      refine wpAnyH_ready (rs := [8]) (by kernel_rfl) (by simp) ?_
      refine AllReadyH.cons rfl (fun K hK => ?_) AllReadyH.nil
      refine step_store_row rfl 32 (.tmp 3) (.tmp 10) rfl #[.int .i64 0, .int .i64 0] #[.int .i64 W, .int .i64 H] _ 32 hr4_2 rfl (by first | rfl | (go_simp; done) | (go_simp; rfl)) (by kernel_rfl) rfl (by simp [Value.oneCell']) ?_
      have hN := setRow_heap _ (y3.heap.size) _ #[.int .i64 W, .int .i64 H] _ _ hr4_2
      have hsz := HU4.out.size
      have HUx := aft_setRow (k := y3.heap.size) HU4.out (by omega) (by omega) #[.int .i64 W, .int .i64 H]
      have hPx := rp_setRow (k := y3.heap.size) HP4.out (by omega) #[.int .i64 W, .int .i64 H]
      obtain ⟨y5, hy5⟩ : ∃ y, y4.setRow (y3.heap.size) #[.int .i64 W, .int .i64 H] = y := ⟨_, rfl⟩
      have hO : ∀ k, k ≠ y3.heap.size → y5.heap[k]? = y4.heap[k]? := fun k hk => by rw [← hy5]; exact setRow_other _ _ _ _ hk
      rw [hy5] at hN HUx hPx ⊢
      clear hy5
      have HU5 := Lib.hid HUx
      clear HUx
      have HP5 := Lib.hid hPx
      have hz5 := HU5.out.size
      have hr5_0 := (hO _ (by omega)).trans hr4_0
      have hr5_1 := (hO _ (by omega)).trans hr4_1
      have hr5_2 := hN
      clear hN
      refine hK.out _ _ ((hO _ (by omega)).trans hS4a) (fun hS5s => ?_)
      clear hK K
      refine wpAnyH_done (by kernel_rfl) ?_ _
      have c0_0 := cell_of_row _ _ 0 _ _ _ hr5_0
      have c2_0 := cell_of_row _ _ 0 _ _ _ hr5_2
      have c2_1 := cell_of_row _ _ 1 _ _ _ hr5_2
      simp at c0_0 c2_0 c2_1
      go_wp2_with fail
      refine (szright_any W H _).mono ?_
      rintro e y6 ⟨rfl, hbb⟩
      rw [decide_eq_true HOK.out]
      have hp6 := HP5.out.new hbb
      have hb6 := Aft.of (g := g) (base := y5.heap.size) hbb
      clear hbb
      have HP6 := Lib.hid hp6
      have hz6 := hb6.size
      clear c0_0 c2_0 c2_1
      have hr6_0 := (hb6.block _ (lt_heap hr5_0) (lt_heap hr5_0) (by omega)).trans hr5_0
      have hr6_1 := (hb6.block _ (lt_heap hr5_1) (lt_heap hr5_1) (by omega)).trans hr5_1
      have hr6_2 := (hb6.block _ (lt_heap hr5_2) (lt_heap hr5_2) (by omega)).trans hr5_2
      have HU6 := Lib.hid (HU5.out.trans (hb6.mono HU5.out.size))
      clear hr5_0 hr5_1 hr5_2 HU5
      have c0_0 := cell_of_row _ _ 0 _ _ _ hr6_0
      have c1_0 := cell_of_row _ _ 0 _ _ _ hr6_1
      have c1_1 := cell_of_row _ _ 1 _ _ _ hr6_1
      have c2_0 := cell_of_row _ _ 0 _ _ _ hr6_2
      have c2_1 := cell_of_row _ _ 1 _ _ _ hr6_2
      simp at c0_0 c1_0 c1_1 c2_0 c2_1
      have fz : ∀ j, y6.frozen? ⟨w.heap.size + 1, j, none⟩ = false := fun j => by simp [World.frozen?, hr6_1]
      go_wp2
      clear fz
      have hQ := part2 hr6_1 (.int .i64 W) (.int .i64 H)
      exact bodyPost_ret (v := .agg #[.int .i64 W, .int .i64 H]) (by simp [results, Try.results57, go_sem, hQ.1, hQ.2]) rfl ⟨rfl, (HP6.out.set (b := w.heap.size + 1) (by omega) 0 _).set (b := w.heap.size + 1) (by omega) 1 _, (HU6.out.setNew (b := w.heap.size + 1) (by omega) (by omega) 0 _).setNew (b := w.heap.size + 1) (by omega) (by omega) 1 _⟩
    · skip
      go_simp
      have hb3 := Ve.below_n1 y2 (.cells #[.int .i64 0, .int .i64 0] 32)
      have hp3 := HP2.out.new hb3
      have hb3 := Aft.of (g := g) (base := y2.heap.size) hb3
      have hN := heap_alloc_last y2 (.cells #[.int .i64 0, .int .i64 0] 32)
      obtain ⟨y3, hy3⟩ : ∃ y, y2.alloc (.cells #[.int .i64 0, .int .i64 0] 32) = y := ⟨_, rfl⟩
      rw [hy3] at hb3 hN hp3 ⊢
      clear hy3
      have HP3 := Lib.hid hp3
      have hz3 := hb3.size
      have hl3_0 := lt_heap hr2_0
      have hr3_0 := (hb3.block _ (lt_heap hr2_0) (lt_heap hr2_0) (by omega)).trans hr2_0
      have hl3_1 := lt_heap hr2_1
      have hr3_1 := (hb3.block _ (lt_heap hr2_1) (lt_heap hr2_1) (by omega)).trans hr2_1
      have hr3_2 := hN
      clear hN
      have HU3 := Lib.hid (HU2.out.trans (hb3.mono HU2.out.size))
      refine hK.out _ _ ((hb3.block _ (lt_heap hS2c) (lt_heap hS2c) (by omega)).trans hS2c) (fun hS3a => ?_)
      clear hK K
      refine wpAnyH_ready (rs := [5]) (by kernel_rfl) (by simp) ?_
      refine AllReadyH.cons rfl (fun K hK => ?_) AllReadyH.nil
      go_simp
      go_wp2_with (go_at_call 73; refine ((show Calls _ _ _ _ (fun e w' => e = .returned (.int .i64 H) ∧ RP (.pointer (some ⟨g, 0, none⟩)) g B t w' ∧ Aft g _ _ w') from by rw [HH.out, HT.out]; exact rhalf_any _ g (numS s 2).2 _ HP3.out)).mono ?_; rintro e y4 ⟨rfl, hp4, hb4⟩)
      have HP4 := Lib.hid hp4
      have hz4 := hb4.size
      have hr4_0 := (hb4.block _ (lt_heap hr3_0) (lt_heap hr3_0) (by omega)).trans hr3_0
      have hr4_1 := (hb4.block _ (lt_heap hr3_1) (lt_heap hr3_1) (by omega)).trans hr3_1
      have hr4_2 := (hb4.block _ (lt_heap hr3_2) (lt_heap hr3_2) (by omega)).trans hr3_2
      have HU4 := Lib.hid (HU3.out.trans (hb4.mono HU3.out.size))
      refine hK.out _ _ ((hb4.block _ (lt_heap hS3a) (lt_heap hS3a) (by omega)).trans hS3a) (fun hS4c => ?_)
      clear hK K
      refine wpAnyH_take (i := 6) (v := ?_) rfl (by kernel_rfl) (by kernel_rfl) (by kernel_rfl) (fun _ _ _ h => h) (Or.inl ⟨by kernel_rfl, by (intro wz hSz; go_simp; try with_reducible rfl)⟩) hS4c ?_
      go_simp
      refine wpAnyH_ready (rs := [8]) (by kernel_rfl) (by simp) ?_
      refine AllReadyH.cons rfl (fun K hK => ?_) AllReadyH.nil
      refine step_store_row rfl 32 (.tmp 3) (.tmp 10) rfl #[.int .i64 0, .int .i64 0] #[.int .i64 W, .int .i64 H] _ 32 hr4_2 rfl (by first | rfl | (go_simp; done) | (go_simp; rfl)) (by kernel_rfl) rfl (by simp [Value.oneCell']) ?_
      have hN := setRow_heap _ (y2.heap.size) _ #[.int .i64 W, .int .i64 H] _ _ hr4_2
      have hsz := HU4.out.size
      have HUx := aft_setRow (k := y2.heap.size) HU4.out (by omega) (by omega) #[.int .i64 W, .int .i64 H]
      have hPx := rp_setRow (k := y2.heap.size) HP4.out (by omega) #[.int .i64 W, .int .i64 H]
      obtain ⟨y5, hy5⟩ : ∃ y, y4.setRow (y2.heap.size) #[.int .i64 W, .int .i64 H] = y := ⟨_, rfl⟩
      have hO : ∀ k, k ≠ y2.heap.size → y5.heap[k]? = y4.heap[k]? := fun k hk => by rw [← hy5]; exact setRow_other _ _ _ _ hk
      rw [hy5] at hN HUx hPx ⊢
      clear hy5
      have HU5 := Lib.hid HUx
      clear HUx
      have HP5 := Lib.hid hPx
      have hz5 := HU5.out.size
      have hr5_0 := (hO _ (by omega)).trans hr4_0
      have hr5_1 := (hO _ (by omega)).trans hr4_1
      have hr5_2 := hN
      clear hN
      refine hK.out _ _ ((hO _ (by omega)).trans hS4c) (fun hS5s => ?_)
      clear hK K
      refine wpAnyH_done (by kernel_rfl) ?_ _
      have c0_0 := cell_of_row _ _ 0 _ _ _ hr5_0
      have c2_0 := cell_of_row _ _ 0 _ _ _ hr5_2
      have c2_1 := cell_of_row _ _ 1 _ _ _ hr5_2
      simp at c0_0 c2_0 c2_1
      go_wp2_with fail
      refine (szright_any W H _).mono ?_
      rintro e y6 ⟨rfl, hbb⟩
      rw [decide_eq_true HOK.out]
      have hp6 := HP5.out.new hbb
      have hb6 := Aft.of (g := g) (base := y5.heap.size) hbb
      clear hbb
      have HP6 := Lib.hid hp6
      have hz6 := hb6.size
      clear c0_0 c2_0 c2_1
      have hr6_0 := (hb6.block _ (lt_heap hr5_0) (lt_heap hr5_0) (by omega)).trans hr5_0
      have hr6_1 := (hb6.block _ (lt_heap hr5_1) (lt_heap hr5_1) (by omega)).trans hr5_1
      have hr6_2 := (hb6.block _ (lt_heap hr5_2) (lt_heap hr5_2) (by omega)).trans hr5_2
      have HU6 := Lib.hid (HU5.out.trans (hb6.mono HU5.out.size))
      clear hr5_0 hr5_1 hr5_2 HU5
      have c0_0 := cell_of_row _ _ 0 _ _ _ hr6_0
      have c1_0 := cell_of_row _ _ 0 _ _ _ hr6_1
      have c1_1 := cell_of_row _ _ 1 _ _ _ hr6_1
      have c2_0 := cell_of_row _ _ 0 _ _ _ hr6_2
      have c2_1 := cell_of_row _ _ 1 _ _ _ hr6_2
      simp at c0_0 c1_0 c1_1 c2_0 c2_1
      have fz : ∀ j, y6.frozen? ⟨w.heap.size + 1, j, none⟩ = false := fun j => by simp [World.frozen?, hr6_1]
      go_wp2
      clear fz
      have hQ := part2 hr6_1 (.int .i64 W) (.int .i64 H)
      exact bodyPost_ret (v := .agg #[.int .i64 W, .int .i64 H]) (by simp [results, Try.results57, go_sem, hQ.1, hQ.2]) rfl ⟨rfl, (HP6.out.set (b := w.heap.size + 1) (by omega) 0 _).set (b := w.heap.size + 1) (by omega) 1 _, (HU6.out.setNew (b := w.heap.size + 1) (by omega) (by omega) 0 _).setNew (b := w.heap.size + 1) (by omega) (by omega) 1 _⟩
  · skip
    go_simp
    have hb2 := Ve.below_n1 y1 (.cells #[.int .i64 0, .int .i64 0] 32)
    have hp2 := HP1.out.new hb2
    have hb2 := Aft.of (g := g) (base := y1.heap.size) hb2
    have hN := heap_alloc_last y1 (.cells #[.int .i64 0, .int .i64 0] 32)
    obtain ⟨y2, hy2⟩ : ∃ y, y1.alloc (.cells #[.int .i64 0, .int .i64 0] 32) = y := ⟨_, rfl⟩
    rw [hy2] at hb2 hN hp2 ⊢
    clear hy2
    have HP2 := Lib.hid hp2
    have hz2 := hb2.size
    have hl2_0 := lt_heap hr1_0
    have hr2_0 := (hb2.block _ (lt_heap hr1_0) (lt_heap hr1_0) (by omega)).trans hr1_0
    have hl2_1 := lt_heap hr1_1
    have hr2_1 := (hb2.block _ (lt_heap hr1_1) (lt_heap hr1_1) (by omega)).trans hr1_1
    have hr2_2 := hN
    clear hN
    have HU2 := Lib.hid (HU1.out.trans (hb2.mono HU1.out.size))
    refine hK.out _ _ ((hb2.block _ (lt_heap hS0) (lt_heap hS0) (by omega)).trans hS0) (fun hS2a => ?_)
    clear hK K
    refine wpAnyH_ready (rs := [2]) (by kernel_rfl) (by simp) ?_
    refine AllReadyH.cons rfl (fun K hK => ?_) AllReadyH.nil
    go_simp
    go_wp2_with (go_at_call 73; refine ((show Calls _ _ _ _ (fun e w' => e = .returned (.int .i64 W) ∧ RP (.pointer (some ⟨g, 0, none⟩)) g B (numS s 2).2 w' ∧ Aft g _ _ w') from by rw [HW.out]; exact rhalf_any _ g s _ HP2.out)).mono ?_; rintro e y3 ⟨rfl, hp3, hb3⟩)
    have HP3 := Lib.hid hp3
    have hz3 := hb3.size
    have hr3_0 := (hb3.block _ (lt_heap hr2_0) (lt_heap hr2_0) (by omega)).trans hr2_0
    have hr3_1 := (hb3.block _ (lt_heap hr2_1) (lt_heap hr2_1) (by omega)).trans hr2_1
    have hr3_2 := (hb3.block _ (lt_heap hr2_2) (lt_heap hr2_2) (by omega)).trans hr2_2
    have HU3 := Lib.hid (HU2.out.trans (hb3.mono HU2.out.size))
    refine hK.out _ _ ((hb3.block _ (lt_heap hS2a) (lt_heap hS2a) (by omega)).trans hS2a) (fun hS3c => ?_)
    clear hK K
    refine wpAnyH_ready (rs := [5]) (by kernel_rfl) (by simp) ?_
    refine AllReadyH.cons rfl (fun K hK => ?_) AllReadyH.nil
    go_simp
    go_wp2_with (go_at_call 73; refine ((show Calls _ _ _ _ (fun e w' => e = .returned (.int .i64 H) ∧ RP (.pointer (some ⟨g, 0, none⟩)) g B t w' ∧ Aft g _ _ w') from by rw [HH.out, HT.out]; exact rhalf_any _ g (numS s 2).2 _ HP3.out)).mono ?_; rintro e y4 ⟨rfl, hp4, hb4⟩)
    have HP4 := Lib.hid hp4
    have hz4 := hb4.size
    have hr4_0 := (hb4.block _ (lt_heap hr3_0) (lt_heap hr3_0) (by omega)).trans hr3_0
    have hr4_1 := (hb4.block _ (lt_heap hr3_1) (lt_heap hr3_1) (by omega)).trans hr3_1
    have hr4_2 := (hb4.block _ (lt_heap hr3_2) (lt_heap hr3_2) (by omega)).trans hr3_2
    have HU4 := Lib.hid (HU3.out.trans (hb4.mono HU3.out.size))
    refine hK.out _ _ ((hb4.block _ (lt_heap hS3c) (lt_heap hS3c) (by omega)).trans hS3c) (fun hS4c => ?_)
    clear hK K
    refine wpAnyH_take (i := 6) (v := ?_) rfl (by kernel_rfl) (by kernel_rfl) (by kernel_rfl) (fun _ _ _ h => h) (Or.inl ⟨by kernel_rfl, by (intro wz hSz; go_simp; try with_reducible rfl)⟩) hS4c ?_
    go_simp
    refine wpAnyH_ready (rs := [8]) (by kernel_rfl) (by simp) ?_
    refine AllReadyH.cons rfl (fun K hK => ?_) AllReadyH.nil
    refine step_store_row rfl 32 (.tmp 3) (.tmp 10) rfl #[.int .i64 0, .int .i64 0] #[.int .i64 W, .int .i64 H] _ 32 hr4_2 rfl (by first | rfl | (go_simp; done) | (go_simp; rfl)) (by kernel_rfl) rfl (by simp [Value.oneCell']) ?_
    have hN := setRow_heap _ (y1.heap.size) _ #[.int .i64 W, .int .i64 H] _ _ hr4_2
    have hsz := HU4.out.size
    have HUx := aft_setRow (k := y1.heap.size) HU4.out (by omega) (by omega) #[.int .i64 W, .int .i64 H]
    have hPx := rp_setRow (k := y1.heap.size) HP4.out (by omega) #[.int .i64 W, .int .i64 H]
    obtain ⟨y5, hy5⟩ : ∃ y, y4.setRow (y1.heap.size) #[.int .i64 W, .int .i64 H] = y := ⟨_, rfl⟩
    have hO : ∀ k, k ≠ y1.heap.size → y5.heap[k]? = y4.heap[k]? := fun k hk => by rw [← hy5]; exact setRow_other _ _ _ _ hk
    rw [hy5] at hN HUx hPx ⊢
    clear hy5
    have HU5 := Lib.hid HUx
    clear HUx
    have HP5 := Lib.hid hPx
    have hz5 := HU5.out.size
    have hr5_0 := (hO _ (by omega)).trans hr4_0
    have hr5_1 := (hO _ (by omega)).trans hr4_1
    have hr5_2 := hN
    clear hN
    refine hK.out _ _ ((hO _ (by omega)).trans hS4c) (fun hS5s => ?_)
    clear hK K
    refine wpAnyH_done (by kernel_rfl) ?_ _
    have c0_0 := cell_of_row _ _ 0 _ _ _ hr5_0
    have c2_0 := cell_of_row _ _ 0 _ _ _ hr5_2
    have c2_1 := cell_of_row _ _ 1 _ _ _ hr5_2
    simp at c0_0 c2_0 c2_1
    go_wp2_with fail
    refine (szright_any W H _).mono ?_
    rintro e y6 ⟨rfl, hbb⟩
    rw [decide_eq_true HOK.out]
    have hp6 := HP5.out.new hbb
    have hb6 := Aft.of (g := g) (base := y5.heap.size) hbb
    clear hbb
    have HP6 := Lib.hid hp6
    have hz6 := hb6.size
    clear c0_0 c2_0 c2_1
    have hr6_0 := (hb6.block _ (lt_heap hr5_0) (lt_heap hr5_0) (by omega)).trans hr5_0
    have hr6_1 := (hb6.block _ (lt_heap hr5_1) (lt_heap hr5_1) (by omega)).trans hr5_1
    have hr6_2 := (hb6.block _ (lt_heap hr5_2) (lt_heap hr5_2) (by omega)).trans hr5_2
    have HU6 := Lib.hid (HU5.out.trans (hb6.mono HU5.out.size))
    clear hr5_0 hr5_1 hr5_2 HU5
    have c0_0 := cell_of_row _ _ 0 _ _ _ hr6_0
    have c1_0 := cell_of_row _ _ 0 _ _ _ hr6_1
    have c1_1 := cell_of_row _ _ 1 _ _ _ hr6_1
    have c2_0 := cell_of_row _ _ 0 _ _ _ hr6_2
    have c2_1 := cell_of_row _ _ 1 _ _ _ hr6_2
    simp at c0_0 c1_0 c1_1 c2_0 c2_1
    have fz : ∀ j, y6.frozen? ⟨w.heap.size + 1, j, none⟩ = false := fun j => by simp [World.frozen?, hr6_1]
    go_wp2
    clear fz
    have hQ := part2 hr6_1 (.int .i64 W) (.int .i64 H)
    exact bodyPost_ret (v := .agg #[.int .i64 W, .int .i64 H]) (by simp [results, Try.results57, go_sem, hQ.1, hQ.2]) rfl ⟨rfl, (HP6.out.set (b := w.heap.size + 1) (by omega) 0 _).set (b := w.heap.size + 1) (by omega) 1 _, (HU6.out.setNew (b := w.heap.size + 1) (by omega) (by omega) 0 _).setNew (b := w.heap.size + 1) (by omega) (by omega) 1 _⟩

set_option maxHeartbeats 8000000 in
set_option maxRecDepth 100000 in
theorem fsize_no (g : Nat) {B : Nat} (s : St) (W H : Int) (t : St) (w : World) (hw : RP (.pointer (some ⟨g, 0, none⟩)) g B s w) (hg : g < w.heap.size) (hB : B ≤ w.heap.size) (hW : W = szW s) (hH : H = szH s) (ht : t = szT s) (hok : ¬ okSz W H) : Calls Try.prog 57 #[.agg #[.pointer (some ⟨g, 0, none⟩)]] w fun e' w' => e' = .returned (.agg #[.int .i64 0, .int .i64 0]) ∧ RP (.pointer (some ⟨g, 0, none⟩)) g B (failS t 10) w' ∧ Aft g w.heap.size w w' := by
  have HPw := Lib.hid hw
  clear hw
  have HW := Lib.hid hW
  have HH := Lib.hid hH
  have HT := Lib.hid ht
  have HOK := Lib.hid hok
  clear hW hH ht hok
  go_enter Try.func57, Try.ntmps57
  go_upto_region 1 with fail
  have hR := Au.rows2 w (.cells #[.pointer (some ⟨g, 0, none⟩)] 92) (.cells #[.int .i64 0, .int .i64 0] 32)
  have HUx := Ve.below_n2 w (.cells #[.pointer (some ⟨g, 0, none⟩)] 92) (.cells #[.int .i64 0, .int .i64 0] 32)
  obtain ⟨y0, hy0⟩ : ∃ y0, (w.alloc (.cells #[.pointer (some ⟨g, 0, none⟩)] 92)).alloc (.cells #[.int .i64 0, .int .i64 0] 32) = y0 := ⟨_, rfl⟩
  rw [hy0] at hR HUx ⊢
  clear hy0
  have HP0 := Lib.hid (HPw.out.new HUx)
  have hz0 := HUx.size
  have HU0 := Lib.hid (Aft.of (g := g) (base := w.heap.size) HUx)
  clear HUx
  obtain ⟨hr0_0, hr0_1⟩ := hR
  refine wp_region_held_drew (S := fun y => y.heap[w.heap.size]? = some (.cells #[.pointer (some ⟨g, 0, none⟩)] 92 (0, 0))) (by kernel_rfl) (hr0_0) (fun hS0 => ?_)
  obtain ⟨y1, hy1⟩ : ∃ y, y0.drew = y := ⟨_, rfl⟩
  have HU1 := Lib.hid (show Aft g w.heap.size w y1 by rw [← hy1]; exact HU0.out.drew)
  have HP1 := Lib.hid (show RP (.pointer (some ⟨g, 0, none⟩)) g B _ y1 by rw [← hy1]; exact rp_drew HP0.out)
  have hz1 := HU1.out.size
  have hr1_0 : y1.heap[w.heap.size]? = some (.cells #[.pointer (some ⟨g, 0, none⟩)] 92 (0, 0)) := by rw [← hy1]; exact hr0_0
  have hr1_1 : y1.heap[w.heap.size + 1]? = some (.cells #[.int .i64 0, .int .i64 0] 32 (0, 0)) := by rw [← hy1]; exact hr0_1
  have hl1_0 := lt_heap hr1_0
  have hl1_1 := lt_heap hr1_1
  rw [hy1] at hS0 ⊢
  clear hy1
  refine wpAnyH_take (i := 0) (v := ?_) rfl (by kernel_rfl) (by kernel_rfl) (by kernel_rfl) (fun _ _ _ h => h) (Or.inl ⟨by kernel_rfl, by (intro wz hSz; go_simp; try with_reducible rfl)⟩) hS0 ?_
  go_simp
  refine wpAnyH_take (i := 1) (v := ?_) rfl (by kernel_rfl) (by kernel_rfl) (by kernel_rfl) (fun _ _ _ h => h) (Or.inl ⟨by kernel_rfl, by (intro wz hSz; have c0_0 := cell_of_row _ _ 0 _ _ _ hSz; simp at c0_0; go_simp; try with_reducible rfl)⟩) hS0 ?_
  go_simp
  refine wpAnyH_take (i := 3) (v := ?_) rfl (by kernel_rfl) (by kernel_rfl) (by kernel_rfl) (fun _ _ _ h => h) (Or.inl ⟨by kernel_rfl, by (intro wz hSz; go_simp; try with_reducible rfl)⟩) hS0 ?_
  go_simp
  refine wpAnyH_take (i := 4) (v := ?_) rfl (by kernel_rfl) (by kernel_rfl) (by kernel_rfl) (fun _ _ _ h => h) (Or.inl ⟨by kernel_rfl, by (intro wz hSz; have c0_0 := cell_of_row _ _ 0 _ _ _ hSz; simp at c0_0; go_simp; try with_reducible rfl)⟩) hS0 ?_
  go_simp
  refine wpAnyH_ready (rs := [2, 7]) (by kernel_rfl) (by simp) ?_
  refine AllReadyH.cons rfl (fun K hK => ?_) (AllReadyH.cons rfl (fun K hK => ?_) AllReadyH.nil)
  · skip
    go_simp
    go_wp2_with (go_at_call 73; refine ((show Calls _ _ _ _ (fun e w' => e = .returned (.int .i64 W) ∧ RP (.pointer (some ⟨g, 0, none⟩)) g B (numS s 2).2 w' ∧ Aft g _ _ w') from by rw [HW.out]; exact rhalf_any _ g s _ HP1.out)).mono ?_; rintro e y2 ⟨rfl, hp2, hb2⟩)
    have HP2 := Lib.hid hp2
    have hz2 := hb2.size
    have hr2_0 := (hb2.block _ (lt_heap hr1_0) (lt_heap hr1_0) (by omega)).trans hr1_0
    have hr2_1 := (hb2.block _ (lt_heap hr1_1) (lt_heap hr1_1) (by omega)).trans hr1_1
    have HU2 := Lib.hid (HU1.out.trans (hb2.mono HU1.out.size))
    refine hK.out _ _ ((hb2.block _ (lt_heap hS0) (lt_heap hS0) (by omega)).trans hS0) (fun hS2c => ?_)
    clear hK K
    refine wpAnyH_ready (rs := [5, 7]) (by kernel_rfl) (by simp) ?_
    refine AllReadyH.cons rfl (fun K hK => ?_) (AllReadyH.cons rfl (fun K hK => ?_) AllReadyH.nil)
    · skip
      go_simp
      go_wp2_with (go_at_call 73; refine ((show Calls _ _ _ _ (fun e w' => e = .returned (.int .i64 H) ∧ RP (.pointer (some ⟨g, 0, none⟩)) g B t w' ∧ Aft g _ _ w') from by rw [HH.out, HT.out]; exact rhalf_any _ g (numS s 2).2 _ HP2.out)).mono ?_; rintro e y3 ⟨rfl, hp3, hb3⟩)
      have HP3 := Lib.hid hp3
      have hz3 := hb3.size
      have hr3_0 := (hb3.block _ (lt_heap hr2_0) (lt_heap hr2_0) (by omega)).trans hr2_0
      have hr3_1 := (hb3.block _ (lt_heap hr2_1) (lt_heap hr2_1) (by omega)).trans hr2_1
      have HU3 := Lib.hid (HU2.out.trans (hb3.mono HU2.out.size))
      refine hK.out _ _ ((hb3.block _ (lt_heap hS2c) (lt_heap hS2c) (by omega)).trans hS2c) (fun hS3c => ?_)
      clear hK K
      refine wpAnyH_take (i := 6) (v := ?_) rfl (by kernel_rfl) (by kernel_rfl) (by kernel_rfl) (fun _ _ _ h => h) (Or.inl ⟨by kernel_rfl, by (intro wz hSz; go_simp; try with_reducible rfl)⟩) hS3c ?_
      go_simp
      refine wpAnyH_ready (rs := [7]) (by kernel_rfl) (by simp) ?_
      refine AllReadyH.cons rfl (fun K hK => ?_) AllReadyH.nil
      go_simp
      have hb4 := Ve.below_n1 y3 (.cells #[.int .i64 0, .int .i64 0] 32)
      have hp4 := HP3.out.new hb4
      have hb4 := Aft.of (g := g) (base := y3.heap.size) hb4
      have hN := heap_alloc_last y3 (.cells #[.int .i64 0, .int .i64 0] 32)
      obtain ⟨y4, hy4⟩ : ∃ y, y3.alloc (.cells #[.int .i64 0, .int .i64 0] 32) = y := ⟨_, rfl⟩
      rw [hy4] at hb4 hN hp4 ⊢
      clear hy4
      have HP4 := Lib.hid hp4
      have hz4 := hb4.size
      have hl4_0 := lt_heap hr3_0
      have hr4_0 := (hb4.block _ (lt_heap hr3_0) (lt_heap hr3_0) (by omega)).trans hr3_0
      have hl4_1 := lt_heap hr3_1
      have hr4_1 := (hb4.block _ (lt_heap hr3_1) (lt_heap hr3_1) (by omega)).trans hr3_1
      have hr4_2 := hN
      clear hN
      have HU4 := Lib.hid (HU3.out.trans (hb4.mono HU3.out.size))
      refine hK.out _ _ ((hb4.block _ (lt_heap hS3c) (lt_heap hS3c) (by omega)).trans hS3c) (fun hS4a => ?_)
      clear hK K
      refine wpAnyH_ready (rs := [8]) (by kernel_rfl) (by simp) ?_
      refine AllReadyH.cons rfl (fun K hK => ?_) AllReadyH.nil
      refine step_store_row rfl 32 (.tmp 3) (.tmp 10) rfl #[.int .i64 0, .int .i64 0] #[.int .i64 W, .int .i64 H] _ 32 hr4_2 rfl (by first | rfl | (go_simp; done) | (go_simp; rfl)) (by kernel_rfl) rfl (by simp [Value.oneCell']) ?_
      have hN := setRow_heap _ (y3.heap.size) _ #[.int .i64 W, .int .i64 H] _ _ hr4_2
      have hsz := HU4.out.size
      have HUx := aft_setRow (k := y3.heap.size) HU4.out (by omega) (by omega) #[.int .i64 W, .int .i64 H]
      have hPx := rp_setRow (k := y3.heap.size) HP4.out (by omega) #[.int .i64 W, .int .i64 H]
      obtain ⟨y5, hy5⟩ : ∃ y, y4.setRow (y3.heap.size) #[.int .i64 W, .int .i64 H] = y := ⟨_, rfl⟩
      have hO : ∀ k, k ≠ y3.heap.size → y5.heap[k]? = y4.heap[k]? := fun k hk => by rw [← hy5]; exact setRow_other _ _ _ _ hk
      rw [hy5] at hN HUx hPx ⊢
      clear hy5
      have HU5 := Lib.hid HUx
      clear HUx
      have HP5 := Lib.hid hPx
      have hz5 := HU5.out.size
      have hr5_0 := (hO _ (by omega)).trans hr4_0
      have hr5_1 := (hO _ (by omega)).trans hr4_1
      have hr5_2 := hN
      clear hN
      refine hK.out _ _ ((hO _ (by omega)).trans hS4a) (fun hS5s => ?_)
      clear hK K
      refine wpAnyH_done (by kernel_rfl) ?_ _
      have c0_0 := cell_of_row _ _ 0 _ _ _ hr5_0
      have c2_0 := cell_of_row _ _ 0 _ _ _ hr5_2
      have c2_1 := cell_of_row _ _ 1 _ _ _ hr5_2
      simp at c0_0 c2_0 c2_1
      go_wp2_with fail
      refine (szright_any W H _).mono ?_
      rintro e y6 ⟨rfl, hbb⟩
      rw [decide_eq_false HOK.out]
      have hp6 := HP5.out.new hbb
      have hb6 := Aft.of (g := g) (base := y5.heap.size) hbb
      clear hbb
      have HP6 := Lib.hid hp6
      have hz6 := hb6.size
      clear c0_0 c2_0 c2_1
      have hr6_0 := (hb6.block _ (lt_heap hr5_0) (lt_heap hr5_0) (by omega)).trans hr5_0
      have hr6_1 := (hb6.block _ (lt_heap hr5_1) (lt_heap hr5_1) (by omega)).trans hr5_1
      have hr6_2 := (hb6.block _ (lt_heap hr5_2) (lt_heap hr5_2) (by omega)).trans hr5_2
      have HU6 := Lib.hid (HU5.out.trans (hb6.mono HU5.out.size))
      clear hr5_0 hr5_1 hr5_2 HU5
      have c0_0 := cell_of_row _ _ 0 _ _ _ hr6_0
      have c2_0 := cell_of_row _ _ 0 _ _ _ hr6_2
      have c2_1 := cell_of_row _ _ 1 _ _ _ hr6_2
      simp at c0_0 c2_0 c2_1
      go_wp2_with fail
      refine (fail_any _ g t 10 _ HP6.out).mono ?_
      rintro e y7 ⟨rfl, hp7, hb7⟩
      have HP7 := Lib.hid hp7
      have hz7 := hb7.size
      clear c0_0 c2_0 c2_1
      have hr7_0 := (hb7.block _ (lt_heap hr6_0) (lt_heap hr6_0) (by omega)).trans hr6_0
      have hr7_1 := (hb7.block _ (lt_heap hr6_1) (lt_heap hr6_1) (by omega)).trans hr6_1
      have hr7_2 := (hb7.block _ (lt_heap hr6_2) (lt_heap hr6_2) (by omega)).trans hr6_2
      have HU7 := Lib.hid (HU6.out.trans (hb7.mono HU6.out.size))
      clear hr6_0 hr6_1 hr6_2 HU6
      have c0_0 := cell_of_row _ _ 0 _ _ _ hr7_0
      have c1_0 := cell_of_row _ _ 0 _ _ _ hr7_1
      have c1_1 := cell_of_row _ _ 1 _ _ _ hr7_1
      have c2_0 := cell_of_row _ _ 0 _ _ _ hr7_2
      have c2_1 := cell_of_row _ _ 1 _ _ _ hr7_2
      simp at c0_0 c1_0 c1_1 c2_0 c2_1
      have fz : ∀ j, y7.frozen? ⟨w.heap.size + 1, j, none⟩ = false := fun j => by simp [World.frozen?, hr7_1]
      go_wp2
      clear fz
      have hQ := part2 hr7_1 (.int .i64 0) (.int .i64 0)
      exact bodyPost_ret (v := .agg #[.int .i64 0, .int .i64 0]) (by simp [results, Try.results57, go_sem, hQ.1, hQ.2]) rfl ⟨rfl, (HP7.out.set (b := w.heap.size + 1) (by omega) 0 _).set (b := w.heap.size + 1) (by omega) 1 _, (HU7.out.setNew (b := w.heap.size + 1) (by omega) (by omega) 0 _).setNew (b := w.heap.size + 1) (by omega) (by omega) 1 _⟩
    · skip
      go_simp
      have hb3 := Ve.below_n1 y2 (.cells #[.int .i64 0, .int .i64 0] 32)
      have hp3 := HP2.out.new hb3
      have hb3 := Aft.of (g := g) (base := y2.heap.size) hb3
      have hN := heap_alloc_last y2 (.cells #[.int .i64 0, .int .i64 0] 32)
      obtain ⟨y3, hy3⟩ : ∃ y, y2.alloc (.cells #[.int .i64 0, .int .i64 0] 32) = y := ⟨_, rfl⟩
      rw [hy3] at hb3 hN hp3 ⊢
      clear hy3
      have HP3 := Lib.hid hp3
      have hz3 := hb3.size
      have hl3_0 := lt_heap hr2_0
      have hr3_0 := (hb3.block _ (lt_heap hr2_0) (lt_heap hr2_0) (by omega)).trans hr2_0
      have hl3_1 := lt_heap hr2_1
      have hr3_1 := (hb3.block _ (lt_heap hr2_1) (lt_heap hr2_1) (by omega)).trans hr2_1
      have hr3_2 := hN
      clear hN
      have HU3 := Lib.hid (HU2.out.trans (hb3.mono HU2.out.size))
      refine hK.out _ _ ((hb3.block _ (lt_heap hS2c) (lt_heap hS2c) (by omega)).trans hS2c) (fun hS3a => ?_)
      clear hK K
      refine wpAnyH_ready (rs := [5]) (by kernel_rfl) (by simp) ?_
      refine AllReadyH.cons rfl (fun K hK => ?_) AllReadyH.nil
      go_simp
      go_wp2_with (go_at_call 73; refine ((show Calls _ _ _ _ (fun e w' => e = .returned (.int .i64 H) ∧ RP (.pointer (some ⟨g, 0, none⟩)) g B t w' ∧ Aft g _ _ w') from by rw [HH.out, HT.out]; exact rhalf_any _ g (numS s 2).2 _ HP3.out)).mono ?_; rintro e y4 ⟨rfl, hp4, hb4⟩)
      have HP4 := Lib.hid hp4
      have hz4 := hb4.size
      have hr4_0 := (hb4.block _ (lt_heap hr3_0) (lt_heap hr3_0) (by omega)).trans hr3_0
      have hr4_1 := (hb4.block _ (lt_heap hr3_1) (lt_heap hr3_1) (by omega)).trans hr3_1
      have hr4_2 := (hb4.block _ (lt_heap hr3_2) (lt_heap hr3_2) (by omega)).trans hr3_2
      have HU4 := Lib.hid (HU3.out.trans (hb4.mono HU3.out.size))
      refine hK.out _ _ ((hb4.block _ (lt_heap hS3a) (lt_heap hS3a) (by omega)).trans hS3a) (fun hS4c => ?_)
      clear hK K
      refine wpAnyH_take (i := 6) (v := ?_) rfl (by kernel_rfl) (by kernel_rfl) (by kernel_rfl) (fun _ _ _ h => h) (Or.inl ⟨by kernel_rfl, by (intro wz hSz; go_simp; try with_reducible rfl)⟩) hS4c ?_
      go_simp
      refine wpAnyH_ready (rs := [8]) (by kernel_rfl) (by simp) ?_
      refine AllReadyH.cons rfl (fun K hK => ?_) AllReadyH.nil
      refine step_store_row rfl 32 (.tmp 3) (.tmp 10) rfl #[.int .i64 0, .int .i64 0] #[.int .i64 W, .int .i64 H] _ 32 hr4_2 rfl (by first | rfl | (go_simp; done) | (go_simp; rfl)) (by kernel_rfl) rfl (by simp [Value.oneCell']) ?_
      have hN := setRow_heap _ (y2.heap.size) _ #[.int .i64 W, .int .i64 H] _ _ hr4_2
      have hsz := HU4.out.size
      have HUx := aft_setRow (k := y2.heap.size) HU4.out (by omega) (by omega) #[.int .i64 W, .int .i64 H]
      have hPx := rp_setRow (k := y2.heap.size) HP4.out (by omega) #[.int .i64 W, .int .i64 H]
      obtain ⟨y5, hy5⟩ : ∃ y, y4.setRow (y2.heap.size) #[.int .i64 W, .int .i64 H] = y := ⟨_, rfl⟩
      have hO : ∀ k, k ≠ y2.heap.size → y5.heap[k]? = y4.heap[k]? := fun k hk => by rw [← hy5]; exact setRow_other _ _ _ _ hk
      rw [hy5] at hN HUx hPx ⊢
      clear hy5
      have HU5 := Lib.hid HUx
      clear HUx
      have HP5 := Lib.hid hPx
      have hz5 := HU5.out.size
      have hr5_0 := (hO _ (by omega)).trans hr4_0
      have hr5_1 := (hO _ (by omega)).trans hr4_1
      have hr5_2 := hN
      clear hN
      refine hK.out _ _ ((hO _ (by omega)).trans hS4c) (fun hS5s => ?_)
      clear hK K
      refine wpAnyH_done (by kernel_rfl) ?_ _
      have c0_0 := cell_of_row _ _ 0 _ _ _ hr5_0
      have c2_0 := cell_of_row _ _ 0 _ _ _ hr5_2
      have c2_1 := cell_of_row _ _ 1 _ _ _ hr5_2
      simp at c0_0 c2_0 c2_1
      go_wp2_with fail
      refine (szright_any W H _).mono ?_
      rintro e y6 ⟨rfl, hbb⟩
      rw [decide_eq_false HOK.out]
      have hp6 := HP5.out.new hbb
      have hb6 := Aft.of (g := g) (base := y5.heap.size) hbb
      clear hbb
      have HP6 := Lib.hid hp6
      have hz6 := hb6.size
      clear c0_0 c2_0 c2_1
      have hr6_0 := (hb6.block _ (lt_heap hr5_0) (lt_heap hr5_0) (by omega)).trans hr5_0
      have hr6_1 := (hb6.block _ (lt_heap hr5_1) (lt_heap hr5_1) (by omega)).trans hr5_1
      have hr6_2 := (hb6.block _ (lt_heap hr5_2) (lt_heap hr5_2) (by omega)).trans hr5_2
      have HU6 := Lib.hid (HU5.out.trans (hb6.mono HU5.out.size))
      clear hr5_0 hr5_1 hr5_2 HU5
      have c0_0 := cell_of_row _ _ 0 _ _ _ hr6_0
      have c2_0 := cell_of_row _ _ 0 _ _ _ hr6_2
      have c2_1 := cell_of_row _ _ 1 _ _ _ hr6_2
      simp at c0_0 c2_0 c2_1
      go_wp2_with fail
      refine (fail_any _ g t 10 _ HP6.out).mono ?_
      rintro e y7 ⟨rfl, hp7, hb7⟩
      have HP7 := Lib.hid hp7
      have hz7 := hb7.size
      clear c0_0 c2_0 c2_1
      have hr7_0 := (hb7.block _ (lt_heap hr6_0) (lt_heap hr6_0) (by omega)).trans hr6_0
      have hr7_1 := (hb7.block _ (lt_heap hr6_1) (lt_heap hr6_1) (by omega)).trans hr6_1
      have hr7_2 := (hb7.block _ (lt_heap hr6_2) (lt_heap hr6_2) (by omega)).trans hr6_2
      have HU7 := Lib.hid (HU6.out.trans (hb7.mono HU6.out.size))
      clear hr6_0 hr6_1 hr6_2 HU6
      have c0_0 := cell_of_row _ _ 0 _ _ _ hr7_0
      have c1_0 := cell_of_row _ _ 0 _ _ _ hr7_1
      have c1_1 := cell_of_row _ _ 1 _ _ _ hr7_1
      have c2_0 := cell_of_row _ _ 0 _ _ _ hr7_2
      have c2_1 := cell_of_row _ _ 1 _ _ _ hr7_2
      simp at c0_0 c1_0 c1_1 c2_0 c2_1
      have fz : ∀ j, y7.frozen? ⟨w.heap.size + 1, j, none⟩ = false := fun j => by simp [World.frozen?, hr7_1]
      go_wp2
      clear fz
      have hQ := part2 hr7_1 (.int .i64 0) (.int .i64 0)
      exact bodyPost_ret (v := .agg #[.int .i64 0, .int .i64 0]) (by simp [results, Try.results57, go_sem, hQ.1, hQ.2]) rfl ⟨rfl, (HP7.out.set (b := w.heap.size + 1) (by omega) 0 _).set (b := w.heap.size + 1) (by omega) 1 _, (HU7.out.setNew (b := w.heap.size + 1) (by omega) (by omega) 0 _).setNew (b := w.heap.size + 1) (by omega) (by omega) 1 _⟩
  · skip
    go_simp
    have hb2 := Ve.below_n1 y1 (.cells #[.int .i64 0, .int .i64 0] 32)
    have hp2 := HP1.out.new hb2
    have hb2 := Aft.of (g := g) (base := y1.heap.size) hb2
    have hN := heap_alloc_last y1 (.cells #[.int .i64 0, .int .i64 0] 32)
    obtain ⟨y2, hy2⟩ : ∃ y, y1.alloc (.cells #[.int .i64 0, .int .i64 0] 32) = y := ⟨_, rfl⟩
    rw [hy2] at hb2 hN hp2 ⊢
    clear hy2
    have HP2 := Lib.hid hp2
    have hz2 := hb2.size
    have hl2_0 := lt_heap hr1_0
    have hr2_0 := (hb2.block _ (lt_heap hr1_0) (lt_heap hr1_0) (by omega)).trans hr1_0
    have hl2_1 := lt_heap hr1_1
    have hr2_1 := (hb2.block _ (lt_heap hr1_1) (lt_heap hr1_1) (by omega)).trans hr1_1
    have hr2_2 := hN
    clear hN
    have HU2 := Lib.hid (HU1.out.trans (hb2.mono HU1.out.size))
    refine hK.out _ _ ((hb2.block _ (lt_heap hS0) (lt_heap hS0) (by omega)).trans hS0) (fun hS2a => ?_)
    clear hK K
    refine wpAnyH_ready (rs := [2]) (by kernel_rfl) (by simp) ?_
    refine AllReadyH.cons rfl (fun K hK => ?_) AllReadyH.nil
    go_simp
    go_wp2_with (go_at_call 73; refine ((show Calls _ _ _ _ (fun e w' => e = .returned (.int .i64 W) ∧ RP (.pointer (some ⟨g, 0, none⟩)) g B (numS s 2).2 w' ∧ Aft g _ _ w') from by rw [HW.out]; exact rhalf_any _ g s _ HP2.out)).mono ?_; rintro e y3 ⟨rfl, hp3, hb3⟩)
    have HP3 := Lib.hid hp3
    have hz3 := hb3.size
    have hr3_0 := (hb3.block _ (lt_heap hr2_0) (lt_heap hr2_0) (by omega)).trans hr2_0
    have hr3_1 := (hb3.block _ (lt_heap hr2_1) (lt_heap hr2_1) (by omega)).trans hr2_1
    have hr3_2 := (hb3.block _ (lt_heap hr2_2) (lt_heap hr2_2) (by omega)).trans hr2_2
    have HU3 := Lib.hid (HU2.out.trans (hb3.mono HU2.out.size))
    refine hK.out _ _ ((hb3.block _ (lt_heap hS2a) (lt_heap hS2a) (by omega)).trans hS2a) (fun hS3c => ?_)
    clear hK K
    refine wpAnyH_ready (rs := [5]) (by kernel_rfl) (by simp) ?_
    refine AllReadyH.cons rfl (fun K hK => ?_) AllReadyH.nil
    go_simp
    go_wp2_with (go_at_call 73; refine ((show Calls _ _ _ _ (fun e w' => e = .returned (.int .i64 H) ∧ RP (.pointer (some ⟨g, 0, none⟩)) g B t w' ∧ Aft g _ _ w') from by rw [HH.out, HT.out]; exact rhalf_any _ g (numS s 2).2 _ HP3.out)).mono ?_; rintro e y4 ⟨rfl, hp4, hb4⟩)
    have HP4 := Lib.hid hp4
    have hz4 := hb4.size
    have hr4_0 := (hb4.block _ (lt_heap hr3_0) (lt_heap hr3_0) (by omega)).trans hr3_0
    have hr4_1 := (hb4.block _ (lt_heap hr3_1) (lt_heap hr3_1) (by omega)).trans hr3_1
    have hr4_2 := (hb4.block _ (lt_heap hr3_2) (lt_heap hr3_2) (by omega)).trans hr3_2
    have HU4 := Lib.hid (HU3.out.trans (hb4.mono HU3.out.size))
    refine hK.out _ _ ((hb4.block _ (lt_heap hS3c) (lt_heap hS3c) (by omega)).trans hS3c) (fun hS4c => ?_)
    clear hK K
    refine wpAnyH_take (i := 6) (v := ?_) rfl (by kernel_rfl) (by kernel_rfl) (by kernel_rfl) (fun _ _ _ h => h) (Or.inl ⟨by kernel_rfl, by (intro wz hSz; go_simp; try with_reducible rfl)⟩) hS4c ?_
    go_simp
    refine wpAnyH_ready (rs := [8]) (by kernel_rfl) (by simp) ?_
    refine AllReadyH.cons rfl (fun K hK => ?_) AllReadyH.nil
    refine step_store_row rfl 32 (.tmp 3) (.tmp 10) rfl #[.int .i64 0, .int .i64 0] #[.int .i64 W, .int .i64 H] _ 32 hr4_2 rfl (by first | rfl | (go_simp; done) | (go_simp; rfl)) (by kernel_rfl) rfl (by simp [Value.oneCell']) ?_
    have hN := setRow_heap _ (y1.heap.size) _ #[.int .i64 W, .int .i64 H] _ _ hr4_2
    have hsz := HU4.out.size
    have HUx := aft_setRow (k := y1.heap.size) HU4.out (by omega) (by omega) #[.int .i64 W, .int .i64 H]
    have hPx := rp_setRow (k := y1.heap.size) HP4.out (by omega) #[.int .i64 W, .int .i64 H]
    obtain ⟨y5, hy5⟩ : ∃ y, y4.setRow (y1.heap.size) #[.int .i64 W, .int .i64 H] = y := ⟨_, rfl⟩
    have hO : ∀ k, k ≠ y1.heap.size → y5.heap[k]? = y4.heap[k]? := fun k hk => by rw [← hy5]; exact setRow_other _ _ _ _ hk
    rw [hy5] at hN HUx hPx ⊢
    clear hy5
    have HU5 := Lib.hid HUx
    clear HUx
    have HP5 := Lib.hid hPx
    have hz5 := HU5.out.size
    have hr5_0 := (hO _ (by omega)).trans hr4_0
    have hr5_1 := (hO _ (by omega)).trans hr4_1
    have hr5_2 := hN
    clear hN
    refine hK.out _ _ ((hO _ (by omega)).trans hS4c) (fun hS5s => ?_)
    clear hK K
    refine wpAnyH_done (by kernel_rfl) ?_ _
    have c0_0 := cell_of_row _ _ 0 _ _ _ hr5_0
    have c2_0 := cell_of_row _ _ 0 _ _ _ hr5_2
    have c2_1 := cell_of_row _ _ 1 _ _ _ hr5_2
    simp at c0_0 c2_0 c2_1
    go_wp2_with fail
    refine (szright_any W H _).mono ?_
    rintro e y6 ⟨rfl, hbb⟩
    rw [decide_eq_false HOK.out]
    have hp6 := HP5.out.new hbb
    have hb6 := Aft.of (g := g) (base := y5.heap.size) hbb
    clear hbb
    have HP6 := Lib.hid hp6
    have hz6 := hb6.size
    clear c0_0 c2_0 c2_1
    have hr6_0 := (hb6.block _ (lt_heap hr5_0) (lt_heap hr5_0) (by omega)).trans hr5_0
    have hr6_1 := (hb6.block _ (lt_heap hr5_1) (lt_heap hr5_1) (by omega)).trans hr5_1
    have hr6_2 := (hb6.block _ (lt_heap hr5_2) (lt_heap hr5_2) (by omega)).trans hr5_2
    have HU6 := Lib.hid (HU5.out.trans (hb6.mono HU5.out.size))
    clear hr5_0 hr5_1 hr5_2 HU5
    have c0_0 := cell_of_row _ _ 0 _ _ _ hr6_0
    have c2_0 := cell_of_row _ _ 0 _ _ _ hr6_2
    have c2_1 := cell_of_row _ _ 1 _ _ _ hr6_2
    simp at c0_0 c2_0 c2_1
    go_wp2_with fail
    refine (fail_any _ g t 10 _ HP6.out).mono ?_
    rintro e y7 ⟨rfl, hp7, hb7⟩
    have HP7 := Lib.hid hp7
    have hz7 := hb7.size
    clear c0_0 c2_0 c2_1
    have hr7_0 := (hb7.block _ (lt_heap hr6_0) (lt_heap hr6_0) (by omega)).trans hr6_0
    have hr7_1 := (hb7.block _ (lt_heap hr6_1) (lt_heap hr6_1) (by omega)).trans hr6_1
    have hr7_2 := (hb7.block _ (lt_heap hr6_2) (lt_heap hr6_2) (by omega)).trans hr6_2
    have HU7 := Lib.hid (HU6.out.trans (hb7.mono HU6.out.size))
    clear hr6_0 hr6_1 hr6_2 HU6
    have c0_0 := cell_of_row _ _ 0 _ _ _ hr7_0
    have c1_0 := cell_of_row _ _ 0 _ _ _ hr7_1
    have c1_1 := cell_of_row _ _ 1 _ _ _ hr7_1
    have c2_0 := cell_of_row _ _ 0 _ _ _ hr7_2
    have c2_1 := cell_of_row _ _ 1 _ _ _ hr7_2
    simp at c0_0 c1_0 c1_1 c2_0 c2_1
    have fz : ∀ j, y7.frozen? ⟨w.heap.size + 1, j, none⟩ = false := fun j => by simp [World.frozen?, hr7_1]
    go_wp2
    clear fz
    have hQ := part2 hr7_1 (.int .i64 0) (.int .i64 0)
    exact bodyPost_ret (v := .agg #[.int .i64 0, .int .i64 0]) (by simp [results, Try.results57, go_sem, hQ.1, hQ.2]) rfl ⟨rfl, (HP7.out.set (b := w.heap.size + 1) (by omega) 0 _).set (b := w.heap.size + 1) (by omega) 1 _, (HU7.out.setNew (b := w.heap.size + 1) (by omega) (by omega) 0 _).setNew (b := w.heap.size + 1) (by omega) (by omega) 1 _⟩

theorem fsize_any (g : Nat) {B : Nat} (s : St) (w : World) (hw : RP (.pointer (some ⟨g, 0, none⟩)) g B s w) (hg : g < w.heap.size) (hB : B ≤ w.heap.size) : Calls Try.prog 57 #[.agg #[.pointer (some ⟨g, 0, none⟩)]] w fun e' w' => (∃ W H : Int, e' = .returned (.agg #[.int .i64 W, .int .i64 H]) ∧ ((okSz (szW s) (szH s) ∧ W = szW s ∧ H = szH s) ∨ (¬ okSz (szW s) (szH s) ∧ W = 0 ∧ H = 0))) ∧ RP (.pointer (some ⟨g, 0, none⟩)) g B (szS s) w' ∧ Aft g w.heap.size w w' := by
  by_cases h : okSz (szW s) (szH s)
  · have e : szS s = szT s := by unfold szS; rw [if_pos h]
    rw [e]
    exact (fsize_ok g s _ _ _ w hw hg hB rfl rfl rfl h).mono fun e w' ⟨h1, h2, h3⟩ => ⟨⟨_, _, h1, .inl ⟨h, rfl, rfl⟩⟩, h2, h3⟩
  · have e : szS s = failS (szT s) 10 := by unfold szS; rw [if_neg h]
    rw [e]
    exact (fsize_no g s _ _ _ w hw hg hB rfl rfl rfl h).mono fun e w' ⟨h1, h2, h3⟩ => ⟨⟨_, _, h1, .inr ⟨h, rfl, rfl⟩⟩, h2, h3⟩

end Go.Proofs.Ytgkfoiekminfmaa.Fm
