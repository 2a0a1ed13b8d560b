/- The contracts of layer 4's keys and dice, and of the document's own. -/
import Derived.Test.YtohnjhnfhmfiiaaDi
import Derived.Test.YtohnjhnfhmfiiaaWa
import Derived.StillTailTactics
import Derived.Deep.RegionHeld3
import Derived.Deep.DeepFit
namespace Go.Proofs.Ytohnjhnfhmfiiaa.Di
open Go.RowKit Go.Proofs.Ytohnjhnfhmfiiaa

/-- a key as a value -/
abbrev K4 (s f p m : Int) : Value := .agg #[.int .u64 s, .int .i64 f, .int .i64 p, .int .i64 m]

/-- the numbers that a key and a dimension are hashed as -/
def keyNums (s f p m d : Int) : List Int := [s, IntKind.u64.wrap f, IntKind.u64.wrap p, IntKind.u64.wrap m, IntKind.u64.wrap d]

def keyBits (s f p m d : Int) : Int := hashL (keyNums s f p m d)

theorem keyBits_bd (s f p m d : Int) : 0 ≤ keyBits s f p m d ∧ keyBits s f p m d ≤ 18446744073709551615 := hashL_bd _

def keyUnit (s f p m d : Int) : Int := keyBits s f p m d / 281474976710656

theorem keyUnit_bd (s f p m d : Int) : 0 ≤ keyUnit s f p m d ∧ keyUnit s f p m d < 65536 := by
  have := keyBits_bd s f p m d
  unfold keyUnit; omega

def keyBelow (s f p m d n : Int) : Int := if n < 1 then 0 else (keyBits s f p m d / 2) % n

theorem below_k1 (w : World) (o1 : Obj) : Below w.heap.size w (w.alloc o1) := (Below.refl _ _).alloc (Nat.le_refl _) o1
theorem below_k2 (w : World) (o1 o2 : Obj) : Below w.heap.size w ((w.alloc o1).alloc o2) := (below_k1 w o1).alloc (by simp) o2
theorem below_kc {w w1 : World} {o1 : Obj} (hb : Below (w.alloc o1).heap.size (w.alloc o1) w1) : Below w.heap.size w w1 := (below_k1 w o1).trans (hb.mono (by simp))

theorem bits_any (s f p m d : Int) (w : World) : Calls Try.prog 55 #[K4 s f p m, .int .i64 d] w fun e w' => e = .returned (.int .u64 (keyBits s f p m d)) ∧ Below w.heap.size w w' := by
  go_enter Try.func55, Try.ntmps55
  go_wp2_with fail
  refine (hash_row _ 0 5 5 (keyNums s f p m d) rfl (by omega) _ ?_).mono ?_
  · intro j hj
    match j, hj with
    | 0, _ => go_simp; rfl
    | 1, _ => go_simp; rfl
    | 2, _ => go_simp; rfl
    | 3, _ => go_simp; rfl
    | 4, _ => go_simp; rfl
  rintro e w1 ⟨rfl, rfl⟩
  go_wp2
  go_ret
  exact ⟨rfl, below_k2 _ _ _⟩

theorem rbits_any (s f p m d : Int) (w : World) : Calls Try.prog 56 #[K4 s f p m, .int .i64 d] w fun e w' => e = .returned (.int .u64 (keyBits s f p m d)) ∧ Below w.heap.size w w' := by
  go_enter Try.func56, Try.ntmps56
  go_wp2_with fail
  refine (rhash_row _ 0 5 5 (keyNums s f p m d) rfl (by omega) _ ?_).mono ?_
  · intro j hj
    match j, hj with
    | 0, _ => go_simp; rfl
    | 1, _ => go_simp; rfl
    | 2, _ => go_simp; rfl
    | 3, _ => go_simp; rfl
    | 4, _ => go_simp; rfl
  rintro e w1 ⟨rfl, rfl⟩
  go_wp2
  go_ret
  exact ⟨rfl, below_k2 _ _ _⟩

theorem unit_any (s f p m d : Int) (w : World) : Calls Try.prog 57 #[K4 s f p m, .int .i64 d] w fun e w' => e = .returned (.int .i64 (keyUnit s f p m d)) ∧ Below w.heap.size w w' := by
  have ⟨b0, b1⟩ := keyBits_bd s f p m d
  go_enter Try.func57, Try.ntmps57
  go_wp2_with (go_at_call 55; refine (bits_any _ _ _ _ _ _).mono ?_; rintro e w1 ⟨rfl, hb⟩)
  go_ret
  exact ⟨rfl, below_kc hb⟩

theorem runit_any (s f p m d : Int) (w : World) : Calls Try.prog 58 #[K4 s f p m, .int .i64 d] w fun e w' => e = .returned (.int .i64 (keyUnit s f p m d)) ∧ Below w.heap.size w w' := by
  have ⟨b0, b1⟩ := keyBits_bd s f p m d
  go_enter Try.func58, Try.ntmps58
  go_wp2_with (go_at_call 56; refine (rbits_any _ _ _ _ _ _).mono ?_; rintro e w1 ⟨rfl, hb⟩)
  go_ret
  exact ⟨rfl, below_kc hb⟩

theorem below_any (s f p m d n : Int) (hn : n ≤ 9223372036854775807) (w : World) : Calls Try.prog 59 #[K4 s f p m, .int .i64 d, .int .i64 n] w fun e w' => e = .returned (.int .i64 (keyBelow s f p m d n)) ∧ Below w.heap.size w w' := by
  have ⟨b0, b1⟩ := keyBits_bd s f p m d
  by_cases h : n < 1
  · have HV := Lib.hid (show (0 : Int) = keyBelow s f p m d n by unfold keyBelow; rw [if_pos h])
    go_enter Try.func59, Try.ntmps59
    go_wp2
    go_ret
    exact ⟨Wa.ret_int HV.out, below_k1 _ _⟩
  · have HV := Lib.hid (show keyBits s f p m d / 2 % n = keyBelow s f p m d n by unfold keyBelow; rw [if_neg h])
    have m0 := Int.emod_nonneg (keyBits s f p m d / 2) (b := n) (by omega)
    have m1 := Int.emod_lt_of_pos (keyBits s f p m d / 2) (b := n) (by omega)
    have hw : IntKind.u64.wrap n = n := by rw [IntKind.wrap_u64]; omega
    go_enter Try.func59, Try.ntmps59
    go_wp2_with (go_at_call 55; refine (bits_any _ _ _ _ _ _).mono ?_; rintro e w1 ⟨rfl, hb⟩)
    go_ret
    exact ⟨Wa.ret_int HV.out, below_kc hb⟩

theorem rbelow_any (s f p m d n : Int) (hn : n ≤ 9223372036854775807) (w : World) : Calls Try.prog 60 #[K4 s f p m, .int .i64 d, .int .i64 n] w fun e w' => e = .returned (.int .i64 (keyBelow s f p m d n)) ∧ Below w.heap.size w w' := by
  have ⟨b0, b1⟩ := keyBits_bd s f p m d
  by_cases h : n < 1
  · have HV := Lib.hid (show (0 : Int) = keyBelow s f p m d n by unfold keyBelow; rw [if_pos h])
    go_enter Try.func60, Try.ntmps60
    go_wp2
    go_ret
    exact ⟨Wa.ret_int HV.out, below_k1 _ _⟩
  · have HV := Lib.hid (show keyBits s f p m d / 2 % n = keyBelow s f p m d n by unfold keyBelow; rw [if_neg h])
    have m0 := Int.emod_nonneg (keyBits s f p m d / 2) (b := n) (by omega)
    have m1 := Int.emod_lt_of_pos (keyBits s f p m d / 2) (b := n) (by omega)
    have hw : IntKind.u64.wrap n = n := by rw [IntKind.wrap_u64]; omega
    go_enter Try.func60, Try.ntmps60
    go_wp2_with (go_at_call 56; refine (rbits_any _ _ _ _ _ _).mono ?_; rintro e w1 ⟨rfl, hb⟩)
    go_ret
    exact ⟨Wa.ret_int HV.out, below_kc hb⟩

theorem tokey_any (s f p m : Int) (w : World) : Calls Try.prog 54 #[K4 s f p m] w fun e w' => e = .returned (K4 s f p m) ∧ Below w.heap.size w w' := by
  go_enter Try.func54, Try.ntmps54
  go_wp2
  exact bodyPost_ret (v := K4 s f p m) (by simp [results, Try.results54, go_sem]) rfl ⟨rfl, below_k2 _ _ _⟩

/-! ### dice -/

/-- dice in a block of their own: their key, the next dimension -/
def DiceAt (g : Nat) (s f p m n : Int) (w : World) : Prop :=
  g < w.heap.size ∧ w.cell? ⟨g, 0, none⟩ = some (.int .u64 s) ∧ w.cell? ⟨g, 1, none⟩ = some (.int .i64 f) ∧ w.cell? ⟨g, 2, none⟩ = some (.int .i64 p) ∧ w.cell? ⟨g, 3, none⟩ = some (.int .i64 m) ∧ w.cell? ⟨g, 4, none⟩ = some (.int .i64 n) ∧ ∀ j, w.frozen? ⟨g, j, none⟩ = false

theorem kcell {W w1 : World} (hb : Below W.heap.size W w1) : (∀ b o, b < W.heap.size → w1.cell? ⟨b, o, none⟩ = W.cell? ⟨b, o, none⟩) ∧ (∀ b o, b < W.heap.size → w1.frozen? ⟨b, o, none⟩ = W.frozen? ⟨b, o, none⟩) :=
  ⟨fun b o h => hb.cell (p := ⟨b, o, none⟩) h, fun b o h => hb.frozen (p := ⟨b, o, none⟩) h⟩

theorem DiceAt.on {g : Nat} {s f p m n : Int} {w w' : World} (h : DiceAt g s f p m n w) (hb : Below w.heap.size w w') : DiceAt g s f p m n w' := by
  obtain ⟨h0, h1, h2, h3, h4, h5, h6⟩ := h
  obtain ⟨hc, hf⟩ := kcell hb
  exact ⟨Nat.lt_of_lt_of_le h0 hb.size, (hc _ _ h0).trans h1, (hc _ _ h0).trans h2, (hc _ _ h0).trans h3, (hc _ _ h0).trans h4, (hc _ _ h0).trans h5, fun j => (hf _ _ h0).trans (h6 j)⟩

theorem kset_at {wr : World} {b i j : Nat} {x v : Value} (hb : wr.cell? ⟨b, i, none⟩ = some v) : (wr.setCell ⟨b, i, none⟩ x).cell? ⟨b, j, none⟩ = if j = i then some x else wr.cell? ⟨b, j, none⟩ := by
  by_cases h : j = i
  · subst h; simp [World.cell?_setCell_same, hb]
  · rw [if_neg h]; exact World.cell?_setCell_other _ _ _ _ (by first | (simp; done) | (simp; omega))

theorem kset_far {wr : World} {b c i j : Nat} {x : Value} (h : c ≠ b) : (wr.setCell ⟨b, i, none⟩ x).cell? ⟨c, j, none⟩ = wr.cell? ⟨c, j, none⟩ :=
  World.cell?_setCell_other _ _ _ _ (by first | (simp; done) | (simp; omega))

theorem DiceAt.put {g : Nat} {s f p m n : Int} {w : World} (h : DiceAt g s f p m n w) (x : Int) : DiceAt g s f p m x (w.setCell ⟨g, 4, none⟩ (.int .i64 x)) := by
  obtain ⟨h0, h1, h2, h3, h4, h5, h6⟩ := h
  refine ⟨by simpa using h0, ?_, ?_, ?_, ?_, ?_, fun j => ?_⟩
  · rw [kset_at h5]; exact h1
  · rw [kset_at h5]; exact h2
  · rw [kset_at h5]; exact h3
  · rw [kset_at h5]; exact h4
  · rw [kset_at h5]; rfl
  · rw [World.frozen?_setCell]; exact h6 j

theorem DiceAt.far {g k : Nat} {s f p m n : Int} {w : World} (h : DiceAt g s f p m n w) (hn : g ≠ k) (v : Value) : DiceAt g s f p m n (w.setCell ⟨k, 4, none⟩ v) := by
  obtain ⟨h0, h1, h2, h3, h4, h5, h6⟩ := h
  refine ⟨by simpa using h0, ?_, ?_, ?_, ?_, ?_, fun j => ?_⟩
  · rw [kset_far hn]; exact h1
  · rw [kset_far hn]; exact h2
  · rw [kset_far hn]; exact h3
  · rw [kset_far hn]; exact h4
  · rw [kset_far hn]; exact h5
  · rw [World.frozen?_setCell]; exact h6 j

theorem dbelow {w w1 : World} (hb : Below w.drew.heap.size w.drew w1) : Below w.heap.size w w1 := ((Below.refl w.heap.size w).drew).trans (hb.mono (by simp))

theorem new_any (s f p m : Int) (w : World) : Calls Try.prog 61 #[K4 s f p m] w fun e w' => e = .returned (.pointer (some ⟨w.heap.size + 1, 0, none⟩)) ∧ DiceAt (w.heap.size + 1) s f p m 0 w' ∧ Below w.heap.size w w' := by
  go_enter Try.func61, Try.ntmps61
  go_wp2
  go_ret
  exact ⟨rfl, ⟨by simp, by go_simp, by go_simp, by go_simp, by go_simp, by go_simp, fun j => by go_simp⟩, below_k2 _ _ _⟩

theorem drawn_any (g : Nat) (s f p m n : Int) (w : World) (h : DiceAt g s f p m n w) : Calls Try.prog 63 #[.pointer (some ⟨g, 0, none⟩)] w fun e w' => e = .returned (.int .i64 n) ∧ w = w' := by
  obtain ⟨h0, h1, h2, h3, h4, h5, h6⟩ := h
  go_enter Try.func63, Try.ntmps63
  go_wp2
  go_ret
  exact ⟨rfl, rfl⟩

theorem skip_yes (g : Nat) (s f p m n d : Int) (hd : n ≤ d) (w : World) (h : DiceAt g s f p m n w) : Calls Try.prog 62 #[.pointer (some ⟨g, 0, none⟩), .int .i64 d] w fun e w' => e = .returned (.int .i64 0) ∧ w' = w.setCell ⟨g, 4, none⟩ (.int .i64 d) := by
  obtain ⟨h0, h1, h2, h3, h4, h5, h6⟩ := h
  go_enter Try.func62, Try.ntmps62
  go_wp2
  go_ret
  exact ⟨rfl, rfl⟩

theorem skip_no (g : Nat) (s f p m n d : Int) (hd : d < n) (w : World) (h : DiceAt g s f p m n w) : Calls Try.prog 62 #[.pointer (some ⟨g, 0, none⟩), .int .i64 d] w fun e w' => e = .returned (.int .i64 1) ∧ w = w' := by
  obtain ⟨h0, h1, h2, h3, h4, h5, h6⟩ := h
  go_enter Try.func62, Try.ntmps62
  go_wp2
  go_ret
  exact ⟨rfl, rfl⟩

set_option maxHeartbeats 1000000 in
theorem next_any (g : Nat) (s f p m n : Int) (hn : n < 9223372036854775807) (hn0 : 0 ≤ n) (w : World) (h : DiceAt g s f p m n w) : Calls Try.prog 64 #[.pointer (some ⟨g, 0, none⟩)] w fun e w' => e = .returned (.int .i64 (keyUnit s f p m n)) ∧ ∃ w1, Below w.heap.size w w1 ∧ w' = w1.setCell ⟨g, 4, none⟩ (.int .i64 (n + 1)) := by
  have HD := Lib.hid h
  obtain ⟨h0, h1, h2, h3, h4, h5, h6⟩ := h
  go_enter Try.func64, Try.ntmps64
  go_wp2_with fail
  go_region_held3 (fun w' => w'.cell? ⟨g, 0, none⟩ = some (.int .u64 s) ∧ w'.cell? ⟨g, 1, none⟩ = some (.int .i64 f) ∧ w'.cell? ⟨g, 2, none⟩ = some (.int .i64 p) ∧ w'.cell? ⟨g, 3, none⟩ = some (.int .i64 m) ∧ w'.cell? ⟨g, 4, none⟩ = some (.int .i64 n)) (first | (go_keep; done) | (go_split_ands; (try dsimp only); exact ⟨(hD.on hb).2.1, (hD.on hb).2.2.1, (hD.on hb).2.2.2.1, (hD.on hb).2.2.2.2.1, (hD.on hb).2.2.2.2.2.1⟩)) (first | (go_at_call 57; refine (unit_any _ _ _ _ _ _).mono ?_; rintro e w1 ⟨rfl, hb0⟩; have hb := dbelow hb0; have hD := HD.out))
  obtain ⟨-, k1, k2, k3, k4, k5, k6⟩ := hD.on hb
  go_wp2
  go_ret
  exact ⟨rfl, _, hb, rfl⟩

/-! ### nil dice -/
theorem nil_next (w : World) : Calls Try.prog 64 #[.pointer none] w fun e w' => e = .returned (.int .i64 0) ∧ w = w' := by
  go_enter Try.func64, Try.ntmps64
  go_wp2
  go_ret
  exact ⟨rfl, rfl⟩
theorem nil_drawn (w : World) : Calls Try.prog 63 #[.pointer none] w fun e w' => e = .returned (.int .i64 0) ∧ w = w' := by
  go_enter Try.func63, Try.ntmps63
  go_wp2
  go_ret
  exact ⟨rfl, rfl⟩
theorem nil_skip (d : Int) (w : World) : Calls Try.prog 62 #[.pointer none, .int .i64 d] w fun e w' => e = .returned (.int .i64 2) ∧ w = w' := by
  go_enter Try.func62, Try.ntmps62
  go_wp2
  go_ret
  exact ⟨rfl, rfl⟩

/-! ### the document's examples -/
theorem ex_hash (w : World) : Calls Try.prog 52 #[.slice none 0 0] w fun e w' => e = .returned (.int .u64 0) ∧ w = w' := by
  have := hash_none none 0 w
  rwa [show hashL [] = 0 by decide +kernel] at this

theorem awake_any (w : World) : Calls Try.prog 51 #[] w fun e w' => e = .returned (.bool true) ∧ Below w.heap.size w w' := by
  go_enter Try.func51, Try.ntmps51
  go_wp2_with (first | (go_at_call 61; refine (new_any 5 0 0 0 _).mono ?_; rintro e w1 ⟨rfl, hd, hb1⟩) | (go_at_call 52; refine (ex_hash _).mono ?_; rintro e w2 ⟨rfl, rfl⟩) | (go_at_call 64; refine (next_any _ 5 0 0 0 0 (by omega) (by omega) _ hd).mono ?_; rintro e w2 ⟨rfl, w3, hb3, rfl⟩; have hd2 := (hd.on hb3).put (0 + 1); have hs3 := hb3.size) | (go_at_call 57; refine (unit_any 5 0 0 0 0 _).mono ?_; rintro e w4 ⟨rfl, hb4⟩; have hd3 := hd2.on hb4) | (go_at_call 63; refine (drawn_any _ 5 0 0 0 (0 + 1) _ hd3).mono ?_; rintro e w5 ⟨rfl, rfl⟩))
  go_ret
  exact ⟨rfl, by
    have h1 := hb1.trans (hb3.mono hb1.size)
    have h2 := h1.setCell (p := ⟨w.heap.size + 1, 4, none⟩) (by simp) (.int .i64 (0 + 1))
    exact h2.trans (hb4.mono h2.size)⟩
end Go.Proofs.Ytohnjhnfhmfiiaa.Di
