/- Scenes: the contracts of the makers of questions, and of what they make. -/
import Derived.Test.YtfbppiamlolfpaaC34
import Derived.Shelf.Abstract
import Derived.Test.YtfbppiamlolfpaaC23
namespace Go.Proofs.Ytfbppiamlolfpaa.Sc
open Go.RowKit Go.Shelf Go.Proofs.Ytfbppiamlolfpaa Go.Proofs.Ytfbppiamlolfpaa.Wa Go.Proofs.Ytfbppiamlolfpaa.Ve Go.Proofs.Ytfbppiamlolfpaa.Tk Go.Proofs.Ytfbppiamlolfpaa.Ls
set_option linter.unusedVariables false

/-- three boxes: how many, how many at most, whether one may be -/
def EB (w : World) (q : Nat) (n m : Int) (f : Value) : Prop :=
  q + 2 < w.heap.size ∧ w.cell? ⟨q, 0, none⟩ = some (.int .i64 n) ∧ w.cell? ⟨q + 1, 0, none⟩ = some (.int .i64 m) ∧ w.cell? ⟨q + 2, 0, none⟩ = some f

theorem EB.low {w w' : World} {q N : Nat} {n m : Int} {f : Value} (h : EB w q n m f) (hb : Below N w w') (hq : q + 2 < N) : EB w' q n m f :=
  ⟨Nat.lt_of_lt_of_le h.1 hb.size, (hb.cell (p := ⟨q, 0, none⟩) (by show q < N; omega)).trans h.2.1, (hb.cell (p := ⟨q + 1, 0, none⟩) (by show q + 1 < N; omega)).trans h.2.2.1, (hb.cell (p := ⟨q + 2, 0, none⟩) (by show q + 2 < N; omega)).trans h.2.2.2⟩

theorem EB.on {w w' : World} {q : Nat} {n m : Int} {f : Value} (h : EB w q n m f) (hb : Below w.heap.size w w') : EB w' q n m f := h.low hb h.1

abbrev EF (q : Nat) : Value := .func (.func 58) #[] #[.pointer (some ⟨q, 0, none⟩), .pointer (some ⟨q + 1, 0, none⟩), .pointer (some ⟨q + 2, 0, none⟩)]

theorem below_n3 (w : World) (o o2 o3 : Obj) : Below w.heap.size w (((w.alloc o).alloc o2).alloc o3) := (below_n2 w o o2).alloc (by simp; omega) o3

theorem each_any (n m : Int) (fn : Fn) (lb cs : Array Value) (w : World) :
    Calls Try.prog 29 #[.int .i64 n, .int .i64 m, .func fn lb cs] w fun e w' => (e = .returned (EF w.heap.size) ∧ EB w' w.heap.size n m (.func fn lb cs)) ∧ Below w.heap.size w w' := by
  go_enter Try.func29, Try.ntmps29
  go_wp2
  go_ret
  exact ⟨⟨rfl, by simp, by simp [go_sem], by simp [go_sem], by simp [go_sem]⟩, below_n3 _ _ _ _⟩

theorem all_snoc {b : Nat → Bool} {k : Nat} (h : ∀ j, j < k → b j = true) (hk : b k = true) : ∀ j, j < k + 1 → b j = true := fun j hj => by
  by_cases e : j = k
  · subst e; exact hk
  · exact h j (by omega)

/-- a function of the program's own -/
def Ent (g : Nat) : Prop := ∀ args W, (callFunc g args).run Try.prog W = .ok (.enter g args) W

/-- a question about the k-th of some -/
def Asks (w : World) (g : Nat) (lb cs : Array Value) (n : Nat) (b : Nat → Bool) : Prop :=
  ∀ k, k < n → ∀ W, Below w.heap.size w W → Calls Try.prog g (lb.push (.int .i64 (k : Int)) ++ cs) W fun e W' => e = .returned (.bool (b k)) ∧ Below W.heap.size W W'

/-- a question about one thing -/
def Once (w : World) (g : Nat) (lb cs : Array Value) (b : Bool) : Prop :=
  ∀ W, Below w.heap.size w W → Calls Try.prog g (lb ++ cs) W fun e W' => e = .returned (.bool b) ∧ Below W.heap.size W W'

/-- a question where -/
def Where (w : World) (g : Nat) (lb cs : Array Value) (z : Int) : Prop :=
  ∀ W, Below w.heap.size w W → Calls Try.prog g (lb ++ cs) W fun e W' => e = .returned (.int .i64 z) ∧ Below W.heap.size W W'

theorem Asks.on {w w' : World} {g : Nat} {lb cs : Array Value} {n : Nat} {b : Nat → Bool} (h : Asks w g lb cs n b) (hb : Below w.heap.size w w') : Asks w' g lb cs n b :=
  fun k hk W hW => h k hk W (hb.trans (hW.mono hb.size))

theorem Once.on {w w' : World} {g : Nat} {lb cs : Array Value} {b : Bool} (h : Once w g lb cs b) (hb : Below w.heap.size w w') : Once w' g lb cs b :=
  fun W hW => h W (hb.trans (hW.mono hb.size))

theorem Where.on {w w' : World} {g : Nat} {lb cs : Array Value} {z : Int} (h : Where w g lb cs z) (hb : Below w.heap.size w w') : Where w' g lb cs z :=
  fun W hW => h W (hb.trans (hW.mono hb.size))

set_option maxRecDepth 100000 in
set_option maxHeartbeats 4000000 in
theorem each1_any (q n m : Nat) (g : Nat) (lb cs : Array Value) (b : Nat → Bool) (hg : Ent g) (hm : m ≤ 1000) (w : World) (h : EB w q n m (.func (.func g) lb cs)) (ha : n ≤ m → Asks w g lb cs n b) :
    Calls Try.prog 58 #[.pointer (some ⟨q, 0, none⟩), .pointer (some ⟨q + 1, 0, none⟩), .pointer (some ⟨q + 2, 0, none⟩)] w fun e w' => e = .returned (.int .i64 (whereB n m b)) ∧ Below w.heap.size w w' := by
  have HE := Lib.hid h
  have HA := Lib.hid ha
  have hg' : ∀ args W, (callFunc g args).run Try.prog W = .ok (.enter g args) W := hg
  obtain ⟨hq, c0, c1, c2⟩ := h
  clear ha hg
  by_cases h1 : m < n
  · have h1' : (m : Int) < n := by omega
    rw [whereB_more h1]
    go_enter Try.func58, Try.ntmps58
    go_wp2
    go_ret
    exact ⟨rfl, Below.refl _ _⟩
  · have h1' : ¬ (m : Int) < n := by omega
    have hnm : n ≤ m := by omega
    have HA' := Lib.hid (HA.out hnm)
    clear HA
    go_enter Try.func58, Try.ntmps58
    go_wp2_with fail
    go_loopw [10] (fun i wr => ∃ k : Nat, k ≤ n ∧ i = .int .i64 k ∧ Hid (∀ j, j < k → b j = true) ∧ Below w.heap.size w wr) (fun i _ => n - (intOf i).toNat)
    case atStart => exact ⟨0, Nat.zero_le _, rfl, Lib.hid (fun j hj => by omega), Below.refl _ _⟩
    case round =>
      obtain ⟨k, hk, rfl, HK, hbk⟩ := hrel
      by_cases hlt : k < n
      · have hlt' : (k : Int) < n := by omega
        obtain ⟨-, d0, d1, d2⟩ := HE.out.on hbk
        obtain ⟨v, hv⟩ : ∃ v, b k = v := ⟨_, rfl⟩
        have HV := Lib.hid hv
        clear hv
        go_wp2_with fail
        refine (HA'.out k hlt _ hbk).mono ?_
        rintro e w1 ⟨rfl, hb1⟩
        rw [HV.out]
        have hb2 := hbk.trans (hb1.mono hbk.size)
        cases v
        · have HW := Lib.hid (whereB_at hnm hlt HK.out HV.out)
          go_wp2
          go_ret
          exact ⟨by rw [HW.out]; rfl, hb2⟩
        · go_wp2
          go_roundw
          case rel => exact ⟨k + 1, by omega, by go_num, Lib.hid (all_snoc HK.out HV.out), hb2⟩
          case measure => simp [intOf]; omega
      · obtain rfl : k = n := by omega
        have HW := Lib.hid (whereB_none hnm HK.out)
        go_wp2
        go_ret
        exact ⟨by rw [HW.out]; rfl, hbk⟩

theorem each1_where (q n m : Nat) (g : Nat) (lb cs : Array Value) (b : Nat → Bool) (hg : Ent g) (hm : m ≤ 1000) (w : World) (h : EB w q n m (.func (.func g) lb cs)) (ha : n ≤ m → Asks w g lb cs n b) :
    Where w 58 #[] #[.pointer (some ⟨q, 0, none⟩), .pointer (some ⟨q + 1, 0, none⟩), .pointer (some ⟨q + 2, 0, none⟩)] (whereB n m b) := fun W hW => by
  simpa using each1_any q n m g lb cs b hg hm W (h.on hW) (fun hn => (ha hn).on hW)

theorem alone1_any (q : Nat) (g : Nat) (lb cs : Array Value) (b : Bool) (hg : Ent g) (k : Int) (w : World) (h : w.cell? ⟨q, 0, none⟩ = some (.func (.func g) lb cs)) (ha : Once w g lb cs b) :
    Calls Try.prog 54 #[.int .i64 k, .pointer (some ⟨q, 0, none⟩)] w fun e w' => e = .returned (.bool b) ∧ Below w.heap.size w w' := by
  have HA := Lib.hid ha
  have hg' : ∀ args W, (callFunc g args).run Try.prog W = .ok (.enter g args) W := hg
  clear ha hg
  go_enter Try.func54, Try.ntmps54
  go_wp2_with fail
  refine (HA.out _ (Below.refl _ _)).mono ?_
  rintro e w1 ⟨rfl, hb1⟩
  go_wp2
  go_ret
  exact ⟨rfl, hb1⟩

theorem ent_each1 : Ent 58 := fun args W => enters_of Try.func58 (by kernel_rfl) rfl args W

theorem ent_alone1 : Ent 54 := fun args W => enters_of Try.func54 (by kernel_rfl) rfl args W

theorem once_bd (b : Bool) : whereB 1 1 (fun _ => b) = onceB b := by
  cases b <;> simp [whereB, badTo, onceB]

theorem alone_any (g : Nat) (lb cs : Array Value) (b : Bool) (hg : Ent g) (w : World) (ha : Once w g lb cs b) :
    Calls Try.prog 27 #[.func (.func g) lb cs] w fun e w' => (∃ q, e = .returned (EF q) ∧ Where w' 58 #[] #[.pointer (some ⟨q, 0, none⟩), .pointer (some ⟨q + 1, 0, none⟩), .pointer (some ⟨q + 2, 0, none⟩)] (onceB b)) ∧ Below w.heap.size w w' := by
  have HA := Lib.hid ha
  clear ha
  have hb0 := below_n1 w (.cells #[.func (.func g) lb cs] 35)
  have hc0 : (w.alloc (.cells #[.func (.func g) lb cs] 35)).cell? ⟨w.heap.size, 0, none⟩ = some (.func (.func g) lb cs) := by simp [go_sem]
  go_enter Try.func27, Try.ntmps27
  go_wp2_with fail
  refine (each_any _ _ _ _ _ _).mono ?_
  rintro e w1 ⟨⟨rfl, hE⟩, hb1⟩
  go_wp2
  go_ret
  refine ⟨⟨_, rfl, ?_⟩, hb0.trans (hb1.mono hb0.size)⟩
  rw [← once_bd]
  refine each1_where _ 1 1 54 #[] #[.pointer (some ⟨w.heap.size, 0, none⟩)] _ ent_alone1 (by omega) w1 (by rw [World.size_alloc] at hE; exact hE) (fun _ k hk W hW => ?_)
  have := alone1_any w.heap.size g lb cs b hg (k : Int) W (held_on hW (held_on hb1 hc0)) (HA.out.on (hb0.trans ((hb1.trans (hW.mono hb1.size)).mono hb0.size)))
  simpa using this

end Go.Proofs.Ytfbppiamlolfpaa.Sc

/- The contracts of whether a key may be. -/
namespace Go.Proofs.Ytfbppiamlolfpaa.Tk
open Go.RowKit Go.Proofs.Ytfbppiamlolfpaa Go.Proofs.Ytfbppiamlolfpaa.Wa Go.Proofs.Ytfbppiamlolfpaa.Ve

theorem lies_yes (n a b : Int) (h : a ≤ n ∧ n ≤ b) (w : World) : Calls Try.prog 93 #[.int .i64 n, .int .i64 a, .int .i64 b] w fun e w' => e = .returned (.bool true) ∧ w = w' := by
  obtain ⟨h1, h2⟩ := h
  go_enter Try.func93, Try.ntmps93
  go_wp2
  go_ret
  exact ⟨rfl, rfl⟩

theorem lies_no (n a b : Int) (h : ¬ (a ≤ n ∧ n ≤ b)) (w : World) : Calls Try.prog 93 #[.int .i64 n, .int .i64 a, .int .i64 b] w fun e w' => e = .returned (.bool false) ∧ w = w' := by
  by_cases h1 : a ≤ n
  · have h2 : ¬ n ≤ b := fun h2 => h ⟨h1, h2⟩
    clear h
    go_enter Try.func93, Try.ntmps93
    go_wp2
    go_ret
    exact ⟨rfl, rfl⟩
  · clear h
    go_enter Try.func93, Try.ntmps93
    go_wp2
    go_ret
    exact ⟨rfl, rfl⟩

theorem lies_any (n a b : Int) (w : World) : Calls Try.prog 93 #[.int .i64 n, .int .i64 a, .int .i64 b] w fun e w' => e = .returned (.bool (decide (a ≤ n ∧ n ≤ b))) ∧ w = w' := by
  by_cases h : a ≤ n ∧ n ≤ b
  · rw [decide_eq_true h]; exact lies_yes n a b h w
  · rw [decide_eq_false h]; exact lies_no n a b h w

/-- the same, by what is known of the answer -/
theorem lies_is (n a b : Int) (v : Bool) (h : decide (a ≤ n ∧ n ≤ b) = v) (w : World) : Calls Try.prog 93 #[.int .i64 n, .int .i64 a, .int .i64 b] w fun e w' => e = .returned (.bool v) ∧ w = w' := by
  subst h; exact lies_any n a b w

set_option maxHeartbeats 2000000 in
theorem mayBe_any (t x y z : Int) (w : World) : Calls Try.prog 59 #[K4 t x y z] w fun e w' => e = .returned (.bool (mayB t x y z)) ∧ Below w.heap.size w w' := by
  have key : ∀ p q r s : Bool, decide (0 ≤ t ∧ t ≤ 2097152) = p → decide (-2147483648 ≤ x ∧ x ≤ 2147483648) = q → decide (-2147483648 ≤ y ∧ y ≤ 2147483648) = r → decide (-2147483648 ≤ z ∧ z ≤ 2147483648) = s →
      Calls Try.prog 59 #[K4 t x y z] w fun e w' => e = .returned (.bool (p && (q && (r && s)))) ∧ Below w.heap.size w w' := by
    intro p q r s hp hq hr hs
    have HP := Lib.hid hp
    have HQ := Lib.hid hq
    have HR := Lib.hid hr
    have HS := Lib.hid hs
    clear hp hq hr hs
    cases p
    · go_enter Try.func59, Try.ntmps59
      go_wp2_with (go_at_call 93; with_reducible (first | refine (lies_is _ _ _ _ HP.out _).mono ?_ | refine (lies_is _ _ _ _ HQ.out _).mono ?_ | refine (lies_is _ _ _ _ HR.out _).mono ?_ | refine (lies_is _ _ _ _ HS.out _).mono ?_); rintro e w' ⟨rfl, rfl⟩)
      go_ret
      exact ⟨rfl, below_n1 _ _⟩
    · skip
      cases q
      · go_enter Try.func59, Try.ntmps59
        go_wp2_with (go_at_call 93; with_reducible (first | refine (lies_is _ _ _ _ HP.out _).mono ?_ | refine (lies_is _ _ _ _ HQ.out _).mono ?_ | refine (lies_is _ _ _ _ HR.out _).mono ?_ | refine (lies_is _ _ _ _ HS.out _).mono ?_); rintro e w' ⟨rfl, rfl⟩)
        go_ret
        exact ⟨rfl, below_n1 _ _⟩
      · skip
        cases r
        · go_enter Try.func59, Try.ntmps59
          go_wp2_with (go_at_call 93; with_reducible (first | refine (lies_is _ _ _ _ HP.out _).mono ?_ | refine (lies_is _ _ _ _ HQ.out _).mono ?_ | refine (lies_is _ _ _ _ HR.out _).mono ?_ | refine (lies_is _ _ _ _ HS.out _).mono ?_); rintro e w' ⟨rfl, rfl⟩)
          go_ret
          exact ⟨rfl, below_n1 _ _⟩
        · skip
          cases s
          · go_enter Try.func59, Try.ntmps59
            go_wp2_with (go_at_call 93; with_reducible (first | refine (lies_is _ _ _ _ HP.out _).mono ?_ | refine (lies_is _ _ _ _ HQ.out _).mono ?_ | refine (lies_is _ _ _ _ HR.out _).mono ?_ | refine (lies_is _ _ _ _ HS.out _).mono ?_); rintro e w' ⟨rfl, rfl⟩)
            go_ret
            exact ⟨rfl, below_n1 _ _⟩
          · go_enter Try.func59, Try.ntmps59
            go_wp2_with (go_at_call 93; with_reducible (first | refine (lies_is _ _ _ _ HP.out _).mono ?_ | refine (lies_is _ _ _ _ HQ.out _).mono ?_ | refine (lies_is _ _ _ _ HR.out _).mono ?_ | refine (lies_is _ _ _ _ HS.out _).mono ?_); rintro e w' ⟨rfl, rfl⟩)
            go_ret
            exact ⟨rfl, below_n1 _ _⟩
  have := key _ _ _ _ rfl rfl rfl rfl
  rwa [show (decide (0 ≤ t ∧ t ≤ 2097152) && (decide (-2147483648 ≤ x ∧ x ≤ 2147483648) && (decide (-2147483648 ≤ y ∧ y ≤ 2147483648) && decide (-2147483648 ≤ z ∧ z ≤ 2147483648)))) = mayB t x y z by unfold mayB; simp only [Bool.decide_and]] at this
end Go.Proofs.Ytfbppiamlolfpaa.Tk
