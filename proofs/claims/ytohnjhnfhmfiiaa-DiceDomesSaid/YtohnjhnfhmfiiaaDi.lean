/- The contracts of layer 4's stir and hash, and of the document's own. -/
import Derived.Test.YtohnjhnfhmfiiaaChecked
import Derived.Test.YtohnjhnfhmfiiaaPlain
import Derived.Test.YtohnjhnfhmfiiaaLs
import Derived.WalkKit
import Derived.Lib.Hide
import Derived.Deep.QuietTactic
import Derived.BigQuiet
import Derived.Laws.BitsAllLaws
import Derived.Shelf.Strconv.Itoa0
namespace Go.Proofs.Ytohnjhnfhmfiiaa.Di
open Go.RowKit Go.Proofs.Ytohnjhnfhmfiiaa

theorem ret_u64 {a b : Int} (h : a = b) : Ending.returned (.int .u64 a) = .returned (.int .u64 b) := by rw [h]

/-- what lets each bit of a number hang on all of its bits -/
def stir1 (n : Int) : Int := IntKind.u64.wrap (bits .xor .u64 n (n / 1073741824) * 13787848793156543929)
def stir2 (n : Int) : Int := IntKind.u64.wrap (bits .xor .u64 n (n / 134217728) * 10723151780598845931)
def stir3 (n : Int) : Int := bits .xor .u64 n (n / 2147483648)
def stir (n : Int) : Int := stir3 (stir2 (stir1 n))

theorem wrap_bd (n : Int) : 0 ≤ IntKind.u64.wrap n ∧ IntKind.u64.wrap n ≤ 18446744073709551615 := by
  rw [IntKind.wrap_u64]; omega

theorem stir_bd (n : Int) : 0 ≤ stir n ∧ stir n ≤ 18446744073709551615 := wrap_bd _

theorem stir_any (n : Int) (w : World) : Calls Try.prog 92 #[.int .u64 n] w fun e w' => e = .returned (.int .u64 (stir n)) ∧ w = w' := by
  go_enter Try.func92, Try.ntmps92
  go_wp2
  go_ret
  exact ⟨rfl, rfl⟩

theorem rstir_any (n : Int) (w : World) : Calls Try.prog 93 #[.int .u64 n] w fun e w' => e = .returned (.int .u64 (stir n)) ∧ w = w' := by
  go_enter Try.func93, Try.ntmps93
  go_wp2
  go_ret
  exact ⟨rfl, rfl⟩

/-- one number more -/
def step (h n : Int) : Int := stir (IntKind.u64.wrap (h + 11400714819323198485 * (n + 1)))

theorem step_a (h n : Int) : stir (IntKind.u64.wrap (IntKind.u64.wrap (h + 11400714819323198485) + IntKind.u64.wrap (n * 11400714819323198485))) = step h n := by
  unfold step; congr 1; simp only [IntKind.wrap_u64]; omega

theorem step_b (h n : Int) : stir (IntKind.u64.wrap (h + IntKind.u64.wrap (11400714819323198485 * IntKind.u64.wrap (n + 1)))) = step h n := by
  unfold step; congr 1; simp only [IntKind.wrap_u64]; omega

def hashN (l : List Int) (k : Nat) : Int := (l.take k).foldl step l.length

def hashL (l : List Int) : Int := stir (hashN l l.length)

theorem hashN_snoc (l : List Int) (k : Nat) (h : k < l.length) : hashN l (k + 1) = step (hashN l k) (l.getD k 0) := by
  unfold hashN
  rw [List.take_succ_eq_append_getElem h, List.foldl_append]
  simp [List.getD, h]

theorem hashL_bd (l : List Int) : 0 ≤ hashL l ∧ hashL l ≤ 18446744073709551615 := stir_bd _

theorem hash_none (a : Option Addr) (cap : Nat) (w : World) : Calls Try.prog 52 #[.slice a 0 cap] w fun e w' => e = .returned (.int .u64 (hashL [])) ∧ w = w' := by
  go_enter Try.func52, Try.ntmps52
  go_wp2
  refine wp_loop_rounds 1 ?_
  rw [rounds_succ]
  go_wp2_with (go_at_call 92; refine (stir_any _ _).mono ?_; rintro e w1 ⟨rfl, rfl⟩)
  go_ret
  exact ⟨rfl, rfl⟩

theorem rhash_none (a : Option Addr) (cap : Nat) (w : World) : Calls Try.prog 53 #[.slice a 0 cap] w fun e w' => e = .returned (.int .u64 (hashL [])) ∧ w = w' := by
  go_enter Try.func53, Try.ntmps53
  go_wp2
  refine wp_loop_rounds 1 ?_
  rw [rounds_succ]
  go_wp2_with (go_at_call 93; refine (rstir_any _ _).mono ?_; rintro e w1 ⟨rfl, rfl⟩)
  go_ret
  exact ⟨rfl, rfl⟩

theorem hash_row (b off n cap : Nat) (xs : List Int) (hn : n = xs.length) (hm : n ≤ 4611686018427387904) (w : World) (hc : ∀ j, j < n → w.cell? ⟨b, off + j, none⟩ = some (.int .u64 (xs.getD j 0))) :
    Calls Try.prog 52 #[.slice (some ⟨b, off, none⟩) n cap] w fun e w' => e = .returned (.int .u64 (hashL xs)) ∧ w = w' := by
  have HN := Lib.hid hn
  have HC := Lib.hid hc
  clear hn hc
  go_enter Try.func52, Try.ntmps52
  go_wp2
  go_loop [3, 11] (fun s i => ∃ k : Nat, k ≤ n ∧ i = .int .i64 k ∧ s = .int .u64 (hashN xs k)) (fun _ i => n - (intOf i).toNat)
  case atStart => exact ⟨0, Nat.zero_le _, rfl, by rw [HN.out]; rfl⟩
  case round =>
    obtain ⟨k, hk, rfl, rfl⟩ := hrel
    by_cases hlt : k < n
    · have hcell := HC.out k hlt
      have HS := Lib.hid (hashN_snoc xs k (by have := HN.out; omega))
      have HT := Lib.hid (step_a (hashN xs k) (xs.getD k 0))
      go_wp2_with (go_at_call 92; refine (stir_any _ _).mono ?_; rintro e w1 ⟨rfl, rfl⟩)
      go_round
      case rel => exact ⟨k + 1, by omega, by go_num, by rw [HS.out, ← HT.out]; rfl⟩
      case measure => simp [intOf]; omega
    · have HE := Lib.hid (show stir (hashN xs k) = hashL xs by rw [show k = xs.length by have := HN.out; omega]; rfl)
      go_wp2_with (go_at_call 92; refine (stir_any _ _).mono ?_; rintro e w1 ⟨rfl, rfl⟩)
      go_ret
      exact ⟨ret_u64 HE.out, rfl⟩

theorem rhash_row (b off n cap : Nat) (xs : List Int) (hn : n = xs.length) (hm : n ≤ 4611686018427387904) (w : World) (hc : ∀ j, j < n → w.cell? ⟨b, off + j, none⟩ = some (.int .u64 (xs.getD j 0))) :
    Calls Try.prog 53 #[.slice (some ⟨b, off, none⟩) n cap] w fun e w' => e = .returned (.int .u64 (hashL xs)) ∧ w = w' := by
  have HN := Lib.hid hn
  have HC := Lib.hid hc
  clear hn hc
  go_enter Try.func53, Try.ntmps53
  go_wp2
  go_loop [3, 4] (fun s i => ∃ k : Nat, k ≤ n ∧ i = .int .i64 k ∧ s = .int .u64 (hashN xs k)) (fun _ i => n - (intOf i).toNat)
  case atStart => exact ⟨0, Nat.zero_le _, rfl, by rw [HN.out]; rfl⟩
  case round =>
    obtain ⟨k, hk, rfl, rfl⟩ := hrel
    by_cases hlt : k < n
    · have hcell := HC.out k hlt
      have HS := Lib.hid (hashN_snoc xs k (by have := HN.out; omega))
      have HT := Lib.hid (step_b (hashN xs k) (xs.getD k 0))
      go_wp2_with (go_at_call 93; refine (rstir_any _ _).mono ?_; rintro e w1 ⟨rfl, rfl⟩)
      go_round
      case rel => exact ⟨k + 1, by omega, by go_num, by rw [HS.out, ← HT.out]; rfl⟩
      case measure => simp [intOf]; omega
    · have HE := Lib.hid (show stir (hashN xs k) = hashL xs by rw [show k = xs.length by have := HN.out; omega]; rfl)
      go_wp2_with (go_at_call 93; refine (rstir_any _ _).mono ?_; rintro e w1 ⟨rfl, rfl⟩)
      go_ret
      exact ⟨ret_u64 HE.out, rfl⟩
end Go.Proofs.Ytohnjhnfhmfiiaa.Di
