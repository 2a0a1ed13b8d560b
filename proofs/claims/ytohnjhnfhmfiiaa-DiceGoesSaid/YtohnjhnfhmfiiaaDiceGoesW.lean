/- The walk of DiceGoes: the law returns true, whatever key and list of dimensions come in; nothing that was there is written. -/
import Derived.Test.YtohnjhnfhmfiiaaDk
import Derived.OpenShut
import Derived.Deep.DeepCutAuto
namespace Go.Proofs.Ytohnjhnfhmfiiaa.diceGoesW
open Go.RowKit Go.Proofs.Ytohnjhnfhmfiiaa Go.Proofs.Ytohnjhnfhmfiiaa.Di Go.Proofs.Ytohnjhnfhmfiiaa.Ls

/-- a key in a block of its own -/
def KeyAt (g : Nat) (s f p m : Int) (w : World) : Prop :=
  g < w.heap.size ∧ w.cell? ⟨g, 0, none⟩ = some (.int .u64 s) ∧ w.cell? ⟨g, 1, none⟩ = some (.int .i64 f) ∧ w.cell? ⟨g, 2, none⟩ = some (.int .i64 p) ∧ w.cell? ⟨g, 3, none⟩ = some (.int .i64 m)

theorem KeyAt.on {g : Nat} {s f p m : Int} {w w' : World} (h : KeyAt g s f p m w) (hb : Below w.heap.size w w') : KeyAt g s f p m w' := by
  obtain ⟨h0, h1, h2, h3, h4⟩ := h
  obtain ⟨hc, hf⟩ := kcell hb
  exact ⟨Nat.lt_of_lt_of_le h0 hb.size, (hc _ _ h0).trans h1, (hc _ _ h0).trans h2, (hc _ _ h0).trans h3, (hc _ _ h0).trans h4⟩

theorem KeyAt.far {g k : Nat} {s f p m : Int} {w : World} (h : KeyAt g s f p m w) (hn : g ≠ k) (v : Value) : KeyAt g s f p m (w.setCell ⟨k, 4, none⟩ v) := by
  obtain ⟨h0, h1, h2, h3, h4⟩ := h
  refine ⟨by simpa using h0, ?_, ?_, ?_, ?_⟩
  · rw [kset_far hn]; exact h1
  · rw [kset_far hn]; exact h2
  · rw [kset_far hn]; exact h3
  · rw [kset_far hn]; exact h4

theorem drawn_b (g : Nat) (s f p m n : Int) (w : World) (h : DiceAt g s f p m n w) : Calls Try.prog 63 #[.pointer (some ⟨g, 0, none⟩)] w fun e w' => e = .returned (.int .i64 n) ∧ Below w.heap.size w w' :=
  (drawn_any g s f p m n w h).mono fun _ _ ⟨a, b⟩ => ⟨a, b ▸ Below.refl _ _⟩

set_option maxHeartbeats 6000000 in
set_option maxRecDepth 100000 in
theorem walk (s f p m : Int) (a : Option Addr) (len cap : Nat) (zs : List Int) (w : World) (hr : IsRow .i64 w a len zs) :
    Calls Try.prog 12 #[K4 s f p m, .slice a len cap] w fun e w' => e = .returned (.bool true) ∧ Below w.heap.size w w' := by
  have HR := Lib.hid hr
  have hlen : len ≤ 4611686018427387904 := by
    rcases hr with h | ⟨b, off, -, -, -, h, -⟩ <;> omega
  clear hr
  have hbk : Below w.heap.size w (w.alloc (Obj.cells #[.int .u64 s, .int .i64 f, .int .i64 p, .int .i64 m] 74)) := below_k1 _ _
  have hk : KeyAt w.heap.size s f p m (w.alloc (Obj.cells #[.int .u64 s, .int .i64 f, .int .i64 p, .int .i64 m] 74)) := ⟨by simp, by go_simp, by go_simp, by go_simp, by go_simp⟩
  go_enter Try.func12, Try.ntmps12
  go_upto_region 1 with fail
  go_cut [5, 6] (fun s5 s6 wx => ∃ gd ge : Nat, s5 = .pointer (some ⟨gd, 0, none⟩) ∧ s6 = .pointer (some ⟨ge, 0, none⟩) ∧ gd ≠ ge ∧ w.heap.size < gd ∧ w.heap.size < ge ∧ KeyAt w.heap.size s f p m wx ∧ DiceAt gd s f p m 0 wx ∧ DiceAt ge s f p m 0 wx ∧ Below w.heap.size w wx)
  case first =>
    go_region_held3 (fun w' => w'.cell? ⟨w.heap.size, 0, none⟩ = some (.int .u64 s) ∧ w'.cell? ⟨w.heap.size, 1, none⟩ = some (.int .i64 f) ∧ w'.cell? ⟨w.heap.size, 2, none⟩ = some (.int .i64 p) ∧ w'.cell? ⟨w.heap.size, 3, none⟩ = some (.int .i64 m)) (first | (go_keep; done) | (go_split_ands; (try dsimp only); exact ⟨hk.2.1, hk.2.2.1, hk.2.2.2.1, hk.2.2.2.2⟩)) (first | (go_at_call 54; refine (tokey_any _ _ _ _ _).mono ?_; rintro e w9 ⟨rfl, hbn⟩; (first | (have hbm := dbelow hbn) | (have hbm := hbn)); replace hk := hk.on hbm; replace hbk := hbk.trans (hbm.mono hbk.size); have hz := hbk.size; (try (replace hd := hd.on hbm))) | (go_at_call 61; refine (new_any _ _ _ _ _).mono ?_; rintro e w9 ⟨rfl, hdn, hbn⟩; (first | (have hbm := dbelow hbn) | (have hbm := hbn)); replace hk := hk.on hbm; replace hbk := hbk.trans (hbm.mono hbk.size); have hz := hbk.size; (first | (have hsz := hd.1; replace hd := hd.on hbm; have he := hdn) | (have hd := hdn))))
    go_wp2_with fail
    go_meet
    exact ⟨_, _, rfl, rfl, by omega, by omega, by omega, hk, hd, he, hbk⟩
  case rest =>
    obtain ⟨gd, ge, rfl, rfl, hne, hgd, hge, hk0, hd0, he0, hbk0⟩ := hcut
    clear hbk hk
    go_wp2_with fail
    go_loopw [7, 26] (fun s7 s26 wr => ∃ k : Nat, k ≤ len ∧ s26 = .int .i64 k ∧ ∃ n : Int, s7 = .int .i64 n ∧ 0 ≤ n ∧ n ≤ 1099511627777 ∧ KeyAt w.heap.size s f p m wr ∧ DiceAt gd s f p m n wr ∧ DiceAt ge s f p m n wr ∧ Below w.heap.size w wr) (fun _ s26 _ => len - (intOf s26).toNat)
    case atStart => exact ⟨0, by omega, rfl, 0, rfl, by omega, by omega, hk0, hd0, he0, hbk0⟩
    case round =>
      obtain ⟨k, hk', rfl, n, rfl, hn0, hn1, hk, hd, he, hbk⟩ := hrel
      clear hk0 hd0 he0 hbk0
      by_cases hlt : k < len
      · rcases HR.out with h0 | ⟨b, off, rfl, hb, -, hm, hc⟩
        · exact absurd hlt (by omega)
        · obtain ⟨x, hx⟩ : ∃ x, x = zs.getD k 0 := ⟨_, rfl⟩
          have C0 : wr.cell? ⟨b, off + k, none⟩ = some (.int .i64 x) := by rw [hx]; exact (hbk.cell (p := ⟨b, off + k, none⟩) hb).trans (hc k hlt)
          clear hx hc HR
          by_cases h60 : 60 ≤ k
          · go_wp2_with (first | (go_at_call 51; refine (awake_any _).mono ?_; rintro e w9 ⟨rfl, hbn⟩) | (go_at_call 64; refine (nil_next _).mono ?_; rintro e w8 ⟨rfl, rfl⟩) | (go_at_call 63; refine (nil_drawn _).mono ?_; rintro e w8 ⟨rfl, rfl⟩) | (go_at_call 62; refine (nil_skip _ _).mono ?_; rintro e w8 ⟨rfl, rfl⟩))
            go_ret
            exact ⟨rfl, hbk.trans (hbn.mono hbk.size)⟩
          · by_cases h3 : x.tmod 3 = 0
            · by_cases hsk : n ≤ x
              · have hx0 : 0 ≤ x := by omega
                by_cases hbig : 1099511627776 < x
                · go_wp2_with (first | (go_at_call 62; refine (skip_yes gd s f p m n x hsk _ hd).mono ?_; rintro e w9 ⟨rfl, rfl⟩; replace hk := hk.far (show w.heap.size ≠ gd by omega) (.int .i64 x); replace hd := hd.put x; replace he := he.far (Ne.symm hne) (.int .i64 x); replace hbk := hbk.setCell (p := ⟨gd, 4, none⟩) (Nat.le_of_lt hgd) (.int .i64 x)) | (go_at_call 62; refine (skip_yes ge s f p m n x hsk _ he).mono ?_; rintro e w9 ⟨rfl, rfl⟩; replace hk := hk.far (show w.heap.size ≠ ge by omega) (.int .i64 x); replace hd := hd.far hne (.int .i64 x); replace he := he.put x; replace hbk := hbk.setCell (p := ⟨ge, 4, none⟩) (Nat.le_of_lt hge) (.int .i64 x)))
                  go_wp2_with (first | (go_at_call 51; refine (awake_any _).mono ?_; rintro e w9 ⟨rfl, hbn⟩) | (go_at_call 64; refine (nil_next _).mono ?_; rintro e w8 ⟨rfl, rfl⟩) | (go_at_call 63; refine (nil_drawn _).mono ?_; rintro e w8 ⟨rfl, rfl⟩) | (go_at_call 62; refine (nil_skip _ _).mono ?_; rintro e w8 ⟨rfl, rfl⟩))
                  go_ret
                  exact ⟨rfl, hbk.trans (hbn.mono hbk.size)⟩
                · go_wp2_with (first | (go_at_call 62; refine (skip_yes gd s f p m n x hsk _ hd).mono ?_; rintro e w9 ⟨rfl, rfl⟩; replace hk := hk.far (show w.heap.size ≠ gd by omega) (.int .i64 x); replace hd := hd.put x; replace he := he.far (Ne.symm hne) (.int .i64 x); replace hbk := hbk.setCell (p := ⟨gd, 4, none⟩) (Nat.le_of_lt hgd) (.int .i64 x)) | (go_at_call 62; refine (skip_yes ge s f p m n x hsk _ he).mono ?_; rintro e w9 ⟨rfl, rfl⟩; replace hk := hk.far (show w.heap.size ≠ ge by omega) (.int .i64 x); replace hd := hd.far hne (.int .i64 x); replace he := he.put x; replace hbk := hbk.setCell (p := ⟨ge, 4, none⟩) (Nat.le_of_lt hge) (.int .i64 x)))
                  go_region_held3 (fun w' => w'.cell? ⟨w.heap.size, 0, none⟩ = some (.int .u64 s) ∧ w'.cell? ⟨w.heap.size, 1, none⟩ = some (.int .i64 f) ∧ w'.cell? ⟨w.heap.size, 2, none⟩ = some (.int .i64 p) ∧ w'.cell? ⟨w.heap.size, 3, none⟩ = some (.int .i64 m) ∧ w'.cell? ⟨gd, 0, none⟩ = some (.int .u64 s) ∧ w'.cell? ⟨gd, 1, none⟩ = some (.int .i64 f) ∧ w'.cell? ⟨gd, 2, none⟩ = some (.int .i64 p) ∧ w'.cell? ⟨gd, 3, none⟩ = some (.int .i64 m)) (first | (go_split_ands; (try dsimp only); exact ⟨hk.2.1, hk.2.2.1, hk.2.2.2.1, hk.2.2.2.2, hd.2.1, hd.2.2.1, hd.2.2.2.1, hd.2.2.2.2.1⟩) | (go_keep; done)) (first | (go_at_call 63; refine (drawn_b gd s f p m x _ (by first | exact hd | exact hd.on (Below.refl _ _).drew)).mono ?_; rintro e w9 ⟨rfl, hbn⟩; (first | (have hbm := dbelow hbn) | (have hbm := hbn)); replace hk := hk.on hbm; replace hbk := hbk.trans (hbm.mono hbk.size); have hz := hbk.size; replace hd := hd.on hbm; replace he := he.on hbm) | (go_at_call 64; refine (next_any gd s f p m x (by omega) hx0 _ hd).mono ?_; rintro e w9 ⟨rfl, w8, hbn, rfl⟩; (first | (have hbm := dbelow hbn) | (have hbm := hbn)); replace hk := hk.on hbm; replace hbk := hbk.trans (hbm.mono hbk.size); have hz := hbk.size; replace hk := hk.far (show w.heap.size ≠ gd by omega) (.int .i64 (x + 1)); replace hd := (hd.on hbm).put (x + 1); replace he := (he.on hbm).far (Ne.symm hne) (.int .i64 (x + 1)); replace hbk := hbk.setCell (p := ⟨gd, 4, none⟩) (Nat.le_of_lt hgd) (.int .i64 (x + 1))) | (go_at_call 64; refine (next_any ge s f p m x (by omega) hx0 _ he).mono ?_; rintro e w9 ⟨rfl, w8, hbn, rfl⟩; (first | (have hbm := dbelow hbn) | (have hbm := hbn)); replace hk := hk.on hbm; replace hbk := hbk.trans (hbm.mono hbk.size); have hz := hbk.size; replace hk := hk.far (show w.heap.size ≠ ge by omega) (.int .i64 (x + 1)); replace hd := (hd.on hbm).far hne (.int .i64 (x + 1)); replace he := (he.on hbm).put (x + 1); replace hbk := hbk.setCell (p := ⟨ge, 4, none⟩) (Nat.le_of_lt hge) (.int .i64 (x + 1))) | (go_at_call 54; refine (tokey_any _ _ _ _ _).mono ?_; rintro e w9 ⟨rfl, hbn⟩; (first | (have hbm := dbelow hbn) | (have hbm := hbn)); replace hk := hk.on hbm; replace hbk := hbk.trans (hbm.mono hbk.size); have hz := hbk.size; replace hd := hd.on hbm; replace he := he.on hbm) | (go_at_call 57; refine (unit_any _ _ _ _ _ _).mono ?_; rintro e w9 ⟨rfl, hbn⟩; (first | (have hbm := dbelow hbn) | (have hbm := hbn)); replace hk := hk.on hbm; replace hbk := hbk.trans (hbm.mono hbk.size); have hz := hbk.size; replace hd := hd.on hbm; replace he := he.on hbm))
                  go_wp2
                  go_roundw
                  case rel => exact ⟨k + 1, by omega, by go_num, x + 1, by go_num, by omega, by omega, hk, hd, he, hbk⟩
                  case measure => simp [intOf]; omega
              · have hsx : x < n := by omega
                by_cases hbig : 1099511627776 < n
                · go_wp2_with (first | (go_at_call 62; with_reducible refine (skip_no gd s f p m n x hsx _ hd).mono ?_; rintro e w9 ⟨rfl, rfl⟩) | (go_at_call 62; with_reducible refine (skip_no ge s f p m n x hsx _ he).mono ?_; rintro e w9 ⟨rfl, rfl⟩))
                  go_wp2_with (first | (go_at_call 51; refine (awake_any _).mono ?_; rintro e w9 ⟨rfl, hbn⟩) | (go_at_call 64; refine (nil_next _).mono ?_; rintro e w8 ⟨rfl, rfl⟩) | (go_at_call 63; refine (nil_drawn _).mono ?_; rintro e w8 ⟨rfl, rfl⟩) | (go_at_call 62; refine (nil_skip _ _).mono ?_; rintro e w8 ⟨rfl, rfl⟩))
                  go_ret
                  exact ⟨rfl, hbk.trans (hbn.mono hbk.size)⟩
                · go_wp2_with (first | (go_at_call 62; with_reducible refine (skip_no gd s f p m n x hsx _ hd).mono ?_; rintro e w9 ⟨rfl, rfl⟩) | (go_at_call 62; with_reducible refine (skip_no ge s f p m n x hsx _ he).mono ?_; rintro e w9 ⟨rfl, rfl⟩))
                  go_region_held3 (fun w' => w'.cell? ⟨w.heap.size, 0, none⟩ = some (.int .u64 s) ∧ w'.cell? ⟨w.heap.size, 1, none⟩ = some (.int .i64 f) ∧ w'.cell? ⟨w.heap.size, 2, none⟩ = some (.int .i64 p) ∧ w'.cell? ⟨w.heap.size, 3, none⟩ = some (.int .i64 m) ∧ w'.cell? ⟨gd, 0, none⟩ = some (.int .u64 s) ∧ w'.cell? ⟨gd, 1, none⟩ = some (.int .i64 f) ∧ w'.cell? ⟨gd, 2, none⟩ = some (.int .i64 p) ∧ w'.cell? ⟨gd, 3, none⟩ = some (.int .i64 m)) (first | (go_split_ands; (try dsimp only); exact ⟨hk.2.1, hk.2.2.1, hk.2.2.2.1, hk.2.2.2.2, hd.2.1, hd.2.2.1, hd.2.2.2.1, hd.2.2.2.2.1⟩) | (go_keep; done)) (first | (go_at_call 63; refine (drawn_b gd s f p m n _ (by first | exact hd | exact hd.on (Below.refl _ _).drew)).mono ?_; rintro e w9 ⟨rfl, hbn⟩; (first | (have hbm := dbelow hbn) | (have hbm := hbn)); replace hk := hk.on hbm; replace hbk := hbk.trans (hbm.mono hbk.size); have hz := hbk.size; replace hd := hd.on hbm; replace he := he.on hbm) | (go_at_call 64; refine (next_any gd s f p m n (by omega) hn0 _ hd).mono ?_; rintro e w9 ⟨rfl, w8, hbn, rfl⟩; (first | (have hbm := dbelow hbn) | (have hbm := hbn)); replace hk := hk.on hbm; replace hbk := hbk.trans (hbm.mono hbk.size); have hz := hbk.size; replace hk := hk.far (show w.heap.size ≠ gd by omega) (.int .i64 (n + 1)); replace hd := (hd.on hbm).put (n + 1); replace he := (he.on hbm).far (Ne.symm hne) (.int .i64 (n + 1)); replace hbk := hbk.setCell (p := ⟨gd, 4, none⟩) (Nat.le_of_lt hgd) (.int .i64 (n + 1))) | (go_at_call 64; refine (next_any ge s f p m n (by omega) hn0 _ he).mono ?_; rintro e w9 ⟨rfl, w8, hbn, rfl⟩; (first | (have hbm := dbelow hbn) | (have hbm := hbn)); replace hk := hk.on hbm; replace hbk := hbk.trans (hbm.mono hbk.size); have hz := hbk.size; replace hk := hk.far (show w.heap.size ≠ ge by omega) (.int .i64 (n + 1)); replace hd := (hd.on hbm).far hne (.int .i64 (n + 1)); replace he := (he.on hbm).put (n + 1); replace hbk := hbk.setCell (p := ⟨ge, 4, none⟩) (Nat.le_of_lt hge) (.int .i64 (n + 1))) | (go_at_call 54; refine (tokey_any _ _ _ _ _).mono ?_; rintro e w9 ⟨rfl, hbn⟩; (first | (have hbm := dbelow hbn) | (have hbm := hbn)); replace hk := hk.on hbm; replace hbk := hbk.trans (hbm.mono hbk.size); have hz := hbk.size; replace hd := hd.on hbm; replace he := he.on hbm) | (go_at_call 57; refine (unit_any _ _ _ _ _ _).mono ?_; rintro e w9 ⟨rfl, hbn⟩; (first | (have hbm := dbelow hbn) | (have hbm := hbn)); replace hk := hk.on hbm; replace hbk := hbk.trans (hbm.mono hbk.size); have hz := hbk.size; replace hd := hd.on hbm; replace he := he.on hbm))
                  go_wp2
                  go_roundw
                  case rel => exact ⟨k + 1, by omega, by go_num, n + 1, by go_num, by omega, by omega, hk, hd, he, hbk⟩
                  case measure => simp [intOf]; omega
            · skip
              by_cases hbig : 1099511627776 < n
              · go_wp2_with fail
                go_wp2_with (first | (go_at_call 51; refine (awake_any _).mono ?_; rintro e w9 ⟨rfl, hbn⟩) | (go_at_call 64; refine (nil_next _).mono ?_; rintro e w8 ⟨rfl, rfl⟩) | (go_at_call 63; refine (nil_drawn _).mono ?_; rintro e w8 ⟨rfl, rfl⟩) | (go_at_call 62; refine (nil_skip _ _).mono ?_; rintro e w8 ⟨rfl, rfl⟩))
                go_ret
                exact ⟨rfl, hbk.trans (hbn.mono hbk.size)⟩
              · go_wp2_with fail
                go_region_held3 (fun w' => w'.cell? ⟨w.heap.size, 0, none⟩ = some (.int .u64 s) ∧ w'.cell? ⟨w.heap.size, 1, none⟩ = some (.int .i64 f) ∧ w'.cell? ⟨w.heap.size, 2, none⟩ = some (.int .i64 p) ∧ w'.cell? ⟨w.heap.size, 3, none⟩ = some (.int .i64 m) ∧ w'.cell? ⟨gd, 0, none⟩ = some (.int .u64 s) ∧ w'.cell? ⟨gd, 1, none⟩ = some (.int .i64 f) ∧ w'.cell? ⟨gd, 2, none⟩ = some (.int .i64 p) ∧ w'.cell? ⟨gd, 3, none⟩ = some (.int .i64 m)) (first | (go_split_ands; (try dsimp only); exact ⟨hk.2.1, hk.2.2.1, hk.2.2.2.1, hk.2.2.2.2, hd.2.1, hd.2.2.1, hd.2.2.2.1, hd.2.2.2.2.1⟩) | (go_keep; done)) (first | (go_at_call 63; refine (drawn_b gd s f p m n _ (by first | exact hd | exact hd.on (Below.refl _ _).drew)).mono ?_; rintro e w9 ⟨rfl, hbn⟩; (first | (have hbm := dbelow hbn) | (have hbm := hbn)); replace hk := hk.on hbm; replace hbk := hbk.trans (hbm.mono hbk.size); have hz := hbk.size; replace hd := hd.on hbm; replace he := he.on hbm) | (go_at_call 64; refine (next_any gd s f p m n (by omega) hn0 _ hd).mono ?_; rintro e w9 ⟨rfl, w8, hbn, rfl⟩; (first | (have hbm := dbelow hbn) | (have hbm := hbn)); replace hk := hk.on hbm; replace hbk := hbk.trans (hbm.mono hbk.size); have hz := hbk.size; replace hk := hk.far (show w.heap.size ≠ gd by omega) (.int .i64 (n + 1)); replace hd := (hd.on hbm).put (n + 1); replace he := (he.on hbm).far (Ne.symm hne) (.int .i64 (n + 1)); replace hbk := hbk.setCell (p := ⟨gd, 4, none⟩) (Nat.le_of_lt hgd) (.int .i64 (n + 1))) | (go_at_call 64; refine (next_any ge s f p m n (by omega) hn0 _ he).mono ?_; rintro e w9 ⟨rfl, w8, hbn, rfl⟩; (first | (have hbm := dbelow hbn) | (have hbm := hbn)); replace hk := hk.on hbm; replace hbk := hbk.trans (hbm.mono hbk.size); have hz := hbk.size; replace hk := hk.far (show w.heap.size ≠ ge by omega) (.int .i64 (n + 1)); replace hd := (hd.on hbm).far hne (.int .i64 (n + 1)); replace he := (he.on hbm).put (n + 1); replace hbk := hbk.setCell (p := ⟨ge, 4, none⟩) (Nat.le_of_lt hge) (.int .i64 (n + 1))) | (go_at_call 54; refine (tokey_any _ _ _ _ _).mono ?_; rintro e w9 ⟨rfl, hbn⟩; (first | (have hbm := dbelow hbn) | (have hbm := hbn)); replace hk := hk.on hbm; replace hbk := hbk.trans (hbm.mono hbk.size); have hz := hbk.size; replace hd := hd.on hbm; replace he := he.on hbm) | (go_at_call 57; refine (unit_any _ _ _ _ _ _).mono ?_; rintro e w9 ⟨rfl, hbn⟩; (first | (have hbm := dbelow hbn) | (have hbm := hbn)); replace hk := hk.on hbm; replace hbk := hbk.trans (hbm.mono hbk.size); have hz := hbk.size; replace hd := hd.on hbm; replace he := he.on hbm))
                go_wp2
                go_roundw
                case rel => exact ⟨k + 1, by omega, by go_num, n + 1, by go_num, by omega, by omega, hk, hd, he, hbk⟩
                case measure => simp [intOf]; omega
      · go_wp2_with (first | (go_at_call 51; refine (awake_any _).mono ?_; rintro e w9 ⟨rfl, hbn⟩) | (go_at_call 64; refine (nil_next _).mono ?_; rintro e w8 ⟨rfl, rfl⟩) | (go_at_call 63; refine (nil_drawn _).mono ?_; rintro e w8 ⟨rfl, rfl⟩) | (go_at_call 62; refine (nil_skip _ _).mono ?_; rintro e w8 ⟨rfl, rfl⟩))
        go_ret
        exact ⟨rfl, hbk.trans (hbn.mono hbk.size)⟩
end Go.Proofs.Ytohnjhnfhmfiiaa.diceGoesW
