/- Scenes: the contracts of the makers of questions, and of what they make. -/
import Derived.Test.YtplcbdmiccpnnaaGreatC36
import Derived.Shelf.Abstract
import Derived.Test.YtplcbdmiccpnnaaGreatC20
namespace Go.Proofs.YtplcbdmiccpnnaaGreat.Sc
open Go.RowKit Go.Shelf Go.Proofs.YtplcbdmiccpnnaaGreat Go.Proofs.YtplcbdmiccpnnaaGreat.Wa Go.Proofs.YtplcbdmiccpnnaaGreat.Ve Go.Proofs.YtplcbdmiccpnnaaGreat.Tk Go.Proofs.YtplcbdmiccpnnaaGreat.Ls
set_option linter.unusedVariables false

/-- three boxes: how many, how many at most, whether one may be -/
def EB (w : World) (q : Nat) (n m : Int) (f : Value) : Prop :=
  q + 2 < w.heap.size ∧ w.cell? ⟨q, 0, none⟩ = some (.int .i64 n) ∧ w.cell? ⟨q + 1, 0, none⟩ = some (.int .i64 m) ∧ w.cell? ⟨q + 2, 0, none⟩ = some f

theorem EB.low {w w' : World} {q N : Nat} {n m : Int} {f : Value} (h : EB w q n m f) (hb : Below N w w') (hq : q + 2 < N) : EB w' q n m f :=
  ⟨Nat.lt_of_lt_of_le h.1 hb.size, (hb.cell (p := ⟨q, 0, none⟩) (by show q < N; omega)).trans h.2.1, (hb.cell (p := ⟨q + 1, 0, none⟩) (by show q + 1 < N; omega)).trans h.2.2.1, (hb.cell (p := ⟨q + 2, 0, none⟩) (by show q + 2 < N; omega)).trans h.2.2.2⟩

theorem EB.on {w w' : World} {q : Nat} {n m : Int} {f : Value} (h : EB w q n m f) (hb : Below w.heap.size w w') : EB w' q n m f := h.low hb h.1

abbrev EF (q : Nat) : Value := .func (.func 74) #[] #[.pointer (some ⟨q, 0, none⟩), .pointer (some ⟨q + 1, 0, none⟩), .pointer (some ⟨q + 2, 0, none⟩)]

theorem below_n3 (w : World) (o o2 o3 : Obj) : Below w.heap.size w (((w.alloc o).alloc o2).alloc o3) := (below_n2 w o o2).alloc (by simp; omega) o3

theorem each_any (n m : Int) (fn : Fn) (lb cs : Array Value) (w : World) :
    Calls Tryz.prog 42 #[.int .i64 n, .int .i64 m, .func fn lb cs] w fun e w' => (e = .returned (EF w.heap.size) ∧ EB w' w.heap.size n m (.func fn lb cs)) ∧ Below w.heap.size w w' := by
  go_enter Tryz.func42, Tryz.ntmps42
  go_wp2
  go_ret
  exact ⟨⟨rfl, by simp, by simp [go_sem], by simp [go_sem], by simp [go_sem]⟩, below_n3 _ _ _ _⟩

theorem all_snoc {b : Nat → Bool} {k : Nat} (h : ∀ j, j < k → b j = true) (hk : b k = true) : ∀ j, j < k + 1 → b j = true := fun j hj => by
  by_cases e : j = k
  · subst e; exact hk
  · exact h j (by omega)

/-- a function of the program's own -/
def Ent (g : Nat) : Prop := ∀ args W, (callFunc g args).run Tryz.prog W = .ok (.enter g args) W

/-- a question about the k-th of some -/
def Asks (w : World) (g : Nat) (lb cs : Array Value) (n : Nat) (b : Nat → Bool) : Prop :=
  ∀ k, k < n → ∀ W, Below w.heap.size w W → Calls Tryz.prog g (lb.push (.int .i64 (k : Int)) ++ cs) W fun e W' => e = .returned (.bool (b k)) ∧ Below W.heap.size W W'

/-- a question about one thing -/
def Once (w : World) (g : Nat) (lb cs : Array Value) (b : Bool) : Prop :=
  ∀ W, Below w.heap.size w W → Calls Tryz.prog g (lb ++ cs) W fun e W' => e = .returned (.bool b) ∧ Below W.heap.size W W'

/-- a question where -/
def Where (w : World) (g : Nat) (lb cs : Array Value) (z : Int) : Prop :=
  ∀ W, Below w.heap.size w W → Calls Tryz.prog g (lb ++ cs) W fun e W' => e = .returned (.int .i64 z) ∧ Below W.heap.size W W'

theorem Asks.on {w w' : World} {g : Nat} {lb cs : Array Value} {n : Nat} {b : Nat → Bool} (h : Asks w g lb cs n b) (hb : Below w.heap.size w w') : Asks w' g lb cs n b :=
  fun k hk W hW => h k hk W (hb.trans (hW.mono hb.size))

theorem Once.on {w w' : World} {g : Nat} {lb cs : Array Value} {b : Bool} (h : Once w g lb cs b) (hb : Below w.heap.size w w') : Once w' g lb cs b :=
  fun W hW => h W (hb.trans (hW.mono hb.size))

theorem Where.on {w w' : World} {g : Nat} {lb cs : Array Value} {z : Int} (h : Where w g lb cs z) (hb : Below w.heap.size w w') : Where w' g lb cs z :=
  fun W hW => h W (hb.trans (hW.mono hb.size))

set_option maxRecDepth 100000 in
set_option maxHeartbeats 4000000 in
theorem each1_any (q n m : Nat) (g : Nat) (lb cs : Array Value) (b : Nat → Bool) (hg : Ent g) (hm : m ≤ 1000) (w : World) (h : EB w q n m (.func (.func g) lb cs)) (ha : n ≤ m → Asks w g lb cs n b) :
    Calls Tryz.prog 74 #[.pointer (some ⟨q, 0, none⟩), .pointer (some ⟨q + 1, 0, none⟩), .pointer (some ⟨q + 2, 0, none⟩)] w fun e w' => e = .returned (.int .i64 (whereB n m b)) ∧ Below w.heap.size w w' := by
  have HE := Lib.hid h
  have HA := Lib.hid ha
  have hg' : ∀ args W, (callFunc g args).run Tryz.prog W = .ok (.enter g args) W := hg
  obtain ⟨hq, c0, c1, c2⟩ := h
  clear ha hg
  by_cases h1 : m < n
  · have h1' : (m : Int) < n := by omega
    rw [whereB_more h1]
    go_enter Tryz.func74, Tryz.ntmps74
    go_wp2
    go_ret
    exact ⟨rfl, Below.refl _ _⟩
  · have h1' : ¬ (m : Int) < n := by omega
    have hnm : n ≤ m := by omega
    have HA' := Lib.hid (HA.out hnm)
    clear HA
    go_enter Tryz.func74, Tryz.ntmps74
    go_wp2_with fail
    go_loopw [10] (fun i wr => ∃ k : Nat, k ≤ n ∧ i = .int .i64 k ∧ Hid (∀ j, j < k → b j = true) ∧ Below w.heap.size w wr) (fun i _ => n - (intOf i).toNat)
    case atStart => exact ⟨0, Nat.zero_le _, rfl, Lib.hid (fun j hj => by omega), Below.refl _ _⟩
    case round =>
      obtain ⟨k, hk, rfl, HK, hbk⟩ := hrel
      by_cases hlt : k < n
      · have hlt' : (k : Int) < n := by omega
        obtain ⟨-, d0, d1, d2⟩ := HE.out.on hbk
        obtain ⟨v, hv⟩ : ∃ v, b k = v := ⟨_, rfl⟩
        have HV := Lib.hid hv
        clear hv
        go_wp2_with fail
        refine (HA'.out k hlt _ hbk).mono ?_
        rintro e w1 ⟨rfl, hb1⟩
        rw [HV.out]
        have hb2 := hbk.trans (hb1.mono hbk.size)
        cases v
        · have HW := Lib.hid (whereB_at hnm hlt HK.out HV.out)
          go_wp2
          go_ret
          exact ⟨by rw [HW.out]; rfl, hb2⟩
        · go_wp2
          go_roundw
          case rel => exact ⟨k + 1, by omega, by go_num, Lib.hid (all_snoc HK.out HV.out), hb2⟩
          case measure => simp [intOf]; omega
      · obtain rfl : k = n := by omega
        have HW := Lib.hid (whereB_none hnm HK.out)
        go_wp2
        go_ret
        exact ⟨by rw [HW.out]; rfl, hbk⟩

theorem each1_where (q n m : Nat) (g : Nat) (lb cs : Array Value) (b : Nat → Bool) (hg : Ent g) (hm : m ≤ 1000) (w : World) (h : EB w q n m (.func (.func g) lb cs)) (ha : n ≤ m → Asks w g lb cs n b) :
    Where w 74 #[] #[.pointer (some ⟨q, 0, none⟩), .pointer (some ⟨q + 1, 0, none⟩), .pointer (some ⟨q + 2, 0, none⟩)] (whereB n m b) := fun W hW => by
  simpa using each1_any q n m g lb cs b hg hm W (h.on hW) (fun hn => (ha hn).on hW)

theorem alone1_any (q : Nat) (g : Nat) (lb cs : Array Value) (b : Bool) (hg : Ent g) (k : Int) (w : World) (h : w.cell? ⟨q, 0, none⟩ = some (.func (.func g) lb cs)) (ha : Once w g lb cs b) :
    Calls Tryz.prog 70 #[.int .i64 k, .pointer (some ⟨q, 0, none⟩)] w fun e w' => e = .returned (.bool b) ∧ Below w.heap.size w w' := by
  have HA := Lib.hid ha
  have hg' : ∀ args W, (callFunc g args).run Tryz.prog W = .ok (.enter g args) W := hg
  clear ha hg
  go_enter Tryz.func70, Tryz.ntmps70
  go_wp2_with fail
  refine (HA.out _ (Below.refl _ _)).mono ?_
  rintro e w1 ⟨rfl, hb1⟩
  go_wp2
  go_ret
  exact ⟨rfl, hb1⟩

theorem ent_each1 : Ent 74 := fun args W => enters_of Tryz.func74 (by kernel_rfl) rfl args W

theorem ent_alone1 : Ent 70 := fun args W => enters_of Tryz.func70 (by kernel_rfl) rfl args W

theorem once_bd (b : Bool) : whereB 1 1 (fun _ => b) = onceB b := by
  cases b <;> simp [whereB, badTo, onceB]

theorem alone_any (g : Nat) (lb cs : Array Value) (b : Bool) (hg : Ent g) (w : World) (ha : Once w g lb cs b) :
    Calls Tryz.prog 40 #[.func (.func g) lb cs] w fun e w' => (∃ q, e = .returned (EF q) ∧ Where w' 74 #[] #[.pointer (some ⟨q, 0, none⟩), .pointer (some ⟨q + 1, 0, none⟩), .pointer (some ⟨q + 2, 0, none⟩)] (onceB b)) ∧ Below w.heap.size w w' := by
  have HA := Lib.hid ha
  clear ha
  have hb0 := below_n1 w (.cells #[.func (.func g) lb cs] 52)
  have hc0 : (w.alloc (.cells #[.func (.func g) lb cs] 52)).cell? ⟨w.heap.size, 0, none⟩ = some (.func (.func g) lb cs) := by simp [go_sem]
  go_enter Tryz.func40, Tryz.ntmps40
  go_wp2_with fail
  refine (each_any _ _ _ _ _ _).mono ?_
  rintro e w1 ⟨⟨rfl, hE⟩, hb1⟩
  go_wp2
  go_ret
  refine ⟨⟨_, rfl, ?_⟩, hb0.trans (hb1.mono hb0.size)⟩
  rw [← once_bd]
  refine each1_where _ 1 1 70 #[] #[.pointer (some ⟨w.heap.size, 0, none⟩)] _ ent_alone1 (by omega) w1 (by rw [World.size_alloc] at hE; exact hE) (fun _ k hk W hW => ?_)
  have := alone1_any w.heap.size g lb cs b hg (k : Int) W (held_on hW (held_on hb1 hc0)) (HA.out.on (hb0.trans ((hb1.trans (hW.mono hb1.size)).mono hb0.size)))
  simpa using this

end Go.Proofs.YtplcbdmiccpnnaaGreat.Sc

/- Scenes: the rules as questions; the contract of the lamps that are too many. -/
namespace Go.Proofs.YtplcbdmiccpnnaaGreat.Sc
open Go.RowKit Go.Shelf Go.Proofs.YtplcbdmiccpnnaaGreat Go.Proofs.YtplcbdmiccpnnaaGreat.Wa Go.Proofs.YtplcbdmiccpnnaaGreat.Ve Go.Proofs.YtplcbdmiccpnnaaGreat.Tk Go.Proofs.YtplcbdmiccpnnaaGreat.Ls
set_option linter.unusedVariables false

theorem once_head (s : Scn) (w : World) : Once w 41 #[HS s] #[] (hdB s) := fun W _ => by
  simpa using head_is s _ rfl W

theorem once_lens (s : Scn) (a : Pla) (w : World) : Once w 49 #[SV s a] #[] (lnB s) := fun W _ => by
  simpa using lens_any s a W

theorem asks_joint (s : Scn) (a : Pla) (w : World) (hs : ScAt w s a) : Asks w 47 #[SV s a] #[] s.nj (jB s) := fun k hk W hW => by
  obtain ⟨b, off, hba, hb, f0, f1, f2, f3⟩ := nums4 (hs.on hW).j hk
  have hj := hs.j.1
  have := joint_row s a b off k _ _ _ _ hba hk (by omega) W hb (Lib.hid ⟨f0, f1, f2, f3⟩)
  simpa [jB] using this

theorem asks_shape (s : Scn) (a : Pla) (w : World) (hs : ScAt w s a) : Asks w 48 #[SV s a] #[] s.ns (sB s) := fun k hk W hW => by
  obtain ⟨b, off, hba, hb, f0, f1, f2, f3, f4, f5, f6, f7, f8, f9, f10, f11, f12⟩ := nums13 (hs.on hW).sh hk
  have hj := hs.sh.1
  have := shape_row s a b off k _ _ _ _ _ _ _ _ _ _ _ _ _ hba hk (by omega) W hb (Lib.hid ⟨f0, f1, f2, f3, f4, f5, f6, f7, f8, f9, f10, f11, f12⟩)
  have e := shape_b s.nj s.np (row13 s k)
  simp only [row13, Nat.add_zero] at e
  rw [e] at this
  simpa [sB] using this

set_option maxHeartbeats 4000000 in
theorem paint_at (s : Scn) (a : Pla) (q k : Nat) (hk : k < s.np) (w : World) (hs : ScAt w s a) (hq : SBox w q s a) :
    Calls Tryz.prog 43 #[.int .i64 (k : Int), .pointer (some ⟨q, 0, none⟩)] w fun e w' => e = .returned (.bool (pB s k)) ∧ Below w.heap.size w w' := by
  obtain ⟨pa, pc, ta, tc, ja, jc, sa, sc⟩ := a
  obtain ⟨b, off, hba, hb, f0, f1, f2, f3, f4⟩ := nums5 hs.p hk
  have hba' : pa = some ⟨b, off, none⟩ := hba
  subst hba'
  have hnp := hs.p.1
  have hk' : (k : Int) < s.np := by omega
  obtain ⟨q0, q⟩ := hq
  have c13 := q.2.2.2.2.2.2.2.2.2.2.2.2.2.1
  clear q hs hba
  obtain ⟨y0, hy0⟩ : ∃ y, y = s.P (k * 5) := ⟨_, rfl⟩
  obtain ⟨y1, hy1⟩ : ∃ y, y = s.P (k * 5 + 1) := ⟨_, rfl⟩
  obtain ⟨y2, hy2⟩ : ∃ y, y = s.P (k * 5 + 2) := ⟨_, rfl⟩
  obtain ⟨y3, hy3⟩ : ∃ y, y = s.P (k * 5 + 3) := ⟨_, rfl⟩
  obtain ⟨y4, hy4⟩ : ∃ y, y = s.P (k * 5 + 4) := ⟨_, rfl⟩
  have HP := Lib.hid (show pB s k = paintB y0 y1 y2 y3 y4 by rw [hy0, hy1, hy2, hy3, hy4]; rfl)
  rw [← hy0] at f0
  rw [← hy1] at f1
  rw [← hy2] at f2
  rw [← hy3] at f3
  rw [← hy4] at f4
  clear hy0 hy1 hy2 hy3 hy4
  go_enter Tryz.func43, Tryz.ntmps43
  go_wp2_with fail
  refine (paint_any _ _ _ _ _ _).mono ?_
  rintro e w1 ⟨rfl, hb1⟩
  go_wp2
  go_ret
  exact ⟨by rw [HP.out]; rfl, hb1⟩

theorem asks_paint (s : Scn) (a : Pla) (q : Nat) (w : World) (hs : ScAt w s a) (hq : SBox w q s a) : Asks w 43 #[] #[.pointer (some ⟨q, 0, none⟩)] s.np (pB s) := fun k hk W hW => by
  simpa using paint_at s a q k hk W (hs.on hW) (hq.on hW)

set_option maxHeartbeats 4000000 in
theorem track_at (s : Scn) (a : Pla) (q k : Nat) (hk : k < s.nt) (w : World) (hs : ScAt w s a) (hq : SBox w q s a) :
    Calls Tryz.prog 45 #[.int .i64 (k : Int), .pointer (some ⟨q, 0, none⟩)] w fun e w' => e = .returned (.bool (tB s k)) ∧ Below w.heap.size w w' := by
  obtain ⟨pa, pc, ta, tc, ja, jc, sa, sc⟩ := a
  have hnt := hs.t.1
  obtain ⟨-, h | ⟨b, off, hba, hb, hc⟩⟩ := hs.t
  · omega
  obtain ⟨ka, kc, f0, f1, hka⟩ := hc k hk
  have hba' : ta = some ⟨b, off, none⟩ := hba
  subst hba'
  rw [show off + (k * 2 + 1) = off + k * 2 + 1 by omega] at f1
  have hk' : (k : Int) < s.nt := by omega
  obtain ⟨q0, q⟩ := hq
  have c14 := q.2.2.2.2.2.2.2.2.2.2.2.2.2.2.1
  clear q hs hba hc
  have HK := Lib.hid hka
  clear hka
  obtain ⟨y0, hy0⟩ : ∃ y, y = s.way k := ⟨_, rfl⟩
  obtain ⟨y1, hy1⟩ : ∃ y, y = s.kn k := ⟨_, rfl⟩
  have HP := Lib.hid (show tB s k = rightB y0 y1 (s.K k) by rw [hy0, hy1]; rfl)
  rw [← hy0] at f0
  rw [← hy1] at f1 HK
  clear hy0 hy1
  go_enter Tryz.func45, Tryz.ntmps45
  go_wp2_with fail
  refine (right_any _ _ _ _ _ _ HK.out).mono ?_
  rintro e w1 ⟨rfl, hb1⟩
  go_wp2
  go_ret
  exact ⟨by rw [HP.out]; rfl, hb1⟩

theorem asks_track (s : Scn) (a : Pla) (q : Nat) (w : World) (hs : ScAt w s a) (hq : SBox w q s a) : Asks w 45 #[] #[.pointer (some ⟨q, 0, none⟩)] s.nt (tB s) := fun k hk W hW => by
  simpa using track_at s a q k hk W (hs.on hW) (hq.on hW)

theorem lampW_few {s : Scn} (h : (lamps s).length ≤ 16) : lampW s = -1 := by simp [lampW, h]

theorem lampW_many {s : Scn} (h : 16 < (lamps s).length) : lampW s = ((lamps s).getD 16 0 : Nat) := by
  unfold lampW; rw [if_neg (by omega)]

set_option maxHeartbeats 4000000 in
theorem many_any (s : Scn) (a : Pla) (w : World) (hs : ScAt w s a) :
    Calls Tryz.prog 50 #[SV s a] w fun e w' => e = .returned (.int .i64 (lampW s)) ∧ Below w.heap.size w w' := by
  have HS := Lib.hid (hs.on (below_n1 w (.cells (SC s a) 36)))
  have hlb : (lamps s).length ≤ s.ns := lampsTo_len s s.ns
  have hns := hs.sh.1
  clear hs
  go_enter Tryz.func50, Tryz.ntmps50
  go_wp2_with fail
  refine (lamps_any s a _ HS.out).mono ?_
  rintro e w1 ⟨⟨v, rfl, hO⟩, hb1⟩
  have hb2 := (below_n1 w (.cells (SC s a) 36)).trans (hb1.mono (below_n1 w (.cells (SC s a) 36)).size)
  obtain ⟨l, hl⟩ : ∃ l, l = (lamps s).length := ⟨_, rfl⟩
  by_cases h16 : l ≤ 16
  · have h16' : (l : Int) ≤ 16 := by omega
    have HW := Lib.hid (lampW_few (s := s) (by omega))
    obtain ⟨a9, c9, rfl⟩ := own_form hO
    rw [← hl]
    clear hO hl
    go_wp2
    go_ret
    exact ⟨by rw [HW.out]; rfl, hb2⟩
  · have h16' : ¬ (l : Int) ≤ 16 := by omega
    have h17 : (16 : Int) < l := by omega
    have HW := Lib.hid (lampW_many (s := s) (by omega))
    obtain ⟨g, cap, hv, hc⟩ : ∃ g cap, v = .slice (some ⟨g, 0, none⟩) (lamps s).length cap ∧ w1.cell? ⟨g, 16, none⟩ = some (.int .i64 ((lamps s).getD 16 0 : Nat)) := by
      rcases hO.2 with ⟨hv, h0⟩ | ⟨g, cap, cur, rfl, -, -, -, -, -, -⟩
      · omega
      · refine ⟨g, cap, rfl, ?_⟩
        have := hO.cellAt 16 (by omega)
        rw [this, ivals, List.getElem?_map, List.getD_eq_getElem?_getD, List.getElem?_eq_getElem (show 16 < (lamps s).length by omega)]
        rfl
    subst hv
    rw [← hl]
    clear hO hl
    go_wp2
    go_ret
    exact ⟨by rw [HW.out]; rfl, hb2⟩

theorem where_many (s : Scn) (a : Pla) (w : World) (hs : ScAt w s a) : Where w 50 #[SV s a] #[] (lampW s) := fun W hW => by
  simpa using many_any s a W (hs.on hW)

theorem ent_head : Ent 41 := fun args W => enters_of Tryz.func41 (by kernel_rfl) rfl args W

theorem ent_lens : Ent 49 := fun args W => enters_of Tryz.func49 (by kernel_rfl) rfl args W

theorem ent_joint : Ent 47 := fun args W => enters_of Tryz.func47 (by kernel_rfl) rfl args W

theorem ent_shape : Ent 48 := fun args W => enters_of Tryz.func48 (by kernel_rfl) rfl args W

theorem ent_many : Ent 50 := fun args W => enters_of Tryz.func50 (by kernel_rfl) rfl args W

theorem ent_c1 : Ent 43 := fun args W => enters_of Tryz.func43 (by kernel_rfl) rfl args W

theorem ent_c2 : Ent 45 := fun args W => enters_of Tryz.func45 (by kernel_rfl) rfl args W

end Go.Proofs.YtplcbdmiccpnnaaGreat.Sc
