/- Lights smoothed: a pixel smoothed, by the program. -/
import Derived.Test.YtpinpkhalccjhaaDoorF42
import Derived.Test.YtpinpkhalccjhaaDoorF23
namespace Go.Proofs.YtpinpkhalccjhaaDoor.Fm
open Go Go.RowKit Go.Proofs.YtpinpkhalccjhaaDoor Go.Proofs.YtpinpkhalccjhaaDoor.Rp Go.Proofs.YtpinpkhalccjhaaDoor.Re Go.Proofs.YtpinpkhalccjhaaDoor.Au Go.Proofs.YtpinpkhalccjhaaDoor.Jw
set_option linter.unusedVariables false
set_option linter.unusedSimpArgs false

/-- a picture's cells -/
abbrev PC (f : Flm) (p : Pl) (a : Option Addr) (n c : Nat) (st ed : Int) : Array Value := #[.int .i64 f.W, .int .i64 f.H, .slice p.al f.nl p.cl, .slice p.ad f.nd p.cd, .slice p.an f.nn p.cn, .slice p.ab f.nb p.cb, .slice p.ax f.ns p.cx, .slice p.af f.nf p.cf, .int .i64 f.W, .int .i64 f.H, .slice a n c, .int .i64 st, .int .i64 ed]

/-- the table that says how much neighbours count, as it starts -/
structure Cnt (w : World) : Prop where
  c0 : w.cell? ⟨1, 0, none⟩ = some (.int .i64 1)
  c1 : w.cell? ⟨1, 1, none⟩ = some (.int .i64 4)
  c2 : w.cell? ⟨1, 2, none⟩ = some (.int .i64 6)
  c3 : w.cell? ⟨1, 3, none⟩ = some (.int .i64 4)
  c4 : w.cell? ⟨1, 4, none⟩ = some (.int .i64 1)

theorem cell_on {w w' : World} {p : Addr} {v : Value} (h : w.cell? p = some v) (hb : Below w.heap.size w w') : w'.cell? p = some v := (hb.cell (World.block_lt_of_cell? _ _ h)).trans h

theorem Cnt.on {w w' : World} (h : Cnt w) (hb : Below w.heap.size w w') : Cnt w' := ⟨cell_on h.c0 hb, cell_on h.c1 hb, cell_on h.c2 hb, cell_on h.c3 hb, cell_on h.c4 hb⟩

/-- a picture lies there: of a film that may be, and a sheet of its size -/
structure PicAt (w : World) (pb : Nat) (f : Flm) (p : Pl) (a : Option Addr) (n c : Nat) (L : Nat → Int) (Wn Hn lv : Nat) : Prop where
  row : w.heap[pb]? = some (.cells (PC f p a n c ((2 : Int) ^ lv) (edg lv)) 157 (0, 0))
  film : FAt w f p
  light : Rw 3 w a n L
  w_ : f.W = Wn
  h_ : f.H = Hn
  ok : okF f
  n_ : n = Wn * Hn
  lv_ : lv < 5

theorem PicAt.on {w w' : World} {pb : Nat} {f : Flm} {p : Pl} {a : Option Addr} {n c : Nat} {L : Nat → Int} {Wn Hn lv : Nat} (h : PicAt w pb f p a n c L Wn Hn lv) (hb : Below w.heap.size w w') : PicAt w' pb f p a n c L Wn Hn lv :=
  ⟨(hb.block _ (lt_heap h.row)).trans h.row, h.film.on hb, h.light.on hb, h.w_, h.h_, h.ok, h.n_, h.lv_⟩

theorem PicAt.sizes {w : World} {pb : Nat} {f : Flm} {p : Pl} {a : Option Addr} {n c : Nat} {L : Nat → Int} {Wn Hn lv : Nat} (h : PicAt w pb f p a n c L Wn Hn lv) : 1 ≤ Wn ∧ Wn ≤ 64 ∧ 1 ≤ Hn ∧ Hn ≤ 64 ∧ f.ns = n ∧ f.nd = n ∧ f.nn = n := by
  have h1 := h.ok.1.1
  have h2 := h.ok.2.1
  have h3 := h.ok.2.2.1
  have h4 := h.ok.2.2.2.2.1.1
  have h5 := h.n_
  unfold okSz at h1
  rw [h.w_, h.h_] at h1 h2 h3 h4
  have e : ((Wn * Hn : Nat) : Int) = (Wn : Int) * (Hn : Int) := by push_cast; rfl
  rw [← e] at h2 h3 h4
  omega

theorem alike_any (f : Flm) (p : Pl) (a : Option Addr) (n c : Nat) (L : Nat → Int) (Wn Hn lv pb i k : Nat) (w : World) (h : PicAt w pb f p a n c L Wn Hn lv) (hi : i < n) (hk : k < n) :
    Calls Tryd.prog 133 #[.pointer (some ⟨pb, 0, none⟩), .int .i64 i, .int .i64 k] w fun e' w' => e' = .returned (.int .i64 (alk f i k)) ∧ Below w.heap.size w w' := by
  obtain ⟨s1, s2, s3, s4, s5, s6, s7⟩ := h.sizes
  have hrow := h.row
  have hsn := h.film.s
  have hdn := h.film.d
  have hnn := h.film.n
  have hln := h.light
  obtain ⟨W, H, nl, nd, nn, nb, ns, nf, L0, D, N, B, S, F⟩ := f
  obtain ⟨al, cl, ad, cd, an, cn, ab, cb, ax, cx, af, cf⟩ := p
  simp only [] at s5 s6 s7 hsn hdn hnn
  obtain ⟨xb, xo, rfl, eS⟩ := hsn.at1 (k := i) (by omega)
  obtain ⟨xb', xo', hx', eS2⟩ := hsn.at1 (k := k) (by omega)
  cases hx'
  have hi' : i < ns := by omega
  have hk' : k < ns := by omega
  by_cases h1 : (0 ≤ S i) ↔ (0 ≤ S k)
  case neg =>
    rw [show alk (⟨W, H, nl, nd, nn, nb, ns, nf, L0, D, N, B, S, F⟩ : Flm) i k = 0 from if_pos h1]
    exact alike_ne _ _ _ _ _ _ _ _ _ _ _ _ _ _ _ _ _ _ _ _ _ _ _ _ _ _ w w (Below.refl _ _) pb i k hrow hi' hk' _ _ eS eS2 h1
  by_cases h2 : 0 ≤ S i
  case neg =>
    rw [show alk (⟨W, H, nl, nd, nn, nb, ns, nf, L0, D, N, B, S, F⟩ : Flm) i k = 65536 from (if_neg (fun t => t h1)).trans (if_pos h2)]
    exact alike_none _ _ _ _ _ _ _ _ _ _ _ _ _ _ _ _ _ _ _ _ _ _ _ _ _ _ w w (Below.refl _ _) pb i k hrow hi' hk' _ _ eS eS2 h2 (fun t => h2 (h1.2 t))
  rw [show alk (⟨W, H, nl, nd, nn, nb, ns, nf, L0, D, N, B, S, F⟩ : Flm) i k = _ from (if_neg (fun t => t h1)).trans (if_neg (fun t => t h2))]
  obtain ⟨db, do_, rfl, eD⟩ := hdn.at1 (k := i) (by omega)
  obtain ⟨db', do_', hd', eD2⟩ := hdn.at1 (k := k) (by omega)
  cases hd'
  obtain ⟨vb, vo, rfl, ea1, ea2, ea3⟩ := hnn.at3 (k := i) (by omega)
  obtain ⟨vb', vo', hv', eb1, eb2, eb3⟩ := hnn.at3 (k := k) (by omega)
  cases hv'
  have q1 : nd = ns := by omega
  have q2 : nn = ns := by omega
  exact alike_both _ _ _ _ _ _ _ _ _ _ _ _ _ _ _ _ _ _ _ _ _ _ _ _ _ _ _ _ w w (Below.refl _ _) pb i k hrow hi' hk' _ _ eS eS2 h2 (h1.1 h2) q1 q2 _ _ eD eD2 _ _ _ ea1 ea2 ea3 _ _ _ eb1 eb2 eb3 (ndot N N i k) (fun W => Ve.dot_any _ _ _ _ _ _ W)

theorem weight_any (f : Flm) (p : Pl) (a : Option Addr) (n c : Nat) (L : Nat → Int) (Wn Hn lv pb i k : Nat) (w : World) (h : PicAt w pb f p a n c L Wn Hn lv) (hi : i < n) (hk : k < n) :
    Calls Tryd.prog 118 #[.pointer (some ⟨pb, 0, none⟩), .int .i64 i, .int .i64 k] w fun e' w' => e' = .returned (.int .i64 (wgt f L lv i k)) ∧ Below w.heap.size w w' := by
  by_cases hik : i = k
  · subst hik
    rw [show wgt f L lv i i = 65536 from if_pos rfl]
    exact (weight_eq pb i w).mono fun e' w' ⟨h1, h2⟩ => ⟨h1, by rw [← h2]; exact Below.refl _ _⟩
  rw [show wgt f L lv i k = _ from if_neg hik]
  have hal := fun (W : World) (hb : Below w.heap.size w W) => alike_any f p a n c L Wn Hn lv pb i k W (h.on hb) hi hk
  obtain ⟨s1, s2, s3, s4, s5, s6, s7⟩ := h.sizes
  have hrow := h.row
  have hln := h.light
  obtain ⟨W, H, nl, nd, nn, nb, ns, nf, L0, D, N, B, S, F⟩ := f
  obtain ⟨al, cl, ad, cd, an, cn, ab, cb, ax, cx, af, cf⟩ := p
  simp only [] at s5 s6 s7
  obtain ⟨lb, lo, rfl, ea1, ea2, ea3⟩ := hln.at3 hi
  obtain ⟨lb', lo', hl', eb1, eb2, eb3⟩ := hln.at3 hk
  cases hl'
  exact weight_ne _ _ _ _ _ _ _ _ _ _ _ _ _ _ _ _ _ _ _ _ _ _ _ _ _ _ w w (Below.refl _ _) pb i k hrow hik hi hk _ _ _ ea1 ea2 ea3 _ _ _ eb1 eb2 eb3 (hdf L i k) (fun W => hdiff_any _ _ _ _ _ _ W) _ hal


theorem pixel_y (f : Flm) (p : Pl) (a : Option Addr) (n c : Nat) (L : Nat → Int) (Wn Hn lv pb : Nat) (u v : Int) (w : World) (h : PicAt w pb f p a n c L Wn Hn lv) (hin : ins Wn Hn u v) :
    Calls Tryd.prog 116 #[.pointer (some ⟨pb, 0, none⟩), .int .i64 u, .int .i64 v] w fun e' w' => e' = .returned (.tuple #[.int .i64 (pn Wn u v : Nat), .bool true]) ∧ Below w.heap.size w w' := by
  obtain ⟨s1, s2, s3, s4, s5, s6, s7⟩ := h.sizes
  have hrow := h.row
  have hw := h.w_
  have hh := h.h_
  obtain ⟨W, H, nl, nd, nn, nb, ns, nf, L0, D, N, B, S, F⟩ := f
  obtain ⟨al, cl, ad, cd, an, cn, ab, cb, ax, cx, af, cf⟩ := p
  simp only [] at hw hh
  subst hw hh
  obtain ⟨⟨h1, h2⟩, h3, h4⟩ := hin
  exact pixel_in Wn Hn _ _ _ _ _ _ _ _ _ _ _ _ _ _ _ _ _ _ _ _ _ _ _ w pb hrow u v (by omega) (by omega) (by omega) (by omega) s2 s4 (pn Wn u v) (by unfold pn; push_cast; rw [Int.toNat_of_nonneg h1, Int.toNat_of_nonneg h3])

theorem pixel_n (f : Flm) (p : Pl) (a : Option Addr) (n c : Nat) (L : Nat → Int) (Wn Hn lv pb : Nat) (u v : Int) (w : World) (h : PicAt w pb f p a n c L Wn Hn lv) (hin : ¬ ins Wn Hn u v) :
    Calls Tryd.prog 116 #[.pointer (some ⟨pb, 0, none⟩), .int .i64 u, .int .i64 v] w fun e' w' => e' = .returned (.tuple #[.int .i64 0, .bool false]) ∧ Below w.heap.size w w' := by
  obtain ⟨s1, s2, s3, s4, s5, s6, s7⟩ := h.sizes
  have hrow := h.row
  have hw := h.w_
  have hh := h.h_
  obtain ⟨W, H, nl, nd, nn, nb, ns, nf, L0, D, N, B, S, F⟩ := f
  obtain ⟨al, cl, ad, cd, an, cn, ab, cb, ax, cx, af, cf⟩ := p
  simp only [] at hw hh
  subst hw hh
  by_cases c0 : u < 0
  · exact pixel_u0 Wn Hn _ _ _ _ _ _ _ _ _ _ _ _ _ _ _ _ _ _ _ _ _ _ _ w pb hrow u v c0
  by_cases c1 : (Wn : Int) ≤ u
  · exact pixel_u1 Wn Hn _ _ _ _ _ _ _ _ _ _ _ _ _ _ _ _ _ _ _ _ _ _ _ w pb hrow u v c0 c1
  by_cases c2 : v < 0
  · exact pixel_v0 Wn Hn _ _ _ _ _ _ _ _ _ _ _ _ _ _ _ _ _ _ _ _ _ _ _ w pb hrow u v c0 c1 c2
  by_cases c3 : (Hn : Int) ≤ v
  · exact pixel_v1 Wn Hn _ _ _ _ _ _ _ _ _ _ _ _ _ _ _ _ _ _ _ _ _ _ _ w pb hrow u v c0 c1 c2 c3
  exact absurd ⟨⟨by omega, by omega⟩, by omega, by omega⟩ hin

theorem cs_bd {lv : Nat} (h : lv < 5) {c2 : Int} (h1 : -2 ≤ c2) (h2 : c2 ≤ 2) : -32 ≤ c2 * (2 : Int) ^ lv ∧ c2 * (2 : Int) ^ lv ≤ 32 := by
  have hb := pow_bd h
  obtain ⟨p, hp⟩ : ∃ p, p = (2 : Int) ^ lv := ⟨_, rfl⟩
  rw [← hp] at hb ⊢
  have hc : c2 = -2 ∨ c2 = -1 ∨ c2 = 0 ∨ c2 = 1 ∨ c2 = 2 := by omega
  rcases hc with rfl | rfl | rfl | rfl | rfl <;> omega

theorem tt_bd (c r : Nat) : 1 ≤ tp c * tp r ∧ tp c * tp r ≤ 36 := by
  have h1 := tp_bd c
  have h2 := tp_bd r
  obtain ⟨x, hx⟩ : ∃ x, x = tp c := ⟨_, rfl⟩
  obtain ⟨y, hy⟩ : ∃ y, y = tp r := ⟨_, rfl⟩
  rw [← hx] at h1 ⊢
  rw [← hy] at h2 ⊢
  have a := Int.mul_le_mul h1.2 h2.2 (by omega) (by omega)
  have b := Int.mul_le_mul h1.1 h2.1 (by omega) (by omega)
  omega

theorem idx_tab (k : Nat) (h : k < 5) (W : World) : (Instr.index 175 (.agg #[.int .i64 1, .int .i64 4, .int .i64 6, .int .i64 4, .int .i64 1]) (.int .i64 (k : Int))).run Tryd.prog W = .ok (.int .i64 (tp k)) W := by
  match k, h with
  | 0, _ => simp [Instr.index, go_sem, tp]
  | 1, _ => simp [Instr.index, go_sem, tp]
  | 2, _ => simp [Instr.index, go_sem, tp]
  | 3, _ => simp [Instr.index, go_sem, tp]
  | 4, _ => simp [Instr.index, go_sem, tp]

set_option maxHeartbeats 16000000 in
set_option maxRecDepth 100000 in
theorem smooth_any (f : Flm) (p : Pl) (a : Option Addr) (n c : Nat) (L : Nat → Int) (Wn Hn lv pb x y : Nat) (w : World) (h : PicAt w pb f p a n c L Wn Hn lv) (hcn : Cnt w) (hx : x < Wn) (hy : y < Hn) : Calls Tryd.prog 92 #[.pointer (some ⟨pb, 0, none⟩), .int .i64 x, .int .i64 y] w fun e' w' => e' = .returned (.agg #[.int .i64 (sm0 f L Wn Hn lv x y), .int .i64 (sm1 f L Wn Hn lv x y), .int .i64 (sm2 f L Wn Hn lv x y)]) ∧ Below w.heap.size w w' := by
  obtain ⟨s1, s2, s3, s4, s5, s6, s7⟩ := h.sizes
  have hlv := h.lv_
  have hin0 : ins Wn Hn (x : Int) (y : Int) := ⟨⟨by omega, by omega⟩, by omega, by omega⟩
  have hmid : pn Wn (x : Int) (y : Int) = y * Wn + x := by unfold pn; simp
  have hmidl : pn Wn (x : Int) (y : Int) < n := by rw [h.n_]; exact pn_lt hin0
  have HP := Lib.hid h
  have HC := Lib.hid hcn
  obtain ⟨st, hst⟩ : ∃ st, st = (2 : Int) ^ lv := ⟨_, rfl⟩
  obtain ⟨ed, hed⟩ : ∃ ed, ed = edg lv := ⟨_, rfl⟩
  have hrow0 := h.row
  rw [← hst, ← hed] at hrow0
  have HST := Lib.hid hst
  have HLV := Lib.hid hlv
  clear h hcn hst hed hlv s5 s6 s7
  obtain ⟨mid, hmd⟩ : ∃ mid, mid = y * Wn + x := ⟨_, rfl⟩
  rw [← hmd] at hmid
  have HMID := Lib.hid hmid
  have HMD := Lib.hid hmd
  rw [hmid] at hmidl
  have HPY := Lib.hid (fun (W : World) (hW : Below w.heap.size w W) => (show Calls Tryd.prog 116 #[.pointer (some ⟨pb, 0, none⟩), .int .i64 (x : Int), .int .i64 (y : Int)] W (fun e' w' => e' = .returned (.tuple #[.int .i64 (mid : Nat), .bool true]) ∧ Below W.heap.size W w') by rw [← HMID.out]; exact pixel_y f p a n c L Wn Hn lv pb x y W (HP.out.on hW) hin0))
  clear hmid hmd hin0
  go_enter Tryd.func92, Tryd.ntmps92
  go_upto_region 1 with fail
  have hR := Au.rows1 w (.cells #[.int .i64 0, .int .i64 0, .int .i64 0] 47)
  have HUx := Ve.below_n1 w (.cells #[.int .i64 0, .int .i64 0, .int .i64 0] 47)
  obtain ⟨y0, hy0⟩ : ∃ y0, w.alloc (.cells #[.int .i64 0, .int .i64 0, .int .i64 0] 47) = y0 := ⟨_, rfl⟩
  rw [hy0] at hR HUx ⊢
  clear hy0
  have HU0 := Lib.hid HUx
  clear HUx
  have hr0_0 := hR
  clear hR
  obtain ⟨CS, hCS⟩ : ∃ CS, CS = (PC f p a n c st ed) := ⟨_, rfl⟩
  have hr0_1 : y0.heap[pb]? = some (.cells (PC f p a n c st ed) 157 (0, 0)) := (HU0.out.block _ (lt_heap hrow0)).trans hrow0
  have hpw := lt_heap hrow0
  clear hrow0 hCS CS
  go_upto_region 2 with fail
  have hb1 := Ve.below_n1 y0 (.cells #[.int .i64 0, .int .i64 0, .int .i64 0] 47)
  have hN := heap_alloc_last y0 (.cells #[.int .i64 0, .int .i64 0, .int .i64 0] 47)
  obtain ⟨y1, hy1⟩ : ∃ y, y0.alloc (.cells #[.int .i64 0, .int .i64 0, .int .i64 0] 47) = y := ⟨_, rfl⟩
  have hs1 : y1.heap.size = y0.heap.size + 1 := by rw [← hy1]; simp
  rw [hy1] at hb1 hN ⊢
  clear hy1
  have hl1_0 := lt_heap hr0_0
  have hl1_1 := lt_heap hr0_1
  have hr1_0 := (hb1.block _ (lt_heap hr0_0)).trans hr0_0
  have hr1_1 := (hb1.block _ (lt_heap hr0_1)).trans hr0_1
  have HU1 := Lib.hid (HU0.out.trans (hb1.mono HU0.out.size))
  clear hr0_0 hr0_1 HU0
  have hr1_2 := hN
  clear hN
  obtain ⟨lq, hlq⟩ : ∃ q, q = y0.heap.size := ⟨_, rfl⟩
  rw [← hlq] at hr1_2 ⊢
  have hlqw : w.heap.size < lq := by have := hl1_0; omega
  have hlql := lt_heap hr1_2
  clear hlq hs1
  go_wp2_with fail
  refine (HPY.out _ HU1.out).mono ?_
  rintro e y2 ⟨rfl, hb2⟩
  have hr2_0 := (hb2.block _ (lt_heap hr1_0)).trans hr1_0
  have hr2_1 := (hb2.block _ (lt_heap hr1_1)).trans hr1_1
  have hr2_2 := (hb2.block _ (lt_heap hr1_2)).trans hr1_2
  have HU2 := Lib.hid (HU1.out.trans (hb2.mono HU1.out.size))
  clear hr1_0 hr1_1 hr1_2 HU1
  have hlm := lt_heap hr2_2
  have HCC2 := Lib.hid (HC.out.on HU2.out)
  obtain ⟨bl, hbl⟩ : ∃ b, b = y2.heap.size := ⟨_, rfl⟩
  have hbl1 : lq < bl := by omega
  have hbl2 : bl ≤ y2.heap.size := by omega
  have hbl3 : y2.heap.size ≤ bl := by omega
  clear hbl
  obtain ⟨k0, k1, k2, k3, k4⟩ := HCC2.out
  go_upto_region 5 with fail
  clear k0 k1 k2 k3 k4
  go_loopw [26, 8] (fun ix al wr => ∃ (rr : Nat) (A : Ac), rr ≤ 5 ∧ ix = .int .i64 rr ∧ al = .int .i64 A.t ∧ Hid (A = acc f L Wn Hn lv x y (rr * 5)) ∧ wr.heap[lq]? = some (.cells #[.int .i64 A.r, .int .i64 A.g, .int .i64 A.b] 47 (0, 0)) ∧ Hid (Aw (fun z => z < bl ∧ z ≠ lq) y2 wr)) (fun ix _ _ => 5 - (intOf ix).toNat)
  case atStart => exact ⟨0, ⟨0, 0, 0, 0⟩, Nat.zero_le _, rfl, rfl, Lib.hid rfl, hr2_2, Lib.hid (Aw.refl _ _)⟩
  case round =>
    obtain ⟨rr, A, hrr, rfl, rfl, HA, hlr, HW⟩ := hrel
    obtain ⟨aR, aG, aB, aT⟩ := A
    simp only [] at hlr
    have hpbl : pb < bl := by have := HU2.out.size; omega
    have hpq : pb ≠ lq := by omega
    have hr3_0 := (HW.out.block _ ⟨by omega, by omega⟩ (lt_heap hr2_0)).trans hr2_0
    have hr3_1 := (HW.out.block _ ⟨by omega, by omega⟩ (lt_heap hr2_1)).trans hr2_1
    have hr3_2 := hlr
    clear hlr
    have HU3 := Lib.hid (HU2.out.trans (aw_low HW.out (b := w.heap.size) (by have := HU2.out.size; omega) (by omega) (HU2.out.size)))
    obtain ⟨y3, hy_⟩ : ∃ y, y = wr := ⟨_, rfl⟩
    rw [← hy_] at hr3_0 hr3_1 hr3_2 HU3 HW ⊢
    clear hy_
    by_cases hlt : rr < 5
    · have hlt' : (rr : Int) < 5 := by omega
      have hix := fun W => idx_tab rr hlt W
      obtain ⟨td, htd⟩ : ∃ t, t = tp rr := ⟨_, rfl⟩
      rw [← htd] at hix
      have HTD := Lib.hid htd
      clear htd
      obtain ⟨k0, k1, k2, k3, k4⟩ := HC.out.on HU3.out
      go_upto_region 8 with fail
      clear k0 k1 k2 k3 k4 hix
      go_loopw [31, 8] (fun ix al wr => ∃ (cc : Nat) (A : Ac), cc ≤ 5 ∧ ix = .int .i64 cc ∧ al = .int .i64 A.t ∧ Hid (A = acc f L Wn Hn lv x y (rr * 5 + cc)) ∧ wr.heap[lq]? = some (.cells #[.int .i64 A.r, .int .i64 A.g, .int .i64 A.b] 47 (0, 0)) ∧ Hid (Aw (fun z => z < bl ∧ z ≠ lq) y2 wr)) (fun ix _ _ => 5 - (intOf ix).toNat)
      case atStart => exact ⟨0, ⟨aR, aG, aB, aT⟩, Nat.zero_le _, rfl, rfl, HA, hr3_2, HW⟩
      case round =>
        clear HA HW
        obtain ⟨cc, A, hcc, rfl, rfl, HA, hlr, HW⟩ := hrel
        obtain ⟨aR, aG, aB, aT⟩ := A
        simp only [] at hlr
        have hr4_0 := (HW.out.block _ ⟨by omega, by omega⟩ (lt_heap hr2_0)).trans hr2_0
        have hr4_1 := (HW.out.block _ ⟨by omega, by omega⟩ (lt_heap hr2_1)).trans hr2_1
        have hr4_2 := hlr
        clear hlr
        have HU4 := Lib.hid (HU2.out.trans (aw_low HW.out (b := w.heap.size) (by have := HU2.out.size; omega) (by omega) (HU2.out.size)))
        obtain ⟨y4, hy_⟩ : ∃ y, y = wr := ⟨_, rfl⟩
        rw [← hy_] at hr4_0 hr4_1 hr4_2 HU4 HW ⊢
        clear hy_
        by_cases hlt2 : cc < 5
        · have hlt2' : (cc : Int) < 5 := by omega
          have hix := fun W => idx_tab cc hlt2 W
          obtain ⟨ta, hta⟩ : ∃ t, t = tp cc := ⟨_, rfl⟩
          rw [← hta] at hix
          have HTA := Lib.hid hta
          clear hta
          obtain ⟨mm, hmm⟩ : ∃ mm, mm = rr * 5 + cc := ⟨_, rfl⟩
          have hm5 : mm % 5 = cc := by omega
          have hd5 : mm / 5 = rr := by omega
          obtain ⟨c2, hc2⟩ : ∃ c, c = (cc : Int) - 2 := ⟨_, rfl⟩
          obtain ⟨r2, hr2⟩ : ∃ c, c = (rr : Int) - 2 := ⟨_, rfl⟩
          have hb1 := cs_bd HLV.out (show -2 ≤ c2 by omega) (by omega)
          have hb2 := cs_bd HLV.out (show -2 ≤ r2 by omega) (by omega)
          rw [← HST.out] at hb1 hb2
          obtain ⟨cs, hcs⟩ : ∃ t, t = c2 * st := ⟨_, rfl⟩
          obtain ⟨rs, hrs⟩ : ∃ t, t = r2 * st := ⟨_, rfl⟩
          rw [← hcs] at hb1
          rw [← hrs] at hb2
          obtain ⟨u, hu⟩ : ∃ t, t = (x : Int) + cs := ⟨_, rfl⟩
          obtain ⟨v, hv⟩ : ∃ t, t = (y : Int) + rs := ⟨_, rfl⟩
          have HU_ := Lib.hid (show u = px x lv mm by rw [hu, hcs, hc2, HST.out]; unfold px; rw [hm5])
          have HV_ := Lib.hid (show v = py y lv mm by rw [hv, hrs, hr2, HST.out]; unfold py; rw [hd5])
          have w1 : wrap64 ((cc : Int) - 2) = c2 := by unfold wrap64; omega
          have w2 : IntKind.i64.wrap ((cc : Int) - 2) = c2 := by rw [IntKind.wrap_i64]; omega
          have w3 : wrap64 ((rr : Int) - 2) = r2 := by unfold wrap64; omega
          have w4 : IntKind.i64.wrap ((rr : Int) - 2) = r2 := by rw [IntKind.wrap_i64]; omega
          have w5 : wrap64 (c2 * st) = cs := by rw [← hcs]; unfold wrap64; omega
          have w6 : IntKind.i64.wrap (c2 * st) = cs := by rw [← hcs, IntKind.wrap_i64]; omega
          have w7 : wrap64 (r2 * st) = rs := by rw [← hrs]; unfold wrap64; omega
          have w8 : IntKind.i64.wrap (r2 * st) = rs := by rw [← hrs, IntKind.wrap_i64]; omega
          have w9 : wrap64 ((x : Int) + cs) = u := by unfold wrap64; omega
          have w10 : IntKind.i64.wrap ((x : Int) + cs) = u := by rw [IntKind.wrap_i64]; omega
          have w11 : wrap64 ((y : Int) + rs) = v := by unfold wrap64; omega
          have w12 : IntKind.i64.wrap ((y : Int) + rs) = v := by rw [IntKind.wrap_i64]; omega
          have HMM := Lib.hid hmm
          have HM5 := Lib.hid hm5
          have HD5 := Lib.hid hd5
          rw [← hmm] at HA
          clear hmm hm5 hd5 hc2 hr2 hcs hrs hu hv hb1 hb2
          go_upto_region 10 with fail
          clear hix
          by_cases hin : ins Wn Hn u v
          case neg =>
            refine wp_region_held_drew (S := fun y => y.heap[pb]? = some (.cells (PC f p a n c st ed) 157 (0, 0)) ∧ y.heap[w.heap.size]? = some (.cells #[.int .i64 0, .int .i64 0, .int .i64 0] 47 (0, 0)) ∧ y.heap[lq]? = some (.cells #[.int .i64 aR, .int .i64 aG, .int .i64 aB] 47 (0, 0))) (by kernel_rfl) (⟨hr4_1, hr4_0, hr4_2⟩) (fun hS0 => ?_)
            obtain ⟨y5, hy5⟩ : ∃ y, y4.drew = y := ⟨_, rfl⟩
            have HU5 := Lib.hid (show Below w.heap.size w y5 by rw [← hy5]; exact HU4.out.drew)
            have hr5_0 : y5.heap[w.heap.size]? = some (.cells #[.int .i64 0, .int .i64 0, .int .i64 0] 47 (0, 0)) := by rw [← hy5]; exact hr4_0
            have hr5_1 : y5.heap[pb]? = some (.cells (PC f p a n c st ed) 157 (0, 0)) := by rw [← hy5]; exact hr4_1
            have hr5_2 : y5.heap[lq]? = some (.cells #[.int .i64 aR, .int .i64 aG, .int .i64 aB] 47 (0, 0)) := by rw [← hy5]; exact hr4_2
            have HW5 := Lib.hid (show Aw (fun z => z < bl ∧ z ≠ lq) y2 y5 by rw [← hy5]; exact HW.out.trans (Aw.of (Below.refl _ _).drew))
            rw [hy5] at hS0 ⊢
            clear hy5
            refine wpAnyH_take (i := 0) (v := ?_) rfl (by kernel_rfl) (by kernel_rfl) (by kernel_rfl) (fun _ _ _ h => h) (Or.inl ⟨by kernel_rfl, by (intro wz hSz; go_simp; try with_reducible rfl)⟩) hS0 ?_
            go_simp
            refine wpAnyH_take (i := 1) (v := ?_) rfl (by kernel_rfl) (by kernel_rfl) (by kernel_rfl) (fun _ _ _ h => h) (Or.inl ⟨by kernel_rfl, by (intro wz hSz; go_simp; try with_reducible rfl)⟩) hS0 ?_
            go_simp
            refine wpAnyH_take (i := 2) (v := ?_) rfl (by kernel_rfl) (by kernel_rfl) (by kernel_rfl) (fun _ _ _ h => h) (Or.inl ⟨by kernel_rfl, by (intro wz hSz; go_simp; try with_reducible rfl)⟩) hS0 ?_
            go_simp
            refine wpAnyH_take (i := 3) (v := ?_) rfl (by kernel_rfl) (by kernel_rfl) (by kernel_rfl) (fun _ _ _ h => h) (Or.inl ⟨by kernel_rfl, by (intro wz hSz; go_simp; try with_reducible rfl)⟩) hS0 ?_
            go_simp
            refine wpAnyH_take (i := 4) (v := ?_) rfl (by kernel_rfl) (by kernel_rfl) (by kernel_rfl) (fun _ _ _ h => h) (Or.inl ⟨by kernel_rfl, by (intro wz hSz; go_simp; try with_reducible rfl)⟩) hS0 ?_
            go_simp
            refine wpAnyH_take (i := 5) (v := ?_) rfl (by kernel_rfl) (by kernel_rfl) (by kernel_rfl) (fun _ _ _ h => h) (Or.inl ⟨by kernel_rfl, by (intro wz hSz; go_simp; try with_reducible rfl)⟩) hS0 ?_
            go_simp
            refine wpAnyH_take (i := 6) (v := ?_) rfl (by kernel_rfl) (by kernel_rfl) (by kernel_rfl) (fun _ _ _ h => h) (Or.inl ⟨by kernel_rfl, by (intro wz hSz; go_simp; try with_reducible rfl)⟩) hS0 ?_
            go_simp
            refine wpAnyH_take (i := 7) (v := ?_) rfl (by kernel_rfl) (by kernel_rfl) (by kernel_rfl) (fun _ _ _ h => h) (Or.inl ⟨by kernel_rfl, by (intro wz hSz; have cst := cell_of_row _ _ 11 _ _ _ hSz.1; simp at cst; go_simp; try with_reducible rfl)⟩) hS0 ?_
            go_simp
            refine wpAnyH_take (i := 8) (v := ?_) rfl (by kernel_rfl) (by kernel_rfl) (by kernel_rfl) (fun _ _ _ h => h) (Or.inl ⟨by kernel_rfl, by (intro wz hSz; go_simp; try with_reducible rfl)⟩) hS0 ?_
            go_simp
            refine wpAnyH_take (i := 9) (v := ?_) rfl (by kernel_rfl) (by kernel_rfl) (by kernel_rfl) (fun _ _ _ h => h) (Or.inl ⟨by kernel_rfl, by (intro wz hSz; go_simp; try with_reducible rfl)⟩) hS0 ?_
            go_simp
            refine wpAnyH_take (i := 10) (v := ?_) rfl (by kernel_rfl) (by kernel_rfl) (by kernel_rfl) (fun _ _ _ h => h) (Or.inl ⟨by kernel_rfl, by (intro wz hSz; go_simp; try with_reducible rfl)⟩) hS0 ?_
            go_simp
            refine wpAnyH_take (i := 11) (v := ?_) rfl (by kernel_rfl) (by kernel_rfl) (by kernel_rfl) (fun _ _ _ h => h) (Or.inl ⟨by kernel_rfl, by (intro wz hSz; go_simp; try with_reducible rfl)⟩) hS0 ?_
            go_simp
            refine wpAnyH_take (i := 12) (v := ?_) rfl (by kernel_rfl) (by kernel_rfl) (by kernel_rfl) (fun _ _ _ h => h) (Or.inl ⟨by kernel_rfl, by (intro wz hSz; go_simp; try with_reducible rfl)⟩) hS0 ?_
            go_simp
            refine wpAnyH_take (i := 13) (v := ?_) rfl (by kernel_rfl) (by kernel_rfl) (by kernel_rfl) (fun _ _ _ h => h) (Or.inl ⟨by kernel_rfl, by (intro wz hSz; go_simp; try with_reducible rfl)⟩) hS0 ?_
            go_simp
            refine wpAnyH_take (i := 14) (v := ?_) rfl (by kernel_rfl) (by kernel_rfl) (by kernel_rfl) (fun _ _ _ h => h) (Or.inl ⟨by kernel_rfl, by (intro wz hSz; go_simp; try with_reducible rfl)⟩) hS0 ?_
            go_simp
            refine wpAnyH_take (i := 15) (v := ?_) rfl (by kernel_rfl) (by kernel_rfl) (by kernel_rfl) (fun _ _ _ h => h) (Or.inl ⟨by kernel_rfl, by (intro wz hSz; go_simp; try with_reducible rfl)⟩) hS0 ?_
            go_simp
            refine wpAnyH_take (i := 16) (v := ?_) rfl (by kernel_rfl) (by kernel_rfl) (by kernel_rfl) (fun _ _ _ h => h) (Or.inl ⟨by kernel_rfl, by (intro wz hSz; have cst := cell_of_row _ _ 11 _ _ _ hSz.1; simp at cst; go_simp; try with_reducible rfl)⟩) hS0 ?_
            go_simp
            refine wpAnyH_take (i := 17) (v := ?_) rfl (by kernel_rfl) (by kernel_rfl) (by kernel_rfl) (fun _ _ _ h => h) (Or.inl ⟨by kernel_rfl, by (intro wz hSz; go_simp; try with_reducible rfl)⟩) hS0 ?_
            go_simp
            refine wpAnyH_take (i := 18) (v := ?_) rfl (by kernel_rfl) (by kernel_rfl) (by kernel_rfl) (fun _ _ _ h => h) (Or.inl ⟨by kernel_rfl, by (intro wz hSz; go_simp; try with_reducible rfl)⟩) hS0 ?_
            go_simp
            refine wpAnyH_ready (rs := [19]) (by kernel_rfl) (by simp) ?_
            refine AllReadyH.cons rfl (fun K hK => ?_) AllReadyH.nil
            go_simp
            go_wp2_with (go_at_call 116; refine (pixel_n f p a n c L Wn Hn lv pb u v _ (HP.out.on HU5.out) hin).mono ?_; rintro e y6 ⟨rfl, hb6⟩; have HW6 := Lib.hid (HW5.out.trans (Aw.of hb6)))
            have hr6_0 := (hb6.block _ (lt_heap hr5_0)).trans hr5_0
            have hr6_1 := (hb6.block _ (lt_heap hr5_1)).trans hr5_1
            have hr6_2 := (hb6.block _ (lt_heap hr5_2)).trans hr5_2
            have HU6 := Lib.hid (HU5.out.trans (hb6.mono HU5.out.size))
            refine hK.out _ _ (⟨(hb6.block _ (lt_heap hS0.1)).trans hS0.1, (hb6.block _ (lt_heap hS0.2.1)).trans hS0.2.1, (hb6.block _ (lt_heap hS0.2.2)).trans hS0.2.2⟩) (fun hS6c => ?_)
            clear hK K
            refine wpAnyH_take (i := 20) (v := ?_) rfl (by kernel_rfl) (by kernel_rfl) (by kernel_rfl) (fun _ _ _ h => h) (Or.inl ⟨by kernel_rfl, by (intro wz hSz; go_simp; try with_reducible rfl)⟩) hS6c ?_
            go_simp
            refine wpAnyH_take (i := 21) (v := ?_) rfl (by kernel_rfl) (by kernel_rfl) (by kernel_rfl) (fun _ _ _ h => h) (Or.inl ⟨by kernel_rfl, by (intro wz hSz; go_simp; try with_reducible rfl)⟩) hS6c ?_
            go_simp
            refine wpAnyH_take (i := 22) (v := ?_) rfl (by kernel_rfl) (by kernel_rfl) (by kernel_rfl) (fun _ _ _ h => h) (Or.inl ⟨by kernel_rfl, by (intro wz hSz; go_simp; try with_reducible rfl)⟩) hS6c ?_
            go_simp
            refine wpAnyH_take (i := 23) (v := ?_) rfl (by kernel_rfl) (by kernel_rfl) (by kernel_rfl) (fun _ _ _ h => h) (Or.inl ⟨by kernel_rfl, by (intro wz hSz; go_simp; try with_reducible rfl)⟩) hS6c ?_
            go_simp
            refine wpAnyH_take (i := 24) (v := ?_) rfl (by kernel_rfl) (by kernel_rfl) (by kernel_rfl) (fun _ _ _ h => h) (Or.inl ⟨by kernel_rfl, by (intro wz hSz; go_simp; try with_reducible rfl)⟩) hS6c ?_
            go_simp
            refine wpAnyH_done (by kernel_rfl) ?_ _
            have HA2 := Lib.hid (show (⟨aR, aG, aB, aT⟩ : Ac) = acc f L Wn Hn lv x y (rr * 5 + (cc + 1)) by rw [← Nat.add_assoc, ← HMM.out, acc_out (by rw [← HU_.out, ← HV_.out]; exact hin)]; exact HA.out)
            go_wp2_with fail
            go_roundw
            case rel => exact ⟨cc + 1, ⟨aR, aG, aB, aT⟩, by omega, by go_num, rfl, HA2, hr6_2, HW6⟩
            case measure => simp [intOf]; omega
          have hkl : pn Wn u v < n := by rw [HP.out.n_]; exact pn_lt hin
          obtain ⟨k, hk⟩ : ∃ k, k = pn Wn u v := ⟨_, rfl⟩
          rw [← hk] at hkl
          have HK := Lib.hid hk
          clear hk
          have hkl' : (k : Int) < n := by omega
          have HPX := Lib.hid (fun (W : World) (hW : Below w.heap.size w W) => (show Calls Tryd.prog 116 #[.pointer (some ⟨pb, 0, none⟩), .int .i64 u, .int .i64 v] W (fun e' w' => e' = .returned (.tuple #[.int .i64 (k : Nat), .bool true]) ∧ Below W.heap.size W w') by rw [HK.out]; exact pixel_y f p a n c L Wn Hn lv pb u v W (HP.out.on hW) hin))
          obtain ⟨t0, t1⟩ := tt_bd cc rr
          rw [← HTA.out, ← HTD.out] at t0 t1
          obtain ⟨tt, htt⟩ : ∃ t, t = ta * td := ⟨_, rfl⟩
          rw [← htt] at t0 t1
          have z1 : wrap64 (ta * td) = tt := by rw [← htt]; unfold wrap64; omega
          have z2 : IntKind.i64.wrap (ta * td) = tt := by rw [← htt, IntKind.wrap_i64]; omega
          obtain ⟨wg, hwg⟩ : ∃ t, t = wgt f L lv mid k := ⟨_, rfl⟩
          obtain ⟨wm, hwm⟩ : ∃ t, t = Pl.mul (Pl.ofWhole tt) wg := ⟨_, rfl⟩
          have HWM := Lib.hid (show wm = mw f L lv (y * Wn + x) (pn Wn u v) mm by rw [hwm, htt, hwg, HTA.out, HTD.out, ← HMD.out, ← HK.out]; unfold mw; rw [HM5.out, HD5.out])
          have HWG := Lib.hid (fun (W : World) (hW : Below w.heap.size w W) => (show Calls Tryd.prog 118 #[.pointer (some ⟨pb, 0, none⟩), .int .i64 (mid : Int), .int .i64 (k : Int)] W (fun e' w' => e' = .returned (.int .i64 wg) ∧ Below W.heap.size W w') by rw [hwg]; exact weight_any f p a n c L Wn Hn lv pb mid k W (HP.out.on hW) hmidl hkl))
          have HML := Lib.hid (show ∀ W : World, Calls Tryd.prog 117 #[.int .i64 (Pl.ofWhole tt), .int .i64 wg] W (fun e' w' => e' = .returned (.int .i64 wm) ∧ W = w') from fun W => by rw [hwm]; exact Wa.mul_any _ _ W)
          clear htt hwg hwm
          refine wp_region_held_drew (S := fun y => y.heap[pb]? = some (.cells (PC f p a n c st ed) 157 (0, 0)) ∧ y.heap[w.heap.size]? = some (.cells #[.int .i64 0, .int .i64 0, .int .i64 0] 47 (0, 0)) ∧ y.heap[lq]? = some (.cells #[.int .i64 aR, .int .i64 aG, .int .i64 aB] 47 (0, 0))) (by kernel_rfl) (⟨hr4_1, hr4_0, hr4_2⟩) (fun hS0 => ?_)
          obtain ⟨y5, hy5⟩ : ∃ y, y4.drew = y := ⟨_, rfl⟩
          have HU5 := Lib.hid (show Below w.heap.size w y5 by rw [← hy5]; exact HU4.out.drew)
          have hr5_0 : y5.heap[w.heap.size]? = some (.cells #[.int .i64 0, .int .i64 0, .int .i64 0] 47 (0, 0)) := by rw [← hy5]; exact hr4_0
          have hr5_1 : y5.heap[pb]? = some (.cells (PC f p a n c st ed) 157 (0, 0)) := by rw [← hy5]; exact hr4_1
          have hr5_2 : y5.heap[lq]? = some (.cells #[.int .i64 aR, .int .i64 aG, .int .i64 aB] 47 (0, 0)) := by rw [← hy5]; exact hr4_2
          have HW5 := Lib.hid (show Aw (fun z => z < bl ∧ z ≠ lq) y2 y5 by rw [← hy5]; exact HW.out.trans (Aw.of (Below.refl _ _).drew))
          rw [hy5] at hS0 ⊢
          clear hy5
          refine wpAnyH_take (i := 0) (v := ?_) rfl (by kernel_rfl) (by kernel_rfl) (by kernel_rfl) (fun _ _ _ h => h) (Or.inl ⟨by kernel_rfl, by (intro wz hSz; go_simp; try with_reducible rfl)⟩) hS0 ?_
          go_simp
          refine wpAnyH_take (i := 1) (v := ?_) rfl (by kernel_rfl) (by kernel_rfl) (by kernel_rfl) (fun _ _ _ h => h) (Or.inl ⟨by kernel_rfl, by (intro wz hSz; go_simp; try with_reducible rfl)⟩) hS0 ?_
          go_simp
          refine wpAnyH_take (i := 2) (v := ?_) rfl (by kernel_rfl) (by kernel_rfl) (by kernel_rfl) (fun _ _ _ h => h) (Or.inl ⟨by kernel_rfl, by (intro wz hSz; go_simp; try with_reducible rfl)⟩) hS0 ?_
          go_simp
          refine wpAnyH_take (i := 3) (v := ?_) rfl (by kernel_rfl) (by kernel_rfl) (by kernel_rfl) (fun _ _ _ h => h) (Or.inl ⟨by kernel_rfl, by (intro wz hSz; go_simp; try with_reducible rfl)⟩) hS0 ?_
          go_simp
          refine wpAnyH_take (i := 4) (v := ?_) rfl (by kernel_rfl) (by kernel_rfl) (by kernel_rfl) (fun _ _ _ h => h) (Or.inl ⟨by kernel_rfl, by (intro wz hSz; go_simp; try with_reducible rfl)⟩) hS0 ?_
          go_simp
          refine wpAnyH_take (i := 5) (v := ?_) rfl (by kernel_rfl) (by kernel_rfl) (by kernel_rfl) (fun _ _ _ h => h) (Or.inl ⟨by kernel_rfl, by (intro wz hSz; go_simp; try with_reducible rfl)⟩) hS0 ?_
          go_simp
          refine wpAnyH_take (i := 6) (v := ?_) rfl (by kernel_rfl) (by kernel_rfl) (by kernel_rfl) (fun _ _ _ h => h) (Or.inl ⟨by kernel_rfl, by (intro wz hSz; go_simp; try with_reducible rfl)⟩) hS0 ?_
          go_simp
          refine wpAnyH_take (i := 7) (v := ?_) rfl (by kernel_rfl) (by kernel_rfl) (by kernel_rfl) (fun _ _ _ h => h) (Or.inl ⟨by kernel_rfl, by (intro wz hSz; have cst := cell_of_row _ _ 11 _ _ _ hSz.1; simp at cst; go_simp; try with_reducible rfl)⟩) hS0 ?_
          go_simp
          refine wpAnyH_take (i := 8) (v := ?_) rfl (by kernel_rfl) (by kernel_rfl) (by kernel_rfl) (fun _ _ _ h => h) (Or.inl ⟨by kernel_rfl, by (intro wz hSz; go_simp; try with_reducible rfl)⟩) hS0 ?_
          go_simp
          refine wpAnyH_take (i := 9) (v := ?_) rfl (by kernel_rfl) (by kernel_rfl) (by kernel_rfl) (fun _ _ _ h => h) (Or.inl ⟨by kernel_rfl, by (intro wz hSz; go_simp; try with_reducible rfl)⟩) hS0 ?_
          go_simp
          refine wpAnyH_take (i := 10) (v := ?_) rfl (by kernel_rfl) (by kernel_rfl) (by kernel_rfl) (fun _ _ _ h => h) (Or.inl ⟨by kernel_rfl, by (intro wz hSz; go_simp; try with_reducible rfl)⟩) hS0 ?_
          go_simp
          refine wpAnyH_take (i := 11) (v := ?_) rfl (by kernel_rfl) (by kernel_rfl) (by kernel_rfl) (fun _ _ _ h => h) (Or.inl ⟨by kernel_rfl, by (intro wz hSz; go_simp; try with_reducible rfl)⟩) hS0 ?_
          go_simp
          refine wpAnyH_take (i := 12) (v := ?_) rfl (by kernel_rfl) (by kernel_rfl) (by kernel_rfl) (fun _ _ _ h => h) (Or.inl ⟨by kernel_rfl, by (intro wz hSz; go_simp; try with_reducible rfl)⟩) hS0 ?_
          go_simp
          refine wpAnyH_take (i := 13) (v := ?_) rfl (by kernel_rfl) (by kernel_rfl) (by kernel_rfl) (fun _ _ _ h => h) (Or.inl ⟨by kernel_rfl, by (intro wz hSz; go_simp; try with_reducible rfl)⟩) hS0 ?_
          go_simp
          refine wpAnyH_take (i := 14) (v := ?_) rfl (by kernel_rfl) (by kernel_rfl) (by kernel_rfl) (fun _ _ _ h => h) (Or.inl ⟨by kernel_rfl, by (intro wz hSz; go_simp; try with_reducible rfl)⟩) hS0 ?_
          go_simp
          refine wpAnyH_take (i := 15) (v := ?_) rfl (by kernel_rfl) (by kernel_rfl) (by kernel_rfl) (fun _ _ _ h => h) (Or.inl ⟨by kernel_rfl, by (intro wz hSz; go_simp; try with_reducible rfl)⟩) hS0 ?_
          go_simp
          refine wpAnyH_take (i := 16) (v := ?_) rfl (by kernel_rfl) (by kernel_rfl) (by kernel_rfl) (fun _ _ _ h => h) (Or.inl ⟨by kernel_rfl, by (intro wz hSz; have cst := cell_of_row _ _ 11 _ _ _ hSz.1; simp at cst; go_simp; try with_reducible rfl)⟩) hS0 ?_
          go_simp
          refine wpAnyH_take (i := 17) (v := ?_) rfl (by kernel_rfl) (by kernel_rfl) (by kernel_rfl) (fun _ _ _ h => h) (Or.inl ⟨by kernel_rfl, by (intro wz hSz; go_simp; try with_reducible rfl)⟩) hS0 ?_
          go_simp
          refine wpAnyH_take (i := 18) (v := ?_) rfl (by kernel_rfl) (by kernel_rfl) (by kernel_rfl) (fun _ _ _ h => h) (Or.inl ⟨by kernel_rfl, by (intro wz hSz; go_simp; try with_reducible rfl)⟩) hS0 ?_
          go_simp
          refine wpAnyH_ready (rs := [19]) (by kernel_rfl) (by simp) ?_
          refine AllReadyH.cons rfl (fun K hK => ?_) AllReadyH.nil
          go_simp
          go_wp2_with (go_at_call 116; refine (HPX.out _ HU5.out).mono ?_; rintro e y6 ⟨rfl, hb6⟩; have HW6 := Lib.hid (HW5.out.trans (Aw.of hb6)))
          have hr6_0 := (hb6.block _ (lt_heap hr5_0)).trans hr5_0
          have hr6_1 := (hb6.block _ (lt_heap hr5_1)).trans hr5_1
          have hr6_2 := (hb6.block _ (lt_heap hr5_2)).trans hr5_2
          have HU6 := Lib.hid (HU5.out.trans (hb6.mono HU5.out.size))
          refine hK.out _ _ (⟨(hb6.block _ (lt_heap hS0.1)).trans hS0.1, (hb6.block _ (lt_heap hS0.2.1)).trans hS0.2.1, (hb6.block _ (lt_heap hS0.2.2)).trans hS0.2.2⟩) (fun hS6c => ?_)
          clear hK K
          refine wpAnyH_take (i := 20) (v := ?_) rfl (by kernel_rfl) (by kernel_rfl) (by kernel_rfl) (fun _ _ _ h => h) (Or.inl ⟨by kernel_rfl, by (intro wz hSz; go_simp; try with_reducible rfl)⟩) hS6c ?_
          go_simp
          refine wpAnyH_take (i := 21) (v := ?_) rfl (by kernel_rfl) (by kernel_rfl) (by kernel_rfl) (fun _ _ _ h => h) (Or.inl ⟨by kernel_rfl, by (intro wz hSz; go_simp; try with_reducible rfl)⟩) hS6c ?_
          go_simp
          refine wpAnyH_take (i := 22) (v := ?_) rfl (by kernel_rfl) (by kernel_rfl) (by kernel_rfl) (fun _ _ _ h => h) (Or.inl ⟨by kernel_rfl, by (intro wz hSz; go_simp; try with_reducible rfl)⟩) hS6c ?_
          go_simp
          refine wpAnyH_take (i := 23) (v := ?_) rfl (by kernel_rfl) (by kernel_rfl) (by kernel_rfl) (fun _ _ _ h => h) (Or.inl ⟨by kernel_rfl, by (intro wz hSz; go_simp; try with_reducible rfl)⟩) hS6c ?_
          go_simp
          refine wpAnyH_take (i := 24) (v := ?_) rfl (by kernel_rfl) (by kernel_rfl) (by kernel_rfl) (fun _ _ _ h => h) (Or.inl ⟨by kernel_rfl, by (intro wz hSz; go_simp; try with_reducible rfl)⟩) hS6c ?_
          go_simp
          refine wpAnyH_done (by kernel_rfl) ?_ _
          go_wp2_with fail
          refine (Wa.of_any _ _).mono ?_
          rintro e ww ⟨rfl, rfl⟩
          go_wp2_with fail
          refine (HWG.out _ HU6.out).mono ?_
          rintro e y7 ⟨rfl, hb7⟩
          have hr7_0 := (hb7.block _ (lt_heap hr6_0)).trans hr6_0
          have hr7_1 := (hb7.block _ (lt_heap hr6_1)).trans hr6_1
          have hr7_2 := (hb7.block _ (lt_heap hr6_2)).trans hr6_2
          have HU7 := Lib.hid (HU6.out.trans (hb7.mono HU6.out.size))
          clear hr6_0 hr6_1 hr6_2 HU6
          have HW7 := Lib.hid (HW6.out.trans (Aw.of hb7))
          go_wp2_with fail
          refine (HML.out _).mono ?_
          rintro e ww ⟨rfl, rfl⟩
          go_upto_region 13 with fail
          obtain ⟨lb, lo, hla, e0, e1, e2⟩ := (HP.out.light.on HU7.out).at3 hkl
          subst hla
          obtain ⟨l0, hl0⟩ : ∃ t, t = L (k * 3) := ⟨_, rfl⟩
          rw [← hl0] at e0
          obtain ⟨l1, hl1⟩ : ∃ t, t = L (k * 3 + 1) := ⟨_, rfl⟩
          rw [← hl1] at e1
          obtain ⟨l2, hl2⟩ : ∃ t, t = L (k * 3 + 2) := ⟨_, rfl⟩
          rw [← hl2] at e2
          obtain ⟨p0, hp0⟩ : ∃ t, t = Pl.mul l0 wm := ⟨_, rfl⟩
          obtain ⟨q0, hq0⟩ : ∃ t, t = Pl.add aR p0 := ⟨_, rfl⟩
          obtain ⟨p1, hp1⟩ : ∃ t, t = Pl.mul l1 wm := ⟨_, rfl⟩
          obtain ⟨q1, hq1⟩ : ∃ t, t = Pl.add aG p1 := ⟨_, rfl⟩
          obtain ⟨p2, hp2⟩ : ∃ t, t = Pl.mul l2 wm := ⟨_, rfl⟩
          obtain ⟨q2, hq2⟩ : ∃ t, t = Pl.add aB p2 := ⟨_, rfl⟩
          have HAC := Lib.hid (show (⟨q0, q1, q2, Pl.add aT wm⟩ : Ac) = acc f L Wn Hn lv x y (rr * 5 + (cc + 1)) by rw [← Nat.add_assoc, ← HMM.out, acc_in (by rw [← HU_.out, ← HV_.out]; exact hin), ← HA.out, ← HU_.out, ← HV_.out, ← HWM.out, ← HK.out]; unfold stp; simp only []; rw [hq0, hq1, hq2, hp0, hp1, hp2, hl0, hl1, hl2])
          have HSC := Lib.hid (show ∀ W : World, Calls Tryd.prog 120 #[.agg #[.int .i64 l0, .int .i64 l1, .int .i64 l2], .int .i64 wm] W (fun e' w' => e' = .returned (.agg #[.int .i64 p0, .int .i64 p1, .int .i64 p2]) ∧ Below W.heap.size W w') from fun W => by rw [hp0, hp1, hp2]; exact He.hscale_any _ _ _ _ W)
          have HAD := Lib.hid (show ∀ W : World, Calls Tryd.prog 119 #[.agg #[.int .i64 aR, .int .i64 aG, .int .i64 aB], .agg #[.int .i64 p0, .int .i64 p1, .int .i64 p2]] W (fun e' w' => e' = .returned (.agg #[.int .i64 q0, .int .i64 q1, .int .i64 q2]) ∧ Below W.heap.size W w') from fun W => by rw [hq0, hq1, hq2]; exact He.hadd_any _ _ _ _ _ _ W)
          clear hl0 hl1 hl2 hp0 hp1 hp2 hq0 hq1 hq2
          refine Ol.way_drew (S := fun y => y.heap[pb]? = some (.cells (PC f p (some ⟨lb, lo, none⟩) n c st ed) 157 (0, 0)) ∧ y.heap[lq]? = some (.cells #[.int .i64 aR, .int .i64 aG, .int .i64 aB] 47 (0, 0)) ∧ y.cell? ⟨lb, lo + k * 3, none⟩ = some (.int .i64 l0) ∧ y.cell? ⟨lb, lo + k * 3 + 1, none⟩ = some (.int .i64 l1) ∧ y.cell? ⟨lb, lo + k * 3 + 2, none⟩ = some (.int .i64 l2)) (stop := 12) (by kernel_rfl) (⟨hr7_1, hr7_2, e0, e1, e2⟩) (fun hS0 => ?_)
          obtain ⟨y8, hy8⟩ : ∃ y, y7.drew = y := ⟨_, rfl⟩
          have HU8 := Lib.hid (show Below w.heap.size w y8 by rw [← hy8]; exact HU7.out.drew)
          have hr8_0 : y8.heap[w.heap.size]? = some (.cells #[.int .i64 0, .int .i64 0, .int .i64 0] 47 (0, 0)) := by rw [← hy8]; exact hr7_0
          have hr8_1 : y8.heap[pb]? = some (.cells (PC f p (some ⟨lb, lo, none⟩) n c st ed) 157 (0, 0)) := by rw [← hy8]; exact hr7_1
          have hr8_2 : y8.heap[lq]? = some (.cells #[.int .i64 aR, .int .i64 aG, .int .i64 aB] 47 (0, 0)) := by rw [← hy8]; exact hr7_2
          have HW8 := Lib.hid (show Aw (fun z => z < bl ∧ z ≠ lq) y2 y8 by rw [← hy8]; exact HW7.out.trans (Aw.of (Below.refl _ _).drew))
          rw [hy8] at hS0 ⊢
          clear hy8
          refine Ol.way_take (i := 0) (v := ?_) rfl (by kernel_rfl) (by kernel_rfl) (by kernel_rfl) (fun _ _ _ h => h) (by decide) (by kernel_rfl) (by kernel_rfl) (Or.inl ⟨by kernel_rfl, by (intro wz hSz; have cl0 := cell_of_row _ _ 10 _ _ _ hSz.1; simp at cl0; have c2_0 := cell_of_row _ _ 0 _ _ _ hSz.2.1; have c2_1 := cell_of_row _ _ 1 _ _ _ hSz.2.1; have c2_2 := cell_of_row _ _ 2 _ _ _ hSz.2.1; simp at c2_0 c2_1 c2_2; have e0z := hSz.2.2.1; have e1z := hSz.2.2.2.1; have e2z := hSz.2.2.2.2; go_simp; try with_reducible rfl)⟩) hS0 ?_
          go_simp
          refine Ol.way_plain (i := 1) (v := ?_) rfl (by kernel_rfl) (by kernel_rfl) (by kernel_rfl) (fun _ _ _ h => h) (by decide) (Or.inl ⟨by kernel_rfl, by (intro wz _; go_simp; try with_reducible rfl)⟩) (Ol.on hS0) ?_
          go_simp
          refine Ol.way_plain (i := 2) (v := ?_) rfl (by kernel_rfl) (by kernel_rfl) (by kernel_rfl) (fun _ _ _ h => h) (by decide) (Or.inl ⟨by kernel_rfl, by (intro wz _; go_simp; try with_reducible rfl)⟩) (Ol.on hS0) ?_
          go_simp
          refine Ol.way_plain (i := 3) (v := ?_) rfl (by kernel_rfl) (by kernel_rfl) (by kernel_rfl) (fun _ _ _ h => h) (by decide) (Or.inl ⟨by kernel_rfl, by (intro wz _; go_simp; try with_reducible rfl)⟩) (Ol.on hS0) ?_
          go_simp
          refine Ol.way_plain (i := 4) (v := ?_) rfl (by kernel_rfl) (by kernel_rfl) (by kernel_rfl) (fun _ _ _ h => h) (by decide) (Or.inl ⟨by kernel_rfl, by (intro wz _; go_simp; try with_reducible rfl)⟩) (Ol.on hS0) ?_
          go_simp
          refine Ol.way_take (i := 5) (v := ?_) rfl (by kernel_rfl) (by kernel_rfl) (by kernel_rfl) (fun _ _ _ h => h) (by decide) (by kernel_rfl) (by kernel_rfl) (Or.inl ⟨by kernel_rfl, by (intro wz hSz; have cl0 := cell_of_row _ _ 10 _ _ _ hSz.1; simp at cl0; have c2_0 := cell_of_row _ _ 0 _ _ _ hSz.2.1; have c2_1 := cell_of_row _ _ 1 _ _ _ hSz.2.1; have c2_2 := cell_of_row _ _ 2 _ _ _ hSz.2.1; simp at c2_0 c2_1 c2_2; have e0z := hSz.2.2.1; have e1z := hSz.2.2.2.1; have e2z := hSz.2.2.2.2; go_simp; try with_reducible rfl)⟩) hS0 ?_
          go_simp
          refine Ol.way_plain (i := 6) (v := ?_) rfl (by kernel_rfl) (by kernel_rfl) (by kernel_rfl) (fun _ _ _ h => h) (by decide) (Or.inl ⟨by kernel_rfl, by (intro wz _; go_simp; try with_reducible rfl)⟩) (Ol.on hS0) ?_
          go_simp
          refine Ol.way_plain (i := 7) (v := ?_) rfl (by kernel_rfl) (by kernel_rfl) (by kernel_rfl) (fun _ _ _ h => h) (by decide) (Or.inl ⟨by kernel_rfl, by (intro wz _; go_simp; try with_reducible rfl)⟩) (Ol.on hS0) ?_
          go_simp
          refine Ol.way_take (i := 8) (v := ?_) rfl (by kernel_rfl) (by kernel_rfl) (by kernel_rfl) (fun _ _ _ h => h) (by decide) (by kernel_rfl) (by kernel_rfl) (Or.inl ⟨by kernel_rfl, by (intro wz hSz; have cl0 := cell_of_row _ _ 10 _ _ _ hSz.1; simp at cl0; have c2_0 := cell_of_row _ _ 0 _ _ _ hSz.2.1; have c2_1 := cell_of_row _ _ 1 _ _ _ hSz.2.1; have c2_2 := cell_of_row _ _ 2 _ _ _ hSz.2.1; simp at c2_0 c2_1 c2_2; have e0z := hSz.2.2.1; have e1z := hSz.2.2.2.1; have e2z := hSz.2.2.2.2; go_simp; try with_reducible rfl)⟩) hS0 ?_
          go_simp
          refine Ol.way_plain (i := 9) (v := ?_) rfl (by kernel_rfl) (by kernel_rfl) (by kernel_rfl) (fun _ _ _ h => h) (by decide) (Or.inl ⟨by kernel_rfl, by (intro wz _; go_simp; try with_reducible rfl)⟩) (Ol.on hS0) ?_
          go_simp
          refine Ol.way_ready (rs := [10]) (by kernel_rfl) (by simp) ?_
          refine Ol.Each.cons rfl (fun K hK => ?_) Ol.Each.nil
          go_simp
          go_wp2_with (go_at_call 120; refine (HSC.out _).mono ?_; rintro e y9 ⟨rfl, hb9⟩; have HW9 := Lib.hid (HW8.out.trans (Aw.of hb9)))
          have hr9_0 := (hb9.block _ (lt_heap hr8_0)).trans hr8_0
          have hr9_1 := (hb9.block _ (lt_heap hr8_1)).trans hr8_1
          have hr9_2 := (hb9.block _ (lt_heap hr8_2)).trans hr8_2
          have HU9 := Lib.hid (HU8.out.trans (hb9.mono HU8.out.size))
          refine Ol.keep hK _ _ (⟨(hb9.block _ (lt_heap hS0.1)).trans hS0.1, (hb9.block _ (lt_heap hS0.2.1)).trans hS0.2.1, (hb9.cell (p := ⟨lb, lo + k * 3, none⟩) (World.block_lt_of_cell? _ _ (hS0.2.2.1))).trans hS0.2.2.1, (hb9.cell (p := ⟨lb, lo + k * 3 + 1, none⟩) (World.block_lt_of_cell? _ _ (hS0.2.2.2.1))).trans hS0.2.2.2.1, (hb9.cell (p := ⟨lb, lo + k * 3 + 2, none⟩) (World.block_lt_of_cell? _ _ (hS0.2.2.2.2))).trans hS0.2.2.2.2⟩) (fun hS9c => ?_)
          clear hK K
          refine Ol.way_ready (rs := [11]) (by kernel_rfl) (by simp) ?_
          refine Ol.Each.cons rfl (fun K hK => ?_) Ol.Each.nil
          go_simp
          go_wp2_with (go_at_call 119; refine (HAD.out _).mono ?_; rintro e y10 ⟨rfl, hb10⟩; have HW10 := Lib.hid (HW9.out.trans (Aw.of hb10)))
          have hr10_0 := (hb10.block _ (lt_heap hr9_0)).trans hr9_0
          have hr10_1 := (hb10.block _ (lt_heap hr9_1)).trans hr9_1
          have hr10_2 := (hb10.block _ (lt_heap hr9_2)).trans hr9_2
          have HU10 := Lib.hid (HU9.out.trans (hb10.mono HU9.out.size))
          refine Ol.keep hK _ _ (⟨(hb10.block _ (lt_heap hS9c.1)).trans hS9c.1, (hb10.block _ (lt_heap hS9c.2.1)).trans hS9c.2.1, (hb10.cell (p := ⟨lb, lo + k * 3, none⟩) (World.block_lt_of_cell? _ _ (hS9c.2.2.1))).trans hS9c.2.2.1, (hb10.cell (p := ⟨lb, lo + k * 3 + 1, none⟩) (World.block_lt_of_cell? _ _ (hS9c.2.2.2.1))).trans hS9c.2.2.2.1, (hb10.cell (p := ⟨lb, lo + k * 3 + 2, none⟩) (World.block_lt_of_cell? _ _ (hS9c.2.2.2.2))).trans hS9c.2.2.2.2⟩) (fun hS10c => ?_)
          clear hK K
          refine Ol.way_ready (rs := [12]) (by kernel_rfl) (by simp) ?_
          refine Ol.Each.cons rfl (fun K hK => ?_) Ol.Each.nil
          refine step_store_row rfl 47 (.tmp 7) (.tmp 80) rfl #[.int .i64 aR, .int .i64 aG, .int .i64 aB] #[.int .i64 q0, .int .i64 q1, .int .i64 q2] _ 47 hr10_2 rfl (by first | rfl | (go_simp; done) | (go_simp; rfl)) (by kernel_rfl) rfl (by simp [Value.oneCell']) ?_
          have hN := setRow_heap _ (lq) _ #[.int .i64 q0, .int .i64 q1, .int .i64 q2] _ _ hr10_2
          have hsz := HU10.out.size
          have HUx := below_setRow (g := lq) HU10.out (by first | omega | (simp at *; omega)) #[.int .i64 q0, .int .i64 q1, .int .i64 q2]
          obtain ⟨y11, hy11⟩ : ∃ y, y10.setRow (lq) #[.int .i64 q0, .int .i64 q1, .int .i64 q2] = y := ⟨_, rfl⟩
          have hO : ∀ k, k ≠ lq → y11.heap[k]? = y10.heap[k]? := fun k hk => by rw [← hy11]; exact setRow_other _ _ _ _ hk
          have hSo : y11.os = y10.os ∧ y11.tape = y10.tape ∧ y11.output = y10.output ∧ y10.heap.size ≤ y11.heap.size := by rw [← hy11]; exact ⟨rfl, rfl, rfl, by simp [World.setRow]⟩
          rw [hy11] at hN HUx ⊢
          clear hy11
          have HU11 := Lib.hid HUx
          clear HUx
          have hr11_0 := (hO _ (by omega)).trans hr10_0
          have hr11_1 := (hO _ (by omega)).trans hr10_1
          have hr11_2 := hN
          clear hN
          refine Ol.past hK (by kernel_rfl) _ _ ?_
          clear hK K
          refine Ol.way_done (by kernel_rfl) ?_ _
          have HW11 := Lib.hid (show Aw (fun z => z < bl ∧ z ≠ lq) y2 y11 from ⟨hSo.1.trans HW10.out.os, hSo.2.1.trans HW10.out.tape, hSo.2.2.1.trans HW10.out.output, Nat.le_trans HW10.out.size hSo.2.2.2, fun k' h1 h2 => (hO k' h1.2).trans (HW10.out.block k' h1 h2)⟩)
          go_wp2_with fail
          refine (Wa.add_any _ _ _).mono ?_
          rintro e ww ⟨rfl, rfl⟩
          go_wp2_with fail
          go_roundw
          case rel => exact ⟨cc + 1, ⟨q0, q1, q2, Pl.add aT wm⟩, by omega, by go_num, rfl, HAC, hr11_2, HW11⟩
          case measure => simp [intOf]; omega
        · have hge2 : ¬ (cc : Int) < 5 := by omega
          have HA2 := Lib.hid (show (⟨aR, aG, aB, aT⟩ : Ac) = acc f L Wn Hn lv x y ((rr + 1) * 5) by rw [show (rr + 1) * 5 = rr * 5 + cc by omega]; exact HA.out)
          go_wp2_with fail
          go_roundw
          case rel => exact ⟨rr + 1, ⟨aR, aG, aB, aT⟩, by omega, by go_num, rfl, HA2, hr4_2, HW⟩
          case measure => simp [intOf]; omega
    · have hge : ¬ (rr : Int) < 5 := by omega
      obtain rfl : rr = 5 := by omega
      have HA25 := Lib.hid (show (⟨aR, aG, aB, aT⟩ : Ac) = acc f L Wn Hn lv x y 25 from HA.out)
      clear HA
      obtain ⟨o0, ho0⟩ : ∃ t, t = Pl.div aR aT := ⟨_, rfl⟩
      obtain ⟨o1, ho1⟩ : ∃ t, t = Pl.div aG aT := ⟨_, rfl⟩
      obtain ⟨o2, ho2⟩ : ∃ t, t = Pl.div aB aT := ⟨_, rfl⟩
      have HRES := Lib.hid (show (.agg #[.int .i64 o0, .int .i64 o1, .int .i64 o2] : Value) = .agg #[.int .i64 (sm0 f L Wn Hn lv x y), .int .i64 (sm1 f L Wn Hn lv x y), .int .i64 (sm2 f L Wn Hn lv x y)] by unfold sm0 sm1 sm2; rw [← HA25.out, ho0, ho1, ho2])
      have HD0 := Lib.hid (show ∀ W : World, Calls Tryd.prog 61 #[.int .i64 aR, .int .i64 aT] W (fun e' w' => e' = .returned (.int .i64 o0) ∧ W = w') from fun W => by rw [ho0]; exact Wa.div_any _ _ W)
      have HD1 := Lib.hid (show ∀ W : World, Calls Tryd.prog 61 #[.int .i64 aG, .int .i64 aT] W (fun e' w' => e' = .returned (.int .i64 o1) ∧ W = w') from fun W => by rw [ho1]; exact Wa.div_any _ _ W)
      have HD2 := Lib.hid (show ∀ W : World, Calls Tryd.prog 61 #[.int .i64 aB, .int .i64 aT] W (fun e' w' => e' = .returned (.int .i64 o2) ∧ W = w') from fun W => by rw [ho2]; exact Wa.div_any _ _ W)
      clear ho0 ho1 ho2
      go_upto_region 17 with fail
      refine wp_region_held_drew (S := fun y => y.heap[lq]? = some (.cells #[.int .i64 aR, .int .i64 aG, .int .i64 aB] 47 (0, 0))) (by kernel_rfl) (hr3_2) (fun hS0 => ?_)
      obtain ⟨y4, hy4⟩ : ∃ y, y3.drew = y := ⟨_, rfl⟩
      have HU4 := Lib.hid (show Below w.heap.size w y4 by rw [← hy4]; exact HU3.out.drew)
      have hr4_0 : y4.heap[w.heap.size]? = some (.cells #[.int .i64 0, .int .i64 0, .int .i64 0] 47 (0, 0)) := by rw [← hy4]; exact hr3_0
      have hr4_1 : y4.heap[pb]? = some (.cells (PC f p a n c st ed) 157 (0, 0)) := by rw [← hy4]; exact hr3_1
      have hr4_2 : y4.heap[lq]? = some (.cells #[.int .i64 aR, .int .i64 aG, .int .i64 aB] 47 (0, 0)) := by rw [← hy4]; exact hr3_2
      rw [hy4] at hS0 ⊢
      clear hy4
      refine wpAnyH_take (i := 0) (v := ?_) rfl (by kernel_rfl) (by kernel_rfl) (by kernel_rfl) (fun _ _ _ h => h) (Or.inl ⟨by kernel_rfl, by (intro wz hSz; go_simp; try with_reducible rfl)⟩) hS0 ?_
      go_simp
      refine wpAnyH_take (i := 1) (v := ?_) rfl (by kernel_rfl) (by kernel_rfl) (by kernel_rfl) (fun _ _ _ h => h) (Or.inl ⟨by kernel_rfl, by (intro wz hSz; have c2_0 := cell_of_row _ _ 0 _ _ _ hSz; have c2_1 := cell_of_row _ _ 1 _ _ _ hSz; have c2_2 := cell_of_row _ _ 2 _ _ _ hSz; simp at c2_0 c2_1 c2_2; go_simp; try with_reducible rfl)⟩) hS0 ?_
      go_simp
      refine wpAnyH_take (i := 2) (v := ?_) rfl (by kernel_rfl) (by kernel_rfl) (by kernel_rfl) (fun _ _ _ h => h) (Or.inl ⟨by kernel_rfl, by (intro wz hSz; go_simp; try with_reducible rfl)⟩) hS0 ?_
      go_simp
      refine wpAnyH_take (i := 4) (v := ?_) rfl (by kernel_rfl) (by kernel_rfl) (by kernel_rfl) (fun _ _ _ h => h) (Or.inl ⟨by kernel_rfl, by (intro wz hSz; go_simp; try with_reducible rfl)⟩) hS0 ?_
      go_simp
      refine wpAnyH_take (i := 5) (v := ?_) rfl (by kernel_rfl) (by kernel_rfl) (by kernel_rfl) (fun _ _ _ h => h) (Or.inl ⟨by kernel_rfl, by (intro wz hSz; have c2_0 := cell_of_row _ _ 0 _ _ _ hSz; have c2_1 := cell_of_row _ _ 1 _ _ _ hSz; have c2_2 := cell_of_row _ _ 2 _ _ _ hSz; simp at c2_0 c2_1 c2_2; go_simp; try with_reducible rfl)⟩) hS0 ?_
      go_simp
      refine wpAnyH_take (i := 6) (v := ?_) rfl (by kernel_rfl) (by kernel_rfl) (by kernel_rfl) (fun _ _ _ h => h) (Or.inl ⟨by kernel_rfl, by (intro wz hSz; go_simp; try with_reducible rfl)⟩) hS0 ?_
      go_simp
      refine wpAnyH_take (i := 8) (v := ?_) rfl (by kernel_rfl) (by kernel_rfl) (by kernel_rfl) (fun _ _ _ h => h) (Or.inl ⟨by kernel_rfl, by (intro wz hSz; go_simp; try with_reducible rfl)⟩) hS0 ?_
      go_simp
      refine wpAnyH_take (i := 9) (v := ?_) rfl (by kernel_rfl) (by kernel_rfl) (by kernel_rfl) (fun _ _ _ h => h) (Or.inl ⟨by kernel_rfl, by (intro wz hSz; have c2_0 := cell_of_row _ _ 0 _ _ _ hSz; have c2_1 := cell_of_row _ _ 1 _ _ _ hSz; have c2_2 := cell_of_row _ _ 2 _ _ _ hSz; simp at c2_0 c2_1 c2_2; go_simp; try with_reducible rfl)⟩) hS0 ?_
      go_simp
      refine wpAnyH_take (i := 10) (v := ?_) rfl (by kernel_rfl) (by kernel_rfl) (by kernel_rfl) (fun _ _ _ h => h) (Or.inl ⟨by kernel_rfl, by (intro wz hSz; go_simp; try with_reducible rfl)⟩) hS0 ?_
      go_simp
      refine wpAnyH_ready (rs := [3]) (by kernel_rfl) (by simp) ?_
      refine AllReadyH.cons rfl (fun K hK => ?_) AllReadyH.nil
      go_simp
      go_wp2_with (go_at_call 61; refine (HD0.out _).mono ?_; rintro e ww ⟨rfl, rfl⟩)
      refine hK.out _ _ (hS0) (fun hS4q3 => ?_)
      clear hK K
      refine wpAnyH_ready (rs := [7]) (by kernel_rfl) (by simp) ?_
      refine AllReadyH.cons rfl (fun K hK => ?_) AllReadyH.nil
      go_simp
      go_wp2_with (go_at_call 61; refine (HD1.out _).mono ?_; rintro e ww ⟨rfl, rfl⟩)
      refine hK.out _ _ (hS4q3) (fun hS4q7 => ?_)
      clear hK K
      refine wpAnyH_ready (rs := [11]) (by kernel_rfl) (by simp) ?_
      refine AllReadyH.cons rfl (fun K hK => ?_) AllReadyH.nil
      go_simp
      go_wp2_with (go_at_call 61; refine (HD2.out _).mono ?_; rintro e ww ⟨rfl, rfl⟩)
      refine hK.out _ _ (hS4q7) (fun hS4q11 => ?_)
      clear hK K
      refine wpAnyH_take (i := 12) (v := ?_) rfl (by kernel_rfl) (by kernel_rfl) (by kernel_rfl) (fun _ _ _ h => h) (Or.inl ⟨by kernel_rfl, by (intro wz hSz; go_simp; try with_reducible rfl)⟩) hS4q11 ?_
      go_simp
      refine wpAnyH_ready (rs := [13]) (by kernel_rfl) (by simp) ?_
      refine AllReadyH.cons rfl (fun K hK => ?_) AllReadyH.nil
      refine step_store_row rfl 47 (.tmp 6) (.tmp 98) rfl #[.int .i64 0, .int .i64 0, .int .i64 0] #[.int .i64 o0, .int .i64 o1, .int .i64 o2] _ 47 hr4_0 rfl (by first | rfl | (go_simp; done) | (go_simp; rfl)) (by kernel_rfl) rfl (by simp [Value.oneCell']) ?_
      have hN := setRow_heap _ (w.heap.size) _ #[.int .i64 o0, .int .i64 o1, .int .i64 o2] _ _ hr4_0
      have hsz := HU4.out.size
      have HUx := below_setRow (g := w.heap.size) HU4.out (by first | omega | (simp at *; omega)) #[.int .i64 o0, .int .i64 o1, .int .i64 o2]
      obtain ⟨y5, hy5⟩ : ∃ y, y4.setRow (w.heap.size) #[.int .i64 o0, .int .i64 o1, .int .i64 o2] = y := ⟨_, rfl⟩
      have hO : ∀ k, k ≠ w.heap.size → y5.heap[k]? = y4.heap[k]? := fun k hk => by rw [← hy5]; exact setRow_other _ _ _ _ hk
      rw [hy5] at hN HUx ⊢
      clear hy5
      have HU5 := Lib.hid HUx
      clear HUx
      have hr5_0 := hN
      have hr5_1 := (hO _ (by omega)).trans hr4_1
      have hr5_2 := (hO _ (by omega)).trans hr4_2
      clear hN
      refine hK.out _ _ ((hO _ (by omega)).trans hS4q11) (fun hS5s => ?_)
      clear hK K
      refine wpAnyH_done (by kernel_rfl) ?_ _
      have c0_0 := cell_of_row _ _ 0 _ _ _ hr5_0
      have c0_1 := cell_of_row _ _ 1 _ _ _ hr5_0
      have c0_2 := cell_of_row _ _ 2 _ _ _ hr5_0
      simp at c0_0 c0_1 c0_2
      go_wp2
      exact bodyPost_ret (v := .agg #[.int .i64 o0, .int .i64 o1, .int .i64 o2]) (by simp [results, Tryd.results92, go_sem, c0_0, c0_1, c0_2]) rfl ⟨by rw [HRES.out], HU5.out⟩

end Go.Proofs.YtpinpkhalccjhaaDoor.Fm
