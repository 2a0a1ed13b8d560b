/- Scenes from one side to the other, plainly: rows under way, the block that is filled. -/
import Derived.Test.YtplcbdmiccpnnaaGreatC36
namespace Go.Proofs.YtplcbdmiccpnnaaGreat.Sc
open Go.RowKit Go.Proofs.YtplcbdmiccpnnaaGreat Go.Proofs.YtplcbdmiccpnnaaGreat.Wa Go.Proofs.YtplcbdmiccpnnaaGreat.Ve Go.Proofs.YtplcbdmiccpnnaaGreat.Tk Go.Proofs.YtplcbdmiccpnnaaGreat.Ls
set_option linter.unusedVariables false

/-- the numbers of a row, as cells -/
def fl (c : Nat) (L : Nat → Int) (k : Nat) : List Value := (List.range (k * c)).map fun j => .int .i64 (L j)

theorem fl_at (c : Nat) (L : Nat → Int) (k j : Nat) (h : j < k * c) : (fl c L k)[j]? = some (.int .i64 (L j)) := by
  simp [fl, h]

theorem fl4_step (L : Nat → Int) (k : Nat) : fl 4 L (k + 1) = fl 4 L k ++ [.int .i64 (L (k * 4)), .int .i64 (L (k * 4 + 1)), .int .i64 (L (k * 4 + 2)), .int .i64 (L (k * 4 + 3))] := by
  simp [fl, show (k + 1) * 4 = k * 4 + 1 + 1 + 1 + 1 by omega, List.range_succ]

theorem fl5_step (L : Nat → Int) (k : Nat) : fl 5 L (k + 1) = fl 5 L k ++ [.int .i64 (L (k * 5)), .int .i64 (L (k * 5 + 1)), .int .i64 (L (k * 5 + 2)), .int .i64 (L (k * 5 + 3)), .int .i64 (L (k * 5 + 4))] := by
  simp [fl, show (k + 1) * 5 = k * 5 + 1 + 1 + 1 + 1 + 1 by omega, List.range_succ]

theorem fl13_step (L : Nat → Int) (k : Nat) : fl 13 L (k + 1) = fl 13 L k ++ [.int .i64 (L (k * 13)), .int .i64 (L (k * 13 + 1)), .int .i64 (L (k * 13 + 2)), .int .i64 (L (k * 13 + 3)), .int .i64 (L (k * 13 + 4)), .int .i64 (L (k * 13 + 5)), .int .i64 (L (k * 13 + 6)), .int .i64 (L (k * 13 + 7)), .int .i64 (L (k * 13 + 8)), .int .i64 (L (k * 13 + 9)), .int .i64 (L (k * 13 + 10)), .int .i64 (L (k * 13 + 11)), .int .i64 (L (k * 13 + 12))] := by
  simp [fl, show (k + 1) * 13 = k * 13 + 1 + 1 + 1 + 1 + 1 + 1 + 1 + 1 + 1 + 1 + 1 + 1 + 1 by omega, List.range_succ]

theorem own_nums {w : World} {base n c : Nat} {e : TypeId} {v : Value} {L : Nat → Int} (hn : n * (c * 8) ≤ 140737488351232) (h : w.ownsRow base e c v n (fl c L n)) : ∃ a cap, v = .slice a n cap ∧ n ≤ cap ∧ Nums c w a n L := by
  rcases h.2 with ⟨hv, h0⟩ | ⟨g, cap, cur, rfl, -, -, hcap, -, -, -⟩
  · subst h0; exact ⟨none, 0, hv, Nat.le_refl _, hn, .inl rfl⟩
  · exact ⟨some ⟨g, 0, none⟩, cap, rfl, hcap, hn, .inr ⟨g, 0, rfl, (h.lt g rfl).2, fun j hj => by rw [Nat.zero_add]; exact (h.cellAt j hj).trans (fl_at c L n j hj)⟩⟩

/-- the cells of a row of tracks -/
def ft (way : Nat → Int) (kn : Nat → Nat) (ka : Nat → Option Addr) (kc : Nat → Nat) : Nat → List Value
  | 0 => []
  | k + 1 => ft way kn ka kc k ++ [.int .i64 (way k), .slice (ka k) (kn k) (kc k)]

theorem ft_length (way : Nat → Int) (kn : Nat → Nat) (ka : Nat → Option Addr) (kc : Nat → Nat) : ∀ k, (ft way kn ka kc k).length = k * 2
  | 0 => rfl
  | k + 1 => by rw [ft, List.length_append, ft_length way kn ka kc k]; simp; omega

theorem ft_at (way : Nat → Int) (kn : Nat → Nat) (ka : Nat → Option Addr) (kc : Nat → Nat) : ∀ k i, i < k → (ft way kn ka kc k)[i * 2]? = some (.int .i64 (way i)) ∧ (ft way kn ka kc k)[i * 2 + 1]? = some (.slice (ka i) (kn i) (kc i))
  | k + 1, i, hi => by
    have hl := ft_length way kn ka kc k
    rw [ft]
    by_cases e : i = k
    · subst e
      constructor
      · rw [List.getElem?_append_right (by omega), hl, Nat.sub_self]; rfl
      · rw [List.getElem?_append_right (by omega), hl, show i * 2 + 1 - i * 2 = 1 by omega]; rfl
    · rw [List.getElem?_append_left (by omega), List.getElem?_append_left (by omega)]
      exact ft_at way kn ka kc k i (by omega)

theorem ft_congr {way : Nat → Int} {kn : Nat → Nat} {ka kb : Nat → Option Addr} {kc kd : Nat → Nat} : ∀ k, (∀ i, i < k → ka i = kb i ∧ kc i = kd i) → ft way kn ka kc k = ft way kn kb kd k
  | 0, _ => rfl
  | k + 1, h => by
    rw [ft, ft, ft_congr k (fun i hi => h i (by omega)), (h k (by omega)).1, (h k (by omega)).2]

theorem own_blk {w w' : World} {base c n : Nat} {e : TypeId} {v : Value} {xs : List Value} (h : w.ownsRow base e c v n xs) (hk : ∀ g, v.ownBlock = some g → w'.heap[g]? = w.heap[g]?) : w'.ownsRow base e c v n xs := by
  refine ⟨h.1, ?_⟩
  rcases h.2 with h' | ⟨g, cap, cur, e1, e2, e3, e4⟩
  · exact .inl h'
  · subst e1
    exact .inr ⟨g, cap, cur, rfl, e2, by rw [hk g rfl]; exact e3, e4⟩

/-- a row of tracks under way: their keys lie far from the rows that grow -/
def TRow (w : World) (B0 : Nat) (eT : TypeId) (pv tv jv sv : Value) (j : Nat) (s : Scn) : Prop :=
  ∃ (ka : Nat → Option Addr) (kc : Nat → Nat), w.ownsRow B0 eT 2 tv j (ft s.way s.kn ka kc j) ∧
    ∀ i, i < j → s.kn i * 32 ≤ 140737488351232 ∧ (s.kn i = 0 ∨ ∃ b off, ka i = some ⟨b, off, none⟩ ∧ b < w.heap.size ∧ B0 ≤ b ∧ some b ≠ pv.ownBlock ∧ some b ≠ tv.ownBlock ∧ some b ≠ jv.ownBlock ∧ some b ≠ sv.ownBlock ∧ ∀ m, m < s.kn i * 4 → w.cell? ⟨b, off + m, none⟩ = some (.int .i64 (s.K i m)))

/-- the block that is filled -/
def OB (w : World) (q : Nat) (s : Scn) (pv tv jv sv : Value) : Prop :=
  w.cell? ⟨q, 0, none⟩ = some (.int .i64 s.w) ∧ w.cell? ⟨q, 1, none⟩ = some (.int .i64 s.h) ∧ w.cell? ⟨q, 2, none⟩ = some (.int .i64 s.sm) ∧ w.cell? ⟨q, 3, none⟩ = some (.int .i64 s.dp) ∧ w.cell? ⟨q, 4, none⟩ = some (.int .i64 s.fr) ∧ w.cell? ⟨q, 5, none⟩ = some (.int .i64 s.sh) ∧ w.cell? ⟨q, 6, none⟩ = some (.int .u64 s.sd) ∧ w.cell? ⟨q, 7, none⟩ = some (.int .i64 s.r) ∧ w.cell? ⟨q, 8, none⟩ = some (.int .i64 s.g) ∧ w.cell? ⟨q, 9, none⟩ = some (.int .i64 s.b) ∧ w.cell? ⟨q, 10, none⟩ = some (.int .i64 s.ey) ∧ w.cell? ⟨q, 11, none⟩ = some (.int .i64 s.lk) ∧ w.cell? ⟨q, 12, none⟩ = some (.int .i64 s.wd) ∧ w.cell? ⟨q, 13, none⟩ = some pv ∧ w.cell? ⟨q, 14, none⟩ = some tv ∧ w.cell? ⟨q, 15, none⟩ = some jv ∧ w.cell? ⟨q, 16, none⟩ = some sv

theorem OB.keep {w w' : World} {q : Nat} {s : Scn} {pv tv jv sv : Value} (h : OB w q s pv tv jv sv) (e : ∀ i, w'.cell? ⟨q, i, none⟩ = w.cell? ⟨q, i, none⟩) : OB w' q s pv tv jv sv := by
  unfold OB at h ⊢
  rw [e, e, e, e, e, e, e, e, e, e, e, e, e, e, e, e, e]
  exact h

theorem cset {w : World} {g i j : Nat} {u v : Value} (h : w.cell? ⟨g, i, none⟩ = some v) : (w.setCell ⟨g, i, none⟩ u).cell? ⟨g, j, none⟩ = if j = i then some u else w.cell? ⟨g, j, none⟩ := by
  by_cases e : j = i
  · subst e; rw [if_pos rfl]; exact World.cell?_setCell_same _ _ _ h
  · rw [if_neg e]
    exact World.cell?_setCell_other _ _ _ _ (by simp)

theorem OB.putP {w : World} {q : Nat} {s : Scn} {pv tv jv sv : Value} (h : OB w q s pv tv jv sv) (pv2 : Value) : OB (w.setCell ⟨q, 13, none⟩ pv2) q s pv2 tv jv sv := by
  obtain ⟨h0, h1, h2, h3, h4, h5, h6, h7, h8, h9, h10, h11, h12, h13, h14, h15, h16⟩ := h
  unfold OB
  simp only [cset h13]
  exact ⟨h0, h1, h2, h3, h4, h5, h6, h7, h8, h9, h10, h11, h12, rfl, h14, h15, h16⟩

theorem OB.putT {w : World} {q : Nat} {s : Scn} {pv tv jv sv : Value} (h : OB w q s pv tv jv sv) (pv2 : Value) : OB (w.setCell ⟨q, 14, none⟩ pv2) q s pv pv2 jv sv := by
  obtain ⟨h0, h1, h2, h3, h4, h5, h6, h7, h8, h9, h10, h11, h12, h13, h14, h15, h16⟩ := h
  unfold OB
  simp only [cset h14]
  exact ⟨h0, h1, h2, h3, h4, h5, h6, h7, h8, h9, h10, h11, h12, h13, rfl, h15, h16⟩

theorem OB.putJ {w : World} {q : Nat} {s : Scn} {pv tv jv sv : Value} (h : OB w q s pv tv jv sv) (pv2 : Value) : OB (w.setCell ⟨q, 15, none⟩ pv2) q s pv tv pv2 sv := by
  obtain ⟨h0, h1, h2, h3, h4, h5, h6, h7, h8, h9, h10, h11, h12, h13, h14, h15, h16⟩ := h
  unfold OB
  simp only [cset h15]
  exact ⟨h0, h1, h2, h3, h4, h5, h6, h7, h8, h9, h10, h11, h12, h13, h14, rfl, h16⟩

theorem OB.putS {w : World} {q : Nat} {s : Scn} {pv tv jv sv : Value} (h : OB w q s pv tv jv sv) (pv2 : Value) : OB (w.setCell ⟨q, 16, none⟩ pv2) q s pv tv jv pv2 := by
  obtain ⟨h0, h1, h2, h3, h4, h5, h6, h7, h8, h9, h10, h11, h12, h13, h14, h15, h16⟩ := h
  unfold OB
  simp only [cset h16]
  exact ⟨h0, h1, h2, h3, h4, h5, h6, h7, h8, h9, h10, h11, h12, h13, h14, h15, rfl⟩

theorem OB.c13 {w : World} {q : Nat} {s : Scn} {pv tv jv sv : Value} (h : OB w q s pv tv jv sv) : w.cell? ⟨q, 13, none⟩ = some pv := h.2.2.2.2.2.2.2.2.2.2.2.2.2.1

theorem OB.c14 {w : World} {q : Nat} {s : Scn} {pv tv jv sv : Value} (h : OB w q s pv tv jv sv) : w.cell? ⟨q, 14, none⟩ = some tv := h.2.2.2.2.2.2.2.2.2.2.2.2.2.2.1

theorem OB.c15 {w : World} {q : Nat} {s : Scn} {pv tv jv sv : Value} (h : OB w q s pv tv jv sv) : w.cell? ⟨q, 15, none⟩ = some jv := h.2.2.2.2.2.2.2.2.2.2.2.2.2.2.2.1

theorem OB.c16 {w : World} {q : Nat} {s : Scn} {pv tv jv sv : Value} (h : OB w q s pv tv jv sv) : w.cell? ⟨q, 16, none⟩ = some sv := h.2.2.2.2.2.2.2.2.2.2.2.2.2.2.2.2

theorem SBox.c13 {w : World} {q : Nat} {s : Scn} {a : Pla} (h : SBox w q s a) : w.cell? ⟨q, 13, none⟩ = some (.slice a.pa s.np a.pc) := h.2.2.2.2.2.2.2.2.2.2.2.2.2.2.1

theorem SBox.c14 {w : World} {q : Nat} {s : Scn} {a : Pla} (h : SBox w q s a) : w.cell? ⟨q, 14, none⟩ = some (.slice a.ta s.nt a.tc) := h.2.2.2.2.2.2.2.2.2.2.2.2.2.2.2.1

theorem SBox.c15 {w : World} {q : Nat} {s : Scn} {a : Pla} (h : SBox w q s a) : w.cell? ⟨q, 15, none⟩ = some (.slice a.ja s.nj a.jc) := h.2.2.2.2.2.2.2.2.2.2.2.2.2.2.2.2.1

theorem SBox.c16 {w : World} {q : Nat} {s : Scn} {a : Pla} (h : SBox w q s a) : w.cell? ⟨q, 16, none⟩ = some (.slice a.sa s.ns a.sc) := h.2.2.2.2.2.2.2.2.2.2.2.2.2.2.2.2.2

/-- alike but for the block of a row and the block that is filled -/
structure Sm (w w' : World) (r : Option Nat) (q : Nat) : Prop where
  os : w'.os = w.os
  tape : w'.tape = w.tape
  output : w'.output = w.output
  size : w.heap.size ≤ w'.heap.size
  blk : ∀ b, b < w.heap.size → some b ≠ r → b ≠ q → w'.heap[b]? = w.heap[b]?

theorem Sm.of {w w2 : World} {r : Option Nat} (hg : w.grownBy w2 r) (q c : Nat) (u : Value) : Sm w (w2.setCell ⟨q, c, none⟩ u) r q :=
  ⟨hg.os, hg.tape, hg.output, by simpa using hg.size, fun b h1 h2 h3 => by
    have := Below.heap_setCell w2 ⟨q, c, none⟩ u b h3
    rw [this]; exact hg.block b h1 h2⟩

theorem far_new {b g n cp H : Nat} {own : Option Nat} (hgk : own = some g ∨ g = H) (e4 : some b ≠ own) (hb : b < H) : some b ≠ (Value.slice (some ⟨g, 0, none⟩) n cp).ownBlock := fun e => by
  simp [Value.ownBlock] at e
  rcases hgk with hgk | hgk
  · exact e4 (by rw [hgk, e])
  · omega

/-- a scene under way -/
structure ToS (eP eT eJ eS : TypeId) (w0 : World) (s : Scn) (q B0 i j k l : Nat) (pv tv jv sv : Value) (w : World) : Prop where
  l1 : w0.heap.size ≤ q
  l2 : q < B0
  l3 : B0 ≤ w.heap.size
  bl : Below w0.heap.size w0 w
  ob : OB w q s pv tv jv sv
  fr : ∀ m, w.frozen? ⟨q, m, none⟩ = false
  rp : w.ownsRow B0 eP 5 pv i (fl 5 s.P i)
  rt : TRow w B0 eT pv tv jv sv j s
  rj : w.ownsRow B0 eJ 4 jv k (fl 4 s.J k)
  rs : w.ownsRow B0 eS 13 sv l (fl 13 s.S l)

variable {eP eT eJ eS : TypeId} {w0 : World} {s : Scn} {q B0 i j k l : Nat} {pv tv jv sv : Value} {w : World}

theorem ToS.on {w' : World} (h : ToS eP eT eJ eS w0 s q B0 i j k l pv tv jv sv w) (hb : Below w.heap.size w w') : ToS eP eT eJ eS w0 s q B0 i j k l pv tv jv sv w' := by
  have hz := h.l1
  have hz2 := h.l2
  have hz3 := h.l3
  refine ⟨h.l1, h.l2, Nat.le_trans h.l3 hb.size, h.bl.trans (hb.mono h.bl.size), h.ob.keep (fun i => hb.cell (p := ⟨q, i, none⟩) (by show q < _; omega)), fun m => ?_, own_below h.rp hb, ?_, own_below h.rj hb, own_below h.rs hb⟩
  · exact (hb.frozen (p := ⟨q, m, none⟩) (by show q < _; omega)).trans (h.fr m)
  · obtain ⟨ka, kc, h1, h2⟩ := h.rt
    refine ⟨ka, kc, own_below h1 hb, fun i hi => ?_⟩
    obtain ⟨h3, h4 | ⟨b, off, e1, e2, e3, e4, e5, e6, e7, e8⟩⟩ := h2 i hi
    · exact ⟨h3, .inl h4⟩
    · exact ⟨h3, .inr ⟨b, off, e1, Nat.lt_of_lt_of_le e2 hb.size, e3, e4, e5, e6, e7, fun m hm => (hb.cell (p := ⟨b, off + m, none⟩) e2).trans (e8 m hm)⟩⟩

theorem Sm.cell {w w' : World} {r : Option Nat} {q : Nat} (h : Sm w w' r q) {b : Nat} (h1 : b < w.heap.size) (h2 : some b ≠ r) (h3 : b ≠ q) (m : Nat) : w'.cell? ⟨b, m, none⟩ = w.cell? ⟨b, m, none⟩ := World.cell?_of_block (h.blk b h1 h2 h3)

theorem ToS.bel {w' : World} {r : Option Nat} (h : ToS eP eT eJ eS w0 s q B0 i j k l pv tv jv sv w) (hs : Sm w w' r q) (hr : ∀ x, r = some x → B0 ≤ x) : Below w0.heap.size w0 w' := by
  have h1 := h.l1
  have h2 := h.l2
  have h3 := h.l3
  refine h.bl.trans ⟨hs.os, hs.tape, hs.output, by have := hs.size; omega, fun b hb => hs.blk b (by omega) (fun e => by have := hr _ e.symm; omega) (by omega)⟩

theorem own_row {r : Option Nat} {w w' : World} {q B0 base c n : Nat} {e : TypeId} {v : Value} {xs : List Value} (h : w.ownsRow base e c v n xs) (hs : Sm w w' r q) (hq : q < base) (hne : v.ownBlock = none ∨ v.ownBlock ≠ r) : w'.ownsRow base e c v n xs :=
  own_blk h fun g hg => hs.blk g (h.lt g hg).2 (fun e => hne.elim (fun hn => by rw [hn] at hg; cases hg) (fun hn => hn (by rw [hg, e]))) (by have := (h.lt g hg).1; omega)

theorem row_ne {w : World} {b1 b2 : Nat} {e1 e2 : TypeId} {s1 s2 n1 n2 : Nat} {v1 v2 : Value} {x1 x2 : List Value} (he : e1 ≠ e2) (h1 : w.ownsRow b1 e1 s1 v1 n1 x1) (h2 : w.ownsRow b2 e2 s2 v2 n2 x2) :
    v1.ownBlock = none ∨ v1.ownBlock ≠ v2.ownBlock := by
  rcases h1.2 with ⟨rfl, -⟩ | ⟨g1, c1, u1, rfl, -, g, -, -, -, -⟩
  · exact .inl rfl
  · rcases h2.2 with ⟨rfl, -⟩ | ⟨g2, c2, u2, rfl, -, g', -, -, -, -⟩
    · exact .inr (by simp [Value.ownBlock])
    · refine .inr fun e => ?_
      simp [Value.ownBlock] at e
      subst e
      rw [g] at g'
      simp at g'
      exact he g'.2

theorem ToS.frz {w2 : World} {r : Option Nat} (h : ToS eP eT eJ eS w0 s q B0 i j k l pv tv jv sv w) (hg : w.grownBy w2 r) (hr : ∀ x, r = some x → B0 ≤ x) (c : Nat) (u : Value) (m : Nat) : (w2.setCell ⟨q, c, none⟩ u).frozen? ⟨q, m, none⟩ = false := by
  have h2 := h.l2
  have h3 := h.l3
  rw [World.frozen?_setCell]
  exact (World.frozen?_of_block (a := ⟨q, m, none⟩) (hg.block q (by omega) (fun e => by have := hr _ e.symm; omega))).trans (h.fr m)

theorem ToS.obk {w2 : World} {r : Option Nat} (h : ToS eP eT eJ eS w0 s q B0 i j k l pv tv jv sv w) (hg : w.grownBy w2 r) (hr : ∀ x, r = some x → B0 ≤ x) : OB w2 q s pv tv jv sv := by
  have h2 := h.l2
  have h3 := h.l3
  exact h.ob.keep fun i => World.cell?_of_block (a := ⟨q, i, none⟩) (hg.block q (by omega) (fun e => by have := hr _ e.symm; omega))

theorem own_ge {base c n : Nat} {e : TypeId} {v : Value} {xs : List Value} (h : w.ownsRow base e c v n xs) : ∀ x, v.ownBlock = some x → base ≤ x := fun x hx => (h.lt x hx).1

theorem ToS.stepP (h1 : eP ≠ eT) (h2 : eP ≠ eJ) (h3 : eP ≠ eS) (h4 : eT ≠ eJ) (h5 : eT ≠ eS) (h6 : eJ ≠ eS) {w2 : World} {g cp : Nat} (h : ToS eP eT eJ eS w0 s q B0 i j k l pv tv jv sv w) (hg : w.grownBy w2 pv.ownBlock) (pv2 : Value) (hv : pv2 = .slice (some ⟨g, 0, none⟩) (i + 1) cp)
    (hown : w2.ownsRow B0 eP 5 pv2 (i + 1) (fl 5 s.P (i + 1))) (hgk : pv.ownBlock = some g ∨ g = w.heap.size) : ToS eP eT eJ eS w0 s q B0 (i + 1) (j) (k) (l) pv2 tv jv sv (w2.setCell ⟨q, 13, none⟩ pv2) := by
  have hr := own_ge h.rp
  have hsm := Sm.of hg q 13 pv2
  refine ⟨h.l1, h.l2, Nat.le_trans h.l3 hsm.size, h.bel hsm hr, (h.obk hg hr).putP pv2, h.frz hg hr _ _, ownsRow_setCell_below hown (by show q < B0; exact h.l2) _, ?_, own_row (B0 := B0) h.rj hsm h.l2 (row_ne (Ne.symm h2) h.rj h.rp), own_row (B0 := B0) h.rs hsm h.l2 (row_ne (Ne.symm h3) h.rs h.rp)⟩
  obtain ⟨ka, kc, hT1, hT2⟩ := h.rt
  refine ⟨ka, kc, own_row (B0 := B0) hT1 hsm h.l2 (row_ne (Ne.symm h1) hT1 h.rp), fun m hm => ?_⟩
  obtain ⟨h8, h9 | ⟨b, off, e1, e2, e3, e4, e5, e6, e7, e8⟩⟩ := hT2 m hm
  · exact ⟨h8, .inl h9⟩
  · have hl2 := h.l2
    subst hv
    refine ⟨h8, .inr ⟨b, off, e1, Nat.lt_of_lt_of_le e2 hsm.size, e3, far_new hgk e4 e2, e5, e6, e7, fun c hc => (hsm.cell e2 e4 (by omega) _).trans (e8 c hc)⟩⟩

theorem ToS.stepJ (h1 : eP ≠ eT) (h2 : eP ≠ eJ) (h3 : eP ≠ eS) (h4 : eT ≠ eJ) (h5 : eT ≠ eS) (h6 : eJ ≠ eS) {w2 : World} {g cp : Nat} (h : ToS eP eT eJ eS w0 s q B0 i j k l pv tv jv sv w) (hg : w.grownBy w2 jv.ownBlock) (pv2 : Value) (hv : pv2 = .slice (some ⟨g, 0, none⟩) (k + 1) cp)
    (hown : w2.ownsRow B0 eJ 4 pv2 (k + 1) (fl 4 s.J (k + 1))) (hgk : jv.ownBlock = some g ∨ g = w.heap.size) : ToS eP eT eJ eS w0 s q B0 (i) (j) (k + 1) (l) pv tv pv2 sv (w2.setCell ⟨q, 15, none⟩ pv2) := by
  have hr := own_ge h.rj
  have hsm := Sm.of hg q 15 pv2
  refine ⟨h.l1, h.l2, Nat.le_trans h.l3 hsm.size, h.bel hsm hr, (h.obk hg hr).putJ pv2, h.frz hg hr _ _, own_row (B0 := B0) h.rp hsm h.l2 (row_ne h2 h.rp h.rj), ?_, ownsRow_setCell_below hown (by show q < B0; exact h.l2) _, own_row (B0 := B0) h.rs hsm h.l2 (row_ne (Ne.symm h6) h.rs h.rj)⟩
  obtain ⟨ka, kc, hT1, hT2⟩ := h.rt
  refine ⟨ka, kc, own_row (B0 := B0) hT1 hsm h.l2 (row_ne h4 hT1 h.rj), fun m hm => ?_⟩
  obtain ⟨h8, h9 | ⟨b, off, e1, e2, e3, e4, e5, e6, e7, e8⟩⟩ := hT2 m hm
  · exact ⟨h8, .inl h9⟩
  · have hl2 := h.l2
    subst hv
    refine ⟨h8, .inr ⟨b, off, e1, Nat.lt_of_lt_of_le e2 hsm.size, e3, e4, e5, far_new hgk e6 e2, e7, fun c hc => (hsm.cell e2 e6 (by omega) _).trans (e8 c hc)⟩⟩

theorem ToS.stepS (h1 : eP ≠ eT) (h2 : eP ≠ eJ) (h3 : eP ≠ eS) (h4 : eT ≠ eJ) (h5 : eT ≠ eS) (h6 : eJ ≠ eS) {w2 : World} {g cp : Nat} (h : ToS eP eT eJ eS w0 s q B0 i j k l pv tv jv sv w) (hg : w.grownBy w2 sv.ownBlock) (pv2 : Value) (hv : pv2 = .slice (some ⟨g, 0, none⟩) (l + 1) cp)
    (hown : w2.ownsRow B0 eS 13 pv2 (l + 1) (fl 13 s.S (l + 1))) (hgk : sv.ownBlock = some g ∨ g = w.heap.size) : ToS eP eT eJ eS w0 s q B0 (i) (j) (k) (l + 1) pv tv jv pv2 (w2.setCell ⟨q, 16, none⟩ pv2) := by
  have hr := own_ge h.rs
  have hsm := Sm.of hg q 16 pv2
  refine ⟨h.l1, h.l2, Nat.le_trans h.l3 hsm.size, h.bel hsm hr, (h.obk hg hr).putS pv2, h.frz hg hr _ _, own_row (B0 := B0) h.rp hsm h.l2 (row_ne h3 h.rp h.rs), ?_, own_row (B0 := B0) h.rj hsm h.l2 (row_ne h6 h.rj h.rs), ownsRow_setCell_below hown (by show q < B0; exact h.l2) _⟩
  obtain ⟨ka, kc, hT1, hT2⟩ := h.rt
  refine ⟨ka, kc, own_row (B0 := B0) hT1 hsm h.l2 (row_ne h5 hT1 h.rs), fun m hm => ?_⟩
  obtain ⟨h8, h9 | ⟨b, off, e1, e2, e3, e4, e5, e6, e7, e8⟩⟩ := hT2 m hm
  · exact ⟨h8, .inl h9⟩
  · have hl2 := h.l2
    subst hv
    refine ⟨h8, .inr ⟨b, off, e1, Nat.lt_of_lt_of_le e2 hsm.size, e3, e4, e5, e6, far_new hgk e7 e2, fun c hc => (hsm.cell e2 e7 (by omega) _).trans (e8 c hc)⟩⟩

theorem ToS.stepT (h1 : eP ≠ eT) (h2 : eP ≠ eJ) (h3 : eP ≠ eS) (h4 : eT ≠ eJ) (h5 : eT ≠ eS) (h6 : eJ ≠ eS) {w1 w2 : World} {g cp : Nat} (h : ToS eP eT eJ eS w0 s q B0 i j k l pv tv jv sv w) (hz : w.heap.size ≤ w1.heap.size) (ka1 : Option Addr) (kc1 : Nat) (hk : KeysAt w1 ka1 (s.kn j) (s.K j)) (hkb : ∀ p, ka1 = some p → w.heap.size ≤ p.block) (hf : ToS eP eT eJ eS w0 s q B0 i j k l pv tv jv sv w1) (ka : Nat → Option Addr) (kc : Nat → Nat)
    (hT1 : w1.ownsRow B0 eT 2 tv j (ft s.way s.kn ka kc j)) (hT2 : ∀ i, i < j → s.kn i * 32 ≤ 140737488351232 ∧ (s.kn i = 0 ∨ ∃ b off, ka i = some ⟨b, off, none⟩ ∧ b < w1.heap.size ∧ B0 ≤ b ∧ some b ≠ pv.ownBlock ∧ some b ≠ tv.ownBlock ∧ some b ≠ jv.ownBlock ∧ some b ≠ sv.ownBlock ∧ ∀ m, m < s.kn i * 4 → w1.cell? ⟨b, off + m, none⟩ = some (.int .i64 (s.K i m))))
    (hg : w1.grownBy w2 tv.ownBlock) (pv2 : Value) (hv : pv2 = .slice (some ⟨g, 0, none⟩) (j + 1) cp)
    (hown : w2.ownsRow B0 eT 2 pv2 (j + 1) (ft s.way s.kn ka kc j ++ [.int .i64 (s.way j), .slice ka1 (s.kn j) kc1])) (hgk : tv.ownBlock = some g ∨ g = w1.heap.size) : ToS eP eT eJ eS w0 s q B0 i (j + 1) k l pv pv2 jv sv (w2.setCell ⟨q, 14, none⟩ pv2) := by
  have hbl : ∀ v x, (v = pv ∨ v = tv ∨ v = jv ∨ v = sv) → v.ownBlock = some x → x < w.heap.size := by
    rintro v x (rfl | rfl | rfl | rfl) hx
    · exact (h.rp.lt x hx).2
    · obtain ⟨ka, kc, hT1, hT2⟩ := h.rt; exact (hT1.lt x hx).2
    · exact (h.rj.lt x hx).2
    · exact (h.rs.lt x hx).2
  have hr : ∀ x, tv.ownBlock = some x → B0 ≤ x := own_ge hT1
  have hsm := Sm.of hg q 14 pv2
  refine ⟨h.l1, h.l2, Nat.le_trans hf.l3 hsm.size, hf.bel hsm hr, (hf.obk hg hr).putT pv2, hf.frz hg hr _ _, own_row (B0 := B0) hf.rp hsm h.l2 (row_ne h1 hf.rp hT1), ?_, own_row (B0 := B0) hf.rj hsm h.l2 (row_ne (Ne.symm h4) hf.rj hT1), own_row (B0 := B0) hf.rs hsm h.l2 (row_ne (Ne.symm h5) hf.rs hT1)⟩
  have hl2 := h.l2
  have hl3 := h.l3
  subst hv
  refine ⟨fun m => if m = j then ka1 else ka m, fun m => if m = j then kc1 else kc m, ?_, fun m hm => ?_⟩
  · have := ownsRow_setCell_below hown (a := ⟨q, 14, none⟩) (by show q < B0; exact hl2) (.slice (some ⟨g, 0, none⟩) (j + 1) cp)
    rw [ft, if_pos rfl, if_pos rfl, ft_congr (ka := fun m => if m = j then ka1 else ka m) (kb := ka) (kc := fun m => if m = j then kc1 else kc m) (kd := kc) j (fun m hm => ⟨if_neg (by omega), if_neg (by omega)⟩)]
    exact this
  · by_cases e : m = j
    · subst e
      obtain ⟨h8, h9 | ⟨b, off, e1, e2, e8⟩⟩ := hk
      · exact ⟨h8, .inl h9⟩
      · have hwb : w.heap.size ≤ b := hkb _ e1
        have hfar : ∀ v, (v = pv ∨ v = tv ∨ v = jv ∨ v = sv) → some b ≠ v.ownBlock := fun v hv e => by have := hbl v b hv e.symm; omega
        refine ⟨h8, .inr ⟨b, off, by simp only [if_true]; exact e1, Nat.lt_of_lt_of_le e2 hsm.size, by omega, hfar _ (.inl rfl), far_new hgk (hfar _ (.inr (.inl rfl))) e2, hfar _ (.inr (.inr (.inl rfl))), hfar _ (.inr (.inr (.inr rfl))), fun c hc => (hsm.cell e2 (hfar _ (.inr (.inl rfl))) (by omega) _).trans (e8 c hc)⟩⟩
    · obtain ⟨h8, h9 | ⟨b, off, e1, e2, e3, e4, e5, e6, e7, e8⟩⟩ := hT2 m (by omega)
      · exact ⟨h8, .inl h9⟩
      · exact ⟨h8, .inr ⟨b, off, by simp only [if_neg e]; exact e1, Nat.lt_of_lt_of_le e2 hsm.size, e3, e4, far_new hgk e5 e2, e6, e7, fun c hc => (hsm.cell e2 e5 (by omega) _).trans (e8 c hc)⟩⟩

theorem ToS.frg {w2 : World} {r : Option Nat} (h : ToS eP eT eJ eS w0 s q B0 i j k l pv tv jv sv w) (hg : w.grownBy w2 r) (hr : ∀ x, r = some x → B0 ≤ x) (m : Nat) : w2.frozen? ⟨q, m, none⟩ = false := by
  have h2 := h.l2
  have h3 := h.l3
  exact (World.frozen?_of_block (a := ⟨q, m, none⟩) (hg.block q (by omega) (fun e => by have := hr _ e.symm; omega))).trans (h.fr m)

/-- all that came over, read off -/
theorem ToS.all (h : ToS eP eT eJ eS w0 s q B0 s.np s.nt s.nj s.ns pv tv jv sv w) {wa : World} {a : Pla} (ha : ScAt wa s a) : ∃ a', pv = .slice a'.pa s.np a'.pc ∧ tv = .slice a'.ta s.nt a'.tc ∧ jv = .slice a'.ja s.nj a'.jc ∧ sv = .slice a'.sa s.ns a'.sc ∧ s.ns ≤ a'.sc ∧ ∀ w', (∀ b, B0 ≤ b → b < w.heap.size → w'.heap[b]? = w.heap[b]?) → w.heap.size ≤ w'.heap.size → ScAt w' s a' := by
  have hown : ∀ {c n : Nat} {e : TypeId} {v : Value} {xs : List Value}, w.ownsRow B0 e c v n xs → ∀ w' : World, (∀ b, B0 ≤ b → b < w.heap.size → w'.heap[b]? = w.heap[b]?) → w'.ownsRow B0 e c v n xs := fun h w' hw => own_blk h fun g hg => hw g (h.lt g hg).1 (h.lt g hg).2
  obtain ⟨pa, pc, rfl, -, -⟩ := own_nums ha.p.1 h.rp
  obtain ⟨ja, jc, rfl, -, -⟩ := own_nums ha.j.1 h.rj
  obtain ⟨sa, sc, rfl, hsc, -⟩ := own_nums ha.sh.1 h.rs
  obtain ⟨ka, kc, hT1, hT2⟩ := h.rt
  obtain ⟨ta, tc, rfl⟩ := own_form hT1
  refine ⟨⟨pa, pc, ta, tc, ja, jc, sa, sc⟩, rfl, rfl, rfl, rfl, hsc, fun w' hw hz => ⟨?_, ?_, ?_, ?_, ha.sd⟩⟩
  · obtain ⟨x, y, e, -, hx⟩ := own_nums ha.p.1 (hown h.rp w' hw); cases e; exact hx
  · refine ⟨ha.t.1, ?_⟩
    have hT := hown hT1 w' hw
    rcases Nat.eq_zero_or_pos s.nt with h0 | h0
    · exact .inl h0
    · obtain ⟨g, cap, e1⟩ : ∃ g cap, Value.slice ta s.nt tc = .slice (some ⟨g, 0, none⟩) s.nt cap := by
        rcases hT.2 with ⟨hv, h9⟩ | ⟨g, cap, cur, hv, -⟩
        · omega
        · exact ⟨g, cap, hv⟩
      cases e1
      refine .inr ⟨g, 0, rfl, (hT.lt g rfl).2, fun m hm => ⟨ka m, kc m, ?_, ?_, ?_⟩⟩
      · rw [Nat.zero_add]; exact (hT.cellAt (m * 2) (by omega)).trans (ft_at _ _ _ _ _ m hm).1
      · rw [Nat.zero_add]; exact (hT.cellAt (m * 2 + 1) (by omega)).trans (ft_at _ _ _ _ _ m hm).2
      · obtain ⟨h8, h9 | ⟨b, off, e1, e2, e3, e4, e5, e6, e7, e8⟩⟩ := hT2 m hm
        · exact ⟨h8, .inl h9⟩
        · exact ⟨h8, .inr ⟨b, off, e1, Nat.lt_of_lt_of_le e2 hz, fun c hc => (World.cell?_of_block (a := ⟨b, off + c, none⟩) (hw b e3 e2)).trans (e8 c hc)⟩⟩
  · obtain ⟨x, y, e, -, hx⟩ := own_nums ha.j.1 (hown h.rj w' hw); cases e; exact hx
  · obtain ⟨x, y, e, -, hx⟩ := own_nums ha.sh.1 (hown h.rs w' hw); cases e; exact hx

end Go.Proofs.YtplcbdmiccpnnaaGreat.Sc
