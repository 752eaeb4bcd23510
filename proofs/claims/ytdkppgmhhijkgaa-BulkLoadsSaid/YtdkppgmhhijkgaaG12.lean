/- The contract of package bulk's leaves. Condition: a tree of no nodes but a free number; one pair at least, at most 1000. The contract of package bulk's leaves: the walk. Condition: a tree of no nodes but a free number; one pair at least, at most 1000. A node that is put together, key by key and kid by kid; a level's cells. No condition. The contract of package bulk's above: the walk. Condition: a level of two branches at least, at most 1000; no key longer than 1000 bytes. -/
import Derived.Test.YtdkppgmhhijkgaaG11
import Derived.Test.YtdkppgmhhijkgaaG9
import Derived.RangeFuncWrites
import Derived.Deep.AppendLies
import Derived.Deep.RegionHeld3
import Derived.Deep.RegionLaw
namespace Go.Proofs.Ytdkppgmhhijkgaa
open Go.RowKit Go.Shelf
set_option linter.unusedVariables false
set_option maxRecDepth 100000
attribute [local go_sem] Oper.semAt_some

theorem Try.infoBranch : (Try.prog.info? 95).map (fun i => (i.zero, i.size, i.bytes)) = some (some (.agg #[.int .i64 0, .slice none 0 0]), 2, 32) := by kernel_rfl

theorem make_brs (n : Nat) (hn : n ≤ 100000) (w : World) : (Instr.makeSlice 91 (.int .i64 (n : Int)) (.int .i64 (n : Int))).run Try.prog w = .ok (.slice (some ⟨w.heap.size, 0, none⟩) n n) (w.alloc (.cells (madeCells #[.int .i64 0, .slice none 0 0] (n * 2)) 95)) := by
  obtain ⟨i, hi, hz, hs, hb⟩ := info_parts Try.infoBranch
  have hr := run_make (P := Try.prog) w 91 95 i _ Try.underlying91 hi hz .i64 .i64 n n (by omega) (Int.le_refl _) (by rw [hb]; omega) (by omega)
  simp only [Int.toNat_natCast, hs] at hr
  exact hr

/-- A piece of a slice of pairs. -/
theorem prs_pce {E : Nat → Prop} {w : World} {b o n c p i : Nat} {l : List Pr} (h : On E w (Prs · (some ⟨b, o, none⟩) n c l)) (hp : 0 < p) (hi : i < p) (hpn : p ≤ n) :
    On E w (Prs · (some ⟨b, o + ctA n p i * 2, none⟩) (ctA n p (i + 1) - ctA n p i) (c - ctA n p i) (pce l p i)) := fun w' ha => by
  have hh := h w' ha
  have hl := hh.len
  have h1 := ctA_least (n := n) (p := p) (q := 1) (i := i) hp (by omega)
  have h2 := ctA_le (n := n) hp (show i + 1 ≤ p by omega)
  have hnc := hh.2.1
  have hf := (hh.from (k := ctA n p i) (by omega)).upto (k := ctA n p (i + 1) - ctA n p i) (by omega)
  have ec : cutA (some ⟨b, o, none⟩) (ctA n p i) c = some ⟨b, o + ctA n p i * 2, none⟩ := by
    unfold cutA
    rw [if_neg (by omega)]
    simp only [Option.map_some]
    rw [add_lit]
  rw [ec] at hf
  unfold pce
  rw [hl]
  exact hf
theorem small_pce {l : List Pr} (h : Small l) (p i : Nat) : Small (pce l p i) := small_take (small_drop h _) _
/-- The least key of a piece, as a value. -/
theorem key_pce {E : Nat → Prop} {w : World} {b o n c p i : Nat} {l : List Pr} (h : On E w (Prs · (some ⟨b, o, none⟩) n c l)) (hp : 0 < p) (hi : i < p) (hpn : p ≤ n) :
    ∃ A1 n1 c1, w.cell? ⟨b, o + ctA n p i * 2, none⟩ = some (.slice A1 n1 c1) ∧ On E w (Byt · A1 n1 (gt (pce l p i) 0).1) ∧ b < w.heap.size := by
  have h1 := ctA_least (n := n) (p := p) (q := 1) (i := i) hp (by omega)
  obtain ⟨b', o', A1, n1, c1, B1, m1, d1, e, k0, k1, y1, y2⟩ := prs_pair_on (prs_pce h hp hi hpn) (j := 0) (by omega)
  injection e with e
  injection e with e1 e2
  subst e1
  subst e2
  exact ⟨A1, n1, c1, by simpa using k0, y1, World.block_lt_of_cell? w _ k0⟩

/-- A level's cells, places pre having been filled one after another. -/
def lvX (kh : Nat → Value) (p : Nat) : List (Fin p) → List Value := fun pre =>
  (pre.zipIdx).foldl (fun xs q => (xs.set (q.1.1 * 2) (.int .i64 (q.2 : Int))).set (q.1.1 * 2 + 1) (kh q.1.1)) (madeCells #[.int .i64 0, .slice none 0 0] (p * 2)).toList
theorem lvX_snoc (kh : Nat → Value) {p : Nat} (pre : List (Fin p)) (x : Fin p) : lvX kh p (pre ++ [x]) = ((lvX kh p pre).set (x.1 * 2) (.int .i64 (pre.length : Int))).set (x.1 * 2 + 1) (kh x.1) := by
  unfold lvX
  rw [List.zipIdx_append, List.foldl_append]
  simp
theorem lvX_dn (kh : Nat → Value) (p : Nat) : ∀ (k : Nat), k ≤ p → (lvX kh p (dn p k)).length = p * 2 ∧ ∀ j, p - k ≤ j → j < p → (lvX kh p (dn p k))[j * 2]? = some (.int .i64 ((p - 1 - j : Nat) : Int)) ∧ (lvX kh p (dn p k))[j * 2 + 1]? = some (kh j)
  | 0, _ => by
    refine ⟨by rw [dn_zero]; simp [lvX, size_madeCells], fun j h1 h2 => by omega⟩
  | k + 1, hk => by
    obtain ⟨h1, h2⟩ := lvX_dn kh p k (by omega)
    obtain ⟨r, hr⟩ : ∃ r, r + 1 + k = p := ⟨p - 1 - k, by omega⟩
    rw [dn_succ hr, lvX_snoc]
    refine ⟨by simp [h1], fun j g1 g2 => ?_⟩
    simp only []
    by_cases e : j = r
    · subst e
      rw [List.getElem?_set_ne (by omega), List.getElem?_set_self (by omega), List.getElem?_set_self (by simp; omega), dn_len (by omega)]
      exact ⟨by congr 2; omega, rfl⟩
    · rw [List.getElem?_set_ne (by omega), List.getElem?_set_ne (by omega), List.getElem?_set_ne (by omega), List.getElem?_set_ne (by omega)]
      exact h2 j (by omega) g2

/-- Where the blocks of leaves' own variables lie. -/
structure LvsB (w w2 : World) (bt gp gl bl bn bx : Nat) : Prop where
  t : bt = w.heap.size
  p : bt < gp
  l : gp < gl
  bl : bl = gl + 1
  bn : bn = gl + 2
  bx : bx = gl + 3
  e : w2.heap.size = gl + 4

/-- Where the loop over the pieces has come to. -/
structure LvsI (w w2 : World) (D : Nat → Prop) (tb g root m many p bt gl bl bn : Nat) (pcF : Fin p → List Pr) (kh : Nat → Value) (pre : List (Fin p)) (W : World) : Prop where
  tree : ∃ D', TrM W D' tb g (lfA (pre.map pcF)) (lfF (pre.map pcF)) root m many ∧ (∀ b, D' b → CellsB W b) ∧ ∀ b, D' b → (D b ∧ b < w.heap.size) ∨ w2.heap.size ≤ b
  tl : tb < w.heap.size
  ct : W.cell? ⟨bt, 0, none⟩ = some (.pointer (some ⟨tb, 0, none⟩))
  cl : W.cell? ⟨bl, 0, none⟩ = some (.slice (some ⟨gl, 0, none⟩) p p)
  cn : W.cell? ⟨bn, 0, none⟩ = some (.int .i64 ((pre.length : Int) - 1))
  fz : W.frozen? ⟨bn, 0, none⟩ = false
  row : W.ownsRow w.heap.size 95 2 (.slice (some ⟨gl, 0, none⟩) p p) p (lvX kh p pre)
  only : Only D w W
  sz : w2.heap.size ≤ W.heap.size

theorem cellsB_keep {w w' : World} {b : Nat} (h : CellsB w b) (he : w'.heap[b]? = w.heap[b]?) : CellsB w' b := by
  obtain ⟨o, h1, h2⟩ := h
  exact ⟨o, he.trans h1, h2⟩
theorem cellsB_not {w : World} {b : Nat} {o : Obj} (h : CellsB w b) (h1 : w.heap[b]? = some o) (h2 : o.isCells = false) : False := by
  obtain ⟨o', h3, h4⟩ := h
  rw [h3] at h1
  injection h1 with h1
  rw [h1, h2] at h4
  cases h4

theorem lvsI_own {w w2 : World} {D : Nat → Prop} {tb g root m many p bt gp gl bl bn bx : Nat} {pcF : Fin p → List Pr} {kh : Nat → Value} (hb : LvsB w w2 bt gp gl bl bn bx) : OwnFrom w2.heap.size (LvsI w w2 D tb g root m many p bt gl bl bn pcF kh) := by
  rintro pre A B row ⟨⟨D', t1, t2, t3⟩, tl, h1, h2, h3, h4, h5, h6, h7⟩ hg hr
  have b1 := hb.t; have b2 := hb.p; have b3 := hb.l; have b4 := hb.bl; have b5 := hb.bn; have b6 := hb.e
  have far : ∀ k, k < w2.heap.size → k < A.heap.size → B.heap[k]? = A.heap[k]? := fun k hk hl => hg.block k hl (fun e => by have := (hr k e.symm).1; omega)
  have hcell : ∀ (q : Addr) (v : Value), q.block < w2.heap.size → A.cell? q = some v → B.cell? q = some v := fun q v hq hv => (World.cell?_of_block (far q.block hq (World.block_lt_of_cell? A _ hv))).trans hv
  refine ⟨⟨D', t1.keep (agree_grown hg fun k hk hc => ?_), fun b hb' => ?_, t3⟩, tl, hcell _ _ (by show bt < _; omega) h1, hcell _ _ (by show bl < _; omega) h2, hcell _ _ (by show bn < _; omega) h3, ?_, ?_, ?_, Nat.le_trans h7 hg.size⟩
  · obtain ⟨r1, o, r2, r3⟩ := hr k hk
    rcases hc with hc | hc
    · exact cellsB_not (t2 k hc) r2 r3
    · omega
  · exact cellsB_keep (t2 b hb') (hg.block b (cellsB_lt (t2 b hb')) (fun e => by
      obtain ⟨r1, o, r2, r3⟩ := hr b e.symm
      exact cellsB_not (t2 b hb') r2 r3))
  · rw [World.frozen?_of_block (far bn (by omega) (World.block_lt_of_cell? A _ h3))]
    exact h4
  · exact own_agree (C := fun b => b < w2.heap.size) h5 (agree_grown hg fun k hk hc => by have := (hr k hk).1; omega) fun k hk => by
      injection hk with hk
      subst hk
      show gl < _
      omega
  · exact h6.grown hg fun k hk => .inl (by have := (hr k hk).1; omega)

/-- What a round leaves. -/
theorem lvs_round {w w2 : World} {D D' : Nat → Prop} {tb g root m many p bt gp gl bl bn bx : Nat} {pcF : Fin p → List Pr} {kh : Nat → Value} (hb : LvsB w w2 bt gp gl bl bn bx) {pre : List (Fin p)} {W w3 : World} (hI : LvsI w w2 D tb g root m many p bt gl bl bn pcF kh pre W)
    (hT : TrM W D' tb g (lfA (pre.map pcF)) (lfF (pre.map pcF)) root m many) (hc : ∀ b, D' b → CellsB W b) (hD : ∀ b, D' b → (D b ∧ b < w.heap.size) ∨ w2.heap.size ≤ b) (x : Fin p)
    (hm : Turn W D' g (mkA (lfA (pre.map pcF)) (lfF (pre.map pcF)) (lfN pre.length (pcF x))) (lfF (pre.map pcF)).dropLast w3) {W5 : World}
    (hW5 : W5 = ((w3.setCell ⟨bn, 0, none⟩ (.int .i64 (pre.length : Int))).setCell ⟨gl, x.1 * 2, none⟩ (.int .i64 (pre.length : Int))).setCell ⟨gl, x.1 * 2 + 1, none⟩ (kh x.1)) (B : Nat) :
    LvsI w w2 D tb g root m many p bt gl bl bn pcF kh (pre ++ [x]) W5 ∧ KeepsFrom B W W5 ∧ KpB bx gp W W5 := by
  obtain ⟨D2, m1, m2, m3⟩ := hm
  obtain ⟨-, tl, h1, h2, h3, h4, h5, h6, hw⟩ := hI
  have b1 := hb.t; have b2 := hb.p; have b3 := hb.l; have b4 := hb.bl; have b5 := hb.bn; have b6 := hb.e; have b7 := hb.bx
  have nD : ∀ k, w.heap.size ≤ k → k < w2.heap.size → ¬ D' k := fun k k1 k2 hk => by rcases hD k hk with h | h <;> omega
  have sz := m3.size
  have e5 : ∀ k, k ≠ bn → k ≠ gl → W5.heap[k]? = w3.heap[k]? := fun k k1 k2 => by
    rw [hW5, Below.heap_setCell _ _ _ _ k2, Below.heap_setCell _ _ _ _ k2, Below.heap_setCell _ _ _ _ k1]
  have s5 : W5.heap.size = w3.heap.size := by rw [hW5]; simp [World.setCell]
  have stay : ∀ k, w.heap.size ≤ k → k < w2.heap.size → k ≠ bn → k ≠ gl → W5.heap[k]? = W.heap[k]? := fun k k1 k2 k3 k4 => (e5 k k3 k4).trans (m3.block k (by omega) (nD k k1 k2))
  obtain ⟨q1, q2, q3⟩ := lfA_snoc (pre.map pcF) (pcF x)
  have cbn : CellsB W bn := cellsB_of (p := ⟨bn, 0, none⟩) h3
  have cgl : CellsB W gl := own_cells h5 _ rfl
  have hD2 : ∀ b, D2 b → (D b ∧ b < w.heap.size) ∨ w2.heap.size ≤ b := fun b hb => by
    rcases m2 b hb with h | h
    · exact hD b h
    · exact .inr (by omega)
  have n2 : ∀ k, w.heap.size ≤ k → k < w2.heap.size → ¬ D2 k := fun k k1 k2 hk => by rcases hD2 k hk with h | h <;> omega
  have hT3 : TrM w3 D2 tb g (lfA (pre.map pcF ++ [pcF x])) (lfF (pre.map pcF ++ [pcF x])) root m many := by
    refine ⟨?_, ?_, fun hd => ?_⟩
    · rw [m3.block tb hT.lt.1 hT.2.2]
      exact hT.1
    · rw [q1, q2]
      rw [List.length_map]
      exact m1
    · rcases m2 tb hd with h | h
      · exact hT.2.2 h
      · have := hT.lt.1; omega
  have hT5 : TrM W5 D2 tb g (lfA (pre.map pcF ++ [pcF x])) (lfF (pre.map pcF ++ [pcF x])) root m many := hT3.keep ⟨by rw [s5]; exact Nat.le_refl _, fun b hb _ => e5 b (fun e => by
      rcases hb with hb | hb
      · exact n2 b (by omega) (by omega) hb
      · omega) (fun e => by
      rcases hb with hb | hb
      · exact n2 b (by omega) (by omega) hb
      · omega)⟩
  have own3 : w3.ownsRow w.heap.size 95 2 (.slice (some ⟨gl, 0, none⟩) p p) p (lvX kh p pre) := own_agree (C := fun b => b = gl) h5 (m3.agree fun b hb hd => nD b (by omega) (by omega) hd) fun k hk => by injection hk with hk; exact hk.symm
  have own4 : (w3.setCell ⟨bn, 0, none⟩ (.int .i64 (pre.length : Int))).ownsRow w.heap.size 95 2 (.slice (some ⟨gl, 0, none⟩) p p) p (lvX kh p pre) := own_agree (C := fun b => b = gl) own3 (agree_set w3 _ _ (by show ¬ (bn = gl); omega)) fun k hk => by injection hk with hk; exact hk.symm
  have own5 : W5.ownsRow w.heap.size 95 2 (.slice (some ⟨gl, 0, none⟩) p p) p (lvX kh p (pre ++ [x])) := by
    rw [hW5, lvX_snoc]
    exact own_set (own_set own4 (x.1 * 2) _) (x.1 * 2 + 1) _
  refine ⟨⟨?_, tl, ?_, ?_, ?_, ?_, own5, ?_, by omega⟩, ⟨by omega, fun k o _ hk ho => ?_⟩, ⟨by omega, fun b hb' hl => ?_⟩⟩
  · rw [List.map_append]
    refine ⟨fun b => D2 b ∧ CellsB W5 b, ⟨hT5.1, hT5.2.1.cells, fun h => hT5.2.2 h.1⟩, fun b h => h.2, fun b h => hD2 b h.1⟩
  · exact (World.cell?_of_block (stay bt (by omega) (by omega) (by omega) (by omega))).trans h1
  · exact (World.cell?_of_block (stay bl (by omega) (by omega) (by omega) (by omega))).trans h2
  · rw [hW5, World.cell?_of_block (a := ⟨bn, 0, none⟩) (Below.heap_setCell _ _ _ _ (by show bn ≠ gl; omega)), World.cell?_of_block (a := ⟨bn, 0, none⟩) (Below.heap_setCell _ _ _ _ (by show bn ≠ gl; omega)), World.cell?_setCell_same' _ _ _ (by
      have : w3.cell? ⟨bn, 0, none⟩ = some (.int .i64 ((pre.length : Int) - 1)) := (World.cell?_of_block (m3.block bn (by omega) (nD bn (by omega) (by omega)))).trans h3
      rw [this]; rfl)]
    rw [List.length_append]
    congr 2
    simp
  · rw [hW5, World.frozen?_setCell, World.frozen?_setCell, World.frozen?_setCell]
    exact (World.frozen?_of_block (m3.block bn (by omega) (nD bn (by omega) (by omega)))).trans h4
  · rw [hW5]
    refine (((h6.trans2 m3 fun i hi => ?_).set _ _ (.inl (by show w.heap.size ≤ bn; omega))).set _ _ (.inl (by show w.heap.size ≤ gl; omega))).set _ _ (.inl (by show w.heap.size ≤ gl; omega))
    rcases hD i hi with h | h
    · exact .inl h.1
    · exact .inr (by omega)
  · have k1 : k ≠ bn := fun e => cellsB_not cbn (e ▸ hk) ho
    have k2 : k ≠ gl := fun e => cellsB_not cgl (e ▸ hk) ho
    rw [e5 k k1 k2, m3.block k (Array.getElem?_eq_some_iff.1 hk).1 (fun hd => cellsB_not (hc k hd) hk ho)]
    exact hk
  · rcases hb' with e | e
    · exact stay b (by omega) (by omega) (by omega) (by omega)
    · exact stay b (by omega) (by omega) (by omega) (by omega)

theorem turn_cell {w w' : World} {D : Nat → Prop} {g : Nat} {L : List (Option Nd)} {F : List Nat} (h : Turn w.drew D g L F w') (q : Addr) (hq : q.block < w.heap.size) (hd : ¬ D q.block) : w'.cell? q = w.cell? q ∧ w'.frozen? q = w.frozen? q := by
  obtain ⟨D', h1, h2, h3⟩ := h
  have := h3.block q.block hq hd
  exact ⟨World.cell?_of_block (w := w) this, World.frozen?_of_block (w := w) this⟩
theorem turn_drew {w w' : World} {D : Nat → Prop} {g : Nat} {L : List (Option Nd)} {F : List Nat} (h : Turn w.drew D g L F w') : Turn w D g L F w'.drew := by
  obtain ⟨D', h1, h2, h3⟩ := h
  exact ⟨D', h1.keep (below_all (Below.refl w'.heap.size w').drew), h2, ⟨h3.os, h3.tape, h3.output, h3.size, h3.block⟩⟩
end Go.Proofs.Ytdkppgmhhijkgaa

namespace Go.Proofs.Ytdkppgmhhijkgaa
open Go.RowKit Go.Shelf
set_option linter.unusedVariables false
set_option maxRecDepth 100000
attribute [local go_sem] Oper.semAt_some

/-- A level in memory: a row of branches. -/
def LvR {d : Nat} (w : World) (A : Option Addr) (n c : Nat) (lv : List (Br d)) : Prop :=
  lv.length = n ∧ n ≤ c ∧ c ≤ maxLen ∧ ∃ b o, A = some ⟨b, o, none⟩ ∧ b < w.heap.size ∧ ∀ j x, lv[j]? = some x → ∃ K kn kc, w.cell? ⟨b, o + j * 2, none⟩ = some (.int .i64 (num d x.2 : Nat)) ∧ w.cell? ⟨b, o + j * 2 + 1, none⟩ = some (.slice K kn kc) ∧ Byt w K kn x.1

theorem lvLf_get : ∀ (Ps : List (List Pr)) (j : Nat), (lvLf Ps)[j]? = Ps[j]?.map fun P => ((gt P 0).1, mkL (Ps.length - 1 - j) P (((Ps.length - 1 - j : Nat) : Int) - 1))
  | [], j => by simp [lvLf]
  | P :: Ps, 0 => by simp [lvLf]
  | P :: Ps, j + 1 => by
    have := lvLf_get Ps j
    rw [lvLf, List.getElem?_cons_succ, this, List.getElem?_cons_succ, List.length_cons]
    rw [show Ps.length + 1 - 1 - (j + 1) = Ps.length - 1 - j by omega]
theorem fin_map {α : Type} (p : Nat) (f : Nat → α) : (List.finRange p).map (fun x => f x.1) = (List.range p).map f := by
  apply List.ext_getElem
  · simp
  · intro i h1 h2
    simp

theorem four_new (w : World) (o1 o2 o3 o4 : Obj) : ((((w.alloc o1).alloc o2).alloc o3).alloc o4).heap[w.heap.size + 1]? = some o2 ∧ ((((w.alloc o1).alloc o2).alloc o3).alloc o4).heap[w.heap.size + 2]? = some o3 ∧ ((((w.alloc o1).alloc o2).alloc o3).alloc o4).heap[w.heap.size + 3]? = some o4 := by
  have s1 : (w.alloc o1).heap.size = w.heap.size + 1 := by simp
  have s2 : ((w.alloc o1).alloc o2).heap.size = w.heap.size + 2 := by simp
  have s3 : (((w.alloc o1).alloc o2).alloc o3).heap.size = w.heap.size + 3 := by simp
  have n2 := heap_alloc_new (w.alloc o1) o2
  have n3 := heap_alloc_new ((w.alloc o1).alloc o2) o3
  have n4 := heap_alloc_new (((w.alloc o1).alloc o2).alloc o3) o4
  rw [s1] at n2
  rw [s2] at n3
  rw [s3] at n4
  refine ⟨?_, ?_, n4⟩
  · rw [Below.heap_alloc _ _ _ (by omega), Below.heap_alloc _ _ _ (by omega)]; exact n2
  · rw [Below.heap_alloc _ _ _ (by omega)]; exact n3
theorem one_cell_of {w : World} {b : Nat} {T : TypeId} {v : Value} (h : w.heap[b]? = some (.cells #[v] T (0, 0))) : w.cell? ⟨b, 0, none⟩ = some v ∧ w.frozen? ⟨b, 0, none⟩ = false := by
  simp [World.cell?, World.frozen?, h]

def LeavesO (w : World) (D E : Nat → Prop) (tb g root m many : Nat) (l : List Pr) (e : Ending) (w' : World) : Prop :=
  ∃ gl D', e = .returned (.slice (some ⟨gl, 0, none⟩) (evn l m).length (evn l m).length) ∧ TrM w' D' tb g (lfA (evn l m).reverse) [] root m many ∧ (∀ b, D' b → D b ∨ w.heap.size ≤ b) ∧ Only D w w' ∧
    On (fun b => E b ∨ (w.heap.size ≤ b ∧ ¬ D' b)) w' (LvR · (some ⟨gl, 0, none⟩) (evn l m).length (evn l m).length (lvLf (evn l m)))

theorem lvs_done {w w2 W : World} {D E : Nat → Prop} {tb g root m many b o n c p bt gp gl bl bn bx : Nat} {l : List Pr} {khF : Nat → Value} (hLB : LvsB w w2 bt gp gl bl bn bx)
    (hI : LvsI w w2 D tb g root m many p bt gl bl bn (fun x => pce l p x.1) khF (dn p p) W) (hl : On E w (Prs · (some ⟨b, o, none⟩) n c l)) (hE : ∀ b, E b → ¬ D b) (hn : 0 < n) (hm : 0 < m) (hpe : p = pcs n m) (hpn : p ≤ n) (hp2 : p ≤ 1000)
    (hkh : khF = fun j => (w.cell? ⟨b, o + ctA n p j * 2, none⟩).getD (.bool false)) : LeavesO w D E tb g root m many l (.returned (.slice (some ⟨gl, 0, none⟩) p p)) W := by
  have hlen := hl.here.len
  have hp : 0 < p := by rw [hpe]; exact pcs_pos hn hm
  have hpl : (evn l m).length = p := by rw [evn_len, hlen, hpe]
  have hmap : (dn p p).map (fun x => pce l p x.1) = (evn l m).reverse := by
    rw [dn_all, List.map_reverse, fin_map p (pce l p)]
    unfold evn
    rw [hlen, ← hpe]
  have hne : (evn l m).reverse ≠ [] := fun e => by
    have := congrArg List.length e
    rw [List.length_reverse, hpl] at this
    simp at this
    omega
  have hF : lfF (evn l m).reverse = [] := by unfold lfF; rw [if_neg hne]
  have b1 := hLB.t; have b2 := hLB.p; have b3 := hLB.l; have b4 := hLB.bl; have b5 := hLB.bn; have b6 := hLB.e
  obtain ⟨D', t1, t2, t3⟩ := hI.tree
  rw [hmap, hF] at t1
  obtain ⟨x1, x2⟩ := lvX_dn khF p p (Nat.le_refl _)
  have hgD : ¬ D' gl := fun h => by rcases t3 gl h with h | h <;> omega
  have hgl : gl < W.heap.size := (hI.row.lt gl rfl).2
  refine ⟨gl, D', by rw [hpl], t1, fun b hb => (t3 b hb).imp (fun h => h.1) (fun h => by omega), hI.only, fun W' ha => ?_⟩
  rw [hpl]
  refine ⟨by rw [lvLf_len, hpl], Nat.le_refl _, by unfold maxLen; omega, gl, 0, rfl, Nat.lt_of_lt_of_le hgl ha.1, fun j x hx => ?_⟩
  have hj : j < p := by
    have := (List.getElem?_eq_some_iff.1 hx).1
    rw [lvLf_len, hpl] at this
    exact this
  have hrow : W'.ownsRow w.heap.size 95 2 (.slice (some ⟨gl, 0, none⟩) p p) p (lvX khF p (dn p p)) := own_agree hI.row ha fun k hk => by
    injection hk with hk
    subst hk
    exact .inr ⟨by show w.heap.size ≤ gl; omega, hgD⟩
  obtain ⟨g1, g2⟩ := x2 j (by omega) hj
  obtain ⟨A1, n1, c1, k0, y0, hbw⟩ := key_pce hl hp hj hpn
  have hkj : khF j = .slice A1 n1 c1 := by rw [hkh]; simp only []; rw [k0]; rfl
  rw [lvLf_get, show (evn l m)[j]? = some (pce l p j) by unfold evn; rw [hlen, ← hpe, List.getElem?_map, List.getElem?_range hj]; rfl, hpl] at hx
  simp only [Option.map_some] at hx
  injection hx with hx
  subst hx
  refine ⟨A1, n1, c1, ?_, ?_, (y0.keep (hI.only.agree hE)) W' (ha.mono fun i hi => .inl hi)⟩
  · rw [Nat.zero_add, hrow.cellAt _ (by omega), g1]
    rfl
  · rw [Nat.zero_add, hrow.cellAt _ (by omega), g2, hkj]

set_option maxHeartbeats 4000000 in
theorem leaves_any {w : World} {D E : Nat → Prop} {tb g root m many b o n c : Nat} {l : List Pr} (hT : TrM w D tb g (lfA []) (lfF []) root m many) (hl : On E w (Prs · (some ⟨b, o, none⟩) n c l)) (hE : ∀ b, E b → ¬ D b)
    (hn : 0 < n) (hn2 : n ≤ 1000) (hs : Small l) (h3 : 3 ≤ m) (h16 : m ≤ 16) :
    Calls Try.prog 49 #[.pointer (some ⟨tb, 0, none⟩), .slice (some ⟨b, o, none⟩) n c] w (LeavesO w D E tb g root m many l) := by
  refine (callsIn_wide (n := 9)).1 ?_
  obtain ⟨c0, c1, c2, c3, -, -⟩ := hT.cells
  have hcc : n ≤ c := hl.here.2.1
  have hcm : c ≤ maxLen := hl.here.2.2.1
  have hp := pcs_pos hn (show 0 < m by omega)
  obtain ⟨p, hpe⟩ : ∃ p, p = pcs n m := ⟨_, rfl⟩
  rw [← hpe] at hp
  have hp2 : p ≤ 1000 := by
    have := pcs_need (n := n) (m := m) hn (by omega)
    rw [← hpe] at this
    have h1 : p * 1 ≤ p * m := Nat.mul_le_mul_left _ (by omega)
    have h2 : p * 3 ≤ p * m := Nat.mul_le_mul_left _ h3
    omega
  obtain ⟨W, hW, hWB, hWc, hWs⟩ : ∃ W, W = w.alloc (.cells #[.pointer (some ⟨tb, 0, none⟩)] 28) ∧ Below w.heap.size w W ∧ W.cell? ⟨w.heap.size, 0, none⟩ = some (.pointer (some ⟨tb, 0, none⟩)) ∧ W.heap.size = w.heap.size + 1 :=
    ⟨_, rfl, (Below.refl _ _).alloc (Nat.le_refl _) _, by simp, by simp⟩
  have c2' : W.cell? ⟨tb, 2, none⟩ = some (.int .i64 m) := (hWB.cell (p := ⟨tb, 2, none⟩) hT.lt.1).trans c2
  have HE := Lib.hid (evenp_any (w := W) (b := b) (o := o) (n := n) (c := c) (m := m) hn (by omega) (by omega) (by omega) hcc hcm)
  rw [← hpe] at HE
  have hpn0 : p ≤ n := by
    have := pcs_need (n := n) (m := m) hn (by omega)
    rw [← hpe] at this
    rcases Nat.lt_or_ge n p with h | h
    · have h1 : (n + 1) * m ≤ p * m := Nat.mul_le_mul_right _ h
      rw [Nat.add_mul, Nat.one_mul] at h1
      have h2 : n * 1 ≤ n * m := Nat.mul_le_mul_left _ (by omega)
      omega
    · exact h
  have HPE := Lib.hid hpe
  clear hpe
  have hWe := Lib.hid hW
  refine callsIn_of_wp_marks Try.func49 rfl trivial ?_ rfl
  simp only [Try.ntmps49, List.size_toArray, List.length_cons, List.length_nil, Nat.reduceAdd, Nat.reduceSub, Array.replicate_succ, Array.replicate_zero, List.push_toArray, List.append_toArray, List.nil_append, List.cons_append]
  rw [hW] at c2'
  clear hW c0 c1 c2 c3
  have hmk := make_brs p (by omega)
  gi_wp2_with (first
    | (refine ⟨trivial, ?_⟩; gi_at_call 67; rw [← hWe.out]; refine (callsIn_wide.2 HE.out).mono ?_; rintro e w1 ⟨gp, rfl, ho, hb⟩; clear HE)
    | (refine ⟨trivial, ?_⟩; gi_at_call 68; refine (back_in Fence.wide _ trivial rfl _ _ _ _).mono ?_; rintro e w2 ⟨rfl, hw2⟩; have HW2 := Lib.hid hw2; clear hw2))
  clear hmk c2'
  obtain ⟨khF, hkh⟩ : ∃ khF : Nat → Value, khF = fun j => (w.cell? ⟨b, o + ctA n p j * 2, none⟩).getD (.bool false) := ⟨_, rfl⟩
  have hpn : p ≤ n := hpn0
  have hlen : l.length = n := hl.here.len
  have hEb : E b := by
    obtain ⟨A1, n1, c1, k0, y0, hbw⟩ := key_pce hl hp (i := 0) hp hpn
    rw [ctA_zero] at k0
    exact block_in (C := E) (w := w) (b := b) (o := o + 0 * 2) fun w' ha => by
      obtain ⟨A2, n2, c2, k2, y2, hbw2⟩ := key_pce (fun v hv => hl v (ha.trans hv)) hp (i := 0) hp hpn
      rw [ctA_zero] at k2
      exact ⟨A2, n2, c2, k2⟩
  have hBW1 : Below w.heap.size w w1 := hWB.trans (hb.mono hWB.size)
  have hs1 := hb.size
  have hgp := ho.lt gp rfl
  have hB12 : Below w1.heap.size w1 w2 := by
    rw [HW2.out]
    exact ((((Below.refl _ w1).alloc (Nat.le_refl _) _).alloc (by simp) _).alloc (by simp; omega) _).alloc (by simp; omega) _
  have hB2 : Below w.heap.size w w2 := hBW1.trans (hB12.mono hBW1.size)
  obtain ⟨z1, z2, z3⟩ := four_new w1 (.cells (madeCells #[.int .i64 0, .slice none 0 0] (p * 2)) 95) (.cells #[.slice (some ⟨w1.heap.size, 0, none⟩) p p] 91) (.cells #[.int .i64 (-1)] 3) (.cells #[.slice (some ⟨gp, 0, none⟩) p p] 114)
  rw [← HW2.out] at z1 z2 z3
  have hrow : w2.ownsRow w.heap.size 95 2 (.slice (some ⟨w1.heap.size, 0, none⟩) p p) p (madeCells #[.int .i64 0, .slice none 0 0] (p * 2)).toList := by
    have h0 := World.ownsRow_lit (base := w.heap.size) (e := 95) (size := 2) w1 (madeCells #[.int .i64 0, .slice none 0 0] (p * 2)) p hBW1.size (by unfold maxLen; omega) (by simp [size_madeCells])
    rw [HW2.out]
    exact ((h0.alloc _).alloc _).alloc _
  have hs2 : w2.heap.size = w1.heap.size + 4 := by rw [HW2.out]; simp
  have hct := (hB12.cell (p := ⟨w.heap.size, 0, none⟩) (by show w.heap.size < w1.heap.size; omega)).trans ((hb.cell (p := ⟨w.heap.size, 0, none⟩) (by show w.heap.size < W.heap.size; omega)).trans hWc)
  have hcp : ∀ j, j < p → w2.cell? ⟨gp, j, none⟩ = some (evV b o n c p j) := fun j hj => by
    have ho2 := own_keep ho hB12
    rw [ho2.cellAt j (by omega), List.getElem?_map, List.getElem?_range hj]
    rfl
  obtain ⟨bx, hbx⟩ : ∃ x, x = w1.heap.size + 1 + 1 + 1 := ⟨_, rfl⟩
  obtain ⟨bn, hbn⟩ : ∃ x, x = w1.heap.size + 1 + 1 := ⟨_, rfl⟩
  obtain ⟨bl, hbl⟩ : ∃ x, x = w1.heap.size + 1 := ⟨_, rfl⟩
  obtain ⟨gl, hgl⟩ : ∃ x, x = w1.heap.size := ⟨_, rfl⟩
  obtain ⟨bt, hbt⟩ : ∃ x, x = w.heap.size := ⟨_, rfl⟩
  rw [← hbx, ← hbn, ← hbl, ← hgl, ← hbt]
  have hLB : LvsB w w2 bt gp gl bl bn bx := ⟨hbt, by omega, by omega, by omega, by omega, by omega, by omega⟩
  rw [show w1.heap.size + 1 = bl by omega, ← hgl] at z1
  rw [show w1.heap.size + 2 = bn by omega] at z2
  rw [show w1.heap.size + 3 = bx by omega] at z3
  rw [← hgl] at hrow
  rw [← hbt] at hct
  have hI0 : LvsI w w2 D tb g root m many p bt gl bl bn (fun x => pce l p x.1) khF [] w2 := by
    refine ⟨⟨fun b => D b ∧ CellsB w2 b, ?_, fun b h => h.2, fun b h => .inl ⟨h.1, hT.lt.2 b h.1⟩⟩, hT.lt.1, hct, (one_cell_of z1).1, (one_cell_of z2).1, (one_cell_of z2).2, ?_, below_only hB2, Nat.le_refl _⟩
    · have hT2 := hT.below hB2
      exact ⟨hT2.1, hT2.2.1.cells, fun h => hT2.2.2 h.1⟩
    · simpa [lvX] using hrow
  have hcx := (one_cell_of z3).1
  have HI0 := Lib.hid hI0
  have HCP := Lib.hid (And.intro hcx hcp)
  clear hI0 hcx hcp hct hrow z1 z2 z3 hb ho hWc hWe HW2 hB12 hBW1 hWB hWs hgp hs1 hs2 hbx hbn hbl hgl hbt
  refine wpIn_rangeFunc_ownG rfl (by omega) (gf := 79) (lb := #[.pointer (some ⟨bx, 0, none⟩)]) rfl trivial (enters_of Try.func79 (by kernel_rfl) rfl)
    (back_stops Fence.wide _ trivial rfl (by omega) bx gp p p (fun j => some ⟨b, o + ctA n p j * 2, none⟩) (fun j => ctA n p (j + 1) - ctA n p j) (fun j => c - ctA n p j) (by omega) w2 HCP.out.1 HCP.out.2) (fun h k => Agree.trans h k)
    (fun W k ob ob' hk hl _ _ => ⟨by simp [World.putObj], fun q hq _ => World.putObj_heap_other (by have := hLB.p; have := hLB.l; have := hLB.bx; have := hLB.e; omega)⟩) (Below.refl _ _) (fun _ => rfl)
    (LvsI w w2 D tb g root m many p bt gl bl bn (fun x => pce l p x.1) khF) (fun _ _ _ => False) (lvsI_own hLB) (fun _ _ _ _ _ hs _ _ => hs) HI0.out
    (fun x => { tmps := #[.pointer (some ⟨tb, 0, none⟩), .slice (some ⟨b, o, none⟩) n c, .pointer (some ⟨bt, 0, none⟩), undef, .slice none 0 0, .slice (some ⟨gp, 0, none⟩) p p, .pointer (some ⟨bl, 0, none⟩), .pointer (some ⟨bn, 0, none⟩), .int .i64 (x.1 : Int), .slice (some ⟨b, o + ctA n p x.1 * 2, none⟩) (ctA n p (x.1 + 1) - ctA n p x.1) (c - ctA n p x.1),
      .slice (some ⟨b, o, none⟩) n c, .pointer (some ⟨tb, 0, none⟩), .pointer (some ⟨tb, 0, none⟩), .pointer (some ⟨tb, 2, none⟩), .int .i64 m, .slice (some ⟨gp, 0, none⟩) p p, .slice (some ⟨gp, 0, none⟩) p p, .int .i64 p, .slice (some ⟨gl, 0, none⟩) p p, .slice (some ⟨gp, 0, none⟩) p p, .func (.func 79) #[] #[.pointer (some ⟨bx, 0, none⟩)],
      .int .i64 (x.1 : Int), .slice (some ⟨b, o + ctA n p x.1 * 2, none⟩) (ctA n p (x.1 + 1) - ctA n p x.1) (c - ctA n p x.1), undef, undef, undef, undef, undef, undef, undef, undef, undef, undef, undef, undef, undef, undef, undef, undef, undef, undef], defers := [] }) ?assign ?body ?done ?stop
  case assign =>
    intro l x W K hK
    gi_wp2
    exact hK
  case body =>
    rintro l' pre x W hI hlen
    obtain ⟨D', t1, t2, t3⟩ := hI.tree
    obtain ⟨c0, -, -, -, -, -⟩ := t1.cells
    have ct := hI.ct
    have cl := hI.cl
    have cn := hI.cn
    have fz := hI.fz
    obtain ⟨A1, n1, c1, k0, y0, hbw⟩ := key_pce hl hp x.2 hpn
    have hx2 := x.2
    have b1 := hLB.t
    have b2 := hLB.p
    have b3 := hLB.l
    have b4 := hLB.bl
    have b5 := hLB.bn
    have b6 := hLB.e
    have hWsz := hI.sz
    have hbD : ¬ D' b := fun h => by
      rcases t3 b h with h | h
      · exact hE b hEb h.1
      · omega
    have k0W : W.cell? ⟨b, o + ctA n p x.1 * 2, none⟩ = some (.slice A1 n1 c1) := (World.cell?_of_block (hI.only.block b hbw (hE b hEb))).trans k0
    have hkx : khF x.1 = .slice A1 n1 c1 := by rw [hkh]; simp only []; rw [k0]; rfl
    obtain ⟨xo, hxo⟩ : ∃ xo, xo = o + ctA n p x.1 * 2 := ⟨_, rfl⟩
    obtain ⟨xm, hxm⟩ : ∃ xm, xm = ctA n p (x.1 + 1) - ctA n p x.1 := ⟨_, rfl⟩
    obtain ⟨xc, hxc⟩ : ∃ xc, xc = c - ctA n p x.1 := ⟨_, rfl⟩
    have hxm0 : 0 < xm := by
      have := ctA_least (n := n) (p := p) (q := 1) (i := x.1) hp (by omega)
      omega
    have hpp := prs_pce (fun v hv => hl v hv) hp x.2 hpn
    rw [← hxo, ← hxm, ← hxc] at hpp
    rw [← hxo] at k0W
    have hpl : (pce l p x.1).length ≤ 1000 := by
      have := hpp.here.len
      have := ctA_le (n := n) hp (show x.1 + 1 ≤ p by omega)
      omega
    have hnd : On (fun b => ¬ D' b) W.drew (NdR · ⟨some ⟨b, xo, none⟩, xm, xc, none, 0, 0, none, 0, 0⟩ (lfN pre.length (pce l p x.1))) := by
      have h1 : On (fun b => ¬ D' b) W (Prs · (some ⟨b, xo, none⟩) xm xc (pce l p x.1)) := (hpp.now.keep (hI.only.agree fun b hb => hE b hb.1)).mono fun q hq hd => by
        rcases t3 q hd with h | h
        · exact hE q hq.1 h.1
        · have := hB2.size; omega
      have h2 : On (fun b => ¬ D' b) W (NdR · ⟨some ⟨b, xo, none⟩, xm, xc, none, 0, 0, none, 0, 0⟩ (lfN pre.length (pce l p x.1))) := fun v hv => ⟨h1 v hv, kys_nil v, ins_nil v⟩
      exact h2.keep (below_all (Below.refl W.heap.size W).drew)
    have hsn : SmallN (lfN pre.length (pce l p x.1)) := ⟨hpl, small_pce hs p x.1, by simp [lfN], by simp [lfN], by simp [lfN]⟩
    have hlA := lfA_len (pre.map fun x => pce l p x.1)
    rw [List.length_map] at hlA
    have hlF : (lfF (pre.map fun x : Fin p => pce l p x.1)).length ≤ 1 := by unfold lfF; split <;> simp
    have HM := Lib.hid (make_nxt (w := W.drew) (D := D') (t1.2.1.keep (below_all (Below.refl W.heap.size W).drew)) (by omega) (by omega) hnd hsn (kx := pre.length) (by rw [(lfA_snoc (pre.map fun x => pce l p x.1) []).2.2, List.length_map]))
    obtain ⟨u0, hu0⟩ : ∃ u, (lvX khF p pre)[x.1 * 2]? = some u := ⟨_, List.getElem?_eq_getElem (by rw [hI.row.1]; omega)⟩
    obtain ⟨u1, hu1⟩ : ∃ u, (lvX khF p pre)[x.1 * 2 + 1]? = some u := ⟨_, List.getElem?_eq_getElem (by rw [hI.row.1]; omega)⟩
    have r0 : W.cell? ⟨gl, x.1 * 2, none⟩ = some u0 := (hI.row.cellAt _ (by omega)).trans hu0
    have r1 : W.cell? ⟨gl, x.1 * 2 + 1, none⟩ = some u1 := (hI.row.cellAt _ (by omega)).trans hu1
    have rf := fun j => hI.row.frozenAt j
    have nD : ∀ k, w.heap.size ≤ k → k < w2.heap.size → ¬ D' k := fun k k1 k2 hk => by rcases t3 k hk with h | h <;> omega
    have hbw2 : b < W.heap.size := by have := hB2.size; omega
    obtain ⟨xi, hxi⟩ : ∃ xi, xi = x.1 := ⟨_, rfl⟩
    rw [← hxi] at r0 r1
    have HI := Lib.hid hI
    have HT1 := Lib.hid (And.intro t1 (And.intro t2 t3))
    have HR := Lib.hid (And.intro r0 (And.intro r1 (And.intro k0W (And.intro cl (And.intro cn fz)))))
    have HRF := Lib.hid rf
    have HND := Lib.hid nD
    have HKX := Lib.hid hkx
    have y1 : ¬ (bn = gl) := by omega
    have y2 : ¬ (gl = bn) := by omega
    have y3 : ¬ (bl = bn) := by omega
    have y4 : ¬ (bn = bl) := by omega
    have y5 : ¬ (b = bn) := by omega
    have y6 : ¬ (bn = b) := by omega
    have hxp : (x.1 : Int) < (p : Int) := by omega
    have hbs1 : w.heap.size ≤ bn := by omega
    have hbs2 : bn < w2.heap.size := by omega
    have hgs1 : w.heap.size ≤ gl := by omega
    have hgs2 : gl < w2.heap.size := by omega
    have hls1 : w.heap.size ≤ bl := by omega
    have hls2 : bl < w2.heap.size := by omega
    have HBD := Lib.hid hbD
    have y11 : ¬ (bl = gl) := by omega
    have y12 : ¬ (gl = bl) := by omega
    have y13 : ¬ (b = gl) := by omega
    have y14 : ¬ (gl = b) := by omega
    have hbt0 : w.heap.size ≤ bt := by omega
    have hbt1 : bt < w2.heap.size := by omega
    have hbt2 : bt < W.heap.size := by omega
    have y7 : ¬ (bt = bn) := by omega
    have y8 : ¬ (bn = bt) := by omega
    have y9 : ¬ (tb = bn) := by have := HI.out.tl; omega
    have y10 : ¬ (bn = tb) := by have := HI.out.tl; omega
    rw [← hxi] at hxp
    rw [← hxo, ← hxm, ← hxc, ← hxi]
    have HXO := Lib.hid (And.intro hxo (And.intro hxm (And.intro hxc hxi)))
    clear hI t1 t2 t3 hu0 hu1 r0 r1 rf nD k0W k0 y0 hkx hpp hnd hsn hlA hlF hpl hlen hbD hkh b1 b2 b3 b4 b5 b6 hxo hxm hxc hxi
    have hmx : Try.prog.follows .mixedOrders = true := by kernel_rfl
    gi_wp2
    refine region_round (S := fun w' => w'.cell? ⟨bt, 0, none⟩ = some (.pointer (some ⟨tb, 0, none⟩)) ∧ w'.cell? ⟨tb, 0, none⟩ = some (.pointer (some ⟨g, 0, none⟩))) hmx (by kernel_rfl) (by rintro ⟨a, w, h⟩; exact h) ⟨ct, c0⟩ (fun hHeld => ?_)
    refine wpAnyH_take (i := 0) (v := .pointer (some ⟨tb, 0, none⟩)) rfl (by kernel_rfl) (by kernel_rfl) (by kernel_rfl) (fun _ _ _ h => h) (Or.inl ⟨by rfl, fun w' hSw => ?_⟩) hHeld ?_
    · (try dsimp only at hSw)
      go_simp
    simp only [Act.put, List.getElem_toArray, List.getElem_cons_zero, List.setIfInBounds_toArray, List.set_cons_zero, List.set_cons_succ]
    refine wpAnyH_take (i := 1) (v := .pointer (some ⟨tb, 0, none⟩)) rfl (by kernel_rfl) (by kernel_rfl) (by kernel_rfl) (fun _ _ _ h => h) (Or.inl ⟨by rfl, fun w' hSw => ?_⟩) hHeld ?_
    · (try dsimp only at hSw)
      go_simp
    simp only [Act.put, List.getElem_toArray, List.getElem_cons_zero, List.getElem_cons_succ, List.setIfInBounds_toArray, List.set_cons_zero, List.set_cons_succ]
    refine wpAnyH_take (i := 2) (v := .pointer (some ⟨tb, 0, none⟩)) rfl (by kernel_rfl) (by kernel_rfl) (by kernel_rfl) (fun _ _ _ h => h) (Or.inl ⟨by rfl, fun w' hSw => ?_⟩) hHeld ?_
    · (try dsimp only at hSw)
      go_simp
    simp only [Act.put, List.getElem_toArray, List.getElem_cons_zero, List.getElem_cons_succ, List.setIfInBounds_toArray, List.set_cons_zero, List.set_cons_succ]
    refine wpAnyH_take (i := 3) (v := .pointer (some ⟨g, 0, none⟩)) rfl (by kernel_rfl) (by kernel_rfl) (by kernel_rfl) (fun _ _ _ h => h) (Or.inl ⟨by rfl, fun w' hSw => ?_⟩) hHeld ?_
    · (try dsimp only at hSw)
      go_simp
    simp only [Act.put, List.getElem_toArray, List.getElem_cons_zero, List.getElem_cons_succ, List.setIfInBounds_toArray, List.set_cons_zero, List.set_cons_succ]
    refine wpAnyH_take (i := 4) (v := .slice (some ⟨b, xo, none⟩) xm xc) rfl (by kernel_rfl) (by kernel_rfl) (by kernel_rfl) (fun _ _ _ h => h) (Or.inl ⟨by rfl, fun w' hSw => ?_⟩) hHeld ?_
    · (try dsimp only at hSw)
      go_simp
    simp only [Act.put, List.getElem_toArray, List.getElem_cons_zero, List.getElem_cons_succ, List.setIfInBounds_toArray, List.set_cons_zero, List.set_cons_succ]
    refine wpAnyH_ready (rs := [5]) (by kernel_rfl) (by simp) ?_
    refine AllReadyH.cons rfl (fun K hK => ?_) AllReadyH.nil
    go_simp
    refine hK.out _ _ hHeld (fun hHeld => ?_)
    clear hK K
    try simp only [Act.put, List.getElem_toArray, List.getElem_cons_zero, List.getElem_cons_succ, List.setIfInBounds_toArray, List.set_cons_zero, List.set_cons_succ]
    refine wpAnyH_take (i := 6) (v := .agg #[.bool true, .slice (some ⟨b, xo, none⟩) xm xc, .slice none 0 0, .slice none 0 0, .int .i64 ((pre.length : Int) - 1)]) rfl (by kernel_rfl) (by kernel_rfl) (by kernel_rfl) (fun _ _ _ h => h) (Or.inl ⟨by rfl, fun w' hSw => ?_⟩) hHeld ?_
    · (try dsimp only at hSw)
      go_simp
    simp only [Act.put, List.getElem_toArray, List.getElem_cons_zero, List.getElem_cons_succ, List.setIfInBounds_toArray, List.set_cons_zero, List.set_cons_succ]
    refine wpAnyH_ready (rs := [7]) (by kernel_rfl) (by simp) ?_
    refine AllReadyH.cons rfl (fun K hK => ?_) AllReadyH.nil
    go_simp
    go_at_call 45
    refine HM.out.mono ?_
    rintro e w3 ⟨rfl, hm⟩
    have cn3 := (turn_cell hm ⟨bn, 0, none⟩ (Nat.lt_of_lt_of_le hbs2 hWsz) (HND.out bn hbs1 hbs2)).1.trans HR.out.2.2.2.2.1
    have fn3 := (turn_cell hm ⟨bn, 0, none⟩ (Nat.lt_of_lt_of_le hbs2 hWsz) (HND.out bn hbs1 hbs2)).2.trans HR.out.2.2.2.2.2
    have cl3 := (turn_cell hm ⟨bl, 0, none⟩ (Nat.lt_of_lt_of_le hls2 hWsz) (HND.out bl hls1 hls2)).1.trans HR.out.2.2.2.1
    have k3 := (turn_cell hm ⟨b, xo, none⟩ hbw2 HBD.out).1.trans HR.out.2.2.1
    have r03 := (turn_cell hm ⟨gl, xi * 2, none⟩ (Nat.lt_of_lt_of_le hgs2 hWsz) (HND.out gl hgs1 hgs2)).1.trans HR.out.1
    have r13 := (turn_cell hm ⟨gl, xi * 2 + 1, none⟩ (Nat.lt_of_lt_of_le hgs2 hWsz) (HND.out gl hgs1 hgs2)).1.trans HR.out.2.1
    have f03 := (turn_cell hm ⟨gl, xi * 2, none⟩ (Nat.lt_of_lt_of_le hgs2 hWsz) (HND.out gl hgs1 hgs2)).2.trans (HRF.out _)
    have f13 := (turn_cell hm ⟨gl, xi * 2 + 1, none⟩ (Nat.lt_of_lt_of_le hgs2 hWsz) (HND.out gl hgs1 hgs2)).2.trans (HRF.out _)
    have ct3 := (turn_cell hm ⟨bt, 0, none⟩ hbt2 (HND.out bt hbt0 hbt1)).1.trans ct
    have c03 := (turn_cell hm ⟨tb, 0, none⟩ HT1.out.1.lt.1 HT1.out.1.2.2).1.trans c0
    have HMM := Lib.hid hm
    clear hm hHeld ct c0
    refine hK.out _ _ ⟨ct3, c03⟩ (fun hHeld => ?_)
    clear hK K
    try simp only [Act.put, List.getElem_toArray, List.getElem_cons_zero, List.getElem_cons_succ, List.setIfInBounds_toArray, List.set_cons_zero, List.set_cons_succ]
    refine wpAnyH_ready (rs := [8]) (by kernel_rfl) (by simp) ?_
    refine AllReadyH.cons rfl (fun K hK => ?_) AllReadyH.nil
    go_simp
    refine hK.out _ _ ⟨by go_keep, by go_keep⟩ (fun hHeld => ?_)
    clear hK K
    try simp only [Act.put, List.getElem_toArray, List.getElem_cons_zero, List.getElem_cons_succ, List.setIfInBounds_toArray, List.set_cons_zero, List.set_cons_succ]
    refine wpAnyH_done (by kernel_rfl) ?_ _
    gi_wp2
    clear hHeld ct3 c03 cl cn fz
    have cn4 : (w3.setCell ⟨bn, 0, none⟩ (.int .i64 (pre.length : Int))).cell? ⟨bn, 0, none⟩ = some (.int .i64 (pre.length : Int)) := World.cell?_setCell_same' _ _ _ (by rw [cn3]; rfl)
    have cn5 : (w3.setCell ⟨bn, 0, none⟩ (.int .i64 (pre.length : Int))).drew.cell? ⟨bn, 0, none⟩ = some (.int .i64 (pre.length : Int)) := cn4
    refine region_round (S := fun w' => w'.cell? ⟨bl, 0, none⟩ = some (.slice (some ⟨gl, 0, none⟩) p p) ∧ w'.cell? ⟨bn, 0, none⟩ = some (.int .i64 (pre.length : Int)) ∧ w'.cell? ⟨b, xo, none⟩ = some (.slice A1 n1 c1)) hmx (by kernel_rfl) (by rintro ⟨a, w, h⟩; exact h) ⟨by go_keep, cn5, by go_keep⟩ (fun hHeld => ?_)
    refine wpAnyH_take (i := 0) (v := .slice (some ⟨gl, 0, none⟩) p p) rfl (by kernel_rfl) (by kernel_rfl) (by kernel_rfl) (fun _ _ _ h => h) (Or.inl ⟨by rfl, fun w' hSw => ?_⟩) hHeld ?_
    · (try dsimp only at hSw)
      go_simp
    simp only [Act.put, List.getElem_toArray, List.getElem_cons_zero, List.setIfInBounds_toArray, List.set_cons_zero, List.set_cons_succ]
    refine wpAnyH_take (i := 1) (v := .int .i64 (xi : Int)) rfl (by kernel_rfl) (by kernel_rfl) (by kernel_rfl) (fun _ _ _ h => h) (Or.inl ⟨by rfl, fun w' hSw => ?_⟩) hHeld ?_
    · (try dsimp only at hSw)
      go_simp
    simp only [Act.put, List.getElem_toArray, List.getElem_cons_zero, List.getElem_cons_succ, List.setIfInBounds_toArray, List.set_cons_zero, List.set_cons_succ]
    refine wpAnyH_take (i := 2) (v := .int .i64 (pre.length : Int)) rfl (by kernel_rfl) (by kernel_rfl) (by kernel_rfl) (fun _ _ _ h => h) (Or.inl ⟨by rfl, fun w' hSw => ?_⟩) hHeld ?_
    · (try dsimp only at hSw)
      go_simp
    simp only [Act.put, List.getElem_toArray, List.getElem_cons_zero, List.getElem_cons_succ, List.setIfInBounds_toArray, List.set_cons_zero, List.set_cons_succ]
    refine wpAnyH_take (i := 3) (v := .slice (some ⟨b, xo, none⟩) xm xc) rfl (by kernel_rfl) (by kernel_rfl) (by kernel_rfl) (fun _ _ _ h => h) (Or.inl ⟨by rfl, fun w' hSw => ?_⟩) hHeld ?_
    · (try dsimp only at hSw)
      go_simp
    simp only [Act.put, List.getElem_toArray, List.getElem_cons_zero, List.getElem_cons_succ, List.setIfInBounds_toArray, List.set_cons_zero, List.set_cons_succ]
    refine wpAnyH_take (i := 4) (v := .pointer (some ⟨b, xo, none⟩)) rfl (by kernel_rfl) (by kernel_rfl) (by kernel_rfl) (fun _ _ _ h => h) (Or.inl ⟨by rfl, fun w' hSw => ?_⟩) hHeld ?_
    · (try dsimp only at hSw)
      go_simp
    simp only [Act.put, List.getElem_toArray, List.getElem_cons_zero, List.getElem_cons_succ, List.setIfInBounds_toArray, List.set_cons_zero, List.set_cons_succ]
    refine wpAnyH_take (i := 5) (v := .pointer (some ⟨b, xo, none⟩)) rfl (by kernel_rfl) (by kernel_rfl) (by kernel_rfl) (fun _ _ _ h => h) (Or.inl ⟨by rfl, fun w' hSw => ?_⟩) hHeld ?_
    · (try dsimp only at hSw)
      go_simp
    simp only [Act.put, List.getElem_toArray, List.getElem_cons_zero, List.getElem_cons_succ, List.setIfInBounds_toArray, List.set_cons_zero, List.set_cons_succ]
    refine wpAnyH_take (i := 6) (v := .slice A1 n1 c1) rfl (by kernel_rfl) (by kernel_rfl) (by kernel_rfl) (fun _ _ _ h => h) (Or.inl ⟨by rfl, fun w' hSw => ?_⟩) hHeld ?_
    · (try dsimp only at hSw)
      go_simp
    simp only [Act.put, List.getElem_toArray, List.getElem_cons_zero, List.getElem_cons_succ, List.setIfInBounds_toArray, List.set_cons_zero, List.set_cons_succ]
    refine wpAnyH_take (i := 7) (v := .agg #[.int .i64 (pre.length : Int), .slice A1 n1 c1]) rfl (by kernel_rfl) (by kernel_rfl) (by kernel_rfl) (fun _ _ _ h => h) (Or.inl ⟨by rfl, fun w' hSw => ?_⟩) hHeld ?_
    · (try dsimp only at hSw)
      go_simp
    simp only [Act.put, List.getElem_toArray, List.getElem_cons_zero, List.getElem_cons_succ, List.setIfInBounds_toArray, List.set_cons_zero, List.set_cons_succ]
    refine wpAnyH_take (i := 8) (v := .pointer (some ⟨gl, xi * 2, none⟩)) rfl (by kernel_rfl) (by kernel_rfl) (by kernel_rfl) (fun _ _ _ h => h) (Or.inl ⟨by rfl, fun w' hSw => ?_⟩) hHeld ?_
    · (try dsimp only at hSw)
      go_simp
    simp only [Act.put, List.getElem_toArray, List.getElem_cons_zero, List.getElem_cons_succ, List.setIfInBounds_toArray, List.set_cons_zero, List.set_cons_succ]
    refine wpAnyH_ready (rs := [9]) (by kernel_rfl) (by simp) ?_
    refine AllReadyH.cons rfl (fun K hK => ?_) AllReadyH.nil
    go_simp
    refine hK.out _ _ ⟨by go_keep, by go_keep, by go_keep⟩ (fun hHeld => ?_)
    clear hK K
    try simp only [Act.put, List.getElem_toArray, List.getElem_cons_zero, List.getElem_cons_succ, List.setIfInBounds_toArray, List.set_cons_zero, List.set_cons_succ]
    refine wpAnyH_done (by kernel_rfl) ?_ _
    have hfin := lvs_round (W5 := ((w3.drew.setCell ⟨bn, 0, none⟩ (.int .i64 (pre.length : Int))).setCell ⟨gl, xi * 2, none⟩ (.int .i64 (pre.length : Int))).setCell ⟨gl, xi * 2 + 1, none⟩ (.slice A1 n1 c1)) hLB HI.out HT1.out.1 HT1.out.2.1 HT1.out.2.2 x (turn_drew HMM.out) (by rw [HKX.out, HXO.out.2.2.2]) w2.heap.size
    gi_wp2
    exact ⟨hfin.2.1, hfin.2.2, hfin.1⟩
  case done =>
    rintro D3 xs W hD3 rfl hI hK
    have cl := hI.cl
    have hfin := lvs_done hLB ((lvsI_own hLB).putObj (.deferred none) hI hD3 hK rfl) hl hE hn (by omega) HPE.out hpn hp2 hkh
    clear hI
    gi_wp2
    refine ⟨by simp, .inl ⟨_, _, rfl, run_takeDeferred hK, ?_⟩⟩
    refine ⟨_, results_tmp rfl _ _ _, ?_⟩
    exact hfin
  case stop =>
    rintro D' c' pre W _ _ h _
    exact h.elim
end Go.Proofs.Ytdkppgmhhijkgaa

namespace Go.Proofs.Ytdkppgmhhijkgaa
open Go.RowKit
set_option linter.unusedVariables false
set_option maxRecDepth 100000

/-- A node at block nb: j keys and i kids so far, each a row of one's own. -/
structure NodeB (w : World) (N nb j i : Nat) (kv iv : List Value) (AK : Option Addr) (cK gI cI : Nat) : Prop where
  obj : w.heap[nb]? = some (.cells #[.bool false, .slice none 0 0, .slice AK j cK, .slice (some ⟨gI, 0, none⟩) i cI, .int .i64 0] 72 (0, 0))
  keys : w.ownsRow N 25 1 (.slice AK j cK) j kv
  kids : w.ownsRow N 3 1 (.slice (some ⟨gI, 0, none⟩) i cI) i iv
  ge : N ≤ nb
  ni : gI ≠ nb
  nk : ∀ a, AK = some a → a.block ≠ nb ∧ a.block ≠ gI
theorem NodeB.lt {w : World} {N nb j i cK gI cI : Nat} {kv iv : List Value} {AK : Option Addr} (h : NodeB w N nb j i kv iv AK cK gI cI) : nb < w.heap.size ∧ gI < w.heap.size ∧ N ≤ gI ∧ ∀ a, AK = some a → N ≤ a.block ∧ a.block < w.heap.size :=
  ⟨(Array.getElem?_eq_some_iff.1 h.obj).1, (h.kids.lt gI rfl).2, (h.kids.lt gI rfl).1, fun a e => h.keys.lt a.block (by rw [e]; rfl)⟩
theorem NodeB.below {w w' : World} {N nb j i cK gI cI : Nat} {kv iv : List Value} {AK : Option Addr} (h : NodeB w N nb j i kv iv AK cK gI cI) (hb : Below w.heap.size w w') : NodeB w' N nb j i kv iv AK cK gI cI :=
  ⟨(hb.block nb h.lt.1).trans h.obj, own_keep h.keys hb, own_keep h.kids hb, h.ge, h.ni, h.nk⟩

theorem set_five2 {w : World} {b : Nat} {T : TypeId} {a0 a1 a2 a3 a4 : Value} (u : Value) (h : w.heap[b]? = some (.cells #[a0, a1, a2, a3, a4] T (0, 0))) : (w.setCell ⟨b, 2, none⟩ u).heap[b]? = some (.cells #[a0, a1, u, a3, a4] T (0, 0)) := by
  simp [World.setCell, Array.getElem?_modify, h]
theorem set_five3 {w : World} {b : Nat} {T : TypeId} {a0 a1 a2 a3 a4 : Value} (u : Value) (h : w.heap[b]? = some (.cells #[a0, a1, a2, a3, a4] T (0, 0))) : (w.setCell ⟨b, 3, none⟩ u).heap[b]? = some (.cells #[a0, a1, a2, u, a4] T (0, 0)) := by
  simp [World.setCell, Array.getElem?_modify, h]

theorem NodeB.key {w w2 w3 : World} {N nb j i cK gI cI g cap : Nat} {kv iv : List Value} {AK : Option Addr} {x : Value} (h : NodeB w N nb j i kv iv AK cK gI cI) (hN : N ≤ w.heap.size) (hb : Below w.heap.size w w2)
    (hown : w3.ownsRow N 25 1 (.slice (some ⟨g, 0, none⟩) (j + 1) cap) (j + 1) (kv ++ [x])) (hg : w2.grownBy w3 (Value.slice AK j cK).ownBlock) (hat : (Value.slice AK j cK).ownBlock = some g ∨ g = w2.heap.size) :
    NodeB (w3.setCell ⟨nb, 2, none⟩ (.slice (some ⟨g, 0, none⟩) (j + 1) cap)) N nb (j + 1) i (kv ++ [x]) iv (some ⟨g, 0, none⟩) cap gI cI ∧ Below N w (w3.setCell ⟨nb, 2, none⟩ (.slice (some ⟨g, 0, none⟩) (j + 1) cap)) := by
  obtain ⟨l1, l2, l3, l4⟩ := h.lt
  have hs := hb.size
  have ob : ∀ k, (Value.slice AK j cK).ownBlock = some k → k ≠ nb ∧ k ≠ gI ∧ N ≤ k := fun k hk => by
    obtain ⟨a, e, rfl⟩ := own_block hk
    exact ⟨(h.nk a e).1, (h.nk a e).2, (l4 a e).1⟩
  have hgn : g ≠ nb ∧ g ≠ gI := by
    rcases hat with e | e
    · exact ⟨(ob g e).1, (ob g e).2.1⟩
    · omega
  have far : ∀ k, k < w.heap.size → (∀ c, (Value.slice AK j cK).ownBlock = some c → k ≠ c) → w3.heap[k]? = w.heap[k]? := fun k h1 h2 => (hg.block k (by omega) (fun e => h2 k e.symm rfl)).trans (hb.block k h1)
  refine ⟨⟨set_five2 _ ((far nb l1 fun c hc e => (ob c hc).1 e.symm).trans h.obj), own_agree (C := fun b => b = g) hown (agree_set w3 _ _ fun e => hgn.1 e.symm) (fun k hk => by injection hk with hk; exact hk.symm), ?_, h.ge, h.ni, fun a e => ?_⟩, ?_⟩
  · have h1 : w3.ownsRow N 3 1 (.slice (some ⟨gI, 0, none⟩) i cI) i iv := own_agree (C := fun b => b = gI) h.kids ⟨Nat.le_trans hs hg.size, fun k hk hl => far k hl fun c hc e => (ob c hc).2.1 (by omega)⟩ (fun k hk => by injection hk with hk; exact hk.symm)
    exact own_agree (C := fun b => b = gI) h1 (agree_set w3 _ _ fun e => h.ni e.symm) (fun k hk => by injection hk with hk; exact hk.symm)
  · injection e with e
    subst e
    exact hgn
  · exact ((hb.mono hN).grown hg (by omega) fun k hk => (ob k hk).2.2).setCell h.ge _

theorem NodeB.kid {w w2 w3 : World} {N nb j i cK gI cI g cap : Nat} {kv iv : List Value} {AK : Option Addr} {x : Value} (h : NodeB w N nb j i kv iv AK cK gI cI) (hN : N ≤ w.heap.size) (hb : Below w.heap.size w w2)
    (hown : w3.ownsRow N 3 1 (.slice (some ⟨g, 0, none⟩) (i + 1) cap) (i + 1) (iv ++ [x])) (hg : w2.grownBy w3 (Value.slice (some ⟨gI, 0, none⟩) i cI).ownBlock) (hat : (Value.slice (some ⟨gI, 0, none⟩) i cI).ownBlock = some g ∨ g = w2.heap.size) :
    NodeB (w3.setCell ⟨nb, 3, none⟩ (.slice (some ⟨g, 0, none⟩) (i + 1) cap)) N nb j (i + 1) kv (iv ++ [x]) AK cK g cap ∧ Below N w (w3.setCell ⟨nb, 3, none⟩ (.slice (some ⟨g, 0, none⟩) (i + 1) cap)) := by
  obtain ⟨l1, l2, l3, l4⟩ := h.lt
  have hs := hb.size
  have ob : ∀ k, (Value.slice (some ⟨gI, 0, none⟩) i cI).ownBlock = some k → k = gI := fun k hk => by injection hk with hk; exact hk.symm
  have hgn : g ≠ nb ∧ ∀ a, AK = some a → a.block ≠ g := by
    rcases hat with e | e
    · have := ob g e
      subst this
      exact ⟨h.ni, fun a e => (h.nk a e).2⟩
    · exact ⟨by omega, fun a ea => by have := (l4 a ea).2; omega⟩
  have far : ∀ k, k < w.heap.size → k ≠ gI → w3.heap[k]? = w.heap[k]? := fun k h1 h2 => (hg.block k (by omega) (fun e => h2 (ob k e.symm))).trans (hb.block k h1)
  refine ⟨⟨set_five3 _ ((far nb l1 fun e => h.ni e.symm).trans h.obj), ?_, own_agree (C := fun b => b = g) hown (agree_set w3 _ _ fun e => hgn.1 e.symm) (fun k hk => by injection hk with hk; exact hk.symm), h.ge, hgn.1, fun a e => ⟨(h.nk a e).1, hgn.2 a e⟩⟩, ?_⟩
  · have h1 : w3.ownsRow N 25 1 (.slice AK j cK) j kv := own_agree (C := fun b => ∃ a : Addr, AK = some a ∧ a.block = b) h.keys ⟨Nat.le_trans hs hg.size, fun k hk hl => far k hl fun e => by
      obtain ⟨a, e1, e2⟩ := hk
      exact (h.nk a e1).2 (by omega)⟩ (fun k hk => own_block hk)
    exact own_agree (C := fun b => ∃ a : Addr, AK = some a ∧ a.block = b) h1 (agree_set w3 _ _ fun e => by
      obtain ⟨a, e1, e2⟩ := e
      exact (h.nk a e1).1 e2) (fun k hk => own_block hk)
  · exact ((hb.mono hN).grown hg (by omega) fun k hk => by rw [ob k hk]; exact l3).setCell h.ge _

theorem NodeB.farK {w w2 w3 : World} {N nb j i cK gI cI : Nat} {kv iv : List Value} {AK : Option Addr} (h : NodeB w N nb j i kv iv AK cK gI cI) (hb : Below w.heap.size w w2) (hg : w2.grownBy w3 (Value.slice AK j cK).ownBlock) : w3.heap[nb]? = w.heap[nb]? :=
  (hg.block nb (by have := h.lt.1; have := hb.size; omega) (fun e => by
    obtain ⟨a, e1, e2⟩ := own_block e.symm
    exact (h.nk a e1).1 e2)).trans (hb.block nb h.lt.1)
theorem NodeB.farI {w w2 w3 : World} {N nb j i cK gI cI : Nat} {kv iv : List Value} {AK : Option Addr} (h : NodeB w N nb j i kv iv AK cK gI cI) (hb : Below w.heap.size w w2) (hg : w2.grownBy w3 (Value.slice (some ⟨gI, 0, none⟩) i cI).ownBlock) : w3.heap[nb]? = w.heap[nb]? :=
  (hg.block nb (by have := h.lt.1; have := hb.size; omega) (fun e => by injection e with e; exact h.ni e.symm)).trans (hb.block nb h.lt.1)
/-- A box beside it. -/
theorem NodeB.box {w w2 w3 : World} {N nb j i cK gI cI : Nat} {kv iv : List Value} {AK : Option Addr} (h : NodeB w N nb j i kv iv AK cK gI cI) {u v x : Value} {T : TypeId} (hb : Below w.heap.size w w2) (hk : w2.heap[w.heap.size]? = some (.cells #[u, v] T (0, 0))) (hg : w2.grownBy w3 (Value.slice AK j cK).ownBlock) :
    (w3.setCell ⟨nb, 2, none⟩ x).cell? ⟨w.heap.size, 0, none⟩ = some u := by
  have h1 := (Array.getElem?_eq_some_iff.1 hk).1
  have h2 : w3.heap[w.heap.size]? = w2.heap[w.heap.size]? := hg.block _ h1 (fun e => by
    obtain ⟨a, e1, e2⟩ := own_block e.symm
    have := (h.lt.2.2.2 a e1).2
    omega)
  have h3 : (w3.setCell ⟨nb, 2, none⟩ x).heap[w.heap.size]? = w3.heap[w.heap.size]? := Below.heap_setCell _ _ _ _ (by have := h.lt.1; show w.heap.size ≠ nb; omega)
  rw [World.cell?_of_block (a := ⟨w.heap.size, 0, none⟩) h3, World.cell?_of_block (a := ⟨w.heap.size, 0, none⟩) h2]
  simp [World.cell?, hk]

theorem both_cells {w : World} {x0 x1 : Value} {T : TypeId} : ∀ j u, [x0, x1][j]? = some u → (w.alloc (.cells #[x0, x1] T)).cell? ((⟨w.heap.size, 0, none⟩ : Addr).add j) = some u := by
  intro j u hu
  rcases j with _ | _ | j
  all_goals first | (simp at hu; done) | (simp at hu; subst hu; simp [Addr.add])
theorem turn_size {w w' : World} {D : Nat → Prop} {g : Nat} {L : List (Option Nd)} {F : List Nat} (h : Turn w D g L F w') : w.heap.size ≤ w'.heap.size := by
  obtain ⟨D', h1, h2, h3⟩ := h
  exact h3.size

/-- One branch of a level. -/
theorem lv_at {d : Nat} {E : Nat → Prop} {w : World} {A : Option Addr} {n c : Nat} {lv : List (Br d)} (h : On E w (LvR · A n c lv)) {j : Nat} {x : Br d} (hx : lv[j]? = some x) :
    ∃ b o K kn kc, A = some ⟨b, o, none⟩ ∧ E b ∧ b < w.heap.size ∧ w.cell? ⟨b, o + j * 2, none⟩ = some (.int .i64 (num d x.2 : Nat)) ∧ w.cell? ⟨b, o + j * 2 + 1, none⟩ = some (.slice K kn kc) ∧ On E w (Byt · K kn x.1) := by
  obtain ⟨h1, h2, h3, b, o, e, hb, hj⟩ := h.here
  obtain ⟨K, kn, kc, k0, k1, y⟩ := hj j x hx
  have hE : E b := block_in (C := E) (w := w) (b := b) (o := o + j * 2 + 1) fun w' ha => by
    obtain ⟨g1, g2, g3, b', o', e', hb', hj'⟩ := h w' ha
    rw [e] at e'
    injection e' with e'
    injection e' with e1 e2
    subst e1
    subst e2
    obtain ⟨K', kn', kc', k0', k1', y'⟩ := hj' j x hx
    exact ⟨K', kn', kc', k1'⟩
  refine ⟨b, o, K, kn, kc, e, hE, hb, k0, k1, fun w' ha => ?_⟩
  obtain ⟨g1, g2, g3, b', o', e', hb', hj'⟩ := h w' ha
  rw [e] at e'
  injection e' with e'
  injection e' with e1 e2
  subst e1
  subst e2
  obtain ⟨K', kn', kc', k0', k1', y'⟩ := hj' j x hx
  have hc : w'.cell? ⟨b, o + j * 2 + 1, none⟩ = w.cell? ⟨b, o + j * 2 + 1, none⟩ := World.cell?_of_block (ha.2 b hE hb)
  rw [k1', k1] at hc
  injection hc with hc
  injection hc with q1 q2 q3
  subst q1
  subst q2
  exact y'

/-- The cells of a level above, j branches of it: numbers from s on, and headers. -/
def upC (s : Nat) (kh : Nat → Value) (j : Nat) : List Value := ((List.range j).map fun i => [Value.int .i64 ((s + i : Nat) : Int), kh i]).flatten
theorem upC_succ (s : Nat) (kh : Nat → Value) (j : Nat) : upC s kh (j + 1) = upC s kh j ++ [.int .i64 ((s + j : Nat) : Int), kh j] := by
  unfold upC
  rw [List.range_succ]
  simp
theorem upC_len (s : Nat) (kh : Nat → Value) : ∀ j, (upC s kh j).length = j * 2
  | 0 => rfl
  | j + 1 => by rw [upC_succ, List.length_append, upC_len s kh j]; simp; omega
theorem upC_get (s : Nat) (kh : Nat → Value) : ∀ (j i : Nat), i < j → (upC s kh j)[i * 2]? = some (.int .i64 ((s + i : Nat) : Int)) ∧ (upC s kh j)[i * 2 + 1]? = some (kh i)
  | 0, i, h => by omega
  | j + 1, i, h => by
    have hl := upC_len s kh j
    rw [upC_succ]
    by_cases e : i = j
    · subst e
      rw [List.getElem?_append_right (by omega), List.getElem?_append_right (by omega), hl, show i * 2 - i * 2 = 0 by omega, show i * 2 + 1 - i * 2 = 1 by omega]
      exact ⟨rfl, rfl⟩
    · rw [List.getElem?_append_left (by omega), List.getElem?_append_left (by omega)]
      exact upC_get s kh j i (by omega)
theorem lvUp_get {d : Nat} : ∀ (s : Nat) (Ps : List (List (Br d))) (j : Nat), (lvUp s Ps)[j]? = Ps[j]?.map (brUp (s + j))
  | s, [], j => by simp [lvUp]
  | s, P :: Ps, 0 => by simp [lvUp]
  | s, P :: Ps, j + 1 => by
    rw [lvUp, List.getElem?_cons_succ, lvUp_get (s + 1) Ps j, List.getElem?_cons_succ, show s + 1 + j = s + (j + 1) by omega]
end Go.Proofs.Ytdkppgmhhijkgaa

namespace Go.Proofs.Ytdkppgmhhijkgaa
open Go.RowKit
set_option linter.unusedVariables false
set_option maxRecDepth 100000

def AboveO {d : Nat} (w : World) (D E : Nat → Prop) (tb g root m many : Nat) (L : List (Option Nd)) (lv : List (Br d)) (e : Ending) (w' : World) : Prop :=
  ∃ A' c' D', e = .returned (.slice A' (evn lv (m + 1)).length c') ∧ TrM w' D' tb g (L ++ (evn lv (m + 1)).map fun P => some (ndUp P)) [] root m many ∧ (∀ b, D' b → D b ∨ w.heap.size ≤ b) ∧ Only D w w' ∧
    On (fun b => E b ∨ (w.heap.size ≤ b ∧ ¬ D' b)) w' (LvR · A' (evn lv (m + 1)).length c' (lvUp L.length (evn lv (m + 1))))

/-- Where the loop over the pieces has come to. -/
def AbvI {d : Nat} (w w1 : World) (D : Nat → Prop) (tb g root m many : Nat) (L : List (Option Nd)) (Ps : List (List (Br d))) (kh : Nat → Value) (j : Nat) (v : Value) (wr : World) : Prop :=
  ∃ D', TrM wr D' tb g (L ++ (Ps.take j).map fun P => some (ndUp P)) [] root m many ∧ (∀ b, D' b → (D b ∧ b < w.heap.size) ∨ w1.heap.size ≤ b) ∧ (∀ k, v.ownBlock = some k → ¬ D' k) ∧
    wr.ownsRow w1.heap.size 95 2 v j (upC L.length kh j) ∧ Only D w1 wr

/-- What a round leaves. -/
theorem abv_round {d : Nat} {w w1 wr w5 w6 w7 w8 : World} {D D' : Nat → Prop} {tb g root m many j g8 c8 : Nat} {L : List (Option Nd)} {Ps : List (List (Br d))} {kh : Nat → Value} {v : Value}
    (hT : TrM wr D' tb g (L ++ (Ps.take j).map fun P => some (ndUp P)) [] root m many) (hD : ∀ b, D' b → (D b ∧ b < w.heap.size) ∨ w1.heap.size ≤ b) (hv : ∀ k, v.ownBlock = some k → ¬ D' k) (hrow : wr.ownsRow w1.heap.size 95 2 v j (upC L.length kh j)) (ho : Only D w1 wr)
    {P : List (Br d)} (hP : Ps[j]? = some P) (hb5 : Below wr.heap.size wr w5) (hm : Turn w5 D' g ((L ++ (Ps.take j).map fun P => some (ndUp P)) ++ [some (ndUp P)]) [] w6) (hb7 : Below w6.heap.size w6 w7)
    (h8 : w8.ownsRow w1.heap.size 95 2 (.slice (some ⟨g8, 0, none⟩) (j + 1) c8) (j + 1) (upC L.length kh (j + 1))) (hg8 : w7.grownBy w8 v.ownBlock) (hat : v.ownBlock = some g8 ∨ g8 = w7.heap.size) (htb : tb < w1.heap.size) :
    AbvI w w1 D tb g root m many L Ps kh (j + 1) (.slice (some ⟨g8, 0, none⟩) (j + 1) c8) w8 := by
  obtain ⟨D2, m1, m2, m3⟩ := hm
  have s5 := hb5.size
  have s6 := m3.size
  have s7 := hb7.size
  have s1 := ho.size
  have l1 := hT.lt
  have ov : ∀ k, v.ownBlock = some k → k < wr.heap.size ∧ w1.heap.size ≤ k := fun k hk => ⟨(hrow.lt k hk).2, (hrow.lt k hk).1⟩
  have hD2 : ∀ b, D2 b → (D b ∧ b < w.heap.size) ∨ w1.heap.size ≤ b := fun b hb => by
    rcases m2 b hb with h | h
    · exact hD b h
    · exact .inr (by omega)
  have nv : ∀ k, v.ownBlock = some k → ¬ D2 k := fun k hk hd => by
    rcases m2 k hd with h | h
    · exact hv k hk h
    · have := (ov k hk).1; omega
  have lt2 := m1.lt
  have step : ∀ b, D2 b ∨ b = tb → b < w6.heap.size → w8.heap[b]? = w6.heap[b]? := fun b hb hl => by
    refine (hg8.block b (by omega) (fun e => ?_)).trans (hb7.block b hl)
    rcases hb with hb | hb
    · exact nv b e.symm hb
    · have := (ov b e.symm).2
      omega
  have hT6 : TrM w6 D2 tb g ((L ++ (Ps.take j).map fun P => some (ndUp P)) ++ [some (ndUp P)]) [] root m many := by
    refine ⟨?_, m1, fun hd => ?_⟩
    · rw [m3.block tb (by have := l1.1; omega) hT.2.2, hb5.block tb l1.1]
      exact hT.1
    · rcases m2 tb hd with h | h
      · exact hT.2.2 h
      · have := l1.1; omega
  have hL : (L ++ (Ps.take j).map fun P => some (ndUp P)) ++ [some (ndUp P)] = L ++ (Ps.take (j + 1)).map fun P => some (ndUp P) := by
    obtain ⟨hj, e⟩ := List.getElem?_eq_some_iff.1 hP
    rw [List.take_succ_eq_append_getElem hj, e]
    simp
  rw [hL] at hT6
  refine ⟨D2, hT6.keep ⟨Nat.le_trans s7 hg8.size, step⟩, hD2, fun k hk hd => ?_, h8, ?_⟩
  · injection hk with hk
    subst hk
    rcases hat with e | e
    · exact nv _ e hd
    · have := lt2 _ hd
      have e' : g8 = w7.heap.size := e
      simp only at this
      omega
  · have o1 : Only D w1 w5 := ho.trans2 (below_only (D := fun _ => False) hb5) (fun i hi => hi.elim)
    have o2 : Only D w1 w6 := o1.trans2 m3 fun i hi => by
      rcases hD i hi with h | h
      · exact .inl h.1
      · exact .inr h
    have o3 : Only D w1 w7 := o2.trans2 (below_only (D := fun _ => False) hb7) (fun i hi => hi.elim)
    exact o3.grown hg8 fun k hk => .inl (ov k hk).2

theorem pce_get {α : Type} {l : List α} {p i t : Nat} (hp : 0 < p) (hi : i < p) (ht : t < ctA l.length p (i + 1) - ctA l.length p i) : (pce l p i)[t]? = l[ctA l.length p i + t]? := by
  unfold pce
  rw [List.getElem?_take_of_lt ht, List.getElem?_drop]

/-- What a level's cells say of a branch. -/
def HdrOk {d : Nat} (E : Nat → Prop) (w : World) (lv : List (Br d)) (hdr nmv : Nat → Value) : Prop :=
  ∀ t x, lv[t]? = some x → (∃ K kn kc, hdr t = .slice K kn kc ∧ On E w (Byt · K kn x.1)) ∧ nmv t = .int .i64 (num d x.2 : Nat)

/-- The node that was put together reads as the piece says. -/
theorem node_reads {d : Nat} {E D' : Nat → Prop} {w w5 : World} {lv P : List (Br d)} {hdr nmv : Nat → Value} (ho : HdrOk E w lv hdr nmv) {N nb q s cK gI cI : Nat} {AK : Option Addr}
    (hP : P.length = q + 1) (hg : ∀ t, t < q + 1 → P[t]? = lv[s + t]?) (hN : NodeB w5 N nb q (q + 1) ((List.range q).map fun t => hdr (s + 1 + t)) ((List.range (q + 1)).map fun t => nmv (s + t)) AK cK gI cI)
    (ha : Agree E w w5) (hE : ∀ b, E b → ¬ D' b) (hD : ∀ b, D' b → b < N) : On (fun b => ¬ D' b) w5 (NdR · ⟨none, 0, 0, AK, q, cK, some ⟨gI, 0, none⟩, q + 1, cI⟩ (ndUp P)) := by
  obtain ⟨l1, l2, l3, l4⟩ := hN.lt
  have hks : KReads (fun _ => fun b => ¬ D' b) w5 ((List.range q).map fun t => hdr (s + 1 + t)) (P.tail.map (·.1)) := by
    refine ⟨by simp; omega, fun t ht => ?_⟩
    have ht' : t < q := by simp at ht; omega
    have hx : lv[s + 1 + t]? = some (P[t + 1]'(by omega)) := by
      rw [show s + 1 + t = s + (t + 1) by omega, ← hg (t + 1) (by omega), List.getElem?_eq_getElem (by omega)]
    obtain ⟨⟨K, kn, kc, e1, y⟩, _⟩ := ho _ _ hx
    refine ⟨K, kn, kc, by rw [List.getElem?_map, List.getElem?_range ht']; simp [e1], ?_⟩
    rw [kat_eq (by simp; omega), show (P.tail.map (·.1))[t]'(by simp; omega) = (P[t + 1]'(by omega)).1 by simp]
    exact (y.keep ha).mono hE
  have hki : ((List.range (q + 1)).map fun t => nmv (s + t)) = (P.map fun c => (num d c.2 : Int)).map intV := by
    apply List.ext_getElem
    · simp [hP]
    · intro t h1 h2
      have ht : t < q + 1 := by simpa using h1
      have hx : lv[s + t]? = some (P[t]'(by omega)) := by rw [← hg t ht, List.getElem?_eq_getElem (by omega)]
      have := (ho _ _ hx).2
      simp [this, intV]
  have hid := hN.kids
  rw [hki] at hid
  have o1 := kys_on (C := fun b => ¬ D' b) hN.keys hks (fun a e hd => by have := (l4 a e).1; have := hD _ hd; omega)
  have o2 := ins_on (C := fun b => ¬ D' b) (L := P.map fun c => (num d c.2 : Int)) hid (fun a e hd => by
    injection e with e
    subst e
    have := hD _ hd
    simp only at this
    omega)
  exact fun v hv => ⟨prs_nil v, o1 v hv, o2 v hv⟩
theorem node_small {d : Nat} {P : List (Br d)} (h : P.length ≤ 1000) (hs : ∀ x ∈ P, x.1.length ≤ 1000) : SmallN (ndUp P) := by
  refine ⟨by simp [ndUp], (fun p hp => by cases hp), by simp [ndUp]; omega, fun j hj => ?_, by simp [ndUp]; omega⟩
  have hj' : j < (P.tail.map (·.1)).length := hj
  show (kat (P.tail.map (·.1)) j).length ≤ 1000
  rw [kat_eq hj']
  simp only [List.getElem_map]
  exact hs _ (List.mem_of_mem_tail (List.getElem_mem _))

theorem abv_done {d : Nat} {w w1 wr : World} {D E : Nat → Prop} {tb g root m many n p : Nat} {L : List (Option Nd)} {lv : List (Br d)} {hdr nmv : Nat → Value} {v : Value} (hI : AbvI w w1 D tb g root m many L (evn lv (m + 1)) (fun j => hdr (ctA n p j)) p v wr)
    (hok : HdrOk E w lv hdr nmv) (hb : Below w.heap.size w w1) (hE : ∀ b, E b → ¬ D b) (hEl : ∀ b, E b → b < w.heap.size) (hlen : lv.length = n) (hpe : p = pcs n (m + 1)) (hp : 0 < p) (hn : 0 < n) : AboveO w D E tb g root m many L lv (.returned v) wr := by
  obtain ⟨D', t1, t2, t3, t4, t5⟩ := hI
  have hpl : (evn lv (m + 1)).length = p := by rw [evn_len, hlen, hpe]
  rw [List.take_of_length_le (by omega)] at t1
  obtain ⟨A', c', rfl, -, q1, q2, -, -⟩ := own_new t4
  obtain ⟨gg, rfl, gl, gs⟩ := own_at t4 hp
  have hgD : ¬ D' gg := t3 gg rfl
  have hbs := hb.size
  refine ⟨some ⟨gg, 0, none⟩, c', D', by rw [hpl], t1, fun b hb => (t2 b hb).imp (fun h => h.1) (fun h => by omega), (below_only (D := D) hb).trans t5, fun W' ha => ?_⟩
  rw [hpl]
  refine ⟨by rw [lvUp_len, hpl], q1, q2, gg, 0, rfl, Nat.lt_of_lt_of_le gs ha.1, fun j x hx => ?_⟩
  have hj : j < p := by
    have := (List.getElem?_eq_some_iff.1 hx).1
    rw [lvUp_len, hpl] at this
    exact this
  have hrow : W'.ownsRow w1.heap.size 95 2 (.slice (some ⟨gg, 0, none⟩) p c') p (upC L.length (fun j => hdr (ctA n p j)) p) := own_agree t4 ha fun k hk => by
    injection hk with hk
    subst hk
    exact .inr ⟨by show w.heap.size ≤ gg; omega, hgD⟩
  obtain ⟨g1, g2⟩ := upC_get L.length (fun j => hdr (ctA n p j)) p j hj
  have hget : (evn lv (m + 1))[j]? = some (pce lv p j) := by
    unfold evn
    rw [hlen, ← hpe, List.getElem?_map, List.getElem?_range hj]
    rfl
  rw [lvUp_get, hget] at hx
  simp only [Option.map_some] at hx
  injection hx with hx
  subst hx
  have hs1 := ctA_least (n := n) (p := p) (q := 1) (i := j) hp (by
    have := (evn_size (l := lv) (most := m + 1) (by omega) (by omega)) 
    have h2 : p * 1 ≤ n := by
      rcases Nat.lt_or_ge n p with h | h
      · exfalso
        have h3 := pcs_need (n := n) (m := m + 1) hn (by omega)
        rw [← hpe] at h3
        have h4 : (n + 1) * (m + 1) ≤ p * (m + 1) := Nat.mul_le_mul_right _ h
        simp only [Nat.add_mul, Nat.mul_add, Nat.one_mul, Nat.mul_one] at h3 h4
        have h5 : 0 ≤ n * m := Nat.zero_le _
        omega
      · omega
    exact h2)
  have hs2 := ctA_le (n := n) hp (show j + 1 ≤ p by omega)
  obtain ⟨y, hy⟩ : ∃ y, lv[ctA n p j]? = some y := ⟨_, List.getElem?_eq_getElem (show ctA n p j < lv.length by omega)⟩
  obtain ⟨⟨K, kn, kc, e1, y1⟩, -⟩ := hok _ _ hy
  have hP0 : (pce lv p j)[0]? = some y := by rw [pce_get hp hj (by rw [hlen]; omega), hlen, Nat.add_zero, hy]
  have hkey : keyB (pce lv p j) = y.1 := by
    cases hP : pce lv p j with
    | nil => rw [hP] at hP0; cases hP0
    | cons a r =>
      rw [hP] at hP0
      simp at hP0
      subst hP0
      rfl
  refine ⟨K, kn, kc, ?_, ?_, ?_⟩
  · rw [Nat.zero_add, hrow.cellAt _ (by omega), g1]
    rfl
  · rw [Nat.zero_add, hrow.cellAt _ (by omega), g2]
    exact congrArg some e1
  · show Byt W' K kn (keyB (pce lv p j))
    rw [hkey]
    exact ((y1.keep (below_agree hb fun b hb _ => hEl b hb)).keep (t5.agree hE)) W' (ha.mono fun i hi => .inl hi)
end Go.Proofs.Ytdkppgmhhijkgaa
