/- The law's Look in memory: its own cells and its three lists; what turns them. No condition. The law's own look at a leaf. Condition: a sound one, in its range. What the law's look at a tree comes to, as plain data. Plain; no condition. The law's own look at a node and all below it. Condition: a sound tree, in its range. The law's own look at a node and all below it, whatever the depth. Condition: a sound tree, in its range. -/
import Derived.Test.YtdkppgmhhijkgaaG7
import Derived.Deep.RegionLaw
import Derived.Deep.AppendLies
namespace Go.Proofs.Ytdkppgmhhijkgaa
open Go.RowKit
set_option linter.unusedVariables false
set_option maxRecDepth 100000

/-- What a Look has seen. -/
structure LkS where
  lv : List Nat
  nx : List Int
  ps : List Pr
  nodes : Nat
  dep : Nat
def LkSet (xb : Nat) (vL vN vP : Value) (b : Nat) : Prop := b = xb ∨ vL.ownBlock = some b ∨ vN.ownBlock = some b ∨ vP.ownBlock = some b
structure LkIn (w : World) (xb tb : Nat) (vL vN vP : Value) (s : LkS) : Prop where
  obj : w.heap[xb]? = some (.cells #[.pointer (some ⟨tb, 0, none⟩), vL, vN, vP, .int .i64 s.nodes, .int .i64 s.dep, .bool false] 64 (0, 0))
  rl : w.ownsRow 0 3 1 vL s.lv.length (s.lv.map natV)
  rn : w.ownsRow 0 3 1 vN s.nx.length (s.nx.map intV)
  rp : ∃ xs, w.ownsRow 0 27 2 vP s.ps.length xs ∧ ReadsC (fun _ b => ¬ LkSet xb vL vN vP b) w xs s.ps
  xl : vL.ownBlock ≠ some xb
  xn : vN.ownBlock ≠ some xb
  xp : vP.ownBlock ≠ some xb
  ln : ∀ k, vL.ownBlock = some k → vN.ownBlock ≠ some k
  lp : ∀ k, vL.ownBlock = some k → vP.ownBlock ≠ some k
  np : ∀ k, vN.ownBlock = some k → vP.ownBlock ≠ some k
/-- A Look at xb, within the blocks that S names. -/
def LkM (w : World) (S : Nat → Prop) (xb tb : Nat) (s : LkS) : Prop := ∃ vL vN vP, S = LkSet xb vL vN vP ∧ LkIn w xb tb vL vN vP s
theorem LkIn.lt {w : World} {xb tb : Nat} {vL vN vP : Value} {s : LkS} (h : LkIn w xb tb vL vN vP s) : ∀ b, LkSet xb vL vN vP b → b < w.heap.size := by
  rintro b (rfl | hb | hb | hb)
  · exact (Array.getElem?_eq_some_iff.1 h.obj).1
  · exact own_lt h.rl b hb
  · exact own_lt h.rn b hb
  · obtain ⟨xs, h1, _⟩ := h.rp
    exact own_lt h1 b hb
theorem LkM.lt {w : World} {S : Nat → Prop} {xb tb : Nat} {s : LkS} (h : LkM w S xb tb s) : ∀ b, S b → b < w.heap.size := by
  obtain ⟨vL, vN, vP, rfl, h⟩ := h
  exact h.lt
theorem LkIn.below {w w' : World} {xb tb : Nat} {vL vN vP : Value} {s : LkS} (h : LkIn w xb tb vL vN vP s) (hb : Below w.heap.size w w') : LkIn w' xb tb vL vN vP s := by
  obtain ⟨h1, h2, h3, ⟨xs, h4, h5⟩, h6, h7, h8, h9, h10, h11⟩ := h
  exact ⟨(hb.block xb (Array.getElem?_eq_some_iff.1 h1).1).trans h1, own_keep h2 hb, own_keep h3 hb, ⟨xs, own_keep h4 hb, h5.keep fun _ => below_all hb⟩, h6, h7, h8, h9, h10, h11⟩
theorem LkM.below {w w' : World} {S : Nat → Prop} {xb tb : Nat} {s : LkS} (h : LkM w S xb tb s) (hb : Below w.heap.size w w') : LkM w' S xb tb s := by
  obtain ⟨vL, vN, vP, e, h⟩ := h
  exact ⟨vL, vN, vP, e, h.below hb⟩
theorem own_set_other {w : World} {N e s n : Nat} {v : Value} {xs : List Value} (h : w.ownsRow N e s v n xs) {b o : Nat} (hb : v.ownBlock ≠ some b) (u : Value) : (w.setCell ⟨b, o, none⟩ u).ownsRow N e s v n xs :=
  own_agree h (C := fun k => v.ownBlock = some k) (agree_set w _ _ hb) (fun k hk => hk)
/-- One of its own cells is stored. -/
theorem LkIn.cell {w : World} {xb tb : Nat} {vL vN vP : Value} {s s' : LkS} (h : LkIn w xb tb vL vN vP s) (o : Nat) (u : Value) (hl : s'.lv = s.lv) (hn : s'.nx = s.nx) (hp : s'.ps = s.ps)
    (ho : (w.setCell ⟨xb, o, none⟩ u).heap[xb]? = some (.cells #[.pointer (some ⟨tb, 0, none⟩), vL, vN, vP, .int .i64 s'.nodes, .int .i64 s'.dep, .bool false] 64 (0, 0))) : LkIn (w.setCell ⟨xb, o, none⟩ u) xb tb vL vN vP s' := by
  obtain ⟨h1, h2, h3, ⟨xs, h4, h5⟩, h6, h7, h8, h9, h10, h11⟩ := h
  refine ⟨ho, ?_, ?_, ⟨xs, ?_, ?_⟩, h6, h7, h8, h9, h10, h11⟩
  · rw [hl]; exact own_set_other h2 h6 u
  · rw [hn]; exact own_set_other h3 h7 u
  · rw [hp]; exact own_set_other h4 h8 u
  · rw [hp]; exact h5.keep fun _ => agree_set w _ _ (fun hc => hc (.inl rfl))
theorem LkIn.nodes {w : World} {xb tb : Nat} {vL vN vP : Value} {s : LkS} (h : LkIn w xb tb vL vN vP s) (k : Nat) : LkIn (w.setCell ⟨xb, 4, none⟩ (.int .i64 k)) xb tb vL vN vP { s with nodes := k } :=
  h.cell 4 _ rfl rfl rfl (by have := h.obj; simp [World.setCell, Array.getElem?_modify, this])
theorem LkIn.depth {w : World} {xb tb : Nat} {vL vN vP : Value} {s : LkS} (h : LkIn w xb tb vL vN vP s) (k : Nat) : LkIn (w.setCell ⟨xb, 5, none⟩ (.int .i64 k)) xb tb vL vN vP { s with dep := k } :=
  h.cell 5 _ rfl rfl rfl (by have := h.obj; simp [World.setCell, Array.getElem?_modify, this])
theorem LkIn.good {w : World} {xb tb : Nat} {vL vN vP : Value} {s : LkS} (h : LkIn w xb tb vL vN vP s) : LkIn (w.setCell ⟨xb, 6, none⟩ (.bool false)) xb tb vL vN vP s :=
  h.cell 6 _ rfl rfl rfl (by have := h.obj; simp [World.setCell, Array.getElem?_modify, this])
theorem LkIn.cells {w : World} {xb tb : Nat} {vL vN vP : Value} {s : LkS} (h : LkIn w xb tb vL vN vP s) :
    w.cell? ⟨xb, 0, none⟩ = some (.pointer (some ⟨tb, 0, none⟩)) ∧ w.cell? ⟨xb, 1, none⟩ = some vL ∧ w.cell? ⟨xb, 2, none⟩ = some vN ∧ w.cell? ⟨xb, 3, none⟩ = some vP ∧ w.cell? ⟨xb, 4, none⟩ = some (.int .i64 s.nodes) ∧ w.cell? ⟨xb, 5, none⟩ = some (.int .i64 s.dep) ∧ w.cell? ⟨xb, 6, none⟩ = some (.bool false) ∧
      ∀ o, w.frozen? ⟨xb, o, none⟩ = false := by
  have := h.obj
  simp [World.cell?, World.frozen?, this]

/-- What a list's growing, and the storing of it, leave of the rest. -/
theorem grow_far {w w' : World} {v : Value} {xb o : Nat} {u : Value} (hg : w.grownBy w' v.ownBlock) {C : Nat → Prop} (hC : ∀ b, C b → v.ownBlock ≠ some b ∧ b ≠ xb) : Agree C w (w'.setCell ⟨xb, o, none⟩ u) :=
  (agree_grown hg fun k hk hc => (hC k hc).1 hk).trans (agree_set _ _ _ fun hc => (hC xb hc).2 rfl)
theorem grow_obj {w w' : World} {v : Value} {xb : Nat} {ob : Obj} (hg : w.grownBy w' v.ownBlock) (hx : v.ownBlock ≠ some xb) (ho : w.heap[xb]? = some ob) : w'.heap[xb]? = some ob :=
  (hg.block xb (Array.getElem?_eq_some_iff.1 ho).1 (fun e => hx e.symm)).trans ho
theorem at_ne {w : World} {v v' : Value} {k : Nat} (hat : v'.ownBlock = v.ownBlock ∨ v'.ownBlock = some w.heap.size) (h : v.ownBlock ≠ some k) (hk : k < w.heap.size) : v'.ownBlock ≠ some k := by
  rcases hat with e | e
  · rw [e]; exact h
  · rw [e]; intro h'; injection h' with h'; omega
theorem LkIn.moreL {w w' : World} {xb tb : Nat} {vL vN vP v' : Value} {s : LkS} (h : LkIn w xb tb vL vN vP s) (i : Nat) (hown : w'.ownsRow 0 3 1 v' (s.lv.length + 1) (s.lv.map natV ++ [natV i])) (hg : w.grownBy w' vL.ownBlock) (hat : v'.ownBlock = vL.ownBlock ∨ v'.ownBlock = some w.heap.size) :
    LkIn (w'.setCell ⟨xb, 1, none⟩ v') xb tb v' vN vP { s with lv := s.lv ++ [i] } := by
  have hlt := h.lt
  obtain ⟨h1, h2, h3, ⟨xs, h4, h5⟩, h6, h7, h8, h9, h10, h11⟩ := h
  have hx : xb < w.heap.size := hlt xb (.inl rfl)
  refine ⟨?_, ?_, ?_, ⟨xs, ?_, ?_⟩, at_ne hat h6 hx, h7, h8, fun k hk hk2 => ?_, fun k hk hk2 => ?_, h11⟩
  · have := grow_obj hg h6 h1
    simp [World.setCell, Array.getElem?_modify, this]
  · rw [List.length_append, List.map_append]
    exact own_set_other hown (at_ne hat h6 hx) v'
  · exact own_agree h3 (C := fun k => vN.ownBlock = some k) (grow_far hg fun b hb => ⟨fun e => h9 b e hb, fun e => h7 (e ▸ hb)⟩) (fun k hk => hk)
  · exact own_agree h4 (C := fun k => vP.ownBlock = some k) (grow_far hg fun b hb => ⟨fun e => h10 b e hb, fun e => h8 (e ▸ hb)⟩) (fun k hk => hk)
  · refine (h5.now.keep fun _ => grow_far hg fun b hb => ⟨fun e => hb.1 (.inr (.inl e)), fun e => hb.1 (.inl e)⟩).mono fun t ht b hb hc => hb.1 ?_
    rcases hc with hc | hc | hc | hc
    · exact .inl hc
    · rcases hat with e | e
      · exact .inr (.inl (e ▸ hc))
      · rw [e] at hc; injection hc with hc; have := hb.2; omega
    · exact .inr (.inr (.inl hc))
    · exact .inr (.inr (.inr hc))
  · exact at_ne (k := k) hat (fun e => h9 k e hk2) (own_lt h3 k hk2) hk
  · exact at_ne (k := k) hat (fun e => h10 k e hk2) (own_lt h4 k hk2) hk
theorem LkIn.moreN {w w' : World} {xb tb : Nat} {vL vN vP v' : Value} {s : LkS} (h : LkIn w xb tb vL vN vP s) (i : Int) (hown : w'.ownsRow 0 3 1 v' (s.nx.length + 1) (s.nx.map intV ++ [intV i])) (hg : w.grownBy w' vN.ownBlock) (hat : v'.ownBlock = vN.ownBlock ∨ v'.ownBlock = some w.heap.size) :
    LkIn (w'.setCell ⟨xb, 2, none⟩ v') xb tb vL v' vP { s with nx := s.nx ++ [i] } := by
  have hlt := h.lt
  obtain ⟨h1, h2, h3, ⟨xs, h4, h5⟩, h6, h7, h8, h9, h10, h11⟩ := h
  have hx : xb < w.heap.size := hlt xb (.inl rfl)
  refine ⟨?_, ?_, ?_, ⟨xs, ?_, ?_⟩, h6, at_ne hat h7 hx, h8, fun k hk => at_ne hat (h9 k hk) (own_lt h2 k hk), h10, fun k hk hk2 => ?_⟩
  · have := grow_obj hg h7 h1
    simp [World.setCell, Array.getElem?_modify, this]
  · exact own_agree h2 (C := fun k => vL.ownBlock = some k) (grow_far hg fun b hb => ⟨h9 b hb, fun e => h6 (e ▸ hb)⟩) (fun k hk => hk)
  · rw [List.length_append, List.map_append]
    exact own_set_other hown (at_ne hat h7 hx) v'
  · exact own_agree h4 (C := fun k => vP.ownBlock = some k) (grow_far hg fun b hb => ⟨fun e => h11 b e hb, fun e => h8 (e ▸ hb)⟩) (fun k hk => hk)
  · refine (h5.now.keep fun _ => grow_far hg fun b hb => ⟨fun e => hb.1 (.inr (.inr (.inl e))), fun e => hb.1 (.inl e)⟩).mono fun t ht b hb hc => hb.1 ?_
    rcases hc with hc | hc | hc | hc
    · exact .inl hc
    · exact .inr (.inl hc)
    · rcases hat with e | e
      · exact .inr (.inr (.inl (e ▸ hc)))
      · rw [e] at hc; injection hc with hc; have := hb.2; omega
    · exact .inr (.inr (.inr hc))
  · exact at_ne (k := k) hat (fun e => h11 k e hk2) (own_lt h4 k hk2) hk
theorem LkIn.moreP {w0 w w' : World} {xb tb m : Nat} {vL vN vP v' : Value} {s : LkS} {xs ys : List Value} {M : List Pr} (h : LkIn w xb tb vL vN vP s) (hrp : ReadsC (fun _ b => ¬ LkSet xb vL vN vP b) w xs s.ps)
    (hy : ReadsC (fun _ b => ¬ LkSet xb vL vN vP b) w ys M) (hm : M.length = m) (hown : w'.ownsRow 0 27 2 v' (s.ps.length + m) (xs ++ ys)) (hg : w.grownBy w' vP.ownBlock) (hat : v'.ownBlock = vP.ownBlock ∨ v'.ownBlock = some w.heap.size) :
    LkIn (w'.setCell ⟨xb, 3, none⟩ v') xb tb vL vN v' { s with ps := s.ps ++ M } := by
  have hlt := h.lt
  obtain ⟨h1, h2, h3, ⟨_, h4, _⟩, h6, h7, h8, h9, h10, h11⟩ := h
  have hx : xb < w.heap.size := hlt xb (.inl rfl)
  refine ⟨?_, ?_, ?_, ⟨xs ++ ys, ?_, ?_⟩, h6, h7, at_ne hat h8 hx, h9, fun k hk => at_ne hat (h10 k hk) (own_lt h2 k hk), fun k hk => at_ne hat (h11 k hk) (own_lt h3 k hk)⟩
  · have := grow_obj hg h8 h1
    simp [World.setCell, Array.getElem?_modify, this]
  · exact own_agree h2 (C := fun k => vL.ownBlock = some k) (grow_far hg fun b hb => ⟨h10 b hb, fun e => h6 (e ▸ hb)⟩) (fun k hk => hk)
  · exact own_agree h3 (C := fun k => vN.ownBlock = some k) (grow_far hg fun b hb => ⟨h11 b hb, fun e => h7 (e ▸ hb)⟩) (fun k hk => hk)
  · rw [List.length_append, hm]
    exact own_set_other hown (at_ne hat h8 hx) v'
  · refine ((hrp.append hy).now.keep fun _ => grow_far hg fun b hb => ⟨fun e => hb.1 (.inr (.inr (.inr e))), fun e => hb.1 (.inl e)⟩).mono fun t ht b hb hc => hb.1 ?_
    rcases hc with hc | hc | hc | hc
    · exact .inl hc
    · exact .inr (.inl hc)
    · exact .inr (.inr (.inl hc))
    · rcases hat with e | e
      · exact .inr (.inr (.inr (e ▸ hc)))
      · rw [e] at hc; injection hc with hc; have := hb.2; omega
/-- What the growing of one list and the storing of it touch. -/
theorem grow_only {w w' : World} {v : Value} {xb o : Nat} {u : Value} {S : Nat → Prop} (hg : w.grownBy w' v.ownBlock) (hS : ∀ k, v.ownBlock = some k → S k) (hx : S xb) : Only S w (w'.setCell ⟨xb, o, none⟩ u) :=
  ((Only.refl S w).grown hg (fun k hk => .inr (hS k hk))).set _ _ (.inr hx)

/-- append of pairs at a step of a region that draws. -/
theorem step_append_prs {w w0 : World} {ops : Array Oper} {o : Oper} {a : Act} {K : Act → World → Prop} {Q : Exit → Act → World → Prop} {E : Prop} (hgd : o.guard = none) (s x : Operand)
    (ho : o.op = .call { callee := .builtin .append, args := #[s, x], argTypes := #[22, 22] })
    (base : Nat) (v : Value) (n : Nat) (xs : List Value) (hs : a.eval s = v) (hown : w.ownsRow base 27 2 v n xs)
    (A : Option Addr) (m c : Nat) (L : List Pr) {C : Nat → Prop} (hx : a.eval x = .slice A m c) (hp : On C w0 (Prs · A m c L)) (hb : Below w0.heap.size w0 w) (h63 : n + m ≤ 9000) (hbase : base ≤ w.heap.size)
    (h : ∀ v' w' ys, ReadsC (fun _ => C) w0 ys L → w'.ownsRow base 27 2 v' (n + m) (xs ++ ys) → w.grownBy w' v.ownBlock → (v'.ownBlock = v.ownBlock ∨ v'.ownBlock = some w.heap.size) → K (a.put o.dst v') w') :
    if Region.wanted o (yielded ops a.tmps) = true then Oper.wp Try.prog o a w K Q else E := by
  have hw : Region.wanted o (yielded ops a.tmps) = true := by simp [Region.wanted, hgd]
  rw [if_pos hw]
  obtain ⟨i0, hi, hz0, hz1, hz2⟩ := info_parts Try.infoPair
  obtain ⟨ys, hrc, hr, hl, hc⟩ := prs_reads_on hp
  cases A with
  | none =>
    have hph := hp.here
    obtain rfl : c = 0 := hph.2.2.2.1 rfl
    obtain rfl : m = 0 := Nat.le_zero.1 hph.2.1
    obtain rfl : ys = [] := List.eq_nil_of_length_eq_zero (by omega)
    have hrun := run_append_owned_none (P := Try.prog) (w := w) base 22 o.type 27 i0 2 Try.underlying22 hi v n xs hown
    unfold Oper.wp
    simp [execOp, ho, resolve, invoke, builtin, hs, hx, hrun, Result.andThen]
    exact h v w [] hrc (by simpa using hown) (World.grownBy.refl _ _) (.inl rfl)
  | some ad =>
    obtain ⟨v', w', hr', h2, h3, _, h5⟩ := run_append_own_at (P := Try.prog) w base 22 o.type 27 i0 (.agg #[.slice none 0 0, .slice none 0 0]) 2 48 Try.underlying22 hi hz0 hz1 hz2 rfl (by decide) v n xs hown ad m c ys hl (fun j u hu => by
      have hcell := hc ad rfl j u hu
      have hlt := World.block_lt_of_cell? w0 _ hcell
      exact (hb.cell hlt).trans hcell) hr.one (by unfold maxLen; omega) (by omega) hbase
    unfold Oper.wp
    simp [execOp, ho, resolve, invoke, builtin, hs, hx, hr', Result.andThen]
    exact h v' w' ys hrc h2 h3 h5
end Go.Proofs.Ytdkppgmhhijkgaa

namespace Go.Proofs.Ytdkppgmhhijkgaa
open Go.RowKit
set_option linter.unusedVariables false
set_option maxRecDepth 100000

def LkOut (w : World) (S : Nat → Prop) (xb tb : Nat) (s : LkS) (e : Ending) (w' : World) : Prop :=
  e = .returned (.tuple #[]) ∧ ∃ S', LkM w' S' xb tb s ∧ (∀ b, S' b → S b ∨ w.heap.size ≤ b) ∧ Only S w w'

theorem undrew_grown {w w' : World} {row : Option Nat} (h : w.drew.grownBy w' row) : w.grownBy w' row := ⟨h.os, h.tape, h.output, h.size, h.block⟩
theorem setcell_size (w : World) (a : Addr) (u : Value) : (w.setCell a u).heap.size = w.heap.size := by simp [World.setCell]
theorem cell_one {wr : World} (u : Value) (T : TypeId) (hu : u.oneCell' = true) : (∀ j v, [u][j]? = some v → (wr.alloc (.cells #[u] T)).cell? ((⟨wr.heap.size, 0, none⟩ : Addr).add j) = some v) ∧ ∀ v ∈ [u], v.oneCell' = true := by
  refine ⟨fun j v hj => ?_, fun v hv => by simp at hv; rw [hv]; exact hu⟩
  have hj0 : j = 0 := by have := (List.getElem?_eq_some_iff.1 hj).1; simp at this; omega
  subst hj0
  simp at hj
  subst hj
  rw [add_lit]
  simp
/-- What the leaf's own loop leaves as it was. -/
structure LfI (w W : World) (xb tb : Nat) (vL vN vP : Value) (s : LkS) (wr : World) : Prop where
  lk : LkIn wr xb tb vL vN vP s
  only : Only (LkSet xb vL vN vP) W wr
theorem LfI.keep {w W wr wr' : World} {xb tb : Nat} {vL vN vP : Value} {s : LkS} (h : LfI w W xb tb vL vN vP s wr) (hb : Below wr.heap.size wr wr') : LfI w W xb tb vL vN vP s wr' := ⟨h.lk.below hb, h.only.trans (below_only hb)⟩
theorem LfI.store {w W wr : World} {xb tb : Nat} {vL vN vP : Value} {s : LkS} (h : LfI w W xb tb vL vN vP s wr) : LfI w W xb tb vL vN vP s (wr.setCell ⟨xb, 6, none⟩ (.bool false)) := ⟨h.lk.good, h.only.set _ _ (.inr (.inl rfl))⟩

set_option maxHeartbeats 8000000 in
theorem lkleaf_any {w : World} {D : Nat → Prop} {tb g : Nat} {L : List (Option Nd)} {F : List Nat} {root m many : Nat} {S : Nat → Prop} {xb : Nat} {s : LkS} (hT : TrM w D tb g L F root m many) (hK : LkM w S xb tb s) (hdis : ∀ b, S b → ¬ D b ∧ b ≠ tb) {h : Nh} {x : Nd}
    (hr : On (fun b => ¬ S b) w (NdR · h x)) (hx : Fit x.pairs) (i : Nat) (h1 : x.pairs.length ≤ m) (h2 : i ≠ root → m / 2 ≤ x.pairs.length) (hm : m ≤ 16) {lo hi : Ky} (hin : ∀ p ∈ x.pairs, inR lo hi p.1) {A1 B1 : Option Addr} {n1 m1 : Nat} (c1 d1 : Nat)
    (hlo : On (fun b => ¬ S b) w (Byt · A1 n1 lo)) (hhi : On (fun b => ¬ S b) w (Byt · B1 m1 hi)) (hn1 : n1 ≤ 16) (hm1 : m1 ≤ 16) (dd : Nat) (hd : s.dep = 0 ∨ s.dep = dd) (hdd : dd ≤ 100) (hl5 : s.lv.length ≤ 5000) (hn5 : s.nx.length ≤ 5000) (hp5 : s.ps.length ≤ 5000) :
    Calls Try.prog 60 #[.pointer (some ⟨xb, 0, none⟩), .int .i64 i, ndV h x, .agg #[.slice A1 n1 c1, .slice B1 m1 d1], .int .i64 dd] w (LkOut w S xb tb { s with lv := s.lv ++ [i], nx := s.nx ++ [x.next], ps := s.ps ++ x.pairs, dep := dd }) := by
  obtain ⟨vL, vN, vP, rfl, hK⟩ := hK
  obtain ⟨A, n, c, B, mk, dk, K, kk, ee⟩ := h
  have hlen : x.pairs.length = n := hr.here.1.1
  have hSlt := hK.lt
  have WS := Lib.hid (fun u => two_new (w.setCell ⟨xb, 5, none⟩ u) (.cells #[.bool x.leaf, .slice A n c, .slice B mk dk, .slice K kk ee, .int .i64 x.next] 72) (.cells #[.slice A1 n1 c1, .slice B1 m1 d1] 81))
  have WN := Lib.hid (two_new w (.cells #[.bool x.leaf, .slice A n c, .slice B mk dk, .slice K kk ee, .int .i64 x.next] 72) (.cells #[.slice A1 n1 c1, .slice B1 m1 d1] 81))
  have HK := Lib.hid hK
  have HT := Lib.hid hT
  have HD := Lib.hid (And.intro hdis hSlt)
  have HR := Lib.hid (And.intro hr (And.intro hlo hhi))
  have HX := Lib.hid (And.intro hx (And.intro hin hlen))
  have hnm : n ≤ m := by omega
  have hnr : i ≠ root → m / 2 ≤ n := fun e => by have := h2 e; omega
  clear hT hdis hr hlo hhi hx hin hlen h1 h2 hSlt
  obtain ⟨-, -, -, -, -, k5, -, kf⟩ := hK.cells
  have kf5 := kf 5
  have hxl : xb < w.heap.size := hK.lt xb (.inl rfl)
  clear hK kf
  by_cases hd0 : s.dep = 0
  case' pos =>
    have k5' : w.cell? ⟨xb, 5, none⟩ = some (.int .i64 0) := by rw [k5, hd0]; rfl
    have HD0 := Lib.hid hd0
    clear k5 hd0 hd
    go_enter Try.func60, Try.ntmps60
    go_wp2_with fail
    obtain ⟨W, hW, hWB, hWs, hW0, hW1⟩ := WS.out (.int .i64 dd)
    rw [← hW]
    rw [setcell_size] at hWB hWs hW0 hW1
    obtain ⟨hO, hI1⟩ : Only (LkSet xb vL vN vP) w W ∧ LfI w W xb tb vL vN vP { s with dep := dd } W := ⟨((Only.refl _ w).set _ _ (.inr (.inl rfl))).trans ⟨hWB.os, hWB.tape, hWB.output, hWB.size, fun k hk _ => hWB.block k (by rwa [setcell_size] at hk)⟩, (HK.out.depth dd).below (by rw [setcell_size]; exact hWB), Only.refl _ _⟩
  case' neg =>
    have hdd0 : s.dep = dd := by omega
    have k5' : w.cell? ⟨xb, 5, none⟩ = some (.int .i64 dd) := by rw [k5, hdd0]
    have hdz : ((dd : Int) == 0) = false := by simp; omega
    have HD0 := Lib.hid hdd0
    clear k5 hd0 hd hdd0
    go_enter Try.func60, Try.ntmps60
    go_wp2_with fail
    obtain ⟨W, hW, hWB, hWs, hW0, hW1⟩ := WN.out
    rw [← hW]
    obtain ⟨hO, hI1⟩ : Only (LkSet xb vL vN vP) w W ∧ LfI w W xb tb vL vN vP { s with dep := dd } W := ⟨below_only hWB, by rw [← HD0.out]; exact HK.out.below hWB, Only.refl _ _⟩
  all_goals
    have HO := Lib.hid hO
    have HWX := Lib.hid (And.intro hWs (And.intro hW0 hW1))
    clear k5' kf5 hxl hW WS WN hWB hWs hW0 hW1 hO
    have HI1 := Lib.hid hI1
    have hag : Agree (fun b => ¬ LkSet xb vL vN vP b) w W := HO.out.agree (fun b hb => hb)
    have HAG := Lib.hid hag
    have hb0 := (hI1.only.block w.heap.size (by have := HWX.out.1; omega) (fun hs => by have := HD.out.2 _ hs; omega)).trans HWX.out.2.1
    obtain ⟨d0, d1', d2, d3, d4, -⟩ := five hb0
    have HP1 := Lib.hid ((HR.out.1.keep hag).here.1)
    have HIs := ris_any HP1.out (small_fit HX.out.1)
    rw [HX.out.1.is] at HIs
    clear hI1 hag hb0
    refine HIs.mono ?_
    rintro e W2 ⟨rfl, hdr⟩
    obtain ⟨k, rfl⟩ := hdr
    have HI2 := Lib.hid (HI1.out.keep (below_drewN (Below.refl _ _) k))
    clear HIs d0 d1' d2 d3 d4
    obtain ⟨W2, hW2, hI2⟩ : ∃ W2, W2 = W.drewN k ∧ LfI w W xb tb vL vN vP { s with dep := dd } W2 := ⟨_, rfl, HI2.out⟩
    rw [← hW2]
    clear hW2 HI2 HP1
    have HI2 := Lib.hid hI2
    obtain ⟨k0, k1, k2, k3, k4, k5, k6, kf⟩ := hI2.lk.cells
    have hb0 := (hI2.only.block w.heap.size (by have := HWX.out.1; omega) (fun hs => by have := HD.out.2 _ hs; omega)).trans HWX.out.2.1
    obtain ⟨d0, d1', d2, d3, d4, -⟩ := five hb0
    have hT2 := HT.out.keep ((HO.out.trans hI2.only).agree (fun b hb hs => by
      have := HD.out.1 b hs
      rcases hb with hb | hb
      · exact this.1 hb
      · exact this.2 hb))
    obtain ⟨c0, c1', c2, c3, -, -⟩ := hT2.cells
    clear hI2 hb0 hT2
    have hir0 : (i : Int) = (root : Int) ∨ (i : Int) ≠ (root : Int) := by omega
    have hmax : Hid (n ≤ 1000) := Lib.hid (by omega)
    rcases hir0 with hir | hir
    case' inl =>
      have HIR := Lib.hid hir
      clear hnr hir
      go_wp2_with fail
      have hir := HIR.out
      have hgt : decide ((m : Int) < (n : Int)) = false := by simp; omega
      have hgt2 : decide (m < n) = false := by simp; omega
      have hne : ((i : Int) != (root : Int)) = false := by simp; omega
      have hne2 : (i != root) = false := by simp; omega
      clear hir
      go_quiet (fail)
      clear hgt hgt2 hne hne2 HIR
    case' inr =>
      have hq := Lib.hid (hnr (by omega))
      have HIR := Lib.hid hir
      clear hnr hir
      go_wp2_with fail
      have hir := HIR.out
      have hq := hq.out
      have hgt : decide ((m : Int) < (n : Int)) = false := by simp; omega
      have hgt2 : decide (m < n) = false := by simp; omega
      have hne : ((i : Int) != (root : Int)) = true := by simp; omega
      have hne2 : (i != root) = true := by simp; omega
      have hq1 : decide ((n : Int) < (m : Int) / 2) = false := by simp; omega
      have hq2 : decide (n < m / 2) = false := by simp; omega
      clear hir hq
      go_quiet (fail)
      clear hgt hgt2 hne hne2 hq1 hq2 HIR
  all_goals
    obtain ⟨W3, hW3, hI3⟩ : ∃ W3, W3 = W2.drewN nq ∧ LfI w W xb tb vL vN vP { s with dep := dd } W3 := ⟨_, rfl, HI2.out.keep (below_drewN (Below.refl _ _) nq)⟩
    rw [← hW3]
    clear hW3 HI2 k0 k1 k2 k3 k4 k5 k6 kf d0 d1' d2 d3 d4 c0 c1' c2 c3
    have HI3 := Lib.hid hI3
    obtain ⟨k0, k1, k2, k3, k4, k5, k6, kf⟩ := hI3.lk.cells
    have kf6 := kf 6
    clear kf hI3
    go_wp2_with fail
    clear k0 k1 k2 k3 k4 k5 k6 kf6
    go_loopw [12] (fun k wr => ∃ j : Nat, k = .int .i64 (j : Nat) ∧ j ≤ n ∧ LfI w W xb tb vL vN vP { s with dep := dd } wr) (fun k _ => n + 1 - (intOf k).toNat)
    case atStart => exact ⟨0, rfl, Nat.zero_le _, HI3.out.store⟩
    case round =>
      obtain ⟨j, rfl, hj, hI⟩ := hrel
      clear HI3
      have HI := Lib.hid hI
      have hb0 := (hI.only.block w.heap.size (by have := HWX.out.1; omega) (fun hs => by have := HD.out.2 _ hs; omega)).trans HWX.out.2.1
      obtain ⟨d0, d1', d2, d3, d4, -⟩ := five hb0
      have hb1 := (hI.only.block (w.heap.size + 1) (by have := HWX.out.1; omega) (fun hs => by have := HD.out.2 _ hs; omega)).trans HWX.out.2.2
      obtain ⟨r0, r1, -, -⟩ := pair_cells hb1
      have hag : Agree (fun b => ¬ LkSet xb vL vN vP b) w wr := HAG.out.trans (hI.only.agree (fun b hb => hb))
      have HAG2 := Lib.hid hag
      have HX1 := Lib.hid (And.intro hb0 hb1)
      have hmx := hmax.out
      clear hI hb0 hb1 hag
      by_cases hjn : j < n
      case pos =>
        have hjI : (j : Int) < (n : Int) := by omega
        obtain ⟨b, o, A2, n2, c2, B2, m2, d2', rfl, q0, q1, y1, y2⟩ := prs_pair_on ((HR.out.1.imp fun v hv => hv.1).keep HAG2.out) hjn
        have HY := Lib.hid y1
        have hmem : gt x.pairs j ∈ x.pairs := gt_mem (by rw [HX.out.2.2]; exact hjn)
        have hin := HX.out.2.1 _ hmem
        have hfair := HX.out.1.2 _ hmem
        have hn2 : n2 ≤ 16 := by
          unfold fairB mayB at hfair
          simp at hfair
          have := y1.here.1
          omega
        have HIN := Lib.hid hin
        clear y1 y2 hmem hin hfair q1
        go_wp2_with fail
        go_still_tail 7, (by kernel_rfl)
        change wpList _ _ _ _ _ wr.drew
        have hdw : Agree (fun b => ¬ LkSet xb vL vN vP b) wr wr.drew := below_all ((Below.refl wr.heap.size wr).drew)
        have HC := rin_any (w := wr.drew) c1 d1 c2 (((HR.out.2.1).keep (HAG2.out.trans hdw)).here) (((HR.out.2.2).keep (HAG2.out.trans hdw)).here) ((HY.out.keep hdw).here) (by unfold maxLen; omega) (by unfold maxLen; omega) (by unfold maxLen; omega)
        rw [in_is HIN.out] at HC
        clear hdw
        go_wp2_with fail
        refine HC.mono ?_
        rintro e w3 ⟨rfl, hb3⟩
        have hI3 := HI.out.keep (undrew hb3)
        have HI3 := Lib.hid hI3
        obtain ⟨k0, k1, k2, k3, k4, k5, k6, kf⟩ := hI3.lk.cells
        have kf6 := kf 6
        clear kf hI3 HC hb3 d0 d1' d2 d3 d4 r0 r1 q0
        go_wp2
        go_roundw
        case rel => exact ⟨j + 1, rfl, by omega, HI3.out.store⟩
        case measure => simp [intOf]; omega
      case neg =>
        have hjI : ¬ ((j : Int) < (n : Int)) := by omega
        obtain ⟨k0, k1, k2, k3, k4, k5, k6, kf⟩ := HI.out.lk.cells
        have kf1 := kf 1
        clear kf
        obtain ⟨i0, hi, hz0, hz1, hz2⟩ := info_parts Try.infoInt
        have HZ := Lib.hid (And.intro hi (And.intro hz0 (And.intro hz1 hz2)))
        have HO := Lib.hid (HI.out.lk.rl.alloc (.cells #[.int .i64 i] 3))
        clear hi hz0 hz1 hz2
        go_wp2_with (at_builtin; refine wpList_append_lies _ rfl _ _ 62 rfl 0 3 i0 (.int .i64 0) 1 8 Try.underlying62 HZ.out.1 HZ.out.2.1 HZ.out.2.2.1 HZ.out.2.2.2 rfl (by decide) vL s.lv.length (s.lv.map natV) rfl HO.out ⟨wr.heap.size, 0, none⟩ 1 1 [.int .i64 i] rfl rfl (cell_one _ _ rfl).1 (cell_one (wr := wr) _ 3 rfl).2 (by omega) (by unfold maxLen; omega) (by omega) (Nat.zero_le _) (wr.heap.size + 1) (by simp) ?_)
        intro q' cap w4 hown hgrow hat hlt
        have hA := HI.out.lk.below ((Below.refl wr.heap.size wr).alloc (Nat.le_refl _) (.cells #[.int .i64 i] 3))
        have hob := grow_obj hgrow hA.xl hA.obj
        have k1' : w4.cell? ⟨xb, 1, none⟩ = some vL := by simp [World.cell?, hob]
        have kf1' : w4.frozen? ⟨xb, 1, none⟩ = false := by simp [World.frozen?, hob]
        have hL5 := hA.moreL (i := i) hown hgrow (hat.imp (fun e => e.symm) (fun e => by rw [e, alloc_sz]; rfl))
        have hO5 : Only (LkSet xb vL vN vP) W (w4.setCell ⟨xb, 1, none⟩ (.slice (some ⟨q', 0, none⟩) (s.lv.length + 1) cap)) := (HI.out.only.trans (below_only ((Below.refl wr.heap.size wr).alloc (Nat.le_refl _) (.cells #[.int .i64 i] 3)))).trans (grow_only hgrow (fun k hk => .inr (.inl hk)) (.inl rfl))
        have HL5 := Lib.hid hL5
        have HO5 := Lib.hid hO5
        have HV := Lib.hid (show ∀ k, (Value.slice (some ⟨q', 0, none⟩) (s.lv.length + 1) cap).ownBlock = some k → vL.ownBlock = some k ∨ w.heap.size ≤ k from fun k hk => by
          rcases hat with e | e
          · rw [← hk] ; exact .inl e
          · injection hk with hk
            have := HI.out.only.size; have := HWX.out.1
            rw [← hk]; show _ ∨ w.heap.size ≤ q'
            omega)
        clear hown hgrow hat hlt hA hob hL5 hO5 k0 k1 k2 k3 k4 k5 k6 kf1 d0 d1' d2 d3 d4 r0 r1 HX1 HAG2 HO HI
        go_wp2_with fail
        obtain ⟨w5, hw5, hL5, hO5⟩ : ∃ w5, w5 = w4.setCell ⟨xb, 1, none⟩ (.slice (some ⟨q', 0, none⟩) (s.lv.length + 1) cap) ∧ LkIn w5 xb tb (.slice (some ⟨q', 0, none⟩) (s.lv.length + 1) cap) vN vP ⟨s.lv ++ [i], s.nx, s.ps, s.nodes, dd⟩ ∧ Only (LkSet xb vL vN vP) W w5 := ⟨_, rfl, HL5.out, HO5.out⟩
        rw [← hw5]
        generalize (Value.slice (some ⟨q', 0, none⟩) (s.lv.length + 1) cap) = vL' at hL5 HV
        clear hw5 HL5 HO5 k1' kf1'
        have hb0 := (hO5.block w.heap.size (by have := HWX.out.1; omega) (fun hs => by have := HD.out.2 _ hs; omega)).trans HWX.out.2.1
        obtain ⟨d0, d1', d2, d3, d4, -⟩ := five hb0
        obtain ⟨k0, -, k2, k3, -, -, -, kf⟩ := hL5.cells
        have kf2 := kf 2
        have HA5 := Lib.hid (hL5.below ((Below.refl w5.heap.size w5).alloc (Nat.le_refl _) (.cells #[.int .i64 x.next] 3)))
        have HO5 := Lib.hid hO5
        clear hb0 hL5 hO5 kf k3 k0
        have ka2 := HA5.out.cells.2.2.1
        have hobx : w5.frozen? ⟨xb, 2, none⟩ = false := kf2
        go_region_law (first
          | ((refine step_append_lies _ (by rfl) _ _ 62 (by rfl) 0 3 i0 (.int .i64 0) 1 8 Try.underlying62 HZ.out.1 HZ.out.2.1 HZ.out.2.2.1 HZ.out.2.2.2 (by rfl) (by decide) vN s.nx.length (s.nx.map intV) (by rfl) HA5.out.rn ⟨w5.heap.size, 0, none⟩ 1 1 [.int .i64 x.next] (by rfl) (by rfl) (cell_one (wr := w5) _ 3 rfl).1 (cell_one (wr := w5) _ 3 rfl).2 (by omega) (by unfold maxLen; omega) (by omega) (Nat.zero_le _) (w5.heap.size + 1) (by simp) ?_
              intro q2 cap2 w6 hown hgrow hat hlt
              have hob := grow_obj hgrow HA5.out.xn HA5.out.obj
              have k2' : w6.cell? ⟨xb, 2, none⟩ = some vN := by simp [World.cell?, hob]
              have kf2' : w6.frozen? ⟨xb, 2, none⟩ = false := by simp [World.frozen?, hob]
              have HG6 := Lib.hid (And.intro hown (And.intro (undrew_grown hgrow) hat))
              clear hown hgrow hat hlt hob)))
        all_goals
          obtain ⟨w7, hw7, hL7, hO7⟩ : ∃ w7, w7 = w6.setCell ⟨xb, 2, none⟩ (.slice (some ⟨q2, 0, none⟩) (s.nx.length + 1) cap2) ∧ LkIn w7 xb tb vL' (.slice (some ⟨q2, 0, none⟩) (s.nx.length + 1) cap2) vP ⟨s.lv ++ [i], s.nx ++ [x.next], s.ps, s.nodes, dd⟩ ∧ Only (LkSet xb vL vN vP) W w7 :=
            ⟨_, rfl, HA5.out.moreN (i := x.next) HG6.out.1 HG6.out.2.1 (HG6.out.2.2.imp (fun e => e.symm) (fun e => by rw [e, alloc_sz]; rfl)),
              (HO5.out.trans (below_only ((Below.refl w5.heap.size w5).alloc (Nat.le_refl _) (.cells #[.int .i64 x.next] 3)))).trans (grow_only (v := vN) (w := w5.alloc (.cells #[.int .i64 x.next] 3)) HG6.out.2.1 (fun k hk => .inr (.inr (.inl hk))) (.inl rfl))⟩
          rw [← hw7]
          have HV2 := Lib.hid (show ∀ k, (Value.slice (some ⟨q2, 0, none⟩) (s.nx.length + 1) cap2).ownBlock = some k → vN.ownBlock = some k ∨ w.heap.size ≤ k from fun k hk => by
            rcases HG6.out.2.2 with e | e
            · rw [← hk] ; exact .inl e
            · injection hk with hk
              have := HO5.out.size; have := HWX.out.1
              rw [← hk]; show _ ∨ w.heap.size ≤ q2
              omega)
          generalize (Value.slice (some ⟨q2, 0, none⟩) (s.nx.length + 1) cap2) = vN' at hL7 HV2
          clear hw7 k2' kf2' HG6 HA5 HO5 d0 d1' d2 d3 d4 ka2 k2 kf2 hobx
          have hb0 := (hO7.block w.heap.size (by have := HWX.out.1; omega) (fun hs => by have := HD.out.2 _ hs; omega)).trans HWX.out.2.1
          obtain ⟨d0, d1', d2, d3, d4, -⟩ := five hb0
          obtain ⟨-, -, -, k3, -, -, -, kf⟩ := hL7.cells
          have kf3 := kf 3
          have hS : ∀ b, LkSet xb vL' vN' vP b → LkSet xb vL vN vP b ∨ w.heap.size ≤ b := fun b hb => by
            rcases hb with hb | hb | hb | hb
            · exact .inl (.inl hb)
            · exact (HV.out b hb).imp (fun h => .inr (.inl h)) id
            · exact (HV2.out b hb).imp (fun h => .inr (.inr (.inl h))) id
            · exact .inl (.inr (.inr (.inr hb)))
          have hpr : On (fun b => ¬ LkSet xb vL' vN' vP b) w7 (Prs · A n c x.pairs) := ((((HR.out.1.imp fun v hv => hv.1).now).keep ((HO.out.trans hO7).agree (fun b hb => hb.1))).mono fun b hb hs => by
            rcases hS b hs with h | h
            · exact hb.1 h
            · have := hb.2; omega)
          obtain ⟨xs, hown, hrd⟩ := hL7.rp
          have HL7 := Lib.hid hL7
          have HO7 := Lib.hid hO7
          have HS := Lib.hid hS
          have HP7 := Lib.hid (And.intro hpr (And.intro hown hrd))
          have HOW7 := Lib.hid (show w7.drew.ownsRow 0 27 2 vP s.ps.length xs from hown)
          have hsum : s.ps.length + n ≤ 9000 := by omega
          clear hb0 hL7 hO7 kf hS hpr hown hrd
          go_wp2_with fail
          go_region_law (first
            | ((refine step_append_prs (w := w7.drew) (w0 := w7) (by rfl) _ _ (by rfl) 0 vP s.ps.length xs (by rfl) HOW7.out A n c x.pairs (by rfl) HP7.out.1 ((Below.refl w7.heap.size w7).drew) hsum (Nat.zero_le _) ?_
                intro v' w8 ys hys hown hgrow hat
                obtain ⟨A8, c8, rfl, -⟩ := own_new hown
                have hgrow := undrew_grown hgrow
                have hob := grow_obj hgrow HL7.out.xp HL7.out.obj
                have k3' : w8.cell? ⟨xb, 3, none⟩ = some vP := by simp [World.cell?, hob]
                have kf3' : w8.frozen? ⟨xb, 3, none⟩ = false := by simp [World.frozen?, hob]
                have HG8 := Lib.hid (And.intro hys (And.intro hown (And.intro hgrow (show (Value.slice A8 (s.ps.length + n) c8).ownBlock = vP.ownBlock ∨ (Value.slice A8 (s.ps.length + n) c8).ownBlock = some w7.heap.size from hat))))
                clear hys hown hgrow hat hob)))
          all_goals
            have hL9 := HL7.out.moreP (w0 := w7) (w := w7) HP7.out.2.2 HG8.out.1 HX.out.2.2 HG8.out.2.1 HG8.out.2.2.1 HG8.out.2.2.2
            have hO9 := HO7.out.trans (grow_only (v := vP) (w := w7) (xb := xb) (o := 3) (u := .slice A8 (s.ps.length + n) c8) (S := LkSet xb vL vN vP) HG8.out.2.2.1 (fun k hk => .inr (.inr (.inr hk))) (.inl rfl))
            have HQ := Lib.hid (show LkOut w (LkSet xb vL vN vP) xb tb ⟨s.lv ++ [i], s.nx ++ [x.next], s.ps ++ x.pairs, s.nodes, dd⟩ (.returned (.tuple #[])) (w8.setCell ⟨xb, 3, none⟩ (.slice A8 (s.ps.length + n) c8)) from ⟨rfl, _, ⟨_, _, _, rfl, hL9⟩, fun b hb => by
              rcases hb with hb | hb | hb | hb
              · exact .inl (.inl hb)
              · exact HS.out b (.inr (.inl hb))
              · exact HS.out b (.inr (.inr (.inl hb)))
              · rcases HG8.out.2.2.2 with e | e
                · exact .inl (.inr (.inr (.inr (e ▸ hb))))
                · rw [e] at hb
                  injection hb with hb
                  have := (HO.out.trans HO7.out).size
                  right
                  rw [← hb]
                  exact this, HO.out.trans hO9⟩)
            clear hL9 hO9 HG8 HP7 HS HL7 HO7
            go_wp2
            exact bodyPost_ret (v := .tuple #[]) (by simp [results, Try.results60, go_sem]) rfl HQ.out
end Go.Proofs.Ytdkppgmhhijkgaa

namespace Go.Proofs.Ytdkppgmhhijkgaa
open Go.RowKit
set_option linter.unusedVariables false
set_option maxRecDepth 100000

/-- What a look has seen behind a tree at a depth. -/
def seen (d : Nat) (t : Tr d) (dd : Nat) (s : LkS) : LkS :=
  ⟨s.lv ++ (lvp d t).map (fun x => x.1), s.nx ++ (lvp d t).map (fun x => x.2.2), s.ps ++ flat d t, s.nodes + (nums d t).length, dd + d⟩
def seenL (d : Nat) (dd : Nat) (ts : List (Tr d)) (s : LkS) : LkS := ts.foldl (fun s t => seen d t dd s) s
theorem seenL_snoc {d dd : Nat} (ts : List (Tr d)) (t : Tr d) (s : LkS) : seenL d dd (ts ++ [t]) s = seen d t dd (seenL d dd ts s) := by simp [seenL]
theorem seenL_is {d dd : Nat} : ∀ (ts : List (Tr d)) (s : LkS), seenL d dd ts s = ⟨s.lv ++ ((ts.map (lvp d)).flatten).map (fun x => x.1), s.nx ++ ((ts.map (lvp d)).flatten).map (fun x => x.2.2), s.ps ++ (ts.map (flat d)).flatten, s.nodes + (ts.map (nums d)).flatten.length, if ts.length = 0 then s.dep else dd + d⟩
  | [], s => by simp [seenL]
  | t :: ts, s => by
    have h := seenL_is (dd := dd) ts (seen d t dd s)
    show seenL d dd ts (seen d t dd s) = _
    rw [h]
    simp only [seen, List.map_cons, List.flatten_cons, List.map_append, List.append_assoc, List.length_append, List.length_cons]
    congr 1
    · omega
    · simp
theorem seen_leaf (t : Tr 0) (dd : Nat) (s : LkS) : seen 0 t dd s = ⟨s.lv ++ [(lf t).1], s.nx ++ [(lf t).2.2], s.ps ++ (lf t).2.1, s.nodes + 1, dd⟩ := rfl
theorem seen_node {d : Nat} (t : Tr (d + 1)) (dd : Nat) (s : LkS) (h : (nn t).2.2.length ≠ 0) : seenL d (dd + 1) (nn t).2.2 { s with nodes := s.nodes + 1 } = seen (d + 1) t dd s := by
  rw [seenL_is, if_neg h]
  unfold seen
  have e : (nums (d + 1) t).length = ((nn t).2.2.map (nums d)).flatten.length + 1 := rfl
  rw [e]
  show LkS.mk _ _ _ (s.nodes + 1 + _) (dd + 1 + d) = LkS.mk (s.lv ++ (((nn t).2.2.map (lvp d)).flatten).map (fun x => x.1)) (s.nx ++ (((nn t).2.2.map (lvp d)).flatten).map (fun x => x.2.2)) (s.ps ++ ((nn t).2.2.map (flat d)).flatten) _ _
  congr 1 <;> omega

/-- There is room for all of a tree. -/
structure Room (d : Nat) (t : Tr d) (s : LkS) : Prop where
  lv : s.lv.length + (lvp d t).length ≤ 5000
  nx : s.nx.length + (lvp d t).length ≤ 5000
  ps : s.ps.length + (flat d t).length ≤ 5000
  nodes : s.nodes + (nums d t).length ≤ 3000
theorem len_mid {α β : Type} (f : α → List β) (a : List α) (x : α) (b : List α) : ((a ++ x :: b).map f).flatten.length = (a.map f).flatten.length + ((f x).length + (b.map f).flatten.length) := by simp
theorem Room.kid {d dd : Nat} {t : Tr (d + 1)} {s : LkS} (h : Room (d + 1) t s) {t1 t2 : List (Tr d)} {c : Tr d} (e : (nn t).2.2 = t1 ++ c :: t2) : Room d c (seenL d dd t1 { s with nodes := s.nodes + 1 }) := by
  obtain ⟨h1, h2, h3, h4⟩ := h
  have e1 : (lvp (d + 1) t).length = (t1.map (lvp d)).flatten.length + ((lvp d c).length + (t2.map (lvp d)).flatten.length) := by
    show ((nn t).2.2.map (lvp d)).flatten.length = _
    rw [e, len_mid]
  have e2 : (flat (d + 1) t).length = (t1.map (flat d)).flatten.length + ((flat d c).length + (t2.map (flat d)).flatten.length) := by
    show ((nn t).2.2.map (flat d)).flatten.length = _
    rw [e, len_mid]
  have e3 : (nums (d + 1) t).length = (t1.map (nums d)).flatten.length + ((nums d c).length + (t2.map (nums d)).flatten.length) + 1 := by
    show (((nn t).2.2.map (nums d)).flatten.length + 1) = _
    rw [e, len_mid]
  rw [seenL_is]
  constructor <;> simp only [List.length_append, List.length_map] <;> omega
theorem seenL_dep {d dd : Nat} (ts : List (Tr d)) (s : LkS) (h : s.dep = 0 ∨ s.dep = dd + d) : (seenL d dd ts s).dep = 0 ∨ (seenL d dd ts s).dep = dd + d := by
  rw [seenL_is]
  simp only []
  split
  · exact h
  · exact .inr rfl

/-- A kid's range. -/
def lowOf (lo : Ky) (ks : List Ky) (j : Nat) : Ky := if j = 0 then lo else kat ks (j - 1)
def highOf (hi : Ky) (ks : List Ky) (j : Nat) : Ky := if j < ks.length then kat ks j else hi
theorem kids_nth {α : Type} {P : Ky → Ky → α → Prop} {hi : Ky} : ∀ {lo : Ky} {ks : List Ky} {ts : List α}, Kids P hi lo ks ts → ∀ j, j ≤ ks.length → ∃ t1 t t2, ts = t1 ++ t :: t2 ∧ t1.length = j ∧ sndR (lowOf lo ks j) (highOf hi ks j) ∧ P (lowOf lo ks j) (highOf hi ks j) t ∧ (j < ks.length → kat ks j ≠ [])
  | lo, [], ts, h, j, hj => by
    obtain ⟨t, rfl, h1, h2⟩ := h
    obtain rfl : j = 0 := by simpa using hj
    exact ⟨[], t, [], rfl, rfl, h1, h2, fun h => by simp at h⟩
  | lo, s :: ss, ts, h, j, hj => by
    obtain ⟨t, r, rfl, h1, h2, h3, h⟩ := h
    cases j with
    | zero => exact ⟨[], t, r, rfl, rfl, h1, h3, fun _ => h2⟩
    | succ j =>
      obtain ⟨t1, t', t2, e1, e2, e3, e4, e5⟩ := kids_nth h j (by simpa using hj)
      have el : lowOf lo (s :: ss) (j + 1) = lowOf s ss j := by
        unfold lowOf
        rw [if_neg (by omega)]
        cases j with
        | zero => simp [kat]
        | succ j => simp [kat]
      have eh : highOf hi (s :: ss) (j + 1) = highOf hi ss j := by
        unfold highOf
        by_cases h : j < ss.length
        · rw [if_pos h, if_pos (by simpa using h)]; simp [kat]
        · rw [if_neg h, if_neg (by simpa using h)]
      refine ⟨t :: t1, t', t2, by rw [e1]; rfl, by simp [e2], ?_, ?_, fun h => ?_⟩
      · rw [el, eh]; exact e3
      · rw [el, eh]; exact e4
      · have := e5 (by simpa using h)
        simpa [kat] using this

/-- What the law's Over asks: none are over. -/
theorem GoodT.over {L : List (Option Nd)} {F : List Nat} {m root d : Nat} {t : Tr d} (h : GoodT L F m root d t) : (d = 0 → (nums d t).length = 1) ∧ (d ≠ 0 → (nums d t).length * (m / 2) ≤ 2 * (flat d t).length ∧ ∀ r, r ≤ (m / 2 + 1) ^ (d - 1) → 2 * r * (m / 2) ≤ (flat d t).length) := by
  have h3 := h.m3
  cases d with
  | zero => exact ⟨fun _ => rfl, fun h => absurd rfl h⟩
  | succ d =>
    refine ⟨fun h => by omega, fun _ => ?_⟩
    obtain ⟨a1, a2⟩ := h.ok.mostR h3
    refine ⟨?_, fun r hr => ?_⟩
    · rw [Nat.add_mul] at a1; omega
    · have : r * (m / 2) ≤ (m / 2 + 1) ^ d * (m / 2) := Nat.mul_le_mul_right _ hr
      rw [Nat.mul_assoc]
      omega
/-- The chain of the leaves, each by each. -/
theorem chn_each : ∀ (l : List (Nat × List Pr × Int)) (s : Int), Chn s (l.map fun x => (x.1, x.2.2)) (-1) → ∀ j, j < l.length → (l.map fun x => x.2.2).getD j 0 = if j + 1 < l.length then (((l.map fun x => x.1).getD (j + 1) 0 : Nat) : Int) else -1
  | [], s, h, j, hj => by simp at hj
  | [x], s, h, j, hj => by
    obtain rfl : j = 0 := by simpa using hj
    have := h.2
    simpa [Chn] using this
  | x :: y :: l, s, h, j, hj => by
    cases j with
    | zero =>
      have := h.2.1
      simpa using this
    | succ j =>
      have := chn_each (y :: l) _ h.2 j (by simpa using hj)
      simp only [List.map_cons, List.getD_cons_succ, List.length_cons] at this ⊢
      rw [this]
      by_cases e : j + 1 < l.length + 1
      · rw [if_pos e, if_pos (by omega)]
      · rw [if_neg e, if_neg (by omega)]
end Go.Proofs.Ytdkppgmhhijkgaa

namespace Go.Proofs.Ytdkppgmhhijkgaa
open Go.RowKit
set_option linter.unusedVariables false
set_option maxRecDepth 100000

theorem kys_at_on {C : Nat → Prop} {w : World} {A : Option Addr} {n c : Nat} {L : List Ky} (h : On C w (Kys · A n c L)) {j : Nat} (hj : j < n) :
    ∃ b o A1 n1 c1, A = some ⟨b, o, none⟩ ∧ w.cell? ⟨b, o + j, none⟩ = some (.slice A1 n1 c1) ∧ On C w (Byt · A1 n1 (kat L j)) := by
  obtain ⟨b, o, A1, n1, c1, e, hb, k0, y1⟩ := h.here.at_ hj
  have hC : C b := block_in (C := C) (w := w) (b := b) (o := o + j) fun w' ha => by
    obtain ⟨b', o', A2, n2, c2, e', hb', q0, z1⟩ := (h w' ha).at_ hj
    rw [e] at e'
    injection e' with e'
    injection e' with e1 e2
    subst e1
    subst e2
    exact ⟨A2, n2, c2, q0⟩
  refine ⟨b, o, A1, n1, c1, e, k0, fun w' ha => ?_⟩
  obtain ⟨b', o', A2, n2, c2, e', hb', q0, z1⟩ := (h w' ha).at_ hj
  rw [e] at e'
  injection e' with e'
  injection e' with e1 e2
  subst e1
  subst e2
  rw [World.cell?_of_block (w := w) (a := ⟨b, o + j, none⟩) (ha.2 b hC hb), k0] at q0
  injection q0 with q0
  injection q0 with q1 q2 q3
  rw [q1, q2]
  exact z1
/-- What a look at a node asks. -/
structure NkIn (w : World) (D S : Nat → Prop) (tb g xb : Nat) (L : List (Option Nd)) (F : List Nat) (root m many : Nat) (s : LkS) (lo hi : Ky) (A1 B1 : Option Addr) (n1 m1 : Nat) (d : Nat) (t : Tr d) (dd : Nat) : Prop where
  tr : TrM w D tb g L F root m many
  lk : LkM w S xb tb s
  dis : ∀ b, S b → ¬ D b ∧ b ≠ tb
  lo : On (fun b => ¬ S b) w (Byt · A1 n1 lo)
  hi : On (fun b => ¬ S b) w (Byt · B1 m1 hi)
  n16 : n1 ≤ 16
  m16 : m1 ≤ 16
  room : Room d t s
  dep : s.dep = 0 ∨ s.dep = dd + d
  dd : dd + d ≤ 20
  holds : Holds L d t
  mm : m ≤ 16
  few : L.length ≤ 9000

theorem ndT_leaf (d : Nat) (t : Tr (d + 1)) : (ndT (d + 1) t).leaf = false := rfl
theorem LkOut.up {w w3 : World} {S : Nat → Prop} {xb tb : Nat} {s : LkS} {e : Ending} {w' : World} (h : LkOut w3 S xb tb s e w') (ho : Only S w w3) : LkOut w S xb tb s e w' := by
  obtain ⟨h1, S', h2, h3, h4⟩ := h
  exact ⟨h1, S', h2, fun b hb => (h3 b hb).imp id (fun h => Nat.le_trans ho.size h), ho.trans h4⟩
/-- A world in which a look has one node more. -/
theorem lk_node {w w2 : World} {S : Nat → Prop} {xb tb : Nat} {s : LkS} (h : LkM w S xb tb s) (hb : Below w.heap.size w w2) (k : Nat) : LkM (w2.setCell ⟨xb, 4, none⟩ (.int .i64 k)) S xb tb { s with nodes := k } ∧ Only S w (w2.setCell ⟨xb, 4, none⟩ (.int .i64 k)) := by
  obtain ⟨vL, vN, vP, rfl, h⟩ := h
  exact ⟨⟨vL, vN, vP, rfl, (h.below hb).nodes k⟩, (below_only hb).set _ _ (.inr (.inl rfl))⟩
theorem LkM.cells {w : World} {S : Nat → Prop} {xb tb : Nat} {s : LkS} (h : LkM w S xb tb s) :
    w.cell? ⟨xb, 0, none⟩ = some (.pointer (some ⟨tb, 0, none⟩)) ∧ w.cell? ⟨xb, 4, none⟩ = some (.int .i64 s.nodes) ∧ w.cell? ⟨xb, 5, none⟩ = some (.int .i64 s.dep) ∧ w.cell? ⟨xb, 6, none⟩ = some (.bool false) ∧ S xb ∧
      ∀ o, w.frozen? ⟨xb, o, none⟩ = false := by
  obtain ⟨vL, vN, vP, rfl, h⟩ := h
  obtain ⟨k0, k1, k2, k3, k4, k5, k6, kf⟩ := h.cells
  exact ⟨k0, k4, k5, k6, .inl rfl, kf⟩

set_option maxHeartbeats 4000000 in
theorem node_leaf {w : World} {D S : Nat → Prop} {tb g xb : Nat} {L : List (Option Nd)} {F : List Nat} {root m many : Nat} {s : LkS} {lo hi : Ky} {A1 B1 : Option Addr} {n1 m1 : Nat} {t : Tr 0} {dd : Nat} {b : Bool} (c1 d1 : Nat)
    (hn : NkIn w D S tb g xb L F root m many s lo hi A1 B1 n1 m1 0 t dd) (hok : Ok m 0 b lo hi t) (hr : b = true → num 0 t = root) :
    Calls Try.prog 37 #[.pointer (some ⟨xb, 0, none⟩), .int .i64 (num 0 t : Nat), .agg #[.slice A1 n1 c1, .slice B1 m1 d1], .int .i64 dd] w (LkOut w S xb tb (seen 0 t dd s)) := by
  have HN := Lib.hid hn
  have HOK := Lib.hid (And.intro hok hr)
  have hx : lat L (num 0 t) = some (ndT 0 t) := hn.holds
  have HB := Lib.hid (show ∃ W, W = w.alloc (.cells #[.slice A1 n1 c1, .slice B1 m1 d1] 81) ∧ Below w.heap.size w W ∧ W.heap.size = w.heap.size + 1 ∧ W.heap[w.heap.size]? = some (.cells #[.slice A1 n1 c1, .slice B1 m1 d1] 81 (0, 0)) from ⟨_, rfl, (Below.refl _ _).alloc (Nat.le_refl _) _, by simp, heap_alloc_new w _⟩)
  have HXL := Lib.hid (And.intro hx (lat_lt hx))
  have hdd := hn.dd
  have hnd : s.nodes + 1 ≤ 3000 := hn.room.nodes
  obtain ⟨q0, -, -, -, qS, -⟩ := hn.lk.cells
  have hxl : xb < w.heap.size := hn.lk.lt _ qS
  have htl : tb < w.heap.size := hn.tr.lt.1
  obtain ⟨p0, -, -, -, -, -⟩ := hn.tr.cells
  clear hn hok hr hx qS
  go_enter Try.func37, Try.ntmps37
  go_wp2_with fail
  obtain ⟨W, hW, hWB, hWs, hWh⟩ := HB.out
  rw [← hW]
  clear hW HB q0 p0 hxl htl
  have HT := Lib.hid (HN.out.tr.below hWB)
  have HK := Lib.hid (HN.out.lk.below hWB)
  have HG := get_node HT.out.2.1 (k := num 0 t) (by have := HXL.out.2; have := HN.out.few; omega) HXL.out.1
  have HWX := Lib.hid (And.intro hWB (And.intro hWs hWh))
  clear hWB hWs hWh
  refine HG.mono ?_
  rintro e w3 ⟨hh, rfl, hin, hb3⟩
  have HIN := Lib.hid hin
  have HB3 := Lib.hid hb3
  have hrw : w.heap.size < w3.heap.size := by have := HWX.out.2.1; have := hb3.size; omega
  have hbr := (hb3.block w.heap.size (by have := HWX.out.2.1; omega)).trans HWX.out.2.2
  obtain ⟨r0, r1, -, -⟩ := pair_cells hbr
  clear HG hin hb3 hbr
  have HK3 := Lib.hid (HK.out.below HB3.out)
  obtain ⟨k0, k4, -, k6, kS, kf⟩ := HK3.out.cells
  have hxl : xb < w3.heap.size := HK3.out.lt _ kS
  have hxw : ¬ (xb = w.heap.size) := fun e => by have := HN.out.lk.lt _ kS; omega
  have hwx : ¬ (w.heap.size = xb) := fun e => hxw e.symm
  have kf4 := kf 4
  have hw1 : IntKind.i64.wrap ((s.nodes : Int) + 1) = (s.nodes : Int) + 1 := IntWalk.i64_in _ (by omega)
  have g1 : decide ((20 : Int) < (dd : Int)) = false := by simp; omega
  have g2 : decide ((3000 : Int) < (s.nodes : Int) + 1) = false := by simp; omega
  clear kf kS
  go_wp2_with fail
  --T2
  clear k0 k4 k6 kf4 hxl hxw hwx r0 r1
  obtain ⟨W5, hW5, hK5, hO5, hs5⟩ : ∃ W5, W5 = (w3.setCell ⟨xb, 4, none⟩ (.int .i64 ((s.nodes : Int) + 1))).alloc (.cells #[.bool true, .slice hh.A hh.n hh.c, .slice hh.B hh.m hh.d, .slice hh.K hh.k hh.e, .int .i64 (ndT 0 t).next] 72) ∧ LkM W5 S xb tb { s with nodes := s.nodes + 1 } ∧ Only S w3 W5 ∧ w3.heap.size < W5.heap.size :=
    ⟨_, rfl, (lk_node HK3.out (Below.refl _ _) (s.nodes + 1)).1.below ((Below.refl _ _).alloc (Nat.le_refl _) _), (lk_node HK3.out (Below.refl _ _) (s.nodes + 1)).2.trans (below_only ((Below.refl _ _).alloc (Nat.le_refl _) _)), by simp [World.setCell]⟩
  rw [← hW5]
  have hO05 : Only S w W5 := (below_only (HWX.out.1.trans (HB3.out.mono HWX.out.1.size))).trans hO5
  have HO5 := Lib.hid (And.intro hO5 hO05)
  have hslt : ∀ b, S b → b < w.heap.size := HN.out.lk.lt
  have hagN : ∀ C : Nat → Prop, (∀ b, C b → ¬ S b) → Agree C w W5 := fun C hC => hO05.agree hC
  have hr : On (fun b => ¬ S b) W5 (NdR · hh (ndT 0 t)) := (HIN.out.reads.keep (hO5.agree (fun b hb hs => by have := hslt _ hs; have h1 : W.heap.size ≤ b := hb.1; have := HWX.out.2.1; omega))).mono (fun b hb hs => by have := hslt _ hs; have h1 : W.heap.size ≤ b := hb.1; have := HWX.out.2.1; omega)
  have HL := lkleaf_any (w := W5) (HN.out.tr.keep (hagN _ (fun b hb hs => by
      have := HN.out.dis b hs
      rcases hb with hb | hb
      · exact this.1 hb
      · exact this.2 hb))) hK5 HN.out.dis hr HOK.out.1.1 (num 0 t) HOK.out.1.2.1 (fun hne => HOK.out.1.2.2.1 (by cases b with | false => rfl | true => exact absurd (HOK.out.2 rfl) hne)) HN.out.mm HOK.out.1.2.2.2 c1 d1
      (HN.out.lo.keep (hagN _ (fun b hb => hb))) (HN.out.hi.keep (hagN _ (fun b hb => hb))) HN.out.n16 HN.out.m16 dd (show s.dep = 0 ∨ s.dep = dd from HN.out.dep) (by omega)
      (by have := HN.out.room.lv; show s.lv.length ≤ 5000; omega) (by have := HN.out.room.nx; show s.nx.length ≤ 5000; omega) (by have := HN.out.room.ps; show s.ps.length ≤ 5000; omega)
  have HL := Lib.hid HL
  clear hK5 hO5 hO05 hW5 hr hagN
  refine HL.out.mono ?_
  rintro e w6 h6
  have H6 := Lib.hid (h6.up HO5.out.2)
  obtain ⟨rfl, -⟩ := h6
  clear HL
  go_wp2
  exact bodyPost_ret (v := .tuple #[]) (by simp [results, Try.results37, go_sem]) rfl H6.out
end Go.Proofs.Ytdkppgmhhijkgaa

namespace Go.Proofs.Ytdkppgmhhijkgaa
open Go.RowKit
set_option linter.unusedVariables false
set_option maxRecDepth 100000

theorem kys_all_on {C : Nat → Prop} {w : World} {A : Option Addr} {n c : Nat} {L : List Ky} (h : On C w (Kys · A n c L)) (hn : 0 < n) :
    ∃ b o, A = some ⟨b, o, none⟩ ∧ C b ∧ b < w.heap.size ∧ ∀ j, j < n → ∃ A1 n1 c1, w.cell? ⟨b, o + j, none⟩ = some (.slice A1 n1 c1) ∧ On C w (Byt · A1 n1 (kat L j)) := by
  obtain ⟨b, o, B, m, d, e, hb, k0, y1⟩ := h.here.at_ hn
  have hC : C b := block_in (C := C) (w := w) (b := b) (o := o + 0) fun w' ha => by
    obtain ⟨b', o', A2, n2, c2, e', hb', q0, z1⟩ := (h w' ha).at_ hn
    rw [e] at e'
    injection e' with e'
    injection e' with e1 e2
    subst e1
    subst e2
    exact ⟨A2, n2, c2, q0⟩
  refine ⟨b, o, e, hC, hb, fun j hj => ?_⟩
  obtain ⟨b', o', A1, n1, c1, e', k0, y1⟩ := kys_at_on h hj
  rw [e] at e'
  injection e' with e'
  injection e' with e1 e2
  subst e1
  subst e2
  exact ⟨A1, n1, c1, k0, y1⟩
theorem ins_all_on {C : Nat → Prop} {w : World} {A : Option Addr} {n c : Nat} {L : List Int} (h : w.ownsRow 0 3 1 (.slice A n c) n (L.map intV)) (hC : ∀ a, A = some a → C a.block) (hi : Ins w A n c L) (hn : 0 < n) :
    ∃ b o, A = some ⟨b, o, none⟩ ∧ C b ∧ b < w.heap.size ∧ ∀ j, j < n → w.cell? ⟨b, o + j, none⟩ = some (.int .i64 (iat L j)) := by
  obtain ⟨b, o, e, hb, hp⟩ := hi.2.2.2.2 hn
  exact ⟨b, o, e, hC _ e, hb, hp⟩
/-- The look at all nodes of a depth. -/
structure NodeAll (d : Nat) : Prop where
  go : ∀ {w : World} {D S : Nat → Prop} {tb g xb : Nat} {L : List (Option Nd)} {F : List Nat} {root m many : Nat} {s : LkS} {lo hi : Ky} {A1 B1 : Option Addr} {n1 m1 : Nat} {t : Tr d} {dd : Nat} {b : Bool} (c1 d1 : Nat),
    NkIn w D S tb g xb L F root m many s lo hi A1 B1 n1 m1 d t dd → Ok m d b lo hi t → (b = true → num d t = root) →
    Calls Try.prog 37 #[.pointer (some ⟨xb, 0, none⟩), .int .i64 (num d t : Nat), .agg #[.slice A1 n1 c1, .slice B1 m1 d1], .int .i64 dd] w (LkOut w S xb tb (seen d t dd s))
/-- Where the loop over the kids has come to. -/
def NdI (S : Nat → Prop) (W : World) (xb tb d dd : Nat) (ts : List (Tr d)) (s1 : LkS) (v : Value) (wr : World) : Prop :=
  ∃ j : Nat, v = .int .i64 (j : Nat) ∧ j ≤ ts.length ∧ ∃ S', LkM wr S' xb tb (seenL d dd (ts.take j) s1) ∧ (∀ b, S' b → S b ∨ W.heap.size ≤ b) ∧ Only S W wr

set_option maxHeartbeats 8000000 in
theorem node_inner {d : Nat} (ih : NodeAll d) : NodeAll (d + 1) := by
  refine ⟨?_⟩
  intro w D S tb g xb L F root m many s lo hi A1 B1 n1 m1 t dd b c1 d1 hn hok hr
  have IH := Lib.hid ih
  have HN := Lib.hid hn
  have HOK := Lib.hid (And.intro hok hr)
  have hx : lat L (num (d + 1) t) = some (ndT (d + 1) t) := hn.holds.1
  have HB := Lib.hid (show ∃ W, W = w.alloc (.cells #[.slice A1 n1 c1, .slice B1 m1 d1] 81) ∧ Below w.heap.size w W ∧ W.heap.size = w.heap.size + 1 ∧ W.heap[w.heap.size]? = some (.cells #[.slice A1 n1 c1, .slice B1 m1 d1] 81 (0, 0)) from ⟨_, rfl, (Below.refl _ _).alloc (Nat.le_refl _) _, by simp, heap_alloc_new w _⟩)
  have HXL := Lib.hid (And.intro hx (lat_lt hx))
  have hdd := hn.dd
  have hnd : s.nodes + 1 ≤ 3000 := by
    have := hn.room.nodes
    have e : (nums (d + 1) t).length = ((nn t).2.2.map (nums d)).flatten.length + 1 := rfl
    omega
  obtain ⟨q0, -, -, -, qS, -⟩ := hn.lk.cells
  have hxl : xb < w.heap.size := hn.lk.lt _ qS
  have htl : tb < w.heap.size := hn.tr.lt.1
  obtain ⟨p0, -, -, -, -, -⟩ := hn.tr.cells
  have hkl1 : 1 ≤ (nn t).2.1.length := hok.1
  have hkl2 : (nn t).2.1.length ≤ m := hok.2.1
  have hkl3 : b = false → m / 2 ≤ (nn t).2.1.length := hok.2.2.1
  have hkl4 : (nn t).2.2.length = (nn t).2.1.length + 1 := Kids.len (P := Ok m d false) (hi := hi) (lo := lo) hok.2.2.2
  have hm16 := hn.mm
  clear ih hn hok hx qS
  go_enter Try.func37, Try.ntmps37
  go_wp2_with fail
  obtain ⟨W, hW, hWB, hWs, hWh⟩ := HB.out
  rw [← hW]
  clear hW HB q0 p0 hxl htl
  have HT := Lib.hid (HN.out.tr.below hWB)
  have HK := Lib.hid (HN.out.lk.below hWB)
  have HG := get_node HT.out.2.1 (k := num (d + 1) t) (by have := HXL.out.2; have := HN.out.few; omega) HXL.out.1
  have HWX := Lib.hid (And.intro hWB (And.intro hWs hWh))
  clear hWB hWs hWh
  refine HG.mono ?_
  rintro e w3 ⟨⟨A, n, c, B, mk, dk, K, kk, ee⟩, rfl, hin, hb3⟩
  have hmk : (nn t).2.1.length = mk := hin.reads.here.2.1.1
  have hkk : ((nn t).2.2.map (fun c => (num d c : Int))).length = kk := hin.reads.here.2.2.1
  rw [List.length_map] at hkk
  obtain ⟨bk, ok, rfl, hbkC, hbkl, hkeys⟩ := kys_all_on (n := mk) (hin.reads.imp fun v hv => hv.2.1) (by omega)
  obtain ⟨bi, oi, rfl, hbiC, hbil, hints⟩ := ins_all_on (C := fun b => W.heap.size ≤ b ∧ b < w3.heap.size) (n := kk) hin.kids hin.inK hin.reads.here.2.2 (by omega)
  have HKEY := Lib.hid (And.intro hbkC (And.intro hbkl hkeys))
  have HINT := Lib.hid (And.intro hbiC (And.intro hbil hints))
  have HB3 := Lib.hid hb3
  have hrw : w.heap.size < w3.heap.size := by have := HWX.out.2.1; have := hb3.size; omega
  have hbr := (hb3.block w.heap.size (by have := HWX.out.2.1; omega)).trans HWX.out.2.2
  have HT3 := Lib.hid (HT.out.below hb3)
  have hslt : ∀ b, S b → b < w.heap.size := HN.out.lk.lt
  have HSL := Lib.hid hslt
  clear HG hin hb3 hbkC hbkl hkeys hbiC hbil hints
  have HK3 := Lib.hid (HK.out.below HB3.out)
  obtain ⟨k0, k4, -, k6, kS, kf⟩ := HK3.out.cells
  obtain ⟨-, c1', c2, -, -, -⟩ := HT3.out.cells
  have hxl : xb < w3.heap.size := HK3.out.lt _ kS
  have htl : tb < w3.heap.size := HT3.out.lt.1
  have hxt : ¬ (xb = tb) := fun e => (HN.out.dis _ kS).2 e
  have htx : ¬ (tb = xb) := fun e => hxt e.symm
  have hxw : ¬ (xb = w.heap.size) := fun e => by have := HN.out.lk.lt _ kS; omega
  have hwx : ¬ (w.heap.size = xb) := fun e => hxw e.symm
  have kf4 := kf 4
  have hw1 : IntKind.i64.wrap ((s.nodes : Int) + 1) = (s.nodes : Int) + 1 := IntWalk.i64_in _ (by omega)
  have hw2 : IntKind.i64.wrap ((mk : Int) + 1) = (mk : Int) + 1 := IntWalk.i64_in _ (by omega)
  have g1 : decide ((20 : Int) < (dd : Int)) = false := by simp; omega
  have g2 : decide ((3000 : Int) < (s.nodes : Int) + 1) = false := by simp; omega
  have g3 : decide ((mk : Int) < 1) = false := by simp; omega
  have g4 : decide ((m : Int) < (mk : Int)) = false := by simp; omega
  have hlf : (ndT (d + 1) t).leaf = false := rfl
  have g4b : decide (m < mk) = false := by simp; omega
  have g5 : ((kk : Int) != (mk : Int) + 1) = false := by simp; omega
  have hir0 : (num (d + 1) t : Int) = (root : Int) ∨ (num (d + 1) t : Int) ≠ (root : Int) := by omega
  have HRD := Lib.hid (show ¬ b = true → m / 2 ≤ mk from fun e => by have := hkl3 (by simpa using e); omega)
  have HBR := Lib.hid hbr
  clear kf kS hbr hkl3 hslt
  rcases hir0 with hir | hir
  case' inl =>
    have hne : ((num (d + 1) t : Int) != (root : Int)) = false := by simp; omega
    clear hr hir
    go_wp2_with fail
  case' inr =>
    have hq : m / 2 ≤ mk := HRD.out (fun e => hir (by rw [hr e]))
    have hne : ((num (d + 1) t : Int) != (root : Int)) = true := by simp; omega
    have hq1 : decide ((mk : Int) < (m : Int) / 2) = false := by simp; omega
    clear hr hir hq
    go_wp2_with fail
  all_goals
    clear k0 k4 k6 kf4 hxl htl hxt htx hxw hwx c1' c2 g1 g2 g3 g4 g4b g5 hne hw1
    obtain ⟨W5, hW5, hK5, hO5, hs5, hbn⟩ : ∃ W5, W5 = (w3.setCell ⟨xb, 4, none⟩ (.int .i64 ((s.nodes : Int) + 1))).alloc (.cells #[.bool false, .slice A n c, .slice (some ⟨bk, ok, none⟩) mk dk, .slice (some ⟨bi, oi, none⟩) kk ee, .int .i64 (ndT (d + 1) t).next] 72) ∧ LkM W5 S xb tb { s with nodes := s.nodes + 1 } ∧ Only S w3 W5 ∧ w3.heap.size < W5.heap.size ∧ W5.heap[w3.heap.size]? = some (.cells #[.bool false, .slice A n c, .slice (some ⟨bk, ok, none⟩) mk dk, .slice (some ⟨bi, oi, none⟩) kk ee, .int .i64 (ndT (d + 1) t).next] 72 (0, 0)) :=
      ⟨_, rfl, (lk_node HK3.out (Below.refl _ _) (s.nodes + 1)).1.below ((Below.refl _ _).alloc (Nat.le_refl _) _), (lk_node HK3.out (Below.refl _ _) (s.nodes + 1)).2.trans (below_only ((Below.refl _ _).alloc (Nat.le_refl _) _)), by simp [World.setCell], by
        have := heap_alloc_new (w3.setCell ⟨xb, 4, none⟩ (.int .i64 ((s.nodes : Int) + 1))) (.cells #[.bool false, .slice A n c, .slice (some ⟨bk, ok, none⟩) mk dk, .slice (some ⟨bi, oi, none⟩) kk ee, .int .i64 (ndT (d + 1) t).next] 72)
        rw [setcell_size] at this
        exact this⟩
    rw [← hW5]
    have hO05 : Only S w W5 := (below_only (HWX.out.1.trans (HB3.out.mono HWX.out.1.size))).trans hO5
    have HO5 := Lib.hid (And.intro hO5 hO05)
    have HK5 := Lib.hid hK5
    have HBN := Lib.hid (And.intro hs5 hbn)
    clear hW5 hK5 hO5 hs5 hbn hO05
    go_loopw [11] (fun v wr => NdI S W5 xb tb d (dd + 1) (nn t).2.2 { s with nodes := s.nodes + 1 } v wr) (fun v _ => mk + 2 - (intOf v).toNat)
    case atStart => exact ⟨0, rfl, Nat.zero_le _, S, HK5.out, fun b hb => .inl hb, Only.refl _ _⟩
    case round =>
      obtain ⟨j, rfl, hj, S', hK', hS', hO'⟩ := hrel
      have hbn := (hO'.block w3.heap.size HBN.out.1 (fun hs => by have := HSL.out _ hs; omega)).trans HBN.out.2
      have hbr := ((HO5.out.1.trans hO').block w.heap.size hrw (fun hs => by have := HSL.out _ hs; omega)).trans HBR.out
      have hT := HN.out.tr.keep ((HO5.out.2.trans hO').agree (fun b hb hs => by
        have := HN.out.dis b hs
        rcases hb with hb | hb
        · exact this.1 hb
        · exact this.2 hb))
      have hO3 := HO5.out.1.trans hO'
      have hag3 : Agree (fun b => W.heap.size ≤ b ∧ b < w3.heap.size) w3 wr := hO3.agree (fun b hb hs => by have := HSL.out _ hs; have := HWX.out.2.1; omega)
      have HR := Lib.hid (And.intro hK' (And.intro hS' (And.intro hO' (And.intro hT (And.intro hbn (And.intro hbr (And.intro hO3 hag3)))))))
      obtain ⟨r0, r1, -, -⟩ := pair_cells hbr
      obtain ⟨b0, b1, b2, b3, b4, -⟩ := five hbn
      have hz1 : w.heap.size < wr.heap.size := by have := hO3.size; omega
      have hz3 : w3.heap.size < wr.heap.size := by have := hO'.size; have := HBN.out.1; omega
      have hz5 : W5.heap.size ≤ wr.heap.size := hO'.size
      clear hK' hS' hO' hT hbn hbr hO3 hag3
      by_cases hjk : j ≤ mk
      case neg =>
        have hjI : ¬ ((j : Int) ≤ (mk : Int)) := by omega
        have hje : j = (nn t).2.2.length := by omega
        subst hje
        go_wp2
        refine bodyPost_ret (v := .tuple #[]) (by simp [results, Try.results37, go_sem]) rfl ⟨rfl, S', ?_, fun b hb => (HR.out.2.1 b hb).imp id (fun h => by have := HBN.out.1; omega), HO5.out.2.trans HR.out.2.2.1⟩
        have := HR.out.1
        rw [List.take_length, seen_node t dd s (by omega)] at this
        exact this
      case pos =>
        have hjI : (j : Int) ≤ (mk : Int) := by omega
        have hcell : ∀ i, i < mk → ∃ A1 n1 c1, wr.cell? ⟨bk, ok + i, none⟩ = some (.slice A1 n1 c1) ∧ On (fun b => W.heap.size ≤ b ∧ b < w3.heap.size) wr (Byt · A1 n1 (kat (nn t).2.1 i)) := fun i hi => by
          obtain ⟨A1, n1, c1, e1, e2⟩ := HKEY.out.2.2 i hi
          exact ⟨A1, n1, c1, (World.cell?_of_block (w := w3) (a := ⟨bk, ok + i, none⟩) (HR.out.2.2.2.2.2.2.2.2 bk HKEY.out.1 HKEY.out.2.1)).trans e1, e2.keep HR.out.2.2.2.2.2.2.2⟩
        have hkid : wr.cell? ⟨bi, oi + j, none⟩ = some (.int .i64 (iat ((nn t).2.2.map (fun c => (num d c : Int))) j)) :=
          (World.cell?_of_block (w := w3) (a := ⟨bi, oi + j, none⟩) (HR.out.2.2.2.2.2.2.2.2 bi HINT.out.1 HINT.out.2.1)).trans (HINT.out.2.2 j (by omega))
        obtain ⟨t1, tj, t2, ets, hlen, hsnd, hokj, hne⟩ := kids_nth (P := Ok m d false) HOK.out.1.2.2.2 j (by omega)
        have htake : (nn t).2.2.take j = t1 := by rw [ets, ← hlen]; simp
        have htake1 : (nn t).2.2.take (j + 1) = t1 ++ [tj] := by rw [ets, ← hlen, show t1 ++ tj :: t2 = (t1 ++ [tj]) ++ t2 by simp, show t1.length + 1 = (t1 ++ [tj]).length by simp, List.take_left]
        have hjle : j ≤ mk := hjk
        have hdt : ∀ b, D b → b < w.heap.size := HN.out.tr.lt.2
        have htb : tb < w.heap.size := HN.out.tr.lt.1
        have hcs : ∀ b, ¬ S b ∧ b < W5.heap.size → ¬ S' b := fun b hb hs => by
          rcases HR.out.2.1 b hs with h | h
          · exact hb.1 h
          · have := hb.2; omega
        have HREC := Lib.hid (show ∀ (A5 B5 : Option Addr) (n5 c5 m5 d5 : Nat) (w8 : World), Below wr.heap.size wr w8 → On (fun b => ¬ S b ∧ b < W5.heap.size) wr (Byt · A5 n5 (lowOf lo (nn t).2.1 j)) → On (fun b => ¬ S b ∧ b < W5.heap.size) wr (Byt · B5 m5 (highOf hi (nn t).2.1 j)) → n5 ≤ 16 → m5 ≤ 16 →
            Calls Try.prog 37 #[.pointer (some ⟨xb, 0, none⟩), .int .i64 (num d tj : Nat), .agg #[.slice A5 n5 c5, .slice B5 m5 d5], .int .i64 ((dd : Int) + 1)] w8 (LkOut w8 S' xb tb (seenL d (dd + 1) (t1 ++ [tj]) { s with nodes := s.nodes + 1 })) from fun A5 B5 n5 c5 m5 d5 w8 hb8 hl5 hh5 h5 h6 => by
          rw [seenL_snoc]
          have hk := HR.out.1
          rw [htake] at hk
          exact IH.out.go (dd := dd + 1) (b := false) c5 d5 ⟨HR.out.2.2.2.1.keep (below_all hb8), hk.below hb8, fun b hs => by
            rcases HR.out.2.1 b hs with h | h
            · exact HN.out.dis b h
            · have hw5 : w3.heap.size < W5.heap.size := HBN.out.1
              refine ⟨fun hd => by have := hdt b hd; omega, fun e => by omega⟩, (hl5.keep (below_all hb8)).mono hcs, (hh5.keep (below_all hb8)).mono hcs, h5, h6, HN.out.room.kid ets, seenL_dep t1 _ (by
                have := HN.out.dep
                show s.dep = 0 ∨ s.dep = dd + 1 + d
                omega), by omega, HN.out.holds.2 tj (by rw [ets]; simp), HN.out.mm, HN.out.few⟩ hokj (fun h => by cases h))
        have HSD := Lib.hid (show ∀ (A5 B5 : Option Addr) (n5 c5 m5 d5 : Nat) (w8 : World), Below wr.heap.size wr w8 → On (fun b => ¬ S b ∧ b < W5.heap.size) wr (Byt · A5 n5 (lowOf lo (nn t).2.1 j)) → On (fun b => ¬ S b ∧ b < W5.heap.size) wr (Byt · B5 m5 (highOf hi (nn t).2.1 j)) → n5 ≤ 16 → m5 ≤ 16 →
            Calls Try.prog 61 #[.agg #[.slice A5 n5 c5, .slice B5 m5 d5]] w8 fun e w' => e = .returned (.bool true) ∧ Below w8.heap.size w8 w' from fun A5 B5 n5 c5 m5 d5 w8 hb8 hl5 hh5 h5 h6 => by
          have := rsound_any (w := w8) c5 d5 ((hl5.keep (below_all hb8)).here) ((hh5.keep (below_all hb8)).here) (by unfold maxLen; omega) (by unfold maxLen; omega)
          rwa [snd_is hsnd] at this)
        have hagw : Agree (fun b => ¬ S b ∧ b < w.heap.size) w wr := (HO5.out.2.trans HR.out.2.2.1).agree (fun b hb => hb.1)
        have hup : ∀ b, ¬ S b ∧ b < w.heap.size → ¬ S b ∧ b < W5.heap.size := fun b hb => ⟨hb.1, by have := HBN.out.1; omega⟩
        have HLOW := Lib.hid (((HN.out.lo.now).keep hagw).mono hup)
        have HHIG := Lib.hid (((HN.out.hi.now).keep hagw).mono hup)
        have hupk : ∀ b, W.heap.size ≤ b ∧ b < w3.heap.size → ¬ S b ∧ b < W5.heap.size := fun b hb => ⟨fun hs => by have := HSL.out b hs; have := HWX.out.2.1; omega, by have := HBN.out.1; omega⟩
        have HC := Lib.hid (show ∀ i, i < mk → ∃ A1 n1 c1, wr.cell? ⟨bk, ok + i, none⟩ = some (.slice A1 n1 c1) ∧ On (fun b => ¬ S b ∧ b < W5.heap.size) wr (Byt · A1 n1 (kat (nn t).2.1 i)) from fun i hi => by
          obtain ⟨A1, n1, c1, e1, e2⟩ := hcell i hi
          exact ⟨A1, n1, c1, e1, e2.mono hupk⟩)
        have HKD := Lib.hid (And.intro htake1 (And.intro hsnd hne))
        have hiat : iat ((nn t).2.2.map (fun c => (num d c : Int))) j = (num d tj : Int) := by
          unfold iat
          rw [ets, List.getD_eq_getElem?_getD, List.map_append, List.getElem?_append_right (by simp [hlen])]
          simp [hlen]
        rw [hiat] at hkid
        have hbkw : bk < wr.heap.size := by have := HKEY.out.2.1; omega
        have hbiw : bi < wr.heap.size := by have := HINT.out.2.1; omega
        have hmkI : mk ≤ 16 := by omega
        have hjkk : (j : Int) < (kk : Int) := by omega
        have hjkN : j < kk := by omega
        clear hcell ets hlen hsnd hokj hne hiat htake htake1 hdt htb hcs hagw hup hupk
        have hcases : (j = 0 ∧ j < mk) ∨ (∃ j', j = j' + 1 ∧ j < mk) ∨ (∃ j', j = j' + 1 ∧ ¬ j < mk) := by
          rcases j with _ | j'
          · exact .inl ⟨rfl, by omega⟩
          · exact .inr ((Nat.lt_or_ge (j' + 1) mk).imp (fun h => ⟨j', rfl, h⟩) (fun h => ⟨j', rfl, by omega⟩))
        rcases hcases with ⟨hj0, hjm⟩ | ⟨j', hj0, hjm⟩ | ⟨j', hj0, hjm⟩
        case' inl =>
          obtain ⟨A4, n4, c4, e4, y4⟩ := HC.out j hjm
          have hjmI : (j : Int) < (mk : Int) := by omega
          have hjz : ¬ ((0 : Int) < (j : Int)) := by omega
          have HLO := Lib.hid (show On (fun b => ¬ S b ∧ b < W5.heap.size) wr (Byt · A1 n1 (lowOf lo (nn t).2.1 j)) from by unfold lowOf; rw [if_pos hj0]; exact HLOW.out)
          have HHI := Lib.hid (show On (fun b => ¬ S b ∧ b < W5.heap.size) wr (Byt · A4 n4 (highOf hi (nn t).2.1 j)) from by unfold highOf; rw [if_pos (by omega)]; exact y4)
          have hm0 : n4 ≠ 0 := fun e => by
            have h1 := HKD.out.2.2 (by omega)
            have h2 := y4.here.1
            rw [e] at h2
            exact h1 (List.length_eq_zero_iff.1 h2)
          clear y4 hj0
          have g6 : ((n4 : Int) == 0) = false := by simp; omega
          have g7 : decide ((j : Int) < (mk : Int)) = true := by simp; omega
          go_wp2_with fail
        case' inr.inl =>
          obtain ⟨A3, n3, c3, e3, y3⟩ := HC.out j' (by omega)
          obtain ⟨A4, n4, c4, e4, y4⟩ := HC.out j hjm
          have hws : IntKind.i64.wrap ((j : Int) - 1) = (j' : Int) := by rw [show (j : Int) - 1 = (j' : Int) by omega]; exact IntWalk.i64_in _ (by omega)
          have hjmI : (j : Int) < (mk : Int) := by omega
          have hjz : (0 : Int) < (j : Int) := by omega
          have hjmJ : (j' : Int) < (mk : Int) := by omega
          have hjmN : j' < mk := by omega
          have HLO := Lib.hid (show On (fun b => ¬ S b ∧ b < W5.heap.size) wr (Byt · A3 n3 (lowOf lo (nn t).2.1 j)) from by unfold lowOf; rw [if_neg (by omega), hj0]; exact y3)
          have HHI := Lib.hid (show On (fun b => ¬ S b ∧ b < W5.heap.size) wr (Byt · A4 n4 (highOf hi (nn t).2.1 j)) from by unfold highOf; rw [if_pos (by omega)]; exact y4)
          have hm0 : n4 ≠ 0 := fun e => by
            have h1 := HKD.out.2.2 (by omega)
            have h2 := y4.here.1
            rw [e] at h2
            exact h1 (List.length_eq_zero_iff.1 h2)
          clear y3 y4 hj0
          have g6 : ((n4 : Int) == 0) = false := by simp; omega
          have g7 : decide ((j : Int) < (mk : Int)) = true := by simp; omega
          go_wp2_with fail
        case' inr.inr =>
          obtain ⟨A3, n3, c3, e3, y3⟩ := HC.out j' (by omega)
          have hws : IntKind.i64.wrap ((j : Int) - 1) = (j' : Int) := by rw [show (j : Int) - 1 = (j' : Int) by omega]; exact IntWalk.i64_in _ (by omega)
          have hjmI : ¬ ((j : Int) < (mk : Int)) := by omega
          have hjz : (0 : Int) < (j : Int) := by omega
          have hjmJ : (j' : Int) < (mk : Int) := by omega
          have hjmN : j' < mk := by omega
          have HLO := Lib.hid (show On (fun b => ¬ S b ∧ b < W5.heap.size) wr (Byt · A3 n3 (lowOf lo (nn t).2.1 j)) from by unfold lowOf; rw [if_neg (by omega), hj0]; exact y3)
          have HHI := Lib.hid (show On (fun b => ¬ S b ∧ b < W5.heap.size) wr (Byt · B1 m1 (highOf hi (nn t).2.1 j)) from by unfold highOf; rw [if_neg (by omega)]; exact HHIG.out)
          clear y3 hj0
          have g7 : decide ((j : Int) < (mk : Int)) = false := by simp; omega
          have g6 := g7
          go_wp2_with fail
        all_goals
          have h5 := HLO.out.here.1
          have h6 := HHI.out.here.1
          have h7 := HKD.out.2.1.1
          have h8 := HKD.out.2.1.2.1
          rw [h5] at h7
          rw [h6] at h8
          have H78 := Lib.hid (And.intro h7 h8)
          clear h5 h6 h7 h8
          refine (HSD.out _ _ _ _ _ _ _ ((Below.refl wr.heap.size wr).alloc (Nat.le_refl _) _) HLO.out HHI.out H78.out.1 H78.out.2).mono ?_
          rintro e w8 ⟨rfl, hb8⟩
          have hrg := (hb8.block wr.heap.size (by simp)).trans (heap_alloc_new wr _)
          obtain ⟨z0, z1, -, -⟩ := pair_cells hrg
          have hbw := ((Below.refl wr.heap.size wr).alloc (Nat.le_refl _) _).trans (hb8.mono (by rw [alloc_sz]; exact Nat.le_succ _))
          have hbn8 := (hbw.block w3.heap.size hz3).trans HR.out.2.2.2.2.1
          obtain ⟨y0, y1, y2, y3', y4', -⟩ := five hbn8
          have hkid8 := (hbw.cell (p := ⟨bi, _, none⟩) hbiw).trans hkid
          have HBW := Lib.hid hbw
          clear hb8 hrg hbw hbn8 r0 r1 b0 b1 b2 b3 b4 hkid
          go_wp2_with fail
          go_still_tail 9, (by kernel_rfl)
          change wpList _ _ _ _ _ w8.drew
          clear z0 z1 y0 y1 y2 y3' y4' hkid8
          go_wp2_with fail
          refine (HREC.out _ _ _ _ _ _ _ HBW.out.drew HLO.out HHI.out H78.out.1 H78.out.2).mono ?_
          rintro e w9 ⟨rfl, S9, q1, q2, q3⟩
          have hs8 : wr.heap.size ≤ w8.heap.size := HBW.out.size
          have HS9 := Lib.hid (show LkM w9 S9 xb tb (seenL d (dd + 1) (t1 ++ [tj]) { s with nodes := s.nodes + 1 }) ∧ (∀ b, S9 b → S b ∨ W5.heap.size ≤ b) ∧ Only S W5 w9 from ⟨q1, fun b hb => by
              rcases q2 b hb with h | h
              · exact HR.out.2.1 b h
              · have h' : w8.heap.size ≤ b := h
                exact .inr (by omega), (HR.out.2.2.1.trans (below_only HBW.out.drew)).trans2 q3 (fun b hb => HR.out.2.1 b hb)⟩)
          clear q1 q2 q3
          go_wp2
          go_roundw
          case rel =>
            exact ⟨j + 1, rfl, by omega, S9, by rw [HKD.out.1]; exact HS9.out.1, HS9.out.2.1, HS9.out.2.2⟩
          case measure => simp [intOf]; omega

theorem node_all : ∀ (d : Nat), NodeAll d
  | 0 => ⟨fun c1 d1 hn hok hr => node_leaf c1 d1 hn hok hr⟩
  | d + 1 => node_inner (node_all d)
end Go.Proofs.Ytdkppgmhhijkgaa
