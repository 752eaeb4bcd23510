/- The deeds that came in: what, at which number, and a node. No condition. -/
import Derived.Test.YtbphjhmmdkaggaaRows
import Derived.Test.YtbphjhmmdkaggaaNv
import Derived.Deep.Slices
import Derived.Deep.Fields
import Derived.WalkKit
import Derived.ProofKit
import Derived.OpenShut
import Derived.ShutString
import Derived.ChangeOld
import Derived.Below
namespace Go.Proofs.Ytbphjhmmdkaggaa
open Go.ChangeShapes Go.WideShapes Go.ChangeAt Go.RowKit Go.Deep
set_option linter.unusedVariables false

section
variable {H : Type} {enc : TypeId × Value → H} {P : Program} {w : World} {base : Nat} {spare : Nat → Bool} {held : Bool}
/-- A slice of structs that came in: nil, or at each element each field's own cell, and its reading. -/
theorem slice_cells {t e : TypeId} {fs : Array Field} {fuel : Nat} {cs : List Value} {x : DataW H × List MemPlace} (ht : P.underlying t = some (.slice e)) (he : P.underlying e = some (.struct fs))
    (hone : oneCellFields P fs = true) (hC : P.cellsOf e = fs.size) (h : DataW.trod enc P w base spare held fuel t cs = some x) :
    cs = [.slice none 0 0] ∨ ∃ (a : Addr) (len cap : Nat), cs = [.slice (some a) len cap] ∧ len ≤ cap ∧ cap ≤ maxLen ∧
      ∀ i, i < len → ∀ (j : Nat) (f : Field), fs[j]? = some f → ∃ (v : Value) (y : DataW H × List MemPlace) (n : Nat), w.cell? (a.add (i * fs.size + j)) = some v ∧ DataW.trod enc P w base spare held n f.type [v] = some y := by
  rcases open_slice ht h with h0 | ⟨a, len, cap, m, n, D, Pl, hcs, _, hl, hm, hmm, _, hi⟩
  · exact .inl h0.1
  · refine .inr ⟨a, len, cap, hcs, hl, hm, fun i hil j f hj => ?_⟩
    have him : i < m := by
      rw [hmm]
      split <;> omega
    obtain ⟨cs', hc, ht'⟩ := hi i him
    rw [hC] at hc
    obtain ⟨_, hcl, hat⟩ := World.cells?_some hc
    obtain ⟨ys, n', _, _, _, hyl, hf⟩ := DataW.trod_struct he ht'
    obtain ⟨ho, hk⟩ := hone_of hone j f hj
    have hjl : j < fs.size := (Array.getElem?_eq_some_iff.1 hj).1
    have h1 := hf j f hj
    rw [ho, hk] at h1
    have e1 : (cs'.drop j).take 1 = [cs'[j]'(by omega)] := by
      rw [List.drop_eq_getElem_cons (by omega)]
      rfl
    rw [e1, List.getElem?_eq_getElem (show j < ys.length by omega)] at h1
    refine ⟨cs'[j]'(by omega), _, n', ?_, h1⟩
    rw [← add_add, hat j hjl, List.getElem?_eq_getElem (by omega)]
end

/-- What holds of something at each place holds of a list's. -/
theorem list_of {T : Type} (d : T) {Q : Nat → T → Prop} (n : Nat) (h : ∀ j, j < n → ∃ p, Q j p) : ∃ L : List T, L.length = n ∧ ∀ j, j < n → Q j (L.getD j d) := by
  induction n with
  | zero => exact ⟨[], rfl, fun j hj => absurd hj (by omega)⟩
  | succ n ih =>
    obtain ⟨L, h1, h2⟩ := ih (fun j hj => h j (by omega))
    obtain ⟨p, hp⟩ := h n (by omega)
    refine ⟨L ++ [p], by simp [h1], fun j hj => ?_⟩
    rw [List.getD_eq_getElem?_getD]
    rcases Nat.lt_succ_iff_lt_or_eq.1 hj with hj | rfl
    · rw [List.getElem?_append_left (by omega), ← List.getD_eq_getElem?_getD]
      exact h2 j hj
    · rw [List.getElem?_append_right (by omega), h1]
      simpa using hp

section
variable {H : Type} {enc : TypeId × Value → H} {w : World} {base : Nat} {held : Bool}
/-- A slice of bytes that came in reads as a list. -/
theorem came {fuel : Nat} {v : Value} {x : DataW H × List MemPlace} (h : DataW.trod enc Try.prog w base (fun _ => true) held fuel 60 [v] = some x) :
    ∃ A n c l, v = .slice A n c ∧ Byt w A n l := by
  rcases open_ints Try.underlying60 Try.underlying5 (by kernel_rfl) h with ⟨hcs, _⟩ | ⟨a, n, c, zs, hcs, _, hl, hm, hz, _, hcell, hwz⟩
  · simp at hcs
    exact ⟨none, 0, 0, [], hcs, rfl, fun h => absurd h (by omega)⟩
  · simp at hcs
    have hz' : zs.length = c := by simpa using hz
    refine ⟨some a, n, c, (zs.take n).map fun z => z.toNat.toUInt8, hcs, by simp; omega, fun h0 => ⟨a, rfl, ?_, fun j hj => ?_⟩⟩
    · have := World.block_lt_of_cell? w _ (hcell 0 (by omega))
      rwa [add_block] at this
    · simp at hj
      rw [hcell j (by omega)]
      have hb := hwz (zs.getD j 0) (by
        rw [List.getD_eq_getElem?_getD, List.getElem?_eq_getElem (by omega)]
        exact List.getElem_mem _)
      simp [Lit.wf, IntKind.min, IntKind.max, IntKind.signed, IntKind.bits, List.getElem?_eq_getElem (show j < zs.length by omega)] at hb
      simp [List.getElem?_eq_getElem (show j < zs.length by omega)]
      omega

/-- A slice of pairs that came in reads as a list. -/
theorem came_pairs {fuel : Nat} {v : Value} {x : DataW H × List MemPlace} (h : DataW.trod enc Try.prog w base (fun _ => true) held fuel 32 [v] = some x) :
    ∃ A n c L, v = .slice A n c ∧ Prs w A n c L := by
  rcases slice_cells Try.underlying32 Try.underlying66 (by kernel_rfl) (by kernel_rfl) h with hcs | ⟨a, n, c, hcs, hl, hm, hcell⟩
  · simp at hcs
    exact ⟨none, 0, 0, [], hcs, prs_nil w⟩
  · simp at hcs
    obtain ⟨b, o, s⟩ := a
    rcases Nat.eq_zero_or_pos n with h0 | h0
    · subst h0
      exact ⟨_, 0, c, [], hcs, rfl, hl, hm, (fun e => by cases e), fun h => absurd h (by omega)⟩
    · obtain rfl : s = none := by
        obtain ⟨v0, y0, f0, e0, t0⟩ := hcell 0 h0 0 _ rfl
        simpa [Addr.add] using World.cell?_spot e0
      have hat : ∀ j, j < n → ∃ p : Pr, b < w.heap.size ∧ PairAt w b (o + j * 2) p := fun j hj => by
        obtain ⟨v0, y0, f0, e0, t0⟩ := hcell j hj 0 _ rfl
        obtain ⟨v1, y1, f1, e1, t1⟩ := hcell j hj 1 _ rfl
        obtain ⟨A, n1, c1, l, rfl, b1⟩ := came t0
        obtain ⟨B, m, d, k, rfl, b2⟩ := came t1
        have hb := World.block_lt_of_cell? w _ e0
        rw [add_block] at hb
        have q0 : w.cell? ((⟨b, o, none⟩ : Addr).add (j * 2 + 0)) = some (.slice A n1 c1) := e0
        have q1 : w.cell? ((⟨b, o, none⟩ : Addr).add (j * 2 + 1)) = some (.slice B m d) := e1
        rw [add_lit, Nat.add_zero] at q0
        rw [add_lit, ← Nat.add_assoc] at q1
        exact ⟨(l, k), hb, A, n1, c1, B, m, d, q0, q1, b1, b2⟩
      obtain ⟨L, h1, h2⟩ := list_of (T := Pr) ([], []) n hat
      obtain ⟨hb, _⟩ := h2 0 h0
      exact ⟨_, n, c, L, hcs, h1, hl, hm, (fun e => by cases e), fun _ => ⟨b, o, rfl, hb, fun j hj => (h2 j hj).2⟩⟩

/-- A slice of keys that came in reads as a list. -/
theorem came_keys {fuel : Nat} {v : Value} {x : DataW H × List MemPlace} (h : DataW.trod enc Try.prog w base (fun _ => true) held fuel 33 [v] = some x) :
    ∃ A n c L, v = .slice A n c ∧ Kys w A n c L := by
  rcases open_slice Try.underlying33 h with ⟨hcs, _⟩ | ⟨a, n, c, m, n1, D, Pl, hcs, _, hl, hm, hmm, _, hi⟩
  · simp at hcs
    exact ⟨none, 0, 0, [], hcs, kys_nil w⟩
  · simp at hcs
    rw [show Try.prog.cellsOf 60 = 1 by kernel_rfl] at hi
    obtain ⟨b, o, s⟩ := a
    rcases Nat.eq_zero_or_pos n with h0 | h0
    · subst h0
      exact ⟨_, 0, c, [], hcs, rfl, hl, hm, (fun e => by cases e), fun h => absurd h (by omega)⟩
    · have hat0 : ∀ j, j < n → ∃ k : List UInt8, ∃ B m d, w.cell? ((⟨b, o, s⟩ : Addr).add j) = some (.slice B m d) ∧ Byt w B m k := fun j hj => by
        have him : j < m := by rw [hmm]; split <;> omega
        obtain ⟨cs', hc, ht'⟩ := hi j him
        obtain ⟨_, hcl, hat⟩ := World.cells?_some hc
        match cs', hcl with
        | [u], _ =>
          obtain ⟨B, m1, d, k, rfl, hb⟩ := came ht'
          have e0 := hat 0 (by omega)
          rw [add_add] at e0
          simp at e0
          exact ⟨k, B, m1, d, e0, hb⟩
      obtain rfl : s = none := by
        obtain ⟨k, B, m1, d, e0, _⟩ := hat0 0 h0
        simpa [Addr.add] using World.cell?_spot e0
      have hb : b < w.heap.size := by
        obtain ⟨k, B, m1, d, e0, _⟩ := hat0 0 h0
        have := World.block_lt_of_cell? w _ e0
        rwa [add_block] at this
      obtain ⟨L, h1, h2⟩ := list_of (T := List UInt8) [] n hat0
      refine ⟨_, n, c, L, hcs, h1, hl, hm, (fun e => by cases e), fun _ => ⟨b, o, rfl, hb, fun j hj => ?_⟩⟩
      obtain ⟨B, m1, d, e0, e1⟩ := h2 j hj
      rw [add_lit] at e0
      exact ⟨B, m1, d, e0, e1⟩

/-- A slice of numbers that came in reads as a list. -/
theorem came_nums {fuel : Nat} {v : Value} {x : DataW H × List MemPlace} (h : DataW.trod enc Try.prog w base (fun _ => true) held fuel 29 [v] = some x) :
    ∃ A n c L, v = .slice A n c ∧ Ins w A n c L := by
  rcases open_ints Try.underlying29 Try.underlying3 (by kernel_rfl) h with ⟨hcs, _⟩ | ⟨a, n, c, zs, hcs, _, hl, hm, hz, _, hcell, hwz⟩
  · simp at hcs
    exact ⟨none, 0, 0, [], hcs, ins_nil w⟩
  · simp at hcs
    have hz' : zs.length = c := by simpa using hz
    obtain ⟨b, o, s⟩ := a
    rcases Nat.eq_zero_or_pos n with h0 | h0
    · subst h0
      exact ⟨_, 0, c, [], hcs, rfl, hl, hm, (fun e => by cases e), fun h => absurd h (by omega)⟩
    · obtain rfl : s = none := by
        have e0 := hcell 0 (by omega)
        simpa [Addr.add] using World.cell?_spot e0
      have hb : b < w.heap.size := by
        have := World.block_lt_of_cell? w _ (hcell 0 (by omega))
        rwa [add_block] at this
      refine ⟨_, n, c, zs.take n, hcs, by simp; omega, hl, hm, (fun e => by cases e), fun _ => ⟨b, o, rfl, hb, fun j hj => ?_⟩⟩
      have e0 := hcell j (by omega)
      rw [add_lit] at e0
      rw [e0]
      unfold iat
      simp [List.getD_eq_getElem?_getD, hj]

theorem five_of {cs : List Value} (h : cs.length = 5) : ∃ a b c d e, cs = [a, b, c, d, e] := by
  match cs, h with
  | [a, b, c, d, e], _ => exact ⟨a, b, c, d, e, rfl⟩
theorem seven_of {cs : List Value} (h : cs.length = 7) : ∃ a b c d e f g, cs = [a, b, c, d, e, f, g] := by
  match cs, h with
  | [a, b, c, d, e, f, g], _ => exact ⟨a, b, c, d, e, f, g, rfl⟩

/-- A node's five cells that came in. -/
theorem came_node {fuel : Nat} {a b c d e : Value} {x : DataW H × List MemPlace} (h : DataW.trod enc Try.prog w base (fun _ => true) held fuel 35 [a, b, c, d, e] = some x) :
    ∃ (hh : Nh) (y : Nd), a = .bool y.leaf ∧ b = .slice hh.A hh.n hh.c ∧ c = .slice hh.B hh.m hh.d ∧ d = .slice hh.K hh.k hh.e ∧ e = .int .i64 y.next ∧ NdR w hh y := by
  obtain ⟨ys, n', _, _, _, hyl, hf⟩ := DataW.trod_struct Try.underlying35 h
  have c1 : Try.prog.cellsOf 4 = 1 := by kernel_rfl
  have c2 : Try.prog.cellsOf 32 = 1 := by kernel_rfl
  have c3 : Try.prog.cellsOf 33 = 1 := by kernel_rfl
  have c4 : Try.prog.cellsOf 29 = 1 := by kernel_rfl
  have c5 : Try.prog.cellsOf 3 = 1 := by kernel_rfl
  have hy : ∀ j, j < 5 → ∃ y, ys[j]? = some y := fun j hj => ⟨ys[j]'(by rw [hyl]; exact hj), List.getElem?_eq_getElem _⟩
  obtain ⟨y0, e0⟩ := hy 0 (by omega)
  obtain ⟨y1, e1⟩ := hy 1 (by omega)
  obtain ⟨y2, e2⟩ := hy 2 (by omega)
  obtain ⟨y3, e3⟩ := hy 3 (by omega)
  obtain ⟨y4, e4⟩ := hy 4 (by omega)
  have h0 : DataW.trod enc Try.prog w base (fun _ => true) held n' 4 (([a, b, c, d, e].drop 0).take (Try.prog.cellsOf 4)) = some y0 := (hf 0 _ rfl).trans e0
  rw [c1] at h0
  have h1 : DataW.trod enc Try.prog w base (fun _ => true) held n' 32 (([a, b, c, d, e].drop 1).take (Try.prog.cellsOf 32)) = some y1 := (hf 1 _ rfl).trans e1
  rw [c2] at h1
  have h2 : DataW.trod enc Try.prog w base (fun _ => true) held n' 33 (([a, b, c, d, e].drop 2).take (Try.prog.cellsOf 33)) = some y2 := (hf 2 _ rfl).trans e2
  rw [c3] at h2
  have h3 : DataW.trod enc Try.prog w base (fun _ => true) held n' 29 (([a, b, c, d, e].drop 3).take (Try.prog.cellsOf 29)) = some y3 := (hf 3 _ rfl).trans e3
  rw [c4] at h3
  have h4 : DataW.trod enc Try.prog w base (fun _ => true) held n' 3 (([a, b, c, d, e].drop 4).take (Try.prog.cellsOf 3)) = some y4 := (hf 4 _ rfl).trans e4
  rw [c5] at h4
  obtain ⟨bl, q0, _⟩ := DataW.trod_bool Try.underlying4 h0
  obtain ⟨A, n, cc, P, rfl, hP⟩ := came_pairs h1
  obtain ⟨B, m, dd, Ks, rfl, hK⟩ := came_keys h2
  obtain ⟨K, k, ee, Is, rfl, hI⟩ := came_nums h3
  obtain ⟨z, q4, _, _⟩ := DataW.trod_int Try.underlying3 h4
  simp at q0 q4
  subst q0 q4
  exact ⟨⟨A, n, cc, B, m, dd, K, k, ee⟩, ⟨bl, P, Ks, Is, z⟩, rfl, rfl, rfl, rfl, rfl, hP, hK, hI⟩

/-- The deeds that came in. -/
theorem came_deeds {fuel : Nat} {v : Value} {x : DataW H × List MemPlace} (h : DataW.trod enc Try.prog w base (fun _ => true) held fuel 22 [v] = some x) :
    ∃ A n c, v = .slice A n c ∧ Deeds w A n := by
  rcases open_slice Try.underlying22 h with ⟨hcs, _⟩ | ⟨a, n, c, m, n1, D, Pl, hcs, _, hl, hm, hmm, _, hi⟩
  · simp at hcs
    exact ⟨none, 0, 0, hcs, Nat.zero_le _, fun h => absurd h (by omega)⟩
  · simp at hcs
    rw [show Try.prog.cellsOf 37 = 7 by kernel_rfl] at hi
    obtain ⟨b, o, s⟩ := a
    have hat0 : ∀ j, j < n → ∃ u0 u1 u2 u3 u4 u5 u6, (∀ r u, r < 7 → [u0, u1, u2, u3, u4, u5, u6][r]? = some u → w.cell? ((⟨b, o, s⟩ : Addr).add (j * 7 + r)) = some u) ∧
        ∃ (wh at' : Int) (hh : Nh) (y : Nd), u0 = .int .i64 wh ∧ u1 = .int .i64 at' ∧ u2 = .bool y.leaf ∧ u3 = .slice hh.A hh.n hh.c ∧ u4 = .slice hh.B hh.m hh.d ∧ u5 = .slice hh.K hh.k hh.e ∧ u6 = .int .i64 y.next ∧ NdR w hh y ∧
          (Lit.int .i64 wh).wf = true ∧ (Lit.int .i64 at').wf = true := fun j hj => by
      have him : j < m := by rw [hmm]; split <;> omega
      obtain ⟨cs', hc, ht'⟩ := hi j him
      obtain ⟨_, hcl, hat⟩ := World.cells?_some hc
      obtain ⟨u0, u1, u2, u3, u4, u5, u6, rfl⟩ := seven_of hcl
      refine ⟨u0, u1, u2, u3, u4, u5, u6, fun r u hr hu => ?_, ?_⟩
      · rw [← add_add, hat r hr, hu]
      · obtain ⟨ys, n', _, _, _, hyl, hf⟩ := DataW.trod_struct Try.underlying37 ht'
        have c5 : Try.prog.cellsOf 3 = 1 := by kernel_rfl
        have c6 : Try.prog.cellsOf 35 = 5 := by kernel_rfl
        have hy : ∀ j, j < 3 → ∃ y, ys[j]? = some y := fun j hj => ⟨ys[j]'(by rw [hyl]; exact hj), List.getElem?_eq_getElem _⟩
        obtain ⟨y0, e0⟩ := hy 0 (by omega)
        obtain ⟨y1, e1⟩ := hy 1 (by omega)
        obtain ⟨y2, e2⟩ := hy 2 (by omega)
        have h0 : DataW.trod enc Try.prog w base (fun _ => true) held n' 3 (([u0, u1, u2, u3, u4, u5, u6].drop 0).take (Try.prog.cellsOf 3)) = some y0 := (hf 0 _ rfl).trans e0
        rw [c5] at h0
        have h1 : DataW.trod enc Try.prog w base (fun _ => true) held n' 3 (([u0, u1, u2, u3, u4, u5, u6].drop 1).take (Try.prog.cellsOf 3)) = some y1 := (hf 1 _ rfl).trans e1
        rw [c5] at h1
        have h2 : DataW.trod enc Try.prog w base (fun _ => true) held n' 35 (([u0, u1, u2, u3, u4, u5, u6].drop 2).take (Try.prog.cellsOf 35)) = some y2 := (hf 2 _ rfl).trans e2
        rw [c6] at h2
        obtain ⟨z0, q0, _, wf0⟩ := DataW.trod_int Try.underlying3 h0
        obtain ⟨z1, q1, _, wf1⟩ := DataW.trod_int Try.underlying3 h1
        obtain ⟨hh, y, r0, r1, r2, r3, r4, hR⟩ := came_node h2
        simp at q0 q1
        exact ⟨z0, z1, hh, y, q0, q1, r0, r1, r2, r3, r4, hR, wf0, wf1⟩
    refine ⟨_, n, c, hcs, Nat.le_trans hl hm, fun h0 => ?_⟩
    obtain rfl : s = none := by
      obtain ⟨u0, u1, u2, u3, u4, u5, u6, hu, _⟩ := hat0 0 h0
      simpa [Addr.add] using World.cell?_spot (hu 0 u0 (by omega) rfl)
    have hb : b < w.heap.size := by
      obtain ⟨u0, u1, u2, u3, u4, u5, u6, hu, _⟩ := hat0 0 h0
      have := World.block_lt_of_cell? w _ (hu 0 u0 (by omega) rfl)
      rwa [add_block] at this
    refine ⟨b, o, rfl, hb, fun j hj => ?_⟩
    obtain ⟨u0, u1, u2, u3, u4, u5, u6, hu, wh, at', hh, y, rfl, rfl, rfl, rfl, rfl, rfl, rfl, hR, wf0, wf1⟩ := hat0 j hj
    have hc : ∀ r u, r < 7 → [Value.int .i64 wh, .int .i64 at', .bool y.leaf, .slice hh.A hh.n hh.c, .slice hh.B hh.m hh.d, .slice hh.K hh.k hh.e, .int .i64 y.next][r]? = some u → w.cell? ⟨b, o + j * 7 + r, none⟩ = some u := fun r u hr e => by
      have := hu r u hr e
      rw [add_lit, ← Nat.add_assoc] at this
      exact this
    refine ⟨wh, at', hh, y, hc 0 _ (by omega) rfl, hc 1 _ (by omega) rfl, hc 2 _ (by omega) rfl, hc 3 _ (by omega) rfl, hc 4 _ (by omega) rfl, hc 5 _ (by omega) rfl, hc 6 _ (by omega) rfl, hR, ?_, ?_⟩
    · simpa [Lit.wf, IntKind.min, IntKind.max, IntKind.signed, IntKind.bits] using wf0
    · simpa [Lit.wf, IntKind.min, IntKind.max, IntKind.signed, IntKind.bits] using wf1
end
end Go.Proofs.Ytbphjhmmdkaggaa
