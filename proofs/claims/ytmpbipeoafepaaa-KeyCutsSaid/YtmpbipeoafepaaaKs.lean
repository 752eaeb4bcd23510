/- Contracts of bytes.Clone and of package key's span, Join and Cut: what they tell, in new memory; nothing that was there is changed. Condition: slices of at most 1000 bytes that can be read. -/
import Derived.Test.YtmpbipeoafepaaaKy
import Derived.Test.YtmpbipeoafepaaaEc
import Derived.Laws.AppendOwn
import Derived.OwnWalk
import Derived.Deep.RegionHeld3
namespace Go.Proofs.Ytmpbipeoafepaaa
open Go.RowKit
set_option linter.unusedVariables false

theorem Try.infoU8 : (Try.prog.info? 5).map (fun i => (i.zero, i.size, i.bytes)) = some (some (.int .u8 0), 1, 1) := by kernel_rfl

def cellsB (l : List UInt8) : List Value := l.map fun u => Value.int .u8 (u.toNat : Int)

/-- What a slice leads to, if to anything, lies in block N or behind it. -/
def New (N : Nat) (A : Option Addr) : Prop := ∀ a, A = some a → N ≤ a.block
theorem New.mono {N M : Nat} {A : Option Addr} (h : New N A) (hm : M ≤ N) : New M A := fun a e => Nat.le_trans hm (h a e)

theorem byt_own {w : World} {B : Nat} {e : TypeId} {v : Value} {n : Nat} {l : List UInt8} (h : w.ownsRow B e 1 v n (cellsB l)) : ∃ A c, v = .slice A n c ∧ Byt w A n l ∧ New B A := by
  have hl : l.length = n := by have := h.1; simpa [cellsB] using this
  rcases h.2 with ⟨rfl, rfl⟩ | ⟨g, cap, cur, rfl, hB, hh, _⟩
  · exact ⟨none, 0, rfl, ⟨hl, fun h0 => absurd h0 (by omega)⟩, fun a e => by cases e⟩
  · refine ⟨_, _, rfl, ⟨hl, fun h0 => ⟨_, rfl, (Array.getElem?_eq_some_iff.1 hh).1, fun j hj => ?_⟩⟩, fun a e => by injection e with e; subst e; exact hB⟩
    exact h.cells (g := g) rfl j _ (by simp [cellsB, List.getElem?_eq_getElem hj])

/-- What Clone leaves. -/
def Cloned (w : World) (n : Nat) (l : List UInt8) (e : Ending) (w' : World) : Prop := ∃ A c, e = .returned (.slice A n c) ∧ Byt w' A n l ∧ New w.heap.size A ∧ Below w.heap.size w w'

set_option maxHeartbeats 1000000 in
theorem clone_some {w : World} (a : Addr) {n : Nat} (c : Nat) {l : List UInt8} (h : Byt w (some a) n l) (hn : n ≤ 1000) :
    Calls Try.prog 23 #[.slice (some a) n c] w (Cloned w n l) := by
  obtain ⟨i0, hi, hz0, hz1, hz2⟩ := info_parts Try.infoU8
  have hq : ∀ (w : World) (a : Option Addr) (n c n' c' : Nat), (binOp .eql 22 (.slice a n c) (.slice none n' c')).run Try.prog w = .ok (.bool a.isNone) w := fun w a n c n' c' => Lib.run_eql_slice_nil w _ _ a n c n' c' Try.underlying22
  have H := Lib.hid h
  clear h
  go_enter Try.func23, Try.ntmps23
  go_wp2_with (at_builtin; refine wpList_append_own _ rfl _ _ 22 rfl w.heap.size 5 i0 (.int .u8 0) 1 1 Try.underlying22 hi hz0 hz1 hz2 rfl (by decide) _ _ _ rfl (World.ownsRow_made w #[] 0 (Nat.le_refl _) (Nat.zero_le _) rfl) a n c (cellsB l) rfl ?q1 ?q2 ?q3 ?q4 ?q5 ?q6 ?_)
  case q1 => simp [cellsB, H.out.1]
  case q2 =>
    intro j u hj
    have hl : j < l.length := by
      have := (List.getElem?_eq_some_iff.1 hj).1
      simpa [cellsB] using this
    obtain ⟨a', e, _, hc⟩ := (H.out.alloc (.cells #[] 5)).2 (by have := H.out.1; omega)
    injection e with e
    subst e
    rw [hc j hl]
    simp [cellsB, List.getElem?_eq_getElem hl] at hj
    rw [hj]
  case q3 =>
    intro u hu
    obtain ⟨x, _, rfl⟩ := List.mem_map.1 hu
    rfl
  case q4 => unfold maxLen; omega
  case q5 => omega
  case q6 => simp
  intro v' w1 hown hgrow hnil
  clear hnil
  go_wp2
  go_ret
  obtain ⟨A, c', rfl, hb, hN⟩ := byt_own hown
  exact ⟨A, c', rfl, hb, hN, ((Below.refl _ w).alloc (Nat.le_refl _) _).grown hgrow (by simp) (by intro k hk; simp [Value.ownBlock] at hk; omega)⟩

set_option maxHeartbeats 400000 in
theorem clone_nil {w : World} {n : Nat} (c : Nat) {l : List UInt8} (h : Byt w none n l) :
    Calls Try.prog 23 #[.slice none n c] w (Cloned w n l) := by
  have hq : ∀ (w : World) (a : Option Addr) (n c n' c' : Nat), (binOp .eql 22 (.slice a n c) (.slice none n' c')).run Try.prog w = .ok (.bool a.isNone) w := fun w a n c n' c' => Lib.run_eql_slice_nil w _ _ a n c n' c' Try.underlying22
  have h0 : n = 0 := by
    rcases Nat.eq_zero_or_pos n with h0 | h0
    · exact h0
    · obtain ⟨a, e, _⟩ := h.2 h0
      cases e
  subst h0
  have H := Lib.hid h
  clear h
  go_enter Try.func23, Try.ntmps23
  go_wp2
  go_ret
  exact ⟨none, 0, rfl, H.out, (fun a e => by cases e), Below.refl _ _⟩

theorem clone_any {w : World} {A : Option Addr} {n : Nat} (c : Nat) {l : List UInt8} (h : Byt w A n l) (hn : n ≤ 1000) :
    Calls Try.prog 23 #[.slice A n c] w (Cloned w n l) := by
  cases A with
  | none => exact clone_nil c h
  | some a => exact clone_some a c h hn

/-- A block that holds one range. -/
def Box (w : World) (g : Nat) (x y : Value) : Prop := w.heap[g]? = some (.cells #[x, y] 24 (0, 0))
theorem Box.c0 {w : World} {g : Nat} {x y : Value} (h : Box w g x y) : w.cell? ⟨g, 0, none⟩ = some x := by
  unfold Box at h
  simp [World.cell?, h]
theorem Box.c1 {w : World} {g : Nat} {x y : Value} (h : Box w g x y) : w.cell? ⟨g, 1, none⟩ = some y := by
  unfold Box at h
  simp [World.cell?, h]
theorem Box.fz {w : World} {g : Nat} {x y : Value} (h : Box w g x y) (j : Nat) : w.frozen? ⟨g, j, none⟩ = false := by
  unfold Box at h
  simp [World.frozen?, h]
theorem Box.lt {w : World} {g : Nat} {x y : Value} (h : Box w g x y) : g < w.heap.size := (Array.getElem?_eq_some_iff.1 h).1
theorem Box.below {w w' : World} {g B : Nat} {x y : Value} (h : Box w g x y) (hb : Below B w w') (hg : g < B) : Box w' g x y := (hb.block g hg).trans h
theorem Box.alloc {w : World} {g : Nat} {x y : Value} (h : Box w g x y) (o : Obj) : Box (w.alloc o) g x y := (Below.heap_alloc _ _ _ h.lt).trans h
theorem Box.new (w : World) (x y : Value) : Box (w.alloc (.cells #[x, y] 24)) w.heap.size x y := Deep.blk_alloc_new _ _

/-- What span leaves. -/
def Spanned (w : World) (n m : Nat) (l k : List UInt8) (e : Ending) (w' : World) : Prop :=
  ∃ A c B d, e = .returned (.agg #[.slice A n c, .slice B m d]) ∧ (Byt w' A n l ∧ New w.heap.size A) ∧ (Byt w' B m k ∧ New w.heap.size B) ∧ Below w.heap.size w w'

/-- A store into a block that what is read does not lie in. -/
theorem Byt.far {w : World} {A : Option Addr} {n : Nat} {l : List UInt8} (h : Byt w A n l) (p : Addr) (hp : ∀ a, A = some a → a.block ≠ p.block) (u : Value) : Byt (w.setCell p u) A n l :=
  ⟨h.1, fun h0 => by
    obtain ⟨a, e, hb, hj⟩ := h.2 h0
    exact ⟨a, e, by simpa [World.setCell] using hb, fun j hl => (World.cell?_setCell_other w p _ u (fun e' => hp a e (by rw [← add_block a j, e']))).trans (hj j hl)⟩⟩

set_option maxHeartbeats 1000000 in
theorem span_any {w : World} {A B : Option Addr} {n m : Nat} (c d : Nat) {l k : List UInt8} (h : Byt w A n l) (h' : Byt w B m k) (hn : n ≤ 1000) (hm : m ≤ 1000) :
    Calls Try.prog 19 #[.slice A n c, .slice B m d] w (Spanned w n m l k) := by
  have H1 := Lib.hid (fun o => clone_any c (h.alloc o) hn)
  have H2 := Lib.hid h'
  clear h h'
  go_enter Try.func19, Try.ntmps19
  go_wp2_with fail
  refine (H1.out _).mono ?_
  rintro e w1 ⟨A', c', rfl, b1, n1, hb1⟩
  have N1 := Lib.hid n1
  clear n1
  have B1 := Lib.hid b1
  have H3 := Lib.hid (clone_any d ((H2.out.alloc (.cells #[.slice none 0 0, .slice none 0 0] 24)).below hb1) hm)
  clear b1
  have X1 := Lib.hid ((Box.new w (.slice none 0 0) (.slice none 0 0)).below hb1 (by simp))
  have hz1 : w.heap.size < w1.heap.size := X1.out.lt
  go_wp2_with fail
  refine H3.out.mono ?_
  rintro e w2 ⟨B', d', rfl, b2, n2, hb2⟩
  have N2 := Lib.hid n2
  clear n2
  have B2 := Lib.hid b2
  clear b2
  have X2 := Lib.hid (X1.out.below hb2 hz1)
  have c0 := X2.out.c0
  have c1 := X2.out.c1
  have f0 := X2.out.fz
  go_wp2
  have n1 : New (w.heap.size + 1) A' := N1.out.mono (by simp)
  have n2 : New (w.heap.size + 1) B' := N2.out.mono (by omega)
  have far1 : ∀ a, A' = some a → a.block ≠ w.heap.size := fun a e => by have := n1 a e; omega
  have far2 : ∀ a, B' = some a → a.block ≠ w.heap.size := fun a e => by have := n2 a e; omega
  refine bodyPost_ret (v := .agg #[.slice A' n c', .slice B' m d']) (by simp [results, Try.results19, go_sem, c0, c1]) rfl ⟨A', c', B', d', rfl, ⟨?_, n1.mono (by omega)⟩, ⟨?_, n2.mono (by omega)⟩, ?_⟩
  · exact ((B1.out.below hb2).far _ far1 _).far _ far1 _
  · exact (B2.out.far _ far2 _).far _ far2 _
  · have hb : Below w.heap.size w w2 := (((Below.refl _ _).alloc (Nat.le_refl _) _).trans (hb1.mono (by simp))).trans (hb2.mono (by omega))
    exact (hb.setCell (by simp) _).setCell (by simp) _

/-- Three new blocks of a range each. -/
def tri (w : World) (x y x' y' x'' y'' : Value) : World := ((w.alloc (.cells #[x, y] 24)).alloc (.cells #[x', y'] 24)).alloc (.cells #[x'', y''] 24)
theorem tri_size (w : World) (x y x' y' x'' y'' : Value) : (tri w x y x' y' x'' y'').heap.size = w.heap.size + 3 := by simp [tri]
theorem tri_below (w : World) (x y x' y' x'' y'' : Value) : Below w.heap.size w (tri w x y x' y' x'' y'') :=
  (((Below.refl _ _).alloc (Nat.le_refl _) _).alloc (by simp) _).alloc (by simp; omega) _
theorem tri_boxes (w : World) (x y x' y' x'' y'' : Value) : Box (tri w x y x' y' x'' y'') w.heap.size x y ∧ Box (tri w x y x' y' x'' y'') (w.heap.size + 1) x' y' ∧ Box (tri w x y x' y' x'' y'') (w.heap.size + 1 + 1) x'' y'' := by
  refine ⟨((Box.new w x y).alloc _).alloc _, ?_, ?_⟩
  · have := (Box.new (w.alloc (.cells #[x, y] 24)) x' y').alloc (.cells #[x'', y''] 24)
    simpa [tri] using this
  · have := Box.new ((w.alloc (.cells #[x, y] 24)).alloc (.cells #[x', y'] 24)) x'' y''
    simpa [tri] using this

/-- The three blocks, and what was there, behind calls that make memory. -/
structure Tri (w w1 : World) (x y x' y' x'' y'' : Value) : Prop where
  b0 : Box w1 w.heap.size x y
  b1 : Box w1 (w.heap.size + 1) x' y'
  b2 : Box w1 (w.heap.size + 1 + 1) x'' y''
  bel : Below w.heap.size w w1

theorem Tri.start (w : World) (x y x' y' x'' y'' : Value) : Tri w (tri w x y x' y' x'' y'') x y x' y' x'' y'' :=
  ⟨(tri_boxes w x y x' y' x'' y'').1, (tri_boxes w x y x' y' x'' y'').2.1, (tri_boxes w x y x' y' x'' y'').2.2, tri_below _ _ _ _ _ _ _⟩
theorem Tri.below {w w1 w2 : World} {x y x' y' x'' y'' : Value} (h : Tri w w1 x y x' y' x'' y'') (hb : Below w1.heap.size w1 w2) : Tri w w2 x y x' y' x'' y'' :=
  ⟨h.b0.below hb h.b0.lt, h.b1.below hb h.b1.lt, h.b2.below hb h.b2.lt, h.bel.trans (hb.mono h.bel.size)⟩

/-- The number of Join's error. -/
def joinK (l k l' k' : List UInt8) : Int := if soundB l k && soundB l' k' then (if followsB k l' then 0 else 6) else 1

/-- What Join leaves. -/
def Joined (w : World) (kk : Int) (l k : List UInt8) (e : Ending) (w' : World) : Prop :=
  ∃ A n c B m d, e = .returned (.tuple #[.agg #[.slice A n c, .slice B m d], errV kk]) ∧ (kk = 0 → Byt w' A n l ∧ Byt w' B m k) ∧ Below w.heap.size w w'

set_option maxHeartbeats 2000000 in
theorem join_any {w : World} {A B C D : Option Addr} {n m o p : Nat} (c d q s : Nat) {l k l' k' : List UInt8} (h1 : Byt w A n l) (h2 : Byt w B m k) (h3 : Byt w C o l') (h4 : Byt w D p k') (hn : n ≤ 1000) (hm : m ≤ 1000) (ho : o ≤ 1000) (hp : p ≤ 1000) :
    Calls Try.prog 12 #[.agg #[.slice A n c, .slice B m d], .agg #[.slice C o q, .slice D p s]] w (Joined w (joinK l k l' k') l k') := by
  have H1 := Lib.hid h1
  have H2 := Lib.hid h2
  have H3 := Lib.hid h3
  have H4 := Lib.hid h4
  clear h1 h2 h3 h4
  have T0 := Tri.start w (.slice A n c) (.slice B m d) (.slice C o q) (.slice D p s) (.slice none 0 0) (.slice none 0 0)
  have hmax : 1000 ≤ maxLen := by unfold maxLen; omega
  have S1 := Lib.hid (sound_any c d (H1.out.below T0.bel) (H2.out.below T0.bel) (by omega) (by omega))
  have T0 := Lib.hid T0
  go_enter Try.func12, Try.ntmps12
  go_wp2_with fail
  cases hs1 : soundB l k
  · have J := Lib.hid (show joinK l k l' k' = 1 by simp [joinK, hs1])
    rw [hs1] at S1
    clear hs1
    refine S1.out.mono ?_
    rintro e w1 ⟨rfl, hb1⟩
    have T1 := T0.out.below hb1
    have c0 := T1.b2.c0
    have c1 := T1.b2.c1
    have f2 := T1.b2.fz
    have T1 := Lib.hid T1
    clear hb1
    go_wp2
    refine bodyPost_ret (v := .tuple #[.agg #[.slice none 0 0, .slice none 0 0], .iface 41 (.int .i64 1)]) (by simp [results, Try.results12, go_sem, c0, c1]) rfl ⟨none, 0, 0, none, 0, 0, by rw [J.out]; rfl, (fun h => by rw [J.out] at h; cases h), ?_⟩
    exact (T1.out.bel.setCell (by simp; omega) _).setCell (by simp; omega) _
  · rw [hs1] at S1
    have HS1 := Lib.hid hs1
    clear hs1
    refine S1.out.mono ?_
    rintro e w1 ⟨rfl, hb1⟩
    have T1 := T0.out.below hb1
    clear T0 S1 hb1
    have S2 := Lib.hid (sound_any q s (H3.out.below T1.bel) (H4.out.below T1.bel) (by omega) (by omega))
    have c2 := T1.b1.c0
    have c3 := T1.b1.c1
    have T1 := Lib.hid T1
    go_wp2_with fail
    clear c2 c3
    cases hs2 : soundB l' k'
    · have J := Lib.hid (show joinK l k l' k' = 1 by simp [joinK, hs2])
      rw [hs2] at S2
      clear hs2
      refine S2.out.mono ?_
      rintro e w2 ⟨rfl, hb2⟩
      have T2 := T1.out.below hb2
      have c0 := T2.b2.c0
      have c1 := T2.b2.c1
      have f2 := T2.b2.fz
      have T2 := Lib.hid T2
      clear hb2
      go_wp2
      refine bodyPost_ret (v := .tuple #[.agg #[.slice none 0 0, .slice none 0 0], .iface 41 (.int .i64 1)]) (by simp [results, Try.results12, go_sem, c0, c1]) rfl ⟨none, 0, 0, none, 0, 0, by rw [J.out]; rfl, (fun h => by rw [J.out] at h; cases h), ?_⟩
      exact (T2.out.bel.setCell (by simp; omega) _).setCell (by simp; omega) _
    · rw [hs2] at S2
      have HS2 := Lib.hid hs2
      clear hs2
      refine S2.out.mono ?_
      rintro e w2 ⟨rfl, hb2⟩
      have T2 := T1.out.below hb2
      clear T1 S2 hb2
      have S3 := Lib.hid (follows_any c d q s (H1.out.below T2.bel) (H2.out.below T2.bel) (H3.out.below T2.bel) (H4.out.below T2.bel) (by omega))
      have c0 := T2.b0.c0
      have c1 := T2.b0.c1
      have c2 := T2.b1.c0
      have c3 := T2.b1.c1
      have T2 := Lib.hid T2
      go_wp2_with fail
      clear c0 c1 c2 c3
      cases hs3 : followsB k l'
      · have J := Lib.hid (show joinK l k l' k' = 6 by simp [joinK, HS1.out, HS2.out, hs3])
        rw [hs3] at S3
        clear hs3
        refine S3.out.mono ?_
        rintro e w3 ⟨rfl, hb3⟩
        have T3 := T2.out.below hb3
        have c0 := T3.b2.c0
        have c1 := T3.b2.c1
        have f2 := T3.b2.fz
        have T3 := Lib.hid T3
        clear hb3
        go_wp2
        refine bodyPost_ret (v := .tuple #[.agg #[.slice none 0 0, .slice none 0 0], .iface 41 (.int .i64 6)]) (by simp [results, Try.results12, go_sem, c0, c1]) rfl ⟨none, 0, 0, none, 0, 0, by rw [J.out]; rfl, (fun h => by rw [J.out] at h; cases h), ?_⟩
        exact (T3.out.bel.setCell (by simp; omega) _).setCell (by simp; omega) _
      · have J := Lib.hid (show joinK l k l' k' = 0 by simp [joinK, HS1.out, HS2.out, hs3])
        rw [hs3] at S3
        clear hs3
        refine S3.out.mono ?_
        rintro e w3 ⟨rfl, hb3⟩
        have T3 := T2.out.below hb3
        clear T2 S3 hb3
        have S4 := Lib.hid (span_any c s (H1.out.below T3.bel) (H4.out.below T3.bel) hn hp)
        have c0 := T3.b0.c0
        have c3 := T3.b1.c1
        have T3 := Lib.hid T3
        go_wp2_with fail
        clear c0 c3
        refine S4.out.mono ?_
        rintro e w4 ⟨A', c', B', d', rfl, ⟨b1, n1⟩, ⟨b2, n2⟩, hb4⟩
        have T4 := T3.out.below hb4
        have hlt := T3.out.b2.lt
        have c0 := T4.b2.c0
        have c1 := T4.b2.c1
        have f2 := T4.b2.fz
        have far1 : ∀ a, A' = some a → a.block ≠ w.heap.size + 1 + 1 := fun a e => by have := n1 a e; omega
        have far2 : ∀ a, B' = some a → a.block ≠ w.heap.size + 1 + 1 := fun a e => by have := n2 a e; omega
        have T4 := Lib.hid T4
        have N := Lib.hid (show Byt _ A' _ _ ∧ Byt _ B' _ _ ∧ _ ∧ _ from ⟨b1, b2, far1, far2⟩)
        clear T3 S4 hb4 hlt b1 b2 n1 n2 far1 far2
        go_wp2
        refine bodyPost_ret (v := .tuple #[.agg #[.slice A' n c', .slice B' p d'], .nilIface]) (by simp [results, Try.results12, go_sem, c0, c1]) rfl ⟨A', n, c', B', p, d', by rw [J.out]; rfl, fun _ => ?_, ?_⟩
        · obtain ⟨b1, b2, far1, far2⟩ := N.out
          exact ⟨(b1.far _ far1 _).far _ far1 _, (b2.far _ far2 _).far _ far2 _⟩
        · exact (T4.out.bel.setCell (by simp; omega) _).setCell (by simp; omega) _
end Go.Proofs.Ytmpbipeoafepaaa
