/- Groups of places, as plain lists and in memory; contracts of package elide's together, and of the document's own Ints (where both read the same: true). Condition: what came in can be read. -/
import Derived.Test.YthcchaglloggjaaYk
import Derived.Maps.AppendAt
namespace Go.Proofs.Ythcchaglloggjaa
open Go.RowKit
set_option linter.unusedVariables false
set_option maxRecDepth 100000

/-- Do two requests stand in one group? -/
def togQ (a b : Rq) : Bool := !scanQ a && (!scanQ b && sameB a.key b.key)
def grpS (M : List Rq) (s : List (List Nat) × List Nat) (x : Nat) : List (List Nat) × List Nat :=
  if s.2 = [] then ([], [x]) else if togQ (gq M (nat s.2 0)) (gq M x) = true then (s.1, s.2 ++ [x]) else (s.1 ++ [s.2], [x])
/-- The groups of the first j places of the order: all but the last one, and that. -/
def grp (M : List Rq) (g : Nat → Nat) : Nat → List (List Nat) × List Nat
  | 0 => ([], [])
  | j + 1 => grpS M (grp M g j) (g j)
theorem grp_congr {M : List Rq} {g g' : Nat → Nat} {n : Nat} (h : ∀ k, k < n → g k = g' k) : ∀ j, j ≤ n → grp M g j = grp M g' j
  | 0, _ => rfl
  | j + 1, hj => by
    show grpS M (grp M g j) (g j) = grpS M (grp M g' j) (g' j)
    rw [grp_congr h j (by omega), h j (by omega)]
structure GrpI (n j : Nat) (s : List (List Nat) × List Nat) : Prop where
  len : s.1.length + s.2.length ≤ j
  ne : 0 < j → 0 < s.2.length
  lt : ∀ k, k < s.2.length → nat s.2 k < n
theorem nat_left {L M : List Nat} {k : Nat} (h : k < L.length) : nat (L ++ M) k = nat L k := by
  unfold nat
  rw [List.getD_eq_getElem?_getD, List.getD_eq_getElem?_getD, List.getElem?_append_left h]
theorem nat_snoc {L : List Nat} {x : Nat} : nat (L ++ [x]) L.length = x := by
  unfold nat
  simp
theorem grp_i {M : List Rq} {g : Nat → Nat} {n : Nat} (h : ∀ k, k < n → g k < n) : ∀ j, j ≤ n → GrpI n j (grp M g j)
  | 0, _ => ⟨Nat.le_refl _, fun h => by omega, fun k hk => by cases hk⟩
  | j + 1, hj => by
    obtain ⟨h1, h2, h3⟩ := grp_i (M := M) h j (by omega)
    have hx := h j (by omega)
    show GrpI n (j + 1) (grpS M (grp M g j) (g j))
    unfold grpS
    split
    · exact ⟨by simp, fun _ => by simp, fun k hk => by
        obtain rfl : k = 0 := by simp at hk; omega
        exact hx⟩
    · split
      · refine ⟨by simp; omega, fun _ => by simp, fun k hk => ?_⟩
        dsimp only at hk ⊢
        by_cases c : k < (grp M g j).2.length
        · rw [nat_left c]
          exact h3 k c
        · obtain rfl : k = (grp M g j).2.length := by simp at hk; omega
          rw [nat_snoc]
          exact hx
      · next hne _ =>
        have : 0 < (grp M g j).2.length := List.length_pos_iff.2 hne
        exact ⟨by simp; omega, fun _ => by simp, fun k hk => by
          obtain rfl : k = 0 := by simp at hk; omega
          exact hx⟩
theorem grp_join {M : List Rq} {g : Nat → Nat} {j : Nat} (hne : 0 < (grp M g j).2.length) (ht : togQ (gq M (nat (grp M g j).2 0)) (gq M (g j)) = true) : grp M g (j + 1) = ((grp M g j).1, (grp M g j).2 ++ [g j]) := by
  show grpS M (grp M g j) (g j) = _
  unfold grpS
  rw [if_neg (List.ne_nil_of_length_pos hne), if_pos ht]
theorem grp_new {M : List Rq} {g : Nat → Nat} {j : Nat} (hne : 0 < (grp M g j).2.length) (ht : togQ (gq M (nat (grp M g j).2 0)) (gq M (g j)) = false) : grp M g (j + 1) = ((grp M g j).1 ++ [(grp M g j).2], [g j]) := by
  show grpS M (grp M g j) (g j) = _
  unfold grpS
  rw [if_neg (List.ne_nil_of_length_pos hne), if_neg (by rw [ht]; exact Bool.false_ne_true)]
theorem grp_one (M : List Rq) (g : Nat → Nat) : grp M g 1 = ([], [g 0]) := rfl

/-- Groups in memory: a row of slices of one's own, the last of which is a row of one's own. -/
structure GrM (w : World) (N : Nat) (v u : Value) (hs : List Value) (D : List (List Nat)) (C : List Nat) : Prop where
  own : w.ownsRow N 30 1 v (D.length + 1) (hs ++ [u])
  len : hs.length = D.length
  old : ∀ t, t < D.length → ∃ A n c, hs[t]? = some (.slice A n c) ∧ On (fun b => N ≤ b ∧ Off v b ∧ Off u b) w (Nls · A n c (D.getD t []))
  last : OwnN w N u C.length C
  apart : ∀ b, u.ownBlock = some b → Off v b
theorem Off.ne {v : Value} {b k : Nat} (h : Off v b) (hk : v.ownBlock = some k) : b ≠ k := h k hk
theorem own_on {w : World} {N n : Nat} {u : Value} {C : List Nat} (h : OwnN w N u n C) : ∃ A c, u = .slice A n c ∧ On (fun b => u.ownBlock = some b) w (Nls · A n c C) := by
  obtain ⟨A, c, rfl, -⟩ := own_nls h
  refine ⟨A, c, rfl, fun w' ha => ?_⟩
  obtain ⟨A', c', e, hn⟩ := own_nls (own_agree h ha (fun k hk => hk))
  injection e with e1 e2 e3
  subst e1
  subst e3
  exact hn
theorem GrM.below {w w' : World} {N : Nat} {v u : Value} {hs : List Value} {D : List (List Nat)} {C : List Nat} (h : GrM w N v u hs D C) (hb : Below w.heap.size w w') : GrM w' N v u hs D C :=
  ⟨own_keep h.own hb, h.len, fun t ht => by
    obtain ⟨A, n, c, e, ho⟩ := h.old t ht
    exact ⟨A, n, c, e, ho.keep (below_all hb)⟩, own_keep h.last hb, h.apart⟩
/-- The last group put anew: in its own block, or in a new one. -/
theorem gm_put {w w' : World} {N g n c : Nat} {u u' : Value} {hs : List Value} {D : List (List Nat)} {C C' : List Nat} (h : GrM w N (.slice (some ⟨g, 0, none⟩) n c) u hs D C) (ha : Agree (Off u) w w') (ho : OwnN w' N u' C'.length C')
    (hat : ∀ b, u'.ownBlock = some b → u.ownBlock = some b ∨ w.heap.size ≤ b) : GrM (w'.setCell ⟨g, D.length, none⟩ u') N (.slice (some ⟨g, 0, none⟩) n c) u' hs D C' := by
  have hg : g < w.heap.size := own_lt h.own g rfl
  have hug : ∀ b, u'.ownBlock = some b → b ≠ g := fun b hb e => by
    rcases hat b hb with h1 | h1
    · exact h.apart b h1 g rfl e
    · omega
  have hn : n = D.length + 1 := by
    rcases h.own.2 with ⟨e, -⟩ | ⟨g', cap, cur, e, -⟩
    · cases e
    · injection e
  refine ⟨?_, h.len, fun t ht => ?_, ?_, fun b hb k hk => ?_⟩
  · have h1 := own_agree h.own ha (fun k hk b hb e => by
      have hk' : g = k := Option.some.inj hk
      exact h.apart b hb g rfl (by omega))
    subst hn
    have h2 := own_set h1 D.length u'
    have e : (hs ++ [u]).set D.length u' = hs ++ [u'] := by
      rw [← h.len, List.set_append_right _ _ (Nat.le_refl _)]
      simp
    rw [e] at h2
    exact h2
  · obtain ⟨A, m, d, e, hon⟩ := h.old t ht
    refine ⟨A, m, d, e, (((hon.now).keep (ha.mono fun b hb => hb.1.2.2)).keep (agree_set w' ⟨g, D.length, none⟩ u' (fun hc => hc.1.2.1 g rfl rfl))).mono fun b hb => ⟨hb.1.1, hb.1.2.1, fun k hk => ?_⟩⟩
    rcases hat k hk with h1 | h1
    · exact hb.1.2.2 k h1
    · have := hb.2
      omega
  · exact own_agree (C := fun b => b ≠ g) ho (agree_set w' ⟨g, D.length, none⟩ u' (by simp)) (fun k hk => hug k hk)
  · have hk' : g = k := Option.some.inj hk
    have := hug b hb
    omega
/-- A new group put behind. -/
theorem gm_new {w0 w w' : World} {N : Nat} {v v' u u2 : Value} {hs : List Value} {D : List (List Nat)} {C C2 : List Nat} (h : GrM w0 N v u hs D C) (hb : Below w0.heap.size w0 w) (hg : w.grownBy w' v.ownBlock)
    (ho : w'.ownsRow N 30 1 v' (D.length + 1 + 1) (hs ++ [u] ++ [u2])) (hat : v'.ownBlock = v.ownBlock ∨ v'.ownBlock = some w.heap.size) (h2 : OwnN w N u2 C2.length C2) (h3 : ∀ b, u2.ownBlock = some b → w0.heap.size ≤ b) : GrM w' N v' u2 (hs ++ [u]) (D ++ [C]) C2 := by
  have hv : ∀ k, v.ownBlock = some k → k < w0.heap.size := fun k hk => own_lt h.own k hk
  have hs0 := hb.size
  have offv : ∀ b, b < w0.heap.size → Off v b → Off v' b := fun b hbl hob k hk => by
    rcases hat with e | e
    · exact hob k (by rw [← e]; exact hk)
    · rw [e] at hk
      injection hk with hk
      omega
  have off2 : ∀ b, b < w0.heap.size → Off u2 b := fun b hbl k hk => by
    have := h3 k hk
    omega
  refine ⟨by simpa using ho, by simp [h.len], fun t ht => ?_, ?_, fun b hb2 k hk => ?_⟩
  · by_cases c : t < D.length
    · obtain ⟨A, m, d, e, hon⟩ := h.old t c
      refine ⟨A, m, d, ?_, ?_⟩
      · rw [List.getElem?_append_left (by rw [h.len]; exact c)]
        exact e
      · rw [show (D ++ [C]).getD t [] = D.getD t [] by rw [List.getD_eq_getElem?_getD, List.getD_eq_getElem?_getD, List.getElem?_append_left c]]
        exact (((hon.now).keep (below_all hb)).keep (agree_grown hg fun k hk hc => hc.1.2.1 k hk rfl)).mono fun b hbb => ⟨hbb.1.1, offv b hbb.2 hbb.1.2.1, off2 b hbb.2⟩
    · obtain rfl : t = D.length := by simp at ht; omega
      obtain ⟨A, d, e, hon⟩ := own_on h.last
      refine ⟨A, C.length, d, ?_, ?_⟩
      · rw [List.getElem?_append_right (by rw [h.len]; exact Nat.le_refl _), h.len, Nat.sub_self, e]
        rfl
      · rw [show (D ++ [C]).getD D.length [] = C by simp]
        refine (((hon.now).keep (below_all hb)).keep (agree_grown hg fun k hk hc => h.apart k hc.1 k hk rfl)).mono fun b hbb => ⟨(World.ownsRow.lt h.last b hbb.1).1, offv b hbb.2 (h.apart b hbb.1), off2 b hbb.2⟩
  · exact own_agree (C := fun b => w0.heap.size ≤ b) h2 (agree_grown hg fun k hk hc => by have := hv k hk; omega) (fun k hk => h3 k hk)
  · have h4 := own_lt h2 b hb2
    have h5 := h3 b hb2
    rcases hat with e | e
    · have := hv k (by rw [← e]; exact hk)
      omega
    · rw [e] at hk
      injection hk with hk
      omega
/-- The first group. -/
theorem gm_first {w w' : World} {N : Nat} {v' u2 : Value} {C2 : List Nat} (hg : w.grownBy w' none) (ho : w'.ownsRow N 30 1 v' 1 [u2]) (hat : v'.ownBlock = none ∨ v'.ownBlock = some w.heap.size) (h2 : OwnN w N u2 C2.length C2) : GrM w' N v' u2 [] [] C2 := by
  refine ⟨by simpa using ho, rfl, (fun t ht => by cases ht), own_agree (C := fun _ => True) h2 (agree_grown hg (fun k hk => by cases hk)) (fun k _ => trivial), fun b hb k hk => ?_⟩
  have h4 := own_lt h2 b hb
  rcases hat with e | e
  · rw [e] at hk; cases hk
  · rw [e] at hk
    injection hk with hk
    omega

/-- A slice of slices of numbers that reads as the list G. -/
def Grs (w : World) (A : Option Addr) (n : Nat) (G : List (List Nat)) : Prop :=
  G.length = n ∧ n ≤ maxLen ∧ (0 < n → ∃ b o, A = some ⟨b, o, none⟩ ∧ b < w.heap.size ∧ ∀ j, j < n → ∃ B m c, w.cell? ⟨b, o + j, none⟩ = some (.slice B m c) ∧ Nls w B m c (G.getD j []))
theorem Grs.below {w w' : World} {A : Option Addr} {n : Nat} {G : List (List Nat)} (h : Grs w A n G) (hb : Below w.heap.size w w') : Grs w' A n G :=
  ⟨h.1, h.2.1, fun h0 => by
    obtain ⟨b, o, e, hl, hj⟩ := h.2.2 h0
    refine ⟨b, o, e, Nat.lt_of_lt_of_le hl hb.size, fun j hjn => ?_⟩
    obtain ⟨B, m, c, e1, e2⟩ := hj j hjn
    exact ⟨B, m, c, (hb.cell (p := ⟨b, o + j, none⟩) hl).trans e1, e2.below hb⟩⟩
theorem Grs.at_ {w : World} {A : Option Addr} {n j : Nat} {G : List (List Nat)} (h : Grs w A n G) (hj : j < n) : ∃ b o B m c, A = some ⟨b, o, none⟩ ∧ b < w.heap.size ∧ w.cell? ⟨b, o + j, none⟩ = some (.slice B m c) ∧ Nls w B m c (G.getD j []) := by
  obtain ⟨b, o, e, hb, hp⟩ := h.2.2 (by omega)
  obtain ⟨B, m, c, e1, e2⟩ := hp j hj
  exact ⟨b, o, B, m, c, e, hb, e1, e2⟩
theorem grs_nil (w : World) : Grs w none 0 [] := ⟨rfl, Nat.zero_le _, fun h => absurd h (by omega)⟩
theorem GrM.grs {w : World} {N : Nat} {v u : Value} {hs : List Value} {D : List (List Nat)} {C : List Nat} (h : GrM w N v u hs D C) : ∃ A c, v = .slice A (D.length + 1) c ∧ Grs w A (D.length + 1) (D ++ [C]) := by
  obtain ⟨A, c, rfl, -⟩ := own_new h.own
  have hc := own_caps h.own
  refine ⟨A, c, rfl, by simp, Nat.le_trans hc.1 hc.2.1, fun h0 => ?_⟩
  obtain ⟨g, rfl, -, hg⟩ := own_at h.own h0
  refine ⟨g, 0, rfl, hg, fun j hj => ?_⟩
  rw [Nat.zero_add]
  have hcell := h.own.cellAt j (by omega)
  by_cases cj : j < D.length
  · obtain ⟨B, m, d, e, hon⟩ := h.old j cj
    refine ⟨B, m, d, hcell.trans ?_, ?_⟩
    · rw [List.getElem?_append_left (by rw [h.len]; exact cj)]
      exact e
    · rw [show (D ++ [C]).getD j [] = D.getD j [] by rw [List.getD_eq_getElem?_getD, List.getD_eq_getElem?_getD, List.getElem?_append_left cj]]
      exact hon.here
  · obtain rfl : j = D.length := by omega
    obtain ⟨B, d, e, hn⟩ := own_nls h.last
    refine ⟨B, C.length, d, hcell.trans ?_, ?_⟩
    · rw [List.getElem?_append_right (by rw [h.len]; exact Nat.le_refl _), h.len, Nat.sub_self, e]
      rfl
    · rw [show (D ++ [C]).getD D.length [] = C by simp]
      exact hn

theorem GrM.agree {w w' : World} {N : Nat} {v u : Value} {hs : List Value} {D : List (List Nat)} {C : List Nat} (h : GrM w N v u hs D C) (ha : Agree (N ≤ ·) w w') : GrM w' N v u hs D C :=
  ⟨own_agree h.own ha (fun k hk => (h.own.lt k hk).1), h.len, fun t ht => by
    obtain ⟨A, n, c, e, ho⟩ := h.old t ht
    exact ⟨A, n, c, e, ho.keep (ha.mono fun b hb => hb.1)⟩, own_agree (h.last : w.ownsRow N 3 1 u C.length (C.map natV)) ha (fun k hk => (World.ownsRow.lt h.last k hk).1), h.apart⟩
theorem GrM.grsN {w : World} {N : Nat} {v u : Value} {hs : List Value} {D : List (List Nat)} {C : List Nat} (h : GrM w N v u hs D C) : ∃ A c, v = .slice A (D.length + 1) c ∧ On (N ≤ ·) w (Grs · A (D.length + 1) (D ++ [C])) := by
  obtain ⟨A, c, e, -⟩ := h.grs
  refine ⟨A, c, e, fun w' ha => ?_⟩
  obtain ⟨A', c', e', hg⟩ := (h.agree ha).grs
  rw [e] at e'
  injection e' with e1 e2 e3
  subst e1
  exact hg

set_option maxHeartbeats 4000000 in
theorem together_any {w : World} {ha hb : Qh} {a b : Rq} (hra : RqR w ha a) (hrb : RqR w hb b) :
    Calls Try.prog 39 #[.agg #[.int .i64 a.cl, .int .i64 a.sq, .int .i64 a.kind, .slice ha.A ha.n ha.c, .slice ha.B ha.m ha.d, .slice ha.C ha.o ha.p, .slice ha.D ha.q ha.s, .int .i64 a.limit], .agg #[.int .i64 b.cl, .int .i64 b.sq, .int .i64 b.kind, .slice hb.A hb.n hb.c, .slice hb.B hb.m hb.d, .slice hb.C hb.o hb.p, .slice hb.D hb.q hb.s, .int .i64 b.limit]] w fun e w' => e = .returned (.bool (togQ a b)) ∧ Below w.heap.size w w' := by
  obtain ⟨V, hV, hVB, hVA, hVR, hVs⟩ := box_qq w ha hb a b
  have HC := Lib.hid (fun w1 (h1 : Below V.heap.size V w1) => compare_any (w := w1) ha.c hb.c ((hra.1.below hVB).below h1) ((hrb.1.below hVB).below h1))
  have HZ := Lib.hid (cmp_zero a.key b.key)
  have HQ := Lib.hid (show togQ a b = (!scanQ a && (!scanQ b && sameB a.key b.key)) from rfl)
  have HB := Lib.hid hVB
  have HA := Lib.hid hVA
  have HR := Lib.hid hVR
  have hVe := Lib.hid hV
  have hwl : w.heap.size < V.heap.size := by omega
  have hwl2 : w.heap.size + 1 < V.heap.size := by omega
  obtain ⟨q0, q1, q2, q3, q4, q5, q6, q7⟩ := hVA.cells
  obtain ⟨y0, y1, y2, y3, y4, y5, y6, y7⟩ := hVR.cells
  clear hra hrb hV hVB hVA hVR hVs
  generalize togQ a b = res at HQ ⊢
  have HSA := Lib.hid (fun w => scans_any w ha a)
  have HSB := Lib.hid (fun w => scans_any w hb b)
  generalize scanQ a = sa at HSA HQ
  generalize scanQ b = sb at HSB HQ
  generalize cmpB a.key b.key = z at HC HZ
  generalize sameB a.key b.key = t at HZ HQ
  have D := Lib.hid (HSA.out V)
  cases sa
  · cases sb
    · go_enter Try.func39, Try.ntmps39
      go_wp2_with fail
      rw [← hVe.out]
      refine D.out.mono ?_
      rintro e w2 ⟨rfl, hb2⟩
      have HB2 := Lib.hid hb2
      have E := Lib.hid (HSB.out w2)
      obtain ⟨y0, y1, y2, y3, y4, y5, y6, y7⟩ := (HR.out.below hb2 hwl2).cells
      clear hb2 D
      go_wp2_with fail
      refine E.out.mono ?_
      rintro e w3 ⟨rfl, hb3⟩
      have hb3 : Below V.heap.size V w3 := HB2.out.trans (hb3.mono HB2.out.size)
      have HB3 := Lib.hid hb3
      obtain ⟨-, -, -, q3, -, -, -, -⟩ := (HA.out.below hb3 hwl).cells
      obtain ⟨-, -, -, y3, -, -, -, -⟩ := (HR.out.below hb3 hwl2).cells
      have F := Lib.hid (HC.out w3 hb3)
      clear hb3 E
      go_wp2_with fail
      refine F.out.mono ?_
      rintro e w4 ⟨rfl, rfl⟩
      go_wp2
      go_ret
      exact ⟨by rw [HQ.out, ← HZ.out]; rfl, HB.out.trans (HB3.out.mono HB.out.size)⟩
    · go_enter Try.func39, Try.ntmps39
      go_wp2_with fail
      rw [← hVe.out]
      refine D.out.mono ?_
      rintro e w2 ⟨rfl, hb2⟩
      have HB2 := Lib.hid hb2
      have E := Lib.hid (HSB.out w2)
      obtain ⟨y0, y1, y2, y3, y4, y5, y6, y7⟩ := (HR.out.below hb2 hwl2).cells
      clear hb2 D
      go_wp2_with fail
      refine E.out.mono ?_
      rintro e w3 ⟨rfl, hb3⟩
      have HB3 := Lib.hid (HB2.out.trans (hb3.mono HB2.out.size))
      clear hb3 E
      go_wp2
      go_ret
      exact ⟨by rw [HQ.out]; rfl, HB.out.trans (HB3.out.mono HB.out.size)⟩
  · go_enter Try.func39, Try.ntmps39
    go_wp2_with fail
    rw [← hVe.out]
    refine D.out.mono ?_
    rintro e w2 ⟨rfl, hb2⟩
    have HB2 := Lib.hid hb2
    clear hb2 D
    go_wp2
    go_ret
    exact ⟨by rw [HQ.out]; rfl, HB.out.trans (HB2.out.mono HB.out.size)⟩

end Go.Proofs.Ythcchaglloggjaa
