/- Slices of numbers as lists; contracts of the document's own ahead and Order: the places, rising by the order. Condition: no more than 1000 requests, whose slices have at most 100 bytes; what came in can be read. -/
import Derived.Test.YthcchaglloggjaaYi
import Derived.Test.YthcchaglloggjaaWt
namespace Go.Proofs.Ythcchaglloggjaa
open Go.RowKit
set_option linter.unusedVariables false
set_option maxRecDepth 100000

def natV (k : Nat) : Value := .int .i64 k
def nat (L : List Nat) (j : Nat) : Nat := L.getD j 0
theorem nat_eq {L : List Nat} {i : Nat} (h : i < L.length) : nat L i = L[i] := by unfold nat; simp [h]
/-- A slice of numbers that reads as the list L. -/
def Nls (w : World) (A : Option Addr) (n c : Nat) (L : List Nat) : Prop :=
  L.length = n ∧ n ≤ c ∧ c ≤ maxLen ∧ (A = none → c = 0) ∧ (0 < n → ∃ b o, A = some ⟨b, o, none⟩ ∧ b < w.heap.size ∧ ∀ j, j < n → w.cell? ⟨b, o + j, none⟩ = some (natV (nat L j)))
theorem nls_nil (w : World) : Nls w none 0 0 [] := ⟨rfl, Nat.le_refl _, Nat.zero_le _, fun _ => rfl, fun h => absurd h (by omega)⟩
theorem Nls.keep {w w' : World} {A : Option Addr} {n c : Nat} {L : List Nat} (h : Nls w A n c L) (hs : w.heap.size ≤ w'.heap.size) (hc : ∀ q : Addr, q.block < w.heap.size → w'.cell? q = w.cell? q) : Nls w' A n c L := by
  obtain ⟨h1, h2, h3, h4, h5⟩ := h
  refine ⟨h1, h2, h3, h4, fun h0 => ?_⟩
  obtain ⟨b, o, e, hb, hj⟩ := h5 h0
  exact ⟨b, o, e, by omega, fun j hl => (hc ⟨b, o + j, none⟩ hb).trans (hj j hl)⟩
theorem Nls.below {w w' : World} {A : Option Addr} {n c : Nat} {L : List Nat} (h : Nls w A n c L) (hb : Below w.heap.size w w') : Nls w' A n c L := h.keep hb.size fun _ hp => hb.cell hp
theorem Nls.at_ {w : World} {A : Option Addr} {n c j : Nat} {L : List Nat} (h : Nls w A n c L) (hj : j < n) : ∃ b o, A = some ⟨b, o, none⟩ ∧ b < w.heap.size ∧ w.cell? ⟨b, o + j, none⟩ = some (.int .i64 (nat L j)) := by
  obtain ⟨b, o, e, hb, hp⟩ := h.2.2.2.2 (by omega)
  exact ⟨b, o, e, hb, hp j hj⟩
theorem Nls.nts {w : World} {A : Option Addr} {n c : Nat} {L : List Nat} (h : Nls w A n c L) : Nts w A n (nat L) := ⟨Nat.le_trans h.2.1 h.2.2.1, h.2.2.2.2⟩
theorem Nls.cells {w : World} {A : Option Addr} {n c : Nat} {L : List Nat} (h : Nls w A n c L) : (L.map natV).length = n ∧ ∀ a, A = some a → ∀ j u, (L.map natV)[j]? = some u → w.cell? (a.add j) = some u := by
  obtain ⟨h1, h2, h3, h4, h5⟩ := h
  refine ⟨by simp [h1], fun a e j u hu => ?_⟩
  subst e
  rw [List.getElem?_map] at hu
  obtain ⟨z, hz, rfl⟩ := Option.map_eq_some_iff.1 hu
  obtain ⟨hj, rfl⟩ := List.getElem?_eq_some_iff.1 hz
  obtain ⟨b, o, e, _, hc⟩ := h5 (by omega)
  injection e with e
  subst e
  rw [add_lit, hc j (by omega), nat_eq hj]
theorem nat_one (L : List Nat) : ∀ u ∈ L.map natV, u.oneCell' = true := fun u hu => by
  obtain ⟨k, -, rfl⟩ := List.mem_map.1 hu
  rfl
def cutI (A : Option Addr) (k c : Nat) : Option Addr := if c = k then A else A.map (·.add k)
theorem Nls.from {w : World} {A : Option Addr} {n c k : Nat} {L : List Nat} (h : Nls w A n c L) (hk : k ≤ n) : Nls w (cutI A k c) (n - k) (c - k) (L.drop k) := by
  obtain ⟨h1, h2, h3, h4, h5⟩ := h
  refine ⟨by simp [h1], by omega, by omega, fun e => ?_, fun h0 => ?_⟩
  · unfold cutI at e
    split at e
    · omega
    · cases A with
      | none => have := h4 rfl; omega
      | some a => cases e
  · obtain ⟨b, o, e, hb, hj⟩ := h5 (by omega)
    refine ⟨b, o + k, ?_, hb, fun j hl => ?_⟩
    · unfold cutI
      rw [if_neg (by omega), e]
      simp only [Option.map_some]
      rw [add_lit]
    · have hg : nat (L.drop k) j = nat L (k + j) := by
        unfold nat
        simp [List.getD_eq_getElem?_getD]
      rw [hg, Nat.add_assoc]
      exact hj (k + j) (by omega)
theorem Nls.upto {w : World} {A : Option Addr} {n c k : Nat} {L : List Nat} (h : Nls w A n c L) (hk : k ≤ n) : Nls w A k c (L.take k) := by
  obtain ⟨h1, h2, h3, h4, h5⟩ := h
  refine ⟨by simp; omega, by omega, h3, h4, fun h0 => ?_⟩
  obtain ⟨b, o, e, hb, hj⟩ := h5 (by omega)
  refine ⟨b, o, e, hb, fun j hl => ?_⟩
  have hg : nat (L.take k) j = nat L j := by
    unfold nat
    simp [List.getD_eq_getElem?_getD, hl]
  rw [hg]
  exact hj j (by omega)
/-- A row of one's own reads as its list. -/
theorem own_nls {w : World} {N n : Nat} {v : Value} {L : List Nat} (h : w.ownsRow N 3 1 v n (L.map natV)) : ∃ A c, v = .slice A n c ∧ Nls w A n c L := by
  obtain ⟨A, c, rfl, -⟩ := own_new h
  have hl : L.length = n := by have := h.1; simpa using this
  have hc := own_caps h
  refine ⟨A, c, rfl, hl, hc.1, hc.2.1, hc.2.2, fun h0 => ?_⟩
  obtain ⟨g, rfl, -, hg⟩ := own_at h h0
  refine ⟨g, 0, rfl, hg, fun j hj => ?_⟩
  rw [Nat.zero_add]
  refine (h.cellAt _ (by omega)).trans ?_
  rw [List.getElem?_map, List.getElem?_eq_getElem (by omega), nat_eq (by omega)]
  rfl

/-- A row of one's own that holds the numbers of L. -/
def OwnN (w : World) (N : Nat) (v : Value) (n : Nat) (L : List Nat) : Prop := w.ownsRow N 3 1 v n (L.map natV)

/-- append of numbers that could be read at some time, nil included, to a row of one's own. -/
theorem wpList_append_nls {w w0 : World} {ops : Array Oper} {rest : List Oper} {o : Oper} {a : Act} {Q : Exit → Act → World → Prop} (hgd : o.guard = none) (s x : Operand)
    (ho : o.op = .call { callee := .builtin .append, args := #[s, x], argTypes := #[30, 30] })
    (base : Nat) (v : Value) (n : Nat) (L : List Nat) (hs : a.eval s = v) (hown : OwnN w base v n L)
    (A : Option Addr) (m c : Nat) (M : List Nat) (hx : a.eval x = .slice A m c) (hp : Nls w0 A m c M) (hb : Below w0.heap.size w0 w) (h63 : n + m ≤ 3000) (hbase : base ≤ w.heap.size)
    (h : ∀ v' w', OwnN w' base v' (n + m) (L ++ M) → w.grownBy w' v.ownBlock → wpList Try.prog ops Q rest (a.put o.dst v') w') :
    wpList Try.prog ops Q (o :: rest) a w := by
  obtain ⟨i0, hi, hz0, hz1, hz2⟩ := info_parts Try.infoInt
  obtain ⟨hl, hc⟩ := hp.cells
  cases A with
  | none =>
    obtain rfl : c = 0 := hp.2.2.2.1 rfl
    obtain rfl : m = 0 := Nat.le_zero.1 hp.2.1
    obtain rfl : M = [] := List.eq_nil_of_length_eq_zero hp.1
    refine wpList_append_own_none (w := w) hgd s x _ ho base 3 i0 1 Try.underlying30 hi v n (L.map natV) hs hown hx ?_
    exact h v w (by simpa [OwnN] using hown) (World.grownBy.refl _ _)
  | some ad =>
    refine wpList_append_own w hgd s x _ ho base 3 i0 (.int .i64 0) 1 8 Try.underlying30 hi hz0 hz1 hz2 rfl (by decide) v n (L.map natV) hs hown ad m c (M.map natV) hx (by simpa using hl) (fun j u hu => ?_) (nat_one M) (by unfold maxLen; omega) (by omega) hbase ?_
    · have hcell := hc ad rfl j u hu
      have hlt := World.block_lt_of_cell? w0 _ hcell
      exact (hb.cell hlt).trans hcell
    intro v' w' h1 h2 _
    exact h v' w' (by unfold OwnN; rw [List.map_append]; exact h1) h2

set_option maxHeartbeats 4000000 in
theorem aheadq_any {w : World} {ha hb : Qh} {a b : Rq} (hra : RqR w ha a) (hrb : RqR w hb b) (hsa : smallQ a = true) (hsb : smallQ b = true) :
    Calls Try.prog 55 #[.agg #[.int .i64 a.cl, .int .i64 a.sq, .int .i64 a.kind, .slice ha.A ha.n ha.c, .slice ha.B ha.m ha.d, .slice ha.C ha.o ha.p, .slice ha.D ha.q ha.s, .int .i64 a.limit], .agg #[.int .i64 b.cl, .int .i64 b.sq, .int .i64 b.kind, .slice hb.A hb.n hb.c, .slice hb.B hb.m hb.d, .slice hb.C hb.o hb.p, .slice hb.D hb.q hb.s, .int .i64 b.limit]] w fun e w' => e = .returned (.bool (aheadQ a b)) ∧ Below w.heap.size w w' := by
  obtain ⟨V, hV, hVB, hVA, hVR, hVs⟩ := box_qq w ha hb a b
  have l1 := (small_lens hsa).1
  have l2 := (small_lens hsb).1
  have HL1 := Lib.hid (fun w1 (hd : Drawn V w1) => less_any (w := w1) ha.c hb.c (hd.byt (hra.1.below hVB)) (hd.byt (hrb.1.below hVB)) (by rw [← hra.1.1]; unfold maxLen; omega) (by rw [← hrb.1.1]; unfold maxLen; omega))
  have HL2 := Lib.hid (fun w1 (hd : Drawn V w1) => less_any (w := w1) hb.c ha.c (hd.byt (hrb.1.below hVB)) (hd.byt (hra.1.below hVB)) (by rw [← hrb.1.1]; unfold maxLen; omega) (by rw [← hra.1.1]; unfold maxLen; omega))
  have HQ := Lib.hid (show aheadQ a b = (ltB a.key b.key || (!ltB b.key a.key && (!(a.kind == 6) && (b.kind == 6)))) from rfl)
  have HB := Lib.hid hVB
  have HA := Lib.hid hVA
  have HR := Lib.hid hVR
  have hVe := Lib.hid hV
  have hwl : w.heap.size < V.heap.size := by omega
  have hwl2 : w.heap.size + 1 < V.heap.size := by omega
  obtain ⟨q0, q1, q2, q3, q4, q5, q6, q7⟩ := hVA.cells
  obtain ⟨y0, y1, y2, y3, y4, y5, y6, y7⟩ := hVR.cells
  clear hra hrb hV hVB hVA hVR hVs hsa hsb l1 l2
  generalize aheadQ a b = res at HQ ⊢
  generalize ltB a.key b.key = t1 at HL1 HQ
  generalize ltB b.key a.key = t2 at HL2 HQ
  have HD0 := Lib.hid (HL1.out V ⟨0, rfl⟩)
  cases hk1 : (a.kind == 6) <;> cases hk2 : (b.kind == 6)
  all_goals
    rw [hk1, hk2] at HQ
    have hn1 : (a.kind != 6) = !(a.kind == 6) := rfl
    rw [hk1] at hn1
    cases t1 <;> cases t2
  all_goals
    go_enter Try.func55, Try.ntmps55
    go_wp2_with fail
    rw [← hVe.out]
    refine HD0.out.mono ?_
    rintro e w1 ⟨rfl, hd1⟩
    have D1 := Lib.hid (HL2.out w1 hd1)
    obtain ⟨d1, rfl⟩ := hd1
    go_wp2_with fail
    refine D1.out.mono ?_
    rintro e w2 ⟨rfl, hd2⟩
    obtain ⟨d2, rfl⟩ := hd2
    go_wp2
    go_ret
    exact ⟨by rw [HQ.out]; rfl, HB.out.trans (Drawn.below ⟨_, rfl⟩ _)⟩

/-- One more place put among those that rise: where the first one is that it stands ahead of. -/
theorem ins_nat {L : List Nat} {i at_ : Nat} (hl : L.length = i) (ha : at_ ≤ i) : ∀ k, k < i + 1 → nat (L.take at_ ++ [i] ++ L.drop at_) k = rotF (fun k => if k < i then nat L k else i) at_ i (i + 1) k := fun k hk => by
  unfold rotF nat
  simp only [List.getD_eq_getElem?_getD, List.append_assoc]
  by_cases h1 : k < at_
  · rw [List.getElem?_append_left (by simp; omega), List.getElem?_take_of_lt h1, if_neg (by omega), if_pos (by omega)]
  · rw [List.getElem?_append_right (by simp; omega), if_pos (by omega)]
    have e : (List.take at_ L).length = at_ := by simp; omega
    rw [e]
    by_cases h2 : k = at_
    · subst h2
      rw [Nat.sub_self, if_pos (by omega), if_neg (by omega)]
      rfl
    · rw [List.getElem?_append_right (by simp; omega), if_neg (by omega), if_pos (by omega), List.getElem?_drop]
      congr 2
      simp
      omega
/-- The list that insertion has made of the first i requests. -/
structure OrdL (M : List Rq) (i : Nat) (L : List Nat) : Prop where
  len : L.length = i
  is : OrdI M i (nat L)
theorem ordl_step {M : List Rq} {i at_ : Nat} {L : List Nat} (h : OrdL M i L) (ha : at_ ≤ i) (hno : ∀ p, p < at_ → aheadQ (gq M i) (gq M (nat L p)) = false) (hyes : at_ < i → aheadQ (gq M i) (gq M (nat L at_)) = true) : OrdL M (i + 1) (L.take at_ ++ [i] ++ L.drop at_) := by
  have hT := ordT_sto M
  have hat : ∀ k, k < i → ordT M i (nat L k) = aheadQ (gq M i) (gq M (nat L k)) := fun k hk => (ordU_T M _ _ (h.is.lt k hk)).symm
  have eq := ins_nat (L := L) h.len ha
  have g1 : ∀ k, k < i → (fun k => if k < i then nat L k else i) k = nat L k := fun k hk => by simp [hk]
  have gi : (fun k => if k < i then nat L k else i) i = i := by simp
  have r1 : Rise (ordT M) (fun k => if k < i then nat L k else i) 0 i := h.is.rise.same fun k _ hk => g1 k hk
  have hl : ∀ p, 0 ≤ p → p < at_ → ordT M ((fun k => if k < i then nat L k else i) p) ((fun k => if k < i then nat L k else i) i) = true := fun p _ hp => by
    rw [g1 p (by omega), gi]
    have hp2 := h.is.lt p (by omega)
    rcases hT.tot (nat L p) i (by omega) with h1 | h1
    · exact h1
    · rw [hat p (by omega), hno p hp] at h1; cases h1
  have hr : ∀ p, at_ ≤ p → p < i → ordT M ((fun k => if k < i then nat L k else i) i) ((fun k => if k < i then nat L k else i) p) = true := fun p hp hp2 => by
    rw [g1 p hp2, gi]
    have h0 : ordT M i (nat L at_) = true := by rw [hat at_ (by omega)]; exact hyes (by omega)
    by_cases e : at_ = p
    · rw [← e]; exact h0
    · exact hT.trans _ _ _ h0 (h.is.rise at_ p (Nat.zero_le _) (by omega) hp2)
  have hrise := merge_last hT r1 (Nat.zero_le at_) ha hl hr
  have hmix := (mix_rot (fun k => if k < i then nat L k else i) ha (Nat.le_succ i)).wide (Nat.zero_le _) (Nat.le_refl (i + 1))
  refine ⟨by simp [h.len]; omega, hrise.same fun k _ hk => eq k hk, fun k hk => ?_, fun v hv => ?_⟩
  · rw [eq k hk]
    obtain ⟨j, -, j2, e⟩ := hmix.to k (Nat.zero_le _) hk
    rw [e]
    by_cases hj : j < i
    · have := h.is.lt j hj
      rw [if_pos hj]
      omega
    · rw [if_neg hj]
      omega
  · obtain ⟨j, j2, e⟩ : ∃ j, j < i + 1 ∧ v = (fun k => if k < i then nat L k else i) j := by
      by_cases hki : v < i
      · obtain ⟨j, j2, e⟩ := h.is.onto v hki
        exact ⟨j, by omega, by rw [g1 j j2]; exact e⟩
      · exact ⟨i, by omega, by rw [gi]; omega⟩
    obtain ⟨p, -, p2, e'⟩ := hmix.of j (Nat.zero_le _) j2
    exact ⟨p, p2, by rw [eq p p2, ← e']; exact e⟩
end Go.Proofs.Ythcchaglloggjaa
