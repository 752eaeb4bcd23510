/- The contract of package tree's with: a stop's node with one kid more. Condition: the node's keys and kids are rows of one's own; at most 100 keys. The contract of package tree's halve: a node as two, which share its memory. Condition: a leaf has a pair; another node one kid more than keys. The contract of package tree's lay, by its way from the end on. Condition: the stops' nodes in blocks of their own; at most 9000 numbers. -/
import Derived.Test.YtdkppgmhhijkgaaG4
import Derived.BigRegion
import Derived.Test.YtdkppgmhhijkgaaG3
import Derived.StillTailTactics
namespace Go.Proofs.Ytdkppgmhhijkgaa
open Go.RowKit
set_option linter.unusedVariables false
set_option maxRecDepth 100000

theorem seven_at {w : World} {b : Nat} {T : TypeId} {a0 a1 a2 a3 a4 a5 a6 : Value} (h : w.heap[b]? = some (.cells #[a0, a1, a2, a3, a4, a5, a6] T (0, 0))) :
    w.cell? ⟨b, 0, none⟩ = some a0 ∧ w.cell? ⟨b, 1, none⟩ = some a1 ∧ w.cell? ⟨b, 2, none⟩ = some a2 ∧ w.cell? ⟨b, 3, none⟩ = some a3 ∧ w.cell? ⟨b, 4, none⟩ = some a4 ∧ w.cell? ⟨b, 5, none⟩ = some a5 ∧ w.cell? ⟨b, 6, none⟩ = some a6 := by
  simp [World.cell?, h]
theorem kreads_one {C : Nat → Nat → Prop} {w : World} {ys : List Value} {L : List Ky} (h : KReads C w ys L) : ∀ v ∈ ys, v.oneCell' = true := by
  intro v hv
  obtain ⟨j, hj, rfl⟩ := List.getElem_of_mem hv
  obtain ⟨A, n, c, e1, _⟩ := h.2 j (by have := h.1; omega)
  rw [List.getElem?_eq_getElem hj] at e1
  injection e1 with e1
  rw [e1]
  rfl
theorem kat_ins (l : List Ky) {i : Nat} (x : Ky) (hi : i ≤ l.length) (j : Nat) : kat (ins l i x) j = if j < i then kat l j else if j = i then x else kat l (j - 1) := by
  unfold kat
  simp only [List.getD_eq_getElem?_getD, ins_at l x hi j]
  by_cases h1 : j < i
  · simp [h1]
  · by_cases h2 : j = i
    · simp [h2]
    · simp [h1, h2]
theorem kreads_ins {C : Nat → Prop} {w : World} {ys : List Value} {L : List Ky} (h : KReads (fun _ => C) w ys L) {i : Nat} (hi : i ≤ L.length) {A : Option Addr} {n : Nat} (c : Nat) {x : Ky} (hx : On C w (Byt · A n x)) : KReads (fun _ => C) w (ins ys i (.slice A n c)) (ins L i x) := by
  have hl := h.1
  refine ⟨by rw [ins_len _ _ (by omega), ins_len _ _ hi, hl], fun j hj => ?_⟩
  rw [ins_len _ _ hi] at hj
  rw [ins_at _ _ (by omega), kat_ins _ _ hi]
  by_cases h1 : j < i
  · rw [if_pos h1, if_pos h1]
    exact h.2 j (by omega)
  · rw [if_neg h1, if_neg h1]
    by_cases h2 : j = i
    · rw [if_pos h2, if_pos h2]
      exact ⟨A, n, c, rfl, hx⟩
    · rw [if_neg h2, if_neg h2]
      exact h.2 (j - 1) (by omega)
theorem ins_map {α β : Type} (f : α → β) (l : List α) (i : Nat) (x : α) : ins (l.map f) i (f x) = (ins l i x).map f := by
  unfold ins; simp [List.map_take, List.map_drop]
theorem grown_agree {C : Nat → Prop} {w w' : World} {b : Nat} (h : w.grownBy w' (some b)) (hC : ¬ C b) : Agree C w w' := agree_grown h fun k e => by injection e with e; rw [← e]; exact hC

theorem only_mono {D D' : Nat → Prop} {a b : World} (h : Only D a b) (hD : ∀ i, D i → D' i) : Only D' a b := ⟨h.os, h.tape, h.output, h.size, fun k hk hd => h.block k hk (fun h => hd (hD k h))⟩
/-- What with leaves. -/
def Withd (w : World) (C Cf : Nat → Prop) (x : Nd) (e : Ending) (w' : World) : Prop :=
  ∃ h, e = .returned (ndV h x) ∧ On (fun b => C b ∨ Cf b ∨ w.heap.size ≤ b) w' (NdR · h x) ∧ Only C w w'

set_option maxHeartbeats 4000000 in
theorem with_any {w : World} {s : Stp} {h : Nh} {C Cf : Nat → Prop} (hin : NodeIn w C h s.nd) (hC : ∀ b, C b → b < w.heap.size) (hk1 : 1 ≤ s.nd.keys.length) (hk2 : s.nd.keys.length ≤ 100) (hkk : s.nd.kids.length = s.nd.keys.length + 1) (hkid : s.kid ≤ s.nd.keys.length)
    {FA : Option Addr} {fn : Nat} (fc : Nat) {x : Ky} (hf : On Cf w (Byt · FA fn x)) (hCf : ∀ b, Cf b → ¬ C b ∧ b < w.heap.size) (kid : Nat) :
    Calls Try.prog 59 #[stopV s h, .slice FA fn fc, .int .i64 kid] w (Withd w C Cf (withN s x kid)) := by
  obtain ⟨h1, h2, ⟨ys, h3, h4⟩, h5, h6, h7⟩ := hin
  have hm : h.m = s.nd.keys.length := by have := h1.here.2.1.1; omega
  have hk : h.k = s.nd.kids.length := by have := h1.here.2.2.1; omega
  obtain ⟨bk, hB, -, hbk⟩ := own_at h3 (by omega)
  obtain ⟨bi, hK, -, hbi⟩ := own_at h2 (by omega)
  have hbb : bk ≠ bi := h5 _ _ hB hK
  have hCk : C bk := h6 _ hB
  have hCi : C bi := h7 _ hK
  obtain ⟨A, n, c, B, m, d, K, k, ee⟩ := h
  simp only at hB hK hm hk h1 h2 h3 h4 h5 h6 h7
  subst hB
  subst hK
  obtain rfl : k = m + 1 := by omega
  have hm2 : m ≤ 100 := by omega
  have hm3 : s.kid ≤ m := by omega
  have hm4 : 1 ≤ m := by omega
  have HM := Lib.hid (And.intro hm hkk)
  clear hm hk hk1 hk2 hkk hkid
  have W0 := Lib.hid (two_new w (.cells #[.int .i64 s.num, .bool s.nd.leaf, .slice A n c, .slice (some ⟨bk, 0, none⟩) m d, .slice (some ⟨bi, 0, none⟩) (m + 1) ee, .int .i64 s.nd.next, .int .i64 s.kid] 74) (.cells #[.bool false, .slice none 0 0, .slice none 0 0, .slice none 0 0, .int .i64 0] 72))
  have H2 := Lib.hid h2
  have H3 := Lib.hid (And.intro h3 h4)
  have HF := Lib.hid hf
  have HC := Lib.hid (And.intro hC hCf)
  clear h1 h2 h3 h4 h5 h6 h7 hf hC hCf
  go_enter Try.func59, Try.ntmps59
  go_wp2_with fail
  obtain ⟨W, hW, hWB, hWs, hWb0, hWb1⟩ := W0.out
  rw [← hW]
  obtain ⟨c0, c1, c2, c3, c4, c5, c6⟩ := seven_at hWb0
  obtain ⟨d0, d1, d2, d3, d4, f0, f1, f2, f3, f4⟩ := five hWb1
  clear hW W0
  have hmx : m ≤ maxLen := by unfold maxLen; omega
  have HK : Hid (∀ (V : World) (vb : Nat), Below W.heap.size W V → V.heap[vb]? = some (.cells #[.slice FA fn fc] 25 (0, 0)) → W.heap.size ≤ vb →
      Calls Try.prog 72 #[.slice (some ⟨bk, 0, none⟩) m d, .int .i64 s.kid, .slice (some ⟨vb, 0, none⟩) 1 1] V (fun e w' => Insd V 0 bk 25 (m + 1) (ins ys s.kid (.slice FA fn fc)) e w' ∧ Only (· = bk) W w' ∧ W.heap.size ≤ V.heap.size)) := Lib.hid fun V vb hV hv hvb =>
    (insk_any (own_keep (own_keep H3.out.1 hWB) hV) (by omega) (Nat.zero_le _) hm3 hv (by have := hWB.size; omega) rfl (kreads_one H3.out.2)).mono fun e w' hi => ⟨hi, by
      obtain ⟨_, _, _, _, hg, _⟩ := hi
      exact (below_only hV).grown hg (fun k e => .inr (by injection e with e; exact e.symm)), hV.size⟩
  have HI : Hid (∀ (V : World) (vb : Nat), Only (· = bk) W V → V.heap[vb]? = some (.cells #[.int .i64 kid] 3 (0, 0)) → W.heap.size ≤ vb →
      Calls Try.prog 73 #[.slice (some ⟨bi, 0, none⟩) (m + 1) ee, .int .i64 (IntKind.i64.wrap ((s.kid : Int) + 1)), .slice (some ⟨vb, 0, none⟩) 1 1] V (fun e w' => Insd V 0 bi 3 (m + 1 + 1) (ins (s.nd.kids.map intV) (s.kid + 1) (intV kid)) e w' ∧ Only (fun b => b = bk ∨ b = bi) W w' ∧ W.heap.size ≤ V.heap.size)) := Lib.hid fun V vb hV hv hvb => by
    rw [show IntKind.i64.wrap ((s.kid : Int) + 1) = ((s.kid + 1 : Nat) : Int) from by rw [IntKind.wrap_i64]; omega]
    exact (insi_any (i := s.kid + 1) (own_agree (own_keep H2.out hWB) (C := (· = bi)) (hV.agree (fun b hb e => hbb (by omega))) (fun k hk => by injection hk with hk; exact hk.symm)) (by omega) (Nat.zero_le _) (by omega) hv (by have := hWB.size; omega) rfl (fun v hv => by obtain ⟨z, _, rfl⟩ := List.mem_map.1 hv; rfl)).mono fun e w' hi => ⟨hi, by
      obtain ⟨_, _, _, _, hg, _⟩ := hi
      exact (only_mono hV (fun b hb => .inl hb)).grown hg (fun k e => .inr (by injection e with e; exact .inr e.symm)), hV.size⟩
  have HB1 := Lib.hid (fun o => (((Below.refl W.heap.size W).alloc (Nat.le_refl _) o).drew))
  have HB2 := Lib.hid (fun o o' => ((((Below.refl W.heap.size W).alloc (Nat.le_refl _) o).alloc (by simp) o').drew))
  have HH1 : Hid (∀ o : Obj, (W.alloc o).drew.heap[w.heap.size + 1 + 1]? = some o) := Lib.hid fun o => by rw [← hWs]; exact heap_alloc_new W o
  have HH2 : Hid (∀ o o' : Obj, ((W.alloc o).alloc o').drew.heap[w.heap.size + 1 + 1]? = some o) := Lib.hid fun o o' => (Below.heap_alloc (W.alloc o) o' _ (by simp; omega)).trans (by rw [← hWs]; exact heap_alloc_new W o)
  have HH3 : Hid (∀ o o' : Obj, ((W.alloc o).alloc o').drew.heap[w.heap.size + 1 + 1 + 1]? = some o') := Lib.hid fun o o' => by
    have := heap_alloc_new (W.alloc o) o'
    rw [alloc_sz, hWs] at this
    exact this
  have HX := Lib.hid (And.intro hWb0 hWb1)
  have hlw : w.heap.size < W.heap.size := by omega
  have hlw1 : w.heap.size + 1 < W.heap.size := by omega
  have hnk : w.heap.size ≠ bk := by omega
  have hnk1 : w.heap.size + 1 ≠ bk := by omega
  have hni : w.heap.size ≠ bi := by omega
  have hni1 : w.heap.size + 1 ≠ bi := by omega
  have hbk2 : bk < w.heap.size := hbk
  have hbi2 : bi < w.heap.size := hbi
  have hnn : ¬ (w.heap.size = bk ∨ w.heap.size = bi) := by omega
  have hnn1 : ¬ (w.heap.size + 1 = bk ∨ w.heap.size + 1 = bi) := by omega
  clear hWb0 hWb1 hbk hbi
  go_region_held3 (fun w' => w'.cell? ⟨w.heap.size, 3, none⟩ = some (.slice (some ⟨bk, 0, none⟩) m d) ∧ w'.cell? ⟨w.heap.size, 4, none⟩ = some (.slice (some ⟨bi, 0, none⟩) (m + 1) ee) ∧ w'.cell? ⟨w.heap.size, 6, none⟩ = some (.int .i64 s.kid)) (go_keep)
    (first
      | (go_at_call 72
         (with_reducible refine (HK.out _ _ (by first | exact HB1.out _ | exact HB2.out _ _) (by first | exact HH1.out _ | exact HH2.out _ _ | exact HH3.out _ _) (by omega)).mono ?_)
         rintro e w3 ⟨⟨g3, p3, rfl, ho3, hg3, hat3, hlt3⟩, hb3, hsV⟩
         have hat3 : g3 = bk ∨ W.heap.size ≤ g3 := hat3.imp id (fun h => Nat.le_trans hsV h)
         obtain ⟨-, -, -, c3, c4, -, c6⟩ := seven_at ((hb3.block w.heap.size hlw hnk).trans HX.out.1)
         have HG3 := Lib.hid (And.intro ho3 (And.intro hg3 (And.intro hat3 (And.intro hlt3 hb3))))
         clear ho3 hg3 hat3 hlt3 hb3 hsV)
      | (go_at_call 73
         (with_reducible refine (HI.out _ _ (by first | exact HG3.out.2.2.2.2 | exact HG3.out.2.2.2.2.alloc _) (by first | exact heap_alloc_new w3 _ | exact (HG3.out.2.1.block _ (by simp; omega) (fun e => by injection e with e; omega)).trans (HH3.out _ _) | exact (HG3.out.2.1.block _ (by simp; omega) (fun e => by injection e with e; omega)).trans (HH2.out _ _)) (by first | exact HG3.out.2.2.2.2.size | omega)).mono ?_)
         rintro e w4 ⟨⟨g4, p4, rfl, ho4, hg4, hat4, hlt4⟩, hb4, hsV⟩
         have hat4 : g4 = bi ∨ W.heap.size ≤ g4 := hat4.imp id (fun h => Nat.le_trans hsV h)
         have HR := Lib.hid (show ∀ b, b < w3.heap.size → b ≠ bi → w4.heap[b]? = w3.heap[b]? by
           first
             | exact fun b q1 q2 => hg4.block b q1 (fun e => q2 (by injection e))
             | exact fun b q1 q2 => (hg4.block b (Nat.lt_of_lt_of_le q1 (by simp)) (fun e => q2 (by injection e))).trans (Below.heap_alloc w3 _ _ q1))
         have HRS := Lib.hid (show w3.heap.size ≤ w4.heap.size by
           have := hg4.size
           first
             | exact this
             | (simp at this; omega))
         obtain ⟨-, -, -, c3, c4, -, c6⟩ := seven_at ((hb4.block w.heap.size hlw hnn).trans HX.out.1)
         obtain ⟨d0, d1, d2, d3, d4, f0, f1, f2, f3, f4⟩ := five ((hb4.block (w.heap.size + 1) hlw1 hnn1).trans HX.out.2)
         have HG4 := Lib.hid (And.intro ho4 (And.intro hg4 (And.intro hat4 (And.intro hlt4 hb4))))
         clear ho4 hg4 hat4 hlt4 hb4 hsV))
  all_goals
    have HF4 := Lib.hid (show On (fun b => C b ∨ Cf b ∨ w.heap.size + 1 + 1 ≤ b) w4 (NdR · ⟨none, 0, 0, some ⟨g3, 0, none⟩, m + 1, p3, some ⟨g4, 0, none⟩, m + 1 + 1, p4⟩ (withN s x kid)) ∧ Only C w w4 from by
      have hO : Only (fun b => b = bk ∨ b = bi) w w4 := (below_only hWB).trans2 HG4.out.2.2.2.2 (fun b hb => .inl hb)
      have h3i : g3 ≠ bi := by have := HG3.out.2.2.1; omega
      have hk4 : w4.ownsRow 0 25 1 (.slice (some ⟨g3, 0, none⟩) (m + 1) p3) (m + 1) (ins ys s.kid (.slice FA fn fc)) := own_agree HG3.out.1 (C := (· = g3)) ⟨HRS.out, fun b hb hl => HR.out b hl (by omega)⟩ (fun k hk => by injection hk with hk; exact hk.symm)
      have hr4 := (H3.out.2.keep (w' := w4) (fun _ => hO.agree (fun b hb e => by
        rcases e with e | e
        · exact hb.2.1 _ rfl e.symm
        · exact hb.2.2 _ rfl e.symm))).mono (C' := fun _ b => C b ∨ Cf b ∨ w.heap.size + 1 + 1 ≤ b) (fun _ _ b hb => .inl hb.1)
      have hf4 := (HF.out.keep (w' := w4) (hO.agree (fun b hb e => by
        have := (HC.out.2 b hb).1
        rcases e with rfl | rfl
        · exact this hCk
        · exact this hCi))).mono (C' := fun b => C b ∨ Cf b ∨ w.heap.size + 1 + 1 ≤ b) (fun b hb => .inr (.inl hb))
      have hky := kys_on hk4 (kreads_ins hr4 (i := s.kid) (by have := HM.out.1; omega) fc hf4) (fun a e => by
        injection e with e
        subst e
        rcases HG3.out.2.2.1 with e | e
        · exact .inl (by rw [e]; exact hCk)
        · exact .inr (.inr (by rw [← hWs]; exact e)))
      have hi4 := HG4.out.1
      rw [ins_map intV] at hi4
      have hin4 := ins_on (C := fun b => C b ∨ Cf b ∨ w.heap.size + 1 + 1 ≤ b) hi4 (fun a e => by
        injection e with e
        subst e
        rcases HG4.out.2.2.1 with e | e
        · exact .inl (by rw [e]; exact hCi)
        · exact .inr (.inr (by rw [← hWs]; exact e)))
      exact ⟨fun v hv => ⟨prs_nil v, hky v hv, hin4 v hv⟩, only_mono hO (fun b hb => by rcases hb with rfl | rfl <;> assumption)⟩)
    have HCl := Lib.hid (And.intro hCk hCi)
    clear HG3 HG4 HR HRS c0 c1 c2 c3 c4 c5 c6 hCk hCi H2 H3 HK HI HB1 HB2 HH1 HH2 HH3 HX
    go_wp2
    refine bodyPost_ret (v := ndV ⟨none, 0, 0, some ⟨g3, 0, none⟩, m + 1, p3, some ⟨g4, 0, none⟩, m + 1 + 1, p4⟩ (withN s x kid)) (by simp [results, Try.results59, go_sem, d0, d1, d2, d3, d4]; exact ⟨rfl, rfl⟩) rfl ⟨_, rfl, ?_, ?_⟩
    · exact (HF4.out.1.keep (five_agree w4 (b := w.heap.size + 1) 0 _ _ _ _ _ (fun hb => by
        rcases hb with hb | hb | hb
        · have := HC.out.1 _ hb; omega
        · have := (HC.out.2 _ hb).2; omega
        · omega))).mono (fun b hb => by
        rcases hb with hb | hb | hb
        · exact .inl hb
        · exact .inr (.inl hb)
        · exact .inr (.inr (by omega)))
    · exact five_only HF4.out.2 (b := w.heap.size + 1) (.inl (Nat.le_succ _)) 0 _ _ _ _ _
end Go.Proofs.Ytdkppgmhhijkgaa

namespace Go.Proofs.Ytdkppgmhhijkgaa
open Go.RowKit
set_option linter.unusedVariables false
set_option maxRecDepth 100000

def cut1 (A : Option Addr) (k c : Nat) : Option Addr := if c = k then A else A.map (fun x => x.add k)
theorem Kys.upto {w : World} {A : Option Addr} {n c k : Nat} {L : List Ky} (h : Kys w A n c L) (hk : k ≤ n) : Kys w A k c (L.take k) := by
  obtain ⟨h1, h2, h3, h4, h5⟩ := h
  refine ⟨by simp; omega, by omega, h3, h4, fun h0 => ?_⟩
  obtain ⟨b, o, e, hb, hj⟩ := h5 (by omega)
  refine ⟨b, o, e, hb, fun j hj' => ?_⟩
  obtain ⟨B, m, d, e1, e2⟩ := hj j (by omega)
  refine ⟨B, m, d, e1, ?_⟩
  have : kat (L.take k) j = kat L j := by
    unfold kat
    simp [List.getD_eq_getElem?_getD, hj']
  rw [this]
  exact e2
theorem Kys.from {w : World} {A : Option Addr} {n c k : Nat} {L : List Ky} (h : Kys w A n c L) (hk : k ≤ n) : Kys w (cut1 A k c) (n - k) (c - k) (L.drop k) := by
  obtain ⟨h1, h2, h3, h4, h5⟩ := h
  refine ⟨by simp; omega, by omega, by omega, fun e => ?_, fun h0 => ?_⟩
  · unfold cut1 at e
    split at e
    · omega
    · cases A with
      | none => have := h4 rfl; omega
      | some a => cases e
  · obtain ⟨b, o, rfl, hb, hj⟩ := h5 (by omega)
    refine ⟨b, o + k, ?_, hb, fun j hj' => ?_⟩
    · unfold cut1
      rw [if_neg (by omega)]
      simp [add_lit]
    · obtain ⟨B, m, d, e1, e2⟩ := hj (k + j) (by omega)
      refine ⟨B, m, d, by rw [Nat.add_assoc]; exact e1, ?_⟩
      have : kat (L.drop k) j = kat L (k + j) := by
        unfold kat
        simp [List.getD_eq_getElem?_getD, List.getElem?_drop]
      rw [this]
      exact e2
theorem Ins.upto {w : World} {A : Option Addr} {n c k : Nat} {L : List Int} (h : Ins w A n c L) (hk : k ≤ n) : Ins w A k c (L.take k) := by
  obtain ⟨h1, h2, h3, h4, h5⟩ := h
  refine ⟨by simp; omega, by omega, h3, h4, fun h0 => ?_⟩
  obtain ⟨b, o, e, hb, hj⟩ := h5 (by omega)
  refine ⟨b, o, e, hb, fun j hj' => ?_⟩
  have : iat (L.take k) j = iat L j := by
    unfold iat
    simp [List.getD_eq_getElem?_getD, hj']
  rw [this]
  exact hj j (by omega)
theorem Ins.from {w : World} {A : Option Addr} {n c k : Nat} {L : List Int} (h : Ins w A n c L) (hk : k ≤ n) : Ins w (cut1 A k c) (n - k) (c - k) (L.drop k) := by
  obtain ⟨h1, h2, h3, h4, h5⟩ := h
  refine ⟨by simp; omega, by omega, by omega, fun e => ?_, fun h0 => ?_⟩
  · unfold cut1 at e
    split at e
    · omega
    · cases A with
      | none => have := h4 rfl; omega
      | some a => cases e
  · obtain ⟨b, o, rfl, hb, hj⟩ := h5 (by omega)
    refine ⟨b, o + k, ?_, hb, fun j hj' => ?_⟩
    · unfold cut1
      rw [if_neg (by omega)]
      simp [add_lit]
    · have : iat (L.drop k) j = iat L (k + j) := by
        unfold iat
        simp [List.getD_eq_getElem?_getD, List.getElem?_drop]
      rw [this, Nat.add_assoc]
      exact hj (k + j) (by omega)

/-- What is read in a cell lies in the footprint. -/
theorem block_in {C : Nat → Prop} {w : World} {b o : Nat} (h : On C w (fun w' => ∃ A n c, w'.cell? ⟨b, o, none⟩ = some (.slice A n c))) : C b := by
  apply Classical.byContradiction
  intro hb
  obtain ⟨A, n, c, e⟩ := h.here
  obtain ⟨A', n', c', e'⟩ := h (w.setCell ⟨b, o, none⟩ (.bool false)) (agree_set w _ _ hb)
  have : (w.setCell ⟨b, o, none⟩ (.bool false)).cell? ⟨b, o, none⟩ = some (.bool false) := by
    unfold World.cell? at e ⊢
    simp only [World.setCell] at *
    cases hh : w.heap[b]? with
    | none => rw [hh] at e; cases e
    | some ob =>
      rw [hh] at e
      simp [Array.getElem?_modify, hh] at e ⊢
      cases ob <;> simp_all
      have := (Array.getElem?_eq_some_iff.1 e).1
      simp [this]
  rw [this] at e'
  cases e'
theorem prs_key_on {C : Nat → Prop} {w : World} {A : Option Addr} {n c : Nat} {L : List Pr} (h : On C w (Prs · A n c L)) {j : Nat} (hj : j < n) :
    ∃ b o FA fn fc, A = some ⟨b, o, none⟩ ∧ b < w.heap.size ∧ w.cell? ⟨b, o + j * 2, none⟩ = some (.slice FA fn fc) ∧ On C w (Byt · FA fn (gt L j).1) := by
  obtain ⟨b, o, e, hb, A1, n1, c1, B1, m1, d1, k0, k1, y1, y2⟩ := h.here.at_ hj
  have hC : C b := block_in (C := C) (w := w) (b := b) (o := o + j * 2) fun w' ha => by
    obtain ⟨b', o', e', hb', A2, n2, c2, B2, m2, d2, q0, q1, z1, z2⟩ := (h w' ha).at_ hj
    rw [e] at e'
    injection e' with e'
    injection e' with e1 e2
    subst e1
    subst e2
    exact ⟨A2, n2, c2, q0⟩
  refine ⟨b, o, A1, n1, c1, e, hb, k0, fun w' ha => ?_⟩
  obtain ⟨b', o', e', hb', A2, n2, c2, B2, m2, d2, q0, q1, z1, z2⟩ := (h w' ha).at_ hj
  rw [e] at e'
  injection e' with e'
  injection e' with e1 e2
  subst e1
  subst e2
  rw [World.cell?_of_block (w := w) (a := ⟨b, o + j * 2, none⟩) (ha.2 b hC hb), k0] at q0
  injection q0 with q0
  injection q0 with q1 q2 q3
  rw [q1, q2]
  exact z1
theorem kys_key_on {C : Nat → Prop} {w : World} {A : Option Addr} {n c : Nat} {L : List Ky} (h : On C w (Kys · A n c L)) {j : Nat} (hj : j < n) :
    ∃ b o FA fn fc, A = some ⟨b, o, none⟩ ∧ b < w.heap.size ∧ w.cell? ⟨b, o + j, none⟩ = some (.slice FA fn fc) ∧ On C w (Byt · FA fn (kat L j)) := by
  obtain ⟨b, o, A1, n1, c1, e, hb, k0, y1⟩ := h.here.at_ hj
  have hC : C b := block_in (C := C) (w := w) (b := b) (o := o + j) fun w' ha => by
    obtain ⟨b', o', A2, n2, c2, e', hb', q0, z1⟩ := (h w' ha).at_ hj
    rw [e] at e'
    injection e' with e'
    injection e' with e1 e2
    subst e1
    subst e2
    exact ⟨A2, n2, c2, q0⟩
  refine ⟨b, o, A1, n1, c1, e, hb, k0, fun w' ha => ?_⟩
  obtain ⟨b', o', A2, n2, c2, e', hb', q0, z1⟩ := (h w' ha).at_ hj
  rw [e] at e'
  injection e' with e'
  injection e' with e1 e2
  subst e1
  subst e2
  rw [World.cell?_of_block (w := w) (a := ⟨b, o + j, none⟩) (ha.2 b hC hb), k0] at q0
  injection q0 with q0
  injection q0 with q1 q2 q3
  rw [q1, q2]
  exact z1

theorem five_new (w : World) (o1 o2 o3 o4 o5 : Obj) : Below w.heap.size w (((((w.alloc o1).alloc o2).alloc o3).alloc o4).alloc o5) :=
  (((((Below.refl w.heap.size w).alloc (Nat.le_refl _) o1).alloc (by simp) o2).alloc (by simp; omega) o3).alloc (by simp; omega) o4).alloc (by simp; omega) o5
/-- What halve leaves. -/
def Halved (w : World) (C : Nat → Prop) (x : Nd) (e : Ending) (w' : World) : Prop :=
  ∃ h1 h2 FA fn fc, e = .returned (.tuple #[ndV h1 (leftN x 0), .slice FA fn fc, ndV h2 (rightN x)]) ∧ On C w' (NdR · h1 (leftN x 0)) ∧ On C w' (NdR · h2 (rightN x)) ∧ On C w' (Byt · FA fn (sepN x)) ∧ Below w.heap.size w w'

set_option maxHeartbeats 4000000 in
theorem halve_leaf {w : World} {C : Nat → Prop} {h : Nh} {x : Nd} (hC : ∀ b, C b → b < w.heap.size) (hr : On C w (NdR · h x)) (hl : x.leaf = true) (h0 : 1 ≤ x.pairs.length) (hn : x.pairs.length ≤ 1000) :
    Calls Try.prog 58 #[ndV h x] w (Halved w C x) := by
  obtain ⟨A, n, c, B, m, d, K, k, ee⟩ := h
  have hpl : x.pairs.length = n := hr.here.1.1
  have hcn : n ≤ c := hr.here.1.2.1
  have hP := fun hj => prs_key_on (j := n / 2) (hr.imp fun v hv => hv.1) hj
  have hpl : x.pairs.length = n := hpl
  obtain ⟨b, o, FA, fn, fc, hA, hbl, hcell, hbyt⟩ := hP (by show n / 2 < n; omega)
  simp only at hA
  subst hA
  have HR := Lib.hid hr
  have HC := Lib.hid hC
  obtain ⟨P, hPe⟩ : ∃ P, P = n / 2 := ⟨_, rfl⟩
  rw [← hPe] at hcell hbyt
  have hq : (n : Int) / 2 = (P : Int) := by omega
  have hPn : P < n := by omega
  have hcP : ¬ (c = P) := by have : n ≤ c := hcn; omega
  have HB := Lib.hid (And.intro hbyt (And.intro hPe hpl))
  have hn1 : n ≤ 1000 := by omega
  have hPc : P ≤ c := by have : n ≤ c := hcn; omega
  have hc5 : ∀ o1 o2 o3 o4 o5 : Obj, (((((w.alloc o1).alloc o2).alloc o3).alloc o4).alloc o5).cell? ⟨b, o + P * 2, none⟩ = some (.slice FA fn fc) := fun o1 o2 o3 o4 o5 =>
    (five_new w o1 o2 o3 o4 o5).cell hbl |>.trans hcell
  clear hr hbyt hC hP h0 hn hpl hPe hcn
  go_enter Try.func58, Try.ntmps58
  go_wp2_with fail
  go_region
  go_wp2
  go_region
  go_wp2
  have e1 : leftN x 0 = ⟨true, x.pairs.take P, [], [], 0⟩ := by unfold leftN; rw [if_pos hl, HB.out.2.2, ← HB.out.2.1]
  have e2 : rightN x = ⟨true, x.pairs.drop P, [], [], x.next⟩ := by unfold rightN; rw [if_pos hl, HB.out.2.2, ← HB.out.2.1]
  have e3 : sepN x = (gt x.pairs P).1 := by unfold sepN; rw [if_pos hl, HB.out.2.2, ← HB.out.2.1]
  refine bodyPost_ret (v := .tuple #[ndV ⟨some ⟨b, o, none⟩, P, c, none, 0, 0, none, 0, 0⟩ (leftN x 0), .slice FA fn fc, ndV ⟨some ⟨b, o + P * 2, none⟩, n - P, c - P, none, 0, 0, none, 0, 0⟩ (rightN x)]) (by simp [results, Try.results58, go_sem, e1, e2]) rfl ⟨_, _, FA, fn, fc, rfl, ?_, ?_, ?_, ?_⟩
  · rw [e1]
    exact (HR.out.imp fun v hv => ⟨hv.1.upto (Nat.le_of_lt hPn), kys_nil v, ins_nil v⟩).keep (below_all (five_new w _ _ _ _ _).drew.drew)
  · rw [e2]
    refine (HR.out.imp fun v hv => ⟨?_, kys_nil v, ins_nil v⟩).keep (below_all (five_new w _ _ _ _ _).drew.drew)
    have := hv.1.from (k := P) (Nat.le_of_lt hPn)
    unfold cutA at this
    simp only [if_neg hcP, Option.map_some, add_lit] at this
    exact this
  · rw [e3]
    exact HB.out.1.keep (below_all (five_new w _ _ _ _ _).drew.drew)
  · exact (five_new w _ _ _ _ _).drew.drew

set_option maxHeartbeats 4000000 in
theorem halve_node {w : World} {C : Nat → Prop} {h : Nh} {x : Nd} (hC : ∀ b, C b → b < w.heap.size) (hr : On C w (NdR · h x)) (hl : x.leaf = false) (h0 : 3 ≤ x.keys.length) (hkk : x.kids.length = x.keys.length + 1) (hn : x.keys.length ≤ 1000) :
    Calls Try.prog 58 #[ndV h x] w (Halved w C x) := by
  obtain ⟨A, n, c, B, m, d, K, k, ee⟩ := h
  have hpl : x.keys.length = m := hr.here.2.1.1
  have hkl : x.kids.length = k := hr.here.2.2.1
  have hcn : m ≤ d := hr.here.2.1.2.1
  have hcd : d ≤ maxLen := hr.here.2.1.2.2.1
  have hce : k ≤ ee := hr.here.2.2.2.1
  have hee : ee ≤ maxLen := hr.here.2.2.2.2.1
  unfold maxLen at hcd hee
  obtain rfl : k = m + 1 := by omega
  obtain ⟨b, o, FA, fn, fc, hA, hbl, hcell, hbyt⟩ := kys_key_on (j := m / 2) (hr.imp fun v hv => hv.2.1) (by show m / 2 < m; omega)
  simp only at hA
  subst hA
  obtain ⟨bi, oi, hK, hbi, -⟩ := hr.here.2.2.at_ (j := 0) (by show 0 < m + 1; omega)
  simp only at hK
  subst hK
  have HR := Lib.hid hr
  have HC := Lib.hid hC
  obtain ⟨P, hPe⟩ : ∃ P, P = m / 2 := ⟨_, rfl⟩
  rw [← hPe] at hcell hbyt
  have hq : (m : Int) / 2 = (P : Int) := by omega
  have hPn : P < m := by omega
  have hcP : ¬ (d = P) := by omega
  have hcP1 : ¬ (ee = P + 1) := by omega
  have HB := Lib.hid (And.intro hbyt (And.intro hPe hpl))
  have hn1 : m ≤ 1000 := by omega
  have hPc : P ≤ d := by omega
  have hPe1 : P + 1 ≤ ee := by omega
  have hPm1 : P + 1 ≤ m := by omega
  have hPm2 : P + 1 ≤ m + 1 := by omega
  have hPl : P + 1 < m := by omega
  have hcd1 : ¬ (d = P + 1) := by omega
  have hc5 : ∀ o1 o2 o3 o4 o5 : Obj, (((((w.alloc o1).alloc o2).alloc o3).alloc o4).alloc o5).cell? ⟨b, o + P, none⟩ = some (.slice FA fn fc) := fun o1 o2 o3 o4 o5 =>
    (five_new w o1 o2 o3 o4 o5).cell hbl |>.trans hcell
  clear hr hbyt hC h0 hn hpl hPe hkl hkk
  go_enter Try.func58, Try.ntmps58
  go_wp2_with fail
  go_region
  go_wp2
  go_region
  go_wp2
  go_region
  go_wp2
  have e1 : leftN x 0 = ⟨false, [], x.keys.take P, x.kids.take (P + 1), 0⟩ := by unfold leftN; rw [if_neg (by simp [hl]), HB.out.2.2, ← HB.out.2.1]
  have e2 : rightN x = ⟨false, [], x.keys.drop (P + 1), x.kids.drop (P + 1), 0⟩ := by unfold rightN; rw [if_neg (by simp [hl]), HB.out.2.2, ← HB.out.2.1]
  have e3 : sepN x = kat x.keys P := by unfold sepN; rw [if_neg (by simp [hl]), HB.out.2.2, ← HB.out.2.1]
  refine bodyPost_ret (v := .tuple #[ndV ⟨none, 0, 0, some ⟨b, o, none⟩, P, d, some ⟨bi, oi, none⟩, P + 1, ee⟩ (leftN x 0), .slice FA fn fc, ndV ⟨none, 0, 0, some ⟨b, o + (P + 1), none⟩, m - (P + 1), d - (P + 1), some ⟨bi, oi + (P + 1), none⟩, m + 1 - (P + 1), ee - (P + 1)⟩ (rightN x)]) (by simp [results, Try.results58, go_sem, e1, e2]) rfl ⟨_, _, FA, fn, fc, rfl, ?_, ?_, ?_, ?_⟩
  · rw [e1]
    exact (HR.out.imp fun v hv => ⟨prs_nil v, hv.2.1.upto (Nat.le_of_lt hPn), hv.2.2.upto hPm2⟩).keep (below_all (five_new w _ _ _ _ _).drew.drew.drew)
  · rw [e2]
    refine (HR.out.imp fun v hv => ⟨prs_nil v, ?_, ?_⟩).keep (below_all (five_new w _ _ _ _ _).drew.drew.drew)
    · have := hv.2.1.from (k := P + 1) hPm1
      unfold cut1 at this
      simp only [if_neg hcd1, Option.map_some, add_lit] at this
      exact this
    · have := hv.2.2.from (k := P + 1) hPm2
      unfold cut1 at this
      simp only [if_neg hcP1, Option.map_some, add_lit] at this
      exact this
  · rw [e3]
    exact HB.out.1.keep (below_all (five_new w _ _ _ _ _).drew.drew.drew)
  · exact (five_new w _ _ _ _ _).drew.drew.drew
end Go.Proofs.Ytdkppgmhhijkgaa

namespace Go.Proofs.Ytdkppgmhhijkgaa
open Go.RowKit
set_option linter.unusedVariables false
set_option maxRecDepth 100000

theorem field_num (s : Stp) (h : Nh) (w : World) : (Instr.field 74 (stopV s h) 0).run Try.prog w = .ok (.int .i64 s.num) w := by kernel_rfl
theorem field_node (s : Stp) (h : Nh) (w : World) : (Instr.field 74 (stopV s h) 1).run Try.prog w = .ok (ndV h s.nd) w := by kernel_rfl
theorem trm_turn {w w' : World} {D : Nat → Prop} {tb g : Nat} {L L' : List (Option Nd)} {F F' : List Nat} {root m many : Nat} (h : TrM w D tb g L F root m many) (ht : Turn w D g L' F' w') :
    ∃ D', TrM w' D' tb g L' F' root m many ∧ (∀ b, D' b → D b ∨ w.heap.size ≤ b) ∧ Only D w w' := by
  obtain ⟨D', h1, h2, h3⟩ := ht
  refine ⟨D', ⟨?_, h1, fun hd => ?_⟩, h2, h3⟩
  · rw [h3.block tb h.lt.1 h.2.2]
    exact h.1
  · rcases h2 tb hd with h4 | h4
    · exact h.2.2 h4
    · have := h.lt.1; omega

theorem TrM.drewN {w : World} {D : Nat → Prop} {tb g : Nat} {L : List (Option Nd)} {F : List Nat} {root m many : Nat} (h : TrM w D tb g L F root m many) (k : Nat) : TrM (w.drewN k) D tb g L F root m many := h.below (below_drewN (Below.refl _ _) k)
theorem TrM.drew {w : World} {D : Nat → Prop} {tb g : Nat} {L : List (Option Nd)} {F : List Nat} {root m many : Nat} (h : TrM w D tb g L F root m many) : TrM w.drew D tb g L F root m many := h.below (Below.refl _ _).drew
theorem set_node {w : World} {D : Nat → Prop} {g : Nat} {L : List (Option Nd)} {F : List Nat} (h : Ar w D g L F) (k : Nat) {y : Nd} (hy : lat L k = some y) {hh : Nh} {x : Nd} (hr : NdR w hh x) (hs : SmallN x) :
    Calls Try.prog 57 #[.pointer (some ⟨g, 0, none⟩), .int .i64 k, ndV hh x] w fun e w' => e = .returned .nilIface ∧ Turn w D g (L.set k (some x)) F w' := by
  refine (set_yes h k hy hr hs).mono fun e w' ⟨h1, h2⟩ => ?_
  rw [(got_yes hy).1] at h1 h2
  rw [if_pos rfl] at h1 h2
  rw [Int.toNat_natCast] at h2
  exact ⟨by rw [h1]; rfl, h2⟩
/-- Make: the next number. -/
theorem make_nxt {w : World} {D : Nat → Prop} {g : Nat} {L : List (Option Nd)} {F : List Nat} (h : Ar w D g L F) (hN : L.length ≤ 10000) (hM : F.length ≤ 10000) {hh : Nh} {x : Nd} (hr : On (fun b => ¬ D b) w (NdR · hh x)) (hs : SmallN x) {kx : Nat} (hk : nxt L.length F = kx) :
    Calls Try.prog 45 #[.pointer (some ⟨g, 0, none⟩), ndV hh x] w fun e w' => e = .returned (.int .i64 kx) ∧ Turn w D g (mkA L F x) F.dropLast w' := by
  refine (make_any h hN hM hr hs).mono fun e w' ho => ?_
  rcases ho with ⟨rfl, h1, h2⟩ | ⟨F0, k, rfl, h1, h2⟩
  · have e1 : mkA L [] x = L ++ [some x] := by unfold mkA; rw [if_pos rfl]
    have e2 : kx = L.length := hk.symm
    rw [e1, e2]
    exact ⟨h1, h2⟩
  · have e0 : nxt L.length (F0 ++ [k]) = k := by simp [nxt]
    have e1 : mkA L (F0 ++ [k]) x = L.set k (some x) := by unfold mkA; rw [if_neg (by simp), e0]
    have e2 : (F0 ++ [k]).dropLast = F0 := by simp
    rw [e0] at hk
    subst hk
    rw [e1, e2]
    exact ⟨h1, h2⟩
/-- A node that may be laid. -/
def NdOk (x : Nd) : Prop := SmallN x ∧ (x.leaf = true → x.keys = []) ∧ (x.leaf = false → x.pairs = [] ∧ x.kids.length = x.keys.length + 1 ∧ x.keys.length ≤ 101)
/-- A stop above another. -/
def StpOk (a : Stp) : Prop := SmallN a.nd ∧ 1 ≤ a.nd.keys.length ∧ a.nd.keys.length ≤ 100 ∧ a.nd.kids.length = a.nd.keys.length + 1 ∧ a.kid ≤ a.nd.keys.length
theorem sep_small {x : Nd} (h : NdOk x) : (sepN x).length ≤ 1000 := by
  unfold sepN
  split
  · by_cases hl : x.pairs.length / 2 < x.pairs.length
    · exact (h.1.2.1 _ (gt_mem hl)).1
    · have : gt x.pairs (x.pairs.length / 2) = ([], []) := by
        unfold gt
        simp [List.getD_eq_getElem?_getD, List.getElem?_eq_none (show x.pairs.length ≤ x.pairs.length / 2 by omega)]
      rw [this]
      simp
  · by_cases hl : x.keys.length / 2 < x.keys.length
    · exact h.1.2.2.2.1 _ hl
    · have : kat x.keys (x.keys.length / 2) = [] := by
        unfold kat
        simp [List.getD_eq_getElem?_getD, List.getElem?_eq_none (show x.keys.length ≤ x.keys.length / 2 by omega)]
      rw [this]
      simp
theorem kat_take (L : List Ky) {k j : Nat} (h : j < (L.take k).length) : kat (L.take k) j = kat L j := by
  unfold kat
  rw [List.length_take] at h
  rw [List.getD_eq_getElem?_getD, List.getD_eq_getElem?_getD, List.getElem?_take, if_pos (show j < k by omega)]
theorem kat_drop (L : List Ky) (k j : Nat) : kat (L.drop k) j = kat L (k + j) := by
  unfold kat
  simp [List.getD_eq_getElem?_getD, List.getElem?_drop]
theorem left_small {x : Nd} (h : SmallN x) (z : Int) : SmallN (leftN x z) := by
  unfold leftN
  split
  · exact ⟨by simp; have := h.1; omega, fun p hp => h.2.1 p (List.mem_of_mem_take hp), by simp, by simp, by simp⟩
  · exact ⟨by simp, (fun p hp => by cases hp), by simp; have := h.2.2.1; omega, fun j hj => by
      rw [kat_take _ hj]
      exact h.2.2.2.1 j (by simp at hj; omega), by simp; have := h.2.2.2.2; omega⟩
theorem right_small {x : Nd} (h : SmallN x) : SmallN (rightN x) := by
  unfold rightN
  split
  · exact ⟨by simp; have := h.1; omega, fun p hp => h.2.1 p (List.mem_of_mem_drop hp), by simp, by simp, by simp⟩
  · exact ⟨by simp, (fun p hp => by cases hp), by simp; have := h.2.2.1; omega, fun j hj => by
      rw [kat_drop]
      exact h.2.2.2.1 _ (by simp at hj; omega), by simp; have := h.2.2.2.2; omega⟩
theorem with_ok {a : Stp} (h : StpOk a) {s : Ky} (hs : s.length ≤ 1000) (k : Int) : NdOk (withN a s k) := by
  obtain ⟨h1, h2, h3, h4, h5⟩ := h
  refine ⟨⟨by simp [withN], (fun p hp => by cases hp), ?_, ?_, ?_⟩, (fun h => by cases h), fun _ => ⟨rfl, ?_, ?_⟩⟩
  · show (ins a.nd.keys a.kid s).length ≤ 1000
    rw [ins_len _ _ h5]; omega
  · intro j hj
    have hj : j < (ins a.nd.keys a.kid s).length := hj
    rw [ins_len _ _ h5] at hj
    show (kat (ins a.nd.keys a.kid s) j).length ≤ 1000
    rw [kat_ins _ _ h5]
    by_cases e1 : j < a.kid
    · rw [if_pos e1]
      exact h1.2.2.2.1 j (by omega)
    · rw [if_neg e1]
      by_cases e2 : j = a.kid
      · rw [if_pos e2]; exact hs
      · rw [if_neg e2]
        exact h1.2.2.2.1 (j - 1) (by omega)
  · show (ins a.nd.kids (a.kid + 1) k).length ≤ 1000
    rw [ins_len _ _ (by omega)]; omega
  · show (ins a.nd.kids (a.kid + 1) k).length = (ins a.nd.keys a.kid s).length + 1
    rw [ins_len _ _ (by omega), ins_len _ _ h5, h4]
  · show (ins a.nd.keys a.kid s).length ≤ 101
    rw [ins_len _ _ h5]; omega

/-- What lay asks. -/
structure LayIn (w : World) (D : Nat → Prop) (tb g : Nat) (L : List (Option Nd)) (F : List Nat) (root m many N M gr c : Nat) (xs : List Value) (hi : Nat) (s : Stp) (up : List Stp) (x : Nd) (h : Nh) (Cx : Nat → Prop) : Prop where
  tr : TrM w D tb g L F root m many
  dn : ∀ b, D b → b < N ∨ M ≤ b
  tn : tb < N
  nm : N ≤ M
  mw : M ≤ w.heap.size
  gn : N ≤ gr ∧ gr < M
  row : w.ownsRow 0 74 7 (.slice (some ⟨gr, 0, none⟩) (up.length + 1) c) (up.length + 1) xs
  heads : HeadsR xs (s :: up)
  nodes : NodesR w xs gr N hi up
  him : hi ≤ M
  ups : ∀ a ∈ up, StpOk a
  nums : ∀ a ∈ s :: up, ∃ y, lat L a.num = some y
  reads : On Cx w (NdR · h x)
  cx : ∀ b, Cx b → ¬ D b ∧ hi ≤ b ∧ b < w.heap.size
  ok : NdOk x
  m3 : 3 ≤ m
  m16 : m ≤ 16
  few : L.length + (s :: up).length ≤ 9000
  fewF : F.length ≤ 9000
/-- What lay leaves. -/
def LayOut (w : World) (D : Nat → Prop) (tb g N M : Nat) (m many : Nat) (out : List (Option Nd) × List Nat × Nat) (e : Ending) (w' : World) : Prop :=
  e = .returned (.tuple #[]) ∧ ∃ D', TrM w' D' tb g out.1 out.2.1 out.2.2 m many ∧ (∀ b, D' b → D b ∨ M ≤ b) ∧ Only (fun b => D b ∨ N ≤ b ∨ b = tb) w w'

set_option maxHeartbeats 4000000 in
theorem lay_fits {w : World} {D : Nat → Prop} {tb g : Nat} {L : List (Option Nd)} {F : List Nat} {root m many N M gr c : Nat} {xs : List Value} {hi : Nat} {s : Stp} {up : List Stp} {x : Nd} {h : Nh} {Cx : Nat → Prop}
    (hl : LayIn w D tb g L F root m many N M gr c xs hi s up x h Cx) (hf : fitsN m x = true) :
    Calls Try.prog 36 #[.pointer (some ⟨tb, 0, none⟩), .slice (some ⟨gr, 0, none⟩) (up.length + 1 : Nat) c, ndV h x] w (LayOut w D tb g N M m many (layR m (s :: up) x L F root)) := by
  rw [layR_fits hf]
  obtain ⟨A, n, cA, B, k, d, K, i, ee⟩ := h
  have hn : x.pairs.length = n := hl.reads.here.1.1
  have hk : x.keys.length = k := hl.reads.here.2.1.1
  unfold fitsN at hf
  simp at hf
  obtain ⟨y, hy⟩ := hl.nums s (by simp)
  obtain ⟨hh, hhd⟩ := hl.heads.1
  have W0 := Lib.hid (box5 w (.bool x.leaf) (.slice A n cA) (.slice B k d) (.slice K i ee) (.int .i64 x.next) 72)
  have HL := Lib.hid hl
  have HY := Lib.hid hy
  have HH := Lib.hid hhd
  have hnm : n ≤ m := by omega
  have hkm : k ≤ m := by omega
  clear hf hn hk hy hhd hl
  go_enter Try.func36, Try.ntmps36
  go_wp2_with fail
  obtain ⟨W, hW, hWB, hWs, hWh⟩ := W0.out
  rw [← hW]
  clear hW W0
  refine (last_any (own_keep HL.out.row hWB) HH.out).mono ?_
  rintro e w1 ⟨rfl, hb1⟩
  have HB1 := Lib.hid (hWB.trans (hb1.mono hWB.size))
  have hs1 : w.heap.size < w1.heap.size := by have := hb1.size; omega
  have HX := Lib.hid ((hb1.block w.heap.size (by omega)).trans hWh)
  obtain ⟨b0, b1, b2, b3, b4, -⟩ := five HX.out
  have HT := Lib.hid (HL.out.tr.below HB1.out)
  have hfd := field_num s hh
  obtain ⟨c0, c1, c2, c3, -, -⟩ := HT.out.cells
  clear hb1 hWB hWs hWh
  have hnmI : (n : Int) ≤ (m : Int) := by omega
  have hkmI : (k : Int) ≤ (m : Int) := by omega
  have hdn : decide ((n : Int) ≤ (m : Int)) = true := by simp; omega
  have hdk : decide ((k : Int) ≤ (m : Int)) = true := by simp; omega
  go_wp2_with fail
  go_quiet (fail)
  go_wp2_with fail
  obtain ⟨w2, hw2, hT2, hB2, hX2⟩ : ∃ w2, w2 = w1.drewN nq ∧ TrM w2 D tb g L F root m many ∧ Below w.heap.size w w2 ∧ w2.heap[w.heap.size]? = some (.cells #[.bool x.leaf, .slice A n cA, .slice B k d, .slice K i ee, .int .i64 x.next] 72 (0, 0)) := ⟨_, rfl, HT.out.drewN nq, below_drewN HB1.out nq, HX.out⟩
  rw [← hw2]
  have HT2 := Lib.hid hT2
  have HB2 := Lib.hid hB2
  clear hw2 b0 b1 b2 b3 b4 c0 c1 c2 c3 HT HB1 HX hdn hdk hnmI hkmI
  obtain ⟨b0, b1, b2, b3, b4, -⟩ := five hX2
  obtain ⟨c0, c1, c2, c3, -, -⟩ := hT2.cells
  clear hT2 hB2 hX2
  go_still_tail 6, (by kernel_rfl)
  change wpList _ _ _ _ _ w2.drew
  have HS := set_node (w := w2.drew) HT2.out.drew.2.1 s.num HY.out (hh := ⟨A, n, cA, B, k, d, K, i, ee⟩) (x := x) ((HL.out.reads.keep (below_agree HB2.out.drew (fun b hb _ => (HL.out.cx b hb).2.2))).here) HL.out.ok.1
  go_wp2_with fail
  refine HS.mono ?_
  rintro e w3 ⟨rfl, ht⟩
  have HT3 := Lib.hid (trm_turn (w := w2.drew) HT2.out.drew ht)
  clear ht HS b0 b1 b2 b3 b4 c0 c1 c2 c3
  go_wp2
  refine bodyPost_ret (v := .tuple #[]) (by simp [results, Try.results36, go_sem]) rfl ⟨rfl, ?_⟩
  obtain ⟨D', t1, t2, t3⟩ := HT3.out
  refine ⟨D', t1, fun b hb => (t2 b hb).imp id fun h => ?_, only_mono ((below_only HB2.out.drew).trans t3) fun b hb => .inl hb⟩
  have := HL.out.mw
  have := HB2.out.size
  have h' : w2.heap.size ≤ b := h
  omega
end Go.Proofs.Ytdkppgmhhijkgaa
