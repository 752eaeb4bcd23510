/- Contracts of package key's May, Sound, In, below, follows, and of the document's own May, Sound, In, Ranges: each tells one function of the bytes. Condition: what came in can be read. What clearing leaves, as plain lists; the contract of package row's Slice. Condition: a row; what came in can be read. The contract of package prune's Clear. Condition: a sound tree; what came in can be read. The walk of PruneClears. Condition: what came in can be read. -/
import Derived.Test.YthbmchkbebneiaaG7
import Derived.Deep.DeepCutAuto
import Derived.Deep.RegionLaw
import Derived.BigQuiet
import Derived.Test.YthbmchkbebneiaaG17
import Derived.Test.YthbmchkbebneiaaG15
namespace Go.Proofs.Ythbmchkbebneiaa
open Go.RowKit
set_option linter.unusedVariables false
set_option maxRecDepth 100000

def followsB (k l : List UInt8) : Bool := decide (0 < k.length) && sameB k l

theorem ltB_self (l : List UInt8) : ltB l l = false := by
  unfold ltB
  rw [(cmpB_eq l l).2 rfl]
  rfl

set_option maxHeartbeats 400000 in
theorem below_any {w : World} {A B : Option Addr} {n m : Nat} (c d : Nat) {x k : List UInt8} (h : Byt w A n x) (h' : Byt w B m k) :
    Calls Try.prog 57 #[.slice A n c, .slice B m d] w fun e w' => e = .returned (.bool (belowB x k)) ∧ w = w' := by
  have H := Lib.hid (compare_any c d h h')
  have hr : belowB x k = (decide (m = 0) || ltB x k) := by rw [← h'.1]; rfl
  have HR := Lib.hid hr
  clear hr h h'
  by_cases h0 : m = 0
  · subst h0
    go_enter Try.func57, Try.ntmps57
    go_wp2
    go_ret
    exact ⟨ret_bool (by rw [HR.out]; simp), rfl⟩
  · have hb : ((m : Int) == 0) = false := by simp; omega
    have H0 := Lib.hid h0
    clear h0
    go_enter Try.func57, Try.ntmps57
    go_wp2_with (go_at_call 61; refine H.out.mono ?_; rintro e w' ⟨rfl, rfl⟩)
    go_ret
    exact ⟨ret_bool (by rw [HR.out, cmp_lt]; simp [H0.out]), rfl⟩

set_option maxHeartbeats 400000 in
theorem ksound_any {w : World} {A B : Option Addr} {n m : Nat} (c d : Nat) {l k : List UInt8} (h : Byt w A n l) (h' : Byt w B m k) (hn : n ≤ maxLen) (hm : m ≤ maxLen) :
    Calls Try.prog 39 #[.agg #[.slice A n c, .slice B m d]] w fun e w' => e = .returned (.bool (soundB l k)) ∧ Below w.heap.size w w' := by
  unfold maxLen at hn hm
  have H := Lib.hid (fun o => below_any c d (h.alloc o) (h'.alloc o))
  have hr : soundB l k = (decide (n ≤ 16) && (decide (m ≤ 16) && belowB l k)) := by rw [← h.1, ← h'.1]; rfl
  have HR := Lib.hid hr
  clear hr h h'
  by_cases h1 : 16 < n
  · go_enter Try.func39, Try.ntmps39
    go_wp2
    go_ret
    exact ⟨ret_bool (by rw [HR.out]; simp; omega), (Below.refl _ _).alloc (Nat.le_refl _) _⟩
  · by_cases h2 : 16 < m
    · go_enter Try.func39, Try.ntmps39
      go_wp2
      go_ret
      exact ⟨ret_bool (by rw [HR.out]; simp; omega), (Below.refl _ _).alloc (Nat.le_refl _) _⟩
    · have h3 : n ≤ 16 := by omega
      have h4 : m ≤ 16 := by omega
      clear h1 h2
      go_enter Try.func39, Try.ntmps39
      go_wp2_with (go_at_call 57; refine (H.out _).mono ?_; rintro e w' ⟨rfl, rfl⟩)
      go_ret
      exact ⟨ret_bool (by rw [HR.out]; simp [h3, h4]), (Below.refl _ _).alloc (Nat.le_refl _) _⟩

set_option maxHeartbeats 400000 in
theorem in_any {w : World} {A B C : Option Addr} {n m o : Nat} (c d q : Nat) {l k x : List UInt8} (h : Byt w A n l) (h' : Byt w B m k) (hx : Byt w C o x) :
    Calls Try.prog 58 #[.agg #[.slice A n c, .slice B m d], .slice C o q] w fun e w' => e = .returned (.bool (inB l k x)) ∧ Below w.heap.size w w' := by
  have H1 := Lib.hid (fun o => compare_any q c (hx.alloc o) (h.alloc o))
  have H2 := Lib.hid (fun o => below_any q d (hx.alloc o) (h'.alloc o))
  clear h h' hx
  cases hl : ltB x l
  · have hg := cmp_ge x l
    rw [hl] at hg
    have HL := Lib.hid hl
    clear hl
    simp only [Bool.not_false] at hg
    go_enter Try.func58, Try.ntmps58
    go_wp2_with (first | (go_at_call 61; refine (H1.out _).mono ?_; rintro e w' ⟨rfl, rfl⟩) | (go_at_call 57; refine (H2.out _).mono ?_; rintro e w' ⟨rfl, rfl⟩))
    go_ret
    exact ⟨ret_bool (by unfold inB; rw [HL.out]; simp), (Below.refl _ _).alloc (Nat.le_refl _) _⟩
  · have hg := cmp_ge x l
    rw [hl] at hg
    have HL := Lib.hid hl
    clear hl
    simp only [Bool.not_true] at hg
    go_enter Try.func58, Try.ntmps58
    go_wp2_with (first | (go_at_call 61; refine (H1.out _).mono ?_; rintro e w' ⟨rfl, rfl⟩) | (go_at_call 57; refine (H2.out _).mono ?_; rintro e w' ⟨rfl, rfl⟩))
    go_ret
    exact ⟨ret_bool (by unfold inB; rw [HL.out]; simp), (Below.refl _ _).alloc (Nat.le_refl _) _⟩

end Go.Proofs.Ythbmchkbebneiaa

namespace Go.Proofs.Ythbmchkbebneiaa
open Go.RowKit
set_option linter.unusedVariables false
set_option maxRecDepth 100000

/-- The pairs whose keys are in a range, and those whose keys are not. -/
def cutL (P : List Pr) (l h : Ky) : List Pr := P.filter fun p => inB l h p.1
def clearL (P : List Pr) (l h : Ky) : List Pr := P.filter fun p => !inB l h p.1
/-- Keys deleted one behind another. -/
def delK (P M : List Pr) : List Pr := M.foldl (fun P p => delL P p.1) P

theorem filter3 {f : Pr → Bool} {X M Y : List Pr} (h1 : ∀ p ∈ X, f p = false) (h2 : ∀ p ∈ M, f p = true) (h3 : ∀ p ∈ Y, f p = false) : (X ++ (M ++ Y)).filter f = M := by
  rw [List.filter_append, List.filter_append, List.filter_eq_nil_iff.2 (fun p hp => by rw [h1 p hp]; decide), List.filter_eq_self.2 h2, List.filter_eq_nil_iff.2 (fun p hp => by rw [h3 p hp]; decide), List.nil_append, List.append_nil]
theorem srt_gt {P : List Pr} (hs : Srt P) {i j : Nat} (hij : i < j) (hj : j < P.length) : ltB (gt P i).1 (gt P j).1 = true := by
  rw [gt_eq (by omega), gt_eq hj]
  exact List.pairwise_iff_getElem.1 hs i j (by omega) hj hij
theorem cut_is {P : List Pr} (hs : Srt P) {l h : Ky} {j : Nat} (h1 : pos P l ≤ j) (h2 : j ≤ P.length) (h3 : ∀ i, pos P l ≤ i → i < j → inB l h (gt P i).1 = true) (h4 : j < P.length → inB l h (gt P j).1 = false) :
    (P.drop (pos P l)).take (j - pos P l) = cutL P l h := by
  have e1 : (P.drop (pos P l)).take (j - pos P l) ++ P.drop j = P.drop (pos P l) := by
    have := List.take_append_drop (j - pos P l) (P.drop (pos P l))
    rwa [List.drop_drop, show pos P l + (j - pos P l) = j by omega] at this
  have e : P.take (pos P l) ++ ((P.drop (pos P l)).take (j - pos P l) ++ P.drop j) = P := by rw [e1, List.take_append_drop]
  have hall : cutL (P.take (pos P l) ++ ((P.drop (pos P l)).take (j - pos P l) ++ P.drop j)) l h = (P.drop (pos P l)).take (j - pos P l) := by
    refine filter3 (fun p hp => ?_) (fun p hp => ?_) (fun p hp => ?_)
    · obtain ⟨i, hi, rfl⟩ := List.getElem_of_mem hp
      rw [List.length_take] at hi
      rw [List.getElem_take, ← gt_eq (by omega)]
      have := pos_lt hs l (show i < P.length by omega)
      unfold inB
      rw [this, show decide (i < pos P l) = true by simp; omega]
      rfl
    · obtain ⟨i, hi, rfl⟩ := List.getElem_of_mem hp
      rw [List.length_take, List.length_drop] at hi
      rw [List.getElem_take, List.getElem_drop, ← gt_eq (by omega)]
      exact h3 _ (by omega) (by omega)
    · obtain ⟨i, hi, rfl⟩ := List.getElem_of_mem hp
      rw [List.length_drop] at hi
      rw [List.getElem_drop, ← gt_eq (by omega)]
      have h5 := h4 (by omega)
      rcases Nat.eq_zero_or_pos i with h0 | h0
      · subst h0
        exact h5
      · have h6 := pos_lt hs l (show j < P.length by omega)
        rw [show decide (j < pos P l) = false by simp; omega] at h6
        have h7 := srt_gt hs (show j < j + i by omega) (by omega)
        unfold inB at h5 ⊢
        rw [h6] at h5
        unfold belowB at h5 ⊢
        cases hz : decide (h.length = 0)
        · rw [hz] at h5
          cases hb : ltB (gt P (j + i)).1 h
          · simp
          · rw [ltB_trans h7 hb] at h5
            cases h5
        · rw [hz] at h5
          cases h5
  rw [e] at hall
  exact hall.symm

theorem sameJ_of {l k : Ky} (h : sameB l k = true) : l = k := by
  unfold sameB at h
  exact of_decide_eq_true h
theorem sameJ_self (l : Ky) : sameB l l = true := by
  unfold sameB
  simp
theorem delK_is : ∀ (M P : List Pr), delK P M = P.filter fun p => !M.any fun q => sameB p.1 q.1
  | [], P => by
    show P = _
    exact (List.filter_eq_self.2 (fun p hp => rfl)).symm
  | m :: M, P => by
    show delK (delL P m.1) M = _
    rw [delK_is M (delL P m.1)]
    unfold delL
    rw [List.filter_filter]
    refine List.filter_congr fun p hp => ?_
    rw [List.any_cons, Bool.not_or, Bool.and_comm]
theorem delK_step (P M : List Pr) {i : Nat} (h : i < M.length) : delK P (M.take (i + 1)) = delL (delK P (M.take i)) (gt M i).1 := by
  unfold delK
  rw [List.take_succ_eq_append_getElem h, List.foldl_append, gt_eq h]
  rfl
theorem delK_has {P : List Pr} (hs : Srt P) {l h : Ky} {i : Nat} (hi : i < (cutL P l h).length) : hasB (delK P ((cutL P l h).take i)) (gt (cutL P l h) i).1 = true := by
  have hm := gt_mem hi
  have hsm : Srt (cutL P l h) := List.Pairwise.filter _ hs
  refine has_iff.2 ⟨(gt (cutL P l h) i).2, ?_⟩
  rw [delK_is]
  refine List.mem_filter.2 ⟨(List.mem_filter.1 hm).1, ?_⟩
  cases ha : ((cutL P l h).take i).any fun q => sameB (gt (cutL P l h) i).1 q.1
  · rfl
  · obtain ⟨q, hq, he⟩ := List.any_eq_true.1 ha
    obtain ⟨j, hj, rfl⟩ := List.getElem_of_mem hq
    rw [List.length_take] at hj
    rw [List.getElem_take, ← gt_eq (by omega)] at he
    have h1 := srt_gt hsm (show j < i by omega) hi
    rw [← sameJ_of he, ltB_irrefl] at h1
    cases h1
theorem delK_all {P : List Pr} {l h : Ky} : delK P (cutL P l h) = clearL P l h := by
  rw [delK_is]
  refine List.filter_congr fun p hp => ?_
  congr 1
  cases hi : inB l h p.1
  · cases ha : (cutL P l h).any fun q => sameB p.1 q.1
    · rfl
    · obtain ⟨q, hq, he⟩ := List.any_eq_true.1 ha
      have h1 := (List.mem_filter.1 hq).2
      rw [← sameJ_of he, hi] at h1
      cases h1
  · exact List.any_eq_true.2 ⟨p, List.mem_filter.2 ⟨hp, hi⟩, sameJ_self _⟩
theorem cut_len (P : List Pr) (l h : Ky) : (cutL P l h).length + (clearL P l h).length = P.length := by
  unfold cutL clearL
  induction P with
  | nil => rfl
  | cons p P ih =>
    rw [List.filter_cons, List.filter_cons]
    cases inB l h p.1 <;> simp <;> omega
theorem clear_step (P : List Pr) (l h : Ky) {i : Nat} (hi : i < P.length) : clearL (P.take (i + 1)) l h = clearL (P.take i) l h ++ (if inB l h (gt P i).1 then [] else [gt P i]) := by
  unfold clearL
  rw [List.take_succ_eq_append_getElem hi, List.filter_append, gt_eq hi]
  congr 1
  cases hin : inB l h P[i].1 <;> simp [hin]

/-- A slice of one slice, in a new block. -/
theorem piece1 {w : World} {A : Option Addr} {n c : Nat} {L : List Pr} (h : Prs w A n c L) (T : TypeId) : Pieces (w.alloc (.cells #[.slice A n c] T)) w.heap.size 1 (fun _ => A) (fun _ => n) (fun _ => c) (fun _ => L) :=
  ⟨by simp, fun j hj => by
    obtain rfl : j = 0 := by omega
    exact ⟨by simp, h.alloc _⟩⟩
theorem bel_drawn {B : Nat} {a w : World} (h : Below B a w) (k : Nat) : Below B a (w.drewN k) := ⟨h.os, h.tape, h.output, h.size, h.block⟩
theorem small_cut {P : List Pr} (h : Small P) (l k : Ky) : Small (cutL P l k) := fun p hp => h p (List.mem_filter.1 hp).1

set_option maxHeartbeats 8000000 in
theorem slice_new {w : World} {A C B : Option Addr} {n c o p : Nat} (q r : Nat) {L : List Pr} {l h : Ky} (hp : Prs w A n c L) (hl : Byt w C o l) (hh : Byt w B p h) (hs : Srt L) (hm : Small L) (hn : n ≤ 1000) :
    Calls Try.prog 40 #[.slice A n c, .agg #[.slice C o q, .slice B p r], .int .i64 n] w (MadeN w (cutL L l h)) := by
  have hlen := hp.len
  have hnc := hp.2.1
  obtain ⟨W, hW, hWB, hW0, hW1, hWs⟩ : ∃ W, W = w.alloc (.cells #[.slice C o q, .slice B p r] 53) ∧ Below w.heap.size w W ∧ W.cell? ⟨w.heap.size, 0, none⟩ = some (.slice C o q) ∧ W.cell? ⟨w.heap.size, 1, none⟩ = some (.slice B p r) ∧ W.heap.size = w.heap.size + 1 :=
    ⟨_, rfl, (Below.refl _ _).alloc (Nat.le_refl _) _, box_0 _ _ _ _, box_1 _ _ _ _, by simp⟩
  have HF := find_any q (hp.below hWB) (hl.below hWB) hs hn
  have HE := Lib.hid (fun (j : Nat) (f : Nat) (hf : f = pos L l) => hf ▸ cut_is (j := j) (l := l) (h := h) hs)
  have hpl := pos_le L l
  obtain ⟨f, hf⟩ : ∃ f, f = pos L l := ⟨_, rfl⟩
  rw [← hf] at HF hpl
  have hfn : f ≤ n := by omega
  have HFE := Lib.hid hf
  generalize hasB L l = hz at HF
  have HP := Lib.hid hp
  have HI := Lib.hid (And.intro hl hh)
  have HM := Lib.hid hm
  have HWB := Lib.hid hWB
  have HC0 := Lib.hid hW0
  have HC1 := Lib.hid hW1
  have HT : Hid (∀ (V : World) (j : Nat), Below W.heap.size W V → f ≤ j → j ≤ n → (∀ i, f ≤ i → i < j → inB l h (gt L i).1 = true) → (j < n → inB l h (gt L j).1 = false) →
      Calls Try.prog 48 #[.slice (some ⟨V.heap.size, 0, none⟩) 1 1] (V.alloc (.cells #[.slice (cutA A f c) (j - f) (c - f)] 22)) (MadeN (V.alloc (.cells #[.slice (cutA A f c) (j - f) (c - f)] 22)) (cutL L l h))) := Lib.hid fun V j hV h1 h2 h3 h4 => by
    have hb : Below w.heap.size w V := HWB.out.trans (hV.mono HWB.out.size)
    have hpc := ((HP.out.below hb).from (k := f) hfn).upto (k := j - f) (by omega)
    have hcat : catL (fun _ => (L.drop f).take (j - f)) 1 = cutL L l h := by
      rw [← HE.out j f HFE.out h1 (by omega) h3 (fun h => h4 (by omega))]
      rfl
    have := told_new (piece1 hpc 22) (by omega) (show sumN (fun _ => j - f) 1 ≤ 3000 by simp [sumN]; omega) (by rw [hcat]; exact small_cut HM.out l h)
    rw [hcat] at this
    exact this
  clear hp hl hh hm hf hWB hW0 hW1 hs hpl
  go_enter Try.func40, Try.ntmps40
  have hWe := Lib.hid hW
  clear hW
  go_wp2_with fail
  rw [← hWe.out]
  refine HF.mono ?_
  rintro e w1 ⟨rfl, hb1⟩
  have HB1 := Lib.hid hb1
  clear hb1 HF hWe
  go_wp2
  go_loopw [9] (fun i wr => ∃ j : Nat, f ≤ j ∧ j ≤ n ∧ i = .int .i64 j ∧ (∀ i, f ≤ i → i < j → inB l h (gt L i).1 = true) ∧ Below W.heap.size W wr) (fun i _ => n - (intOf i).toNat)
  case atStart => exact ⟨f, Nat.le_refl _, hfn, rfl, fun i h1 h2 => absurd h1 (by omega), HB1.out⟩
  case round =>
    obtain ⟨j, hfj, hjn, rfl, hall, hb⟩ := hrel
    have HALL := Lib.hid hall
    have HB := Lib.hid hb
    have HBw := Lib.hid (HWB.out.trans (hb.mono HWB.out.size))
    clear hall hb
    have hwl : w.heap.size < W.heap.size := by omega
    have hjc : j ≤ c := by omega
    have hfc : f ≤ c := by omega
    by_cases hlt : j < n
    · obtain ⟨b, oo, rfl, hbl, A1, n1, c1, B1, m1, d1, k0, k1, y1, y2⟩ := (HP.out.below HBw.out).at_ hlt
      have HIN := in_any (w := wr.drew) q r c1 (l := l) (k := h) (HI.out.1.below HBw.out.drew) (HI.out.2.below HBw.out.drew) (y1.below (Below.refl _ _).drew)
      have b0 := (HB.out.cell (p := ⟨w.heap.size, 0, none⟩) hwl).trans HC0.out
      have b1 := (HB.out.cell (p := ⟨w.heap.size, 1, none⟩) hwl).trans HC1.out
      have HK := Lib.hid (And.intro b0 (And.intro b1 k0))
      have hwr : w.heap.size < wr.heap.size := Nat.lt_of_lt_of_le hwl HB.out.size
      clear y1 y2 k1
      obtain ⟨d, hd⟩ : ∃ d, d = j - f := ⟨_, rfl⟩
      have hw0 : IntKind.i64.wrap ((j : Int) - (f : Int)) = (d : Int) := by rw [IntWalk.i64_in _ (by omega)]; omega
      have hw1 : wrap64 ((j : Int) - (f : Int)) = (d : Int) := by rw [IntWalk.wrap64_in _ (by omega)]; omega
      have hdn : (d : Int) < (n : Int) := by omega
      have hdnN : d < n := by omega
      have hji : (j : Int) < (n : Int) := by omega
      have hj0 : (0 : Int) ≤ (j : Int) := by omega
      clear hd
      cases hin : inB l h (gt L j).1
      · rw [hin] at HIN
        have HIN := Lib.hid HIN
        have hinH := Lib.hid hin
        clear hin
        go_upto_region 3 with fail
        go_region_held3 (fun w' => w'.cell? ⟨w.heap.size, 0, none⟩ = some (.slice C o q) ∧ w'.cell? ⟨w.heap.size, 1, none⟩ = some (.slice B p r) ∧ w'.cell? ⟨b, oo + j * 2, none⟩ = some (.slice A1 n1 c1)) (go_keep)
          ((go_at_call 58
            (with_reducible refine HIN.out.mono ?_)
            rintro e w3 ⟨rfl, hb3⟩
            have hb3 := undrew hb3
            have b0 := (hb3.cell (p := ⟨w.heap.size, 0, none⟩) hwr).trans HK.out.1
            have b1 := (hb3.cell (p := ⟨w.heap.size, 1, none⟩) hwr).trans HK.out.2.1
            have k0 := (hb3.cell (p := ⟨b, oo + j * 2, none⟩) hbl).trans HK.out.2.2
            have HB3 := Lib.hid hb3
            clear hb3))
        have hcut : cutA (some ⟨b, oo, none⟩) f c = some ⟨b, oo + f * 2, none⟩ := by
          unfold cutA
          rw [if_neg (by omega), Option.map_some, add_lit]
        have HTT := HT.out w3 j (HB.out.trans (HB3.out.mono HB.out.size)) hfj hjn HALL.out (fun _ => hinH.out)
        rw [hcut] at HTT
        have HTT := Lib.hid HTT
        have hb4 := Lib.hid (HBw.out.trans (HB3.out.mono HBw.out.size))
        clear HT hcut
        go_wp2_with fail
        refine HTT.out.mono ?_
        rintro e w4 ⟨A2, n2, c2, rfl, hp2, hb2⟩
        have HP2 := Lib.hid hp2
        have HB2 := Lib.hid hb2
        clear HTT hp2 hb2
        go_wp2
        go_ret
        have hs := hb4.out.size
        refine ⟨A2, n2, c2, rfl, HP2.out.mono (fun b hb => by have hb' := hb; simp at hb'; omega), (hb4.out.alloc hs _).trans (HB2.out.mono (by simp; omega))⟩
      · rw [hin] at HIN
        have HIN := Lib.hid HIN
        have hinH := Lib.hid hin
        clear hin
        go_upto_region 3 with fail
        go_region_held3 (fun w' => w'.cell? ⟨w.heap.size, 0, none⟩ = some (.slice C o q) ∧ w'.cell? ⟨w.heap.size, 1, none⟩ = some (.slice B p r) ∧ w'.cell? ⟨b, oo + j * 2, none⟩ = some (.slice A1 n1 c1)) (go_keep)
          ((go_at_call 58
            (with_reducible refine HIN.out.mono ?_)
            rintro e w3 ⟨rfl, hb3⟩
            have hb3 := undrew hb3
            have b0 := (hb3.cell (p := ⟨w.heap.size, 0, none⟩) hwr).trans HK.out.1
            have b1 := (hb3.cell (p := ⟨w.heap.size, 1, none⟩) hwr).trans HK.out.2.1
            have k0 := (hb3.cell (p := ⟨b, oo + j * 2, none⟩) hbl).trans HK.out.2.2
            have HB3 := Lib.hid hb3
            clear hb3))
        have hb4 := Lib.hid (HB.out.trans (HB3.out.mono HB.out.size))
        have HAL := Lib.hid (show ∀ i, f ≤ i → i < j + 1 → inB l h (gt L i).1 = true from fun i h1 h2 => by
          rcases Nat.lt_succ_iff_lt_or_eq.1 h2 with h3 | rfl
          · exact HALL.out i h1 h3
          · exact hinH.out)
        clear HALL HB HB3 HT HK b0 b1 k0
        go_wp2
        go_roundw
        case rel => exact ⟨j + 1, by omega, by omega, by go_num, HAL.out, hb4.out⟩
        case measure => simp [intOf]; omega
    · obtain rfl : n = j := by omega
      have HTT := Lib.hid (fun V (hV : Below W.heap.size W V) => HT.out V n hV hfj hjn HALL.out (fun h => absurd h (by omega)))
      have hX : (if c = f then A else A.map (·.add (f * 2))) = cutA A f c := rfl
      clear HT
      have hnn : decide ((n : Int) < (n : Int)) = false := by simp
      have hnn2 : ¬ ((n : Int) < (n : Int)) := by omega
      go_upto_region 3 with fail
      go_quiet (fail)
      go_wp2_with fail
      refine (HTT.out _ (bel_drawn HB.out nq)).mono ?_
      rintro e w4 ⟨A2, n2, c2, rfl, hp2, hb2⟩
      have HP2 := Lib.hid hp2
      have HB2 := Lib.hid hb2
      clear HTT hp2 hb2
      go_wp2
      go_ret
      have hs := HBw.out.size
      refine ⟨A2, n2, c2, rfl, HP2.out.mono (fun b hb => by have hb' := hb; simp at hb'; omega), ((bel_drawn HBw.out nq).alloc hs _).trans (HB2.out.mono (by simp; omega))⟩
end Go.Proofs.Ythbmchkbebneiaa

namespace Go.Proofs.Ythbmchkbebneiaa
open Go.RowKit
set_option linter.unusedVariables false
set_option maxRecDepth 100000

theorem TreD.lt {B : Nat} {D : Nat → Prop} {w : World} {tb m : Nat} {P : List Pr} (h : TreD B D w tb m P) : tb < w.heap.size ∧ ∀ b, D b → b < w.heap.size := by
  obtain ⟨-, ⟨g, L, F, root, d, t, hT, -⟩, -⟩ := h
  exact hT.lt
theorem TreD.fit {B : Nat} {D : Nat → Prop} {w : World} {tb m : Nat} {P : List Pr} (h : TreD B D w tb m P) : Fit P ∧ P.length ≤ 1000 := by
  obtain ⟨-, ⟨g, L, F, root, d, t, hT, hG, rfl, hP⟩, -⟩ := h
  exact ⟨hG.ok.fit.1, hP⟩
theorem remd {B : Nat} {D : Nat → Prop} {w : World} {tb m : Nat} {P : List Pr} (h : TreD B D w tb m P) (hB : B ≤ w.heap.size) {C : Option Addr} {o : Nat} (q : Nat) {k : Ky} (hk : Byt w C o k) :
    Calls Try.prog 33 #[.pointer (some ⟨tb, 0, none⟩), .slice C o q] w fun e w' => e = .returned (.bool (hasB P k)) ∧ ∃ D', TreD B D' w' tb m (delL P k) ∧ (∀ b, D' b → D b ∨ w.heap.size ≤ b) ∧ Only (fun b => D b ∨ b = tb) w w' := by
  obtain ⟨h0, h1, h2⟩ := h
  exact (rem_any h1 q hk).mono fun e w' ⟨e1, D', e2, e3, e4⟩ => ⟨e1, D', ⟨h0, e2, fun b hb => (e3 b hb).elim (h2 b) (fun h => Nat.le_trans hB h)⟩, e3, e4⟩

/-- Where the loop has come to. -/
def ClearI (w : World) (B : Nat) (D : Nat → Prop) (tb m : Nat) (P M : List Pr) (A : Option Addr) (k c j : Nat) (wr : World) : Prop :=
  ∃ D', TreD B D' wr tb m (delK P (M.take j)) ∧ (∀ b, D' b → D b ∨ w.heap.size ≤ b) ∧ Only (fun b => D b ∨ b = tb) w wr ∧ On (fun b => ¬ D' b ∧ b ≠ tb) wr (Prs · A k c M)
/-- What Clear leaves. -/
def ClearO (w : World) (B : Nat) (D : Nat → Prop) (tb m : Nat) (P : List Pr) (w' : World) : Prop :=
  ∃ D', TreD B D' w' tb m P ∧ (∀ b, D' b → D b ∨ w.heap.size ≤ b) ∧ Only (fun b => D b ∨ b = tb) w w'

theorem clear_round {w wr V w5 : World} {B : Nat} {D D1 D5 : Nat → Prop} {tb m : Nat} {P M : List Pr} {A : Option Addr} {k c j : Nat} (hj : j < M.length) (h1 : ∀ b, D1 b → D b ∨ w.heap.size ≤ b) (h2 : Only (fun b => D b ∨ b = tb) w wr) (h3 : On (fun b => ¬ D1 b ∧ b ≠ tb) wr (Prs · A k c M))
    (hb : Below wr.heap.size wr V) (t5 : TreD B D5 w5 tb m (delL (delK P (M.take j)) (gt M j).1)) (n5 : ∀ b, D5 b → D1 b ∨ V.heap.size ≤ b) (o5 : Only (fun b => D1 b ∨ b = tb) V w5) : ClearI w B D tb m P M A k c (j + 1) w5 := by
  have hs := hb.size
  have hs2 := h2.size
  refine ⟨D5, by rw [delK_step P M hj]; exact t5, fun b hb5 => ?_, ?_, on_put (h3.keep (below_all hb)) o5 n5⟩
  · rcases n5 b hb5 with h | h
    · exact h1 b h
    · exact .inr (by omega)
  · exact (h2.trans2 (below_only (D := fun b => D b ∨ b = tb) hb) (fun i hi => .inl hi)).trans2 o5 (fun i hi => by
      rcases hi with hi | hi
      · exact (h1 i hi).imp .inl id
      · exact .inl (.inr hi))

set_option maxHeartbeats 8000000 in
theorem clear_yes {B : Nat} {D : Nat → Prop} {w : World} {tb m : Nat} {P : List Pr} (h : TreD B D w tb m P) (hB : B ≤ w.heap.size) {C V : Option Addr} {o p : Nat} (q r : Nat) {l k : Ky} (hl : Byt w C o l) (hk : Byt w V p k) (ho : o ≤ maxLen) (hp : p ≤ maxLen) (hs : soundB l k = true) :
    Calls Try.prog 18 #[.pointer (some ⟨tb, 0, none⟩), .agg #[.slice C o q, .slice V p r]] w fun e w' => e = .returned (.tuple #[.int .i64 (cutL P l k).length, .nilIface]) ∧ ClearO w B D tb m (clearL P l k) w' := by
  obtain ⟨W, hW, hWB, hW0, hW1, hWs⟩ : ∃ W, W = w.alloc (.cells #[.slice C o q, .slice V p r] 53) ∧ Below w.heap.size w W ∧ W.cell? ⟨w.heap.size, 0, none⟩ = some (.slice C o q) ∧ W.cell? ⟨w.heap.size, 1, none⟩ = some (.slice V p r) ∧ W.heap.size = w.heap.size + 1 :=
    ⟨_, rfl, (Below.refl _ _).alloc (Nat.le_refl _) _, box_0 _ _ _ _, box_1 _ _ _ _, by simp⟩
  have HMAY := may_yes (h.below hWB).tre
  have HSND := ksound_any q r (hl.below hWB) (hk.below hWB) ho hp
  rw [hs] at HSND
  have hfit := h.fit
  have hlt := h.lt
  have HT := Lib.hid h
  have HWB := Lib.hid hWB
  have HI := Lib.hid (And.intro hl hk)
  have HC0 := Lib.hid hW0
  have HC1 := Lib.hid hW1
  have HF := Lib.hid (And.intro hfit hlt)
  have hwl : w.heap.size < W.heap.size := by omega
  have hWe := Lib.hid hW
  clear h hl hk hs hfit hWB hW0 hW1 hW hlt
  go_enter Try.func18, Try.ntmps18
  go_wp2_with fail
  rw [← hWe.out]
  refine HMAY.mono ?_
  rintro e w1 ⟨rfl, rfl⟩
  have b0 := HC0.out
  have b1 := HC1.out
  clear HMAY hWe
  go_wp2_with fail
  refine HSND.mono ?_
  rintro e w2 ⟨rfl, hb2⟩
  have b0 := (hb2.cell (p := ⟨w.heap.size, 0, none⟩) hwl).trans HC0.out
  have b1 := (hb2.cell (p := ⟨w.heap.size, 1, none⟩) hwl).trans HC1.out
  have HB2 := Lib.hid (HWB.out.trans (hb2.mono HWB.out.size))
  have HX2 := Lib.hid (And.intro b0 b1)
  have hw2 : w.heap.size < w2.heap.size := Nat.lt_of_lt_of_le hwl hb2.size
  have HPR := pairsb (HT.out.below HB2.out).b
  clear hb2 HSND
  go_wp2_with fail
  refine HPR.mono ?_
  rintro e w3 ⟨A3, n3, c3, rfl, hp3, hb3⟩
  have e0 := (hb3.cell (p := ⟨w.heap.size, 0, none⟩) hw2).trans HX2.out.1
  have e1 := (hb3.cell (p := ⟨w.heap.size, 1, none⟩) hw2).trans HX2.out.2
  have HB3 := Lib.hid (HB2.out.trans (hb3.mono HB2.out.size))
  have hn3 : n3 ≤ 1000 := by rw [← hp3.len]; exact HF.out.1.2
  have HSL := Lib.hid (slice_new q r hp3 (HI.out.1.below HB3.out) (HI.out.2.below HB3.out) HF.out.1.1.1 (small_fit HF.out.1.1) hn3)
  clear hb3 HPR b0 b1 hp3 HX2
  go_wp2_with fail
  refine HSL.out.mono ?_
  rintro e w4 ⟨A4, k4, c4, rfl, hp4, hb4⟩
  have HAS := Lib.hid (fun i (hi : i < (cutL P l k).length) => delK_has HF.out.1.1.1 hi)
  have HALL := Lib.hid (delK_all (P := P) (l := l) (h := k))
  have hlen := hp4.here.len
  have hle : (cutL P l k).length ≤ 1000 := Nat.le_trans (List.length_filter_le _ _) HF.out.1.2
  obtain ⟨M, hM⟩ : ∃ M, M = cutL P l k := ⟨_, rfl⟩
  rw [← hM] at HAS HALL hlen hle hp4
  have HME := Lib.hid hM
  clear hM
  have HLEN := Lib.hid hlen
  have hk4 : k4 ≤ 1000 := by omega
  have HB4 := Lib.hid (HB3.out.trans (hb4.mono HB3.out.size))
  have HST := Lib.hid (show ClearI w B D tb m P M A4 k4 c4 0 w4 from ⟨D, HT.out.below HB4.out, fun b hb => .inl hb, below_only HB4.out, hp4.mono fun b hb => ⟨fun hd => by have := HF.out.2.2 b hd; have := HB3.out.size; omega, fun e => by have := HF.out.2.1; have := HB3.out.size; omega⟩⟩)
  clear hp4 hb4 HSL hlen hle e0 e1
  go_wp2
  go_loopw [6, 27] (fun g i wr => ∃ j : Nat, j ≤ k4 ∧ g = .int .i64 j ∧ i = .int .i64 j ∧ ClearI w B D tb m P M A4 k4 c4 j wr) (fun _ i _ => k4 - (intOf i).toNat)
  case atStart => exact ⟨0, Nat.zero_le _, rfl, rfl, HST.out⟩
  case round =>
    obtain ⟨j, hj, rfl, rfl, D1, ht, hn, ho1, hon⟩ := hrel
    have H1 := Lib.hid (And.intro ht (And.intro hn (And.intro ho1 hon)))
    by_cases hlt : j < k4
    · have hjm : j < M.length := by rw [HLEN.out]; exact hlt
      obtain ⟨b, oo, A1, n1, c1, B1, m1, d1, rfl, k0, k1, y1, y2⟩ := prs_pair_on hon hlt
      have HW := Lib.hid (show ∃ V, V = wr.alloc (.cells #[.slice A1 n1 c1, .slice B1 m1 d1] 31) ∧ Below wr.heap.size wr V from ⟨_, rfl, (Below.refl _ _).alloc (Nat.le_refl _) _⟩)
      have HR : Hid (∀ V, Below wr.heap.size wr V → Calls Try.prog 33 #[.pointer (some ⟨tb, 0, none⟩), .slice A1 n1 c1] V fun e w' => e = .returned (.bool true) ∧ ClearI w B D tb m P M (some ⟨b, oo, none⟩) k4 c4 (j + 1) w') := Lib.hid fun V hV => by
        have := remd (H1.out.1.below hV) (by have := hV.size; have := HB3.out.size; have := H1.out.2.2.1.size; omega) c1 (y1.here.below hV)
        rw [HAS.out j hjm] at this
        exact this.mono fun e w' ⟨q1, D5, q2, q3, q4⟩ => ⟨q1, clear_round hjm H1.out.2.1 H1.out.2.2.1 H1.out.2.2.2 hV q2 q3 q4⟩
      clear y1 y2 ht hn ho1 hon
      go_wp2_with fail
      obtain ⟨V, hV, hVB⟩ := HW.out
      rw [← hV]
      refine (HR.out V hVB).mono ?_
      rintro e w5 ⟨rfl, h5⟩
      have H5 := Lib.hid h5
      clear h5 hV HW HR k0 k1
      go_wp2
      go_roundw
      case rel => exact ⟨j + 1, by omega, by go_num, by go_num, H5.out⟩
      case measure => simp [intOf]; omega
    · obtain rfl : j = k4 := by omega
      have he : delK P (M.take j) = clearL P l k := by rw [List.take_of_length_le (by rw [HLEN.out]; exact Nat.le_refl _), HALL.out]
      rw [he] at H1
      clear ht hn ho1 hon he
      go_wp2
      refine bodyPost_ret (v := .tuple #[.int .i64 j, .nilIface]) (by simp [results, Try.results18, go_sem]) rfl ⟨by rw [← HME.out, HLEN.out], D1, H1.out.1, H1.out.2.1, H1.out.2.2.1⟩

set_option maxHeartbeats 8000000 in
theorem clear_no {B : Nat} {D : Nat → Prop} {w : World} {tb m : Nat} {P : List Pr} (h : TreD B D w tb m P) {C V : Option Addr} {o p : Nat} (q r : Nat) {l k : Ky} (hl : Byt w C o l) (hk : Byt w V p k) (ho : o ≤ maxLen) (hp : p ≤ maxLen) (hs : soundB l k = false) :
    Calls Try.prog 18 #[.pointer (some ⟨tb, 0, none⟩), .agg #[.slice C o q, .slice V p r]] w fun e w' => e = .returned (.tuple #[.int .i64 0, errV 1]) ∧ Below w.heap.size w w' := by
  obtain ⟨W, hW, hWB, hW0, hW1, hWs⟩ : ∃ W, W = w.alloc (.cells #[.slice C o q, .slice V p r] 53) ∧ Below w.heap.size w W ∧ W.cell? ⟨w.heap.size, 0, none⟩ = some (.slice C o q) ∧ W.cell? ⟨w.heap.size, 1, none⟩ = some (.slice V p r) ∧ W.heap.size = w.heap.size + 1 :=
    ⟨_, rfl, (Below.refl _ _).alloc (Nat.le_refl _) _, box_0 _ _ _ _, box_1 _ _ _ _, by simp⟩
  have HMAY := may_yes (h.below hWB).tre
  have HSND := ksound_any q r (hl.below hWB) (hk.below hWB) ho hp
  rw [hs] at HSND
  have HWB := Lib.hid hWB
  have HC0 := Lib.hid hW0
  have HC1 := Lib.hid hW1
  have hWe := Lib.hid hW
  clear h hl hk hs hWB hW0 hW1 hW
  go_enter Try.func18, Try.ntmps18
  go_wp2_with fail
  rw [← hWe.out]
  refine HMAY.mono ?_
  rintro e w1 ⟨rfl, rfl⟩
  have b0 := HC0.out
  have b1 := HC1.out
  clear HMAY hWe
  go_wp2_with fail
  refine HSND.mono ?_
  rintro e w2 ⟨rfl, hb2⟩
  have HB2 := Lib.hid (HWB.out.trans (hb2.mono HWB.out.size))
  clear hb2 HSND b0 b1
  go_wp2
  exact bodyPost_ret (v := .tuple #[.int .i64 0, errV 1]) (by simp [results, Try.results18, go_sem, errV]) rfl ⟨rfl, HB2.out⟩
end Go.Proofs.Ythbmchkbebneiaa

namespace Go.Proofs.Ythbmchkbebneiaa
open Go.RowKit
set_option linter.unusedVariables false
set_option maxRecDepth 100000

theorem one_on {C : Nat → Prop} {w : World} {C1 D1 : Option Addr} {o p : Nat} (q r : Nat) {x : Pr} (h : On C w (Byt · C1 o x.1)) (h' : On C w (Byt · D1 p x.2)) (T : TypeId) :
    On (fun b => (C b ∧ b < w.heap.size) ∨ b = w.heap.size) (w.alloc (.cells #[.slice C1 o q, .slice D1 p r] T)) (Prs · (some ⟨w.heap.size, 0, none⟩) 1 1 [x]) := fun V ha => by
  have h1 := (h.now).keep (agree_alloc w (.cells #[.slice C1 o q, .slice D1 p r] T))
  have h2 := (h'.now).keep (agree_alloc w (.cells #[.slice C1 o q, .slice D1 p r] T))
  have hsz : w.heap.size < V.heap.size := by have := ha.1; simp at this; omega
  have hblk := ha.2 w.heap.size (.inr rfl) (by simp)
  have e0 : V.cell? ⟨w.heap.size, 0, none⟩ = some (.slice C1 o q) := (World.cell?_of_block (a := ⟨w.heap.size, 0, none⟩) hblk).trans (box_0 _ _ _ _)
  have e1 : V.cell? ⟨w.heap.size, 1, none⟩ = some (.slice D1 p r) := (World.cell?_of_block (a := ⟨w.heap.size, 1, none⟩) hblk).trans (box_1 _ _ _ _)
  refine ⟨rfl, Nat.le_refl _, by unfold maxLen; omega, (fun e => by cases e), fun _ => ⟨w.heap.size, 0, rfl, hsz, fun j hj => ?_⟩⟩
  obtain rfl : j = 0 := by omega
  exact ⟨C1, o, q, D1, p, r, e0, e1, h1 V (ha.mono fun b hb => .inl hb), h2 V (ha.mono fun b hb => .inl hb)⟩

/-- Where the loop that keeps what is not in the range has come to. -/
def KeepI (w0 : World) (L : List Pr) (l k : Ky) (j : Nat) (v : Value) (wr : World) : Prop := ∃ n, Grows wr w0.heap.size v n (clearL (L.take j) l k) ∧ Below w0.heap.size w0 wr

theorem keep_same {w0 wr w' : World} {L : List Pr} {l k : Ky} {j : Nat} {v : Value} (h : KeepI w0 L l k j v wr) (hb : Below wr.heap.size wr w') (hj : j < L.length) (hin : inB l k (gt L j).1 = true) : KeepI w0 L l k (j + 1) v w' := by
  obtain ⟨n, h1, h2⟩ := h
  refine ⟨n, ?_, h2.trans (hb.mono h2.size)⟩
  rw [clear_step L l k hj, hin, if_pos rfl, List.append_nil]
  exact h1.keep hb

set_option maxHeartbeats 16000000 in
theorem clears_in {w : World} {A C V : Option Addr} {n c o p : Nat} (q r : Nat) {m : Nat} {L : List Pr} {l k : Ky} (h : Prs w A n c L) (hl : Byt w C o l) (hk : Byt w V p k) (hf : fewB L 200 = true) (ho : o ≤ 100) (hp : p ≤ 100) (h3 : 3 ≤ m) (h16 : m ≤ 16) :
    Calls Try.prog 4 #[.int .i64 m, .slice A n c, .agg #[.slice C o q, .slice V p r]] w fun e w' => e = .returned (.bool true) ∧ Below w.heap.size w w' := by
  obtain ⟨W, hW, hWB, hW0, hW1, hWs⟩ : ∃ W, W = w.alloc (.cells #[.slice C o q, .slice V p r] 53) ∧ Below w.heap.size w W ∧ W.cell? ⟨w.heap.size, 0, none⟩ = some (.slice C o q) ∧ W.cell? ⟨w.heap.size, 1, none⟩ = some (.slice V p r) ∧ W.heap.size = w.heap.size + 1 :=
    ⟨_, rfl, (Below.refl _ _).alloc (Nat.le_refl _) _, box_0 _ _ _ _, box_1 _ _ _ _, by simp⟩
  have H := Lib.hid h
  have HI := Lib.hid (And.intro hl hk)
  have HF0 := Lib.hid hf
  have hlen : L.length = n := h.len
  have hn200 : n ≤ 200 := by have := (few_small hf).2; omega
  have HM := Lib.hid (And.intro h3 h16)
  have g1 : decide (100 < (o : Int)) = false := by simp; omega
  have g1b : decide (100 < o) = false := by simp; omega
  have g2 : decide (100 < (p : Int)) = false := by simp; omega
  have g2b : decide (100 < p) = false := by simp; omega
  have hoM : o ≤ maxLen := by unfold maxLen; omega
  have hpM : p ≤ maxLen := by unfold maxLen; omega
  have HWB := Lib.hid hWB
  have HC := Lib.hid (And.intro hW0 hW1)
  have hwl : w.heap.size < W.heap.size := by omega
  have hWe := Lib.hid hW
  clear h hl hk hf h3 h16 hWB hW0 hW1 hW
  go_enter Try.func4, Try.ntmps4
  go_wp2_with fail
  rw [← hWe.out]
  refine (up_any _).mono ?_
  rintro e w1 ⟨rfl, hb1⟩
  have HB := Lib.hid (HWB.out.trans (hb1.mono HWB.out.size))
  have HC1 := Lib.hid (And.intro ((hb1.cell (p := ⟨w.heap.size, 0, none⟩) hwl).trans HC.out.1) ((hb1.cell (p := ⟨w.heap.size, 1, none⟩) hwl).trans HC.out.2))
  have hw1 : w.heap.size < w1.heap.size := Nat.lt_of_lt_of_le hwl hb1.size
  have HF : Calls Try.prog 7 #[.slice A n c, .int .i64 200] w1 _ := few_any 200 (H.out.below HB.out)
  rw [HF0.out] at HF
  have HF := Lib.hid HF
  clear hb1 hWe
  go_wp2_with fail
  refine HF.out.mono ?_
  rintro e w2 ⟨rfl, rfl⟩
  clear HF
  have HN := made_yes (H.out.below HB.out) HM.out.1 HM.out.2
  rw [made_is (by omega)] at HN
  go_wp2_with fail
  refine HN.mono ?_
  rintro e w2 ⟨tb, rfl, ht, hb⟩
  obtain ⟨D0, ht⟩ : ∃ D, TreD w1.heap.size D w2 tb m (rowL L) := by
    obtain ⟨h0, D, h1, h2⟩ := ht
    exact ⟨D, h0, h1, h2⟩
  have HT := Lib.hid ht
  have HB2 := Lib.hid (below_on HB.out hb)
  have HS := Lib.hid HB.out.size
  have HRW := Lib.hid (rrow_on (E := fun b => b < w1.heap.size) (w := w2) (((prs_old (H.out.below HB.out))).keep (below_all hb)) (few_small HF0.out).1 (by omega))
  have b0 := (hb.cell (p := ⟨w.heap.size, 0, none⟩) hw1).trans HC1.out.1
  have b1 := (hb.cell (p := ⟨w.heap.size, 1, none⟩) hw1).trans HC1.out.2
  have HC2 := Lib.hid (And.intro b0 b1)
  have hw2 : w.heap.size < w2.heap.size := Nat.lt_of_lt_of_le hw1 hb.size
  clear HN ht hb
  go_wp2_with fail
  refine HRW.out.mono ?_
  rintro e w3 ⟨A1, n1, c1, rfl, hp, hb⟩
  have HT3 := Lib.hid (HT.out.below hb)
  have HB3 := Lib.hid (below_on HB2.out hb)
  have HP3 := Lib.hid (show On (fun b => ¬ D0 b ∧ b ≠ tb) w3 (Prs · A1 n1 c1 (rowL L)) from hp.mono (fun b hb => by
    have hl := HT.out.tre.lt
    rcases hb with hb | hb
    · exact ⟨fun hd => by have := HT.out.dn b hd; omega, fun e => by have := HT.out.tbn; omega⟩
    · exact ⟨fun hd => by have := hl.2 b hd; omega, fun e => by have := hl.1; omega⟩))
  have hrf := row_fit L L.length (Nat.le_refl _)
  rw [List.take_length] at hrf
  have hn1 : n1 ≤ 200 := by rw [← hp.here.len]; omega
  have HRF := Lib.hid hrf
  have e0 := (hb.cell (p := ⟨w.heap.size, 0, none⟩) hw2).trans HC2.out.1
  have e1 := (hb.cell (p := ⟨w.heap.size, 1, none⟩) hw2).trans HC2.out.2
  have HC3 := Lib.hid (And.intro e0 e1)
  have hw3 : w.heap.size < w3.heap.size := Nat.lt_of_lt_of_le hw2 hb.size
  have hs13 : w1.heap.size ≤ w3.heap.size := HT3.out.b.lt
  clear HRW hp hb HT HB2 hrf g1 g1b g2 g2b b0 b1 HC2
  generalize rowL L = R at HT3 HP3 HRF
  have HRL := Lib.hid HP3.out.here.len
  cases hsd : soundB l k
  · have HCL := clear_no HT3.out q r (HI.out.1.below HB3.out) (HI.out.2.below HB3.out) hoM hpM hsd
    rw [errV_some (k := 1) (by decide)] at HCL
    have HCL := Lib.hid HCL
    have HSD := Lib.hid hsd
    clear hsd
    go_wp2_with fail
    refine HCL.out.mono ?_
    rintro e w4 ⟨rfl, hb4⟩
    have HT4 := Lib.hid (HT3.out.below hb4)
    have HB4 := Lib.hid (below_on HB3.out hb4)
    have HP4 := Lib.hid (HP3.out.here.below hb4)
    have f0 := (hb4.cell (p := ⟨w.heap.size, 0, none⟩) hw3).trans HC3.out.1
    have f1 := (hb4.cell (p := ⟨w.heap.size, 1, none⟩) hw3).trans HC3.out.2
    have HSN := rsound_any q r (HI.out.1.below HB4.out) (HI.out.2.below HB4.out) hoM hpM
    rw [HSD.out] at HSN
    have he := eql_err 1 1
    clear hb4 HCL e0 e1
    go_wp2_with fail
    refine HSN.mono ?_
    rintro e w5 ⟨rfl, hb5⟩
    have HT5 := Lib.hid (HT4.out.below hb5)
    have HB5 := Lib.hid (below_on HB4.out hb5)
    have HP5 := Lib.hid (HP4.out.below hb5)
    have HPR := Lib.hid (pairsb HT5.out.b)
    clear hb5 HSN f0 f1
    go_wp2_with fail
    refine HPR.out.mono ?_
    rintro e w6 ⟨A6, n6, c6, rfl, hp6, hb6⟩
    have HB6 := Lib.hid (below_on HB5.out hb6)
    have HPS := Lib.hid (pairs_same hp6 (HP5.out.below hb6))
    clear HPR hp6 hb6
    go_wp2_with fail
    refine HPS.out.mono ?_
    rintro e w7 ⟨rfl, hd7⟩
    have HB7 := Lib.hid (below_on HB6.out (hd7.below w6.heap.size))
    clear HPS hd7
    go_wp2
    go_ret
    exact ⟨rfl, HB7.out⟩
  · have HCL := Lib.hid (clear_yes HT3.out hs13 q r (HI.out.1.below HB3.out) (HI.out.2.below HB3.out) hoM hpM hsd)
    have HSD := Lib.hid hsd
    clear hsd
    go_wp2_with fail
    refine HCL.out.mono ?_
    rintro e w4 ⟨rfl, D4, ht4, hd4, ho4⟩
    have hb4 : Below w1.heap.size w3 w4 := ho4.below (fun b hb => hb.elim (HT3.out.dn b) (fun h => by rw [h]; exact HT3.out.tbn)) hs13
    have HT4 := Lib.hid ht4
    have HB4 := Lib.hid (HB3.out.trans (hb4.mono HS.out))
    have HP4 := Lib.hid (on_put HP3.out ho4 hd4)
    have f0 := (hb4.cell (p := ⟨w.heap.size, 0, none⟩) hw1).trans HC3.out.1
    have f1 := (hb4.cell (p := ⟨w.heap.size, 1, none⟩) hw1).trans HC3.out.2
    have HC4 := Lib.hid (And.intro f0 f1)
    have hw4 : w.heap.size < w4.heap.size := Nat.lt_of_lt_of_le hw3 ho4.size
    have HSN := rsound_any q r (HI.out.1.below HB4.out) (HI.out.2.below HB4.out) hoM hpM
    rw [HSD.out] at HSN
    have hcl := cut_len R l k
    obtain ⟨cn, hcn⟩ : ∃ cn, cn = (cutL R l k).length := ⟨_, rfl⟩
    rw [← hcn] at hcl
    rw [← hcn]
    have HCN := Lib.hid hcl
    clear hb4 ht4 hd4 ho4 HCL e0 e1 hcl hcn HP3 HT3
    go_wp2_with fail
    refine HSN.mono ?_
    rintro e w5 ⟨rfl, hb5⟩
    have HT5 := Lib.hid (HT4.out.below hb5)
    have HB5 := Lib.hid (below_on HB4.out hb5)
    have HP5 := Lib.hid (HP4.out.keep (below_all hb5)).here
    have x0 := (hb5.cell (p := ⟨w.heap.size, 0, none⟩) hw4).trans HC4.out.1
    have x1 := (hb5.cell (p := ⟨w.heap.size, 1, none⟩) hw4).trans HC4.out.2
    have HX := Lib.hid (And.intro x0 x1)
    have hw5 : w.heap.size < w5.heap.size := Nat.lt_of_lt_of_le hw4 hb5.size
    clear hb5 HSN f0 f1 HC4 HP4 HT4 x0 x1
    go_wp2
    go_loopw [14, 15] (fun u x wr => ∃ j : Nat, j ≤ n1 ∧ x = .int .i64 (j : Nat) ∧ KeepI w5 R l k j u wr) (fun _ x _ => n1 - (intOf x).toNat)
    case atStart => exact ⟨0, Nat.zero_le _, rfl, 0, grows_nil _ _, Below.refl _ _⟩
    case round =>
      obtain ⟨j, hj, rfl, hki⟩ := hrel
      have HKI := Lib.hid hki
      obtain ⟨n2, hg, hb⟩ := hki
      have HG := Lib.hid hg
      have HBr := Lib.hid hb
      have hwr : w.heap.size < wr.heap.size := Nat.lt_of_lt_of_le hw5 hb.size
      have HBw := Lib.hid (below_on HB5.out hb)
      have x0 := (hb.cell (p := ⟨w.heap.size, 0, none⟩) hw5).trans HX.out.1
      have x1 := (hb.cell (p := ⟨w.heap.size, 1, none⟩) hw5).trans HX.out.2
      by_cases hlt : j < n1
      · have hjR : j < R.length := by rw [HRL.out]; exact hlt
        obtain ⟨b, oo, A2, n3, c2, B2, m2, d2, rfl, k0, k1, y1, y2⟩ := prs_pair_on (prs_old HP5.out) hlt
        have q0 := (hb.cell (p := ⟨b, oo + j * 2, none⟩) (World.block_lt_of_cell? _ _ k0)).trans k0
        have q1 := (hb.cell (p := ⟨b, oo + j * 2 + 1, none⟩) (World.block_lt_of_cell? _ _ k1)).trans k1
        have hbl : b < wr.heap.size := World.block_lt_of_cell? _ _ q0
        have HY := Lib.hid (And.intro y1 y2)
        have hn3 : n3 ≤ maxLen := by
          have := (HRF.out.1.2 _ (gt_mem hjR))
          have h2 := y1.here.1
          unfold maxLen
          unfold fairB mayB at this
          simp at this
          omega
        have HIN := rin_any (w := wr.drew) q r c2 (l := l) (k := k) (HI.out.1.below HBw.out.drew) (HI.out.2.below HBw.out.drew) ((y1.here.below hb).below (Below.refl _ _).drew) hoM hpM hn3
        have HK := Lib.hid (And.intro x0 (And.intro x1 (And.intro q0 q1)))
        have hji : (j : Int) < (n1 : Int) := by omega
        have hj0 : (0 : Int) ≤ (j : Int) := by omega
        clear y1 y2 k0 k1 hg hb q1 hn3
        obtain ⟨A4, c4, rfl, -⟩ := HG.out.prs
        go_upto_region 15 with fail
        cases hin : inB l k (gt R j).1
        · rw [hin] at HIN
          have HIN := Lib.hid HIN
          have hinH := Lib.hid hin
          clear hin
          go_region_held3 (fun w' => w'.cell? ⟨w.heap.size, 0, none⟩ = some (.slice C o q) ∧ w'.cell? ⟨w.heap.size, 1, none⟩ = some (.slice V p r) ∧ w'.cell? ⟨b, oo + j * 2, none⟩ = some (.slice A2 n3 c2)) (go_keep)
            ((go_at_call 20
              (with_reducible refine HIN.out.mono ?_)
              rintro e w6 ⟨rfl, hb6⟩
              have hb6 := undrew hb6
              have x0 := (hb6.cell (p := ⟨w.heap.size, 0, none⟩) hwr).trans HK.out.1
              have x1 := (hb6.cell (p := ⟨w.heap.size, 1, none⟩) hwr).trans HK.out.2.1
              have q0 := (hb6.cell (p := ⟨b, oo + j * 2, none⟩) hbl).trans HK.out.2.2.1
              have q1 := (hb6.cell (p := ⟨b, oo + j * 2 + 1, none⟩) hbl).trans HK.out.2.2.2
              have HB6 := Lib.hid hb6
              clear hb6))
          have h56 : Below w5.heap.size w5 w6 := HBr.out.trans (HB6.out.mono HBr.out.size)
          have HON := Lib.hid (one_on (T := 31) c2 d2 ((HY.out.1).keep (below_all h56)) ((HY.out.2).keep (below_all h56)))
          obtain ⟨xs, hown, hrd⟩ := HG.out.keep HB6.out
          have HOW := Lib.hid (hown.alloc (.cells #[.slice A2 n3 c2, .slice B2 m2 d2] 31))
          have HOL := Lib.hid (fun k (hk : (Value.slice A4 n2 c4).ownBlock = some k) => hown.lt k hk)
          have HRD := Lib.hid (hrd.keep (fun t => agree_alloc w6 (.cells #[.slice A2 n3 c2, .slice B2 m2 d2] 31)))
          have hsum : n2 + 1 ≤ 9000 := by
            have h1 := HG.out.len
            have h2 : (clearL (R.take j) l k).length ≤ (R.take j).length := List.length_filter_le _ _
            rw [List.length_take] at h2
            omega
          have hbase : w5.heap.size ≤ (w6.alloc (.cells #[.slice A2 n3 c2, .slice B2 m2 d2] 31)).heap.size := by have := h56.size; simp; omega
          have HBA := Lib.hid (h56.alloc h56.size (.cells #[.slice A2 n3 c2, .slice B2 m2 d2] 31))
          have hs56 := h56.size
          have HCS := Lib.hid (clear_step R l k hjR)
          clear h56 HG HB6 HK HIN x0 x1 hbl hown hrd HKI
          go_wp2_with (at_builtin; refine wpList_append_prs_at rfl _ _ rfl w5.heap.size (.slice A4 n2 c4) n2 xs rfl HOW.out (some ⟨w6.heap.size, 0, none⟩) 1 1 [gt R j] (C := fun b => (b < w5.heap.size ∧ b < w6.heap.size) ∨ b = w6.heap.size) rfl HON.out (Below.refl _ _) hsum hbase ?_)
          intro v' w7 ys hys hown7 hgrow7 hat7
          have HG7 := Lib.hid (Grows.more (C := fun b => (b < w5.heap.size ∧ b < w6.heap.size) ∨ b = w6.heap.size) HOW.out HRD.out (Below.refl _ _) (fun b hb k hk => by
            have h1 := HOL.out k hk
            rcases hb with hb | hb <;> omega) hys hown7 hgrow7 (by rw [alloc_sz]; exact hat7))
          have HB7 := Lib.hid (HBA.out.grown hgrow7 hbase (fun k hk => (HOL.out k hk).1))
          clear hys hown7 hgrow7 hat7 HRD HOW HOL HON hbase hsum q0 q1
          go_wp2
          go_roundw
          case rel => exact ⟨j + 1, by omega, by go_num, n2 + 1, by rw [HCS.out, hinH.out]; exact HG7.out, HB7.out⟩
          case measure => simp [intOf]; omega
        · rw [hin] at HIN
          have HIN := Lib.hid HIN
          have hinH := Lib.hid hin
          clear hin
          go_region_held3 (fun w' => w'.cell? ⟨w.heap.size, 0, none⟩ = some (.slice C o q) ∧ w'.cell? ⟨w.heap.size, 1, none⟩ = some (.slice V p r) ∧ w'.cell? ⟨b, oo + j * 2, none⟩ = some (.slice A2 n3 c2)) (go_keep)
            ((go_at_call 20
              (with_reducible refine HIN.out.mono ?_)
              rintro e w6 ⟨rfl, hb6⟩
              have hb6 := undrew hb6
              have x0 := (hb6.cell (p := ⟨w.heap.size, 0, none⟩) hwr).trans HK.out.1
              have x1 := (hb6.cell (p := ⟨w.heap.size, 1, none⟩) hwr).trans HK.out.2.1
              have q0 := (hb6.cell (p := ⟨b, oo + j * 2, none⟩) hbl).trans HK.out.2.2.1
              have HB6 := Lib.hid hb6
              clear hb6))
          have HKS := Lib.hid (keep_same HKI.out HB6.out hjR hinH.out)
          clear HKI HG HBr HBw HB6 HK HIN x0 x1 q0
          go_wp2
          go_roundw
          case rel => exact ⟨j + 1, by omega, by go_num, HKS.out⟩
          case measure => simp [intOf]; omega
      · obtain rfl : n1 = j := by omega
        have hall : R.take n1 = R := List.take_of_length_le (by rw [HRL.out]; exact Nat.le_refl _)
        rw [hall] at HG
        have HSN := Lib.hid (soundb (HT5.out.below hb).b)
        obtain ⟨A6, c6, rfl, hp6⟩ := HG.out.prs
        have HP6 := Lib.hid hp6
        have HL6 := Lib.hid hp6.len
        have hsum : (n1 : Int) - (n2 : Int) = (cn : Int) := by have h1 := HCN.out; rw [HP6.out.len, HRL.out] at h1; omega
        have hw0 : IntKind.i64.wrap ((n1 : Int) - (n2 : Int)) = (cn : Int) := by rw [IntWalk.i64_in _ (by omega)]; omega
        have hw1 : wrap64 ((n1 : Int) - (n2 : Int)) = (cn : Int) := by rw [IntWalk.wrap64_in _ (by omega)]; omega
        clear hall hg hb hp6 HG hsum x0 x1
        go_wp2_with fail
        refine HSN.out.mono ?_
        rintro e w6 ⟨xb, rfl, hb6, ⟨A7, n7, c7, kx, hp7⟩, -⟩
        have HB6 := Lib.hid (below_on HBw.out hb6)
        have HPS := Lib.hid (pairs_same hp7 (HP6.out.below hb6))
        clear HSN hb6 hp7
        go_wp2_with fail
        refine HPS.out.mono ?_
        rintro e w7 ⟨rfl, hd7⟩
        have HB7 := Lib.hid (below_on HB6.out (hd7.below w6.heap.size))
        clear HPS hd7 kx
        go_wp2
        go_ret
        exact ⟨rfl, HB7.out⟩

/-- Where nothing is asked: no such tree, too many pairs, too long an end of the range. -/
theorem clears_let {w : World} {A C V : Option Addr} {n c o p : Nat} (q r : Nat) (m : Int) {L : List Pr} (h : Prs w A n c L) (hl : ¬ (3 ≤ m ∧ m ≤ 16) ∨ fewB L 200 = false ∨ 100 < o ∨ 100 < p) :
    Calls Try.prog 4 #[.int .i64 m, .slice A n c, .agg #[.slice C o q, .slice V p r]] w fun e w' => e = .returned (.bool true) ∧ Below w.heap.size w w' := by
  obtain ⟨W, hW, hWB, hW0, hW1, hWs⟩ : ∃ W, W = w.alloc (.cells #[.slice C o q, .slice V p r] 53) ∧ Below w.heap.size w W ∧ W.cell? ⟨w.heap.size, 0, none⟩ = some (.slice C o q) ∧ W.cell? ⟨w.heap.size, 1, none⟩ = some (.slice V p r) ∧ W.heap.size = w.heap.size + 1 :=
    ⟨_, rfl, (Below.refl _ _).alloc (Nat.le_refl _) _, box_0 _ _ _ _, box_1 _ _ _ _, by simp⟩
  have HUP := up_any W
  have H := Lib.hid h
  have HWB := Lib.hid hWB
  have HC := Lib.hid (And.intro hW0 hW1)
  have hwl : w.heap.size < W.heap.size := by omega
  have hWe := Lib.hid hW
  by_cases hm : 3 ≤ m ∧ m ≤ 16
  case neg =>
    have HMN := Lib.hid (fun w => made_no (w := w) (A := A) (n := n) (c := c) m hm)
    have HFW := Lib.hid (show ∀ w1, Below w.heap.size w w1 → Calls Try.prog 7 #[.slice A n c, .int .i64 200] w1 fun e w' => e = .returned (.bool (fewB L 200)) ∧ w1 = w' from fun w1 hb => few_any 200 (H.out.below hb))
    clear hm hl h hWB hW0 hW1 hW
    go_enter Try.func4, Try.ntmps4
    go_wp2_with fail
    rw [← hWe.out]
    refine HUP.mono ?_
    rintro e w1 ⟨rfl, hb1⟩
    have hb2 := HWB.out.trans (hb1.mono HWB.out.size)
    have HB := Lib.hid hb2
    have HFX := HFW.out w1 hb2
    generalize fewB L 200 = fb at HFX
    clear hb1 hb2 HFW hWe
    go_wp2_with fail
    refine HFX.mono ?_
    rintro e w2 ⟨rfl, rfl⟩
    clear HFX
    go_wp2_with fail
    refine (HMN.out _).mono ?_
    rintro e w2 ⟨rfl, rfl⟩
    go_wp2
    go_ret
    exact ⟨rfl, HB.out⟩
  case pos =>
    have hl2 : fewB L 200 = false ∨ (fewB L 200 = true ∧ 100 < o) ∨ (fewB L 200 = true ∧ o ≤ 100 ∧ 100 < p) := by
      cases hf : fewB L 200
      · exact .inl rfl
      · refine .inr ?_
        rcases hl with h | h | h | h
        · exact absurd hm h
        · exact absurd (hf.symm.trans h) (by decide)
        · exact .inl ⟨rfl, h⟩
        · rcases Nat.lt_or_ge 100 o with h1 | h1
          · exact .inl ⟨rfl, h1⟩
          · exact .inr ⟨rfl, h1, h⟩
    obtain ⟨m', rfl⟩ : ∃ m' : Nat, m = (m' : Int) := ⟨m.toNat, by omega⟩
    have h3 : 3 ≤ m' := by omega
    have h16 : m' ≤ 16 := by omega
    have HMY := Lib.hid (fun w1 (hb : Below w.heap.size w w1) => made_yes (w := w1) (H.out.below hb) h3 h16)
    have HFW := Lib.hid (show ∀ w1, Below w.heap.size w w1 → Calls Try.prog 7 #[.slice A n c, .int .i64 200] w1 fun e w' => e = .returned (.bool (fewB L 200)) ∧ w1 = w' from fun w1 hb => few_any 200 (H.out.below hb))
    clear hm h h3 h16 hl hWB hW0 hW1 hW
    rcases hl2 with hf | ⟨hf, hz⟩ | ⟨hf, hy, hz⟩
    case' inl => skip
    case' inr.inl =>
      have g1 : decide (100 < (o : Int)) = true := by simp; omega
      have g1b : decide (100 < o) = true := by simp; omega
    case' inr.inr =>
      have g1 : decide (100 < (o : Int)) = false := by simp; omega
      have g1b : decide (100 < o) = false := by simp; omega
      have g2 : decide (100 < (p : Int)) = true := by simp; omega
      have g2b : decide (100 < p) = true := by simp; omega
    all_goals
      rw [hf] at HFW
      clear hf
      go_enter Try.func4, Try.ntmps4
      go_wp2_with fail
      rw [← hWe.out]
      refine HUP.mono ?_
      rintro e w1 ⟨rfl, hb1⟩
      have hb2 := HWB.out.trans (hb1.mono HWB.out.size)
      have HB := Lib.hid hb2
      have HFX := HFW.out w1 hb2
      have HC1 := Lib.hid (And.intro ((hb1.cell (p := ⟨w.heap.size, 0, none⟩) hwl).trans HC.out.1) ((hb1.cell (p := ⟨w.heap.size, 1, none⟩) hwl).trans HC.out.2))
      have hw1 : w.heap.size < w1.heap.size := Nat.lt_of_lt_of_le hwl hb1.size
      clear hb1 hb2 HFW hWe
      go_wp2_with fail
      refine HFX.mono ?_
      rintro e w2 ⟨rfl, rfl⟩
      clear HFX
      go_wp2_with fail
      refine (HMY.out _ HB.out).mono ?_
      rintro e w2 ⟨tb, rfl, -, hb2⟩
      have HB2 := Lib.hid (below_on HB.out hb2)
      have b0 := (hb2.cell (p := ⟨w.heap.size, 0, none⟩) hw1).trans HC1.out.1
      have b1 := (hb2.cell (p := ⟨w.heap.size, 1, none⟩) hw1).trans HC1.out.2
      clear hb2
      go_wp2
      go_ret
      exact ⟨rfl, HB2.out⟩

theorem clears_any {w : World} {A C V : Option Addr} {n c o p : Nat} (q r : Nat) (m : Int) {L : List Pr} {l k : Ky} (h : Prs w A n c L) (hl : Byt w C o l) (hk : Byt w V p k) :
    Calls Try.prog 4 #[.int .i64 m, .slice A n c, .agg #[.slice C o q, .slice V p r]] w fun e w' => e = .returned (.bool true) ∧ Below w.heap.size w w' := by
  by_cases hz : ¬ (3 ≤ m ∧ m ≤ 16) ∨ fewB L 200 = false ∨ 100 < o ∨ 100 < p
  · exact clears_let q r m h hz
  · have hf : fewB L 200 = true := by cases hf : fewB L 200 <;> simp_all
    have hm : 3 ≤ m ∧ m ≤ 16 := Classical.byContradiction fun hh => hz (.inl hh)
    have ho : ¬ 100 < o := fun hh => hz (.inr (.inr (.inl hh)))
    have hp : ¬ 100 < p := fun hh => hz (.inr (.inr (.inr hh)))
    obtain ⟨m', rfl⟩ : ∃ m' : Nat, m = (m' : Int) := ⟨m.toNat, by omega⟩
    exact clears_in q r h hl hk hf (by omega) (by omega) (by omega) (by omega)
end Go.Proofs.Ythbmchkbebneiaa
