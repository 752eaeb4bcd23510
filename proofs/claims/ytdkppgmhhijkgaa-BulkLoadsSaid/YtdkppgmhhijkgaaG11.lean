/- A list cut evenly; a level of trees, and the one above it; leaves in a row. Plain; no condition. Contracts of package bulk's evenly (over pairs, over branches): where each piece lies. Condition: at most 2000 elements, at least one. What is read off cells is read off those blocks that hold cells: a tree whose blocks all hold cells. No condition. Contracts of slices.Backward and of what it tells, over a row of slices: from the last one on, for every loop body that keeps the row. Condition: at most 2000 elements. A region that draws its order, in the round of a range over a function: it goes as anywhere else. Condition: it defers nothing. -/
import Derived.Test.YtdkppgmhhijkgaaG3
import Derived.Test.YtdkppgmhhijkgaaG4
import Derived.BigRegion
import Derived.RangeFuncNested
import Derived.RangeFuncBound
import Derived.RangeFuncCalls
import Derived.RangeFuncLeaves
import Derived.Shelf.Abstract
import Derived.Shelf.RegionOpen
import Derived.WalkKit
import Derived.OwnWalkIn
import Derived.TacticsInMore
import Derived.LoopNIn
import Derived.LoopIn
import Derived.Deep.RegionHeld
namespace Go.Proofs.Ytdkppgmhhijkgaa
set_option linter.unusedVariables false
set_option maxRecDepth 100000

/-- In how many pieces a list is cut, and where. -/
def pcs (n most : Nat) : Nat := (n + most - 1) / most
def ctA (n p i : Nat) : Nat := n * i / p
theorem ctA_zero (n p : Nat) : ctA n p 0 = 0 := by simp [ctA]
theorem ctA_all {n p : Nat} (hp : 0 < p) : ctA n p p = n := Nat.mul_div_cancel n hp
theorem ctA_mono {n p i j : Nat} (h : i ≤ j) : ctA n p i ≤ ctA n p j := Nat.div_le_div_right (Nat.mul_le_mul_left n h)
theorem ctA_le {n p i : Nat} (hp : 0 < p) (h : i ≤ p) : ctA n p i ≤ n := by
  have := ctA_mono (n := n) (p := p) h
  rwa [ctA_all hp] at this
theorem ctA_least {n p q i : Nat} (hp : 0 < p) (h : p * q ≤ n) : ctA n p i + q ≤ ctA n p (i + 1) := by
  unfold ctA
  rw [← Nat.add_mul_div_left _ _ hp]
  exact Nat.div_le_div_right (by rw [Nat.mul_succ]; omega)
theorem ctA_most {n p q i : Nat} (hp : 0 < p) (h : n ≤ p * q) : ctA n p (i + 1) ≤ ctA n p i + q := by
  unfold ctA
  rw [← Nat.add_mul_div_left _ _ hp]
  exact Nat.div_le_div_right (by rw [Nat.mul_succ]; omega)
theorem pcs_cover {n m : Nat} (hm : 0 < m) : n ≤ pcs n m * m := by
  unfold pcs
  have h1 := Nat.div_add_mod (n + m - 1) m
  have h2 := Nat.mod_lt (n + m - 1) hm
  rw [Nat.mul_comm] at h1
  omega
theorem pcs_need {n m : Nat} (hn : 0 < n) (hm : 0 < m) : pcs n m * m ≤ n + m - 1 := by
  unfold pcs
  have h1 := Nat.div_add_mod (n + m - 1) m
  rw [Nat.mul_comm] at h1
  omega
theorem pcs_pos {n m : Nat} (hn : 0 < n) (hm : 0 < m) : 0 < pcs n m := by
  have := pcs_cover (n := n) hm
  rcases Nat.eq_zero_or_pos (pcs n m) with h | h
  · rw [h] at this; omega
  · exact h
theorem pcs_half {n m : Nat} (hn : 0 < n) (hm : 0 < m) (h2 : 2 ≤ pcs n m) : pcs n m * ((m + 1) / 2) ≤ n := by
  have h := pcs_need hn hm
  generalize pcs n m = q at h h2
  obtain ⟨r, rfl⟩ : ∃ r, q = r + 2 := ⟨q - 2, by omega⟩
  obtain ⟨s, rfl⟩ : ∃ s, m = s + 1 := ⟨m - 1, by omega⟩
  obtain ⟨x, hx⟩ : ∃ x, x = (s + 1 + 1) / 2 := ⟨_, rfl⟩
  rw [← hx]
  have h1 : 2 * x ≤ s + 2 := by omega
  have h3 := Nat.mul_le_mul_left (r + 2) h1
  simp only [Nat.add_mul, Nat.mul_add, Nat.mul_left_comm r 2 x, Nat.mul_one] at h h3 ⊢
  omega
theorem pcs_two {n m : Nat} (hn : 2 ≤ n) (hm : 2 ≤ m) : 2 * pcs n m ≤ n + 1 := by
  have h := pcs_need (n := n) (by omega) (show 0 < m by omega)
  generalize pcs n m = q at h
  rcases q with _ | q
  · omega
  · have h3 := Nat.mul_le_mul_left q hm
    simp only [Nat.add_mul, Nat.one_mul] at h
    omega
theorem pcs_one {n m : Nat} (hn : 0 < n) (hm : 0 < m) (h : pcs n m = 1) : n ≤ m := by
  have := pcs_cover (n := n) hm
  rw [h] at this
  omega
theorem pcs_many {n m : Nat} (hn : 0 < n) (hm : 0 < m) (h : n ≤ m) : pcs n m = 1 := by
  have h1 := pcs_need hn hm
  have h2 := pcs_pos hn hm
  generalize pcs n m = q at h1 h2
  rcases q with _ | _ | q
  · omega
  · rfl
  · simp only [Nat.add_mul, Nat.one_mul] at h1
    omega

/-- A piece; all of them. -/
def pce {α : Type} (l : List α) (p i : Nat) : List α := (l.drop (ctA l.length p i)).take (ctA l.length p (i + 1) - ctA l.length p i)
def evn {α : Type} (l : List α) (most : Nat) : List (List α) := (List.range (pcs l.length most)).map (pce l (pcs l.length most))
theorem evn_len {α : Type} (l : List α) (most : Nat) : (evn l most).length = pcs l.length most := by simp [evn]
theorem pce_take {α : Type} (l : List α) (p : Nat) : ∀ j, ((List.range j).map (pce l p)).flatten = l.take (ctA l.length p j)
  | 0 => by simp [ctA_zero]
  | j + 1 => by
    rw [List.range_succ, List.map_append, List.flatten_append, pce_take l p j]
    have h := ctA_mono (n := l.length) (p := p) (show j ≤ j + 1 by omega)
    have e : ctA l.length p (j + 1) = ctA l.length p j + (ctA l.length p (j + 1) - ctA l.length p j) := by omega
    rw [e, List.take_add]
    simp [pce]
theorem evn_flat {α : Type} {l : List α} {most : Nat} (hn : 0 < l.length) (hm : 0 < most) : (evn l most).flatten = l := by
  unfold evn
  rw [pce_take, ctA_all (pcs_pos hn hm), List.take_length]
theorem pce_len {α : Type} {l : List α} {p i : Nat} (hp : 0 < p) (hi : i < p) : (pce l p i).length = ctA l.length p (i + 1) - ctA l.length p i := by
  have := ctA_le (n := l.length) hp (show i + 1 ≤ p by omega)
  unfold pce
  rw [List.length_take, List.length_drop]
  omega
/-- How long the pieces are. -/
theorem evn_size {α : Type} {l : List α} {most : Nat} (hn : 0 < l.length) (hm : 0 < most) : ∀ P ∈ evn l most, 1 ≤ P.length ∧ P.length ≤ most ∧ (2 ≤ (evn l most).length → (most + 1) / 2 ≤ P.length) ∧ ((evn l most).length = 1 → P.length = l.length) := by
  intro P hP
  rw [evn_len]
  obtain ⟨i, hi, rfl⟩ := List.mem_map.1 hP
  have hi' : i < pcs l.length most := List.mem_range.1 hi
  have hp := pcs_pos hn hm
  rw [pce_len hp hi']
  have h1 := ctA_most (i := i) hp (pcs_cover (n := l.length) hm)
  have h0 : pcs l.length most * 1 ≤ l.length := by
    rcases Nat.lt_or_ge (pcs l.length most) 2 with h | h
    · omega
    · have := pcs_half hn hm h
      have h2 : 1 ≤ (most + 1) / 2 := by omega
      exact Nat.le_trans (Nat.mul_le_mul_left _ h2) this
  have h2 := ctA_least (i := i) hp h0
  refine ⟨by omega, by omega, fun h => ?_, fun h => ?_⟩
  · have := ctA_least (i := i) hp (pcs_half hn hm h)
    omega
  · rw [h] at hi' ⊢
    obtain rfl : i = 0 := by omega
    rw [ctA_zero, ctA_all (by omega)]
    rfl

/-- The least key at or below a tree, and the tree. -/
abbrev Br (d : Nat) : Type := Ky × Tr d
def keyB {d : Nat} (P : List (Br d)) : Ky := (P.map (·.1)).headD []
def brUp {d : Nat} (n : Nat) (P : List (Br d)) : Br (d + 1) := (keyB P, mkN n (P.tail.map (·.1)) (P.map (·.2)))
def ndUp {d : Nat} (P : List (Br d)) : Nd := ⟨false, [], P.tail.map (·.1), P.map (fun c => (num d c.2 : Int)), 0⟩
/-- The level above: its nodes' numbers from s on. -/
def lvUp {d : Nat} : Nat → List (List (Br d)) → List (Br (d + 1))
  | _, [] => []
  | s, P :: Ps => brUp s P :: lvUp (s + 1) Ps
theorem lvUp_len {d : Nat} : ∀ (s : Nat) (Ps : List (List (Br d))), (lvUp s Ps).length = Ps.length
  | _, [] => rfl
  | s, P :: Ps => by simp [lvUp, lvUp_len (s + 1) Ps]
theorem lvUp_snoc {d : Nat} (P : List (Br d)) : ∀ (s : Nat) (Ps : List (List (Br d))), lvUp s (Ps ++ [P]) = lvUp s Ps ++ [brUp (s + Ps.length) P]
  | s, [] => rfl
  | s, R :: Ps => by
    rw [List.cons_append, lvUp, lvUp_snoc P (s + 1) Ps, lvUp, List.cons_append, List.length_cons, show s + 1 + Ps.length = s + (Ps.length + 1) by omega]

def KidsB (m d : Nat) (b : Bool) (lo hi : Ky) (lv : List (Br d)) : Prop := Kids (Ok m d b) hi lo (lv.tail.map (·.1)) (lv.map (·.2))

theorem kids_up {m d : Nat} {hi : Ky} {b : Bool} : ∀ {lo : Ky} (s : Nat) (Ps : List (List (Br d))), Ps ≠ [] → (∀ P ∈ Ps, 2 ≤ P.length ∧ P.length ≤ m + 1 ∧ (b = false → m / 2 + 1 ≤ P.length)) →
    KidsB m d false lo hi Ps.flatten → KidsB m (d + 1) b lo hi (lvUp s Ps)
  | lo, s, [], h, _, _ => absurd rfl h
  | lo, s, [P], _, hP, hk => by
    obtain ⟨h1, h2, h3⟩ := hP P (by simp)
    have e : [P].flatten = P := by simp
    rw [e] at hk
    refine ⟨_, rfl, hk.snd, ?_, ?_, fun hb => ?_, hk⟩
    · show 1 ≤ (P.tail.map (·.1)).length
      simp; omega
    · show (P.tail.map (·.1)).length ≤ m
      simp; omega
    · have := h3 hb
      show m / 2 ≤ (P.tail.map (·.1)).length
      simp; omega
  | lo, s, P :: P' :: Ps, _, hP, hk => by
    obtain ⟨h1, h2, h3⟩ := hP P (by simp)
    obtain ⟨g1, g2, g3⟩ := hP P' (by simp)
    obtain ⟨x, r, rfl⟩ : ∃ x r, P = x :: r := by
      cases P with
      | nil => simp at h1
      | cons x r => exact ⟨x, r, rfl⟩
    obtain ⟨y, q, rfl⟩ : ∃ y q, P' = y :: q := by
      cases P' with
      | nil => simp at g1
      | cons y q => exact ⟨y, q, rfl⟩
    have ek : ((x :: r) :: (y :: q) :: Ps).flatten.tail.map (·.1) = r.map (·.1) ++ y.1 :: ((q ++ Ps.flatten).map (·.1)) := by simp
    have et : ((x :: r) :: (y :: q) :: Ps).flatten.map (·.2) = (x.2 :: r.map (·.2)) ++ (((y :: q) :: Ps).flatten.map (·.2)) := by simp
    unfold KidsB at hk
    rw [ek, et] at hk
    obtain ⟨k1, k2, k3⟩ := kids_split hk
    rw [List.take_left' (by simp)] at k2
    rw [List.drop_left' (by simp)] at k3
    have ih := kids_up (lo := y.1) (s + 1) ((y :: q) :: Ps) (by simp) (fun P hP' => hP P (List.mem_cons_of_mem _ hP')) (by unfold KidsB; simpa using k3)
    refine ⟨_, _, rfl, k2.snd, k1, ⟨?_, ?_, fun hb => ?_, k2⟩, ih⟩
    · show 1 ≤ (r.map (·.1)).length
      simp at h1 ⊢; omega
    · show (r.map (·.1)).length ≤ m
      simp at h2 ⊢; omega
    · have := h3 hb
      show m / 2 ≤ (r.map (·.1)).length
      simp at this ⊢; omega

theorem up_holds {d : Nat} {L : List (Option Nd)} : ∀ (s : Nat) (Ps : List (List (Br d))), (∀ j P, Ps[j]? = some P → lat L (s + j) = some (ndUp P)) → (∀ c ∈ Ps.flatten, Holds L d c.2) → ∀ u ∈ lvUp s Ps, Holds L (d + 1) u.2
  | _, [], _, _, u, hu => by cases hu
  | s, P :: Ps, h1, h2, u, hu => by
    rcases List.mem_cons.1 hu with rfl | hu
    · refine ⟨?_, fun c hc => ?_⟩
      · have := h1 0 P rfl
        rw [Nat.add_zero] at this
        refine this.trans ?_
        show some (ndUp P) = some (Nd.mk false [] (P.tail.map (·.1)) ((P.map (·.2)).map (fun c => (num d c : Int))) 0)
        rw [List.map_map]
        rfl
      · have hc' : c ∈ P.map (·.2) := hc
        obtain ⟨x, hx, rfl⟩ := List.mem_map.1 hc'
        exact h2 x (by simp [hx])
    · exact up_holds (s + 1) Ps (fun j P hP => by
        have := h1 (j + 1) P (by simpa using hP)
        rwa [show s + (j + 1) = s + 1 + j by omega] at this) (fun c hc => h2 c (by
        rw [List.flatten_cons]
        exact List.mem_append_right _ hc)) u hu
theorem up_nums {d : Nat} : ∀ (s : Nat) (Ps : List (List (Br d))), ((lvUp s Ps).map fun c => nums (d + 1) c.2).flatten.Perm (List.range' s Ps.length ++ (Ps.flatten.map fun c => nums d c.2).flatten)
  | _, [] => by simp [lvUp]
  | s, P :: Ps => by
    have ih := up_nums (s + 1) Ps
    have e : nums (d + 1) (brUp s P).2 = s :: (P.map fun c => nums d c.2).flatten := by
      show s :: ((P.map (·.2)).map (nums d)).flatten = _
      rw [List.map_map]; rfl
    rw [lvUp, List.map_cons, List.flatten_cons, e, List.length_cons, List.range'_succ, List.flatten_cons, List.map_append, List.flatten_append, List.cons_append, List.cons_append]
    exact ((ih.append_left _).trans (List.perm_append_comm_assoc _ _ _)).cons s
theorem up_lvs {d : Nat} : ∀ (s : Nat) (Ps : List (List (Br d))), ((lvUp s Ps).map fun c => lvs (d + 1) c.2).flatten = (Ps.flatten.map fun c => lvs d c.2).flatten
  | _, [] => rfl
  | s, P :: Ps => by
    have e : lvs (d + 1) (brUp s P).2 = (P.map fun c => lvs d c.2).flatten := by
      show ((P.map (·.2)).map (lvs d)).flatten = _
      rw [List.map_map]; rfl
    rw [lvUp, List.map_cons, List.flatten_cons, e, up_lvs (s + 1) Ps, List.flatten_cons, List.map_append, List.flatten_append]
theorem up_flat {d : Nat} : ∀ (s : Nat) (Ps : List (List (Br d))), ((lvUp s Ps).map fun c => flat (d + 1) c.2).flatten = (Ps.flatten.map fun c => flat d c.2).flatten
  | _, [] => rfl
  | s, P :: Ps => by
    have e : flat (d + 1) (brUp s P).2 = (P.map fun c => flat d c.2).flatten := by
      show ((P.map (·.2)).map (flat d)).flatten = _
      rw [List.map_map]; rfl
    rw [lvUp, List.map_cons, List.flatten_cons, e, up_flat (s + 1) Ps, List.flatten_cons, List.map_append, List.flatten_append]

/-- A level, and what an arena holds of it: all of the arena's nodes are at or below it. -/
structure Lv (L : List (Option Nd)) (m d : Nat) (lv : List (Br d)) (Q : List Pr) : Prop where
  holds : ∀ c ∈ lv, Holds L d c.2
  kids : KidsB m d (decide (lv.length = 1)) [] [] lv
  nodup : ((lv.map fun c => nums d c.2).flatten).Nodup
  all : ((lv.map fun c => nums d c.2).flatten).length = L.length
  room : L.length + lv.length ≤ 2 * Q.length
  chn : ∃ s, Chn s ((lv.map fun c => lvs d c.2).flatten) (-1)
  prs : (lv.map fun c => flat d c.2).flatten = Q
  ne : 0 < lv.length

theorem free_nil (L : List (Option Nd)) : FreeOk L [] := ⟨List.nodup_nil, fun i hi => by cases hi⟩

theorem evn_two {α : Type} {l : List α} {m : Nat} (h3 : 3 ≤ m) (hn : 2 ≤ l.length) : (evn l (m + 1)) ≠ [] ∧ (∀ P ∈ evn l (m + 1), 2 ≤ P.length ∧ P.length ≤ m + 1 ∧ (decide ((evn l (m + 1)).length = 1) = false → m / 2 + 1 ≤ P.length)) ∧ 2 * (evn l (m + 1)).length ≤ l.length := by
  have hp := pcs_pos (n := l.length) (m := m + 1) (by omega) (by omega)
  have hl := evn_len l (m + 1)
  have hs := evn_size (l := l) (most := m + 1) (by omega) (by omega)
  refine ⟨fun e => ?_, fun P hP => ?_, ?_⟩
  · rw [e] at hl; simp at hl; omega
  · obtain ⟨h1, h2, h4, h5⟩ := hs P hP
    rcases Nat.lt_or_ge (evn l (m + 1)).length 2 with h | h
    · have h6 := h5 (by omega)
      refine ⟨by omega, h2, fun hd => ?_⟩
      simp at hd
      omega
    · have := h4 h
      refine ⟨by omega, h2, fun _ => by omega⟩
  · rw [hl]
    rcases Nat.lt_or_ge (pcs l.length (m + 1)) 2 with h | h
    · omega
    · have := pcs_half (n := l.length) (m := m + 1) (by omega) (by omega) h
      have h2 : 2 ≤ (m + 1 + 1) / 2 := by omega
      have := Nat.mul_le_mul_left (pcs l.length (m + 1)) h2
      omega

theorem Lv.up {L : List (Option Nd)} {m d : Nat} {lv : List (Br d)} {Q : List Pr} (h : Lv L m d lv Q) (h3 : 3 ≤ m) (h2 : 2 ≤ lv.length) :
    Lv (L ++ (evn lv (m + 1)).map fun P => some (ndUp P)) m (d + 1) (lvUp L.length (evn lv (m + 1))) Q := by
  obtain ⟨e1, e2, e3⟩ := evn_two h3 h2
  have ef : (evn lv (m + 1)).flatten = lv := evn_flat (by omega) (by omega)
  have hk := h.kids
  rw [show decide (lv.length = 1) = false by simp; omega] at hk
  have hold : ∀ c ∈ lv, Holds (L ++ (evn lv (m + 1)).map fun P => some (ndUp P)) d c.2 := fun c hc => holds_keep (h.holds c hc) fun i hi => by
    have := (h.holds c hc).lt i hi
    unfold lat
    simp only [List.getD_eq_getElem?_getD]
    rw [List.getElem?_append_left this]
  have hnum := up_nums L.length (evn lv (m + 1))
  rw [ef] at hnum
  have hlt : ∀ i ∈ (lv.map fun c => nums d c.2).flatten, i < L.length := fun i hi => by
    obtain ⟨_, hx, hi⟩ := List.mem_flatten.1 hi
    obtain ⟨c, hc, rfl⟩ := List.mem_map.1 hx
    exact (h.holds c hc).lt i hi
  refine ⟨up_holds _ _ (fun j P hP => ?_) (by rw [ef]; exact hold), ?_, ?_, ?_, ?_, ?_, ?_, ?_⟩
  · unfold lat
    simp only [List.getD_eq_getElem?_getD]
    rw [List.getElem?_append_right (by omega), show L.length + j - L.length = j by omega, List.getElem?_map, hP]
    rfl
  · rw [lvUp_len]
    exact kids_up _ _ e1 e2 (by rw [ef]; exact hk)
  · rw [hnum.nodup_iff]
    refine List.nodup_append.2 ⟨List.nodup_range' , h.nodup, fun a ha b hb e => ?_⟩
    have h1 := hlt b hb
    have h2 := (List.mem_range'_1.1 ha).1
    omega
  · rw [hnum.length_eq, List.length_append, h.all]
    simp
    omega
  · have := h.room
    rw [lvUp_len]
    simp
    omega
  · rw [up_lvs, ef]
    exact h.chn
  · rw [up_flat, ef]
    exact h.prs
  · rw [lvUp_len]
    exact List.length_pos_iff.2 e1

/-- One tree at the top. -/
theorem Lv.top {L : List (Option Nd)} {m d : Nat} {c : Br d} {Q : List Pr} (h : Lv L m d [c] Q) (h3 : 3 ≤ m) (h16 : m ≤ 16) (hQ : Q.length ≤ 1000) : GoodT L [] m (num d c.2) d c.2 ∧ flat d c.2 = Q := by
  have hf : flat d c.2 = Q := by have := h.prs; simpa using this
  obtain ⟨t, e, _, hok⟩ := h.kids
  have e' : t = c.2 := by simp at e; exact e.symm
  subst e'
  have hnd := h.nodup
  have hall := h.all
  have hch := h.chn
  simp at hnd hall hch
  have hr := h.room
  exact ⟨⟨rfl, h.holds c (by simp), hok, hnd, by simpa using hall, free_nil L, by omega, hch, h3, h16⟩, hf⟩

/-- Leaves in a row: each one's number is how many stand behind it. -/
def lvLf : List (List Pr) → List (Br 0)
  | [] => []
  | P :: Ps => ((gt P 0).1, mkL Ps.length P ((Ps.length : Int) - 1)) :: lvLf Ps
def lfN (i : Nat) (P : List Pr) : Nd := ⟨true, P, [], [], (i : Int) - 1⟩
/-- What an arena has where leaves were made, the first one at a number that was free. -/
def lfA (pre : List (List Pr)) : List (Option Nd) := if pre = [] then [none] else pre.mapIdx fun i P => some (lfN i P)
def lfF (pre : List (List Pr)) : List Nat := if pre = [] then [0] else []
theorem lfA_snoc (pre : List (List Pr)) (P : List Pr) : lfA (pre ++ [P]) = mkA (lfA pre) (lfF pre) (lfN pre.length P) ∧ lfF (pre ++ [P]) = (lfF pre).dropLast ∧ nxt (lfA pre).length (lfF pre) = pre.length := by
  unfold lfA lfF mkA nxt
  by_cases h : pre = []
  · subst h
    simp
  · simp [h, List.mapIdx_append]
theorem lfA_free (pre : List (List Pr)) : FreeOk (lfA pre) (lfF pre) := by
  unfold lfA lfF
  by_cases h : pre = []
  · subst h
    simp [FreeOk, lat]
  · simp only [h, if_false]
    exact free_nil _
theorem lfA_len (pre : List (List Pr)) : (lfA pre).length ≤ pre.length + 1 := by
  unfold lfA
  split
  · simp
  · simp
theorem lvLf_len : ∀ Ps, (lvLf Ps).length = Ps.length
  | [] => rfl
  | P :: Ps => by simp [lvLf, lvLf_len Ps]
theorem lf_holds : ∀ (pre Ps : List (List Pr)), ∀ c ∈ lvLf Ps, Holds (lfA (pre ++ Ps).reverse) 0 c.2
  | _, [], c, hc => by cases hc
  | pre, P :: Ps, c, hc => by
    rcases List.mem_cons.1 hc with rfl | hc
    · show lat _ Ps.length = some (lfN Ps.length P)
      unfold lfA
      rw [if_neg (by simp)]
      unfold lat
      simp only [List.getD_eq_getElem?_getD]
      rw [List.getElem?_mapIdx, show (pre ++ P :: Ps).reverse = Ps.reverse ++ P :: pre.reverse by simp, List.getElem?_append_right (by simp)]
      simp
    · have := lf_holds (pre ++ [P]) Ps c hc
      simpa using this
theorem lf_nums : ∀ Ps, ((lvLf Ps).map fun c => nums 0 c.2).flatten.Nodup ∧ (∀ i ∈ ((lvLf Ps).map fun c => nums 0 c.2).flatten, i < Ps.length) ∧ ((lvLf Ps).map fun c => nums 0 c.2).flatten.length = Ps.length
  | [] => by simp [lvLf]
  | P :: Ps => by
    obtain ⟨h1, h2, h3⟩ := lf_nums Ps
    have e : ((lvLf (P :: Ps)).map fun c => nums 0 c.2).flatten = Ps.length :: ((lvLf Ps).map fun c => nums 0 c.2).flatten := rfl
    rw [e]
    refine ⟨List.nodup_cons.2 ⟨fun h => by have := h2 _ h; omega, h1⟩, fun i hi => ?_, by simp [h3]⟩
    rcases List.mem_cons.1 hi with rfl | hi
    · simp
    · have := h2 i hi
      simp; omega
theorem lf_chn : ∀ Ps, Chn ((Ps.length : Int) - 1) ((lvLf Ps).map fun c => lvs 0 c.2).flatten (-1)
  | [] => rfl
  | P :: Ps => by
    have e : ((lvLf (P :: Ps)).map fun c => lvs 0 c.2).flatten = (Ps.length, (Ps.length : Int) - 1) :: ((lvLf Ps).map fun c => lvs 0 c.2).flatten := rfl
    rw [e]
    exact ⟨by simp, lf_chn Ps⟩
theorem lf_flat : ∀ Ps, ((lvLf Ps).map fun c => flat 0 c.2).flatten = Ps.flatten
  | [] => rfl
  | P :: Ps => by
    show P ++ ((lvLf Ps).map fun c => flat 0 c.2).flatten = _
    rw [lf_flat Ps]
    simp
theorem kids_lf {m : Nat} {b : Bool} : ∀ {lo : Ky} (Ps : List (List Pr)), Ps ≠ [] → (∀ P ∈ Ps, 1 ≤ P.length ∧ P.length ≤ m ∧ (b = false → m / 2 ≤ P.length)) → Fit Ps.flatten → (∀ p ∈ Ps.flatten, ltB p.1 lo = false) → lo.length ≤ 16 → KidsB m 0 b lo [] (lvLf Ps)
  | lo, [], h, _, _, _, _ => absurd rfl h
  | lo, [P], _, hP, hf, hl, h16 => by
    obtain ⟨h1, h2, h3⟩ := hP P (by simp)
    have e : [P].flatten = P := by simp
    rw [e] at hf hl
    exact ⟨_, rfl, ⟨h16, by simp, .inl rfl⟩, hf, h2, h3, fun p hp => ⟨hl p hp, .inl rfl⟩⟩
  | lo, P :: P' :: Ps, _, hP, hf, hl, h16 => by
    obtain ⟨h1, h2, h3⟩ := hP P (by simp)
    obtain ⟨g1, g2, g3⟩ := hP P' (by simp)
    obtain ⟨x, r, rfl⟩ : ∃ x r, P = x :: r := by
      cases P with
      | nil => simp at h1
      | cons x r => exact ⟨x, r, rfl⟩
    obtain ⟨y, q, rfl⟩ : ∃ y q, P' = y :: q := by
      cases P' with
      | nil => simp at g1
      | cons y q => exact ⟨y, q, rfl⟩
    have ef : ((x :: r) :: (y :: q) :: Ps).flatten = (x :: r) ++ ((y :: q) :: Ps).flatten := by simp
    rw [ef] at hf hl
    obtain ⟨f1, f2, f3⟩ := srt_append.1 hf.1
    have hy : y ∈ ((y :: q) :: Ps).flatten := by simp
    have hyf := hf.2 y (List.mem_append_right _ hy)
    unfold fairB mayB at hyf
    simp at hyf
    have hxy := f3 x (by simp) y hy
    have hlx := hl x (by simp)
    have hly : ltB lo y.1 = true := ltB_le_trans hlx hxy
    have hne : y.1 ≠ [] := fun e => by rw [e] at hyf; simp at hyf
    have hrest : ∀ p ∈ ((y :: q) :: Ps).flatten, ltB p.1 y.1 = false := fun p hp => by
      have e2 : ((y :: q) :: Ps).flatten = y :: (q ++ Ps.flatten) := by simp
      rw [e2] at hp f2
      rcases List.mem_cons.1 hp with rfl | hp
      · exact ltB_irrefl _
      · exact ltB_asymm ((List.pairwise_cons.1 f2).1 p hp)
    refine ⟨_, _, rfl, ⟨h16, by show y.1.length ≤ 16; omega, .inr hly⟩, hne, ⟨⟨f1, fun p hp => hf.2 p (List.mem_append_left _ hp)⟩, h2, h3, fun p hp => ⟨hl p (List.mem_append_left _ hp), .inr (f3 p hp y hy)⟩⟩, ?_⟩
    exact kids_lf (lo := y.1) ((y :: q) :: Ps) (by simp) (fun P hP' => hP P (List.mem_cons_of_mem _ hP')) ⟨f2, fun p hp => hf.2 p (List.mem_append_right _ hp)⟩ hrest (by omega)

theorem lv_leaves {m : Nat} {l : List Pr} (h3 : 3 ≤ m) (hl : 0 < l.length) (hf : Fit l) : Lv (lfA (evn l m).reverse) m 0 (lvLf (evn l m)) l := by
  have hp := pcs_pos (n := l.length) (m := m) hl (by omega)
  have hlen := evn_len l m
  have hs := evn_size (l := l) (most := m) hl (by omega)
  have ef : (evn l m).flatten = l := evn_flat hl (by omega)
  have hne : evn l m ≠ [] := fun e => by rw [e] at hlen; simp at hlen; omega
  obtain ⟨n1, n2, n3⟩ := lf_nums (evn l m)
  have hL : (lfA (evn l m).reverse).length = (evn l m).length := by
    unfold lfA
    rw [if_neg (by simpa using hne)]
    simp
  refine ⟨fun c hc => ?_, ?_, n1, by rw [n3, hL], ?_, ⟨_, lf_chn _⟩, by rw [lf_flat, ef], by rw [lvLf_len]; exact List.length_pos_iff.2 hne⟩
  · have := lf_holds [] (evn l m) c hc
    simpa using this
  · rw [lvLf_len]
    refine kids_lf _ hne (fun P hP => ?_) (by rw [ef]; exact hf) (fun p _ => ltB_nil p.1) (by simp)
    obtain ⟨h1, h2, h4, h5⟩ := hs P hP
    refine ⟨h1, h2, fun hd => ?_⟩
    simp at hd
    have := h4 (by omega)
    omega
  · rw [hL, lvLf_len, hlen]
    have : pcs l.length m * 1 ≤ l.length := by
      rcases Nat.lt_or_ge (pcs l.length m) 2 with h | h
      · omega
      · have := pcs_half hl (show 0 < m by omega) h
        have h2 : 1 ≤ (m + 1) / 2 := by omega
        exact Nat.le_trans (Nat.mul_le_mul_left _ h2) this
    omega
end Go.Proofs.Ytdkppgmhhijkgaa

namespace Go.Proofs.Ytdkppgmhhijkgaa
open Go.RowKit
set_option linter.unusedVariables false
set_option maxRecDepth 100000

/-- Where the pieces of a slice lie. -/
def evV (b o n c p i : Nat) : Value := .slice (some ⟨b, o + ctA n p i * 2, none⟩) (ctA n p (i + 1) - ctA n p i) (c - ctA n p i)
def evR (b o n c p j : Nat) : List Value := (List.range j).map (evV b o n c p) ++ List.replicate (p - j) (.slice none 0 0)
theorem evR_len (b o n c p : Nat) {j : Nat} (h : j ≤ p) : (evR b o n c p j).length = p := by simp [evR]; omega
theorem evR_set (b o n c p : Nat) {j : Nat} (h : j < p) : (evR b o n c p j).set j (evV b o n c p j) = evR b o n c p (j + 1) := by
  unfold evR
  rw [List.set_append_right _ _ (by simp), show p - j = (p - (j + 1)) + 1 by omega, List.replicate_succ, List.range_succ]
  simp
def EvenO (w : World) (E : TypeId) (b o n c p : Nat) (e : Ending) (w' : World) : Prop :=
  ∃ g, e = .returned (.slice (some ⟨g, 0, none⟩) p p) ∧ w'.ownsRow w.heap.size E 1 (.slice (some ⟨g, 0, none⟩) p p) p ((List.range p).map (evV b o n c p)) ∧ Below w.heap.size w w'

theorem Try.infoPairs : (Try.prog.info? 22).map (fun i => (i.zero, i.size, i.bytes)) = some (some (.slice none 0 0), 1, 24) := by kernel_rfl

theorem mul_small {x : Nat} (h : x ≤ 4000000) : wrap64 (x : Int) = (x : Int) ∧ IntKind.i64.wrap (x : Int) = (x : Int) := ⟨IntWalk.wrap64_in _ (by omega), IntWalk.i64_in _ (by omega)⟩
theorem mul_in {n j : Nat} (hn : n ≤ 2000) (hj : j < 2000) : wrap64 ((n : Int) * (j : Int)) = ((n * j : Nat) : Int) ∧ IntKind.i64.wrap ((n : Int) * (j : Int)) = ((n * j : Nat) : Int) ∧
    wrap64 ((n : Int) * ((j : Int) + 1)) = ((n * (j + 1) : Nat) : Int) ∧ IntKind.i64.wrap ((n : Int) * ((j : Int) + 1)) = ((n * (j + 1) : Nat) : Int) := by
  have e : (2000 * 2000 : Nat) = 4000000 := rfl
  have h1 : n * j ≤ 4000000 := by rw [← e]; exact Nat.mul_le_mul hn (by omega)
  have h2 : n * (j + 1) ≤ 4000000 := by rw [← e]; exact Nat.mul_le_mul hn (by omega)
  rw [show ((n : Int) * ((j : Int) + 1)) = ((n * (j + 1) : Nat) : Int) by push_cast; rfl, ← Int.natCast_mul]
  exact ⟨(mul_small h1).1, (mul_small h1).2, (mul_small h2).1, (mul_small h2).2⟩

set_option maxHeartbeats 4000000 in
theorem evenp_any {w : World} {b o n c m : Nat} (hn : 0 < n) (hn2 : n ≤ 2000) (hm : 1 ≤ m) (hm2 : m ≤ 100) (hnc : n ≤ c) (hc : c ≤ maxLen) :
    Calls Try.prog 67 #[.slice (some ⟨b, o, none⟩) n c, .int .i64 m] w (EvenO w 22 b o n c (pcs n m)) := by
  have hp := pcs_pos hn hm
  have hp1 : pcs n m ≤ n := by
    rcases Nat.lt_or_ge n 2 with h | h
    · have := pcs_many hn hm (by omega); omega
    · rcases Nat.lt_or_ge m 2 with h' | h'
      · have : m = 1 := by omega
        subst this
        unfold pcs
        rw [Nat.div_one]
        omega
      · have := pcs_two h h'; omega
  have hq : ((n : Int) + (m : Int) - 1) / (m : Int) = ((pcs n m : Nat) : Int) := by
    unfold pcs
    rw [Int.natCast_ediv]
    congr 1
    omega
  obtain ⟨p, hpe⟩ : ∃ p, p = pcs n m := ⟨_, rfl⟩
  rw [← hpe] at hp hp1 hq ⊢
  clear hpe
  unfold maxLen at hc
  have hmk := run_make_row' (P := Try.prog) 114 22 (.slice none 0 0) 24 Try.underlying114 Try.infoPairs rfl .i64 .i64 p (by omega) (by omega)
  have HO := Lib.hid (World.ownsRow_lit (base := w.heap.size) (e := 22) (size := 1) w (madeCells #[.slice none 0 0] p) p (Nat.le_refl _) (by unfold maxLen; omega) (by simp [size_madeCells]))
  have HB := Lib.hid ((Below.refl w.heap.size w).alloc (Nat.le_refl _) (.cells (madeCells #[.slice none 0 0] p) 22))
  rw [show (madeCells #[.slice none 0 0] p).toList = evR b o n c p 0 by rw [toList_madeCells_one]; simp [evR]] at HO
  go_enter Try.func67, Try.ntmps67
  go_wp2
  generalize hW : w.alloc (.cells (madeCells #[.slice none 0 0] p) 22) = W at HO HB
  have hWs : W.heap.size = w.heap.size + 1 := by rw [← hW]; simp
  clear hW hmk
  go_loopw [17] (fun i wr => ∃ j : Nat, j ≤ p ∧ i = .int .i64 j ∧ wr.ownsRow w.heap.size 22 1 (.slice (some ⟨w.heap.size, 0, none⟩) p p) p (evR b o n c p j) ∧ Below w.heap.size w wr) (fun i _ => p - (intOf i).toNat)
  case atStart => exact ⟨0, Nat.zero_le _, rfl, HO.out, HB.out⟩
  case round =>
    obtain ⟨j, hj, rfl, hown, hb⟩ := hrel
    by_cases hlt : j < p
    · have hat : wr.cell? ⟨w.heap.size, j, none⟩ = some (.slice none 0 0) := by
        rw [hown.cellAt j (by omega)]
        unfold evR
        rw [List.getElem?_append_right (by simp), List.getElem?_replicate]
        simp
        omega
      have hfz := hown.frozenAt j
      have hst := (hown.stored j (evV b o n c p j)).1
      rw [evR_set b o n c p hlt] at hst
      have hbs := hb.setCell (p := ⟨w.heap.size, j, none⟩) (Nat.le_refl _) (evV b o n c p j)
      have h1 := ctA_least (n := n) (p := p) (q := 1) (i := j) hp (by omega)
      have h2 := ctA_le (n := n) hp (show j + 1 ≤ p by omega)
      obtain ⟨x, hx⟩ : ∃ x, x = ctA n p j := ⟨_, rfl⟩
      obtain ⟨y, hy⟩ : ∃ y, y = ctA n p (j + 1) := ⟨_, rfl⟩
      obtain ⟨X, hX⟩ : ∃ X, X = n * j := ⟨_, rfl⟩
      obtain ⟨Y, hY⟩ : ∃ Y, Y = n * (j + 1) := ⟨_, rfl⟩
      obtain ⟨m1, m1', m2, m2'⟩ := mul_in (n := n) (j := j) hn2 (by omega)
      rw [← hX] at m1 m1'
      rw [← hY] at m2 m2'
      have d1 : (X : Int) / (p : Int) = (x : Int) := by rw [hx, hX]; unfold ctA; rw [Int.natCast_ediv]
      have d2 : (Y : Int) / (p : Int) = (y : Int) := by rw [hy, hY]; unfold ctA; rw [Int.natCast_ediv]
      have hev : evV b o n c p j = .slice (some ⟨b, o + x * 2, none⟩) (y - x) (c - x) := by rw [hx, hy]; rfl
      rw [hev] at hst hbs
      rw [← hx, ← hy] at h1
      rw [← hy] at h2
      have HST := Lib.hid (And.intro hst hbs)
      have hyc : y ≤ c := by omega
      have hxy : x ≤ y := by omega
      have hxc : ¬ (c = x) := by omega
      clear hst hbs hown hb hev hx hy hX hY HO HB
      go_wp2
      go_big_region
      all_goals
        go_wp2
        go_roundw
        case rel => exact ⟨j + 1, by omega, by go_num, HST.out.1, HST.out.2.drew⟩
        case measure => simp [intOf]; omega
    · obtain rfl : j = p := by omega
      have he : evR b o n c j j = (List.range j).map (evV b o n c j) := by simp [evR]
      rw [he] at hown
      have HST := Lib.hid (And.intro hown hb)
      clear hown hb he HO HB
      go_wp2
      go_ret
      exact ⟨_, rfl, HST.out.1, HST.out.2⟩
theorem Try.infoBrs : (Try.prog.info? 91).map (fun i => (i.zero, i.size, i.bytes)) = some (some (.slice none 0 0), 1, 24) := by kernel_rfl

set_option maxHeartbeats 4000000 in
theorem evenb_any {w : World} {b o n c m : Nat} (hn : 0 < n) (hn2 : n ≤ 2000) (hm : 1 ≤ m) (hm2 : m ≤ 100) (hnc : n ≤ c) (hc : c ≤ maxLen) :
    Calls Try.prog 69 #[.slice (some ⟨b, o, none⟩) n c, .int .i64 m] w (EvenO w 91 b o n c (pcs n m)) := by
  have hp := pcs_pos hn hm
  have hp1 : pcs n m ≤ n := by
    rcases Nat.lt_or_ge n 2 with h | h
    · have := pcs_many hn hm (by omega); omega
    · rcases Nat.lt_or_ge m 2 with h' | h'
      · have : m = 1 := by omega
        subst this
        unfold pcs
        rw [Nat.div_one]
        omega
      · have := pcs_two h h'; omega
  have hq : ((n : Int) + (m : Int) - 1) / (m : Int) = ((pcs n m : Nat) : Int) := by
    unfold pcs
    rw [Int.natCast_ediv]
    congr 1
    omega
  obtain ⟨p, hpe⟩ : ∃ p, p = pcs n m := ⟨_, rfl⟩
  rw [← hpe] at hp hp1 hq ⊢
  clear hpe
  unfold maxLen at hc
  have hmk := run_make_row' (P := Try.prog) 120 91 (.slice none 0 0) 24 Try.underlying120 Try.infoBrs rfl .i64 .i64 p (by omega) (by omega)
  have HO := Lib.hid (World.ownsRow_lit (base := w.heap.size) (e := 91) (size := 1) w (madeCells #[.slice none 0 0] p) p (Nat.le_refl _) (by unfold maxLen; omega) (by simp [size_madeCells]))
  have HB := Lib.hid ((Below.refl w.heap.size w).alloc (Nat.le_refl _) (.cells (madeCells #[.slice none 0 0] p) 91))
  rw [show (madeCells #[.slice none 0 0] p).toList = evR b o n c p 0 by rw [toList_madeCells_one]; simp [evR]] at HO
  go_enter Try.func69, Try.ntmps69
  go_wp2
  generalize hW : w.alloc (.cells (madeCells #[.slice none 0 0] p) 91) = W at HO HB
  have hWs : W.heap.size = w.heap.size + 1 := by rw [← hW]; simp
  clear hW hmk
  go_loopw [17] (fun i wr => ∃ j : Nat, j ≤ p ∧ i = .int .i64 j ∧ wr.ownsRow w.heap.size 91 1 (.slice (some ⟨w.heap.size, 0, none⟩) p p) p (evR b o n c p j) ∧ Below w.heap.size w wr) (fun i _ => p - (intOf i).toNat)
  case atStart => exact ⟨0, Nat.zero_le _, rfl, HO.out, HB.out⟩
  case round =>
    obtain ⟨j, hj, rfl, hown, hb⟩ := hrel
    by_cases hlt : j < p
    · have hat : wr.cell? ⟨w.heap.size, j, none⟩ = some (.slice none 0 0) := by
        rw [hown.cellAt j (by omega)]
        unfold evR
        rw [List.getElem?_append_right (by simp), List.getElem?_replicate]
        simp
        omega
      have hfz := hown.frozenAt j
      have hst := (hown.stored j (evV b o n c p j)).1
      rw [evR_set b o n c p hlt] at hst
      have hbs := hb.setCell (p := ⟨w.heap.size, j, none⟩) (Nat.le_refl _) (evV b o n c p j)
      have h1 := ctA_least (n := n) (p := p) (q := 1) (i := j) hp (by omega)
      have h2 := ctA_le (n := n) hp (show j + 1 ≤ p by omega)
      obtain ⟨x, hx⟩ : ∃ x, x = ctA n p j := ⟨_, rfl⟩
      obtain ⟨y, hy⟩ : ∃ y, y = ctA n p (j + 1) := ⟨_, rfl⟩
      obtain ⟨X, hX⟩ : ∃ X, X = n * j := ⟨_, rfl⟩
      obtain ⟨Y, hY⟩ : ∃ Y, Y = n * (j + 1) := ⟨_, rfl⟩
      obtain ⟨m1, m1', m2, m2'⟩ := mul_in (n := n) (j := j) hn2 (by omega)
      rw [← hX] at m1 m1'
      rw [← hY] at m2 m2'
      have d1 : (X : Int) / (p : Int) = (x : Int) := by rw [hx, hX]; unfold ctA; rw [Int.natCast_ediv]
      have d2 : (Y : Int) / (p : Int) = (y : Int) := by rw [hy, hY]; unfold ctA; rw [Int.natCast_ediv]
      have hev : evV b o n c p j = .slice (some ⟨b, o + x * 2, none⟩) (y - x) (c - x) := by rw [hx, hy]; rfl
      rw [hev] at hst hbs
      rw [← hx, ← hy] at h1
      rw [← hy] at h2
      have HST := Lib.hid (And.intro hst hbs)
      have hyc : y ≤ c := by omega
      have hxy : x ≤ y := by omega
      have hxc : ¬ (c = x) := by omega
      clear hst hbs hown hb hev hx hy hX hY HO HB
      go_wp2
      go_big_region
      all_goals
        go_wp2
        go_roundw
        case rel => exact ⟨j + 1, by omega, by go_num, HST.out.1, HST.out.2.drew⟩
        case measure => simp [intOf]; omega
    · obtain rfl : j = p := by omega
      have he : evR b o n c j j = (List.range j).map (evV b o n c j) := by simp [evR]
      rw [he] at hown
      have HST := Lib.hid (And.intro hown hb)
      clear hown hb he HO HB
      go_wp2
      go_ret
      exact ⟨_, rfl, HST.out.1, HST.out.2⟩
end Go.Proofs.Ytdkppgmhhijkgaa

namespace Go.Proofs.Ytdkppgmhhijkgaa
open Go.RowKit
set_option linter.unusedVariables false
set_option maxRecDepth 100000

/-- A block that holds cells. -/
def CellsB (w : World) (b : Nat) : Prop := ∃ o : Obj, w.heap[b]? = some o ∧ o.isCells = true
theorem cellsB_of {w : World} {p : Addr} {v : Value} (h : w.cell? p = some v) : CellsB w p.block := by
  unfold World.cell? at h
  cases hh : w.heap[p.block]? with
  | none => rw [hh] at h; cases h
  | some o =>
    rw [hh] at h
    cases o with
    | cells c e m => exact ⟨.cells c e m, hh, rfl⟩
    | _ => cases h
theorem cellsB_lt {w : World} {b : Nat} (h : CellsB w b) : b < w.heap.size := by
  obtain ⟨o, h, -⟩ := h
  exact (Array.getElem?_eq_some_iff.1 h).1

/-- All that can be read here can be read there. -/
def Sub (a b : World) : Prop := a.heap.size ≤ b.heap.size ∧ ∀ p v, a.cell? p = some v → b.cell? p = some v
theorem Byt.sub {a b : World} {A : Option Addr} {n : Nat} {l : List UInt8} (hs : Sub a b) (h : Byt a A n l) : Byt b A n l :=
  ⟨h.1, fun h0 => by
    obtain ⟨x, e, hb, hj⟩ := h.2 h0
    exact ⟨x, e, Nat.lt_of_lt_of_le hb hs.1, fun j hl => hs.2 _ _ (hj j hl)⟩⟩
theorem Prs.sub {a b : World} {A : Option Addr} {n c : Nat} {L : List Pr} (hs : Sub a b) (h : Prs a A n c L) : Prs b A n c L := by
  obtain ⟨h1, h2, h3, h4, h5⟩ := h
  refine ⟨h1, h2, h3, h4, fun h0 => ?_⟩
  obtain ⟨g, o, e, hb, hj⟩ := h5 h0
  refine ⟨g, o, e, Nat.lt_of_lt_of_le hb hs.1, fun j hl => ?_⟩
  obtain ⟨A1, n1, c1, B1, m1, d1, k1, k2, k3, k4⟩ := hj j hl
  exact ⟨A1, n1, c1, B1, m1, d1, hs.2 _ _ k1, hs.2 _ _ k2, k3.sub hs, k4.sub hs⟩
theorem NdR.sub {a b : World} {h : Nh} {x : Nd} (hs : Sub a b) (hr : NdR a h x) : NdR b h x := by
  obtain ⟨h1, ⟨k1, k2, k3, k4, k5⟩, ⟨i1, i2, i3, i4, i5⟩⟩ := hr
  refine ⟨h1.sub hs, ⟨k1, k2, k3, k4, fun h0 => ?_⟩, ⟨i1, i2, i3, i4, fun h0 => ?_⟩⟩
  · obtain ⟨g, o, e, hb, hj⟩ := k5 h0
    refine ⟨g, o, e, Nat.lt_of_lt_of_le hb hs.1, fun j hl => ?_⟩
    obtain ⟨B, m, d, e1, e2⟩ := hj j hl
    exact ⟨B, m, d, hs.2 _ _ e1, e2.sub hs⟩
  · obtain ⟨g, o, e, hb, hj⟩ := i5 h0
    exact ⟨g, o, e, Nat.lt_of_lt_of_le hb hs.1, fun j hl => hs.2 _ _ (hj j hl)⟩

open Classical in
theorem on_cells {C : Nat → Prop} {w : World} {P : World → Prop} (h : On C w P) (hP : ∀ a b, Sub a b → P a → P b) : On (fun b => C b ∧ CellsB w b) w P := fun w' ha => by
  have hsz := ha.1
  obtain ⟨H, hH⟩ : ∃ H : Array Obj, H.size = w'.heap.size ∧ ∀ i, H[i]? = if C i ∧ i < w.heap.size ∧ ¬ CellsB w i then w.heap[i]? else w'.heap[i]? := by
    refine ⟨Array.ofFn (n := w'.heap.size) fun i => if C i ∧ i < w.heap.size ∧ ¬ CellsB w i then (w.heap[i.1]?).getD w'.heap[i] else w'.heap[i], by simp, fun i => ?_⟩
    by_cases hi : i < w'.heap.size
    · rw [Array.getElem?_ofFn, dif_pos hi]
      by_cases hc : C i ∧ i < w.heap.size ∧ ¬ CellsB w i
      · rw [if_pos hc, if_pos hc, Array.getElem?_eq_getElem hc.2.1]
        rfl
      · rw [if_neg hc, if_neg hc, Array.getElem?_eq_getElem hi]
        rfl
    · rw [if_neg (fun hc => hi (by omega)), Array.getElem?_eq_none (by simp; omega), Array.getElem?_eq_none (by omega)]
  refine hP { w' with heap := H } w' ⟨by show H.size ≤ _; rw [hH.1]; exact Nat.le_refl _, fun p v hv => ?_⟩ (h _ ⟨by show _ ≤ H.size; rw [hH.1]; exact hsz, fun b hb hl => ?_⟩)
  · have he : ({ w' with heap := H } : World).heap[p.block]? = _ := hH.2 p.block
    by_cases hc : C p.block ∧ p.block < w.heap.size ∧ ¬ CellsB w p.block
    · rw [if_pos hc] at he
      rw [World.cell?_of_block he] at hv
      exact absurd (cellsB_of hv) hc.2.2
    · rw [if_neg hc] at he
      rwa [World.cell?_of_block he] at hv
  · show H[b]? = _
    rw [hH.2 b]
    by_cases hc : CellsB w b
    · rw [if_neg (fun h => h.2.2 hc)]
      exact ha.2 b ⟨hb, hc⟩ hl
    · rw [if_pos ⟨hb, hl, hc⟩]

theorem own_cells {w : World} {base e s n c : Nat} {A : Option Addr} {xs : List Value} (h : w.ownsRow base e s (.slice A n c) n xs) : ∀ a, A = some a → CellsB w a.block := fun a ha => by
  rcases h.2 with ⟨e1, _⟩ | ⟨g, cap, cur, e1, hb, hg, _⟩
  · rw [ha] at e1; cases e1
  · injection e1 with e1
    rw [ha] at e1
    injection e1 with e1
    subst e1
    exact ⟨_, hg, rfl⟩

/-- An arena's blocks may be named so that each holds cells. -/
theorem Ar.cells {w : World} {D : Nat → Prop} {g : Nat} {L : List (Option Nd)} {F : List Nat} (h : Ar w D g L F) : Ar w (fun b => D b ∧ CellsB w b) g L F := by
  obtain ⟨C, P, Q, pc, qc, xs, h1, h2, h3, h4, h5, h6⟩ := h
  refine ⟨fun b => C b ∧ CellsB w b, P, Q, pc, qc, xs, h1, h2, h3, fun i hi => ?_, h5, ⟨⟨h6.dg, _, h1, rfl⟩, fun hc => h6.cg hc.1, fun a e => ?_, fun a e => ?_, h6.pq, fun b hb => ⟨h6.cd b hb.1, hb.2⟩, fun b hb => h6.lt b hb.1⟩⟩
  · have := h4 i hi
    cases hl : lat L i with
    | none => rw [hl] at this; exact this
    | some x =>
      rw [hl] at this
      obtain ⟨hh, e0, e1, e2, e3, e4, e5, hs, e6⟩ := this
      exact ⟨hh, e0, e1, e2, e3, e4, e5, hs, on_cells e6 fun a b hs hr => hr.sub hs⟩
  · obtain ⟨p1, p2, p3⟩ := h6.p a e
    exact ⟨⟨p1, own_cells h2 a e⟩, fun hc => p2 hc.1, p3⟩
  · obtain ⟨p1, p2, p3⟩ := h6.q a e
    exact ⟨⟨p1, own_cells h3 a e⟩, fun hc => p2 hc.1, p3⟩
end Go.Proofs.Ytdkppgmhhijkgaa

namespace Go.Proofs.Ytdkppgmhhijkgaa
open Go.RowKit Go.Shelf
set_option linter.unusedVariables false
set_option maxRecDepth 100000
attribute [local go_sem] Oper.semAt_some

/-- The places from the last one down. -/
def dn (p k : Nat) : List (Fin p) := (List.finRange p).reverse.take k
theorem dn_zero (p : Nat) : dn p 0 = [] := rfl
theorem dn_succ {p k r : Nat} (h : r + 1 + k = p) : dn p (k + 1) = dn p k ++ [⟨r, by omega⟩] := by
  unfold dn
  rw [List.take_succ_eq_append_getElem (by simp; omega)]
  congr 2
  rw [List.getElem_reverse, List.getElem_finRange]
  apply Fin.ext
  simp
  omega
theorem dn_all (p : Nat) : dn p p = (List.finRange p).reverse := List.take_of_length_le (by simp)
theorem dn_len {p k : Nat} (h : k ≤ p) : (dn p k).length = k := by simp [dn]; omega

/-- A round keeps two blocks. -/
def KpB (x g : Nat) (A B : World) : Prop := Agree (fun b => b = x ∨ b = g) A B
theorem KpB.cell {x g : Nat} {A B : World} (h : KpB x g A B) {p : Addr} (hp : p.block = x ∨ p.block = g) {v : Value} (hv : A.cell? p = some v) : B.cell? p = some v :=
  (World.cell?_of_block (h.2 p.block hp (World.block_lt_of_cell? A _ hv))).trans hv

set_option maxHeartbeats 2000000 in
theorem back1_in (F : Fence) (n : Nat) (h8 : F.fn 79) (hro : F.round = none) (hn : 1 ≤ n) (l x g p cap : Nat) (A : Nat → Option Addr) (M C : Nat → Nat) (hp : p ≤ 2000) (J Jx : List (Fin p) → World → Prop)
    (hY : ∀ pre i W, J pre W → pre.length < p → YieldAt F (n - 1) Try.prog l #[.int .i64 (i.1 : Int), .slice (A i.1) (M i.1) (C i.1)] W fun e W' =>
      (e = .returned (.bool true) ∧ J (pre ++ [i]) W' ∧ KpB x g W W') ∨ (e = .returned (.bool false) ∧ Jx (pre ++ [i]) W'))
    (W : World) (hx : W.cell? ⟨x, 0, none⟩ = some (.slice (some ⟨g, 0, none⟩) p cap)) (hc : ∀ j, j < p → W.cell? ⟨g, j, none⟩ = some (.slice (A j) (M j) (C j))) (h0 : J [] W) :
    CallsIn F n Try.prog 79 #[.func (.yield l) #[] #[], .pointer (some ⟨x, 0, none⟩)] W fun e W' => (∃ v, e = .returned v) ∧
      ((∃ ys, ys = dn p p ∧ J ys W') ∨ (∃ pre, True ∧ Jx pre W')) := by
  refine callsIn_of_wp Try.func79 rfl h8 ?_ hro
  simp only [Try.ntmps79, List.size_toArray, List.length_cons, List.length_nil, Nat.reduceAdd, Nat.reduceSub, Array.replicate_succ, Array.replicate_zero, List.push_toArray, List.append_toArray, List.nil_append, List.cons_append]
  have HX := Lib.hid hx
  have HC := Lib.hid hc
  gi_wp2
  clear hx hc
  gi_loopw [3] (fun i wr => ∃ q k : Nat, q + k = p ∧ i = .int .i64 ((q : Int) - 1) ∧ J (dn p k) wr ∧ KpB x g W wr)
    (fun i _ => (intOf i + 1).toNat)
  case atStart => exact ⟨p, 0, by omega, rfl, h0, Agree.refl _ _⟩
  case round =>
    obtain ⟨q, k, hqk, hi, hJs, hk⟩ := hrel
    have hxr := hk.cell (p := ⟨x, 0, none⟩) (.inl rfl) HX.out
    rcases q with _ | r
    · obtain rfl : k = p := by omega
      have hi' := hi
      rw [show (((0 : Nat) : Int) - 1) = -1 by omega] at hi'
      subst hi'
      clear hi
      gi_wp2
      go_end0
      exact ⟨⟨_, rfl⟩, .inl ⟨_, rfl, hJs⟩⟩
    · have hi' := hi
      rw [show (((r + 1 : Nat) : Int) - 1) = (r : Int) by omega] at hi'
      subst hi'
      clear hi
      have hcr := hk.cell (p := ⟨g, r, none⟩) (.inr rfl) (HC.out r (by omega))
      obtain ⟨fn, tmps, assign, body, hy, hR⟩ := hY _ ⟨r, by omega⟩ wr hJs (by rw [dn_len (by omega)]; omega)
      dsimp only at hy
      rw [← dn_succ hqk] at hR
      have hrp : r < p := by omega
      have HK := Lib.hid hk
      have HQ := Lib.hid hqk
      clear hk hqk
      gi_wp2
      refine hR.mono ?_
      rintro e W3 (⟨rfl, hJ3, hk3⟩ | ⟨rfl, hJx3⟩)
      · have HK3 := Lib.hid (Agree.trans HK.out hk3)
        clear hk3
        gi_wp2
        go_roundw
        case rel => exact ⟨r, k + 1, by have := HQ.out; omega, by go_num, hJ3, HK3.out⟩
        case measure => simp [intOf]
      · gi_wp2
        refine bodyPost_ret (results_none rfl _ _ _) rfl ?_
        exact ⟨⟨_, rfl⟩, .inr ⟨_, trivial, hJx3⟩⟩

set_option maxHeartbeats 1000000 in
theorem back_in (F : Fence) (n : Nat) (h5 : F.fn 68) (hro : F.round = none) (a : Option Addr) (len cap : Nat) (w : World) :
    CallsIn F n Try.prog 68 #[.slice a len cap] w fun e w' => e = .returned (.func (.func 79) #[] #[.pointer (some ⟨w.heap.size, 0, none⟩)]) ∧ w' = w.alloc (.cells #[.slice a len cap] 114) := by
  refine callsIn_of_wp Try.func68 rfl h5 ?_ hro
  simp only [Try.ntmps68, List.size_toArray, List.length_cons, List.length_nil, Nat.reduceAdd, Nat.reduceSub, Array.replicate_succ, Array.replicate_zero, List.push_toArray, List.append_toArray, List.nil_append, List.cons_append]
  gi_wp2
  go_ret
  exact ⟨rfl, rfl⟩

theorem back_stops (F : Fence) (n : Nat) (h8 : F.fn 79) (hro : F.round = none) (hn : 1 ≤ n) (x g p cap : Nat) (A : Nat → Option Addr) (M C : Nat → Nat) (hp : p ≤ 2000) (w : World)
    (hx : w.cell? ⟨x, 0, none⟩ = some (.slice (some ⟨g, 0, none⟩) p cap)) (hc : ∀ j, j < p → w.cell? ⟨g, j, none⟩ = some (.slice (A j) (M j) (C j))) :
    SeqStopsK F n Try.prog 79 #[.pointer (some ⟨x, 0, none⟩)] (fun i : Fin p => #[Value.int .i64 (i.1 : Int), .slice (A i.1) (M i.1) (C i.1)]) (KpB x g) (fun ys => ys = dn p p) (fun _ => True) p w := fun l J Jx W hW _ _ hY h0 =>
  back1_in F n h8 hro hn l x g p cap A M C hp J Jx hY W ((hW.cell (p := ⟨x, 0, none⟩) (World.block_lt_of_cell? w _ hx)).trans hx) (fun j hj => (hW.cell (p := ⟨g, j, none⟩) (World.block_lt_of_cell? w _ (hc j hj))).trans (hc j hj)) h0
end Go.Proofs.Ytdkppgmhhijkgaa

namespace Go.Proofs.Ytdkppgmhhijkgaa
open Go.RowKit Go.Shelf
set_option linter.unusedVariables false
set_option maxRecDepth 100000

def noDefer (ops : Array Oper) : Bool := ops.all fun o => match o.op with | .defer _ => false | _ => true
theorem noDefer_spec {ops : Array Oper} (h : noDefer ops = true) {i : Nat} {o : Oper} (ho : ops[i]? = some o) : ∀ c, o.op ≠ .defer c := fun c e => by
  obtain ⟨hl, hi⟩ := Array.getElem?_eq_some_iff.1 ho
  have := Array.all_eq_true.1 h i hl
  rw [hi, e] at this
  cases this

theorem rowsIn_wide {n : Nat} {P : Program} {row : String} {args : Array Value} {w : World} {R : Value → World → Prop} (h : Rows P row args w R) : RowsIn Fence.wide n P row args w R := fun c cs _ => by
  obtain ⟨v, w', r, s⟩ := h c cs
  exact ⟨v, w', r, stepsIn_wide.2 s⟩

theorem oper_round {P : Program} {l n : Nat} {o : Oper} {a : Act} {w : World} {K : Act → World → Prop} {Q : Exit → Act → World → Prop} (hd : ∀ c, o.op ≠ .defer c) (h : o.wp P a w K Q) : o.wpIn (Fence.wide.inRound l) n P a w K Q := by
  refine ⟨fun _ _ => trivial, ?_⟩
  rw [show o.semAt (Fence.wide.inRound l).round a.eval = execOp a.eval o from Oper.semAt_eq _ _ _ hd]
  unfold Oper.wp at h
  generalize (execOp a.eval o).run P w = r at h
  cases r with
  | ok nx w' =>
    cases nx with
    | value v => exact h
    | skip => exact h
    | «defer» d => exact h
    | enter f args => exact ⟨(fun hh => by cases hh), callsIn_wide.2 h⟩
    | row row args => exact ⟨(fun hh => by cases hh), rowsIn_wide h⟩
    | _ => exact h.elim
  | halt q w' =>
    cases q with
    | panic v => exact h
    | _ => exact h.elim

theorem any_round {P : Program} {md : Region.Mode} {ops : Array Oper} {Q : Exit → Act → World → Prop} {l n : Nat} (hd : noDefer ops = true) (hL : ¬ LetsOut Q) : ∀ (fuel : Nat) (listed : Array Bool) (a : Act) (w : World), wpAny P md ops Q fuel listed a w → wpAnyIn (Fence.wide.inRound l) n P md ops Q fuel listed a w
  | 0, _, _, _, h => h
  | fuel + 1, listed, a, w, h => ⟨h.1, fun i hi => by
    have h2 := h.2 i hi
    unfold wpOp at h2
    unfold wpOpIn
    cases ho : ops[i]? with
    | none =>
      rw [ho] at h2
      exact any_round hd hL fuel _ a w h2
    | some o =>
      rw [ho] at h2
      simp only [] at h2 ⊢
      split at h2
      · rename_i hw
        rw [if_pos hw]
        rcases h2 with h2 | h2
        · exact oper_round (noDefer_spec hd ho) (Oper.wp_mono (fun a' w' h' => any_round hd hL fuel _ a' w' h') h2)
        · exact absurd h2.2 hL
      · rename_i hw
        rw [if_neg hw]
        exact ⟨fun _ _ => trivial, any_round hd hL fuel _ _ w h2⟩⟩

/-- **The beginning.** -/
theorem region_round {P : Program} {ops : Array Oper} {Q : Exit → Act → World → Prop} {S : World → Prop} {id l n : Nat} {a : Act} {w : World} (hm : P.follows .mixedOrders = true) (hd : noDefer ops = true) (hL : ¬ LetsOut Q) (hS : S w.drew)
    (h : S w.drew → wpAnyH P .any ops Q S ops.size (Array.replicate ops.size false) a w.drew) : (Code.region id ops true).wpIn (Fence.wide.inRound l) n P Q a w :=
  wpIn_region_any hm (any_round hd hL _ _ _ _ (wpAny_of_held _ _ _ _ (h hS)))
end Go.Proofs.Ytdkppgmhhijkgaa
