/- JournalOnce's walk. Condition: what came in can be read. -/
import Derived.Test.YthcchaglloggjaaJk
import Derived.Deep.CutBlock
namespace Go.Proofs.Ythcchaglloggjaa
open Go.RowKit
set_option linter.unusedVariables false
set_option maxRecDepth 100000

/-- A slice of Booleans that reads as a list. -/
def bt (L : List Bool) (j : Nat) : Bool := L.getD j false
def Bls (w : World) (A : Option Addr) (n : Nat) (L : List Bool) : Prop :=
  L.length = n ∧ n ≤ maxLen ∧ (0 < n → ∃ b o, A = some ⟨b, o, none⟩ ∧ b < w.heap.size ∧ ∀ j, j < n → w.cell? ⟨b, o + j, none⟩ = some (.bool (bt L j)))
theorem Bls.below {w w' : World} {A : Option Addr} {n : Nat} {L : List Bool} (h : Bls w A n L) (hb : Below w.heap.size w w') : Bls w' A n L :=
  ⟨h.1, h.2.1, fun h0 => by
    obtain ⟨b, o, e, hl, hj⟩ := h.2.2 h0
    exact ⟨b, o, e, Nat.lt_of_lt_of_le hl hb.size, fun j hjn => (hb.cell (p := ⟨b, o + j, none⟩) hl).trans (hj j hjn)⟩⟩
theorem Bls.at_ {w : World} {A : Option Addr} {n j : Nat} {L : List Bool} (h : Bls w A n L) (hj : j < n) : ∃ b o, A = some ⟨b, o, none⟩ ∧ b < w.heap.size ∧ w.cell? ⟨b, o + j, none⟩ = some (.bool (bt L j)) := by
  obtain ⟨b, o, e, hb, hp⟩ := h.2.2 (by omega)
  exact ⟨b, o, e, hb, hp j hj⟩

/-- How far the rounds have come. -/
def Prog (t n i a b : Nat) : Prop := (t ≤ i → a = 0 ∨ a + i ≤ t + n) ∧ (t + n ≤ i → a = 0 ∧ (b = 0 ∨ b + i ≤ t + 2 * n))
theorem prog_start {t n a b : Nat} (ha : a ≤ n) (h0 : 0 < n) : Prog t n 0 a b := ⟨fun h => .inr (by omega), fun h => by omega⟩
theorem prog_apply {t n i a b b' : Nat} (h : Prog t n i (a + 1) b) (ha : a + 1 ≤ n) (hb : b' ≤ n) (h0 : 0 < n) (hi : t ≤ i → ¬ (t + n ≤ i)) : Prog t n (i + 1) a b' := by
  obtain ⟨h1, h2⟩ := h
  refine ⟨fun h => ?_, fun h => ?_⟩
  · by_cases e : t ≤ i
    · have := h1 e; omega
    · right; omega
  · have e : t ≤ i := by omega
    have := h1 e
    exact ⟨by omega, .inr (by omega)⟩
theorem prog_idle {t n i b : Nat} (h : Prog t n i 0 b) (hb : b ≤ n) (h0 : 0 < n) (hi : t ≤ i → ¬ (t + n ≤ i)) : Prog t n (i + 1) 0 b :=
  ⟨fun _ => .inl rfl, fun h => ⟨rfl, .inr (by omega)⟩⟩
theorem prog_tell {t n i a b : Nat} (h : Prog t n i a (b + 1)) (ha : a ≤ n) (hb : b + 1 ≤ n) (h0 : 0 < n) (hi : t ≤ i → t + n ≤ i) : Prog t n (i + 1) a b := by
  obtain ⟨h1, h2⟩ := h
  refine ⟨fun h => ?_, fun h => ?_⟩
  · by_cases e : t ≤ i
    · exact .inl (h2 (hi e)).1
    · right; omega
  · have e : t ≤ i := by omega
    have := h2 (hi e)
    exact ⟨this.1, by omega⟩
theorem prog_none {t n i a : Nat} (h : Prog t n i a 0) (ha : a ≤ n) (h0 : 0 < n) (hi : t ≤ i → t + n ≤ i) : Prog t n (i + 1) a 0 := by
  obtain ⟨h1, h2⟩ := h
  refine ⟨fun h => ?_, fun h => ?_⟩
  · by_cases e : t ≤ i
    · exact .inl (h2 (hi e)).1
    · right; omega
  · have e : t ≤ i := by omega
    exact ⟨(h2 (hi e)).1, .inl rfl⟩
theorem prog_end {t n a b : Nat} (h : Prog t n (t + 2 * n) a b) : a = 0 ∧ b = 0 := by
  have := h.2 (by omega)
  omega

theorem RqR.keepc {w w' : World} {h : Qh} {r : Rq} (hr : RqR w h r) (hs : w.heap.size ≤ w'.heap.size) (hc : ∀ q : Addr, q.block < w.heap.size → w'.cell? q = w.cell? q) : RqR w' h r := ⟨hr.1.keep hs hc, hr.2.1.keep hs hc, hr.2.2.1.keep hs hc, hr.2.2.2.keep hs hc⟩
theorem Reqs.keepc {w w' : World} {A : Option Addr} {n : Nat} {M : List Rq} (h : Reqs w A n M) (hs : w.heap.size ≤ w'.heap.size) (hc : ∀ q : Addr, q.block < w.heap.size → w'.cell? q = w.cell? q) : Reqs w' A n M :=
  ⟨h.1, h.2.1, fun h0 => by
    obtain ⟨b, o, e, hl, hj⟩ := h.2.2 h0
    refine ⟨b, o, e, Nat.lt_of_lt_of_le hl hs, fun j hjn => ?_⟩
    obtain ⟨h, k0, k1, k2, k3, k4, k5, k6, k7, hr⟩ := hj j hjn
    exact ⟨h, (hc ⟨b, _, none⟩ hl).trans k0, (hc ⟨b, _, none⟩ hl).trans k1, (hc ⟨b, _, none⟩ hl).trans k2, (hc ⟨b, _, none⟩ hl).trans k3, (hc ⟨b, _, none⟩ hl).trans k4, (hc ⟨b, _, none⟩ hl).trans k5, (hc ⟨b, _, none⟩ hl).trans k6, (hc ⟨b, _, none⟩ hl).trans k7, hr.keepc hs hc⟩⟩
def headL (T : List Gr) : Nat := match T with | [] => 0 | g :: _ => g.length
theorem nextG_len {T : List Gr} {R : List Ry} (h : OkJ T R) : (nextG T).length ≤ 32 ∧ (nextG T).length = headL T := by
  have := h.few
  cases T with
  | nil => exact ⟨Nat.zero_le _, rfl⟩
  | cons g T => rw [sizeT_cons] at this; unfold nextG headL; simp; omega
/-- The batch that was begun. -/
theorem begun {L : List Int} {M : List Rq} (h : beginK [] [] L M = 0) : L.Nodup ∧ L.length = M.length ∧ M.length ≤ 32 ∧ 0 < M.length := by
  unfold beginK at h
  rw [if_neg (by decide)] at h
  by_cases hb : batchB L M = true
  · rw [if_neg (by rw [hb]; decide)] at h
    by_cases h2 : 32 < M.length
    · rw [if_pos h2] at h; omega
    · unfold batchB at hb
      simp only [Bool.and_eq_true, decide_eq_true_eq] at hb
      exact ⟨hb.2.2.1, hb.2.1, by omega, hb.1⟩
  · rw [if_pos (by simpa using hb)] at h; omega
theorem beginK_le (L : List Int) (M : List Rq) : 0 ≤ beginK [] [] L M ∧ beginK [] [] L M ≤ 11 := by
  unfold beginK
  split <;> (try split) <;> (try split) <;> omega

theorem reqs_old {w : World} {A : Option Addr} {n : Nat} {M : List Rq} (h : Reqs w A n M) : On (· < w.heap.size) w (Reqs · A n M) := fun w' ha => h.keepc ha.1 (fun q hq => World.cell?_of_block (ha.2 q.block hq hq))

set_option maxHeartbeats 4000000 in
theorem once_let {w : World} {A B D : Option Addr} {n m t : Nat} (c d f : Nat) {M : List Rq} (hB : Reqs w B m M) (hl : fewQ M 40 = false ∨ (fewQ M 40 = true ∧ 60 < n) ∨ (fewQ M 40 = true ∧ n ≤ 60 ∧ 200 < t)) :
    Calls Try.prog 4 #[.slice A n c, .slice B m d, .slice D t f] w fun e w' => e = .returned (.bool true) ∧ Below w.heap.size w w' := by
  have HUP := Lib.hid (up_any w)
  have HN := Lib.hid (fun w1 => jnew_any (fun _ => True) (w := w1) (Nat.le_refl _))
  have HF := Lib.hid (fun (w1 : World) (hb : Below w.heap.size w w1) => fewq_any (w := w1) d 40 (hB.below hb))
  clear hB
  generalize fewQ M 40 = fw at HF hl
  rcases hl with rfl | ⟨rfl, hn⟩ | ⟨rfl, hn, ht⟩
  case' inr.inl => have hn1 : (60 : Int) < (n : Int) := by omega
  case' inr.inr =>
    have hn1 : ¬ ((60 : Int) < (n : Int)) := by omega
    have ht1 : (200 : Int) < (t : Int) := by omega
  all_goals
    go_enter Try.func4, Try.ntmps4
    go_wp2_with fail
    refine HUP.out.mono ?_
    rintro e w1 ⟨rfl, hb1⟩
    have HB1 := Lib.hid hb1
    clear hb1
    go_wp2_with fail
    refine (HN.out w1).mono ?_
    rintro e w2 ⟨rfl, -, hb2, -⟩
    have HB2 := Lib.hid (HB1.out.trans (hb2.mono HB1.out.size))
    have E := Lib.hid (HF.out w2 HB2.out)
    clear hb2
    go_wp2_with fail
    refine E.out.mono ?_
    rintro e w3 ⟨rfl, hb3⟩
    have HB3 := Lib.hid (HB2.out.trans (hb3.mono HB2.out.size))
    clear hb3
    go_wp2
    go_ret
    exact ⟨rfl, HB3.out⟩
end Go.Proofs.Ythcchaglloggjaa
