/- Rows of pairs of one's own, and the contract of the document's own Delete. Condition: what came in can be read; no more than 1000 pairs. -/
import Derived.Test.YtpicdokkdpbpdaaRk
import Derived.Laws.AppendOwn
import Derived.Laws.AppendOwnNone
import Derived.OwnWalk
namespace Go.Proofs.Ytpicdokkdpbpdaa
open Go.RowKit
set_option linter.unusedVariables false

theorem Try.infoPair : (Try.prog.info? 43).map (fun i => (i.zero, i.size, i.bytes)) = some (some (.agg #[.slice none 0 0, .slice none 0 0]), 2, 48) := by kernel_rfl

/-- Cells that read as pairs. -/
def Reads (w : World) (xs : List Value) (L : List Pr) : Prop :=
  xs.length = L.length * 2 ∧ ∀ j, j < L.length → ∃ A n c B m d, xs[j * 2]? = some (.slice A n c) ∧ xs[j * 2 + 1]? = some (.slice B m d) ∧ Byt w A n (gt L j).1 ∧ Byt w B m (gt L j).2

theorem reads_nil (w : World) : Reads w [] [] := ⟨rfl, fun j hj => by cases hj⟩
theorem gt_left {L M : List Pr} {j : Nat} (h : j < L.length) : gt (L ++ M) j = gt L j := by
  unfold gt
  simp [List.getD_eq_getElem?_getD, List.getElem?_append_left h]
theorem gt_right {L M : List Pr} {j : Nat} (h : L.length ≤ j) : gt (L ++ M) j = gt M (j - L.length) := by
  unfold gt
  simp [List.getD_eq_getElem?_getD, List.getElem?_append_right h]
theorem Reads.append {w : World} {xs ys : List Value} {L M : List Pr} (h : Reads w xs L) (h' : Reads w ys M) : Reads w (xs ++ ys) (L ++ M) := by
  obtain ⟨h1, h2⟩ := h
  obtain ⟨h3, h4⟩ := h'
  refine ⟨by simp; omega, fun j hj => ?_⟩
  by_cases hl : j < L.length
  · obtain ⟨A, n, c, B, m, d, e1, e2, e3, e4⟩ := h2 j hl
    rw [List.getElem?_append_left (by omega), List.getElem?_append_left (by omega), gt_left hl]
    exact ⟨A, n, c, B, m, d, e1, e2, e3, e4⟩
  · obtain ⟨A, n, c, B, m, d, e1, e2, e3, e4⟩ := h4 (j - L.length) (by simp at hj; omega)
    rw [List.getElem?_append_right (by omega), List.getElem?_append_right (by omega), gt_right (by omega), show j * 2 - xs.length = (j - L.length) * 2 by omega, show j * 2 + 1 - xs.length = (j - L.length) * 2 + 1 by omega]
    exact ⟨A, n, c, B, m, d, e1, e2, e3, e4⟩
theorem Reads.below {w w' : World} {xs : List Value} {L : List Pr} (h : Reads w xs L) (hb : Below w.heap.size w w') : Reads w' xs L :=
  ⟨h.1, fun j hj => by
    obtain ⟨A, n, c, B, m, d, e1, e2, e3, e4⟩ := h.2 j hj
    exact ⟨A, n, c, B, m, d, e1, e2, e3.below hb, e4.below hb⟩⟩
theorem Reads.one {w : World} {xs : List Value} {L : List Pr} (h : Reads w xs L) : ∀ u ∈ xs, u.oneCell' = true := by
  intro u hu
  obtain ⟨i, hi, rfl⟩ := List.getElem_of_mem hu
  obtain ⟨A, n, c, B, m, d, e1, e2, _, _⟩ := h.2 (i / 2) (by have := h.1; omega)
  have hd : i = i / 2 * 2 ∨ i = i / 2 * 2 + 1 := by omega
  rcases hd with hd | hd
  · rw [← hd, List.getElem?_eq_getElem hi] at e1
    injection e1 with e1
    rw [e1]
    rfl
  · rw [← hd, List.getElem?_eq_getElem hi] at e2
    injection e2 with e2
    rw [e2]
    rfl
theorem reads_one {w : World} {A B : Option Addr} {n m : Nat} (c d : Nat) {p : Pr} (h : Byt w A n p.1) (h' : Byt w B m p.2) : Reads w [.slice A n c, .slice B m d] [p] := by
  refine ⟨rfl, fun j hj => ?_⟩
  obtain rfl : j = 0 := by simp at hj; omega
  exact ⟨A, n, c, B, m, d, rfl, rfl, h, h'⟩

/-- What a slice of pairs holds, as cells. -/
theorem Prs.cells {w : World} {A : Option Addr} {n c : Nat} {L : List Pr} (h : Prs w A n c L) :
    ∃ xs, Reads w xs L ∧ xs.length = n * 2 ∧ ∀ a, A = some a → ∀ j u, xs[j]? = some u → w.cell? (a.add j) = some u := by
  obtain ⟨h1, h2, h3, h4, h5⟩ := h
  rcases Nat.eq_zero_or_pos n with h0 | h0
  · subst h0
    rw [List.length_eq_zero_iff] at h1
    subst h1
    exact ⟨[], reads_nil w, rfl, fun a _ j u hu => by simp at hu⟩
  · obtain ⟨b, o, rfl, hb, hj⟩ := h5 h0
    refine ⟨(List.range (n * 2)).map fun j => (w.cell? ⟨b, o + j, none⟩).getD (.bool false), ⟨by simp; omega, fun j hl => ?_⟩, by simp, fun a e j u hu => ?_⟩
    · obtain ⟨A, m, c', B, m', d, e1, e2, e3, e4⟩ := hj j (by omega)
      refine ⟨A, m, c', B, m', d, ?_, ?_, e3, e4⟩
      · rw [List.getElem?_map, List.getElem?_range (by omega)]
        simp [e1]
      · rw [List.getElem?_map, List.getElem?_range (by omega)]
        simp [← Nat.add_assoc, e2]
    · injection e with e
      subst e
      rw [List.getElem?_map] at hu
      obtain ⟨i, hi, rfl⟩ := Option.map_eq_some_iff.1 hu
      obtain ⟨hi1, hi2⟩ := List.getElem?_eq_some_iff.1 hi
      simp at hi1 hi2
      subst hi2
      rw [add_lit]
      obtain ⟨A, m, c', B, m', d, e1, e2, _, _⟩ := hj (j / 2) (by omega)
      have hd : j = j / 2 * 2 ∨ j = j / 2 * 2 + 1 := by omega
      rcases hd with hd | hd
      · rw [← hd] at e1
        rw [e1]
        rfl
      · rw [show o + j / 2 * 2 + 1 = o + j by omega] at e2
        rw [e2]
        rfl

/-- What a slice leads to, if to anything, lies in block N or behind it. -/
def New (N : Nat) (A : Option Addr) : Prop := ∀ a, A = some a → N ≤ a.block

/-- A row of one's own is a slice of pairs. -/
theorem own_prs {w : World} {N n : Nat} {v : Value} {xs : List Value} {L : List Pr} (h : w.ownsRow N 43 2 v n xs) (hr : Reads w xs L) : ∃ A c, v = .slice A n c ∧ Prs w A n c L ∧ New N A := by
  have hl : L.length = n := by have := h.1; have := hr.1; omega
  rcases h.2 with ⟨rfl, rfl⟩ | ⟨g, cap, cur, rfl, hB, hh, hc1, hc2, _⟩
  · exact ⟨none, 0, rfl, ⟨hl, Nat.le_refl _, Nat.zero_le _, fun _ => rfl, fun h0 => absurd h0 (by omega)⟩, fun a e => by cases e⟩
  · refine ⟨_, _, rfl, ⟨hl, hc1, hc2, (fun e => by cases e), fun h0 => ⟨g, 0, rfl, (Array.getElem?_eq_some_iff.1 hh).1, fun j hj => ?_⟩⟩, fun a e => by injection e with e; subst e; exact hB⟩
    obtain ⟨A, m, c, B, m', d, e1, e2, e3, e4⟩ := hr.2 j (by omega)
    refine ⟨A, m, c, B, m', d, ?_, ?_, e3, e4⟩
    · have := h.cells (g := g) rfl _ _ e1
      rwa [add_lit] at this
    · have := h.cells (g := g) rfl _ _ e2
      rwa [add_lit, ← Nat.add_assoc] at this

/-- What a function that makes a row leaves. -/
def Made (w : World) (L : List Pr) (e : Ending) (w' : World) : Prop := ∃ A n c, e = .returned (.slice A n c) ∧ Prs w' A n c L ∧ Below w.heap.size w w'

theorem del_step (L : List Pr) (k : List UInt8) {j : Nat} (h : j < L.length) : delL (L.take (j + 1)) k = if sameB (gt L j).1 k then delL (L.take j) k else delL (L.take j) k ++ [gt L j] := by
  unfold delL
  rw [List.take_succ_eq_append_getElem h, List.filter_append, gt_eq h]
  cases hs : sameB L[j].1 k <;> simp [hs]

/-- Where the loop that puts together what is left has come to. -/
def DelInv (w : World) (L : List Pr) (k : List UInt8) (j : Nat) (v : Value) (wr : World) : Prop :=
  ∃ m xs, m ≤ j ∧ wr.ownsRow w.heap.size 43 2 v m xs ∧ Reads w xs (delL (L.take j) k) ∧ Below w.heap.size w wr

theorem two_cells {w : World} {x y : Value} {T : TypeId} : ∀ j u, [x, y][j]? = some u → (w.alloc (.cells #[x, y] T)).cell? ((⟨w.heap.size, 0, none⟩ : Addr).add j) = some u := by
  intro j u hu
  rcases j with _ | _ | j
  · simp at hu; subst hu; simp [Addr.add]
  · simp at hu; subst hu; simp [Addr.add]
  · simp at hu

set_option maxHeartbeats 2000000 in
theorem rdel_any {w : World} {A C : Option Addr} {n c o : Nat} (q : Nat) {L : List Pr} {k : List UInt8} (h : Prs w A n c L) (h' : Byt w C o k) (hn : n ≤ 1000) :
    Calls Try.prog 14 #[.slice A n c, .slice C o q] w (Made w (delL L k)) := by
  obtain ⟨i0, hi, hz0, hz1, hz2⟩ := info_parts Try.infoPair
  have HI := Lib.hid hi
  have HZ := Lib.hid (And.intro hz0 (And.intro hz1 hz2))
  clear hi hz0 hz1 hz2
  have HL := Lib.hid h.len
  have H := Lib.hid h
  have H' := Lib.hid h'
  clear h h'
  go_enter Try.func14, Try.ntmps14
  go_wp2
  go_loopw [5, 6] (fun v i wr => ∃ j : Nat, j ≤ n ∧ i = .int .i64 j ∧ DelInv w L k j v wr) (fun _ i _ => n - (intOf i).toNat)
  case atStart => exact ⟨0, Nat.zero_le _, rfl, 0, [], Nat.le_refl _, World.ownsRow_nil _ _ _ _, reads_nil w, Below.refl _ _⟩
  case round =>
    obtain ⟨j, hj, rfl, m, xs, hm, hown, hr, hb⟩ := hrel
    have HO := Lib.hid hown
    have HR := Lib.hid hr
    clear hown hr
    have hsz := hb.size
    by_cases hlt : j < n
    · have hst := del_step L k (show j < L.length by rw [HL.out]; exact hlt)
      have HST := Lib.hid hst
      clear hst
      obtain ⟨b, oo, rfl, hbl, A1, n1, c1, B1, m1, d1, k0, k1, y1, y2⟩ := (H.out.below hb).at_ hlt
      have HY := Lib.hid (show ∃ p : Pr, p = gt L j ∧ Byt w A1 n1 p.1 ∧ Byt w B1 m1 p.2 by
        obtain ⟨b', oo', ee, hbl', A2, n2, c2, B2, m2, d2, l0, l1, z1, z2⟩ := H.out.at_ hlt
        simp at ee
        obtain ⟨rfl, rfl⟩ := ee
        have q0 := (hb.cell (p := ⟨b, oo + j * 2, none⟩) hbl').trans l0
        have q1 := (hb.cell (p := ⟨b, oo + j * 2 + 1, none⟩) hbl').trans l1
        rw [k0] at q0
        rw [k1] at q1
        simp at q0 q1
        obtain ⟨rfl, rfl, rfl⟩ := q0
        obtain ⟨rfl, rfl, rfl⟩ := q1
        exact ⟨_, rfl, z1, z2⟩)
      have HC := same_any c1 q y1 (H'.out.below hb)
      clear y1 y2
      cases hsm : sameB (gt L j).1 k
      · rw [hsm] at HC HST
        clear hsm
        go_wp2_with fail
        refine HC.mono ?_
        rintro e w' ⟨rfl, rfl⟩
        go_wp2_with (at_builtin; refine wpList_append_own _ rfl _ _ 22 rfl w.heap.size 43 i0 (.agg #[.slice none 0 0, .slice none 0 0]) 2 48 Try.underlying22 HI.out HZ.out.1 HZ.out.2.1 HZ.out.2.2 rfl (by decide) _ _ _ rfl (HO.out.alloc _) ⟨wr.heap.size, 0, none⟩ 1 1 [.slice A1 n1 c1, .slice B1 m1 d1] rfl rfl ?c1 ?c2 ?c3 ?c4 ?c5 ?_)
        case c1 => exact two_cells
        case c2 => intro u hu; simp at hu; rcases hu with rfl | rfl <;> rfl
        case c3 => unfold maxLen; omega
        case c4 => omega
        case c5 => simp; omega
        intro v' w1 hown' hgr _
        have HO' := Lib.hid hown'
        have HG := Lib.hid hgr
        clear hown' hgr
        go_wp2
        go_roundw
        case rel =>
          refine ⟨j + 1, by omega, by go_num, m + 1, _, by omega, HO'.out, ?_, ?_⟩
          · rw [HST.out]
            obtain ⟨p, rfl, z1, z2⟩ := HY.out
            exact HR.out.append (reads_one c1 d1 z1 z2)
          · exact (hb.alloc hsz _).grown HG.out (by simp; omega) (fun t e => (HO.out.lt t e).1)
        case measure => simp [intOf]; omega
      · rw [hsm] at HC HST
        clear hsm
        go_wp2_with fail
        refine HC.mono ?_
        rintro e w' ⟨rfl, rfl⟩
        go_wp2
        go_roundw
        case rel => exact ⟨j + 1, by omega, by go_num, m, xs, by omega, HO.out, by rw [HST.out]; exact HR.out, hb⟩
        case measure => simp [intOf]; omega
    · have hall : L.take j = L := List.take_of_length_le (by rw [HL.out]; omega)
      rw [hall] at HR
      obtain ⟨A2, c2, rfl, hp, _⟩ := own_prs HO.out (HR.out.below hb)
      have HP := Lib.hid hp
      clear hp hall
      go_wp2
      go_ret
      exact ⟨A2, m, c2, rfl, HP.out, hb⟩
end Go.Proofs.Ytpicdokkdpbpdaa
