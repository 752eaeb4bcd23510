/- The document's own journal in memory: items in a row; contracts of its Next, Left and Ready. Condition: at most 1000 items. Contracts of the document's own Ready, Done and Apply. Condition: at most 1000 items. Contracts of the document's own Done and Apply. Condition: at most 1000 items. The document's own Begin, plain: what may be a batch, the items of groups; an item put behind a row of items. No condition. The contract of the document's own Begin. Condition: at most 100 requests; what came in can be read, and its requests' slices have at most 100 bytes. The document's own journal beside the program's, plain. No condition. -/
import Derived.Test.YthcchaglloggjaaJk
namespace Go.Proofs.Ythcchaglloggjaa
open Go.RowKit
set_option linter.unusedVariables false
set_option maxRecDepth 100000

/-- A request of a batch: its slot, its group, its answer. -/
structure It where
  slot : Int
  grp : Int
  r : Rq
  a : An
def it0 : It := ⟨0, 0, rq0, an0⟩
def im (L : List It) (j : Nat) : It := L.getD j it0
theorem im_eq {L : List It} {j : Nat} (h : j < L.length) : im L j = L[j] := by unfold im; simp [h]
theorem im_left {L K : List It} {j : Nat} (h : j < L.length) : im (L ++ K) j = im L j := by
  unfold im
  rw [List.getD_eq_getElem?_getD, List.getD_eq_getElem?_getD, List.getElem?_append_left h]
theorem im_right {L K : List It} {j : Nat} : im (L ++ K) (L.length + j) = im K j := by
  unfold im
  rw [List.getD_eq_getElem?_getD, List.getD_eq_getElem?_getD, List.getElem?_append_right (by omega), Nat.add_sub_cancel_left]
theorem im_one (L : List It) (x : It) : im (L ++ [x]) L.length = x := by unfold im; simp
theorem im_set {L : List It} {i j : Nat} {x : It} (h : i < L.length) : im (L.set i x) j = if j = i then x else im L j := by
  unfold im
  simp only [List.getD_eq_getElem?_getD]
  by_cases e : j = i
  · subst e
    rw [List.getElem?_set_self h, if_pos rfl]
    rfl
  · rw [List.getElem?_set_ne (fun h => e h.symm), if_neg e]
/-- An item's fifteen cells. -/
def itC (h : Qh) (k : Sh) (x : It) : List Value :=
  [.int .i64 x.slot, .int .i64 x.grp, .int .i64 x.r.cl, .int .i64 x.r.sq, .int .i64 x.r.kind, .slice h.A h.n h.c, .slice h.B h.m h.d, .slice h.C h.o h.p, .slice h.D h.q h.s, .int .i64 x.r.limit, .int .i64 x.a.code, .bool x.a.found, .slice k.A k.n k.c, .slice k.B k.m k.d, .int .u64 x.a.stamp]
theorem itC_one (h : Qh) (k : Sh) (x : It) : ∀ u ∈ itC h k x, u.oneCell' = true := by
  intro u hu
  simp [itC] at hu
  rcases hu with rfl | rfl | rfl | rfl | rfl | rfl | rfl | rfl | rfl | rfl | rfl | rfl | rfl | rfl | rfl <;> rfl
def ReadsI (D : Nat → Prop) (w : World) (xs : List Value) (L : List It) : Prop :=
  xs.length = L.length * 15 ∧ ∀ j, j < L.length → ∃ h k, (∀ t, t < 15 → xs[j * 15 + t]? = (itC h k (im L j))[t]?) ∧ On D w (RqR · h (im L j).r)
theorem readsI_nil (D : Nat → Prop) (w : World) : ReadsI D w [] [] := ⟨rfl, fun j hj => by cases hj⟩
theorem ReadsI.imp {D D' : Nat → Prop} {w w' : World} {xs : List Value} {L : List It} (h : ReadsI D w xs L) (hi : ∀ Q : World → Prop, On D w Q → On D' w' Q) : ReadsI D' w' xs L :=
  ⟨h.1, fun j hj => by
    obtain ⟨hh, k, e, r⟩ := h.2 j hj
    exact ⟨hh, k, e, hi _ r⟩⟩
theorem ReadsI.more {D : Nat → Prop} {w : World} {xs : List Value} {L : List It} {h : Qh} {k : Sh} {x : It} (hr : ReadsI D w xs L) (hx : On D w (RqR · h x.r)) : ReadsI D w (xs ++ itC h k x) (L ++ [x]) := by
  have hy := hr.1
  have h15 : (itC h k x).length = 15 := rfl
  refine ⟨by rw [List.length_append, List.length_append, h15, List.length_singleton]; omega, fun j hj => ?_⟩
  by_cases hl : j < L.length
  · obtain ⟨h', k', e, r⟩ := hr.2 j hl
    refine ⟨h', k', fun t ht => ?_, by rw [im_left hl]; exact r⟩
    rw [im_left hl, List.getElem?_append_left (by omega)]
    exact e t ht
  · obtain rfl : j = L.length := by simp at hj; omega
    refine ⟨h, k, fun t ht => ?_, by rw [im_one]; exact hx⟩
    rw [im_one, List.getElem?_append_right (by omega), show L.length * 15 + t - xs.length = t by omega]

/-- The blocks that the document's own doesn't write. -/
def Dq (q : Nat) (vl : Value) (b : Nat) : Prop := b ≠ q ∧ Off vl b
structure DM (w : World) (N q : Nat) (vl : Value) (L : List It) (ap an : Nat) : Prop where
  obj : w.heap[q]? = some (.cells #[vl, .int .i64 ap, .int .i64 an] 29 (0, 0))
  nq : N ≤ q
  row : ∃ xs, w.ownsRow N 75 15 vl L.length xs ∧ ReadsI (· < N) w xs L
  ql : Off vl q
theorem DM.lt {w : World} {N q : Nat} {vl : Value} {L : List It} {ap an : Nat} (h : DM w N q vl L ap an) : q < w.heap.size := (Array.getElem?_eq_some_iff.1 h.obj).1
theorem DM.ltl {w : World} {N q : Nat} {vl : Value} {L : List It} {ap an : Nat} (h : DM w N q vl L ap an) : ∀ b, vl.ownBlock = some b → N ≤ b ∧ b < w.heap.size := by
  obtain ⟨xs, h1, -⟩ := h.row
  exact fun b hb => h1.lt b hb
theorem DM.low {w : World} {N q : Nat} {vl : Value} {L : List It} {ap an : Nat} (h : DM w N q vl L ap an) {b : Nat} (hb : b < N) : Dq q vl b :=
  ⟨by have := h.nq; omega, fun k hk e => by have := (h.ltl k hk).1; omega⟩
theorem DM.new {w : World} {N q : Nat} {vl : Value} {L : List It} {ap an : Nat} (h : DM w N q vl L ap an) {b : Nat} (hb : w.heap.size ≤ b) : Dq q vl b :=
  ⟨by have := h.lt; omega, fun k hk e => by have := (h.ltl k hk).2; omega⟩
theorem DM.cells {w : World} {N q : Nat} {vl : Value} {L : List It} {ap an : Nat} (h : DM w N q vl L ap an) :
    w.cell? ⟨q, 0, none⟩ = some vl ∧ w.cell? ⟨q, 1, none⟩ = some (.int .i64 ap) ∧ w.cell? ⟨q, 2, none⟩ = some (.int .i64 an) ∧ w.frozen? ⟨q, 0, none⟩ = false ∧ w.frozen? ⟨q, 1, none⟩ = false ∧ w.frozen? ⟨q, 2, none⟩ = false := by
  have h1 := h.obj
  simp [World.cell?, World.frozen?, h1]
theorem DM.shape {w : World} {N q : Nat} {vl : Value} {L : List It} {ap an : Nat} (h : DM w N q vl L ap an) : ∃ A c, vl = .slice A L.length c := by
  obtain ⟨xs, h1, -⟩ := h.row
  obtain ⟨A, c, e1, -⟩ := own_new h1
  exact ⟨A, c, e1⟩
theorem DM.other {P P' : Nat → Prop} {w w' : World} {N q : Nat} {vl : Value} {L : List It} {ap an : Nat} (h : DM w N q vl L ap an) (hk : Kp P P' w w') (hp : P q) (ht : ∀ b, vl.ownBlock = some b → P b)
    (hN : ∀ b, b < N → P b) : DM w' N q vl L ap an := by
  obtain ⟨xs, h1, h2⟩ := h.row
  exact ⟨(hk.block q h.lt hp).trans h.obj, h.nq, ⟨xs, own_agree h1 hk.agree ht, h2.imp fun Q ho => hk.on ho (fun b hb => hN b hb) fun b hb _ _ => hb⟩, h.ql⟩
theorem DM.below {w w' : World} {N q : Nat} {vl : Value} {L : List It} {ap an : Nat} (h : DM w N q vl L ap an) (hb : Below w.heap.size w w') : DM w' N q vl L ap an :=
  h.other (below_kp (P := fun _ => True) hb) trivial (fun _ _ => trivial) (fun _ _ => trivial)
theorem DM.at_ {w : World} {N q j : Nat} {vl : Value} {L : List It} {ap an : Nat} (h : DM w N q vl L ap an) (hj : j < L.length) :
    ∃ t cap, vl = .slice (some ⟨t, 0, none⟩) L.length cap ∧ t < w.heap.size ∧ t ≠ q ∧ ∃ hh k, (∀ i, i < 15 → w.cell? ⟨t, j * 15 + i, none⟩ = (itC hh k (im L j))[i]?) ∧ On (· < N) w (RqR · hh (im L j).r) := by
  obtain ⟨ys, h1, h2⟩ := h.row
  have hql := h.ql
  obtain ⟨A0, c0, e0, -⟩ := own_new h1
  subst e0
  obtain ⟨g, rfl, -, hg⟩ := own_at h1 (by omega)
  obtain ⟨hh, k, e, r⟩ := h2.2 j hj
  exact ⟨g, c0, rfl, hg, fun e => hql g rfl e.symm, hh, k, fun i hi => (h1.cellAt _ (by omega)).trans (e i hi), r⟩

/-- What the calls tell. -/
def nextD (L : List It) (k : Nat) (i : Nat) : List Rq := ((L.take i).filter fun x => x.grp == (k : Int)).map It.r
def restD (L : List It) (k : Nat) (i : Nat) : Nat := ((L.take i).filter fun x => decide ((k : Int) ≤ x.grp)).length
theorem nextD_step {L : List It} {k i : Nat} (h : i < L.length) : nextD L k (i + 1) = if (im L i).grp = (k : Int) then nextD L k i ++ [(im L i).r] else nextD L k i := by
  unfold nextD
  rw [List.take_add_one, List.getElem?_eq_getElem h, List.filter_append, List.map_append, im_eq h]
  by_cases e : (L[i]).grp = (k : Int)
  · rw [if_pos e]
    simp [e]
  · rw [if_neg e]
    simp [e]
theorem restD_step {L : List It} {k i : Nat} (h : i < L.length) : restD L k (i + 1) = if (k : Int) ≤ (im L i).grp then restD L k i + 1 else restD L k i := by
  unfold restD
  rw [List.take_add_one, List.getElem?_eq_getElem h, List.filter_append, List.length_append, im_eq h]
  by_cases e : (k : Int) ≤ (L[i]).grp
  · rw [if_pos e]
    simp [e]
  · rw [if_neg e]
    simp [e]
theorem restD_le (L : List It) (k i : Nat) : restD L k i ≤ L.length := by
  unfold restD
  refine Nat.le_trans (List.length_filter_le _ _) ?_
  simp
  exact Nat.min_le_right _ _
theorem nextD_le (L : List It) (k i : Nat) : (nextD L k i).length ≤ L.length := by
  unfold nextD
  rw [List.length_map]
  refine Nat.le_trans (List.length_filter_le _ _) ?_
  simp
  exact Nat.min_le_right _ _

/-- Requests put together in a row of one's own; they lead to what was there. -/
def GrowsB (w : World) (v : Value) (n : Nat) (M : List Rq) (wr : World) : Prop := ∃ xs, wr.ownsRow w.heap.size 60 8 v n xs ∧ ReadsQ (· < w.heap.size) wr xs M
theorem growsB_nil (w wr : World) : GrowsB w (.slice none 0 0) 0 [] wr := ⟨[], World.ownsRow_nil _ _ _ _, ReadsQ.nil _ _⟩
theorem GrowsB.reqs {w wr : World} {n : Nat} {v : Value} {M : List Rq} (h : GrowsB w v n M wr) : ∃ A c, v = .slice A n c ∧ Reqs wr A n M := by
  obtain ⟨xs, h1, h2⟩ := h
  obtain ⟨A, c, e, ho⟩ := own_reqs h1 h2
  exact ⟨A, c, e, ho.here⟩

def DNextO (w : World) (M : List Rq) (e : Ending) (w' : World) : Prop := ∃ A c, e = .returned (.slice A M.length c) ∧ Reqs w' A M.length M ∧ Below w.heap.size w w'
set_option maxHeartbeats 8000000 in
theorem dnext_any {w : World} {N q : Nat} {vl : Value} {L : List It} {ap an : Nat} (h : DM w N q vl L ap an) (hn : L.length ≤ 1000) :
    Calls Try.prog 11 #[.pointer (some ⟨q, 0, none⟩)] w (DNextO w (nextD L ap L.length)) := by
  have H := Lib.hid h
  obtain ⟨c0, c1, -, -, -, -⟩ := h.cells
  have hql := h.lt
  obtain ⟨vA, vc, rfl⟩ := h.shape
  have HC := Lib.hid (And.intro c0 c1)
  obtain ⟨i1, hi1, hy0, hy1, hy2⟩ := info_parts Try.infoReq
  have HI1 := Lib.hid hi1
  have HZ1 := Lib.hid (And.intro hy0 (And.intro hy1 hy2))
  have HST := Lib.hid (fun i (hi : i < L.length) => nextD_step (k := ap) hi)
  have HLE := Lib.hid (fun i => nextD_le L ap i)
  obtain ⟨ll, hll⟩ : ∃ ll, ll = L.length := ⟨_, rfl⟩
  rw [← hll] at hn HC HST HLE ⊢
  have HLL := Lib.hid hll
  clear h c0 c1 hi1 hy0 hy1 hy2 hll
  go_enter Try.func11, Try.ntmps11
  go_wp2
  go_loopw [3, 4] (fun v s wr => ∃ i : Nat, i ≤ ll ∧ s = .int .i64 i ∧ GrowsB w v (nextD L ap i).length (nextD L ap i) wr ∧ Below w.heap.size w wr) (fun _ s _ => ll - (intOf s).toNat)
  case atStart => exact ⟨0, Nat.zero_le _, rfl, growsB_nil _ _, Below.refl _ _⟩
  case round =>
    obtain ⟨i, hi, rfl, hg, hb⟩ := hrel
    have HG := Lib.hid hg
    have HB := Lib.hid hb
    clear hg hb
    have c0 := (HB.out.cell (p := ⟨q, 0, none⟩) hql).trans HC.out.1
    by_cases hlt : i < ll
    · have hlt2 : i < L.length := by rw [← HLL.out]; exact hlt
      have hin : (i : Int) < (ll : Int) := by omega
      have hi0 : (0 : Int) ≤ (i : Int) := by omega
      have c1 := (HB.out.cell (p := ⟨q, 1, none⟩) hql).trans HC.out.2
      obtain ⟨t, cap, ev, htl, -, hh, kk, hx, hr⟩ := H.out.at_ hlt2
      injection ev with e1 e2 e3
      subst e1
      have hx' : ∀ j, j < 15 → wr.cell? ⟨t, i * 15 + j, none⟩ = (itC hh kk (im L i))[j]? := fun j hj => (HB.out.cell (p := ⟨t, i * 15 + j, none⟩) htl).trans (hx j hj)
      have HSTI := Lib.hid (HST.out i hlt)
      have HR := Lib.hid ((hr.now).mono (C' := (· < w.heap.size)) (fun b hb => hb.2))
      generalize im L i = x at hx' HSTI HR
      have k1 : wr.cell? ⟨t, i * 15 + 1, none⟩ = some (.int .i64 x.grp) := hx' 1 (by omega)
      have k2 : wr.cell? ⟨t, i * 15 + 2, none⟩ = some (.int .i64 x.r.cl) := hx' 2 (by omega)
      have k3 : wr.cell? ⟨t, i * 15 + 3, none⟩ = some (.int .i64 x.r.sq) := hx' 3 (by omega)
      have k4 : wr.cell? ⟨t, i * 15 + 4, none⟩ = some (.int .i64 x.r.kind) := hx' 4 (by omega)
      have k5 : wr.cell? ⟨t, i * 15 + 5, none⟩ = some (.slice hh.A hh.n hh.c) := hx' 5 (by omega)
      have k6 : wr.cell? ⟨t, i * 15 + 6, none⟩ = some (.slice hh.B hh.m hh.d) := hx' 6 (by omega)
      have k7 : wr.cell? ⟨t, i * 15 + 7, none⟩ = some (.slice hh.C hh.o hh.p) := hx' 7 (by omega)
      have k8 : wr.cell? ⟨t, i * 15 + 8, none⟩ = some (.slice hh.D hh.q hh.s) := hx' 8 (by omega)
      have k9 : wr.cell? ⟨t, i * 15 + 9, none⟩ = some (.int .i64 x.r.limit) := hx' 9 (by omega)
      clear hx hx' hr e2 e3
      by_cases heq : x.grp = (ap : Int)
      · have z1 : (x.grp == (ap : Int)) = true := by simpa using heq
        rw [if_pos heq] at HSTI
        clear heq
        have P8 := Lib.hid (show ∀ d, ∃ w8, w8 = wr.drewN d ∧ GrowsB w u3 (nextD L ap i).length (nextD L ap i) w8 ∧ Below w.heap.size w w8 ∧ w8.cell? ⟨q, 0, none⟩ = some (.slice (some ⟨t, 0, none⟩) ll vc) ∧ w8.cell? ⟨t, i * 15 + 2, none⟩ = some (.int .i64 x.r.cl) ∧ w8.cell? ⟨t, i * 15 + 3, none⟩ = some (.int .i64 x.r.sq) ∧ w8.cell? ⟨t, i * 15 + 4, none⟩ = some (.int .i64 x.r.kind) ∧ w8.cell? ⟨t, i * 15 + 5, none⟩ = some (.slice hh.A hh.n hh.c) ∧ w8.cell? ⟨t, i * 15 + 6, none⟩ = some (.slice hh.B hh.m hh.d) ∧ w8.cell? ⟨t, i * 15 + 7, none⟩ = some (.slice hh.C hh.o hh.p) ∧ w8.cell? ⟨t, i * 15 + 8, none⟩ = some (.slice hh.D hh.q hh.s) ∧ w8.cell? ⟨t, i * 15 + 9, none⟩ = some (.int .i64 x.r.limit) from fun d => ⟨_, rfl, HG.out, below_drewN HB.out d, c0, k2, k3, k4, k5, k6, k7, k8, k9⟩)
        go_upto_region 5 with fail
        go_quiet (fail)
        obtain ⟨w8, hw8, hg8, hb8, d0, d2, d3, d4, d5, d6, d7, d8, d9⟩ := P8.out nq
        rw [← hw8]
        clear hw8 P8 k1 k2 k3 k4 k5 k6 k7 k8 k9 c0 c1 HG HB
        obtain ⟨xs, hown, hrd⟩ := hg8
        have O5 := Lib.hid (World.ownsRow.alloc hown (.cells #[.int .i64 x.r.cl, .int .i64 x.r.sq, .int .i64 x.r.kind, .slice hh.A hh.n hh.c, .slice hh.B hh.m hh.d, .slice hh.C hh.o hh.p, .slice hh.D hh.q hh.s, .int .i64 x.r.limit] 60))
        have R5 := Lib.hid hrd
        have HB8 := Lib.hid hb8
        have hle := HLE.out i
        have hws : w.heap.size ≤ w8.heap.size := hb8.size
        have hal := Lib.hid ((Below.refl w8.heap.size w8).alloc (Nat.le_refl _) (.cells #[.int .i64 x.r.cl, .int .i64 x.r.sq, .int .i64 x.r.kind, .slice hh.A hh.n hh.c, .slice hh.B hh.m hh.d, .slice hh.C hh.o hh.p, .slice hh.D hh.q hh.s, .int .i64 x.r.limit] 60))
        have HLT := Lib.hid (hown.lt)
        clear hown hrd hb8
        go_wp2_with (at_builtin; refine wpList_append_own_at _ rfl _ _ 31 rfl w.heap.size 60 i1 (.agg #[.int .i64 0, .int .i64 0, .int .i64 0, .slice none 0 0, .slice none 0 0, .slice none 0 0, .slice none 0 0, .int .i64 0]) 8 128 Try.underlying31 HI1.out HZ1.out.1 HZ1.out.2.1 HZ1.out.2.2 rfl (by decide) u3 (nextD L ap i).length xs rfl O5.out ⟨w8.heap.size, 0, none⟩ 1 1 (rqC hh x.r) rfl rfl (eight_cells rfl) (rqC_one hh x.r) ?c3 ?c4 ?c5 ?_)
        case c3 => unfold maxLen; omega
        case c4 => omega
        case c5 => first | omega | (rw [alloc_sz]; omega)
        intro v' w6 hown6 hg6 hnil hat
        have HBN := Lib.hid ((HB8.out.trans (hal.out.mono hws)).grown hg6 (by rw [alloc_sz]; omega) (fun k hk => (HLT.out k hk).1))
        have HNX := Lib.hid (show GrowsB w v' (nextD L ap (i + 1)).length (nextD L ap (i + 1)) w6 from by
          rw [HSTI.out, List.length_append, List.length_singleton]
          refine ⟨_, hown6, ReadsQ.more (R5.out.imp fun hh s ho => ho.keep (below_agree (((Below.refl _ _).alloc (Nat.le_refl _) _).mono hws |>.grown hg6 (by rw [alloc_sz]; omega) (fun k hk => (HLT.out k hk).1)) fun b hb _ => hb)) (HR.out.keep (below_agree HBN.out fun b hb _ => hb))⟩)
        clear hown6 hg6 hnil hat O5 R5 hal HLT HB8 hle
        go_wp2
        go_roundw
        case rel => exact ⟨i + 1, by omega, by go_num, HNX.out, HBN.out⟩
        case measure => simp [intOf]; omega
      · have z1 : (x.grp == (ap : Int)) = false := by simpa using heq
        rw [if_neg heq] at HSTI
        clear heq k2 k3 k4 k5 k6 k7 k8 k9
        have P8 := Lib.hid (show ∀ d, GrowsB w u3 (nextD L ap (i + 1)).length (nextD L ap (i + 1)) (wr.drewN d) ∧ Below w.heap.size w (wr.drewN d) from fun d => ⟨by rw [HSTI.out]; exact HG.out, below_drewN HB.out d⟩)
        go_upto_region 5 with fail
        go_quiet (fail)
        go_wp2
        go_roundw
        case rel => exact ⟨i + 1, by omega, by go_num, (P8.out _).1, (P8.out _).2⟩
        case measure => simp [intOf]; omega
    · obtain rfl : i = ll := by omega
      have hin : ¬ ((i : Int) < (i : Int)) := by omega
      obtain ⟨A9, c9, rfl, hr9⟩ := HG.out.reqs
      have HR9 := Lib.hid hr9
      clear hr9 HG
      go_wp2
      go_ret
      exact ⟨A9, c9, rfl, HR9.out, HB.out⟩

def rdyD (L : List It) (ap an : Nat) : Bool := decide (an < L.length) && decide ((im L an).grp < (ap : Int))
def rdyDS (L : List It) (ap an : Nat) : Int := if rdyD L ap an = true then (im L an).slot else 0
def rdyDA (L : List It) (ap an : Nat) : An := if rdyD L ap an = true then (im L an).a else an0

set_option maxHeartbeats 4000000 in
theorem dleft_any {w : World} {N q : Nat} {vl : Value} {L : List It} {ap an : Nat} (h : DM w N q vl L ap an) (hn : L.length ≤ 1000) (ha : an ≤ L.length) :
    Calls Try.prog 17 #[.pointer (some ⟨q, 0, none⟩)] w fun e w' => e = .returned (.tuple #[.int .i64 (restD L ap L.length), .int .i64 ((L.length - an : Nat) : Int)]) ∧ Below w.heap.size w w' := by
  have H := Lib.hid h
  obtain ⟨c0, c1, c2, -, -, -⟩ := h.cells
  have hql := h.lt
  obtain ⟨vA, vc, rfl⟩ := h.shape
  have HC := Lib.hid (And.intro c0 (And.intro c1 c2))
  have HST := Lib.hid (fun i (hi : i < L.length) => restD_step (k := ap) hi)
  have HLE := Lib.hid (fun i => restD_le L ap i)
  obtain ⟨ll, hll⟩ : ∃ ll, ll = L.length := ⟨_, rfl⟩
  rw [← hll] at hn ha HC HST HLE ⊢
  have HLL := Lib.hid hll
  clear h c0 c1 c2 hll
  go_enter Try.func17, Try.ntmps17
  go_wp2
  go_loopw [4, 5] (fun v s wr => ∃ i : Nat, i ≤ ll ∧ s = .int .i64 i ∧ v = .int .i64 (restD L ap i) ∧ Below w.heap.size w wr) (fun _ s _ => ll - (intOf s).toNat)
  case atStart => exact ⟨0, Nat.zero_le _, rfl, rfl, Below.refl _ _⟩
  case round =>
    obtain ⟨i, hi, rfl, rfl, hb⟩ := hrel
    have HB := Lib.hid hb
    clear hb
    have c0 := (HB.out.cell (p := ⟨q, 0, none⟩) hql).trans HC.out.1
    by_cases hlt : i < ll
    · have hlt2 : i < L.length := by rw [← HLL.out]; exact hlt
      have hin : (i : Int) < (ll : Int) := by omega
      have hi0 : (0 : Int) ≤ (i : Int) := by omega
      have c1 := (HB.out.cell (p := ⟨q, 1, none⟩) hql).trans HC.out.2.1
      obtain ⟨t, cap, ev, htl, -, hh, kk, hx, -⟩ := H.out.at_ hlt2
      injection ev with e1 e2 e3
      subst e1
      have k1 : wr.cell? ⟨t, i * 15 + 1, none⟩ = some (.int .i64 (im L i).grp) := (HB.out.cell (p := ⟨t, i * 15 + 1, none⟩) htl).trans (hx 1 (by omega))
      have HSTI := Lib.hid (HST.out i hlt)
      have hle := HLE.out i
      generalize im L i = x at k1 HSTI
      generalize restD L ap i = rd at HSTI hle
      clear hx e2 e3
      by_cases heq : (ap : Int) ≤ x.grp
      · have z1 : decide (x.grp ≥ (ap : Int)) = true := by simpa using heq
        rw [if_pos heq] at HSTI
        go_upto_region 5 with fail
        go_quiet (fail)
        go_wp2
        go_roundw
        case rel => exact ⟨i + 1, by omega, by go_num, by rw [HSTI.out]; go_num, below_drewN HB.out _⟩
        case measure => simp [intOf]; omega
      · have z1 : decide (x.grp ≥ (ap : Int)) = false := by simp; omega
        have z2 : ¬ ((ap : Int) ≤ x.grp) := heq
        rw [if_neg heq] at HSTI
        go_upto_region 5 with fail
        go_quiet (fail)
        go_wp2
        go_roundw
        case rel => exact ⟨i + 1, by omega, by go_num, by rw [HSTI.out], below_drewN HB.out _⟩
        case measure => simp [intOf]; omega
    · obtain rfl : i = ll := by omega
      have hin : ¬ ((i : Int) < (i : Int)) := by omega
      have c2 := (HB.out.cell (p := ⟨q, 2, none⟩) hql).trans HC.out.2.2
      have hsub : (i : Int) - (an : Int) = ((i - an : Nat) : Int) := by omega
      have HSB := Lib.hid hsub
      clear hsub
      go_upto_region 7 with fail
      go_quiet (fail)
      go_wp2
      refine bodyPost_ret (v := .tuple #[.int .i64 (restD L ap i), .int .i64 ((i : Int) - (an : Int))]) (by simp [results, Try.results17, go_sem]) rfl ⟨by rw [HSB.out], below_drewN HB.out _⟩
end Go.Proofs.Ythcchaglloggjaa

namespace Go.Proofs.Ythcchaglloggjaa
open Go.RowKit
set_option linter.unusedVariables false
set_option maxRecDepth 100000

theorem own_frz {w : World} {N t n c s : Nat} {e : TypeId} {xs : List Value} (h : w.ownsRow N e s (.slice (some ⟨t, 0, none⟩) n c) n xs) (o : Nat) : w.frozen? ⟨t, o, none⟩ = false := by
  rcases h.2 with ⟨e, -⟩ | ⟨g', cap', cur, e, hN, hg, h1, h2, h3, h4⟩
  · cases e
  · injection e with e1 e2 e3
    injection e1 with e1
    injection e1 with e1
    subst e1
    simp [World.frozen?, hg]
theorem own_stores {N g n cap s : Nat} {e : TypeId} : ∀ (us : List Value) (w : World) (xs : List Value) (o : Nat), w.ownsRow N e s (.slice (some ⟨g, 0, none⟩) n cap) n xs → (stores w g o us).ownsRow N e s (.slice (some ⟨g, 0, none⟩) n cap) n (puts xs o us)
  | [], _, _, _, h => h
  | u :: us, w, xs, o, h => by
    rw [stores, puts]
    exact own_stores us _ _ _ (own_set h o u)
theorem DM.frz {w : World} {N q t n cap : Nat} {L : List It} {ap an : Nat} (h : DM w N q (.slice (some ⟨t, 0, none⟩) n cap) L ap an) (o : Nat) : w.frozen? ⟨t, o, none⟩ = false := by
  obtain ⟨xs, h1, -⟩ := h.row
  obtain ⟨A, c, e, -⟩ := own_new h1
  injection e with _ e2 _
  subst e2
  exact own_frz h1 o

/-- One of the object's own numbers is stored. -/
theorem kp_q {w : World} {q o : Nat} {vl vl' u : Value} (h : ∀ b, b < w.heap.size → Dq q vl b → Dq q vl' b) : Kp (Dq q vl) (Dq q vl') w (w.setCell ⟨q, o, none⟩ u) :=
  ⟨rfl, rfl, rfl, by simp [World.setCell], fun k hk hp => Below.heap_setCell _ _ _ _ hp.1, fun k hk hp => h k hk hp⟩
theorem DM.obj_set {w : World} {N q o : Nat} {vl u : Value} {L : List It} {ap an : Nat} {vs : List Value} (h : DM w N q vl L ap an) (ho : ([vl, Value.int .i64 ap, .int .i64 an] : List Value).set o u = vs) : (w.setCell ⟨q, o, none⟩ u).heap[q]? = some (.cells vs.toArray 29 (0, 0)) := by
  have e1 : w.heap[q]? = some (.cells [vl, .int .i64 ap, .int .i64 an].toArray 29 (0, 0)) := h.obj
  have := set_obj (o := o) u e1
  rw [ho] at this
  exact this
theorem DM.num {w : World} {N q o : Nat} {vl u : Value} {L : List It} {ap an ap' an' : Nat} (h : DM w N q vl L ap an) (ho : ([vl, Value.int .i64 ap, .int .i64 an] : List Value).set o u = [vl, .int .i64 ap', .int .i64 an']) :
    DM (w.setCell ⟨q, o, none⟩ u) N q vl L ap' an' ∧ Kp (Dq q vl) (Dq q vl) w (w.setCell ⟨q, o, none⟩ u) := by
  have hk : Kp (Dq q vl) (Dq q vl) w (w.setCell ⟨q, o, none⟩ u) := kp_q fun b _ h => h
  obtain ⟨xs, h1, h2⟩ := h.row
  exact ⟨⟨h.obj_set ho, h.nq, ⟨xs, own_agree (C := fun b => b ≠ q) h1 (agree_set w ⟨q, o, none⟩ u (by simp)) (fun b hb e => h.ql b hb e.symm), h2.imp fun Q hq => hk.on hq (fun b hb => h.low hb) fun b hb _ _ => hb⟩, h.ql⟩, hk⟩
theorem DM.empty {w : World} {N q : Nat} {vl : Value} {L : List It} {ap an : Nat} (h : DM w N q vl L ap an) :
    DM (w.setCell ⟨q, 0, none⟩ (.slice none 0 0)) N q (.slice none 0 0) [] ap an ∧ Kp (Dq q vl) (Dq q (.slice none 0 0)) w (w.setCell ⟨q, 0, none⟩ (.slice none 0 0)) :=
  ⟨⟨h.obj_set (vs := [.slice none 0 0, .int .i64 ap, .int .i64 an]) rfl, h.nq, ⟨[], World.ownsRow_nil _ _ _ _, readsI_nil _ _⟩, fun b hb => by cases hb⟩, kp_q fun b _ h => ⟨h.1, fun b hb => by cases hb⟩⟩

/-- An answer put into an item. -/
theorem put_it (h : Qh) (k k' : Sh) (x : It) (a : An) : ∀ t, t < 15 → (itC h k' { x with a := a })[t]? = if 10 ≤ t then (anC k' a)[t - 10]? else (itC h k x)[t]? := fun t ht => by
  have : t = 0 ∨ t = 1 ∨ t = 2 ∨ t = 3 ∨ t = 4 ∨ t = 5 ∨ t = 6 ∨ t = 7 ∨ t = 8 ∨ t = 9 ∨ t = 10 ∨ t = 11 ∨ t = 12 ∨ t = 13 ∨ t = 14 := by omega
  rcases this with rfl | rfl | rfl | rfl | rfl | rfl | rfl | rfl | rfl | rfl | rfl | rfl | rfl | rfl | rfl <;> rfl
theorem DM.put {w : World} {N q t cap n i : Nat} {L : List It} {ap an : Nat} (h : DM w N q (.slice (some ⟨t, 0, none⟩) n cap) L ap an) (hi : i < L.length) (k : Sh) (a : An) :
    DM (stores w t (i * 15 + 10) (anC k a)) N q (.slice (some ⟨t, 0, none⟩) n cap) (L.set i { im L i with a := a }) ap an ∧
      Kp (Dq q (.slice (some ⟨t, 0, none⟩) n cap)) (Dq q (.slice (some ⟨t, 0, none⟩) n cap)) w (stores w t (i * 15 + 10) (anC k a)) := by
  have hc := chg_stores t (anC k a) w (i * 15 + 10)
  have htq : q ≠ t := h.ql t rfl
  have hk : Kp (Dq q (.slice (some ⟨t, 0, none⟩) n cap)) (Dq q (.slice (some ⟨t, 0, none⟩) n cap)) w (stores w t (i * 15 + 10) (anC k a)) :=
    ⟨hc.os, hc.tape, hc.output, hc.size, fun b hb hp => hc.block b hb (hp.2 t rfl), fun b _ hp => hp⟩
  obtain ⟨xs, h1, h2⟩ := h.row
  have hn : n = L.length := by
    obtain ⟨A, c, e, -⟩ := own_new h1
    injection e
  subst hn
  have h5 : (anC k a).length = 5 := rfl
  refine ⟨⟨(stores_other htq _ _ _).trans h.obj, h.nq, ⟨puts xs (i * 15 + 10) (anC k a), by rw [List.length_set]; exact own_stores _ _ _ _ h1, by rw [puts_len, List.length_set]; exact h2.1, fun j hj => ?_⟩, h.ql⟩, hk⟩
  rw [List.length_set] at hj
  obtain ⟨hh, kk, e, r⟩ := h2.2 j hj
  have hx := h2.1
  rw [im_set hi]
  by_cases hji : j = i
  · subst hji
    rw [if_pos rfl]
    refine ⟨hh, k, fun t' ht => ?_, hk.on r (fun b hb => h.low hb) fun b hb _ _ => hb⟩
    rw [put_it hh kk k (im L j) a t' ht]
    by_cases h10 : 10 ≤ t'
    · rw [if_pos h10, show j * 15 + t' = j * 15 + 10 + (t' - 10) by omega, puts_in _ _ _ _ (by omega) (by omega)]
    · rw [if_neg h10, puts_out _ _ _ _ (by omega), e t' ht]
  · rw [if_neg hji]
    refine ⟨hh, kk, fun t' ht => ?_, hk.on r (fun b hb => h.low hb) fun b hb _ _ => hb⟩
    rw [puts_out _ _ _ _ (by omega), e t' ht]

def DdO (w : World) (N q : Nat) (vl : Value) (k : Int) (L : List It) (ap an : Nat) (e : Ending) (w' : World) : Prop :=
  ∃ vl', e = .returned (.int .i64 k) ∧ DM w' N q vl' L ap an ∧ Kp (Dq q vl) (Dq q vl') w w'

/-- The answers put into a group, one behind another. -/
def asg (L : List It) (ap : Nat) (A : List An) : Nat → List It
  | 0 => L
  | i + 1 => if (im L i).grp = (ap : Int) then (asg L ap A i).set i { im L i with a := aq A (nextD L ap i).length } else asg L ap A i
theorem asg_len (L : List It) (ap : Nat) (A : List An) : ∀ i, (asg L ap A i).length = L.length
  | 0 => rfl
  | i + 1 => by
    rw [asg]
    split
    · rw [List.length_set, asg_len]
    · exact asg_len L ap A i
theorem asg_im (L : List It) (ap : Nat) (A : List An) : ∀ i, i ≤ L.length → ∀ j, im (asg L ap A i) j = if j < i ∧ (im L j).grp = (ap : Int) then { im L j with a := aq A (nextD L ap j).length } else im L j
  | 0, _, j => by rw [if_neg (by omega)]; rfl
  | i + 1, h, j => by
    rw [asg]
    split
    · next hg =>
      rw [im_set (by rw [asg_len]; omega)]
      by_cases e : j = i
      · subst e
        rw [if_pos rfl, if_pos ⟨by omega, hg⟩]
      · rw [if_neg e, asg_im L ap A i (by omega)]
        by_cases hc : j < i ∧ (im L j).grp = (ap : Int)
        · rw [if_pos hc, if_pos ⟨by omega, hc.2⟩]
        · rw [if_neg hc, if_neg (fun h => hc ⟨by omega, h.2⟩)]
    · next hg =>
      rw [asg_im L ap A i (by omega)]
      by_cases hc : j < i ∧ (im L j).grp = (ap : Int)
      · rw [if_pos hc, if_pos ⟨by omega, hc.2⟩]
      · rw [if_neg hc, if_neg (fun h => hc ⟨by
          have h1 := h.1
          by_cases e : j = i
          · subst e; exact absurd h.2 hg
          · omega, h.2⟩)]
theorem nextD_mono (L : List It) (k : Nat) {i j : Nat} (h : i ≤ j) : (nextD L k i).length ≤ (nextD L k j).length := by
  unfold nextD
  rw [List.length_map, List.length_map]
  have : L.take i = (L.take j).take i := by rw [List.take_take, Nat.min_eq_left h]
  rw [this]
  exact (((L.take j).take_sublist i).filter _).length_le
theorem nextD_lt {L : List It} {k i : Nat} (h : i < L.length) (hg : (im L i).grp = (k : Int)) : (nextD L k i).length < (nextD L k L.length).length := by
  have h1 := nextD_mono L k (show i + 1 ≤ L.length by omega)
  rw [nextD_step h, if_pos hg, List.length_append, List.length_singleton] at h1
  omega

/-- An item in its box. -/
theorem box_it (w : World) (h : Qh) (k : Sh) (x : It) : ∃ W, W = w.alloc (.cells #[.int .i64 x.slot, .int .i64 x.grp, .int .i64 x.r.cl, .int .i64 x.r.sq, .int .i64 x.r.kind, .slice h.A h.n h.c, .slice h.B h.m h.d, .slice h.C h.o h.p, .slice h.D h.q h.s, .int .i64 x.r.limit, .int .i64 x.a.code, .bool x.a.found, .slice k.A k.n k.c, .slice k.B k.m k.d, .int .u64 x.a.stamp] 75) ∧
    Below w.heap.size w W ∧ (∀ t, W.cell? ⟨w.heap.size, t, none⟩ = (itC h k x)[t]?) ∧ W.heap.size = w.heap.size + 1 := by
  refine ⟨_, rfl, (Below.refl _ _).alloc (Nat.le_refl _) _, fun t => ?_, by simp⟩
  have e := Deep.blk_alloc_new w (.cells (itC h k x).toArray 75)
  show (w.alloc (.cells (itC h k x).toArray 75)).cell? _ = _
  simp only [World.cell?, e]
  simp

def RdyDO (w : World) (L : List It) (ap an : Nat) (e : Ending) (w' : World) : Prop :=
  ∃ k : Sh, e = .returned (.tuple #[.int .i64 (rdyDS L ap an), .agg #[.int .i64 (rdyDA L ap an).code, .bool (rdyDA L ap an).found, .slice k.A k.n k.c, .slice k.B k.m k.d, .int .u64 (rdyDA L ap an).stamp], .bool (rdyD L ap an)]) ∧ Below w.heap.size w w'
theorem rdyD_no {L : List It} {ap an : Nat} (h : ¬ (an < L.length ∧ (im L an).grp < (ap : Int))) : rdyD L ap an = false ∧ rdyDS L ap an = 0 ∧ rdyDA L ap an = an0 := by
  have e : rdyD L ap an = false := by
    unfold rdyD
    rw [Bool.eq_false_iff]
    intro h2
    simp only [Bool.and_eq_true, decide_eq_true_eq] at h2
    exact h h2
  refine ⟨e, ?_, ?_⟩
  · unfold rdyDS; rw [if_neg (by rw [e]; decide)]
  · unfold rdyDA; rw [if_neg (by rw [e]; decide)]
theorem rdyD_yes {L : List It} {ap an : Nat} (h1 : an < L.length) (h2 : (im L an).grp < (ap : Int)) : rdyD L ap an = true ∧ rdyDS L ap an = (im L an).slot ∧ rdyDA L ap an = (im L an).a := by
  have e : rdyD L ap an = true := by
    unfold rdyD
    simp only [Bool.and_eq_true, decide_eq_true_eq]
    exact ⟨h1, h2⟩
  refine ⟨e, ?_, ?_⟩
  · unfold rdyDS; rw [if_pos e]
  · unfold rdyDA; rw [if_pos e]

set_option maxHeartbeats 8000000 in
theorem dready_none {w : World} {N q : Nat} {vl : Value} {L : List It} {ap an : Nat} (h : DM w N q vl L ap an) (hlt : ¬ an < L.length) :
    Calls Try.prog 19 #[.pointer (some ⟨q, 0, none⟩)] w (RdyDO w L ap an) := by
  obtain ⟨V, hV, hVB, hVA, hVs⟩ := box_a w sh0 an0
  have hql := h.lt
  obtain ⟨c0, -, c2, -, -, -⟩ := h.cells
  have d0 := (hVB.cell (p := ⟨q, 0, none⟩) hql).trans c0
  have d2 := (hVB.cell (p := ⟨q, 2, none⟩) hql).trans c2
  obtain ⟨vA, vc, rfl⟩ := h.shape
  obtain ⟨r1, r2, r3⟩ := rdyD_no (L := L) (ap := ap) (an := an) (fun h => hlt h.1)
  have hdec : decide ((an : Int) ≥ (L.length : Int)) = true := by simp; omega
  have hdec2 : L.length ≤ an := by omega
  have hVe := Lib.hid hV
  have P1 := Lib.hid (show ∀ d, ∃ w8, w8 = V.drewN d ∧ Below w.heap.size w w8 ∧ BoxA w8 w.heap.size sh0 an0 from fun d => ⟨_, rfl, below_drewN hVB d, hVA⟩)
  unfold RdyDO
  rw [r1, r2, r3]
  generalize L.length = ll at d0 hdec hdec2
  dsimp only [sh0, an0] at hVe
  clear h hV hVB hVA hVs c0 c2 r1 r2 r3 hlt
  go_enter Try.func19, Try.ntmps19
  go_upto_region 1 with fail
  rw [← hVe.out]
  go_quiet (fail)
  obtain ⟨w8, hw8, hb8, hx8⟩ := P1.out nq
  rw [← hw8]
  obtain ⟨b0, b1, b2, b3, b4⟩ := hx8.cells
  have fz := hx8.frz
  have HB8 := Lib.hid hb8
  dsimp only [sh0, an0] at b0 b1 b2 b3 b4
  clear hw8 hb8 hx8 P1 d0 d2
  go_wp2
  refine bodyPost_ret (v := .tuple #[.int .i64 0, .agg #[.int .i64 0, .bool false, .slice none 0 0, .slice none 0 0, .int .u64 0], .bool false]) (by simp [results, Try.results19, go_sem, b0, b1, b2, b3, b4]) rfl ?_
  refine ⟨sh0, rfl, ?_⟩
  exact stores_below (b := w.heap.size) (Nat.le_refl _) [.int .i64 0, .bool false, .slice none 0 0, .slice none 0 0, .int .u64 0] w w8 0 HB8.out

set_option maxHeartbeats 16000000 in
theorem dready_some {w : World} {N q : Nat} {vl : Value} {L : List It} {ap an : Nat} (h : DM w N q vl L ap an) (hlt : an < L.length) :
    Calls Try.prog 19 #[.pointer (some ⟨q, 0, none⟩)] w (RdyDO w L ap an) := by
  obtain ⟨V, hV, hVB, hVA, hVs⟩ := box_a w sh0 an0
  have hql := h.lt
  obtain ⟨c0, c1, c2, -, -, -⟩ := h.cells
  have d0 := (hVB.cell (p := ⟨q, 0, none⟩) hql).trans c0
  have d1 := (hVB.cell (p := ⟨q, 1, none⟩) hql).trans c1
  have d2 := (hVB.cell (p := ⟨q, 2, none⟩) hql).trans c2
  obtain ⟨t, cap, ev, htl, -, hh, kk, hx, -⟩ := h.at_ hlt
  subst ev
  have hx' : ∀ j, j < 15 → V.cell? ⟨t, an * 15 + j, none⟩ = (itC hh kk (im L an))[j]? := fun j hj => (hVB.cell (p := ⟨t, an * 15 + j, none⟩) htl).trans (hx j hj)
  have hdec : decide ((an : Int) ≥ (L.length : Int)) = false := by simp; omega
  have hdec2 : ¬ (L.length ≤ an) := by omega
  have hin : (an : Int) < (L.length : Int) := by omega
  have hi0 : (0 : Int) ≤ (an : Int) := by omega
  have hVe := Lib.hid hV
  have hqV : q < V.heap.size := by omega
  have htV : t < V.heap.size := by omega
  have P1 := Lib.hid (show ∀ d, ∃ w8, w8 = V.drewN d ∧ Below w.heap.size w w8 ∧ BoxA w8 w.heap.size sh0 an0 ∧ q < w8.heap.size ∧ t < w8.heap.size ∧ w.heap.size < w8.heap.size ∧ w8.cell? ⟨q, 0, none⟩ = some (.slice (some ⟨t, 0, none⟩) L.length cap) ∧ w8.cell? ⟨q, 1, none⟩ = some (.int .i64 ap) ∧ w8.cell? ⟨q, 2, none⟩ = some (.int .i64 an) ∧ (∀ j, j < 15 → w8.cell? ⟨t, an * 15 + j, none⟩ = (itC hh kk (im L an))[j]?) from
    fun d => ⟨_, rfl, below_drewN hVB d, hVA, hqV, htV, by show w.heap.size < V.heap.size; omega, d0, d1, d2, hx'⟩)
  have HR := Lib.hid (And.intro (fun h2 => rdyD_no (L := L) (ap := ap) (an := an) h2) (fun h2 => rdyD_yes (L := L) (ap := ap) (an := an) hlt h2))
  unfold RdyDO
  generalize rdyD L ap an = rb at HR ⊢
  generalize rdyDS L ap an = rs at HR ⊢
  generalize rdyDA L ap an = ra at HR ⊢
  generalize im L an = x at HR hx' P1
  generalize L.length = ll at d0 hdec hdec2 hin P1
  dsimp only [sh0, an0] at hVe
  clear h hV hVB hVA hVs c0 c1 c2 hlt hx hx' d1
  go_enter Try.func19, Try.ntmps19
  go_upto_region 1 with fail
  rw [← hVe.out]
  go_quiet (fail)
  clear d0 d2
  obtain ⟨w8, hw8, hb8, hx8, hq8, ht8, hs8, d0, d1, d2, hx'⟩ := P1.out nq
  rw [← hw8]
  have HX8 := Lib.hid (And.intro hb8 hx8)
  have HC8 := Lib.hid d1
  have k0 : w8.cell? ⟨t, an * 15, none⟩ = some (.int .i64 x.slot) := hx' 0 (by omega)
  have k1 : w8.cell? ⟨t, an * 15 + 1, none⟩ = some (.int .i64 x.grp) := hx' 1 (by omega)
  have k2 : w8.cell? ⟨t, an * 15 + 2, none⟩ = some (.int .i64 x.r.cl) := hx' 2 (by omega)
  have k3 : w8.cell? ⟨t, an * 15 + 3, none⟩ = some (.int .i64 x.r.sq) := hx' 3 (by omega)
  have k4 : w8.cell? ⟨t, an * 15 + 4, none⟩ = some (.int .i64 x.r.kind) := hx' 4 (by omega)
  have k5 : w8.cell? ⟨t, an * 15 + 5, none⟩ = some (.slice hh.A hh.n hh.c) := hx' 5 (by omega)
  have k6 : w8.cell? ⟨t, an * 15 + 6, none⟩ = some (.slice hh.B hh.m hh.d) := hx' 6 (by omega)
  have k7 : w8.cell? ⟨t, an * 15 + 7, none⟩ = some (.slice hh.C hh.o hh.p) := hx' 7 (by omega)
  have k8 : w8.cell? ⟨t, an * 15 + 8, none⟩ = some (.slice hh.D hh.q hh.s) := hx' 8 (by omega)
  have k9 : w8.cell? ⟨t, an * 15 + 9, none⟩ = some (.int .i64 x.r.limit) := hx' 9 (by omega)
  have k10 : w8.cell? ⟨t, an * 15 + 10, none⟩ = some (.int .i64 x.a.code) := hx' 10 (by omega)
  have k11 : w8.cell? ⟨t, an * 15 + 11, none⟩ = some (.bool x.a.found) := hx' 11 (by omega)
  have k12 : w8.cell? ⟨t, an * 15 + 12, none⟩ = some (.slice kk.A kk.n kk.c) := hx' 12 (by omega)
  have k13 : w8.cell? ⟨t, an * 15 + 13, none⟩ = some (.slice kk.B kk.m kk.d) := hx' 13 (by omega)
  have k14 : w8.cell? ⟨t, an * 15 + 14, none⟩ = some (.int .u64 x.a.stamp) := hx' 14 (by omega)
  have HBI := Lib.hid (box_it w8 hh kk x)
  have hnq : ¬ (q = w8.heap.size) := by omega
  have hnt : ¬ (t = w8.heap.size) := by omega
  clear hw8 hb8 hx8 hx' P1 d1 hqV htV hql htl
  go_upto_region 3 with fail
  go_region_held3 (fun w' => w'.cell? ⟨q, 0, none⟩ = some (.slice (some ⟨t, 0, none⟩) ll cap) ∧ w'.cell? ⟨q, 2, none⟩ = some (.int .i64 an) ∧ w'.cell? ⟨t, an * 15, none⟩ = some (.int .i64 x.slot) ∧ w'.cell? ⟨t, an * 15 + 1, none⟩ = some (.int .i64 x.grp) ∧ w'.cell? ⟨t, an * 15 + 2, none⟩ = some (.int .i64 x.r.cl) ∧ w'.cell? ⟨t, an * 15 + 3, none⟩ = some (.int .i64 x.r.sq) ∧ w'.cell? ⟨t, an * 15 + 4, none⟩ = some (.int .i64 x.r.kind) ∧ w'.cell? ⟨t, an * 15 + 5, none⟩ = some (.slice hh.A hh.n hh.c) ∧ w'.cell? ⟨t, an * 15 + 6, none⟩ = some (.slice hh.B hh.m hh.d) ∧ w'.cell? ⟨t, an * 15 + 7, none⟩ = some (.slice hh.C hh.o hh.p) ∧ w'.cell? ⟨t, an * 15 + 8, none⟩ = some (.slice hh.D hh.q hh.s) ∧ w'.cell? ⟨t, an * 15 + 9, none⟩ = some (.int .i64 x.r.limit) ∧ w'.cell? ⟨t, an * 15 + 10, none⟩ = some (.int .i64 x.a.code) ∧ w'.cell? ⟨t, an * 15 + 11, none⟩ = some (.bool x.a.found) ∧ w'.cell? ⟨t, an * 15 + 12, none⟩ = some (.slice kk.A kk.n kk.c) ∧ w'.cell? ⟨t, an * 15 + 13, none⟩ = some (.slice kk.B kk.m kk.d) ∧ w'.cell? ⟨t, an * 15 + 14, none⟩ = some (.int .u64 x.a.stamp)) (go_keep) (fail)
  obtain ⟨W, hW, hWB, hWc, hWs⟩ := HBI.out
  rw [← hW]
  have W9 := Lib.hid (show ∀ d, ∃ w9, w9 = W.drew.drewN d ∧ Below w.heap.size w w9 ∧ BoxA w9 w.heap.size sh0 an0 ∧ (∀ t, w9.cell? ⟨w8.heap.size, t, none⟩ = (itC hh kk x)[t]?) ∧ w9.cell? ⟨q, 1, none⟩ = some (.int .i64 ap) ∧ w8.heap.size < w9.heap.size from
    fun d => ⟨_, rfl, below_drewN (HX8.out.1.trans (hWB.mono (Nat.le_of_lt hs8))).drew d, (hWB.block _ hs8).trans HX8.out.2, hWc, (hWB.cell (p := ⟨q, 1, none⟩) hq8).trans HC8.out, by show _ < W.heap.size; omega⟩)
  have e1 : W.drew.cell? ⟨w8.heap.size, 1, none⟩ = some (.int .i64 x.grp) := hWc 1
  have e2 : W.drew.cell? ⟨q, 1, none⟩ = some (.int .i64 ap) := (hWB.cell (p := ⟨q, 1, none⟩) hq8).trans HC8.out
  generalize W.drew = wd at W9 e1 e2 ⊢
  clear hW hWB hWc hWs HBI HX8 HC8 k0 k1 k2 k3 k4 k5 k6 k7 k8 k9 k10 k11 k12 k13 k14 d0 d2 hnq hnt hq8 ht8 hdec hdec2 hin hi0
  by_cases hg : x.grp < (ap : Int)
  · obtain ⟨rfl, rfl, rfl⟩ := HR.out.2 hg
    have z1 : decide (x.grp ≥ (ap : Int)) = false := by simp; omega
    have z2 : ¬ ((ap : Int) ≤ x.grp) := by omega
    go_upto_region 4 with fail
    go_quiet (fail)
    obtain ⟨w9, hw9, hb9, hx9, hc9, -, hs9⟩ := W9.out nq
    rw [← hw9]
    obtain ⟨b0, b1, b2, b3, b4⟩ := hx9.cells
    have fz := hx9.frz
    dsimp only [sh0, an0] at b0 b1 b2 b3 b4
    have y0 : w9.cell? ⟨w8.heap.size, 0, none⟩ = some (.int .i64 x.slot) := hc9 0
    have y1 : w9.cell? ⟨w8.heap.size, 10, none⟩ = some (.int .i64 x.a.code) := hc9 10
    have y2 : w9.cell? ⟨w8.heap.size, 11, none⟩ = some (.bool x.a.found) := hc9 11
    have y3 : w9.cell? ⟨w8.heap.size, 12, none⟩ = some (.slice kk.A kk.n kk.c) := hc9 12
    have y4 : w9.cell? ⟨w8.heap.size, 13, none⟩ = some (.slice kk.B kk.m kk.d) := hc9 13
    have y5 : w9.cell? ⟨w8.heap.size, 14, none⟩ = some (.int .u64 x.a.stamp) := hc9 14
    have HB9 := Lib.hid hb9
    have n1 : ¬ (w.heap.size = w8.heap.size) := by omega
    have n2 : ¬ (w8.heap.size = w.heap.size) := by omega
    have n3 : w.heap.size ≠ w8.heap.size := n1
    have n4 : w8.heap.size ≠ w.heap.size := n2
    generalize w8.heap.size = g8 at *
    clear hw9 hb9 hx9 hc9 W9 e1 e2 HR hg z1 z2 hVe hs8
    go_upto_region 6 with fail
    go_region_held3 (fun w' => w'.cell? ⟨g8, 0, none⟩ = some (.int .i64 x.slot) ∧ w'.cell? ⟨g8, 10, none⟩ = some (.int .i64 x.a.code) ∧ w'.cell? ⟨g8, 11, none⟩ = some (.bool x.a.found) ∧ w'.cell? ⟨g8, 12, none⟩ = some (.slice kk.A kk.n kk.c) ∧ w'.cell? ⟨g8, 13, none⟩ = some (.slice kk.B kk.m kk.d) ∧ w'.cell? ⟨g8, 14, none⟩ = some (.int .u64 x.a.stamp)) (go_keep) (fail)
    go_wp2
    refine bodyPost_ret (v := .tuple #[.int .i64 x.slot, .agg #[.int .i64 x.a.code, .bool x.a.found, .slice kk.A kk.n kk.c, .slice kk.B kk.m kk.d, .int .u64 x.a.stamp], .bool true]) (by simp [results, Try.results19, go_sem, b0, b1, b2, b3, b4]) rfl ?_
    refine ⟨kk, rfl, ?_⟩
    exact (stores_below (b := w.heap.size) (Nat.le_refl _) [.int .i64 x.a.code, .bool x.a.found, .slice kk.A kk.n kk.c, .slice kk.B kk.m kk.d, .int .u64 x.a.stamp] w w9 0 HB9.out).drew
  · obtain ⟨rfl, rfl, rfl⟩ := HR.out.1 (fun h => hg h.2)
    have z1 : decide (x.grp ≥ (ap : Int)) = true := by simp; omega
    have z2 : (ap : Int) ≤ x.grp := by omega
    go_upto_region 4 with fail
    go_quiet (fail)
    obtain ⟨w9, hw9, hb9, hx9, -, -, -⟩ := W9.out nq
    rw [← hw9]
    obtain ⟨b0, b1, b2, b3, b4⟩ := hx9.cells
    have fz := hx9.frz
    dsimp only [sh0, an0] at b0 b1 b2 b3 b4
    have HB9 := Lib.hid hb9
    clear hw9 hb9 hx9 W9 e1 e2 HR hg z1 z2 hVe
    go_wp2
    refine bodyPost_ret (v := .tuple #[.int .i64 0, .agg #[.int .i64 0, .bool false, .slice none 0 0, .slice none 0 0, .int .u64 0], .bool false]) (by simp [results, Try.results19, go_sem, b0, b1, b2, b3, b4]) rfl ?_
    refine ⟨sh0, rfl, ?_⟩
    exact stores_below (b := w.heap.size) (Nat.le_refl _) [.int .i64 0, .bool false, .slice none 0 0, .slice none 0 0, .int .u64 0] w w9 0 HB9.out

theorem dready_any {w : World} {N q : Nat} {vl : Value} {L : List It} {ap an : Nat} (h : DM w N q vl L ap an) :
    Calls Try.prog 19 #[.pointer (some ⟨q, 0, none⟩)] w (RdyDO w L ap an) := by
  by_cases hlt : an < L.length
  · exact dready_some h hlt
  · exact dready_none h hlt
end Go.Proofs.Ythcchaglloggjaa

namespace Go.Proofs.Ythcchaglloggjaa
open Go.RowKit
set_option linter.unusedVariables false
set_option maxRecDepth 100000

set_option maxHeartbeats 4000000 in
theorem ddone_no {w : World} {N q : Nat} {vl : Value} {L : List It} {ap an : Nat} (h : DM w N q vl L ap an) (hr : rdyD L ap an = false) :
    Calls Try.prog 15 #[.pointer (some ⟨q, 0, none⟩)] w (DdO w N q vl 10 L ap an) := by
  have HD0 := dready_any h
  unfold RdyDO at HD0
  rw [hr] at HD0
  have HD := Lib.hid HD0
  have H := Lib.hid h
  generalize rdyDS L ap an = rs at HD
  generalize rdyDA L ap an = ra at HD
  clear h hr HD0
  go_enter Try.func15, Try.ntmps15
  go_wp2_with fail
  refine HD.out.mono ?_
  rintro e w1 ⟨k, rfl, hb⟩
  have HX := Lib.hid (box_a w1 k ra)
  have HB := Lib.hid hb
  clear hb HD
  go_upto_region 2 with fail
  obtain ⟨W, hW, hWB, -, -⟩ := HX.out
  rw [← hW]
  have HBW := Lib.hid (HB.out.trans (hWB.mono HB.out.size))
  clear hW hWB HX HB
  go_wp2
  go_ret
  exact ⟨_, rfl, H.out.below HBW.out, below_kp HBW.out⟩

--D0
set_option maxHeartbeats 8000000 in
theorem ddone_end {w : World} {N q : Nat} {vl : Value} {L : List It} {ap an : Nat} (h : DM w N q vl L ap an) (hn : L.length ≤ 1000) (hr : rdyD L ap an = true) (he : an + 1 = L.length) :
    Calls Try.prog 15 #[.pointer (some ⟨q, 0, none⟩)] w (DdO w N q vl 0 [] 0 0) := by
  have hlt : an < L.length := by
    unfold rdyD at hr
    simp only [Bool.and_eq_true, decide_eq_true_eq] at hr
    exact hr.1
  have HD0 := dready_any h
  unfold RdyDO at HD0
  rw [hr] at HD0
  have HD := Lib.hid HD0
  have H := Lib.hid h
  generalize rdyDS L ap an = rs at HD
  generalize rdyDA L ap an = ra at HD
  clear h hr HD0
  have han : (an : Int) ≤ 1000 := by omega
  have z1 : (((an + 1 : Nat) : Int) == (L.length : Int)) = true := by simp; omega
  have z2 : ((an : Int) + 1 == (L.length : Int)) = true := by simp; omega
  obtain ⟨ll, hll⟩ : ∃ ll, ll = L.length := ⟨_, rfl⟩
  rw [← hll] at z1 z2
  have HLL := Lib.hid hll
  clear he hlt hn hll
  go_enter Try.func15, Try.ntmps15
  go_wp2_with fail
  refine HD.out.mono ?_
  rintro e w1 ⟨k, rfl, hb⟩
  have HX := Lib.hid (box_a w1 k ra)
  have HB := Lib.hid hb
  clear hb HD
  go_upto_region 2 with fail
  obtain ⟨W, hW, hWB, -, -⟩ := HX.out
  rw [← hW]
  have HBW := Lib.hid (HB.out.trans (hWB.mono HB.out.size))
  have HM := Lib.hid (H.out.below HBW.out)
  obtain ⟨-, -, c2, -, -, f2⟩ := HM.out.cells
  clear hW hWB HX HB
  go_upto_region 5 with fail
  obtain ⟨h8, k8⟩ := HM.out.num (o := 2) (u := .int .i64 ((an : Int) + 1)) (ap' := ap) (an' := an + 1) rfl
  generalize W.setCell ⟨q, 2, none⟩ (.int .i64 ((an : Int) + 1)) = w8 at h8 k8 ⊢
  have P8 := Lib.hid (show ∀ d, ∃ w9, w9 = w8.drewN d ∧ DM w9 N q vl L ap (an + 1) ∧ Kp (Dq q vl) (Dq q vl) w w9 from fun d => ⟨_, rfl, h8.below (below_drewN (Below.refl _ _) d), (below_kp HBW.out).trans (k8.trans (below_kp (below_drewN (Below.refl _ _) d)))⟩)
  obtain ⟨g0, -, g2, -, -, -⟩ := h8.cells
  obtain ⟨vA, vc, rfl⟩ := h8.shape
  rw [← HLL.out] at g0
  clear h8 k8 c2 f2 HM HBW H
  go_quiet (fail)
  obtain ⟨w9, hw9, h9, k9⟩ := P8.out nq
  rw [← hw9]
  obtain ⟨y0, y1, y2, f0, f1, f2⟩ := h9.cells
  have H9 := Lib.hid (And.intro h9 k9)
  clear g0 g2 hw9 h9 k9 P8
  go_wp2
  go_ret
  obtain ⟨a1, b1⟩ := H9.out.1.empty
  obtain ⟨a2, b2⟩ := a1.num (o := 1) (u := .int .i64 0) (ap' := 0) (an' := an + 1) rfl
  obtain ⟨a3, b3⟩ := a2.num (o := 2) (u := .int .i64 0) (ap' := 0) (an' := 0) rfl
  exact ⟨_, rfl, a3, (H9.out.2.trans b1).trans (b2.trans b3)⟩
set_option maxHeartbeats 8000000 in
theorem ddone_more {w : World} {N q : Nat} {vl : Value} {L : List It} {ap an : Nat} (h : DM w N q vl L ap an) (hn : L.length ≤ 1000) (hr : rdyD L ap an = true) (he : an + 1 ≠ L.length) :
    Calls Try.prog 15 #[.pointer (some ⟨q, 0, none⟩)] w (DdO w N q vl 0 L ap (an + 1)) := by
  have hlt : an < L.length := by
    unfold rdyD at hr
    simp only [Bool.and_eq_true, decide_eq_true_eq] at hr
    exact hr.1
  have HD0 := dready_any h
  unfold RdyDO at HD0
  rw [hr] at HD0
  have HD := Lib.hid HD0
  have H := Lib.hid h
  generalize rdyDS L ap an = rs at HD
  generalize rdyDA L ap an = ra at HD
  clear h hr HD0
  have han : (an : Int) ≤ 1000 := by omega
  have z1 : (((an + 1 : Nat) : Int) == (L.length : Int)) = false := by simp; omega
  have z2 : ((an : Int) + 1 == (L.length : Int)) = false := by simp; omega
  obtain ⟨ll, hll⟩ : ∃ ll, ll = L.length := ⟨_, rfl⟩
  rw [← hll] at z1 z2
  have HLL := Lib.hid hll
  clear he hlt hn hll
  go_enter Try.func15, Try.ntmps15
  go_wp2_with fail
  refine HD.out.mono ?_
  rintro e w1 ⟨k, rfl, hb⟩
  have HX := Lib.hid (box_a w1 k ra)
  have HB := Lib.hid hb
  clear hb HD
  go_upto_region 2 with fail
  obtain ⟨W, hW, hWB, -, -⟩ := HX.out
  rw [← hW]
  have HBW := Lib.hid (HB.out.trans (hWB.mono HB.out.size))
  have HM := Lib.hid (H.out.below HBW.out)
  obtain ⟨-, -, c2, -, -, f2⟩ := HM.out.cells
  clear hW hWB HX HB
  go_upto_region 5 with fail
  obtain ⟨h8, k8⟩ := HM.out.num (o := 2) (u := .int .i64 ((an : Int) + 1)) (ap' := ap) (an' := an + 1) rfl
  generalize W.setCell ⟨q, 2, none⟩ (.int .i64 ((an : Int) + 1)) = w8 at h8 k8 ⊢
  have P8 := Lib.hid (show ∀ d, ∃ w9, w9 = w8.drewN d ∧ DM w9 N q vl L ap (an + 1) ∧ Kp (Dq q vl) (Dq q vl) w w9 from fun d => ⟨_, rfl, h8.below (below_drewN (Below.refl _ _) d), (below_kp HBW.out).trans (k8.trans (below_kp (below_drewN (Below.refl _ _) d)))⟩)
  obtain ⟨g0, -, g2, -, -, -⟩ := h8.cells
  obtain ⟨vA, vc, rfl⟩ := h8.shape
  rw [← HLL.out] at g0
  clear h8 k8 c2 f2 HM HBW H
  go_quiet (fail)
  obtain ⟨w9, hw9, h9, k9⟩ := P8.out nq
  rw [← hw9]
  have H9 := Lib.hid (And.intro h9 k9)
  clear g0 g2 hw9 h9 k9 P8
  go_wp2
  go_ret
  exact ⟨_, rfl, H9.out.1, H9.out.2⟩
--D1
set_option maxHeartbeats 4000000 in
theorem dapply_no {w : World} {N q n : Nat} {A : Option Addr} (c : Nat) {vl : Value} {L : List It} {ap an : Nat} (h : DM w N q vl L ap an) (hn : L.length ≤ 1000) (hne : n ≠ (nextD L ap L.length).length ∨ (nextD L ap L.length).length = 0) :
    Calls Try.prog 13 #[.pointer (some ⟨q, 0, none⟩), .slice A n c] w (DdO w N q vl (if (nextD L ap L.length).length = 0 then 10 else 1) L ap an) := by
  have HD0 := dnext_any h hn
  unfold DNextO at HD0
  have HD := Lib.hid HD0
  have H := Lib.hid h
  clear HD0
  generalize hM : nextD L ap L.length = M at HD hne ⊢
  obtain ⟨m, hm⟩ : ∃ m, m = M.length := ⟨_, rfl⟩
  rw [← hm] at HD hne ⊢
  clear h hn hM hm
  by_cases hz : m = 0
  · subst hz
    rw [if_pos rfl]
    clear hne
    go_enter Try.func13, Try.ntmps13
    go_wp2_with fail
    refine HD.out.mono ?_
    rintro e w1 ⟨B, d, rfl, -, hb⟩
    have HB := Lib.hid hb
    clear hb HD
    go_wp2
    go_ret
    exact ⟨_, rfl, H.out.below HB.out, below_kp HB.out⟩
  · rw [if_neg hz]
    have z0 : ((m : Int) == 0) = false := by simp; omega
    have z1 : ((n : Int) != (m : Int)) = true := by simp; omega
    clear hne
    go_enter Try.func13, Try.ntmps13
    go_wp2_with fail
    refine HD.out.mono ?_
    rintro e w1 ⟨B, d, rfl, -, hb⟩
    have HB := Lib.hid hb
    clear hb HD
    go_wp2
    go_ret
    exact ⟨_, rfl, H.out.below HB.out, below_kp HB.out⟩

set_option maxHeartbeats 16000000 in
theorem dapply_yes {w : World} {N q n : Nat} {A : Option Addr} (c : Nat) {vl : Value} {L : List It} {ap an : Nat} {Rs : List An} (h : DM w N q vl L ap an) (hn : L.length ≤ 1000) (hap : ap ≤ 1000) (hne : n = (nextD L ap L.length).length) (h0 : 0 < n)
    (ha : On (Dq q vl) w (Anss · A n Rs)) (hab : ∀ a, A = some a → Dq q vl a.block) :
    Calls Try.prog 13 #[.pointer (some ⟨q, 0, none⟩), .slice A n c] w (DdO w N q vl 0 (asg L ap Rs L.length) (ap + 1) an) := by
  have HD0 := dnext_any h hn
  unfold DNextO at HD0
  rw [← hne] at HD0
  have HD := Lib.hid HD0
  clear HD0
  have H := Lib.hid h
  have HA := Lib.hid ha
  have HAB := Lib.hid hab
  have HNL := Lib.hid (And.intro (fun i (hi : i < L.length) (hg : (im L i).grp = (ap : Int)) => hne ▸ nextD_lt hi hg) (fun i (hi : i < L.length) => nextD_step (k := ap) hi))
  have z0 : ((n : Int) == 0) = false := by simp; omega
  have z1 : ((n : Int) != (n : Int)) = false := by simp
  obtain ⟨ll, hll⟩ : ∃ ll, ll = L.length := ⟨_, rfl⟩
  have HLL := Lib.hid hll
  rw [← hll] at hn ⊢
  have hn1000 : n ≤ 1000 := by have := nextD_le L ap L.length; omega
  clear h ha hab hll hne
  go_enter Try.func13, Try.ntmps13
  go_wp2_with fail
  refine HD.out.mono ?_
  rintro e w1 ⟨B, d, rfl, -, hb⟩
  have HM1 := Lib.hid (H.out.below hb)
  have HK1 := Lib.hid (below_kp (P := Dq q vl) hb)
  clear hb HD H
  go_wp2
  go_loopw [6, 7] (fun s6 s7 wr => ∃ i : Nat, i ≤ ll ∧ s7 = .int .i64 i ∧ s6 = .int .i64 (nextD L ap i).length ∧ DM wr N q vl (asg L ap Rs i) ap an ∧ Kp (Dq q vl) (Dq q vl) w wr) (fun _ s _ => ll - (intOf s).toNat)
  case atStart => exact ⟨0, Nat.zero_le _, rfl, rfl, HM1.out, HK1.out⟩
  case round =>
    clear HM1 HK1
    obtain ⟨i, hi, rfl, rfl, hm, hk⟩ := hrel
    have HM := Lib.hid hm
    have HK := Lib.hid hk
    clear hm hk
    have hlen : (asg L ap Rs i).length = ll := by rw [asg_len, HLL.out]
    by_cases hlt : i < ll
    · have hin : (i : Int) < (ll : Int) := by omega
      have hi0 : (0 : Int) ≤ (i : Int) := by omega
      obtain ⟨x0, x1, -, -, -, -⟩ := HM.out.cells
      obtain ⟨t, cap, ev, htl, htq, hh, kk, hx, -⟩ := HM.out.at_ (show i < (asg L ap Rs i).length by omega)
      subst ev
      rw [hlen] at x0
      have him : im (asg L ap Rs i) i = im L i := by rw [asg_im L ap Rs i (by have := HLL.out; omega) i, if_neg (fun e => by omega)]
      rw [him] at hx
      have k1 : wr.cell? ⟨t, i * 15 + 1, none⟩ = some (.int .i64 (im L i).grp) := hx 1 (by omega)
      have HST := Lib.hid (HNL.out.2 i (by have := HLL.out; omega))
      have HNX := Lib.hid (HNL.out.1 i (by have := HLL.out; omega))
      have HIM := Lib.hid him
      have P8 := Lib.hid (show ∀ d, ∃ w8, w8 = wr.drewN d ∧ DM w8 N q (.slice (some ⟨t, 0, none⟩) (asg L ap Rs i).length cap) (asg L ap Rs i) ap an ∧ Kp (Dq q (.slice (some ⟨t, 0, none⟩) (asg L ap Rs i).length cap)) (Dq q (.slice (some ⟨t, 0, none⟩) (asg L ap Rs i).length cap)) w w8 from fun d => ⟨_, rfl, HM.out.below (below_drewN (Below.refl _ _) d), HK.out.trans (below_kp (below_drewN (Below.refl _ _) d))⟩)
      have HAS := Lib.hid (show asg L ap Rs (i + 1) = if (im L i).grp = (ap : Int) then (asg L ap Rs i).set i { im L i with a := aq Rs (nextD L ap i).length } else asg L ap Rs i from rfl)
      clear hx him HM HK
      by_cases heq : (im L i).grp = (ap : Int)
      · have z2 : ((im L i).grp == (ap : Int)) = true := by simpa using heq
        have hat := HNX.out heq
        rw [if_pos heq] at HST HAS
        clear heq HNX
        generalize (im L i).grp = xg at k1 z2
        go_upto_region 10 with fail
        go_quiet (fail)
        obtain ⟨w8, hw8, hm8, hk8⟩ := P8.out nq
        rw [← hw8]
        have HRA := (hk8.on HA.out (fun b hb => hb) (D' := Dq q (.slice (some ⟨t, 0, none⟩) (asg L ap Rs i).length cap)) (fun b _ _ hn => hn))
        obtain ⟨ab, ao, rfl, hal, k, y0, y1, y2, y3, y4, -⟩ := HRA.here.at_ hat
        obtain ⟨hq1, hq2⟩ := HAB.out _ rfl
        have hq1 : ab ≠ q := hq1
        have hq2 : ab ≠ t := hq2 t rfl
        have htq2 : t ≠ q := htq
        have hqt : ¬ (q = t) := fun e => htq e.symm
        have htab : ¬ (t = ab) := fun e => hq2 e.symm
        have fz := hm8.frz
        obtain ⟨e0, -, -, -, -, -⟩ := hm8.cells
        rw [hlen] at e0
        obtain ⟨t2, cap2, ev2, -, -, h2, k2, hx2, -⟩ := hm8.at_ (show i < (asg L ap Rs i).length by omega)
        injection ev2 with ev3
        injection ev3 with ev3
        injection ev3 with ev3
        subst ev3
        have v0 := hx2 10 (by omega)
        have v1 := hx2 11 (by omega)
        have v2 := hx2 12 (by omega)
        have v3 := hx2 13 (by omega)
        have v4 := hx2 14 (by omega)
        dsimp only [itC, List.getElem?_cons_succ, List.getElem?_cons_zero] at v0 v1 v2 v3 v4
        have HPUT := Lib.hid (hm8.put (show i < (asg L ap Rs i).length by omega) k (aq Rs (nextD L ap i).length))
        have HK8 := Lib.hid hk8
        have hat0 : (0 : Int) ≤ ((nextD L ap i).length : Int) := by omega
        have hat1 : ((nextD L ap i).length : Int) < (n : Int) := by omega
        clear hw8 hm8 hk8 HRA P8 x0 x1 k1 hx2 hlen
        generalize hna : (nextD L ap i).length = na at *
        generalize aq Rs na = a at *
        go_upto_region 11 with fail
        go_region_held3 (fun w' => w'.cell? ⟨q, 0, none⟩ = some (.slice (some ⟨t, 0, none⟩) ll cap) ∧ w'.cell? ⟨ab, ao + na * 5, none⟩ = some (.int .i64 a.code) ∧ w'.cell? ⟨ab, ao + na * 5 + 1, none⟩ = some (.bool a.found) ∧ w'.cell? ⟨ab, ao + na * 5 + 2, none⟩ = some (.slice k.A k.n k.c) ∧ w'.cell? ⟨ab, ao + na * 5 + 3, none⟩ = some (.slice k.B k.m k.d) ∧ w'.cell? ⟨ab, ao + na * 5 + 4, none⟩ = some (.int .u64 a.stamp)) (go_keep) (fail)
        all_goals
          have HN8 := Lib.hid (And.intro (HPUT.out.1.below (Below.drew (Below.refl _ _))) (HK8.out.trans (HPUT.out.2.trans (below_kp (Below.drew (Below.refl _ _))))))
          rw [HIM.out] at HN8
          clear HPUT HK8 HIM v0 v1 v2 v3 v4 y0 y1 y2 y3 y4 e0 fz
          go_wp2
          go_roundw
          case rel => exact ⟨i + 1, by omega, by go_num, by rw [HST.out, List.length_append, List.length_singleton, hna]; go_num, by rw [HAS.out]; exact HN8.out.1, HN8.out.2⟩
          case measure => simp [intOf]; omega
      · have z2 : ((im L i).grp == (ap : Int)) = false := by simpa using heq
        rw [if_neg heq] at HST HAS
        have HNI := Lib.hid (show (nextD L ap i).length ≤ 1000 from by have := nextD_le L ap i; have := HLL.out; omega)
        clear heq HNX
        generalize (im L i).grp = xg at k1 z2
        go_upto_region 10 with fail
        go_quiet (fail)
        obtain ⟨w8, hw8, hm8, hk8⟩ := P8.out nq
        rw [← hw8]
        have HM8 := Lib.hid (And.intro hm8 hk8)
        clear hw8 hm8 hk8 P8 x0 x1 k1
        go_wp2
        go_roundw
        case rel => exact ⟨i + 1, by omega, by go_num, by rw [HST.out], by rw [HAS.out]; exact HM8.out.1, HM8.out.2⟩
        case measure => simp [intOf]; omega
    · obtain rfl : i = ll := by omega
      have hin : ¬ ((i : Int) < (i : Int)) := by omega
      obtain ⟨x0, x1, x2, f0, f1, f2⟩ := HM.out.cells
      obtain ⟨vA, vc, rfl⟩ := HM.out.shape
      rw [hlen] at x0
      obtain ⟨h8, k8⟩ := HM.out.num (o := 1) (u := .int .i64 ((ap : Int) + 1)) (ap' := ap + 1) (an' := an) rfl
      have H8 := Lib.hid (And.intro h8 (HK.out.trans k8))
      clear h8 k8 HM HK hlen
      go_wp2
      go_ret
      exact ⟨_, rfl, H8.out.1, H8.out.2⟩
end Go.Proofs.Ythcchaglloggjaa

namespace Go.Proofs.Ythcchaglloggjaa
open Go.RowKit
set_option linter.unusedVariables false
set_option maxRecDepth 100000

/-- What the document's own loop over slots tells of the request i. -/
def mayD (L : List Int) (M : List Rq) (i : Nat) : Nat → Bool
  | 0 => mayQ (gq M i)
  | k + 1 => mayD L M i k && (it L k != it L i)
theorem mayD_iff (L : List Int) (M : List Rq) (i : Nat) : ∀ k, mayD L M i k = true ↔ mayQ (gq M i) = true ∧ ∀ t, t < k → it L t ≠ it L i
  | 0 => ⟨fun h => ⟨h, fun t ht => absurd ht (by omega)⟩, fun h => h.1⟩
  | k + 1 => by
    rw [mayD, Bool.and_eq_true, mayD_iff L M i k, bne_iff_ne]
    constructor
    · rintro ⟨⟨h1, h2⟩, h3⟩
      refine ⟨h1, fun t ht => ?_⟩
      by_cases e : t = k
      · subst e; exact h3
      · exact h2 t (by omega)
    · rintro ⟨h1, h2⟩
      exact ⟨⟨h1, fun t ht => h2 t (by omega)⟩, h2 k (by omega)⟩
theorem batch_len {L : List Int} {M : List Rq} (h : M.length = 0 ∨ L.length ≠ M.length) : batchB L M = false := by
  unfold batchB
  rcases h with h | h
  · rw [decide_eq_false (show ¬ (0 < M.length) by omega), Bool.false_and]
  · rw [decide_eq_false h, Bool.false_and, Bool.and_false]
theorem batch_iff {L : List Int} {M : List Rq} {n : Nat} (h1 : L.length = n) (h2 : M.length = n) (h0 : 0 < n) : batchB L M = true ↔ ∀ i, i < n → mayD L M i i = true := by
  have hg : ∀ i (h : i < n), gq M i = M[i] := fun i h => by unfold gq; simp [show i < M.length by omega]
  have hl : ∀ i (h : i < n), it L i = L[i] := fun i h => by unfold it; simp [show i < L.length by omega]
  unfold batchB
  simp only [Bool.and_eq_true, decide_eq_true_eq]
  constructor
  · rintro ⟨-, -, h3, h4⟩ i hi
    rw [mayD_iff]
    refine ⟨?_, fun t ht e => ?_⟩
    · rw [hg i hi]
      exact List.all_eq_true.1 h4 _ (List.getElem_mem _)
    · rw [hl t (by omega), hl i hi] at e
      exact (List.pairwise_iff_getElem.1 (List.nodup_iff_pairwise_ne.1 h3)) t i (by omega) (by omega) ht e
  · intro h
    refine ⟨by omega, by omega, ?_, ?_⟩
    · refine List.nodup_iff_pairwise_ne.2 (List.pairwise_iff_getElem.2 fun t i ht hi hti => ?_)
      have := ((mayD_iff L M i i).1 (h i (by omega))).2 t hti
      rw [hl t (by omega), hl i (by omega)] at this
      exact this
    · refine List.all_eq_true.2 fun x hx => ?_
      obtain ⟨i, hi, rfl⟩ := List.mem_iff_getElem.1 hx
      have := ((mayD_iff L M i i).1 (h i (by omega))).1
      rw [hg i (by omega)] at this
      exact this

/-- The items of a group; of groups, the first of which has the number k. -/
def mkIt (k : Nat) (x : Int × Rq) : It := ⟨x.1, k, x.2, an0⟩
def tag : Nat → List Gr → List It
  | _, [] => []
  | k, g :: T => g.map (mkIt k) ++ tag (k + 1) T
theorem tag_append : ∀ (A B : List Gr) (k : Nat), tag k (A ++ B) = tag k A ++ tag (k + A.length) B
  | [], B, k => rfl
  | g :: A, B, k => by
    rw [List.cons_append, tag, tag, tag_append A B (k + 1), List.append_assoc, List.length_cons, show k + 1 + A.length = k + (A.length + 1) by omega]
theorem tag_len : ∀ (T : List Gr) (k : Nat), (tag k T).length = sizeT T
  | [], k => rfl
  | g :: T, k => by rw [tag, List.length_append, List.length_map, tag_len T, sizeT_cons]
/-- As far as j groups and k of the next one. -/
def upTo (T : List Gr) (j k : Nat) : List It := tag 0 (T.take j) ++ ((gp T j).take k).map (mkIt j)
theorem upTo_zero (T : List Gr) : upTo T 0 0 = [] := by simp [upTo, tag]
theorem upTo_next {T : List Gr} {j : Nat} (h : j < T.length) : upTo T j (gp T j).length = upTo T (j + 1) 0 := by
  unfold upTo
  rw [List.take_of_length_le (Nat.le_refl _), List.take_zero, List.map_nil, List.append_nil, List.take_add_one, List.getElem?_eq_getElem h, tag_append, List.length_take, Nat.min_eq_left (by omega), Nat.zero_add, gp_eq h]
  simp [tag]
theorem upTo_all (T : List Gr) : upTo T T.length 0 = tag 0 T := by
  unfold upTo
  rw [List.take_of_length_le (Nat.le_refl _), List.take_zero, List.map_nil, List.append_nil]
theorem upTo_step {T : List Gr} {j k : Nat} (hk : k < (gp T j).length) : upTo T j (k + 1) = upTo T j k ++ [mkIt j (gp T j)[k]] := by
  unfold upTo
  rw [List.take_add_one, List.getElem?_eq_getElem hk, List.map_append, List.append_assoc]
  rfl
theorem upTo_len {T : List Gr} {j k : Nat} (h : j < T.length) (hk : k ≤ (gp T j).length) : (upTo T j k).length ≤ sizeT T := by
  unfold upTo
  rw [List.length_append, tag_len, List.length_map, List.length_take, Nat.min_eq_left hk]
  have h1 := sizeT_take h
  have h2 := sizeT_le T (j + 1)
  omega

/-- A block that a reading needs is among those that it lies in. -/
theorem on_in {D : Nat → Prop} {w : World} {Q : World → Prop} {b : Nat} (ho : On D w Q) (hq : ∀ w', Q w' → ∃ o v, w'.cell? ⟨b, o, none⟩ = some v) : D b := by
  apply Classical.byContradiction
  intro hn
  obtain ⟨w', hw'⟩ : ∃ w' : World, w' = { w with heap := w.heap.modify b (fun _ => .cells #[] 3 (0, 0)) } := ⟨_, rfl⟩
  have ha : Agree D w w' := ⟨by rw [hw']; simp, fun k hk hl => by
    have hkb : b ≠ k := fun e => hn (e ▸ hk)
    rw [hw']
    simp [Array.getElem?_modify, hkb]⟩
  obtain ⟨o, v, hc⟩ := hq w' (ho w' ha)
  rw [hw'] at hc
  simp only [World.cell?, Array.getElem?_modify, if_true] at hc
  cases hb : w.heap[b]? with
  | none => rw [hb] at hc; simp at hc
  | some x => rw [hb] at hc; simp at hc

/-- An item more. -/
theorem DM.push {w wa w5 : World} {N q : Nat} {vl v5 : Value} {L : List It} {ap an : Nat} {xs : List Value} {x : It} {hh : Qh} {kk : Sh} (h : DM w N q vl L ap an) (hr : ReadsI (· < N) w xs L) (hx : On (· < N) w (RqR · hh x.r)) (ha : Below w.heap.size w wa)
    (hown : w5.ownsRow N 75 15 v5 (L.length + 1) (xs ++ itC hh kk x)) (hg : wa.grownBy w5 vl.ownBlock) (hat : vl.ownBlock = v5.ownBlock ∨ v5.ownBlock = some wa.heap.size) :
    DM (w5.setCell ⟨q, 0, none⟩ v5) N q v5 (L ++ [x]) ap an ∧ Kp (Dq q vl) (Dq q v5) w (w5.setCell ⟨q, 0, none⟩ v5) := by
  have hql := h.lt
  have has := ha.size
  have hL := h.ltl
  have hgs := hg.size
  have new : ∀ b, b < wa.heap.size → Off vl b → Off v5 b := fun b hb ho k hk => by
    rcases hat with e | e
    · exact ho k (by rw [e]; exact hk)
    · rw [e] at hk; injection hk with hk; omega
  have hblk : ∀ b, b < w.heap.size → Off vl b → w5.heap[b]? = w.heap[b]? := fun b hb ho => (hg.block b (by omega) (fun e => ho b e.symm rfl)).trans (ha.block b hb)
  have hk : Kp (Dq q vl) (Dq q v5) w (w5.setCell ⟨q, 0, none⟩ v5) := by
    refine ⟨hg.os.trans ha.os, hg.tape.trans ha.tape, hg.output.trans ha.output, by simp [World.setCell]; omega, fun b hb hj => ?_, fun b hb hj => ⟨hj.1, new b (by omega) hj.2⟩⟩
    rw [Below.heap_setCell _ _ _ _ hj.1]
    exact hblk b hb hj.2
  have h5q : ∀ b, v5.ownBlock = some b → b ≠ q := fun b hb e => by
    rcases hat with e2 | e2
    · exact h.ql b (by rw [e2]; exact hb) e.symm
    · rw [e2] at hb; injection hb with hb; omega
  refine ⟨⟨?_, h.nq, ⟨xs ++ itC hh kk x, ?_, ?_⟩, new q (by omega) h.ql⟩, hk⟩
  · have e1 : w5.heap[q]? = some (.cells [vl, .int .i64 ap, .int .i64 an].toArray 29 (0, 0)) := (hblk q hql h.ql).trans h.obj
    exact set_obj v5 e1
  · rw [show (L ++ [x]).length = L.length + 1 by simp]
    exact own_agree (C := fun b => b ≠ q) hown (agree_set w5 ⟨q, 0, none⟩ v5 (by simp)) h5q
  · exact ReadsI.more (hr.imp fun Q ho => hk.on ho (fun b hb => h.low hb) fun b hb _ _ => hb) (hk.on hx (fun b hb => h.low hb) fun b hb _ _ => hb)
theorem fifteen_cells {w : World} {h : Qh} {k : Sh} {x : It} {T : TypeId} {N : Nat} (hN : w.heap.size = N) : ∀ j u, (itC h k x)[j]? = some u → (w.alloc (.cells #[.int .i64 x.slot, .int .i64 x.grp, .int .i64 x.r.cl, .int .i64 x.r.sq, .int .i64 x.r.kind, .slice h.A h.n h.c, .slice h.B h.m h.d, .slice h.C h.o h.p, .slice h.D h.q h.s, .int .i64 x.r.limit, .int .i64 x.a.code, .bool x.a.found, .slice k.A k.n k.c, .slice k.B k.m k.d, .int .u64 x.a.stamp] T)).cell? ((⟨N, 0, none⟩ : Addr).add j) = some u := by
  subst hN
  intro j u hu
  have e := Deep.blk_alloc_new w (.cells (itC h k x).toArray T)
  have ea : ((⟨w.heap.size, 0, none⟩ : Addr).add j) = ⟨w.heap.size, j, none⟩ := by
    simp only [Addr.add]
    split <;> simp_all
  show (w.alloc (.cells (itC h k x).toArray T)).cell? _ = _
  rw [ea]
  simp only [World.cell?, e]
  simpa using hu
theorem Try.infoIt : (Try.prog.info? 75).map (fun i => (i.zero, i.size, i.bytes)) = some (some (.agg #[.int .i64 0, .int .i64 0, .int .i64 0, .int .i64 0, .int .i64 0, .slice none 0 0, .slice none 0 0, .slice none 0 0, .slice none 0 0, .int .i64 0, .int .i64 0, .bool false, .slice none 0 0, .slice none 0 0, .int .u64 0]), 15, 216) := by kernel_rfl
theorem dmay_l {w : World} {h : Qh} {r : Rq} (hr : RqR w h r) (hs : smallQ r = true) :
    Calls Try.prog 28 #[.agg #[.int .i64 r.cl, .int .i64 r.sq, .int .i64 r.kind, .slice h.A h.n h.c, .slice h.B h.m h.d, .slice h.C h.o h.p, .slice h.D h.q h.s, .int .i64 r.limit]] w fun e w' => e = .returned (.bool (mayQ r)) ∧ Below w.heap.size w w' := dmay_any hr hs
end Go.Proofs.Ythcchaglloggjaa

namespace Go.Proofs.Ythcchaglloggjaa
open Go.RowKit
set_option linter.unusedVariables false
set_option maxRecDepth 100000

theorem grs_in {D : Nat → Prop} {w : World} {A : Option Addr} {n j : Nat} {G : List (List Nat)} (h : On D w (Grs · A n G)) (hj : j < n) :
    ∃ b o B m c, A = some ⟨b, o, none⟩ ∧ D b ∧ b < w.heap.size ∧ w.cell? ⟨b, o + j, none⟩ = some (.slice B m c) ∧ On D w (Nls · B m c (G.getD j [])) := by
  obtain ⟨b, o, B, m, c, rfl, hb, hc, -⟩ := h.here.at_ hj
  have hD : D b := on_in h fun w' hw' => by
    obtain ⟨b', o', B', m', c', e, -, hc', -⟩ := hw'.at_ hj
    injection e with e
    injection e with e1 e2
    subst e1
    exact ⟨_, _, hc'⟩
  refine ⟨b, o, B, m, c, rfl, hD, hb, hc, fun w' ha => ?_⟩
  obtain ⟨b', o', B', m', c', e, -, hc', hn⟩ := (h w' ha).at_ hj
  injection e with e
  injection e with e1 e2
  subst e1
  subst e2
  rw [World.cell?_of_block (ha.2 b hD hb), hc] at hc'
  injection hc' with hc'
  injection hc' with e1 e2 e3
  subst e1
  subst e2
  subst e3
  exact hn
theorem nls_in {D : Nat → Prop} {w : World} {A : Option Addr} {n c j : Nat} {L : List Nat} (h : On D w (Nls · A n c L)) (hj : j < n) :
    ∃ b o, A = some ⟨b, o, none⟩ ∧ D b ∧ b < w.heap.size ∧ w.cell? ⟨b, o + j, none⟩ = some (.int .i64 (nat L j)) := by
  obtain ⟨b, o, rfl, hb, hc⟩ := h.here.at_ hj
  refine ⟨b, o, rfl, on_in h fun w' hw' => ?_, hb, hc⟩
  obtain ⟨b', o', e, -, hc'⟩ := hw'.at_ hj
  injection e with e
  injection e with e1 e2
  subst e1
  exact ⟨_, _, hc'⟩
theorem ils_in {D : Nat → Prop} {w : World} {A : Option Addr} {n j : Nat} {L : List Int} (h : On D w (Ils · A n L)) (hj : j < n) :
    ∃ b o, A = some ⟨b, o, none⟩ ∧ D b ∧ b < w.heap.size ∧ w.cell? ⟨b, o + j, none⟩ = some (.int .i64 (it L j)) := by
  obtain ⟨b, o, rfl, hb, hc⟩ := h.here.at_ hj
  refine ⟨b, o, rfl, on_in h fun w' hw' => ?_, hb, hc⟩
  obtain ⟨b', o', e, -, hc'⟩ := hw'.at_ hj
  injection e with e
  injection e with e1 e2
  subst e1
  exact ⟨_, _, hc'⟩
/-- A request's eight cells. -/
def RqX (w : World) (b o : Nat) (h : Qh) (r : Rq) : Prop :=
  w.cell? ⟨b, o, none⟩ = some (.int .i64 r.cl) ∧ w.cell? ⟨b, o + 1, none⟩ = some (.int .i64 r.sq) ∧ w.cell? ⟨b, o + 2, none⟩ = some (.int .i64 r.kind) ∧ w.cell? ⟨b, o + 3, none⟩ = some (.slice h.A h.n h.c) ∧ w.cell? ⟨b, o + 4, none⟩ = some (.slice h.B h.m h.d) ∧
    w.cell? ⟨b, o + 5, none⟩ = some (.slice h.C h.o h.p) ∧ w.cell? ⟨b, o + 6, none⟩ = some (.slice h.D h.q h.s) ∧ w.cell? ⟨b, o + 7, none⟩ = some (.int .i64 r.limit)
theorem qh_same {w : World} {b o : Nat} {h h' : Qh} {r : Rq} (k : RqX w b o h r) (k' : RqX w b o h' r) : h' = h := by
  obtain ⟨-, -, -, a1, a2, a3, a4, -⟩ := k
  obtain ⟨-, -, -, b1, b2, b3, b4, -⟩ := k'
  rw [a1] at b1; rw [a2] at b2; rw [a3] at b3; rw [a4] at b4
  cases h
  cases h'
  simp at b1 b2 b3 b4
  simp [b1, b2, b3, b4]
theorem reqs_in {D : Nat → Prop} {w : World} {A : Option Addr} {n j : Nat} {M : List Rq} (h : On D w (Reqs · A n M)) (hj : j < n) :
    ∃ b o hh, A = some ⟨b, o, none⟩ ∧ D b ∧ b < w.heap.size ∧ RqX w b (o + j * 8) hh (gq M j) ∧ On D w (RqR · hh (gq M j)) := by
  obtain ⟨b, o, rfl, hb, hh, k0, k1, k2, k3, k4, k5, k6, k7, -⟩ := h.here.at_ hj
  have hD : D b := on_in h fun w' hw' => by
    obtain ⟨b', o', e, -, h', hc', -⟩ := hw'.at_ hj
    injection e with e
    injection e with e1 e2
    subst e1
    exact ⟨_, _, hc'⟩
  refine ⟨b, o, hh, rfl, hD, hb, ⟨k0, k1, k2, k3, k4, k5, k6, k7⟩, fun w' ha => ?_⟩
  obtain ⟨b', o', e, -, h', y0, y1, y2, y3, y4, y5, y6, y7, hr⟩ := (h w' ha).at_ hj
  injection e with e
  injection e with e1 e2
  subst e1
  subst e2
  have hk : ∀ t, w'.cell? ⟨b, t, none⟩ = w.cell? ⟨b, t, none⟩ := fun t => World.cell?_of_block (ha.2 b hD hb)
  have e9 : h' = hh := qh_same (w := w) (b := b) (o := o + j * 8) ⟨k0, k1, k2, k3, k4, k5, k6, k7⟩ ⟨(hk _).symm.trans y0, (hk _).symm.trans y1, (hk _).symm.trans y2, (hk _).symm.trans y3, (hk _).symm.trans y4, (hk _).symm.trans y5, (hk _).symm.trans y6, (hk _).symm.trans y7⟩
  rw [← e9]
  exact hr

/-- What the region that puts an item behind reads. -/
def KeS (gb go j pb po pm pc k z sb so : Nat) (sv : Int) (lb lo : Nat) (r : Rq) (hh : Qh) (w : World) : Prop :=
  w.cell? ⟨gb, go + j, none⟩ = some (.slice (some ⟨pb, po, none⟩) pm pc) ∧ w.cell? ⟨pb, po + k, none⟩ = some (.int .i64 z) ∧ w.cell? ⟨sb, so + z, none⟩ = some (.int .i64 sv) ∧ w.cell? ⟨lb, lo + z * 8, none⟩ = some (.int .i64 r.cl) ∧ w.cell? ⟨lb, lo + z * 8 + 1, none⟩ = some (.int .i64 r.sq) ∧ w.cell? ⟨lb, lo + z * 8 + 2, none⟩ = some (.int .i64 r.kind) ∧ w.cell? ⟨lb, lo + z * 8 + 3, none⟩ = some (.slice hh.A hh.n hh.c) ∧ w.cell? ⟨lb, lo + z * 8 + 4, none⟩ = some (.slice hh.B hh.m hh.d) ∧
    w.cell? ⟨lb, lo + z * 8 + 5, none⟩ = some (.slice hh.C hh.o hh.p) ∧ w.cell? ⟨lb, lo + z * 8 + 6, none⟩ = some (.slice hh.D hh.q hh.s) ∧ w.cell? ⟨lb, lo + z * 8 + 7, none⟩ = some (.int .i64 r.limit)
theorem KeS.keep {gb go j pb po pm pc k z sb so lb lo : Nat} {sv : Int} {r : Rq} {hh : Qh} {w w' : World} {D : Nat → Prop} (h : KeS gb go j pb po pm pc k z sb so sv lb lo r hh w) (ha : ∀ b, D b → b < w.heap.size → w'.heap[b]? = w.heap[b]?)
    (h1 : D gb ∧ gb < w.heap.size) (h2 : D pb ∧ pb < w.heap.size) (h3 : D sb ∧ sb < w.heap.size) (h4 : D lb ∧ lb < w.heap.size) : KeS gb go j pb po pm pc k z sb so sv lb lo r hh w' := by
  have c1 : ∀ t, w'.cell? ⟨gb, t, none⟩ = w.cell? ⟨gb, t, none⟩ := fun t => World.cell?_of_block (ha gb h1.1 h1.2)
  have c2 : ∀ t, w'.cell? ⟨pb, t, none⟩ = w.cell? ⟨pb, t, none⟩ := fun t => World.cell?_of_block (ha pb h2.1 h2.2)
  have c3 : ∀ t, w'.cell? ⟨sb, t, none⟩ = w.cell? ⟨sb, t, none⟩ := fun t => World.cell?_of_block (ha sb h3.1 h3.2)
  have c4 : ∀ t, w'.cell? ⟨lb, t, none⟩ = w.cell? ⟨lb, t, none⟩ := fun t => World.cell?_of_block (ha lb h4.1 h4.2)
  obtain ⟨k0, k1, k2, k3, k4, k5, k6, k7, k8, k9, k10⟩ := h
  exact ⟨(c1 _).trans k0, (c2 _).trans k1, (c3 _).trans k2, (c4 _).trans k3, (c4 _).trans k4, (c4 _).trans k5, (c4 _).trans k6, (c4 _).trans k7, (c4 _).trans k8, (c4 _).trans k9, (c4 _).trans k10⟩

theorem build_it (ev : Operand → Value) (o : Oper) (ho : o.op = Op.build 75 #[(0, .tmp 93), (1, .tmp 94), (2, .tmp 104)]) (sv : Int) (j : Nat) (r : Rq) (hh : Qh) (h0 : ev (.tmp 93) = .int .i64 sv) (h1 : ev (.tmp 94) = .int .i64 j)
    (h2 : ev (.tmp 104) = .agg #[.int .i64 r.cl, .int .i64 r.sq, .int .i64 r.kind, .slice hh.A hh.n hh.c, .slice hh.B hh.m hh.d, .slice hh.C hh.o hh.p, .slice hh.D hh.q hh.s, .int .i64 r.limit]) (w : World) :
    (execOp ev o).run Try.prog w = .ok (.value (.agg #[.int .i64 sv, .int .i64 j, .int .i64 r.cl, .int .i64 r.sq, .int .i64 r.kind, .slice hh.A hh.n hh.c, .slice hh.B hh.m hh.d, .slice hh.C hh.o hh.p, .slice hh.D hh.q hh.s, .int .i64 r.limit, .int .i64 0, .bool false, .slice none 0 0, .slice none 0 0, .int .u64 0])) w := by
  unfold execOp
  rw [ho]
  go_simp
theorem build_sl (ev : Operand → Value) (o : Oper) (ho : o.op = Op.buildSlice 27 1 #[(0, .tmp 105)]) (sv : Int) (j : Nat) (r : Rq) (hh : Qh) (h0 : ev (.tmp 105) = .agg #[.int .i64 sv, .int .i64 j, .int .i64 r.cl, .int .i64 r.sq, .int .i64 r.kind, .slice hh.A hh.n hh.c, .slice hh.B hh.m hh.d, .slice hh.C hh.o hh.p, .slice hh.D hh.q hh.s, .int .i64 r.limit, .int .i64 0, .bool false, .slice none 0 0, .slice none 0 0, .int .u64 0]) (w : World) :
    (execOp ev o).run Try.prog w = .ok (.value (.slice (some ⟨w.heap.size, 0, none⟩) 1 1)) (w.alloc (.cells #[.int .i64 sv, .int .i64 j, .int .i64 r.cl, .int .i64 r.sq, .int .i64 r.kind, .slice hh.A hh.n hh.c, .slice hh.B hh.m hh.d, .slice hh.C hh.o hh.p, .slice hh.D hh.q hh.s, .int .i64 r.limit, .int .i64 0, .bool false, .slice none 0 0, .slice none 0 0, .int .u64 0] 75)) := by
  unfold execOp
  rw [ho]
  go_simp
/-- One operation of a region, run to its end. -/
theorem step_run {P : Program} {ops : Array Oper} {o : Oper} {a : Act} {w w' : World} {v : Value} {K : Act → World → Prop} {Q : Exit → Act → World → Prop} {E : Prop} (hg : o.guard = none)
    (hr : (execOp a.eval o).run P w = .ok (.value v) w') (hK : K (a.put o.dst v) w') : if Region.wanted o (yielded ops a.tmps) = true then Oper.wp P o a w K Q else E := by
  have hw : Region.wanted o (yielded ops a.tmps) = true := by simp [Region.wanted, hg]
  rw [if_pos hw]
  unfold Oper.wp
  rw [hr]
  exact hK
def DbO (w : World) (N q m : Nat) (vl : Value) (kk : Int) (I : List It) (ap an : Nat) (L : List Int) (M : List Rq) (e : Ending) (w' : World) : Prop :=
  (kk ≠ 0 ∧ DdO w N q vl kk I ap an e w') ∨ (kk = 0 ∧ ∃ g, OrdI M m g ∧ DdO w N q vl 0 (tag 0 (grT L M (grpL M g m))) ap an e w')
def dbeginK (I : List It) (L : List Int) (M : List Rq) : Int := if 0 < I.length then 10 else if batchB L M = false then 1 else if 32 < M.length then 2 else 0

set_option maxHeartbeats 4000000 in
theorem dbegin_open {w : World} {N q n m : Nat} {A B : Option Addr} (c d : Nat) {vl : Value} {I : List It} {ap an : Nat} {L : List Int} {M : List Rq} (h : DM w N q vl I ap an) (h0 : 0 < I.length) :
    Calls Try.prog 10 #[.pointer (some ⟨q, 0, none⟩), .slice A n c, .slice B m d] w (DbO w N q m vl (dbeginK I L M) I ap an L M) := by
  have e : dbeginK I L M = 10 := if_pos h0
  rw [e]
  have H := Lib.hid h
  obtain ⟨c0, -, -, -, -, -⟩ := h.cells
  obtain ⟨vA, vc, rfl⟩ := h.shape
  have hz : decide ((I.length : Int) > 0) = true := by simp; omega
  have hz2 : (0 : Int) < (I.length : Int) := by omega
  obtain ⟨il, hil⟩ : ∃ il, il = I.length := ⟨_, rfl⟩
  rw [← hil] at c0 hz hz2
  clear h e h0 hil
  go_enter Try.func10, Try.ntmps10
  go_wp2
  go_ret
  exact .inl ⟨by decide, _, rfl, H.out, Kp.refl _ _⟩
set_option maxHeartbeats 4000000 in
theorem dbegin_len {w : World} {N q n m : Nat} {A B : Option Addr} (c d : Nat) {vl : Value} {ap an : Nat} {L : List Int} {M : List Rq} (h : DM w N q vl [] ap an) (hl : L.length = n) (hm : M.length = m) (hne : m = 0 ∨ n ≠ m) :
    Calls Try.prog 10 #[.pointer (some ⟨q, 0, none⟩), .slice A n c, .slice B m d] w (DbO w N q m vl (dbeginK [] L M) [] ap an L M) := by
  have e : dbeginK [] L M = 1 := by
    unfold dbeginK
    rw [if_neg (by decide), if_pos (batch_len (by omega))]
  rw [e]
  have H := Lib.hid h
  obtain ⟨c0, -, -, -, -, -⟩ := h.cells
  obtain ⟨vA, vc, rfl⟩ := h.shape
  dsimp only [List.length_nil] at c0
  clear h e
  by_cases hnm : n = m
  · obtain rfl : m = 0 := by omega
    subst hnm
    clear hne
    go_enter Try.func10, Try.ntmps10
    go_wp2
    go_ret
    exact .inl ⟨by decide, _, rfl, H.out, Kp.refl _ _⟩
  · have z1 : ((n : Int) != (m : Int)) = true := by simp; omega
    clear hne hl hm hnm
    go_enter Try.func10, Try.ntmps10
    go_wp2
    go_ret
    exact .inl ⟨by decide, _, rfl, H.out, Kp.refl _ _⟩

set_option maxHeartbeats 32000000 in
theorem dbegin_main {w : World} {N q n : Nat} {A B : Option Addr} (c d : Nat) {vl : Value} {ap an : Nat} {L : List Int} {M : List Rq} (h : DM w N q vl [] ap an) (hA : On (· < N) w (Ils · A n L)) (hB : On (· < N) w (Reqs · B n M)) (hs : ∀ j, j < n → smallQ (gq M j) = true) (h0 : 0 < n) (hm : n ≤ 100) :
    Calls Try.prog 10 #[.pointer (some ⟨q, 0, none⟩), .slice A n c, .slice B n d] w (DbO w N q n vl (dbeginK [] L M) [] ap an L M) := by
  have hbi := batch_iff hA.here.1 hB.here.1 h0
  obtain ⟨kk, hkk⟩ : ∃ kk, kk = dbeginK [] L M := ⟨_, rfl⟩
  have HKK := Lib.hid (show (batchB L M = false → kk = 1) ∧ (batchB L M = true → 32 < n → kk = 2) ∧ (batchB L M = true → ¬ 32 < n → kk = 0) from by
    rw [hkk]
    unfold dbeginK
    rw [if_neg (by decide), hB.here.1]
    refine ⟨fun e => if_pos e, fun e h => ?_, fun e h => ?_⟩
    · rw [if_neg (by rw [e]; decide), if_pos h]
    · rw [if_neg (by rw [e]; decide), if_neg h])
  rw [← hkk]
  have HBI := Lib.hid hbi
  have H := Lib.hid h
  have HA := Lib.hid hA
  have HB := Lib.hid hB
  have HS := Lib.hid hs
  have HNL := Lib.hid hA.here.1
  obtain ⟨c0, -, -, -, -, -⟩ := h.cells
  have hqw := h.lt
  obtain ⟨vA, vc, rfl⟩ := h.shape
  dsimp only [List.length_nil] at c0
  have z1 : ((n : Int) != (n : Int)) = false := by simp
  have z2 : ((n : Int) == 0) = false := by simp; omega
  clear h hA hB hs hbi hkk
  go_enter Try.func10, Try.ntmps10
  go_wp2
  clear c0
  go_loopw [7, 8, 9] (fun s7 s8 s9 wr => ∃ i : Nat, i ≤ n ∧ s7 = .int .i64 i ∧ Hid (∀ t, t < i → mayD L M t t = true) ∧ Below w.heap.size w wr) (fun s7 _ _ _ => n - (intOf s7).toNat)
  case atStart => exact ⟨0, Nat.zero_le _, rfl, Lib.hid (fun t ht => absurd ht (by omega)), Below.refl _ _⟩
  case round =>
    obtain ⟨i, hi, rfl, HP, hb⟩ := hrel
    have HBW := Lib.hid hb
    clear hb
    by_cases hlt : i < n
    · as_aux_lemma =>
      have hin : (i : Int) < (n : Int) := by omega
      have hi0 : (0 : Int) ≤ (i : Int) := by omega
      have hra := HB.out.keep (below_all HBW.out)
      obtain ⟨lb, lo, rfl, hlb, h1, x0, x1, x2, x3, x4, x5, x6, x7, hr⟩ := hra.here.at_ hlt
      have D := Lib.hid (dmay_l hr (HS.out i hlt))
      have HMZ := Lib.hid (show mayD L M i 0 = mayQ (gq M i) from rfl)
      generalize mayQ (gq M i) = mq at D HMZ
      generalize gq M i = r at x0 x1 x2 x3 x4 x5 x6 x7 hr D
      clear hr hra
      go_wp2_with fail
      refine D.out.mono ?_
      rintro e w4 ⟨rfl, hb4⟩
      have HB4 := Lib.hid (HBW.out.trans (hb4.mono HBW.out.size))
      clear hb4 D x0 x1 x2 x3 x4 x5 x6 x7
      go_wp2
      go_loopw [8, 9] (fun s8 s9 wx => ∃ k : Nat, k ≤ i ∧ s9 = .int .i64 k ∧ s8 = .bool (mayD L M i k) ∧ Below w.heap.size w wx) (fun _ s9 _ => i - (intOf s9).toNat)
      case atStart => exact ⟨0, Nat.zero_le _, rfl, by rw [HMZ.out], HB4.out⟩
      case round =>
        obtain ⟨k, hk, rfl, rfl, hb⟩ := hrel
        have HBX := Lib.hid hb
        clear hb
        by_cases hki : k < i
        · have hsl := (HA.out.keep (below_all HBX.out)).here
          obtain ⟨sb, so, rfl, hsb, y0⟩ := hsl.at_ (show k < n by omega)
          obtain ⟨sb', so', e', -, y1⟩ := hsl.at_ hlt
          injection e' with e'
          injection e' with e1 e2
          subst e1
          subst e2
          have HMS := Lib.hid (show mayD L M i (k + 1) = (mayD L M i k && (it L k != it L i)) from rfl)
          generalize mayD L M i k = mk at HMS
          generalize it L k = a at y0 HMS
          generalize it L i = b at y1 HMS
          have b0 : (k : Int) < (n : Int) := by omega
          have b1 : (0 : Int) ≤ (k : Int) := by omega
          have b2 : (k : Int) < (i : Int) := by omega
          clear hsl
          cases mk
          · go_upto_region 12 with fail
            go_quiet (fail)
            have HBQ := Lib.hid (fun q => below_drewN HBX.out q)
            go_wp2
            go_roundw
            case rel => exact ⟨k + 1, by omega, by go_num, by rw [HMS.out, Bool.false_and], HBQ.out _⟩
            case measure => simp [intOf]; omega
          · go_upto_region 12 with fail
            go_quiet (fail)
            have HBQ := Lib.hid (fun q => below_drewN HBX.out q)
            go_wp2
            go_roundw
            case rel => exact ⟨k + 1, by omega, by go_num, by rw [HMS.out, Bool.true_and], HBQ.out _⟩
            case measure => simp [intOf]; omega
        · obtain rfl : k = i := by omega
          have hnk : ¬ ((k : Int) < (k : Int)) := by omega
          cases hmd : mayD L M k k
          · have hbt : batchB L M = false := by
              rw [Bool.eq_false_iff]
              intro e
              have := HBI.out.1 e k hlt
              rw [hmd] at this
              cases this
            obtain rfl := HKK.out.1 hbt
            clear hmd hbt
            go_wp2
            go_ret
            exact .inl ⟨by decide, _, rfl, H.out.below HBX.out, below_kp HBX.out⟩
          · have HMD := Lib.hid hmd
            clear hmd
            go_wp2
            go_roundw
            case rel => exact ⟨k + 1, by omega, by go_num, Lib.hid (fun t ht => by
              by_cases e : t = k
              · subst e; exact HMD.out
              · exact HP.out t (by omega)), HBX.out⟩
            case measure => simp [intOf]; omega
    · obtain rfl : i = n := by omega
      have hni : ¬ ((i : Int) < (i : Int)) := by omega
      have HBT := Lib.hid (HBI.out.2 HP.out)
      by_cases hbig : 32 < i
      · obtain rfl := HKK.out.2.1 HBT.out hbig
        have z3 : decide ((i : Int) > 32) = true := by simp; omega
        have z4 : (32 : Int) < (i : Int) := by omega
        go_wp2
        go_ret
        exact .inl ⟨by decide, _, rfl, H.out.below HBW.out, below_kp HBW.out⟩
      · obtain rfl := HKK.out.2.2 HBT.out hbig
        have z3 : decide ((i : Int) > 32) = false := by simp; omega
        have z4 : ¬ ((32 : Int) < (i : Int)) := by omega
        obtain ⟨n, hnn⟩ : ∃ n, n = i := ⟨_, rfl⟩
        subst hnn
        have D := Lib.hid (dgroups_any d ((HB.out.keep (below_all HBW.out)).here) HS.out (by omega))
        go_wp2_with fail
        refine D.out.mono ?_
        rintro e w3 ⟨GB, gc, g, rfl, hor, hgr, hb3⟩
        have HOR := Lib.hid hor
        have HB3 := Lib.hid (HBW.out.trans (hb3.mono HBW.out.size))
        have hws : w.heap.size ≤ wr.heap.size := HBW.out.size
        have HM3 := Lib.hid (H.out.below HB3.out)
        have HGR := Lib.hid (hgr.mono (C' := Dq q (.slice vA 0 vc)) (fun b hb => by
          have hb' : wr.heap.size ≤ b := hb
          exact H.out.new (by omega)))
        have HIN := Lib.hid (show ∀ j, j < (grpL M g n).length → ((grpL M g n).getD j []).length ≤ n ∧ ∀ t, t < ((grpL M g n).getD j []).length → nat ((grpL M g n).getD j []) t < n from fun j hj => by
          have hmem : (grpL M g n).getD j [] ∈ grpL M g n := by
            rw [List.getD_eq_getElem?_getD, List.getElem?_eq_getElem hj]
            exact List.getElem_mem hj
          refine ⟨(grpL_in hor hmem).1, fun t ht => ?_⟩
          rw [nat_eq ht]
          exact (grpL_in hor hmem).2 _ (List.getElem_mem ht))
        have HGP := Lib.hid (show ∀ j, j < (grpL M g n).length → gp (grT L M (grpL M g n)) j = ((grpL M g n).getD j []).map fun i => (it L i, gq M i) from fun j hj => by
          rw [gp_eq (show j < (grT L M (grpL M g n)).length by unfold grT; simpa using hj)]
          simp only [grT, List.getElem_map]
          rw [List.getD_eq_getElem?_getD, List.getElem?_eq_getElem hj]
          rfl)
        have HSZ := Lib.hid (show sizeT (grT L M (grpL M g n)) = n from by
          rw [sizeT_grT, grpL_flat]
          simp)
        have HGL := Lib.hid (show (grT L M (grpL M g n)).length = (grpL M g n).length from by unfold grT; simp)
        have hgl32 := len_size (T := grT L M (grpL M g n)) (fun x hx => by
          obtain ⟨P, hP, rfl⟩ := List.mem_map.1 hx
          rw [List.length_map]
          exact List.length_pos_iff.2 (grpL_ne M g n P hP))
        rw [HSZ.out, HGL.out] at hgl32
        obtain ⟨GT, hGT⟩ : ∃ GT, GT = grT L M (grpL M g n) := ⟨_, rfl⟩
        rw [← hGT] at HGP HGL HSZ
        have HGE := Lib.hid hGT
        clear hGT
        generalize grpL M g n = G at HGR HIN HGP HGL hgl32 ⊢
        obtain ⟨gl, hgle⟩ : ∃ gl, gl = G.length := ⟨_, rfl⟩
        rw [← hgle] at HGR HIN HGP HGL hgl32 ⊢
        clear hor hgr hb3 D hgle HP HBI HKK HBT
        go_wp2
        go_loopw [11, 12] (fun s11 s12 wy => ∃ j : Nat, j ≤ gl ∧ s11 = .int .i64 j ∧ ∃ v, DM wy N q v (upTo GT j 0) ap an ∧ Kp (Dq q (.slice vA 0 vc)) (Dq q v) w3 wy) (fun s11 _ _ => gl - (intOf s11).toNat)
        case atStart => exact ⟨0, Nat.zero_le _, rfl, _, by rw [upTo_zero]; exact HM3.out, Kp.refl _ _⟩
        case round =>
          clear HM3
          rename World => wy
          obtain ⟨j, hj, rfl, v0, hmj, hkj⟩ := hrel
          have HMJ := Lib.hid hmj
          have HKJ := Lib.hid hkj
          clear hmj hkj
          by_cases hjl : j < gl
          · as_aux_lemma =>
            have hj1 : (j : Int) < (gl : Int) := by omega
            have hj0 : (0 : Int) ≤ (j : Int) := by omega
            have HGPJ := Lib.hid (HGP.out j hjl)
            have HINJ := Lib.hid (HIN.out j hjl).2
            have hpn := (HIN.out j hjl).1
            have hgr := (HKJ.out.on HGR.out (fun b hb => hb) (D' := Dq q v0) (fun b _ _ hn => hn))
            obtain ⟨gb, go, PB, pm, pc, rfl, hgD, hgb, g0, hP⟩ := grs_in hgr hjl
            have hpm : (G.getD j []).length = pm := hP.here.1
            have hpm32 : pm ≤ 32 := by omega
            clear hgr hP hpn
            go_wp2
            go_loopw [12] (fun s12 wx => ∃ k : Nat, k ≤ pm ∧ s12 = .int .i64 k ∧ ∃ v, DM wx N q v (upTo GT j k) ap an ∧ Kp (Dq q (.slice vA 0 vc)) (Dq q v) w3 wx) (fun s12 _ => pm - (intOf s12).toNat)
            case atStart => exact ⟨0, Nat.zero_le _, rfl, _, HMJ.out, HKJ.out⟩
            case round =>
              clear g0 hgD hgb HMJ HKJ
              rename World => wx
              obtain ⟨k, hk, rfl, v, hmk, hkk⟩ := hrel
              have hgr := (hkk.on HGR.out (fun b hb => hb) (D' := Dq q v) (fun b _ _ hn => hn))
              obtain ⟨gb', go', PB', pm', pc', e', hgD, hgb, g0, hP⟩ := grs_in hgr hjl
              injection e' with e'
              injection e' with e1 e2
              subst e1
              subst e2
              obtain rfl : pm' = pm := by have := hP.here.1; omega
              by_cases hkp : k < pm'
              · obtain ⟨pb, po, rfl, hpD, hpb, p0⟩ := nls_in hP hkp
                have hz := HINJ.out k (by omega)
                have hra := hkk.on ((HA.out.keep (below_all HB3.out)).mono (fun b hb => hb)) (fun b hb => H.out.low hb) (D' := (· < N)) (fun b hb _ _ => hb)
                have hrb := hkk.on ((HB.out.keep (below_all HB3.out)).mono (fun b hb => hb)) (fun b hb => H.out.low hb) (D' := (· < N)) (fun b hb _ _ => hb)
                have HUT := Lib.hid (show upTo GT j (k + 1) = upTo GT j k ++ [⟨it L (nat (G.getD j []) k), j, gq M (nat (G.getD j []) k), an0⟩] from by
                  rw [upTo_step (show k < (gp GT j).length by rw [HGPJ.out, List.length_map]; omega)]
                  congr 2
                  simp only [HGPJ.out, List.getElem_map]
                  rw [nat_eq (show k < (G.getD j []).length by omega)]
                  rfl)
                have hul : (upTo GT j k).length ≤ n := by
                  have := upTo_len (T := GT) (j := j) (k := k) (by rw [HGL.out]; exact hjl) (by rw [HGPJ.out, List.length_map]; omega)
                  rw [HSZ.out] at this
                  exact this
                obtain ⟨z, hzz⟩ : ∃ z, z = nat (G.getD j []) k := ⟨_, rfl⟩
                rw [← hzz] at p0 hz HUT
                obtain ⟨sb, so, rfl, hsN, hsb, s0⟩ := ils_in hra hz
                obtain ⟨lb, lo, hh, rfl, hlN, hlb, ⟨l0, l1, l2, l3, l4, l5, l6, l7⟩, hrr⟩ := reqs_in hrb hz
                have hsN : sb < N := hsN
                have hlN : lb < N := hlN
                generalize it L z = sv at s0 HUT
                generalize gq M z = r at l0 l1 l2 l3 l4 l5 l6 l7 hrr HUT
                obtain ⟨vA, vc, rfl⟩ := hmk.shape
                obtain ⟨xs, hown, hrd⟩ := hmk.row
                obtain ⟨q0, -, -, f0, -, -⟩ := hmk.cells
                have hqx := hmk.lt
                have hnq : ¬ (q = wx.heap.size) := by omega
                have hNx : N ≤ wx.heap.size := by have := hmk.nq; omega
                have HS0 : KeS gb go j pb po pm' pc' k z sb so sv lb lo r hh wx := ⟨g0, p0, s0, l0, l1, l2, l3, l4, l5, l6, l7⟩
                have hal : Below wx.heap.size wx (wx.alloc (.cells #[.int .i64 sv, .int .i64 j, .int .i64 r.cl, .int .i64 r.sq, .int .i64 r.kind, .slice hh.A hh.n hh.c, .slice hh.B hh.m hh.d, .slice hh.C hh.o hh.p, .slice hh.D hh.q hh.s, .int .i64 r.limit, .int .i64 0, .bool false, .slice none 0 0, .slice none 0 0, .int .u64 0] 75)) := (Below.refl _ _).alloc (Nat.le_refl _) _
                have HSK : ∀ w', (∀ b, Dq q (.slice vA (upTo GT j k).length vc) b → b < wx.heap.size → w'.heap[b]? = wx.heap[b]?) → KeS gb go j pb po pm' pc' k z sb so sv lb lo r hh w' := fun w' ha => HS0.keep ha ⟨hgD, hgb⟩ ⟨hpD, hpb⟩ ⟨hmk.low hsN, hsb⟩ ⟨hmk.low hlN, hlb⟩
                have HGB : ∀ w5, (wx.alloc (.cells #[.int .i64 sv, .int .i64 j, .int .i64 r.cl, .int .i64 r.sq, .int .i64 r.kind, .slice hh.A hh.n hh.c, .slice hh.B hh.m hh.d, .slice hh.C hh.o hh.p, .slice hh.D hh.q hh.s, .int .i64 r.limit, .int .i64 0, .bool false, .slice none 0 0, .slice none 0 0, .int .u64 0] 75)).grownBy w5 (Value.slice vA (upTo GT j k).length vc).ownBlock → ∀ b, b < wx.heap.size → Off (.slice vA (upTo GT j k).length vc) b → w5.heap[b]? = wx.heap[b]? := fun w5 hg b hb ho => (hg.block b (by rw [alloc_sz]; omega) (fun e => ho b e.symm rfl)).trans (hal.block b hb)
                have HSD := Lib.hid (show KeS gb go j pb po pm' pc' k z sb so sv lb lo r hh wx.drew from HS0)
                have HSA := Lib.hid (HSK (wx.alloc (.cells #[.int .i64 sv, .int .i64 j, .int .i64 r.cl, .int .i64 r.sq, .int .i64 r.kind, .slice hh.A hh.n hh.c, .slice hh.B hh.m hh.d, .slice hh.C hh.o hh.p, .slice hh.D hh.q hh.s, .int .i64 r.limit, .int .i64 0, .bool false, .slice none 0 0, .slice none 0 0, .int .u64 0] 75)) (fun b _ hb => hal.block b hb))
                have HSG := Lib.hid (fun w5 hg => HSK w5 (fun b hD hb => HGB w5 hg b hb hD.2))
                have HSG2 := Lib.hid (fun w5 (v : Value) hg => HSK (w5.setCell ⟨q, 0, none⟩ v) (fun b hD hb => (Below.heap_setCell _ _ _ _ hD.1).trans (HGB w5 hg b hb hD.2)))
                have HQ5 := Lib.hid (show ∀ w5, (wx.alloc (.cells #[.int .i64 sv, .int .i64 j, .int .i64 r.cl, .int .i64 r.sq, .int .i64 r.kind, .slice hh.A hh.n hh.c, .slice hh.B hh.m hh.d, .slice hh.C hh.o hh.p, .slice hh.D hh.q hh.s, .int .i64 r.limit, .int .i64 0, .bool false, .slice none 0 0, .slice none 0 0, .int .u64 0] 75)).grownBy w5 (Value.slice vA (upTo GT j k).length vc).ownBlock → w5.cell? ⟨q, 0, none⟩ = some (.slice vA (upTo GT j k).length vc) ∧ w5.frozen? ⟨q, 0, none⟩ = false from fun w5 hg => by
                  have e := HGB w5 hg q hqx hmk.ql
                  have e1 := e.trans hmk.obj
                  simp [World.cell?, World.frozen?, e1])
                have HMX := Lib.hid (And.intro hmk (And.intro hrd (And.intro hrr hal)))
                have HKX := Lib.hid hkk
                have HO := Lib.hid (World.ownsRow.alloc hown (.cells #[.int .i64 sv, .int .i64 j, .int .i64 r.cl, .int .i64 r.sq, .int .i64 r.kind, .slice hh.A hh.n hh.c, .slice hh.B hh.m hh.d, .slice hh.C hh.o hh.p, .slice hh.D hh.q hh.s, .int .i64 r.limit, .int .i64 0, .bool false, .slice none 0 0, .slice none 0 0, .int .u64 0] 75))
                have HFC := Lib.hid (fifteen_cells (h := hh) (k := sh0) (x := ⟨sv, j, r, an0⟩) (T := 75) (show wx.heap.size = wx.heap.size from rfl))
                have HNS := Lib.hid (show N ≤ (wx.alloc (.cells #[.int .i64 sv, .int .i64 j, .int .i64 r.cl, .int .i64 r.sq, .int .i64 r.kind, .slice hh.A hh.n hh.c, .slice hh.B hh.m hh.d, .slice hh.C hh.o hh.p, .slice hh.D hh.q hh.s, .int .i64 r.limit, .int .i64 0, .bool false, .slice none 0 0, .slice none 0 0, .int .u64 0] 75)).heap.size from by rw [alloc_sz]; omega)
                obtain ⟨i0, hi, hz0, hz1, hz2⟩ := info_parts Try.infoIt
                have HI := Lib.hid hi
                have HZ := Lib.hid (And.intro hz0 (And.intro hz1 hz2))
                obtain ⟨ul, hull⟩ : ∃ ul, ul = (upTo GT j k).length := ⟨_, rfl⟩
                rw [← hull] at q0 hul HSG HSG2 HQ5 HMX HKX HO hgD hpD
                have HUL := Lib.hid hull
                have hz0' : (0 : Int) ≤ (z : Int) := by omega
                have hz1' : (z : Int) < (n : Int) := by omega
                have hk0 : (0 : Int) ≤ (k : Int) := by omega
                have hk1 : (k : Int) < (pm' : Int) := by omega
                clear hgr hP hra hrb hzz hmk hkk hown hrd hrr hal HS0 HSK HGB hull hi hz0 hz1 hz2 g0 p0 s0 l0 l1 l2 l3 l4 l5 l6 l7
                have g0 := HSD.out.1
                have g0 : wx.cell? ⟨gb, go + j, none⟩ = some (.slice (some ⟨pb, po, none⟩) pm' pc') := g0
                obtain ⟨pm, hpmm⟩ : ∃ pm, pm = pm' := ⟨_, rfl⟩
                subst hpmm
                obtain ⟨pc, hpcc⟩ : ∃ pc, pc = pc' := ⟨_, rfl⟩
                subst hpcc
                go_upto_region 24 with fail
                clear g0
                refine wp_region_held_drew (S := (fun w' => KeS gb go j pb po pm pc k z sb so sv lb lo r hh w')) (by kernel_rfl) ?_ (fun hHeld => ?_)
                · exact HSD.out
                refine wpAnyH_take (i := 0) (v := .pointer (some ⟨q, 0, none⟩)) rfl (by kernel_rfl) (by kernel_rfl) (by kernel_rfl) (fun _ _ _ h => h) (Or.inl ⟨by rfl, fun w' hSw => ?_⟩) hHeld ?_
                · obtain ⟨s0, s1, s2, s3, s4, s5, s6, s7, s8, s9, s10⟩ := hSw
                  go_simp
                try simp only [Act.put, List.getElem_toArray, List.getElem_cons_zero, List.setIfInBounds_toArray, List.set_cons_zero, List.set_cons_succ]
                refine wpAnyH_take (i := 1) (v := .pointer (some ⟨q, 0, none⟩)) rfl (by kernel_rfl) (by kernel_rfl) (by kernel_rfl) (fun _ _ _ h => h) (Or.inl ⟨by rfl, fun w' hSw => ?_⟩) hHeld ?_
                · obtain ⟨s0, s1, s2, s3, s4, s5, s6, s7, s8, s9, s10⟩ := hSw
                  go_simp
                try simp only [Act.put, List.getElem_toArray, List.getElem_cons_zero, List.getElem_cons_succ, List.setIfInBounds_toArray, List.set_cons_zero, List.set_cons_succ]
                refine wpAnyH_take (i := 2) (v := .pointer (some ⟨q, 0, none⟩)) rfl (by kernel_rfl) (by kernel_rfl) (by kernel_rfl) (fun _ _ _ h => h) (Or.inl ⟨by rfl, fun w' hSw => ?_⟩) hHeld ?_
                · obtain ⟨s0, s1, s2, s3, s4, s5, s6, s7, s8, s9, s10⟩ := hSw
                  go_simp
                try simp only [Act.put, List.getElem_toArray, List.getElem_cons_zero, List.getElem_cons_succ, List.setIfInBounds_toArray, List.set_cons_zero, List.set_cons_succ]
                refine wpAnyH_take (i := 3) (v := .pointer (some ⟨q, 0, none⟩)) rfl (by kernel_rfl) (by kernel_rfl) (by kernel_rfl) (fun _ _ _ h => h) (Or.inl ⟨by rfl, fun w' hSw => ?_⟩) hHeld ?_
                · obtain ⟨s0, s1, s2, s3, s4, s5, s6, s7, s8, s9, s10⟩ := hSw
                  go_simp
                try simp only [Act.put, List.getElem_toArray, List.getElem_cons_zero, List.getElem_cons_succ, List.setIfInBounds_toArray, List.set_cons_zero, List.set_cons_succ]
                refine wpAnyH_take (i := 5) (v := .slice (some ⟨sb, so, none⟩) n c) rfl (by kernel_rfl) (by kernel_rfl) (by kernel_rfl) (fun _ _ _ h => h) (Or.inl ⟨by rfl, fun w' hSw => ?_⟩) hHeld ?_
                · obtain ⟨s0, s1, s2, s3, s4, s5, s6, s7, s8, s9, s10⟩ := hSw
                  go_simp
                try simp only [Act.put, List.getElem_toArray, List.getElem_cons_zero, List.getElem_cons_succ, List.setIfInBounds_toArray, List.set_cons_zero, List.set_cons_succ]
                refine wpAnyH_take (i := 6) (v := .slice (some ⟨gb, go, none⟩) gl gc) rfl (by kernel_rfl) (by kernel_rfl) (by kernel_rfl) (fun _ _ _ h => h) (Or.inl ⟨by rfl, fun w' hSw => ?_⟩) hHeld ?_
                · obtain ⟨s0, s1, s2, s3, s4, s5, s6, s7, s8, s9, s10⟩ := hSw
                  go_simp
                try simp only [Act.put, List.getElem_toArray, List.getElem_cons_zero, List.getElem_cons_succ, List.setIfInBounds_toArray, List.set_cons_zero, List.set_cons_succ]
                refine wpAnyH_take (i := 7) (v := .int .i64 j) rfl (by kernel_rfl) (by kernel_rfl) (by kernel_rfl) (fun _ _ _ h => h) (Or.inl ⟨by rfl, fun w' hSw => ?_⟩) hHeld ?_
                · obtain ⟨s0, s1, s2, s3, s4, s5, s6, s7, s8, s9, s10⟩ := hSw
                  go_simp
                try simp only [Act.put, List.getElem_toArray, List.getElem_cons_zero, List.getElem_cons_succ, List.setIfInBounds_toArray, List.set_cons_zero, List.set_cons_succ]
                refine wpAnyH_take (i := 8) (v := .pointer (some ⟨gb, go + j, none⟩)) rfl (by kernel_rfl) (by kernel_rfl) (by kernel_rfl) (fun _ _ _ h => h) (Or.inl ⟨by rfl, fun w' hSw => ?_⟩) hHeld ?_
                · obtain ⟨s0, s1, s2, s3, s4, s5, s6, s7, s8, s9, s10⟩ := hSw
                  go_simp
                try simp only [Act.put, List.getElem_toArray, List.getElem_cons_zero, List.getElem_cons_succ, List.setIfInBounds_toArray, List.set_cons_zero, List.set_cons_succ]
                refine wpAnyH_take (i := 9) (v := .slice (some ⟨pb, po, none⟩) pm pc) rfl (by kernel_rfl) (by kernel_rfl) (by kernel_rfl) (fun _ _ _ h => h) (Or.inl ⟨by rfl, fun w' hSw => ?_⟩) hHeld ?_
                · obtain ⟨s0, s1, s2, s3, s4, s5, s6, s7, s8, s9, s10⟩ := hSw
                  go_simp
                try simp only [Act.put, List.getElem_toArray, List.getElem_cons_zero, List.getElem_cons_succ, List.setIfInBounds_toArray, List.set_cons_zero, List.set_cons_succ]
                refine wpAnyH_take (i := 10) (v := .int .i64 k) rfl (by kernel_rfl) (by kernel_rfl) (by kernel_rfl) (fun _ _ _ h => h) (Or.inl ⟨by rfl, fun w' hSw => ?_⟩) hHeld ?_
                · obtain ⟨s0, s1, s2, s3, s4, s5, s6, s7, s8, s9, s10⟩ := hSw
                  go_simp
                try simp only [Act.put, List.getElem_toArray, List.getElem_cons_zero, List.getElem_cons_succ, List.setIfInBounds_toArray, List.set_cons_zero, List.set_cons_succ]
                refine wpAnyH_take (i := 11) (v := .pointer (some ⟨pb, po + k, none⟩)) rfl (by kernel_rfl) (by kernel_rfl) (by kernel_rfl) (fun _ _ _ h => h) (Or.inl ⟨by rfl, fun w' hSw => ?_⟩) hHeld ?_
                · obtain ⟨s0, s1, s2, s3, s4, s5, s6, s7, s8, s9, s10⟩ := hSw
                  go_simp
                try simp only [Act.put, List.getElem_toArray, List.getElem_cons_zero, List.getElem_cons_succ, List.setIfInBounds_toArray, List.set_cons_zero, List.set_cons_succ]
                refine wpAnyH_take (i := 12) (v := .int .i64 z) rfl (by kernel_rfl) (by kernel_rfl) (by kernel_rfl) (fun _ _ _ h => h) (Or.inl ⟨by rfl, fun w' hSw => ?_⟩) hHeld ?_
                · obtain ⟨s0, s1, s2, s3, s4, s5, s6, s7, s8, s9, s10⟩ := hSw
                  go_simp
                try simp only [Act.put, List.getElem_toArray, List.getElem_cons_zero, List.getElem_cons_succ, List.setIfInBounds_toArray, List.set_cons_zero, List.set_cons_succ]
                refine wpAnyH_take (i := 13) (v := .pointer (some ⟨sb, so + z, none⟩)) rfl (by kernel_rfl) (by kernel_rfl) (by kernel_rfl) (fun _ _ _ h => h) (Or.inl ⟨by rfl, fun w' hSw => ?_⟩) hHeld ?_
                · obtain ⟨s0, s1, s2, s3, s4, s5, s6, s7, s8, s9, s10⟩ := hSw
                  go_simp
                try simp only [Act.put, List.getElem_toArray, List.getElem_cons_zero, List.getElem_cons_succ, List.setIfInBounds_toArray, List.set_cons_zero, List.set_cons_succ]
                refine wpAnyH_take (i := 14) (v := .int .i64 sv) rfl (by kernel_rfl) (by kernel_rfl) (by kernel_rfl) (fun _ _ _ h => h) (Or.inl ⟨by rfl, fun w' hSw => ?_⟩) hHeld ?_
                · obtain ⟨s0, s1, s2, s3, s4, s5, s6, s7, s8, s9, s10⟩ := hSw
                  go_simp
                try simp only [Act.put, List.getElem_toArray, List.getElem_cons_zero, List.getElem_cons_succ, List.setIfInBounds_toArray, List.set_cons_zero, List.set_cons_succ]
                refine wpAnyH_take (i := 15) (v := .int .i64 j) rfl (by kernel_rfl) (by kernel_rfl) (by kernel_rfl) (fun _ _ _ h => h) (Or.inl ⟨by rfl, fun w' hSw => ?_⟩) hHeld ?_
                · obtain ⟨s0, s1, s2, s3, s4, s5, s6, s7, s8, s9, s10⟩ := hSw
                  go_simp
                try simp only [Act.put, List.getElem_toArray, List.getElem_cons_zero, List.getElem_cons_succ, List.setIfInBounds_toArray, List.set_cons_zero, List.set_cons_succ]
                refine wpAnyH_take (i := 16) (v := .slice (some ⟨lb, lo, none⟩) n d) rfl (by kernel_rfl) (by kernel_rfl) (by kernel_rfl) (fun _ _ _ h => h) (Or.inl ⟨by rfl, fun w' hSw => ?_⟩) hHeld ?_
                · obtain ⟨s0, s1, s2, s3, s4, s5, s6, s7, s8, s9, s10⟩ := hSw
                  go_simp
                try simp only [Act.put, List.getElem_toArray, List.getElem_cons_zero, List.getElem_cons_succ, List.setIfInBounds_toArray, List.set_cons_zero, List.set_cons_succ]
                refine wpAnyH_take (i := 17) (v := .slice (some ⟨gb, go, none⟩) gl gc) rfl (by kernel_rfl) (by kernel_rfl) (by kernel_rfl) (fun _ _ _ h => h) (Or.inl ⟨by rfl, fun w' hSw => ?_⟩) hHeld ?_
                · obtain ⟨s0, s1, s2, s3, s4, s5, s6, s7, s8, s9, s10⟩ := hSw
                  go_simp
                try simp only [Act.put, List.getElem_toArray, List.getElem_cons_zero, List.getElem_cons_succ, List.setIfInBounds_toArray, List.set_cons_zero, List.set_cons_succ]
                refine wpAnyH_take (i := 18) (v := .int .i64 j) rfl (by kernel_rfl) (by kernel_rfl) (by kernel_rfl) (fun _ _ _ h => h) (Or.inl ⟨by rfl, fun w' hSw => ?_⟩) hHeld ?_
                · obtain ⟨s0, s1, s2, s3, s4, s5, s6, s7, s8, s9, s10⟩ := hSw
                  go_simp
                try simp only [Act.put, List.getElem_toArray, List.getElem_cons_zero, List.getElem_cons_succ, List.setIfInBounds_toArray, List.set_cons_zero, List.set_cons_succ]
                refine wpAnyH_take (i := 19) (v := .pointer (some ⟨gb, go + j, none⟩)) rfl (by kernel_rfl) (by kernel_rfl) (by kernel_rfl) (fun _ _ _ h => h) (Or.inl ⟨by rfl, fun w' hSw => ?_⟩) hHeld ?_
                · obtain ⟨s0, s1, s2, s3, s4, s5, s6, s7, s8, s9, s10⟩ := hSw
                  go_simp
                try simp only [Act.put, List.getElem_toArray, List.getElem_cons_zero, List.getElem_cons_succ, List.setIfInBounds_toArray, List.set_cons_zero, List.set_cons_succ]
                refine wpAnyH_take (i := 20) (v := .slice (some ⟨pb, po, none⟩) pm pc) rfl (by kernel_rfl) (by kernel_rfl) (by kernel_rfl) (fun _ _ _ h => h) (Or.inl ⟨by rfl, fun w' hSw => ?_⟩) hHeld ?_
                · obtain ⟨s0, s1, s2, s3, s4, s5, s6, s7, s8, s9, s10⟩ := hSw
                  go_simp
                try simp only [Act.put, List.getElem_toArray, List.getElem_cons_zero, List.getElem_cons_succ, List.setIfInBounds_toArray, List.set_cons_zero, List.set_cons_succ]
                refine wpAnyH_take (i := 21) (v := .int .i64 k) rfl (by kernel_rfl) (by kernel_rfl) (by kernel_rfl) (fun _ _ _ h => h) (Or.inl ⟨by rfl, fun w' hSw => ?_⟩) hHeld ?_
                · obtain ⟨s0, s1, s2, s3, s4, s5, s6, s7, s8, s9, s10⟩ := hSw
                  go_simp
                try simp only [Act.put, List.getElem_toArray, List.getElem_cons_zero, List.getElem_cons_succ, List.setIfInBounds_toArray, List.set_cons_zero, List.set_cons_succ]
                refine wpAnyH_take (i := 22) (v := .pointer (some ⟨pb, po + k, none⟩)) rfl (by kernel_rfl) (by kernel_rfl) (by kernel_rfl) (fun _ _ _ h => h) (Or.inl ⟨by rfl, fun w' hSw => ?_⟩) hHeld ?_
                · obtain ⟨s0, s1, s2, s3, s4, s5, s6, s7, s8, s9, s10⟩ := hSw
                  go_simp
                try simp only [Act.put, List.getElem_toArray, List.getElem_cons_zero, List.getElem_cons_succ, List.setIfInBounds_toArray, List.set_cons_zero, List.set_cons_succ]
                refine wpAnyH_take (i := 23) (v := .int .i64 z) rfl (by kernel_rfl) (by kernel_rfl) (by kernel_rfl) (fun _ _ _ h => h) (Or.inl ⟨by rfl, fun w' hSw => ?_⟩) hHeld ?_
                · obtain ⟨s0, s1, s2, s3, s4, s5, s6, s7, s8, s9, s10⟩ := hSw
                  go_simp
                try simp only [Act.put, List.getElem_toArray, List.getElem_cons_zero, List.getElem_cons_succ, List.setIfInBounds_toArray, List.set_cons_zero, List.set_cons_succ]
                refine wpAnyH_take (i := 24) (v := .pointer (some ⟨lb, lo + z * 8, none⟩)) rfl (by kernel_rfl) (by kernel_rfl) (by kernel_rfl) (fun _ _ _ h => h) (Or.inl ⟨by rfl, fun w' hSw => ?_⟩) hHeld ?_
                · obtain ⟨s0, s1, s2, s3, s4, s5, s6, s7, s8, s9, s10⟩ := hSw
                  go_simp
                try simp only [Act.put, List.getElem_toArray, List.getElem_cons_zero, List.getElem_cons_succ, List.setIfInBounds_toArray, List.set_cons_zero, List.set_cons_succ]
                refine wpAnyH_take (i := 25) (v := .agg #[.int .i64 r.cl, .int .i64 r.sq, .int .i64 r.kind, .slice hh.A hh.n hh.c, .slice hh.B hh.m hh.d, .slice hh.C hh.o hh.p, .slice hh.D hh.q hh.s, .int .i64 r.limit]) rfl (by kernel_rfl) (by kernel_rfl) (by kernel_rfl) (fun _ _ _ h => h) (Or.inl ⟨by rfl, fun w' hSw => ?_⟩) hHeld ?_
                · obtain ⟨s0, s1, s2, s3, s4, s5, s6, s7, s8, s9, s10⟩ := hSw
                  go_simp
                try simp only [Act.put, List.getElem_toArray, List.getElem_cons_zero, List.getElem_cons_succ, List.setIfInBounds_toArray, List.set_cons_zero, List.set_cons_succ]
                refine wpAnyH_take (i := 26) (v := .agg #[.int .i64 sv, .int .i64 j, .int .i64 r.cl, .int .i64 r.sq, .int .i64 r.kind, .slice hh.A hh.n hh.c, .slice hh.B hh.m hh.d, .slice hh.C hh.o hh.p, .slice hh.D hh.q hh.s, .int .i64 r.limit, .int .i64 0, .bool false, .slice none 0 0, .slice none 0 0, .int .u64 0]) rfl (by kernel_rfl) (by kernel_rfl) (by kernel_rfl) (fun _ _ _ h => h) (Or.inl ⟨by rfl, fun w' hSw => ?_⟩) hHeld ?_
                · exact build_it _ _ rfl sv j r hh (by rfl) (by rfl) (by rfl) w'
                try simp only [Act.put, List.getElem_toArray, List.getElem_cons_zero, List.getElem_cons_succ, List.setIfInBounds_toArray, List.set_cons_zero, List.set_cons_succ]
                refine wpAnyH_ready (rs := [4, 27]) (by kernel_rfl) (by simp) ?_
                refine (AllReadyH.cons rfl (fun K hK => ?_) (AllReadyH.cons rfl (fun K hK => ?_) AllReadyH.nil))
                · skip
                  go_simp
                  refine hK.out _ _ hHeld (fun hHeld => ?_)
                  clear hK K
                  try simp only [Act.put, List.getElem_toArray, List.getElem_cons_zero, List.getElem_cons_succ, List.setIfInBounds_toArray, List.set_cons_zero, List.set_cons_succ]
                  refine wpAnyH_ready (rs := [27]) (by kernel_rfl) (by simp) ?_
                  refine (AllReadyH.cons rfl (fun K hK => ?_) AllReadyH.nil)
                  refine step_run rfl (build_sl _ _ rfl sv j r hh (by rfl) _) ?_
                  refine hK.out _ _ HSA.out (fun hHeld => ?_)
                  clear hK K
                  try simp only [Act.put, List.getElem_toArray, List.getElem_cons_zero, List.getElem_cons_succ, List.setIfInBounds_toArray, List.set_cons_zero, List.set_cons_succ]
                  refine wpAnyH_ready (rs := [28]) (by kernel_rfl) (by simp) ?_
                  refine (AllReadyH.cons rfl (fun K hK => ?_) AllReadyH.nil)
                  refine step_append_at _ (by rfl) _ _ 27 (by rfl) N 75 i0 (.agg #[.int .i64 0, .int .i64 0, .int .i64 0, .int .i64 0, .int .i64 0, .slice none 0 0, .slice none 0 0, .slice none 0 0, .slice none 0 0, .int .i64 0, .int .i64 0, .bool false, .slice none 0 0, .slice none 0 0, .int .u64 0]) 15 216 Try.underlying27 HI.out HZ.out.1 HZ.out.2.1 HZ.out.2.2 (by rfl) (by decide) (.slice vA ul vc) ul xs (by rfl) HO.out ⟨wx.heap.size, 0, none⟩ 1 1 (itC hh sh0 ⟨sv, j, r, an0⟩) (by rfl) (by rfl) HFC.out (itC_one hh sh0 ⟨sv, j, r, an0⟩) (by unfold maxLen; omega) (by omega) HNS.out ?_
                  intro v5 w5 hown5 hg5 hat5
                  obtain ⟨A5, c5, rfl, -⟩ := own_new hown5
                  have hg5 : (wx.alloc (.cells #[.int .i64 sv, .int .i64 j, .int .i64 r.cl, .int .i64 r.sq, .int .i64 r.kind, .slice hh.A hh.n hh.c, .slice hh.B hh.m hh.d, .slice hh.C hh.o hh.p, .slice hh.D hh.q hh.s, .int .i64 r.limit, .int .i64 0, .bool false, .slice none 0 0, .slice none 0 0, .int .u64 0] 75)).grownBy w5 (Value.slice vA ul vc).ownBlock := ⟨hg5.os, hg5.tape, hg5.output, hg5.size, hg5.block⟩
                  have HG5 := Lib.hid (And.intro hown5 (And.intro hg5 hat5))
                  have q5 := HQ5.out _ hg5
                  have HS5 := Lib.hid (HSG.out _ hg5)
                  have HS6 := Lib.hid (HSG2.out _ (.slice A5 (ul + 1) c5) hg5)
                  clear hown5 hg5 hat5
                  refine hK.out _ _ HS5.out (fun hHeld => ?_)
                  clear hK K
                  try simp only [Act.put, List.getElem_toArray, List.getElem_cons_zero, List.getElem_cons_succ, List.setIfInBounds_toArray, List.set_cons_zero, List.set_cons_succ]
                  obtain ⟨q50, q5f⟩ := q5
                  refine wpAnyH_take (i := 29) (v := .pointer (some ⟨q, 0, none⟩)) rfl (by kernel_rfl) (by kernel_rfl) (by kernel_rfl) (fun _ _ _ h => h) (Or.inl ⟨by rfl, fun w' hSw => ?_⟩) hHeld ?_
                  · obtain ⟨s0, s1, s2, s3, s4, s5, s6, s7, s8, s9, s10⟩ := hSw
                    go_simp
                  try simp only [Act.put, List.getElem_toArray, List.getElem_cons_zero, List.getElem_cons_succ, List.setIfInBounds_toArray, List.set_cons_zero, List.set_cons_succ]
                  refine wpAnyH_take (i := 30) (v := .pointer (some ⟨q, 0, none⟩)) rfl (by kernel_rfl) (by kernel_rfl) (by kernel_rfl) (fun _ _ _ h => h) (Or.inl ⟨by rfl, fun w' hSw => ?_⟩) hHeld ?_
                  · obtain ⟨s0, s1, s2, s3, s4, s5, s6, s7, s8, s9, s10⟩ := hSw
                    go_simp
                  try simp only [Act.put, List.getElem_toArray, List.getElem_cons_zero, List.getElem_cons_succ, List.setIfInBounds_toArray, List.set_cons_zero, List.set_cons_succ]
                  refine wpAnyH_ready (rs := [31]) (by kernel_rfl) (by simp) ?_
                  refine (AllReadyH.cons rfl (fun K hK => ?_) AllReadyH.nil)
                  go_simp
                  refine hK.out _ _ HS6.out (fun hHeld => ?_)
                  clear hK K hHeld q50 q5f HS5 HS6
                  refine wpAnyH_done (by kernel_rfl) ?_ _
                  have HNX := Lib.hid (HMX.out.1.push (v5 := .slice A5 (ul + 1) c5) (x := ⟨sv, j, r, an0⟩) (hh := hh) (kk := sh0) HMX.out.2.1 HMX.out.2.2.1 HMX.out.2.2.2 (by rw [← HUL.out]; exact HG5.out.1) HG5.out.2.1 (HG5.out.2.2.imp Eq.symm id))
                  have HKN := Lib.hid (HKX.out.trans HNX.out.2)
                  clear HG5 HMX HKX HO HFC HNS HI HZ HSD HSA HSG HSG2 HQ5
                  go_wp2
                  go_roundw
                  case rel => exact ⟨k + 1, by omega, by go_num, _, by rw [HUT.out]; exact HNX.out.1, HKN.out⟩
                  case measure => simp [intOf]; omega
                · skip
                  refine step_run rfl (build_sl _ _ rfl sv j r hh (by rfl) _) ?_
                  refine hK.out _ _ HSA.out (fun hHeld => ?_)
                  clear hK K
                  try simp only [Act.put, List.getElem_toArray, List.getElem_cons_zero, List.getElem_cons_succ, List.setIfInBounds_toArray, List.set_cons_zero, List.set_cons_succ]
                  refine wpAnyH_ready (rs := [4]) (by kernel_rfl) (by simp) ?_
                  refine (AllReadyH.cons rfl (fun K hK => ?_) AllReadyH.nil)
                  go_simp
                  refine hK.out _ _ hHeld (fun hHeld => ?_)
                  clear hK K
                  try simp only [Act.put, List.getElem_toArray, List.getElem_cons_zero, List.getElem_cons_succ, List.setIfInBounds_toArray, List.set_cons_zero, List.set_cons_succ]
                  refine wpAnyH_ready (rs := [28]) (by kernel_rfl) (by simp) ?_
                  refine (AllReadyH.cons rfl (fun K hK => ?_) AllReadyH.nil)
                  refine step_append_at _ (by rfl) _ _ 27 (by rfl) N 75 i0 (.agg #[.int .i64 0, .int .i64 0, .int .i64 0, .int .i64 0, .int .i64 0, .slice none 0 0, .slice none 0 0, .slice none 0 0, .slice none 0 0, .int .i64 0, .int .i64 0, .bool false, .slice none 0 0, .slice none 0 0, .int .u64 0]) 15 216 Try.underlying27 HI.out HZ.out.1 HZ.out.2.1 HZ.out.2.2 (by rfl) (by decide) (.slice vA ul vc) ul xs (by rfl) HO.out ⟨wx.heap.size, 0, none⟩ 1 1 (itC hh sh0 ⟨sv, j, r, an0⟩) (by rfl) (by rfl) HFC.out (itC_one hh sh0 ⟨sv, j, r, an0⟩) (by unfold maxLen; omega) (by omega) HNS.out ?_
                  intro v5 w5 hown5 hg5 hat5
                  obtain ⟨A5, c5, rfl, -⟩ := own_new hown5
                  have hg5 : (wx.alloc (.cells #[.int .i64 sv, .int .i64 j, .int .i64 r.cl, .int .i64 r.sq, .int .i64 r.kind, .slice hh.A hh.n hh.c, .slice hh.B hh.m hh.d, .slice hh.C hh.o hh.p, .slice hh.D hh.q hh.s, .int .i64 r.limit, .int .i64 0, .bool false, .slice none 0 0, .slice none 0 0, .int .u64 0] 75)).grownBy w5 (Value.slice vA ul vc).ownBlock := ⟨hg5.os, hg5.tape, hg5.output, hg5.size, hg5.block⟩
                  have HG5 := Lib.hid (And.intro hown5 (And.intro hg5 hat5))
                  have q5 := HQ5.out _ hg5
                  have HS5 := Lib.hid (HSG.out _ hg5)
                  have HS6 := Lib.hid (HSG2.out _ (.slice A5 (ul + 1) c5) hg5)
                  clear hown5 hg5 hat5
                  refine hK.out _ _ HS5.out (fun hHeld => ?_)
                  clear hK K
                  try simp only [Act.put, List.getElem_toArray, List.getElem_cons_zero, List.getElem_cons_succ, List.setIfInBounds_toArray, List.set_cons_zero, List.set_cons_succ]
                  obtain ⟨q50, q5f⟩ := q5
                  refine wpAnyH_take (i := 29) (v := .pointer (some ⟨q, 0, none⟩)) rfl (by kernel_rfl) (by kernel_rfl) (by kernel_rfl) (fun _ _ _ h => h) (Or.inl ⟨by rfl, fun w' hSw => ?_⟩) hHeld ?_
                  · obtain ⟨s0, s1, s2, s3, s4, s5, s6, s7, s8, s9, s10⟩ := hSw
                    go_simp
                  try simp only [Act.put, List.getElem_toArray, List.getElem_cons_zero, List.getElem_cons_succ, List.setIfInBounds_toArray, List.set_cons_zero, List.set_cons_succ]
                  refine wpAnyH_take (i := 30) (v := .pointer (some ⟨q, 0, none⟩)) rfl (by kernel_rfl) (by kernel_rfl) (by kernel_rfl) (fun _ _ _ h => h) (Or.inl ⟨by rfl, fun w' hSw => ?_⟩) hHeld ?_
                  · obtain ⟨s0, s1, s2, s3, s4, s5, s6, s7, s8, s9, s10⟩ := hSw
                    go_simp
                  try simp only [Act.put, List.getElem_toArray, List.getElem_cons_zero, List.getElem_cons_succ, List.setIfInBounds_toArray, List.set_cons_zero, List.set_cons_succ]
                  refine wpAnyH_ready (rs := [31]) (by kernel_rfl) (by simp) ?_
                  refine (AllReadyH.cons rfl (fun K hK => ?_) AllReadyH.nil)
                  go_simp
                  refine hK.out _ _ HS6.out (fun hHeld => ?_)
                  clear hK K hHeld q50 q5f HS5 HS6
                  refine wpAnyH_done (by kernel_rfl) ?_ _
                  have HNX := Lib.hid (HMX.out.1.push (v5 := .slice A5 (ul + 1) c5) (x := ⟨sv, j, r, an0⟩) (hh := hh) (kk := sh0) HMX.out.2.1 HMX.out.2.2.1 HMX.out.2.2.2 (by rw [← HUL.out]; exact HG5.out.1) HG5.out.2.1 (HG5.out.2.2.imp Eq.symm id))
                  have HKN := Lib.hid (HKX.out.trans HNX.out.2)
                  clear HG5 HMX HKX HO HFC HNS HI HZ HSD HSA HSG HSG2 HQ5
                  go_wp2
                  go_roundw
                  case rel => exact ⟨k + 1, by omega, by go_num, _, by rw [HUT.out]; exact HNX.out.1, HKN.out⟩
                  case measure => simp [intOf]; omega
              · obtain rfl : k = pm' := by omega
                have hnk : ¬ ((k : Int) < (k : Int)) := by omega
                have HMN := Lib.hid (show DM wx N q v (upTo GT (j + 1) 0) ap an from by
                  have e := upTo_next (T := GT) (j := j) (by rw [HGL.out]; exact hjl)
                  rw [show (gp GT j).length = k by rw [HGPJ.out, List.length_map]; omega] at e
                  rw [← e]
                  exact hmk)
                have HKN := Lib.hid hkk
                clear hmk hkk hgr hP
                go_wp2
                go_roundw
                case rel => exact ⟨j + 1, by omega, by go_num, _, HMN.out, HKN.out⟩
                case measure => simp [intOf]; omega
          · obtain rfl : j = gl := by omega
            have hnj : ¬ ((j : Int) < (j : Int)) := by omega
            have HMN := Lib.hid (show DM wy N q v0 (tag 0 GT) ap an from by
              have := HMJ.out
              rw [← HGL.out, upTo_all] at this
              exact this)
            go_wp2
            go_ret
            refine .inr ⟨rfl, g, HOR.out, _, rfl, ?_, (below_kp HB3.out).trans HKJ.out⟩
            rw [← HGE.out]
            exact HMN.out
theorem dbegin_any {w : World} {N q n m : Nat} {A B : Option Addr} (c d : Nat) {vl : Value} {I : List It} {ap an : Nat} {L : List Int} {M : List Rq} (h : DM w N q vl I ap an) (hA : On (· < N) w (Ils · A n L)) (hB : On (· < N) w (Reqs · B m M)) (hs : ∀ j, j < m → smallQ (gq M j) = true) (hm : m ≤ 100) :
    Calls Try.prog 10 #[.pointer (some ⟨q, 0, none⟩), .slice A n c, .slice B m d] w (DbO w N q m vl (dbeginK I L M) I ap an L M) := by
  by_cases h0 : 0 < I.length
  · exact dbegin_open c d h h0
  · obtain rfl : I = [] := List.length_eq_zero_iff.1 (by omega)
    by_cases hne : m = 0 ∨ n ≠ m
    · exact dbegin_len c d h hA.here.1 hB.here.1 hne
    · obtain rfl : n = m := by omega
      exact dbegin_main c d h hA hB hs (by omega) hm
end Go.Proofs.Ythcchaglloggjaa

namespace Go.Proofs.Ythcchaglloggjaa
open Go.RowKit
set_option linter.unusedVariables false
set_option maxRecDepth 100000

theorem im_ext {L K : List It} (hl : L.length = K.length) (h : ∀ j, j < L.length → im L j = im K j) : L = K :=
  List.ext_getElem hl fun j h1 h2 => by rw [← im_eq h1, ← im_eq h2]; exact h j h1
theorem im_mem {L : List It} {j : Nat} (h : j < L.length) : im L j ∈ L := by rw [im_eq h]; exact List.getElem_mem h
theorem tag_ge : ∀ (T : List Gr) (k : Nat) (x : It), x ∈ tag k T → (k : Int) ≤ x.grp
  | [], k, x, h => by cases h
  | g :: T, k, x, h => by
    rw [tag] at h
    rcases List.mem_append.1 h with h | h
    · obtain ⟨y, -, rfl⟩ := List.mem_map.1 h
      exact Int.le_refl _
    · have := tag_ge T (k + 1) x h
      omega
theorem fil_none {A : List It} {p : It → Bool} (h : ∀ x ∈ A, p x = false) : A.filter p = [] :=
  List.filter_eq_nil_iff.2 fun x hx e => by rw [h x hx] at e; cases e
theorem fil_all {A : List It} {p : It → Bool} (h : ∀ x ∈ A, p x = true) : A.filter p = A := List.filter_eq_self.2 h
theorem mk_snd (k : Nat) (g : Gr) : (g.map (mkIt k)).map It.r = g.map Prod.snd := by rw [List.map_map]; rfl

/-- Both journals hold the same. -/
structure DI (T : List Gr) (R : List Ry) (L : List It) (ap an : Nat) : Prop where
  parts : ∃ A B, L = A ++ (B ++ tag ap T) ∧ A.length = an ∧ (∀ x ∈ A, x.grp < (ap : Int)) ∧ (∀ x ∈ B, x.grp < (ap : Int)) ∧ B.map (fun x => (x.slot, x.a)) = R
  reset : T = [] → R = [] → L = [] ∧ ap = 0 ∧ an = 0
  apf : ap + T.length ≤ 32
  lenf : L.length ≤ 32
theorem di_nil : DI [] [] [] 0 0 := ⟨⟨[], [], rfl, rfl, (fun x hx => by cases hx), (fun x hx => by cases hx), rfl⟩, fun _ _ => ⟨rfl, rfl, rfl⟩, by decide, by decide⟩
theorem DI.count {T : List Gr} {R : List Ry} {L : List It} {ap an : Nat} (h : DI T R L ap an) : L.length = an + (R.length + sizeT T) := by
  obtain ⟨A, B, rfl, hl, -, -, rfl⟩ := h.parts
  rw [List.length_append, List.length_append, tag_len, List.length_map, hl]
theorem DI.next {T : List Gr} {R : List Ry} {L : List It} {ap an : Nat} (h : DI T R L ap an) : nextD L ap L.length = nextG T := by
  obtain ⟨A, B, rfl, -, hA, hB, -⟩ := h.parts
  unfold nextD
  rw [List.take_of_length_le (Nat.le_refl _), List.filter_append, List.filter_append, fil_none (A := A) (fun x hx => by have := hA x hx; simp; omega), fil_none (A := B) (fun x hx => by have := hB x hx; simp; omega), List.nil_append, List.nil_append]
  cases T with
  | nil => rfl
  | cons g T =>
    rw [tag, List.filter_append, fil_all (A := g.map (mkIt ap)) (fun x hx => by obtain ⟨y, -, rfl⟩ := List.mem_map.1 hx; simp [mkIt]), fil_none (A := tag (ap + 1) T) (fun x hx => by have := tag_ge T (ap + 1) x hx; simp; omega), List.append_nil, mk_snd]
    rfl
theorem DI.rest {T : List Gr} {R : List Ry} {L : List It} {ap an : Nat} (h : DI T R L ap an) : restD L ap L.length = sizeT T := by
  obtain ⟨A, B, rfl, -, hA, hB, -⟩ := h.parts
  unfold restD
  rw [List.take_of_length_le (Nat.le_refl _), List.filter_append, List.filter_append, fil_none (A := A) (fun x hx => by have := hA x hx; simp; omega), fil_none (A := B) (fun x hx => by have := hB x hx; simp; omega), List.nil_append, List.nil_append, fil_all (A := tag ap T) (fun x hx => by have := tag_ge T ap x hx; simp; omega), tag_len]
theorem DI.ready {T : List Gr} {R : List Ry} {L : List It} {ap an : Nat} (h : DI T R L ap an) : rdyD L ap an = rdyB R ∧ rdyDS L ap an = rdyS R ∧ rdyDA L ap an = rdyA R := by
  obtain ⟨A, B, rfl, rfl, hA, hB, hR⟩ := h.parts
  cases B with
  | nil =>
    subst hR
    have := rdyD_no (L := A ++ ([] ++ tag ap T)) (ap := ap) (an := A.length) (fun ⟨h1, h2⟩ => by
      rw [List.nil_append] at h1 h2
      rw [List.length_append] at h1
      have e : im (A ++ tag ap T) A.length = im (tag ap T) 0 := im_right (j := 0)
      rw [e] at h2
      have := tag_ge T ap _ (im_mem (show 0 < (tag ap T).length by omega))
      omega)
    exact this
  | cons b B =>
    subst hR
    have e : im (A ++ (b :: B ++ tag ap T)) A.length = b := by
      have := im_right (L := A) (K := b :: B ++ tag ap T) (j := 0)
      rw [Nat.add_zero] at this
      rw [this]
      rfl
    have := rdyD_yes (L := A ++ (b :: B ++ tag ap T)) (ap := ap) (an := A.length) (by simp) (by rw [e]; exact hB b (by simp))
    rw [e] at this
    exact this
theorem size_zero {T : List Gr} (h : ∀ g ∈ T, 0 < g.length) (h0 : sizeT T = 0) : T = [] := by
  have := len_size h
  exact List.length_eq_zero_iff.1 (by omega)
theorem DI.open {T : List Gr} {R : List Ry} {L : List It} {ap an : Nat} (h : DI T R L ap an) (hok : OkJ T R) : openB T R = decide (0 < L.length) := by
  unfold openB
  rw [decide_eq_decide]
  have hc := h.count
  have hl := len_size hok.ne
  constructor
  · intro h0
    omega
  · intro h0
    by_cases e : T.length + R.length = 0
    · have := (h.reset (List.length_eq_zero_iff.1 (by omega)) (List.length_eq_zero_iff.1 (by omega))).1
      subst this
      simp at h0
    · omega
theorem DI.beginK {T : List Gr} {R : List Ry} {L : List It} {ap an : Nat} (h : DI T R L ap an) (hok : OkJ T R) (S : List Int) (M : List Rq) : dbeginK L S M = beginK T R S M := by
  have := h.open hok
  unfold dbeginK Go.Proofs.Ythcchaglloggjaa.beginK
  rw [this]
  by_cases e : 0 < L.length
  · rw [if_pos e, decide_eq_true e, if_pos rfl]
  · rw [if_neg e, decide_eq_false e, if_neg (show ¬ (false = true) by decide)]
theorem di_begun {T : List Gr} (h : sizeT T ≤ 32) (hne : ∀ g ∈ T, 0 < g.length) : DI T [] (tag 0 T) 0 0 := by
  have := len_size hne
  refine ⟨⟨[], [], rfl, rfl, (fun x hx => by cases hx), (fun x hx => by cases hx), rfl⟩, fun e _ => ?_, by omega, by rw [tag_len]; exact h⟩
  subst e
  exact ⟨rfl, rfl, rfl⟩

/-- A group is applied. -/
def ansIt (k : Nat) (g : Gr) (As : List An) : List It := (g.zip As).map fun q => ⟨q.1.1, k, q.1.2, q.2⟩
theorem DI.apply {g : Gr} {T : List Gr} {R : List Ry} {L : List It} {ap an : Nat} {As : List An} (h : DI (g :: T) R L ap an) (hok : OkJ (g :: T) R) (hl : As.length = g.length) : DI T (R ++ zipA g As) (asg L ap As L.length) (ap + 1) an := by
  have hlen := h.lenf
  have hapf := h.apf
  obtain ⟨A, B, rfl, hA0, hA, hB, rfl⟩ := h.parts
  have hG : (ansIt ap g As).length = g.length := by unfold ansIt; simp [hl]
  have key : asg (A ++ (B ++ tag ap (g :: T))) ap As (A ++ (B ++ tag ap (g :: T))).length = A ++ (B ++ (ansIt ap g As ++ tag (ap + 1) T)) := by
    have hsz : (tag ap (g :: T)).length = g.length + (tag (ap + 1) T).length := by rw [tag, List.length_append, List.length_map]
    refine im_ext (by rw [asg_len, List.length_append, List.length_append, List.length_append, List.length_append, List.length_append, hG, hsz]) fun j hj => ?_
    rw [asg_len] at hj
    rw [asg_im _ _ _ _ (Nat.le_refl _) j]
    by_cases h1 : j < A.length
    · rw [im_left h1, im_left h1, if_neg (fun e => by have := hA _ (im_mem h1); omega)]
    obtain ⟨j1, rfl⟩ : ∃ j1, j = A.length + j1 := ⟨j - A.length, by omega⟩
    rw [im_right, im_right]
    by_cases h2 : j1 < B.length
    · rw [im_left h2, im_left h2, if_neg (fun e => by have := hB _ (im_mem h2); omega)]
    obtain ⟨j2, rfl⟩ : ∃ j2, j1 = B.length + j2 := ⟨j1 - B.length, by omega⟩
    rw [im_right, im_right, tag]
    by_cases h3 : j2 < g.length
    · have h3' : j2 < (g.map (mkIt ap)).length := by rw [List.length_map]; exact h3
      have e1 : im (g.map (mkIt ap) ++ tag (ap + 1) T) j2 = mkIt ap g[j2] := by
        rw [im_left h3', im_eq h3', List.getElem_map]
      have e2 : im (ansIt ap g As ++ tag (ap + 1) T) j2 = ⟨(g[j2]).1, ap, (g[j2]).2, As[j2]'(by omega)⟩ := by
        rw [im_left (by omega), im_eq (by omega)]
        simp only [ansIt, List.getElem_map, List.getElem_zip]
      rw [e1, e2, if_pos ⟨by rw [tag] at hj; exact hj, rfl⟩]
      have e3 : (nextD (A ++ (B ++ (g.map (mkIt ap) ++ tag (ap + 1) T))) ap (A.length + (B.length + j2))).length = j2 := by
        unfold nextD
        rw [List.length_map, List.take_append, List.take_append, List.take_append, List.take_of_length_le (show A.length ≤ A.length + (B.length + j2) by omega), show A.length + (B.length + j2) - A.length = B.length + j2 by omega, List.take_of_length_le (show B.length ≤ B.length + j2 by omega), show B.length + j2 - B.length = j2 by omega, List.length_map, show j2 - g.length = 0 by omega, List.take_zero, List.append_nil, List.filter_append, List.filter_append, fil_none (A := A) (fun x hx => by have := hA x hx; simp; omega), fil_none (A := B) (fun x hx => by have := hB x hx; simp; omega), List.nil_append, List.nil_append,
          fil_all (A := (g.map (mkIt ap)).take j2) (fun x hx => by obtain ⟨y, -, rfl⟩ := List.mem_map.1 (List.mem_of_mem_take hx); simp [mkIt]), List.length_take, List.length_map]
        omega
      rw [e3]
      unfold aq mkIt
      rw [List.getD_eq_getElem?_getD, List.getElem?_eq_getElem (show j2 < As.length by omega)]
      rfl
    · obtain ⟨j3, rfl⟩ : ∃ j3, j2 = g.length + j3 := ⟨j2 - g.length, by omega⟩
      have e1 : im (g.map (mkIt ap) ++ tag (ap + 1) T) (g.length + j3) = im (tag (ap + 1) T) j3 := by
        have := im_right (L := g.map (mkIt ap)) (K := tag (ap + 1) T) (j := j3)
        rw [List.length_map] at this
        exact this
      have e2 : im (ansIt ap g As ++ tag (ap + 1) T) (g.length + j3) = im (tag (ap + 1) T) j3 := by
        have := im_right (L := ansIt ap g As) (K := tag (ap + 1) T) (j := j3)
        rw [hG] at this
        exact this
      rw [e1, e2, if_neg (fun e => by
        have h4 : j3 < (tag (ap + 1) T).length := by
          rw [List.length_append, List.length_append, hsz] at hj
          omega
        have := tag_ge T (ap + 1) _ (im_mem h4)
        omega)]
  have hgne := hok.ne g (by simp)
  refine ⟨⟨A, B ++ ansIt ap g As, ?_, hA0, fun x hx => by have := hA x hx; omega, fun x hx => ?_, ?_⟩, fun _ e => ?_, by simp at hapf ⊢; omega, by rw [asg_len]; exact hlen⟩
  · rw [key, List.append_assoc]
  · rcases List.mem_append.1 hx with hx | hx
    · have := hB x hx; omega
    · obtain ⟨y, -, rfl⟩ := List.mem_map.1 hx
      show (ap : Int) < ((ap + 1 : Nat) : Int)
      omega
  · rw [List.map_append]
    congr 1
    unfold ansIt zipA
    rw [List.map_map]
    rfl
  · have := congrArg List.length e
    rw [List.length_append, zipA_len hl, List.length_nil] at this
    omega
theorem ok_apply {g : Gr} {T : List Gr} {R : List Ry} {As : List An} (h : OkJ (g :: T) R) (hl : As.length = g.length) (hs : ∀ j, j < As.length → SmA (aq As j)) : OkJ T (R ++ zipA g As) := by
  have hf := h.few
  rw [sizeT_cons] at hf
  refine ⟨fun x hx => h.ne x (by simp [hx]), fun x hx => h.sm x (by simp [hx]), fun x hx => ?_, by rw [List.length_append, zipA_len hl]; omega⟩
  rcases List.mem_append.1 hx with hx | hx
  · exact h.an x hx
  · obtain ⟨y, hy, rfl⟩ := List.mem_map.1 hx
    obtain ⟨j, hj, e⟩ := List.mem_iff_getElem.1 (List.of_mem_zip hy).2
    have := hs j hj
    unfold aq at this
    rw [List.getD_eq_getElem?_getD, List.getElem?_eq_getElem hj] at this
    show SmA y.2
    rw [← e]
    exact this
/-- An answer is told. -/
theorem DI.done {T : List Gr} {x : Ry} {R : List Ry} {L : List It} {ap an : Nat} (h : DI T (x :: R) L ap an) (hok : OkJ T (x :: R)) :
    (an + 1 = L.length → DI T R [] 0 0) ∧ (an + 1 ≠ L.length → DI T R L ap (an + 1)) := by
  have hc := h.count
  rw [List.length_cons] at hc
  refine ⟨fun e => ?_, fun e => ?_⟩
  · obtain rfl := size_zero hok.ne (by omega)
    obtain rfl : R = [] := List.length_eq_zero_iff.1 (by omega)
    exact di_nil
  · have hlen := h.lenf
    have hapf := h.apf
    obtain ⟨A, B, rfl, hA0, hA, hB, hR⟩ := h.parts
    cases B with
    | nil => cases hR
    | cons b B =>
      rw [List.map_cons] at hR
      injection hR with h1 h2
      refine ⟨⟨A ++ [b], B, by simp, by simp [hA0], fun y hy => ?_, fun y hy => hB y (by simp [hy]), h2⟩, fun e1 e2 => ?_, hapf, hlen⟩
      · rcases List.mem_append.1 hy with hy | hy
        · exact hA y hy
        · simp at hy; subst hy; exact hB y (by simp)
      · subst e1
        subst e2
        exfalso
        exact e (by rw [hc]; rfl)
theorem ok_done {T : List Gr} {x : Ry} {R : List Ry} (h : OkJ T (x :: R)) : OkJ T R := by
  have := h.few
  refine ⟨h.ne, h.sm, fun y hy => h.an y (by simp [hy]), ?_⟩
  simp at this
  omega
end Go.Proofs.Ythcchaglloggjaa
