/- Requests of one's own in memory, that grow; the contract of package journal's gathered. Condition: at most 100 places; slices of at most 100 bytes that can be read. -/
import Derived.Test.YthcchaglloggjaaJa
import Derived.Deep.AppendLies
import Derived.Deep.RegionLaw
import Derived.Deep.DeepCutAuto
namespace Go.Proofs.Ythcchaglloggjaa
open Go.RowKit
set_option linter.unusedVariables false
set_option maxRecDepth 100000

theorem Try.infoReq : (Try.prog.info? 60).map (fun i => (i.zero, i.size, i.bytes)) = some (some (.agg #[.int .i64 0, .int .i64 0, .int .i64 0, .slice none 0 0, .slice none 0 0, .slice none 0 0, .slice none 0 0, .int .i64 0]), 8, 128) := by kernel_rfl

/-- A request's eight cells. -/
def rqC (h : Qh) (r : Rq) : List Value := [.int .i64 r.cl, .int .i64 r.sq, .int .i64 r.kind, .slice h.A h.n h.c, .slice h.B h.m h.d, .slice h.C h.o h.p, .slice h.D h.q h.s, .int .i64 r.limit]
theorem rqC_one (h : Qh) (r : Rq) : ∀ u ∈ rqC h r, u.oneCell' = true := by
  intro u hu
  simp [rqC] at hu
  rcases hu with rfl | rfl | rfl | rfl | rfl | rfl | rfl | rfl <;> rfl
theorem eight_cells {w : World} {x0 x1 x2 x3 x4 x5 x6 x7 : Value} {T : TypeId} {N : Nat} (h : w.heap.size = N) : ∀ j u, [x0, x1, x2, x3, x4, x5, x6, x7][j]? = some u → (w.alloc (.cells #[x0, x1, x2, x3, x4, x5, x6, x7] T)).cell? ((⟨N, 0, none⟩ : Addr).add j) = some u := by
  subst h
  intro j u hu
  rcases j with _ | _ | _ | _ | _ | _ | _ | _ | j
  all_goals first | (simp at hu; done) | (simp at hu; subst hu; simp [Addr.add])
/-- Cells that read as requests, what they lead to in blocks that C names. -/
def ReadsQ (C : Nat → Prop) (w : World) (xs : List Value) (M : List Rq) : Prop :=
  xs.length = M.length * 8 ∧ ∀ j, j < M.length → ∃ h : Qh, (∀ t, t < 8 → xs[j * 8 + t]? = (rqC h (gq M j))[t]?) ∧ On C w (RqR · h (gq M j))
theorem ReadsQ.nil (C : Nat → Prop) (w : World) : ReadsQ C w [] [] := ⟨rfl, fun j hj => by cases hj⟩
theorem ReadsQ.imp {C C' : Nat → Prop} {w w' : World} {xs : List Value} {M : List Rq} (h : ReadsQ C w xs M) (hi : ∀ hh r, On C w (RqR · hh r) → On C' w' (RqR · hh r)) : ReadsQ C' w' xs M :=
  ⟨h.1, fun j hj => by
    obtain ⟨h, e, r⟩ := h.2 j hj
    exact ⟨h, e, hi _ _ r⟩⟩
theorem gq_left {M K : List Rq} {j : Nat} (h : j < M.length) : gq (M ++ K) j = gq M j := by
  unfold gq
  rw [List.getD_eq_getElem?_getD, List.getD_eq_getElem?_getD, List.getElem?_append_left h]
theorem gq_one (M : List Rq) (r : Rq) : gq (M ++ [r]) M.length = r := by
  unfold gq
  simp
theorem ReadsQ.more {C : Nat → Prop} {w : World} {xs : List Value} {M : List Rq} (h : ReadsQ C w xs M) {r : Rq} {hh : Qh} (hs : On C w (RqR · hh r)) : ReadsQ C w (xs ++ rqC hh r) (M ++ [r]) := by
  obtain ⟨h1, h2⟩ := h
  have h8 : (rqC hh r).length = 8 := rfl
  refine ⟨by rw [List.length_append, List.length_append, h8, List.length_singleton]; omega, fun j hj => ?_⟩
  by_cases hl : j < M.length
  · obtain ⟨h, e, hr⟩ := h2 j hl
    refine ⟨h, fun t ht => ?_, by rw [gq_left hl]; exact hr⟩
    rw [gq_left hl, List.getElem?_append_left (by omega)]
    exact e t ht
  · obtain rfl : j = M.length := by simp at hj; omega
    refine ⟨hh, fun t ht => ?_, by rw [gq_one]; exact hs⟩
    rw [gq_one, List.getElem?_append_right (by omega), show M.length * 8 + t - xs.length = t by omega]
theorem own_reqs {C : Nat → Prop} {w : World} {N n : Nat} {v : Value} {xs : List Value} {M : List Rq} (h : w.ownsRow N 60 8 v n xs) (hr : ReadsQ C w xs M) : ∃ A c, v = .slice A n c ∧ On (fun b => C b ∨ v.ownBlock = some b) w (Reqs · A n M) := by
  have hlen : M.length = n := by have := h.1; have := hr.1; omega
  obtain ⟨A, c, rfl, -⟩ := own_new h
  refine ⟨A, c, rfl, fun w' ha => ?_⟩
  have h' := own_agree h ha (fun k hk => .inr hk)
  have hr' : ReadsQ C w' xs M := hr.imp fun hh r ho => ho.keep (ha.mono fun b hb => .inl hb)
  have hc := own_caps h'
  refine ⟨hlen, Nat.le_trans hc.1 hc.2.1, fun h0 => ?_⟩
  obtain ⟨g, rfl, -, hg⟩ := own_at h' h0
  refine ⟨g, 0, rfl, hg, fun j hj => ?_⟩
  rw [Nat.zero_add]
  obtain ⟨hh, e, r⟩ := hr'.2 j (by omega)
  have hx := h'.1
  have hc : ∀ t, t < 8 → w'.cell? ⟨g, j * 8 + t, none⟩ = (rqC hh (gq M j))[t]? := fun t ht => (h'.cellAt _ (by omega)).trans (e t ht)
  exact ⟨hh, hc 0 (by omega), hc 1 (by omega), hc 2 (by omega), hc 3 (by omega), hc 4 (by omega), hc 5 (by omega), hc 6 (by omega), hc 7 (by omega), r.here⟩
theorem one_cell_a_int (w : World) (x : Int) : ∀ j u, ([.int .i64 x] : List Value)[j]? = some u → (w.alloc (.cells #[.int .i64 x] 3)).drew.cell? ((⟨w.heap.size, 0, none⟩ : Addr).add j) = some u := fun j u hu => by
  rcases j with _ | j
  · simp at hu; subst hu; simp [Addr.add]
  · simp at hu
theorem copyq_lit {w : World} {h : Qh} {r : Rq} (hr : RqR w h r) (hs : smallQ r = true) :
    Calls Try.prog 34 #[.agg #[.int .i64 r.cl, .int .i64 r.sq, .int .i64 r.kind, .slice h.A h.n h.c, .slice h.B h.m h.d, .slice h.C h.o h.p, .slice h.D h.q h.s, .int .i64 r.limit]] w fun e w' =>
      ∃ h' : Qh, e = .returned (.agg #[.int .i64 r.cl, .int .i64 r.sq, .int .i64 r.kind, .slice h'.A h'.n h'.c, .slice h'.B h'.m h'.d, .slice h'.C h'.o h'.p, .slice h'.D h'.q h'.s, .int .i64 r.limit]) ∧ On (w.heap.size ≤ ·) w' (RqR · h' r) ∧ Below w.heap.size w w' := copyq_any hr hs

/-- A group that is gathered: i slots, j requests. -/
structure GatS (w : World) (L : List Int) (M : List Rq) (P : List Nat) (i j : Nat) (vS vQ : Value) (xs : List Value) (wr : World) : Prop where
  obj : wr.heap[w.heap.size + 1]? = some (.cells #[vS, vQ] 72 (0, 0))
  res : wr.heap[w.heap.size]? = some (.cells #[.slice none 0 0, .slice none 0 0] 72 (0, 0))
  slots : wr.ownsRow (w.heap.size + 2) 3 1 vS i (((P.take i).map (it L)).map (Value.int .i64))
  reqs : wr.ownsRow (w.heap.size + 2) 60 8 vQ j xs
  reads : ReadsQ (fun b => w.heap.size + 2 ≤ b ∧ Off vS b ∧ Off vQ b) wr xs ((P.take j).map (gq M))
  apart : ∀ b, vS.ownBlock = some b → Off vQ b
  below : Below w.heap.size w wr
theorem GatS.cells {w wr : World} {L : List Int} {M : List Rq} {P : List Nat} {i j : Nat} {vS vQ : Value} {xs : List Value} (h : GatS w L M P i j vS vQ xs wr) :
    wr.cell? ⟨w.heap.size + 1, 0, none⟩ = some vS ∧ wr.cell? ⟨w.heap.size + 1, 1, none⟩ = some vQ ∧ wr.frozen? ⟨w.heap.size + 1, 0, none⟩ = false ∧ wr.frozen? ⟨w.heap.size + 1, 1, none⟩ = false ∧
      wr.cell? ⟨w.heap.size, 0, none⟩ = some (.slice none 0 0) ∧ wr.cell? ⟨w.heap.size, 1, none⟩ = some (.slice none 0 0) ∧ wr.frozen? ⟨w.heap.size, 0, none⟩ = false ∧ wr.frozen? ⟨w.heap.size, 1, none⟩ = false := by
  have h1 := h.obj
  have h2 := h.res
  simp [World.cell?, World.frozen?, h1, h2]
theorem GatS.lt {w wr : World} {L : List Int} {M : List Rq} {P : List Nat} {i j : Nat} {vS vQ : Value} {xs : List Value} (h : GatS w L M P i j vS vQ xs wr) : w.heap.size + 2 ≤ wr.heap.size := by
  have := (Array.getElem?_eq_some_iff.1 h.obj).1
  omega
theorem map_take {α : Type} (f : Nat → α) {P : List Nat} {j : Nat} (h : j < P.length) : (P.take (j + 1)).map f = (P.take j).map f ++ [f (nat P j)] := by
  rw [List.take_add_one, List.getElem?_eq_getElem h, List.map_append]
  unfold nat
  simp [h]
theorem set_obj {w : World} {b o : Nat} {cs : List Value} {T : TypeId} {fr : Nat × Nat} (u : Value) (h : w.heap[b]? = some (.cells cs.toArray T fr)) : (w.setCell ⟨b, o, none⟩ u).heap[b]? = some (.cells (cs.set o u).toArray T fr) := by
  simp [World.setCell, Array.getElem?_modify, h]
/-- One slot more. -/
theorem GatS.slot {w wr wa w5 : World} {L : List Int} {M : List Rq} {P : List Nat} {i j : Nat} {vS vQ v5 : Value} {xs : List Value} (h : GatS w L M P i j vS vQ xs wr) (hi : i < P.length) (ha : Below wr.heap.size wr wa)
    (hown : w5.ownsRow (w.heap.size + 2) 3 1 v5 (i + 1) (((P.take i).map (it L)).map (Value.int .i64) ++ [.int .i64 (it L (nat P i))])) (hg : wa.grownBy w5 vS.ownBlock) (hat : vS.ownBlock = v5.ownBlock ∨ v5.ownBlock = some wa.heap.size) :
    GatS w L M P (i + 1) j v5 vQ xs (w5.setCell ⟨w.heap.size + 1, 0, none⟩ v5) := by
  have hlt := h.lt
  have has := ha.size
  have hS : ∀ k, vS.ownBlock = some k → w.heap.size + 2 ≤ k ∧ k < wr.heap.size := fun k hk => h.slots.lt k hk
  have hQ : ∀ k, vQ.ownBlock = some k → w.heap.size + 2 ≤ k ∧ k < wr.heap.size := fun k hk => h.reqs.lt k hk
  have h5 : ∀ k, v5.ownBlock = some k → w.heap.size + 2 ≤ k := fun k hk => (hown.lt k hk).1
  have hag : Agree (fun b => Off vS b) wr w5 := (below_all ha).trans (agree_grown hg fun k hk hc => hc k hk rfl)
  have hag2 : Agree (fun b => Off vS b ∧ b ≠ w.heap.size + 1) wr (w5.setCell ⟨w.heap.size + 1, 0, none⟩ v5) := (hag.mono fun b hb => hb.1).trans (agree_set _ _ _ (fun hc => hc.2 rfl))
  have offS : ∀ b, b < w.heap.size + 2 → Off vS b := fun b hb k hk => by have := (hS k hk).1; omega
  have new : ∀ b, b < wr.heap.size → Off vS b → Off v5 b := fun b hb ho k hk => by
    rcases hat with e | e
    · exact ho k (by rw [e]; exact hk)
    · rw [e] at hk; injection hk with hk; omega
  refine ⟨?_, ?_, ?_, own_agree h.reqs hag2 (fun k hk => ⟨fun m hm e => h.apart m hm k hk e.symm, by have := (hQ k hk).1; omega⟩), ?_, ?_, ?_⟩
  · have e1 : w5.heap[w.heap.size + 1]? = some (.cells [vS, vQ].toArray 72 (0, 0)) := (hag.2 _ (offS _ (by omega)) (by omega)).trans h.obj
    exact set_obj v5 e1
  · exact (hag2.2 _ ⟨offS _ (by omega), by omega⟩ (by omega)).trans h.res
  · have e2 := own_agree (C := fun b => b ≠ w.heap.size + 1) hown (agree_set w5 ⟨w.heap.size + 1, 0, none⟩ v5 (by simp)) (fun k hk => by have := h5 k hk; omega)
    rw [map_take (it L) hi, List.map_append]
    exact e2
  · exact h.reads.imp fun hh r ho => ((ho.now).keep (hag2.mono fun b hb => ⟨hb.1.2.1, by have := hb.1.1; omega⟩)).mono fun b hb => ⟨hb.1.1, new b hb.2 hb.1.2.1, hb.1.2.2⟩
  · intro b hb k hk
    have := (hQ k hk).2
    rcases hat with e | e
    · exact h.apart b (by rw [e]; exact hb) k hk
    · rw [e] at hb; injection hb with hb; omega
  · exact ((h.below.trans (ha.mono (by omega))).grown hg (by omega) (fun k hk => by have := (hS k hk).1; omega)).setCell (by show w.heap.size ≤ w.heap.size + 1; omega) _
/-- One request more. -/
theorem GatS.req {w wr w3 wa w5 : World} {L : List Int} {M : List Rq} {P : List Nat} {i j : Nat} {vS vQ v5 : Value} {xs : List Value} {hh : Qh} (h : GatS w L M P i j vS vQ xs wr) (hj : j < P.length) (h3 : Below wr.heap.size wr w3)
    (hr : On (wr.heap.size ≤ ·) w3 (RqR · hh (gq M (nat P j)))) (ha : Below w3.heap.size w3 wa)
    (hown : w5.ownsRow (w.heap.size + 2) 60 8 v5 (j + 1) (xs ++ rqC hh (gq M (nat P j)))) (hg : wa.grownBy w5 vQ.ownBlock) (hat : vQ.ownBlock = v5.ownBlock ∨ v5.ownBlock = some wa.heap.size) (hw3 : w3.heap.size < wa.heap.size + 1) :
    GatS w L M P i (j + 1) vS v5 (xs ++ rqC hh (gq M (nat P j))) (w5.setCell ⟨w.heap.size + 1, 1, none⟩ v5) := by
  have hlt := h.lt
  have h3s := h3.size
  have has := ha.size
  have hS : ∀ k, vS.ownBlock = some k → w.heap.size + 2 ≤ k ∧ k < wr.heap.size := fun k hk => h.slots.lt k hk
  have hQ : ∀ k, vQ.ownBlock = some k → w.heap.size + 2 ≤ k ∧ k < wr.heap.size := fun k hk => h.reqs.lt k hk
  have h5 : ∀ k, v5.ownBlock = some k → w.heap.size + 2 ≤ k := fun k hk => (hown.lt k hk).1
  have hag3 : Agree (fun b => Off vQ b) w3 w5 := (below_all ha).trans (agree_grown hg fun k hk hc => hc k hk rfl)
  have hag : Agree (fun b => Off vQ b) wr w5 := (below_all h3).trans hag3
  have hst : ∀ {C : Nat → Prop}, (∀ b, C b → b ≠ w.heap.size + 1) → Agree C w5 (w5.setCell ⟨w.heap.size + 1, 1, none⟩ v5) := fun hC => agree_set _ _ _ (fun hc => hC _ hc rfl)
  have hag2 : Agree (fun b => Off vQ b ∧ b ≠ w.heap.size + 1) wr (w5.setCell ⟨w.heap.size + 1, 1, none⟩ v5) := (hag.mono fun b hb => hb.1).trans (hst fun b hb => hb.2)
  have offQ : ∀ b, b < w.heap.size + 2 → Off vQ b := fun b hb k hk => by have := (hQ k hk).1; omega
  have offS : ∀ b, wr.heap.size ≤ b → Off vS b := fun b hb k hk => by have := (hS k hk).2; omega
  have new : ∀ b, b < wa.heap.size → Off vQ b → Off v5 b := fun b hb ho k hk => by
    rcases hat with e | e
    · exact ho k (by rw [e]; exact hk)
    · rw [e] at hk; injection hk with hk; omega
  refine ⟨?_, ?_, own_agree h.slots hag2 (fun k hk => ⟨h.apart k hk, by have := (hS k hk).1; omega⟩), ?_, ?_, ?_, ?_⟩
  · have e1 : w5.heap[w.heap.size + 1]? = some (.cells [vS, vQ].toArray 72 (0, 0)) := (hag.2 _ (offQ _ (by omega)) (by omega)).trans h.obj
    exact set_obj v5 e1
  · exact (hag2.2 _ ⟨offQ _ (by omega), by omega⟩ (by omega)).trans h.res
  · exact own_agree (C := fun b => b ≠ w.heap.size + 1) hown (agree_set w5 ⟨w.heap.size + 1, 1, none⟩ v5 (by simp)) (fun k hk => by have := h5 k hk; omega)
  · rw [map_take (gq M) hj]
    refine ReadsQ.more (h.reads.imp fun hh r ho => ((ho.now).keep (hag2.mono fun b hb => ⟨hb.1.2.2, by have := hb.1.1; omega⟩)).mono fun b hb => ⟨hb.1.1, hb.1.2.1, new b (by have := hb.2; omega) hb.1.2.2⟩) ?_
    have h6 := (hr.now).keep (hag3.mono (C' := fun b => wr.heap.size ≤ b ∧ b < w3.heap.size) fun b hb k hk => by have := (hQ k hk).2; have := hb.1; omega)
    exact (h6.keep (hst fun b hb => by have := hb.1; omega)).mono fun b hb => ⟨by have := hb.1; omega, offS b hb.1, new b (by have := hb.2; omega) (fun k hk => by have := (hQ k hk).2; have := hb.1; omega)⟩
  · intro b hb k hk
    have := (hS b hb).2
    rcases hat with e | e
    · exact h.apart b hb k (by rw [e]; exact hk)
    · rw [e] at hk; injection hk with hk; omega
  · exact (((h.below.trans (h3.mono (by omega))).trans (ha.mono (by omega))).grown hg (by omega) (fun k hk => by have := (hQ k hk).1; omega)).setCell (by show w.heap.size ≤ w.heap.size + 1; omega) _
/-- The first two boxes. -/
theorem gat_new (w : World) (L : List Int) (M : List Rq) (P : List Nat) : ∃ W, W = (w.alloc (.cells #[.slice none 0 0, .slice none 0 0] 72)).alloc (.cells #[.slice none 0 0, .slice none 0 0] 72) ∧ GatS w L M P 0 0 (.slice none 0 0) (.slice none 0 0) [] W := by
  refine ⟨_, rfl, ?_, ?_, World.ownsRow_nil _ _ _ _, World.ownsRow_nil _ _ _ _, ReadsQ.nil _ _, (fun b hb => by cases hb), ((Below.refl _ _).alloc (Nat.le_refl _) _).alloc (by simp) _⟩
  · have := Deep.blk_alloc_new (w.alloc (.cells #[.slice none 0 0, .slice none 0 0] 72)) (.cells #[.slice none 0 0, .slice none 0 0] 72)
    rw [alloc_sz] at this
    exact this
  · rw [Below.heap_alloc _ _ _ (by rw [alloc_sz]; omega)]
    exact Deep.blk_alloc_new w _
end Go.Proofs.Ythcchaglloggjaa
