/- What is put at an arena's number; the contract of the arena's Set. Condition: no list of a node longer than 1000. -/
import Derived.Test.YtbphjhmmdkaggaaNg
namespace Go.Proofs.Ytbphjhmmdkaggaa
open Go.RowKit
set_option linter.unusedVariables false

/-- What D names, and all that is new. -/
def grow (D : Nat → Prop) (w w' : World) (b : Nat) : Prop := D b ∨ (w.heap.size ≤ b ∧ b < w'.heap.size)
theorem Sep.grow {w w' : World} {C D : Nat → Prop} {g : Nat} {P Q : Option Addr} (h : Sep w C D g P Q) (hs : w.heap.size ≤ w'.heap.size) : Sep w' (grow C w w') (grow D w w') g P Q := by
  refine ⟨.inl h.dg, ?_, fun a e => ⟨.inl (h.p a e).1, ?_, (h.p a e).2.2⟩, fun a e => ⟨.inl (h.q a e).1, ?_, (h.q a e).2.2⟩, h.pq, fun b hb => hb.imp (h.cd b) id, fun b hb => ?_⟩
  · rintro (hc | hc)
    · exact h.cg hc
    · have := h.lt g h.dg; omega
  · rintro (hc | hc)
    · exact (h.p a e).2.1 hc
    · have := h.lt _ (h.p a e).1; omega
  · rintro (hc | hc)
    · exact (h.q a e).2.1 hc
    · have := h.lt _ (h.q a e).1; omega
  · rcases hb with hb | hb
    · exact Nat.lt_of_lt_of_le (h.lt b hb) hs
    · exact hb.2

/-- An arena where something else was put at one number. -/
theorem ArW.put {w w' : World} {C D : Nat → Prop} {g : Nat} {L : List (Option Nd)} {F : List Nat} {P Q : Option Addr} {pc qc : Nat} {xs ys : List Value} (h : ArW w C D g L F P Q pc qc xs) {k : Nat} {o : Option Nd} (hk : k < L.length) (hF : k ∉ F)
    (hs : w.heap.size ≤ w'.heap.size) (hg : w'.heap[g]? = w.heap[g]?) (hown : w'.ownsRow 0 63 6 (.slice P L.length pc) L.length ys) (hQ : ∀ a, Q = some a → w'.heap[a.block]? = w.heap[a.block]?)
    (hys : ∀ i r, i ≠ k → r < 6 → ys[i * 6 + r]? = xs[i * 6 + r]?) (hC : Agree C w w') (hn : PlaceAt (grow C w w') w' ys k o) : ArW w' (grow C w w') (grow D w w') g (L.set k o) F P Q pc qc ys := by
  obtain ⟨h1, h2, h3, h4, h5, h6⟩ := h
  refine ⟨by rw [hg, List.length_set]; exact h1, by rw [List.length_set]; exact hown, ?_, fun i hi => ?_, ⟨h5.1, fun i hi => ?_⟩, h6.grow hs⟩
  · refine own_agree (C := fun b => ∃ a, Q = some a ∧ a.block = b) h3 ⟨hs, fun b hb hl => ?_⟩ (fun k hk => ?_)
    · obtain ⟨a, e1, rfl⟩ := hb
      exact hQ a e1
    · cases Q with
      | none => cases hk
      | some a => injection hk with hk; exact ⟨a, rfl, hk⟩
  · rw [List.length_set] at hi
    rw [lat_set hk]
    by_cases e : i = k
    · rw [if_pos e, e]
      exact hn
    · rw [if_neg e]
      exact ((h4 i hi).keep hC |>.mono (fun b hb => .inl hb)).cells (fun r hr => hys i r e hr)
  · have := h5.2 i hi
    rw [List.length_set, lat_set hk, if_neg (fun e : i = k => hF (by rw [← e]; exact hi))]
    exact this

theorem set5_other {xs : List Value} {k i r : Nat} (u0 u1 u2 u3 u4 : Value) (h : i ≠ k) (hr : r < 6) :
    (((((xs.set (k * 6) u0).set (k * 6 + 1) u1).set (k * 6 + 2) u2).set (k * 6 + 3) u3).set (k * 6 + 4) u4)[i * 6 + r]? = xs[i * 6 + r]? := by
  rw [List.getElem?_set_ne (by omega), List.getElem?_set_ne (by omega), List.getElem?_set_ne (by omega), List.getElem?_set_ne (by omega), List.getElem?_set_ne (by omega)]
theorem set5_at {xs : List Value} {k : Nat} (u0 u1 u2 u3 u4 : Value) (h : k * 6 + 5 < xs.length) :
    let ys := (((((xs.set (k * 6) u0).set (k * 6 + 1) u1).set (k * 6 + 2) u2).set (k * 6 + 3) u3).set (k * 6 + 4) u4)
    ys[k * 6]? = some u0 ∧ ys[k * 6 + 1]? = some u1 ∧ ys[k * 6 + 2]? = some u2 ∧ ys[k * 6 + 3]? = some u3 ∧ ys[k * 6 + 4]? = some u4 ∧ ys[k * 6 + 5]? = xs[k * 6 + 5]? ∧ ys.length = xs.length := by
  refine ⟨?_, ?_, ?_, ?_, ?_, ?_, by simp⟩
  · rw [List.getElem?_set_ne (by omega), List.getElem?_set_ne (by omega), List.getElem?_set_ne (by omega), List.getElem?_set_ne (by omega), List.getElem?_set_self (by omega)]
  · rw [List.getElem?_set_ne (by omega), List.getElem?_set_ne (by omega), List.getElem?_set_ne (by omega), List.getElem?_set_self (by simp; omega)]
  · rw [List.getElem?_set_ne (by omega), List.getElem?_set_ne (by omega), List.getElem?_set_self (by simp; omega)]
  · rw [List.getElem?_set_ne (by omega), List.getElem?_set_self (by simp; omega)]
  · rw [List.getElem?_set_self (by simp; omega)]
  · rw [List.getElem?_set_ne (by omega), List.getElem?_set_ne (by omega), List.getElem?_set_ne (by omega), List.getElem?_set_ne (by omega), List.getElem?_set_ne (by omega)]

theorem five_only {D : Nat → Prop} {b : Nat} {a w : World} (h : Only D a w) (hb : a.heap.size ≤ b ∨ D b) (o : Nat) (u1 u2 u3 u4 u5 : Value) :
    Only D a (((((w.setCell ⟨b, o, none⟩ u1).setCell ⟨b, o + 1, none⟩ u2).setCell ⟨b, o + 2, none⟩ u3).setCell ⟨b, o + 3, none⟩ u4).setCell ⟨b, o + 4, none⟩ u5) :=
  ((((h.set ⟨b, o, none⟩ u1 hb).set ⟨b, o + 1, none⟩ u2 hb).set ⟨b, o + 2, none⟩ u3 hb).set ⟨b, o + 3, none⟩ u4 hb).set ⟨b, o + 4, none⟩ u5 hb
theorem five_other {b g : Nat} {w : World} (hb : g ≠ b) (o : Nat) (u1 u2 u3 u4 u5 : Value) :
    (((((w.setCell ⟨b, o, none⟩ u1).setCell ⟨b, o + 1, none⟩ u2).setCell ⟨b, o + 2, none⟩ u3).setCell ⟨b, o + 3, none⟩ u4).setCell ⟨b, o + 4, none⟩ u5).heap[g]? = w.heap[g]? := by
  rw [Below.heap_setCell _ _ _ _ hb, Below.heap_setCell _ _ _ _ hb, Below.heap_setCell _ _ _ _ hb, Below.heap_setCell _ _ _ _ hb, Below.heap_setCell _ _ _ _ hb]
theorem five_size {b : Nat} {w : World} (o : Nat) (u1 u2 u3 u4 u5 : Value) :
    (((((w.setCell ⟨b, o, none⟩ u1).setCell ⟨b, o + 1, none⟩ u2).setCell ⟨b, o + 2, none⟩ u3).setCell ⟨b, o + 3, none⟩ u4).setCell ⟨b, o + 4, none⟩ u5).heap.size = w.heap.size := by
  simp [World.setCell]
theorem five_own {b n cap k s base : Nat} {e : TypeId} {w : World} {xs : List Value} (h : w.ownsRow base e s (.slice (some ⟨b, 0, none⟩) n cap) n xs) (u1 u2 u3 u4 u5 : Value) :
    (((((w.setCell ⟨b, k, none⟩ u1).setCell ⟨b, k + 1, none⟩ u2).setCell ⟨b, k + 2, none⟩ u3).setCell ⟨b, k + 3, none⟩ u4).setCell ⟨b, k + 4, none⟩ u5).ownsRow base e s (.slice (some ⟨b, 0, none⟩) n cap) n
      (((((xs.set k u1).set (k + 1) u2).set (k + 2) u3).set (k + 3) u4).set (k + 4) u5) :=
  own_set (own_set (own_set (own_set (own_set h k u1) (k + 1) u2) (k + 2) u3) (k + 3) u4) (k + 4) u5

/-- Where a node is set: what is left. -/
theorem set_turn {w w1 : World} {C D : Nat → Prop} {g p k pc qc : Nat} {L : List (Option Nd)} {F : List Nat} {Q : Option Addr} {xs : List Value} {x y : Nd} {h2 : Nh} (h : ArW w C D g L F (some ⟨p, 0, none⟩) Q pc qc xs) (hy : lat L k = some y) (hk : k < L.length)
    (hb : Below w.heap.size w w1) (hs : SmallN x) (hon : On (w.heap.size ≤ ·) w1 (NdR · h2 x)) :
    Turn w D g (L.set k (some x)) F (((((w1.setCell ⟨p, k * 6, none⟩ (.bool x.leaf)).setCell ⟨p, k * 6 + 1, none⟩ (.slice h2.A h2.n h2.c)).setCell ⟨p, k * 6 + 2, none⟩ (.slice h2.B h2.m h2.d)).setCell ⟨p, k * 6 + 3, none⟩ (.slice h2.K h2.k h2.e)).setCell ⟨p, k * 6 + 4, none⟩ (.int .i64 x.next)) := by
  have hw := h
  obtain ⟨h1, h2', h3, h4, h5, h6⟩ := h
  have hp := h6.p _ rfl
  have hpl := h6.lt p hp.1
  have hgl := h6.lt g h6.dg
  have hlen := h2'.1
  have hset := set5_at (xs := xs) (k := k) (.bool x.leaf) (.slice h2.A h2.n h2.c) (.slice h2.B h2.m h2.d) (.slice h2.K h2.k h2.e) (.int .i64 x.next) (by omega)
  have h5' := h4 k hk
  rw [hy] at h5'
  obtain ⟨_, _, _, _, _, _, e5, _⟩ := h5'
  refine ⟨grow D w _, ⟨grow C w _, _, Q, pc, qc, _, hw.put hk (fun hF => by have := (h5.2 k hF).2; rw [hy] at this; cases this) ?_ ?_ (five_own (own_keep h2' hb) _ _ _ _ _) ?_ (fun i r hi hr => set5_other _ _ _ _ _ hi hr) ((below_all hb).trans (five_agree w1 _ _ _ _ _ _ hp.2.1)) ?_⟩, fun b hb => hb.imp id (fun h => h.1), five_only (below_only hb) (.inr hp.1) _ _ _ _ _ _⟩
  · rw [five_size]; exact hb.size
  · rw [five_other (by exact fun e => hp.2.2 e.symm)]
    exact hb.block g hgl
  · intro a e
    rw [five_other (fun e' => h6.pq _ _ rfl e e'.symm)]
    exact hb.block _ (h6.lt _ (h6.q a e).1)
  · refine ⟨h2, hset.1, hset.2.1, hset.2.2.1, hset.2.2.2.1, hset.2.2.2.2.1, hset.2.2.2.2.2.1.trans e5, hs, ?_⟩
    refine (hon.keep (five_agree w1 _ _ _ _ _ _ (by show ¬ (w.heap.size ≤ p); omega))).now.mono (fun b hb => .inr hb)

def SetOut (w : World) (D : Nat → Prop) (g : Nat) (L : List (Option Nd)) (F : List Nat) (i : Int) (x : Nd) (e : Ending) (w' : World) : Prop :=
  e = .returned (errV (if usedB L i then 0 else 3)) ∧ Turn w D g (if usedB L i then L.set i.toNat (some x) else L) F w'

set_option maxRecDepth 100000 in
set_option maxHeartbeats 2000000 in
theorem set_no {w : World} {D : Nat → Prop} {g : Nat} {L : List (Option Nd)} {F : List Nat} (h : Ar w D g L F) (i : Int) (hi : i ≤ 9223372036854775807) (hu : usedB L i = false) (hh : Nh) (x : Nd) :
    Calls Try.prog 13 #[.pointer (some ⟨g, 0, none⟩), .int .i64 i, ndV hh x] w (SetOut w D g L F i x) := by
  have ha := h.keep (agree_alloc w (.cells #[.bool x.leaf, .slice hh.A hh.n hh.c, .slice hh.B hh.m hh.d, .slice hh.K hh.k hh.e, .int .i64 x.next] 35))
  have HT := Lib.hid (show Turn w D g L F (w.alloc (.cells #[.bool x.leaf, .slice hh.A hh.n hh.c, .slice hh.B hh.m hh.d, .slice hh.K hh.k hh.e, .int .i64 x.next] 35)) from ⟨D, ha, fun b hb => .inl hb, below_only ((Below.refl _ w).alloc (Nat.le_refl _) _)⟩)
  obtain ⟨C, P, Q, pc, qc, xs, ha⟩ := ha
  have HU := uses_any ha i hi
  rw [hu] at HU
  have HUU := Lib.hid hu
  clear h ha hu
  go_enter Try.func13, Try.ntmps13
  go_wp2_with fail
  refine HU.mono ?_
  rintro e w1 ⟨rfl, rfl⟩
  clear HU
  go_wp2
  go_ret
  refine ⟨?_, ?_⟩
  · rw [HUU.out]; rfl
  · rw [HUU.out]; exact HT.out

set_option maxRecDepth 100000 in
set_option maxHeartbeats 2000000 in
theorem set_yes {w : World} {D : Nat → Prop} {g : Nat} {L : List (Option Nd)} {F : List Nat} (h : Ar w D g L F) (k : Nat) {y : Nd} (hy : lat L k = some y) {hh : Nh} {x : Nd} (hr : NdR w hh x) (hs : SmallN x) :
    Calls Try.prog 13 #[.pointer (some ⟨g, 0, none⟩), .int .i64 k, ndV hh x] w (SetOut w D g L F k x) := by
  obtain ⟨C, P, Q, pc, qc, xs, h⟩ := h
  have hk : k < L.length := by
    rcases Nat.lt_or_ge k L.length with hk | hk
    · exact hk
    · rw [lat_out hk] at hy; cases hy
  have hN : L.length ≤ maxLen := Nat.le_trans (own_caps h.2.1).1 (own_caps h.2.1).2.1
  unfold maxLen at hN
  have hu : usedB L (k : Int) = true := by unfold usedB; simp [hy]
  have HUU := Lib.hid hu
  have h' := h.keep (agree_alloc w (.cells #[.bool x.leaf, .slice hh.A hh.n hh.c, .slice hh.B hh.m hh.d, .slice hh.K hh.k hh.e, .int .i64 x.next] 35))
  have hr' := hr.alloc (.cells #[.bool x.leaf, .slice hh.A hh.n hh.c, .slice hh.B hh.m hh.d, .slice hh.K hh.k hh.e, .int .i64 x.next] 35)
  have HU := uses_any h' k (by omega)
  rw [hu] at HU
  obtain ⟨c0, -, -, -⟩ := pair_cells h'.1
  obtain ⟨p, h0, rfl, hDp, hpg, hCp, hs0, hon0, g0, g1, g2, g3, g4, -, fz⟩ := h'.six hk hy
  have hgl : g < w.heap.size := h.2.2.2.2.2.lt g h.2.2.2.2.2.dg
  have hpl : p < w.heap.size := h.2.2.2.2.2.lt p hDp
  have HW := Lib.hid (show ∃ W, W = w.alloc (.cells #[.bool x.leaf, .slice hh.A hh.n hh.c, .slice hh.B hh.m hh.d, .slice hh.K hh.k hh.e, .int .i64 x.next] 35) ∧ Below w.heap.size w W ∧ NdR W hh x ∧ W.heap.size = w.heap.size + 1 ∧ W.heap[w.heap.size]? = some (.cells #[.bool x.leaf, .slice hh.A hh.n hh.c, .slice hh.B hh.m hh.d, .slice hh.K hh.k hh.e, .int .i64 x.next] 35 (0, 0)) from
    ⟨_, rfl, (Below.refl _ _).alloc (Nat.le_refl _) _, hr', by simp, heap_alloc_new w _⟩)
  have H := Lib.hid h
  have HS := Lib.hid hs
  have HY := Lib.hid hy
  generalize hn : L.length = n at c0 hk hN
  have HNL := Lib.hid hn
  clear h h' hy hu hDp hCp hs0 hon0 hn hr hr' hs
  go_enter Try.func13, Try.ntmps13
  go_wp2_with fail
  refine HU.mono ?_
  rintro e w1 ⟨rfl, rfl⟩
  clear HU
  go_wp2
  obtain ⟨W, hW, hWB, hWr, hWs, hWh⟩ := HW.out
  rw [← hW] at c0 g0 g1 g2 g3 g4 fz ⊢
  obtain ⟨b0, b1, b2, b3, b4, -⟩ := five hWh
  have HWB := Lib.hid hWB
  have HWS := Lib.hid hWs
  have D0 := Lib.hid (apart_any (w := W.drew) (show NdR W.drew hh x from hWr) HS.out)
  have K0 := Lib.hid c0
  have KB := Lib.hid (And.intro b0 (And.intro b1 (And.intro b2 (And.intro b3 b4))))
  have KP := Lib.hid (And.intro g0 (And.intro g1 (And.intro g2 (And.intro g3 (And.intro g4 fz)))))
  clear hW HW hWB hWr hWs hWh fz g0 g1 g2 g3 g4
  have z1 : ¬ (p = w.heap.size) := by omega
  have z2 : ¬ (w.heap.size = p) := by omega
  have z3 : ¬ (g = p) := fun e => hpg e.symm
  go_region_held3 (fun w' => w'.cell? ⟨g, 0, none⟩ = some (.slice (some ⟨p, 0, none⟩) n pc) ∧ w'.cell? ⟨w.heap.size, 0, none⟩ = some (.bool x.leaf) ∧ w'.cell? ⟨w.heap.size, 1, none⟩ = some (.slice hh.A hh.n hh.c) ∧ w'.cell? ⟨w.heap.size, 2, none⟩ = some (.slice hh.B hh.m hh.d) ∧ w'.cell? ⟨w.heap.size, 3, none⟩ = some (.slice hh.K hh.k hh.e) ∧ w'.cell? ⟨w.heap.size, 4, none⟩ = some (.int .i64 x.next)) (go_keep)
    ((go_at_call 21
      (with_reducible refine D0.out.mono ?_)
      rintro e w3 ⟨h3, rfl, on3, hb3⟩
      have hb3 := undrew hb3
      have hl1 : w.heap.size < W.heap.size := by have := HWS.out; omega
      have c0 := (hb3.cell (p := ⟨g, 0, none⟩) (Nat.lt_trans hgl hl1)).trans K0.out
      have b0 := (hb3.cell (p := ⟨w.heap.size, 0, none⟩) hl1).trans KB.out.1
      have b1 := (hb3.cell (p := ⟨w.heap.size, 1, none⟩) hl1).trans KB.out.2.1
      have b2 := (hb3.cell (p := ⟨w.heap.size, 2, none⟩) hl1).trans KB.out.2.2.1
      have b3 := (hb3.cell (p := ⟨w.heap.size, 3, none⟩) hl1).trans KB.out.2.2.2.1
      have b4 := (hb3.cell (p := ⟨w.heap.size, 4, none⟩) hl1).trans KB.out.2.2.2.2
      have g0 := (hb3.cell (p := ⟨p, k * 6, none⟩) (Nat.lt_trans hpl hl1)).trans KP.out.1
      have g1 := (hb3.cell (p := ⟨p, k * 6 + 1, none⟩) (Nat.lt_trans hpl hl1)).trans KP.out.2.1
      have g2 := (hb3.cell (p := ⟨p, k * 6 + 2, none⟩) (Nat.lt_trans hpl hl1)).trans KP.out.2.2.1
      have g3 := (hb3.cell (p := ⟨p, k * 6 + 3, none⟩) (Nat.lt_trans hpl hl1)).trans KP.out.2.2.2.1
      have g4 := (hb3.cell (p := ⟨p, k * 6 + 4, none⟩) (Nat.lt_trans hpl hl1)).trans KP.out.2.2.2.2.1
      have f0 := (hb3.frozen (p := ⟨p, k * 6, none⟩) (Nat.lt_trans hpl hl1)).trans (KP.out.2.2.2.2.2 _)
      have f1 := (hb3.frozen (p := ⟨p, k * 6 + 1, none⟩) (Nat.lt_trans hpl hl1)).trans (KP.out.2.2.2.2.2 _)
      have f2 := (hb3.frozen (p := ⟨p, k * 6 + 2, none⟩) (Nat.lt_trans hpl hl1)).trans (KP.out.2.2.2.2.2 _)
      have f3 := (hb3.frozen (p := ⟨p, k * 6 + 3, none⟩) (Nat.lt_trans hpl hl1)).trans (KP.out.2.2.2.2.2 _)
      have f4 := (hb3.frozen (p := ⟨p, k * 6 + 4, none⟩) (Nat.lt_trans hpl hl1)).trans (KP.out.2.2.2.2.2 _)
      have HON := Lib.hid on3
      have HB3 := Lib.hid hb3
      clear on3 hb3 hl1))
  all_goals
    go_wp2
    go_ret
    refine ⟨by rw [HUU.out]; rfl, ?_⟩
    rw [HUU.out, if_pos rfl, Int.toNat_natCast]
    exact set_turn H.out HY.out (by rw [HNL.out]; exact hk) (HWB.out.trans (HB3.out.mono HWB.out.size)) HS.out (HON.out.mono (fun b hb => by have := HWS.out; have hb' : W.heap.size ≤ b := hb; omega))
end Go.Proofs.Ytbphjhmmdkaggaa
