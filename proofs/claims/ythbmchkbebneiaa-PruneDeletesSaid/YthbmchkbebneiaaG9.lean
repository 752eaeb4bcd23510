/- What the law's look at a tree comes to, as plain data. Plain; no condition. The law's own look at a node and all below it. Condition: a sound tree, in its range. The law's own look at a node and all below it, whatever the depth. Condition: a sound tree, in its range. -/
import Derived.Test.YthbmchkbebneiaaG7
import Derived.Test.YthbmchkbebneiaaG8
namespace Go.Proofs.Ythbmchkbebneiaa
open Go.RowKit
set_option linter.unusedVariables false
set_option maxRecDepth 100000

/-- What a look has seen behind a tree at a depth. -/
def seen (d : Nat) (t : Tr d) (dd : Nat) (s : LkS) : LkS :=
  ⟨s.lv ++ (lvp d t).map (fun x => x.1), s.nx ++ (lvp d t).map (fun x => x.2.2), s.ps ++ flat d t, s.nodes + (nums d t).length, dd + d⟩
def seenL (d : Nat) (dd : Nat) (ts : List (Tr d)) (s : LkS) : LkS := ts.foldl (fun s t => seen d t dd s) s
theorem seenL_snoc {d dd : Nat} (ts : List (Tr d)) (t : Tr d) (s : LkS) : seenL d dd (ts ++ [t]) s = seen d t dd (seenL d dd ts s) := by simp [seenL]
theorem seenL_is {d dd : Nat} : ∀ (ts : List (Tr d)) (s : LkS), seenL d dd ts s = ⟨s.lv ++ ((ts.map (lvp d)).flatten).map (fun x => x.1), s.nx ++ ((ts.map (lvp d)).flatten).map (fun x => x.2.2), s.ps ++ (ts.map (flat d)).flatten, s.nodes + (ts.map (nums d)).flatten.length, if ts.length = 0 then s.dep else dd + d⟩
  | [], s => by simp [seenL]
  | t :: ts, s => by
    have h := seenL_is (dd := dd) ts (seen d t dd s)
    show seenL d dd ts (seen d t dd s) = _
    rw [h]
    simp only [seen, List.map_cons, List.flatten_cons, List.map_append, List.append_assoc, List.length_append, List.length_cons]
    congr 1
    · omega
    · simp
theorem seen_leaf (t : Tr 0) (dd : Nat) (s : LkS) : seen 0 t dd s = ⟨s.lv ++ [(lf t).1], s.nx ++ [(lf t).2.2], s.ps ++ (lf t).2.1, s.nodes + 1, dd⟩ := rfl
theorem seen_node {d : Nat} (t : Tr (d + 1)) (dd : Nat) (s : LkS) (h : (nn t).2.2.length ≠ 0) : seenL d (dd + 1) (nn t).2.2 { s with nodes := s.nodes + 1 } = seen (d + 1) t dd s := by
  rw [seenL_is, if_neg h]
  unfold seen
  have e : (nums (d + 1) t).length = ((nn t).2.2.map (nums d)).flatten.length + 1 := rfl
  rw [e]
  show LkS.mk _ _ _ (s.nodes + 1 + _) (dd + 1 + d) = LkS.mk (s.lv ++ (((nn t).2.2.map (lvp d)).flatten).map (fun x => x.1)) (s.nx ++ (((nn t).2.2.map (lvp d)).flatten).map (fun x => x.2.2)) (s.ps ++ ((nn t).2.2.map (flat d)).flatten) _ _
  congr 1 <;> omega

/-- There is room for all of a tree. -/
structure Room (d : Nat) (t : Tr d) (s : LkS) : Prop where
  lv : s.lv.length + (lvp d t).length ≤ 5000
  nx : s.nx.length + (lvp d t).length ≤ 5000
  ps : s.ps.length + (flat d t).length ≤ 5000
  nodes : s.nodes + (nums d t).length ≤ 3000
theorem len_mid {α β : Type} (f : α → List β) (a : List α) (x : α) (b : List α) : ((a ++ x :: b).map f).flatten.length = (a.map f).flatten.length + ((f x).length + (b.map f).flatten.length) := by simp
theorem Room.kid {d dd : Nat} {t : Tr (d + 1)} {s : LkS} (h : Room (d + 1) t s) {t1 t2 : List (Tr d)} {c : Tr d} (e : (nn t).2.2 = t1 ++ c :: t2) : Room d c (seenL d dd t1 { s with nodes := s.nodes + 1 }) := by
  obtain ⟨h1, h2, h3, h4⟩ := h
  have e1 : (lvp (d + 1) t).length = (t1.map (lvp d)).flatten.length + ((lvp d c).length + (t2.map (lvp d)).flatten.length) := by
    show ((nn t).2.2.map (lvp d)).flatten.length = _
    rw [e, len_mid]
  have e2 : (flat (d + 1) t).length = (t1.map (flat d)).flatten.length + ((flat d c).length + (t2.map (flat d)).flatten.length) := by
    show ((nn t).2.2.map (flat d)).flatten.length = _
    rw [e, len_mid]
  have e3 : (nums (d + 1) t).length = (t1.map (nums d)).flatten.length + ((nums d c).length + (t2.map (nums d)).flatten.length) + 1 := by
    show (((nn t).2.2.map (nums d)).flatten.length + 1) = _
    rw [e, len_mid]
  rw [seenL_is]
  constructor <;> simp only [List.length_append, List.length_map] <;> omega
theorem seenL_dep {d dd : Nat} (ts : List (Tr d)) (s : LkS) (h : s.dep = 0 ∨ s.dep = dd + d) : (seenL d dd ts s).dep = 0 ∨ (seenL d dd ts s).dep = dd + d := by
  rw [seenL_is]
  simp only []
  split
  · exact h
  · exact .inr rfl

/-- A kid's range. -/
def lowOf (lo : Ky) (ks : List Ky) (j : Nat) : Ky := if j = 0 then lo else kat ks (j - 1)
def highOf (hi : Ky) (ks : List Ky) (j : Nat) : Ky := if j < ks.length then kat ks j else hi
theorem kids_nth {α : Type} {P : Ky → Ky → α → Prop} {hi : Ky} : ∀ {lo : Ky} {ks : List Ky} {ts : List α}, Kids P hi lo ks ts → ∀ j, j ≤ ks.length → ∃ t1 t t2, ts = t1 ++ t :: t2 ∧ t1.length = j ∧ sndR (lowOf lo ks j) (highOf hi ks j) ∧ P (lowOf lo ks j) (highOf hi ks j) t ∧ (j < ks.length → kat ks j ≠ [])
  | lo, [], ts, h, j, hj => by
    obtain ⟨t, rfl, h1, h2⟩ := h
    obtain rfl : j = 0 := by simpa using hj
    exact ⟨[], t, [], rfl, rfl, h1, h2, fun h => by simp at h⟩
  | lo, s :: ss, ts, h, j, hj => by
    obtain ⟨t, r, rfl, h1, h2, h3, h⟩ := h
    cases j with
    | zero => exact ⟨[], t, r, rfl, rfl, h1, h3, fun _ => h2⟩
    | succ j =>
      obtain ⟨t1, t', t2, e1, e2, e3, e4, e5⟩ := kids_nth h j (by simpa using hj)
      have el : lowOf lo (s :: ss) (j + 1) = lowOf s ss j := by
        unfold lowOf
        rw [if_neg (by omega)]
        cases j with
        | zero => simp [kat]
        | succ j => simp [kat]
      have eh : highOf hi (s :: ss) (j + 1) = highOf hi ss j := by
        unfold highOf
        by_cases h : j < ss.length
        · rw [if_pos h, if_pos (by simpa using h)]; simp [kat]
        · rw [if_neg h, if_neg (by simpa using h)]
      refine ⟨t :: t1, t', t2, by rw [e1]; rfl, by simp [e2], ?_, ?_, fun h => ?_⟩
      · rw [el, eh]; exact e3
      · rw [el, eh]; exact e4
      · have := e5 (by simpa using h)
        simpa [kat] using this

/-- What the law's Over asks: none are over. -/
theorem GoodT.over {L : List (Option Nd)} {F : List Nat} {m root d : Nat} {t : Tr d} (h : GoodT L F m root d t) : (d = 0 → (nums d t).length = 1) ∧ (d ≠ 0 → (nums d t).length * (m / 2) ≤ 2 * (flat d t).length ∧ ∀ r, r ≤ (m / 2 + 1) ^ (d - 1) → 2 * r * (m / 2) ≤ (flat d t).length) := by
  have h3 := h.m3
  cases d with
  | zero => exact ⟨fun _ => rfl, fun h => absurd rfl h⟩
  | succ d =>
    refine ⟨fun h => by omega, fun _ => ?_⟩
    obtain ⟨a1, a2⟩ := h.ok.mostR h3
    refine ⟨?_, fun r hr => ?_⟩
    · rw [Nat.add_mul] at a1; omega
    · have : r * (m / 2) ≤ (m / 2 + 1) ^ d * (m / 2) := Nat.mul_le_mul_right _ hr
      rw [Nat.mul_assoc]
      omega
/-- The chain of the leaves, each by each. -/
theorem chn_each : ∀ (l : List (Nat × List Pr × Int)) (s : Int), Chn s (l.map fun x => (x.1, x.2.2)) (-1) → ∀ j, j < l.length → (l.map fun x => x.2.2).getD j 0 = if j + 1 < l.length then (((l.map fun x => x.1).getD (j + 1) 0 : Nat) : Int) else -1
  | [], s, h, j, hj => by simp at hj
  | [x], s, h, j, hj => by
    obtain rfl : j = 0 := by simpa using hj
    have := h.2
    simpa [Chn] using this
  | x :: y :: l, s, h, j, hj => by
    cases j with
    | zero =>
      have := h.2.1
      simpa using this
    | succ j =>
      have := chn_each (y :: l) _ h.2 j (by simpa using hj)
      simp only [List.map_cons, List.getD_cons_succ, List.length_cons] at this ⊢
      rw [this]
      by_cases e : j + 1 < l.length + 1
      · rw [if_pos e, if_pos (by omega)]
      · rw [if_neg e, if_neg (by omega)]
end Go.Proofs.Ythbmchkbebneiaa

namespace Go.Proofs.Ythbmchkbebneiaa
open Go.RowKit
set_option linter.unusedVariables false
set_option maxRecDepth 100000

theorem kys_at_on {C : Nat → Prop} {w : World} {A : Option Addr} {n c : Nat} {L : List Ky} (h : On C w (Kys · A n c L)) {j : Nat} (hj : j < n) :
    ∃ b o A1 n1 c1, A = some ⟨b, o, none⟩ ∧ w.cell? ⟨b, o + j, none⟩ = some (.slice A1 n1 c1) ∧ On C w (Byt · A1 n1 (kat L j)) := by
  obtain ⟨b, o, A1, n1, c1, e, hb, k0, y1⟩ := h.here.at_ hj
  have hC : C b := block_in (C := C) (w := w) (b := b) (o := o + j) fun w' ha => by
    obtain ⟨b', o', A2, n2, c2, e', hb', q0, z1⟩ := (h w' ha).at_ hj
    rw [e] at e'
    injection e' with e'
    injection e' with e1 e2
    subst e1
    subst e2
    exact ⟨A2, n2, c2, q0⟩
  refine ⟨b, o, A1, n1, c1, e, k0, fun w' ha => ?_⟩
  obtain ⟨b', o', A2, n2, c2, e', hb', q0, z1⟩ := (h w' ha).at_ hj
  rw [e] at e'
  injection e' with e'
  injection e' with e1 e2
  subst e1
  subst e2
  rw [World.cell?_of_block (w := w) (a := ⟨b, o + j, none⟩) (ha.2 b hC hb), k0] at q0
  injection q0 with q0
  injection q0 with q1 q2 q3
  rw [q1, q2]
  exact z1
/-- What a look at a node asks. -/
structure NkIn (w : World) (D S : Nat → Prop) (tb g xb : Nat) (L : List (Option Nd)) (F : List Nat) (root m many : Nat) (s : LkS) (lo hi : Ky) (A1 B1 : Option Addr) (n1 m1 : Nat) (d : Nat) (t : Tr d) (dd : Nat) : Prop where
  tr : TrM w D tb g L F root m many
  lk : LkM w S xb tb s
  dis : ∀ b, S b → ¬ D b ∧ b ≠ tb
  lo : On (fun b => ¬ S b) w (Byt · A1 n1 lo)
  hi : On (fun b => ¬ S b) w (Byt · B1 m1 hi)
  n16 : n1 ≤ 16
  m16 : m1 ≤ 16
  room : Room d t s
  dep : s.dep = 0 ∨ s.dep = dd + d
  dd : dd + d ≤ 20
  holds : Holds L d t
  mm : m ≤ 16
  few : L.length ≤ 9000

theorem ndT_leaf (d : Nat) (t : Tr (d + 1)) : (ndT (d + 1) t).leaf = false := rfl
theorem LkOut.up {w w3 : World} {S : Nat → Prop} {xb tb : Nat} {s : LkS} {e : Ending} {w' : World} (h : LkOut w3 S xb tb s e w') (ho : Only S w w3) : LkOut w S xb tb s e w' := by
  obtain ⟨h1, S', h2, h3, h4⟩ := h
  exact ⟨h1, S', h2, fun b hb => (h3 b hb).imp id (fun h => Nat.le_trans ho.size h), ho.trans h4⟩
/-- A world in which a look has one node more. -/
theorem lk_node {w w2 : World} {S : Nat → Prop} {xb tb : Nat} {s : LkS} (h : LkM w S xb tb s) (hb : Below w.heap.size w w2) (k : Nat) : LkM (w2.setCell ⟨xb, 4, none⟩ (.int .i64 k)) S xb tb { s with nodes := k } ∧ Only S w (w2.setCell ⟨xb, 4, none⟩ (.int .i64 k)) := by
  obtain ⟨vL, vN, vP, rfl, h⟩ := h
  exact ⟨⟨vL, vN, vP, rfl, (h.below hb).nodes k⟩, (below_only hb).set _ _ (.inr (.inl rfl))⟩
theorem LkM.cells {w : World} {S : Nat → Prop} {xb tb : Nat} {s : LkS} (h : LkM w S xb tb s) :
    w.cell? ⟨xb, 0, none⟩ = some (.pointer (some ⟨tb, 0, none⟩)) ∧ w.cell? ⟨xb, 4, none⟩ = some (.int .i64 s.nodes) ∧ w.cell? ⟨xb, 5, none⟩ = some (.int .i64 s.dep) ∧ w.cell? ⟨xb, 6, none⟩ = some (.bool false) ∧ S xb ∧
      ∀ o, w.frozen? ⟨xb, o, none⟩ = false := by
  obtain ⟨vL, vN, vP, rfl, h⟩ := h
  obtain ⟨k0, k1, k2, k3, k4, k5, k6, kf⟩ := h.cells
  exact ⟨k0, k4, k5, k6, .inl rfl, kf⟩

set_option maxHeartbeats 4000000 in
theorem node_leaf {w : World} {D S : Nat → Prop} {tb g xb : Nat} {L : List (Option Nd)} {F : List Nat} {root m many : Nat} {s : LkS} {lo hi : Ky} {A1 B1 : Option Addr} {n1 m1 : Nat} {t : Tr 0} {dd : Nat} {b : Bool} (c1 d1 : Nat)
    (hn : NkIn w D S tb g xb L F root m many s lo hi A1 B1 n1 m1 0 t dd) (hok : Ok m 0 b lo hi t) (hr : b = true → num 0 t = root) :
    Calls Try.prog 35 #[.pointer (some ⟨xb, 0, none⟩), .int .i64 (num 0 t : Nat), .agg #[.slice A1 n1 c1, .slice B1 m1 d1], .int .i64 dd] w (LkOut w S xb tb (seen 0 t dd s)) := by
  have HN := Lib.hid hn
  have HOK := Lib.hid (And.intro hok hr)
  have hx : lat L (num 0 t) = some (ndT 0 t) := hn.holds
  have HB := Lib.hid (show ∃ W, W = w.alloc (.cells #[.slice A1 n1 c1, .slice B1 m1 d1] 53) ∧ Below w.heap.size w W ∧ W.heap.size = w.heap.size + 1 ∧ W.heap[w.heap.size]? = some (.cells #[.slice A1 n1 c1, .slice B1 m1 d1] 53 (0, 0)) from ⟨_, rfl, (Below.refl _ _).alloc (Nat.le_refl _) _, by simp, heap_alloc_new w _⟩)
  have HXL := Lib.hid (And.intro hx (lat_lt hx))
  have hdd := hn.dd
  have hnd : s.nodes + 1 ≤ 3000 := hn.room.nodes
  obtain ⟨q0, -, -, -, qS, -⟩ := hn.lk.cells
  have hxl : xb < w.heap.size := hn.lk.lt _ qS
  have htl : tb < w.heap.size := hn.tr.lt.1
  obtain ⟨p0, -, -, -, -, -⟩ := hn.tr.cells
  clear hn hok hr hx qS
  go_enter Try.func35, Try.ntmps35
  go_wp2_with fail
  obtain ⟨W, hW, hWB, hWs, hWh⟩ := HB.out
  rw [← hW]
  clear hW HB q0 p0 hxl htl
  have HT := Lib.hid (HN.out.tr.below hWB)
  have HK := Lib.hid (HN.out.lk.below hWB)
  have HG := get_node HT.out.2.1 (k := num 0 t) (by have := HXL.out.2; have := HN.out.few; omega) HXL.out.1
  have HWX := Lib.hid (And.intro hWB (And.intro hWs hWh))
  clear hWB hWs hWh
  refine HG.mono ?_
  rintro e w3 ⟨hh, rfl, hin, hb3⟩
  have HIN := Lib.hid hin
  have HB3 := Lib.hid hb3
  have hrw : w.heap.size < w3.heap.size := by have := HWX.out.2.1; have := hb3.size; omega
  have hbr := (hb3.block w.heap.size (by have := HWX.out.2.1; omega)).trans HWX.out.2.2
  obtain ⟨r0, r1, -, -⟩ := pair_cells hbr
  clear HG hin hb3 hbr
  have HK3 := Lib.hid (HK.out.below HB3.out)
  obtain ⟨k0, k4, -, k6, kS, kf⟩ := HK3.out.cells
  have hxl : xb < w3.heap.size := HK3.out.lt _ kS
  have hxw : ¬ (xb = w.heap.size) := fun e => by have := HN.out.lk.lt _ kS; omega
  have hwx : ¬ (w.heap.size = xb) := fun e => hxw e.symm
  have kf4 := kf 4
  have hw1 : IntKind.i64.wrap ((s.nodes : Int) + 1) = (s.nodes : Int) + 1 := IntWalk.i64_in _ (by omega)
  have g1 : decide ((20 : Int) < (dd : Int)) = false := by simp; omega
  have g2 : decide ((3000 : Int) < (s.nodes : Int) + 1) = false := by simp; omega
  clear kf kS
  go_wp2_with fail
  --T2
  clear k0 k4 k6 kf4 hxl hxw hwx r0 r1
  obtain ⟨W5, hW5, hK5, hO5, hs5⟩ : ∃ W5, W5 = (w3.setCell ⟨xb, 4, none⟩ (.int .i64 ((s.nodes : Int) + 1))).alloc (.cells #[.bool true, .slice hh.A hh.n hh.c, .slice hh.B hh.m hh.d, .slice hh.K hh.k hh.e, .int .i64 (ndT 0 t).next] 74) ∧ LkM W5 S xb tb { s with nodes := s.nodes + 1 } ∧ Only S w3 W5 ∧ w3.heap.size < W5.heap.size :=
    ⟨_, rfl, (lk_node HK3.out (Below.refl _ _) (s.nodes + 1)).1.below ((Below.refl _ _).alloc (Nat.le_refl _) _), (lk_node HK3.out (Below.refl _ _) (s.nodes + 1)).2.trans (below_only ((Below.refl _ _).alloc (Nat.le_refl _) _)), by simp [World.setCell]⟩
  rw [← hW5]
  have hO05 : Only S w W5 := (below_only (HWX.out.1.trans (HB3.out.mono HWX.out.1.size))).trans hO5
  have HO5 := Lib.hid (And.intro hO5 hO05)
  have hslt : ∀ b, S b → b < w.heap.size := HN.out.lk.lt
  have hagN : ∀ C : Nat → Prop, (∀ b, C b → ¬ S b) → Agree C w W5 := fun C hC => hO05.agree hC
  have hr : On (fun b => ¬ S b) W5 (NdR · hh (ndT 0 t)) := (HIN.out.reads.keep (hO5.agree (fun b hb hs => by have := hslt _ hs; have h1 : W.heap.size ≤ b := hb.1; have := HWX.out.2.1; omega))).mono (fun b hb hs => by have := hslt _ hs; have h1 : W.heap.size ≤ b := hb.1; have := HWX.out.2.1; omega)
  have HL := lkleaf_any (w := W5) (HN.out.tr.keep (hagN _ (fun b hb hs => by
      have := HN.out.dis b hs
      rcases hb with hb | hb
      · exact this.1 hb
      · exact this.2 hb))) hK5 HN.out.dis hr HOK.out.1.1 (num 0 t) HOK.out.1.2.1 (fun hne => HOK.out.1.2.2.1 (by cases b with | false => rfl | true => exact absurd (HOK.out.2 rfl) hne)) HN.out.mm HOK.out.1.2.2.2 c1 d1
      (HN.out.lo.keep (hagN _ (fun b hb => hb))) (HN.out.hi.keep (hagN _ (fun b hb => hb))) HN.out.n16 HN.out.m16 dd (show s.dep = 0 ∨ s.dep = dd from HN.out.dep) (by omega)
      (by have := HN.out.room.lv; show s.lv.length ≤ 5000; omega) (by have := HN.out.room.nx; show s.nx.length ≤ 5000; omega) (by have := HN.out.room.ps; show s.ps.length ≤ 5000; omega)
  have HL := Lib.hid HL
  clear hK5 hO5 hO05 hW5 hr hagN
  refine HL.out.mono ?_
  rintro e w6 h6
  have H6 := Lib.hid (h6.up HO5.out.2)
  obtain ⟨rfl, -⟩ := h6
  clear HL
  go_wp2
  exact bodyPost_ret (v := .tuple #[]) (by simp [results, Try.results35, go_sem]) rfl H6.out
end Go.Proofs.Ythbmchkbebneiaa

namespace Go.Proofs.Ythbmchkbebneiaa
open Go.RowKit
set_option linter.unusedVariables false
set_option maxRecDepth 100000

theorem kys_all_on {C : Nat → Prop} {w : World} {A : Option Addr} {n c : Nat} {L : List Ky} (h : On C w (Kys · A n c L)) (hn : 0 < n) :
    ∃ b o, A = some ⟨b, o, none⟩ ∧ C b ∧ b < w.heap.size ∧ ∀ j, j < n → ∃ A1 n1 c1, w.cell? ⟨b, o + j, none⟩ = some (.slice A1 n1 c1) ∧ On C w (Byt · A1 n1 (kat L j)) := by
  obtain ⟨b, o, B, m, d, e, hb, k0, y1⟩ := h.here.at_ hn
  have hC : C b := block_in (C := C) (w := w) (b := b) (o := o + 0) fun w' ha => by
    obtain ⟨b', o', A2, n2, c2, e', hb', q0, z1⟩ := (h w' ha).at_ hn
    rw [e] at e'
    injection e' with e'
    injection e' with e1 e2
    subst e1
    subst e2
    exact ⟨A2, n2, c2, q0⟩
  refine ⟨b, o, e, hC, hb, fun j hj => ?_⟩
  obtain ⟨b', o', A1, n1, c1, e', k0, y1⟩ := kys_at_on h hj
  rw [e] at e'
  injection e' with e'
  injection e' with e1 e2
  subst e1
  subst e2
  exact ⟨A1, n1, c1, k0, y1⟩
theorem ins_all_on {C : Nat → Prop} {w : World} {A : Option Addr} {n c : Nat} {L : List Int} (h : w.ownsRow 0 3 1 (.slice A n c) n (L.map intV)) (hC : ∀ a, A = some a → C a.block) (hi : Ins w A n c L) (hn : 0 < n) :
    ∃ b o, A = some ⟨b, o, none⟩ ∧ C b ∧ b < w.heap.size ∧ ∀ j, j < n → w.cell? ⟨b, o + j, none⟩ = some (.int .i64 (iat L j)) := by
  obtain ⟨b, o, e, hb, hp⟩ := hi.2.2.2.2 hn
  exact ⟨b, o, e, hC _ e, hb, hp⟩
/-- The look at all nodes of a depth. -/
structure NodeAll (d : Nat) : Prop where
  go : ∀ {w : World} {D S : Nat → Prop} {tb g xb : Nat} {L : List (Option Nd)} {F : List Nat} {root m many : Nat} {s : LkS} {lo hi : Ky} {A1 B1 : Option Addr} {n1 m1 : Nat} {t : Tr d} {dd : Nat} {b : Bool} (c1 d1 : Nat),
    NkIn w D S tb g xb L F root m many s lo hi A1 B1 n1 m1 d t dd → Ok m d b lo hi t → (b = true → num d t = root) →
    Calls Try.prog 35 #[.pointer (some ⟨xb, 0, none⟩), .int .i64 (num d t : Nat), .agg #[.slice A1 n1 c1, .slice B1 m1 d1], .int .i64 dd] w (LkOut w S xb tb (seen d t dd s))
/-- Where the loop over the kids has come to. -/
def NdI (S : Nat → Prop) (W : World) (xb tb d dd : Nat) (ts : List (Tr d)) (s1 : LkS) (v : Value) (wr : World) : Prop :=
  ∃ j : Nat, v = .int .i64 (j : Nat) ∧ j ≤ ts.length ∧ ∃ S', LkM wr S' xb tb (seenL d dd (ts.take j) s1) ∧ (∀ b, S' b → S b ∨ W.heap.size ≤ b) ∧ Only S W wr

set_option maxHeartbeats 8000000 in
theorem node_inner {d : Nat} (ih : NodeAll d) : NodeAll (d + 1) := by
  refine ⟨?_⟩
  intro w D S tb g xb L F root m many s lo hi A1 B1 n1 m1 t dd b c1 d1 hn hok hr
  have IH := Lib.hid ih
  have HN := Lib.hid hn
  have HOK := Lib.hid (And.intro hok hr)
  have hx : lat L (num (d + 1) t) = some (ndT (d + 1) t) := hn.holds.1
  have HB := Lib.hid (show ∃ W, W = w.alloc (.cells #[.slice A1 n1 c1, .slice B1 m1 d1] 53) ∧ Below w.heap.size w W ∧ W.heap.size = w.heap.size + 1 ∧ W.heap[w.heap.size]? = some (.cells #[.slice A1 n1 c1, .slice B1 m1 d1] 53 (0, 0)) from ⟨_, rfl, (Below.refl _ _).alloc (Nat.le_refl _) _, by simp, heap_alloc_new w _⟩)
  have HXL := Lib.hid (And.intro hx (lat_lt hx))
  have hdd := hn.dd
  have hnd : s.nodes + 1 ≤ 3000 := by
    have := hn.room.nodes
    have e : (nums (d + 1) t).length = ((nn t).2.2.map (nums d)).flatten.length + 1 := rfl
    omega
  obtain ⟨q0, -, -, -, qS, -⟩ := hn.lk.cells
  have hxl : xb < w.heap.size := hn.lk.lt _ qS
  have htl : tb < w.heap.size := hn.tr.lt.1
  obtain ⟨p0, -, -, -, -, -⟩ := hn.tr.cells
  have hkl1 : 1 ≤ (nn t).2.1.length := hok.1
  have hkl2 : (nn t).2.1.length ≤ m := hok.2.1
  have hkl3 : b = false → m / 2 ≤ (nn t).2.1.length := hok.2.2.1
  have hkl4 : (nn t).2.2.length = (nn t).2.1.length + 1 := Kids.len (P := Ok m d false) (hi := hi) (lo := lo) hok.2.2.2
  have hm16 := hn.mm
  clear ih hn hok hx qS
  go_enter Try.func35, Try.ntmps35
  go_wp2_with fail
  obtain ⟨W, hW, hWB, hWs, hWh⟩ := HB.out
  rw [← hW]
  clear hW HB q0 p0 hxl htl
  have HT := Lib.hid (HN.out.tr.below hWB)
  have HK := Lib.hid (HN.out.lk.below hWB)
  have HG := get_node HT.out.2.1 (k := num (d + 1) t) (by have := HXL.out.2; have := HN.out.few; omega) HXL.out.1
  have HWX := Lib.hid (And.intro hWB (And.intro hWs hWh))
  clear hWB hWs hWh
  refine HG.mono ?_
  rintro e w3 ⟨⟨A, n, c, B, mk, dk, K, kk, ee⟩, rfl, hin, hb3⟩
  have hmk : (nn t).2.1.length = mk := hin.reads.here.2.1.1
  have hkk : ((nn t).2.2.map (fun c => (num d c : Int))).length = kk := hin.reads.here.2.2.1
  rw [List.length_map] at hkk
  obtain ⟨bk, ok, rfl, hbkC, hbkl, hkeys⟩ := kys_all_on (n := mk) (hin.reads.imp fun v hv => hv.2.1) (by omega)
  obtain ⟨bi, oi, rfl, hbiC, hbil, hints⟩ := ins_all_on (C := fun b => W.heap.size ≤ b ∧ b < w3.heap.size) (n := kk) hin.kids hin.inK hin.reads.here.2.2 (by omega)
  have HKEY := Lib.hid (And.intro hbkC (And.intro hbkl hkeys))
  have HINT := Lib.hid (And.intro hbiC (And.intro hbil hints))
  have HB3 := Lib.hid hb3
  have hrw : w.heap.size < w3.heap.size := by have := HWX.out.2.1; have := hb3.size; omega
  have hbr := (hb3.block w.heap.size (by have := HWX.out.2.1; omega)).trans HWX.out.2.2
  have HT3 := Lib.hid (HT.out.below hb3)
  have hslt : ∀ b, S b → b < w.heap.size := HN.out.lk.lt
  have HSL := Lib.hid hslt
  clear HG hin hb3 hbkC hbkl hkeys hbiC hbil hints
  have HK3 := Lib.hid (HK.out.below HB3.out)
  obtain ⟨k0, k4, -, k6, kS, kf⟩ := HK3.out.cells
  obtain ⟨-, c1', c2, -, -, -⟩ := HT3.out.cells
  have hxl : xb < w3.heap.size := HK3.out.lt _ kS
  have htl : tb < w3.heap.size := HT3.out.lt.1
  have hxt : ¬ (xb = tb) := fun e => (HN.out.dis _ kS).2 e
  have htx : ¬ (tb = xb) := fun e => hxt e.symm
  have hxw : ¬ (xb = w.heap.size) := fun e => by have := HN.out.lk.lt _ kS; omega
  have hwx : ¬ (w.heap.size = xb) := fun e => hxw e.symm
  have kf4 := kf 4
  have hw1 : IntKind.i64.wrap ((s.nodes : Int) + 1) = (s.nodes : Int) + 1 := IntWalk.i64_in _ (by omega)
  have hw2 : IntKind.i64.wrap ((mk : Int) + 1) = (mk : Int) + 1 := IntWalk.i64_in _ (by omega)
  have g1 : decide ((20 : Int) < (dd : Int)) = false := by simp; omega
  have g2 : decide ((3000 : Int) < (s.nodes : Int) + 1) = false := by simp; omega
  have g3 : decide ((mk : Int) < 1) = false := by simp; omega
  have g4 : decide ((m : Int) < (mk : Int)) = false := by simp; omega
  have hlf : (ndT (d + 1) t).leaf = false := rfl
  have g4b : decide (m < mk) = false := by simp; omega
  have g5 : ((kk : Int) != (mk : Int) + 1) = false := by simp; omega
  have hir0 : (num (d + 1) t : Int) = (root : Int) ∨ (num (d + 1) t : Int) ≠ (root : Int) := by omega
  have HRD := Lib.hid (show ¬ b = true → m / 2 ≤ mk from fun e => by have := hkl3 (by simpa using e); omega)
  have HBR := Lib.hid hbr
  clear kf kS hbr hkl3 hslt
  rcases hir0 with hir | hir
  case' inl =>
    have hne : ((num (d + 1) t : Int) != (root : Int)) = false := by simp; omega
    clear hr hir
    go_wp2_with fail
  case' inr =>
    have hq : m / 2 ≤ mk := HRD.out (fun e => hir (by rw [hr e]))
    have hne : ((num (d + 1) t : Int) != (root : Int)) = true := by simp; omega
    have hq1 : decide ((mk : Int) < (m : Int) / 2) = false := by simp; omega
    clear hr hir hq
    go_wp2_with fail
  all_goals
    clear k0 k4 k6 kf4 hxl htl hxt htx hxw hwx c1' c2 g1 g2 g3 g4 g4b g5 hne hw1
    obtain ⟨W5, hW5, hK5, hO5, hs5, hbn⟩ : ∃ W5, W5 = (w3.setCell ⟨xb, 4, none⟩ (.int .i64 ((s.nodes : Int) + 1))).alloc (.cells #[.bool false, .slice A n c, .slice (some ⟨bk, ok, none⟩) mk dk, .slice (some ⟨bi, oi, none⟩) kk ee, .int .i64 (ndT (d + 1) t).next] 74) ∧ LkM W5 S xb tb { s with nodes := s.nodes + 1 } ∧ Only S w3 W5 ∧ w3.heap.size < W5.heap.size ∧ W5.heap[w3.heap.size]? = some (.cells #[.bool false, .slice A n c, .slice (some ⟨bk, ok, none⟩) mk dk, .slice (some ⟨bi, oi, none⟩) kk ee, .int .i64 (ndT (d + 1) t).next] 74 (0, 0)) :=
      ⟨_, rfl, (lk_node HK3.out (Below.refl _ _) (s.nodes + 1)).1.below ((Below.refl _ _).alloc (Nat.le_refl _) _), (lk_node HK3.out (Below.refl _ _) (s.nodes + 1)).2.trans (below_only ((Below.refl _ _).alloc (Nat.le_refl _) _)), by simp [World.setCell], by
        have := heap_alloc_new (w3.setCell ⟨xb, 4, none⟩ (.int .i64 ((s.nodes : Int) + 1))) (.cells #[.bool false, .slice A n c, .slice (some ⟨bk, ok, none⟩) mk dk, .slice (some ⟨bi, oi, none⟩) kk ee, .int .i64 (ndT (d + 1) t).next] 74)
        rw [setcell_size] at this
        exact this⟩
    rw [← hW5]
    have hO05 : Only S w W5 := (below_only (HWX.out.1.trans (HB3.out.mono HWX.out.1.size))).trans hO5
    have HO5 := Lib.hid (And.intro hO5 hO05)
    have HK5 := Lib.hid hK5
    have HBN := Lib.hid (And.intro hs5 hbn)
    clear hW5 hK5 hO5 hs5 hbn hO05
    go_loopw [11] (fun v wr => NdI S W5 xb tb d (dd + 1) (nn t).2.2 { s with nodes := s.nodes + 1 } v wr) (fun v _ => mk + 2 - (intOf v).toNat)
    case atStart => exact ⟨0, rfl, Nat.zero_le _, S, HK5.out, fun b hb => .inl hb, Only.refl _ _⟩
    case round =>
      obtain ⟨j, rfl, hj, S', hK', hS', hO'⟩ := hrel
      have hbn := (hO'.block w3.heap.size HBN.out.1 (fun hs => by have := HSL.out _ hs; omega)).trans HBN.out.2
      have hbr := ((HO5.out.1.trans hO').block w.heap.size hrw (fun hs => by have := HSL.out _ hs; omega)).trans HBR.out
      have hT := HN.out.tr.keep ((HO5.out.2.trans hO').agree (fun b hb hs => by
        have := HN.out.dis b hs
        rcases hb with hb | hb
        · exact this.1 hb
        · exact this.2 hb))
      have hO3 := HO5.out.1.trans hO'
      have hag3 : Agree (fun b => W.heap.size ≤ b ∧ b < w3.heap.size) w3 wr := hO3.agree (fun b hb hs => by have := HSL.out _ hs; have := HWX.out.2.1; omega)
      have HR := Lib.hid (And.intro hK' (And.intro hS' (And.intro hO' (And.intro hT (And.intro hbn (And.intro hbr (And.intro hO3 hag3)))))))
      obtain ⟨r0, r1, -, -⟩ := pair_cells hbr
      obtain ⟨b0, b1, b2, b3, b4, -⟩ := five hbn
      have hz1 : w.heap.size < wr.heap.size := by have := hO3.size; omega
      have hz3 : w3.heap.size < wr.heap.size := by have := hO'.size; have := HBN.out.1; omega
      have hz5 : W5.heap.size ≤ wr.heap.size := hO'.size
      clear hK' hS' hO' hT hbn hbr hO3 hag3
      by_cases hjk : j ≤ mk
      case neg =>
        have hjI : ¬ ((j : Int) ≤ (mk : Int)) := by omega
        have hje : j = (nn t).2.2.length := by omega
        subst hje
        go_wp2
        refine bodyPost_ret (v := .tuple #[]) (by simp [results, Try.results35, go_sem]) rfl ⟨rfl, S', ?_, fun b hb => (HR.out.2.1 b hb).imp id (fun h => by have := HBN.out.1; omega), HO5.out.2.trans HR.out.2.2.1⟩
        have := HR.out.1
        rw [List.take_length, seen_node t dd s (by omega)] at this
        exact this
      case pos =>
        have hjI : (j : Int) ≤ (mk : Int) := by omega
        have hcell : ∀ i, i < mk → ∃ A1 n1 c1, wr.cell? ⟨bk, ok + i, none⟩ = some (.slice A1 n1 c1) ∧ On (fun b => W.heap.size ≤ b ∧ b < w3.heap.size) wr (Byt · A1 n1 (kat (nn t).2.1 i)) := fun i hi => by
          obtain ⟨A1, n1, c1, e1, e2⟩ := HKEY.out.2.2 i hi
          exact ⟨A1, n1, c1, (World.cell?_of_block (w := w3) (a := ⟨bk, ok + i, none⟩) (HR.out.2.2.2.2.2.2.2.2 bk HKEY.out.1 HKEY.out.2.1)).trans e1, e2.keep HR.out.2.2.2.2.2.2.2⟩
        have hkid : wr.cell? ⟨bi, oi + j, none⟩ = some (.int .i64 (iat ((nn t).2.2.map (fun c => (num d c : Int))) j)) :=
          (World.cell?_of_block (w := w3) (a := ⟨bi, oi + j, none⟩) (HR.out.2.2.2.2.2.2.2.2 bi HINT.out.1 HINT.out.2.1)).trans (HINT.out.2.2 j (by omega))
        obtain ⟨t1, tj, t2, ets, hlen, hsnd, hokj, hne⟩ := kids_nth (P := Ok m d false) HOK.out.1.2.2.2 j (by omega)
        have htake : (nn t).2.2.take j = t1 := by rw [ets, ← hlen]; simp
        have htake1 : (nn t).2.2.take (j + 1) = t1 ++ [tj] := by rw [ets, ← hlen, show t1 ++ tj :: t2 = (t1 ++ [tj]) ++ t2 by simp, show t1.length + 1 = (t1 ++ [tj]).length by simp, List.take_left]
        have hjle : j ≤ mk := hjk
        have hdt : ∀ b, D b → b < w.heap.size := HN.out.tr.lt.2
        have htb : tb < w.heap.size := HN.out.tr.lt.1
        have hcs : ∀ b, ¬ S b ∧ b < W5.heap.size → ¬ S' b := fun b hb hs => by
          rcases HR.out.2.1 b hs with h | h
          · exact hb.1 h
          · have := hb.2; omega
        have HREC := Lib.hid (show ∀ (A5 B5 : Option Addr) (n5 c5 m5 d5 : Nat) (w8 : World), Below wr.heap.size wr w8 → On (fun b => ¬ S b ∧ b < W5.heap.size) wr (Byt · A5 n5 (lowOf lo (nn t).2.1 j)) → On (fun b => ¬ S b ∧ b < W5.heap.size) wr (Byt · B5 m5 (highOf hi (nn t).2.1 j)) → n5 ≤ 16 → m5 ≤ 16 →
            Calls Try.prog 35 #[.pointer (some ⟨xb, 0, none⟩), .int .i64 (num d tj : Nat), .agg #[.slice A5 n5 c5, .slice B5 m5 d5], .int .i64 ((dd : Int) + 1)] w8 (LkOut w8 S' xb tb (seenL d (dd + 1) (t1 ++ [tj]) { s with nodes := s.nodes + 1 })) from fun A5 B5 n5 c5 m5 d5 w8 hb8 hl5 hh5 h5 h6 => by
          rw [seenL_snoc]
          have hk := HR.out.1
          rw [htake] at hk
          exact IH.out.go (dd := dd + 1) (b := false) c5 d5 ⟨HR.out.2.2.2.1.keep (below_all hb8), hk.below hb8, fun b hs => by
            rcases HR.out.2.1 b hs with h | h
            · exact HN.out.dis b h
            · have hw5 : w3.heap.size < W5.heap.size := HBN.out.1
              refine ⟨fun hd => by have := hdt b hd; omega, fun e => by omega⟩, (hl5.keep (below_all hb8)).mono hcs, (hh5.keep (below_all hb8)).mono hcs, h5, h6, HN.out.room.kid ets, seenL_dep t1 _ (by
                have := HN.out.dep
                show s.dep = 0 ∨ s.dep = dd + 1 + d
                omega), by omega, HN.out.holds.2 tj (by rw [ets]; simp), HN.out.mm, HN.out.few⟩ hokj (fun h => by cases h))
        have HSD := Lib.hid (show ∀ (A5 B5 : Option Addr) (n5 c5 m5 d5 : Nat) (w8 : World), Below wr.heap.size wr w8 → On (fun b => ¬ S b ∧ b < W5.heap.size) wr (Byt · A5 n5 (lowOf lo (nn t).2.1 j)) → On (fun b => ¬ S b ∧ b < W5.heap.size) wr (Byt · B5 m5 (highOf hi (nn t).2.1 j)) → n5 ≤ 16 → m5 ≤ 16 →
            Calls Try.prog 19 #[.agg #[.slice A5 n5 c5, .slice B5 m5 d5]] w8 fun e w' => e = .returned (.bool true) ∧ Below w8.heap.size w8 w' from fun A5 B5 n5 c5 m5 d5 w8 hb8 hl5 hh5 h5 h6 => by
          have := rsound_any (w := w8) c5 d5 ((hl5.keep (below_all hb8)).here) ((hh5.keep (below_all hb8)).here) (by unfold maxLen; omega) (by unfold maxLen; omega)
          rwa [snd_is hsnd] at this)
        have hagw : Agree (fun b => ¬ S b ∧ b < w.heap.size) w wr := (HO5.out.2.trans HR.out.2.2.1).agree (fun b hb => hb.1)
        have hup : ∀ b, ¬ S b ∧ b < w.heap.size → ¬ S b ∧ b < W5.heap.size := fun b hb => ⟨hb.1, by have := HBN.out.1; omega⟩
        have HLOW := Lib.hid (((HN.out.lo.now).keep hagw).mono hup)
        have HHIG := Lib.hid (((HN.out.hi.now).keep hagw).mono hup)
        have hupk : ∀ b, W.heap.size ≤ b ∧ b < w3.heap.size → ¬ S b ∧ b < W5.heap.size := fun b hb => ⟨fun hs => by have := HSL.out b hs; have := HWX.out.2.1; omega, by have := HBN.out.1; omega⟩
        have HC := Lib.hid (show ∀ i, i < mk → ∃ A1 n1 c1, wr.cell? ⟨bk, ok + i, none⟩ = some (.slice A1 n1 c1) ∧ On (fun b => ¬ S b ∧ b < W5.heap.size) wr (Byt · A1 n1 (kat (nn t).2.1 i)) from fun i hi => by
          obtain ⟨A1, n1, c1, e1, e2⟩ := hcell i hi
          exact ⟨A1, n1, c1, e1, e2.mono hupk⟩)
        have HKD := Lib.hid (And.intro htake1 (And.intro hsnd hne))
        have hiat : iat ((nn t).2.2.map (fun c => (num d c : Int))) j = (num d tj : Int) := by
          unfold iat
          rw [ets, List.getD_eq_getElem?_getD, List.map_append, List.getElem?_append_right (by simp [hlen])]
          simp [hlen]
        rw [hiat] at hkid
        have hbkw : bk < wr.heap.size := by have := HKEY.out.2.1; omega
        have hbiw : bi < wr.heap.size := by have := HINT.out.2.1; omega
        have hmkI : mk ≤ 16 := by omega
        have hjkk : (j : Int) < (kk : Int) := by omega
        have hjkN : j < kk := by omega
        clear hcell ets hlen hsnd hokj hne hiat htake htake1 hdt htb hcs hagw hup hupk
        have hcases : (j = 0 ∧ j < mk) ∨ (∃ j', j = j' + 1 ∧ j < mk) ∨ (∃ j', j = j' + 1 ∧ ¬ j < mk) := by
          rcases j with _ | j'
          · exact .inl ⟨rfl, by omega⟩
          · exact .inr ((Nat.lt_or_ge (j' + 1) mk).imp (fun h => ⟨j', rfl, h⟩) (fun h => ⟨j', rfl, by omega⟩))
        rcases hcases with ⟨hj0, hjm⟩ | ⟨j', hj0, hjm⟩ | ⟨j', hj0, hjm⟩
        case' inl =>
          obtain ⟨A4, n4, c4, e4, y4⟩ := HC.out j hjm
          have hjmI : (j : Int) < (mk : Int) := by omega
          have hjz : ¬ ((0 : Int) < (j : Int)) := by omega
          have HLO := Lib.hid (show On (fun b => ¬ S b ∧ b < W5.heap.size) wr (Byt · A1 n1 (lowOf lo (nn t).2.1 j)) from by unfold lowOf; rw [if_pos hj0]; exact HLOW.out)
          have HHI := Lib.hid (show On (fun b => ¬ S b ∧ b < W5.heap.size) wr (Byt · A4 n4 (highOf hi (nn t).2.1 j)) from by unfold highOf; rw [if_pos (by omega)]; exact y4)
          have hm0 : n4 ≠ 0 := fun e => by
            have h1 := HKD.out.2.2 (by omega)
            have h2 := y4.here.1
            rw [e] at h2
            exact h1 (List.length_eq_zero_iff.1 h2)
          clear y4 hj0
          have g6 : ((n4 : Int) == 0) = false := by simp; omega
          have g7 : decide ((j : Int) < (mk : Int)) = true := by simp; omega
          go_wp2_with fail
        case' inr.inl =>
          obtain ⟨A3, n3, c3, e3, y3⟩ := HC.out j' (by omega)
          obtain ⟨A4, n4, c4, e4, y4⟩ := HC.out j hjm
          have hws : IntKind.i64.wrap ((j : Int) - 1) = (j' : Int) := by rw [show (j : Int) - 1 = (j' : Int) by omega]; exact IntWalk.i64_in _ (by omega)
          have hjmI : (j : Int) < (mk : Int) := by omega
          have hjz : (0 : Int) < (j : Int) := by omega
          have hjmJ : (j' : Int) < (mk : Int) := by omega
          have hjmN : j' < mk := by omega
          have HLO := Lib.hid (show On (fun b => ¬ S b ∧ b < W5.heap.size) wr (Byt · A3 n3 (lowOf lo (nn t).2.1 j)) from by unfold lowOf; rw [if_neg (by omega), hj0]; exact y3)
          have HHI := Lib.hid (show On (fun b => ¬ S b ∧ b < W5.heap.size) wr (Byt · A4 n4 (highOf hi (nn t).2.1 j)) from by unfold highOf; rw [if_pos (by omega)]; exact y4)
          have hm0 : n4 ≠ 0 := fun e => by
            have h1 := HKD.out.2.2 (by omega)
            have h2 := y4.here.1
            rw [e] at h2
            exact h1 (List.length_eq_zero_iff.1 h2)
          clear y3 y4 hj0
          have g6 : ((n4 : Int) == 0) = false := by simp; omega
          have g7 : decide ((j : Int) < (mk : Int)) = true := by simp; omega
          go_wp2_with fail
        case' inr.inr =>
          obtain ⟨A3, n3, c3, e3, y3⟩ := HC.out j' (by omega)
          have hws : IntKind.i64.wrap ((j : Int) - 1) = (j' : Int) := by rw [show (j : Int) - 1 = (j' : Int) by omega]; exact IntWalk.i64_in _ (by omega)
          have hjmI : ¬ ((j : Int) < (mk : Int)) := by omega
          have hjz : (0 : Int) < (j : Int) := by omega
          have hjmJ : (j' : Int) < (mk : Int) := by omega
          have hjmN : j' < mk := by omega
          have HLO := Lib.hid (show On (fun b => ¬ S b ∧ b < W5.heap.size) wr (Byt · A3 n3 (lowOf lo (nn t).2.1 j)) from by unfold lowOf; rw [if_neg (by omega), hj0]; exact y3)
          have HHI := Lib.hid (show On (fun b => ¬ S b ∧ b < W5.heap.size) wr (Byt · B1 m1 (highOf hi (nn t).2.1 j)) from by unfold highOf; rw [if_neg (by omega)]; exact HHIG.out)
          clear y3 hj0
          have g7 : decide ((j : Int) < (mk : Int)) = false := by simp; omega
          have g6 := g7
          go_wp2_with fail
        all_goals
          have h5 := HLO.out.here.1
          have h6 := HHI.out.here.1
          have h7 := HKD.out.2.1.1
          have h8 := HKD.out.2.1.2.1
          rw [h5] at h7
          rw [h6] at h8
          have H78 := Lib.hid (And.intro h7 h8)
          clear h5 h6 h7 h8
          refine (HSD.out _ _ _ _ _ _ _ ((Below.refl wr.heap.size wr).alloc (Nat.le_refl _) _) HLO.out HHI.out H78.out.1 H78.out.2).mono ?_
          rintro e w8 ⟨rfl, hb8⟩
          have hrg := (hb8.block wr.heap.size (by simp)).trans (heap_alloc_new wr _)
          obtain ⟨z0, z1, -, -⟩ := pair_cells hrg
          have hbw := ((Below.refl wr.heap.size wr).alloc (Nat.le_refl _) _).trans (hb8.mono (by rw [alloc_sz]; exact Nat.le_succ _))
          have hbn8 := (hbw.block w3.heap.size hz3).trans HR.out.2.2.2.2.1
          obtain ⟨y0, y1, y2, y3', y4', -⟩ := five hbn8
          have hkid8 := (hbw.cell (p := ⟨bi, _, none⟩) hbiw).trans hkid
          have HBW := Lib.hid hbw
          clear hb8 hrg hbw hbn8 r0 r1 b0 b1 b2 b3 b4 hkid
          go_wp2_with fail
          go_still_tail 9, (by kernel_rfl)
          change wpList _ _ _ _ _ w8.drew
          clear z0 z1 y0 y1 y2 y3' y4' hkid8
          go_wp2_with fail
          refine (HREC.out _ _ _ _ _ _ _ HBW.out.drew HLO.out HHI.out H78.out.1 H78.out.2).mono ?_
          rintro e w9 ⟨rfl, S9, q1, q2, q3⟩
          have hs8 : wr.heap.size ≤ w8.heap.size := HBW.out.size
          have HS9 := Lib.hid (show LkM w9 S9 xb tb (seenL d (dd + 1) (t1 ++ [tj]) { s with nodes := s.nodes + 1 }) ∧ (∀ b, S9 b → S b ∨ W5.heap.size ≤ b) ∧ Only S W5 w9 from ⟨q1, fun b hb => by
              rcases q2 b hb with h | h
              · exact HR.out.2.1 b h
              · have h' : w8.heap.size ≤ b := h
                exact .inr (by omega), (HR.out.2.2.1.trans (below_only HBW.out.drew)).trans2 q3 (fun b hb => HR.out.2.1 b hb)⟩)
          clear q1 q2 q3
          go_wp2
          go_roundw
          case rel =>
            exact ⟨j + 1, rfl, by omega, S9, by rw [HKD.out.1]; exact HS9.out.1, HS9.out.2.1, HS9.out.2.2⟩
          case measure => simp [intOf]; omega

theorem node_all : ∀ (d : Nat), NodeAll d
  | 0 => ⟨fun c1 d1 hn hok hr => node_leaf c1 d1 hn hok hr⟩
  | d + 1 => node_inner (node_all d)
end Go.Proofs.Ythbmchkbebneiaa
