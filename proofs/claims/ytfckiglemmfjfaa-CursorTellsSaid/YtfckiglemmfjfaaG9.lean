/- Where a key's leaf stands in the chain of leaves; what a cursor has still to tell, as plain lists. Plain; no condition. A cursor in memory; the contract of package cursor's turn. Condition: a sound tree's arena. Where a cursor stands, whatever its tree; the contract of package cursor's Next. Condition: a sound tree's arena. Contracts of package cursor's ahead, may and Open. Condition: a sound tree; what came in can be read. -/
import Derived.Test.YtfckiglemmfjfaaG7
import Derived.Deep.DeepCutAuto
import Derived.Deep.RegionLaw
import Derived.BigQuiet
import Derived.BigRegion
namespace Go.Proofs.Ytfckiglemmfjfaa
open Go.RowKit
set_option linter.unusedVariables false
set_option maxRecDepth 100000

theorem flatL_app (a b : List (Nat × List Pr × Int)) : flatL (a ++ b) = flatL a ++ flatL b := by simp [flatL]
theorem flatL_cons (x : Nat × List Pr × Int) (r : List (Nat × List Pr × Int)) : flatL (x :: r) = x.2.1 ++ flatL r := by simp [flatL]
theorem flatL_lvps {d : Nat} : ∀ ts : List (Tr d), flatL ((ts.map (lvp d)).flatten) = (ts.map (flat d)).flatten
  | [] => rfl
  | t :: ts => by
    have h := lvp_flat d t
    have ih := flatL_lvps ts
    simp only [List.map_cons, List.flatten_cons]
    rw [flatL_app, ih, h]
    rfl

/-- The leaf of a key in the chain: what stands ahead of it is less, what stands behind is greater. -/
theorem leaf_mid {m : Nat} {k : Ky} : ∀ {d : Nat} {b : Bool} {lo hi : Ky} {t : Tr d}, Ok m d b lo hi t → inR lo hi k → ∃ pre post, lvp d t = pre ++ leafT k d t :: post ∧ (∀ p ∈ flatL pre, ltB p.1 k = true) ∧ ∀ p ∈ flatL post, ltB k p.1 = true
  | 0, b, lo, hi, t, h, hk => ⟨[], [], rfl, (fun p hp => by cases hp), fun p hp => by cases hp⟩
  | d + 1, b, lo, hi, t, h, hk => by
    obtain ⟨k1, k2, t1, t2, c, l, hh, q, hget, hway, hleaf⟩ := way_kid h hk
    obtain ⟨pre, post, e, h1, h2⟩ := leaf_mid q.kid q.inr
    refine ⟨(t1.map (lvp d)).flatten ++ pre, post ++ (t2.map (lvp d)).flatten, ?_, fun p hp => ?_, fun p hp => ?_⟩
    · show ((nn t).2.2.map (lvp d)).flatten = _
      rw [q.ets, hleaf]
      simp [e]
    · rw [flatL_app, flatL_lvps] at hp
      rcases List.mem_append.1 hp with hp | hp
      · obtain ⟨L, hL, hp⟩ := List.mem_flatten.1 hp
        obtain ⟨t', ht, rfl⟩ := List.mem_map.1 hL
        obtain ⟨l', h', x1, x2, x3⟩ := q.before t' ht
        exact x1.bel x2 x3 p hp
      · exact h1 p hp
    · rw [flatL_app, flatL_lvps] at hp
      rcases List.mem_append.1 hp with hp | hp
      · exact h2 p hp
      · obtain ⟨L, hL, hp⟩ := List.mem_flatten.1 hp
        obtain ⟨t', ht, rfl⟩ := List.mem_map.1 hL
        obtain ⟨l', h', x1, x2⟩ := q.after t' ht
        exact x1.abv x2 p hp

theorem chn_start : ∀ {l : List (Nat × List Pr × Int)} {s : Int}, Chn s (l.map fun x => (x.1, x.2.2)) (-1) → s = nextOf l
  | [], s, h => h
  | x :: r, s, h => h.1
/-- The chain from some leaf on. -/
theorem chn_from {pre l : List (Nat × List Pr × Int)} {s : Int} (h : Chn s ((pre ++ l).map fun x => (x.1, x.2.2)) (-1)) : Chn (nextOf l) (l.map fun x => (x.1, x.2.2)) (-1) := by
  rw [List.map_append] at h
  obtain ⟨x, h1, h2⟩ := chn_app.1 h
  rw [← chn_start h2]
  exact h2
theorem chn_tail {x : Nat × List Pr × Int} {r : List (Nat × List Pr × Int)} {s : Int} (h : Chn s ((x :: r).map fun x => (x.1, x.2.2)) (-1)) : x.2.2 = nextOf r ∧ Chn (nextOf r) (r.map fun x => (x.1, x.2.2)) (-1) := by
  have h2 := h.2
  have e := chn_start h2
  refine ⟨e, ?_⟩
  rw [← e]
  exact h2

theorem drop_pos (P : List Pr) (k : Ky) : P.drop (pos P k) = P.dropWhile fun p => ltB p.1 k := by
  unfold pos
  have h := List.takeWhile_append_dropWhile (p := fun p : Pr => ltB p.1 k) (l := P)
  calc P.drop (P.takeWhile fun p => ltB p.1 k).length = ((P.takeWhile fun p => ltB p.1 k) ++ P.dropWhile fun p => ltB p.1 k).drop (P.takeWhile fun p => ltB p.1 k).length := by rw [h]
    _ = _ := List.drop_left
theorem dropw_app {p : Pr → Bool} {Y : List Pr} (hY : ∀ y ∈ Y, p y = false) : ∀ B : List Pr, (B ++ Y).dropWhile p = B.dropWhile p ++ Y
  | [] => by
    cases Y with
    | nil => rfl
    | cons y r => simp [hY y (by simp)]
  | b :: B => by
    have ih := dropw_app hY B
    cases h : p b <;> simp [h, ih]
/-- What is left of all pairs from a key on, by its leaf. -/
theorem rest_is {X B Y : List Pr} {k : Ky} (hX : ∀ p ∈ X, ltB p.1 k = true) (hY : ∀ p ∈ Y, ltB k p.1 = true) : (X ++ (B ++ Y)).drop (pos (X ++ (B ++ Y)) k) = B.drop (pos B k) ++ Y := by
  rw [drop_pos, drop_pos, List.dropWhile_append_of_pos hX, dropw_app (fun y hy => ltB_asymm (hY y hy))]

/-- Is there none that may be told? -/
def overB (R : List Pr) (ke : Ky) : Bool := match R with
  | [] => true
  | p :: _ => !inB [] ke p.1
theorem inB_nil (ke k : Ky) : inB [] ke k = belowB k ke := by
  unfold inB
  rw [ltB_nil]
  simp
end Go.Proofs.Ytfckiglemmfjfaa

namespace Go.Proofs.Ytfckiglemmfjfaa
open Go.RowKit
set_option linter.unusedVariables false
set_option maxRecDepth 100000

/-- A node's box. -/
def BoxN (w : World) (p : Nat) (h : Nh) (x : Nd) : Prop := w.heap[p]? = some (.cells #[.bool x.leaf, .slice h.A h.n h.c, .slice h.B h.m h.d, .slice h.K h.k h.e, .int .i64 x.next] 67 (0, 0))
theorem five_put {w : World} {b : Nat} {T : TypeId} {a0 a1 a2 a3 a4 : Value} (u0 u1 u2 u3 u4 : Value) (h : w.heap[b]? = some (.cells #[a0, a1, a2, a3, a4] T (0, 0))) :
    ∃ W, W = ((((w.setCell ⟨b, 0, none⟩ u0).setCell ⟨b, 1, none⟩ u1).setCell ⟨b, 2, none⟩ u2).setCell ⟨b, 3, none⟩ u3).setCell ⟨b, 4, none⟩ u4 ∧ W.heap[b]? = some (.cells #[u0, u1, u2, u3, u4] T (0, 0)) ∧ Only (· = b) w W := by
  refine ⟨_, rfl, by simp [World.setCell, Array.getElem?_modify, h], ?_⟩
  exact (((((Only.refl (· = b) w).set ⟨b, 0, none⟩ u0 (.inr rfl)).set ⟨b, 1, none⟩ u1 (.inr rfl)).set ⟨b, 2, none⟩ u2 (.inr rfl)).set ⟨b, 3, none⟩ u3 (.inr rfl)).set ⟨b, 4, none⟩ u4 (.inr rfl)

/-- A cursor at block cb: the pairs of its leaf that it has still to tell, the leaf behind, how many it may still come to, the range's end; none of what it leads to lies in the blocks that X names. -/
def Cur (w : World) (X : Nat → Prop) (g cb : Nat) (M : List Pr) (nx : Int) (lf : Nat) (ke : Ky) : Prop :=
  ∃ A n c B m d, w.heap[cb]? = some (.cells #[.pointer (some ⟨g, 0, none⟩), .slice A n c, .int .i64 nx, .int .i64 lf, .slice B m d] 60 (0, 0)) ∧ On (fun b => b ≠ cb ∧ ¬ X b) w (Prs · A n c M) ∧ On (fun b => b ≠ cb ∧ ¬ X b) w (Byt · B m ke)
theorem Cur.lt {w : World} {X : Nat → Prop} {g cb : Nat} {M : List Pr} {nx : Int} {lf : Nat} {ke : Ky} (h : Cur w X g cb M nx lf ke) : cb < w.heap.size := by
  obtain ⟨A, n, c, B, m, d, h1, -⟩ := h
  exact (Array.getElem?_eq_some_iff.1 h1).1
theorem Cur.below {w w' : World} {X : Nat → Prop} {g cb : Nat} {M : List Pr} {nx : Int} {lf : Nat} {ke : Ky} (h : Cur w X g cb M nx lf ke) (hb : Below w.heap.size w w') : Cur w' X g cb M nx lf ke := by
  have hl := h.lt
  obtain ⟨A, n, c, B, m, d, h1, h2, h3⟩ := h
  exact ⟨A, n, c, B, m, d, (hb.block cb hl).trans h1, h2.keep (below_all hb), h3.keep (below_all hb)⟩

/-- What Get told, in a box. -/
def GotR (W : World) (xs : Nd) (s8 s9 : Value) (wx : World) : Prop := ∃ p8 h8, s8 = .pointer (some ⟨p8, 0, none⟩) ∧ s9 = .bool true ∧ Below W.heap.size W wx ∧ BoxN wx p8 h8 xs ∧ W.heap.size ≤ p8 ∧ On (fun b => W.heap.size ≤ b ∧ b ≠ p8) wx (NdR · h8 xs)

theorem cur_put {w : World} {b : Nat} {T : TypeId} {a0 a1 a2 a3 a4 : Value} (u1 u2 u3 : Value) (h : w.heap[b]? = some (.cells #[a0, a1, a2, a3, a4] T (0, 0))) :
    ∃ W, W = (((w.setCell ⟨b, 1, none⟩ u1).setCell ⟨b, 2, none⟩ u2).setCell ⟨b, 3, none⟩ u3).drew ∧ W.heap[b]? = some (.cells #[a0, u1, u2, u3, a4] T (0, 0)) ∧ Only (· = b) w W := by
  refine ⟨_, rfl, by simp [World.setCell, World.drew, Array.getElem?_modify, h], ?_⟩
  have := (((Only.refl (· = b) w).set ⟨b, 1, none⟩ u1 (.inr rfl)).set ⟨b, 2, none⟩ u2 (.inr rfl)).set ⟨b, 3, none⟩ u3 (.inr rfl)
  exact ⟨this.os, this.tape, this.output, this.size, this.block⟩

set_option maxHeartbeats 8000000 in
theorem turn_yes {w : World} {D X : Nat → Prop} {g cb : Nat} {L : List (Option Nd)} {F : List Nat} {M : List Pr} {x : Nat × List Pr × Int} {lf : Nat} {ke : Ky} (hc : Cur w X g cb M (x.1 : Nat) (lf + 1) ke) (ha : Ar w D g L F) (hx : lat L x.1 = some (leafN x)) (hX : ∀ b, X b → b < w.heap.size) (hL : L.length ≤ 2000) (hlf : lf ≤ 2000) :
    Calls Try.prog 20 #[.pointer (some ⟨cb, 0, none⟩)] w fun e w' => e = .returned (.bool true) ∧ Cur w' X g cb x.2.1 x.2.2 lf ke ∧ Only (· = cb) w w' := by
  have hcl := hc.lt
  obtain ⟨A, n, c, B, m, d, h1, h2, h3⟩ := hc
  obtain ⟨lv, hlv⟩ : ∃ lv, lv = lf + 1 := ⟨_, rfl⟩
  rw [← hlv] at h1
  have HH := Lib.hid h1
  have HT := Lib.hid h3
  have HG : Hid (∀ V : World, Below w.heap.size w V → Calls Try.prog 23 #[.pointer (some ⟨g, 0, none⟩), .int .i64 x.1] V (GotN V (leafN x))) := Lib.hid fun V hV => get_node (ha.keep (below_all hV)) (by have := lat_lt hx; omega) hx
  clear ha hx h3 h2
  have hlz : ((lv : Int) == 0) = false := by simp; omega
  obtain ⟨c0, c1, c2, c3, c4, f0, f1, f2, f3, f4⟩ := five h1
  have hdec : IntKind.i64.wrap ((lv : Int) - 1) = (lf : Int) := by rw [IntWalk.i64_in _ (by omega)]; omega
  have hdec2 : wrap64 ((lv : Int) - 1) = (lf : Int) := by rw [IntWalk.wrap64_in _ (by omega)]; omega
  have HLV := Lib.hid hlv
  clear h1 hlv
  go_enter Try.func20, Try.ntmps20
  go_upto_region 3 with fail
  go_cut [3, 4] (fun s8 s9 wx => GotR w (leafN x) s8 s9 wx)
  case first =>
    have HK := Lib.hid (And.intro c0 c2)
    go_region_law (first
      | (go_simp
         go_at_call 23
         refine (HG.out _ (by first | exact (Below.refl w.heap.size w).drew | exact ((Below.refl w.heap.size w).drew).alloc (Nat.le_refl _) _ | exact ((Below.refl w.heap.size w).alloc (Nat.le_refl _) _).drew)).mono ?_
         rintro e w2 ⟨h8, rfl, hin8, hb8⟩
         have hb2 : Below w.heap.size w w2 := by first | exact undrew hb8 | exact (((Below.refl w.heap.size w).drew).alloc (Nat.le_refl _) _).trans (hb8.mono (by simp)) | exact (((Below.refl w.heap.size w).alloc (Nat.le_refl _) _).drew).trans (hb8.mono (by simp))
         have c0 := (hb2.cell (p := ⟨cb, 0, none⟩) hcl).trans HK.out.1
         have c2 := (hb2.cell (p := ⟨cb, 2, none⟩) hcl).trans HK.out.2
         first | (have Z := Lib.hid ((hb8.block w.heap.size (by simp)).trans (heap_alloc_new w _)); obtain ⟨z0, z1, z2, z3, z4, y0, y1, y2, y3, y4⟩ := five Z.out) | skip
         have HB2 := Lib.hid (And.intro hb2 (And.intro hin8.reads hb8))
         clear hb2 hin8 hb8
         go_wp2_with fail))
    all_goals
      first
        | (obtain ⟨V, hV, hVB, hVs, hVh⟩ := box5 w2 (.bool (leafN x).leaf) (.slice h8.A h8.n h8.c) (.slice h8.B h8.m h8.d) (.slice h8.K h8.k h8.e) (.int .i64 (leafN x).next) 67
           rw [← hV]
           have HG8 := Lib.hid (show GotR w (leafN x) (.pointer (some ⟨w2.heap.size, 0, none⟩)) (.bool true) V from ⟨_, h8, rfl, rfl, HB2.out.1.trans (hVB.mono HB2.out.1.size), hVh, HB2.out.1.size, (HB2.out.2.1.keep (below_all hVB)).mono (fun b hb => by have := hb.1; have := hb.2; simp at *; omega)⟩))
        | (obtain ⟨V, hV, hVh, hVO⟩ := five_put (.bool (leafN x).leaf) (.slice h8.A h8.n h8.c) (.slice h8.B h8.m h8.d) (.slice h8.K h8.k h8.e) (.int .i64 (leafN x).next) Z.out
           rw [← hV]
           have HG8 := Lib.hid (show GotR w (leafN x) (.pointer (some ⟨w.heap.size, 0, none⟩)) (.bool true) V from ⟨_, h8, rfl, rfl, HB2.out.1.trans (hVO.below (fun b hb => by rw [hb]; exact Nat.le_refl _) HB2.out.1.size), hVh, Nat.le_refl _, (HB2.out.2.1.keep (hVO.agree (fun b hb e => by have := hb.1; simp at this; omega))).mono (fun b hb => by have := hb.1; simp at this; omega)⟩))
      clear hV
      go_wp2
      go_meet
      exact HG8.out
  case rest =>
    obtain ⟨p8, h8, rfl, rfl, hb, hbx, hp8, hnr⟩ := hcut
    have HB := Lib.hid hb
    have HN := Lib.hid hnr
    have q8 := (hb.block cb hcl).trans HH.out
    obtain ⟨c0, c1, c2, c3, c4, f0, f1, f2, f3, f4⟩ := five q8
    unfold BoxN at hbx
    rw [show (leafN x).leaf = true from rfl] at hbx
    obtain ⟨d0, d1, d2, d3, d4, -⟩ := five hbx
    have HQ := Lib.hid q8
    have hne : ¬ (cb = p8) := by omega
    have hne2 : ¬ (p8 = cb) := by omega
    have HXO := Lib.hid (show ∀ b, X b → b < w.heap.size from hX)
    clear hb q8 hbx hp8 hnr hX
    go_upto_region 6 with fail
    go_region
    go_wp2
    obtain ⟨V, hV, hVh, hVO⟩ := cur_put (.slice h8.A h8.n h8.c) (.int .i64 (leafN x).next) (.int .i64 lf) HQ.out
    rw [← hV]
    go_ret
    refine ⟨rfl, ⟨h8.A, h8.n, h8.c, B, m, d, hVh, ?_, ?_⟩, (below_only HB.out).trans hVO⟩
    · exact ((HN.out.imp fun v hv => hv.1).keep (hVO.agree fun b hb e => by have := hb.1; omega)).mono fun b hb => ⟨by have := hb.1; omega, fun hx => by have := HXO.out b hx; have := hb.1; omega⟩
    · exact (HT.out.keep (below_all HB.out)).keep (hVO.agree fun b hb e => hb.1 e)

theorem get_out {w : World} {D : Nat → Prop} {g : Nat} {L : List (Option Nd)} {F : List Nat} (h : Ar w D g L F) {i : Int} (hi : i < 0) :
    Calls Try.prog 23 #[.pointer (some ⟨g, 0, none⟩), .int .i64 i] w fun e w' => ∃ h, e = .returned (.tuple #[ndV h nd0, .bool false]) ∧ Below w.heap.size w w' := by
  have hu : usedB L i = false := by unfold usedB; simp; omega
  have hn : gotNd L i = nd0 := by unfold gotNd; rw [hu]; rfl
  refine (get_own h i (by omega)).mono fun e w' ⟨hh, h1, _, h3, _⟩ => ⟨hh, by rw [h1, hu, hn], h3⟩
/-- What Get told of no node, in a box. -/
def GotE (W : World) (s8 s9 : Value) (wx : World) : Prop := ∃ p8 h8, s8 = .pointer (some ⟨p8, 0, none⟩) ∧ Below W.heap.size W wx ∧ BoxN wx p8 h8 nd0

set_option maxHeartbeats 8000000 in
theorem turn_end {w : World} {D X : Nat → Prop} {g cb : Nat} {L : List (Option Nd)} {F : List Nat} {M : List Pr} {lf : Nat} {ke : Ky} (hc : Cur w X g cb M (-1) lf ke) (ha : Ar w D g L F) (hlf : lf ≤ 2000) :
    Calls Try.prog 20 #[.pointer (some ⟨cb, 0, none⟩)] w fun e w' => e = .returned (.bool false) ∧ Below w.heap.size w w' := by
  have hcl := hc.lt
  obtain ⟨A, n, c, B, m, d, h1, h2, h3⟩ := hc
  have HG : Hid (∀ V : World, Below w.heap.size w V → Calls Try.prog 23 #[.pointer (some ⟨g, 0, none⟩), .int .i64 (-1)] V _) := Lib.hid fun V hV => get_out (ha.keep (below_all hV)) (by omega)
  clear ha h3 h2
  obtain ⟨c0, c1, c2, c3, c4, f0, f1, f2, f3, f4⟩ := five h1
  clear h1
  by_cases h0 : lf = 0
  · subst h0
    go_enter Try.func20, Try.ntmps20
    go_wp2
    go_ret
    exact ⟨rfl, Below.refl _ _⟩
  have hlz : ((lf : Int) == 0) = false := by simp; omega
  go_enter Try.func20, Try.ntmps20
  go_upto_region 3 with fail
  go_cut [3, 4] (fun s8 s9 wx => GotE w s8 s9 wx)
  case first =>
    have HK := Lib.hid (And.intro c0 c2)
    go_region_law (first
      | (go_simp
         go_at_call 23
         refine (HG.out _ (by first | exact (Below.refl w.heap.size w).drew | exact ((Below.refl w.heap.size w).drew).alloc (Nat.le_refl _) _ | exact ((Below.refl w.heap.size w).alloc (Nat.le_refl _) _).drew)).mono ?_
         rintro e w2 ⟨h8, rfl, hb8⟩
         have hb2 : Below w.heap.size w w2 := by first | exact undrew hb8 | exact (((Below.refl w.heap.size w).drew).alloc (Nat.le_refl _) _).trans (hb8.mono (by simp)) | exact (((Below.refl w.heap.size w).alloc (Nat.le_refl _) _).drew).trans (hb8.mono (by simp))
         have c0 := (hb2.cell (p := ⟨cb, 0, none⟩) hcl).trans HK.out.1
         have c2 := (hb2.cell (p := ⟨cb, 2, none⟩) hcl).trans HK.out.2
         first | (have Z := Lib.hid ((hb8.block w.heap.size (by simp)).trans (heap_alloc_new w _)); obtain ⟨z0, z1, z2, z3, z4, y0, y1, y2, y3, y4⟩ := five Z.out) | skip
         have HB2 := Lib.hid (And.intro hb2 hb8)
         clear hb2 hb8
         go_wp2_with fail))
    all_goals
      first
        | (obtain ⟨V, hV, hVB, hVs, hVh⟩ := box5 w2 (.bool nd0.leaf) (.slice h8.A h8.n h8.c) (.slice h8.B h8.m h8.d) (.slice h8.K h8.k h8.e) (.int .i64 nd0.next) 67
           rw [← hV]
           have HG8 := Lib.hid (show GotE w (.pointer (some ⟨w2.heap.size, 0, none⟩)) (.bool false) V from ⟨_, h8, rfl, HB2.out.1.trans (hVB.mono HB2.out.1.size), hVh⟩))
        | (obtain ⟨V, hV, hVh, hVO⟩ := five_put (.bool nd0.leaf) (.slice h8.A h8.n h8.c) (.slice h8.B h8.m h8.d) (.slice h8.K h8.k h8.e) (.int .i64 nd0.next) Z.out
           rw [← hV]
           have HG8 := Lib.hid (show GotE w (.pointer (some ⟨w.heap.size, 0, none⟩)) (.bool false) V from ⟨_, h8, rfl, HB2.out.1.trans (hVO.below (fun b hb => by rw [hb]; exact Nat.le_refl _) HB2.out.1.size), hVh⟩))
      clear hV
      go_wp2
      go_meet
      exact HG8.out
  case rest =>
    obtain ⟨p8, h8, rfl, hb, hbx⟩ := hcut
    have HB := Lib.hid hb
    unfold BoxN at hbx
    rw [show nd0.leaf = false from rfl] at hbx
    obtain ⟨d0, -⟩ := five hbx
    clear hb hbx
    go_wp2
    go_ret
    exact ⟨rfl, HB.out⟩
end Go.Proofs.Ytfckiglemmfjfaa

namespace Go.Proofs.Ytfckiglemmfjfaa
open Go.RowKit
set_option linter.unusedVariables false
set_option maxRecDepth 100000

/-- A cursor that has still to tell R (as far as the range goes); X: blocks in which nothing of it lies. -/
def CurS (w : World) (X : Nat → Prop) (cb : Nat) (R : List Pr) (ke : Ky) : Prop :=
  ∃ D g L F M post lf, Cur w X g cb M (nextOf post) lf ke ∧ Ar w D g L F ∧ (∀ b, D b → b ≠ cb ∧ ¬ X b) ∧ L.length ≤ 2000 ∧ Chn (nextOf post) (post.map fun x => (x.1, x.2.2)) (-1) ∧ (∀ x ∈ post, lat L x.1 = some (leafN x)) ∧ post.length ≤ lf ∧ lf ≤ 2000 ∧ R = M ++ flatL post ∧ R.length ≤ 1000
theorem CurS.below {w w' : World} {X : Nat → Prop} {cb : Nat} {R : List Pr} {ke : Ky} (h : CurS w X cb R ke) (hb : Below w.heap.size w w') : CurS w' X cb R ke := by
  obtain ⟨D, g, L, F, M, post, lf, h1, h2, h3⟩ := h
  exact ⟨D, g, L, F, M, post, lf, h1.below hb, h2.keep (below_all hb), h3⟩
theorem CurS.lt {w : World} {X : Nat → Prop} {cb : Nat} {R : List Pr} {ke : Ky} (h : CurS w X cb R ke) : cb < w.heap.size := by
  obtain ⟨D, g, L, F, M, post, lf, h1, h2⟩ := h
  exact h1.lt
theorem Cur.mono {w : World} {X X' : Nat → Prop} {g cb : Nat} {M : List Pr} {nx : Int} {lf : Nat} {ke : Ky} (h : Cur w X g cb M nx lf ke) (hX : ∀ b, X' b → X b) : Cur w X' g cb M nx lf ke := by
  obtain ⟨A, n, c, B, m, d, h1, h2, h3⟩ := h
  exact ⟨A, n, c, B, m, d, h1, h2.mono fun b hb => ⟨hb.1, fun hx => hb.2 (hX b hx)⟩, h3.mono fun b hb => ⟨hb.1, fun hx => hb.2 (hX b hx)⟩⟩
theorem CurS.mono {w : World} {X X' : Nat → Prop} {cb : Nat} {R : List Pr} {ke : Ky} (h : CurS w X cb R ke) (hX : ∀ b, X' b → X b) : CurS w X' cb R ke := by
  obtain ⟨D, g, L, F, M, post, lf, h1, h2, h3, h4⟩ := h
  exact ⟨D, g, L, F, M, post, lf, h1.mono hX, h2, fun b hb => ⟨(h3 b hb).1, fun hx => (h3 b hb).2 (hX b hx)⟩, h4⟩
/-- New blocks hold nothing of it. -/
theorem CurS.more {w : World} {X : Nat → Prop} {cb : Nat} {R : List Pr} {ke : Ky} (h : CurS w X cb R ke) : CurS w (fun b => X b ∨ w.heap.size ≤ b) cb R ke := by
  obtain ⟨D, g, L, F, M, post, lf, ⟨A, n, c, B, m, d, h1, hp, hq⟩, h2, h3, h4⟩ := h
  refine ⟨D, g, L, F, M, post, lf, ⟨A, n, c, B, m, d, h1, hp.now.mono fun b hb => ⟨hb.1.1, ?_⟩, hq.now.mono fun b hb => ⟨hb.1.1, ?_⟩⟩, h2, fun b hb => ⟨(h3 b hb).1, ?_⟩, h4⟩
  · rintro (hx | hx)
    · exact hb.1.2 hx
    · have := hb.2; omega
  · rintro (hx | hx)
    · exact hb.1.2 hx
    · have := hb.2; omega
  · rintro (hx | hx)
    · exact (h3 b hb).2 hx
    · have := h2.lt b hb; omega
/-- What is stored outside. -/
theorem CurS.agree {w w' : World} {X : Nat → Prop} {cb : Nat} {R : List Pr} {ke : Ky} (h : CurS w X cb R ke) (ha : Agree (fun b => ¬ X b) w w') (hc : ¬ X cb) : CurS w' X cb R ke := by
  obtain ⟨D, g, L, F, M, post, lf, ⟨A, n, c, B, m, d, h1, hp, hq⟩, h2, h3, h4⟩ := h
  exact ⟨D, g, L, F, M, post, lf, ⟨A, n, c, B, m, d, by rw [ha.2 cb hc (Array.getElem?_eq_some_iff.1 h1).1]; exact h1, hp.keep (ha.mono fun b hb => hb.2), hq.keep (ha.mono fun b hb => hb.2)⟩, h2.keep (ha.mono fun b hb => (h3 b hb).2), h3, h4⟩

/-- How many leaves it may still come to. -/
def leftW (w : World) (cb : Nat) : Nat := match w.cell? ⟨cb, 3, none⟩ with
  | some v => (intOf v).toNat
  | none => 0
theorem leftW_is {w : World} {X : Nat → Prop} {g cb : Nat} {M : List Pr} {nx : Int} {lf : Nat} {ke : Ky} (h : Cur w X g cb M nx lf ke) : leftW w cb = lf := by
  obtain ⟨A, n, c, B, m, d, h1, -⟩ := h
  obtain ⟨-, -, -, c3, -⟩ := five h1
  unfold leftW
  rw [c3]
  rfl

/-- What Next leaves. -/
def NextO (w : World) (X : Nat → Prop) (cb : Nat) (R : List Pr) (ke : Ky) (e : Ending) (w' : World) : Prop :=
  Only (· = cb) w w' ∧
  ((overB R ke = true ∧ e = .returned (.tuple #[.agg #[.slice none 0 0, .slice none 0 0], .bool false]) ∧ CurS w' X cb R ke) ∨
   (overB R ke = false ∧ ∃ p R' A n c B m d, R = p :: R' ∧ e = .returned (.tuple #[.agg #[.slice A n c, .slice B m d], .bool true]) ∧ On (fun b => b ≠ cb ∧ ¬ X b) w' (Byt · A n p.1) ∧ On (fun b => b ≠ cb ∧ ¬ X b) w' (Byt · B m p.2) ∧ CurS w' X cb R' ke))

theorem two_put {w : World} {b : Nat} {T : TypeId} {a0 a1 : Value} (u0 u1 : Value) (h : w.heap[b]? = some (.cells #[a0, a1] T (0, 0))) :
    ∃ W, W = (w.setCell ⟨b, 0, none⟩ u0).setCell ⟨b, 1, none⟩ u1 ∧ W.cell? ⟨b, 0, none⟩ = some u0 ∧ W.cell? ⟨b, 1, none⟩ = some u1 ∧ Only (· = b) w W := by
  refine ⟨_, rfl, ?_, ?_, ((Only.refl (· = b) w).set ⟨b, 0, none⟩ u0 (.inr rfl)).set ⟨b, 1, none⟩ u1 (.inr rfl)⟩
  · simp [World.cell?, World.setCell, Array.getElem?_modify, h]
  · simp [World.cell?, World.setCell, Array.getElem?_modify, h]

theorem next_only {w W wr w3 V : World} {cb : Nat} (h1 : Below w.heap.size w W) (hs : W.heap.size = w.heap.size + 1) (h2 : Only (· = cb) W wr) (h3 : Only (· = cb) wr w3) (h4 : Only (· = w.heap.size) w3 V) : Only (· = cb) w V := by
  have h13 := h2.trans h3
  refine ⟨h4.os.trans (h13.os.trans h1.os), h4.tape.trans (h13.tape.trans h1.tape), h4.output.trans (h13.output.trans h1.output), ?_, fun k hk hd => ?_⟩
  · have := h13.size; have := h4.size; omega
  · have := h13.size
    rw [h4.block k (by omega) (by omega), h13.block k (by omega) hd, h1.block k hk]

theorem next_onto {w W wr w3 V : World} {cb : Nat} (h1 : Below w.heap.size w W) (hs : W.heap.size = w.heap.size + 1) (h2 : Only (· = cb) W wr) (h3 : Below wr.heap.size wr w3) (h4 : Only (fun b => b = cb ∨ b = w.heap.size) w3 V) : Only (· = cb) w V := by
  refine ⟨h4.os.trans (h3.os.trans (h2.os.trans h1.os)), h4.tape.trans (h3.tape.trans (h2.tape.trans h1.tape)), h4.output.trans (h3.output.trans (h2.output.trans h1.output)), ?_, fun k hk hd => ?_⟩
  · have := h2.size; have := h3.size; have := h4.size; omega
  · have := h2.size
    have := h3.size
    rw [h4.block k (by omega) (by omega), h3.block k (by omega), h2.block k (by omega) hd, h1.block k hk]
theorem tell_put {w : World} {cb rv : Nat} {T S : TypeId} {a0 a1 a2 a3 a4 b0 b1 : Value} (u v0 v1 : Value) (h : w.heap[cb]? = some (.cells #[a0, a1, a2, a3, a4] T (0, 0))) (h' : w.heap[rv]? = some (.cells #[b0, b1] S (0, 0))) (hne : cb ≠ rv) :
    ∃ W, W = ((w.setCell ⟨cb, 1, none⟩ u).setCell ⟨rv, 0, none⟩ v0).setCell ⟨rv, 1, none⟩ v1 ∧ W.heap[cb]? = some (.cells #[a0, u, a2, a3, a4] T (0, 0)) ∧ W.cell? ⟨rv, 0, none⟩ = some v0 ∧ W.cell? ⟨rv, 1, none⟩ = some v1 ∧ Only (fun b => b = cb ∨ b = rv) w W := by
  have hne' : rv ≠ cb := fun e => hne e.symm
  refine ⟨_, rfl, ?_, ?_, ?_, (((Only.refl _ w).set ⟨cb, 1, none⟩ u (.inr (.inl rfl))).set ⟨rv, 0, none⟩ v0 (.inr (.inr rfl))).set ⟨rv, 1, none⟩ v1 (.inr (.inr rfl))⟩
  · simp [World.setCell, Array.getElem?_modify, h, hne']
  · simp [World.cell?, World.setCell, Array.getElem?_modify, h', hne]
  · simp [World.cell?, World.setCell, Array.getElem?_modify, h', hne]

set_option maxHeartbeats 8000000 in
theorem next_any {w : World} {X : Nat → Prop} {cb : Nat} {R : List Pr} {ke : Ky} (h : CurS w X cb R ke) (hX : ∀ b, X b → b < w.heap.size) (hXc : ¬ X cb) :
    Calls Try.prog 9 #[.pointer (some ⟨cb, 0, none⟩)] w (NextO w X cb R ke) := by
  have hcl := h.lt
  obtain ⟨W, hW, hWB, hWs, hWh⟩ : ∃ W, W = w.alloc (.cells #[.slice none 0 0, .slice none 0 0] 38) ∧ Below w.heap.size w W ∧ W.heap.size = w.heap.size + 1 ∧ W.heap[w.heap.size]? = some (.cells #[.slice none 0 0, .slice none 0 0] 38 (0, 0)) :=
    ⟨_, rfl, (Below.refl _ _).alloc (Nat.le_refl _) _, by simp, heap_alloc_new w _⟩
  have H0 := Lib.hid (show CurS W (fun b => X b ∨ b = w.heap.size) cb R ke from (h.more.below hWB).mono (fun b hb => by
    rcases hb with hb | hb
    · exact .inl hb
    · exact .inr (by omega)))
  have HX := Lib.hid (And.intro hX hXc)
  have HWB := Lib.hid (And.intro hWB hWh)
  have hWe := Lib.hid hW
  clear h hX hXc hWB hWh hW
  go_enter Try.func9, Try.ntmps9
  go_wp2
  rw [← hWe.out]
  go_loopw [5] (fun _ wr => CurS wr (fun b => X b ∨ b = w.heap.size) cb R ke ∧ Only (· = cb) W wr) (fun _ wr => leftW wr cb)
  case atStart => exact ⟨H0.out, Only.refl _ _⟩
  case round =>
    obtain ⟨hcs, ho⟩ := hrel
    have HCS := Lib.hid hcs
    obtain ⟨D, g, L, F, M, post, lf, hc, ha, hd, hL, hch, hld, hpl, hlf, hR, hRl⟩ := hcs
    have HLW := Lib.hid (leftW_is hc)
    have HC := Lib.hid hc
    have HA := Lib.hid (And.intro ha (And.intro hd (And.intro hch hld)))
    have HO := Lib.hid ho
    have HR := Lib.hid (And.intro hR hRl)
    have hwl : w.heap.size < wr.heap.size := by have := ho.size; omega
    have hrv : wr.heap[w.heap.size]? = some (.cells #[.slice none 0 0, .slice none 0 0] 38 (0, 0)) := (ho.block w.heap.size (by omega) (by omega)).trans HWB.out.2
    have HRV := Lib.hid hrv
    obtain ⟨r0, r1, e0, e1⟩ := pair_cells hrv
    obtain ⟨A, n, c, B, m, d, h1, hp, hq⟩ := hc
    obtain ⟨c0, c1, c2, c3, c4, f0, f1, f2, f3, f4⟩ := five h1
    have HQ := Lib.hid h1
    have HP := Lib.hid (And.intro hp hq)
    have hcw : cb < wr.heap.size := by have := ho.size; omega
    have hne : ¬ (cb = w.heap.size) := by omega
    have hne2 : ¬ (w.heap.size = cb) := by omega
    have hlen : M.length = n := hp.here.len
    clear ha hd hch hld ho hR hRl hrv h1 hp hq H0 hWe
    cases M with
    | nil =>
      obtain rfl : n = 0 := by simpa using hlen.symm
      cases post with
      | nil =>
        have HT := Lib.hid (turn_end (HC.out) HA.out.1 hlf)
        have hov : overB R ke = true := by rw [HR.out.1]; rfl
        have HOV := Lib.hid hov
        clear hov hlen
        go_wp2_with fail
        refine HT.out.mono ?_
        rintro e w3 ⟨rfl, hb3⟩
        have HB3 := Lib.hid hb3
        have q0 := (hb3.block w.heap.size hwl).trans HRV.out
        have HQ0 := Lib.hid q0
        obtain ⟨r0, r1, e0, e1⟩ := pair_cells q0
        clear hb3 HT q0
        go_wp2
        obtain ⟨V, hV, v0, v1, hVO⟩ := two_put (.slice none 0 0) (.slice none 0 0) HQ0.out
        rw [← hV]
        refine bodyPost_ret (v := .tuple #[.agg #[.slice none 0 0, .slice none 0 0], .bool false]) (by simp [results, Try.results9, go_sem, v0, v1]) rfl ⟨next_only HWB.out.1 hWs HO.out (below_only HB3.out) hVO, .inl ⟨HOV.out, rfl, ?_⟩⟩
        exact ((HCS.out.below HB3.out).agree (hVO.agree fun b hb e => hb (.inr e)) (fun h => h.elim HX.out.2 hne)).mono fun b hb => .inl hb
      | cons x r =>
        obtain ⟨lf', rfl⟩ : ∃ k, lf = k + 1 := ⟨lf - 1, by simp at hpl; omega⟩
        have hcc := HC.out
        rw [show nextOf (x :: r) = (x.1 : Int) from rfl] at hcc
        have HT := Lib.hid (turn_yes hcc HA.out.1 (HA.out.2.2.2 x (by simp)) (fun b hb => by
          rcases hb with hb | hb
          · have := HX.out.1 b hb; omega
          · omega) hL (by omega))
        clear hcc hlen
        go_wp2_with fail
        refine HT.out.mono ?_
        rintro e w3 ⟨rfl, hc3, ho3⟩
        have HC3 := Lib.hid hc3
        have HO3 := Lib.hid ho3
        clear hc3 ho3 HT
        go_wp2
        go_roundw
        case rel =>
          obtain ⟨t1, t2⟩ := chn_tail HA.out.2.2.1
          have hc3 := HC3.out
          rw [t1] at hc3
          refine ⟨⟨D, g, L, F, _, r, lf', hc3, HA.out.1.keep (HO3.out.agree fun b hb e => (HA.out.2.1 b hb).1 e), HA.out.2.1, hL, t2, fun y hy => HA.out.2.2.2 y (List.mem_cons_of_mem _ hy), by simp at hpl; omega, by omega, ?_, HR.out.2⟩, HO.out.trans HO3.out⟩
          rw [HR.out.1, flatL_cons]
          rfl
        case measure =>
          rw [HLW.out, leftW_is HC3.out]
          omega
    | cons p M' =>
      have hn0 : 0 < n := by rw [← hlen]; simp
      have hnz : ((n : Int) == 0) = false := by simp; omega
      have hnI : (0 : Int) < (n : Int) := by omega
      obtain ⟨b, oo, A1, n1, c1', B1, m1, d1, rfl, k0, k1, y1, y2⟩ := prs_pair_on HP.out.1 hn0
      simp only [Nat.zero_mul, Nat.add_zero] at k0 k1
      have HY := Lib.hid (And.intro y1 y2)
      have HWV := Lib.hid (show ∃ V, V = wr.alloc (.cells #[.slice A1 n1 c1', .slice B1 m1 d1] 38) ∧ Below wr.heap.size wr V ∧ V.cell? ⟨wr.heap.size, 0, none⟩ = some (.slice A1 n1 c1') ∧ V.cell? ⟨wr.heap.size, 1, none⟩ = some (.slice B1 m1 d1) ∧ V.heap.size = wr.heap.size + 1 from
        ⟨_, rfl, (Below.refl _ _).alloc (Nat.le_refl _) _, box_0 _ _ _ _, box_1 _ _ _ _, by simp⟩)
      have HK4 := Lib.hid c4
      clear y1 y2 hlen
      go_upto_region 5 with fail
      obtain ⟨V, hV, hVB, hV0, hV1, hVs⟩ := HWV.out
      rw [← hV]
      have hVl : wr.heap.size < V.heap.size := by omega
      have hcV : cb < V.heap.size := by omega
      have e4 := (hVB.cell (p := ⟨cb, 4, none⟩) hcw).trans c4
      have HVB := Lib.hid hVB
      have HK := Lib.hid (And.intro e4 (And.intro hV0 hV1))
      have HIN := in_any (w := V.drew) 0 d c1' (l := []) (byt_none _) ((HP.out.2.here.below hVB).below (Below.refl V.heap.size V).drew) ((HY.out.1.here.below hVB).below (Below.refl V.heap.size V).drew)
      clear hV HWV hVB c4 r0 r1 e0 e1 k0 k1
      cases hin : inB [] ke p.1
      · have hov : overB R ke = true := by rw [HR.out.1]; show (!inB [] ke p.1) = true; rw [hin]; rfl
        have HOV := Lib.hid hov
        rw [show (gt (p :: M') 0).1 = p.1 from rfl, hin] at HIN
        have HIN := Lib.hid HIN
        clear hin hov
        go_region_held3 (fun w' => w'.cell? ⟨cb, 4, none⟩ = some (.slice B m d) ∧ w'.cell? ⟨wr.heap.size, 0, none⟩ = some (.slice A1 n1 c1')) (go_keep)
          ((go_at_call 24
            (with_reducible refine HIN.out.mono ?_)
            rintro e w3 ⟨rfl, hb3⟩
            have hb3 := undrew hb3
            have e4 := (hb3.cell (p := ⟨cb, 4, none⟩) hcV).trans HK.out.1
            have hV0 := (hb3.cell (p := ⟨wr.heap.size, 0, none⟩) hVl).trans HK.out.2.1
            have HB3 := Lib.hid (HVB.out.trans (hb3.mono HVB.out.size))
            clear hb3))
        have q0 := (HB3.out.block w.heap.size hwl).trans HRV.out
        have HQ0 := Lib.hid q0
        obtain ⟨r0, r1, e0, e1⟩ := pair_cells q0
        clear q0 HIN
        go_wp2
        obtain ⟨Z, hZ, v0, v1, hZO⟩ := two_put (.slice none 0 0) (.slice none 0 0) HQ0.out
        rw [← hZ]
        refine bodyPost_ret (v := .tuple #[.agg #[.slice none 0 0, .slice none 0 0], .bool false]) (by simp [results, Try.results9, go_sem, v0, v1]) rfl ⟨next_only HWB.out.1 hWs HO.out (below_only HB3.out) hZO, .inl ⟨HOV.out, rfl, ?_⟩⟩
        exact ((HCS.out.below HB3.out).agree (hZO.agree fun b hb e => hb (.inr e)) (fun h => h.elim HX.out.2 hne)).mono fun b hb => .inl hb
      · have hov : overB R ke = false := by rw [HR.out.1]; show (!inB [] ke p.1) = false; rw [hin]; rfl
        have HOV := Lib.hid hov
        rw [show (gt (p :: M') 0).1 = p.1 from rfl, hin] at HIN
        have HIN := Lib.hid HIN
        clear hin hov
        go_region_held3 (fun w' => w'.cell? ⟨cb, 4, none⟩ = some (.slice B m d) ∧ w'.cell? ⟨wr.heap.size, 0, none⟩ = some (.slice A1 n1 c1')) (go_keep)
          ((go_at_call 24
            (with_reducible refine HIN.out.mono ?_)
            rintro e w3 ⟨rfl, hb3⟩
            have hb3 := undrew hb3
            have e4 := (hb3.cell (p := ⟨cb, 4, none⟩) hcV).trans HK.out.1
            have hV0 := (hb3.cell (p := ⟨wr.heap.size, 0, none⟩) hVl).trans HK.out.2.1
            have hV1 := (hb3.cell (p := ⟨wr.heap.size, 1, none⟩) hVl).trans HK.out.2.2
            have HB3 := Lib.hid (HVB.out.trans (hb3.mono HVB.out.size))
            clear hb3))
        have q0 := (HB3.out.block w.heap.size hwl).trans HRV.out
        have HQ0 := Lib.hid q0
        obtain ⟨r0, r1, e0, e1⟩ := pair_cells q0
        have q1 := (HB3.out.block cb hcw).trans HQ.out
        have HQ1 := Lib.hid q1
        obtain ⟨c0, c1, c2, c3, c4, f0, f1, f2, f3, f4⟩ := five q1
        have hnr : ¬ (wr.heap.size = cb) := by omega
        have hnr2 : ¬ (cb = wr.heap.size) := by omega
        have hnr3 : ¬ (wr.heap.size = w.heap.size) := by omega
        have hnr4 : ¬ (w.heap.size = wr.heap.size) := by omega
        have hn1 : (1 : Int) ≤ (n : Int) := by omega
        have hn1N : 1 ≤ n := by omega
        clear q0 q1 HIN
        go_wp2
        case' inl => obtain ⟨Z, hZ, zc, v0, v1, hZO⟩ := tell_put (.slice (some ⟨b, oo, none⟩) (n - 1) 0) (.slice A1 n1 c1') (.slice B1 m1 d1) HQ1.out HQ0.out hne
        case' inr => obtain ⟨Z, hZ, zc, v0, v1, hZO⟩ := tell_put (.slice (some ⟨b, oo + 2, none⟩) (n - 1) (c - 1)) (.slice A1 n1 c1') (.slice B1 m1 d1) HQ1.out HQ0.out hne
        all_goals
          rw [← hZ]
          have hag : ∀ C : Nat → Prop, (∀ b, C b → b ≠ cb ∧ b ≠ w.heap.size) → Agree C wr Z := fun C hC => (below_all HB3.out).trans (hZO.agree fun b hb e => e.elim (hC b hb).1 (hC b hb).2)
          have hag1 := hag (fun b => b ≠ cb ∧ ¬ (X b ∨ b = w.heap.size)) (fun b hb => ⟨hb.1, fun e => hb.2 (.inr e)⟩)
          have hwk : ∀ b, (b ≠ cb ∧ ¬ (X b ∨ b = w.heap.size)) → b ≠ cb ∧ ¬ X b := fun b hb => ⟨hb.1, fun e => hb.2 (.inl e)⟩
          refine bodyPost_ret (v := .tuple #[.agg #[.slice A1 n1 c1', .slice B1 m1 d1], .bool true]) (by simp [results, Try.results9, go_sem, v0, v1]) rfl ⟨next_onto HWB.out.1 hWs HO.out HB3.out hZO, .inr ⟨HOV.out, p, M' ++ flatL post, A1, n1, c1', B1, m1, d1, HR.out.1, rfl, (HY.out.1.keep hag1).mono hwk, (HY.out.2.keep hag1).mono hwk, D, g, L, F, M', post, lf, ⟨_, _, _, B, m, d, zc, ((HP.out.1.imp fun v hv => ?_).keep hag1).mono hwk, (HP.out.2.keep hag1).mono hwk⟩, HA.out.1.keep (hag D fun b hb => ⟨(HA.out.2.1 b hb).1, fun e => (HA.out.2.1 b hb).2 (.inr e)⟩), fun b hb => hwk b (HA.out.2.1 b hb), hL, HA.out.2.2.1, HA.out.2.2.2, hpl, hlf, rfl, ?_⟩⟩
        case inl.refine_1 =>
          have hc : c = 1 := by assumption
          have := hv.from (k := 1) hn1N
          rw [hc] at this
          exact this
        case inl.refine_2 =>
          have h1 := HR.out.2
          rw [HR.out.1] at h1
          simp at h1 ⊢
          omega
        case inr.refine_1 =>
          have hc : ¬ c = 1 := by assumption
          have := hv.from (k := 1) hn1N
          unfold cutA at this
          rw [if_neg hc, Option.map_some, add_lit] at this
          exact this
        case inr.refine_2 =>
          have h1 := HR.out.2
          rw [HR.out.1] at h1
          simp at h1 ⊢
          omega
end Go.Proofs.Ytfckiglemmfjfaa

namespace Go.Proofs.Ytfckiglemmfjfaa
open Go.RowKit
set_option linter.unusedVariables false
set_option maxRecDepth 100000

set_option maxHeartbeats 400000 in
theorem ahead_any {w : World} {A B C : Option Addr} {n m o : Nat} (c d q : Nat) {k v x : List UInt8} (h : Byt w A n k) (h' : Byt w C o x) :
    Calls Try.prog 22 #[.agg #[.slice A n c, .slice B m d], .slice C o q] w fun e w' => e = .returned (.int .i64 (cmpB k x)) ∧ Below w.heap.size w w' := by
  have H := Lib.hid (fun ob => compare_any c q (h.alloc ob) (h'.alloc ob))
  clear h h'
  go_enter Try.func22, Try.ntmps22
  go_wp2_with (go_at_call 33; refine (H.out _).mono ?_; rintro e w' ⟨rfl, rfl⟩)
  go_ret
  exact ⟨rfl, (Below.refl _ _).alloc (Nat.le_refl _) _⟩

set_option maxHeartbeats 2000000 in
theorem look_any {w : World} {A C : Option Addr} {n c o : Nat} (q : Nat) {L : List Pr} {k : List UInt8} (h : Prs w A n c L) (h' : Byt w C o k) (hs : Srt L) (hn : n ≤ 1000) :
    Calls Try.prog 21 #[.slice A n c, .slice C o q, .func (.func 22) #[] #[]] w fun e w' => e = .returned (.tuple #[.int .i64 (pos L k), .bool (hasB L k)]) ∧ Below w.heap.size w w' := by
  have H := Lib.hid h
  have H' := Lib.hid h'
  have HS := Lib.hid hs
  have hlen := h.len
  have HL := Lib.hid hlen
  clear h h' hs hlen
  have HP := Lib.hid (pos_le L k)
  go_enter Try.func21, Try.ntmps21
  go_wp2
  go_loopw [9, 10] (fun s9 s10 wr => ∃ i j : Nat, s9 = .int .i64 i ∧ s10 = .int .i64 j ∧ i ≤ j ∧ j ≤ n ∧ Srch L k i j ∧ Below w.heap.size w wr) (fun s9 s10 _ => (intOf s10).toNat - (intOf s9).toNat)
  case atStart => exact ⟨0, n, rfl, rfl, Nat.zero_le _, Nat.le_refl _, ⟨Nat.zero_le _, by rw [← HL.out]; exact HP.out⟩, Below.refl _ _⟩
  case round =>
    obtain ⟨i, j, rfl, rfl, hij, hjn, hsr, hb⟩ := hrel
    have HSR := Lib.hid hsr
    clear hsr
    by_cases hlt : i < j
    · obtain ⟨b, oo, rfl, hbl, A1, n1, c1, B1, m1, d1, k0, k1, y1, y2⟩ := (H.out.below hb).at_ (show (i + j) / 2 < n by omega)
      have HC := ahead_any (B := B1) (m := m1) (d := d1) (v := []) c1 q y1 (H'.out.below hb)
      clear y1 y2
      have hpl := pos_lt HS.out k (show (i + j) / 2 < L.length by have := HL.out; omega)
      generalize gt L ((i + j) / 2) = y at HC hpl
      have HPL := Lib.hid hpl
      clear hpl
      have HLT := Lib.hid (cmp_lt y.1 k)
      by_cases hy : cmpB y.1 k < 0
      · have h1 : (i + j) / 2 < pos L k := by
          have := HPL.out
          rw [← HLT.out] at this
          simpa [hy] using this
        have H1 := Lib.hid h1
        clear h1
        go_wp2_with fail
        refine HC.mono ?_
        rintro e w' ⟨rfl, hb'⟩
        go_wp2
        exact ⟨⟨(i + j) / 2 + 1, j, by rw [mid_cast]; rfl, rfl, by omega, hjn, ⟨H1.out, HSR.out.2⟩, hb.trans (hb'.mono hb.size)⟩, meas_up i j hlt⟩
      · have h1 : ¬ (i + j) / 2 < pos L k := by
          have := HPL.out
          rw [← HLT.out] at this
          simpa [hy] using this
        have H1 := Lib.hid h1
        clear h1
        go_wp2_with fail
        refine HC.mono ?_
        rintro e w' ⟨rfl, hb'⟩
        go_wp2
        exact ⟨⟨i, (i + j) / 2, rfl, by rw [mid_cast], by omega, by omega, ⟨HSR.out.1, Nat.le_of_not_lt H1.out⟩, hb.trans (hb'.mono hb.size)⟩, meas_down i j hlt⟩
    · obtain rfl : j = i := by omega
      have hp : pos L k = j := by have := HSR.out; unfold Srch at this; omega
      have HPJ := Lib.hid hp
      clear hp
      by_cases hjl : j < n
      · obtain ⟨b, oo, rfl, hbl, A1, n1, c1, B1, m1, d1, k0, k1, y1, y2⟩ := (H.out.below hb).at_ hjl
        have HC := ahead_any (B := B1) (m := m1) (d := d1) (v := []) c1 q y1 (H'.out.below hb)
        clear y1 y2
        have hsm := pos_same HS.out k (by rw [HPJ.out, HL.out]; exact hjl)
        rw [HPJ.out] at hsm
        generalize gt L j = y at HC hsm
        have HSM := Lib.hid hsm
        clear hsm
        have HZ := Lib.hid (cmp_zero y.1 k)
        go_wp2_with fail
        refine HC.mono ?_
        rintro e w' ⟨rfl, hb'⟩
        go_wp2
        go_ret2
        exact ⟨ret_two (by rw [HPJ.out]) (by rw [← HSM.out, ← HZ.out]), hb.trans (hb'.mono hb.size)⟩
      · have hz := pos_end HS.out k (by rw [HPJ.out, HL.out]; omega)
        have HZ := Lib.hid hz
        clear hz
        go_wp2
        go_ret2
        exact ⟨ret_two (by rw [HPJ.out]) (by rw [HZ.out]), hb⟩

theorem cmay_yes {w : World} {D : Nat → Prop} {tb m : Nat} {P : List Pr} (h : Tre w D tb m P) : Calls Try.prog 15 #[.pointer (some ⟨tb, 0, none⟩)] w fun e w' => e = .returned (.bool true) ∧ w = w' := by
  obtain ⟨g, L, F, root, d, t, hT, hG, rfl, hP⟩ := h
  obtain ⟨c0, -, -, -, -, -⟩ := hT.cells
  clear hT hG hP
  go_enter Try.func15, Try.ntmps15
  go_wp2
  go_ret
  exact ⟨rfl, rfl⟩
theorem cmay_no (w : World) : Calls Try.prog 15 #[.pointer none] w fun e w' => e = .returned (.bool false) ∧ w = w' := by
  go_enter Try.func15, Try.ntmps15
  go_wp2
  go_ret
  exact ⟨rfl, rfl⟩

set_option maxHeartbeats 2000000 in
theorem open_nil (w : World) {C V : Option Addr} {o p : Nat} (q r : Nat) : Calls Try.prog 7 #[.pointer none, .agg #[.slice C o q, .slice V p r]] w fun e w' => e = .returned (.tuple #[.pointer none, errV 1]) ∧ Below w.heap.size w w' := by
  go_enter Try.func7, Try.ntmps7
  go_wp2_with fail
  refine (cmay_no _).mono ?_
  rintro e w1 ⟨rfl, rfl⟩
  go_wp2
  exact bodyPost_ret (v := .tuple #[.pointer none, errV 1]) (by simp [results, Try.results7, go_sem, errV]) rfl ⟨rfl, (Below.refl _ _).alloc (Nat.le_refl _) _⟩

set_option maxHeartbeats 4000000 in
theorem open_no {w : World} {D : Nat → Prop} {tb m : Nat} {P : List Pr} (h : Tre w D tb m P) {C V : Option Addr} {o p : Nat} (q r : Nat) {l k : Ky} (hl : Byt w C o l) (hk : Byt w V p k) (ho : o ≤ maxLen) (hp : p ≤ maxLen) (hs : soundB l k = false) :
    Calls Try.prog 7 #[.pointer (some ⟨tb, 0, none⟩), .agg #[.slice C o q, .slice V p r]] w fun e w' => e = .returned (.tuple #[.pointer none, errV 1]) ∧ Below w.heap.size w w' := by
  obtain ⟨W, hW, hWB, hW0, hW1, hWs⟩ : ∃ W, W = w.alloc (.cells #[.slice C o q, .slice V p r] 25) ∧ Below w.heap.size w W ∧ W.cell? ⟨w.heap.size, 0, none⟩ = some (.slice C o q) ∧ W.cell? ⟨w.heap.size, 1, none⟩ = some (.slice V p r) ∧ W.heap.size = w.heap.size + 1 :=
    ⟨_, rfl, (Below.refl _ _).alloc (Nat.le_refl _) _, box_0 _ _ _ _, box_1 _ _ _ _, by simp⟩
  have HMAY := cmay_yes (h.below hWB)
  have HSND := ksound_any q r (hl.below hWB) (hk.below hWB) ho hp
  rw [hs] at HSND
  have HWB := Lib.hid hWB
  have HC0 := Lib.hid hW0
  have HC1 := Lib.hid hW1
  have hWe := Lib.hid hW
  clear h hl hk hs hWB hW0 hW1 hW
  go_enter Try.func7, Try.ntmps7
  go_wp2_with fail
  rw [← hWe.out]
  refine HMAY.mono ?_
  rintro e w1 ⟨rfl, rfl⟩
  have b0 := HC0.out
  have b1 := HC1.out
  clear HMAY hWe
  go_wp2_with fail
  refine HSND.mono ?_
  rintro e w2 ⟨rfl, hb2⟩
  have HB2 := Lib.hid (HWB.out.trans (hb2.mono HWB.out.size))
  clear hb2 HSND b0 b1
  go_wp2
  exact bodyPost_ret (v := .tuple #[.pointer none, errV 1]) (by simp [results, Try.results7, go_sem, errV]) rfl ⟨rfl, HB2.out⟩

/-- What Open leaves. -/
def OpenO (w : World) (P : List Pr) (l k : Ky) (e : Ending) (w' : World) : Prop :=
  ∃ cb, e = .returned (.tuple #[.pointer (some ⟨cb, 0, none⟩), .nilIface]) ∧ w.heap.size ≤ cb ∧ CurS w' (fun _ => False) cb (P.drop (pos P l)) k ∧ Below w.heap.size w w'

set_option maxHeartbeats 8000000 in
theorem open_yes {w : World} {D : Nat → Prop} {tb m : Nat} {P : List Pr} (h : Tre w D tb m P) {C V : Option Addr} {o p : Nat} (q r : Nat) {l k : Ky} (hl : Byt w C o l) (hk : Byt w V p k) (ho : o ≤ maxLen) (hp : p ≤ maxLen) (hs : soundB l k = true) :
    Calls Try.prog 7 #[.pointer (some ⟨tb, 0, none⟩), .agg #[.slice C o q, .slice V p r]] w (OpenO w P l k) := by
  obtain ⟨W, hW, hWB, hW0, hW1, hWs⟩ : ∃ W, W = w.alloc (.cells #[.slice C o q, .slice V p r] 25) ∧ Below w.heap.size w W ∧ W.cell? ⟨w.heap.size, 0, none⟩ = some (.slice C o q) ∧ W.cell? ⟨w.heap.size, 1, none⟩ = some (.slice V p r) ∧ W.heap.size = w.heap.size + 1 :=
    ⟨_, rfl, (Below.refl _ _).alloc (Nat.le_refl _) _, box_0 _ _ _ _, box_1 _ _ _ _, by simp⟩
  have HMAY := cmay_yes (h.below hWB)
  have HSND := ksound_any q r (hl.below hWB) (hk.below hWB) ho hp
  rw [hs] at HSND
  have hp16 : p ≤ 1000 := by
    unfold soundB at hs
    have := hk.1
    simp at hs
    omega
  obtain ⟨g, L, F, root, d, t, hT, hG, rfl, hP⟩ := h
  obtain ⟨f1, f2, f3⟩ := hG.few hP
  obtain ⟨pre, post, hlv, hpre, hpost⟩ := leaf_mid hG.ok (inR_all l)
  obtain ⟨Af, Cf, hla⟩ := leaf_at hG.ok (inR_all l) hG.holds
  obtain ⟨s0, hs0⟩ := hG.chn
  rw [lvp_lvs, hlv] at hs0
  have hch := chn_from hs0
  have hfl : flat d t = flatL pre ++ ((leafT l d t).2.1 ++ flatL post) := by rw [lvp_flat d t, hlv]; simp [flatL]
  have hhold := lvp_holds hG.holds
  rw [hlv] at hhold
  have hnum : (lvp d t).length ≤ L.length := by have := lvp_few d t; have := hG.all; omega
  rw [hlv] at hnum
  have htl : tb < W.heap.size := Nat.lt_of_lt_of_le hT.lt.1 hWB.size
  obtain ⟨c0, -, -, -, -, -⟩ := (hT.below hWB).cells
  have HTT := Lib.hid (And.intro (hT.below hWB) hG)
  have HPL := Lib.hid (And.intro hch (And.intro (And.intro hfl hP) (And.intro hhold (And.intro hla (And.intro hpre hpost)))))
  have HI := Lib.hid (And.intro (hl.below hWB) (hk.below hWB))
  have HWB := Lib.hid hWB
  have HC0 := Lib.hid hW0
  have HC1 := Lib.hid hW1
  have hWe := Lib.hid hW
  have hrl : w.heap.size < W.heap.size := by omega
  clear hl hk hs hWB hW0 hW1 hW hT hG hP hlv hpre hpost hla hs0 hch hfl hhold
  go_enter Try.func7, Try.ntmps7
  go_wp2_with fail
  rw [← hWe.out]
  refine HMAY.mono ?_
  rintro e w1 ⟨rfl, rfl⟩
  have b0 := HC0.out
  have b1 := HC1.out
  have hTc := Lib.hid c0
  clear HMAY hWe c0
  go_wp2_with fail
  refine HSND.mono ?_
  rintro e w2 ⟨rfl, hb2⟩
  have b0 := (hb2.cell (p := ⟨w.heap.size, 0, none⟩) hrl).trans HC0.out
  have b1 := (hb2.cell (p := ⟨w.heap.size, 1, none⟩) hrl).trans HC1.out
  have c0 := (hb2.cell (p := ⟨tb, 0, none⟩) htl).trans hTc.out
  have HB2 := Lib.hid hb2
  have HK2 := Lib.hid (And.intro b0 (And.intro b1 c0))
  have hr2 : w.heap.size < w2.heap.size := Nat.lt_of_lt_of_le hrl hb2.size
  have ht2 : tb < w2.heap.size := Nat.lt_of_lt_of_le htl hb2.size
  have HLF := Lib.hid (show Calls Try.prog 17 #[.pointer (some ⟨tb, 0, none⟩), .slice C o q] w2.drew fun e w' => e = .returned (.int .i64 (leafT l d t).1) ∧ Below w2.heap.size w2.drew w' from leaf_any (HTT.out.1.below hb2.drew) HTT.out.2 (by omega) q (HI.out.1.below hb2.drew))
  clear hb2 HSND
  go_upto_region 3 with fail
  go_region_held3 (fun w' => w'.cell? ⟨w.heap.size, 0, none⟩ = some (.slice C o q) ∧ w'.cell? ⟨w.heap.size, 1, none⟩ = some (.slice V p r) ∧ w'.cell? ⟨tb, 0, none⟩ = some (.pointer (some ⟨g, 0, none⟩))) (go_keep)
    (first
      | (go_at_call 17
         (with_reducible refine HLF.out.mono ?_)
         rintro e w3 ⟨rfl, hb3⟩
         have hb3 := undrew hb3
         have b0 := (hb3.cell (p := ⟨w.heap.size, 0, none⟩) hr2).trans HK2.out.1
         have b1 := (hb3.cell (p := ⟨w.heap.size, 1, none⟩) hr2).trans HK2.out.2.1
         have c0 := (hb3.cell (p := ⟨tb, 0, none⟩) ht2).trans HK2.out.2.2
         have HLN := Lib.hid (len_any (HTT.out.1.below (HB2.out.trans (hb3.mono HB2.out.size))).2.1)
         have HB3 := Lib.hid (HB2.out.trans (hb3.mono HB2.out.size))
         have HCL := Lib.hid (clone_any r (HI.out.2.below HB3.out) hp16)
         have hr3 : w.heap.size < w3.heap.size := Nat.lt_of_lt_of_le hr2 hb3.size
         have ht3 : tb < w3.heap.size := Nat.lt_of_lt_of_le ht2 hb3.size
         clear hb3)
      | (go_at_call 18
         (with_reducible refine HLN.out.mono ?_)
         rintro e w4 ⟨rfl, rfl⟩)
      | (go_at_call 19
         (with_reducible refine HCL.out.mono ?_)
         rintro e w4 ⟨B5, d5, rfl, p5, n5, hb4⟩
         have b0 := (hb4.cell (p := ⟨w.heap.size, 0, none⟩) hr3).trans b0
         have b1 := (hb4.cell (p := ⟨w.heap.size, 1, none⟩) hr3).trans b1
         have c0 := (hb4.cell (p := ⟨tb, 0, none⟩) ht3).trans c0
         have HB4 := Lib.hid (HB3.out.trans (hb4.mono HB3.out.size))
         have H5 := Lib.hid (And.intro p5 n5)
         clear p5 n5 hb4))
  obtain ⟨W5, hW5, hB5, hs5, hh5⟩ := box5 w4 (.pointer (some ⟨g, 0, none⟩)) (.slice none 0 0) (.int .i64 (leafT l d t).1) (.int .i64 L.length) (.slice B5 p d5) 60
  rw [← hW5]
  obtain ⟨lf, hlf⟩ : ∃ lf, L.length = lf + 1 := ⟨L.length - 1, by omega⟩
  have h4W : W.heap.size ≤ w4.heap.size := HB4.out.size
  have HB5 := Lib.hid (HB4.out.trans (hB5.mono h4W))
  have hcur : Cur W5 (fun _ => False) g w4.heap.size [] ((leafT l d t).1 : Nat) (lf + 1) k := ⟨none, 0, 0, B5, p, d5, by rw [hh5, hlf], fun v _ => prs_nil v, ((byt_old H5.out.1).keep (below_all hB5)).mono fun b hb => ⟨by have : b < w4.heap.size := hb; omega, id⟩⟩
  have hx : lat L (leafT l d t).1 = some (leafN (leafT l d t)) := HPL.out.2.2.1 _ (by simp)
  have hT5 := HTT.out.1.below HB5.out
  have HTY := Lib.hid (turn_yes hcur hT5.2.1 hx (fun b hb => hb.elim) f1 (by omega))
  have hr5 : w.heap.size < w4.heap.size := by omega
  have i0 := (hB5.cell (p := ⟨w.heap.size, 0, none⟩) hr5).trans b0
  have HI0 := Lib.hid i0
  have HI5 := Lib.hid (((byt_old HI.out.1).keep (below_all HB5.out)))
  clear hcur hx hT5 hW5 hB5 hh5 b0 b1 c0 HLF HLN HCL H5 i0
  go_wp2_with fail
  refine HTY.out.mono ?_
  rintro e w6 ⟨rfl, ⟨A6, n6, c6, B6, m6, d6, h6, p6, q6⟩, ho6⟩
  have hcl : w4.heap.size < w6.heap.size := (Array.getElem?_eq_some_iff.1 h6).1
  have HH6 := Lib.hid h6
  have HP6 := Lib.hid (And.intro p6 q6)
  have HO6 := Lib.hid ho6
  obtain ⟨c0, c1, c2, c3, c4, f0, f1', f2', f3', f4⟩ := five h6
  have i0 := (World.cell?_of_block (a := ⟨w.heap.size, 0, none⟩) (ho6.block w.heap.size (by omega) (by show ¬ w.heap.size = w4.heap.size; omega))).trans HI0.out
  have hlen : (leafT l d t).2.1.length = n6 := p6.here.len
  have hn6 : n6 ≤ 1000 := by have := HPL.out.2.2.2.1.len; have := HTT.out.2.m16; omega
  have hl6 : Byt w6 C o l := (HI5.out.keep (ho6.agree fun b hb e => by have h1 : b < W.heap.size := hb; have h2 : b = w4.heap.size := e; omega)).here
  have HLK := Lib.hid (look_any (w := w6.drew) q (p6.here.below (Below.refl w6.heap.size w6).drew) (hl6.below (Below.refl w6.heap.size w6).drew) HPL.out.2.2.2.1.fit.1 hn6)
  have hple := pos_le (leafT l d t).2.1 l
  rw [hlen] at hple
  have hrs := rest_is (B := (leafT l d t).2.1) HPL.out.2.2.2.2.1 HPL.out.2.2.2.2.2
  rw [← HPL.out.2.1.1] at hrs
  have HRS := Lib.hid hrs
  obtain ⟨at', hat⟩ : ∃ a, a = pos (leafT l d t).2.1 l := ⟨_, rfl⟩
  rw [← hat] at hple HLK HRS
  generalize hasB (leafT l d t).2.1 l = hz at HLK
  have hnc : n6 ≤ c6 := p6.here.2.1
  have HK6 := Lib.hid (And.intro c1 i0)
  have hr6 : w.heap.size < w6.heap.size := by omega
  clear h6 p6 q6 ho6 hl6 hrs hat HTY
  go_upto_region 5 with fail
  go_region_held3 (fun w' => w'.cell? ⟨w4.heap.size, 1, none⟩ = some (.slice A6 n6 c6) ∧ w'.cell? ⟨w.heap.size, 0, none⟩ = some (.slice C o q)) (go_keep)
    ((go_at_call 21
      (with_reducible refine HLK.out.mono ?_)
      rintro e w7 ⟨rfl, hb7⟩
      have hb7 := undrew hb7
      have c1 := (hb7.cell (p := ⟨w4.heap.size, 1, none⟩) hcl).trans HK6.out.1
      have i0 := (hb7.cell (p := ⟨w.heap.size, 0, none⟩) hr6).trans HK6.out.2
      have HB7 := Lib.hid hb7
      clear hb7))
  have h7 := (HB7.out.block w4.heap.size hcl).trans HH6.out
  obtain ⟨-, -, -, -, -, -, g1, -⟩ := five h7
  have HH7 := Lib.hid h7
  have hat0 : (0 : Int) ≤ (at' : Int) := by omega
  have hatn : (at' : Int) ≤ (n6 : Int) := by omega
  have hX : (if c6 = at' then A6 else A6.map (·.add (at' * 2))) = cutA A6 at' c6 := rfl
  clear h7 HLK HK6 i0
  go_wp2
  refine bodyPost_ret (v := .tuple #[.pointer (some ⟨w4.heap.size, 0, none⟩), .nilIface]) (by simp [results, Try.results7, go_sem]) rfl ⟨w4.heap.size, rfl, by omega, ⟨D, g, L, F, (leafT l d t).2.1.drop at', post, lf, ⟨cutA A6 at' c6, n6 - at', c6 - at', B6, m6, d6, ?_, ?_, ?_⟩, ?_, fun b hb => ⟨?_, id⟩, by omega, (chn_tail HPL.out.1).2, fun y hy => HPL.out.2.2.1 y (by simp [hy]), ?_, by omega, HRS.out, ?_⟩, ?_⟩
  · rw [← (chn_tail HPL.out.1).1]
    exact set1 _ HH7.out
  · exact ((HP6.out.1.imp fun v hv => hv.from hple).keep (below_all HB7.out)).keep (agree_set _ _ _ fun h => h.1 rfl)
  · exact (HP6.out.2.keep (below_all HB7.out)).keep (agree_set _ _ _ fun h => h.1 rfl)
  · have hDn : ∀ b, D b → b ≠ w4.heap.size := fun b hb e => by have := HTT.out.1.lt.2 b hb; omega
    exact (((HTT.out.1.below HB5.out).2.1.keep (HO6.out.agree hDn)).keep (below_all HB7.out)).keep (agree_set _ _ _ fun h => hDn _ h rfl)
  · have := HTT.out.1.lt.2 b hb
    omega
  · simp at hnum
    omega
  · rw [List.length_drop]
    have := HPL.out.2.1.2
    omega
  · have h05 : Below w.heap.size w W5 := HWB.out.trans (HB5.out.mono HWB.out.size)
    have h56 : Below w.heap.size W5 w6 := HO6.out.below (fun b hb => by rw [hb]; omega) (by omega)
    exact ((h05.trans h56).trans (HB7.out.mono (by show w.heap.size ≤ w6.heap.size; omega))).setCell (by simp; omega) _
end Go.Proofs.Ytfckiglemmfjfaa
