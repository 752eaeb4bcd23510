/- The contract of the arena's Free: the walk. Condition: at most 10000 numbers. -/
import Derived.Test.YtbphjhmmdkaggaaNi
namespace Go.Proofs.Ytbphjhmmdkaggaa
open Go.RowKit
set_option linter.unusedVariables false

def FreeOut (w : World) (D : Nat → Prop) (g : Nat) (L : List (Option Nd)) (F : List Nat) (i : Int) (e : Ending) (w' : World) : Prop :=
  e = .returned (errV (if usedB L i then 0 else 3)) ∧ Turn w D g (if usedB L i then L.set i.toNat none else L) (if usedB L i then F ++ [i.toNat] else F) w'

set_option maxRecDepth 100000 in
set_option maxHeartbeats 2000000 in
theorem free_no {w : World} {D : Nat → Prop} {g : Nat} {L : List (Option Nd)} {F : List Nat} (h : Ar w D g L F) (i : Int) (hi : i ≤ 9223372036854775807) (hu : usedB L i = false) :
    Calls Try.prog 15 #[.pointer (some ⟨g, 0, none⟩), .int .i64 i] w (FreeOut w D g L F i) := by
  have HT := Lib.hid (show Turn w D g L F w from ⟨D, h, fun b hb => .inl hb, Only.refl _ _⟩)
  obtain ⟨C, P, Q, pc, qc, xs, ha⟩ := h
  have HU := uses_any ha i hi
  rw [hu] at HU
  have HUU := Lib.hid hu
  clear ha hu
  go_enter Try.func15, Try.ntmps15
  go_wp2_with fail
  refine HU.mono ?_
  rintro e w1 ⟨rfl, rfl⟩
  clear HU
  go_wp2
  go_ret
  refine ⟨?_, ?_⟩
  · rw [HUU.out]; rfl
  · rw [HUU.out]; exact HT.out

theorem one_cell {w : World} {x : Value} {T : TypeId} : ∀ j u, [x][j]? = some u → (w.alloc (.cells #[x] T)).cell? ((⟨w.heap.size, 0, none⟩ : Addr).add j) = some u := by
  intro j u hu
  rcases j with _ | j
  · simp at hu; subst hu; simp [Addr.add]
  · simp at hu

theorem one_cell_at {w : World} {x : Value} {T : TypeId} {N : Nat} (h : w.heap.size = N) : ∀ j u, [x][j]? = some u → (w.alloc (.cells #[x] T)).cell? ((⟨N, 0, none⟩ : Addr).add j) = some u := by
  subst h
  exact one_cell
theorem alloc_size {w : World} {N : Nat} (h : w.heap.size = N) (o : Obj) : (w.alloc o).heap.size = N + 1 := by
  subst h
  simp
theorem Only.trans2 {D E : Nat → Prop} {a b c : World} (h : Only D a b) (k : Only E b c) (hE : ∀ i, E i → D i ∨ a.heap.size ≤ i) : Only D a c :=
  ⟨k.os.trans h.os, k.tape.trans h.tape, k.output.trans h.output, Nat.le_trans h.size k.size, fun i hi hd => (k.block i (Nat.lt_of_lt_of_le hi h.size) (fun he => by
    rcases hE i he with h1 | h1
    · exact hd h1
    · omega)).trans (h.block i hi hd)⟩

set_option maxRecDepth 100000 in
set_option maxHeartbeats 4000000 in
theorem free_yes {w : World} {D : Nat → Prop} {g : Nat} {L : List (Option Nd)} {F : List Nat} (h : Ar w D g L F) (k : Nat) {y : Nd} (hy : lat L k = some y) (hF : F.length ≤ 10000) :
    Calls Try.prog 15 #[.pointer (some ⟨g, 0, none⟩), .int .i64 k] w (FreeOut w D g L F k) := by
  obtain ⟨C, P, Q, pc, qc, xs, h⟩ := h
  have hk : k < L.length := by
    rcases Nat.lt_or_ge k L.length with hk | hk
    · exact hk
    · rw [lat_out hk] at hy; cases hy
  have hN : L.length ≤ maxLen := Nat.le_trans (own_caps h.2.1).1 (own_caps h.2.1).2.1
  unfold maxLen at hN
  have hkF : k ∉ F := fun hh => by have := (h.2.2.2.2.1.2 k hh).2; rw [hy] at this; cases this
  have hu : usedB L (k : Int) = true := by unfold usedB; simp [hy]
  have HUU := Lib.hid hu
  have HU := uses_any h k (by omega)
  rw [hu] at HU
  obtain ⟨c0, c1, f0, f1⟩ := pair_cells h.1
  obtain ⟨p, u0, u1, u2, u3, u4, u5, rfl, hDp, hpg, hCp, g0, g1, g2, g3, g4, g5, fz⟩ := h.any hk
  have z0 := fz (k * 6)
  have z1 := fz (k * 6 + 1)
  have z2 := fz (k * 6 + 2)
  have z3 := fz (k * 6 + 3)
  have z4 := fz (k * 6 + 4)
  have z5 := fz (k * 6 + 5)
  obtain ⟨ys, hp, hop⟩ := h.put6 (w1 := w) (o := none) (u0 := .bool false) (u1 := .slice none 0 0) (u2 := .slice none 0 0) (u3 := .slice none 0 0) (u4 := .int .i64 0) (u5 := .bool false) hk hkF (Below.refl _ _) (fun ys _ _ _ _ _ e5 => e5)
  have hsz := six_size (w := w) (b := p) (k * 6) (.bool false) (.slice none 0 0) (.slice none 0 0) (.slice none 0 0) (.int .i64 0) (.bool false)
  have HP := Lib.hid hp
  have HOP := Lib.hid hop
  have HSZ := Lib.hid hsz
  have HO := Lib.hid (hp.2.2.1.alloc (.cells #[.int .i64 k] 3))
  have HKF := Lib.hid hkF
  obtain ⟨i0, hi, hz0, hz1, hz2⟩ := info_parts Try.infoInt
  have HI := Lib.hid hi
  have HZ := Lib.hid (And.intro hz0 (And.intro hz1 hz2))
  have HX := Lib.hid (And.intro hk hy)
  have hpg' : ¬ (g = p) := fun e => hpg e.symm
  generalize hn : L.length = n at c0 hk hN
  generalize hm : F.length = m at c1 hF
  have HNL := Lib.hid (And.intro hn hm)
  clear h hy hu hDp hCp hp hop hsz hi hz0 hz1 hz2 fz hn hm hkF
  go_enter Try.func15, Try.ntmps15
  go_wp2_with fail
  refine HU.mono ?_
  rintro e w1 ⟨rfl, rfl⟩
  clear HU
  go_wp2_with (at_builtin; refine wpList_append_lies _ rfl _ _ 29 rfl 0 3 i0 (.int .i64 0) 1 8 Try.underlying29 HI.out HZ.out.1 HZ.out.2.1 HZ.out.2.2 rfl (by decide) _ _ _ (by rw [← HNL.out.2]; rfl) HO.out ⟨w.heap.size, 0, none⟩ 1 1 [.int .i64 k] rfl rfl ?c1 ?c2 (by omega) ?c3 ?c4 (Nat.zero_le _) (w.heap.size + 1) ?c5 ?_)
  case c1 => exact one_cell_at HSZ.out
  case c2 => intro u hu; simp at hu; subst hu; rfl
  case c3 => have := HNL.out.2; unfold maxLen; omega
  case c4 => have := HNL.out.2; omega
  case c5 => exact alloc_size HSZ.out _
  intro q' cap w3 hown hgrow hat hlt
  obtain ⟨d0, d1, e0, e1⟩ := pair_cells HP.out.1
  have hgl : g < w.heap.size := by have := HP.out.2.2.2.2.2.lt g HP.out.2.2.2.2.2.dg; rw [HSZ.out] at this; exact this
  have hgr : some g ≠ (Value.slice Q F.length qc).ownBlock := fun e => by
    cases Q with
    | none => cases e
    | some a => injection e with e; exact (HP.out.2.2.2.2.2.q a rfl).2.2 e.symm
  have hga : g < ((wsix w p (k * 6) (.bool false) (.slice none 0 0) (.slice none 0 0) (.slice none 0 0) (.int .i64 0) (.bool false)).alloc (.cells #[.int .i64 k] 3)).heap.size := by rw [alloc_size HSZ.out]; omega
  have k1 : w3.cell? ⟨g, 1, none⟩ = some (.slice Q m qc) := (hgrow.cell_far ⟨g, 1, none⟩ hga hgr).trans ((((Below.refl _ (wsix w p (k * 6) (.bool false) (.slice none 0 0) (.slice none 0 0) (.slice none 0 0) (.int .i64 0) (.bool false))).alloc (Nat.le_refl _) _).cell (p := ⟨g, 1, none⟩) (by rw [HSZ.out]; exact hgl)).trans (by rw [d1, HNL.out.2]))
  have k2 : w3.frozen? ⟨g, 1, none⟩ = false := (hgrow.frozen_far ⟨g, 1, none⟩ hga hgr).trans ((((Below.refl _ (wsix w p (k * 6) (.bool false) (.slice none 0 0) (.slice none 0 0) (.slice none 0 0) (.int .i64 0) (.bool false))).alloc (Nat.le_refl _) _).frozen (p := ⟨g, 1, none⟩) (by rw [HSZ.out]; exact hgl)).trans e1)
  have hF1 := HP.out.free1 (k := k) (qc' := cap) (q' := q') (w3 := w3) (by rw [List.length_set]; exact HX.out.1) HKF.out (by rw [lat_set HX.out.1, if_pos rfl]) ((Below.refl _ _).alloc (Nat.le_refl _) _) hown hgrow (hat.imp id (fun e => by rw [HSZ.out, e]; exact Nat.le_succ _)) hlt
  have hT : Turn w D g (L.set k none) (F ++ [k]) (w3.setCell ⟨g, 1, none⟩ (.slice (some ⟨q', 0, none⟩) (F.length + 1) cap)) :=
    ⟨_, ⟨_, _, _, _, _, _, hF1.1⟩, fun b hb => by
      rcases hb with (hb | hb) | hb
      · exact .inl hb
      · exact .inr hb.1
      · rw [HSZ.out] at hb; exact .inr hb.1, HOP.out.trans2 hF1.2 (fun b hb => by
      rcases hb with hb | hb
      · exact .inl hb
      · exact .inr hb.1)⟩
  have HT := Lib.hid hT
  clear hT hF1 hga hgr hgl d0 d1 e0 e1 hown hgrow hat hlt c0 c1 f0 f1 g0 g1 g2 g3 g4 g5 z0 z1 z2 z3 z4 z5 HP HOP HSZ HO
  go_wp2
  go_ret
  refine ⟨by rw [HUU.out]; rfl, ?_⟩
  rw [HUU.out, if_pos rfl, if_pos rfl, Int.toNat_natCast]
  exact HT.out

theorem free_any {w : World} {D : Nat → Prop} {g : Nat} {L : List (Option Nd)} {F : List Nat} (h : Ar w D g L F) (i : Int) (hi : i ≤ 9223372036854775807) (hF : F.length ≤ 10000) :
    Calls Try.prog 15 #[.pointer (some ⟨g, 0, none⟩), .int .i64 i] w (FreeOut w D g L F i) := by
  cases hu : usedB L i
  · exact free_no h i hi hu
  · unfold usedB at hu
    simp at hu
    obtain ⟨k, rfl⟩ := Int.eq_ofNat_of_zero_le hu.1
    obtain ⟨x, hx⟩ := Option.isSome_iff_exists.1 hu.2
    exact free_yes h k (by simpa using hx) hF
end Go.Proofs.Ytbphjhmmdkaggaa
