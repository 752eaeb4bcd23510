/- The contract of package slot's Take. Condition: slots of which there are at most 32, their states 0 to 4. -/
import Derived.Test.YtojofhmhmcchnaaZe
namespace Go.Proofs.Ytojofhmhmcchnaa
open Go.RowKit
set_option linter.unusedVariables false
set_option maxRecDepth 100000

/-- What Take tells, and leaves. -/
def TakeO (C : Nat → Prop) (w : World) (p b n : Nat) (L : List Sl) (i c q : Int) (e : Ending) (w' : World) : Prop :=
  ∃ h : Sh, e = .returned (.tuple #[anV h (takeA L i c q), errV (takeK L i c q)]) ∧ On C w' (AnR · h (takeA L i c q)) ∧ SlO C w' p b n (takeL L i c q) ∧ Chg b w w'
/-- A slot is emptied, and two blocks are made. -/
theorem SlO.gone {C : Nat → Prop} {w : World} {p b n j : Nat} {L : List Sl} (hm : SlO C w p b n L) (hC : ¬ C b) (hj : j < n) (o1 o2 : Obj) :
    SlO C (((stores w b (j * 14) zs).alloc o1).alloc o2) p b n (L.set j sl0) ∧ Chg b w (((stores w b (j * 14) zs).alloc o1).alloc o2) ∧ Agree C w (((stores w b (j * 14) zs).alloc o1).alloc o2) := by
  have h := hm.2.2.2.gone hC hj o1 o2
  exact ⟨⟨(h.2.1.block p hm.lt hm.2.1).trans hm.1, hm.2.1, hm.2.2.1, h.1⟩, h.2⟩
abbrev resZ : Obj := .cells #[.int .i64 0, .bool false, .slice none 0 0, .slice none 0 0, .int .u64 0] 37

set_option maxHeartbeats 2000000 in
theorem take_out {C : Nat → Prop} {w : World} {p b n : Nat} {L : List Sl} (h : SlO C w p b n L) (i c q : Int) (hi : i < 0 ∨ (n : Int) ≤ i) :
    Calls Try.prog 16 #[.pointer (some ⟨p, 0, none⟩), .int .i64 i, .int .i64 c, .int .i64 q] w (TakeO C w p b n L i c q) := by
  have hlen := h.len
  have hst : stOf L i = -1 := stOf_out (by omega)
  have hk : takeK L i c q = 6 := by unfold takeK; rw [if_pos hst]
  have ha : takeA L i c q = an0 := by unfold takeA; rw [hk]; rfl
  have hl : takeL L i c q = L := by unfold takeL; rw [hk]; rfl
  unfold TakeO
  rw [hk, ha, hl]
  have HB := Lib.hid (show Below w.heap.size w (w.alloc resZ) from (Below.refl _ _).alloc (Nat.le_refl _) _)
  have HS := Lib.hid (state_any (h.below HB.out) i)
  rw [hst] at HS
  have H := Lib.hid h
  clear h hk ha hl hlen hst hi
  go_enter Try.func16, Try.ntmps16
  go_wp2_with fail
  refine HS.out.mono ?_
  rintro e w2 ⟨rfl, rfl⟩
  go_wp2
  refine bodyPost_ret (v := .tuple #[anV sh0 an0, errV 6]) (by simp [results, Try.results16, go_sem, anV, sh0, an0, errV]) rfl ⟨sh0, rfl, an0_on _ _, H.out.below HB.out, below_chg HB.out⟩

set_option maxHeartbeats 4000000 in
theorem take_none {C : Nat → Prop} {w : World} {p b n : Nat} {L : List Sl} (h : SlO C w p b n L) (hok : OkL L) (hC : ¬ C b) {j : Nat} (hj : j < n) (c q : Int) (hno : takeK L j c q = 3) :
    Calls Try.prog 16 #[.pointer (some ⟨p, 0, none⟩), .int .i64 j, .int .i64 c, .int .i64 q] w (TakeO C w p b n L j c q) := by
  have hlen := h.len
  have hn := h.2.2.1
  have hbl := h.2.2.2.lt
  have hb1 : ¬ (b = w.heap.size) := by omega
  have hb2 : ¬ (b = w.heap.size + 1) := by omega
  have hp := h.ptr
  have hpl := h.lt
  have hp1 : ¬ (p = w.heap.size) := by omega
  have hp2 : ¬ (p = w.heap.size + 1) := by omega
  have ha : takeA L j c q = an0 := by unfold takeA; rw [hno]; rfl
  have hl : takeL L j c q = L := by unfold takeL; rw [hno]; rfl
  have hst : stOf L j = (sl L j).st := stOf_in (by omega)
  unfold TakeO
  rw [hno, ha, hl]
  have HB0 := Lib.hid (show Below w.heap.size w (w.alloc resZ) from (Below.refl _ _).alloc (Nat.le_refl _) _)
  have HS := Lib.hid (state_any (h.below HB0.out) j)
  rw [hst] at HS
  unfold takeK at hno
  rw [hst, Int.toNat_natCast] at hno
  obtain ⟨h3, k3, hx, r1, r2⟩ := h.2.2.2.at_ hj
  have H := Lib.hid h
  have HB := Lib.hid (fun o => show Below w.heap.size w ((w.alloc resZ).alloc o) from ((Below.refl _ _).alloc (Nat.le_refl _) _).alloc (by simp) o)
  have hokj := hok j
  generalize sl L j = x at hx hno hokj HS
  obtain ⟨e0, e1, e2, e3, e4, e5, e6, e7, e8, e9, e10, e11, e12, e13⟩ := hx
  have hne : ¬ x.st = -1 := by omega
  have hneb : (x.st == -1) = false := by simpa using hne
  rw [if_neg hne] at hno
  have hcs : x.st = 0 ∨ (x.st ≠ 0 ∧ x.r.cl ≠ c) ∨ (x.st ≠ 0 ∧ x.r.cl = c ∧ x.r.sq ≠ q) := by
    by_cases g : x.st = 0 ∨ x.r.cl ≠ c ∨ x.r.sq ≠ q
    · omega
    · rw [if_neg g] at hno
      split at hno
      · omega
      · split at hno <;> omega
  clear h hok hlen ha hl hst hno r1 r2 hokj hne
  rcases hcs with hz | ⟨hz, h1⟩ | ⟨hz, h1, h2⟩
  · have z0 : (x.st == 0) = true := by simpa using hz
    clear hz
    go_enter Try.func16, Try.ntmps16
    go_wp2_with fail
    refine HS.out.mono ?_
    rintro e w2 ⟨rfl, rfl⟩
    go_wp2
    refine bodyPost_ret (v := .tuple #[anV sh0 an0, errV 3]) (by simp [results, Try.results16, go_sem, anV, sh0, an0, errV]) rfl ⟨sh0, rfl, an0_on _ _, H.out.below (HB.out _), below_chg (HB.out _)⟩
  · have z0 : (x.st == 0) = false := by simpa using hz
    have z1 : (x.r.cl != c) = true := by simpa using h1
    clear hz h1
    go_enter Try.func16, Try.ntmps16
    go_wp2_with fail
    refine HS.out.mono ?_
    rintro e w2 ⟨rfl, rfl⟩
    go_wp2
    refine bodyPost_ret (v := .tuple #[anV sh0 an0, errV 3]) (by simp [results, Try.results16, go_sem, anV, sh0, an0, errV]) rfl ⟨sh0, rfl, an0_on _ _, H.out.below (HB.out _), below_chg (HB.out _)⟩
  · have z0 : (x.st == 0) = false := by simpa using hz
    have z1 : (x.r.cl != c) = false := by simpa using h1
    have z2 : (x.r.sq != q) = true := by simpa using h2
    clear hz h1 h2
    go_enter Try.func16, Try.ntmps16
    go_wp2_with fail
    refine HS.out.mono ?_
    rintro e w2 ⟨rfl, rfl⟩
    go_wp2
    refine bodyPost_ret (v := .tuple #[anV sh0 an0, errV 3]) (by simp [results, Try.results16, go_sem, anV, sh0, an0, errV]) rfl ⟨sh0, rfl, an0_on _ _, H.out.below (HB.out _), below_chg (HB.out _)⟩

set_option maxHeartbeats 4000000 in
theorem take_state {C : Nat → Prop} {w : World} {p b n : Nat} {L : List Sl} (h : SlO C w p b n L) (hok : OkL L) (hC : ¬ C b) {j : Nat} (hj : j < n) (c q : Int) (hno : takeK L j c q = 10) :
    Calls Try.prog 16 #[.pointer (some ⟨p, 0, none⟩), .int .i64 j, .int .i64 c, .int .i64 q] w (TakeO C w p b n L j c q) := by
  have hlen := h.len
  have hn := h.2.2.1
  have hbl := h.2.2.2.lt
  have hb1 : ¬ (b = w.heap.size) := by omega
  have hb2 : ¬ (b = w.heap.size + 1) := by omega
  have hp := h.ptr
  have hpl := h.lt
  have hp1 : ¬ (p = w.heap.size) := by omega
  have hp2 : ¬ (p = w.heap.size + 1) := by omega
  have ha : takeA L j c q = an0 := by unfold takeA; rw [hno]; rfl
  have hl : takeL L j c q = L := by unfold takeL; rw [hno]; rfl
  have hst : stOf L j = (sl L j).st := stOf_in (by omega)
  unfold TakeO
  rw [hno, ha, hl]
  have HB0 := Lib.hid (show Below w.heap.size w (w.alloc resZ) from (Below.refl _ _).alloc (Nat.le_refl _) _)
  have HS := Lib.hid (state_any (h.below HB0.out) j)
  rw [hst] at HS
  unfold takeK at hno
  rw [hst, Int.toNat_natCast] at hno
  obtain ⟨h3, k3, hx, r1, r2⟩ := h.2.2.2.at_ hj
  have H := Lib.hid h
  have HB := Lib.hid (fun o => show Below w.heap.size w ((w.alloc resZ).alloc o) from ((Below.refl _ _).alloc (Nat.le_refl _) _).alloc (by simp) o)
  have hokj := hok j
  generalize sl L j = x at hx hno hokj HS
  obtain ⟨e0, e1, e2, e3, e4, e5, e6, e7, e8, e9, e10, e11, e12, e13⟩ := hx
  have hne : ¬ x.st = -1 := by omega
  have hneb : (x.st == -1) = false := by simpa using hne
  rw [if_neg hne] at hno
  have hcs : x.st ≠ 0 ∧ x.r.cl = c ∧ x.r.sq = q ∧ x.st < 3 := by
    by_cases g : x.st = 0 ∨ x.r.cl ≠ c ∨ x.r.sq ≠ q
    · rw [if_pos g] at hno; omega
    · rw [if_neg g] at hno
      split at hno
      · omega
      · split at hno <;> omega
  obtain ⟨g1, g2, g3, g4⟩ := hcs
  have z0 : (x.st == 0) = false := by simpa using (show ¬ x.st = 0 by omega)
  have z1 : (x.r.cl != c) = false := by simpa using (show x.r.cl = c by omega)
  have z2 : (x.r.sq != q) = false := by simpa using (show x.r.sq = q by omega)
  have hcs : x.st = 1 ∨ (¬ x.st = 1 ∧ x.st = 2) := by omega
  clear h hok hlen ha hl hst hno r1 r2 hokj hne g1 g2 g3 g4
  rcases hcs with hz | ⟨hz, h1⟩
  · have z3 : (x.st == 1) = true := by simpa using hz
    clear hz
    go_enter Try.func16, Try.ntmps16
    go_wp2_with fail
    refine HS.out.mono ?_
    rintro e w2 ⟨rfl, rfl⟩
    go_wp2
    refine bodyPost_ret (v := .tuple #[anV sh0 an0, errV 10]) (by simp [results, Try.results16, go_sem, anV, sh0, an0, errV]) rfl ⟨sh0, rfl, an0_on _ _, H.out.below (HB.out _), below_chg (HB.out _)⟩
  · have z3 : (x.st == 1) = false := by simpa using hz
    have z4 : (x.st == 2) = true := by simpa using h1
    clear hz h1
    go_enter Try.func16, Try.ntmps16
    go_wp2_with fail
    refine HS.out.mono ?_
    rintro e w2 ⟨rfl, rfl⟩
    go_wp2
    refine bodyPost_ret (v := .tuple #[anV sh0 an0, errV 10]) (by simp [results, Try.results16, go_sem, anV, sh0, an0, errV]) rfl ⟨sh0, rfl, an0_on _ _, H.out.below (HB.out _), below_chg (HB.out _)⟩

set_option maxHeartbeats 4000000 in
theorem take_stale {C : Nat → Prop} {w : World} {p b n : Nat} {L : List Sl} (h : SlO C w p b n L) (hok : OkL L) (hC : ¬ C b) {j : Nat} (hj : j < n) (c q : Int) (hno : takeK L j c q = 8) :
    Calls Try.prog 16 #[.pointer (some ⟨p, 0, none⟩), .int .i64 j, .int .i64 c, .int .i64 q] w (TakeO C w p b n L j c q) := by
  have hlen := h.len
  have hn := h.2.2.1
  have hbl := h.2.2.2.lt
  have hb1 : ¬ (b = w.heap.size) := by omega
  have hb2 : ¬ (b = w.heap.size + 1) := by omega
  have hp := h.ptr
  have hpl := h.lt
  have hp1 : ¬ (p = w.heap.size) := by omega
  have hp2 : ¬ (p = w.heap.size + 1) := by omega
  have ha : takeA L j c q = an0 := by unfold takeA; rw [hno]; rfl
  have hl : takeL L j c q = L.set j sl0 := by unfold takeL; rw [hno]; rfl
  have hst : stOf L j = (sl L j).st := stOf_in (by omega)
  unfold TakeO
  rw [hno, ha, hl]
  have HB0 := Lib.hid (show Below w.heap.size w (w.alloc resZ) from (Below.refl _ _).alloc (Nat.le_refl _) _)
  have HS := Lib.hid (state_any (h.below HB0.out) j)
  rw [hst] at HS
  unfold takeK at hno
  rw [hst, Int.toNat_natCast] at hno
  obtain ⟨h3, k3, hx, r1, r2⟩ := h.2.2.2.at_ hj
  have H := Lib.hid h
  have HB := Lib.hid (fun o => show Below w.heap.size w ((w.alloc resZ).alloc o) from ((Below.refl _ _).alloc (Nat.le_refl _) _).alloc (by simp) o)
  have HPUT := Lib.hid (fun o1 o2 => h.gone hC hj o1 o2)
  have hfz := fun o => h.2.2.2.frz o
  have hokj := hok j
  generalize sl L j = x at hx hno hokj HS
  obtain ⟨e0, e1, e2, e3, e4, e5, e6, e7, e8, e9, e10, e11, e12, e13⟩ := hx
  have hne : ¬ x.st = -1 := by omega
  have hneb : (x.st == -1) = false := by simpa using hne
  rw [if_neg hne] at hno
  have hcs : x.st ≠ 0 ∧ x.r.cl = c ∧ x.r.sq = q ∧ x.st = 4 := by
    by_cases g : x.st = 0 ∨ x.r.cl ≠ c ∨ x.r.sq ≠ q
    · rw [if_pos g] at hno; omega
    · rw [if_neg g] at hno
      split at hno
      · omega
      · split at hno <;> omega
  obtain ⟨g1, g2, g3, g4⟩ := hcs
  have z0 : (x.st == 0) = false := by simpa using (show ¬ x.st = 0 by omega)
  have z1 : (x.r.cl != c) = false := by simpa using (show x.r.cl = c by omega)
  have z2 : (x.r.sq != q) = false := by simpa using (show x.r.sq = q by omega)
  have z3 : (x.st == 1) = false := by simp; omega
  have z4 : (x.st == 2) = false := by simp; omega
  have z5 : (x.st == 4) = true := by simpa using g4
  clear h hok hlen ha hl hst hno r1 r2 hokj hne g1 g2 g3 g4
  go_enter Try.func16, Try.ntmps16
  go_wp2_with fail
  refine HS.out.mono ?_
  rintro e w2 ⟨rfl, rfl⟩
  go_wp2
  refine bodyPost_ret (v := .tuple #[anV sh0 an0, errV 8]) (by simp [results, Try.results16, go_sem, anV, sh0, an0, errV]) rfl ⟨sh0, rfl, an0_on _ _, (HPUT.out _ _).1, (HPUT.out _ _).2.1⟩

set_option maxHeartbeats 4000000 in
theorem take_done {C : Nat → Prop} {w : World} {p b n : Nat} {L : List Sl} (h : SlO C w p b n L) (hok : OkL L) (hC : ¬ C b) {j : Nat} (hj : j < n) (c q : Int) (hno : takeK L j c q = 0) :
    Calls Try.prog 16 #[.pointer (some ⟨p, 0, none⟩), .int .i64 j, .int .i64 c, .int .i64 q] w (TakeO C w p b n L j c q) := by
  have hlen := h.len
  have hn := h.2.2.1
  have hbl := h.2.2.2.lt
  have hb1 : ¬ (b = w.heap.size) := by omega
  have hb2 : ¬ (b = w.heap.size + 1) := by omega
  have hp := h.ptr
  have hpl := h.lt
  have hp1 : ¬ (p = w.heap.size) := by omega
  have hp2 : ¬ (p = w.heap.size + 1) := by omega
  have ha : takeA L j c q = (sl L j).a := by unfold takeA; rw [if_pos hno, Int.toNat_natCast]
  have hl : takeL L j c q = L.set j sl0 := by unfold takeL; rw [hno]; rfl
  have hst : stOf L j = (sl L j).st := stOf_in (by omega)
  unfold TakeO
  rw [hno, ha, hl]
  have HB0 := Lib.hid (show Below w.heap.size w (w.alloc resZ) from (Below.refl _ _).alloc (Nat.le_refl _) _)
  have HS := Lib.hid (state_any (h.below HB0.out) j)
  rw [hst] at HS
  unfold takeK at hno
  rw [hst, Int.toNat_natCast] at hno
  obtain ⟨h3, k3, hx, r1, r2⟩ := h.2.2.2.at_ hj
  have H := Lib.hid h
  have HB := Lib.hid (fun o => show Below w.heap.size w ((w.alloc resZ).alloc o) from ((Below.refl _ _).alloc (Nat.le_refl _) _).alloc (by simp) o)
  have HR := Lib.hid r2
  have HPUT := Lib.hid (fun o1 o2 => h.gone hC hj o1 o2)
  have hfz := fun o => h.2.2.2.frz o
  have hokj := hok j
  generalize sl L j = x at hx hno hokj HS HR ⊢
  obtain ⟨e0, e1, e2, e3, e4, e5, e6, e7, e8, e9, e10, e11, e12, e13⟩ := hx
  have hne : ¬ x.st = -1 := by omega
  have hneb : (x.st == -1) = false := by simpa using hne
  rw [if_neg hne] at hno
  have hcs : x.st ≠ 0 ∧ x.r.cl = c ∧ x.r.sq = q ∧ x.st = 3 := by
    by_cases g : x.st = 0 ∨ x.r.cl ≠ c ∨ x.r.sq ≠ q
    · rw [if_pos g] at hno; omega
    · rw [if_neg g] at hno
      split at hno
      · omega
      · split at hno <;> omega
  obtain ⟨g1, g2, g3, g4⟩ := hcs
  have z0 : (x.st == 0) = false := by simpa using (show ¬ x.st = 0 by omega)
  have z1 : (x.r.cl != c) = false := by simpa using (show x.r.cl = c by omega)
  have z2 : (x.r.sq != q) = false := by simpa using (show x.r.sq = q by omega)
  have z3 : (x.st == 1) = false := by simp; omega
  have z4 : (x.st == 2) = false := by simp; omega
  have z5 : (x.st == 4) = false := by simp; omega
  clear h hok hlen ha hl hst hno r1 r2 hokj hne g1 g2 g3 g4
  go_enter Try.func16, Try.ntmps16
  go_wp2_with fail
  refine HS.out.mono ?_
  rintro e w2 ⟨rfl, rfl⟩
  go_wp2
  refine bodyPost_ret (v := .tuple #[anV k3 x.a, errV 0]) (by simp [results, Try.results16, go_sem, anV, errV]) rfl ⟨k3, rfl, HR.out.keep (HPUT.out _ _).2.2, (HPUT.out _ _).1, (HPUT.out _ _).2.1⟩

theorem take_any {C : Nat → Prop} {w : World} {p b n : Nat} {L : List Sl} (h : SlO C w p b n L) (hok : OkL L) (hC : ¬ C b) (i c q : Int) :
    Calls Try.prog 16 #[.pointer (some ⟨p, 0, none⟩), .int .i64 i, .int .i64 c, .int .i64 q] w (TakeO C w p b n L i c q) := by
  rcases in_out n i with ⟨j, rfl, hj⟩ | hi
  · rcases takeK_five L j c q with e | e | e | e | e
    · have hst : stOf L j = (sl L j).st := stOf_in (by rw [h.len]; exact hj)
      have := hok j
      unfold takeK at e
      rw [if_neg (by omega)] at e
      split at e
      · omega
      · split at e
        · omega
        · split at e <;> omega
    · exact take_none h hok hC hj c q e
    · exact take_state h hok hC hj c q e
    · exact take_stale h hok hC hj c q e
    · exact take_done h hok hC hj c q e
  · exact take_out h i c q hi
end Go.Proofs.Ytojofhmhmcchnaa
