/- Contracts of the document's own Turn and Take. Condition: slots of which there are at most 32, their states 0 to 4. -/
import Derived.Test.YtojofhmhmcchnaaZd
namespace Go.Proofs.Ytojofhmhmcchnaa
open Go.RowKit
set_option linter.unusedVariables false
set_option maxRecDepth 100000

theorem stores_below {B b : Nat} (hb : B ≤ b) : ∀ (us : List Value) (a w : World) (o : Nat), Below B a w → Below B a (stores w b o us)
  | [], _, _, _, h => h
  | u :: us, a, w, o, h => by rw [stores]; exact stores_below hb us a _ _ (h.setCell hb _)
theorem Chg.more {b : Nat} {u v w : World} (h : Chg b u v) (k : Below u.heap.size v w) : Chg b u w :=
  ⟨k.os.trans h.os, k.tape.trans h.tape, k.output.trans h.output, Nat.le_trans h.size k.size, fun i hi hb => (k.block i hi).trans (h.block i hi hb)⟩
theorem SlM.now {C : Nat → Prop} {w : World} {T : TypeId} {b n : Nat} {L : List Sl} (h : SlM C w T b n L) : SlM (fun k => C k ∧ k < w.heap.size) w T b n L := by
  obtain ⟨xs, h1, h2, h3, h4⟩ := h
  refine ⟨xs, h1, h2, h3, fun j hj => ?_⟩
  obtain ⟨h, k, e, r1, r2⟩ := h4 j hj
  exact ⟨h, k, e, r1.now, r2.now⟩
theorem SlM.mono {C C' : Nat → Prop} {w : World} {T : TypeId} {b n : Nat} {L : List Sl} (h : SlM C w T b n L) (hC : ∀ k, C k → C' k) : SlM C' w T b n L := by
  obtain ⟨xs, h1, h2, h3, h4⟩ := h
  refine ⟨xs, h1, h2, h3, fun j hj => ?_⟩
  obtain ⟨h, k, e, r1, r2⟩ := h4 j hj
  exact ⟨h, k, e, r1.mono hC, r2.mono hC⟩
/-- A slot's cells are zeros. -/
def zs : List Value := [.int .i64 0, .int .i64 0, .int .i64 0, .int .i64 0, .slice none 0 0, .slice none 0 0, .slice none 0 0, .slice none 0 0, .int .i64 0, .int .i64 0, .bool false, .slice none 0 0, .slice none 0 0, .int .u64 0]
theorem put_all (h h' : Qh) (k k' : Sh) (x y : Sl) : ∀ t, t < 14 → (slC h' k' y)[t]? = if 0 ≤ t ∧ t < 0 + (slC h' k' y).length then (slC h' k' y)[t - 0]? else (slC h k x)[t]? := fun t ht => by
  rw [if_pos ⟨by omega, by show t < 0 + 14; omega⟩]
  rfl
/-- A slot is emptied, and two blocks are made. -/
theorem SlM.gone {C : Nat → Prop} {w : World} {T : TypeId} {b n j : Nat} {L : List Sl} (hm : SlM C w T b n L) (hC : ¬ C b) (hj : j < n) (o1 o2 : Obj) :
    SlM C (((stores w b (j * 14) zs).alloc o1).alloc o2) T b n (L.set j sl0) ∧ Chg b w (((stores w b (j * 14) zs).alloc o1).alloc o2) ∧ Agree C w (((stores w b (j * 14) zs).alloc o1).alloc o2) := by
  obtain ⟨h3, k3, hx, r1, r2⟩ := hm.at_ hj
  have h1 := hm.put hC hj (o := 0) (us := zs) (h' := qh0) (k' := sh0) (by show 0 + 14 ≤ 14; omega) hx (put_all h3 qh0 k3 sh0 _ sl0) (rq0_on _ _) (an0_on _ _)
  have h2 := chg_stores b zs w (j * 14)
  have h3 : Below (stores w b (j * 14) zs).heap.size (stores w b (j * 14) zs) (((stores w b (j * 14) zs).alloc o1).alloc o2) := ((Below.refl _ _).alloc (Nat.le_refl _) _).alloc (by simp) _
  have h4 := h2.trans (below_chg h3)
  exact ⟨h1.below h3, h4, h4.agree hC⟩

def DTurnO (C : Nat → Prop) (w : World) (T : TypeId) (b n : Nat) (L' : List Sl) (v : Value) (e : Ending) (w' : World) : Prop := e = .returned v ∧ SlM C w' T b n L' ∧ Chg b w w'

set_option maxHeartbeats 2000000 in
theorem dturn_any {C : Nat → Prop} {w : World} {T : TypeId} {b n : Nat} {L : List Sl} (h : SlM C w T b n L) (hok : OkL L) (hC : ¬ C b) (hn : n ≤ 32) (i t a c : Int) :
    Calls Try.prog 13 #[.slice (some ⟨b, 0, none⟩) n n, .int .i64 i, .int .i64 t, .int .i64 a, .int .i64 c] w (DTurnO C w T b n (turnL L i t a c) (.int .i64 (turnK L i a c))) := by
  have hlen := h.len
  unfold DTurnO
  rcases in_out n i with ⟨j, rfl, hj⟩ | hi
  · have hst : stOf L j = (sl L j).st := stOf_in (by omega)
    have hne : stOf L j ≠ -1 := by have := hok j; omega
    by_cases h2 : stOf L j = a ∨ stOf L j = c
    · have hk : turnK L j a c = 0 := by unfold turnK; rw [if_neg hne, if_pos h2]
      have hl : turnL L j t a c = L.set j ⟨t, (sl L j).r, (sl L j).a⟩ := by unfold turnL; rw [if_pos hk, Int.toNat_natCast]
      rw [hk, hl]
      rw [hst] at h2
      obtain ⟨h3, k3, hx, r1, r2⟩ := h.at_ hj
      have x0 := hx.1
      have z0 := h.frz (j * 14)
      have HPUT := Lib.hid (And.intro (h.put hC hj (o := 0) (us := [.int .i64 t]) (by show 0 + 1 ≤ 14; omega) hx (put_state h3 k3 _ t) r1 r2) (chg_set b w (j * 14) (.int .i64 t)))
      generalize (sl L j).st = st at x0 h2
      clear h hok hk hl hlen hx r1 r2 hst hne
      by_cases ha : st = a
      · subst ha
        clear h2
        go_enter Try.func13, Try.ntmps13
        go_wp2
        go_ret
        exact ⟨rfl, HPUT.out.1, HPUT.out.2⟩
      · have hc : st = c := by omega
        subst hc
        have hab : (st != a) = true := by simpa using ha
        clear h2 ha
        go_enter Try.func13, Try.ntmps13
        go_wp2
        go_ret
        exact ⟨rfl, HPUT.out.1, HPUT.out.2⟩
    · have hk : turnK L j a c = 10 := by unfold turnK; rw [if_neg hne, if_neg h2]
      have hl : turnL L j t a c = L := by unfold turnL; rw [hk]; rfl
      rw [hk, hl]
      rw [hst] at h2
      obtain ⟨h3, k3, hx, r1, r2⟩ := h.at_ hj
      have x0 := hx.1
      have H := Lib.hid h
      generalize (sl L j).st = st at x0 h2
      clear h hok hk hl hlen hx r1 r2 hst hne
      have hab : (st != a) = true := by simpa using (fun e => h2 (.inl e))
      have hcb : (st != c) = true := by simpa using (fun e => h2 (.inr e))
      clear h2
      go_enter Try.func13, Try.ntmps13
      go_wp2
      go_ret
      exact ⟨rfl, H.out, Chg.refl _ _⟩
  · have hk : turnK L i a c = 6 := by unfold turnK; rw [if_pos (stOf_out (by omega))]
    have hl : turnL L i t a c = L := by unfold turnL; rw [hk]; rfl
    rw [hk, hl]
    have H := Lib.hid h
    clear h hok hk hl hlen
    rcases hi with hi | hi
    · go_enter Try.func13, Try.ntmps13
      go_wp2
      go_ret
      exact ⟨rfl, H.out, Chg.refl _ _⟩
    · have h0 : ¬ i < 0 := by omega
      go_enter Try.func13, Try.ntmps13
      go_wp2
      go_ret
      exact ⟨rfl, H.out, Chg.refl _ _⟩

/-- What Take tells, and leaves. -/
def DTakeO (C : Nat → Prop) (w : World) (T : TypeId) (b n : Nat) (L : List Sl) (i c q : Int) (e : Ending) (w' : World) : Prop :=
  ∃ h : Sh, e = .returned (.tuple #[anV h (takeA L i c q), .int .i64 (takeK L i c q)]) ∧ On C w' (AnR · h (takeA L i c q)) ∧ SlM C w' T b n (takeL L i c q) ∧ Chg b w w'

set_option maxHeartbeats 2000000 in
theorem dtake_out {C : Nat → Prop} {w : World} {T : TypeId} {b n : Nat} {L : List Sl} (h : SlM C w T b n L) (hC : ¬ C b) (hn : n ≤ 32) (i c q : Int) (hi : i < 0 ∨ (n : Int) ≤ i) :
    Calls Try.prog 17 #[.slice (some ⟨b, 0, none⟩) n n, .int .i64 i, .int .i64 c, .int .i64 q] w (DTakeO C w T b n L i c q) := by
  have hlen := h.len
  have hk : takeK L i c q = 6 := by unfold takeK; rw [if_pos (stOf_out (by omega))]
  have ha : takeA L i c q = an0 := by unfold takeA; rw [hk]; rfl
  have hl : takeL L i c q = L := by unfold takeL; rw [hk]; rfl
  unfold DTakeO
  rw [hk, ha, hl]
  have HB := Lib.hid (show Below w.heap.size w (w.alloc (.cells #[.int .i64 0, .bool false, .slice none 0 0, .slice none 0 0, .int .u64 0] 37)) from (Below.refl _ _).alloc (Nat.le_refl _) _)
  have H := Lib.hid h
  clear h hk ha hl hlen
  rcases hi with hi | hi
  · go_enter Try.func17, Try.ntmps17
    go_wp2
    refine bodyPost_ret (v := .tuple #[anV sh0 an0, .int .i64 6]) (by simp [results, Try.results17, go_sem, anV, sh0, an0]) rfl ⟨sh0, rfl, an0_on _ _, H.out.below HB.out, below_chg HB.out⟩
  · have h0 : ¬ i < 0 := by omega
    go_enter Try.func17, Try.ntmps17
    go_wp2
    refine bodyPost_ret (v := .tuple #[anV sh0 an0, .int .i64 6]) (by simp [results, Try.results17, go_sem, anV, sh0, an0]) rfl ⟨sh0, rfl, an0_on _ _, H.out.below HB.out, below_chg HB.out⟩

/-- A result's cells and a slot's copy in two new blocks. -/
theorem box_rs (w : World) (h : Qh) (k : Sh) (x : Sl) : ∃ W, W = (w.alloc (.cells #[.int .i64 0, .bool false, .slice none 0 0, .slice none 0 0, .int .u64 0] 37)).alloc
      (.cells #[.int .i64 x.st, .int .i64 x.r.cl, .int .i64 x.r.sq, .int .i64 x.r.kind, .slice h.A h.n h.c, .slice h.B h.m h.d, .slice h.C h.o h.p, .slice h.D h.q h.s, .int .i64 x.r.limit, .int .i64 x.a.code, .bool x.a.found, .slice k.A k.n k.c, .slice k.B k.m k.d, .int .u64 x.a.stamp] 51) ∧ Below w.heap.size w W :=
  ⟨_, rfl, ((Below.refl _ _).alloc (Nat.le_refl _) _).alloc (by simp) _⟩

set_option maxHeartbeats 4000000 in
theorem dtake_none {C : Nat → Prop} {w : World} {T : TypeId} {b n : Nat} {L : List Sl} (h : SlM C w T b n L) (hok : OkL L) (hC : ¬ C b) (hn : n ≤ 32) {j : Nat} (hj : j < n) (c q : Int) (hno : takeK L j c q = 3) :
    Calls Try.prog 17 #[.slice (some ⟨b, 0, none⟩) n n, .int .i64 j, .int .i64 c, .int .i64 q] w (DTakeO C w T b n L j c q) := by
  have hlen := h.len
  have hbl := h.lt
  have hb1 : ¬ (b = w.heap.size) := by omega
  have hb2 : ¬ (b = w.heap.size + 1) := by omega
  have ha : takeA L j c q = an0 := by unfold takeA; rw [hno]; rfl
  have hl : takeL L j c q = L := by unfold takeL; rw [hno]; rfl
  have hst : stOf L j = (sl L j).st := stOf_in (by omega)
  unfold DTakeO
  rw [hno, ha, hl]
  unfold takeK at hno
  rw [hst, Int.toNat_natCast] at hno
  obtain ⟨h3, k3, hx, r1, r2⟩ := h.at_ hj
  obtain ⟨W, hW, hWB⟩ := box_rs w h3 k3 (sl L j)
  have H := Lib.hid h
  have HB := Lib.hid hWB
  have hokj := hok j
  generalize sl L j = x at hx hno hW hokj
  obtain ⟨e0, e1, e2, e3, e4, e5, e6, e7, e8, e9, e10, e11, e12, e13⟩ := hx
  have hWe := Lib.hid hW
  have hne : ¬ x.st = -1 := by omega
  rw [if_neg hne] at hno
  have hcs : x.st = 0 ∨ (x.st ≠ 0 ∧ x.r.cl ≠ c) ∨ (x.st ≠ 0 ∧ x.r.cl = c ∧ x.r.sq ≠ q) := by
    by_cases g : x.st = 0 ∨ x.r.cl ≠ c ∨ x.r.sq ≠ q
    · omega
    · rw [if_neg g] at hno
      split at hno
      · omega
      · split at hno <;> omega
  clear h hok hlen ha hl hst hno r1 r2 hW hWB hokj hne
  rcases hcs with hz | ⟨hz, h1⟩ | ⟨hz, h1, h2⟩
  · have z0 : (x.st == 0) = true := by simpa using hz
    clear hz
    go_enter Try.func17, Try.ntmps17
    go_wp2
    refine bodyPost_ret (v := .tuple #[anV sh0 an0, .int .i64 3]) (by simp [results, Try.results17, go_sem, anV, sh0, an0]) rfl ⟨sh0, rfl, an0_on _ _, by rw [← hWe.out]; exact H.out.below HB.out, by rw [← hWe.out]; exact below_chg HB.out⟩
  · have z0 : (x.st == 0) = false := by simpa using hz
    have z1 : (x.r.cl != c) = true := by simpa using h1
    clear hz h1
    go_enter Try.func17, Try.ntmps17
    go_wp2
    refine bodyPost_ret (v := .tuple #[anV sh0 an0, .int .i64 3]) (by simp [results, Try.results17, go_sem, anV, sh0, an0]) rfl ⟨sh0, rfl, an0_on _ _, by rw [← hWe.out]; exact H.out.below HB.out, by rw [← hWe.out]; exact below_chg HB.out⟩
  · have z0 : (x.st == 0) = false := by simpa using hz
    have z1 : (x.r.cl != c) = false := by simpa using h1
    have z2 : (x.r.sq != q) = true := by simpa using h2
    clear hz h1 h2
    go_enter Try.func17, Try.ntmps17
    go_wp2
    refine bodyPost_ret (v := .tuple #[anV sh0 an0, .int .i64 3]) (by simp [results, Try.results17, go_sem, anV, sh0, an0]) rfl ⟨sh0, rfl, an0_on _ _, by rw [← hWe.out]; exact H.out.below HB.out, by rw [← hWe.out]; exact below_chg HB.out⟩

set_option maxHeartbeats 4000000 in
theorem dtake_state {C : Nat → Prop} {w : World} {T : TypeId} {b n : Nat} {L : List Sl} (h : SlM C w T b n L) (hok : OkL L) (hC : ¬ C b) (hn : n ≤ 32) {j : Nat} (hj : j < n) (c q : Int) (hno : takeK L j c q = 10) :
    Calls Try.prog 17 #[.slice (some ⟨b, 0, none⟩) n n, .int .i64 j, .int .i64 c, .int .i64 q] w (DTakeO C w T b n L j c q) := by
  have hlen := h.len
  have hbl := h.lt
  have hb1 : ¬ (b = w.heap.size) := by omega
  have hb2 : ¬ (b = w.heap.size + 1) := by omega
  have ha : takeA L j c q = an0 := by unfold takeA; rw [hno]; rfl
  have hl : takeL L j c q = L := by unfold takeL; rw [hno]; rfl
  have hst : stOf L j = (sl L j).st := stOf_in (by omega)
  unfold DTakeO
  rw [hno, ha, hl]
  unfold takeK at hno
  rw [hst, Int.toNat_natCast] at hno
  obtain ⟨h3, k3, hx, r1, r2⟩ := h.at_ hj
  obtain ⟨W, hW, hWB⟩ := box_rs w h3 k3 (sl L j)
  have H := Lib.hid h
  have HB := Lib.hid hWB
  have hokj := hok j
  generalize sl L j = x at hx hno hW hokj
  obtain ⟨e0, e1, e2, e3, e4, e5, e6, e7, e8, e9, e10, e11, e12, e13⟩ := hx
  have hWe := Lib.hid hW
  have hne : ¬ x.st = -1 := by omega
  rw [if_neg hne] at hno
  have hcs : x.st ≠ 0 ∧ x.r.cl = c ∧ x.r.sq = q ∧ x.st < 3 := by
    by_cases g : x.st = 0 ∨ x.r.cl ≠ c ∨ x.r.sq ≠ q
    · rw [if_pos g] at hno; omega
    · rw [if_neg g] at hno
      split at hno
      · omega
      · split at hno <;> omega
  obtain ⟨g1, g2, g3, g4⟩ := hcs
  have z0 : (x.st == 0) = false := by simpa using (show ¬ x.st = 0 by omega)
  have z1 : (x.r.cl != c) = false := by simpa using (show x.r.cl = c by omega)
  have z2 : (x.r.sq != q) = false := by simpa using (show x.r.sq = q by omega)
  have z3 : decide (x.st < 3) = true := by simpa using g4
  clear h hok hlen ha hl hst hno r1 r2 hW hWB hokj hne g1 g2 g3 g4
  go_enter Try.func17, Try.ntmps17
  go_wp2
  refine bodyPost_ret (v := .tuple #[anV sh0 an0, .int .i64 10]) (by simp [results, Try.results17, go_sem, anV, sh0, an0]) rfl ⟨sh0, rfl, an0_on _ _, by rw [← hWe.out]; exact H.out.below HB.out, by rw [← hWe.out]; exact below_chg HB.out⟩

set_option maxHeartbeats 4000000 in
theorem dtake_stale {C : Nat → Prop} {w : World} {T : TypeId} {b n : Nat} {L : List Sl} (h : SlM C w T b n L) (hok : OkL L) (hC : ¬ C b) (hn : n ≤ 32) {j : Nat} (hj : j < n) (c q : Int) (hno : takeK L j c q = 8) :
    Calls Try.prog 17 #[.slice (some ⟨b, 0, none⟩) n n, .int .i64 j, .int .i64 c, .int .i64 q] w (DTakeO C w T b n L j c q) := by
  have hlen := h.len
  have hbl := h.lt
  have hb1 : ¬ (b = w.heap.size) := by omega
  have hb2 : ¬ (b = w.heap.size + 1) := by omega
  have ha : takeA L j c q = an0 := by unfold takeA; rw [hno]; rfl
  have hl : takeL L j c q = L.set j sl0 := by unfold takeL; rw [hno]; rfl
  have hst : stOf L j = (sl L j).st := stOf_in (by omega)
  unfold DTakeO
  rw [hno, ha, hl]
  unfold takeK at hno
  rw [hst, Int.toNat_natCast] at hno
  obtain ⟨h3, k3, hx, r1, r2⟩ := h.at_ hj
  obtain ⟨W, hW, hWB⟩ := box_rs w h3 k3 (sl L j)
  have H := Lib.hid h
  have HB := Lib.hid hWB
  have HPUT := Lib.hid (fun o1 o2 => h.gone hC hj o1 o2)
  have hfz := fun o => h.frz o
  have hokj := hok j
  generalize sl L j = x at hx hno hW hokj
  obtain ⟨e0, e1, e2, e3, e4, e5, e6, e7, e8, e9, e10, e11, e12, e13⟩ := hx
  have hWe := Lib.hid hW
  have hne : ¬ x.st = -1 := by omega
  rw [if_neg hne] at hno
  have hcs : x.st ≠ 0 ∧ x.r.cl = c ∧ x.r.sq = q ∧ x.st = 4 := by
    by_cases g : x.st = 0 ∨ x.r.cl ≠ c ∨ x.r.sq ≠ q
    · rw [if_pos g] at hno; omega
    · rw [if_neg g] at hno
      split at hno
      · omega
      · split at hno <;> omega
  obtain ⟨g1, g2, g3, g4⟩ := hcs
  have z0 : (x.st == 0) = false := by simpa using (show ¬ x.st = 0 by omega)
  have z1 : (x.r.cl != c) = false := by simpa using (show x.r.cl = c by omega)
  have z2 : (x.r.sq != q) = false := by simpa using (show x.r.sq = q by omega)
  have z3 : decide (x.st < 3) = false := by simp; omega
  have z4 : (x.st == 4) = true := by simpa using g4
  clear h hok hlen ha hl hst hno r1 r2 hW hWB hokj hne g1 g2 g3 g4
  go_enter Try.func17, Try.ntmps17
  go_wp2
  refine bodyPost_ret (v := .tuple #[anV sh0 an0, .int .i64 8]) (by simp [results, Try.results17, go_sem, anV, sh0, an0]) rfl ⟨sh0, rfl, an0_on _ _, (HPUT.out _ _).1, (HPUT.out _ _).2.1⟩

set_option maxHeartbeats 4000000 in
theorem dtake_done {C : Nat → Prop} {w : World} {T : TypeId} {b n : Nat} {L : List Sl} (h : SlM C w T b n L) (hok : OkL L) (hC : ¬ C b) (hn : n ≤ 32) {j : Nat} (hj : j < n) (c q : Int) (hno : takeK L j c q = 0) :
    Calls Try.prog 17 #[.slice (some ⟨b, 0, none⟩) n n, .int .i64 j, .int .i64 c, .int .i64 q] w (DTakeO C w T b n L j c q) := by
  have hlen := h.len
  have hbl := h.lt
  have hb1 : ¬ (b = w.heap.size) := by omega
  have hb2 : ¬ (b = w.heap.size + 1) := by omega
  have ha : takeA L j c q = (sl L j).a := by unfold takeA; rw [if_pos hno, Int.toNat_natCast]
  have hl : takeL L j c q = L.set j sl0 := by unfold takeL; rw [hno]; rfl
  have hst : stOf L j = (sl L j).st := stOf_in (by omega)
  unfold DTakeO
  rw [hno, ha, hl]
  unfold takeK at hno
  rw [hst, Int.toNat_natCast] at hno
  obtain ⟨h3, k3, hx, r1, r2⟩ := h.at_ hj
  obtain ⟨W, hW, hWB⟩ := box_rs w h3 k3 (sl L j)
  have H := Lib.hid h
  have HB := Lib.hid hWB
  have HR := Lib.hid r2
  have HPUT := Lib.hid (fun o1 o2 => h.gone hC hj o1 o2)
  have hfz := fun o => h.frz o
  have hokj := hok j
  generalize sl L j = x at hx hno hW hokj HR ⊢
  obtain ⟨e0, e1, e2, e3, e4, e5, e6, e7, e8, e9, e10, e11, e12, e13⟩ := hx
  have hWe := Lib.hid hW
  have hne : ¬ x.st = -1 := by omega
  rw [if_neg hne] at hno
  have hcs : x.st ≠ 0 ∧ x.r.cl = c ∧ x.r.sq = q ∧ x.st = 3 := by
    by_cases g : x.st = 0 ∨ x.r.cl ≠ c ∨ x.r.sq ≠ q
    · rw [if_pos g] at hno; omega
    · rw [if_neg g] at hno
      split at hno
      · omega
      · split at hno <;> omega
  obtain ⟨g1, g2, g3, g4⟩ := hcs
  have z0 : (x.st == 0) = false := by simpa using (show ¬ x.st = 0 by omega)
  have z1 : (x.r.cl != c) = false := by simpa using (show x.r.cl = c by omega)
  have z2 : (x.r.sq != q) = false := by simpa using (show x.r.sq = q by omega)
  have z3 : decide (x.st < 3) = false := by simp; omega
  have z4 : (x.st == 4) = false := by simp; omega
  clear h hok hlen ha hl hst hno r1 r2 hW hWB hokj hne g1 g2 g3 g4
  go_enter Try.func17, Try.ntmps17
  go_wp2
  refine bodyPost_ret (v := .tuple #[anV k3 x.a, .int .i64 0]) (by simp [results, Try.results17, go_sem, anV]) rfl ⟨k3, rfl, HR.out.keep (HPUT.out _ _).2.2, (HPUT.out _ _).1, (HPUT.out _ _).2.1⟩


theorem takeK_five (L : List Sl) (i c q : Int) : takeK L i c q = 6 ∨ takeK L i c q = 3 ∨ takeK L i c q = 10 ∨ takeK L i c q = 8 ∨ takeK L i c q = 0 := by
  unfold takeK
  split
  · exact .inl rfl
  · split
    · exact .inr (.inl rfl)
    · split
      · exact .inr (.inr (.inl rfl))
      · split
        · exact .inr (.inr (.inr (.inl rfl)))
        · exact .inr (.inr (.inr (.inr rfl)))
theorem dtake_any {C : Nat → Prop} {w : World} {T : TypeId} {b n : Nat} {L : List Sl} (h : SlM C w T b n L) (hok : OkL L) (hC : ¬ C b) (hn : n ≤ 32) (i c q : Int) :
    Calls Try.prog 17 #[.slice (some ⟨b, 0, none⟩) n n, .int .i64 i, .int .i64 c, .int .i64 q] w (DTakeO C w T b n L i c q) := by
  rcases in_out n i with ⟨j, rfl, hj⟩ | hi
  · rcases takeK_five L j c q with e | e | e | e | e
    · have hst : stOf L j = (sl L j).st := stOf_in (by rw [h.len]; exact hj)
      have := hok j
      unfold takeK at e
      rw [if_neg (by omega)] at e
      split at e
      · omega
      · split at e
        · omega
        · split at e <;> omega
    · exact dtake_none h hok hC hn hj c q e
    · exact dtake_state h hok hC hn hj c q e
    · exact dtake_stale h hok hC hn hj c q e
    · exact dtake_done h hok hC hn hj c q e
  · exact dtake_out h hC hn i c q hi
end Go.Proofs.Ytojofhmhmcchnaa
