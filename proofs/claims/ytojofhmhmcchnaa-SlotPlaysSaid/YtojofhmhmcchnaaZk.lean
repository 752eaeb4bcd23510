/- Contracts of package slot's Answer, Req and New. Condition: slots of which there are at most 32, their states 0 to 4, their requests' slices of at most 100 bytes; an answer of no more than 1000 rows, whose slices have at most 1000 bytes, and can be read. -/
import Derived.Test.YtojofhmhmcchnaaZj
namespace Go.Proofs.Ytojofhmhmcchnaa
open Go.RowKit
set_option linter.unusedVariables false
set_option maxRecDepth 100000

theorem copya_lit {w : World} {h : Sh} {a : An} (hr : AnR w h a) (hs : SmA a) :
    Calls Try.prog 32 #[.agg #[.int .i64 a.code, .bool a.found, .slice h.A h.n h.c, .slice h.B h.m h.d, .int .u64 a.stamp]] w fun e w' => ∃ h' : Sh, e = .returned (.agg #[.int .i64 a.code, .bool a.found, .slice h'.A h'.n h'.c, .slice h'.B h'.m h'.d, .int .u64 a.stamp]) ∧ On (w.heap.size ≤ ·) w' (AnR · h' a) ∧ Below w.heap.size w w' := copya_any hr hs
/-- What Answer tells, and leaves. -/
def AnsO (C : Nat → Prop) (w : World) (p b n : Nat) (L : List Sl) (i : Int) (a : An) (e : Ending) (w' : World) : Prop := e = .returned (errV (turnK L i 2 2)) ∧ SlO C w' p b n (ansL L i a) ∧ Chg b w w'
/-- An answer's box, and a number in a row. -/
theorem box_an (w : World) (h : Sh) (a : An) (x : Int) : ∃ W, W = (w.alloc (.cells #[.int .i64 a.code, .bool a.found, .slice h.A h.n h.c, .slice h.B h.m h.d, .int .u64 a.stamp] 37)).alloc (.cells #[.int .i64 x] 3) ∧
    Below w.heap.size w W ∧ BoxA W w.heap.size h a ∧ (∀ j, j < 1 → W.cell? ⟨w.heap.size + 1, j, none⟩ = some (.int .i64 (M1 x j))) ∧ W.heap.size = w.heap.size + 1 + 1 := by
  obtain ⟨V, hV, hVB, hVQ, hVs⟩ := box_a w h a
  obtain ⟨W, hW, hWB, hWc⟩ := row_one V x
  have hWs : W.heap.size = V.heap.size + 1 := by rw [hW]; simp
  subst hV
  rw [hVs] at hWc hWs
  exact ⟨W, hW, hVB.trans (hWB.mono (by omega)), hVQ.below hWB (by omega), hWc, hWs⟩
theorem put_ans (h : Qh) (k k' : Sh) (x : Sl) (a : An) : ∀ t, t < 14 → (slC h k' ⟨x.st, x.r, a⟩)[t]? = if 9 ≤ t ∧ t < 9 + [Value.int .i64 a.code, .bool a.found, .slice k'.A k'.n k'.c, .slice k'.B k'.m k'.d, .int .u64 a.stamp].length then [Value.int .i64 a.code, .bool a.found, .slice k'.A k'.n k'.c, .slice k'.B k'.m k'.d, .int .u64 a.stamp][t - 9]? else (slC h k x)[t]? := fun t ht => by
  have : t = 0 ∨ t = 1 ∨ t = 2 ∨ t = 3 ∨ t = 4 ∨ t = 5 ∨ t = 6 ∨ t = 7 ∨ t = 8 ∨ t = 9 ∨ t = 10 ∨ t = 11 ∨ t = 12 ∨ t = 13 := by omega
  rcases this with rfl | rfl | rfl | rfl | rfl | rfl | rfl | rfl | rfl | rfl | rfl | rfl | rfl | rfl <;> rfl

set_option maxHeartbeats 8000000 in
theorem sans_any {C : Nat → Prop} {w : World} {p b n : Nat} {L : List Sl} {h : Sh} {a : An} (hS : SlO C w p b n L) (hok : OkL L) (hC : ¬ C b) (hCn : ∀ k, w.heap.size ≤ k → C k) (i : Int) (hr : On (fun k => k ≠ b) w (AnR · h a)) (hs : SmA a) :
    Calls Try.prog 14 #[.pointer (some ⟨p, 0, none⟩), .int .i64 i, anV h a] w (AnsO C w p b n L i a) := by
  obtain ⟨W, hW, hWB, hWQ, hWc, hWs⟩ := box_an w h a 2
  have HT := Lib.hid (turn_any (hS.below hWB) hok hC i 3 2 2 (m := 1) (by omega) hWc (hasI_one 2))
  have hlen := hS.len
  have HB := Lib.hid hWB
  have HQ := Lib.hid hWQ
  have hWe := Lib.hid hW
  have HR := Lib.hid (hr.keep (below_all hWB))
  have HSM := Lib.hid hs
  have HCN := Lib.hid hCn
  have hlt : w.heap.size < W.heap.size := by omega
  have hpl := hS.lt
  have hbl := hS.2.2.2.lt
  have hpb := hS.2.1
  have hn := hS.2.2.1
  unfold AnsO
  unfold TurnO at HT
  by_cases hk : turnK L i 2 2 = 0
  · obtain ⟨j, rfl, hj, -⟩ := turnK_zero hk
    have hjn : j < n := by omega
    have hl1 : turnL L j 3 2 2 = L.set j ⟨3, (sl L j).r, (sl L j).a⟩ := by unfold turnL; rw [if_pos hk, Int.toNat_natCast]
    have hl2 : ansL L j a = L.set j ⟨3, (sl L j).r, a⟩ := by unfold ansL; rw [if_pos hk, Int.toNat_natCast]
    rw [hk, hl2]
    rw [hk, hl1] at HT
    have HL := Lib.hid (show sl (L.set j ⟨3, (sl L j).r, (sl L j).a⟩) j = ⟨3, (sl L j).r, (sl L j).a⟩ from by rw [sl_set hj, if_pos rfl])
    have HLL := Lib.hid (show (L.set j ⟨3, (sl L j).r, (sl L j).a⟩).set j ⟨3, (sl L j).r, a⟩ = L.set j ⟨3, (sl L j).r, a⟩ from List.set_set _)
    generalize L.set j ⟨3, (sl L j).r, (sl L j).a⟩ = L1 at HT HL HLL
    generalize sl L j = x at HL HLL ⊢
    generalize L.set j ⟨3, x.r, a⟩ = L2 at HLL ⊢
    clear hS hok hCn hr hs hW hWB hWQ hWc hWs hlen hk hl1 hl2 hj
    unfold anV
    go_enter Try.func14, Try.ntmps14
    go_wp2_with fail
    rw [← hWe.out]
    refine HT.out.mono ?_
    rintro e w2 ⟨rfl, h2, hc2⟩
    rw [errV_zero]
    have HS2 := Lib.hid h2
    have HC2 := Lib.hid ((below_chg HB.out).trans hc2)
    have HAG := Lib.hid (show Agree (fun k => k ≠ b) W w2 from hc2.agree (fun h => h rfl))
    have HQ2 := Lib.hid (show BoxA w2 w.heap.size h a from (hc2.block w.heap.size hlt (by omega)).trans HQ.out)
    have hl2 := hc2.size
    have HB0 := Lib.hid (show Below b w w2 from (HB.out.mono (by omega)).trans (hc2.below (Nat.le_refl _) (by omega)))
    have HR2 := Lib.hid ((HR.out.keep HAG.out).here)
    clear h2 hc2 HT hWe HQ
    go_upto_region 3 with fail
    obtain ⟨b0, b1, b2, b3, b4⟩ := HQ2.out.cells
    have q0 := HS2.out.ptr
    have D := Lib.hid (copya_lit (w := w2.drew) (show AnR w2 h a from HR2.out) HSM.out)
    have hne1 : ¬ (p = b) := hpb
    have hne2 : ¬ (b = p) := fun e => hpb e.symm
    have hne3 : ¬ (w.heap.size = b) := by omega
    have hne4 : ¬ (b = w.heap.size) := by omega
    have hql : w.heap.size < w2.heap.size := by omega
    have HK := Lib.hid (And.intro q0 (And.intro b0 (And.intro b1 (And.intro b2 (And.intro b3 b4)))))
    go_region_held3 (fun w' => w'.cell? ⟨p, 0, none⟩ = some (.slice (some ⟨b, 0, none⟩) n n) ∧ w'.cell? ⟨w.heap.size, 0, none⟩ = some (.int .i64 a.code) ∧ w'.cell? ⟨w.heap.size, 1, none⟩ = some (.bool a.found) ∧ w'.cell? ⟨w.heap.size, 2, none⟩ = some (.slice h.A h.n h.c) ∧ w'.cell? ⟨w.heap.size, 3, none⟩ = some (.slice h.B h.m h.d) ∧ w'.cell? ⟨w.heap.size, 4, none⟩ = some (.int .u64 a.stamp)) (go_keep)
      ((go_at_call 32
        (with_reducible refine D.out.mono ?_)
        rintro e w5 ⟨h5, rfl, on5, hb5⟩
        have hb5 : Below w2.heap.size w2 w5 := undrew hb5
        have HON := Lib.hid on5
        have HS5 := Lib.hid (HS2.out.below hb5)
        have HC5 := Lib.hid (HC2.out.trans (below_chg hb5))
        have q0 := (hb5.cell (p := ⟨p, 0, none⟩) (show p < w2.heap.size by omega)).trans HK.out.1
        have b0 := (hb5.cell (p := ⟨w.heap.size, 0, none⟩) hql).trans HK.out.2.1
        have b1 := (hb5.cell (p := ⟨w.heap.size, 1, none⟩) hql).trans HK.out.2.2.1
        have b2 := (hb5.cell (p := ⟨w.heap.size, 2, none⟩) hql).trans HK.out.2.2.2.1
        have b3 := (hb5.cell (p := ⟨w.heap.size, 3, none⟩) hql).trans HK.out.2.2.2.2.1
        have b4 := (hb5.cell (p := ⟨w.heap.size, 4, none⟩) hql).trans HK.out.2.2.2.2.2
        have hat := HS5.out.2.2.2.at_ hjn
        rw [HL.out] at hat
        obtain ⟨ha, ka, hxa, ra1, ra2⟩ := hat
        have HXA := Lib.hid (And.intro hxa ra1)
        obtain ⟨e0, e1, e2, e3, e4, e5, e6, e7, e8, e9, e10, e11, e12, e13⟩ := hxa
        have hfz := HS5.out.2.2.2.frz
        clear hb5 on5 ra1 ra2))
    all_goals
      have hput := HS5.out.put hC hjn (o := 9) (us := [.int .i64 a.code, .bool a.found, .slice h5.A h5.n h5.c, .slice h5.B h5.m h5.d, .int .u64 a.stamp]) (x := ⟨3, x.r, a⟩) (h := ha) (k := ka) (h' := ha) (k' := h5) (by show 9 + 5 ≤ 14; omega) (by rw [HL.out]; exact HXA.out.1) (by rw [HL.out]; exact put_ans ha ka h5 ⟨3, x.r, x.a⟩ a) HXA.out.2 (HON.out.mono fun k hk => HCN.out k (by have hk' : w2.heap.size ≤ k := hk; omega))
      rw [HLL.out] at hput
      have HP := Lib.hid hput
      have HG := Lib.hid (HC5.out.trans (chg_stores b [.int .i64 a.code, .bool a.found, .slice h5.A h5.n h5.c, .slice h5.B h5.m h5.d, .int .u64 a.stamp] w5 (j * 14 + 9)))
      clear hput e0 e1 e2 e3 e4 e5 e6 e7 e8 e9 e10 e11 e12 e13 hfz q0 b0 b1 b2 b3 b4 HK D HXA HS5 HON
      go_wp2
      go_ret
      exact ⟨rfl, HP.out, HG.out⟩
  · have hl1 : turnL L i 3 2 2 = L := by unfold turnL; rw [if_neg hk]
    have hl2 : ansL L i a = L := by unfold ansL; rw [if_neg hk]
    have he : errV (turnK L i 2 2) = .iface 29 (.int .i64 (turnK L i 2 2)) := errV_some hk
    rw [hl2, he]
    rw [hl1, he] at HT
    generalize turnK L i 2 2 = kk at HT hk ⊢
    clear hS hok hCn hr hs hW hWB hWQ hWc hWs hlen hl1 hl2 he HR HSM HCN HQ
    unfold anV
    go_enter Try.func14, Try.ntmps14
    go_wp2_with fail
    rw [← hWe.out]
    refine HT.out.mono ?_
    rintro e w2 ⟨rfl, h2, hc2⟩
    have HF := Lib.hid (And.intro h2 ((below_chg HB.out).trans hc2))
    clear h2 hc2 HT hWe
    go_wp2
    go_ret
    exact ⟨rfl, HF.out.1, HF.out.2⟩

/-- What Req tells. -/
def reqK (L : List Sl) (i : Int) : Int := if stOf L i = -1 then 6 else if stOf L i = 0 then 3 else 0
def reqR (L : List Sl) (i : Int) : Rq := if reqK L i = 0 then (sl L i.toNat).r else rq0
def SmL (L : List Sl) : Prop := ∀ j, smallQ (sl L j).r = true
def ReqO (w : World) (L : List Sl) (i : Int) (e : Ending) (w' : World) : Prop := ∃ h : Qh, e = .returned (.tuple #[rqV h (reqR L i), errV (reqK L i)]) ∧ RqR w' h (reqR L i) ∧ Below w.heap.size w w'
abbrev reqZ : Obj := .cells #[.int .i64 0, .int .i64 0, .int .i64 0, .slice none 0 0, .slice none 0 0, .slice none 0 0, .slice none 0 0, .int .i64 0] 33

set_option maxHeartbeats 8000000 in
theorem sreq_any {C : Nat → Prop} {w : World} {p b n : Nat} {L : List Sl} (hS : SlO C w p b n L) (hok : OkL L) (hsm : SmL L) (i : Int) :
    Calls Try.prog 21 #[.pointer (some ⟨p, 0, none⟩), .int .i64 i] w (ReqO w L i) := by
  have HB := Lib.hid (show Below w.heap.size w (w.alloc reqZ) from (Below.refl _ _).alloc (Nat.le_refl _) _)
  have HST := Lib.hid (state_any (hS.below HB.out) i)
  have hn := hS.2.2.1
  have hpl := hS.lt
  have hbl := hS.2.2.2.lt
  have hp1 : ¬ (p = w.heap.size) := by omega
  have hb1 : ¬ (b = w.heap.size) := by omega
  have hlen := hS.len
  unfold ReqO
  by_cases h1 : stOf L i = -1
  · have hk : reqK L i = 6 := by unfold reqK; rw [if_pos h1]
    have hr : reqR L i = rq0 := by unfold reqR; rw [hk]; rfl
    rw [hk, hr]
    rw [h1] at HST
    clear hS hok hsm hlen hk hr h1
    go_enter Try.func21, Try.ntmps21
    go_wp2_with fail
    refine HST.out.mono ?_
    rintro e w2 ⟨rfl, rfl⟩
    go_wp2
    refine bodyPost_ret (v := .tuple #[rqV qh0 rq0, errV 6]) (by simp [results, Try.results21, go_sem, rqV, qh0, rq0, errV]) rfl ⟨qh0, rfl, (rq0_on (fun _ => True) _).here, HB.out⟩
  by_cases h2 : stOf L i = 0
  · have hk : reqK L i = 3 := by unfold reqK; rw [if_neg h1, if_pos h2]
    have hr : reqR L i = rq0 := by unfold reqR; rw [hk]; rfl
    rw [hk, hr]
    rw [h2] at HST
    clear hS hok hsm hlen hk hr h1 h2
    go_enter Try.func21, Try.ntmps21
    go_wp2_with fail
    refine HST.out.mono ?_
    rintro e w2 ⟨rfl, rfl⟩
    go_wp2
    refine bodyPost_ret (v := .tuple #[rqV qh0 rq0, errV 3]) (by simp [results, Try.results21, go_sem, rqV, qh0, rq0, errV]) rfl ⟨qh0, rfl, (rq0_on (fun _ => True) _).here, HB.out⟩
  obtain ⟨i0, i1⟩ := stOf_lt h1
  obtain ⟨j, rfl⟩ : ∃ j : Nat, i = j := ⟨i.toNat, by omega⟩
  have hjn : j < n := by omega
  have hk : reqK L j = 0 := by unfold reqK; rw [if_neg h1, if_neg h2]
  have hr : reqR L j = (sl L j).r := by unfold reqR; rw [if_pos hk, Int.toNat_natCast]
  rw [hk, hr]
  have hz1 : (stOf L j == -1) = false := by simpa using h1
  have hz2 : (stOf L j == 0) = false := by simpa using h2
  obtain ⟨h3, k3, hx, r1, r2⟩ := hS.2.2.2.at_ hjn
  have hsj := hsm j
  have hq := hS.ptr
  generalize sl L j = x at hx r1 hsj ⊢
  generalize stOf L j = st at HST hz1 hz2
  have HR := Lib.hid (r1.here.below HB.out)
  have HSJ := Lib.hid hsj
  have D := Lib.hid (copyq_lit HR.out hsj)
  obtain ⟨e0, e1, e2, e3, e4, e5, e6, e7, e8, e9, e10, e11, e12, e13⟩ := hx
  have HZ := Lib.hid (show BoxQ (w.alloc reqZ) w.heap.size qh0 rq0 from Deep.blk_alloc_new _ _)
  clear hS hok hsm hlen hk hr h1 h2 r1 r2 hsj i0 i1 e0 e9 e10 e11 e12 e13
  go_enter Try.func21, Try.ntmps21
  go_wp2_with fail
  refine HST.out.mono ?_
  rintro e w2 ⟨rfl, rfl⟩
  go_wp2_with fail
  refine D.out.mono ?_
  rintro e w3 ⟨h5, rfl, on5, hb5⟩
  have HON := Lib.hid on5
  have HB5 := Lib.hid (HB.out.trans (hb5.mono HB.out.size))
  have HZ5 := Lib.hid (HZ.out.below hb5 (by simp))
  obtain ⟨z0, z1, z2, z3, z4, z5, z6, z7⟩ := HZ5.out.cells
  have fz := HZ5.out.frz
  clear on5 hb5 D HST
  go_wp2
  refine bodyPost_ret (v := .tuple #[rqV h5 x.r, errV 0]) (by simp [results, Try.results21, go_sem, rqV, errV, z0, z1, z2, z3, z4, z5, z6, z7]) rfl ⟨h5, rfl, ?_, ?_⟩
  · have h1 := (chg_stores w.heap.size [.int .i64 x.r.cl, .int .i64 x.r.sq, .int .i64 x.r.kind, .slice h5.A h5.n h5.c, .slice h5.B h5.m h5.d, .slice h5.C h5.o h5.p, .slice h5.D h5.q h5.s, .int .i64 x.r.limit] w3 0).agree (C := ((w.alloc reqZ).heap.size ≤ ·)) (by simp)
    exact (HON.out.keep h1).here
  · exact stores_below (b := w.heap.size) (Nat.le_refl _) [.int .i64 x.r.cl, .int .i64 x.r.sq, .int .i64 x.r.kind, .slice h5.A h5.n h5.c, .slice h5.B h5.m h5.d, .slice h5.C h5.o h5.p, .slice h5.D h5.q h5.s, .int .i64 x.r.limit] w w3 0 HB5.out
end Go.Proofs.Ytojofhmhmcchnaa
