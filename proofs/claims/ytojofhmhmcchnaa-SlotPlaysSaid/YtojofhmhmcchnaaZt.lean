/- SlotPlays' walk. Condition: what came in can be read; no more than 150 deeds. -/
import Derived.Test.YtojofhmhmcchnaaZs
import Derived.Deep.CutBlock
namespace Go.Proofs.Ytojofhmhmcchnaa
open Go.RowKit
set_option linter.unusedVariables false
set_option maxRecDepth 100000

theorem dtake_lit {C : Nat → Prop} {w : World} {T : TypeId} {b n : Nat} {L : List Sl} (h : SlM C w T b n L) (hok : OkL L) (hC : ¬ C b) (hn : n ≤ 32) (i c q : Int) :
    Calls Try.prog 17 #[.slice (some ⟨b, 0, none⟩) n n, .int .i64 i, .int .i64 c, .int .i64 q] w fun e w' =>
      ∃ h : Sh, e = .returned (.tuple #[.agg #[.int .i64 (takeA L i c q).code, .bool (takeA L i c q).found, .slice h.A h.n h.c, .slice h.B h.m h.d, .int .u64 (takeA L i c q).stamp], .int .i64 (takeK L i c q)]) ∧ On C w' (AnR · h (takeA L i c q)) ∧ SlM C w' T b n (takeL L i c q) ∧ Chg b w w' := dtake_any h hok hC hn i c q
theorem sreq_lit {C : Nat → Prop} {w : World} {p b n : Nat} {L : List Sl} (hS : SlO C w p b n L) (hok : OkL L) (hsm : SmL L) (i : Int) :
    Calls Try.prog 21 #[.pointer (some ⟨p, 0, none⟩), .int .i64 i] w fun e w' =>
      ∃ h : Qh, e = .returned (.tuple #[.agg #[.int .i64 (reqR L i).cl, .int .i64 (reqR L i).sq, .int .i64 (reqR L i).kind, .slice h.A h.n h.c, .slice h.B h.m h.d, .slice h.C h.o h.p, .slice h.D h.q h.s, .int .i64 (reqR L i).limit], errV (reqK L i)]) ∧ RqR w' h (reqR L i) ∧ Below w.heap.size w w' := sreq_any hS hok hsm i
theorem req_in {L : List Sl} (hok : OkL L) {t : Nat} (ht : t < L.length) : reqR L t = (sl L t).r ∧ reqK L t = if (sl L t).st = 0 then 3 else 0 := by
  have h := hok t
  have hst : stOf L t = (sl L t).st := stOf_in ht
  have hk : reqK L t = if (sl L t).st = 0 then 3 else 0 := by
    unfold reqK
    rw [hst, if_neg (by omega)]
  refine ⟨?_, hk⟩
  unfold reqR
  rw [hk, Int.toNat_natCast]
  by_cases hz : (sl L t).st = 0
  · rw [if_pos hz, if_neg (by omega), h.2.2 hz]
    rfl
  · rw [if_neg hz, if_pos rfl]
/-- The document's own answer is put behind its turn. -/
theorem doc_ans {C : Nat → Prop} {w : World} {T : TypeId} {m n : Nat} {L : List Sl} {i : Int} {k : Sh} {a : An} (h : SlM C w T m n (turnL L i 3 2 2)) (hk : turnK L i 2 2 = 0) (hC : ¬ C m) (ha : On C w (AnR · k a)) (hn : L.length = n) :
    ∃ j : Nat, i = j ∧ j < n ∧ ∃ h3 k3 x3, SlAt w m (j * 14) h3 k3 x3 ∧ (∀ o, w.frozen? ⟨m, o, none⟩ = false) ∧ SlM C (stores w m (j * 14 + 9) [.int .i64 a.code, .bool a.found, .slice k.A k.n k.c, .slice k.B k.m k.d, .int .u64 a.stamp]) T m n (ansL L i a) := by
  obtain ⟨j, rfl, hj, -⟩ := turnK_zero hk
  have hl1 : turnL L j 3 2 2 = L.set j ⟨3, (sl L j).r, (sl L j).a⟩ := by unfold turnL; rw [if_pos hk, Int.toNat_natCast]
  have hl2 : ansL L j a = L.set j ⟨3, (sl L j).r, a⟩ := by unfold ansL; rw [if_pos hk, Int.toNat_natCast]
  rw [hl1] at h
  rw [hl2]
  have hs : sl (L.set j ⟨3, (sl L j).r, (sl L j).a⟩) j = ⟨3, (sl L j).r, (sl L j).a⟩ := by rw [sl_set hj, if_pos rfl]
  have hat := h.at_ (show j < n by omega)
  rw [hs] at hat
  obtain ⟨h3, k3, hx, r1, r2⟩ := hat
  have hput := h.put hC (show j < n by omega) (o := 9) (us := [.int .i64 a.code, .bool a.found, .slice k.A k.n k.c, .slice k.B k.m k.d, .int .u64 a.stamp]) (x := ⟨3, (sl L j).r, a⟩) (h := h3) (k := k3) (h' := h3) (k' := k) (by show 9 + 5 ≤ 14; omega) (by rw [hs]; exact hx) (by rw [hs]; exact put_ans h3 k3 k ⟨3, (sl L j).r, (sl L j).a⟩ a) r1 ha
  rw [List.set_set] at hput
  exact ⟨j, rfl, by omega, h3, k3, _, hx, h.frz, hput⟩

set_option maxHeartbeats 16000000 in
theorem plays_main {w : World} {A : Option Addr} {k : Nat} (c : Nat) {M : List De} (h : Deeds w A k M) {n : Nat} (h1 : 1 ≤ n) (h32 : n ≤ 32) (hk : k ≤ 150) :
    Calls Try.prog 3 #[.int .i64 n, .slice A k c] w fun e w' => e = .returned (.bool true) ∧ Below w.heap.size w w' := by
  have HUP := Lib.hid (up_any w)
  have HN := Lib.hid (fun w1 => new_yes (fun _ => False) w1 h1 h32)
  have hn1 : ¬ ((n : Int) < 1) := by omega
  have hn2 : ¬ ((32 : Int) < (n : Int)) := by omega
  have hk1 : decide (150 < (k : Int)) = false := by simp; omega
  have hk2 : decide (150 < k) = false := by simp; omega
  have hmk := make_slots Try.underlying30 Try.infoSlot
  have H := Lib.hid h
  clear h
  go_enter Try.func3, Try.ntmps3
  go_wp2_with fail
  refine HUP.out.mono ?_
  rintro e w1 ⟨rfl, hb1⟩
  have HB1 := Lib.hid hb1
  clear hb1 HUP
  go_wp2_with fail
  refine (HN.out w1).mono ?_
  rintro e w2 ⟨rfl, hs2, hb2⟩
  have HP := Lib.hid (ps_new HB1.out hs2 hb2)
  have HMN := Lib.hid (And.intro hn1 hn2)
  clear hs2 hb2 HN HB1
  go_upto_region 8 with fail
  generalize w2.alloc (.cells (madeCells zs14 (n * 14)) 51) = w3 at HP ⊢
  generalize w1.heap.size + 1 = p at HP ⊢
  generalize w1.heap.size = b at HP
  generalize w2.heap.size = m at HP ⊢
  clear hk1 hk2 hmk hn1 hn2 HMN
  go_wp2
  go_loopw [9] (fun i wr => ∃ j : Nat, j ≤ k ∧ i = .int .i64 j ∧ ∃ L, PS w p b m n L L wr) (fun i _ => k - (intOf i).toNat)
  case atStart => exact ⟨0, Nat.zero_le _, rfl, _, HP.out⟩
  case round =>
    clear HP
    obtain ⟨j, hj, rfl, L, hp⟩ := hrel
    have HP := Lib.hid hp
    clear hp
    by_cases hlt : j < k
    · obtain ⟨lb, oo, rfl, hlb, h, q, hx0, hr, ha, hw1, hw2⟩ := H.out.at_ hlt
      have hx := hx0.below HP.out.below hlb
      generalize dq M j = x at hx hr ha hw1 hw2
      obtain ⟨e0, e1, e2, e3, e4, e5, e6, e7, e8, e9, e10, e11, e12, e13, e14, e15, e16⟩ := hx
      have HR := Lib.hid (rq_old hr)
      have HA := Lib.hid (an_old ha)
      have HWH := Lib.hid (And.intro hw1 hw2)
      have HBX := Lib.hid (box_d wr h q x)
      clear hx0 hr ha hw1 hw2
      go_upto_region 11 with fail
      go_cut [10] (fun s wx => ∃ g, s = .pointer (some ⟨g, 0, none⟩) ∧ RD w p b m n L L g h q x wx)
      case first =>
        as_aux_lemma =>
          go_upto_region 12 with fail
          obtain ⟨W, hW, hWB, hWX, hWs⟩ := HBX.out
          rw [← hW]
          have hz : RD w p b m n L L wr.heap.size h q x W := ⟨HP.out.more hWB, hWX, by have := HP.out.slots.2.2.2.lt; omega, by have := HP.out.doc.lt; omega⟩
          have HZ := Lib.hid hz
          clear hW hWB hWX hWs HBX hz
          go_meet
          exact ⟨_, rfl, HZ.out⟩
      case rest =>
        obtain ⟨g, rfl, hd⟩ := hcut
        have HD := Lib.hid hd
        clear hd HBX HP e0 e1 e2 e3 e4 e5 e6 e7 e8 e9 e10 e11 e12 e13 e14 e15 e16
        have HSM := Lib.hid (smallq_lit (HR.out.keep (below_agree HD.out.ps.below fun b hb _ => hb)).here)
        obtain ⟨e0, e1, e2, e3, e4, e5, e6, e7, e8, e9, e10, e11, e12, e13, e14, e15, e16⟩ := HD.out.box.at_
        simp only [Nat.zero_add] at e1 e2 e3 e4 e5 e6 e7 e8 e9 e10 e11 e12 e13 e14 e15 e16
        go_wp2_with fail
        refine HSM.out.mono ?_
        rintro e w4 ⟨rfl, hb4⟩
        have HD4 := Lib.hid (HD.out.more hb4)
        clear hb4 HSM HD e0 e1 e2 e3 e4 e5 e6 e7 e8 e9 e10 e11 e12 e13 e14 e15 e16
        have HSA := Lib.hid (lsmall_any (HA.out.keep (below_agree HD4.out.ps.below fun b hb _ => hb)).here)
        obtain ⟨e0, e1, e2, e3, e4, e5, e6, e7, e8, e9, e10, e11, e12, e13, e14, e15, e16⟩ := HD4.out.box.at_
        simp only [Nat.zero_add] at e1 e2 e3 e4 e5 e6 e7 e8 e9 e10 e11 e12 e13 e14 e15 e16
        go_wp2_with fail
        refine HSA.out.mono ?_
        rintro e w5 ⟨rfl, hb5⟩
        have HD5 := Lib.hid (HD4.out.more hb5)
        clear hb5 HSA HD4 e0 e1 e2 e3 e4 e5 e6 e7 e8 e9 e10 e11 e12 e13 e14 e15 e16
        obtain ⟨s1, hs1⟩ : ∃ s1, s1 = smallQ x.r := ⟨_, rfl⟩
        obtain ⟨s2, hs2⟩ : ∃ s2, s2 = smallA x.a := ⟨_, rfl⟩
        rw [← hs1, ← hs2]
        have HS1 := Lib.hid hs1
        have HS2 := Lib.hid hs2
        clear hs1 hs2
        cases s1
        · go_wp2
          go_ret
          exact ⟨rfl, HD5.out.ps.below⟩
        cases s2
        · go_wp2
          go_ret
          exact ⟨rfl, HD5.out.ps.below⟩
        obtain ⟨e0, e1, e2, e3, e4, e5, e6, e7, e8, e9, e10, e11, e12, e13, e14, e15, e16⟩ := HD5.out.box.at_
        simp only [Nat.zero_add] at e1 e2 e3 e4 e5 e6 e7 e8 e9 e10 e11 e12 e13 e14 e15 e16
        have hpw := pk_lt x.what 6 (by omega)
        obtain ⟨u, hu⟩ : ∃ u, pk x.what 6 = u := ⟨_, rfl⟩
        have hu0 : 0 ≤ u ∧ u < 6 := by rw [← hu]; exact hpw
        have HU := Lib.hid hu
        clear hpw hu
        go_wp2_with fail
        refine (pick_any x.what 6 u _ HWH.out.1 HWH.out.2 (by omega) (by omega) HU.out).mono ?_
        rintro e w6 ⟨rfl, rfl⟩
        clear e0 e1 e2 e3 e4 e5 e6 e7 e8 e9 e10 e11 e12 e13 e14 e15 e16
        go_upto_block 2 with fail
        go_cut [13, 14] (fun c f wx => Dun w p b m n g h q x c f wx)
        case first =>
          clear hj hlt
          obtain ⟨uc, hc0⟩ : ∃ uc : Prop, uc = (u = 0 ∨ u = 1 ∨ u = 2 ∨ u = 3 ∨ u = 4 ∨ u = 5) := ⟨_, rfl⟩
          have hcase : u = 0 ∨ u = 1 ∨ u = 2 ∨ u = 3 ∨ u = 4 ∨ u = 5 := by omega
          clear hc0 uc hu0 HU
          rcases hcase with rfl | rfl | rfl | rfl | rfl | rfl
          · as_aux_lemma =>
              have hpi : ∃ pi, pi = postI L x.r := ⟨_, rfl⟩
              obtain ⟨pi, hpi⟩ := hpi
              have HPI := Lib.hid hpi
              have hpp : (pi != pi) = false := by simp
              have HP0 := spost_lit HD5.out.ps.slots HD5.out.ps.cb HD5.out.ps.cn (HR.out.keep (below_agree HD5.out.ps.below fun b hb _ => hb)).here HS1.out.symm
              unfold PostO at HP0
              rw [← hpi] at HP0
              have HPO := Lib.hid HP0
              clear hpi HP0
              obtain ⟨e0, e1, e2, e3, e4, e5, e6, e7, e8, e9, e10, e11, e12, e13, e14, e15, e16⟩ := HD5.out.box.at_
              simp only [Nat.zero_add] at e1 e2 e3 e4 e5 e6 e7 e8 e9 e10 e11 e12 e13 e14 e15 e16
              go_wp2_with fail
              refine HPO.out.mono ?_
              rintro e w7 ⟨rfl, hs7, hc7⟩
              have HD7 := Lib.hid (HD5.out.prog hs7 hc7 (ok_post HD5.out.ps.ok1 _) (sm_post HD5.out.ps.sm1 HS1.out.symm))
              clear e0 e1 e2 e3 e4 e5 e6 e7 e8 e9 e10 e11 e12 e13 e14 e15 e16
              clear hs7 hc7 HPO
              have HP1 := dpost_any HD7.out.ps.doc HD7.out.ps.n32 HD7.out.ps.cm (HR.out.keep (below_agree HD7.out.ps.below fun b hb _ => hb)) HS1.out.symm
              unfold DPostO rqV at HP1
              rw [← HPI.out] at HP1
              have HPD := Lib.hid HP1
              clear HP1 HD5
              obtain ⟨e0, e1, e2, e3, e4, e5, e6, e7, e8, e9, e10, e11, e12, e13, e14, e15, e16⟩ := HD7.out.box.at_
              simp only [Nat.zero_add] at e1 e2 e3 e4 e5 e6 e7 e8 e9 e10 e11 e12 e13 e14 e15 e16
              go_wp2_with fail
              refine HPD.out.mono ?_
              rintro e w8 ⟨rfl, hs8, hc8⟩
              have HD8 := Lib.hid (HD7.out.dc hs8 hc8 (ok_post HD7.out.ps.ok2 _) (sm_post HD7.out.ps.sm2 HS1.out.symm))
              clear e0 e1 e2 e3 e4 e5 e6 e7 e8 e9 e10 e11 e12 e13 e14 e15 e16
              clear hs8 hc8 HPD HD7
              go_wp2
              go_meet
              exact ⟨_, _, rfl, rfl, (postK_le L x.r).1, (postK_le L x.r).2, HD8.out⟩
          · as_aux_lemma =>
              have hpi : ∃ pi, pi = postI L x.r := ⟨_, rfl⟩
              obtain ⟨pi, hpi⟩ := hpi
              have HPI := Lib.hid hpi
              have hpp : (pi != pi) = false := by simp
              have HP0 := spost_lit HD5.out.ps.slots HD5.out.ps.cb HD5.out.ps.cn (HR.out.keep (below_agree HD5.out.ps.below fun b hb _ => hb)).here HS1.out.symm
              unfold PostO at HP0
              rw [← hpi] at HP0
              have HPO := Lib.hid HP0
              clear hpi HP0
              obtain ⟨e0, e1, e2, e3, e4, e5, e6, e7, e8, e9, e10, e11, e12, e13, e14, e15, e16⟩ := HD5.out.box.at_
              simp only [Nat.zero_add] at e1 e2 e3 e4 e5 e6 e7 e8 e9 e10 e11 e12 e13 e14 e15 e16
              go_wp2_with fail
              refine HPO.out.mono ?_
              rintro e w7 ⟨rfl, hs7, hc7⟩
              have HD7 := Lib.hid (HD5.out.prog hs7 hc7 (ok_post HD5.out.ps.ok1 _) (sm_post HD5.out.ps.sm1 HS1.out.symm))
              clear e0 e1 e2 e3 e4 e5 e6 e7 e8 e9 e10 e11 e12 e13 e14 e15 e16
              clear hs7 hc7 HPO
              have HP1 := dpost_any HD7.out.ps.doc HD7.out.ps.n32 HD7.out.ps.cm (HR.out.keep (below_agree HD7.out.ps.below fun b hb _ => hb)) HS1.out.symm
              unfold DPostO rqV at HP1
              rw [← HPI.out] at HP1
              have HPD := Lib.hid HP1
              clear HP1 HD5
              obtain ⟨e0, e1, e2, e3, e4, e5, e6, e7, e8, e9, e10, e11, e12, e13, e14, e15, e16⟩ := HD7.out.box.at_
              simp only [Nat.zero_add] at e1 e2 e3 e4 e5 e6 e7 e8 e9 e10 e11 e12 e13 e14 e15 e16
              go_wp2_with fail
              refine HPD.out.mono ?_
              rintro e w8 ⟨rfl, hs8, hc8⟩
              have HD8 := Lib.hid (HD7.out.dc hs8 hc8 (ok_post HD7.out.ps.ok2 _) (sm_post HD7.out.ps.sm2 HS1.out.symm))
              clear e0 e1 e2 e3 e4 e5 e6 e7 e8 e9 e10 e11 e12 e13 e14 e15 e16
              clear hs8 hc8 HPD HD7
              go_wp2
              go_meet
              exact ⟨_, _, rfl, rfl, (postK_le L x.r).1, (postK_le L x.r).2, HD8.out⟩
          · as_aux_lemma =>
              have HP0 := claim_any HD5.out.ps.slots HD5.out.ps.ok1 HD5.out.ps.cb x.i
              unfold TurnO at HP0
              have HPO := Lib.hid HP0
              clear HP0
              obtain ⟨e0, e1, e2, e3, e4, e5, e6, e7, e8, e9, e10, e11, e12, e13, e14, e15, e16⟩ := HD5.out.box.at_
              simp only [Nat.zero_add] at e1 e2 e3 e4 e5 e6 e7 e8 e9 e10 e11 e12 e13 e14 e15 e16
              go_wp2_with fail
              refine HPO.out.mono ?_
              rintro e w7 ⟨rfl, hs7, hc7⟩
              have HD7 := Lib.hid (HD5.out.prog hs7 hc7 (ok_turn HD5.out.ps.ok1 x.i 2 1 1 (by omega) (by omega)) (sm_turn HD5.out.ps.sm1 x.i 2 1 1))
              clear e0 e1 e2 e3 e4 e5 e6 e7 e8 e9 e10 e11 e12 e13 e14 e15 e16
              clear hs7 hc7 HPO
              have HP1 := dturn_any HD7.out.ps.doc HD7.out.ps.ok2 HD7.out.ps.cm HD7.out.ps.n32 x.i 2 1 1
              unfold DTurnO at HP1
              have HPD := Lib.hid HP1
              clear HP1 HD5
              obtain ⟨e0, e1, e2, e3, e4, e5, e6, e7, e8, e9, e10, e11, e12, e13, e14, e15, e16⟩ := HD7.out.box.at_
              simp only [Nat.zero_add] at e1 e2 e3 e4 e5 e6 e7 e8 e9 e10 e11 e12 e13 e14 e15 e16
              go_wp2_with fail
              refine HPD.out.mono ?_
              rintro e w8 ⟨rfl, hs8, hc8⟩
              have HD8 := Lib.hid (HD7.out.dc hs8 hc8 (ok_turn HD7.out.ps.ok2 x.i 2 1 1 (by omega) (by omega)) (sm_turn HD7.out.ps.sm2 x.i 2 1 1))
              clear e0 e1 e2 e3 e4 e5 e6 e7 e8 e9 e10 e11 e12 e13 e14 e15 e16
              clear hs8 hc8 HPD HD7
              go_wp2
              go_meet
              exact ⟨_, _, rfl, rfl, (turnK_le L x.i 1 1).1, (turnK_le L x.i 1 1).2, HD8.out⟩
          · as_aux_lemma =>
              have HSA := Lib.hid (smallA_sm HS2.out.symm)
              have HP0 := sans_lit HD5.out.ps.slots HD5.out.ps.ok1 HD5.out.ps.cb HD5.out.ps.cn x.i ((HA.out.keep (below_agree HD5.out.ps.below fun b hb _ => hb)).mono (fun k hk => by have := HD5.out.ps.lb; have hk' : k < w.heap.size := hk; show k ≠ b; omega)) HSA.out
              unfold AnsO at HP0
              have HPO := Lib.hid HP0
              clear HP0
              obtain ⟨e0, e1, e2, e3, e4, e5, e6, e7, e8, e9, e10, e11, e12, e13, e14, e15, e16⟩ := HD5.out.box.at_
              simp only [Nat.zero_add] at e1 e2 e3 e4 e5 e6 e7 e8 e9 e10 e11 e12 e13 e14 e15 e16
              go_wp2_with fail
              refine HPO.out.mono ?_
              rintro e w7 ⟨rfl, hs7, hc7⟩
              have HD7 := Lib.hid (HD5.out.prog hs7 hc7 (ok_ans HD5.out.ps.ok1 x.i x.a) (sm_ans HD5.out.ps.sm1 x.i x.a))
              clear e0 e1 e2 e3 e4 e5 e6 e7 e8 e9 e10 e11 e12 e13 e14 e15 e16
              clear hs7 hc7 HPO
              have HP1 := dturn_any HD7.out.ps.doc HD7.out.ps.ok2 HD7.out.ps.cm HD7.out.ps.n32 x.i 3 2 2
              unfold DTurnO at HP1
              have HPD := Lib.hid HP1
              have HLN := Lib.hid (show L.length = n from HD7.out.ps.doc.len)
              clear HP1 HD5
              obtain ⟨e0, e1, e2, e3, e4, e5, e6, e7, e8, e9, e10, e11, e12, e13, e14, e15, e16⟩ := HD7.out.box.at_
              simp only [Nat.zero_add] at e1 e2 e3 e4 e5 e6 e7 e8 e9 e10 e11 e12 e13 e14 e15 e16
              by_cases hk : turnK L x.i 2 2 = 0
              · rw [hk] at HPD
                rw [hk]
                have HK := Lib.hid hk
                clear hk
                go_wp2_with fail
                refine HPD.out.mono ?_
                rintro e w8 ⟨rfl, hs8, hc8⟩
                have HD8 := Lib.hid (HD7.out.dc hs8 hc8 (ok_turn HD7.out.ps.ok2 x.i 3 2 2 (by omega) (by omega)) (sm_turn HD7.out.ps.sm2 x.i 3 2 2))
                clear hs8 hc8 HPD
                obtain ⟨j2, hj2, hjn2, h3, k3, y3, hy3, hfz, hput⟩ := doc_ans HD8.out.ps.doc HK.out HD8.out.ps.cm (HA.out.keep (below_agree HD8.out.ps.below fun b hb _ => hb)) HLN.out
                have HPUT := Lib.hid (HD8.out.dc hput (chg_stores m [.int .i64 x.a.code, .bool x.a.found, .slice q.A q.n q.c, .slice q.B q.m q.d, .int .u64 x.a.stamp] w8 (j2 * 14 + 9)) (ok_ans HD7.out.ps.ok2 x.i x.a) (sm_ans HD7.out.ps.sm2 x.i x.a))
                clear e0 e1 e2 e3 e4 e5 e6 e7 e8 e9 e10 e11 e12 e13 e14 e15 e16
                obtain ⟨e0, e1, e2, e3, e4, e5, e6, e7, e8, e9, e10, e11, e12, e13, e14, e15, e16⟩ := HD8.out.box.at_
                simp only [Nat.zero_add] at e1 e2 e3 e4 e5 e6 e7 e8 e9 e10 e11 e12 e13 e14 e15 e16
                rw [hj2] at e1
                obtain ⟨y0, y1, y2, y3', y4, y5, y6, y7, y8, y9, y10, y11, y12, y13⟩ := hy3
                have hgm : ¬ (g = m) := fun e => HD8.out.gm e.symm
                have hmg : ¬ (m = g) := HD8.out.gm
                have hn32 : n ≤ 32 := HD8.out.ps.n32
                clear hput y0 y1 y2 y3' y4 y5 y6 y7 y8
                go_wp2
                go_meet
                refine ⟨_, 0, rfl, rfl, by omega, by omega, HPUT.out⟩
              · have hkb : (turnK L x.i 2 2 == 0) = false := by simpa using hk
                have he : ansL L x.i x.a = turnL L x.i 3 2 2 := by unfold ansL turnL; rw [if_neg hk, if_neg hk]
                rw [he] at HD7
                have HKL := Lib.hid (turnK_le L x.i 2 2)
                generalize turnK L x.i 2 2 = kk at HPD hk hkb HKL ⊢
                clear hk he
                go_wp2_with fail
                refine HPD.out.mono ?_
                rintro e w8 ⟨rfl, hs8, hc8⟩
                have HD8 := Lib.hid (HD7.out.dc hs8 hc8 (ok_turn HD7.out.ps.ok2 x.i 3 2 2 (by omega) (by omega)) (sm_turn HD7.out.ps.sm2 x.i 3 2 2))
                clear e0 e1 e2 e3 e4 e5 e6 e7 e8 e9 e10 e11 e12 e13 e14 e15 e16
                clear hs8 hc8 HPD HD7
                go_wp2
                go_meet
                exact ⟨_, _, rfl, rfl, HKL.out.1, HKL.out.2, HD8.out⟩
          · as_aux_lemma =>
              have HP0 := redirect_any HD5.out.ps.slots HD5.out.ps.ok1 HD5.out.ps.cb x.i
              unfold TurnO at HP0
              have HPO := Lib.hid HP0
              clear HP0
              obtain ⟨e0, e1, e2, e3, e4, e5, e6, e7, e8, e9, e10, e11, e12, e13, e14, e15, e16⟩ := HD5.out.box.at_
              simp only [Nat.zero_add] at e1 e2 e3 e4 e5 e6 e7 e8 e9 e10 e11 e12 e13 e14 e15 e16
              go_wp2_with fail
              refine HPO.out.mono ?_
              rintro e w7 ⟨rfl, hs7, hc7⟩
              have HD7 := Lib.hid (HD5.out.prog hs7 hc7 (ok_turn HD5.out.ps.ok1 x.i 4 1 2 (by omega) (by omega)) (sm_turn HD5.out.ps.sm1 x.i 4 1 2))
              clear e0 e1 e2 e3 e4 e5 e6 e7 e8 e9 e10 e11 e12 e13 e14 e15 e16
              clear hs7 hc7 HPO
              have HP1 := dturn_any HD7.out.ps.doc HD7.out.ps.ok2 HD7.out.ps.cm HD7.out.ps.n32 x.i 4 1 2
              unfold DTurnO at HP1
              have HPD := Lib.hid HP1
              clear HP1 HD5
              obtain ⟨e0, e1, e2, e3, e4, e5, e6, e7, e8, e9, e10, e11, e12, e13, e14, e15, e16⟩ := HD7.out.box.at_
              simp only [Nat.zero_add] at e1 e2 e3 e4 e5 e6 e7 e8 e9 e10 e11 e12 e13 e14 e15 e16
              go_wp2_with fail
              refine HPD.out.mono ?_
              rintro e w8 ⟨rfl, hs8, hc8⟩
              have HD8 := Lib.hid (HD7.out.dc hs8 hc8 (ok_turn HD7.out.ps.ok2 x.i 4 1 2 (by omega) (by omega)) (sm_turn HD7.out.ps.sm2 x.i 4 1 2))
              clear e0 e1 e2 e3 e4 e5 e6 e7 e8 e9 e10 e11 e12 e13 e14 e15 e16
              clear hs8 hc8 HPD HD7
              go_wp2
              go_meet
              exact ⟨_, _, rfl, rfl, (turnK_le L x.i 1 2).1, (turnK_le L x.i 1 2).2, HD8.out⟩
          · as_aux_lemma =>
              have HP0 := take_lit HD5.out.ps.slots HD5.out.ps.ok1 HD5.out.ps.cb x.i x.cl x.sq
              have HPO := Lib.hid HP0
              clear HP0
              obtain ⟨e0, e1, e2, e3, e4, e5, e6, e7, e8, e9, e10, e11, e12, e13, e14, e15, e16⟩ := HD5.out.box.at_
              simp only [Nat.zero_add] at e1 e2 e3 e4 e5 e6 e7 e8 e9 e10 e11 e12 e13 e14 e15 e16
              go_wp2_with fail
              refine HPO.out.mono ?_
              rintro e w7 ⟨h7, rfl, ho7, hs7, hc7⟩
              have HD7 := Lib.hid (HD5.out.prog hs7 hc7 (ok_take HD5.out.ps.ok1 x.i x.cl x.sq) (sm_take HD5.out.ps.sm1 x.i x.cl x.sq))
              have HO7 := Lib.hid ho7
              have HX7 := Lib.hid (box_a w7 h7 (takeA L x.i x.cl x.sq))
              clear e0 e1 e2 e3 e4 e5 e6 e7 e8 e9 e10 e11 e12 e13 e14 e15 e16
              clear ho7 hs7 hc7 HPO
              go_upto_region 20 with fail
              obtain ⟨w8, hw8, hb8, hx8, hz8⟩ := HX7.out
              rw [← hw8]
              have HD8 := Lib.hid (HD7.out.more hb8)
              have HX8 := Lib.hid hx8
              have HO8 := Lib.hid (HO7.out.keep (below_all hb8))
              have HZ8 := Lib.hid (show b ≠ w7.heap.size ∧ m ≠ w7.heap.size from ⟨by have := HD7.out.ps.slots.2.2.2.lt; omega, by have := HD7.out.ps.doc.lt; omega⟩)
              generalize w7.heap.size = g7 at HX8 HZ8 ⊢
              clear hw8 hb8 hx8 hz8 HX7 HO7 HD7 HD5
              have HP1 := dtake_lit HD8.out.ps.doc HD8.out.ps.ok2 HD8.out.ps.cm HD8.out.ps.n32 x.i x.cl x.sq
              have HPD := Lib.hid HP1
              clear HP1
              obtain ⟨e0, e1, e2, e3, e4, e5, e6, e7, e8, e9, e10, e11, e12, e13, e14, e15, e16⟩ := HD8.out.box.at_
              simp only [Nat.zero_add] at e1 e2 e3 e4 e5 e6 e7 e8 e9 e10 e11 e12 e13 e14 e15 e16
              go_wp2_with fail
              refine HPD.out.mono ?_
              rintro e w9 ⟨h9, rfl, ho9, hs9, hc9⟩
              have HD9 := Lib.hid (HD8.out.dc hs9 hc9 (ok_take HD8.out.ps.ok2 x.i x.cl x.sq) (sm_take HD8.out.ps.sm2 x.i x.cl x.sq))
              have HX9 := Lib.hid (show BoxA w9 g7 h7 (takeA L x.i x.cl x.sq) from (hc9.block g7 HX8.out.lt (Ne.symm HZ8.out.2)).trans HX8.out)
              have HR9 := Lib.hid (show AnR w9 h7 (takeA L x.i x.cl x.sq) ∧ AnR w9 h9 (takeA L x.i x.cl x.sq) from ⟨(HO8.out.keep (hc9.agree (fun h => h.2.2.2 rfl))).here, ho9.here⟩)
              have HB9 := Lib.hid (box_a w9 h9 (takeA L x.i x.cl x.sq))
              clear e0 e1 e2 e3 e4 e5 e6 e7 e8 e9 e10 e11 e12 e13 e14 e15 e16
              clear ho9 hs9 hc9 HPD HX8 HO8 HZ8 HD8
              go_upto_region 21 with fail
              obtain ⟨w10, hw10, hb10, hx10, hz10⟩ := HB9.out
              rw [← hw10]
              have HD10 := Lib.hid (HD9.out.more hb10)
              have HXA := Lib.hid (HX9.out.below hb10 HX9.out.lt)
              have HXB := Lib.hid hx10
              have HSM := Lib.hid (samea_any (HR9.out.1.below hb10) (HR9.out.2.below hb10))
              generalize w9.heap.size = g9 at HXB ⊢
              have HTK := Lib.hid (takeK_le L x.i x.cl x.sq)
              clear hw10 hb10 hx10 hz10 HB9 HR9 HX9 HD9
              obtain ⟨p0, p1, p2, p3, p4⟩ := HXA.out.cells
              obtain ⟨q0, q1, q2, q3, q4⟩ := HXB.out.cells
              go_wp2_with fail
              refine HSM.out.mono ?_
              rintro e w11 ⟨rfl, hb11⟩
              have HD11 := Lib.hid (HD10.out.more hb11)
              clear p0 p1 p2 p3 p4 q0 q1 q2 q3 q4 hb11 HSM HXA HXB HD10
              go_wp2
              go_meet
              exact ⟨_, _, rfl, rfl, HTK.out.1, HTK.out.2, HD11.out⟩
        case rest =>
          obtain ⟨L', kk, rfl, rfl, h0, h11, hd⟩ := hcut
          have HE := Lib.hid hd
          clear hd HD5 hu0 HU HS1 HS2 HWH
          have hkk : (kk != kk) = false := by simp
          have hnn : ((n : Int) != (n : Int)) = false := by simp
          have HCD := Lib.hid (fun w9 => code_any kk w9 h0 h11)
          have HLE := Lib.hid (slen_any HE.out.ps.slots)
          go_wp2_with fail
          refine (HCD.out _).mono ?_
          rintro e w9 ⟨rfl, rfl⟩
          go_wp2_with fail
          refine HLE.out.mono ?_
          rintro e w9 ⟨rfl, rfl⟩
          clear HCD HLE h0 h11
          go_wp2
          go_loopw [23] (fun s wx => ∃ y : Int, s = .int .i64 y ∧ -1 ≤ y ∧ y ≤ (n : Int) + 1 ∧ RD w p b m n L' L' g h q x wx) (fun s _ => ((n : Int) + 1 - intOf s).toNat)
          case atStart => exact ⟨-1, rfl, by omega, by omega, HE.out⟩
          case round =>
            clear hkk hnn
            obtain ⟨y, rfl, hy1, hy2, hd⟩ := hrel
            have HDY0 := Lib.hid hd
            have hn32 : n ≤ 32 := hd.ps.n32
            have HLN := Lib.hid (show L'.length = n from hd.ps.doc.len)
            have HOK := Lib.hid hd.ps.ok1
            clear hd HE
            by_cases hyn : y ≤ (n : Int)
            · have HRQ := Lib.hid (sreq_lit HDY0.out.ps.slots HDY0.out.ps.ok1 HDY0.out.ps.sm1 y)
              go_wp2_with fail
              refine HRQ.out.mono ?_
              rintro e w9 ⟨h5, rfl, hr5, hb5⟩
              have HD9 := Lib.hid (HDY0.out.more hb5)
              have HR9 := Lib.hid hr5
              have HX9 := Lib.hid (box_q w9 h5 (reqR L' y))
              clear hr5 hb5 HRQ HDY0
              go_upto_region 50 with fail
              obtain ⟨W, hW, hWB, hWQ, hWs⟩ := HX9.out
              rw [← hW]
              have HDW := Lib.hid (HD9.out.more hWB)
              have HBQ := Lib.hid hWQ
              have HR5 := Lib.hid (HR9.out.below hWB)
              generalize w9.heap.size = rb at HBQ ⊢
              clear hW hWB hWQ hWs HX9 HR9 HD9
              by_cases hyo : y < 0 ∨ y = (n : Int)
              · have hst : stOf L' y = -1 := stOf_out (by rw [HLN.out]; omega)
                have hrk : reqK L' y = 6 := by unfold reqK; rw [if_pos hst]
                have HSTA := state_any HDW.out.ps.slots y
                rw [hst] at HSTA
                have HSTH := Lib.hid HSTA
                have HCD := Lib.hid (code_any 6 W (by omega) (by omega))
                rw [hrk]
                clear HSTA hst hrk HBQ HR5
                rcases hyo with hyo | hyo
                · go_wp2_with fail
                  refine HSTH.out.mono ?_
                  rintro e w10 ⟨rfl, rfl⟩
                  go_wp2_with fail
                  refine HCD.out.mono ?_
                  rintro e w10 ⟨rfl, rfl⟩
                  go_wp2
                  go_roundw
                  case rel => exact ⟨y + 1, by go_num, by omega, by omega, HDW.out⟩
                  case measure => simp [intOf]; omega
                · subst hyo
                  have hneg : ¬ ((n : Int) < 0) := by omega
                  go_wp2_with fail
                  refine HSTH.out.mono ?_
                  rintro e w10 ⟨rfl, rfl⟩
                  go_wp2_with fail
                  refine HCD.out.mono ?_
                  rintro e w10 ⟨rfl, rfl⟩
                  go_wp2
                  go_roundw
                  case rel => exact ⟨(n : Int) + 1, by go_num, by omega, by omega, HDW.out⟩
                  case measure => simp [intOf]
              · obtain ⟨t, rfl⟩ : ∃ t : Nat, y = t := ⟨y.toNat, by omega⟩
                have htn : t < n := by omega
                have hneg : ¬ ((t : Int) < 0) := by omega
                have hnn2 : ((t : Int) == (n : Int)) = false := by simp; omega
                have hst : stOf L' t = (sl L' t).st := stOf_in (by rw [HLN.out]; exact htn)
                have hok := HOK.out t
                obtain ⟨hrr, hrk⟩ := req_in HOK.out (show t < L'.length by rw [HLN.out]; exact htn)
                obtain ⟨h6, k6, hx6, hr6, -⟩ := HDW.out.ps.doc.at_ htn
                rw [hrr] at HBQ HR5
                rw [hrk]
                obtain ⟨st, hst2⟩ : ∃ st, st = (sl L' t).st := ⟨_, rfl⟩
                rw [← hst2] at hok ⊢
                have HST := Lib.hid hst2
                generalize hrg : (sl L' t).r = r at HBQ HR5 hx6 hr6
                obtain ⟨x0, d0, d1, d2, d3, d4, d5, d6, d7, -⟩ := hx6
                rw [← hst2] at x0
                rw [hrg] at d0 d1 d2 d7
                have HR6 := Lib.hid hr6.here
                obtain ⟨r0, r1, r2, r3, r4, r5, r6, r7⟩ := HBQ.out.cells
                have h04 : 0 ≤ st ∧ st ≤ 4 := ⟨hok.1, hok.2.1⟩
                clear hst hok hrr hrk hst2 hr6 hrg HOK hyo hy1 hy2 hyn
                by_cases hz : st = 0
                · rw [if_pos hz]
                  rw [show errV 3 = .iface 29 (.int .i64 3) from rfl]
                  subst hz
                  clear h04
                  as_aux_lemma =>
                    have HASK := Lib.hid (asked_any (w := W.drew) (show RqR W.drew h5 r from HR5.out) (show RqR W.drew h6 r from HR6.out))
                    have HSTA := Lib.hid (state_any (w := W.drew) (HDW.out.ps.slots.below (Below.refl _ _).drew) (t : Int))
                    rw [stOf_in (show t < L'.length by rw [HLN.out]; exact htn), ← HST.out] at HSTA
                    have hml := HDW.out.ps.doc.lt
                    have hrl := HBQ.out.lt
                    have KK := Lib.hid (And.intro x0 (And.intro r0 (And.intro r1 (And.intro r2 (And.intro r3 (And.intro r4 (And.intro r5 (And.intro r6 (And.intro r7 (And.intro d0 (And.intro d1 (And.intro d2 (And.intro d3 (And.intro d4 (And.intro d5 (And.intro d6 d7))))))))))))))))
                    have hss : ((0 : Int) != 0) = false := by simp
                    have bt : (0 : Int) ≤ (t : Int) := by omega
                    have bt2 : (t : Int) < (n : Int) := by omega
                    go_upto_region 53 with fail
                    go_region_held3 (fun w' => w'.cell? ⟨m, t * 14, none⟩ = some (.int .i64 0) ∧ w'.cell? ⟨rb, 0, none⟩ = some (.int .i64 r.cl) ∧ w'.cell? ⟨rb, 1, none⟩ = some (.int .i64 r.sq) ∧ w'.cell? ⟨rb, 2, none⟩ = some (.int .i64 r.kind) ∧ w'.cell? ⟨rb, 3, none⟩ = some (.slice h5.A h5.n h5.c) ∧ w'.cell? ⟨rb, 4, none⟩ = some (.slice h5.B h5.m h5.d) ∧ w'.cell? ⟨rb, 5, none⟩ = some (.slice h5.C h5.o h5.p) ∧ w'.cell? ⟨rb, 6, none⟩ = some (.slice h5.D h5.q h5.s) ∧ w'.cell? ⟨rb, 7, none⟩ = some (.int .i64 r.limit) ∧ w'.cell? ⟨m, t * 14 + 1, none⟩ = some (.int .i64 r.cl) ∧ w'.cell? ⟨m, t * 14 + 2, none⟩ = some (.int .i64 r.sq) ∧ w'.cell? ⟨m, t * 14 + 3, none⟩ = some (.int .i64 r.kind) ∧ w'.cell? ⟨m, t * 14 + 4, none⟩ = some (.slice h6.A h6.n h6.c) ∧ w'.cell? ⟨m, t * 14 + 5, none⟩ = some (.slice h6.B h6.m h6.d) ∧ w'.cell? ⟨m, t * 14 + 6, none⟩ = some (.slice h6.C h6.o h6.p) ∧ w'.cell? ⟨m, t * 14 + 7, none⟩ = some (.slice h6.D h6.q h6.s) ∧ w'.cell? ⟨m, t * 14 + 8, none⟩ = some (.int .i64 r.limit)) (go_keep)
                      (first
                        | (go_at_call 22
                           (with_reducible refine HSTA.out.mono ?_)
                           rintro e w' ⟨rfl, rfl⟩)
                        | (go_at_call 23
                           (with_reducible refine HASK.out.mono ?_)
                           rintro e wy ⟨rfl, hby⟩
                           have hby : Below W.heap.size W wy := undrew hby
                           have HDY := Lib.hid (HDW.out.more hby)
                           have x0 := (hby.cell (p := ⟨m, t * 14, none⟩) hml).trans KK.out.1
                           have r0 := (hby.cell (p := ⟨rb, 0, none⟩) hrl).trans KK.out.2.1
                           have r1 := (hby.cell (p := ⟨rb, 1, none⟩) hrl).trans KK.out.2.2.1
                           have r2 := (hby.cell (p := ⟨rb, 2, none⟩) hrl).trans KK.out.2.2.2.1
                           have r3 := (hby.cell (p := ⟨rb, 3, none⟩) hrl).trans KK.out.2.2.2.2.1
                           have r4 := (hby.cell (p := ⟨rb, 4, none⟩) hrl).trans KK.out.2.2.2.2.2.1
                           have r5 := (hby.cell (p := ⟨rb, 5, none⟩) hrl).trans KK.out.2.2.2.2.2.2.1
                           have r6 := (hby.cell (p := ⟨rb, 6, none⟩) hrl).trans KK.out.2.2.2.2.2.2.2.1
                           have r7 := (hby.cell (p := ⟨rb, 7, none⟩) hrl).trans KK.out.2.2.2.2.2.2.2.2.1
                           have d0 := (hby.cell (p := ⟨m, t * 14 + 1, none⟩) hml).trans KK.out.2.2.2.2.2.2.2.2.2.1
                           have d1 := (hby.cell (p := ⟨m, t * 14 + 2, none⟩) hml).trans KK.out.2.2.2.2.2.2.2.2.2.2.1
                           have d2 := (hby.cell (p := ⟨m, t * 14 + 3, none⟩) hml).trans KK.out.2.2.2.2.2.2.2.2.2.2.2.1
                           have d3 := (hby.cell (p := ⟨m, t * 14 + 4, none⟩) hml).trans KK.out.2.2.2.2.2.2.2.2.2.2.2.2.1
                           have d4 := (hby.cell (p := ⟨m, t * 14 + 5, none⟩) hml).trans KK.out.2.2.2.2.2.2.2.2.2.2.2.2.2.1
                           have d5 := (hby.cell (p := ⟨m, t * 14 + 6, none⟩) hml).trans KK.out.2.2.2.2.2.2.2.2.2.2.2.2.2.2.1
                           have d6 := (hby.cell (p := ⟨m, t * 14 + 7, none⟩) hml).trans KK.out.2.2.2.2.2.2.2.2.2.2.2.2.2.2.2.1
                           have d7 := (hby.cell (p := ⟨m, t * 14 + 8, none⟩) hml).trans KK.out.2.2.2.2.2.2.2.2.2.2.2.2.2.2.2.2
                           clear hby))
                    all_goals
                      clear x0 r0 r1 r2 r3 r4 r5 r6 r7 d0 d1 d2 d3 d4 d5 d6 d7 KK HASK HSTA HBQ HR5 HR6 HST HDW
                      go_wp2
                      go_roundw
                      case rel => exact ⟨(t : Int) + 1, by go_num, by omega, by omega, HDY.out⟩
                      case measure => simp [intOf]; omega
                · rw [if_neg hz, errV_zero]
                  have hgt : decide (st > 0) = true := by simp; omega
                  have hgt2 : decide (0 < st) = true := by simp; omega
                  clear h04 hz
                  as_aux_lemma =>
                    have HASK := Lib.hid (asked_any (w := W.drew) (show RqR W.drew h5 r from HR5.out) (show RqR W.drew h6 r from HR6.out))
                    have HSTA := Lib.hid (state_any (w := W.drew) (HDW.out.ps.slots.below (Below.refl _ _).drew) (t : Int))
                    rw [stOf_in (show t < L'.length by rw [HLN.out]; exact htn), ← HST.out] at HSTA
                    have hml := HDW.out.ps.doc.lt
                    have hrl := HBQ.out.lt
                    have KK := Lib.hid (And.intro x0 (And.intro r0 (And.intro r1 (And.intro r2 (And.intro r3 (And.intro r4 (And.intro r5 (And.intro r6 (And.intro r7 (And.intro d0 (And.intro d1 (And.intro d2 (And.intro d3 (And.intro d4 (And.intro d5 (And.intro d6 d7))))))))))))))))
                    have hss : ((st : Int) != st) = false := by simp
                    have bt : (0 : Int) ≤ (t : Int) := by omega
                    have bt2 : (t : Int) < (n : Int) := by omega
                    go_upto_region 53 with fail
                    go_region_held3 (fun w' => w'.cell? ⟨m, t * 14, none⟩ = some (.int .i64 st) ∧ w'.cell? ⟨rb, 0, none⟩ = some (.int .i64 r.cl) ∧ w'.cell? ⟨rb, 1, none⟩ = some (.int .i64 r.sq) ∧ w'.cell? ⟨rb, 2, none⟩ = some (.int .i64 r.kind) ∧ w'.cell? ⟨rb, 3, none⟩ = some (.slice h5.A h5.n h5.c) ∧ w'.cell? ⟨rb, 4, none⟩ = some (.slice h5.B h5.m h5.d) ∧ w'.cell? ⟨rb, 5, none⟩ = some (.slice h5.C h5.o h5.p) ∧ w'.cell? ⟨rb, 6, none⟩ = some (.slice h5.D h5.q h5.s) ∧ w'.cell? ⟨rb, 7, none⟩ = some (.int .i64 r.limit) ∧ w'.cell? ⟨m, t * 14 + 1, none⟩ = some (.int .i64 r.cl) ∧ w'.cell? ⟨m, t * 14 + 2, none⟩ = some (.int .i64 r.sq) ∧ w'.cell? ⟨m, t * 14 + 3, none⟩ = some (.int .i64 r.kind) ∧ w'.cell? ⟨m, t * 14 + 4, none⟩ = some (.slice h6.A h6.n h6.c) ∧ w'.cell? ⟨m, t * 14 + 5, none⟩ = some (.slice h6.B h6.m h6.d) ∧ w'.cell? ⟨m, t * 14 + 6, none⟩ = some (.slice h6.C h6.o h6.p) ∧ w'.cell? ⟨m, t * 14 + 7, none⟩ = some (.slice h6.D h6.q h6.s) ∧ w'.cell? ⟨m, t * 14 + 8, none⟩ = some (.int .i64 r.limit)) (go_keep)
                      (first
                        | (go_at_call 22
                           (with_reducible refine HSTA.out.mono ?_)
                           rintro e w' ⟨rfl, rfl⟩)
                        | (go_at_call 23
                           (with_reducible refine HASK.out.mono ?_)
                           rintro e wy ⟨rfl, hby⟩
                           have hby : Below W.heap.size W wy := undrew hby
                           have HDY := Lib.hid (HDW.out.more hby)
                           have x0 := (hby.cell (p := ⟨m, t * 14, none⟩) hml).trans KK.out.1
                           have r0 := (hby.cell (p := ⟨rb, 0, none⟩) hrl).trans KK.out.2.1
                           have r1 := (hby.cell (p := ⟨rb, 1, none⟩) hrl).trans KK.out.2.2.1
                           have r2 := (hby.cell (p := ⟨rb, 2, none⟩) hrl).trans KK.out.2.2.2.1
                           have r3 := (hby.cell (p := ⟨rb, 3, none⟩) hrl).trans KK.out.2.2.2.2.1
                           have r4 := (hby.cell (p := ⟨rb, 4, none⟩) hrl).trans KK.out.2.2.2.2.2.1
                           have r5 := (hby.cell (p := ⟨rb, 5, none⟩) hrl).trans KK.out.2.2.2.2.2.2.1
                           have r6 := (hby.cell (p := ⟨rb, 6, none⟩) hrl).trans KK.out.2.2.2.2.2.2.2.1
                           have r7 := (hby.cell (p := ⟨rb, 7, none⟩) hrl).trans KK.out.2.2.2.2.2.2.2.2.1
                           have d0 := (hby.cell (p := ⟨m, t * 14 + 1, none⟩) hml).trans KK.out.2.2.2.2.2.2.2.2.2.1
                           have d1 := (hby.cell (p := ⟨m, t * 14 + 2, none⟩) hml).trans KK.out.2.2.2.2.2.2.2.2.2.2.1
                           have d2 := (hby.cell (p := ⟨m, t * 14 + 3, none⟩) hml).trans KK.out.2.2.2.2.2.2.2.2.2.2.2.1
                           have d3 := (hby.cell (p := ⟨m, t * 14 + 4, none⟩) hml).trans KK.out.2.2.2.2.2.2.2.2.2.2.2.2.1
                           have d4 := (hby.cell (p := ⟨m, t * 14 + 5, none⟩) hml).trans KK.out.2.2.2.2.2.2.2.2.2.2.2.2.2.1
                           have d5 := (hby.cell (p := ⟨m, t * 14 + 6, none⟩) hml).trans KK.out.2.2.2.2.2.2.2.2.2.2.2.2.2.2.1
                           have d6 := (hby.cell (p := ⟨m, t * 14 + 7, none⟩) hml).trans KK.out.2.2.2.2.2.2.2.2.2.2.2.2.2.2.2.1
                           have d7 := (hby.cell (p := ⟨m, t * 14 + 8, none⟩) hml).trans KK.out.2.2.2.2.2.2.2.2.2.2.2.2.2.2.2.2
                           clear hby))
                    all_goals
                      clear x0 r0 r1 r2 r3 r4 r5 r6 r7 d0 d1 d2 d3 d4 d5 d6 d7 KK HASK HSTA HBQ HR5 HR6 HST HDW
                      go_wp2
                      go_roundw
                      case rel => exact ⟨(t : Int) + 1, by go_num, by omega, by omega, HDY.out⟩
                      case measure => simp [intOf]; omega
            · have HE3 := Lib.hid HDY0.out
              clear HDY0 HOK hy1 hy2
              go_wp2
              go_loopw [26] (fun s wx => ∃ y : Int, s = .int .i64 y ∧ -1 ≤ y ∧ y ≤ 6 ∧ RD w p b m n L' L' g h q x wx) (fun s _ => (6 - intOf s).toNat)
              case atStart => exact ⟨-1, rfl, by omega, by omega, HE3.out⟩
              case round =>
                obtain ⟨y3, rfl, hy3, hy4, hd⟩ := hrel
                have HDZ := Lib.hid hd
                clear hd HE3
                by_cases hy5 : y3 ≤ 5
                · have hff : ∃ ff, ff = firstS L' y3 := ⟨_, rfl⟩
                  obtain ⟨ff, hff⟩ := hff
                  have HF1 := sfirst_any y3 HDZ.out.ps.slots
                  rw [← hff] at HF1
                  have HF1H := Lib.hid HF1
                  have HFF := Lib.hid hff
                  have hffb : (ff != ff) = false := by simp
                  clear HF1 hff
                  go_wp2_with fail
                  refine HF1H.out.mono ?_
                  rintro e w9 ⟨rfl, hb9⟩
                  have HDA := Lib.hid (HDZ.out.more hb9)
                  have HF2 := dfirst_any y3 HDA.out.ps.doc hn32
                  rw [← HFF.out] at HF2
                  have HF2H := Lib.hid HF2
                  clear HF2 hb9 HF1H HDZ
                  go_wp2_with fail
                  refine HF2H.out.mono ?_
                  rintro e w10 ⟨rfl, rfl⟩
                  clear HF2H HFF
                  go_wp2
                  go_roundw
                  case rel => exact ⟨y3 + 1, by go_num, by omega, by omega, HDA.out⟩
                  case measure => simp [intOf]; omega
                · have HPE := Lib.hid HDZ.out.ps
                  clear HDZ hy3 hy4
                  go_wp2
                  go_roundw
                  case rel => exact ⟨j + 1, by omega, by go_num, _, HPE.out⟩
                  case measure => simp [intOf]; omega
    · obtain rfl : j = k := by omega
      go_wp2
      go_ret
      exact ⟨rfl, HP.out.below⟩

theorem slot_plays_any {w : World} {A : Option Addr} {k : Nat} (c : Nat) {M : List De} (h : Deeds w A k M) (n : Int) :
    Calls Try.prog 3 #[.int .i64 n, .slice A k c] w fun e w' => e = .returned (.bool true) ∧ Below w.heap.size w w' := by
  by_cases hn : n < 1 ∨ 32 < n
  · exact plays_out w hn _
  · obtain ⟨t, rfl⟩ : ∃ t : Nat, n = t := ⟨n.toNat, by omega⟩
    by_cases hk : k ≤ 150
    · exact plays_main c h (by omega) (by omega) hk
    · exact plays_long w A c (by omega) (by omega) (by omega)
end Go.Proofs.Ytojofhmhmcchnaa
