/- The contract of package cursor's Range: the pairs that a cursor tells, at most as many as asked. Condition: a sound tree; what came in can be read. The contract of package cursor's Middle; the law's head (the document's example): it returns true; nothing that was there is changed. Condition: a sound tree. What is read beside a cursor lies in no block of the cursor's own; what CursorTells asks, as plain lists. Condition: a row. The walk of CursorTells. Condition: what came in can be read. CursorTells, whatever came in. Condition: what came in can be read. -/
import Derived.Test.YtfckiglemmfjfaaG9
import Derived.Lib.SlBytesConst
import Derived.Lib.SmallJoins
namespace Go.Proofs.Ytfckiglemmfjfaa
open Go.RowKit
set_option linter.unusedVariables false
set_option maxRecDepth 100000

theorem pair_on {C : Nat → Prop} {w : World} {C1 D1 : Option Addr} {o p : Nat} (q r : Nat) {x : Pr} (h : On C w (Byt · C1 o x.1)) (h' : On C w (Byt · D1 p x.2)) (T : TypeId) :
    On (fun b => (C b ∧ b < w.heap.size) ∨ b = w.heap.size) (w.alloc (.cells #[.slice C1 o q, .slice D1 p r] T)) (Prs · (some ⟨w.heap.size, 0, none⟩) 1 1 [x]) := fun V ha => by
  have h1 := (h.now).keep (agree_alloc w (.cells #[.slice C1 o q, .slice D1 p r] T))
  have h2 := (h'.now).keep (agree_alloc w (.cells #[.slice C1 o q, .slice D1 p r] T))
  have hsz : w.heap.size < V.heap.size := by have := ha.1; simp at this; omega
  have hblk := ha.2 w.heap.size (.inr rfl) (by simp)
  have e0 : V.cell? ⟨w.heap.size, 0, none⟩ = some (.slice C1 o q) := (World.cell?_of_block (a := ⟨w.heap.size, 0, none⟩) hblk).trans (box_0 _ _ _ _)
  have e1 : V.cell? ⟨w.heap.size, 1, none⟩ = some (.slice D1 p r) := (World.cell?_of_block (a := ⟨w.heap.size, 1, none⟩) hblk).trans (box_1 _ _ _ _)
  refine ⟨rfl, Nat.le_refl _, by unfold maxLen; omega, (fun e => by cases e), fun _ => ⟨w.heap.size, 0, rfl, hsz, fun j hj => ?_⟩⟩
  obtain rfl : j = 0 := by omega
  exact ⟨C1, o, q, D1, p, r, e0, e1, h1 V (ha.mono fun b hb => .inl hb), h2 V (ha.mono fun b hb => .inl hb)⟩

/-- A list of pairs of one's own, that grows; nothing of it lies in block cb. -/
def GrowsC (cb : Nat) (w : World) (N : Nat) (v : Value) (n : Nat) (P : List Pr) : Prop :=
  (∃ xs, w.ownsRow N 38 2 v n xs ∧ ReadsC (fun _ b => (∀ k, v.ownBlock = some k → b ≠ k) ∧ b ≠ cb) w xs P) ∧ ∀ k, v.ownBlock = some k → k ≠ cb
theorem GrowsC.len {cb : Nat} {w : World} {N : Nat} {v : Value} {n : Nat} {P : List Pr} (h : GrowsC cb w N v n P) : P.length = n := by
  obtain ⟨⟨xs, h1, h2⟩, h3⟩ := h
  have := h1.1
  have := h2.1
  omega
theorem GrowsC.prs {cb : Nat} {w : World} {N : Nat} {v : Value} {n : Nat} {P : List Pr} (h : GrowsC cb w N v n P) : ∃ A c, v = .slice A n c ∧ Prs w A n c P := by
  obtain ⟨⟨xs, h1, h2⟩, h3⟩ := h
  obtain ⟨A, c, e, hp, _⟩ := own_prs h1 (L := P) ⟨h2.1, fun j hj => by
    obtain ⟨A, n, c, B, m, d, e1, e2, e3, e4⟩ := h2.2 j hj
    exact ⟨A, n, c, B, m, d, e1, e2, e3.here, e4.here⟩⟩
  exact ⟨A, c, e, hp⟩
theorem GrowsC.keep {cb : Nat} {w w' : World} {N : Nat} {v : Value} {n : Nat} {P : List Pr} (h : GrowsC cb w N v n P) (ha : Agree (· ≠ cb) w w') : GrowsC cb w' N v n P := by
  obtain ⟨⟨xs, h1, h2⟩, h3⟩ := h
  exact ⟨⟨xs, own_agree h1 ha h3, h2.keep fun _ => ha.mono fun b hb => hb.2⟩, h3⟩
theorem growsC_nil (cb : Nat) (w : World) (N : Nat) : GrowsC cb w N (.slice none 0 0) 0 [] := ⟨⟨[], World.ownsRow_nil _ _ _ _, rfl, fun j hj => by cases hj⟩, fun k hk => by cases hk⟩
/-- .. after an append. -/
theorem GrowsC.more {cb : Nat} {w0 w w' : World} {N n m : Nat} {v v' : Value} {P M : List Pr} {xs ys : List Value} {C : Nat → Prop} (hr : ReadsC (fun _ b => (∀ k, v.ownBlock = some k → b ≠ k) ∧ b ≠ cb) w0 xs P) (hne : ∀ k, v.ownBlock = some k → k ≠ cb) (hcb : cb < w.heap.size) (hb : Below w0.heap.size w0 w) (hC : ∀ b, C b → (∀ k, v.ownBlock = some k → b ≠ k) ∧ b ≠ cb)
    (hy : ReadsC (fun _ => C) w0 ys M) (h1 : w'.ownsRow N 38 2 v' (n + m) (xs ++ ys)) (hg : w.grownBy w' v.ownBlock) (hat : v'.ownBlock = v.ownBlock ∨ v'.ownBlock = some w.heap.size) : GrowsC cb w' N v' (n + m) (P ++ M) := by
  have hsz := hb.size
  have key : ∀ (xs : List Value) (L : List Pr), ReadsC (fun _ b => (∀ k, v.ownBlock = some k → b ≠ k) ∧ b ≠ cb) w0 xs L → ReadsC (fun _ b => (∀ k, v'.ownBlock = some k → b ≠ k) ∧ b ≠ cb) w' xs L := fun xs L h => by
    have h2 := (h.now.keep fun t => below_all hb).keep fun t => agree_grown hg (C := fun b => ((∀ k, v.ownBlock = some k → b ≠ k) ∧ b ≠ cb) ∧ b < w0.heap.size) fun k hk hc => hc.1.1 k hk rfl
    refine h2.mono fun t ht b hb => ⟨fun k hk => ?_, hb.1.2⟩
    rcases hat with e | e
    · exact hb.1.1 k (by rw [← e]; exact hk)
    · rw [e] at hk
      injection hk with hk
      have := hb.2
      omega
  refine ⟨⟨_, h1, (key _ _ hr).append (key _ _ (hy.mono fun t ht b hb => hC b hb))⟩, fun k hk => ?_⟩
  rcases hat with e | e
  · exact hne k (by rw [← e]; exact hk)
  · rw [e] at hk
    injection hk with hk
    omega

def lenOf : Value → Nat
  | .slice _ n _ => n
  | _ => 0
/-- Where Range's loop has come to. -/
def RangeI (w : World) (cb : Nat) (R : List Pr) (ke : Ky) (lm : Int) (v : Value) (wr : World) : Prop :=
  ∃ j, GrowsC cb wr w.heap.size v j (R.take j) ∧ CurS wr (fun b => v.ownBlock = some b) cb (R.drop j) ke ∧ j ≤ R.length ∧ (∀ i, i < j → inB [] ke (gt R i).1 = true) ∧ (j = 0 ∨ (j : Int) ≤ lm) ∧ Below w.heap.size w wr
/-- What Range leaves. -/
def RangeO (w : World) (R : List Pr) (ke : Ky) (lm : Int) (e : Ending) (w' : World) : Prop :=
  ∃ A j c, e = .returned (.tuple #[.slice A j c, .nilIface]) ∧ Prs w' A j c (R.take j) ∧ j ≤ R.length ∧ (∀ i, i < j → inB [] ke (gt R i).1 = true) ∧ (lm ≤ j ∨ overB (R.drop j) ke = true) ∧ (j = 0 ∨ (j : Int) ≤ lm) ∧ Below w.heap.size w w'

theorem drop_head {R R' : List Pr} {j : Nat} {p : Pr} (h : R.drop j = p :: R') : j < R.length ∧ gt R j = p ∧ R.drop (j + 1) = R' ∧ R.take (j + 1) = R.take j ++ [p] := by
  have hl : j < R.length := by
    rcases Nat.lt_or_ge j R.length with h1 | h1
    · exact h1
    · rw [List.drop_eq_nil_of_le h1] at h
      cases h
  have hd := List.drop_eq_getElem_cons hl
  rw [h] at hd
  injection hd with h1 h2
  refine ⟨hl, by rw [gt_eq hl, h1], h2.symm, ?_⟩
  rw [List.take_succ_eq_append_getElem hl, h1]

set_option maxHeartbeats 2000000 in
theorem range_nil (w : World) {C V : Option Addr} {o p : Nat} (q r : Nat) (lm : Int) : Calls Try.prog 11 #[.pointer none, .agg #[.slice C o q, .slice V p r], .int .i64 lm] w fun e w' => e = .returned (.tuple #[.slice none 0 0, errV 1]) ∧ Below w.heap.size w w' := by
  obtain ⟨W, hW, hWB⟩ : ∃ W, W = w.alloc (.cells #[.slice C o q, .slice V p r] 25) ∧ Below w.heap.size w W := ⟨_, rfl, (Below.refl _ _).alloc (Nat.le_refl _) _⟩
  have HO := open_nil W (C := C) (V := V) (o := o) (p := p) q r
  rw [errV_some (k := 1) (by decide)] at HO
  have HWB := Lib.hid hWB
  have hWe := Lib.hid hW
  clear hWB hW
  go_enter Try.func11, Try.ntmps11
  go_wp2_with fail
  rw [← hWe.out]
  refine HO.mono ?_
  rintro e w1 ⟨rfl, hb1⟩
  have HB1 := Lib.hid (HWB.out.trans (hb1.mono HWB.out.size))
  clear hb1 HO
  go_wp2
  exact bodyPost_ret (v := .tuple #[.slice none 0 0, errV 1]) (by simp [results, Try.results11, go_sem, errV]) rfl ⟨rfl, HB1.out⟩

set_option maxHeartbeats 8000000 in
theorem range_yes {w : World} {D : Nat → Prop} {tb m : Nat} {P : List Pr} (h : Tre w D tb m P) {C V : Option Addr} {o p : Nat} (q r : Nat) (lm : Int) {l k : Ky} (hl : Byt w C o l) (hk : Byt w V p k) (ho : o ≤ maxLen) (hp : p ≤ maxLen) (hs : soundB l k = true) :
    Calls Try.prog 11 #[.pointer (some ⟨tb, 0, none⟩), .agg #[.slice C o q, .slice V p r], .int .i64 lm] w (RangeO w (P.drop (pos P l)) k lm) := by
  obtain ⟨W, hW, hWB, hW0, hW1, hWs⟩ : ∃ W, W = w.alloc (.cells #[.slice C o q, .slice V p r] 25) ∧ Below w.heap.size w W ∧ W.cell? ⟨w.heap.size, 0, none⟩ = some (.slice C o q) ∧ W.cell? ⟨w.heap.size, 1, none⟩ = some (.slice V p r) ∧ W.heap.size = w.heap.size + 1 :=
    ⟨_, rfl, (Below.refl _ _).alloc (Nat.le_refl _) _, box_0 _ _ _ _, box_1 _ _ _ _, by simp⟩
  have HOP := open_yes (h.below hWB) q r (hl.below hWB) (hk.below hWB) ho hp hs
  have hPl : P.length ≤ 1000 := by
    obtain ⟨g, L, F, root, d, t, hT, hG, rfl, hP⟩ := h
    exact hP
  have hRl : (P.drop (pos P l)).length ≤ 1000 := by rw [List.length_drop]; omega
  obtain ⟨R, hR⟩ : ∃ R, R = P.drop (pos P l) := ⟨_, rfl⟩
  rw [← hR] at hRl ⊢
  have HRE := Lib.hid hR
  have HWB := Lib.hid hWB
  have HC := Lib.hid (And.intro hW0 hW1)
  have hWe := Lib.hid hW
  clear h hl hk hs hWB hW0 hW1 hW hPl ho hp hR
  go_enter Try.func11, Try.ntmps11
  go_wp2_with fail
  rw [← hWe.out]
  refine HOP.mono ?_
  rintro e w1 ⟨cb, rfl, hcb, hcs, hb1⟩
  rw [← HRE.out] at hcs
  have HCS := Lib.hid hcs
  have HB1 := Lib.hid (HWB.out.trans (hb1.mono HWB.out.size))
  clear hcs hb1 HOP hWe
  go_wp2
  go_loopw [10] (fun v wr => RangeI w cb R k lm v wr) (fun v _ => R.length + 1 - lenOf v)
  case atStart => exact ⟨0, growsC_nil _ _ _, HCS.out.mono (X' := fun b => (Value.slice none 0 0).ownBlock = some b) (fun b hb => by cases hb), Nat.zero_le _, fun i hi => absurd hi (by omega), .inl rfl, HB1.out⟩
  case round =>
    obtain ⟨j, hg, hcs, hj, hin, hlm, hb⟩ := hrel
    have HG := Lib.hid hg
    have HS := Lib.hid hcs
    have HIN := Lib.hid hin
    have HLM := Lib.hid hlm
    have HB := Lib.hid hb
    clear hg hcs
    obtain ⟨A, c, rfl, hpr⟩ := HG.out.prs
    have hg := HG.out
    have hcs := HS.out
    have hlen := hg.len
    obtain ⟨⟨xs, how, hrd⟩, hne⟩ := hg
    have HOW := Lib.hid (And.intro how (And.intro hrd hne))
    have HN := next_any hcs (fun b hb => (how.lt b hb).2) (fun e => hne cb e rfl)
    have hcl := hcs.lt
    clear hcs hin hlm hb how hrd hne hpr
    by_cases hlt : (j : Int) < lm
    · go_wp2_with fail
      refine HN.mono ?_
      rintro e w3 ⟨ho3, ⟨hov, rfl, hcs3⟩ | ⟨hov, pp, R', A1, n1, c1, B1, m1, d1, hR', rfl, y1, y2, hcs3⟩⟩
      · have HOV := Lib.hid hov
        have HO3 := Lib.hid ho3
        clear hov ho3 hcs3 HN
        go_wp2
        obtain ⟨A', c', e', hpr⟩ := (HG.out.keep (HO3.out.agree fun b hb e => hb e)).prs
        injection e' with e1 e2 e3
        subst e1
        subst e3
        have hbz := HB.out.trans (HO3.out.below (fun b hb => by rw [hb]; have := HWB.out.size; omega) HB.out.size)
        refine bodyPost_ret (v := .tuple #[.slice A j c, .nilIface]) (by simp [results, Try.results11, go_sem]) rfl ⟨A, j, c, rfl, hpr.alloc _, hj, HIN.out, .inr HOV.out, HLM.out, hbz.alloc hbz.size _⟩
      · have HO3 := Lib.hid ho3
        have HCS3 := Lib.hid hcs3
        have HY := Lib.hid (And.intro y1 y2)
        have HR := Lib.hid (And.intro hov hR')
        clear hov ho3 hcs3 HN y1 y2 hR'
        go_upto_region 8 with fail
        obtain ⟨W4, hW4, hB4, hs4, h40, h41⟩ : ∃ W4, W4 = w3.alloc (.cells #[.slice A1 n1 c1, .slice B1 m1 d1] 38) ∧ Below w3.heap.size w3 W4 ∧ W4.heap.size = w3.heap.size + 1 ∧ W4.cell? ⟨w3.heap.size, 0, none⟩ = some (.slice A1 n1 c1) ∧ W4.cell? ⟨w3.heap.size, 1, none⟩ = some (.slice B1 m1 d1) :=
          ⟨_, rfl, (Below.refl _ _).alloc (Nat.le_refl _) _, by simp, box_0 _ _ _ _, box_1 _ _ _ _⟩
        rw [← hW4]
        obtain ⟨W5, hW5, hB5, hs5⟩ : ∃ W5, W5 = W4.alloc (.cells #[.slice A1 n1 c1, .slice B1 m1 d1] 38) ∧ Below W4.heap.size W4 W5 ∧ W5.heap.size = W4.heap.size + 1 := ⟨_, rfl, (Below.refl _ _).alloc (Nat.le_refl _) _, by simp⟩
        obtain ⟨v, hv⟩ : ∃ v, v = Value.slice A j c := ⟨_, rfl⟩
        have hb35 : Below w3.heap.size w3 W5 := hB4.trans (hB5.mono hB4.size)
        have how3 := own_agree HOW.out.1 (HO3.out.agree (E := (· ≠ cb)) fun b hb e => hb e) HOW.out.2.2
        have HW5o := Lib.hid (own_keep how3 hb35)
        have HRD5 := Lib.hid ((HOW.out.2.1.keep (fun _ => HO3.out.agree (fun b hb e => hb.2 e))).keep (fun _ => below_all hb35))
        have HON := Lib.hid (hW5 ▸ pair_on (T := 38) c1 d1 (x := pp) (HY.out.1.keep (below_all hB4)) (HY.out.2.keep (below_all hB4)))
        have HLT := Lib.hid (how3.lt)
        have hc3 : cb < w3.heap.size := HCS3.out.lt
        have HS5 := Lib.hid (HCS3.out.more.below hb35)
        have hbz := HB.out.trans (HO3.out.below (fun b hb => by rw [hb]; have := HWB.out.size; omega) HB.out.size)
        have HB5 := Lib.hid (hbz.trans (hb35.mono hbz.size))
        have hsum : j + 1 ≤ 9000 := by omega
        have hbase : w.heap.size ≤ W5.heap.size := HB5.out.size
        obtain ⟨t1, t2, t3, t4⟩ := drop_head HR.out.2
        have HTT := Lib.hid (And.intro t1 (And.intro t2 (And.intro t3 t4)))
        have hov := HR.out.1
        rw [HR.out.2] at hov
        have hinp : inB [] k pp.1 = true := by
          have : (!inB [] k pp.1) = false := hov
          cases hx : inB [] k pp.1
          · rw [hx] at this; cases this
          · rfl
        have HINP := Lib.hid hinp
        have HW5 := Lib.hid hW5
        have hs35 : W5.heap.size = w3.heap.size + 1 + 1 := by omega
        have HSZ := Lib.hid (And.intro hs35 (And.intro hs4 hs5))
        clear hv hb35 how3 hbz hW4 hB4 hB5 hs4 hs5 t1 t2 t3 t4 hov hinp hs35
        rw [HW5.out] at HW5o HRD5 HON HS5 HB5 hbase HSZ
        clear HW5
        go_wp2_with (at_builtin; refine wpList_append_prs_at rfl _ _ rfl w.heap.size (.slice A j c) j xs rfl HW5o.out (some ⟨W4.heap.size, 0, none⟩) 1 1 [pp] (C := fun b => ((b ≠ cb ∧ ¬ (Value.slice A j c).ownBlock = some b) ∧ b < W4.heap.size) ∨ b = W4.heap.size) rfl HON.out (Below.refl _ _) hsum hbase ?_)
        intro v' w7 ys hys hown7 hgrow7 hat7
        have hc5 : cb < (W4.alloc (.cells #[.slice A1 n1 c1, .slice B1 m1 d1] 38)).heap.size := by rw [HSZ.out.1]; omega
        have HG7 := Lib.hid (GrowsC.more (C := fun b => ((b ≠ cb ∧ ¬ (Value.slice A j c).ownBlock = some b) ∧ b < W4.heap.size) ∨ b = W4.heap.size) HRD5.out HOW.out.2.2 hc5 (Below.refl _ _) (fun b hb => by
          rcases hb with hb | hb
          · exact ⟨fun k hk e => hb.1.2 (by rw [hk, e]), hb.1.1⟩
          · have := HSZ.out.2.1
            exact ⟨fun k hk e => by have := (HLT.out k hk).2; omega, by omega⟩) hys hown7 hgrow7 (by rw [alloc_sz]; exact hat7))
        have HB7 := Lib.hid (HB5.out.grown hgrow7 hbase (fun k hk => (HLT.out k hk).1))
        have HS7 := Lib.hid ((HS5.out.agree (agree_grown hgrow7 (fun k hk hc => hc (.inl hk))) (fun hc => by
          rcases hc with hc | hc
          · exact HOW.out.2.2 cb hc rfl
          · omega)).mono (X' := fun b => v'.ownBlock = some b) (fun b hb => by
          rcases hat7 with e | e
          · exact .inl (by rw [← e]; exact hb)
          · rw [e] at hb
            injection hb with hb
            have := HSZ.out.2.1
            exact .inr (by omega)))
        clear hys hown7 hgrow7 hat7 HRD5 HW5o HON hbase hsum HLT HS5 HB5
        obtain ⟨A7, c7, rfl, -⟩ := HG7.out.prs
        go_wp2
        go_roundw
        case rel =>
          refine ⟨j + 1, by rw [HTT.out.2.2.2]; exact HG7.out, by rw [HTT.out.2.2.1]; exact HS7.out, HTT.out.1, fun i hi => ?_, .inr (by omega), HB7.out⟩
          rcases Nat.lt_succ_iff_lt_or_eq.1 hi with hi | rfl
          · exact HIN.out i hi
          · rw [HTT.out.2.1]; exact HINP.out
        case measure =>
          have := HTT.out.1
          show R.length + 1 - (j + 1) < R.length + 1 - j
          omega
    · clear HN
      go_wp2
      obtain ⟨A', c', e', hpr⟩ := HG.out.prs
      injection e' with e1 e2 e3
      subst e1
      subst e3
      exact bodyPost_ret (v := .tuple #[.slice A j c, .nilIface]) (by simp [results, Try.results11, go_sem]) rfl ⟨A, j, c, rfl, hpr, hj, HIN.out, .inl (by omega), HLM.out, HB.out⟩
end Go.Proofs.Ytfckiglemmfjfaa

namespace Go.Proofs.Ytfckiglemmfjfaa
open Go.RowKit
set_option linter.unusedVariables false
set_option maxRecDepth 100000

theorem cpairs {w : World} {D : Nat → Prop} {tb m : Nat} {P : List Pr} (h : Tre w D tb m P) : Calls Try.prog 8 #[.pointer (some ⟨tb, 0, none⟩)] w fun e w' => ∃ A n c, e = .returned (.slice A n c) ∧ Prs w' A n c P ∧ Below w.heap.size w w' := by
  obtain ⟨g, L, F, root, d, t, h1, h2, rfl, h4⟩ := h
  exact pairs_any h1 h2 h4

set_option maxHeartbeats 2000000 in
theorem middle_yes {w : World} {D : Nat → Prop} {tb m : Nat} {P : List Pr} (h : Tre w D tb m P) (h2 : 2 ≤ P.length) :
    Calls Try.prog 12 #[.pointer (some ⟨tb, 0, none⟩)] w fun e w' => ∃ A n c, e = .returned (.tuple #[.slice A n c, .bool true]) ∧ Byt w' A n (gt P (P.length / 2)).1 ∧ Below w.heap.size w w' := by
  have HM := cmay_yes h
  have HP := cpairs h
  clear h
  go_enter Try.func12, Try.ntmps12
  go_wp2_with fail
  refine HM.mono ?_
  rintro e w1 ⟨rfl, rfl⟩
  clear HM
  go_wp2_with fail
  refine HP.mono ?_
  rintro e w1 ⟨A, n, c, rfl, hp, hb⟩
  have hlen := hp.len
  have HB := Lib.hid hb
  have hnM : n ≤ maxLen := Nat.le_trans hp.2.1 hp.2.2.1
  unfold maxLen at hnM
  have hlt : n / 2 < n := by omega
  obtain ⟨b, oo, rfl, hbl, A1, n1, c1, B1, m1, d1, k0, k1, y1, y2⟩ := hp.at_ hlt
  have HL := Lib.hid hlen
  rw [← hlen] at y1
  have HY := Lib.hid y1
  obtain ⟨q, hq⟩ : ∃ q, q = n / 2 := ⟨_, rfl⟩
  rw [← hq] at k0 k1 hlt
  have hqi : (n : Int) / 2 = (q : Int) := by omega
  have hwr : IntKind.i64.wrap ((n : Int) / 2) = (q : Int) := by rw [IntWalk.i64_in _ (by omega)]; omega
  have hq0 : (0 : Int) ≤ (q : Int) := by omega
  have hqn : (q : Int) < (n : Int) := by omega
  have hn2 : ¬ ((n : Int) < 2) := by omega
  have hn2b : decide ((n : Int) < 2) = false := by simp; omega
  clear hp hb hlen y1 y2 hq HP h2
  go_wp2
  exact bodyPost_ret (v := .tuple #[.slice A1 n1 c1, .bool true]) (by simp [results, Try.results12, go_sem]) rfl ⟨A1, n1, c1, rfl, HY.out, HB.out⟩

theorem three_prs {w : World} {C1 C2 C3 : Option Addr} {k1 k2 k3 : Ky} {o1 o2 o3 : Nat} (q1 q2 q3 : Nat) (h1 : Byt w C1 o1 k1) (h2 : Byt w C2 o2 k2) (h3 : Byt w C3 o3 k3) (T : TypeId) :
    Prs (w.alloc (.cells #[.slice C1 o1 q1, .slice none 0 0, .slice C2 o2 q2, .slice none 0 0, .slice C3 o3 q3, .slice none 0 0] T)) (some ⟨w.heap.size, 0, none⟩) 3 3 [(k1, []), (k2, []), (k3, [])] := by
  refine ⟨rfl, Nat.le_refl _, by unfold maxLen; omega, (fun e => by cases e), fun _ => ⟨w.heap.size, 0, rfl, by simp, fun j hj => ?_⟩⟩
  have hc : j = 0 ∨ j = 1 ∨ j = 2 := by omega
  rcases hc with rfl | rfl | rfl
  · exact ⟨C1, o1, q1, none, 0, 0, by simp, by simp, h1.alloc _, byt_none _⟩
  · exact ⟨C2, o2, q2, none, 0, 0, by simp, by simp, h2.alloc _, byt_none _⟩
  · exact ⟨C3, o3, q3, none, 0, 0, by simp, by simp, h3.alloc _, byt_none _⟩
theorem up_made : madeL [([97], []), ([98], []), ([99], [])] = [([97], []), ([98], []), ([99], [])] ∧ pos [([97], []), ([98], []), ([99], [])] [98] = 1 ∧ soundB [98] [99] = true := by decide
theorem up_one {j : Nat} (h1 : j ≤ ([([98], []), ([99], [])] : List Pr).length) (h2 : ∀ i, i < j → inB [] [99] (gt [([98], []), ([99], [])] i).1 = true) (h3 : (9 : Int) ≤ j ∨ overB (([([98], []), ([99], [])] : List Pr).drop j) [99] = true) : j = 1 := by
  have h1 : j ≤ 2 := h1
  have hc : j = 0 ∨ j = 1 ∨ j = 2 := by omega
  rcases hc with rfl | rfl | rfl
  · rcases h3 with h3 | h3
    · omega
    · revert h3; decide
  · rfl
  · have := h2 1 (by omega)
    revert this; decide

set_option maxHeartbeats 4000000 in
theorem up_any (w : World) : Calls Try.prog 4 #[] w fun e w' => e = .returned (.bool true) ∧ Below w.heap.size w w' := by
  have kc := fun (w : World) (C : Array Value) (n c g : Nat) (hg : g = w.heap.size) => Joins.run_convert_bytes_const_at (P := Try.prog) w 23 5 C n c g hg Try.underlying23 Try.underlying5
  have he := eql_err 1 1
  have ha := byt_lit w 97 97 rfl (1, 2)
  have hb := byt_lit (w.alloc (.cells #[.int .u8 97] 5 (1, 2))) 98 98 rfl (1, 2)
  have hc := byt_lit ((w.alloc (.cells #[.int .u8 97] 5 (1, 2))).alloc (.cells #[.int .u8 98] 5 (1, 2))) 99 99 rfl (1, 2)
  have hp := three_prs 1 1 1 ((ha.alloc (.cells #[.int .u8 98] 5 (1, 2))).alloc (.cells #[.int .u8 99] 5 (1, 2))) (hb.alloc (.cells #[.int .u8 99] 5 (1, 2))) hc 38
  have HM := made_yes hp (m := 3) (by omega) (by omega)
  rw [up_made.1] at HM
  have hB0 := (((((Below.refl w.heap.size w).alloc (Nat.le_refl _) (.cells #[.int .u8 97] 5 (1, 2))).alloc (by simp) (.cells #[.int .u8 98] 5 (1, 2))).alloc (by simp; omega) (.cells #[.int .u8 99] 5 (1, 2))).alloc (by simp; omega) (.cells #[.slice (some ⟨w.heap.size, 0, none⟩) 1 1, .slice none 0 0, .slice (some ⟨w.heap.size + 1, 0, none⟩) 1 1, .slice none 0 0, .slice (some ⟨w.heap.size + 1 + 1, 0, none⟩) 1 1, .slice none 0 0] 38))
  simp only [alloc_sz] at HM
  have HB0 := Lib.hid hB0
  have HM := Lib.hid HM
  clear ha hb hc hp hB0
  go_enter Try.func4, Try.ntmps4
  go_wp2_with fail
  refine HM.out.mono ?_
  rintro e w1 ⟨tb, rfl, ⟨-, D, ht, -⟩, hb1⟩
  have HT1 := Lib.hid ht
  have HB1 := Lib.hid (HB0.out.trans (hb1.mono (by omega)))
  have hq1 := byt_lit w1 98 98 rfl (1, 2)
  have hq2 := byt_lit (w1.alloc (.cells #[.int .u8 98] 5 (1, 2))) 99 99 rfl (1, 2)
  have hb2 := ((Below.refl w1.heap.size w1).alloc (Nat.le_refl _) (.cells #[.int .u8 98] 5 (1, 2))).alloc (by simp) (.cells #[.int .u8 99] 5 (1, 2))
  have HR := range_yes (HT1.out.below hb2) 1 1 9 (hq1.alloc (.cells #[.int .u8 99] 5 (1, 2))) hq2 (by unfold maxLen; omega) (by unfold maxLen; omega) up_made.2.2
  rw [up_made.2.1] at HR
  simp only [alloc_sz] at HR
  have HR := Lib.hid HR
  have HB2 := Lib.hid (HB1.out.trans (hb2.mono HB1.out.size))
  have HT2 := Lib.hid (HT1.out.below hb2)
  clear ht hb1 hq1 hq2 hb2 HM HB0
  go_wp2_with fail
  refine HR.out.mono ?_
  rintro e w2 ⟨A, j, c, rfl, hpr, h1, h2, h3, h4, hb2⟩
  obtain rfl := up_one h1 h2 h3
  have HB3 := Lib.hid (HB2.out.trans (hb2.mono HB2.out.size))
  have HT3 := Lib.hid (HT2.out.below hb2)
  have HP3 := Lib.hid (show Prs w2 A 1 c [([98], [])] from hpr)
  clear hpr h1 h2 h3 h4 hb2 HR
  go_wp2_with fail
  refine (range_nil w2 0 0 9).mono ?_
  rintro e w3 ⟨rfl, hb3⟩
  rw [errV_some (k := 1) (by decide)]
  have HB4 := Lib.hid (HB3.out.trans (hb3.mono HB3.out.size))
  have HMD := Lib.hid (middle_yes (HT3.out.below hb3) (by decide))
  have HP4 := Lib.hid (HP3.out.below hb3)
  clear hb3
  go_wp2_with fail
  refine HMD.out.mono ?_
  rintro e w4 ⟨A4, n4, c4, rfl, hy4, hb4⟩
  have HB5 := Lib.hid (HB4.out.trans (hb4.mono HB4.out.size))
  obtain ⟨b, oo, rfl, hbl, A1, n1, c1, B1, m1, d1, k0, k1, y1, y2⟩ := (HP4.out.below hb4).at_ (show 0 < 1 by omega)
  simp only [Nat.zero_mul, Nat.add_zero] at k0 k1
  have r1 := run_str (c := c1) y1
  have r2 := run_str (c := c4) hy4
  rw [show (gt [([98], [])] 0).1 = [98] from rfl] at r1
  rw [show (gt [([97], []), ([98], []), ([99], [])] (([([97], []), ([98], []), ([99], [])] : List Pr).length / 2)).1 = [98] from rfl] at r2
  clear hy4 hb4 y1 y2 HMD
  go_wp2
  go_ret
  exact ⟨rfl, HB5.out⟩
end Go.Proofs.Ytfckiglemmfjfaa

namespace Go.Proofs.Ytfckiglemmfjfaa
open Go.RowKit
set_option linter.unusedVariables false
set_option maxRecDepth 100000

theorem byt_off {w : World} {X : Nat → Prop} {cb : Nat} {R : List Pr} {ke : Ky} (h : CurS w X cb R ke) {A : Option Addr} {n : Nat} {l : Ky} (hy : Byt w A n l) : On (· ≠ cb) w (Byt · A n l) :=
  byt_on hy fun a h0 e hcb => by
    obtain ⟨a', e', hl, hj⟩ := hy.2 h0
    rw [e] at e'
    injection e' with e'
    subst e'
    have h1 := hj 0 (by rw [hy.1]; exact h0)
    obtain ⟨D, g, L, F, M, post, lf, ⟨A', n', c', B', m', d', hh, -⟩, -⟩ := h
    have hs := World.cell?_spot h1
    have hb : (a.add 0).block = cb := by rw [add_block]; exact hcb
    generalize a.add 0 = z at h1 hs hb
    obtain ⟨zb, zo, zs⟩ := z
    simp at hs hb
    subst hs
    subst hb
    simp only [World.cell?, hh] at h1
    rcases zo with _ | _ | _ | _ | _ | zo <;> simp at h1
theorem prs_off {w : World} {X : Nat → Prop} {cb : Nat} {R : List Pr} {ke : Ky} (h : CurS w X cb R ke) {A : Option Addr} {n c : Nat} {L : List Pr} (hp : Prs w A n c L) : On (· ≠ cb) w (Prs · A n c L) := fun V ha => by
  obtain ⟨h1, h2, h3, h4, h5⟩ := hp
  refine ⟨h1, h2, h3, h4, fun h0 => ?_⟩
  obtain ⟨b, o, e, hb, hj⟩ := h5 h0
  have hne : b ≠ cb := fun hcb => by
    obtain ⟨A1, n1, c1, B1, m1, d1, e0, e1, -⟩ := hj 0 h0
    obtain ⟨D, g, L, F, M, post, lf, ⟨A', n', c', B', m', d', hh, -⟩, -⟩ := h
    subst hcb
    simp only [World.cell?, hh] at e0 e1
    generalize o + 0 * 2 = oo at e0 e1
    rcases oo with _ | _ | _ | _ | _ | oo <;> simp at e0 e1
  refine ⟨b, o, e, by have := ha.1; omega, fun j hjn => ?_⟩
  obtain ⟨A1, n1, c1, B1, m1, d1, e0, e1, y1, y2⟩ := hj j hjn
  have hbl := ha.2 b hne hb
  exact ⟨A1, n1, c1, B1, m1, d1, (World.cell?_of_block (a := ⟨b, o + j * 2, none⟩) hbl).trans e0, (World.cell?_of_block (a := ⟨b, o + j * 2 + 1, none⟩) hbl).trans e1, byt_off h y1 V ha, byt_off h y2 V ha⟩

/-- Where the law's own place stands behind i pairs. -/
def atN (a i : Nat) : Nat := if i = 0 then 0 else a + i
theorem srt_lt {P : List Pr} (h : Srt P) {s t : Nat} (hst : s < t) (ht : t < P.length) : ltB (gt P s).1 (gt P t).1 = true := by
  rw [gt_eq ht, gt_eq (Nat.lt_trans hst ht)]
  exact List.pairwise_iff_getElem.1 h s t (by omega) ht hst
theorem low_out {P : List Pr} (h : Srt P) {l k : Ky} {t : Nat} (ht : t < P.length) (hl : t < pos P l) : inB l k (gt P t).1 = false := by
  unfold inB
  rw [pos_lt h l ht]
  simp [hl]
theorem drop_gt {P : List Pr} {j : Nat} (h : j < P.length) : P.drop j = gt P j :: P.drop (j + 1) := by rw [List.drop_eq_getElem_cons h, gt_eq h]
/-- What the cursor tells is in the range. -/
theorem told_in {P : List Pr} (h : Srt P) {l k : Ky} {i : Nat} (hi : pos P l + i < P.length) (ho : overB (P.drop (pos P l + i)) k = false) : inB l k (gt P (pos P l + i)).1 = true := by
  rw [drop_gt hi] at ho
  have ho : (!inB [] k (gt P (pos P l + i)).1) = false := ho
  rw [inB_nil] at ho
  unfold inB
  rw [pos_lt h l hi]
  simp at ho ⊢
  exact ho
/-- What is left is not in the range. -/
theorem left_out {P : List Pr} (h : Srt P) {l k : Ky} {i : Nat} (ho : overB (P.drop (pos P l + i)) k = true) {t : Nat} (h1 : atN (pos P l) i ≤ t) (ht : t < P.length) : inB l k (gt P t).1 = false := by
  by_cases hl : t < pos P l
  · exact low_out h ht hl
  · have hge : pos P l + i ≤ t := by
      unfold atN at h1
      by_cases h0 : i = 0
      · rw [if_pos h0] at h1; omega
      · rw [if_neg h0] at h1; omega
    have hi : pos P l + i < P.length := by omega
    rw [drop_gt hi] at ho
    have ho : (!inB [] k (gt P (pos P l + i)).1) = true := ho
    rw [inB_nil] at ho
    have hbel : belowB (gt P t).1 k = false := by
      unfold belowB at ho ⊢
      simp at ho ⊢
      refine ⟨ho.1, ?_⟩
      rcases Nat.lt_or_eq_of_le hge with hlt | heq
      · cases hx : ltB (gt P t).1 k
        · rfl
        · have := ltB_trans (srt_lt h hlt ht) hx
          rw [ho.2] at this
          cases this
      · rw [← heq]; exact ho.2
    unfold inB
    rw [hbel]
    simp
end Go.Proofs.Ytfckiglemmfjfaa

namespace Go.Proofs.Ytfckiglemmfjfaa
open Go.RowKit
set_option linter.unusedVariables false
set_option maxRecDepth 100000

theorem few_200 {L : List Pr} (h : fewB L 200 = true) : L.length ≤ 200 := by
  unfold fewB at h
  simp only [Bool.and_eq_true, decide_eq_true_eq] at h
  exact h.2
theorem bel_on {a w w' : World} (h : Below a.heap.size a w) (hb : Below w.heap.size w w') : Below a.heap.size a w' := h.trans (hb.mono h.size)

/-- Where the law's loop has come to. -/
def TellI (w4 : World) (cb : Nat) (P : List Pr) (l k : Ky) (x13 x14 : Value) (wr : World) : Prop :=
  ∃ i : Nat, x14 = .int .i64 i ∧ x13 = .int .i64 (atN (pos P l) i : Nat) ∧ pos P l + i ≤ P.length ∧ CurS wr (fun _ => False) cb (P.drop (pos P l + i)) k ∧ Only (· = cb) w4 wr

set_option maxHeartbeats 16000000 in
theorem tells_in {w : World} {A C V : Option Addr} {n c o p : Nat} (q r : Nat) {m : Nat} {L : List Pr} {l k : Ky} (h : Prs w A n c L) (hl : Byt w C o l) (hk : Byt w V p k) (hf : fewB L 200 = true) (ho : o ≤ 100) (hp : p ≤ 100) (h3 : 3 ≤ m) (h16 : m ≤ 16) :
    Calls Try.prog 3 #[.int .i64 m, .slice A n c, .agg #[.slice C o q, .slice V p r]] w fun e w' => e = .returned (.bool true) ∧ Below w.heap.size w w' := by
  obtain ⟨W, hW, hWB, hW0, hW1, hWs⟩ : ∃ W, W = w.alloc (.cells #[.slice C o q, .slice V p r] 25) ∧ Below w.heap.size w W ∧ W.cell? ⟨w.heap.size, 0, none⟩ = some (.slice C o q) ∧ W.cell? ⟨w.heap.size, 1, none⟩ = some (.slice V p r) ∧ W.heap.size = w.heap.size + 1 :=
    ⟨_, rfl, (Below.refl _ _).alloc (Nat.le_refl _) _, box_0 _ _ _ _, box_1 _ _ _ _, by simp⟩
  have H := Lib.hid h
  have HI := Lib.hid (And.intro hl hk)
  have HF0 := Lib.hid hf
  have HM := Lib.hid (And.intro h3 h16)
  have g1 : decide (100 < (o : Int)) = false := by simp; omega
  have g1b : decide (100 < o) = false := by simp; omega
  have g2 : decide (100 < (p : Int)) = false := by simp; omega
  have g2b : decide (100 < p) = false := by simp; omega
  have hoM : o ≤ maxLen := by unfold maxLen; omega
  have hpM : p ≤ maxLen := by unfold maxLen; omega
  have HWB := Lib.hid hWB
  have HC := Lib.hid (And.intro hW0 hW1)
  have hwl : w.heap.size < W.heap.size := by omega
  have hWe := Lib.hid hW
  clear h hl hk hf h3 h16 hWB hW0 hW1 hW
  go_enter Try.func3, Try.ntmps3
  go_wp2_with fail
  rw [← hWe.out]
  refine (up_any _).mono ?_
  rintro e w1 ⟨rfl, hb1⟩
  have HB := Lib.hid (HWB.out.trans (hb1.mono HWB.out.size))
  have HC1 := Lib.hid (And.intro ((hb1.cell (p := ⟨w.heap.size, 0, none⟩) hwl).trans HC.out.1) ((hb1.cell (p := ⟨w.heap.size, 1, none⟩) hwl).trans HC.out.2))
  have hw1 : w.heap.size < w1.heap.size := Nat.lt_of_lt_of_le hwl hb1.size
  have HF : Calls Try.prog 5 #[.slice A n c, .int .i64 200] w1 _ := few_any 200 (H.out.below HB.out)
  rw [HF0.out] at HF
  have HF := Lib.hid HF
  clear hb1 hWe
  go_wp2_with fail
  refine HF.out.mono ?_
  rintro e w2 ⟨rfl, rfl⟩
  clear HF
  have HN := made_yes (H.out.below HB.out) HM.out.1 HM.out.2
  go_wp2_with fail
  refine HN.mono ?_
  rintro e w2 ⟨tb, rfl, ht, hb⟩
  have hfit := ht.fit
  have hfew := ht.few
  obtain ⟨D0, hT2⟩ : ∃ D, Tre w2 D tb m (madeL L) := by
    obtain ⟨h0, D, h1, h2⟩ := ht
    exact ⟨D, h1⟩
  have HT := Lib.hid hT2
  have HB2 := Lib.hid (bel_on HB.out hb)
  obtain ⟨P, hP⟩ : ∃ P, P = madeL L := ⟨_, rfl⟩
  rw [← hP] at HT hfit hfew
  have HFT := Lib.hid (And.intro hfit hfew)
  have b0 := (hb.cell (p := ⟨w.heap.size, 0, none⟩) hw1).trans HC1.out.1
  have b1 := (hb.cell (p := ⟨w.heap.size, 1, none⟩) hw1).trans HC1.out.2
  have HC2 := Lib.hid (And.intro b0 b1)
  have hw2 : w.heap.size < w2.heap.size := Nat.lt_of_lt_of_le hw1 hb.size
  have hW2 : W.heap.size ≤ w2.heap.size := by omega
  clear HN ht hb hfit hfew hT2 hP
  cases hsd : soundB l k
  · have HOP := open_no HT.out q r (HI.out.1.below HB2.out) (HI.out.2.below HB2.out) hoM hpM hsd
    rw [errV_some (k := 1) (by decide)] at HOP
    have HOP := Lib.hid HOP
    have he := eql_err 1 1
    clear hsd
    go_wp2_with fail
    refine HOP.out.mono ?_
    rintro e w3 ⟨rfl, hb3⟩
    have HB3 := Lib.hid (bel_on HB2.out hb3)
    clear HOP hb3
    go_wp2
    go_ret
    exact ⟨rfl, HB3.out⟩
  · have HOP := Lib.hid (open_yes HT.out q r (HI.out.1.below HB2.out) (HI.out.2.below HB2.out) hoM hpM hsd)
    clear hsd
    go_wp2_with fail
    refine HOP.out.mono ?_
    rintro e w3 ⟨cb, rfl, hcb, hcs, hb3⟩
    have HCS := Lib.hid hcs
    have HB3 := Lib.hid (bel_on HB2.out hb3)
    have HPR := cpairs (HT.out.below hb3)
    have c0 := (hb3.cell (p := ⟨w.heap.size, 0, none⟩) hw2).trans HC2.out.1
    have c1 := (hb3.cell (p := ⟨w.heap.size, 1, none⟩) hw2).trans HC2.out.2
    have HC3 := Lib.hid (And.intro c0 c1)
    have hw3 : w.heap.size < w3.heap.size := Nat.lt_of_lt_of_le hw2 hb3.size
    clear HOP hcs hb3 c0 c1 b0 b1
    go_wp2_with fail
    refine HPR.mono ?_
    rintro e w4 ⟨A4, n4, c4, rfl, hp4, hb4⟩
    have hcs4 := HCS.out.below hb4
    have HCS4 := Lib.hid hcs4
    have HAL := Lib.hid (prs_off hcs4 hp4)
    have hn4 : P.length = n4 := hp4.len
    have hn1000 : n4 ≤ 1000 := by have := HFT.out.2; omega
    have c0 := (hb4.cell (p := ⟨w.heap.size, 0, none⟩) hw3).trans HC3.out.1
    have c1 := (hb4.cell (p := ⟨w.heap.size, 1, none⟩) hw3).trans HC3.out.2
    have HC4 := Lib.hid (And.intro c0 c1)
    have hw4 : w.heap.size < w4.heap.size := Nat.lt_of_lt_of_le hw3 hb4.size
    have HB4 := Lib.hid (bel_on HB3.out hb4)
    have HIB := Lib.hid (show ∀ V', Only (· = cb) w4 V' → Byt V' C o l ∧ Byt V' V p k from fun V' hV => by
      have hag : Agree (· < w.heap.size) w4 V' := hV.agree fun b hb e => by have h1 : b < w.heap.size := hb; have h2 : b = cb := e; omega
      exact ⟨(((byt_old HI.out.1).keep (below_all HB4.out)).keep hag).here, (((byt_old HI.out.2).keep (below_all HB4.out)).keep hag).here⟩)
    have HRC := Lib.hid (show ∀ V', Only (· = cb) w4 V' → V'.cell? ⟨w.heap.size, 0, none⟩ = some (.slice C o q) ∧ V'.cell? ⟨w.heap.size, 1, none⟩ = some (.slice V p r) from fun V' hV => by
      have hblk := hV.block w.heap.size hw4 (by show ¬ w.heap.size = cb; omega)
      exact ⟨(World.cell?_of_block (a := ⟨w.heap.size, 0, none⟩) hblk).trans HC4.out.1, (World.cell?_of_block (a := ⟨w.heap.size, 1, none⟩) hblk).trans HC4.out.2⟩)
    have hple := pos_le P l
    clear hcs4 hp4 hb4 HPR c0 c1
    go_wp2_with fail
    go_loopw [13, 14] (fun x13 x14 wr => TellI w4 cb P l k x13 x14 wr) (fun _ x14 _ => n4 + 1 - (intOf x14).toNat)
    case atStart => exact ⟨0, rfl, rfl, hple, HCS4.out, Only.refl _ _⟩
    case round =>
      obtain ⟨i, rfl, rfl, hi, hcs, ho⟩ := hrel
      have HS := Lib.hid hcs
      have HO := Lib.hid ho
      have HN := next_any hcs (fun b hb => hb.elim) id
      have HOUT := Lib.hid (fun (hov : overB (P.drop (pos P l + i)) k = true) (t : Nat) (h1 : atN (pos P l) i ≤ t) (ht : t < P.length) => left_out (l := l) HFT.out.1.1 hov h1 ht)
      have HIN := Lib.hid (fun (hlt : pos P l + i < P.length) (hov : overB (P.drop (pos P l + i)) k = false) => told_in (l := l) HFT.out.1.1 hlt hov)
      have HLOW := Lib.hid (fun (t : Nat) (ht : t < P.length) (hl : t < pos P l) => low_out (k := k) HFT.out.1.1 ht hl)
      obtain ⟨a, haE⟩ : ∃ a, a = pos P l := ⟨_, rfl⟩
      rw [← haE] at hi HS HN HOUT HIN HLOW ⊢
      obtain ⟨at0, hat0⟩ : ∃ s, s = atN a i := ⟨_, rfl⟩
      rw [← hat0] at HOUT ⊢
      have HAT := Lib.hid hat0
      have HAE := Lib.hid haE
      have hile : decide ((i : Int) ≤ (n4 : Int)) = true := by simp; omega
      have hileI : (i : Int) ≤ (n4 : Int) := by omega
      have hcl := hcs.lt
      clear hcs ho haE hat0
      go_wp2_with fail
      refine HN.mono ?_
      rintro e w5 ⟨ho5, ⟨hov, rfl, hcs5⟩ | ⟨hov, pp, R', A1, n1, c1, B1, m1, d1, hR', rfl, y1, y2, hcs5⟩⟩
      · have HOV := Lib.hid hov
        have HO5 := Lib.hid (HO.out.trans ho5)
        have HS5 := Lib.hid hcs5
        clear hov ho5 hcs5 HN
        go_wp2_with fail
        obtain ⟨W6, hW6, hB6⟩ : ∃ W6, W6 = w5.alloc (.cells #[.slice none 0 0, .slice none 0 0] 38) ∧ Below w5.heap.size w5 W6 := ⟨_, rfl, (Below.refl _ _).alloc (Nat.le_refl _) _⟩
        rw [← hW6]
        have HO6 := Lib.hid (HO5.out.trans (below_only hB6))
        have HS6 := Lib.hid (HS5.out.below hB6)
        have hat0n : at0 ≤ n4 := by have h1 := HAT.out; unfold atN at h1; split at h1 <;> omega
        clear hW6 hB6
        obtain ⟨wo, rfl⟩ : ∃ wo : World, wo = wr := ⟨_, rfl⟩
        go_loopw [13] (fun x wr => ∃ t : Nat, x = .int .i64 t ∧ at0 ≤ t ∧ t ≤ n4 ∧ CurS wr (fun _ => False) cb (P.drop (a + i)) k ∧ Only (· = cb) w4 wr) (fun x _ => n4 - (intOf x).toNat)
        case atStart => exact ⟨at0, rfl, Nat.le_refl _, hat0n, HS6.out, HO6.out⟩
        case round =>
          obtain ⟨t, rfl, ht0, htn, hcs7, ho7⟩ := hrel
          have HS7 := Lib.hid hcs7
          have HO7 := Lib.hid ho7
          clear hcs7 ho7
          by_cases hlt : t < n4
          · have hltI : (t : Int) < (n4 : Int) := by omega
            have ht0I : (0 : Int) ≤ (t : Int) := by omega
            obtain ⟨b, oo, A2, n2, c2, B2, m2, d2, rfl, k0, k1, y1, y2⟩ := prs_pair_on (HAL.out.keep (HO7.out.agree fun b hb e => hb e)) hlt
            have hn2 : n2 ≤ maxLen := by
              have h1 := (HFT.out.1.2 _ (gt_mem (show t < P.length by omega)))
              have h2 := y1.here.1
              unfold maxLen
              unfold fairB mayB at h1
              simp at h1
              omega
            have HIX := rin_any (w := wr.drew) q r c2 (l := l) (k := k) ((HIB.out wr HO7.out).1.below (Below.refl _ _).drew) ((HIB.out wr HO7.out).2.below (Below.refl _ _).drew) (y1.here.below (Below.refl _ _).drew) hoM hpM hn2
            rw [HOUT.out HOV.out t ht0 (by omega)] at HIX
            have HIX := Lib.hid HIX
            obtain ⟨x0, x1⟩ := HRC.out wr HO7.out
            have hbl : b < wr.heap.size := World.block_lt_of_cell? _ _ k0
            have hwr : w.heap.size < wr.heap.size := by have := HO7.out.size; omega
            have HK := Lib.hid (And.intro x0 (And.intro x1 k0))
            clear y1 y2 k1
            go_upto_region 28 with fail
            go_region_held3 (fun w' => w'.cell? ⟨w.heap.size, 0, none⟩ = some (.slice C o q) ∧ w'.cell? ⟨w.heap.size, 1, none⟩ = some (.slice V p r) ∧ w'.cell? ⟨b, oo + t * 2, none⟩ = some (.slice A2 n2 c2)) (go_keep)
              ((go_at_call 10
                (with_reducible refine HIX.out.mono ?_)
                rintro e w8 ⟨rfl, hb8⟩
                have hb8 := undrew hb8
                have x0 := (hb8.cell (p := ⟨w.heap.size, 0, none⟩) hwr).trans HK.out.1
                have x1 := (hb8.cell (p := ⟨w.heap.size, 1, none⟩) hwr).trans HK.out.2.1
                have k0 := (hb8.cell (p := ⟨b, oo + t * 2, none⟩) hbl).trans HK.out.2.2
                have HB8 := Lib.hid hb8
                clear hb8))
            have HS8 := Lib.hid (HS7.out.below HB8.out)
            have HO8 := Lib.hid (HO7.out.trans (below_only HB8.out))
            clear HK HIX x0 x1 k0 hbl HB8
            go_wp2
            go_roundw
            case rel => exact ⟨t + 1, by go_num, by omega, by omega, HS8.out, HO8.out⟩
            case measure => simp [intOf]; omega
          · have hnl : ¬ ((t : Int) < (n4 : Int)) := by omega
            have HN8 := next_any HS7.out (fun b hb => hb.elim) id
            go_wp2_with fail
            refine HN8.mono ?_
            rintro e w8 ⟨ho8, ⟨hov8, rfl, hcs8⟩ | ⟨hov8, -⟩⟩
            · have HB8 := Lib.hid (HB4.out.trans ((HO7.out.trans ho8).below (fun b hb => by rw [hb]; omega) HB4.out.size))
              clear ho8 hov8 hcs8 HN8
              go_wp2
              go_ret
              exact ⟨rfl, HB8.out.alloc HB8.out.size _⟩
            · exact absurd (HOV.out.symm.trans hov8) (by decide)
      · have HO5 := Lib.hid (HO.out.trans ho5)
        have HS5 := Lib.hid hcs5
        have HY := Lib.hid (And.intro y1 y2)
        have HR := Lib.hid (And.intro hov hR')
        clear hov ho5 hcs5 HN y1 y2 hR'
        go_upto_region 16 with fail
        obtain ⟨W6, hW6, hB6, hs6, h60, h61⟩ : ∃ W6, W6 = w5.alloc (.cells #[.slice A1 n1 c1, .slice B1 m1 d1] 38) ∧ Below w5.heap.size w5 W6 ∧ W6.heap.size = w5.heap.size + 1 ∧ W6.cell? ⟨w5.heap.size, 0, none⟩ = some (.slice A1 n1 c1) ∧ W6.cell? ⟨w5.heap.size, 1, none⟩ = some (.slice B1 m1 d1) :=
          ⟨_, rfl, (Below.refl _ _).alloc (Nat.le_refl _) _, by simp, box_0 _ _ _ _, box_1 _ _ _ _⟩
        rw [← hW6]
        obtain ⟨t1, t2, t3, t4⟩ := drop_head HR.out.2
        have HTT := Lib.hid (And.intro t1 (And.intro t2 t3))
        have hinv := HIN.out t1 HR.out.1
        rw [t2] at hinv
        have hfp : fairB pp = true := by rw [← t2]; exact HFT.out.1.2 _ (gt_mem t1)
        have HO6 := Lib.hid (HO5.out.trans (below_only hB6))
        have HS6 := Lib.hid (HS5.out.below hB6)
        have HY6 := Lib.hid (And.intro (HY.out.1.here.below hB6) (HY.out.2.here.below hB6))
        have hn1 : n1 ≤ maxLen := by
          have h2 := HY.out.1.here.1
          unfold maxLen
          unfold fairB mayB at hfp
          simp at hfp
          omega
        have HIX := rin_any (w := W6) q r c1 (l := l) (k := k) (HIB.out W6 HO6.out).1 (HIB.out W6 HO6.out).2 HY6.out.1 hoM hpM hn1
        rw [hinv] at HIX
        obtain ⟨x0, x1⟩ := HRC.out W6 HO6.out
        have HPC := Lib.hid (And.intro h60 h61)
        have hw56 : w5.heap.size < W6.heap.size := by omega
        have hin4 : a + i < n4 := by omega
        clear hW6 hB6 t1 t2 t3 t4 hinv hfp h61
        go_wp2_with fail
        refine HIX.mono ?_
        rintro e w7 ⟨rfl, hb7⟩
        have HB7 := Lib.hid hb7
        have HO7 := Lib.hid (HO6.out.trans (below_only hb7))
        have HS7 := Lib.hid (HS6.out.below hb7)
        have HY7 := Lib.hid (And.intro (HY6.out.1.below hb7) (HY6.out.2.below hb7))
        have HPC7 := Lib.hid (And.intro ((hb7.cell (p := ⟨w5.heap.size, 0, none⟩) hw56).trans HPC.out.1) ((hb7.cell (p := ⟨w5.heap.size, 1, none⟩) hw56).trans HPC.out.2))
        have hw57 : w5.heap.size < w7.heap.size := Nat.lt_of_lt_of_le hw56 hb7.size
        have hats : at0 ≤ a + i ∧ (i = 0 ∨ at0 = a + i) := by have h1 := HAT.out; unfold atN at h1; split at h1 <;> omega
        have HATS := Lib.hid hats
        clear hb7 HIX x0 x1 h60 hats HPC
        go_wp2_with fail
        obtain ⟨wo, rfl⟩ : ∃ wo : World, wo = wr := ⟨_, rfl⟩
        go_loopw [13] (fun x wr => ∃ t : Nat, x = .int .i64 t ∧ t ≤ a + i ∧ (i = 0 ∨ t = a + i) ∧ Below w7.heap.size w7 wr) (fun x _ => n4 - (intOf x).toNat)
        case atStart => exact ⟨at0, rfl, HATS.out.1, HATS.out.2, Below.refl _ _⟩
        case round =>
          obtain ⟨t, rfl, hta, hti, hb⟩ := hrel
          have HB := Lib.hid hb
          have HTI := Lib.hid hti
          have HOr := Lib.hid (HO7.out.trans (below_only hb))
          have hltn : t < n4 := by omega
          have hltI : (t : Int) < (n4 : Int) := by omega
          have hltD : decide ((t : Int) < (n4 : Int)) = true := by simp; omega
          have ht0I : (0 : Int) ≤ (t : Int) := by omega
          obtain ⟨b, oo, A2, n2, c2, B2, m2, d2, rfl, k0, k1, y1, y2⟩ := prs_pair_on (HAL.out.keep (HOr.out.agree fun b hb e => hb e)) hltn
          have z0 := (hb.cell (p := ⟨w5.heap.size, 0, none⟩) hw57).trans HPC7.out.1
          have z1 := (hb.cell (p := ⟨w5.heap.size, 1, none⟩) hw57).trans HPC7.out.2
          have r1 := fun q => run_str (c := c2) (y1.here.drewN q)
          have r2 := fun q => run_str (c := c1) ((HY7.out.1.below hb).drewN q)
          have hbl : b < wr.heap.size := World.block_lt_of_cell? _ _ k0
          have HYt := Lib.hid (And.intro y1.here y2.here)
          clear hb hti y1 y2
          by_cases hte : t = a + i
          case pos =>
            have r3 := fun q => run_str (c := d2) (HYt.out.2.drewN q)
            have r4 := fun q => run_str (c := d1) ((HY7.out.2.below HB.out).drewN q)
            rw [hte, HTT.out.2.1] at r1 r3
            obtain ⟨s1, hs1⟩ : ∃ s1, s1 = pp.1 := ⟨_, rfl⟩
            obtain ⟨s2, hs2⟩ : ∃ s2, s2 = pp.2 := ⟨_, rfl⟩
            rw [← hs1] at r1 r2
            rw [← hs2] at r3 r4
            have e1 : (s1 == s1) = true := by simp
            have e2 : (s1 != s1) = false := by simp
            have e3 : (s2 == s2) = true := by simp
            have e4 : (s2 != s2) = false := by simp
            have hge : decide ((n4 : Int) ≤ (t : Int)) = false := by simp; omega
            have hgeI : ¬ ((n4 : Int) ≤ (t : Int)) := by omega
            have HTE := Lib.hid hte
            clear hs1 hs2 hte
            go_wp2_with fail
            go_quiet (fail)
            go_wp2_with fail
            go_quiet (fail)
            clear r1 r2 r3 r4 k0 k1 z0 z1 hbl
            have HFS := Lib.hid (HS7.out.below HB.out)
            have hnx : atN a (i + 1) = t + 1 := by unfold atN; rw [if_neg (by omega)]; have := HTE.out; omega
            have HNX := Lib.hid hnx
            clear hnx
            go_wp2
            go_roundw
            case rel =>
              refine ⟨i + 1, by go_num, by rw [← HAE.out, HNX.out]; go_num, by rw [← HAE.out]; omega, ?_, ?_⟩
              · rw [← HAE.out, ← Nat.add_assoc, HTT.out.2.2]
                exact HFS.out.below (below_drewN (Below.refl _ _) _)
              · exact HOr.out.trans (below_only (below_drewN (Below.refl _ _) _))
            case measure => simp [intOf]; omega
          case neg =>
            have hta' : t < a + i := by omega
            have hi0 : i = 0 := by rcases HTI.out with h | h <;> omega
            obtain ⟨s1, hs1⟩ : ∃ s1, s1 = (gt P t).1 := ⟨_, rfl⟩
            obtain ⟨s2, hs2⟩ : ∃ s2, s2 = pp.1 := ⟨_, rfl⟩
            have hss : s1 ≠ s2 := fun e => by
              have h1 := srt_lt HFT.out.1.1 hta' HTT.out.1
              rw [HTT.out.2.1, ← hs1, ← hs2, e, ltB_irrefl] at h1
              cases h1
            have e1 : (s1 == s2) = false := by simp [hss]
            have e2 : (s1 != s2) = true := by simp [hss]
            have hn2 : n2 ≤ maxLen := by
              have h1 := (HFT.out.1.2 _ (gt_mem (show t < P.length by omega)))
              have h2 := HYt.out.1.1
              unfold maxLen
              unfold fairB mayB at h1
              simp at h1
              omega
            have HIX : Hid (∀ V' : World, Below wr.heap.size wr V' → Calls Try.prog 10 #[.agg #[.slice C o q, .slice V p r], .slice A2 n2 c2] V' fun e w' => e = .returned (.bool false) ∧ Below V'.heap.size V' w') := Lib.hid fun V' hV => by
              have := rin_any (w := V') q r c2 (l := l) (k := k) ((HIB.out wr HOr.out).1.below hV) ((HIB.out wr HOr.out).2.below hV) (HYt.out.1.below hV) hoM hpM hn2
              rw [HLOW.out t (by omega) (by omega)] at this
              exact this
            rw [← hs1] at r1
            rw [← hs2] at r2
            obtain ⟨x0, x1⟩ := HRC.out wr HOr.out
            have hwr : w.heap.size < wr.heap.size := by have := HOr.out.size; omega
            have HK := Lib.hid (And.intro x0 (And.intro x1 k0))
            have HTA := Lib.hid (And.intro hta' hi0)
            clear hss hs1 hs2 k1 z1 hta' hi0 hte
            go_wp2_with fail
            go_quiet (fail)
            clear r1 r2 z0
            go_upto_region 18 with fail
            obtain ⟨wd, hwd⟩ : ∃ wd, wd = wr.drewN nq := ⟨_, rfl⟩
            have hbd : Below wr.heap.size wr wd := by rw [hwd]; exact below_drewN (Below.refl _ _) _
            rw [← hwd]
            have x0 := (hbd.cell (p := ⟨w.heap.size, 0, none⟩) hwr).trans HK.out.1
            have x1 := (hbd.cell (p := ⟨w.heap.size, 1, none⟩) hwr).trans HK.out.2.1
            have k0 := (hbd.cell (p := ⟨b, oo + t * 2, none⟩) hbl).trans HK.out.2.2
            have HK2 := Lib.hid (And.intro x0 (And.intro x1 k0))
            have hwr2 : w.heap.size < wd.heap.size := Nat.lt_of_lt_of_le hwr hbd.size
            have hbl2 : b < wd.heap.size := Nat.lt_of_lt_of_le hbl hbd.size
            have HIY := Lib.hid (HIX.out wd.drew hbd.drew)
            have HBD := Lib.hid hbd
            clear hwd hbd HIX
            go_region_held3 (fun w' => w'.cell? ⟨w.heap.size, 0, none⟩ = some (.slice C o q) ∧ w'.cell? ⟨w.heap.size, 1, none⟩ = some (.slice V p r) ∧ w'.cell? ⟨b, oo + t * 2, none⟩ = some (.slice A2 n2 c2)) (go_keep)
              ((go_at_call 10
                (with_reducible refine HIY.out.mono ?_)
                rintro e w8 ⟨rfl, hb8⟩
                have hb8 := undrew hb8
                have x0 := (hb8.cell (p := ⟨w.heap.size, 0, none⟩) hwr2).trans HK2.out.1
                have x1 := (hb8.cell (p := ⟨w.heap.size, 1, none⟩) hwr2).trans HK2.out.2.1
                have k0 := (hb8.cell (p := ⟨b, oo + t * 2, none⟩) hbl2).trans HK2.out.2.2
                have HB8 := Lib.hid hb8
                clear hb8))
            have HB9 := Lib.hid (bel_on HB.out (HBD.out.trans (HB8.out.mono HBD.out.size)))
            clear HK HK2 HIY x0 x1 k0 hbl hbl2 HB8
            go_wp2
            go_roundw
            case rel => exact ⟨t + 1, by go_num, by have := HTA.out.1; omega, .inl HTA.out.2, HB9.out⟩
            case measure => simp [intOf]; omega
end Go.Proofs.Ytfckiglemmfjfaa

namespace Go.Proofs.Ytfckiglemmfjfaa
open Go.RowKit
set_option linter.unusedVariables false
set_option maxRecDepth 100000

/-- Where nothing is asked: no such tree, too many pairs, too long an end of the range. -/
theorem tells_let {w : World} {A C V : Option Addr} {n c o p : Nat} (q r : Nat) (m : Int) {L : List Pr} (h : Prs w A n c L) (hl : ¬ (3 ≤ m ∧ m ≤ 16) ∨ fewB L 200 = false ∨ 100 < o ∨ 100 < p) :
    Calls Try.prog 3 #[.int .i64 m, .slice A n c, .agg #[.slice C o q, .slice V p r]] w fun e w' => e = .returned (.bool true) ∧ Below w.heap.size w w' := by
  obtain ⟨W, hW, hWB, hW0, hW1, hWs⟩ : ∃ W, W = w.alloc (.cells #[.slice C o q, .slice V p r] 25) ∧ Below w.heap.size w W ∧ W.cell? ⟨w.heap.size, 0, none⟩ = some (.slice C o q) ∧ W.cell? ⟨w.heap.size, 1, none⟩ = some (.slice V p r) ∧ W.heap.size = w.heap.size + 1 :=
    ⟨_, rfl, (Below.refl _ _).alloc (Nat.le_refl _) _, box_0 _ _ _ _, box_1 _ _ _ _, by simp⟩
  have HUP := up_any W
  have H := Lib.hid h
  have HWB := Lib.hid hWB
  have HC := Lib.hid (And.intro hW0 hW1)
  have hwl : w.heap.size < W.heap.size := by omega
  have hWe := Lib.hid hW
  by_cases hm : 3 ≤ m ∧ m ≤ 16
  case neg =>
    have HMN := Lib.hid (fun w => made_no (w := w) (A := A) (n := n) (c := c) m hm)
    have HFW := Lib.hid (show ∀ w1, Below w.heap.size w w1 → Calls Try.prog 5 #[.slice A n c, .int .i64 200] w1 fun e w' => e = .returned (.bool (fewB L 200)) ∧ w1 = w' from fun w1 hb => few_any 200 (H.out.below hb))
    clear hm hl h hWB hW0 hW1 hW
    go_enter Try.func3, Try.ntmps3
    go_wp2_with fail
    rw [← hWe.out]
    refine HUP.mono ?_
    rintro e w1 ⟨rfl, hb1⟩
    have hb2 := HWB.out.trans (hb1.mono HWB.out.size)
    have HB := Lib.hid hb2
    have HFX := HFW.out w1 hb2
    generalize fewB L 200 = fb at HFX
    clear hb1 hb2 HFW hWe
    go_wp2_with fail
    refine HFX.mono ?_
    rintro e w2 ⟨rfl, rfl⟩
    clear HFX
    go_wp2_with fail
    refine (HMN.out _).mono ?_
    rintro e w2 ⟨rfl, rfl⟩
    go_wp2
    go_ret
    exact ⟨rfl, HB.out⟩
  case pos =>
    have hl2 : fewB L 200 = false ∨ (fewB L 200 = true ∧ 100 < o) ∨ (fewB L 200 = true ∧ o ≤ 100 ∧ 100 < p) := by
      cases hf : fewB L 200
      · exact .inl rfl
      · refine .inr ?_
        rcases hl with h | h | h | h
        · exact absurd hm h
        · exact absurd (hf.symm.trans h) (by decide)
        · exact .inl ⟨rfl, h⟩
        · rcases Nat.lt_or_ge 100 o with h1 | h1
          · exact .inl ⟨rfl, h1⟩
          · exact .inr ⟨rfl, h1, h⟩
    obtain ⟨m', rfl⟩ : ∃ m' : Nat, m = (m' : Int) := ⟨m.toNat, by omega⟩
    have h3 : 3 ≤ m' := by omega
    have h16 : m' ≤ 16 := by omega
    have HMY := Lib.hid (fun w1 (hb : Below w.heap.size w w1) => made_yes (w := w1) (H.out.below hb) h3 h16)
    have HFW := Lib.hid (show ∀ w1, Below w.heap.size w w1 → Calls Try.prog 5 #[.slice A n c, .int .i64 200] w1 fun e w' => e = .returned (.bool (fewB L 200)) ∧ w1 = w' from fun w1 hb => few_any 200 (H.out.below hb))
    clear hm h h3 h16 hl hWB hW0 hW1 hW
    rcases hl2 with hf | ⟨hf, hz⟩ | ⟨hf, hy, hz⟩
    case' inl => skip
    case' inr.inl =>
      have g1 : decide (100 < (o : Int)) = true := by simp; omega
      have g1b : decide (100 < o) = true := by simp; omega
    case' inr.inr =>
      have g1 : decide (100 < (o : Int)) = false := by simp; omega
      have g1b : decide (100 < o) = false := by simp; omega
      have g2 : decide (100 < (p : Int)) = true := by simp; omega
      have g2b : decide (100 < p) = true := by simp; omega
    all_goals
      rw [hf] at HFW
      clear hf
      go_enter Try.func3, Try.ntmps3
      go_wp2_with fail
      rw [← hWe.out]
      refine HUP.mono ?_
      rintro e w1 ⟨rfl, hb1⟩
      have hb2 := HWB.out.trans (hb1.mono HWB.out.size)
      have HB := Lib.hid hb2
      have HFX := HFW.out w1 hb2
      have HC1 := Lib.hid (And.intro ((hb1.cell (p := ⟨w.heap.size, 0, none⟩) hwl).trans HC.out.1) ((hb1.cell (p := ⟨w.heap.size, 1, none⟩) hwl).trans HC.out.2))
      have hw1 : w.heap.size < w1.heap.size := Nat.lt_of_lt_of_le hwl hb1.size
      clear hb1 hb2 HFW hWe
      go_wp2_with fail
      refine HFX.mono ?_
      rintro e w2 ⟨rfl, rfl⟩
      clear HFX
      go_wp2_with fail
      refine (HMY.out _ HB.out).mono ?_
      rintro e w2 ⟨tb, rfl, -, hb2⟩
      have HB2 := Lib.hid (bel_on HB.out hb2)
      have b0 := (hb2.cell (p := ⟨w.heap.size, 0, none⟩) hw1).trans HC1.out.1
      have b1 := (hb2.cell (p := ⟨w.heap.size, 1, none⟩) hw1).trans HC1.out.2
      clear hb2
      go_wp2
      go_ret
      exact ⟨rfl, HB2.out⟩

theorem tells_any {w : World} {A C V : Option Addr} {n c o p : Nat} (q r : Nat) (m : Int) {L : List Pr} {l k : Ky} (h : Prs w A n c L) (hl : Byt w C o l) (hk : Byt w V p k) :
    Calls Try.prog 3 #[.int .i64 m, .slice A n c, .agg #[.slice C o q, .slice V p r]] w fun e w' => e = .returned (.bool true) ∧ Below w.heap.size w w' := by
  by_cases hz : ¬ (3 ≤ m ∧ m ≤ 16) ∨ fewB L 200 = false ∨ 100 < o ∨ 100 < p
  · exact tells_let q r m h hz
  · have hf : fewB L 200 = true := by cases hf : fewB L 200 <;> simp_all
    have hm : 3 ≤ m ∧ m ≤ 16 := Classical.byContradiction fun hh => hz (.inl hh)
    have ho : ¬ 100 < o := fun hh => hz (.inr (.inr (.inl hh)))
    have hp : ¬ 100 < p := fun hh => hz (.inr (.inr (.inr hh)))
    obtain ⟨m', rfl⟩ : ∃ m' : Nat, m = (m' : Int) := ⟨m.toNat, by omega⟩
    exact tells_in q r h hl hk hf (by omega) (by omega) (by omega) (by omega)
end Go.Proofs.Ytfckiglemmfjfaa
