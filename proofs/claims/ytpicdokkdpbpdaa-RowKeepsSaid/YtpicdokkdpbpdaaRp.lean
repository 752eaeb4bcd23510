/- Contracts of the document's own Put and Row. Condition: what came in can be read; no more than 1000 pairs; keys of at most 1000 bytes. -/
import Derived.Test.YtpicdokkdpbpdaaRo
import Derived.StillTailTactics
namespace Go.Proofs.Ytpicdokkdpbpdaa
open Go.RowKit
set_option linter.unusedVariables false

/-- append of pairs that could be read at some time, nil included, to a row of one's own. -/
theorem wpList_append_prs {w w0 : World} {ops : Array Oper} {rest : List Oper} {o : Oper} {a : Act} {Q : Exit → Act → World → Prop} (hgd : o.guard = none) (s x : Operand)
    (ho : o.op = .call { callee := .builtin .append, args := #[s, x], argTypes := #[22, 22] })
    (base : Nat) (v : Value) (n : Nat) (xs : List Value) (hs : a.eval s = v) (hown : w.ownsRow base 43 2 v n xs)
    (A : Option Addr) (m c : Nat) (L : List Pr) (hx : a.eval x = .slice A m c) (hp : Prs w0 A m c L) (hb : Below w0.heap.size w0 w) (h63 : n + m ≤ 3000) (hbase : base ≤ w.heap.size)
    (h : ∀ v' w' ys, Reads w0 ys L → w'.ownsRow base 43 2 v' (n + m) (xs ++ ys) → w.grownBy w' v.ownBlock → wpList Try.prog ops Q rest (a.put o.dst v') w') :
    wpList Try.prog ops Q (o :: rest) a w := by
  obtain ⟨i0, hi, hz0, hz1, hz2⟩ := info_parts Try.infoPair
  obtain ⟨ys, hr, hl, hc⟩ := hp.cells
  cases A with
  | none =>
    obtain rfl : c = 0 := hp.2.2.2.1 rfl
    obtain rfl : m = 0 := Nat.le_zero.1 hp.2.1
    obtain rfl : ys = [] := List.eq_nil_of_length_eq_zero (by omega)
    refine wpList_append_own_none (w := w) hgd s x _ ho base 43 i0 2 Try.underlying22 hi v n xs hs hown hx ?_
    exact h v w [] hr (by simpa using hown) (World.grownBy.refl _ _)
  | some ad =>
    refine wpList_append_own w hgd s x _ ho base 43 i0 (.agg #[.slice none 0 0, .slice none 0 0]) 2 48 Try.underlying22 hi hz0 hz1 hz2 rfl (by decide) v n xs hs hown ad m c ys hx hl (fun j u hu => ?_) hr.one (by unfold maxLen; omega) (by omega) hbase ?_
    · have hcell := hc ad rfl j u hu
      have hlt := World.block_lt_of_cell? w0 _ hcell
      exact (hb.cell hlt).trans hcell
    intro v' w' h1 h2 _
    exact h v' w' ys hr h1 h2

theorem own_below {w0 w w' : World} {v : Value} {n : Nat} {xs : List Value} {e s : Nat} (hb : Below w0.heap.size w0 w) (ho : w.ownsRow w0.heap.size e s v n xs) (hg : w.grownBy w' v.ownBlock) : Below w0.heap.size w0 w' :=
  hb.grown hg hb.size (fun k hk => (ho.lt k hk).1)

theorem take_len {L : List Pr} {n : Nat} (h : n ≤ L.length) : (L.take n).length = n := by simp; omega

set_option maxHeartbeats 2000000 in
theorem rput_any {w : World} {A C D : Option Addr} {n c o p : Nat} (q r : Nat) {L : List Pr} {k v : List UInt8} (h : Prs w A n c L) (h' : Byt w C o k) (h'' : Byt w D p v) (hs : Srt L) (hm : Small L) (ho : o ≤ 1000) (hn : n ≤ 1000) :
    Calls Try.prog 17 #[.slice A n c, .slice C o q, .slice D p r] w (Made w (putL L k v)) := by
  have H := Lib.hid h
  have H' := Lib.hid h'
  have H'' := Lib.hid h''
  have HS := Lib.hid (srt_del hs k)
  have HM := Lib.hid (show Small (delL L k) from fun p hp => hm p (mem_del hp))
  have HD := rdel_any q h h' hn
  have HN := Lib.hid (show (delL L k).length ≤ 1000 from Nat.le_trans (len_del L k) (by rw [h.len]; exact hn))
  have HP := Lib.hid (pos_le (delL L k) k)
  have HE := Lib.hid (show putL L k v = (delL L k).take (pos (delL L k) k) ++ [(k, v)] ++ (delL L k).drop (pos (delL L k) k) by unfold putL; simp)
  clear h h' h'' hs hm
  go_enter Try.func17, Try.ntmps17
  go_wp2_with fail
  refine HD.mono ?_
  rintro e w1 ⟨A1, n1, c1, rfl, hp1, hb1⟩
  have hl1 := hp1.len
  have HP1 := Lib.hid hp1
  have HB1 := Lib.hid hb1
  clear hp1 hb1 HD
  have HN1 : n1 ≤ 1000 := by rw [← hl1]; exact HN.out
  have HPN : pos (delL L k) k ≤ n1 := by rw [← hl1]; exact HP.out
  clear hl1
  have HF := rfind_any q HP1.out (H'.out.below HB1.out) HS.out HM.out ho
  go_wp2_with fail
  refine HF.mono ?_
  rintro e w2 ⟨rfl, hd⟩
  clear HF
  have HP2 := Lib.hid (hd.prs HP1.out)
  have HB2 : Below w.heap.size w w2 := by
    obtain ⟨d, rfl⟩ := hd
    exact below_drewN HB1.out d
  have HB2 := Lib.hid HB2
  clear hd
  generalize pos (delL L k) k = P at *
  have hPc : P ≤ c1 := Nat.le_trans HPN HP1.out.2.1
  clear HP1 HB1
  have B1 : Below w2.heap.size w2 (w2.alloc (.cells #[] 43)) := (Below.refl _ _).alloc (Nat.le_refl _) _
  have O1 : (w2.alloc (.cells #[] 43)).ownsRow w2.heap.size 43 2 (.slice (some ⟨w2.heap.size, 0, none⟩) 0 0) 0 [] := World.ownsRow_made w2 #[] 0 (Nat.le_refl _) (Nat.zero_le _) rfl
  have B1 := Lib.hid B1
  have O1 := Lib.hid O1
  go_wp2_with (at_builtin; refine wpList_append_prs rfl _ _ rfl w2.heap.size _ 0 [] rfl O1.out A1 P c1 ((delL L k).take P) rfl (HP2.out.upto HPN) B1.out (by omega) B1.out.size ?_)
  intro v1 w3 ys1 hr1 hown1 hg1
  have B2 := Lib.hid (own_below B1.out O1.out hg1)
  have R1 := Lib.hid hr1
  have O2 := Lib.hid hown1
  clear hr1 hown1 hg1 B1 O1
  obtain ⟨i0, hi, hz0, hz1, hz2⟩ := info_parts Try.infoPair
  have HI := Lib.hid hi
  have HZ := Lib.hid (And.intro hz0 (And.intro hz1 hz2))
  clear hi hz0 hz1 hz2
  have B3 := Lib.hid (B2.out.alloc B2.out.size (.cells #[.slice C o q, .slice D p r] 43))
  have O3 := Lib.hid (O2.out.alloc (.cells #[.slice C o q, .slice D p r] 43))
  have hsz := Lib.hid B2.out.size
  clear B2 O2
  go_wp2_with (at_builtin; refine wpList_append_own _ rfl _ _ 22 rfl w2.heap.size 43 i0 (.agg #[.slice none 0 0, .slice none 0 0]) 2 48 Try.underlying22 HI.out HZ.out.1 HZ.out.2.1 HZ.out.2.2 rfl (by decide) v1 P ys1 rfl O3.out ⟨w3.heap.size, 0, none⟩ 1 1 [.slice C o q, .slice D p r] rfl rfl two_cells ?c2 (by unfold maxLen; omega) (by omega) B3.out.size ?_)
  case c2 => intro u hu; simp at hu; rcases hu with rfl | rfl <;> rfl
  intro v2 w4 hown2 hg2 hnil
  clear hnil
  have B4 := Lib.hid (own_below B3.out O3.out hg2)
  have O4 := Lib.hid hown2
  have R4 := Lib.hid (R1.out.append (reads_one (p := (k, v)) q r (H'.out.below HB2.out) (H''.out.below HB2.out)))
  clear hown2 hg2 B3 O3 R1
  have HP5 := Lib.hid (HP2.out.from HPN)
  go_wp2_with (at_builtin; refine wpList_append_prs rfl _ _ rfl w2.heap.size v2 (P + 1) _ rfl O4.out (cutA A1 P c1) (n1 - P) (c1 - P) ((delL L k).drop P) rfl HP5.out B4.out (by omega) B4.out.size ?_)
  all_goals
    intro v3 w5 ys3 hr3 hown3 hg3
    have B5 := Lib.hid (own_below B4.out O4.out hg3)
    have R5 := Lib.hid (R4.out.append hr3)
    have O5 := Lib.hid (show w5.ownsRow w2.heap.size 43 2 v3 (P + 1 + (n1 - P)) (ys1 ++ [.slice C o q, .slice D p r] ++ ys3) by simpa using hown3)
    clear hown3 hr3 hg3 B4 O4 R4
    go_wp2
    go_ret
    obtain ⟨A6, c6, rfl, hp6, _⟩ := own_prs O5.out (R5.out.below B5.out)
    refine ⟨A6, _, c6, rfl, ?_, HB2.out.trans (B5.out.mono HB2.out.size)⟩
    rw [HE.out]
    exact hp6

theorem rowl_len {L : List Pr} {j : Nat} (h : j ≤ L.length) : (rowL (L.take j)).length ≤ j := (row_fit L j h).2

/-- Where the loop that makes a row of any pairs has come to. -/
def RowInv (w : World) (L : List Pr) (j : Nat) (v : Value) (wr : World) : Prop :=
  ∃ A m c, v = .slice A m c ∧ Prs wr A m c (rowL (L.take j)) ∧ Below w.heap.size w wr

theorem small_fit {L : List Pr} (h : Fit L) : Small L := by
  intro p hp
  have := h.2 p hp
  unfold fairB mayB at this
  simp at this
  omega

set_option maxHeartbeats 2000000 in
theorem rrow_any {w : World} {A : Option Addr} {n c : Nat} {L : List Pr} (h : Prs w A n c L) (hm : Small L) (hn : n ≤ 500) :
    Calls Try.prog 9 #[.slice A n c] w (Made w (rowL L)) := by
  have HL := Lib.hid h.len
  have H := Lib.hid h
  have HM := Lib.hid hm
  clear h hm
  go_enter Try.func9, Try.ntmps9
  go_wp2
  go_loopw [3, 4] (fun v i wr => ∃ j : Nat, j ≤ n ∧ i = .int .i64 j ∧ RowInv w L j v wr) (fun _ i _ => n - (intOf i).toNat)
  case atStart => exact ⟨0, Nat.zero_le _, rfl, none, 0, 0, rfl, prs_nil w, Below.refl _ _⟩
  case round =>
    obtain ⟨j, hj, rfl, A1, m, c1, rfl, hp, hb⟩ := hrel
    have HP := Lib.hid hp
    have HB := Lib.hid hb
    have hft := row_fit L j (by rw [HL.out]; exact hj)
    have HF := Lib.hid hft.1
    have hm1 : m ≤ j := by rw [← hp.len]; exact hft.2
    clear hp hft
    by_cases hlt : j < n
    · have hj' : j < L.length := by rw [HL.out]; exact hlt
      have HST := Lib.hid (row_step L hj')
      have hsm := HM.out _ (gt_mem hj')
      obtain ⟨b, oo, rfl, hbl, A2, n2, c2, B2, m2, d2, k0, k1, y1, y2⟩ := (H.out.below hb).at_ hlt
      have HC := rmay_any c2 y1
      have HY := Lib.hid (And.intro y1 y2)
      have hv : fairB (gt L j) = (mayB (gt L j).1 && decide (m2 ≤ 32)) := by unfold fairB; rw [y2.1]
      have HV := Lib.hid hv
      have hn2 : n2 ≤ 1000 := by rw [← y1.1]; exact hsm.1
      clear hv hsm hb y1 y2 hj'
      cases hmay : mayB (gt L j).1
      · rw [hmay] at HC HV
        have he : rowL (L.take (j + 1)) = rowL (L.take j) := by rw [HST.out, HV.out]; rfl
        have HE := Lib.hid he
        clear he hmay
        go_wp2_with fail
        refine HC.mono ?_
        rintro e w' ⟨rfl, rfl⟩
        go_wp2
        go_roundw
        case rel => exact ⟨j + 1, by omega, by go_num, A1, m, c1, rfl, by rw [HE.out]; exact HP.out, HB.out⟩
        case measure => simp [intOf]; omega
      · rw [hmay] at HC HV
        have HMY := Lib.hid hmay
        clear hmay
        by_cases h32 : m2 ≤ 32
        · have he : rowL (L.take (j + 1)) = putL (rowL (L.take j)) (gt L j).1 (gt L j).2 := by rw [HST.out, HV.out, show decide (m2 ≤ 32) = true by simp [h32]]; rfl
          have HE := Lib.hid he
          have HQ := Lib.hid (fun k => rput_any c2 d2 (HP.out.drewN k) (HY.out.1.drewN k) (HY.out.2.drewN k) HF.out.1 (small_fit HF.out) hn2 (by omega))
          clear he
          go_wp2_with fail
          refine HC.mono ?_
          rintro e w' ⟨rfl, rfl⟩
          go_wp2
          go_still_tail 11, (by kernel_rfl)
          change wpList _ _ _ _ _ wr.drew
          go_wp2_with fail
          refine (HQ.out 1).mono ?_
          rintro e w3 ⟨A3, n3, c3, rfl, hp3, hb3⟩
          have HP3 := Lib.hid hp3
          have HB3 := Lib.hid hb3
          clear hp3 hb3
          go_wp2
          go_roundw
          case rel => exact ⟨j + 1, by omega, by go_num, A3, n3, c3, rfl, by rw [HE.out]; exact HP3.out, (below_drewN HB.out 1).trans (HB3.out.mono HB.out.size)⟩
          case measure => simp [intOf]; omega
        · have he : rowL (L.take (j + 1)) = rowL (L.take j) := by rw [HST.out, HV.out, show decide (m2 ≤ 32) = false by simp; omega]; rfl
          have HE := Lib.hid he
          clear he
          go_wp2_with fail
          refine HC.mono ?_
          rintro e w' ⟨rfl, rfl⟩
          go_wp2
          go_roundw
          case rel => exact ⟨j + 1, by omega, by go_num, A1, m, c1, rfl, by rw [HE.out]; exact HP.out, HB.out⟩
          case measure => simp [intOf]; omega
    · have hall : L.take j = L := List.take_of_length_le (by rw [HL.out]; omega)
      rw [hall] at HP
      clear hall
      go_wp2
      go_ret
      exact ⟨A1, m, c1, rfl, HP.out, HB.out⟩
end Go.Proofs.Ytpicdokkdpbpdaa
