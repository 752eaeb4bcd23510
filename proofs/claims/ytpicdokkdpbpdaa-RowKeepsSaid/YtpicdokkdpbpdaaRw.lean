/- The walk of RowKeeps: it returns true, and nothing that was there before the call is changed. Condition: what came in can be read. -/
import Derived.Test.YtpicdokkdpbpdaaRv
import Derived.Deep.RegionHeld3
namespace Go.Proofs.Ytpicdokkdpbpdaa
open Go.RowKit
set_option linter.unusedVariables false

set_option maxRecDepth 100000 in
set_option maxHeartbeats 4000000 in
theorem keeps_let {w : World} {A C D E : Option Addr} {n c o p z : Nat} (q r s : Nat) {L : List Pr} (h : Prs w A n c L) (hl : fewB L 100 = false ∨ 100 < o ∨ 100 < z ∨ 100 < p) :
    Calls Try.prog 4 #[.slice A n c, .slice C o q, .slice D p r, .slice E z s] w fun e w' => e = .returned (.bool true) ∧ Below w.heap.size w w' := by
  have H := Lib.hid h
  clear h
  go_enter Try.func4, Try.ntmps4
  go_wp2_with fail
  refine (up_any _).mono ?_
  rintro e w1 ⟨rfl, hb1⟩
  have HB := Lib.hid hb1
  have HF : Calls Try.prog 6 #[.slice A n c, .int .i64 100] w1 _ := few_any 100 (H.out.below hb1)
  have HF := Lib.hid HF
  clear hb1
  cases hf : fewB L 100
  · rw [hf] at HF
    clear hl hf
    go_wp2_with fail
    refine HF.out.mono ?_
    rintro e w2 ⟨rfl, rfl⟩
    go_wp2
    go_ret
    exact ⟨rfl, HB.out⟩
  · rw [hf] at HF hl
    have hl : 100 < o ∨ 100 < z ∨ 100 < p := by
      rcases hl with hl | hl
      · cases hl
      · exact hl
    clear hf
    by_cases h1 : 100 < o
    · clear hl
      have g : (100 : Int) < o := by omega
      go_wp2_with fail
      refine HF.out.mono ?_
      rintro e w2 ⟨rfl, rfl⟩
      go_wp2
      go_ret
      exact ⟨rfl, HB.out⟩
    · have g1 : decide (100 < (o : Int)) = false := by simp; omega
      by_cases h2 : 100 < z
      · have g : (100 : Int) < z := by omega
        clear hl h1
        go_wp2_with fail
        refine HF.out.mono ?_
        rintro e w2 ⟨rfl, rfl⟩
        go_wp2
        go_ret
        exact ⟨rfl, HB.out⟩
      · have g2 : decide (100 < (z : Int)) = false := by simp; omega
        have g : (100 : Int) < p := by omega
        clear hl h1 h2
        go_wp2_with fail
        refine HF.out.mono ?_
        rintro e w2 ⟨rfl, rfl⟩
        go_wp2
        go_ret
        exact ⟨rfl, HB.out⟩

set_option maxRecDepth 100000 in
set_option maxHeartbeats 8000000 in
theorem keeps_short {w : World} {A C D E : Option Addr} {n c o p z : Nat} (q r s : Nat) {L : List Pr} {k v x : List UInt8} (h : Prs w A n c L) (h1 : Byt w C o k) (h2 : Byt w D p v) (h3 : Byt w E z x) (hf : fewB L 100 = true) (ho : o ≤ 100) (hz : z ≤ 100) (hp : p ≤ 100) :
    Calls Try.prog 4 #[.slice A n c, .slice C o q, .slice D p r, .slice E z s] w fun e w' => e = .returned (.bool true) ∧ Below w.heap.size w w' := by
  obtain ⟨hsm, hlen⟩ := few_small hf
  have HM := Lib.hid hsm
  have hn : n ≤ 100 := by rw [← h.len]; exact hlen
  have HL := Lib.hid h.len
  have H := Lib.hid h
  have H1 := Lib.hid h1
  have H2 := Lib.hid h2
  have H3 := Lib.hid h3
  have HF := Lib.hid hf
  clear h h1 h2 h3 hf hsm hlen
  have g1 : decide (100 < (o : Int)) = false := by simp; omega
  have g2 : decide (100 < (z : Int)) = false := by simp; omega
  have g3 : decide (100 < (p : Int)) = false := by simp; omega
  go_enter Try.func4, Try.ntmps4
  go_wp2_with fail
  refine (up_any _).mono ?_
  rintro e w1 ⟨rfl, hb1⟩
  have B1 := Lib.hid hb1
  have HFW : Calls Try.prog 6 #[.slice A n c, .int .i64 100] w1 _ := few_any 100 (H.out.below hb1)
  rw [HF.out] at HFW
  clear hb1 HF
  go_wp2_with fail
  refine HFW.mono ?_
  rintro e w1 ⟨rfl, rfl⟩
  clear HFW
  go_wp2
  clear g1 g2 g3
  go_loopw [11, 12] (fun v i wr => ∃ j : Nat, j ≤ n ∧ i = .int .i64 j ∧ RowInv w L j v wr) (fun _ i _ => n - (intOf i).toNat)
  case atStart => exact ⟨0, Nat.zero_le _, rfl, none, 0, 0, rfl, prs_nil _, B1.out⟩
  case round =>
    obtain ⟨j, hj, rfl, A1, m, c1, rfl, hp1, hb⟩ := hrel
    have HP := Lib.hid hp1
    have HB := Lib.hid hb
    have hft := row_fit L j (by rw [HL.out]; exact hj)
    have HT := Lib.hid hft.1
    have hm1 : m ≤ j := by rw [← hp1.len]; exact hft.2
    clear hp1 hft
    by_cases hlt : j < n
    · have hj' : j < L.length := by rw [HL.out]; exact hlt
      have HST := Lib.hid (row_step L hj')
      have HT1 := Lib.hid (row_fit L (j + 1) hj').1
      have hsm := HM.out _ (gt_mem hj')
      obtain ⟨b, oo, rfl, hbl, A2, n2, c2, B2, m2, d2, k0, k1, y1, y2⟩ := (H.out.below hb).at_ hlt
      have hn2 : n2 ≤ 1000 := by rw [← y1.1]; exact hsm.1
      have hm2 : m2 ≤ 1000 := by rw [← y2.1]; exact hsm.2
      have hw : Below wr.heap.size wr wr.drew := ⟨rfl, rfl, rfl, Nat.le_refl _, fun _ _ => rfl⟩
      have HB1 := Lib.hid (Below.on hb hw)
      cases hfr : fairB (gt L j)
      · have HQ := put_no (w := wr.drew) (A := A1) (n := m) (c := c1) c2 d2 (y1.below hw) (y2.below hw) hfr
        rw [hfr] at HST
        have he : rowL (L.take (j + 1)) = rowL (L.take j) := by rw [HST.out]; rfl
        have HE := Lib.hid he
        rw [he] at HT1
        have HI := is_any (HP.out.below hw)
        rw [HT1.out.is] at HI
        have HQ := Lib.hid HQ
        clear he hfr HST hsm hb y1 y2 hj' hw
        go_wp2
        go_region_held3 (fun w' => w'.cell? ⟨b, oo + j * 2, none⟩ = some (.slice A2 n2 c2) ∧ w'.cell? ⟨b, oo + j * 2 + 1, none⟩ = some (.slice B2 m2 d2)) (go_keep)
          ((go_at_call 15
            (with_reducible refine HQ.out.mono ?_)
            rintro e w2 ⟨rfl, rfl⟩))
        clear k0 k1 HQ
        go_wp2_with fail
        refine HI.mono ?_
        rintro e w3 ⟨rfl, hb3⟩
        have HB3 := Lib.hid hb3
        clear HI hb3
        go_wp2_with fail
        go_roundw
        case rel => exact ⟨j + 1, by omega, by go_num, A1, m, c1, rfl, by rw [HE.out]; exact HP.out.below (show Below wr.heap.size wr w3 from undrew HB3.out), Below.on HB1.out HB3.out⟩
        case measure => simp [intOf]; omega
      · have HQ := put_yes c2 d2 (HP.out.below hw) (y1.below hw) (y2.below hw) HT.out.1 (show m ≤ 1000 by omega) (small_fit HT.out) hfr hn2 hm2
        rw [hfr] at HST
        have he : rowL (L.take (j + 1)) = putL (rowL (L.take j)) (gt L j).1 (gt L j).2 := by rw [HST.out]; rfl
        rw [he] at HT1
        have HE := Lib.hid he
        have HQ := Lib.hid HQ
        have HC0 := Lib.hid k0
        have HC1 := Lib.hid k1
        have hbl' : b < w.heap.size := by
          obtain ⟨b', oo', ee, hbl', _⟩ := H.out.at_ hlt
          simp at ee
          obtain ⟨rfl, rfl⟩ := ee
          exact hbl'
        clear he hfr HST hsm hb y1 y2 hj' hw
        go_wp2
        go_region_held3 (fun w' => w'.cell? ⟨b, oo + j * 2, none⟩ = some (.slice A2 n2 c2) ∧ w'.cell? ⟨b, oo + j * 2 + 1, none⟩ = some (.slice B2 m2 d2)) (go_keep)
          ((go_at_call 15
            (with_reducible refine HQ.out.mono ?_)
            rintro e w2 ⟨A3, n3, c3, rfl, hp3, hb3⟩
            have hb3 := undrew hb3
            have e0 := (hb3.cell (p := ⟨b, oo + j * 2, none⟩) hbl).trans HC0.out
            have e1 := (hb3.cell (p := ⟨b, oo + j * 2 + 1, none⟩) hbl).trans HC1.out
            have HP3 := Lib.hid hp3
            have HB3 := Lib.hid (Below.on HB.out hb3)
            clear hp3 hb3))
        clear k0 k1 HQ e0 e1 HC0 HC1
        have HI := is_any HP3.out
        rw [HT1.out.is] at HI
        go_wp2_with fail
        refine HI.mono ?_
        rintro e w4 ⟨rfl, hb4⟩
        have HB4 := Lib.hid hb4
        clear HI hb4
        go_wp2_with fail
        go_roundw
        case rel => exact ⟨j + 1, by omega, by go_num, A3, n3, c3, rfl, by rw [HE.out]; exact HP3.out.below HB4.out, Below.on HB3.out HB4.out⟩
        case measure => simp [intOf]; omega
    · have hall : L.take j = L := List.take_of_length_le (by rw [HL.out]; omega)
      rw [hall] at HP HT
      have hm1 : m ≤ 100 := by omega
      generalize rowL L = R at HP HT
      clear hall hb
      cases hfr : fairB (k, v)
      · have HQ := put_no (w := wr) (A := A1) (n := m) (c := c1) q r (H1.out.below HB.out) (H2.out.below HB.out) hfr
        clear hfr
        go_wp2_with fail
        refine HQ.mono ?_
        rintro e w2 ⟨rfl, rfl⟩
        clear HQ
        go_wp2
        go_ret
        exact ⟨rfl, HB.out⟩
      · have HQ := put_yes q r HP.out (H1.out.below HB.out) (H2.out.below HB.out) HT.out.1 (show m ≤ 1000 by omega) (small_fit HT.out) hfr (show o ≤ 1000 by omega) (show p ≤ 1000 by omega)
        have HFT := Lib.hid (HT.out.put hfr)
        obtain ⟨hh1, hh2, hh3, hh4⟩ := has_put HT.out.1 k v
        have hh5 := len_put R k v
        have hh6 : R.length = m := HP.out.len
        generalize hQ : putL R k v = Q at HQ HFT hh1 hh2 hh3 hh4 hh5
        clear hQ hfr
        go_wp2_with fail
        refine HQ.mono ?_
        rintro e w2 ⟨A2, n2, c2, rfl, hp2, hb2⟩
        clear HQ
        have hl2 : Q.length = n2 := hp2.len
        have hn2 : n2 ≤ 101 := by omega
        have hlen : (delL Q k).length + 1 = n2 := by omega
        have hP : pos Q k < n2 := by omega
        have HP2 := Lib.hid hp2
        have HB2 := Lib.hid (Below.on HB.out hb2)
        have HG := Lib.hid hh3
        have HLN := Lib.hid hlen
        clear hp2 hb2 hh2 hh3 hh4 hh5 hh6 hl2 hlen
        have HF := find_any q HP2.out (H1.out.below HB2.out) HFT.out.1 (show n2 ≤ 1000 by omega)
        rw [hh1] at HF
        have HH := Lib.hid hh1
        clear hh1
        generalize pos Q k = P at HF hP HG
        go_wp2_with fail
        refine HF.mono ?_
        rintro e w3 ⟨rfl, hb⟩
        have HP3 := Lib.hid (HP2.out.below hb)
        have HB3 := Lib.hid (Below.on HB2.out hb)
        clear HF hb HP2 HB2
        have HI := is_any HP3.out
        rw [HFT.out.is] at HI
        go_wp2_with fail
        refine HI.mono ?_
        rintro e w4 ⟨rfl, hb⟩
        have HP4 := Lib.hid (HP3.out.below hb)
        have HB4 := Lib.hid (Below.on HB3.out hb)
        clear HI hb HP3 HB3
        have t1 : decide ((P : Int) < 0) = false := by simp
        have t2 : decide ((n2 : Int) ≤ P) = false := by simp; omega
        obtain ⟨b, oo, rfl, hbl, A3, n3, c3, B3, m3, d3, k0, k1, y1, y2⟩ := HP4.out.at_ hP
        rw [HG.out] at y1 y2
        have r1 := fun kk => run_str (c := d3) (y2.drewN kk)
        have r2 := fun kk => run_str (c := r) ((H2.out.below HB4.out).drewN kk)
        clear y1 y2
        go_wp2
        go_quiet (fail)
        clear r1 r2 k0 k1 t1 t2
        have hlq : Q.length = n2 := HP4.out.len
        have hld := len_del Q x
        have HHD := Lib.hid (has_del Q k x HH.out)
        go_wp2_with fail
        refine (del_any s (HP4.out.drewN _) ((H3.out.below HB4.out).drewN _) HFT.out.1 (show n2 ≤ 1000 by omega) (small_fit HFT.out)).mono ?_
        rintro e w5 ⟨A4, n4, c4, rfl, hp5, hb⟩
        have hb : Below w4.heap.size w4 w5 := ⟨hb.os, hb.tape, hb.output, hb.size, hb.block⟩
        have hn4 : n4 ≤ 1000 := by have := hp5.len; omega
        have HP5 := Lib.hid hp5
        have HC5 := Lib.hid hb
        have HB5 := Lib.hid (Below.on HB4.out hb)
        clear hp5 hb hlq hld
        have HF := find_any q HP5.out (H1.out.below HB5.out) (srt_del HFT.out.1 x) hn4
        rw [HHD.out] at HF
        go_wp2_with fail
        refine HF.mono ?_
        rintro e w6 ⟨rfl, hb⟩
        have HP6 := Lib.hid (HP5.out.below hb)
        have HC6 := Lib.hid (Below.on HC5.out hb)
        have HB6 := Lib.hid (Below.on HB5.out hb)
        clear HF hb HP5 HC5 HB5
        have HD := del_any q (HP4.out.below HC6.out) (H1.out.below HB6.out) HFT.out.1 (show n2 ≤ 1000 by omega) (small_fit HFT.out)
        rw [HH.out] at HD
        go_wp2_with fail
        refine HD.mono ?_
        rintro e w7 ⟨A5, n5, c5, rfl, hp7, hb⟩
        have hn5 : n5 + 1 = n2 := by rw [← hp7.len]; exact HLN.out
        have HN5 := Lib.hid hn5
        have HP7 := Lib.hid (HP6.out.below hb)
        have HB7 := Lib.hid (Below.on HB6.out hb)
        clear HD hp7 hb HP6 HB6 HC6 hn5
        have HI := is_any HP7.out
        rw [(HFT.out.del x).is] at HI
        go_wp2_with fail
        refine HI.mono ?_
        rintro e w8 ⟨rfl, hb⟩
        have HB8 := Lib.hid (Below.on HB7.out hb)
        clear HI hb HB7 HP7
        have r1 := run_str (c := q) (H1.out.below HB8.out)
        have r2 := run_str (c := s) (H3.out.below HB8.out)
        have hz1 : ((n5 : Int) == (n2 : Int) - 1) = true := by have := HN5.out; simp; omega
        have hz2 : (1 : Int) ≤ n2 := by have := HN5.out; omega
        by_cases hko : k = x
        · subst hko
          have e1 : sameB k k = true := by simp [sameB]
          have e2 : (k != k) = false := by simp
          go_wp2
          go_ret
          exact ⟨rfl, HB8.out⟩
        · have e1 : sameB k x = false := by simp [sameB, hko]
          have e2 : (k != x) = true := by simp [hko]
          have e3 : (k == x) = false := by simp [hko]
          go_wp2
          go_ret
          exact ⟨rfl, HB8.out⟩

theorem keeps_any {w : World} {A C D E : Option Addr} {n c o p z : Nat} (q r s : Nat) {L : List Pr} {k v x : List UInt8} (h : Prs w A n c L) (h1 : Byt w C o k) (h2 : Byt w D p v) (h3 : Byt w E z x) :
    Calls Try.prog 4 #[.slice A n c, .slice C o q, .slice D p r, .slice E z s] w fun e w' => e = .returned (.bool true) ∧ Below w.heap.size w w' := by
  by_cases hl : fewB L 100 = false ∨ 100 < o ∨ 100 < z ∨ 100 < p
  · exact keeps_let q r s h hl
  · exact keeps_short q r s h h1 h2 h3 (by cases hf : fewB L 100 <;> simp_all) (by omega) (by omega) (by omega)
end Go.Proofs.Ytpicdokkdpbpdaa
