/- The walk of ArenaOnce: it returns true, and nothing that was there before the call is changed. Condition: what came in can be read. -/
import Derived.Test.YtbphjhmmdkaggaaNv
import Derived.Deep.RegionLaw
namespace Go.Proofs.Ytbphjhmmdkaggaa
open Go.RowKit
set_option linter.unusedVariables false

set_option maxRecDepth 100000 in
set_option maxHeartbeats 2000000 in
theorem once_long {w : World} {A : Option Addr} {n : Nat} (c : Nat) (hm : n ≤ maxLen) (hn : 200 < n) :
    Calls Try.prog 4 #[.slice A n c] w fun e w' => e = .returned (.bool true) ∧ Below w.heap.size w w' := by
  unfold maxLen at hm
  have h2 : (200 : Int) < n := by omega
  go_enter Try.func4, Try.ntmps4
  go_wp2_with fail
  refine (up_any _).mono ?_
  rintro e w1 ⟨rfl, hb1⟩
  go_wp2_with fail
  refine (new_arb _).mono ?_
  rintro e w2 ⟨rfl, -, hb2⟩
  have hb := hb1.trans (hb2.mono hb1.size)
  clear hb1 hb2
  go_wp2
  go_ret
  exact ⟨rfl, hb⟩

set_option maxRecDepth 100000 in
set_option maxHeartbeats 4000000 in
theorem once_short {w : World} {A : Option Addr} {n : Nat} (c : Nat) (h : Deeds w A n) (hn : n ≤ 200) :
    Calls Try.prog 4 #[.slice A n c] w fun e w' => e = .returned (.bool true) ∧ Below w.heap.size w w' := by
  have H := Lib.hid h
  have h2 : decide ((200 : Int) < n) = false := by simp; omega
  clear h
  go_enter Try.func4, Try.ntmps4
  go_wp2_with fail
  refine (up_any _).mono ?_
  rintro e w1 ⟨rfl, hb1⟩
  go_wp2_with fail
  refine (new_any _).mono ?_
  rintro e w2 ⟨rfl, ha2, hz2, hb2⟩
  have hR : OnceRel w w1.heap.size none 0 [] [] [] 0 w2 := ⟨_, ha2, (fun b hb => by rw [hb]; exact hb1.size), World.ownsRow_nil _ _ _ _, (fun a e => by cases e), ⟨List.nodup_nil, (fun x hx => by cases hx), rfl⟩, Nat.zero_le _, hb1.trans (hb2.mono hb1.size)⟩
  have HR := Lib.hid hR
  obtain ⟨G, hG⟩ : ∃ G, G = w1.heap.size := ⟨_, rfl⟩
  rw [← hG] at HR ⊢
  clear hR ha2 hz2 hb2 hb1 hG
  go_wp2
  clear h2
  go_loopw [5, 6, 7] (fun v m i wr => ∃ (A : Option Addr) (c j : Nat) (L : List (Option Nd)) (F U : List Nat), j ≤ n ∧ i = .int .i64 j ∧ m = .int .i64 L.length ∧ v = .slice A U.length c ∧ OnceRel w G A c L F U j wr) (fun _ _ i _ => n - (intOf i).toNat)
  case atStart => exact ⟨none, 0, 0, [], [], [], Nat.zero_le _, rfl, rfl, rfl, HR.out⟩
  case round =>
    obtain ⟨A1, c1, j, L, F, U, hj, rfl, rfl, rfl, hR⟩ := hrel
    clear HR
    by_cases hlt : j < n
    · obtain ⟨D, ha, hD, hown, hA, hI, hL, hb⟩ := hR
      obtain ⟨b, o, rfl, hbl, hat⟩ := H.out.2 (by omega)
      obtain ⟨wh, at', dh, dx, e0, e1, -, -, -, -, -, -, hwh, hat'⟩ := hat j hlt
      have c0 := (hb.cell (p := ⟨b, o + j * 7, none⟩) hbl).trans e0
      have c1' := (hb.cell (p := ⟨b, o + j * 7 + 1, none⟩) hbl).trans e1
      have hUL : U.length ≤ 200 := by have := hI.2.2; omega
      have hpk := pk_lt at' (U.length + 1) (by omega)
      obtain ⟨k, hk⟩ := Int.eq_ofNat_of_zero_le hpk.1
      have hkl : k < U.length + 1 := by omega
      have hpw := pk_lt wh 4 (by omega)
      have HS := Lib.hid (show OnceRel w G A1 c1 L F U j wr from ⟨D, ha, hD, hown, hA, hI, hL, hb⟩)
      clear e0 e1 hat ha hown hA hI hb
      go_wp2_with fail
      refine (pick_any at' (U.length + 1) k _ hat'.1 hat'.2 (by omega) (by omega) hk).mono ?_
      rintro e w3 ⟨rfl, rfl⟩
      go_wp2_with fail
      obtain ⟨q, hq⟩ : ∃ q, pk wh 4 = q := ⟨_, rfl⟩
      refine (pick_any wh 4 q _ hwh.1 hwh.2 (by omega) (by omega) hq).mono ?_
      rintro e w3 ⟨rfl, rfl⟩
      have hcase : q < 2 ∨ (¬ q < 2 ∧ k = U.length) ∨ (¬ q < 2 ∧ k < U.length) := by omega
      have hq0 : 0 ≤ q ∧ q < 4 := by rw [← hq]; exact hpw
      clear c0 c1' hpk hk hpw hq hwh hat'
      obtain ⟨i0, hi, hz0, hz1, hz2⟩ := info_parts Try.infoInt
      have HI := Lib.hid hi
      have HZ := Lib.hid (And.intro hz0 (And.intro hz1 hz2))
      clear hi hz0 hz1 hz2
      rcases hcase with hc | ⟨hc, rfl⟩ | ⟨hc, hku⟩
      all_goals first
        | (have hq2 : decide (q < 2) = true := by simpa using hc)
        | (have hq2 : decide (q < 2) = false := by simpa using hc)
      rotate_left 2
      · obtain ⟨D, ha, hD, hown, hA, hI, hL, hb⟩ := HS.out
        have hin := inv_free hI hku
        obtain ⟨gg, rfl, hgl, hcell⟩ := row_at hown hku
        have hf := free_used ha (U.getD k 0) (by have := usedB_lt hin.1; omega) hin.1 (by have := hI.2.2; omega)
        have hcap := (own_caps hown).1
        have HIN := Lib.hid hin
        have hUL2 : U.length ≤ L.length := hin.2.2
        have HUF := Lib.hid hI.2.2
        have HD := Lib.hid (And.intro hD (And.intro ha.lt (And.intro hown (And.intro hA hb))))
        have hkq : ((k : Int) == (U.length : Int)) = false := by simp; omega
        generalize hut : U.getD k 0 = ut at hcell hf HIN
        clear ha hD hown hA hI hb hin hut
        go_wp2_with fail
        refine hf.mono ?_
        rintro e w4 ⟨rfl, hT⟩
        clear hf hcell
        obtain ⟨D', ha, hD', hown, hA', hb⟩ := once_turn hT HD.out.1 HD.out.2.1 HD.out.2.2.1 HD.out.2.2.2.1 HD.out.2.2.2.2
        have hgg : gg < w4.heap.size := (hown.lt gg rfl).2
        have hggD : ¬ D' gg := hA' _ rfl
        have HT := Lib.hid (And.intro ha (And.intro hD' (And.intro hown (And.intro hA' hb))))
        have hsz := hb.size
        clear hT ha hD' hown hA' hb HD
        go_wp2
        have HM := Lib.hid (World.ownsRow_made (base := w.heap.size) (e := 3) (size := 1) w4 #[] 0 hsz (Nat.zero_le _) rfl)
        have HN1 := Lib.hid (fun j u hu => (((Below.refl w4.heap.size w4).alloc (Nat.le_refl _) (.cells #[] 3)).cell (p := (⟨gg, 0, none⟩ : Addr).add j) (by rw [add_block]; exact hgg)).trans (cells_take HT.out.2.2.1 k j u hu))
        have HN2 := Lib.hid (fun j u hu => (((Below.refl w4.heap.size w4).alloc (Nat.le_refl _) (.cells #[] 3)).cell (p := (⟨gg, k + 1, none⟩ : Addr).add j) (by rw [add_block]; exact hgg)).trans (cells_drop HT.out.2.2.1 (k + 1) j u hu))
        have HBS := Lib.hid (show w.heap.size ≤ (w4.alloc (.cells #[] 3)).drew.heap.size from Nat.le_trans hsz (by rw [show (w4.alloc (.cells #[] 3)).drew.heap.size = w4.heap.size + 1 from alloc_size rfl _]; exact Nat.le_succ _))
        have s1 : IntKind.i64.wrap ((k : Int) + 1) = (k : Int) + 1 := IntWalk.i64_in _ (by omega)
        have s2 : k ≤ c1 := by omega
        have s3 : k + 1 ≤ c1 := by omega
        have s4 : k + 1 ≤ U.length := hku
        have s6 : (0 : Int) ≤ (k : Int) + 1 := by omega
        have s7 : (k : Int) + 1 ≤ (U.length : Int) := by omega
        by_cases s5 : c1 = k + 1
        rotate_left
        · go_region_law (first
            | ((refine step_append_at _ (by rfl) _ _ 29 (by rfl) w.heap.size 3 i0 (.int .i64 0) 1 8 Try.underlying29 HI.out HZ.out.1 HZ.out.2.1 HZ.out.2.2 (by rfl) (by decide) (.slice (some ⟨w4.heap.size, 0, none⟩) 0 0) 0 [] (by rfl) HM.out ⟨gg, 0, none⟩ k c1 ((U.take k).map natV) (by rfl) (by simp; omega) HN1.out (nat_one _) (by unfold maxLen; omega) (by omega) HBS.out ?_
                intro v5 w5 hown5 hg5 hat5
                have hg5 : (w4.alloc (.cells #[] 3)).grownBy w5 (some w4.heap.size) := ⟨hg5.os, hg5.tape, hg5.output, hg5.size, hg5.block⟩
                have hat5 : v5.ownBlock = some w4.heap.size ∨ v5.ownBlock = some (w4.heap.size + 1) := hat5.imp id (fun e => e.trans (congrArg some (alloc_size rfl _)))
                have hs5 : w4.heap.size + 1 ≤ w5.heap.size := by have := hg5.size; simpa using this
                have HV5 := Lib.hid (And.intro (by simpa using hown5 : w5.ownsRow w.heap.size 3 1 v5 k ((U.take k).map natV)) (And.intro hg5 hat5))
                have HN5 := Lib.hid (fun j u hu => (hg5.cell_far ((⟨gg, k + 1, none⟩ : Addr).add j) (by rw [add_block, alloc_size rfl]; exact Nat.lt_succ_of_lt hgg) (by rw [add_block]; intro e; injection e with e; have e' : gg = w4.heap.size := e; omega)).trans (HN2.out j u hu))
                clear hown5 hg5 hat5))
            | ((refine step_append_at _ (by rfl) _ _ 29 (by rfl) w.heap.size 3 i0 (.int .i64 0) 1 8 Try.underlying29 HI.out HZ.out.1 HZ.out.2.1 HZ.out.2.2 (by rfl) (by decide) v5 k ((U.take k).map natV) (by rfl) HV5.out.1 ⟨gg, k + 1, none⟩ (U.length - (k + 1)) (c1 - (k + 1)) ((U.drop (k + 1)).map natV) (by rfl) (by simp) HN5.out (nat_one _) (by unfold maxLen; omega) (by omega) (by omega) ?_
                intro v6 w6 hown6 hg6 hat6
                have HV6 := Lib.hid (And.intro hown6 (And.intro hg6 hat6))
                clear hown6 hg6 hat6)))
          all_goals
            have hbl5 : Below w4.heap.size w4 w5 := ((Below.refl w4.heap.size w4).alloc (Nat.le_refl _) _).grown HV5.out.2.1 (by rw [alloc_size rfl]; exact Nat.le_succ _) (fun k hk => by injection hk with hk; omega)
            have hr5 : ∀ b, v5.ownBlock = some b → w.heap.size ≤ b ∧ ¬ D' b := fun b e => by
              have hb4 : w4.heap.size ≤ b := by
                rcases HV5.out.2.2 with h | h
                · rw [h] at e; injection e with e; omega
                · rw [h] at e; injection e with e; omega
              exact ⟨by omega, fun hd => by have := HT.out.1.lt b hd; omega⟩
            have hUl : (U.take k ++ U.drop (k + 1)).length + 1 = U.length := by simp; omega
            have hown6 : w6.ownsRow w.heap.size 3 1 v6 (U.take k ++ U.drop (k + 1)).length ((U.take k ++ U.drop (k + 1)).map natV) := by
              have h6 := HV6.out.1
              rw [← List.map_append] at h6
              have e : (U.take k ++ U.drop (k + 1)).length = k + (U.length - (k + 1)) := by simp; omega
              rw [e]
              exact h6
            have hrow := once_row HT.out.1 HT.out.2.1 HT.out.2.2.2.2 hbl5 HV6.out.2.1 hr5 hown6 (HV6.out.2.2.imp id (fun e k hk => by rw [e] at hk; injection hk with hk; have := hbl5.size; omega))
            obtain ⟨A6, c6, rfl, ha6, ho6, hA6, hb6⟩ := hrow
            have HF := Lib.hid (And.intro ha6 (And.intro HT.out.2.1 (And.intro ho6 (And.intro hA6 (And.intro hb6 HIN.out.2.1)))))
            clear ha6 ho6 hA6 hb6 hown6 hr5 hbl5 HV5 HV6 HN1 HN2 HN5 HM HIN hs5 HBS
            generalize U.take k ++ U.drop (k + 1) = U' at HF hUl
            have hgt : decide (L.length < U'.length) = false := by simp; omega
            have HUl := Lib.hid hUl
            clear hUl s1 s2 s4 s6 s7
            have hU := used_is HF.out.1 (U'.length : Int) (by have := HUF.out; have := HUl.out; simp; omega)
            go_wp2_with fail
            refine hU.mono ?_
            rintro e w7 ⟨rfl, hd7⟩
            have ha7 := HF.out.1.keep (drawn_agree hd7)
            have hL7 := len_is ha7 (L.length : Int) (by simp)
            clear hU ha7
            go_wp2_with fail
            refine hL7.mono ?_
            rintro e w8 ⟨rfl, rfl⟩
            clear hL7
            go_wp2
            go_roundw
            case rel => exact ⟨A6, c6, j + 1, L.set ut none, F ++ [ut], U', by omega, by go_num, by simp, rfl, OnceRel.drawn ⟨D', HF.out.1, HF.out.2.1, HF.out.2.2.1, HF.out.2.2.2.1, HF.out.2.2.2.2.2, by simp; omega, HF.out.2.2.2.2.1⟩ hd7⟩
            case measure => simp [intOf]; omega
        · subst s5
          clear s3
          have s8 : (k : Int) ≤ (k : Int) + 1 := by omega
          go_region_law (first
            | ((refine step_append_at _ (by rfl) _ _ 29 (by rfl) w.heap.size 3 i0 (.int .i64 0) 1 8 Try.underlying29 HI.out HZ.out.1 HZ.out.2.1 HZ.out.2.2 (by rfl) (by decide) (.slice (some ⟨w4.heap.size, 0, none⟩) 0 0) 0 [] (by rfl) HM.out ⟨gg, 0, none⟩ k (k + 1) ((U.take k).map natV) (by rfl) (by simp; omega) HN1.out (nat_one _) (by unfold maxLen; omega) (by omega) HBS.out ?_
                intro v5 w5 hown5 hg5 hat5
                have hg5 : (w4.alloc (.cells #[] 3)).grownBy w5 (some w4.heap.size) := ⟨hg5.os, hg5.tape, hg5.output, hg5.size, hg5.block⟩
                have hat5 : v5.ownBlock = some w4.heap.size ∨ v5.ownBlock = some (w4.heap.size + 1) := hat5.imp id (fun e => e.trans (congrArg some (alloc_size rfl _)))
                have hs5 : w4.heap.size + 1 ≤ w5.heap.size := by have := hg5.size; simpa using this
                have HV5 := Lib.hid (And.intro (by simpa using hown5 : w5.ownsRow w.heap.size 3 1 v5 k ((U.take k).map natV)) (And.intro hg5 hat5))
                have HN5 := Lib.hid (fun j u hu => (hg5.cell_far ((⟨gg, k + 1, none⟩ : Addr).add j) (by rw [add_block, alloc_size rfl]; exact Nat.lt_succ_of_lt hgg) (by rw [add_block]; intro e; injection e with e; have e' : gg = w4.heap.size := e; omega)).trans (HN2.out j u hu))
                clear hown5 hg5 hat5))
            | ((refine step_append_at _ (by rfl) _ _ 29 (by rfl) w.heap.size 3 i0 (.int .i64 0) 1 8 Try.underlying29 HI.out HZ.out.1 HZ.out.2.1 HZ.out.2.2 (by rfl) (by decide) v5 k ((U.take k).map natV) (by rfl) HV5.out.1 ⟨gg, 0, none⟩ _ _ ((U.drop (k + 1)).map natV) (by rfl) (by simp; omega) (by rw [List.drop_eq_nil_of_le (by omega)]; intro j u hu; simp at hu) (nat_one _) (by unfold maxLen; omega) (by omega) (by omega) ?_
                intro v6 w6 hown6 hg6 hat6
                have HV6 := Lib.hid (And.intro hown6 (And.intro hg6 hat6))
                clear hown6 hg6 hat6)))
          all_goals
            have hbl5 : Below w4.heap.size w4 w5 := ((Below.refl w4.heap.size w4).alloc (Nat.le_refl _) _).grown HV5.out.2.1 (by rw [alloc_size rfl]; exact Nat.le_succ _) (fun k hk => by injection hk with hk; omega)
            have hr5 : ∀ b, v5.ownBlock = some b → w.heap.size ≤ b ∧ ¬ D' b := fun b e => by
              have hb4 : w4.heap.size ≤ b := by
                rcases HV5.out.2.2 with h | h
                · rw [h] at e; injection e with e; omega
                · rw [h] at e; injection e with e; omega
              exact ⟨by omega, fun hd => by have := HT.out.1.lt b hd; omega⟩
            have hUl : (U.take k ++ U.drop (k + 1)).length + 1 = U.length := by simp; omega
            have hown6 : w6.ownsRow w.heap.size 3 1 v6 (U.take k ++ U.drop (k + 1)).length ((U.take k ++ U.drop (k + 1)).map natV) := by
              have h6 := HV6.out.1
              rw [← List.map_append] at h6
              have e : (U.take k ++ U.drop (k + 1)).length = k + 0 := by simp; omega
              rw [e]
              exact h6
            have hrow := once_row HT.out.1 HT.out.2.1 HT.out.2.2.2.2 hbl5 HV6.out.2.1 hr5 hown6 (HV6.out.2.2.imp id (fun e k hk => by rw [e] at hk; injection hk with hk; have := hbl5.size; omega))
            obtain ⟨A6, c6, rfl, ha6, ho6, hA6, hb6⟩ := hrow
            have HF := Lib.hid (And.intro ha6 (And.intro HT.out.2.1 (And.intro ho6 (And.intro hA6 (And.intro hb6 HIN.out.2.1)))))
            clear ha6 ho6 hA6 hb6 hown6 hr5 hbl5 HV5 HV6 HN1 HN2 HN5 HM HIN hs5 HBS
            generalize U.take k ++ U.drop (k + 1) = U' at HF hUl
            have hgt : decide (L.length < U'.length) = false := by simp; omega
            have HUl := Lib.hid hUl
            clear hUl s1 s2 s4 s6 s7
            have hU := used_is HF.out.1 (U'.length : Int) (by have := HUF.out; have := HUl.out; simp; omega)
            go_wp2_with fail
            refine hU.mono ?_
            rintro e w7 ⟨rfl, hd7⟩
            have ha7 := HF.out.1.keep (drawn_agree hd7)
            have hL7 := len_is ha7 (L.length : Int) (by simp)
            clear hU ha7
            go_wp2_with fail
            refine hL7.mono ?_
            rintro e w8 ⟨rfl, rfl⟩
            clear hL7
            go_wp2
            go_roundw
            case rel => exact ⟨A6, c6, j + 1, L.set ut none, F ++ [ut], U', by omega, by go_num, by simp, rfl, OnceRel.drawn ⟨D', HF.out.1, HF.out.2.1, HF.out.2.2.1, HF.out.2.2.2.1, HF.out.2.2.2.2.2, by simp; omega, HF.out.2.2.2.2.1⟩ hd7⟩
            case measure => simp [intOf]; omega
      all_goals (
        obtain ⟨D, ha, hD, hown, hA, hI, hL, hb⟩ := HS.out
        rcases List.eq_nil_or_concat F with rfl | ⟨F0, k', rfl⟩
        · have hM := make_new_lit ha (by omega) false (j : Int)
          have hin := inv_new ⟨false, [], [], [], j⟩ hI
          have HIN := Lib.hid hin
          have HD := Lib.hid (And.intro hD (And.intro ha.lt (And.intro hown (And.intro hA hb))))
          have hUn : U.length = L.length := hin.2.2
          have HUn := Lib.hid hUn
          clear ha hD hown hA hI hb hin hUn
          go_wp2_with fail
          refine hM.mono ?_
          rintro e w4 ⟨rfl, hT⟩
          clear hM
          obtain ⟨D', ha, hD', hown, hA', hb⟩ := once_turn hT HD.out.1 HD.out.2.1 HD.out.2.2.1 HD.out.2.2.2.1 HD.out.2.2.2.2
          have HT := Lib.hid (And.intro ha (And.intro hD' (And.intro hown (And.intro hA' hb))))
          clear hT ha hD' hown hA' hb HD
          go_wp2
          go_loop [10] (fun i => ∃ t : Nat, t ≤ U.length ∧ i = .int .i64 t) (fun i => U.length - (intOf i).toNat)
          case atStart => exact ⟨0, Nat.zero_le _, rfl⟩
          case round =>
            obtain ⟨t, ht, rfl⟩ := hrel
            by_cases hlt2 : t < U.length
            · obtain ⟨gg, rfl, hgl, hcell⟩ := row_at HT.out.2.2.1 hlt2
              have hne : (((U.getD t 0 : Nat) : Int) == (L.length : Int)) = false := by
                have := HIN.out.1 (U.getD t 0) (by rw [List.getD_eq_getElem?_getD, List.getElem?_eq_getElem hlt2]; exact List.getElem_mem _)
                simp only [beq_eq_false_iff_ne, ne_eq, Int.natCast_inj]
                exact this
              generalize U.getD t 0 = ut at hcell hne
              go_wp2
              go_round
              case rel => exact ⟨t + 1, by omega, by go_num⟩
              case measure => simp [intOf]; omega
            · clear ht
              have hr : ∀ b, (Value.slice A1 U.length c1).ownBlock = some b → w.heap.size ≤ b ∧ ¬ D' b := fun b e => by
                cases A1 with
                | none => cases e
                | some a => injection e with e; subst e; exact ⟨(HT.out.2.2.1.lt _ rfl).1, HT.out.2.2.2.1 a rfl⟩
              have HRB := Lib.hid hr
              have HO := Lib.hid (HT.out.2.2.1.alloc (.cells #[.int .i64 L.length] 3))
              have hsz := HT.out.2.2.2.2.size
              clear hr
              go_wp2_with (at_builtin; refine wpList_append_lies _ rfl _ _ 29 rfl w.heap.size 3 i0 (.int .i64 0) 1 8 Try.underlying29 HI.out HZ.out.1 HZ.out.2.1 HZ.out.2.2 rfl (by decide) _ _ _ rfl HO.out ⟨w4.heap.size, 0, none⟩ 1 1 [.int .i64 L.length] rfl rfl (one_cell_at rfl) (fun u hu => by simp at hu; subst hu; rfl) (by omega) (by unfold maxLen; omega) (by omega) (by simp; omega) (w4.heap.size + 1) (by simp) ?_)
              intro g' cap w5 hown5 hg5 hat5 hlt5
              have hrow := once_row (U := U ++ [L.length]) (v := .slice (some ⟨g', 0, none⟩) (U.length + 1) cap) HT.out.1 HT.out.2.1 HT.out.2.2.2.2 ((Below.refl w4.heap.size w4).alloc (Nat.le_refl _) _) hg5 HRB.out (by simpa using hown5) (hat5.imp (fun e => e.symm) (fun e k hk => by injection hk with hk; have hk' : g' = k := hk; omega))
              obtain ⟨A5, c5, e5, ha5, ho5, hA5, hb5⟩ := hrow
              simp at e5
              obtain ⟨rfl, rfl⟩ := e5
              have HF := Lib.hid (And.intro ha5 (And.intro HT.out.2.1 (And.intro ho5 (And.intro hA5 hb5))))
              have hUs := HUn.out
              have hgt : (L.length : Int) < (U.length : Int) + 1 := by omega
              have HUs := Lib.hid hUs
              clear hown5 hg5 hat5 hlt5 ha5 ho5 hA5 hb5 hUs
              have hU := used_is HF.out.1 ((U.length : Int) + 1) (by have := HUs.out; simp; omega)
              go_wp2_with fail
              refine hU.mono ?_
              rintro e w6 ⟨rfl, hd6⟩
              have ha6 := HF.out.1.keep (drawn_agree hd6)
              have hL2 := len_is ha6 ((U.length : Int) + 1) (by have := HUs.out; simp; omega)
              clear hU ha6
              go_wp2_with fail
              refine hL2.mono ?_
              rintro e w7 ⟨rfl, rfl⟩
              clear hL2
              go_wp2
              go_roundw
              case rel =>
                refine ⟨some ⟨g', 0, none⟩, cap, j + 1, L ++ [some ⟨false, [], [], [], j⟩], [], U ++ [L.length], by omega, by go_num, ?_, by simp, ?_⟩
                · have := HUs.out
                  simp
                  omega
                · exact OnceRel.drawn ⟨D', HF.out.1, HF.out.2.1, HF.out.2.2.1, HF.out.2.2.2.1, HIN.out.2.1, by simp; omega, HF.out.2.2.2.2⟩ hd6
              case measure => simp [intOf]; omega
        · have hL0 : F0.length ≤ L.length := by have := hI.2.2; simp at this; omega
          rw [List.concat_eq_append] at ha hI
          have hM := make_pop_lit ha (by omega) (by omega) false (j : Int)
          have hin := inv_pop ⟨false, [], [], [], j⟩ hI ha.free
          have hUF := hI.2.2
          have HIN := Lib.hid hin
          have HD := Lib.hid (And.intro hD (And.intro ha.lt (And.intro hown (And.intro hA hb))))
          have hUn : U.length + 1 ≤ L.length := hin.2.2
          have HUF := Lib.hid hUF
          have HUn := Lib.hid hUn
          clear ha hD hown hA hI hb hin hUn hUF
          go_wp2_with fail
          refine hM.mono ?_
          rintro e w4 ⟨rfl, hT⟩
          clear hM
          obtain ⟨D', ha, hD', hown, hA', hb⟩ := once_turn hT HD.out.1 HD.out.2.1 HD.out.2.2.1 HD.out.2.2.2.1 HD.out.2.2.2.2
          have HT := Lib.hid (And.intro ha (And.intro hD' (And.intro hown (And.intro hA' hb))))
          clear hT ha hD' hown hA' hb HD
          go_wp2
          go_loop [10] (fun i => ∃ t : Nat, t ≤ U.length ∧ i = .int .i64 t) (fun i => U.length - (intOf i).toNat)
          case atStart => exact ⟨0, Nat.zero_le _, rfl⟩
          case round =>
            obtain ⟨t, ht, rfl⟩ := hrel
            by_cases hlt2 : t < U.length
            · obtain ⟨gg, rfl, hgl, hcell⟩ := row_at HT.out.2.2.1 hlt2
              have hne : (((U.getD t 0 : Nat) : Int) == (k' : Int)) = false := by
                have := HIN.out.1 (U.getD t 0) (by rw [List.getD_eq_getElem?_getD, List.getElem?_eq_getElem hlt2]; exact List.getElem_mem _)
                simp only [beq_eq_false_iff_ne, ne_eq, Int.natCast_inj]
                exact this
              generalize U.getD t 0 = ut at hcell hne
              go_wp2
              go_round
              case rel => exact ⟨t + 1, by omega, by go_num⟩
              case measure => simp [intOf]; omega
            · clear ht
              have hr : ∀ b, (Value.slice A1 U.length c1).ownBlock = some b → w.heap.size ≤ b ∧ ¬ D' b := fun b e => by
                cases A1 with
                | none => cases e
                | some a => injection e with e; subst e; exact ⟨(HT.out.2.2.1.lt _ rfl).1, HT.out.2.2.2.1 a rfl⟩
              have HRB := Lib.hid hr
              have HO := Lib.hid (HT.out.2.2.1.alloc (.cells #[.int .i64 k'] 3))
              have hsz := HT.out.2.2.2.2.size
              clear hr
              go_wp2_with (at_builtin; refine wpList_append_lies _ rfl _ _ 29 rfl w.heap.size 3 i0 (.int .i64 0) 1 8 Try.underlying29 HI.out HZ.out.1 HZ.out.2.1 HZ.out.2.2 rfl (by decide) _ _ _ rfl HO.out ⟨w4.heap.size, 0, none⟩ 1 1 [.int .i64 k'] rfl rfl (one_cell_at rfl) (fun u hu => by simp at hu; subst hu; rfl) (by omega) (by unfold maxLen; omega) (by omega) (by simp; omega) (w4.heap.size + 1) (by simp) ?_)
              intro g' cap w5 hown5 hg5 hat5 hlt5
              have hrow := once_row (U := U ++ [k']) (v := .slice (some ⟨g', 0, none⟩) (U.length + 1) cap) HT.out.1 HT.out.2.1 HT.out.2.2.2.2 ((Below.refl w4.heap.size w4).alloc (Nat.le_refl _) _) hg5 HRB.out (by simpa using hown5) (hat5.imp (fun e => e.symm) (fun e k hk => by injection hk with hk; have hk' : g' = k := hk; omega))
              obtain ⟨A5, c5, e5, ha5, ho5, hA5, hb5⟩ := hrow
              simp at e5
              obtain ⟨rfl, rfl⟩ := e5
              have HF := Lib.hid (And.intro ha5 (And.intro HT.out.2.1 (And.intro ho5 (And.intro hA5 hb5))))
              have hUs := HUn.out
              have hgt : decide ((L.length : Int) < (U.length : Int) + 1) = false := by simp; omega
              have HUs := Lib.hid hUs
              clear hown5 hg5 hat5 hlt5 ha5 ho5 hA5 hb5 hUs
              have hU := used_is HF.out.1 ((U.length : Int) + 1) (by have := HUF.out; simp at this ⊢; omega)
              go_wp2_with fail
              refine hU.mono ?_
              rintro e w6 ⟨rfl, hd6⟩
              have ha6 := HF.out.1.keep (drawn_agree hd6)
              have hL2 := len_is ha6 (L.length : Int) (by simp)
              clear hU ha6
              go_wp2_with fail
              refine hL2.mono ?_
              rintro e w7 ⟨rfl, rfl⟩
              clear hL2
              go_wp2
              go_roundw
              case rel =>
                refine ⟨some ⟨g', 0, none⟩, cap, j + 1, L.set k' (some ⟨false, [], [], [], j⟩), F0, U ++ [k'], by omega, by go_num, by simp, by simp, ?_⟩
                · exact OnceRel.drawn ⟨D', HF.out.1, HF.out.2.1, HF.out.2.2.1, HF.out.2.2.2.1, HIN.out.2.1, by simp; omega, HF.out.2.2.2.2⟩ hd6
              case measure => simp [intOf]; omega
      )
    · obtain ⟨D, ha, hD, hown, hA, hI, hL, hb⟩ := hR
      clear ha hD hown hA hI hL
      go_wp2
      go_ret
      exact ⟨rfl, hb⟩

theorem once_any {w : World} {A : Option Addr} {n : Nat} (c : Nat) (h : Deeds w A n) :
    Calls Try.prog 4 #[.slice A n c] w fun e w' => e = .returned (.bool true) ∧ Below w.heap.size w w' := by
  by_cases hn : n ≤ 200
  · exact once_short c h hn
  · exact once_long c h.1 (by omega)
end Go.Proofs.Ytbphjhmmdkaggaa
