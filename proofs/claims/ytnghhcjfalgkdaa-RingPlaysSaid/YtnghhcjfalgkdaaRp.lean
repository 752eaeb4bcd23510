/- The walk of RingPlays: it returns true, and nothing that was there before the call is changed. -/
import Derived.Test.YtnghhcjfalgkdaaRs
import Derived.Test.YtnghhcjfalgkdaaRc
import Derived.Laws.OwnMore
namespace Go.Proofs.Ytnghhcjfalgkdaa
open Go.RowKit
set_option linter.unusedVariables false
set_option maxRecDepth 100000

theorem wraps (a : Int) (h : -1000 ≤ a ∧ a ≤ 3000) : IntKind.i64.wrap a = a ∧ wrap64 a = a := ⟨IntWalk.i64_in _ (by omega), IntWalk.wrap64_in _ (by omega)⟩
def cutS (A : Option Addr) (k c : Nat) : Option Addr := if c = k then A else A.map (·.add k)
theorem off_cut {N : Nat} {A : Option Addr} (h : Off N A) (k c : Nat) : Off N (cutS A k c) := by
  intro a e
  unfold cutS at e
  split at e
  · exact h a e
  · cases A with
    | none => cases e
    | some b =>
      injection e with e
      subst e
      rw [add_block]
      exact h b rfl
theorem Lss.tail {w : World} {A : Option Addr} {c : Nat} {x : ByteArray} {M : List ByteArray} (h : Lss w A c (x :: M)) : Lss w (cutS A 1 c) (c - 1) M := by
  obtain ⟨h1, h2, h3, h4⟩ := h
  rw [List.length_cons] at h1
  refine ⟨by omega, by omega, fun e => ?_, fun h0 => ?_⟩
  · unfold cutS at e
    split at e
    · omega
    · cases A with
      | none => have := h3 rfl; omega
      | some a => cases e
  · obtain ⟨b, o, e, hb, hj⟩ := h4 (by simp)
    refine ⟨b, o + 1, ?_, hb, fun j hl => ?_⟩
    · unfold cutS
      rw [if_neg (by omega), e]
      simp only [Option.map_some]
      rw [add_lit]
    · have := hj (j + 1) (by simp; omega)
      rw [show o + 1 + j = o + (j + 1) by omega, this]
      rfl

/-- A deed that came in. -/
structure LDe (w : World) (b off : Nat) (wh : Int) (tx : ByteArray) : Prop where
  c0 : w.cell? ⟨b, off, none⟩ = some (.int .i64 wh)
  c1 : w.cell? ⟨b, off + 1, none⟩ = some (.string tx)
  h1 : -9223372036854775808 ≤ wh ∧ wh ≤ 9223372036854775807
theorem LDe.below {w w' : World} {b off B : Nat} {wh : Int} {tx : ByteArray} (h : LDe w b off wh tx) (hb : Below B w w') (hB : b < B) : LDe w' b off wh tx :=
  ⟨by rw [hb.cell hB]; exact h.c0, by rw [hb.cell hB]; exact h.c1, h.h1⟩

set_option maxHeartbeats 2000000 in
theorem plays_no (n : Int) (A : Option Addr) (len cap : Nat) (w : World) (h : n < 1 ∨ 64 < n) :
    Calls Try.prog 3 #[.int .i64 n, .slice A len cap] w fun e w' => e = .returned (.bool true) ∧ Below w.heap.size w w' := by
  have HUP := up_any w
  have he := eql_err
  rcases h with h | h
  all_goals
    go_enter Try.func3, Try.ntmps3
    go_wp2_with fail
    refine HUP.mono ?_
    rintro e w1 ⟨rfl, hb1⟩
    clear HUP
    go_wp2_with fail
    refine (new_nos n _ (by omega)).mono ?_
    rintro e w2 ⟨rfl, rfl⟩
    go_wp2
    go_ret
    exact ⟨rfl, hb1⟩

set_option maxHeartbeats 2000000 in
theorem plays_long (n : Nat) (A : Option Addr) (len cap : Nat) (w : World) (h1 : 1 ≤ n) (h2 : n ≤ 64) (hl : 300 < len) (hm : len ≤ maxLen) :
    Calls Try.prog 3 #[.int .i64 (n : Int), .slice A len cap] w fun e w' => e = .returned (.bool true) ∧ Below w.heap.size w w' := by
  have HUP := up_any w
  unfold maxLen at hm
  have h300 : decide (300 < (len : Int)) = true := by simp; omega
  go_enter Try.func3, Try.ntmps3
  go_wp2_with fail
  refine HUP.mono ?_
  rintro e w1 ⟨rfl, hb1⟩
  clear HUP
  go_wp2_with fail
  refine (new_oks n _ h1 h2).mono ?_
  rintro e w2 ⟨rfl, -, hb2⟩
  go_wp2
  go_ret
  exact ⟨rfl, hb1.trans (hb2.mono hb1.size)⟩

/-- What holds behind k deeds. -/
structure PlI (w : World) (N n k t : Nat) (L : List ByteArray) (A : Option Addr) (c : Nat) (wr : World) : Prop where
  few : t + L.length ≤ k
  ring : Rgs wr N n t L
  want : Lss wr A c L
  off : Off N A
  below : Below w.heap.size w wr

theorem PlI.draw {w wr : World} {N n k t : Nat} {L : List ByteArray} {A : Option Addr} {c : Nat} (h : PlI w N n k t L A c wr) (d : Nat) : PlI w N n k t L A c (wr.drewN d) :=
  ⟨h.few, h.ring.drewN d, h.want.keep (Nat.le_refl _) (fun _ _ _ _ _ => rfl), h.off, ⟨h.below.os, h.below.tape, h.below.output, h.below.size, h.below.block⟩⟩
theorem PlI.next {w wr : World} {N n k k' t : Nat} {L : List ByteArray} {A : Option Addr} {c : Nat} (h : PlI w N n k t L A c wr) (hk : k ≤ k') : PlI w N n k' t L A c wr :=
  ⟨Nat.le_trans h.few hk, h.ring, h.want, h.off, h.below⟩
theorem wraps3 (t m : Nat) (h : t + m ≤ 1000) : IntKind.u64.wrap (t : Int) = (t : Int) ∧ IntKind.i64.wrap ((t : Int) + (m : Int)) = (t : Int) + (m : Int) ∧ wrap64 ((t : Int) + (m : Int)) = (t : Int) + (m : Int) ∧ IntKind.u64.wrap ((t : Int) + (m : Int)) = (t : Int) + (m : Int) :=
  ⟨IntWalk.u64_in _ (by omega), IntWalk.i64_in _ (by omega), IntWalk.wrap64_in _ (by omega), IntWalk.u64_in _ (by omega)⟩

theorem step_app (w : World) {ops : Array Oper} {o : Oper} {a : Act} {K : Act → World → Prop} {Q : Exit → Act → World → Prop} {E : Prop} (hgd : o.guard = none) (s x : Operand)
    (ho : o.op = .call { callee := .builtin .append, args := #[s, x], argTypes := #[30, 30] })
    (base : Nat) (v : Value) (n : Nat) (xs : List Value) (hs : a.eval s = v) (hown : w.ownsRow base 9 1 v n xs)
    (A : Option Addr) (m c : Nat) (news : List Value) (hx : a.eval x = .slice A m c) (hn : A = none → m = 0 ∧ c = 0) (hl : news.length = m) (hnews : ∀ ad, A = some ad → ∀ j u, news[j]? = some u → w.cell? (ad.add j) = some u) (h1 : ∀ u ∈ news, u.oneCell' = true)
    (h63 : n + m ≤ 3000) (hbase : base ≤ w.heap.size)
    (h : ∀ v' w', w'.ownsRow base 9 1 v' (n + m) (xs ++ news) → w.grownBy w' v.ownBlock → K (a.put o.dst v') w') :
    if Region.wanted o (yielded ops a.tmps) = true then Oper.wp Try.prog o a w K Q else E := by
  obtain ⟨i0, hi, hz0, hz1, hz2⟩ := info_parts Try.infoString
  cases A with
  | none =>
    obtain ⟨rfl, rfl⟩ := hn rfl
    obtain rfl : news = [] := List.eq_nil_of_length_eq_zero hl
    have hw : Region.wanted o (yielded ops a.tmps) = true := by simp [Region.wanted, hgd]
    rw [if_pos hw]
    have hrun := run_append_owned_none (P := Try.prog) (w := w) base 30 o.type 9 i0 1 Try.underlying30 hi v n xs hown
    unfold Oper.wp
    simp [execOp, ho, resolve, invoke, builtin, hs, hx, hrun, Result.andThen]
    exact h v w (by simpa using hown) (World.grownBy.refl _ _)
  | some ad =>
    exact step_append_at w hgd s x 30 ho base 9 i0 (.string ⟨#[]⟩) 1 16 Try.underlying30 hi hz0 hz1 hz2 rfl (by decide) v n xs hs hown ad m c news hx (by rw [hl, Nat.mul_one]) (hnews ad rfl) h1 (by unfold maxLen; omega) (by omega) hbase (fun v' w' h2 h3 _ => h v' w' h2 h3)
theorem one_cell_a (w : World) (x : ByteArray) : ∀ ad, (some ⟨w.heap.size, 0, none⟩ : Option Addr) = some ad → ∀ j u, ([.string x] : List Value)[j]? = some u → (w.alloc (.cells #[.string x] 9)).cell? (ad.add j) = some u := fun ad e j u hu => by
  injection e with e
  subst e
  rcases j with _ | j <;> simp at hu
  subst hu
  simp [Addr.add]
theorem one_cell_b (w : World) (x : ByteArray) : ∀ ad, (some ⟨w.heap.size + 1, 0, none⟩ : Option Addr) = some ad → ∀ j u, ([.string x] : List Value)[j]? = some u → ((w.alloc (.cells #[] 9)).alloc (.cells #[.string x] 9)).cell? (ad.add j) = some u := fun ad e j u hu => by
  have h := one_cell_a (w.alloc (.cells #[] 9)) x ad (by rw [alloc_sz]; exact e) j u hu
  exact h
theorem one_cell_c (w : World) (x : ByteArray) : ∀ ad, (some ⟨w.heap.size, 0, none⟩ : Option Addr) = some ad → ∀ j u, ([.string x] : List Value)[j]? = some u → ((w.alloc (.cells #[.string x] 9)).alloc (.cells #[] 9)).cell? (ad.add j) = some u := fun ad e j u hu => by
  have h := one_cell_a w x ad e j u hu
  exact (((Below.refl _ _).alloc (Nat.le_refl _) (.cells #[] 9)).cell (World.block_lt_of_cell? _ _ h)).trans h
/-- What the first append leaves. -/
def App1 (w3 : World) (L : List ByteArray) (v5 : Value) (w5 : World) : Prop := w5.ownsRow w3.heap.size 9 1 v5 L.length (L.map mvs) ∧ Below w3.heap.size w3 w5
theorem app_one {w3 W w5 : World} {L : List ByteArray} {v v5 : Value} {xs : List Value} {n m : Nat} (hW : Below w3.heap.size w3 W) (ho : W.ownsRow w3.heap.size 9 1 v n xs) (hn : n + m = L.length) (hx : ∀ ys, ys = L.map mvs → w5.ownsRow w3.heap.size 9 1 v5 (n + m) ys) (hg : W.grownBy w5 v.ownBlock) : App1 w3 L v5 w5 :=
  ⟨by rw [← hn]; exact hx _ rfl, hW.grown hg hW.size (own_ge ho)⟩

set_option maxHeartbeats 16000000 in
theorem plays_some (n : Nat) (A : Option Addr) (len cap : Nat) (wh : Nat → Int) (tx : Nat → ByteArray) (w : World) (h1 : 1 ≤ n) (h2 : n ≤ 64) (hl : len ≤ 300)
    (hA : 0 < len → ∃ b off, A = some ⟨b, off, none⟩ ∧ b < w.heap.size ∧ ∀ j, j < len → LDe w b (off + j * 2) (wh j) (tx j)) :
    Calls Try.prog 3 #[.int .i64 (n : Int), .slice A len cap] w fun e w' => e = .returned (.bool true) ∧ Below w.heap.size w w' := by
  have HUP := up_any w
  have HA := Lib.hid hA
  have h300 : decide (300 < (len : Int)) = false := by simp; omega
  have HE := Lib.hid (And.intro eql_err neq_err)
  clear hA
  go_enter Try.func3, Try.ntmps3
  go_wp2_with fail
  refine HUP.mono ?_
  rintro e w1 ⟨rfl, hb1⟩
  clear HUP
  go_wp2_with fail
  refine (new_oks n _ h1 h2).mono ?_
  rintro e w2 ⟨rfl, hr2, hb2⟩
  have hs1 := hb1.size
  have HI0 := Lib.hid (show PlI w w1.heap.size n 0 0 [] none 0 w2 from ⟨Nat.le_refl _, hr2, ls_nils _, (fun a e => by cases e), hb1.trans (hb2.mono hb1.size)⟩)
  clear hr2 hb1 hb2
  generalize hN : w1.heap.size = N at *
  clear hN
  go_wp2_with fail
  go_loopw [8, 9, 10] (fun wa ta i wr => ∃ (k t : Nat) (L : List ByteArray) (A1 : Option Addr) (c1 : Nat), k ≤ len ∧ i = .int .i64 k ∧ ta = .int .i64 t ∧ wa = .slice A1 L.length c1 ∧ Hid (PlI w N n k t L A1 c1 wr)) (fun _ _ i _ => len - (intOf i).toNat)
  case atStart => exact ⟨0, 0, [], none, 0, Nat.zero_le _, rfl, rfl, rfl, HI0⟩
  case round =>
    clear HI0
    obtain ⟨k, t, L, A1, c1, hk, rfl, rfl, rfl, HI⟩ := hrel
    obtain ⟨g1, g2, g3, g4⟩ := HI.out.ring.facts
    have hfew := HI.out.few
    have hsr := HI.out.below.size
    have hgl := HI.out.ring.lt
    by_cases hlt : k < len
    · obtain ⟨b, off, rfl, hbw, hc⟩ := HA.out (by omega)
      obtain ⟨c0, c1', ⟨b1, b2⟩⟩ := (hc k hlt).below HI.out.below hbw
      clear hc
      generalize wh k = x at c0 b1 b2
      generalize tx k = s at c1'
      have HPK := Lib.hid (fun r w (hr : pk x 4 = r) => pick_any x 4 r w b1 b2 (by omega) (by omega) hr)
      have hbr : b < wr.heap.size := by omega
      have hpk := pk_lt x 4 (by omega)
      have hcs : pk x 4 = 0 ∨ pk x 4 = 1 ∨ pk x 4 = 2 ∨ pk x 4 = 3 := by omega
      rcases hcs with h | h | h | h
      · have HP := Lib.hid (fun w => HPK.out 0 w h)
        clear hpk h HPK
        by_cases hf : L.length = n
        · skip
          have HF := Lib.hid (put_fulls HI.out.ring s hf)
          have HI1 := Lib.hid (fun d => HI.out.draw d)
          go_wp2_with fail
          refine (HP.out _).mono ?_
          rintro e w3 ⟨rfl, rfl⟩
          have hfe : ((L.length : Int) == (n : Int)) = true := by simp; omega
          have he := HE.out.2
          go_wp2_with fail
          refine HF.out.mono ?_
          rintro e w3 ⟨rfl, d, rfl⟩
          have HST := Lib.hid (stampss (HI1.out d).ring)
          have HLN := Lib.hid (lens (HI1.out d).ring)
          clear HF HP c0 c1'
          go_wp2_with fail
          refine HST.out.mono ?_
          rintro e wS ⟨rfl, rfl⟩
          go_wp2_with fail
          refine HLN.out.mono ?_
          rintro e wS ⟨rfl, rfl⟩
          go_wp2
          go_roundw
          case rel => exact ⟨k + 1, t, L, A1, c1, by omega, by go_num, rfl, by rw [hf], Lib.hid ((HI1.out d).next (by omega))⟩
          case measure => simp [intOf]; omega
        · skip
          have HF := Lib.hid (put_rooms HI.out.ring s (by omega) (by omega))
          go_wp2_with fail
          refine (HP.out _).mono ?_
          rintro e w3 ⟨rfl, rfl⟩
          have hfe : ((L.length : Int) == (n : Int)) = false := by simp; omega
          go_wp2_with fail
          refine HF.out.mono ?_
          rintro e w3 ⟨rfl, hr3, hc3⟩
          have HR3 := Lib.hid hr3
          have HC3 := Lib.hid hc3
          have HW3 := Lib.hid (HI.out.want.chg HI.out.off hc3)
          have hsz := hc3.size
          have x1 : w3.cell? ⟨b, off + k * 2 + 1, none⟩ = some (.string s) := (hc3.cell hbr (.inl (by show b < N; omega))).trans c1'
          clear hr3 hc3 HF HP
          have HI3 := Lib.hid (show PlI w N n (k + 1) t (L ++ [s]) none 0 w3 → True from fun _ => trivial)
          have HB3 := Lib.hid (HI.out.below.trans (HC3.out.below hs1 hsr))
          have HOF := Lib.hid HI.out.off
          have hln : (L ++ [s]).length = L.length + 1 := by rw [List.length_append]; rfl
          have hq6 : t + (L ++ [s]).length ≤ k + 1 := by omega
          have hN4 : N + 4 ≤ w3.heap.size := by omega
          have hb3s : b < w3.heap.size := by omega
          clear HI3 HI
          go_upto_region 31 with fail
          skip
          have HWa := Lib.hid (show Below w3.heap.size w3 (w3.alloc (.cells #[] 9)) from (Below.refl _ _).alloc (Nat.le_refl _) _)
          have HWb := Lib.hid (show Below w3.heap.size w3 ((w3.alloc (.cells #[] 9)).alloc (.cells #[.string s] 9)) from ((Below.refl _ _).alloc (Nat.le_refl _) _).alloc (by simp) _)
          have HWc := Lib.hid (show Below w3.heap.size w3 ((w3.alloc (.cells #[.string s] 9)).alloc (.cells #[] 9)) from ((Below.refl _ _).alloc (Nat.le_refl _) _).alloc (by simp) _)
          have HMa := Lib.hid (show (w3.alloc (.cells #[] 9)).ownsRow w3.heap.size 9 1 (.slice (some ⟨w3.heap.size, 0, none⟩) 0 0) 0 [] from World.ownsRow_made w3 #[] 0 (Nat.le_refl _) (Nat.zero_le _) rfl)
          have HMb := Lib.hid (show ((w3.alloc (.cells #[] 9)).alloc (.cells #[.string s] 9)).ownsRow w3.heap.size 9 1 (.slice (some ⟨w3.heap.size, 0, none⟩) 0 0) 0 [] from World.ownsRow.alloc HMa.out _)
          have HMc := Lib.hid (show ((w3.alloc (.cells #[.string s] 9)).alloc (.cells #[] 9)).ownsRow w3.heap.size 9 1 (.slice (some ⟨w3.heap.size + 1, 0, none⟩) 0 0) 0 [] from by
            have := World.ownsRow_made (base := w3.heap.size) (e := 9) (size := 1) (w3.alloc (.cells #[.string s] 9)) #[] 0 (by rw [alloc_sz]; omega) (Nat.zero_le _) rfl
            rw [alloc_sz] at this
            exact this)
          have HNa := Lib.hid (HW3.out.below HWa.out).cells
          have HNb := Lib.hid (HW3.out.below HWb.out).cells
          have HNc := Lib.hid (HW3.out.below HWc.out).cells
          have HNN := Lib.hid (show A1 = none → L.length = 0 ∧ c1 = 0 from fun e => ⟨by have := HW3.out.1; have := HW3.out.2.2.1 e; omega, HW3.out.2.2.1 e⟩)
          refine wp_region_held_drew (S := (fun w' => w'.cell? ⟨b, off + k * 2 + 1, none⟩ = some (.string s))) (by kernel_rfl) ?_ (fun hHeld => ?_)
          · go_keep
          refine wpAnyH_take (i := 1) (v := .slice A1 L.length c1) rfl (by kernel_rfl) (by kernel_rfl) (by kernel_rfl) (fun _ _ _ h => h) (Or.inl ⟨by rfl, fun w' hSw => ?_⟩) hHeld ?_
          · (try dsimp only at hSw)
            go_simp
          try simp only [Act.put, List.getElem_toArray, List.getElem_cons_zero, List.getElem_cons_succ, List.setIfInBounds_toArray, List.set_cons_zero, List.set_cons_succ]
          refine wpAnyH_take (i := 3) (v := .slice (some ⟨b, off, none⟩) len cap) rfl (by kernel_rfl) (by kernel_rfl) (by kernel_rfl) (fun _ _ _ h => h) (Or.inl ⟨by rfl, fun w' hSw => ?_⟩) hHeld ?_
          · (try dsimp only at hSw)
            go_simp
          try simp only [Act.put, List.getElem_toArray, List.getElem_cons_zero, List.getElem_cons_succ, List.setIfInBounds_toArray, List.set_cons_zero, List.set_cons_succ]
          refine wpAnyH_take (i := 4) (v := .int .i64 k) rfl (by kernel_rfl) (by kernel_rfl) (by kernel_rfl) (fun _ _ _ h => h) (Or.inl ⟨by rfl, fun w' hSw => ?_⟩) hHeld ?_
          · (try dsimp only at hSw)
            go_simp
          try simp only [Act.put, List.getElem_toArray, List.getElem_cons_zero, List.getElem_cons_succ, List.setIfInBounds_toArray, List.set_cons_zero, List.set_cons_succ]
          refine wpAnyH_take (i := 5) (v := .pointer (some ⟨b, off + k * 2, none⟩)) rfl (by kernel_rfl) (by kernel_rfl) (by kernel_rfl) (fun _ _ _ h => h) (Or.inl ⟨by rfl, fun w' hSw => ?_⟩) hHeld ?_
          · (try dsimp only at hSw)
            go_simp
          try simp only [Act.put, List.getElem_toArray, List.getElem_cons_zero, List.getElem_cons_succ, List.setIfInBounds_toArray, List.set_cons_zero, List.set_cons_succ]
          refine wpAnyH_take (i := 6) (v := .pointer (some ⟨b, off + k * 2 + 1, none⟩)) rfl (by kernel_rfl) (by kernel_rfl) (by kernel_rfl) (fun _ _ _ h => h) (Or.inl ⟨by rfl, fun w' hSw => ?_⟩) hHeld ?_
          · (try dsimp only at hSw)
            go_simp
          try simp only [Act.put, List.getElem_toArray, List.getElem_cons_zero, List.getElem_cons_succ, List.setIfInBounds_toArray, List.set_cons_zero, List.set_cons_succ]
          refine wpAnyH_take (i := 7) (v := .string s) rfl (by kernel_rfl) (by kernel_rfl) (by kernel_rfl) (fun _ _ _ h => h) (Or.inl ⟨by rfl, fun w' hSw => ?_⟩) hHeld ?_
          · (try dsimp only at hSw)
            go_simp
          try simp only [Act.put, List.getElem_toArray, List.getElem_cons_zero, List.getElem_cons_succ, List.setIfInBounds_toArray, List.set_cons_zero, List.set_cons_succ]
          refine wpAnyH_ready (rs := [0, 8]) (by kernel_rfl) (by simp) ?_
          refine (AllReadyH.cons rfl (fun K hK => ?_) (AllReadyH.cons rfl (fun K hK => ?_) AllReadyH.nil))
          · skip
            go_simp
            refine hK.out _ _ (by go_keep) (fun hHeld => ?_)
            clear hK K
            try simp only [Act.put, List.getElem_toArray, List.getElem_cons_zero, List.getElem_cons_succ, List.setIfInBounds_toArray, List.set_cons_zero, List.set_cons_succ]
            refine wpAnyH_ready (rs := [2, 8]) (by kernel_rfl) (by simp) ?_
            refine (AllReadyH.cons rfl (fun K hK => ?_) (AllReadyH.cons rfl (fun K hK => ?_) AllReadyH.nil))
            · skip
              refine step_app _ (by rfl) _ _ (by rfl) w3.heap.size (.slice (some ⟨w3.heap.size, 0, none⟩) 0 0) 0 [] (by rfl) HMa.out A1 L.length c1 (L.map mvs) (by rfl) HNN.out (by simp) HNa.out (one_cellss _) (by omega) (show w3.heap.size ≤ (w3.alloc (.cells #[] 9)).heap.size from HWa.out.size) ?_
              intro v5 w5 hown5 hg5
              have hg5 : (w3.alloc (.cells #[] 9)).grownBy w5 (some (w3.heap.size)) := ⟨hg5.os, hg5.tape, hg5.output, hg5.size, hg5.block⟩
              have HV5 := Lib.hid (app_one HWa.out HMa.out (Nat.zero_add _) (fun ys e => by rw [e]; exact hown5) hg5)
              have co5 := (HV5.out.2.cell (p := ⟨b, off + k * 2 + 1, none⟩) hb3s).trans x1
              have hs5 := HV5.out.2.size
              clear hown5 hg5
              refine hK.out _ _ co5 (fun hHeld => ?_)
              clear hK K
              try simp only [Act.put, List.getElem_toArray, List.getElem_cons_zero, List.getElem_cons_succ, List.setIfInBounds_toArray, List.set_cons_zero, List.set_cons_succ]
              refine wpAnyH_ready (rs := [8]) (by kernel_rfl) (by simp) ?_
              refine (AllReadyH.cons rfl (fun K hK => ?_) AllReadyH.nil)
              go_simp
              refine hK.out _ _ (by go_keep) (fun hHeld => ?_)
              clear hK K
              try simp only [Act.put, List.getElem_toArray, List.getElem_cons_zero, List.getElem_cons_succ, List.setIfInBounds_toArray, List.set_cons_zero, List.set_cons_succ]
              refine wpAnyH_ready (rs := [9]) (by kernel_rfl) (by simp) ?_
              refine (AllReadyH.cons rfl (fun K hK => ?_) AllReadyH.nil)
              refine step_app _ (by rfl) _ _ (by rfl) w3.heap.size v5 L.length (L.map mvs) (by rfl) (World.ownsRow.alloc HV5.out.1 _) (some ⟨w5.heap.size, 0, none⟩) 1 1 [.string s] (by rfl) (fun e => by cases e) (by rfl) (one_cell_a w5 s) (by intro u hu; simp at hu; subst hu; rfl) (by omega) (show w3.heap.size ≤ (w5.alloc (.cells #[.string s] 9)).heap.size from ((HV5.out.2.alloc HV5.out.2.size _)).size) ?_
              intro v6 w6 hown6 hg6
              have hg6 : (w5.alloc (.cells #[.string s] 9)).grownBy w6 v5.ownBlock := ⟨hg6.os, hg6.tape, hg6.output, hg6.size, hg6.block⟩
              have hv6 := app_one (L := L ++ [s]) (HV5.out.2.alloc HV5.out.2.size _) (World.ownsRow.alloc HV5.out.1 _) hln.symm (fun ys e => by rw [e, List.map_append]; exact hown6) hg6
              obtain ⟨A6, c6, rfl, hls6, hof6, -⟩ := own_lss hv6.1
              have HI6 := Lib.hid (show PlI w N n (k + 1) t (L ++ [s]) A6 c6 w6 from ⟨hq6, HR3.out.below hv6.2, hls6, fun a e => Nat.le_trans hN4 (hof6 (by omega) a e), HB3.out.trans (hv6.2.mono HB3.out.size)⟩)
              have co6 := (hv6.2.cell (p := ⟨b, off + k * 2 + 1, none⟩) hb3s).trans x1
              have hq7 : t + (L ++ [s]).length ≤ 1000 := by omega
              clear hown6 hg6 hv6 hls6 hof6
              refine hK.out _ _ co6 (fun hHeld => ?_)
              clear hK K
              try simp only [Act.put, List.getElem_toArray, List.getElem_cons_zero, List.getElem_cons_succ, List.setIfInBounds_toArray, List.set_cons_zero, List.set_cons_succ]
              refine wpAnyH_take (i := 10) (v := .slice A6 (L ++ [s]).length c6) rfl (by kernel_rfl) (by kernel_rfl) (by kernel_rfl) (fun _ _ _ h => h) (Or.inl ⟨by rfl, fun w' hSw => ?_⟩) hHeld ?_
              · (try dsimp only at hSw)
                go_simp
              try simp only [Act.put, List.getElem_toArray, List.getElem_cons_zero, List.getElem_cons_succ, List.setIfInBounds_toArray, List.set_cons_zero, List.set_cons_succ]
              refine wpAnyH_done (by kernel_rfl) ?_ _
              clear hHeld co6 co5 x1 HV5 HWa HWb HWc HMa HMb HMc HNa HNb HNc HNN HB3 HR3 HW3 HC3 HOF hln hq6
              generalize L ++ [s] = L6 at HI6 hq7 ⊢
              have HST := Lib.hid (stampss HI6.out.ring)
              have HLN := Lib.hid (lens HI6.out.ring)
              go_wp2_with fail
              refine HST.out.mono ?_
              rintro e wS ⟨rfl, rfl⟩
              go_wp2_with fail
              refine HLN.out.mono ?_
              rintro e wS ⟨rfl, rfl⟩
              go_wp2
              go_roundw
              case rel => exact ⟨k + 1, t, L6, A6, c6, by omega, by go_num, rfl, rfl, HI6⟩
              case measure => simp [intOf]; omega
            · skip
              go_simp
              refine hK.out _ _ (by go_keep) (fun hHeld => ?_)
              clear hK K
              try simp only [Act.put, List.getElem_toArray, List.getElem_cons_zero, List.getElem_cons_succ, List.setIfInBounds_toArray, List.set_cons_zero, List.set_cons_succ]
              refine wpAnyH_ready (rs := [2]) (by kernel_rfl) (by simp) ?_
              refine (AllReadyH.cons rfl (fun K hK => ?_) AllReadyH.nil)
              refine step_app _ (by rfl) _ _ (by rfl) w3.heap.size (.slice (some ⟨w3.heap.size, 0, none⟩) 0 0) 0 [] (by rfl) HMb.out A1 L.length c1 (L.map mvs) (by rfl) HNN.out (by simp) HNb.out (one_cellss _) (by omega) (show w3.heap.size ≤ ((w3.alloc (.cells #[] 9)).alloc (.cells #[.string s] 9)).heap.size from HWb.out.size) ?_
              intro v5 w5 hown5 hg5
              have hg5 : ((w3.alloc (.cells #[] 9)).alloc (.cells #[.string s] 9)).grownBy w5 (some (w3.heap.size)) := ⟨hg5.os, hg5.tape, hg5.output, hg5.size, hg5.block⟩
              have HV5 := Lib.hid (app_one HWb.out HMb.out (Nat.zero_add _) (fun ys e => by rw [e]; exact hown5) hg5)
              have HX5 := Lib.hid (show ∀ ad, (some ⟨w3.heap.size + 1, 0, none⟩ : Option Addr) = some ad → ∀ j u, ([.string s] : List Value)[j]? = some u → w5.cell? (ad.add j) = some u from fun ad e j u hu => (grown_far hg5 (ad.add j) (by rw [add_block]; injection e with e; subst e; simp) (by rw [add_block]; injection e with e; subst e; intro e; have := Option.some.inj e; simp at this)).trans (one_cell_b w3 s ad e j u hu))
              have co5 := (HV5.out.2.cell (p := ⟨b, off + k * 2 + 1, none⟩) hb3s).trans x1
              have hs5 := HV5.out.2.size
              clear hown5 hg5
              refine hK.out _ _ co5 (fun hHeld => ?_)
              clear hK K
              try simp only [Act.put, List.getElem_toArray, List.getElem_cons_zero, List.getElem_cons_succ, List.setIfInBounds_toArray, List.set_cons_zero, List.set_cons_succ]
              refine wpAnyH_ready (rs := [9]) (by kernel_rfl) (by simp) ?_
              refine (AllReadyH.cons rfl (fun K hK => ?_) AllReadyH.nil)
              refine step_app _ (by rfl) _ _ (by rfl) w3.heap.size v5 L.length (L.map mvs) (by rfl) HV5.out.1 (some ⟨w3.heap.size + 1, 0, none⟩) 1 1 [.string s] (by rfl) (fun e => by cases e) (by rfl) HX5.out (by intro u hu; simp at hu; subst hu; rfl) (by omega) (show w3.heap.size ≤ (w5).heap.size from (HV5.out.2).size) ?_
              intro v6 w6 hown6 hg6
              have hg6 : (w5).grownBy w6 v5.ownBlock := ⟨hg6.os, hg6.tape, hg6.output, hg6.size, hg6.block⟩
              have hv6 := app_one (L := L ++ [s]) HV5.out.2 HV5.out.1 hln.symm (fun ys e => by rw [e, List.map_append]; exact hown6) hg6
              obtain ⟨A6, c6, rfl, hls6, hof6, -⟩ := own_lss hv6.1
              have HI6 := Lib.hid (show PlI w N n (k + 1) t (L ++ [s]) A6 c6 w6 from ⟨hq6, HR3.out.below hv6.2, hls6, fun a e => Nat.le_trans hN4 (hof6 (by omega) a e), HB3.out.trans (hv6.2.mono HB3.out.size)⟩)
              have co6 := (hv6.2.cell (p := ⟨b, off + k * 2 + 1, none⟩) hb3s).trans x1
              have hq7 : t + (L ++ [s]).length ≤ 1000 := by omega
              clear hown6 hg6 hv6 hls6 hof6
              refine hK.out _ _ co6 (fun hHeld => ?_)
              clear hK K
              try simp only [Act.put, List.getElem_toArray, List.getElem_cons_zero, List.getElem_cons_succ, List.setIfInBounds_toArray, List.set_cons_zero, List.set_cons_succ]
              refine wpAnyH_take (i := 10) (v := .slice A6 (L ++ [s]).length c6) rfl (by kernel_rfl) (by kernel_rfl) (by kernel_rfl) (fun _ _ _ h => h) (Or.inl ⟨by rfl, fun w' hSw => ?_⟩) hHeld ?_
              · (try dsimp only at hSw)
                go_simp
              try simp only [Act.put, List.getElem_toArray, List.getElem_cons_zero, List.getElem_cons_succ, List.setIfInBounds_toArray, List.set_cons_zero, List.set_cons_succ]
              refine wpAnyH_done (by kernel_rfl) ?_ _
              clear hHeld co6 co5 x1 HV5 HWa HWb HWc HMa HMb HMc HNa HNb HNc HNN HB3 HR3 HW3 HC3 HOF hln hq6
              generalize L ++ [s] = L6 at HI6 hq7 ⊢
              have HST := Lib.hid (stampss HI6.out.ring)
              have HLN := Lib.hid (lens HI6.out.ring)
              go_wp2_with fail
              refine HST.out.mono ?_
              rintro e wS ⟨rfl, rfl⟩
              go_wp2_with fail
              refine HLN.out.mono ?_
              rintro e wS ⟨rfl, rfl⟩
              go_wp2
              go_roundw
              case rel => exact ⟨k + 1, t, L6, A6, c6, by omega, by go_num, rfl, rfl, HI6⟩
              case measure => simp [intOf]; omega
          · skip
            go_simp
            refine hK.out _ _ (by go_keep) (fun hHeld => ?_)
            clear hK K
            try simp only [Act.put, List.getElem_toArray, List.getElem_cons_zero, List.getElem_cons_succ, List.setIfInBounds_toArray, List.set_cons_zero, List.set_cons_succ]
            refine wpAnyH_ready (rs := [0]) (by kernel_rfl) (by simp) ?_
            refine (AllReadyH.cons rfl (fun K hK => ?_) AllReadyH.nil)
            go_simp
            refine hK.out _ _ (by go_keep) (fun hHeld => ?_)
            clear hK K
            try simp only [Act.put, List.getElem_toArray, List.getElem_cons_zero, List.getElem_cons_succ, List.setIfInBounds_toArray, List.set_cons_zero, List.set_cons_succ]
            refine wpAnyH_ready (rs := [2]) (by kernel_rfl) (by simp) ?_
            refine (AllReadyH.cons rfl (fun K hK => ?_) AllReadyH.nil)
            refine step_app _ (by rfl) _ _ (by rfl) w3.heap.size (.slice (some ⟨w3.heap.size + 1, 0, none⟩) 0 0) 0 [] (by rfl) HMc.out A1 L.length c1 (L.map mvs) (by rfl) HNN.out (by simp) HNc.out (one_cellss _) (by omega) (show w3.heap.size ≤ ((w3.alloc (.cells #[.string s] 9)).alloc (.cells #[] 9)).heap.size from HWc.out.size) ?_
            intro v5 w5 hown5 hg5
            have hg5 : ((w3.alloc (.cells #[.string s] 9)).alloc (.cells #[] 9)).grownBy w5 (some (w3.heap.size + 1)) := ⟨hg5.os, hg5.tape, hg5.output, hg5.size, hg5.block⟩
            have HV5 := Lib.hid (app_one HWc.out HMc.out (Nat.zero_add _) (fun ys e => by rw [e]; exact hown5) hg5)
            have HX5 := Lib.hid (show ∀ ad, (some ⟨w3.heap.size, 0, none⟩ : Option Addr) = some ad → ∀ j u, ([.string s] : List Value)[j]? = some u → w5.cell? (ad.add j) = some u from fun ad e j u hu => (grown_far hg5 (ad.add j) (by rw [add_block]; injection e with e; subst e; simp; omega) (by rw [add_block]; injection e with e; subst e; intro e; have := Option.some.inj e; simp at this)).trans (one_cell_c w3 s ad e j u hu))
            have co5 := (HV5.out.2.cell (p := ⟨b, off + k * 2 + 1, none⟩) hb3s).trans x1
            have hs5 := HV5.out.2.size
            clear hown5 hg5
            refine hK.out _ _ co5 (fun hHeld => ?_)
            clear hK K
            try simp only [Act.put, List.getElem_toArray, List.getElem_cons_zero, List.getElem_cons_succ, List.setIfInBounds_toArray, List.set_cons_zero, List.set_cons_succ]
            refine wpAnyH_ready (rs := [9]) (by kernel_rfl) (by simp) ?_
            refine (AllReadyH.cons rfl (fun K hK => ?_) AllReadyH.nil)
            refine step_app _ (by rfl) _ _ (by rfl) w3.heap.size v5 L.length (L.map mvs) (by rfl) HV5.out.1 (some ⟨w3.heap.size, 0, none⟩) 1 1 [.string s] (by rfl) (fun e => by cases e) (by rfl) HX5.out (by intro u hu; simp at hu; subst hu; rfl) (by omega) (show w3.heap.size ≤ (w5).heap.size from (HV5.out.2).size) ?_
            intro v6 w6 hown6 hg6
            have hg6 : (w5).grownBy w6 v5.ownBlock := ⟨hg6.os, hg6.tape, hg6.output, hg6.size, hg6.block⟩
            have hv6 := app_one (L := L ++ [s]) HV5.out.2 HV5.out.1 hln.symm (fun ys e => by rw [e, List.map_append]; exact hown6) hg6
            obtain ⟨A6, c6, rfl, hls6, hof6, -⟩ := own_lss hv6.1
            have HI6 := Lib.hid (show PlI w N n (k + 1) t (L ++ [s]) A6 c6 w6 from ⟨hq6, HR3.out.below hv6.2, hls6, fun a e => Nat.le_trans hN4 (hof6 (by omega) a e), HB3.out.trans (hv6.2.mono HB3.out.size)⟩)
            have co6 := (hv6.2.cell (p := ⟨b, off + k * 2 + 1, none⟩) hb3s).trans x1
            have hq7 : t + (L ++ [s]).length ≤ 1000 := by omega
            clear hown6 hg6 hv6 hls6 hof6
            refine hK.out _ _ co6 (fun hHeld => ?_)
            clear hK K
            try simp only [Act.put, List.getElem_toArray, List.getElem_cons_zero, List.getElem_cons_succ, List.setIfInBounds_toArray, List.set_cons_zero, List.set_cons_succ]
            refine wpAnyH_take (i := 10) (v := .slice A6 (L ++ [s]).length c6) rfl (by kernel_rfl) (by kernel_rfl) (by kernel_rfl) (fun _ _ _ h => h) (Or.inl ⟨by rfl, fun w' hSw => ?_⟩) hHeld ?_
            · (try dsimp only at hSw)
              go_simp
            try simp only [Act.put, List.getElem_toArray, List.getElem_cons_zero, List.getElem_cons_succ, List.setIfInBounds_toArray, List.set_cons_zero, List.set_cons_succ]
            refine wpAnyH_done (by kernel_rfl) ?_ _
            clear hHeld co6 co5 x1 HV5 HWa HWb HWc HMa HMb HMc HNa HNb HNc HNN HB3 HR3 HW3 HC3 HOF hln hq6
            generalize L ++ [s] = L6 at HI6 hq7 ⊢
            have HST := Lib.hid (stampss HI6.out.ring)
            have HLN := Lib.hid (lens HI6.out.ring)
            go_wp2_with fail
            refine HST.out.mono ?_
            rintro e wS ⟨rfl, rfl⟩
            go_wp2_with fail
            refine HLN.out.mono ?_
            rintro e wS ⟨rfl, rfl⟩
            go_wp2
            go_roundw
            case rel => exact ⟨k + 1, t, L6, A6, c6, by omega, by go_num, rfl, rfl, HI6⟩
            case measure => simp [intOf]; omega
      · have HP := Lib.hid (fun w => HPK.out 1 w h)
        clear hpk h HPK
        by_cases hf : L.length = n
        · skip
          have HF := Lib.hid (put_fulls HI.out.ring s hf)
          have HI1 := Lib.hid (fun d => HI.out.draw d)
          go_wp2_with fail
          refine (HP.out _).mono ?_
          rintro e w3 ⟨rfl, rfl⟩
          have hfe : ((L.length : Int) == (n : Int)) = true := by simp; omega
          have he := HE.out.2
          go_wp2_with fail
          refine HF.out.mono ?_
          rintro e w3 ⟨rfl, d, rfl⟩
          have HST := Lib.hid (stampss (HI1.out d).ring)
          have HLN := Lib.hid (lens (HI1.out d).ring)
          clear HF HP c0 c1'
          go_wp2_with fail
          refine HST.out.mono ?_
          rintro e wS ⟨rfl, rfl⟩
          go_wp2_with fail
          refine HLN.out.mono ?_
          rintro e wS ⟨rfl, rfl⟩
          go_wp2
          go_roundw
          case rel => exact ⟨k + 1, t, L, A1, c1, by omega, by go_num, rfl, by rw [hf], Lib.hid ((HI1.out d).next (by omega))⟩
          case measure => simp [intOf]; omega
        · skip
          have HF := Lib.hid (put_rooms HI.out.ring s (by omega) (by omega))
          go_wp2_with fail
          refine (HP.out _).mono ?_
          rintro e w3 ⟨rfl, rfl⟩
          have hfe : ((L.length : Int) == (n : Int)) = false := by simp; omega
          go_wp2_with fail
          refine HF.out.mono ?_
          rintro e w3 ⟨rfl, hr3, hc3⟩
          have HR3 := Lib.hid hr3
          have HC3 := Lib.hid hc3
          have HW3 := Lib.hid (HI.out.want.chg HI.out.off hc3)
          have hsz := hc3.size
          have x1 : w3.cell? ⟨b, off + k * 2 + 1, none⟩ = some (.string s) := (hc3.cell hbr (.inl (by show b < N; omega))).trans c1'
          clear hr3 hc3 HF HP
          have HI3 := Lib.hid (show PlI w N n (k + 1) t (L ++ [s]) none 0 w3 → True from fun _ => trivial)
          have HB3 := Lib.hid (HI.out.below.trans (HC3.out.below hs1 hsr))
          have HOF := Lib.hid HI.out.off
          have hln : (L ++ [s]).length = L.length + 1 := by rw [List.length_append]; rfl
          have hq6 : t + (L ++ [s]).length ≤ k + 1 := by omega
          have hN4 : N + 4 ≤ w3.heap.size := by omega
          have hb3s : b < w3.heap.size := by omega
          clear HI3 HI
          go_upto_region 31 with fail
          skip
          have HWa := Lib.hid (show Below w3.heap.size w3 (w3.alloc (.cells #[] 9)) from (Below.refl _ _).alloc (Nat.le_refl _) _)
          have HWb := Lib.hid (show Below w3.heap.size w3 ((w3.alloc (.cells #[] 9)).alloc (.cells #[.string s] 9)) from ((Below.refl _ _).alloc (Nat.le_refl _) _).alloc (by simp) _)
          have HWc := Lib.hid (show Below w3.heap.size w3 ((w3.alloc (.cells #[.string s] 9)).alloc (.cells #[] 9)) from ((Below.refl _ _).alloc (Nat.le_refl _) _).alloc (by simp) _)
          have HMa := Lib.hid (show (w3.alloc (.cells #[] 9)).ownsRow w3.heap.size 9 1 (.slice (some ⟨w3.heap.size, 0, none⟩) 0 0) 0 [] from World.ownsRow_made w3 #[] 0 (Nat.le_refl _) (Nat.zero_le _) rfl)
          have HMb := Lib.hid (show ((w3.alloc (.cells #[] 9)).alloc (.cells #[.string s] 9)).ownsRow w3.heap.size 9 1 (.slice (some ⟨w3.heap.size, 0, none⟩) 0 0) 0 [] from World.ownsRow.alloc HMa.out _)
          have HMc := Lib.hid (show ((w3.alloc (.cells #[.string s] 9)).alloc (.cells #[] 9)).ownsRow w3.heap.size 9 1 (.slice (some ⟨w3.heap.size + 1, 0, none⟩) 0 0) 0 [] from by
            have := World.ownsRow_made (base := w3.heap.size) (e := 9) (size := 1) (w3.alloc (.cells #[.string s] 9)) #[] 0 (by rw [alloc_sz]; omega) (Nat.zero_le _) rfl
            rw [alloc_sz] at this
            exact this)
          have HNa := Lib.hid (HW3.out.below HWa.out).cells
          have HNb := Lib.hid (HW3.out.below HWb.out).cells
          have HNc := Lib.hid (HW3.out.below HWc.out).cells
          have HNN := Lib.hid (show A1 = none → L.length = 0 ∧ c1 = 0 from fun e => ⟨by have := HW3.out.1; have := HW3.out.2.2.1 e; omega, HW3.out.2.2.1 e⟩)
          refine wp_region_held_drew (S := (fun w' => w'.cell? ⟨b, off + k * 2 + 1, none⟩ = some (.string s))) (by kernel_rfl) ?_ (fun hHeld => ?_)
          · go_keep
          refine wpAnyH_take (i := 1) (v := .slice A1 L.length c1) rfl (by kernel_rfl) (by kernel_rfl) (by kernel_rfl) (fun _ _ _ h => h) (Or.inl ⟨by rfl, fun w' hSw => ?_⟩) hHeld ?_
          · (try dsimp only at hSw)
            go_simp
          try simp only [Act.put, List.getElem_toArray, List.getElem_cons_zero, List.getElem_cons_succ, List.setIfInBounds_toArray, List.set_cons_zero, List.set_cons_succ]
          refine wpAnyH_take (i := 3) (v := .slice (some ⟨b, off, none⟩) len cap) rfl (by kernel_rfl) (by kernel_rfl) (by kernel_rfl) (fun _ _ _ h => h) (Or.inl ⟨by rfl, fun w' hSw => ?_⟩) hHeld ?_
          · (try dsimp only at hSw)
            go_simp
          try simp only [Act.put, List.getElem_toArray, List.getElem_cons_zero, List.getElem_cons_succ, List.setIfInBounds_toArray, List.set_cons_zero, List.set_cons_succ]
          refine wpAnyH_take (i := 4) (v := .int .i64 k) rfl (by kernel_rfl) (by kernel_rfl) (by kernel_rfl) (fun _ _ _ h => h) (Or.inl ⟨by rfl, fun w' hSw => ?_⟩) hHeld ?_
          · (try dsimp only at hSw)
            go_simp
          try simp only [Act.put, List.getElem_toArray, List.getElem_cons_zero, List.getElem_cons_succ, List.setIfInBounds_toArray, List.set_cons_zero, List.set_cons_succ]
          refine wpAnyH_take (i := 5) (v := .pointer (some ⟨b, off + k * 2, none⟩)) rfl (by kernel_rfl) (by kernel_rfl) (by kernel_rfl) (fun _ _ _ h => h) (Or.inl ⟨by rfl, fun w' hSw => ?_⟩) hHeld ?_
          · (try dsimp only at hSw)
            go_simp
          try simp only [Act.put, List.getElem_toArray, List.getElem_cons_zero, List.getElem_cons_succ, List.setIfInBounds_toArray, List.set_cons_zero, List.set_cons_succ]
          refine wpAnyH_take (i := 6) (v := .pointer (some ⟨b, off + k * 2 + 1, none⟩)) rfl (by kernel_rfl) (by kernel_rfl) (by kernel_rfl) (fun _ _ _ h => h) (Or.inl ⟨by rfl, fun w' hSw => ?_⟩) hHeld ?_
          · (try dsimp only at hSw)
            go_simp
          try simp only [Act.put, List.getElem_toArray, List.getElem_cons_zero, List.getElem_cons_succ, List.setIfInBounds_toArray, List.set_cons_zero, List.set_cons_succ]
          refine wpAnyH_take (i := 7) (v := .string s) rfl (by kernel_rfl) (by kernel_rfl) (by kernel_rfl) (fun _ _ _ h => h) (Or.inl ⟨by rfl, fun w' hSw => ?_⟩) hHeld ?_
          · (try dsimp only at hSw)
            go_simp
          try simp only [Act.put, List.getElem_toArray, List.getElem_cons_zero, List.getElem_cons_succ, List.setIfInBounds_toArray, List.set_cons_zero, List.set_cons_succ]
          refine wpAnyH_ready (rs := [0, 8]) (by kernel_rfl) (by simp) ?_
          refine (AllReadyH.cons rfl (fun K hK => ?_) (AllReadyH.cons rfl (fun K hK => ?_) AllReadyH.nil))
          · skip
            go_simp
            refine hK.out _ _ (by go_keep) (fun hHeld => ?_)
            clear hK K
            try simp only [Act.put, List.getElem_toArray, List.getElem_cons_zero, List.getElem_cons_succ, List.setIfInBounds_toArray, List.set_cons_zero, List.set_cons_succ]
            refine wpAnyH_ready (rs := [2, 8]) (by kernel_rfl) (by simp) ?_
            refine (AllReadyH.cons rfl (fun K hK => ?_) (AllReadyH.cons rfl (fun K hK => ?_) AllReadyH.nil))
            · skip
              refine step_app _ (by rfl) _ _ (by rfl) w3.heap.size (.slice (some ⟨w3.heap.size, 0, none⟩) 0 0) 0 [] (by rfl) HMa.out A1 L.length c1 (L.map mvs) (by rfl) HNN.out (by simp) HNa.out (one_cellss _) (by omega) (show w3.heap.size ≤ (w3.alloc (.cells #[] 9)).heap.size from HWa.out.size) ?_
              intro v5 w5 hown5 hg5
              have hg5 : (w3.alloc (.cells #[] 9)).grownBy w5 (some (w3.heap.size)) := ⟨hg5.os, hg5.tape, hg5.output, hg5.size, hg5.block⟩
              have HV5 := Lib.hid (app_one HWa.out HMa.out (Nat.zero_add _) (fun ys e => by rw [e]; exact hown5) hg5)
              have co5 := (HV5.out.2.cell (p := ⟨b, off + k * 2 + 1, none⟩) hb3s).trans x1
              have hs5 := HV5.out.2.size
              clear hown5 hg5
              refine hK.out _ _ co5 (fun hHeld => ?_)
              clear hK K
              try simp only [Act.put, List.getElem_toArray, List.getElem_cons_zero, List.getElem_cons_succ, List.setIfInBounds_toArray, List.set_cons_zero, List.set_cons_succ]
              refine wpAnyH_ready (rs := [8]) (by kernel_rfl) (by simp) ?_
              refine (AllReadyH.cons rfl (fun K hK => ?_) AllReadyH.nil)
              go_simp
              refine hK.out _ _ (by go_keep) (fun hHeld => ?_)
              clear hK K
              try simp only [Act.put, List.getElem_toArray, List.getElem_cons_zero, List.getElem_cons_succ, List.setIfInBounds_toArray, List.set_cons_zero, List.set_cons_succ]
              refine wpAnyH_ready (rs := [9]) (by kernel_rfl) (by simp) ?_
              refine (AllReadyH.cons rfl (fun K hK => ?_) AllReadyH.nil)
              refine step_app _ (by rfl) _ _ (by rfl) w3.heap.size v5 L.length (L.map mvs) (by rfl) (World.ownsRow.alloc HV5.out.1 _) (some ⟨w5.heap.size, 0, none⟩) 1 1 [.string s] (by rfl) (fun e => by cases e) (by rfl) (one_cell_a w5 s) (by intro u hu; simp at hu; subst hu; rfl) (by omega) (show w3.heap.size ≤ (w5.alloc (.cells #[.string s] 9)).heap.size from ((HV5.out.2.alloc HV5.out.2.size _)).size) ?_
              intro v6 w6 hown6 hg6
              have hg6 : (w5.alloc (.cells #[.string s] 9)).grownBy w6 v5.ownBlock := ⟨hg6.os, hg6.tape, hg6.output, hg6.size, hg6.block⟩
              have hv6 := app_one (L := L ++ [s]) (HV5.out.2.alloc HV5.out.2.size _) (World.ownsRow.alloc HV5.out.1 _) hln.symm (fun ys e => by rw [e, List.map_append]; exact hown6) hg6
              obtain ⟨A6, c6, rfl, hls6, hof6, -⟩ := own_lss hv6.1
              have HI6 := Lib.hid (show PlI w N n (k + 1) t (L ++ [s]) A6 c6 w6 from ⟨hq6, HR3.out.below hv6.2, hls6, fun a e => Nat.le_trans hN4 (hof6 (by omega) a e), HB3.out.trans (hv6.2.mono HB3.out.size)⟩)
              have co6 := (hv6.2.cell (p := ⟨b, off + k * 2 + 1, none⟩) hb3s).trans x1
              have hq7 : t + (L ++ [s]).length ≤ 1000 := by omega
              clear hown6 hg6 hv6 hls6 hof6
              refine hK.out _ _ co6 (fun hHeld => ?_)
              clear hK K
              try simp only [Act.put, List.getElem_toArray, List.getElem_cons_zero, List.getElem_cons_succ, List.setIfInBounds_toArray, List.set_cons_zero, List.set_cons_succ]
              refine wpAnyH_take (i := 10) (v := .slice A6 (L ++ [s]).length c6) rfl (by kernel_rfl) (by kernel_rfl) (by kernel_rfl) (fun _ _ _ h => h) (Or.inl ⟨by rfl, fun w' hSw => ?_⟩) hHeld ?_
              · (try dsimp only at hSw)
                go_simp
              try simp only [Act.put, List.getElem_toArray, List.getElem_cons_zero, List.getElem_cons_succ, List.setIfInBounds_toArray, List.set_cons_zero, List.set_cons_succ]
              refine wpAnyH_done (by kernel_rfl) ?_ _
              clear hHeld co6 co5 x1 HV5 HWa HWb HWc HMa HMb HMc HNa HNb HNc HNN HB3 HR3 HW3 HC3 HOF hln hq6
              generalize L ++ [s] = L6 at HI6 hq7 ⊢
              have HST := Lib.hid (stampss HI6.out.ring)
              have HLN := Lib.hid (lens HI6.out.ring)
              go_wp2_with fail
              refine HST.out.mono ?_
              rintro e wS ⟨rfl, rfl⟩
              go_wp2_with fail
              refine HLN.out.mono ?_
              rintro e wS ⟨rfl, rfl⟩
              go_wp2
              go_roundw
              case rel => exact ⟨k + 1, t, L6, A6, c6, by omega, by go_num, rfl, rfl, HI6⟩
              case measure => simp [intOf]; omega
            · skip
              go_simp
              refine hK.out _ _ (by go_keep) (fun hHeld => ?_)
              clear hK K
              try simp only [Act.put, List.getElem_toArray, List.getElem_cons_zero, List.getElem_cons_succ, List.setIfInBounds_toArray, List.set_cons_zero, List.set_cons_succ]
              refine wpAnyH_ready (rs := [2]) (by kernel_rfl) (by simp) ?_
              refine (AllReadyH.cons rfl (fun K hK => ?_) AllReadyH.nil)
              refine step_app _ (by rfl) _ _ (by rfl) w3.heap.size (.slice (some ⟨w3.heap.size, 0, none⟩) 0 0) 0 [] (by rfl) HMb.out A1 L.length c1 (L.map mvs) (by rfl) HNN.out (by simp) HNb.out (one_cellss _) (by omega) (show w3.heap.size ≤ ((w3.alloc (.cells #[] 9)).alloc (.cells #[.string s] 9)).heap.size from HWb.out.size) ?_
              intro v5 w5 hown5 hg5
              have hg5 : ((w3.alloc (.cells #[] 9)).alloc (.cells #[.string s] 9)).grownBy w5 (some (w3.heap.size)) := ⟨hg5.os, hg5.tape, hg5.output, hg5.size, hg5.block⟩
              have HV5 := Lib.hid (app_one HWb.out HMb.out (Nat.zero_add _) (fun ys e => by rw [e]; exact hown5) hg5)
              have HX5 := Lib.hid (show ∀ ad, (some ⟨w3.heap.size + 1, 0, none⟩ : Option Addr) = some ad → ∀ j u, ([.string s] : List Value)[j]? = some u → w5.cell? (ad.add j) = some u from fun ad e j u hu => (grown_far hg5 (ad.add j) (by rw [add_block]; injection e with e; subst e; simp) (by rw [add_block]; injection e with e; subst e; intro e; have := Option.some.inj e; simp at this)).trans (one_cell_b w3 s ad e j u hu))
              have co5 := (HV5.out.2.cell (p := ⟨b, off + k * 2 + 1, none⟩) hb3s).trans x1
              have hs5 := HV5.out.2.size
              clear hown5 hg5
              refine hK.out _ _ co5 (fun hHeld => ?_)
              clear hK K
              try simp only [Act.put, List.getElem_toArray, List.getElem_cons_zero, List.getElem_cons_succ, List.setIfInBounds_toArray, List.set_cons_zero, List.set_cons_succ]
              refine wpAnyH_ready (rs := [9]) (by kernel_rfl) (by simp) ?_
              refine (AllReadyH.cons rfl (fun K hK => ?_) AllReadyH.nil)
              refine step_app _ (by rfl) _ _ (by rfl) w3.heap.size v5 L.length (L.map mvs) (by rfl) HV5.out.1 (some ⟨w3.heap.size + 1, 0, none⟩) 1 1 [.string s] (by rfl) (fun e => by cases e) (by rfl) HX5.out (by intro u hu; simp at hu; subst hu; rfl) (by omega) (show w3.heap.size ≤ (w5).heap.size from (HV5.out.2).size) ?_
              intro v6 w6 hown6 hg6
              have hg6 : (w5).grownBy w6 v5.ownBlock := ⟨hg6.os, hg6.tape, hg6.output, hg6.size, hg6.block⟩
              have hv6 := app_one (L := L ++ [s]) HV5.out.2 HV5.out.1 hln.symm (fun ys e => by rw [e, List.map_append]; exact hown6) hg6
              obtain ⟨A6, c6, rfl, hls6, hof6, -⟩ := own_lss hv6.1
              have HI6 := Lib.hid (show PlI w N n (k + 1) t (L ++ [s]) A6 c6 w6 from ⟨hq6, HR3.out.below hv6.2, hls6, fun a e => Nat.le_trans hN4 (hof6 (by omega) a e), HB3.out.trans (hv6.2.mono HB3.out.size)⟩)
              have co6 := (hv6.2.cell (p := ⟨b, off + k * 2 + 1, none⟩) hb3s).trans x1
              have hq7 : t + (L ++ [s]).length ≤ 1000 := by omega
              clear hown6 hg6 hv6 hls6 hof6
              refine hK.out _ _ co6 (fun hHeld => ?_)
              clear hK K
              try simp only [Act.put, List.getElem_toArray, List.getElem_cons_zero, List.getElem_cons_succ, List.setIfInBounds_toArray, List.set_cons_zero, List.set_cons_succ]
              refine wpAnyH_take (i := 10) (v := .slice A6 (L ++ [s]).length c6) rfl (by kernel_rfl) (by kernel_rfl) (by kernel_rfl) (fun _ _ _ h => h) (Or.inl ⟨by rfl, fun w' hSw => ?_⟩) hHeld ?_
              · (try dsimp only at hSw)
                go_simp
              try simp only [Act.put, List.getElem_toArray, List.getElem_cons_zero, List.getElem_cons_succ, List.setIfInBounds_toArray, List.set_cons_zero, List.set_cons_succ]
              refine wpAnyH_done (by kernel_rfl) ?_ _
              clear hHeld co6 co5 x1 HV5 HWa HWb HWc HMa HMb HMc HNa HNb HNc HNN HB3 HR3 HW3 HC3 HOF hln hq6
              generalize L ++ [s] = L6 at HI6 hq7 ⊢
              have HST := Lib.hid (stampss HI6.out.ring)
              have HLN := Lib.hid (lens HI6.out.ring)
              go_wp2_with fail
              refine HST.out.mono ?_
              rintro e wS ⟨rfl, rfl⟩
              go_wp2_with fail
              refine HLN.out.mono ?_
              rintro e wS ⟨rfl, rfl⟩
              go_wp2
              go_roundw
              case rel => exact ⟨k + 1, t, L6, A6, c6, by omega, by go_num, rfl, rfl, HI6⟩
              case measure => simp [intOf]; omega
          · skip
            go_simp
            refine hK.out _ _ (by go_keep) (fun hHeld => ?_)
            clear hK K
            try simp only [Act.put, List.getElem_toArray, List.getElem_cons_zero, List.getElem_cons_succ, List.setIfInBounds_toArray, List.set_cons_zero, List.set_cons_succ]
            refine wpAnyH_ready (rs := [0]) (by kernel_rfl) (by simp) ?_
            refine (AllReadyH.cons rfl (fun K hK => ?_) AllReadyH.nil)
            go_simp
            refine hK.out _ _ (by go_keep) (fun hHeld => ?_)
            clear hK K
            try simp only [Act.put, List.getElem_toArray, List.getElem_cons_zero, List.getElem_cons_succ, List.setIfInBounds_toArray, List.set_cons_zero, List.set_cons_succ]
            refine wpAnyH_ready (rs := [2]) (by kernel_rfl) (by simp) ?_
            refine (AllReadyH.cons rfl (fun K hK => ?_) AllReadyH.nil)
            refine step_app _ (by rfl) _ _ (by rfl) w3.heap.size (.slice (some ⟨w3.heap.size + 1, 0, none⟩) 0 0) 0 [] (by rfl) HMc.out A1 L.length c1 (L.map mvs) (by rfl) HNN.out (by simp) HNc.out (one_cellss _) (by omega) (show w3.heap.size ≤ ((w3.alloc (.cells #[.string s] 9)).alloc (.cells #[] 9)).heap.size from HWc.out.size) ?_
            intro v5 w5 hown5 hg5
            have hg5 : ((w3.alloc (.cells #[.string s] 9)).alloc (.cells #[] 9)).grownBy w5 (some (w3.heap.size + 1)) := ⟨hg5.os, hg5.tape, hg5.output, hg5.size, hg5.block⟩
            have HV5 := Lib.hid (app_one HWc.out HMc.out (Nat.zero_add _) (fun ys e => by rw [e]; exact hown5) hg5)
            have HX5 := Lib.hid (show ∀ ad, (some ⟨w3.heap.size, 0, none⟩ : Option Addr) = some ad → ∀ j u, ([.string s] : List Value)[j]? = some u → w5.cell? (ad.add j) = some u from fun ad e j u hu => (grown_far hg5 (ad.add j) (by rw [add_block]; injection e with e; subst e; simp; omega) (by rw [add_block]; injection e with e; subst e; intro e; have := Option.some.inj e; simp at this)).trans (one_cell_c w3 s ad e j u hu))
            have co5 := (HV5.out.2.cell (p := ⟨b, off + k * 2 + 1, none⟩) hb3s).trans x1
            have hs5 := HV5.out.2.size
            clear hown5 hg5
            refine hK.out _ _ co5 (fun hHeld => ?_)
            clear hK K
            try simp only [Act.put, List.getElem_toArray, List.getElem_cons_zero, List.getElem_cons_succ, List.setIfInBounds_toArray, List.set_cons_zero, List.set_cons_succ]
            refine wpAnyH_ready (rs := [9]) (by kernel_rfl) (by simp) ?_
            refine (AllReadyH.cons rfl (fun K hK => ?_) AllReadyH.nil)
            refine step_app _ (by rfl) _ _ (by rfl) w3.heap.size v5 L.length (L.map mvs) (by rfl) HV5.out.1 (some ⟨w3.heap.size, 0, none⟩) 1 1 [.string s] (by rfl) (fun e => by cases e) (by rfl) HX5.out (by intro u hu; simp at hu; subst hu; rfl) (by omega) (show w3.heap.size ≤ (w5).heap.size from (HV5.out.2).size) ?_
            intro v6 w6 hown6 hg6
            have hg6 : (w5).grownBy w6 v5.ownBlock := ⟨hg6.os, hg6.tape, hg6.output, hg6.size, hg6.block⟩
            have hv6 := app_one (L := L ++ [s]) HV5.out.2 HV5.out.1 hln.symm (fun ys e => by rw [e, List.map_append]; exact hown6) hg6
            obtain ⟨A6, c6, rfl, hls6, hof6, -⟩ := own_lss hv6.1
            have HI6 := Lib.hid (show PlI w N n (k + 1) t (L ++ [s]) A6 c6 w6 from ⟨hq6, HR3.out.below hv6.2, hls6, fun a e => Nat.le_trans hN4 (hof6 (by omega) a e), HB3.out.trans (hv6.2.mono HB3.out.size)⟩)
            have co6 := (hv6.2.cell (p := ⟨b, off + k * 2 + 1, none⟩) hb3s).trans x1
            have hq7 : t + (L ++ [s]).length ≤ 1000 := by omega
            clear hown6 hg6 hv6 hls6 hof6
            refine hK.out _ _ co6 (fun hHeld => ?_)
            clear hK K
            try simp only [Act.put, List.getElem_toArray, List.getElem_cons_zero, List.getElem_cons_succ, List.setIfInBounds_toArray, List.set_cons_zero, List.set_cons_succ]
            refine wpAnyH_take (i := 10) (v := .slice A6 (L ++ [s]).length c6) rfl (by kernel_rfl) (by kernel_rfl) (by kernel_rfl) (fun _ _ _ h => h) (Or.inl ⟨by rfl, fun w' hSw => ?_⟩) hHeld ?_
            · (try dsimp only at hSw)
              go_simp
            try simp only [Act.put, List.getElem_toArray, List.getElem_cons_zero, List.getElem_cons_succ, List.setIfInBounds_toArray, List.set_cons_zero, List.set_cons_succ]
            refine wpAnyH_done (by kernel_rfl) ?_ _
            clear hHeld co6 co5 x1 HV5 HWa HWb HWc HMa HMb HMc HNa HNb HNc HNN HB3 HR3 HW3 HC3 HOF hln hq6
            generalize L ++ [s] = L6 at HI6 hq7 ⊢
            have HST := Lib.hid (stampss HI6.out.ring)
            have HLN := Lib.hid (lens HI6.out.ring)
            go_wp2_with fail
            refine HST.out.mono ?_
            rintro e wS ⟨rfl, rfl⟩
            go_wp2_with fail
            refine HLN.out.mono ?_
            rintro e wS ⟨rfl, rfl⟩
            go_wp2
            go_roundw
            case rel => exact ⟨k + 1, t, L6, A6, c6, by omega, by go_num, rfl, rfl, HI6⟩
            case measure => simp [intOf]; omega
      · have HP := Lib.hid (fun w => HPK.out 2 w h)
        clear hpk h HPK
        cases L with
        | nil =>
          have HF := Lib.hid (take_nones HI.out.ring)
          go_wp2_with fail
          refine (HP.out _).mono ?_
          rintro e w3 ⟨rfl, rfl⟩
          have he := HE.out.2
          go_wp2_with fail
          refine HF.out.mono ?_
          rintro e w3 ⟨rfl, rfl⟩
          go_wp2
          go_roundw
          case rel => exact ⟨k + 1, t, [], A1, c1, by omega, by go_num, rfl, rfl, Lib.hid (HI.out.next (by omega))⟩
          case measure => simp [intOf]; omega
        | cons y M =>
          have HF := Lib.hid (take_somes HI.out.ring)
          rw [List.length_cons] at g1 g4 hfew ⊢
          go_wp2_with fail
          refine (HP.out _).mono ?_
          rintro e w3 ⟨rfl, rfl⟩
          go_wp2_with fail
          refine HF.out.mono ?_
          rintro e w3 ⟨rfl, hr3, hc3⟩
          have HI3 := Lib.hid (show PlI w N n (k + 1) (t + 1) M (cutS A1 1 c1) (c1 - 1) w3 from ⟨by omega, hr3, (HI.out.want.chg HI.out.off hc3).tail, off_cut HI.out.off 1 c1, HI.out.below.trans (hc3.below hs1 hsr)⟩)
          have hw3 := HI.out.want.chg HI.out.off hc3
          have hcap := hw3.1
          have hcm := hw3.2.1
          obtain ⟨b3, o3, hA3, hb3, hx3⟩ := hw3.at_ (j := 0) (by simp)
          subst hA3
          rw [Nat.add_zero, show (y :: M).getD 0 ⟨#[]⟩ = y from rfl] at hx3
          rw [List.length_cons] at hcap
          unfold maxLen at hcm
          clear hr3 hc3 hw3 HI HF HP c0 c1'
          have i0 : (((M.length + 1 : Nat) : Int) == 0) = false := by simp; omega
          have i1 : (0 : Int) < ((M.length + 1 : Nat) : Int) := by omega
          have i2 : (1 : Int) ≤ ((M.length + 1 : Nat) : Int) := by omega
          have i3 : 1 ≤ M.length + 1 := by omega
          have i4 : 1 ≤ c1 := by omega
          by_cases hc1 : c1 = 1
          · subst hc1
            have z0 : M.length = 0 := by omega
            have HST := Lib.hid (stampss HI3.out.ring)
            have HLN := Lib.hid (lens HI3.out.ring)
            go_wp2_with fail
            refine HST.out.mono ?_
            rintro e wS ⟨rfl, rfl⟩
            go_wp2_with fail
            refine HLN.out.mono ?_
            rintro e wS ⟨rfl, rfl⟩
            go_wp2
            go_roundw
            case rel => exact ⟨k + 1, t + 1, M, cutS (some ⟨b3, o3, none⟩) 1 1, 0, by omega, by go_num, by go_num, by (rw [show M.length = 0 by omega]; rfl), HI3⟩
            case measure => simp [intOf]; omega
          · skip
            have HST := Lib.hid (stampss HI3.out.ring)
            have HLN := Lib.hid (lens HI3.out.ring)
            go_wp2_with fail
            refine HST.out.mono ?_
            rintro e wS ⟨rfl, rfl⟩
            go_wp2_with fail
            refine HLN.out.mono ?_
            rintro e wS ⟨rfl, rfl⟩
            go_wp2
            go_roundw
            case rel => exact ⟨k + 1, t + 1, M, cutS (some ⟨b3, o3, none⟩) 1 c1, c1 - 1, by omega, by go_num, by go_num, by (unfold cutS; rw [if_neg hc1]; first | rfl | (simp only [Option.map_some]; rw [add_lit])), HI3⟩
            case measure => simp [intOf]; omega
      · have HP := Lib.hid (fun w => HPK.out 3 w h)
        clear hpk h HPK
        have HF := Lib.hid (drains HI.out.ring)
        go_wp2_with fail
        refine (HP.out _).mono ?_
        rintro e w3 ⟨rfl, rfl⟩
        go_wp2_with fail
        refine HF.out.mono ?_
        rintro e w3 ⟨A3, c3, rfl, hls, hr3, hc3⟩
        have HLS := Lib.hid hls
        have HW := Lib.hid (HI.out.want.chg HI.out.off hc3)
        have HI3 := Lib.hid (show PlI w N n (k + 1) (t + L.length) [] none 0 w3 from ⟨by simp; omega, hr3, ls_nils _, (fun a e => by cases e), HI.out.below.trans (hc3.below hs1 hsr)⟩)
        clear hls hr3 hc3 HI HF HP c0 c1'
        go_wp2_with fail
        go_loopw [15] (fun i wr' => ∃ (j d : Nat), j ≤ L.length ∧ i = .int .i64 j ∧ wr' = w3.drewN d) (fun i _ => L.length - (intOf i).toNat)
        case atStart => exact ⟨0, 0, Nat.zero_le _, rfl, rfl⟩
        case round =>
          obtain ⟨j, d, hj, rfl, rfl⟩ := hrel
          by_cases hjm : j < L.length
          · obtain ⟨b3, o3, rfl, hb3, hx3⟩ := HLS.out.at_ hjm
            obtain ⟨b4, o4, rfl, hb4, hx4⟩ := HW.out.at_ hjm
            generalize L.getD j ⟨#[]⟩ = y at hx3 hx4
            have q1 : (j : Int) < (L.length : Int) := by omega
            have q2 : (0 : Int) ≤ (j : Int) := by omega
            go_wp2
            go_quiet (fail)
            go_wp2
            go_roundw
            case rel => exact ⟨j + 1, d + _, by omega, by go_num, rfl⟩
            case measure => simp [intOf]; omega
          · obtain rfl : j = L.length := by omega
            have HI4 := Lib.hid (HI3.out.draw d)
            have HST := Lib.hid (stampss HI4.out.ring)
            have HLN := Lib.hid (lens HI4.out.ring)
            go_wp2_with fail
            refine HST.out.mono ?_
            rintro e wS ⟨rfl, rfl⟩
            go_wp2_with fail
            refine HLN.out.mono ?_
            rintro e wS ⟨rfl, rfl⟩
            go_wp2
            go_roundw
            case rel => exact ⟨k + 1, t + L.length, [], none, 0, by omega, by go_num, by go_num, rfl, HI4⟩
            case measure => simp [intOf]; omega
    · have HB := Lib.hid HI.out.below
      go_wp2
      go_ret
      exact ⟨rfl, HB.out⟩
end Go.Proofs.Ytnghhcjfalgkdaa
