/- The contract of package elide's Groups: the groups of the order. Condition: no more than 500 requests; what came in can be read. -/
import Derived.Test.YthcchaglloggjaaYl
namespace Go.Proofs.Ythcchaglloggjaa
open Go.RowKit
set_option linter.unusedVariables false
set_option maxRecDepth 100000

theorem Try.infoInts : (Try.prog.info? 30).map (fun i => (i.zero, i.size, i.bytes)) = some (some (.slice none 0 0), 1, 24) := by kernel_rfl
def grpL (M : List Rq) (g : Nat → Nat) (n : Nat) : List (List Nat) := if n = 0 then [] else (grp M g n).1 ++ [(grp M g n).2]
theorem grpl_congr {M : List Rq} {g g' : Nat → Nat} {n : Nat} (h : ∀ k, k < n → g k = g' k) : grpL M g n = grpL M g' n := by
  unfold grpL
  rw [grp_congr h n (Nat.le_refl n)]
/-- Where the loop over the order has come to. -/
def GrsI (N : Nat) (M : List Rq) (g : Nat → Nat) (j : Nat) (v : Value) (w : World) : Prop :=
  (j = 0 ∧ v = .slice none 0 0) ∨ (0 < j ∧ ∃ u hs, GrM w N v u hs (grp M g j).1 (grp M g j).2)
theorem grsi_end {N n : Nat} {M : List Rq} {g : Nat → Nat} {v : Value} {w : World} (h : GrsI N M g n v w) : ∃ A c, v = .slice A (grpL M g n).length c ∧ On (N ≤ ·) w (Grs · A (grpL M g n).length (grpL M g n)) := by
  rcases h with ⟨rfl, rfl⟩ | ⟨h0, u, hs, h⟩
  · exact ⟨none, 0, rfl, fun w' _ => grs_nil w'⟩
  · obtain ⟨A, c, e, hg⟩ := h.grsN
    have e2 : grpL M g n = (grp M g n).1 ++ [(grp M g n).2] := by unfold grpL; rw [if_neg (by omega)]
    rw [e2]
    exact ⟨A, c, by simpa using e, by simpa using hg⟩
/-- A number in a new block is a row of one's own. -/
theorem own_one (w : World) (N x : Nat) (hN : N ≤ w.heap.size) : OwnN (w.alloc (.cells #[.int .i64 x] 3)) N (.slice (some ⟨w.heap.size, 0, none⟩) 1 1) 1 [x] :=
  ⟨by simp, .inr ⟨w.heap.size, 1, #[.int .i64 x], rfl, hN, Deep.blk_alloc_new _ _, Nat.le_refl _, by unfold maxLen; omega, rfl, by simp [natV]⟩⟩

/-- The two blocks that a new group lies in. -/
theorem new_group {w : World} {N x : Nat} (hN : N ≤ w.heap.size) : ∃ V, V = (w.alloc (.cells #[.int .i64 x] 3)).alloc (.cells #[.slice (some ⟨w.heap.size, 0, none⟩) 1 1] 30) ∧ Below w.heap.size w V ∧ OwnN V N (.slice (some ⟨w.heap.size, 0, none⟩) 1 1) 1 [x] ∧
    (∀ j u, ([.slice (some ⟨w.heap.size, 0, none⟩) 1 1] : List Value)[j]? = some u → V.cell? ((⟨w.heap.size + 1, 0, none⟩ : Addr).add j) = some u) ∧ V.heap.size = w.heap.size + 1 + 1 := by
  refine ⟨_, rfl, ((Below.refl _ _).alloc (Nat.le_refl _) _).alloc (by simp) _, (World.ownsRow.alloc (own_one w N x hN) _), fun j u hu => ?_, by simp⟩
  rcases j with _ | j
  · simp at hu
    subst hu
    simp [Addr.add]
  · simp at hu

set_option maxHeartbeats 16000000 in
theorem groups_any {w : World} {A : Option Addr} {n : Nat} (c : Nat) {M : List Rq} (h : Reqs w A n M) (hn : n ≤ 500) :
    Calls Try.prog 26 #[.slice A n c] w fun e w' => ∃ (B : Option Addr) (c' : Nat) (g : Nat → Nat), e = .returned (.slice B (grpL M g n).length c') ∧ OrdI M n g ∧ On (w.heap.size ≤ ·) w' (Grs · B (grpL M g n).length (grpL M g n)) ∧ Below w.heap.size w w' := by
  have HORD := Lib.hid (order_any c h (by omega))
  have H := Lib.hid h
  clear h
  obtain ⟨i0, hi, hz0, hz1, hz2⟩ := info_parts Try.infoInts
  have HI := Lib.hid hi
  have HZ := Lib.hid (And.intro hz0 (And.intro hz1 hz2))
  obtain ⟨i1, hi1, hy0, hy1, hy2⟩ := info_parts Try.infoInt
  have HI1 := Lib.hid hi1
  have HZ1 := Lib.hid (And.intro hy0 (And.intro hy1 hy2))
  clear hi hz0 hz1 hz2 hi1 hy0 hy1 hy2
  go_enter Try.func26, Try.ntmps26
  go_wp2_with fail
  refine HORD.out.mono ?_
  rintro e w1 ⟨B, c1, g, rfl, hnt, hor, hb1⟩
  have HNT := Lib.hid hnt
  have HOR := Lib.hid hor
  have HB1 := Lib.hid hb1
  clear hnt hor hb1 HORD
  go_wp2
  go_loopw [3, 10] (fun v s wr => ∃ j : Nat, j ≤ n ∧ s = .int .i64 j ∧ Hid (GrsI w1.heap.size M g j v wr) ∧ Below w1.heap.size w1 wr) (fun _ s _ => n - (intOf s).toNat)
  case atStart => exact ⟨0, Nat.zero_le _, rfl, Lib.hid (.inl ⟨rfl, rfl⟩), Below.refl _ _⟩
  case round =>
    obtain ⟨j, hj, rfl, HG, hb⟩ := hrel
    have HB := Lib.hid hb
    clear hb
    by_cases hlt : j < n
    · obtain ⟨ob, oo, rfl, hob, co⟩ := (HNT.out.below HB.out).at_ hlt
      have hxn := HOR.out.lt j hlt
      rcases HG.out with ⟨hj0, hv⟩ | ⟨hj0, u, hs, hgm⟩
      · subst hv
        have HGE := Lib.hid (show grp M g (j + 1) = ([], [g j]) by rw [hj0]; exact grp_one M g)
        clear HG hj0
        generalize hx : g j = x at co hxn HGE
        clear hx
        go_upto_region 6 with fail
        go_quiet (fail)
        have HB2 := Lib.hid (HB.out.trans ((Drawn.below ⟨nq, rfl⟩ _ : Below w1.heap.size wr (wr.drewN nq))))
        generalize wr.drewN nq = w2 at HB2 ⊢
        obtain ⟨V, hV, hVB, hVO, hVN, hVs⟩ := new_group (w := w2) (N := w1.heap.size) (x := x) HB2.out.size
        have HVE := Lib.hid hV
        have HVB := Lib.hid (HB2.out.trans (hVB.mono HB2.out.size))
        have HVO := Lib.hid hVO
        have HVN := Lib.hid hVN
        have hvs : V.heap.size = w2.heap.size + 1 + 1 := hVs
        have HVS := Lib.hid hvs
        clear hV hVB hVO hVN hVs hvs co
        go_upto_region 8 with fail
        go_wp2_with (at_builtin; rw [← HVE.out]; refine wpList_append_own_at _ rfl _ _ 69 rfl w1.heap.size 30 i0 (.slice none 0 0) 1 24 Try.underlying69 HI.out HZ.out.1 HZ.out.2.1 HZ.out.2.2 rfl (by decide) (.slice none 0 0) 0 [] rfl (World.ownsRow_nil _ _ _ _) ⟨w2.heap.size + 1, 0, none⟩ 1 1 [.slice (some ⟨w2.heap.size, 0, none⟩) 1 1] rfl rfl HVN.out ?c2 (by unfold maxLen; omega) (by omega) HVB.out.size ?_)
        case c2 => intro u hu; simp at hu; subst hu; rfl
        intro v' w6 hown6 hg6 hnil hat
        have HST := Lib.hid (show GrM w6 w1.heap.size v' (.slice (some ⟨w2.heap.size, 0, none⟩) 1 1) [] [] [x] from gm_first hg6 hown6 hat HVO.out)
        have HB6 := Lib.hid (HVB.out.grown hg6 HVB.out.size (by intro k hk; cases hk))
        clear hown6 hg6 hnil hat
        go_wp2
        go_roundw
        case rel => exact ⟨j + 1, by omega, by go_num, Lib.hid (.inr ⟨by omega, _, _, by rw [HGE.out]; exact HST.out⟩), HB6.out⟩
        case measure => simp [intOf]; omega
      · have hI := grp_i (M := M) HOR.out.lt j hj
        have hCp := hI.ne hj0
        have hy := hI.lt 0 hCp
        have hIl := hI.len
        have HGJ0 := Lib.hid (fun (ht : togQ (gq M (nat (grp M g j).2 0)) (gq M (g j)) = true) => grp_join (M := M) (g := g) hCp ht)
        have HGN0 := Lib.hid (fun (ht : togQ (gq M (nat (grp M g j).2 0)) (gq M (g j)) = false) => grp_new (M := M) (g := g) hCp ht)
        obtain ⟨D, hD⟩ : ∃ D, D = (grp M g j).1 := ⟨_, rfl⟩
        obtain ⟨C, hC⟩ : ∃ C, C = (grp M g j).2 := ⟨_, rfl⟩
        rw [← hD, ← hC] at hgm hIl HGJ0 HGN0
        rw [← hC] at hCp hy
        have HDC := Lib.hid (And.intro hD hC)
        clear hI hD hC HG
        obtain ⟨Av, cv, rfl, -⟩ := own_new hgm.own
        obtain ⟨gb, rfl, hgbN, hgbs⟩ := own_at hgm.own (by omega)
        obtain ⟨Au, cu, rfl, hCn⟩ := own_nls hgm.last
        obtain ⟨ub, rfl, hubN, hubs⟩ := own_at hgm.last hCp
        have HGM := Lib.hid hgm
        have cg : wr.cell? ⟨gb, D.length, none⟩ = some (.slice (some ⟨ub, 0, none⟩) C.length cu) := (hgm.own.cellAt D.length (by omega)).trans (by rw [List.getElem?_append_right (by rw [hgm.len]; exact Nat.le_refl _), hgm.len, Nat.sub_self]; rfl)
        obtain ⟨ub', uo', eu, -, ci⟩ := hCn.at_ hCp
        injection eu with eu
        injection eu with eu1 eu2
        subst eu1
        subst eu2
        obtain ⟨y, hyv⟩ : ∃ y, y = nat C 0 := ⟨_, rfl⟩
        obtain ⟨x, hxv⟩ : ∃ x, x = g j := ⟨_, rfl⟩
        rw [← hyv] at hy ci HGJ0 HGN0
        rw [← hxv] at hxn co HGJ0 HGN0
        rw [Nat.zero_add] at ci
        obtain ⟨b, o, rfl, hbl, h1, x0, x1, x2, x3, x4, x5, x6, x7, hr1⟩ := (H.out.below (HB1.out.trans (HB.out.mono HB1.out.size))).at_ hy
        obtain ⟨b', o', e', -, h2, y0, y1, y2, y3, y4, y5, y6, y7, hr2⟩ := (H.out.below (HB1.out.trans (HB.out.mono HB1.out.size))).at_ hxn
        injection e' with e'
        injection e' with e1 e2
        subst e1
        subst e2
        have DT := Lib.hid (together_any (w := wr.drew) (hr1.below (Below.refl _ _).drew) (hr2.below (Below.refl _ _).drew))
        have HGJ := Lib.hid (fun ht => HGJ0.out ht)
        have HGN := Lib.hid (fun ht => HGN0.out ht)
        clear hgm hCn hr1 hr2 hyv hxv HGJ0 HGN0
        generalize togQ (gq M y) (gq M x) = t at DT HGJ HGN
        generalize gq M y = r1 at x0 x1 x2 x3 x4 x5 x6 x7 DT
        generalize gq M x = r2 at y0 y1 y2 y3 y4 y5 y6 y7 DT
        have by1 : (0 : Int) ≤ (y : Int) := by omega
        have by2 : (y : Int) < (n : Int) := by omega
        have bx1 : (0 : Int) ≤ (x : Int) := by omega
        have bx2 : (x : Int) < (n : Int) := by omega
        have bd1 : (0 : Int) ≤ (D.length : Int) := by omega
        have bd2 : (D.length : Int) < (D.length : Int) + 1 := by omega
        have bc1 : (0 : Int) < (C.length : Int) := by omega
        have wd1 : IntKind.i64.wrap (D.length : Int) = (D.length : Int) := by rw [IntKind.wrap_i64]; omega
        have hdl : D.length ≤ 500 := by omega
        have hcl : C.length ≤ 500 := by omega
        cases t
        all_goals
          go_upto_region 6 with fail
          go_region_held3 (fun w' => w'.cell? ⟨gb, D.length, none⟩ = some (.slice (some ⟨ub, 0, none⟩) C.length cu) ∧ w'.cell? ⟨ub, 0, none⟩ = some (.int .i64 y) ∧ w'.cell? ⟨b, o + y * 8, none⟩ = some (.int .i64 r1.cl) ∧ w'.cell? ⟨b, o + y * 8 + 1, none⟩ = some (.int .i64 r1.sq) ∧ w'.cell? ⟨b, o + y * 8 + 2, none⟩ = some (.int .i64 r1.kind) ∧ w'.cell? ⟨b, o + y * 8 + 3, none⟩ = some (.slice h1.A h1.n h1.c) ∧ w'.cell? ⟨b, o + y * 8 + 4, none⟩ = some (.slice h1.B h1.m h1.d) ∧ w'.cell? ⟨b, o + y * 8 + 5, none⟩ = some (.slice h1.C h1.o h1.p) ∧ w'.cell? ⟨b, o + y * 8 + 6, none⟩ = some (.slice h1.D h1.q h1.s) ∧ w'.cell? ⟨b, o + y * 8 + 7, none⟩ = some (.int .i64 r1.limit) ∧
              w'.cell? ⟨b, o + x * 8, none⟩ = some (.int .i64 r2.cl) ∧ w'.cell? ⟨b, o + x * 8 + 1, none⟩ = some (.int .i64 r2.sq) ∧ w'.cell? ⟨b, o + x * 8 + 2, none⟩ = some (.int .i64 r2.kind) ∧ w'.cell? ⟨b, o + x * 8 + 3, none⟩ = some (.slice h2.A h2.n h2.c) ∧ w'.cell? ⟨b, o + x * 8 + 4, none⟩ = some (.slice h2.B h2.m h2.d) ∧ w'.cell? ⟨b, o + x * 8 + 5, none⟩ = some (.slice h2.C h2.o h2.p) ∧ w'.cell? ⟨b, o + x * 8 + 6, none⟩ = some (.slice h2.D h2.q h2.s) ∧ w'.cell? ⟨b, o + x * 8 + 7, none⟩ = some (.int .i64 r2.limit)) (go_keep)
            ((go_at_call 39
              (with_reducible refine DT.out.mono ?_)
              rintro e w3 ⟨rfl, hb3⟩
              have hb3 : Below wr.heap.size wr w3 := undrew hb3
              have HB3 := Lib.hid (HB.out.trans (hb3.mono HB.out.size))
              have HGM3 := Lib.hid (HGM.out.below hb3)
              have cg := (hb3.cell (p := ⟨gb, D.length, none⟩) hgbs).trans cg
              have ci := (hb3.cell (p := ⟨ub, 0, none⟩) hubs).trans ci
              have x0 := (hb3.cell (p := ⟨b, o + y * 8, none⟩) hbl).trans x0
              have x1 := (hb3.cell (p := ⟨b, o + y * 8 + 1, none⟩) hbl).trans x1
              have x2 := (hb3.cell (p := ⟨b, o + y * 8 + 2, none⟩) hbl).trans x2
              have x3 := (hb3.cell (p := ⟨b, o + y * 8 + 3, none⟩) hbl).trans x3
              have x4 := (hb3.cell (p := ⟨b, o + y * 8 + 4, none⟩) hbl).trans x4
              have x5 := (hb3.cell (p := ⟨b, o + y * 8 + 5, none⟩) hbl).trans x5
              have x6 := (hb3.cell (p := ⟨b, o + y * 8 + 6, none⟩) hbl).trans x6
              have x7 := (hb3.cell (p := ⟨b, o + y * 8 + 7, none⟩) hbl).trans x7
              have y0 := (hb3.cell (p := ⟨b, o + x * 8, none⟩) hbl).trans y0
              have y1 := (hb3.cell (p := ⟨b, o + x * 8 + 1, none⟩) hbl).trans y1
              have y2 := (hb3.cell (p := ⟨b, o + x * 8 + 2, none⟩) hbl).trans y2
              have y3 := (hb3.cell (p := ⟨b, o + x * 8 + 3, none⟩) hbl).trans y3
              have y4 := (hb3.cell (p := ⟨b, o + x * 8 + 4, none⟩) hbl).trans y4
              have y5 := (hb3.cell (p := ⟨b, o + x * 8 + 5, none⟩) hbl).trans y5
              have y6 := (hb3.cell (p := ⟨b, o + x * 8 + 6, none⟩) hbl).trans y6
              have y7 := (hb3.cell (p := ⟨b, o + x * 8 + 7, none⟩) hbl).trans y7
              clear hb3))
          clear DT x0 x1 x2 x3 x4 x5 x6 x7 y0 y1 y2 y3 y4 y5 y6 y7
        · skip
          obtain ⟨V, hV, hVB, hVO, hVN, hVs⟩ := new_group (w := w3) (N := w1.heap.size) (x := x) HB3.out.size
          have HVE := Lib.hid hV
          have HVW := Lib.hid hVB
          have HVB := Lib.hid (HB3.out.trans (hVB.mono HB3.out.size))
          have HVO := Lib.hid hVO
          have HVN := Lib.hid hVN
          have HGV := Lib.hid (HGM3.out.below hVB)
          have hvs : V.heap.size = w3.heap.size + 1 + 1 := hVs
          clear hV hVB hVO hVN hVs hvs
          go_upto_region 8 with fail
          go_wp2_with (at_builtin; rw [← HVE.out]; refine wpList_append_own_at _ rfl _ _ 69 rfl w1.heap.size 30 i0 (.slice none 0 0) 1 24 Try.underlying69 HI.out HZ.out.1 HZ.out.2.1 HZ.out.2.2 rfl (by decide) (.slice (some ⟨gb, 0, none⟩) (D.length + 1) cv) (D.length + 1) (hs ++ [.slice (some ⟨ub, 0, none⟩) C.length cu]) rfl HGV.out.own ⟨w3.heap.size + 1, 0, none⟩ 1 1 [.slice (some ⟨w3.heap.size, 0, none⟩) 1 1] rfl rfl HVN.out ?c2 (by unfold maxLen; omega) (by omega) HVB.out.size ?_)
          case c2 => intro u hu; simp at hu; subst hu; rfl
          intro v' w6 hown6 hg6 hnil hat
          have HST := Lib.hid (show GrM w6 w1.heap.size v' (.slice (some ⟨w3.heap.size, 0, none⟩) 1 1) (hs ++ [.slice (some ⟨ub, 0, none⟩) C.length cu]) (D ++ [C]) [x] from gm_new HGM3.out HVW.out hg6 (by simpa using hown6) hat HVO.out (fun b hb => by
            have hb' : w3.heap.size = b := Option.some.inj hb
            omega))
          have HB6 := Lib.hid (HVB.out.grown hg6 HVB.out.size (by intro k hk; have hk' : gb = k := Option.some.inj hk; omega))
          clear hown6 hg6 hnil hat
          go_wp2
          go_roundw
          case rel => exact ⟨j + 1, by omega, by go_num, Lib.hid (.inr ⟨by omega, _, _, by rw [HGN.out (by trivial)]; exact HST.out⟩), HB6.out⟩
          case measure => simp [intOf]; omega
        · skip
          have HW4 := Lib.hid ((Below.refl w3.heap.size w3).alloc (Nat.le_refl _) (.cells #[.int .i64 x] 3))
          have HGM4 := Lib.hid (HGM3.out.below HW4.out)
          have HB4 := Lib.hid (HB3.out.trans (HW4.out.mono HB3.out.size))
          go_upto_region 7 with fail
          go_wp2_with (at_builtin; refine wpList_append_own_at _ rfl _ _ 30 rfl w1.heap.size 3 i1 (.int .i64 0) 1 8 Try.underlying30 HI1.out HZ1.out.1 HZ1.out.2.1 HZ1.out.2.2 rfl (by decide) (.slice (some ⟨ub, 0, none⟩) C.length cu) C.length (C.map natV) rfl HGM4.out.last ⟨w3.heap.size, 0, none⟩ 1 1 [.int .i64 x] rfl rfl ?c1 ?c2 (by unfold maxLen; omega) (by omega) HB4.out.size ?_)
          case c1 => intro p u hu; rcases p with _ | p <;> simp at hu; subst hu; simp [Addr.add]
          case c2 => intro u hu; simp at hu; subst hu; rfl
          intro u' w5 hown5 hg5 hnil hat
          have ho5 : OwnN w5 w1.heap.size u' (C.length + 1) (C ++ [x]) := by simpa [OwnN, natV] using hown5
          obtain ⟨A5, c5, rfl, -⟩ := own_nls ho5
          have HO5 := Lib.hid ho5
          have HA5 := Lib.hid (show Agree (Off (.slice (some ⟨ub, 0, none⟩) C.length cu)) _ w5 from agree_grown hg5 fun k hk hc => hc k hk rfl)
          have hat5 : ∀ b, (Value.slice A5 (C.length + 1) c5).ownBlock = some b → (Value.slice (some ⟨ub, 0, none⟩) C.length cu).ownBlock = some b ∨ w3.heap.size + 1 ≤ b := fun b hb => by
            rcases hat with e | e
            · exact .inl (by rw [← e]; exact hb)
            · rw [e] at hb
              have hb' := Option.some.inj hb
              right
              try simp at hb'
              omega
          have HST := Lib.hid (gm_put (C' := C ++ [x]) HGM4.out HA5.out (by rw [show (C ++ [x]).length = C.length + 1 by simp]; exact HO5.out) (fun b hb => by
            rcases hat5 b hb with h1 | h1
            · exact .inl h1
            · exact .inr (by rw [alloc_sz]; exact h1)))
          have hoff : Off (.slice (some ⟨ub, 0, none⟩) C.length cu) gb := fun k hk e => HGM4.out.apart k hk gb rfl e.symm
          have hown : w5.ownsRow w1.heap.size 30 1 (.slice (some ⟨gb, 0, none⟩) (D.length + 1) cv) (D.length + 1) (hs ++ [.slice (some ⟨ub, 0, none⟩) C.length cu]) := own_agree HGM4.out.own HA5.out (fun k hk => by
            have hk' : gb = k := Option.some.inj hk
            rw [← hk']
            exact hoff)
          have f0 := hown.frozenAt D.length
          have f1 : w5.cell? ⟨gb, D.length, none⟩ = some (.slice (some ⟨ub, 0, none⟩) C.length cu) := (hown.cellAt D.length (by omega)).trans (by rw [List.getElem?_append_right (by rw [HGM4.out.len]; exact Nat.le_refl _), HGM4.out.len, Nat.sub_self]; rfl)
          have HB6 := Lib.hid ((HB4.out.grown hg5 HB4.out.size (by intro k hk; have hk' : ub = k := Option.some.inj hk; omega)).setCell (p := ⟨gb, D.length, none⟩) hgbN (.slice A5 (C.length + 1) c5))
          clear hown5 ho5 hg5 hnil hat hat5 hoff hown co cg ci
          go_wp2
          go_roundw
          case rel => exact ⟨j + 1, by omega, by go_num, Lib.hid (.inr ⟨by omega, _, _, by rw [HGJ.out (by trivial)]; exact HST.out⟩), HB6.out⟩
          case measure => simp [intOf]; omega
    · obtain rfl : j = n := by omega
      obtain ⟨A2, c2, rfl, hgr⟩ := grsi_end HG.out
      have HGR := Lib.hid (hgr.mono (C' := (w.heap.size ≤ ·)) (fun b hb => Nat.le_trans HB1.out.size hb))
      clear hgr HG
      go_wp2
      go_ret
      exact ⟨A2, c2, g, rfl, HOR.out, HGR.out, HB1.out.trans (HB.out.mono HB1.out.size)⟩
end Go.Proofs.Ythcchaglloggjaa
