/- The contract of the document's own Groups: the groups of the order. Condition: no more than 500 requests, whose slices have at most 100 bytes; what came in can be read. -/
import Derived.Test.YthcchaglloggjaaYm
namespace Go.Proofs.Ythcchaglloggjaa
open Go.RowKit
set_option linter.unusedVariables false
set_option maxRecDepth 100000

/-- append of cells at a step of a region that draws its order. -/
theorem step_append_at {P : Program} (w : World) {ops : Array Oper} {o : Oper} {a : Act} {K : Act → World → Prop} {Q : Exit → Act → World → Prop} {E : Prop} (hgd : o.guard = none) (s x : Operand) (t : TypeId)
    (ho : o.op = .call { callee := .builtin .append, args := #[s, x], argTypes := #[t, t] })
    (base : Nat) (e : TypeId) (i : TypeInfo) (z : Value) (size bytes : Nat) (ht : P.underlying t = some (.slice e)) (hi : P.info? e = some i) (hz : i.zero = some z)
    (hsize : i.size = size) (hby : i.bytes = bytes) (hzs : z.cells.size = size) (hsz : 0 < size)
    (v : Value) (n : Nat) (xs : List Value) (hs : a.eval s = v) (hown : w.ownsRow base e size v n xs)
    (ad : Addr) (m c : Nat) (news : List Value) (hx : a.eval x = .slice (some ad) m c) (hl : news.length = m * size) (hnews : ∀ j u, news[j]? = some u → w.cell? (ad.add j) = some u) (h1 : ∀ u ∈ news, u.oneCell' = true)
    (h63 : n + m ≤ maxLen) (hbytes : (n + m) * bytes ≤ 140737488355328) (hbase : base ≤ w.heap.size)
    (h : ∀ v' w', w'.ownsRow base e size v' (n + m) (xs ++ news) → w.grownBy w' v.ownBlock → (v'.ownBlock = v.ownBlock ∨ v'.ownBlock = some w.heap.size) → K (a.put o.dst v') w') :
    if Region.wanted o (yielded ops a.tmps) = true then Oper.wp P o a w K Q else E := by
  have hw : Region.wanted o (yielded ops a.tmps) = true := by simp [Region.wanted, hgd]
  rw [if_pos hw]
  obtain ⟨v', w', hr, h2, h3, _, h5⟩ := run_append_own_at (P := P) w base t o.type e i z size bytes ht hi hz hsize hby hzs hsz v n xs hown ad m c news hl hnews h1 h63 hbytes hbase
  unfold Oper.wp execOp
  simp only [ho, resolve, invoke, builtin, Sem.run_bind, Sem.run_pure, Result.andThen_ok, List.map_toArray, List.map_cons, List.map_nil, hs, hx, hr]
  exact h v' w' h2 h3 h5
theorem app_block {w3 W w5 : World} {v5 : Value} {r : Option Nat} (hW : Below w3.heap.size w3 W) (hr : ∀ k, r = some k → w3.heap.size ≤ k) (hg : W.grownBy w5 r) (hat : v5.ownBlock = r ∨ v5.ownBlock = some W.heap.size) : Below w3.heap.size w3 w5 ∧ ∀ k, v5.ownBlock = some k → w3.heap.size ≤ k :=
  ⟨hW.grown hg hW.size hr, fun k hk => by
    rcases hat with e | e
    · exact hr k (by rw [← e]; exact hk)
    · rw [e] at hk
      have := Option.some.inj hk
      have := hW.size
      omega⟩
theorem grown_far {w w' : World} {r : Option Nat} (h : w.grownBy w' r) (a : Addr) (hl : a.block < w.heap.size) (hn : some a.block ≠ r) : w'.cell? a = w.cell? a := World.cell?_of_block (h.block a.block hl hn)
theorem undrewg {w w' : World} {r : Option Nat} (h : w.drew.grownBy w' r) : w.grownBy w' r := ⟨h.os, h.tape, h.output, h.size, h.block⟩
theorem one_cell_a (w : World) (x : Nat) : ∀ j u, ([.int .i64 x] : List Value)[j]? = some u → (w.alloc (.cells #[.int .i64 x] 3)).cell? ((⟨w.heap.size, 0, none⟩ : Addr).add j) = some u := fun j u hu => by
  rcases j with _ | j <;> simp at hu
  subst hu
  simp [Addr.add]
theorem one_cell_b (w : World) (x : Nat) : ∀ j u, ([.int .i64 x] : List Value)[j]? = some u → ((w.alloc (.cells #[] 3)).alloc (.cells #[.int .i64 x] 3)).cell? ((⟨w.heap.size + 1, 0, none⟩ : Addr).add j) = some u := fun j u hu => by
  have h := one_cell_a (w.alloc (.cells #[] 3)) x j u hu
  rw [alloc_sz] at h
  exact h
theorem one_cell_c (w : World) (x : Nat) : ∀ j u, ([.int .i64 x] : List Value)[j]? = some u → ((w.alloc (.cells #[.int .i64 x] 3)).alloc (.cells #[] 3)).cell? ((⟨w.heap.size, 0, none⟩ : Addr).add j) = some u := fun j u hu => by
  have h := one_cell_a w x j u hu
  exact (((Below.refl _ _).alloc (Nat.le_refl _) (.cells #[] 3)).cell (World.block_lt_of_cell? _ _ h)).trans h
/-- What the second append leaves. -/
def JoinO (w3 : World) (N : Nat) (C : List Nat) (x : Nat) (v6 : Value) (w6 : World) : Prop := OwnN w6 N v6 (C.length + 1) (C ++ [x]) ∧ Below w3.heap.size w3 w6 ∧ ∀ k, v6.ownBlock = some k → w3.heap.size ≤ k

set_option maxHeartbeats 16000000 in
theorem dgroups_any {w : World} {A : Option Addr} {n : Nat} (c : Nat) {M : List Rq} (h : Reqs w A n M) (hs : ∀ j, j < n → smallQ (gq M j) = true) (hn : n ≤ 500) :
    Calls Try.prog 29 #[.slice A n c] w fun e w' => ∃ (B : Option Addr) (c' : Nat) (g : Nat → Nat), e = .returned (.slice B (grpL M g n).length c') ∧ OrdI M n g ∧ On (w.heap.size ≤ ·) w' (Grs · B (grpL M g n).length (grpL M g n)) ∧ Below w.heap.size w w' := by
  have HORD := Lib.hid (dorder_any c h hs (by omega))
  have H := Lib.hid h
  clear h hs
  obtain ⟨i0, hi, hz0, hz1, hz2⟩ := info_parts Try.infoInts
  have HI := Lib.hid hi
  have HZ := Lib.hid (And.intro hz0 (And.intro hz1 hz2))
  obtain ⟨i1, hi1, hy0, hy1, hy2⟩ := info_parts Try.infoInt
  have HI1 := Lib.hid hi1
  have HZ1 := Lib.hid (And.intro hy0 (And.intro hy1 hy2))
  clear hi hz0 hz1 hz2 hi1 hy0 hy1 hy2
  go_enter Try.func29, Try.ntmps29
  go_wp2_with fail
  refine HORD.out.mono ?_
  rintro e w1 ⟨B, c1, g, rfl, hnt, hor, hb1⟩
  have HNT := Lib.hid hnt
  have HOR := Lib.hid hor
  have HB1 := Lib.hid hb1
  clear hnt hor hb1 HORD
  go_wp2
  go_loopw [3, 5] (fun v s wr => ∃ j : Nat, j ≤ n ∧ s = .int .i64 j ∧ Hid (GrsI w1.heap.size M g j v wr) ∧ Below w1.heap.size w1 wr) (fun _ s _ => n - (intOf s).toNat)
  case atStart => exact ⟨0, Nat.zero_le _, rfl, Lib.hid (.inl ⟨rfl, rfl⟩), Below.refl _ _⟩
  case round =>
    obtain ⟨j, hj, rfl, HG, hb⟩ := hrel
    have HB := Lib.hid hb
    clear hb
    by_cases hlt : j < n
    · obtain ⟨ob, oo, rfl, hob1, co1⟩ := HNT.out.at_ hlt
      have hob : ob < wr.heap.size := Nat.lt_of_lt_of_le hob1 HB.out.size
      have co := (HB.out.cell (p := ⟨ob, oo + j, none⟩) hob1).trans co1
      clear co1
      have hxn := HOR.out.lt j hlt
      rcases HG.out with ⟨hj0, hv⟩ | ⟨hj0, u, hs, hgm⟩
      · subst hv
        have HGE := Lib.hid (show grp M g (j + 1) = ([], [g j]) by rw [hj0]; exact grp_one M g)
        clear HG hj0
        generalize hx : g j = x at co hxn HGE
        clear hx
        go_upto_region 13 with fail
        have HB2 := Lib.hid HB.out
        generalize wr = w2 at HB2 co ⊢
        obtain ⟨V, hV, hVB, hVO, hVN, hVs⟩ := new_group (w := w2) (N := w1.heap.size) (x := x) HB2.out.size
        have HVE := Lib.hid hV
        have HVB := Lib.hid (HB2.out.trans (hVB.mono HB2.out.size))
        have HVO := Lib.hid hVO
        have HVN := Lib.hid hVN
        have hvs : V.heap.size = w2.heap.size + 1 + 1 := hVs
        have HVS := Lib.hid hvs
        clear hV hVB hVO hVN hVs hvs
        go_wp2_with (at_builtin; rw [← HVE.out]; refine wpList_append_own_at _ rfl _ _ 69 rfl w1.heap.size 30 i0 (.slice none 0 0) 1 24 Try.underlying69 HI.out HZ.out.1 HZ.out.2.1 HZ.out.2.2 rfl (by decide) (.slice none 0 0) 0 [] rfl (World.ownsRow_nil _ _ _ _) ⟨w2.heap.size + 1, 0, none⟩ 1 1 [.slice (some ⟨w2.heap.size, 0, none⟩) 1 1] rfl rfl HVN.out ?c2 (by unfold maxLen; omega) (by omega) HVB.out.size ?_)
        case c2 => intro u hu; simp at hu; subst hu; rfl
        intro v' w6 hown6 hg6 hnil hat
        have HST := Lib.hid (show GrM w6 w1.heap.size v' (.slice (some ⟨w2.heap.size, 0, none⟩) 1 1) [] [] [x] from gm_first hg6 hown6 hat HVO.out)
        have HB6 := Lib.hid (HVB.out.grown hg6 HVB.out.size (by intro k hk; cases hk))
        clear hown6 hg6 hnil hat co
        go_wp2
        go_roundw
        case rel => exact ⟨j + 1, by omega, by go_num, Lib.hid (.inr ⟨by omega, _, _, by rw [HGE.out]; exact HST.out⟩), HB6.out⟩
        case measure => simp [intOf]; omega
      · have hI := grp_i (M := M) HOR.out.lt j hj
        have hCp := hI.ne hj0
        have hy := hI.lt 0 hCp
        have hIl := hI.len
        have HGJ0 := Lib.hid (fun (ht : togQ (gq M (nat (grp M g j).2 0)) (gq M (g j)) = true) => grp_join (M := M) (g := g) hCp ht)
        have HGN0 := Lib.hid (fun (ht : togQ (gq M (nat (grp M g j).2 0)) (gq M (g j)) = false) => grp_new (M := M) (g := g) hCp ht)
        obtain ⟨D, hD⟩ : ∃ D, D = (grp M g j).1 := ⟨_, rfl⟩
        obtain ⟨C, hC⟩ : ∃ C, C = (grp M g j).2 := ⟨_, rfl⟩
        rw [← hD, ← hC] at hgm hIl HGJ0 HGN0
        rw [← hC] at hCp hy
        have HDC := Lib.hid (And.intro hD hC)
        clear hI hD hC HG
        obtain ⟨Av, cv, rfl, -⟩ := own_new hgm.own
        obtain ⟨gb, rfl, hgbN, hgbs⟩ := own_at hgm.own (by omega)
        obtain ⟨Au, cu, rfl, hCn⟩ := own_nls hgm.last
        obtain ⟨ub, rfl, hubN, hubs⟩ := own_at hgm.last hCp
        have HGM := Lib.hid hgm
        have cg : wr.cell? ⟨gb, D.length, none⟩ = some (.slice (some ⟨ub, 0, none⟩) C.length cu) := (hgm.own.cellAt D.length (by omega)).trans (by rw [List.getElem?_append_right (by rw [hgm.len]; exact Nat.le_refl _), hgm.len, Nat.sub_self]; rfl)
        obtain ⟨ub', uo', eu, -, ci⟩ := hCn.at_ hCp
        injection eu with eu
        injection eu with eu1 eu2
        subst eu1
        subst eu2
        obtain ⟨y, hyv⟩ : ∃ y, y = nat C 0 := ⟨_, rfl⟩
        obtain ⟨x, hxv⟩ : ∃ x, x = g j := ⟨_, rfl⟩
        rw [← hyv] at hy ci HGJ0 HGN0
        rw [← hxv] at hxn co HGJ0 HGN0
        rw [Nat.zero_add] at ci
        obtain ⟨b, o, rfl, hbl, h1, x0, x1, x2, x3, x4, x5, x6, x7, hr1⟩ := (H.out.below (HB1.out.trans (HB.out.mono HB1.out.size))).at_ hy
        obtain ⟨b', o', e', -, h2, y0, y1, y2, y3, y4, y5, y6, y7, hr2⟩ := (H.out.below (HB1.out.trans (HB.out.mono HB1.out.size))).at_ hxn
        injection e' with e'
        injection e' with e1 e2
        subst e1
        subst e2
        have HGJ := Lib.hid (fun ht => HGJ0.out ht)
        have HGN := Lib.hid (fun ht => HGN0.out ht)
        clear hgm hCn hyv hxv HGJ0 HGN0
        have HTG := Lib.hid (show togQ (gq M y) (gq M x) = (!((gq M y).kind == 6) && (!((gq M x).kind == 6) && sameB (gq M y).key (gq M x).key)) from rfl)
        generalize togQ (gq M y) (gq M x) = t at HTG HGJ HGN
        generalize gq M y = r1 at x0 x1 x2 x3 x4 x5 x6 x7 HTG hr1
        generalize gq M x = r2 at y0 y1 y2 y3 y4 y5 y6 y7 HTG hr2
        have HR := Lib.hid (And.intro hr1 hr2)
        have by1 : (0 : Int) ≤ (y : Int) := by omega
        have by2 : (y : Int) < (n : Int) := by omega
        have bx1 : (0 : Int) ≤ (x : Int) := by omega
        have bx2 : (x : Int) < (n : Int) := by omega
        have bd1 : (0 : Int) ≤ (D.length : Int) := by omega
        have bd2 : (D.length : Int) < (D.length : Int) + 1 := by omega
        have bc1 : (0 : Int) < (C.length : Int) := by omega
        have wd1 : IntKind.i64.wrap (D.length : Int) = (D.length : Int) := by rw [IntKind.wrap_i64]; omega
        have hdl : D.length ≤ 500 := by omega
        have hcl : C.length ≤ 500 := by omega
        clear hr1 hr2
        go_upto_region 10 with fail
        obtain ⟨w2, hw2, hwb2, hwq2, hws2⟩ := box_q wr h1 r1
        rw [← hw2]
        have HB2 := Lib.hid (HB.out.trans (hwb2.mono HB.out.size))
        have HGM2 := Lib.hid (HGM.out.below hwb2)
        have HQ2 := Lib.hid hwq2
        have s1 := fun q => run_str (c := h1.c) ((HR.out.1.1.below hwb2).drewN q)
        have s2 := fun q => run_str (c := h2.c) ((HR.out.2.1.below hwb2).drewN q)
        obtain ⟨q0, q1, q2, q3, q4, q5, q6, q7⟩ := hwq2.cells
        have cg := (hwb2.cell (p := ⟨gb, D.length, none⟩) hgbs).trans cg
        have co := (hwb2.cell (p := ⟨ob, oo + j, none⟩) hob).trans co
        have y2 := (hwb2.cell (p := ⟨b, o + x * 8 + 2, none⟩) hbl).trans y2
        have y3 := (hwb2.cell (p := ⟨b, o + x * 8 + 3, none⟩) hbl).trans y3
        have hgbs2 : gb < w2.heap.size := by omega
        have hubs2 : ub < w2.heap.size := by omega
        have hobs2 : ob < w2.heap.size := by omega
        clear hw2 hwb2 hwq2 hws2 x0 x1 x2 x3 x4 x5 x6 x7 y0 y1 y4 y5 y6 y7 HQ2
        have hk3 : (r1.key == r2.key) = sameB r1.key r2.key := str_eq _ _
        have hn1 : (r1.kind != 6) = !(r1.kind == 6) := rfl
        have hn2 : (r2.kind != 6) = !(r2.kind == 6) := rfl
        have hcs : ((r1.kind == 6) = true ∨ ((r1.kind == 6) = false ∧ (r2.kind == 6) = true) ∨ ((r1.kind == 6) = false ∧ (r2.kind == 6) = false ∧ sameB r1.key r2.key = false)) ∨ ((r1.kind == 6) = false ∧ (r2.kind == 6) = false ∧ sameB r1.key r2.key = true) := by
          cases (r1.kind == 6) <;> cases (r2.kind == 6) <;> cases sameB r1.key r2.key <;> simp
        rcases hcs with hno | ⟨e1, e2, e3⟩
        · have HNG := Lib.hid (HGN.out (by
            rw [HTG.out]
            rcases hno with e1 | ⟨e1, e2⟩ | ⟨e1, e2, e3⟩
            · rw [e1]; rfl
            · rw [e1, e2]; rfl
            · rw [e1, e2, e3]; rfl))
          clear HGN HGJ HTG HR
          rcases hno with e1 | ⟨e1, e2⟩ | ⟨e1, e2, e3⟩
          case' inl => rw [e1] at hn1
          case' inr.inl =>
            rw [e1] at hn1
            rw [e2] at hn2
          case' inr.inr =>
            rw [e1] at hn1
            rw [e2] at hn2
            rw [e3] at hk3
          all_goals
            go_quiet (fail)
            have HB3 := Lib.hid (HB2.out.trans ((Drawn.below ⟨nq, rfl⟩ _ : Below w1.heap.size w2 (w2.drewN nq))))
            have HGM3 := Lib.hid (HGM2.out.below (Drawn.below ⟨nq, rfl⟩ _))
            have co3 : (w2.drewN nq).cell? ⟨ob, oo + j, none⟩ = some (.int .i64 x) := co
            clear s1 s2 cg co y2 y3 q0 q1 q2 q3 q4 q5 q6 q7
            go_upto_region 13 with fail
            generalize w2.drewN nq = w3 at HB3 HGM3 co3 ⊢
            obtain ⟨V, hV, hVB, hVO, hVN, hVs⟩ := new_group (w := w3) (N := w1.heap.size) (x := x) HB3.out.size
            have HVE := Lib.hid hV
            have HVW := Lib.hid hVB
            have HVB := Lib.hid (HB3.out.trans (hVB.mono HB3.out.size))
            have HVO := Lib.hid hVO
            have HVN := Lib.hid hVN
            have HGV := Lib.hid (HGM3.out.below hVB)
            have hvs : V.heap.size = w3.heap.size + 1 + 1 := hVs
            clear hV hVB hVO hVN hVs hvs
            go_wp2_with (at_builtin; rw [← HVE.out]; refine wpList_append_own_at _ rfl _ _ 69 rfl w1.heap.size 30 i0 (.slice none 0 0) 1 24 Try.underlying69 HI.out HZ.out.1 HZ.out.2.1 HZ.out.2.2 rfl (by decide) (.slice (some ⟨gb, 0, none⟩) (D.length + 1) cv) (D.length + 1) (hs ++ [.slice (some ⟨ub, 0, none⟩) C.length cu]) rfl HGV.out.own ⟨w3.heap.size + 1, 0, none⟩ 1 1 [.slice (some ⟨w3.heap.size, 0, none⟩) 1 1] rfl rfl HVN.out ?c2 (by unfold maxLen; omega) (by omega) HVB.out.size ?_)
            case c2 => first | rfl | (intro u hu; simp at hu; subst hu; rfl)
            intro v' w6 hown6 hg6 hnil hat
            have HST := Lib.hid (show GrM w6 w1.heap.size v' (.slice (some ⟨w3.heap.size, 0, none⟩) 1 1) (hs ++ [.slice (some ⟨ub, 0, none⟩) C.length cu]) (D ++ [C]) [x] from gm_new HGM3.out HVW.out hg6 (by simpa using hown6) hat HVO.out (fun b hb => by
              have hb' : w3.heap.size = b := Option.some.inj hb
              omega))
            have HB6 := Lib.hid (HVB.out.grown hg6 HVB.out.size (by intro k hk; have hk' : gb = k := Option.some.inj hk; omega))
            clear hown6 hg6 hnil hat
            go_wp2
            go_roundw
            case rel => exact ⟨j + 1, by omega, by go_num, Lib.hid (.inr ⟨by omega, _, _, by rw [HNG.out]; exact HST.out⟩), HB6.out⟩
            case measure => simp [intOf]; omega
        · have HNJ := Lib.hid (HGJ.out (by rw [HTG.out, e1, e2, e3]; rfl))
          clear HGN HGJ HTG HR
          rw [e1] at hn1
          rw [e2] at hn2
          rw [e3] at hk3
          go_quiet (fail)
          have HB3 := Lib.hid (HB2.out.trans ((Drawn.below ⟨nq, rfl⟩ _ : Below w1.heap.size w2 (w2.drewN nq))))
          have HGM3 := Lib.hid (HGM2.out.below (Drawn.below ⟨nq, rfl⟩ _))
          have co3 : (w2.drewN nq).cell? ⟨ob, oo + j, none⟩ = some (.int .i64 x) := co
          have cg3 : (w2.drewN nq).cell? ⟨gb, D.length, none⟩ = some (.slice (some ⟨ub, 0, none⟩) C.length cu) := cg
          have hs3 : (w2.drewN nq).heap.size = w2.heap.size := rfl
          rw [← hs3] at hgbs2 hubs2 hobs2
          clear s1 s2 cg co y2 y3 q0 q1 q2 q3 q4 q5 q6 q7 e1 e2 e3 hn1 hn2 hk3 hs3
          go_upto_region 12 with fail
          generalize w2.drewN nq = w3 at HB3 HGM3 co3 cg3 hgbs2 hubs2 hobs2 ⊢
          have HWa := Lib.hid (show Below w3.heap.size w3 (w3.alloc (.cells #[] 3)) from (Below.refl _ _).alloc (Nat.le_refl _) _)
          have HWb := Lib.hid (show Below w3.heap.size w3 ((w3.alloc (.cells #[] 3)).alloc (.cells #[.int .i64 x] 3)) from ((Below.refl _ _).alloc (Nat.le_refl _) _).alloc (by simp) _)
          have HWc := Lib.hid (show Below w3.heap.size w3 ((w3.alloc (.cells #[.int .i64 x] 3)).alloc (.cells #[] 3)) from ((Below.refl _ _).alloc (Nat.le_refl _) _).alloc (by simp) _)
          have HMa := Lib.hid (show (w3.alloc (.cells #[] 3)).ownsRow w1.heap.size 3 1 (.slice (some ⟨w3.heap.size, 0, none⟩) 0 0) 0 [] from World.ownsRow_made w3 #[] 0 HB3.out.size (Nat.zero_le _) rfl)
          have HMb := Lib.hid (show ((w3.alloc (.cells #[] 3)).alloc (.cells #[.int .i64 x] 3)).ownsRow w1.heap.size 3 1 (.slice (some ⟨w3.heap.size, 0, none⟩) 0 0) 0 [] from World.ownsRow.alloc HMa.out _)
          have HMc := Lib.hid (show ((w3.alloc (.cells #[.int .i64 x] 3)).alloc (.cells #[] 3)).ownsRow w1.heap.size 3 1 (.slice (some ⟨w3.heap.size + 1, 0, none⟩) 0 0) 0 [] from by
            have := World.ownsRow_made (base := w1.heap.size) (e := 3) (size := 1) (w3.alloc (.cells #[.int .i64 x] 3)) #[] 0 (by rw [alloc_sz]; have := HB3.out.size; omega) (Nat.zero_le _) rfl
            rw [alloc_sz] at this
            exact this)
          obtain ⟨An, cn, en, hnl⟩ := own_nls HGM3.out.last
          injection en with en1 en2 en3
          subst en1
          subst en3
          have HNa := Lib.hid ((hnl.below HWa.out).cells.2 _ rfl)
          have HNb := Lib.hid ((hnl.below HWb.out).cells.2 _ rfl)
          have HNc := Lib.hid ((hnl.below HWc.out).cells.2 _ rfl)
          have HSa := Lib.hid (show w1.heap.size ≤ (w3.alloc (.cells #[] 3)).drew.heap.size from Nat.le_trans HB3.out.size HWa.out.size)
          have HSb := Lib.hid (show w1.heap.size ≤ ((w3.alloc (.cells #[] 3)).alloc (.cells #[.int .i64 x] 3)).drew.heap.size from Nat.le_trans HB3.out.size HWb.out.size)
          have HSc := Lib.hid (show w1.heap.size ≤ ((w3.alloc (.cells #[.int .i64 x] 3)).alloc (.cells #[] 3)).drew.heap.size from Nat.le_trans HB3.out.size HWc.out.size)
          clear hnl en2
          --R0
          refine wp_region_held_drew (S := (fun w' => w'.cell? ⟨ob, oo + j, none⟩ = some (.int .i64 x))) (by kernel_rfl) ?_ (fun hHeld => ?_)
          · go_keep
          refine wpAnyH_take (i := 0) (v := .slice (some ⟨gb, 0, none⟩) (D.length + 1) cv) rfl (by kernel_rfl) (by kernel_rfl) (by kernel_rfl) (fun _ _ _ h => h) (Or.inl ⟨by rfl, fun w' hSw => ?_⟩) hHeld ?_
          · (try dsimp only at hSw)
            go_simp
          try simp only [Act.put, List.getElem_toArray, List.getElem_cons_zero, List.setIfInBounds_toArray, List.set_cons_zero, List.set_cons_succ]
          refine wpAnyH_take (i := 1) (v := .int .i64 D.length) rfl (by kernel_rfl) (by kernel_rfl) (by kernel_rfl) (fun _ _ _ h => h) (Or.inl ⟨by rfl, fun w' hSw => ?_⟩) hHeld ?_
          · (try dsimp only at hSw)
            go_simp
          try simp only [Act.put, List.getElem_toArray, List.getElem_cons_zero, List.getElem_cons_succ, List.setIfInBounds_toArray, List.set_cons_zero, List.set_cons_succ]
          refine wpAnyH_take (i := 3) (v := .slice (some ⟨gb, 0, none⟩) (D.length + 1) cv) rfl (by kernel_rfl) (by kernel_rfl) (by kernel_rfl) (fun _ _ _ h => h) (Or.inl ⟨by rfl, fun w' hSw => ?_⟩) hHeld ?_
          · (try dsimp only at hSw)
            go_simp
          try simp only [Act.put, List.getElem_toArray, List.getElem_cons_zero, List.getElem_cons_succ, List.setIfInBounds_toArray, List.set_cons_zero, List.set_cons_succ]
          refine wpAnyH_take (i := 4) (v := .int .i64 D.length) rfl (by kernel_rfl) (by kernel_rfl) (by kernel_rfl) (fun _ _ _ h => h) (Or.inl ⟨by rfl, fun w' hSw => ?_⟩) hHeld ?_
          · (try dsimp only at hSw)
            go_simp
          try simp only [Act.put, List.getElem_toArray, List.getElem_cons_zero, List.getElem_cons_succ, List.setIfInBounds_toArray, List.set_cons_zero, List.set_cons_succ]
          refine wpAnyH_take (i := 5) (v := .pointer (some ⟨gb, D.length, none⟩)) rfl (by kernel_rfl) (by kernel_rfl) (by kernel_rfl) (fun _ _ _ h => h) (Or.inl ⟨by rfl, fun w' hSw => ?_⟩) hHeld ?_
          · (try dsimp only at hSw)
            go_simp
          try simp only [Act.put, List.getElem_toArray, List.getElem_cons_zero, List.getElem_cons_succ, List.setIfInBounds_toArray, List.set_cons_zero, List.set_cons_succ]
          refine wpAnyH_take (i := 8) (v := .slice (some ⟨ob, oo, none⟩) n c1) rfl (by kernel_rfl) (by kernel_rfl) (by kernel_rfl) (fun _ _ _ h => h) (Or.inl ⟨by rfl, fun w' hSw => ?_⟩) hHeld ?_
          · (try dsimp only at hSw)
            go_simp
          try simp only [Act.put, List.getElem_toArray, List.getElem_cons_zero, List.getElem_cons_succ, List.setIfInBounds_toArray, List.set_cons_zero, List.set_cons_succ]
          refine wpAnyH_take (i := 9) (v := .int .i64 j) rfl (by kernel_rfl) (by kernel_rfl) (by kernel_rfl) (fun _ _ _ h => h) (Or.inl ⟨by rfl, fun w' hSw => ?_⟩) hHeld ?_
          · (try dsimp only at hSw)
            go_simp
          try simp only [Act.put, List.getElem_toArray, List.getElem_cons_zero, List.getElem_cons_succ, List.setIfInBounds_toArray, List.set_cons_zero, List.set_cons_succ]
          refine wpAnyH_take (i := 10) (v := .pointer (some ⟨ob, oo + j, none⟩)) rfl (by kernel_rfl) (by kernel_rfl) (by kernel_rfl) (fun _ _ _ h => h) (Or.inl ⟨by rfl, fun w' hSw => ?_⟩) hHeld ?_
          · (try dsimp only at hSw)
            go_simp
          try simp only [Act.put, List.getElem_toArray, List.getElem_cons_zero, List.getElem_cons_succ, List.setIfInBounds_toArray, List.set_cons_zero, List.set_cons_succ]
          refine wpAnyH_take (i := 11) (v := .int .i64 x) rfl (by kernel_rfl) (by kernel_rfl) (by kernel_rfl) (fun _ _ _ h => h) (Or.inl ⟨by rfl, fun w' hSw => ?_⟩) hHeld ?_
          · (try dsimp only at hSw)
            go_simp
          try simp only [Act.put, List.getElem_toArray, List.getElem_cons_zero, List.getElem_cons_succ, List.setIfInBounds_toArray, List.set_cons_zero, List.set_cons_succ]
          refine wpAnyH_ready (rs := [2, 6, 12]) (by kernel_rfl) (by simp) ?_
          refine (AllReadyH.cons rfl (fun K hK => ?_) (AllReadyH.cons rfl (fun K hK => ?_) (AllReadyH.cons rfl (fun K hK => ?_) AllReadyH.nil)))
          · skip
            go_simp
            refine hK.out _ _ (by go_keep) (fun hHeld => ?_)
            clear hK K
            try simp only [Act.put, List.getElem_toArray, List.getElem_cons_zero, List.getElem_cons_succ, List.setIfInBounds_toArray, List.set_cons_zero, List.set_cons_succ]
            refine wpAnyH_ready (rs := [6, 12]) (by kernel_rfl) (by simp) ?_
            refine (AllReadyH.cons rfl (fun K hK => ?_) (AllReadyH.cons rfl (fun K hK => ?_) AllReadyH.nil))
            · skip
              go_simp
              refine hK.out _ _ (by go_keep) (fun hHeld => ?_)
              clear hK K
              try simp only [Act.put, List.getElem_toArray, List.getElem_cons_zero, List.getElem_cons_succ, List.setIfInBounds_toArray, List.set_cons_zero, List.set_cons_succ]
              refine wpAnyH_ready (rs := [7, 12]) (by kernel_rfl) (by simp) ?_
              refine (AllReadyH.cons rfl (fun K hK => ?_) (AllReadyH.cons rfl (fun K hK => ?_) AllReadyH.nil))
              · skip
                refine step_append_at _ (by rfl) _ _ 30 (by rfl) w1.heap.size 3 i1 (.int .i64 0) 1 8 Try.underlying30 HI1.out HZ1.out.1 HZ1.out.2.1 HZ1.out.2.2 (by rfl) (by decide) (.slice (some ⟨w3.heap.size, 0, none⟩) 0 0) 0 [] (by rfl) HMa.out ⟨ub, 0, none⟩ C.length cu (C.map natV) (by rfl) (by simp) HNa.out (nat_one _) (by unfold maxLen; omega) (by omega) HSa.out ?_
                intro v5 w5 hown5 hg5 hat5
                have hg5 : (w3.alloc (.cells #[] 3)).grownBy w5 (some (w3.heap.size)) := ⟨hg5.os, hg5.tape, hg5.output, hg5.size, hg5.block⟩
                have hat5 : v5.ownBlock = some (w3.heap.size) ∨ v5.ownBlock = some (w3.alloc (.cells #[] 3)).heap.size := hat5
                have HV5 := Lib.hid (show OwnN w5 w1.heap.size v5 C.length C ∧ Below w3.heap.size w3 w5 ∧ ∀ k, v5.ownBlock = some k → w3.heap.size ≤ k from ⟨by simpa [OwnN] using hown5, app_block HWa.out (fun k hk => by have := Option.some.inj hk; omega) hg5 hat5⟩)
                have co5 := (HV5.out.2.1.cell (p := ⟨ob, oo + j, none⟩) hobs2).trans co3
                clear hown5 hg5 hat5
                refine hK.out _ _ co5 (fun hHeld => ?_)
                clear hK K
                try simp only [Act.put, List.getElem_toArray, List.getElem_cons_zero, List.getElem_cons_succ, List.setIfInBounds_toArray, List.set_cons_zero, List.set_cons_succ]
                refine wpAnyH_ready (rs := [12]) (by kernel_rfl) (by simp) ?_
                refine (AllReadyH.cons rfl (fun K hK => ?_) AllReadyH.nil)
                go_simp
                refine hK.out _ _ (by go_keep) (fun hHeld => ?_)
                clear hK K
                try simp only [Act.put, List.getElem_toArray, List.getElem_cons_zero, List.getElem_cons_succ, List.setIfInBounds_toArray, List.set_cons_zero, List.set_cons_succ]
                refine wpAnyH_ready (rs := [13]) (by kernel_rfl) (by simp) ?_
                refine (AllReadyH.cons rfl (fun K hK => ?_) AllReadyH.nil)
                refine step_append_at _ (by rfl) _ _ 30 (by rfl) w1.heap.size 3 i1 (.int .i64 0) 1 8 Try.underlying30 HI1.out HZ1.out.1 HZ1.out.2.1 HZ1.out.2.2 (by rfl) (by decide) v5 C.length (C.map natV) (by rfl) (World.ownsRow.alloc HV5.out.1 _) ⟨w5.heap.size, 0, none⟩ 1 1 [.int .i64 x] (by rfl) (by rfl) (fun j u hu => one_cell_a w5 x j u hu) (by intro u hu; simp at hu; subst hu; rfl) (by unfold maxLen; omega) (by omega) (by have := HV5.out.2.1.size; have := HB3.out.size; first | omega | (rw [alloc_sz]; omega)) ?_
                intro v6 w6 hown6 hg6 hat6
                have hj6 : JoinO w3 w1.heap.size C x v6 w6 := ⟨by simpa [OwnN, natV] using hown6, app_block (HV5.out.2.1.alloc HV5.out.2.1.size _) HV5.out.2.2 hg6 hat6⟩
                obtain ⟨A6, c6, rfl, -⟩ := own_nls hj6.1
                have HJ6 := Lib.hid hj6
                have hown : w6.ownsRow w1.heap.size 30 1 (.slice (some ⟨gb, 0, none⟩) (D.length + 1) cv) (D.length + 1) (hs ++ [.slice (some ⟨ub, 0, none⟩) C.length cu]) := own_keep HGM3.out.own hj6.2.1
                have f0 := hown.frozenAt D.length
                have f1 : w6.cell? ⟨gb, D.length, none⟩ = some (.slice (some ⟨ub, 0, none⟩) C.length cu) := (hown.cellAt D.length (by omega)).trans (by rw [List.getElem?_append_right (by rw [HGM3.out.len]; exact Nat.le_refl _), HGM3.out.len, Nat.sub_self]; rfl)
                have co6 := (hj6.2.1.cell (p := ⟨ob, oo + j, none⟩) hobs2).trans co3
                have co7 : (w6.setCell ⟨gb, D.length, none⟩ (.slice A6 (C.length + 1) c6)).cell? ⟨ob, oo + j, none⟩ = some (.int .i64 x) := (World.cell?_setCell_other _ _ _ _ (by intro e; simp only [Addr.mk.injEq] at e; omega)).trans co6
                clear hown6 hg6 hat6 hj6 hown
                refine hK.out _ _ co6 (fun hHeld => ?_)
                clear hK K
                try simp only [Act.put, List.getElem_toArray, List.getElem_cons_zero, List.getElem_cons_succ, List.setIfInBounds_toArray, List.set_cons_zero, List.set_cons_succ]
                refine wpAnyH_take (i := 14) (v := .pointer (some ⟨gb, D.length, none⟩)) rfl (by kernel_rfl) (by kernel_rfl) (by kernel_rfl) (fun _ _ _ h => h) (Or.inl ⟨by rfl, fun w' hSw => ?_⟩) hHeld ?_
                · (try dsimp only at hSw)
                  go_simp
                try simp only [Act.put, List.getElem_toArray, List.getElem_cons_zero, List.getElem_cons_succ, List.setIfInBounds_toArray, List.set_cons_zero, List.set_cons_succ]
                refine wpAnyH_ready (rs := [15]) (by kernel_rfl) (by simp) ?_
                refine AllReadyH.cons rfl (fun K hK => ?_) AllReadyH.nil
                go_simp
                refine hK.out _ _ co7 (fun hHeld => ?_)
                clear hK K hHeld co7 co6 f0 f1
                refine wpAnyH_done (by kernel_rfl) ?_ _
                have HST := Lib.hid (gm_put (C' := C ++ [x]) HGM3.out (below_all HJ6.out.2.1) (by rw [show (C ++ [x]).length = C.length + 1 by simp]; exact HJ6.out.1) (fun b hb => .inr (HJ6.out.2.2 b hb)))
                have HB6 := Lib.hid ((HB3.out.trans (HJ6.out.2.1.mono HB3.out.size)).setCell (p := ⟨gb, D.length, none⟩) hgbN (.slice A6 (C.length + 1) c6))
                clear co3 cg3
                go_wp2
                go_roundw
                case rel => exact ⟨j + 1, by omega, by go_num, Lib.hid (.inr ⟨by omega, _, _, by rw [HNJ.out]; exact HST.out⟩), HB6.out⟩
                case measure => simp [intOf]; omega
              · skip
                go_simp
                refine hK.out _ _ (by go_keep) (fun hHeld => ?_)
                clear hK K
                try simp only [Act.put, List.getElem_toArray, List.getElem_cons_zero, List.getElem_cons_succ, List.setIfInBounds_toArray, List.set_cons_zero, List.set_cons_succ]
                refine wpAnyH_ready (rs := [7]) (by kernel_rfl) (by simp) ?_
                refine (AllReadyH.cons rfl (fun K hK => ?_) AllReadyH.nil)
                refine step_append_at _ (by rfl) _ _ 30 (by rfl) w1.heap.size 3 i1 (.int .i64 0) 1 8 Try.underlying30 HI1.out HZ1.out.1 HZ1.out.2.1 HZ1.out.2.2 (by rfl) (by decide) (.slice (some ⟨w3.heap.size, 0, none⟩) 0 0) 0 [] (by rfl) HMb.out ⟨ub, 0, none⟩ C.length cu (C.map natV) (by rfl) (by simp) HNb.out (nat_one _) (by unfold maxLen; omega) (by omega) HSb.out ?_
                intro v5 w5 hown5 hg5 hat5
                have hg5 : ((w3.alloc (.cells #[] 3)).alloc (.cells #[.int .i64 x] 3)).grownBy w5 (some (w3.heap.size)) := ⟨hg5.os, hg5.tape, hg5.output, hg5.size, hg5.block⟩
                have hat5 : v5.ownBlock = some (w3.heap.size) ∨ v5.ownBlock = some ((w3.alloc (.cells #[] 3)).alloc (.cells #[.int .i64 x] 3)).heap.size := hat5
                have HV5 := Lib.hid (show OwnN w5 w1.heap.size v5 C.length C ∧ Below w3.heap.size w3 w5 ∧ ∀ k, v5.ownBlock = some k → w3.heap.size ≤ k from ⟨by simpa [OwnN] using hown5, app_block HWb.out (fun k hk => by have := Option.some.inj hk; omega) hg5 hat5⟩)
                have HX5 := Lib.hid (show ∀ j u, ([.int .i64 x] : List Value)[j]? = some u → w5.cell? ((⟨w3.heap.size + 1, 0, none⟩ : Addr).add j) = some u from fun j u hu => (grown_far hg5 ((⟨w3.heap.size + 1, 0, none⟩ : Addr).add j) (by rw [add_block]; simp) (by rw [add_block]; intro e; have := Option.some.inj e; simp at this)).trans (one_cell_b w3 x j u hu))
                have co5 := (HV5.out.2.1.cell (p := ⟨ob, oo + j, none⟩) hobs2).trans co3
                clear hown5 hg5 hat5
                refine hK.out _ _ co5 (fun hHeld => ?_)
                clear hK K
                try simp only [Act.put, List.getElem_toArray, List.getElem_cons_zero, List.getElem_cons_succ, List.setIfInBounds_toArray, List.set_cons_zero, List.set_cons_succ]
                refine wpAnyH_ready (rs := [13]) (by kernel_rfl) (by simp) ?_
                refine (AllReadyH.cons rfl (fun K hK => ?_) AllReadyH.nil)
                refine step_append_at _ (by rfl) _ _ 30 (by rfl) w1.heap.size 3 i1 (.int .i64 0) 1 8 Try.underlying30 HI1.out HZ1.out.1 HZ1.out.2.1 HZ1.out.2.2 (by rfl) (by decide) v5 C.length (C.map natV) (by rfl) HV5.out.1 ⟨w3.heap.size + 1, 0, none⟩ 1 1 [.int .i64 x] (by rfl) (by rfl) HX5.out (by intro u hu; simp at hu; subst hu; rfl) (by unfold maxLen; omega) (by omega) (by have := HV5.out.2.1.size; have := HB3.out.size; first | omega | (rw [alloc_sz]; omega)) ?_
                intro v6 w6 hown6 hg6 hat6
                have hj6 : JoinO w3 w1.heap.size C x v6 w6 := ⟨by simpa [OwnN, natV] using hown6, app_block HV5.out.2.1 HV5.out.2.2 hg6 hat6⟩
                obtain ⟨A6, c6, rfl, -⟩ := own_nls hj6.1
                have HJ6 := Lib.hid hj6
                have hown : w6.ownsRow w1.heap.size 30 1 (.slice (some ⟨gb, 0, none⟩) (D.length + 1) cv) (D.length + 1) (hs ++ [.slice (some ⟨ub, 0, none⟩) C.length cu]) := own_keep HGM3.out.own hj6.2.1
                have f0 := hown.frozenAt D.length
                have f1 : w6.cell? ⟨gb, D.length, none⟩ = some (.slice (some ⟨ub, 0, none⟩) C.length cu) := (hown.cellAt D.length (by omega)).trans (by rw [List.getElem?_append_right (by rw [HGM3.out.len]; exact Nat.le_refl _), HGM3.out.len, Nat.sub_self]; rfl)
                have co6 := (hj6.2.1.cell (p := ⟨ob, oo + j, none⟩) hobs2).trans co3
                have co7 : (w6.setCell ⟨gb, D.length, none⟩ (.slice A6 (C.length + 1) c6)).cell? ⟨ob, oo + j, none⟩ = some (.int .i64 x) := (World.cell?_setCell_other _ _ _ _ (by intro e; simp only [Addr.mk.injEq] at e; omega)).trans co6
                clear hown6 hg6 hat6 hj6 hown
                refine hK.out _ _ co6 (fun hHeld => ?_)
                clear hK K
                try simp only [Act.put, List.getElem_toArray, List.getElem_cons_zero, List.getElem_cons_succ, List.setIfInBounds_toArray, List.set_cons_zero, List.set_cons_succ]
                refine wpAnyH_take (i := 14) (v := .pointer (some ⟨gb, D.length, none⟩)) rfl (by kernel_rfl) (by kernel_rfl) (by kernel_rfl) (fun _ _ _ h => h) (Or.inl ⟨by rfl, fun w' hSw => ?_⟩) hHeld ?_
                · (try dsimp only at hSw)
                  go_simp
                try simp only [Act.put, List.getElem_toArray, List.getElem_cons_zero, List.getElem_cons_succ, List.setIfInBounds_toArray, List.set_cons_zero, List.set_cons_succ]
                refine wpAnyH_ready (rs := [15]) (by kernel_rfl) (by simp) ?_
                refine AllReadyH.cons rfl (fun K hK => ?_) AllReadyH.nil
                go_simp
                refine hK.out _ _ co7 (fun hHeld => ?_)
                clear hK K hHeld co7 co6 f0 f1
                refine wpAnyH_done (by kernel_rfl) ?_ _
                have HST := Lib.hid (gm_put (C' := C ++ [x]) HGM3.out (below_all HJ6.out.2.1) (by rw [show (C ++ [x]).length = C.length + 1 by simp]; exact HJ6.out.1) (fun b hb => .inr (HJ6.out.2.2 b hb)))
                have HB6 := Lib.hid ((HB3.out.trans (HJ6.out.2.1.mono HB3.out.size)).setCell (p := ⟨gb, D.length, none⟩) hgbN (.slice A6 (C.length + 1) c6))
                clear co3 cg3
                go_wp2
                go_roundw
                case rel => exact ⟨j + 1, by omega, by go_num, Lib.hid (.inr ⟨by omega, _, _, by rw [HNJ.out]; exact HST.out⟩), HB6.out⟩
                case measure => simp [intOf]; omega
            · skip
              go_simp
              refine hK.out _ _ (by go_keep) (fun hHeld => ?_)
              clear hK K
              try simp only [Act.put, List.getElem_toArray, List.getElem_cons_zero, List.getElem_cons_succ, List.setIfInBounds_toArray, List.set_cons_zero, List.set_cons_succ]
              refine wpAnyH_ready (rs := [6]) (by kernel_rfl) (by simp) ?_
              refine (AllReadyH.cons rfl (fun K hK => ?_) AllReadyH.nil)
              go_simp
              refine hK.out _ _ (by go_keep) (fun hHeld => ?_)
              clear hK K
              try simp only [Act.put, List.getElem_toArray, List.getElem_cons_zero, List.getElem_cons_succ, List.setIfInBounds_toArray, List.set_cons_zero, List.set_cons_succ]
              refine wpAnyH_ready (rs := [7]) (by kernel_rfl) (by simp) ?_
              refine (AllReadyH.cons rfl (fun K hK => ?_) AllReadyH.nil)
              refine step_append_at _ (by rfl) _ _ 30 (by rfl) w1.heap.size 3 i1 (.int .i64 0) 1 8 Try.underlying30 HI1.out HZ1.out.1 HZ1.out.2.1 HZ1.out.2.2 (by rfl) (by decide) (.slice (some ⟨w3.heap.size, 0, none⟩) 0 0) 0 [] (by rfl) HMb.out ⟨ub, 0, none⟩ C.length cu (C.map natV) (by rfl) (by simp) HNb.out (nat_one _) (by unfold maxLen; omega) (by omega) HSb.out ?_
              intro v5 w5 hown5 hg5 hat5
              have hg5 : ((w3.alloc (.cells #[] 3)).alloc (.cells #[.int .i64 x] 3)).grownBy w5 (some (w3.heap.size)) := ⟨hg5.os, hg5.tape, hg5.output, hg5.size, hg5.block⟩
              have hat5 : v5.ownBlock = some (w3.heap.size) ∨ v5.ownBlock = some ((w3.alloc (.cells #[] 3)).alloc (.cells #[.int .i64 x] 3)).heap.size := hat5
              have HV5 := Lib.hid (show OwnN w5 w1.heap.size v5 C.length C ∧ Below w3.heap.size w3 w5 ∧ ∀ k, v5.ownBlock = some k → w3.heap.size ≤ k from ⟨by simpa [OwnN] using hown5, app_block HWb.out (fun k hk => by have := Option.some.inj hk; omega) hg5 hat5⟩)
              have HX5 := Lib.hid (show ∀ j u, ([.int .i64 x] : List Value)[j]? = some u → w5.cell? ((⟨w3.heap.size + 1, 0, none⟩ : Addr).add j) = some u from fun j u hu => (grown_far hg5 ((⟨w3.heap.size + 1, 0, none⟩ : Addr).add j) (by rw [add_block]; simp) (by rw [add_block]; intro e; have := Option.some.inj e; simp at this)).trans (one_cell_b w3 x j u hu))
              have co5 := (HV5.out.2.1.cell (p := ⟨ob, oo + j, none⟩) hobs2).trans co3
              clear hown5 hg5 hat5
              refine hK.out _ _ co5 (fun hHeld => ?_)
              clear hK K
              try simp only [Act.put, List.getElem_toArray, List.getElem_cons_zero, List.getElem_cons_succ, List.setIfInBounds_toArray, List.set_cons_zero, List.set_cons_succ]
              refine wpAnyH_ready (rs := [13]) (by kernel_rfl) (by simp) ?_
              refine (AllReadyH.cons rfl (fun K hK => ?_) AllReadyH.nil)
              refine step_append_at _ (by rfl) _ _ 30 (by rfl) w1.heap.size 3 i1 (.int .i64 0) 1 8 Try.underlying30 HI1.out HZ1.out.1 HZ1.out.2.1 HZ1.out.2.2 (by rfl) (by decide) v5 C.length (C.map natV) (by rfl) HV5.out.1 ⟨w3.heap.size + 1, 0, none⟩ 1 1 [.int .i64 x] (by rfl) (by rfl) HX5.out (by intro u hu; simp at hu; subst hu; rfl) (by unfold maxLen; omega) (by omega) (by have := HV5.out.2.1.size; have := HB3.out.size; first | omega | (rw [alloc_sz]; omega)) ?_
              intro v6 w6 hown6 hg6 hat6
              have hj6 : JoinO w3 w1.heap.size C x v6 w6 := ⟨by simpa [OwnN, natV] using hown6, app_block HV5.out.2.1 HV5.out.2.2 hg6 hat6⟩
              obtain ⟨A6, c6, rfl, -⟩ := own_nls hj6.1
              have HJ6 := Lib.hid hj6
              have hown : w6.ownsRow w1.heap.size 30 1 (.slice (some ⟨gb, 0, none⟩) (D.length + 1) cv) (D.length + 1) (hs ++ [.slice (some ⟨ub, 0, none⟩) C.length cu]) := own_keep HGM3.out.own hj6.2.1
              have f0 := hown.frozenAt D.length
              have f1 : w6.cell? ⟨gb, D.length, none⟩ = some (.slice (some ⟨ub, 0, none⟩) C.length cu) := (hown.cellAt D.length (by omega)).trans (by rw [List.getElem?_append_right (by rw [HGM3.out.len]; exact Nat.le_refl _), HGM3.out.len, Nat.sub_self]; rfl)
              have co6 := (hj6.2.1.cell (p := ⟨ob, oo + j, none⟩) hobs2).trans co3
              have co7 : (w6.setCell ⟨gb, D.length, none⟩ (.slice A6 (C.length + 1) c6)).cell? ⟨ob, oo + j, none⟩ = some (.int .i64 x) := (World.cell?_setCell_other _ _ _ _ (by intro e; simp only [Addr.mk.injEq] at e; omega)).trans co6
              clear hown6 hg6 hat6 hj6 hown
              refine hK.out _ _ co6 (fun hHeld => ?_)
              clear hK K
              try simp only [Act.put, List.getElem_toArray, List.getElem_cons_zero, List.getElem_cons_succ, List.setIfInBounds_toArray, List.set_cons_zero, List.set_cons_succ]
              refine wpAnyH_take (i := 14) (v := .pointer (some ⟨gb, D.length, none⟩)) rfl (by kernel_rfl) (by kernel_rfl) (by kernel_rfl) (fun _ _ _ h => h) (Or.inl ⟨by rfl, fun w' hSw => ?_⟩) hHeld ?_
              · (try dsimp only at hSw)
                go_simp
              try simp only [Act.put, List.getElem_toArray, List.getElem_cons_zero, List.getElem_cons_succ, List.setIfInBounds_toArray, List.set_cons_zero, List.set_cons_succ]
              refine wpAnyH_ready (rs := [15]) (by kernel_rfl) (by simp) ?_
              refine AllReadyH.cons rfl (fun K hK => ?_) AllReadyH.nil
              go_simp
              refine hK.out _ _ co7 (fun hHeld => ?_)
              clear hK K hHeld co7 co6 f0 f1
              refine wpAnyH_done (by kernel_rfl) ?_ _
              have HST := Lib.hid (gm_put (C' := C ++ [x]) HGM3.out (below_all HJ6.out.2.1) (by rw [show (C ++ [x]).length = C.length + 1 by simp]; exact HJ6.out.1) (fun b hb => .inr (HJ6.out.2.2 b hb)))
              have HB6 := Lib.hid ((HB3.out.trans (HJ6.out.2.1.mono HB3.out.size)).setCell (p := ⟨gb, D.length, none⟩) hgbN (.slice A6 (C.length + 1) c6))
              clear co3 cg3
              go_wp2
              go_roundw
              case rel => exact ⟨j + 1, by omega, by go_num, Lib.hid (.inr ⟨by omega, _, _, by rw [HNJ.out]; exact HST.out⟩), HB6.out⟩
              case measure => simp [intOf]; omega
          · skip
            go_simp
            refine hK.out _ _ (by go_keep) (fun hHeld => ?_)
            clear hK K
            try simp only [Act.put, List.getElem_toArray, List.getElem_cons_zero, List.getElem_cons_succ, List.setIfInBounds_toArray, List.set_cons_zero, List.set_cons_succ]
            refine wpAnyH_ready (rs := [2, 12]) (by kernel_rfl) (by simp) ?_
            refine (AllReadyH.cons rfl (fun K hK => ?_) (AllReadyH.cons rfl (fun K hK => ?_) AllReadyH.nil))
            · skip
              go_simp
              refine hK.out _ _ (by go_keep) (fun hHeld => ?_)
              clear hK K
              try simp only [Act.put, List.getElem_toArray, List.getElem_cons_zero, List.getElem_cons_succ, List.setIfInBounds_toArray, List.set_cons_zero, List.set_cons_succ]
              refine wpAnyH_ready (rs := [7, 12]) (by kernel_rfl) (by simp) ?_
              refine (AllReadyH.cons rfl (fun K hK => ?_) (AllReadyH.cons rfl (fun K hK => ?_) AllReadyH.nil))
              · skip
                refine step_append_at _ (by rfl) _ _ 30 (by rfl) w1.heap.size 3 i1 (.int .i64 0) 1 8 Try.underlying30 HI1.out HZ1.out.1 HZ1.out.2.1 HZ1.out.2.2 (by rfl) (by decide) (.slice (some ⟨w3.heap.size, 0, none⟩) 0 0) 0 [] (by rfl) HMa.out ⟨ub, 0, none⟩ C.length cu (C.map natV) (by rfl) (by simp) HNa.out (nat_one _) (by unfold maxLen; omega) (by omega) HSa.out ?_
                intro v5 w5 hown5 hg5 hat5
                have hg5 : (w3.alloc (.cells #[] 3)).grownBy w5 (some (w3.heap.size)) := ⟨hg5.os, hg5.tape, hg5.output, hg5.size, hg5.block⟩
                have hat5 : v5.ownBlock = some (w3.heap.size) ∨ v5.ownBlock = some (w3.alloc (.cells #[] 3)).heap.size := hat5
                have HV5 := Lib.hid (show OwnN w5 w1.heap.size v5 C.length C ∧ Below w3.heap.size w3 w5 ∧ ∀ k, v5.ownBlock = some k → w3.heap.size ≤ k from ⟨by simpa [OwnN] using hown5, app_block HWa.out (fun k hk => by have := Option.some.inj hk; omega) hg5 hat5⟩)
                have co5 := (HV5.out.2.1.cell (p := ⟨ob, oo + j, none⟩) hobs2).trans co3
                clear hown5 hg5 hat5
                refine hK.out _ _ co5 (fun hHeld => ?_)
                clear hK K
                try simp only [Act.put, List.getElem_toArray, List.getElem_cons_zero, List.getElem_cons_succ, List.setIfInBounds_toArray, List.set_cons_zero, List.set_cons_succ]
                refine wpAnyH_ready (rs := [12]) (by kernel_rfl) (by simp) ?_
                refine (AllReadyH.cons rfl (fun K hK => ?_) AllReadyH.nil)
                go_simp
                refine hK.out _ _ (by go_keep) (fun hHeld => ?_)
                clear hK K
                try simp only [Act.put, List.getElem_toArray, List.getElem_cons_zero, List.getElem_cons_succ, List.setIfInBounds_toArray, List.set_cons_zero, List.set_cons_succ]
                refine wpAnyH_ready (rs := [13]) (by kernel_rfl) (by simp) ?_
                refine (AllReadyH.cons rfl (fun K hK => ?_) AllReadyH.nil)
                refine step_append_at _ (by rfl) _ _ 30 (by rfl) w1.heap.size 3 i1 (.int .i64 0) 1 8 Try.underlying30 HI1.out HZ1.out.1 HZ1.out.2.1 HZ1.out.2.2 (by rfl) (by decide) v5 C.length (C.map natV) (by rfl) (World.ownsRow.alloc HV5.out.1 _) ⟨w5.heap.size, 0, none⟩ 1 1 [.int .i64 x] (by rfl) (by rfl) (fun j u hu => one_cell_a w5 x j u hu) (by intro u hu; simp at hu; subst hu; rfl) (by unfold maxLen; omega) (by omega) (by have := HV5.out.2.1.size; have := HB3.out.size; first | omega | (rw [alloc_sz]; omega)) ?_
                intro v6 w6 hown6 hg6 hat6
                have hj6 : JoinO w3 w1.heap.size C x v6 w6 := ⟨by simpa [OwnN, natV] using hown6, app_block (HV5.out.2.1.alloc HV5.out.2.1.size _) HV5.out.2.2 hg6 hat6⟩
                obtain ⟨A6, c6, rfl, -⟩ := own_nls hj6.1
                have HJ6 := Lib.hid hj6
                have hown : w6.ownsRow w1.heap.size 30 1 (.slice (some ⟨gb, 0, none⟩) (D.length + 1) cv) (D.length + 1) (hs ++ [.slice (some ⟨ub, 0, none⟩) C.length cu]) := own_keep HGM3.out.own hj6.2.1
                have f0 := hown.frozenAt D.length
                have f1 : w6.cell? ⟨gb, D.length, none⟩ = some (.slice (some ⟨ub, 0, none⟩) C.length cu) := (hown.cellAt D.length (by omega)).trans (by rw [List.getElem?_append_right (by rw [HGM3.out.len]; exact Nat.le_refl _), HGM3.out.len, Nat.sub_self]; rfl)
                have co6 := (hj6.2.1.cell (p := ⟨ob, oo + j, none⟩) hobs2).trans co3
                have co7 : (w6.setCell ⟨gb, D.length, none⟩ (.slice A6 (C.length + 1) c6)).cell? ⟨ob, oo + j, none⟩ = some (.int .i64 x) := (World.cell?_setCell_other _ _ _ _ (by intro e; simp only [Addr.mk.injEq] at e; omega)).trans co6
                clear hown6 hg6 hat6 hj6 hown
                refine hK.out _ _ co6 (fun hHeld => ?_)
                clear hK K
                try simp only [Act.put, List.getElem_toArray, List.getElem_cons_zero, List.getElem_cons_succ, List.setIfInBounds_toArray, List.set_cons_zero, List.set_cons_succ]
                refine wpAnyH_take (i := 14) (v := .pointer (some ⟨gb, D.length, none⟩)) rfl (by kernel_rfl) (by kernel_rfl) (by kernel_rfl) (fun _ _ _ h => h) (Or.inl ⟨by rfl, fun w' hSw => ?_⟩) hHeld ?_
                · (try dsimp only at hSw)
                  go_simp
                try simp only [Act.put, List.getElem_toArray, List.getElem_cons_zero, List.getElem_cons_succ, List.setIfInBounds_toArray, List.set_cons_zero, List.set_cons_succ]
                refine wpAnyH_ready (rs := [15]) (by kernel_rfl) (by simp) ?_
                refine AllReadyH.cons rfl (fun K hK => ?_) AllReadyH.nil
                go_simp
                refine hK.out _ _ co7 (fun hHeld => ?_)
                clear hK K hHeld co7 co6 f0 f1
                refine wpAnyH_done (by kernel_rfl) ?_ _
                have HST := Lib.hid (gm_put (C' := C ++ [x]) HGM3.out (below_all HJ6.out.2.1) (by rw [show (C ++ [x]).length = C.length + 1 by simp]; exact HJ6.out.1) (fun b hb => .inr (HJ6.out.2.2 b hb)))
                have HB6 := Lib.hid ((HB3.out.trans (HJ6.out.2.1.mono HB3.out.size)).setCell (p := ⟨gb, D.length, none⟩) hgbN (.slice A6 (C.length + 1) c6))
                clear co3 cg3
                go_wp2
                go_roundw
                case rel => exact ⟨j + 1, by omega, by go_num, Lib.hid (.inr ⟨by omega, _, _, by rw [HNJ.out]; exact HST.out⟩), HB6.out⟩
                case measure => simp [intOf]; omega
              · skip
                go_simp
                refine hK.out _ _ (by go_keep) (fun hHeld => ?_)
                clear hK K
                try simp only [Act.put, List.getElem_toArray, List.getElem_cons_zero, List.getElem_cons_succ, List.setIfInBounds_toArray, List.set_cons_zero, List.set_cons_succ]
                refine wpAnyH_ready (rs := [7]) (by kernel_rfl) (by simp) ?_
                refine (AllReadyH.cons rfl (fun K hK => ?_) AllReadyH.nil)
                refine step_append_at _ (by rfl) _ _ 30 (by rfl) w1.heap.size 3 i1 (.int .i64 0) 1 8 Try.underlying30 HI1.out HZ1.out.1 HZ1.out.2.1 HZ1.out.2.2 (by rfl) (by decide) (.slice (some ⟨w3.heap.size, 0, none⟩) 0 0) 0 [] (by rfl) HMb.out ⟨ub, 0, none⟩ C.length cu (C.map natV) (by rfl) (by simp) HNb.out (nat_one _) (by unfold maxLen; omega) (by omega) HSb.out ?_
                intro v5 w5 hown5 hg5 hat5
                have hg5 : ((w3.alloc (.cells #[] 3)).alloc (.cells #[.int .i64 x] 3)).grownBy w5 (some (w3.heap.size)) := ⟨hg5.os, hg5.tape, hg5.output, hg5.size, hg5.block⟩
                have hat5 : v5.ownBlock = some (w3.heap.size) ∨ v5.ownBlock = some ((w3.alloc (.cells #[] 3)).alloc (.cells #[.int .i64 x] 3)).heap.size := hat5
                have HV5 := Lib.hid (show OwnN w5 w1.heap.size v5 C.length C ∧ Below w3.heap.size w3 w5 ∧ ∀ k, v5.ownBlock = some k → w3.heap.size ≤ k from ⟨by simpa [OwnN] using hown5, app_block HWb.out (fun k hk => by have := Option.some.inj hk; omega) hg5 hat5⟩)
                have HX5 := Lib.hid (show ∀ j u, ([.int .i64 x] : List Value)[j]? = some u → w5.cell? ((⟨w3.heap.size + 1, 0, none⟩ : Addr).add j) = some u from fun j u hu => (grown_far hg5 ((⟨w3.heap.size + 1, 0, none⟩ : Addr).add j) (by rw [add_block]; simp) (by rw [add_block]; intro e; have := Option.some.inj e; simp at this)).trans (one_cell_b w3 x j u hu))
                have co5 := (HV5.out.2.1.cell (p := ⟨ob, oo + j, none⟩) hobs2).trans co3
                clear hown5 hg5 hat5
                refine hK.out _ _ co5 (fun hHeld => ?_)
                clear hK K
                try simp only [Act.put, List.getElem_toArray, List.getElem_cons_zero, List.getElem_cons_succ, List.setIfInBounds_toArray, List.set_cons_zero, List.set_cons_succ]
                refine wpAnyH_ready (rs := [13]) (by kernel_rfl) (by simp) ?_
                refine (AllReadyH.cons rfl (fun K hK => ?_) AllReadyH.nil)
                refine step_append_at _ (by rfl) _ _ 30 (by rfl) w1.heap.size 3 i1 (.int .i64 0) 1 8 Try.underlying30 HI1.out HZ1.out.1 HZ1.out.2.1 HZ1.out.2.2 (by rfl) (by decide) v5 C.length (C.map natV) (by rfl) HV5.out.1 ⟨w3.heap.size + 1, 0, none⟩ 1 1 [.int .i64 x] (by rfl) (by rfl) HX5.out (by intro u hu; simp at hu; subst hu; rfl) (by unfold maxLen; omega) (by omega) (by have := HV5.out.2.1.size; have := HB3.out.size; first | omega | (rw [alloc_sz]; omega)) ?_
                intro v6 w6 hown6 hg6 hat6
                have hj6 : JoinO w3 w1.heap.size C x v6 w6 := ⟨by simpa [OwnN, natV] using hown6, app_block HV5.out.2.1 HV5.out.2.2 hg6 hat6⟩
                obtain ⟨A6, c6, rfl, -⟩ := own_nls hj6.1
                have HJ6 := Lib.hid hj6
                have hown : w6.ownsRow w1.heap.size 30 1 (.slice (some ⟨gb, 0, none⟩) (D.length + 1) cv) (D.length + 1) (hs ++ [.slice (some ⟨ub, 0, none⟩) C.length cu]) := own_keep HGM3.out.own hj6.2.1
                have f0 := hown.frozenAt D.length
                have f1 : w6.cell? ⟨gb, D.length, none⟩ = some (.slice (some ⟨ub, 0, none⟩) C.length cu) := (hown.cellAt D.length (by omega)).trans (by rw [List.getElem?_append_right (by rw [HGM3.out.len]; exact Nat.le_refl _), HGM3.out.len, Nat.sub_self]; rfl)
                have co6 := (hj6.2.1.cell (p := ⟨ob, oo + j, none⟩) hobs2).trans co3
                have co7 : (w6.setCell ⟨gb, D.length, none⟩ (.slice A6 (C.length + 1) c6)).cell? ⟨ob, oo + j, none⟩ = some (.int .i64 x) := (World.cell?_setCell_other _ _ _ _ (by intro e; simp only [Addr.mk.injEq] at e; omega)).trans co6
                clear hown6 hg6 hat6 hj6 hown
                refine hK.out _ _ co6 (fun hHeld => ?_)
                clear hK K
                try simp only [Act.put, List.getElem_toArray, List.getElem_cons_zero, List.getElem_cons_succ, List.setIfInBounds_toArray, List.set_cons_zero, List.set_cons_succ]
                refine wpAnyH_take (i := 14) (v := .pointer (some ⟨gb, D.length, none⟩)) rfl (by kernel_rfl) (by kernel_rfl) (by kernel_rfl) (fun _ _ _ h => h) (Or.inl ⟨by rfl, fun w' hSw => ?_⟩) hHeld ?_
                · (try dsimp only at hSw)
                  go_simp
                try simp only [Act.put, List.getElem_toArray, List.getElem_cons_zero, List.getElem_cons_succ, List.setIfInBounds_toArray, List.set_cons_zero, List.set_cons_succ]
                refine wpAnyH_ready (rs := [15]) (by kernel_rfl) (by simp) ?_
                refine AllReadyH.cons rfl (fun K hK => ?_) AllReadyH.nil
                go_simp
                refine hK.out _ _ co7 (fun hHeld => ?_)
                clear hK K hHeld co7 co6 f0 f1
                refine wpAnyH_done (by kernel_rfl) ?_ _
                have HST := Lib.hid (gm_put (C' := C ++ [x]) HGM3.out (below_all HJ6.out.2.1) (by rw [show (C ++ [x]).length = C.length + 1 by simp]; exact HJ6.out.1) (fun b hb => .inr (HJ6.out.2.2 b hb)))
                have HB6 := Lib.hid ((HB3.out.trans (HJ6.out.2.1.mono HB3.out.size)).setCell (p := ⟨gb, D.length, none⟩) hgbN (.slice A6 (C.length + 1) c6))
                clear co3 cg3
                go_wp2
                go_roundw
                case rel => exact ⟨j + 1, by omega, by go_num, Lib.hid (.inr ⟨by omega, _, _, by rw [HNJ.out]; exact HST.out⟩), HB6.out⟩
                case measure => simp [intOf]; omega
            · skip
              go_simp
              refine hK.out _ _ (by go_keep) (fun hHeld => ?_)
              clear hK K
              try simp only [Act.put, List.getElem_toArray, List.getElem_cons_zero, List.getElem_cons_succ, List.setIfInBounds_toArray, List.set_cons_zero, List.set_cons_succ]
              refine wpAnyH_ready (rs := [2]) (by kernel_rfl) (by simp) ?_
              refine (AllReadyH.cons rfl (fun K hK => ?_) AllReadyH.nil)
              go_simp
              refine hK.out _ _ (by go_keep) (fun hHeld => ?_)
              clear hK K
              try simp only [Act.put, List.getElem_toArray, List.getElem_cons_zero, List.getElem_cons_succ, List.setIfInBounds_toArray, List.set_cons_zero, List.set_cons_succ]
              refine wpAnyH_ready (rs := [7]) (by kernel_rfl) (by simp) ?_
              refine (AllReadyH.cons rfl (fun K hK => ?_) AllReadyH.nil)
              refine step_append_at _ (by rfl) _ _ 30 (by rfl) w1.heap.size 3 i1 (.int .i64 0) 1 8 Try.underlying30 HI1.out HZ1.out.1 HZ1.out.2.1 HZ1.out.2.2 (by rfl) (by decide) (.slice (some ⟨w3.heap.size + 1, 0, none⟩) 0 0) 0 [] (by rfl) HMc.out ⟨ub, 0, none⟩ C.length cu (C.map natV) (by rfl) (by simp) HNc.out (nat_one _) (by unfold maxLen; omega) (by omega) HSc.out ?_
              intro v5 w5 hown5 hg5 hat5
              have hg5 : ((w3.alloc (.cells #[.int .i64 x] 3)).alloc (.cells #[] 3)).grownBy w5 (some (w3.heap.size + 1)) := ⟨hg5.os, hg5.tape, hg5.output, hg5.size, hg5.block⟩
              have hat5 : v5.ownBlock = some (w3.heap.size + 1) ∨ v5.ownBlock = some ((w3.alloc (.cells #[.int .i64 x] 3)).alloc (.cells #[] 3)).heap.size := hat5
              have HV5 := Lib.hid (show OwnN w5 w1.heap.size v5 C.length C ∧ Below w3.heap.size w3 w5 ∧ ∀ k, v5.ownBlock = some k → w3.heap.size ≤ k from ⟨by simpa [OwnN] using hown5, app_block HWc.out (fun k hk => by have := Option.some.inj hk; omega) hg5 hat5⟩)
              have HX5 := Lib.hid (show ∀ j u, ([.int .i64 x] : List Value)[j]? = some u → w5.cell? ((⟨w3.heap.size, 0, none⟩ : Addr).add j) = some u from fun j u hu => (grown_far hg5 ((⟨w3.heap.size, 0, none⟩ : Addr).add j) (by rw [add_block]; simp; omega) (by rw [add_block]; intro e; have := Option.some.inj e; simp at this)).trans (one_cell_c w3 x j u hu))
              have co5 := (HV5.out.2.1.cell (p := ⟨ob, oo + j, none⟩) hobs2).trans co3
              clear hown5 hg5 hat5
              refine hK.out _ _ co5 (fun hHeld => ?_)
              clear hK K
              try simp only [Act.put, List.getElem_toArray, List.getElem_cons_zero, List.getElem_cons_succ, List.setIfInBounds_toArray, List.set_cons_zero, List.set_cons_succ]
              refine wpAnyH_ready (rs := [13]) (by kernel_rfl) (by simp) ?_
              refine (AllReadyH.cons rfl (fun K hK => ?_) AllReadyH.nil)
              refine step_append_at _ (by rfl) _ _ 30 (by rfl) w1.heap.size 3 i1 (.int .i64 0) 1 8 Try.underlying30 HI1.out HZ1.out.1 HZ1.out.2.1 HZ1.out.2.2 (by rfl) (by decide) v5 C.length (C.map natV) (by rfl) HV5.out.1 ⟨w3.heap.size, 0, none⟩ 1 1 [.int .i64 x] (by rfl) (by rfl) HX5.out (by intro u hu; simp at hu; subst hu; rfl) (by unfold maxLen; omega) (by omega) (by have := HV5.out.2.1.size; have := HB3.out.size; first | omega | (rw [alloc_sz]; omega)) ?_
              intro v6 w6 hown6 hg6 hat6
              have hj6 : JoinO w3 w1.heap.size C x v6 w6 := ⟨by simpa [OwnN, natV] using hown6, app_block HV5.out.2.1 HV5.out.2.2 hg6 hat6⟩
              obtain ⟨A6, c6, rfl, -⟩ := own_nls hj6.1
              have HJ6 := Lib.hid hj6
              have hown : w6.ownsRow w1.heap.size 30 1 (.slice (some ⟨gb, 0, none⟩) (D.length + 1) cv) (D.length + 1) (hs ++ [.slice (some ⟨ub, 0, none⟩) C.length cu]) := own_keep HGM3.out.own hj6.2.1
              have f0 := hown.frozenAt D.length
              have f1 : w6.cell? ⟨gb, D.length, none⟩ = some (.slice (some ⟨ub, 0, none⟩) C.length cu) := (hown.cellAt D.length (by omega)).trans (by rw [List.getElem?_append_right (by rw [HGM3.out.len]; exact Nat.le_refl _), HGM3.out.len, Nat.sub_self]; rfl)
              have co6 := (hj6.2.1.cell (p := ⟨ob, oo + j, none⟩) hobs2).trans co3
              have co7 : (w6.setCell ⟨gb, D.length, none⟩ (.slice A6 (C.length + 1) c6)).cell? ⟨ob, oo + j, none⟩ = some (.int .i64 x) := (World.cell?_setCell_other _ _ _ _ (by intro e; simp only [Addr.mk.injEq] at e; omega)).trans co6
              clear hown6 hg6 hat6 hj6 hown
              refine hK.out _ _ co6 (fun hHeld => ?_)
              clear hK K
              try simp only [Act.put, List.getElem_toArray, List.getElem_cons_zero, List.getElem_cons_succ, List.setIfInBounds_toArray, List.set_cons_zero, List.set_cons_succ]
              refine wpAnyH_take (i := 14) (v := .pointer (some ⟨gb, D.length, none⟩)) rfl (by kernel_rfl) (by kernel_rfl) (by kernel_rfl) (fun _ _ _ h => h) (Or.inl ⟨by rfl, fun w' hSw => ?_⟩) hHeld ?_
              · (try dsimp only at hSw)
                go_simp
              try simp only [Act.put, List.getElem_toArray, List.getElem_cons_zero, List.getElem_cons_succ, List.setIfInBounds_toArray, List.set_cons_zero, List.set_cons_succ]
              refine wpAnyH_ready (rs := [15]) (by kernel_rfl) (by simp) ?_
              refine AllReadyH.cons rfl (fun K hK => ?_) AllReadyH.nil
              go_simp
              refine hK.out _ _ co7 (fun hHeld => ?_)
              clear hK K hHeld co7 co6 f0 f1
              refine wpAnyH_done (by kernel_rfl) ?_ _
              have HST := Lib.hid (gm_put (C' := C ++ [x]) HGM3.out (below_all HJ6.out.2.1) (by rw [show (C ++ [x]).length = C.length + 1 by simp]; exact HJ6.out.1) (fun b hb => .inr (HJ6.out.2.2 b hb)))
              have HB6 := Lib.hid ((HB3.out.trans (HJ6.out.2.1.mono HB3.out.size)).setCell (p := ⟨gb, D.length, none⟩) hgbN (.slice A6 (C.length + 1) c6))
              clear co3 cg3
              go_wp2
              go_roundw
              case rel => exact ⟨j + 1, by omega, by go_num, Lib.hid (.inr ⟨by omega, _, _, by rw [HNJ.out]; exact HST.out⟩), HB6.out⟩
              case measure => simp [intOf]; omega
          · skip
            go_simp
            refine hK.out _ _ (by go_keep) (fun hHeld => ?_)
            clear hK K
            try simp only [Act.put, List.getElem_toArray, List.getElem_cons_zero, List.getElem_cons_succ, List.setIfInBounds_toArray, List.set_cons_zero, List.set_cons_succ]
            refine wpAnyH_ready (rs := [2, 6]) (by kernel_rfl) (by simp) ?_
            refine (AllReadyH.cons rfl (fun K hK => ?_) (AllReadyH.cons rfl (fun K hK => ?_) AllReadyH.nil))
            · skip
              go_simp
              refine hK.out _ _ (by go_keep) (fun hHeld => ?_)
              clear hK K
              try simp only [Act.put, List.getElem_toArray, List.getElem_cons_zero, List.getElem_cons_succ, List.setIfInBounds_toArray, List.set_cons_zero, List.set_cons_succ]
              refine wpAnyH_ready (rs := [6]) (by kernel_rfl) (by simp) ?_
              refine (AllReadyH.cons rfl (fun K hK => ?_) AllReadyH.nil)
              go_simp
              refine hK.out _ _ (by go_keep) (fun hHeld => ?_)
              clear hK K
              try simp only [Act.put, List.getElem_toArray, List.getElem_cons_zero, List.getElem_cons_succ, List.setIfInBounds_toArray, List.set_cons_zero, List.set_cons_succ]
              refine wpAnyH_ready (rs := [7]) (by kernel_rfl) (by simp) ?_
              refine (AllReadyH.cons rfl (fun K hK => ?_) AllReadyH.nil)
              refine step_append_at _ (by rfl) _ _ 30 (by rfl) w1.heap.size 3 i1 (.int .i64 0) 1 8 Try.underlying30 HI1.out HZ1.out.1 HZ1.out.2.1 HZ1.out.2.2 (by rfl) (by decide) (.slice (some ⟨w3.heap.size + 1, 0, none⟩) 0 0) 0 [] (by rfl) HMc.out ⟨ub, 0, none⟩ C.length cu (C.map natV) (by rfl) (by simp) HNc.out (nat_one _) (by unfold maxLen; omega) (by omega) HSc.out ?_
              intro v5 w5 hown5 hg5 hat5
              have hg5 : ((w3.alloc (.cells #[.int .i64 x] 3)).alloc (.cells #[] 3)).grownBy w5 (some (w3.heap.size + 1)) := ⟨hg5.os, hg5.tape, hg5.output, hg5.size, hg5.block⟩
              have hat5 : v5.ownBlock = some (w3.heap.size + 1) ∨ v5.ownBlock = some ((w3.alloc (.cells #[.int .i64 x] 3)).alloc (.cells #[] 3)).heap.size := hat5
              have HV5 := Lib.hid (show OwnN w5 w1.heap.size v5 C.length C ∧ Below w3.heap.size w3 w5 ∧ ∀ k, v5.ownBlock = some k → w3.heap.size ≤ k from ⟨by simpa [OwnN] using hown5, app_block HWc.out (fun k hk => by have := Option.some.inj hk; omega) hg5 hat5⟩)
              have HX5 := Lib.hid (show ∀ j u, ([.int .i64 x] : List Value)[j]? = some u → w5.cell? ((⟨w3.heap.size, 0, none⟩ : Addr).add j) = some u from fun j u hu => (grown_far hg5 ((⟨w3.heap.size, 0, none⟩ : Addr).add j) (by rw [add_block]; simp; omega) (by rw [add_block]; intro e; have := Option.some.inj e; simp at this)).trans (one_cell_c w3 x j u hu))
              have co5 := (HV5.out.2.1.cell (p := ⟨ob, oo + j, none⟩) hobs2).trans co3
              clear hown5 hg5 hat5
              refine hK.out _ _ co5 (fun hHeld => ?_)
              clear hK K
              try simp only [Act.put, List.getElem_toArray, List.getElem_cons_zero, List.getElem_cons_succ, List.setIfInBounds_toArray, List.set_cons_zero, List.set_cons_succ]
              refine wpAnyH_ready (rs := [13]) (by kernel_rfl) (by simp) ?_
              refine (AllReadyH.cons rfl (fun K hK => ?_) AllReadyH.nil)
              refine step_append_at _ (by rfl) _ _ 30 (by rfl) w1.heap.size 3 i1 (.int .i64 0) 1 8 Try.underlying30 HI1.out HZ1.out.1 HZ1.out.2.1 HZ1.out.2.2 (by rfl) (by decide) v5 C.length (C.map natV) (by rfl) HV5.out.1 ⟨w3.heap.size, 0, none⟩ 1 1 [.int .i64 x] (by rfl) (by rfl) HX5.out (by intro u hu; simp at hu; subst hu; rfl) (by unfold maxLen; omega) (by omega) (by have := HV5.out.2.1.size; have := HB3.out.size; first | omega | (rw [alloc_sz]; omega)) ?_
              intro v6 w6 hown6 hg6 hat6
              have hj6 : JoinO w3 w1.heap.size C x v6 w6 := ⟨by simpa [OwnN, natV] using hown6, app_block HV5.out.2.1 HV5.out.2.2 hg6 hat6⟩
              obtain ⟨A6, c6, rfl, -⟩ := own_nls hj6.1
              have HJ6 := Lib.hid hj6
              have hown : w6.ownsRow w1.heap.size 30 1 (.slice (some ⟨gb, 0, none⟩) (D.length + 1) cv) (D.length + 1) (hs ++ [.slice (some ⟨ub, 0, none⟩) C.length cu]) := own_keep HGM3.out.own hj6.2.1
              have f0 := hown.frozenAt D.length
              have f1 : w6.cell? ⟨gb, D.length, none⟩ = some (.slice (some ⟨ub, 0, none⟩) C.length cu) := (hown.cellAt D.length (by omega)).trans (by rw [List.getElem?_append_right (by rw [HGM3.out.len]; exact Nat.le_refl _), HGM3.out.len, Nat.sub_self]; rfl)
              have co6 := (hj6.2.1.cell (p := ⟨ob, oo + j, none⟩) hobs2).trans co3
              have co7 : (w6.setCell ⟨gb, D.length, none⟩ (.slice A6 (C.length + 1) c6)).cell? ⟨ob, oo + j, none⟩ = some (.int .i64 x) := (World.cell?_setCell_other _ _ _ _ (by intro e; simp only [Addr.mk.injEq] at e; omega)).trans co6
              clear hown6 hg6 hat6 hj6 hown
              refine hK.out _ _ co6 (fun hHeld => ?_)
              clear hK K
              try simp only [Act.put, List.getElem_toArray, List.getElem_cons_zero, List.getElem_cons_succ, List.setIfInBounds_toArray, List.set_cons_zero, List.set_cons_succ]
              refine wpAnyH_take (i := 14) (v := .pointer (some ⟨gb, D.length, none⟩)) rfl (by kernel_rfl) (by kernel_rfl) (by kernel_rfl) (fun _ _ _ h => h) (Or.inl ⟨by rfl, fun w' hSw => ?_⟩) hHeld ?_
              · (try dsimp only at hSw)
                go_simp
              try simp only [Act.put, List.getElem_toArray, List.getElem_cons_zero, List.getElem_cons_succ, List.setIfInBounds_toArray, List.set_cons_zero, List.set_cons_succ]
              refine wpAnyH_ready (rs := [15]) (by kernel_rfl) (by simp) ?_
              refine AllReadyH.cons rfl (fun K hK => ?_) AllReadyH.nil
              go_simp
              refine hK.out _ _ co7 (fun hHeld => ?_)
              clear hK K hHeld co7 co6 f0 f1
              refine wpAnyH_done (by kernel_rfl) ?_ _
              have HST := Lib.hid (gm_put (C' := C ++ [x]) HGM3.out (below_all HJ6.out.2.1) (by rw [show (C ++ [x]).length = C.length + 1 by simp]; exact HJ6.out.1) (fun b hb => .inr (HJ6.out.2.2 b hb)))
              have HB6 := Lib.hid ((HB3.out.trans (HJ6.out.2.1.mono HB3.out.size)).setCell (p := ⟨gb, D.length, none⟩) hgbN (.slice A6 (C.length + 1) c6))
              clear co3 cg3
              go_wp2
              go_roundw
              case rel => exact ⟨j + 1, by omega, by go_num, Lib.hid (.inr ⟨by omega, _, _, by rw [HNJ.out]; exact HST.out⟩), HB6.out⟩
              case measure => simp [intOf]; omega
            · skip
              go_simp
              refine hK.out _ _ (by go_keep) (fun hHeld => ?_)
              clear hK K
              try simp only [Act.put, List.getElem_toArray, List.getElem_cons_zero, List.getElem_cons_succ, List.setIfInBounds_toArray, List.set_cons_zero, List.set_cons_succ]
              refine wpAnyH_ready (rs := [2]) (by kernel_rfl) (by simp) ?_
              refine (AllReadyH.cons rfl (fun K hK => ?_) AllReadyH.nil)
              go_simp
              refine hK.out _ _ (by go_keep) (fun hHeld => ?_)
              clear hK K
              try simp only [Act.put, List.getElem_toArray, List.getElem_cons_zero, List.getElem_cons_succ, List.setIfInBounds_toArray, List.set_cons_zero, List.set_cons_succ]
              refine wpAnyH_ready (rs := [7]) (by kernel_rfl) (by simp) ?_
              refine (AllReadyH.cons rfl (fun K hK => ?_) AllReadyH.nil)
              refine step_append_at _ (by rfl) _ _ 30 (by rfl) w1.heap.size 3 i1 (.int .i64 0) 1 8 Try.underlying30 HI1.out HZ1.out.1 HZ1.out.2.1 HZ1.out.2.2 (by rfl) (by decide) (.slice (some ⟨w3.heap.size + 1, 0, none⟩) 0 0) 0 [] (by rfl) HMc.out ⟨ub, 0, none⟩ C.length cu (C.map natV) (by rfl) (by simp) HNc.out (nat_one _) (by unfold maxLen; omega) (by omega) HSc.out ?_
              intro v5 w5 hown5 hg5 hat5
              have hg5 : ((w3.alloc (.cells #[.int .i64 x] 3)).alloc (.cells #[] 3)).grownBy w5 (some (w3.heap.size + 1)) := ⟨hg5.os, hg5.tape, hg5.output, hg5.size, hg5.block⟩
              have hat5 : v5.ownBlock = some (w3.heap.size + 1) ∨ v5.ownBlock = some ((w3.alloc (.cells #[.int .i64 x] 3)).alloc (.cells #[] 3)).heap.size := hat5
              have HV5 := Lib.hid (show OwnN w5 w1.heap.size v5 C.length C ∧ Below w3.heap.size w3 w5 ∧ ∀ k, v5.ownBlock = some k → w3.heap.size ≤ k from ⟨by simpa [OwnN] using hown5, app_block HWc.out (fun k hk => by have := Option.some.inj hk; omega) hg5 hat5⟩)
              have HX5 := Lib.hid (show ∀ j u, ([.int .i64 x] : List Value)[j]? = some u → w5.cell? ((⟨w3.heap.size, 0, none⟩ : Addr).add j) = some u from fun j u hu => (grown_far hg5 ((⟨w3.heap.size, 0, none⟩ : Addr).add j) (by rw [add_block]; simp; omega) (by rw [add_block]; intro e; have := Option.some.inj e; simp at this)).trans (one_cell_c w3 x j u hu))
              have co5 := (HV5.out.2.1.cell (p := ⟨ob, oo + j, none⟩) hobs2).trans co3
              clear hown5 hg5 hat5
              refine hK.out _ _ co5 (fun hHeld => ?_)
              clear hK K
              try simp only [Act.put, List.getElem_toArray, List.getElem_cons_zero, List.getElem_cons_succ, List.setIfInBounds_toArray, List.set_cons_zero, List.set_cons_succ]
              refine wpAnyH_ready (rs := [13]) (by kernel_rfl) (by simp) ?_
              refine (AllReadyH.cons rfl (fun K hK => ?_) AllReadyH.nil)
              refine step_append_at _ (by rfl) _ _ 30 (by rfl) w1.heap.size 3 i1 (.int .i64 0) 1 8 Try.underlying30 HI1.out HZ1.out.1 HZ1.out.2.1 HZ1.out.2.2 (by rfl) (by decide) v5 C.length (C.map natV) (by rfl) HV5.out.1 ⟨w3.heap.size, 0, none⟩ 1 1 [.int .i64 x] (by rfl) (by rfl) HX5.out (by intro u hu; simp at hu; subst hu; rfl) (by unfold maxLen; omega) (by omega) (by have := HV5.out.2.1.size; have := HB3.out.size; first | omega | (rw [alloc_sz]; omega)) ?_
              intro v6 w6 hown6 hg6 hat6
              have hj6 : JoinO w3 w1.heap.size C x v6 w6 := ⟨by simpa [OwnN, natV] using hown6, app_block HV5.out.2.1 HV5.out.2.2 hg6 hat6⟩
              obtain ⟨A6, c6, rfl, -⟩ := own_nls hj6.1
              have HJ6 := Lib.hid hj6
              have hown : w6.ownsRow w1.heap.size 30 1 (.slice (some ⟨gb, 0, none⟩) (D.length + 1) cv) (D.length + 1) (hs ++ [.slice (some ⟨ub, 0, none⟩) C.length cu]) := own_keep HGM3.out.own hj6.2.1
              have f0 := hown.frozenAt D.length
              have f1 : w6.cell? ⟨gb, D.length, none⟩ = some (.slice (some ⟨ub, 0, none⟩) C.length cu) := (hown.cellAt D.length (by omega)).trans (by rw [List.getElem?_append_right (by rw [HGM3.out.len]; exact Nat.le_refl _), HGM3.out.len, Nat.sub_self]; rfl)
              have co6 := (hj6.2.1.cell (p := ⟨ob, oo + j, none⟩) hobs2).trans co3
              have co7 : (w6.setCell ⟨gb, D.length, none⟩ (.slice A6 (C.length + 1) c6)).cell? ⟨ob, oo + j, none⟩ = some (.int .i64 x) := (World.cell?_setCell_other _ _ _ _ (by intro e; simp only [Addr.mk.injEq] at e; omega)).trans co6
              clear hown6 hg6 hat6 hj6 hown
              refine hK.out _ _ co6 (fun hHeld => ?_)
              clear hK K
              try simp only [Act.put, List.getElem_toArray, List.getElem_cons_zero, List.getElem_cons_succ, List.setIfInBounds_toArray, List.set_cons_zero, List.set_cons_succ]
              refine wpAnyH_take (i := 14) (v := .pointer (some ⟨gb, D.length, none⟩)) rfl (by kernel_rfl) (by kernel_rfl) (by kernel_rfl) (fun _ _ _ h => h) (Or.inl ⟨by rfl, fun w' hSw => ?_⟩) hHeld ?_
              · (try dsimp only at hSw)
                go_simp
              try simp only [Act.put, List.getElem_toArray, List.getElem_cons_zero, List.getElem_cons_succ, List.setIfInBounds_toArray, List.set_cons_zero, List.set_cons_succ]
              refine wpAnyH_ready (rs := [15]) (by kernel_rfl) (by simp) ?_
              refine AllReadyH.cons rfl (fun K hK => ?_) AllReadyH.nil
              go_simp
              refine hK.out _ _ co7 (fun hHeld => ?_)
              clear hK K hHeld co7 co6 f0 f1
              refine wpAnyH_done (by kernel_rfl) ?_ _
              have HST := Lib.hid (gm_put (C' := C ++ [x]) HGM3.out (below_all HJ6.out.2.1) (by rw [show (C ++ [x]).length = C.length + 1 by simp]; exact HJ6.out.1) (fun b hb => .inr (HJ6.out.2.2 b hb)))
              have HB6 := Lib.hid ((HB3.out.trans (HJ6.out.2.1.mono HB3.out.size)).setCell (p := ⟨gb, D.length, none⟩) hgbN (.slice A6 (C.length + 1) c6))
              clear co3 cg3
              go_wp2
              go_roundw
              case rel => exact ⟨j + 1, by omega, by go_num, Lib.hid (.inr ⟨by omega, _, _, by rw [HNJ.out]; exact HST.out⟩), HB6.out⟩
              case measure => simp [intOf]; omega
          --R1
    · obtain rfl : j = n := by omega
      obtain ⟨A2, c2, rfl, hgr⟩ := grsi_end HG.out
      have HGR := Lib.hid (hgr.mono (C' := (w.heap.size ≤ ·)) (fun b hb => Nat.le_trans HB1.out.size hb))
      clear hgr HG
      go_wp2
      go_ret
      exact ⟨A2, c2, g, rfl, HOR.out, HGR.out, HB1.out.trans (HB.out.mono HB1.out.size)⟩
end Go.Proofs.Ythcchaglloggjaa
