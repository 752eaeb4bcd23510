/- A batch's groups as plain lists; the contract of package journal's Begin. Condition: at most 100 requests, whose slices have at most 100 bytes; what came in can be read. -/
import Derived.Test.YthcchaglloggjaaJg
import Derived.Test.YthcchaglloggjaaYn
namespace Go.Proofs.Ythcchaglloggjaa
open Go.RowKit
set_option linter.unusedVariables false
set_option maxRecDepth 100000

theorem grp_ne (M : List Rq) (g : Nat → Nat) : ∀ j, (0 < j → (grp M g j).2 ≠ []) ∧ ∀ P ∈ (grp M g j).1, P ≠ []
  | 0 => ⟨fun h => absurd h (by omega), fun P hP => by cases hP⟩
  | j + 1 => by
    obtain ⟨h1, h2⟩ := grp_ne M g j
    show (_ → (grpS M (grp M g j) (g j)).2 ≠ []) ∧ ∀ P ∈ (grpS M (grp M g j) (g j)).1, P ≠ []
    unfold grpS
    split
    · exact ⟨fun _ => by simp, fun P hP => by cases hP⟩
    · split
      · exact ⟨fun _ => by simp, h2⟩
      · next hne _ =>
        refine ⟨fun _ => by simp, fun P hP => ?_⟩
        rcases List.mem_append.1 hP with hP | hP
        · exact h2 P hP
        · rw [List.mem_singleton.1 hP]; exact hne
theorem grp_flat (M : List Rq) (g : Nat → Nat) : ∀ j, (grp M g j).1.flatten ++ (grp M g j).2 = (List.range j).map g
  | 0 => rfl
  | j + 1 => by
    have ih := grp_flat M g j
    rw [List.range_succ, List.map_append, ← ih]
    show (grpS M (grp M g j) (g j)).1.flatten ++ (grpS M (grp M g j) (g j)).2 = _
    unfold grpS
    split
    · next h =>
      have hj : j = 0 := Nat.eq_zero_of_not_pos fun h0 => (grp_ne M g j).1 h0 h
      subst hj
      rfl
    · split
      · simp
      · simp
theorem grpL_flat (M : List Rq) (g : Nat → Nat) (n : Nat) : (grpL M g n).flatten = (List.range n).map g := by
  unfold grpL
  split
  · next h => subst h; rfl
  · rw [← grp_flat M g n]
    simp
theorem grpL_ne (M : List Rq) (g : Nat → Nat) (n : Nat) : ∀ P ∈ grpL M g n, P ≠ [] := fun P hP => by
  unfold grpL at hP
  split at hP
  · cases hP
  · next h =>
    rcases List.mem_append.1 hP with hP | hP
    · exact (grp_ne M g n).2 P hP
    · rw [List.mem_singleton.1 hP]; exact (grp_ne M g n).1 (by omega)

/-- A batch's groups. -/
def grT (L : List Int) (M : List Rq) (G : List (List Nat)) : List Gr := G.map fun P => P.map fun i => (it L i, gq M i)
theorem sizeT_grT (L : List Int) (M : List Rq) (G : List (List Nat)) : sizeT (grT L M G) = G.flatten.length := by
  unfold sizeT grT
  rw [List.map_map, List.length_flatten]
  congr 1
  refine List.map_congr_left fun P _ => ?_
  simp
theorem len_flat {G : List (List Nat)} {P : List Nat} (h : P ∈ G) : P.length ≤ G.flatten.length := by
  rw [List.length_flatten]
  induction G with
  | nil => cases h
  | cons Q G ih =>
    rcases List.mem_cons.1 h with rfl | h
    · simp
    · have := ih h; simp; omega
theorem grpL_in {M : List Rq} {g : Nat → Nat} {n : Nat} (ho : OrdI M n g) {P : List Nat} (hP : P ∈ grpL M g n) : P.length ≤ n ∧ ∀ i ∈ P, i < n := by
  have hf := grpL_flat M g n
  refine ⟨?_, fun i hi => ?_⟩
  · have := len_flat hP
    rw [hf] at this
    simpa using this
  · have hm : i ∈ (grpL M g n).flatten := List.mem_flatten.2 ⟨P, hP, hi⟩
    rw [hf] at hm
    obtain ⟨k, hk, rfl⟩ := List.mem_map.1 hm
    exact ho.lt k (List.mem_range.1 hk)
theorem grT_ok {L : List Int} {M : List Rq} {g : Nat → Nat} {n : Nat} (ho : OrdI M n g) (hn : n ≤ 32) (hs : ∀ j, j < n → smallQ (gq M j) = true) : OkJ (grT L M (grpL M g n)) [] := by
  refine ⟨fun x hx => ?_, fun x hx y hy => ?_, (fun x hx => by cases hx), ?_⟩
  · obtain ⟨P, hP, rfl⟩ := List.mem_map.1 hx
    rw [List.length_map]
    exact List.length_pos_iff.2 (grpL_ne M g n P hP)
  · obtain ⟨P, hP, rfl⟩ := List.mem_map.1 hx
    obtain ⟨i, hi, rfl⟩ := List.mem_map.1 hy
    exact hs i ((grpL_in ho hP).2 i hi)
  · rw [sizeT_grT, grpL_flat]
    simpa using hn
def beginK (T : List Gr) (R : List Ry) (L : List Int) (M : List Rq) : Int := if openB T R = true then 10 else if batchB L M = false then 1 else if 32 < M.length then 2 else 0

/-- One group more. -/
theorem JM.push {C : Nat → Prop} {w w3 wa w5 : World} {N p n c m d : Nat} {A B : Option Addr} {vt vr v5 : Value} {T : List Gr} {R : List Ry} {xs : List Value} {g : Gr} (h : JM C w N p vt vr T R) (hr : ReadsG (fun b => C b ∧ Jo p vt vr b) w xs T) (h3 : Below w.heap.size w w3)
    (hx1 : On (w.heap.size ≤ ·) w3 (Ils · A n (g.map Prod.fst))) (hx2 : On (w.heap.size ≤ ·) w3 (Reqs · B m (g.map Prod.snd))) (ha : Below w3.heap.size w3 wa) (hown : w5.ownsRow N 72 2 v5 (T.length + 1) (xs ++ [.slice A n c, .slice B m d])) (hg : wa.grownBy w5 vt.ownBlock) (hat : vt.ownBlock = v5.ownBlock ∨ v5.ownBlock = some wa.heap.size) (hC : ∀ b, w.heap.size ≤ b → C b) :
    JM C (w5.setCell ⟨p, 0, none⟩ v5) N p v5 vr (T ++ [g]) R ∧ Kp (Jo p vt vr) (Jo p v5 vr) w (w5.setCell ⟨p, 0, none⟩ v5) := by
  have hpl := h.lt
  have h3s := h3.size
  have has := ha.size
  have hR := h.ltr
  have hT := h.ltt
  have hgs := hg.size
  have new : ∀ b, b < wa.heap.size → Off vt b → Off v5 b := fun b hb ho q hq => by
    rcases hat with e | e
    · exact ho q (by rw [e]; exact hq)
    · rw [e] at hq; injection hq with hq; omega
  have hblk : ∀ b, b < w.heap.size → Off vt b → w5.heap[b]? = w.heap[b]? := fun b hb ho => (hg.block b (by omega) (fun e => ho b e.symm rfl)).trans ((ha.block b (by omega)).trans (h3.block b hb))
  have hk : Kp (Jo p vt vr) (Jo p v5 vr) w (w5.setCell ⟨p, 0, none⟩ v5) := by
    refine ⟨hg.os.trans (ha.os.trans h3.os), hg.tape.trans (ha.tape.trans h3.tape), hg.output.trans (ha.output.trans h3.output), by simp [World.setCell]; omega, fun b hb hj => ?_, fun b hb hj => ⟨hj.1, new b (by omega) hj.2.1, hj.2.2⟩⟩
    rw [Below.heap_setCell _ _ _ _ hj.1]
    exact hblk b hb hj.2.1
  have hag : Agree (fun b => b ≠ p ∧ Off vt b) w (w5.setCell ⟨p, 0, none⟩ v5) := ⟨hk.size, fun b hb hl => by rw [Below.heap_setCell _ _ _ _ hb.1]; exact hblk b hl hb.2⟩
  have h5p : ∀ b, v5.ownBlock = some b → b ≠ p := fun b hb e => by
    rcases hat with e2 | e2
    · exact h.pt b (by rw [e2]; exact hb) e.symm
    · rw [e2] at hb; injection hb with hb; omega
  have tr' : ∀ b, vr.ownBlock = some b → Off vt b := fun b hb q hq e => h.tr q hq b hb e.symm
  obtain ⟨ys, h1, h2⟩ := h.ready
  refine ⟨⟨?_, h.np, ⟨xs ++ [.slice A n c, .slice B m d], ?_, ?_⟩,
    ⟨ys, own_agree h1 hag (fun b hb => ⟨fun e => h.pr b hb e.symm, tr' b hb⟩), h2.imp fun Q ho => hk.on ho (fun b hb => hb.2) fun b hb _ hn => ⟨hb.1, hn⟩⟩, new p (by omega) h.pt, h.pr, fun b hb q hq e => ?_⟩, hk⟩
  · have e1 : w5.heap[p]? = some (.cells [vt, vr].toArray 66 (0, 0)) := (hblk p hpl h.pt).trans h.obj
    exact set_obj v5 e1
  · rw [show (T ++ [g]).length = T.length + 1 by simp]
    exact own_agree (C := fun b => b ≠ p) hown (agree_set w5 ⟨p, 0, none⟩ v5 (by simp)) h5p
  · have hag3 : Agree (fun b => w.heap.size ≤ b ∧ b < w3.heap.size) w3 (w5.setCell ⟨p, 0, none⟩ v5) := ⟨by simp [World.setCell]; omega, fun b hb hl => by
      rw [Below.heap_setCell _ _ _ _ (by show b ≠ p; omega)]
      exact (hg.block b (by omega) (fun e => by have := (hT b e.symm).2; omega)).trans (ha.block b hl)⟩
    have key : ∀ {Q : World → Prop}, On (w.heap.size ≤ ·) w3 Q → On (fun b => C b ∧ Jo p v5 vr b) (w5.setCell ⟨p, 0, none⟩ v5) Q := fun hx =>
      ((hx.now).keep hag3).mono fun b hb => ⟨hC b hb.1, by omega, new b (by have := hb.2; omega) (fun q hq e => by have := (hT q hq).2; omega), fun q hq e => by have := (hR q hq).2; omega⟩
    exact ReadsG.more (hr.imp fun Q ho => hk.on ho (fun b hb => hb.2) fun b hb _ hn => ⟨hb.1, hn⟩) (key hx1) (key hx2)
  · have := (hR q hq).2
    rcases hat with e2 | e2
    · exact h.tr b (by rw [e2]; exact hb) q hq e
    · rw [e2] at hb; injection hb with hb; omega
theorem two_of {w : World} {x0 x1 : Value} {T : TypeId} {N : Nat} (h : w.heap.size = N) : ∀ j u, [x0, x1][j]? = some u → (w.alloc (.cells #[x0, x1] T)).cell? ((⟨N, 0, none⟩ : Addr).add j) = some u := by
  subst h
  intro j u hu
  rcases j with _ | _ | j
  all_goals first | (simp at hu; done) | (simp at hu; subst hu; simp [Addr.add])

def BegO (C : Nat → Prop) (w : World) (N p m : Nat) (vt vr : Value) (k : Int) (T : List Gr) (R : List Ry) (L : List Int) (M : List Rq) (e : Ending) (w' : World) : Prop :=
  (k ≠ 0 ∧ JdO C w N p vt vr k T R e w') ∨ (k = 0 ∧ ∃ g, OrdI M m g ∧ JdO C w N p vt vr 0 (grT L M (grpL M g m)) [] e w')

set_option maxHeartbeats 16000000 in
theorem begin_any {C : Nat → Prop} {w : World} {N p n m : Nat} {A B : Option Addr} (c d : Nat) {vt vr : Value} {T : List Gr} {R : List Ry} {L : List Int} {M : List Rq} (h : JM C w N p vt vr T R) (hok : OkJ T R) (hC : ∀ b, w.heap.size ≤ b → C b)
    (hA : On (Jo p vt vr) w (Ils · A n L)) (hB : On (Jo p vt vr) w (Reqs · B m M)) (hs : ∀ j, j < m → smallQ (gq M j) = true) (hm : m ≤ 100) :
    Calls Try.prog 9 #[.pointer (some ⟨p, 0, none⟩), .slice A n c, .slice B m d] w (BegO C w N p m vt vr (beginK T R L M) T R L M) := by
  have H := Lib.hid h
  have HA := Lib.hid hA
  have HB := Lib.hid hB
  have HS := Lib.hid hs
  have HC := Lib.hid hC
  have hml : M.length = m := hB.here.1
  have hnl : L.length = n := hA.here.1
  have HO := Lib.hid (open_any h (by have := hok.len; omega))
  have hKe : beginK T R L M = if openB T R = true then 10 else if batchB L M = false then 1 else if 32 < m then 2 else 0 := by unfold beginK; rw [hml]
  rw [hKe]
  have HT0 := Lib.hid (show openB T R = false → T = [] ∧ R = [] from fun e => by
    have e : ¬ (0 < T.length + R.length) := of_decide_eq_false e
    exact ⟨List.length_eq_zero_iff.1 (by omega), List.length_eq_zero_iff.1 (by omega)⟩)
  clear h hok hC hA hB hs hKe
  generalize hop : openB T R = op at HO HT0 ⊢
  clear hop
  cases op
  · obtain ⟨rfl, rfl⟩ := HT0.out rfl
    rw [if_neg (by decide)]
    have HMM := Lib.hid (And.intro hml hnl)
    have HBT := Lib.hid (fun (w1 : World) (hb : Below w.heap.size w w1) => batch_any c d ((HA.out.keep (below_all hb)).here) ((HB.out.keep (below_all hb)).here) HS.out (by omega))
    have HN := Lib.hid (show batchB L M = true → n = m from fun e => by
      unfold batchB at e
      simp at e
      omega)
    generalize batchB L M = bt at HBT HN ⊢
    clear hml hnl
    cases bt
    · rw [if_pos rfl]
      go_enter Try.func9, Try.ntmps9
      go_wp2_with fail
      refine HO.out.mono ?_
      rintro e w1 ⟨rfl, hb1⟩
      have HB1 := Lib.hid hb1
      have D := Lib.hid (HBT.out w1 hb1)
      clear hb1
      go_wp2_with fail
      refine D.out.mono ?_
      rintro e w2 ⟨rfl, hb2⟩
      have HB2 := Lib.hid (HB1.out.trans (hb2.mono HB1.out.size))
      clear hb2
      go_wp2
      go_ret
      exact .inl ⟨by decide, _, _, rfl, H.out.below HB2.out, below_kp HB2.out⟩
    · rw [if_neg (by decide)]
      obtain rfl := HN.out rfl
      clear HN
      by_cases hbig : 32 < n
      · rw [if_pos hbig]
        have hb32 : decide ((n : Int) > 32) = true := by simp; omega
        go_enter Try.func9, Try.ntmps9
        go_wp2_with fail
        refine HO.out.mono ?_
        rintro e w1 ⟨rfl, hb1⟩
        have HB1 := Lib.hid hb1
        have D := Lib.hid (HBT.out w1 hb1)
        clear hb1
        go_wp2_with fail
        refine D.out.mono ?_
        rintro e w2 ⟨rfl, hb2⟩
        have HB2 := Lib.hid (HB1.out.trans (hb2.mono HB1.out.size))
        clear hb2
        go_wp2
        go_ret
        exact .inl ⟨by decide, _, _, rfl, H.out.below HB2.out, below_kp HB2.out⟩
      · rw [if_neg hbig]
        have hb32 : decide ((n : Int) > 32) = false := by simp; omega
        have hb32' : ¬ ((32 : Int) < (n : Int)) := by omega
        obtain ⟨i0, hi, hz0, hz1, hz2⟩ := info_parts Try.infoGr
        have HI := Lib.hid hi
        have HZ := Lib.hid (And.intro hz0 (And.intro hz1 hz2))
        clear hi hz0 hz1 hz2
        go_enter Try.func9, Try.ntmps9
        go_wp2_with fail
        refine HO.out.mono ?_
        rintro e w1 ⟨rfl, hb1⟩
        have HB1 := Lib.hid hb1
        have D := Lib.hid (HBT.out w1 hb1)
        clear hb1 HO
        go_wp2_with fail
        refine D.out.mono ?_
        rintro e w2 ⟨rfl, hb2⟩
        have HB2 := Lib.hid (HB1.out.trans (hb2.mono HB1.out.size))
        have E := Lib.hid (groups_any d ((HB.out.keep (below_all HB2.out)).here) (by omega))
        clear hb2 D HBT
        go_wp2_with fail
        refine E.out.mono ?_
        rintro e w3 ⟨GB, gc, g, rfl, hor, hgr, hb3⟩
        have HOR := Lib.hid hor
        have HB3 := Lib.hid (HB2.out.trans (hb3.mono HB2.out.size))
        have hw2 : w.heap.size ≤ w2.heap.size := HB2.out.size
        have HGR := Lib.hid (hgr.mono (C' := Jo p vt vr) (fun b hb => by
          have hb' : w2.heap.size ≤ b := hb
          exact ⟨by have := H.out.lt; omega, fun q hq e => by have := (H.out.ltt q hq).2; omega, fun q hq e => by have := (H.out.ltr q hq).2; omega⟩))
        have HM3 := Lib.hid (H.out.below HB3.out)
        have HIN := Lib.hid (show ∀ j, j < (grpL M g n).length → ((grpL M g n).getD j []).length ≤ n ∧ ∀ i, i < ((grpL M g n).getD j []).length → nat ((grpL M g n).getD j []) i < n from fun j hj => by
          have hmem : (grpL M g n).getD j [] ∈ grpL M g n := by
            rw [List.getD_eq_getElem?_getD, List.getElem?_eq_getElem hj]
            exact List.getElem_mem hj
          have := grpL_in hor hmem
          exact ⟨this.1, fun i hi => by rw [nat_eq hi]; exact this.2 _ (List.getElem_mem hi)⟩)
        have HTK := Lib.hid (show ∀ j, j < (grpL M g n).length → (grT L M (grpL M g n)).take (j + 1) = (grT L M (grpL M g n)).take j ++ [((grpL M g n).getD j []).map fun i => (it L i, gq M i)] from fun j hj => by
          have hj2 : j < (grT L M (grpL M g n)).length := by unfold grT; simpa using hj
          have e : (grT L M (grpL M g n))[j] = ((grpL M g n).getD j []).map (fun i => (it L i, gq M i)) := by
            simp only [grT, List.getElem_map]
            rw [List.getD_eq_getElem?_getD, List.getElem?_eq_getElem hj]
            rfl
          rw [List.take_add_one, List.getElem?_eq_getElem hj2, e]
          rfl)
        have HGL := Lib.hid (show (grT L M (grpL M g n)).length = (grpL M g n).length ∧ (grpL M g n).length ≤ n from ⟨by unfold grT; simp, by
          have h1 := grpL_flat M g n
          have h2 := len_size (T := grT L M (grpL M g n)) (fun x hx => by
            obtain ⟨P, hP, rfl⟩ := List.mem_map.1 hx
            rw [List.length_map]
            exact List.length_pos_iff.2 (grpL_ne M g n P hP))
          rw [sizeT_grT, h1] at h2
          unfold grT at h2
          simpa using h2⟩)
        obtain ⟨GT, hGT⟩ : ∃ GT, GT = grT L M (grpL M g n) := ⟨_, rfl⟩
        rw [← hGT] at HTK HGL
        have HGE := Lib.hid hGT
        clear hGT
        generalize grpL M g n = G at HGR HIN HTK HGL ⊢
        have hgl := HGL.out.2
        obtain ⟨gl, hgle⟩ : ∃ gl, gl = G.length := ⟨_, rfl⟩
        rw [← hgle] at HGR HIN HTK HGL hgl ⊢
        clear hor hgr hb3 E hgle
        go_wp2
        go_loopw [24] (fun s wr => ∃ j : Nat, j ≤ gl ∧ s = .int .i64 j ∧ ∃ v, JM C wr N p v vr (GT.take j) [] ∧ Kp (Jo p vt vr) (Jo p v vr) w3 wr) (fun s _ => gl - (intOf s).toNat)
        case atStart => exact ⟨0, Nat.zero_le _, rfl, vt, HM3.out, Kp.refl _ _⟩
        case round =>
          clear HM3
          obtain ⟨j, hj, rfl, v, hmj, hkp⟩ := hrel
          have HM := Lib.hid hmj
          have HK := Lib.hid hkp
          clear hmj hkp
          by_cases hlt : j < gl
          · obtain ⟨hPl, hPi⟩ := HIN.out j hlt
            have HTJ := Lib.hid (HTK.out j hlt)
            have hgr := (HK.out.on HGR.out (fun b hb => hb) (D' := Jo p v vr) (fun b _ _ hn => hn)).here
            obtain ⟨gb, go, PB, pm, pc, rfl, hgb, g0, hP⟩ := hgr.at_ hlt
            have hPm := hP.1
            have ra := (HK.out.on (HA.out.keep (below_all HB3.out)) (fun b hb => hb) (D' := Jo p v vr) (fun b _ _ hn => hn)).here
            have rb := (HK.out.on (HB.out.keep (below_all HB3.out)) (fun b hb => hb) (D' := Jo p v vr) (fun b _ _ hn => hn)).here
            have D := Lib.hid (gathered_any (w := wr.drew) c d pc (show Ils wr.drew A n L from ra) (show Reqs wr.drew B n M from rb) (show Nls wr.drew PB pm pc (G.getD j []) from hP) HS.out (by omega) (fun i hi => ⟨hPi i (by omega), hPi i (by omega)⟩))
            generalize G.getD j [] = P at hPl hPi hP hPm D HTJ
            have hTL : (GT.take j).length = j := by rw [List.length_take, HGL.out.1]; omega
            have HTL := Lib.hid hTL
            obtain ⟨p0, -, f0, -⟩ := HM.out.cells
            have hpl := HM.out.lt
            obtain ⟨xs, hown, hrd⟩ := HM.out.todo
            rw [hTL] at hown
            have HOW := Lib.hid hown
            have HRD := Lib.hid hrd
            have HNB := Lib.hid (show some p ≠ v.ownBlock from fun e => HM.out.pt p e.symm rfl)
            have HK1 := Lib.hid (And.intro p0 f0)
            have HNP := Lib.hid (show N ≤ wr.heap.size by have := HM.out.np; omega)
            have HPL := Lib.hid hPm
            clear hgr ra rb hown hrd hP hPi hPm hTL
            subst pm
            go_upto_region 10 with fail
            go_region_law (first
              | (go_simp
                 go_at_call 27
                 (with_reducible refine D.out.mono ?_)
                 rintro e w4 ⟨A4, c4, B4, d4, rfl, on1, on2, hb4⟩
                 have hb4 : Below wr.heap.size wr w4 := undrew hb4
                 have hl4 := hb4.size
                 have hne4 : ¬ (p = w4.heap.size) := by omega
                 have p0 := (hb4.cell (p := ⟨p, 0, none⟩) hpl).trans HK1.out.1
                 have f0 := (hb4.frozen (p := ⟨p, 0, none⟩) hpl).trans HK1.out.2
                 have oa : ∀ o : Obj, (w4.alloc o).cell? ⟨p, 0, none⟩ = some v := fun o => (World.cell?_alloc_lt w4 o ⟨p, 0, none⟩ (show p < w4.heap.size by omega)).trans p0
                 have HB4 := Lib.hid hb4
                 have HON := Lib.hid (And.intro on1 on2)
                 have HO4 := Lib.hid ((own_keep HOW.out (hb4.mono (Nat.le_refl _))).alloc (.cells #[.slice A4 P.length c4, .slice B4 P.length d4] 72))
                 clear on1 on2 hb4
                 go_wp2_with fail)
              | ((refine step_append_lies _ (by rfl) _ _ 63 (by rfl) N 72 i0 (.agg #[.slice none 0 0, .slice none 0 0]) 2 48 Try.underlying63 HI.out HZ.out.1 HZ.out.2.1 HZ.out.2.2 (by rfl) (by decide) v j xs (by rfl) HO4.out ⟨w4.heap.size, 0, none⟩ 1 1 [.slice A4 P.length c4, .slice B4 P.length d4] (by rfl) (by rfl) (two_of rfl) (by intro u hu; simp at hu; rcases hu with rfl | rfl <;> rfl) (by omega) (by unfold maxLen; omega) (by omega) (by rw [alloc_sz]; have := HNP.out; omega) (w4.heap.size + 1) (by simp) ?_
                  intro p' cap5 w5 hown5 hgrow5 hat5 hlt5
                  have hal := (Below.refl w4.heap.size w4).alloc (Nat.le_refl _) (.cells #[.slice A4 P.length c4, .slice B4 P.length d4] 72)
                  have f0 := ((hgrow5.frozen_far ⟨p, 0, none⟩ (by rw [alloc_sz]; show p < _; omega) HNB.out).trans (hal.frozen (p := ⟨p, 0, none⟩) (show p < w4.heap.size by omega))).trans f0
                  have p0 := ((hgrow5.cell_far ⟨p, 0, none⟩ (by rw [alloc_sz]; show p < _; omega) HNB.out).trans (hal.cell (p := ⟨p, 0, none⟩) (show p < w4.heap.size by omega))).trans p0
                  have HG5 := Lib.hid (And.intro hown5 (And.intro hgrow5 (And.intro hat5 (And.intro hlt5 hal))))
                  clear hown5 hgrow5 hat5 hlt5 hal)))
            all_goals
              have HNX := Lib.hid (HM.out.push (v5 := .slice (some ⟨p', 0, none⟩) (j + 1) cap5) (g := P.map fun i => (it L i, gq M i)) (w3 := w4) (w5 := w5) HRD.out HB4.out (by rw [List.map_map]; exact HON.out.1) (by rw [List.map_map]; exact HON.out.2) HG5.out.2.2.2.2 (by rw [HTL.out]; exact HG5.out.1) HG5.out.2.1 (by
                rcases HG5.out.2.2.1 with e | e
                · exact .inl e
                · right; rw [e, alloc_sz]; rfl) (fun b hb => HC.out b (by have := HK.out.size; have := HB3.out.size; omega)))
              have HKX := Lib.hid (HK.out.trans HNX.out.2)
              clear HG5 HON HB4 HO4 D HK1 HNB HRD HOW HM HK
              go_wp2
              go_roundw
              case rel => exact ⟨j + 1, by omega, by go_num, _, by rw [HTJ.out]; exact HNX.out.1, HKX.out⟩
              case measure => simp [intOf]; omega
          · obtain rfl : j = gl := by omega
            have HE := Lib.hid (show GT.take j = GT from List.take_of_length_le (by rw [HGL.out.1]; exact Nat.le_refl _))
            go_wp2
            go_ret
            refine .inr ⟨rfl, g, HOR.out, _, _, rfl, ?_, (below_kp HB3.out).trans HK.out⟩
            rw [← HGE.out, ← HE.out]
            exact HM.out
  · rw [if_pos rfl]
    go_enter Try.func9, Try.ntmps9
    go_wp2_with fail
    refine HO.out.mono ?_
    rintro e w1 ⟨rfl, hb1⟩
    have HB1 := Lib.hid hb1
    clear hb1
    go_wp2
    go_ret
    exact .inl ⟨by decide, _, _, rfl, H.out.below HB1.out, below_kp HB1.out⟩
end Go.Proofs.Ythcchaglloggjaa
