/- Contracts of package journal's Next and Ready. Condition: at most 32 requests and answers; slices of at most 100 bytes, answers of at most 1000 bytes and rows. -/
import Derived.Test.YthcchaglloggjaaJd
import Derived.Deep.RegionHeld3
namespace Go.Proofs.Ythcchaglloggjaa
open Go.RowKit
set_option linter.unusedVariables false
set_option maxRecDepth 100000

/-- What a journal holds is small. -/
structure OkJ (T : List Gr) (R : List Ry) : Prop where
  ne : ∀ g ∈ T, 0 < g.length
  sm : ∀ g ∈ T, ∀ x ∈ g, smallQ x.2 = true
  an : ∀ x ∈ R, SmA x.2
  few : sizeT T + R.length ≤ 32
theorem sizeT_cons (g : Gr) (T : List Gr) : sizeT (g :: T) = g.length + sizeT T := by unfold sizeT; simp
theorem len_size {T : List Gr} (h : ∀ g ∈ T, 0 < g.length) : T.length ≤ sizeT T := by
  induction T with
  | nil => exact Nat.zero_le _
  | cons g T ih =>
    have h1 := h g (by simp)
    have h2 := ih (fun x hx => h x (by simp [hx]))
    rw [sizeT_cons]
    simp
    omega
theorem OkJ.len {T : List Gr} {R : List Ry} (h : OkJ T R) : T.length + R.length ≤ 32 := by have := len_size h.ne; have := h.few; omega
theorem okj_nil : OkJ [] [] := ⟨(fun g hg => by cases hg), (fun g hg => by cases hg), (fun x hx => by cases hx), (by decide)⟩
theorem gq_snd {g : Gr} {i : Nat} (hi : i < g.length) : gq (g.map Prod.snd) i = (g[i]).2 := by unfold gq; simp [hi]
theorem OkJ.small {g : Gr} {T : List Gr} {R : List Ry} (h : OkJ (g :: T) R) {i : Nat} (hi : i < g.length) : smallQ (gq (g.map Prod.snd) i) = true := by
  rw [gq_snd hi]
  exact h.sm g (by simp) _ (List.getElem_mem hi)
def nextG (T : List Gr) : List Rq := match T with | [] => [] | g :: _ => g.map Prod.snd

/-- A list of requests of one's own, that grows; all in new memory. -/
def GrowsQ (w : World) (N : Nat) (v : Value) (n : Nat) (M : List Rq) : Prop := ∃ xs, w.ownsRow N 60 8 v n xs ∧ ReadsQ (fun b => N ≤ b ∧ Off v b) w xs M
theorem growsQ_nil (w : World) (N : Nat) : GrowsQ w N (.slice none 0 0) 0 [] := ⟨[], World.ownsRow_nil _ _ _ _, ReadsQ.nil _ _⟩
theorem GrowsQ.below {w w' : World} {N n : Nat} {v : Value} {M : List Rq} (h : GrowsQ w N v n M) (hb : Below w.heap.size w w') : GrowsQ w' N v n M := by
  obtain ⟨xs, h1, h2⟩ := h
  exact ⟨xs, own_keep h1 hb, h2.imp fun hh r ho => ho.keep (below_all hb)⟩
theorem GrowsQ.lt {w : World} {N n : Nat} {v : Value} {M : List Rq} (h : GrowsQ w N v n M) : ∀ k, v.ownBlock = some k → N ≤ k ∧ k < w.heap.size := by
  obtain ⟨xs, h1, -⟩ := h
  exact fun k hk => h1.lt k hk
theorem GrowsQ.reqs {w : World} {N n : Nat} {v : Value} {M : List Rq} (h : GrowsQ w N v n M) : ∃ A c, v = .slice A n c ∧ On (N ≤ ·) w (Reqs · A n M) := by
  obtain ⟨xs, h1, h2⟩ := h
  have hlt := h1.lt
  obtain ⟨A, c, e, ho⟩ := own_reqs h1 h2
  exact ⟨A, c, e, ho.mono fun b hb => hb.elim (fun h => h.1) (fun h => (hlt b h).1)⟩
theorem GrowsQ.more {w w' : World} {N n : Nat} {v v' : Value} {M : List Rq} {xs : List Value} {r : Rq} {hh : Qh} (hr : ReadsQ (fun b => N ≤ b ∧ Off v b) w xs M) (hs : On (fun b => N ≤ b ∧ Off v b) w (RqR · hh r))
    (h1 : w'.ownsRow N 60 8 v' (n + 1) (xs ++ rqC hh r)) (hg : w.grownBy w' v.ownBlock) (hat : v'.ownBlock = v.ownBlock ∨ v'.ownBlock = some w.heap.size) : GrowsQ w' N v' (n + 1) (M ++ [r]) := by
  have key : ∀ {Q : World → Prop}, On (fun b => N ≤ b ∧ Off v b) w Q → On (fun b => N ≤ b ∧ Off v' b) w' Q := fun ho =>
    ((ho.now).keep (agree_grown hg fun k hk hc => hc.1.2 k hk rfl)).mono fun b hb => ⟨hb.1.1, fun k hk => by
      rcases hat with e | e
      · exact hb.1.2 k (by rw [← e]; exact hk)
      · rw [e] at hk; injection hk with hk; have := hb.2; omega⟩
  exact ⟨_, h1, (hr.imp fun hh r ho => key ho).more (key hs)⟩

def NextO (w : World) (M : List Rq) (e : Ending) (w' : World) : Prop := ∃ A c, e = .returned (.slice A M.length c) ∧ On (w.heap.size ≤ ·) w' (Reqs · A M.length M) ∧ Below w.heap.size w w'

set_option maxHeartbeats 8000000 in
theorem jnext_any {C : Nat → Prop} {w : World} {N p : Nat} {vt vr : Value} {T : List Gr} {R : List Ry} (h : JM C w N p vt vr T R) (hok : OkJ T R) :
    Calls Try.prog 23 #[.pointer (some ⟨p, 0, none⟩)] w (NextO w (nextG T)) := by
  cases T with
  | nil =>
    obtain ⟨c0, -, -, -⟩ := h.cells
    obtain ⟨A, c, B, d, rfl, -⟩ := h.shape
    clear h hok
    dsimp only [List.length_nil] at c0
    go_enter Try.func23, Try.ntmps23
    go_wp2
    go_ret
    exact ⟨none, 0, rfl, fun w' _ => ⟨rfl, Nat.zero_le _, fun h => absurd h (by decide)⟩, Below.refl _ _⟩
  | cons g T =>
    have HN := Lib.hid hok.few
    have hgl : g.length ≤ 32 := by have := hok.few; rw [sizeT_cons] at this; omega
    have HOK := Lib.hid (fun i (hi : i < g.length) => hok.small hi)
    obtain ⟨c0, -, -, -⟩ := h.cells
    obtain ⟨t, cap, ev, htl, -, A1, n1, c1, B1, m1, d1, k0, k1, r1, r2⟩ := h.group (j := 0) (by simp)
    subst ev
    have r2 : On (fun b => C b ∧ Jo p (.slice (some ⟨t, 0, none⟩) (g :: T).length cap) vr b) w (Reqs · B1 m1 (g.map Prod.snd)) := r2
    have hm1 : m1 = g.length := by have := r2.here.1; simp at this; omega
    subst hm1
    obtain ⟨tl, htl2⟩ : ∃ tl, tl = (g :: T).length := ⟨_, rfl⟩
    rw [← htl2] at c0
    have htl3 : 0 < tl := by rw [htl2]; simp
    have hne : ¬ (tl = 0) := by omega
    have hz : ((tl : Int) == 0) = false := by simp; omega
    have hlt0 : (0 : Int) < (tl : Int) := by omega
    have HR := Lib.hid r2.here
    simp only [Nat.zero_mul, Nat.zero_add] at k0 k1
    obtain ⟨i1, hi1, hy0, hy1, hy2⟩ := info_parts Try.infoReq
    have HI1 := Lib.hid hi1
    have HZ1 := Lib.hid (And.intro hy0 (And.intro hy1 hy2))
    have htake : ∀ j, j < g.length → (g.map Prod.snd).take (j + 1) = (g.map Prod.snd).take j ++ [gq (g.map Prod.snd) j] := fun j hj => by
      rw [List.take_add_one, List.getElem?_eq_getElem (by simpa using hj)]
      unfold gq
      simp [hj]
    have HTK := Lib.hid htake
    have HML := Lib.hid (show (g.map Prod.snd).length = g.length by simp)
    rw [show nextG (g :: T) = g.map Prod.snd from rfl]
    obtain ⟨M, hM⟩ : ∃ M, M = g.map Prod.snd := ⟨_, rfl⟩
    rw [← hM] at HR HOK HTK HML ⊢
    obtain ⟨m, hm⟩ : ∃ m, m = g.length := ⟨_, rfl⟩
    rw [← hm] at HR HOK HTK HML hgl k1
    clear h hok r1 r2 htake hi1 hy0 hy1 hy2 htl2 hM hm
    go_enter Try.func23, Try.ntmps23
    go_wp2
    clear c0 k0 k1
    go_loopw [3, 20] (fun v s wr => ∃ j : Nat, j ≤ m ∧ s = .int .i64 j ∧ GrowsQ wr w.heap.size v j (M.take j) ∧ Below w.heap.size w wr) (fun _ s _ => m - (intOf s).toNat)
    case atStart => exact ⟨0, Nat.zero_le _, rfl, growsQ_nil _ _, Below.refl _ _⟩
    case round =>
      obtain ⟨j, hj, rfl, hg, hb⟩ := hrel
      have HG := Lib.hid hg
      have HB := Lib.hid hb
      clear hg hb
      by_cases hlt : j < m
      · obtain ⟨rb, ro, rfl, hbl, h1, x0, x1, x2, x3, x4, x5, x6, x7, hr⟩ := (HR.out.below HB.out).at_ hlt
        have HSQ := Lib.hid (HOK.out j hlt)
        have HTJ := Lib.hid (HTK.out j hlt)
        obtain ⟨r, hrr⟩ : ∃ r, r = gq M j := ⟨_, rfl⟩
        rw [← hrr] at x0 x1 x2 x7 hr HSQ HTJ
        have HWX := Lib.hid (box_q wr h1 r)
        have HRR := Lib.hid hr
        clear hrr hr
        go_upto_region 7 with fail
        obtain ⟨W, hW, hWB, hWQ, hWs⟩ := HWX.out
        rw [← hW]
        obtain ⟨q0, q1, q2, q3, q4, q5, q6, q7⟩ := hWQ.cells
        have HWB := Lib.hid hWB
        have D := Lib.hid (copyq_lit (HRR.out.below hWB) HSQ.out)
        clear hW hWB hWQ hWs HWX x0 x1 x2 x3 x4 x5 x6 x7
        go_wp2_with fail
        refine D.out.mono ?_
        rintro e w3 ⟨h3, rfl, on3, hb3⟩
        have HON := Lib.hid on3
        have HB3 := Lib.hid (HWB.out.trans (hb3.mono HWB.out.size))
        have hW3 := hb3.size
        have hwW := HWB.out.size
        have hww := HB.out.size
        obtain ⟨xs, hown, hrd⟩ := HG.out.below HB3.out
        have O5 := Lib.hid (hown.alloc (.cells #[.int .i64 r.cl, .int .i64 r.sq, .int .i64 r.kind, .slice h3.A h3.n h3.c, .slice h3.B h3.m h3.d, .slice h3.C h3.o h3.p, .slice h3.D h3.q h3.s, .int .i64 r.limit] 60))
        have R5 := Lib.hid hrd
        have HLT := Lib.hid HG.out.lt
        have hal := Lib.hid ((Below.refl w3.heap.size w3).alloc (Nat.le_refl _) (.cells #[.int .i64 r.cl, .int .i64 r.sq, .int .i64 r.kind, .slice h3.A h3.n h3.c, .slice h3.B h3.m h3.d, .slice h3.C h3.o h3.p, .slice h3.D h3.q h3.s, .int .i64 r.limit] 60))
        clear on3 hb3 hown hrd D q0 q1 q2 q3 q4 q5 q6 q7
        go_wp2_with (at_builtin; refine wpList_append_own_at _ rfl _ _ 31 rfl w.heap.size 60 i1 (.agg #[.int .i64 0, .int .i64 0, .int .i64 0, .slice none 0 0, .slice none 0 0, .slice none 0 0, .slice none 0 0, .int .i64 0]) 8 128 Try.underlying31 HI1.out HZ1.out.1 HZ1.out.2.1 HZ1.out.2.2 rfl (by decide) u3 j xs rfl O5.out ⟨w3.heap.size, 0, none⟩ 1 1 (rqC h3 r) rfl rfl (eight_cells rfl) (rqC_one h3 r) ?c3 ?c4 ?c5 ?_)
        case c3 => unfold maxLen; omega
        case c4 => omega
        case c5 => rw [alloc_sz]; omega
        intro v' w6 hown6 hg6 hnil hat
        rw [← alloc_sz w3 (.cells #[.int .i64 r.cl, .int .i64 r.sq, .int .i64 r.kind, .slice h3.A h3.n h3.c, .slice h3.B h3.m h3.d, .slice h3.C h3.o h3.p, .slice h3.D h3.q h3.s, .int .i64 r.limit] 60)] at hat
        have hoff : ∀ b, W.heap.size ≤ b → w.heap.size ≤ b ∧ Off u3 b := fun b hb => ⟨by omega, fun k hk => by have := (HLT.out k hk).2; omega⟩
        have HNX := Lib.hid (GrowsQ.more (r := r) (R5.out.imp fun hh s ho => ho.keep (below_all hal.out)) ((HON.out.mono hoff).keep (below_all hal.out)) hown6 hg6 hat)
        have HBN := Lib.hid (((HB.out.trans (HB3.out.mono HB.out.size)).trans (hal.out.mono (by omega))).grown hg6 (by rw [alloc_sz]; omega) (fun k hk => (HLT.out k hk).1))
        rw [← HTJ.out] at HNX
        clear hown6 hg6 hnil hat hoff O5 R5 hal HB3 HON HLT hW3 hwW hww
        go_wp2
        go_roundw
        case rel => exact ⟨j + 1, by omega, by go_num, HNX.out, HBN.out⟩
        case measure => simp [intOf]; omega
      · obtain rfl : j = m := by omega
        obtain ⟨A9, c9, rfl, hr9⟩ := HG.out.reqs
        rw [List.take_of_length_le (by rw [HML.out]; exact Nat.le_refl _)] at hr9
        have HR9 := Lib.hid hr9
        have HE := Lib.hid HML.out
        clear hr9 HG
        go_wp2
        go_ret
        refine ⟨A9, c9, congrArg (fun k => Ending.returned (Value.slice A9 k c9)) HE.out.symm, ?_, HB.out⟩
        rw [HE.out]
        exact HR9.out

/-- What is to be answered next. -/
def rdyS (R : List Ry) : Int := match R with | [] => 0 | x :: _ => x.1
def rdyA (R : List Ry) : An := match R with | [] => an0 | x :: _ => x.2
def rdyB (R : List Ry) : Bool := match R with | [] => false | _ :: _ => true
theorem copya_lit {w : World} {h : Sh} {a : An} (hr : AnR w h a) (hs : SmA a) :
    Calls Try.prog 30 #[.agg #[.int .i64 a.code, .bool a.found, .slice h.A h.n h.c, .slice h.B h.m h.d, .int .u64 a.stamp]] w fun e w' => ∃ h' : Sh, e = .returned (.agg #[.int .i64 a.code, .bool a.found, .slice h'.A h'.n h'.c, .slice h'.B h'.m h'.d, .int .u64 a.stamp]) ∧ On (w.heap.size ≤ ·) w' (AnR · h' a) ∧ Below w.heap.size w w' := copya_any hr hs
def RdyO (w : World) (R : List Ry) (e : Ending) (w' : World) : Prop :=
  ∃ k : Sh, e = .returned (.tuple #[.int .i64 (rdyS R), .agg #[.int .i64 (rdyA R).code, .bool (rdyA R).found, .slice k.A k.n k.c, .slice k.B k.m k.d, .int .u64 (rdyA R).stamp], .bool (rdyB R)]) ∧ On (w.heap.size ≤ ·) w' (AnR · k (rdyA R)) ∧ Below w.heap.size w w'

set_option maxHeartbeats 8000000 in
theorem jready_any {C : Nat → Prop} {w : World} {N p : Nat} {vt vr : Value} {T : List Gr} {R : List Ry} (h : JM C w N p vt vr T R) (hok : OkJ T R) :
    Calls Try.prog 18 #[.pointer (some ⟨p, 0, none⟩)] w (RdyO w R) := by
  obtain ⟨V, hV, hVB, hVA, hVs⟩ := box_a w sh0 an0
  have hpl := h.lt
  cases R with
  | nil =>
    obtain ⟨-, c1, -, -⟩ := h.cells
    obtain ⟨A, c, B, d, -, rfl⟩ := h.shape
    dsimp only [List.length_nil] at c1
    have c1 := (hVB.cell (p := ⟨p, 1, none⟩) hpl).trans c1
    have hVe := Lib.hid hV
    obtain ⟨b0, b1, b2, b3, b4⟩ := hVA.cells
    have fz := hVA.frz
    have HB := Lib.hid hVB
    dsimp only [sh0, an0] at b0 b1 b2 b3 b4 hVe
    clear h hok hV hVB hVA hVs
    go_enter Try.func18, Try.ntmps18
    go_upto_region 1 with fail
    rw [← hVe.out]
    go_wp2
    refine bodyPost_ret (v := .tuple #[.int .i64 0, .agg #[.int .i64 0, .bool false, .slice none 0 0, .slice none 0 0, .int .u64 0], .bool false]) (by simp [results, Try.results18, go_sem, b0, b1, b2, b3, b4]) rfl ?_
    refine ⟨sh0, rfl, an0_on _ _, ?_⟩
    exact stores_below (b := w.heap.size) (Nat.le_refl _) [.int .i64 0, .bool false, .slice none 0 0, .slice none 0 0, .int .u64 0] w V 0 HB.out
  | cons x R =>
    obtain ⟨-, cw1, -, -⟩ := h.cells
    obtain ⟨t, cap, ev, htl, htp, k, hk, r1⟩ := h.answer (j := 0) (by simp)
    subst ev
    have hk0 : ∀ i, i < 6 → V.cell? ⟨t, i, none⟩ = (ryC k x)[i]? := fun i hi => by
      have := hk i hi
      rw [Nat.zero_mul, Nat.zero_add] at this
      exact (hVB.cell (p := ⟨t, i, none⟩) htl).trans this
    have c1 := (hVB.cell (p := ⟨p, 1, none⟩) hpl).trans cw1
    clear cw1
    have hsm : SmA x.2 := hok.an x (by simp)
    have rr : AnR w k x.2 := r1.here
    clear r1
    obtain ⟨rl, hrl⟩ : ∃ rl, rl = (x :: R).length := ⟨_, rfl⟩
    rw [← hrl] at c1
    have hrl0 : 0 < rl := by rw [hrl]; simp
    have hne : ¬ (rl = 0) := by omega
    have hz : ((rl : Int) == 0) = false := by simp; omega
    have hlt0 : (0 : Int) < (rl : Int) := by omega
    have k0 : V.cell? ⟨t, 0, none⟩ = some (.int .i64 x.1) := hk0 0 (by omega)
    have k1 : V.cell? ⟨t, 1, none⟩ = some (.int .i64 x.2.code) := hk0 1 (by omega)
    have k2 : V.cell? ⟨t, 2, none⟩ = some (.bool x.2.found) := hk0 2 (by omega)
    have k3 : V.cell? ⟨t, 3, none⟩ = some (.slice k.A k.n k.c) := hk0 3 (by omega)
    have k4 : V.cell? ⟨t, 4, none⟩ = some (.slice k.B k.m k.d) := hk0 4 (by omega)
    have k5 : V.cell? ⟨t, 5, none⟩ = some (.int .u64 x.2.stamp) := hk0 5 (by omega)
    have D := Lib.hid (copya_lit (w := V.drew) (show AnR V.drew k x.2 from rr.below hVB.drew) hsm)
    obtain ⟨b0, b1, b2, b3, b4⟩ := hVA.cells
    have fz := hVA.frz
    have HVA := Lib.hid hVA
    have HB := Lib.hid hVB
    have hVe := Lib.hid hV
    have hVs := hVs
    dsimp only [sh0, an0] at b0 b1 b2 b3 b4 hVe
    have hn1 : ¬ (w.heap.size = p) := by omega
    have hn2 : ¬ (w.heap.size = t) := by omega
    have hpV : p < V.heap.size := by omega
    have htV : t < V.heap.size := by omega
    have hwV : w.heap.size < V.heap.size := by omega
    unfold RdyO
    rw [show rdyS (x :: R) = x.1 from rfl, show rdyA (x :: R) = x.2 from rfl, show rdyB (x :: R) = true from rfl]
    obtain ⟨s, a⟩ := x
    dsimp only at *
    have HK := Lib.hid (And.intro c1 (And.intro k0 (And.intro k1 (And.intro k2 (And.intro k3 (And.intro k4 k5))))))
    clear h hok hV hVB hVA hrl hk hk0 rr hsm
    go_enter Try.func18, Try.ntmps18
    go_upto_region 1 with fail
    rw [← hVe.out]
    go_upto_region 3 with fail
    go_region_held3 (fun w' => w'.cell? ⟨p, 1, none⟩ = some (.slice (some ⟨t, 0, none⟩) rl cap) ∧ w'.cell? ⟨t, 0, none⟩ = some (.int .i64 s) ∧ w'.cell? ⟨t, 1, none⟩ = some (.int .i64 a.code) ∧ w'.cell? ⟨t, 2, none⟩ = some (.bool a.found) ∧ w'.cell? ⟨t, 3, none⟩ = some (.slice k.A k.n k.c) ∧ w'.cell? ⟨t, 4, none⟩ = some (.slice k.B k.m k.d) ∧ w'.cell? ⟨t, 5, none⟩ = some (.int .u64 a.stamp)) (go_keep)
      (first
        | (go_at_call 30
           (with_reducible refine D.out.mono ?_)
           rintro e w3 ⟨h3, rfl, on3, hb3⟩
           have hb3 : Below V.heap.size V w3 := undrew hb3
           have c1 := (hb3.cell (p := ⟨p, 1, none⟩) hpV).trans HK.out.1
           have k0 := (hb3.cell (p := ⟨t, 0, none⟩) htV).trans HK.out.2.1
           have k1 := (hb3.cell (p := ⟨t, 1, none⟩) htV).trans HK.out.2.2.1
           have k2 := (hb3.cell (p := ⟨t, 2, none⟩) htV).trans HK.out.2.2.2.1
           have k3 := (hb3.cell (p := ⟨t, 3, none⟩) htV).trans HK.out.2.2.2.2.1
           have k4 := (hb3.cell (p := ⟨t, 4, none⟩) htV).trans HK.out.2.2.2.2.2.1
           have k5 := (hb3.cell (p := ⟨t, 5, none⟩) htV).trans HK.out.2.2.2.2.2.2
           have HV3 := Lib.hid (HVA.out.below hb3 hwV)
           have HB3 := Lib.hid (HB.out.trans (hb3.mono HB.out.size))
           obtain ⟨b0, b1, b2, b3, b4⟩ := HV3.out.cells
           dsimp only [sh0, an0] at b0 b1 b2 b3 b4
           have fz := HV3.out.frz
           have HON := Lib.hid on3
           clear on3 hb3))
    all_goals
      go_wp2
      refine bodyPost_ret (v := .tuple #[.int .i64 s, .agg #[.int .i64 a.code, .bool a.found, .slice h3.A h3.n h3.c, .slice h3.B h3.m h3.d, .int .u64 a.stamp], .bool true]) (by simp [results, Try.results18, go_sem, b0, b1, b2, b3, b4]) rfl ?_
      have h1 := (chg_stores w.heap.size [.int .i64 a.code, .bool a.found, .slice h3.A h3.n h3.c, .slice h3.B h3.m h3.d, .int .u64 a.stamp] w3 0).agree (C := (V.heap.size ≤ ·)) (by omega)
      refine ⟨h3, rfl, ((HON.out.mono (C' := (V.heap.size ≤ ·)) (fun b hb => hb)).keep h1).mono (fun b hb => by have hb' : V.heap.size ≤ b := hb; omega), ?_⟩
      exact stores_below (b := w.heap.size) (Nat.le_refl _) [.int .i64 a.code, .bool a.found, .slice h3.A h3.n h3.c, .slice h3.B h3.m h3.d, .int .u64 a.stamp] w w3 0 HB3.out
end Go.Proofs.Ythcchaglloggjaa
