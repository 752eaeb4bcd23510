/- The contract of package bulk's fill: a tree of no pairs comes to be one of any. Condition: one pair at least, at most 1000; they are a row. The contract of package bulk's fill: the walk. Condition: one pair at least, at most 1000; they are a row. The contracts of package bulk's Load. No condition. The contracts of package bulk's may and Cut. Condition: a sound tree; what came in can be read. The contracts of package bulk's ahead and Join. Condition: sound trees. The contracts of package bulk's Join. Condition: sound trees. The contracts of the law's own has and up. Condition: a sound tree. -/
import Derived.Test.YtdkppgmhhijkgaaG13
import Derived.Lib.SlBytesConst
import Derived.Lib.SmallJoins
namespace Go.Proofs.Ytdkppgmhhijkgaa
open Go.RowKit
set_option linter.unusedVariables false
set_option maxRecDepth 100000

theorem is_fit {L : List Pr} (h : isB L = true) : Fit L := by
  have hk : ∀ i, i < L.length → okAt L i = true := fun i hi => List.all_eq_true.1 h i (List.mem_range.2 hi)
  have hadj : ∀ j, j + 1 < L.length → ltB (gt L j).1 (gt L (j + 1)).1 = true := fun j hj => by
    have := hk (j + 1) hj
    unfold okAt at this
    simp at this
    exact this.2
  have hall : ∀ i j, i < j → j < L.length → ltB (gt L i).1 (gt L j).1 = true := fun i j => by
    induction j with
    | zero => intro h1; omega
    | succ j ih =>
      intro h1 h2
      by_cases e : i = j
      · subst e; exact hadj i h2
      · exact ltB_trans (ih (by omega) (by omega)) (hadj j h2)
  refine ⟨List.pairwise_iff_getElem.2 fun i j hi hj hij => ?_, fun p hp => ?_⟩
  · have := hall i j hij hj
    rwa [gt_eq hi, gt_eq hj] at this
  · obtain ⟨i, hi, rfl⟩ := List.getElem_of_mem hp
    have := hk i hi
    unfold okAt at this
    simp at this
    rw [gt_eq hi] at this
    exact this.1

/-- New: the tree itself. -/
theorem new_tr (w : World) (m : Nat) (h3 : 3 ≤ m) (h16 : m ≤ 16) :
    Calls Try.prog 23 #[.int .i64 m] w fun e w' => ∃ tb D g, e = .returned (.tuple #[.pointer (some ⟨tb, 0, none⟩), .nilIface]) ∧ TrM w' D tb g [some ⟨true, [], [], [], -1⟩] [] 0 m 0 ∧ w.heap.size ≤ tb ∧ (∀ b, D b → w.heap.size ≤ b) ∧ Below w.heap.size w w' := by
  have HN := new_any w
  have h3' : ¬ ((m : Int) < 3) := by omega
  have h16' : ¬ (16 < (m : Int)) := by omega
  go_enter Try.func23, Try.ntmps23
  go_wp2_with fail
  refine HN.mono ?_
  rintro e w1 ⟨rfl, ha, hs, hb⟩
  have HA := Lib.hid (And.intro ha (And.intro hs hb))
  have HM := make_new ha (by simp) (hh := ⟨none, 0, 0, none, 0, 0, none, 0, 0⟩) (x := ⟨true, [], [], [], -1⟩) ⟨prs_nil _, kys_nil _, ins_nil _⟩ ⟨by simp, (fun p hp => by cases hp), by simp, by simp, by simp⟩
  clear HN ha hs hb
  go_wp2_with fail
  refine HM.mono ?_
  rintro e w2 ⟨rfl, D, a1, a2, a3⟩
  have HD := Lib.hid (And.intro a1 (And.intro a2 a3))
  clear HM a1 a2 a3
  go_wp2
  go_ret2
  have hDlt := HD.out.1.lt
  have hDn : ∀ b, D b → w.heap.size ≤ b := fun b hb => by
    have := HA.out.2.1
    rcases HD.out.2.1 b hb with h | h <;> omega
  have hb2 : Below w.heap.size w w2 := HA.out.2.2.trans (HD.out.2.2.below (fun b hb => by show w.heap.size ≤ b; rw [hb]; exact Nat.le_refl _) (by have := HA.out.2.1; omega))
  exact ⟨w2.heap.size, D, w.heap.size, rfl, ⟨heap_alloc_new w2 _, HD.out.1.keep (agree_alloc _ _), fun hd => by have := hDlt _ hd; omega⟩, hb2.size, hDn, hb2.alloc hb2.size _⟩

/-- Where the loop over the levels has come to. -/
def FillI (w : World) (B tb g m : Nat) (l : List Pr) (v : Value) (wr : World) : Prop :=
  ∃ b o n c d, ∃ lv : List (Br d), ∃ L D, v = .slice (some ⟨b, o, none⟩) n c ∧ TrM wr D tb g L [] 0 m 0 ∧ Lv L m d lv l ∧ (∀ b, D b → B ≤ b) ∧ On (fun b => ¬ D b) wr (LvR · (some ⟨b, o, none⟩) n c lv) ∧ Below B w wr ∧ lv.length = n ∧ n ≤ 1000 ∧ 1 ≤ n ∧ ∀ x ∈ lv, x.1.length ≤ 1000
def sliceLen : Value → Nat
  | .slice _ n _ => n
  | _ => 0

theorem lvLf_keys : ∀ {Ps : List (List Pr)}, (∀ P ∈ Ps, 1 ≤ P.length ∧ ∀ p ∈ P, p.1.length ≤ 1000) → ∀ x ∈ lvLf Ps, x.1.length ≤ 1000
  | [], _, x, hx => by cases hx
  | P :: Ps, h, x, hx => by
    rcases List.mem_cons.1 hx with rfl | hx
    · obtain ⟨h1, h2⟩ := h P (by simp)
      exact h2 _ (gt_mem (by omega))
    · exact lvLf_keys (fun P hP => h P (List.mem_cons_of_mem _ hP)) x hx
theorem lvUp_keys {d : Nat} : ∀ {s : Nat} {Ps : List (List (Br d))}, (∀ P ∈ Ps, ∀ p ∈ P, p.1.length ≤ 1000) → ∀ x ∈ lvUp s Ps, x.1.length ≤ 1000
  | s, [], _, x, hx => by cases hx
  | s, P :: Ps, h, x, hx => by
    rcases List.mem_cons.1 hx with rfl | hx
    · show (keyB P).length ≤ 1000
      cases hP : P with
      | nil => simp [keyB]
      | cons a r => exact h P (by simp) a (by simp [hP])
    · exact lvUp_keys (fun P hP => h P (List.mem_cons_of_mem _ hP)) x hx
theorem evn_mem {α : Type} {l : List α} {m : Nat} (hn : 0 < l.length) (hm : 0 < m) : ∀ P ∈ evn l m, ∀ x ∈ P, x ∈ l := fun P hP x hx => by
  have : x ∈ (evn l m).flatten := List.mem_flatten.2 ⟨P, hP, hx⟩
  rwa [evn_flat hn hm] at this

/-- Behind the leaves. -/
theorem fill_start {w w0 w1 : World} {D0 : Nat → Prop} {B tb g m : Nat} {l : List Pr} {e : Ending} (hD0 : ∀ b, D0 b → B ≤ b) (hB : B ≤ w0.heap.size) (hb : Below B w w0) (h3 : 3 ≤ m) (hl : 0 < l.length) (hl2 : l.length ≤ 1000) (hf : Fit l) (h : LeavesO w0 D0 (fun b => b < B) tb g 0 m 0 l e w1) :
    ∃ v, e = .returned v ∧ FillI w B tb g m l v w1 := by
  obtain ⟨gl, D', rfl, t1, t2, t3, t4⟩ := h
  have hD' : ∀ b, D' b → B ≤ b := fun b hb => (t2 b hb).elim (hD0 b) (fun h => by omega)
  have hlv := lv_leaves (m := m) h3 hl hf
  have hp := pcs_pos (n := l.length) (m := m) hl (by omega)
  have hel := evn_len l m
  have hlen : (lvLf (evn l m)).length = (evn l m).length := lvLf_len _
  have hr := hlv.room
  have hle : (lvLf (evn l m)).length ≤ (lfA (evn l m).reverse).length := by
    rw [hlen]
    unfold lfA
    split
    · simp_all
    · simp
  refine ⟨_, rfl, gl, 0, _, _, 0, lvLf (evn l m), lfA (evn l m).reverse, D', rfl, t1, hlv, hD', t4.mono fun b hb hd => ?_, hb.trans (t3.below (B := B) (fun b hb => hD0 b hb) hB), hlen, by omega, by omega, lvLf_keys fun P hP => ?_⟩
  · rcases hb with h | h
    · have := hD' b hd; omega
    · exact h.2 hd
  · obtain ⟨h1, -⟩ := evn_size (l := l) (most := m) hl (by omega) P hP
    refine ⟨h1, fun p hp => ?_⟩
    have := hf.2 p (evn_mem hl (by omega) P hP p hp)
    unfold fairB mayB at this
    simp at this
    omega
/-- Behind a level above. -/
theorem fill_step {w wr w1 : World} {D : Nat → Prop} {B tb g m d : Nat} {l : List Pr} {lv : List (Br d)} {L : List (Option Nd)} {e : Ending} (hD : ∀ b, D b → B ≤ b) (hB : B ≤ wr.heap.size) (hb : Below B w wr) (h3 : 3 ≤ m) (hlv : Lv L m d lv l) (h2 : 2 ≤ lv.length) (hn : lv.length ≤ 1000) (hk : ∀ x ∈ lv, x.1.length ≤ 1000)
    (h : AboveO wr D (fun b => ¬ D b ∧ b < wr.heap.size) tb g 0 m 0 L lv e w1) : ∃ v, e = .returned v ∧ FillI w B tb g m l v w1 ∧ sliceLen v < lv.length := by
  obtain ⟨A', c', D', rfl, t1, t2, t3, t4⟩ := h
  obtain ⟨e1, e2, e3⟩ := evn_two (l := lv) h3 h2
  have hup := hlv.up h3 h2
  have hlen : (lvUp L.length (evn lv (m + 1))).length = (evn lv (m + 1)).length := lvUp_len _ _
  have hpos : 1 ≤ (evn lv (m + 1)).length := List.length_pos_iff.2 e1
  obtain ⟨-, -, -, b, o, rfl, -, -⟩ := t4.here
  refine ⟨_, rfl, ⟨b, o, _, _, d + 1, _, _, D', rfl, t1, hup, fun b hb => (t2 b hb).elim (hD b) (fun h => by omega), t4.mono fun b hb hd => ?_, hb.trans (t3.below (B := B) hD hB), hlen, by omega, hpos, lvUp_keys fun P hP p hp => hk p (evn_mem (by omega) (by omega) P hP p hp)⟩, ?_⟩
  · rcases hb with h | h
    · rcases t2 b hd with h4 | h4
      · exact h.1 h4
      · omega
    · exact h.2 hd
  · show (evn lv (m + 1)).length < lv.length
    omega
end Go.Proofs.Ytdkppgmhhijkgaa

namespace Go.Proofs.Ytdkppgmhhijkgaa
open Go.RowKit
set_option linter.unusedVariables false
set_option maxRecDepth 100000

/-- Free of a new tree's leaf. -/
theorem free_first {w : World} {D : Nat → Prop} {g : Nat} (h : Ar w D g [some ⟨true, [], [], [], -1⟩] []) :
    Calls Try.prog 48 #[.pointer (some ⟨g, 0, none⟩), .int .i64 0] w fun e w' => e = .returned (errV 0) ∧ Turn w D g (lfA []) (lfF []) w' :=
  (free_any h 0 (by omega) (by simp)).mono fun e w' ⟨h1, h2⟩ => by
    have hu : usedB [some ⟨true, [], [], [], -1⟩] 0 = true := rfl
    rw [hu] at h1 h2
    exact ⟨h1, h2⟩

def FillO (w : World) (B tb m : Nat) (l : List Pr) (e : Ending) (w' : World) : Prop := (∃ v, e = .returned v) ∧ (∃ D', TreD B D' w' tb m l) ∧ Below B w w'

set_option maxHeartbeats 4000000 in
theorem fill_any {w : World} {D : Nat → Prop} {B tb g m b o n c : Nat} {l : List Pr} (hT : TrM w D tb g [some ⟨true, [], [], [], -1⟩] [] 0 m 0) (hD : ∀ b, D b → B ≤ b) (htb : B ≤ tb) (hB : B ≤ w.heap.size)
    (hl : On (fun b => b < B) w (Prs · (some ⟨b, o, none⟩) n c l)) (hn : 0 < n) (hn2 : n ≤ 1000) (hs : Small l) (hf : Fit l) (h3 : 3 ≤ m) (h16 : m ≤ 16) :
    Calls Try.prog 25 #[.pointer (some ⟨tb, 0, none⟩), .slice (some ⟨b, o, none⟩) n c] w (FillO w B tb m l) := by
  have hlen : l.length = n := hl.here.len
  have HF := Lib.hid (free_first (w := w.drew) (D := D) (g := g) (hT.2.1.keep (below_all (Below.refl w.heap.size w).drew)))
  obtain ⟨c0, c1, -, -, -, -⟩ := hT.cells
  have c1' : w.cell? ⟨tb, 1, none⟩ = some (.int .i64 0) := c1
  have HT := Lib.hid hT
  have HL := Lib.hid hl
  have HX := Lib.hid (And.intro hs hf)
  clear c1 hT hl hs hf
  go_enter Try.func25, Try.ntmps25
  go_wp2
  go_region_held3 (fun w' => w'.cell? ⟨tb, 0, none⟩ = some (.pointer (some ⟨g, 0, none⟩)) ∧ w'.cell? ⟨tb, 1, none⟩ = some (.int .i64 0)) (go_keep)
    ((go_at_call 48
      (with_reducible refine HF.out.mono ?_)
      rintro e w1 ⟨rfl, hm⟩
      have c0 := (turn_cell hm ⟨tb, 0, none⟩ HT.out.lt.1 HT.out.2.2).1.trans c0
      have c1' := (turn_cell hm ⟨tb, 1, none⟩ HT.out.lt.1 HT.out.2.2).1.trans c1'
      have HM := Lib.hid hm
      clear hm))
  have HT1 := Lib.hid (show ∃ D1, TrM w1 D1 tb g (lfA []) (lfF []) 0 m 0 ∧ (∀ b, D1 b → B ≤ b) ∧ Below B w w1 from by
    obtain ⟨D1, m1, m2, m3⟩ := HM.out
    refine ⟨D1, ⟨?_, m1, fun hd => ?_⟩, fun b hb => (m2 b hb).elim (hD b) (fun h => Nat.le_trans hB h), undrew (m3.below hD hB)⟩
    · rw [m3.block tb HT.out.lt.1 HT.out.2.2]
      exact HT.out.1
    · rcases m2 tb hd with h | h
      · exact HT.out.2.2 h
      · have := HT.out.lt.1
        have h' : w.heap.size ≤ tb := h
        omega)
  clear HM HF c0 c1'
  obtain ⟨D1, t1, t2, t3⟩ := HT1.out
  have HLV := Lib.hid (leaves_any (E := fun b => b < B) t1 (HL.out.keep (below_agree t3 fun b hb _ => hb)) (fun b hb hd => by have := t2 b hd; omega) hn hn2 HX.out.1 h3 h16)
  have HB1 := Lib.hid (And.intro t2 (And.intro t3 (show B ≤ w1.heap.size by have := t3.size; omega)))
  clear t1 t2 t3
  go_wp2_with fail
  refine HLV.out.mono ?_
  rintro e w2 hlo
  obtain ⟨v, rfl, hfi⟩ := fill_start HB1.out.1 HB1.out.2.2 HB1.out.2.1 h3 (by omega) (by omega) HX.out.2 hlo
  have HFI := Lib.hid hfi
  clear hlo hfi HLV
  go_wp2
  go_loopw [4] (fun v wr => FillI w B tb g m l v wr) (fun v _ => sliceLen v)
  case atStart => exact HFI.out
  case round =>
    obtain ⟨b', o', n', c', d, lv, L, D2, rfl, t1, hlv, t2, t3, t4, q1, q2, q3, q4⟩ := hrel
    have HR := Lib.hid (And.intro t1 (And.intro hlv (And.intro t2 (And.intro t3 (And.intro t4 (And.intro q1 (And.intro q2 q4)))))))
    have hwB : B ≤ wr.heap.size := by have := t4.size; omega
    by_cases h1 : 1 < n'
    · have HA := Lib.hid (above_any (E := fun b => ¬ D2 b ∧ b < wr.heap.size) t1 t3.now (fun b hb => hb.1) (by omega) q2 (by have := hlv.room; omega) q4 h3 h16)
      clear t1 hlv t2 t3 t4 q4
      go_wp2_with fail
      refine HA.out.mono ?_
      rintro e w3 hao
      obtain ⟨v3, rfl, hf3, hs3⟩ := fill_step HR.out.2.2.1 hwB HR.out.2.2.2.2.1 h3 HR.out.2.1 (by omega) (by omega) HR.out.2.2.2.2.2.2.2 hao
      have HF3 := Lib.hid hf3
      have HS3 := Lib.hid hs3
      clear hao hf3 hs3 HA
      go_wp2
      exact ⟨HF3.out, by show sliceLen v3 < n'; have := HS3.out; omega⟩
    · obtain rfl : n' = 1 := by omega
      obtain ⟨x, hx⟩ : ∃ x, lv = [x] := by
        rcases lv with _ | ⟨x, _ | ⟨y, r⟩⟩
        · simp at q1
        · exact ⟨x, rfl⟩
        · simp at q1
      subst hx
      obtain ⟨b2, o2, K, kn, kc, e, -, -, k0, -, -⟩ := lv_at t3 (j := 0) (x := x) rfl
      injection e with e
      injection e with e1 e2
      subst e1
      subst e2
      obtain ⟨g1, g2⟩ := hlv.top h3 h16 (by omega)
      have hroot := trm_setmany (trm_setroot t1 (num d x.2)) n
      obtain ⟨u0, u1, u2, u3, uf1, uf3⟩ := t1.cells
      obtain ⟨r, hr⟩ : ∃ r, r = num d x.2 := ⟨_, rfl⟩
      rw [← hr] at k0 hroot g1
      rw [show o' + 0 * 2 = o' by omega] at k0
      have HG := Lib.hid (And.intro g1 (And.intro g2 hroot))
      clear t1 hlv t2 t3 t4 q4 u0 u2 hr g1 g2 hroot
      go_wp2
      refine bodyPost_ret (v := .tuple #[]) (by simp [results, Try.results25, go_sem]) rfl ⟨⟨_, rfl⟩, ⟨D2, htb, ?_, HR.out.2.2.1⟩, (HR.out.2.2.2.2.1.setCell htb _).setCell htb _⟩
      exact ⟨g, L, [], r, d, x.2, by rw [hlen]; exact HG.out.2.2, HG.out.1, HG.out.2.1, by omega⟩
end Go.Proofs.Ytdkppgmhhijkgaa

namespace Go.Proofs.Ytdkppgmhhijkgaa
open Go.RowKit
set_option linter.unusedVariables false
set_option maxRecDepth 100000

theorem fit_small {L : List Pr} (h : Fit L) : Small L := fun p hp => by
  have := h.2 p hp
  unfold fairB mayB at this
  simp at this
  omega

set_option maxHeartbeats 2000000 in
theorem load_order {w : World} {A : Option Addr} {n c : Nat} (m : Int) (hm : ¬ (3 ≤ m ∧ m ≤ 16)) :
    Calls Try.prog 9 #[.int .i64 m, .slice A n c] w fun e w' => e = .returned (.tuple #[.pointer none, errV 1]) ∧ w = w' := by
  have HN := new_no w m hm
  rw [errV_some (k := 1) (by decide)] at HN ⊢
  clear hm
  go_enter Try.func9, Try.ntmps9
  go_wp2_with fail
  refine HN.mono ?_
  rintro e w1 ⟨rfl, rfl⟩
  go_wp2
  go_ret2
  exact ⟨rfl, rfl⟩

set_option maxHeartbeats 2000000 in
theorem load_row {w : World} {A : Option Addr} {n c m : Nat} {L : List Pr} (h : Prs w A n c L) (h3 : 3 ≤ m) (h16 : m ≤ 16) (hf : isB L = false) :
    Calls Try.prog 9 #[.int .i64 m, .slice A n c] w fun e w' => e = .returned (.tuple #[.pointer none, errV 1]) ∧ Below w.heap.size w w' := by
  have HN := new_tr w m h3 h16
  have H := Lib.hid h
  rw [errV_some (k := 1) (by decide)]
  clear h h3 h16
  go_enter Try.func9, Try.ntmps9
  go_wp2_with fail
  refine HN.mono ?_
  rintro e w1 ⟨tb, D, g, rfl, -, -, -, hb⟩
  have HB := Lib.hid hb
  have HI := is_any (H.out.below hb)
  rw [hf] at HI
  clear HN hb hf
  go_wp2_with fail
  refine HI.mono ?_
  rintro e w2 ⟨rfl, hb2⟩
  have HB2 := Lib.hid (below_on HB.out hb2)
  clear HI hb2
  go_wp2
  go_ret2
  exact ⟨rfl, HB2.out⟩

set_option maxHeartbeats 2000000 in
theorem load_full {w : World} {A : Option Addr} {n c m : Nat} {L : List Pr} (h : Prs w A n c L) (h3 : 3 ≤ m) (h16 : m ≤ 16) (hf : isB L = true) (hl : 1000 < L.length) :
    Calls Try.prog 9 #[.int .i64 m, .slice A n c] w fun e w' => e = .returned (.tuple #[.pointer none, errV 5]) ∧ Below w.heap.size w w' := by
  have HN := new_tr w m h3 h16
  have hlen := h.len
  rw [hlen] at hl
  have hlI : (1000 : Int) < (n : Int) := by omega
  have H := Lib.hid h
  rw [errV_some (k := 5) (by decide)]
  clear h h3 h16 hlen
  go_enter Try.func9, Try.ntmps9
  go_wp2_with fail
  refine HN.mono ?_
  rintro e w1 ⟨tb, D, g, rfl, -, -, -, hb⟩
  have HB := Lib.hid hb
  have HI := is_any (H.out.below hb)
  rw [hf] at HI
  clear HN hb hf
  go_wp2_with fail
  refine HI.mono ?_
  rintro e w2 ⟨rfl, hb2⟩
  have HB2 := Lib.hid (below_on HB.out hb2)
  clear HI hb2
  go_wp2
  go_ret2
  exact ⟨rfl, HB2.out⟩

def LoadO (w : World) (m : Nat) (L : List Pr) (e : Ending) (w' : World) : Prop := ∃ tb D, e = .returned (.tuple #[.pointer (some ⟨tb, 0, none⟩), .nilIface]) ∧ TreD w.heap.size D w' tb m L ∧ Below w.heap.size w w'

set_option maxHeartbeats 2000000 in
theorem load_yes {w : World} {A : Option Addr} {n c m : Nat} {L : List Pr} (h : Prs w A n c L) (h3 : 3 ≤ m) (h16 : m ≤ 16) (hf : isB L = true) (hl : L.length ≤ 1000) :
    Calls Try.prog 9 #[.int .i64 m, .slice A n c] w (LoadO w m L) := by
  have HN := new_tr w m h3 h16
  have hlen := h.len
  have hlI : ¬ (1000 : Int) < (n : Int) := by omega
  have H := Lib.hid h
  have HF := Lib.hid (is_fit hf)
  have HLEN := Lib.hid hlen
  clear h hlen
  go_enter Try.func9, Try.ntmps9
  go_wp2_with fail
  refine HN.mono ?_
  rintro e w1 ⟨tb, D, g, rfl, ht, htb, hD, hb⟩
  have HB := Lib.hid hb
  have HT := Lib.hid (And.intro ht (And.intro htb hD))
  have HI := is_any (H.out.below hb)
  rw [hf] at HI
  clear HN hb hf ht htb hD
  go_wp2_with fail
  refine HI.mono ?_
  rintro e w2 ⟨rfl, hb2⟩
  have HB2 := Lib.hid (below_on HB.out hb2)
  have HT2 := Lib.hid (HT.out.1.below hb2)
  clear HI hb2
  rcases Nat.eq_zero_or_pos n with h0 | h0
  · subst h0
    have hL : L = [] := List.eq_nil_of_length_eq_zero HLEN.out
    have HL := Lib.hid hL
    clear hL
    go_wp2
    go_ret2
    refine ⟨tb, D, rfl, ⟨HT.out.2.1, ?_, HT.out.2.2⟩, HB2.out⟩
    rw [HL.out]
    exact ⟨g, _, _, _, 0, mkL 0 [] (-1), HT2.out, good_new h3 h16, rfl, by simp⟩
  · obtain ⟨b, o, rfl, hbl, -⟩ := H.out.at_ h0
    have hn : n ≤ 1000 := by omega
    have hnI : (0 : Int) < (n : Int) := by omega
    have HFL := Lib.hid (fill_any (B := w.heap.size) HT2.out HT.out.2.2 HT.out.2.1 HB2.out.size ((prs_old H.out).keep (below_all HB2.out)) h0 hn (fit_small HF.out) HF.out h3 h16)
    go_wp2_with fail
    refine HFL.out.mono ?_
    rintro e w3 ⟨⟨v, rfl⟩, ⟨D', hD'⟩, hb3⟩
    have HD' := Lib.hid hD'
    have HB3 := Lib.hid hb3
    clear HFL hD' hb3
    go_wp2
    go_ret2
    exact ⟨tb, D', rfl, HD'.out, HB2.out.trans HB3.out⟩
end Go.Proofs.Ytdkppgmhhijkgaa

namespace Go.Proofs.Ytdkppgmhhijkgaa
open Go.RowKit
set_option linter.unusedVariables false
set_option maxRecDepth 100000

theorem bmay_yes {w : World} {D : Nat → Prop} {tb m : Nat} {P : List Pr} (h : Tre w D tb m P) : Calls Try.prog 29 #[.pointer (some ⟨tb, 0, none⟩)] w fun e w' => e = .returned (.bool true) ∧ w = w' := by
  obtain ⟨g, L, F, root, d, t, hT, hG, rfl, hP⟩ := h
  obtain ⟨c0, -, -, -, -, -⟩ := hT.cells
  clear hT hG hP
  go_enter Try.func29, Try.ntmps29
  go_wp2
  go_ret
  exact ⟨rfl, rfl⟩
theorem bmay_no (w : World) : Calls Try.prog 29 #[.pointer none] w fun e w' => e = .returned (.bool false) ∧ w = w' := by
  go_enter Try.func29, Try.ntmps29
  go_wp2
  go_ret
  exact ⟨rfl, rfl⟩
theorem cpairs {w : World} {D : Nat → Prop} {tb m : Nat} {P : List Pr} (h : Tre w D tb m P) : Calls Try.prog 21 #[.pointer (some ⟨tb, 0, none⟩)] w fun e w' => ∃ A n c, e = .returned (.slice A n c) ∧ Prs w' A n c P ∧ Below w.heap.size w w' := by
  obtain ⟨g, L, F, root, d, t, h1, h2, rfl, h4⟩ := h
  exact pairs_any h1 h2 h4
theorem Tre.order {w : World} {D : Nat → Prop} {tb m : Nat} {P : List Pr} (h : Tre w D tb m P) : w.cell? ⟨tb, 2, none⟩ = some (.int .i64 m) ∧ 3 ≤ m ∧ m ≤ 16 ∧ P.length ≤ 1000 ∧ w.cell? ⟨tb, 3, none⟩ = some (.int .i64 P.length) := by
  obtain ⟨g, L, F, root, d, t, h1, h2, h3, h4⟩ := h
  exact ⟨h1.cells.2.2.1, h2.m3, h2.m16, h4, h1.cells.2.2.2.1⟩
theorem fit_sub {L M : List Pr} (h : Fit L) (hs : M.Sublist L) : Fit M := ⟨h.1.sublist hs, fun p hp => h.2 p (hs.subset hp)⟩

set_option maxHeartbeats 2000000 in
theorem cut_nil (w : World) {C : Option Addr} {o : Nat} (q : Nat) : Calls Try.prog 15 #[.pointer none, .slice C o q] w fun e w' => e = .returned (.tuple #[.pointer none, .pointer none, errV 1]) ∧ w = w' := by
  have HM := bmay_no w
  rw [errV_some (k := 1) (by decide)]
  go_enter Try.func15, Try.ntmps15
  go_wp2_with fail
  refine HM.mono ?_
  rintro e w1 ⟨rfl, rfl⟩
  go_wp2
  go_ret3
  exact ⟨rfl, rfl⟩

set_option maxHeartbeats 2000000 in
theorem cut_no {w : World} {D : Nat → Prop} {tb m : Nat} {P : List Pr} (h : Tre w D tb m P) {C : Option Addr} {o : Nat} (q : Nat) {k : Ky} (hk : Byt w C o k) (hm : mayB k = false) :
    Calls Try.prog 15 #[.pointer (some ⟨tb, 0, none⟩), .slice C o q] w fun e w' => e = .returned (.tuple #[.pointer none, .pointer none, errV 1]) ∧ w = w' := by
  have HM := bmay_yes h
  have HY := may_any q hk
  rw [hm] at HY
  rw [errV_some (k := 1) (by decide)]
  clear h hk hm
  go_enter Try.func15, Try.ntmps15
  go_wp2_with fail
  refine HM.mono ?_
  rintro e w1 ⟨rfl, rfl⟩
  go_wp2_with fail
  refine HY.mono ?_
  rintro e w1 ⟨rfl, rfl⟩
  go_wp2
  go_ret3
  exact ⟨rfl, rfl⟩

/-- What Cut leaves: two trees, in new memory, apart. -/
def CutO (w : World) (m : Nat) (P : List Pr) (k : Ky) (e : Ending) (w' : World) : Prop :=
  ∃ ta tb N Da Db, e = .returned (.tuple #[.pointer (some ⟨ta, 0, none⟩), .pointer (some ⟨tb, 0, none⟩), .nilIface]) ∧ TreD w.heap.size Da w' ta m (P.take (pos P k)) ∧ (∀ b, Da b ∨ b = ta → b < N) ∧ w.heap.size ≤ N ∧ TreD N Db w' tb m (P.drop (pos P k)) ∧ Below w.heap.size w w'

set_option maxHeartbeats 4000000 in
theorem cut_yes {w : World} {D : Nat → Prop} {tb m : Nat} {P : List Pr} (h : Tre w D tb m P) {C : Option Addr} {o : Nat} (q : Nat) {k : Ky} (hk : Byt w C o k) (hm : mayB k = true) :
    Calls Try.prog 15 #[.pointer (some ⟨tb, 0, none⟩), .slice C o q] w (CutO w m P k) := by
  have HM := bmay_yes h
  have HY := may_any q hk
  rw [hm] at HY
  have HPA := cpairs h
  obtain ⟨c2, h3, h16, hP, -⟩ := h.order
  have hfit := h.fit
  have htb := h.lt.1
  have HFIT := Lib.hid hfit
  have HK := Lib.hid hk
  clear h hk hm hfit
  go_enter Try.func15, Try.ntmps15
  go_wp2_with fail
  refine HM.mono ?_
  rintro e w1 ⟨rfl, rfl⟩
  go_wp2_with fail
  refine HY.mono ?_
  rintro e w1 ⟨rfl, rfl⟩
  go_wp2_with fail
  refine HPA.mono ?_
  rintro e w1 ⟨A, n, c, rfl, hp, hb⟩
  have HP := Lib.hid hp
  have HB := Lib.hid hb
  have hlen := hp.len
  have hnc := hp.2.1
  have HFI := find_any q hp (HK.out.below hb) HFIT.out.1 (by omega)
  clear HM HY HPA hp hb
  go_wp2_with fail
  refine HFI.mono ?_
  rintro e w2 ⟨rfl, hb2⟩
  have hpos := pos_le P k
  obtain ⟨at_, hat⟩ : ∃ x, x = pos P k := ⟨_, rfl⟩
  rw [← hat] at hpos
  rw [hlen] at hpos
  have HB2 := Lib.hid (below_on HB.out hb2)
  have HP2 := Lib.hid (HP.out.below hb2)
  have c22 := (HB2.out.cell (p := ⟨tb, 2, none⟩) htb).trans c2
  have HLO := Lib.hid (load_yes (w := w2.drew) ((HP2.out.upto (k := at_) hpos).below (Below.refl w2.heap.size w2).drew) h3 h16 (fit_sub HFIT.out (List.take_sublist _ _)).is (by simp; omega))
  have HAT := Lib.hid hat
  have hac : at_ ≤ c := by omega
  clear HFI hb2 c2
  rw [← hat]
  clear hat
  have htb2 : tb < w2.heap.size := by have := HB2.out.size; omega
  go_wp2
  go_region_held3 (fun w' => w'.cell? ⟨tb, 2, none⟩ = some (.int .i64 m)) (go_keep)
    ((go_at_call 9
      (with_reducible refine HLO.out.mono ?_)
      rintro e w3 ⟨ta, Da, rfl, ht, hb3⟩
      have hb3 := undrew hb3
      have c23 := (hb3.cell (p := ⟨tb, 2, none⟩) htb2).trans c22
      have HTA := Lib.hid ht
      have HB3 := Lib.hid hb3
      clear ht hb3))
  clear HLO c22
  have HP3 := Lib.hid (HP2.out.below HB3.out)
  have HHI := Lib.hid (load_yes (w := w3.drew) ((HP3.out.from (k := at_) hpos).below (Below.refl w3.heap.size w3).drew) h3 h16 (fit_sub HFIT.out (List.drop_sublist _ _)).is (by simp; omega))
  have htb3 : tb < w3.heap.size := by have := HB3.out.size; omega
  have hX : (if c = at_ then A else A.map (fun x => x.add (at_ * 2))) = cutA A at_ c := rfl
  go_wp2
  go_region_held3 (fun w' => w'.cell? ⟨tb, 2, none⟩ = some (.int .i64 m)) (go_keep)
    ((go_at_call 9
      (with_reducible refine HHI.out.mono ?_)
      rintro e w4 ⟨tc, Db, rfl, ht, hb4⟩
      have hb4 := undrew hb4
      have c24 := (hb4.cell (p := ⟨tb, 2, none⟩) htb3).trans c23
      have HTB := Lib.hid ht
      have HB4 := Lib.hid hb4
      clear ht hb4))
  clear HHI hX
  go_wp2
  go_ret3
  have hta := HTA.out.tre.lt
  refine ⟨ta, tc, w3.heap.size, Da, Db, rfl, ⟨Nat.le_trans HB2.out.size HTA.out.tbn, ?_, fun b hb => Nat.le_trans HB2.out.size (HTA.out.dn b hb)⟩, fun b hb => hb.elim (hta.2 b) (fun e => by rw [e]; exact hta.1), ?_, ?_, ?_⟩
  · rw [← HAT.out]
    exact HTA.out.tre.below HB4.out
  · have := HB2.out.size; have := HB3.out.size; omega
  · rw [← HAT.out]
    exact HTB.out
  · exact below_on (below_on HB2.out HB3.out) HB4.out
end Go.Proofs.Ytdkppgmhhijkgaa

namespace Go.Proofs.Ytdkppgmhhijkgaa
open Go.RowKit
set_option linter.unusedVariables false
set_option maxRecDepth 100000

/-- Do all keys of one row stand ahead of another one's? -/
def aheadB (x y : List Pr) : Bool := x.isEmpty || y.isEmpty || ltB (gt x (x.length - 1)).1 (gt y 0).1
theorem ahead_is {x y : List Pr} (hx : Fit x) (hy : Fit y) : aheadB x y = isB (x ++ y) := by
  unfold aheadB
  rcases List.eq_nil_or_concat x with rfl | ⟨x0, a, rfl⟩
  · simp [hy.is]
  · rw [List.concat_eq_append] at *
    cases y with
    | nil => simp [hx.is]
    | cons b y0 =>
      have e1 : gt (x0 ++ [a]) ((x0 ++ [a]).length - 1) = a := by simp [gt]
      have e2 : gt (b :: y0) 0 = b := rfl
      rw [e1, e2]
      have e3 : (x0 ++ [a]).isEmpty = false := by simp
      rw [e3]
      simp only [Bool.false_or, List.isEmpty_cons]
      cases hab : ltB a.1 b.1
      · cases hi : isB (x0 ++ [a] ++ b :: y0)
        · rfl
        · have := (srt_append.1 (is_fit hi).1).2.2 a (by simp) b (by simp)
          rw [hab] at this
          cases this
      · refine (Fit.is ⟨srt_append.2 ⟨hx.1, hy.1, fun p hp q hq => ?_⟩, fun p hp => ?_⟩).symm
        · have h1 : ltB p.1 b.1 = true := by
            rcases List.mem_append.1 hp with hp | hp
            · exact ltB_trans ((srt_append.1 hx.1).2.2 p hp a (by simp)) hab
            · simp at hp; subst hp; exact hab
          rcases List.mem_cons.1 hq with rfl | hq
          · exact h1
          · exact ltB_trans h1 ((List.pairwise_cons.1 hy.1).1 q hq)
        · rcases List.mem_append.1 hp with hp | hp
          · exact hx.2 p hp
          · exact hy.2 p hp

set_option maxHeartbeats 2000000 in
theorem bahead_any {w : World} {A B : Option Addr} {n c m d : Nat} {x y : List Pr} (h : Prs w A n c x) (h' : Prs w B m d y) :
    Calls Try.prog 42 #[.slice A n c, .slice B m d] w fun e w' => e = .returned (.bool (aheadB x y)) ∧ Drawn w w' := by
  have hn := h.len
  have hm := h'.len
  have hnM : n ≤ maxLen := Nat.le_trans h.2.1 h.2.2.1
  unfold maxLen at hnM
  rcases Nat.eq_zero_or_pos n with h0 | h0
  · subst h0
    have hr : aheadB x y = true := by unfold aheadB; simp [List.eq_nil_of_length_eq_zero hn]
    rw [hr]
    clear h h' hr
    go_enter Try.func42, Try.ntmps42
    go_wp2
    go_ret
    exact ⟨rfl, 0, rfl⟩
  · rcases Nat.eq_zero_or_pos m with h1 | h1
    · subst h1
      have hr : aheadB x y = true := by unfold aheadB; simp [List.eq_nil_of_length_eq_zero hm]
      have hnz : ((n : Int) == 0) = false := by simp; omega
      rw [hr]
      clear h h' hr
      go_enter Try.func42, Try.ntmps42
      go_wp2
      go_ret
      exact ⟨rfl, 0, rfl⟩
    · obtain ⟨b, o, rfl, hbl, A1, n1, c1, B1, m1, d1, k0, k1, y1, y2⟩ := h.at_ (show n - 1 < n by omega)
      obtain ⟨b', o', rfl, hbl', A2, n2, c2, B2, m2, d2, j0, j1, z1, z2⟩ := h'.at_ h1
      have hr : aheadB x y = ltB (gt x (n - 1)).1 (gt y 0).1 := by
        unfold aheadB
        have e1 : x.isEmpty = false := by cases x with
          | nil => simp at hn; omega
          | cons a r => rfl
        have e2 : y.isEmpty = false := by cases y with
          | nil => simp at hm; omega
          | cons a r => rfl
        rw [e1, e2, hn]
        rfl
      rw [hr, ← cmp_lt]
      obtain ⟨q, hq⟩ : ∃ q, q + 1 = n := ⟨n - 1, by omega⟩
      rw [show n - 1 = q by omega] at k0 k1 y1 ⊢
      have hqi : (n : Int) - 1 = (q : Int) := by omega
      have hnz : ((n : Int) == 0) = false := by simp; omega
      have hmz : ((m : Int) == 0) = false := by simp; omega
      have hqn : (q : Int) < (n : Int) := by omega
      have hm0 : (0 : Int) < (m : Int) := by omega
      have j0' : w.cell? ⟨b', o', none⟩ = some (.slice A2 n2 c2) := by simpa using j0
      have HC := Lib.hid (fun dd => compare_any (w := w.drewN dd) c1 c2 y1 z1)
      clear h h' hr hq y1 y2 z1 z2 k1 j1 j0
      generalize (gt x q).1 = u at HC
      generalize (gt y 0).1 = v at HC
      go_enter Try.func42, Try.ntmps42
      go_wp2
      go_quiet ((go_at_call 47; exact quiet_left (HC.out _)))
      go_wp2
      go_ret
      exact ⟨rfl, ⟨_, rfl⟩⟩
end Go.Proofs.Ytdkppgmhhijkgaa

namespace Go.Proofs.Ytdkppgmhhijkgaa
open Go.RowKit
set_option linter.unusedVariables false
set_option maxRecDepth 100000

theorem Tre.drewN {w : World} {D : Nat → Prop} {tb m : Nat} {P : List Pr} (h : Tre w D tb m P) (k : Nat) : Tre (w.drewN k) D tb m P := h.below (below_drewN (Below.refl w.heap.size w) k)

set_option maxHeartbeats 4000000 in
theorem join_order {w : World} {Da Db : Nat → Prop} {ta tb m m' : Nat} {x y : List Pr} (h : Tre w Da ta m x) (h' : Tre w Db tb m' y) (hm : m ≠ m') :
    Calls Try.prog 22 #[.pointer (some ⟨ta, 0, none⟩), .pointer (some ⟨tb, 0, none⟩)] w fun e w' => e = .returned (.tuple #[.pointer none, errV 1]) ∧ Drawn w w' := by
  have HA := Lib.hid (fun dd => bmay_yes (h.drewN dd))
  have HB := Lib.hid (fun dd => bmay_yes (h'.drewN dd))
  have c2 := h.order.1
  have d2 := h'.order.1
  have hne : ((m : Int) != (m' : Int)) = true := by simp; omega
  rw [errV_some (k := 1) (by decide)]
  clear h h' hm
  go_enter Try.func22, Try.ntmps22
  go_wp2
  go_quiet (first
    | (go_at_call 29; with_reducible exact quiet_left (HA.out _))
    | (go_at_call 29; with_reducible exact quiet_left (HB.out _)))
  go_wp2
  go_ret2
  exact ⟨rfl, ⟨_, rfl⟩⟩

set_option maxHeartbeats 4000000 in
theorem join_range {w : World} {Da Db : Nat → Prop} {ta tb m : Nat} {x y : List Pr} (h : Tre w Da ta m x) (h' : Tre w Db tb m y) (hi : isB (x ++ y) = false) :
    Calls Try.prog 22 #[.pointer (some ⟨ta, 0, none⟩), .pointer (some ⟨tb, 0, none⟩)] w fun e w' => e = .returned (.tuple #[.pointer none, errV 6]) ∧ Below w.heap.size w w' := by
  have HA := Lib.hid (fun dd => bmay_yes (h.drewN dd))
  have HB := Lib.hid (fun dd => bmay_yes (h'.drewN dd))
  have HPA := Lib.hid (fun dd => cpairs (h.drewN dd))
  have HTB := Lib.hid h'
  have HH := Lib.hid (show aheadB x y = false by rw [ahead_is h.fit h'.fit]; exact hi)
  have c2 := h.order.1
  have d2 := h'.order.1
  have hne : ((m : Int) != (m : Int)) = false := by simp
  rw [errV_some (k := 6) (by decide)]
  clear h h' hi
  go_enter Try.func22, Try.ntmps22
  go_wp2
  go_quiet (first
    | (go_at_call 29; with_reducible exact quiet_left (HA.out _))
    | (go_at_call 29; with_reducible exact quiet_left (HB.out _)))
  clear c2 d2 hne
  go_wp2_with fail
  refine (HPA.out _).mono ?_
  rintro e w1 ⟨A, n, c, rfl, hp, hb⟩
  have hb1 : Below w.heap.size w w1 := (below_drewN (Below.refl w.heap.size w) _).trans hb
  have HB1 := Lib.hid hb1
  have HP1 := Lib.hid hp
  have HPB := cpairs (HTB.out.below hb1)
  clear hp hb hb1
  go_wp2_with fail
  refine HPB.mono ?_
  rintro e w2 ⟨B, n', c', rfl, hp, hb⟩
  have HB2 := Lib.hid (below_on HB1.out hb)
  have HAH := bahead_any (HP1.out.below hb) hp
  rw [HH.out] at HAH
  clear HPB hp hb
  go_wp2_with fail
  refine HAH.mono ?_
  rintro e w3 ⟨rfl, hd⟩
  have HB3 := Lib.hid (below_on HB2.out (hd.below _))
  clear HAH hd
  go_wp2
  go_ret2
  exact ⟨rfl, HB3.out⟩

set_option maxHeartbeats 4000000 in
theorem join_yes {w : World} {Da Db : Nat → Prop} {ta tb m : Nat} {x y : List Pr} (h : Tre w Da ta m x) (h' : Tre w Db tb m y) (hi : isB (x ++ y) = true) (hl : (x ++ y).length ≤ 1000) :
    Calls Try.prog 22 #[.pointer (some ⟨ta, 0, none⟩), .pointer (some ⟨tb, 0, none⟩)] w (LoadO w m (x ++ y)) := by
  have HA := Lib.hid (fun dd => bmay_yes (h.drewN dd))
  have HB := Lib.hid (fun dd => bmay_yes (h'.drewN dd))
  have HPA := Lib.hid (fun dd => cpairs (h.drewN dd))
  have HTB := Lib.hid h'
  have HH := Lib.hid (show aheadB x y = true by rw [ahead_is h.fit h'.fit]; exact hi)
  obtain ⟨c2, h3, h16, hxl, -⟩ := h.order
  obtain ⟨d2, -, -, hyl, -⟩ := h'.order
  have hta := h.lt.1
  have C2 := Lib.hid c2
  have hne : ((m : Int) != (m : Int)) = false := by simp
  have HI := Lib.hid hi
  clear h h' hi
  go_enter Try.func22, Try.ntmps22
  go_wp2
  go_quiet (first
    | (go_at_call 29; with_reducible exact quiet_left (HA.out _))
    | (go_at_call 29; with_reducible exact quiet_left (HB.out _)))
  clear c2 d2 hne
  go_wp2_with fail
  refine (HPA.out _).mono ?_
  rintro e w1 ⟨A, n, c, rfl, hp, hb⟩
  have hb1 : Below w.heap.size w w1 := (below_drewN (Below.refl w.heap.size w) _).trans hb
  have HB1 := Lib.hid hb1
  have HP1 := Lib.hid hp
  have HPB := cpairs (HTB.out.below hb1)
  clear hp hb hb1
  go_wp2_with fail
  refine HPB.mono ?_
  rintro e w2 ⟨B, n', c', rfl, hp, hb⟩
  have HB2 := Lib.hid (below_on HB1.out hb)
  have HP2 := Lib.hid (And.intro (HP1.out.below hb) hp)
  have HAH := bahead_any (HP1.out.below hb) hp
  rw [HH.out] at HAH
  clear HPB hp hb
  go_wp2_with fail
  refine HAH.mono ?_
  rintro e w3 ⟨rfl, hd⟩
  have hb3 : Below w.heap.size w w3 := below_on HB2.out (hd.below _)
  have HB3 := Lib.hid hb3
  have HP3 := Lib.hid (And.intro (hd.prs HP2.out.1) (hd.prs HP2.out.2))
  have c23 := (hb3.cell (p := ⟨ta, 2, none⟩) hta).trans C2.out
  have hta3 : ta < w3.heap.size := by have := hb3.size; omega
  have HN := Lib.hid (And.intro HP2.out.1.len HP2.out.2.len)
  have HC := Lib.hid (concat_any (pieces2 (w := w3.drew) (HP3.out.1.below (Below.refl w3.heap.size w3).drew) (HP3.out.2.below (Below.refl w3.heap.size w3).drew) 22) (by omega) (show sumN _ 2 ≤ 3000 by simp [sumN, pick3]; have := HN.out; omega))
  have hcat : catL (pick3 x y y) 2 = x ++ y := by simp [catL, pick3]
  rw [hcat] at HC
  have c23a : (w3.drew.alloc (.cells #[.slice A n c, .slice B n' c'] 22)).cell? ⟨ta, 2, none⟩ = some (.int .i64 m) := ((((Below.refl w3.heap.size w3).drew).alloc (Nat.le_refl _) _).cell (p := ⟨ta, 2, none⟩) hta3).trans c23
  clear HAH hd hb3 hcat
  go_wp2
  go_region_held3 (fun w' => w'.cell? ⟨ta, 2, none⟩ = some (.int .i64 m)) (go_keep)
    (first
      | (go_at_call 43
         refine HC.out.mono ?_
         rintro e w4 ⟨v, k, xs, rfl, hown, hr, hb4⟩
         obtain ⟨A4, c4, rfl, hp4, -⟩ := own_prs hown (hr.below hb4)
         have c24 := (hb4.cell (p := ⟨ta, 2, none⟩) (by simp; omega)).trans c23a
         have HL := Lib.hid (load_yes hp4 h3 h16 HI.out hl)
         have HB4 := Lib.hid (below_on ((HB3.out.drew).alloc (by have := HB3.out.size; exact this) (.cells #[.slice A n c, .slice B n' c'] 22)) hb4)
         have h4s : ta < w4.heap.size := by have := hb4.size; simp at this; omega
         clear hown hr hb4 hp4)
      | (go_at_call 9
         (with_reducible refine HL.out.mono ?_)
         rintro e w5 ⟨tj, Dj, rfl, ht5, hb5⟩
         have c25 := (hb5.cell (p := ⟨ta, 2, none⟩) h4s).trans c24
         have HT5 := Lib.hid (And.intro ht5 hb5)
         clear ht5 hb5))
  all_goals
    go_wp2
    go_ret2
    refine ⟨tj, Dj, rfl, ⟨Nat.le_trans HB4.out.size HT5.out.1.tbn, HT5.out.1.tre, fun b hb => Nat.le_trans HB4.out.size (HT5.out.1.dn b hb)⟩, below_on HB4.out HT5.out.2⟩
end Go.Proofs.Ytdkppgmhhijkgaa

namespace Go.Proofs.Ytdkppgmhhijkgaa
open Go.RowKit
set_option linter.unusedVariables false
set_option maxRecDepth 100000

theorem soundc {B : Nat} {w : World} {tb m : Nat} {P : List Pr} (h : TrB B w tb m P) :
    Calls Try.prog 19 #[.pointer (some ⟨tb, 0, none⟩)] w fun e w' => ∃ xb, e = .returned (.tuple #[.pointer (some ⟨xb, 0, none⟩), .bool true]) ∧ Below w.heap.size w w' ∧
      (∃ A n c, w'.cell? ⟨xb, 3, none⟩ = some (.slice A n c) ∧ Prs w' A n c P) ∧ ∀ w2, Below w'.heap.size w' w2 → Calls Try.prog 27 #[.pointer (some ⟨xb, 0, none⟩)] w2 fun e w3 => e = .returned (.int .i64 0) ∧ w2 = w3 := by
  obtain ⟨h0, D, ⟨g, L, F, root, d, t, h1, h2, rfl, h4⟩, h5⟩ := h
  refine (sound_any h1 h2 h4).mono fun e w' ⟨xb, S, e1, e2, e3, e4⟩ => ⟨xb, e1, e4, ?_, fun w2 hb => over_any ((h1.below e4).below hb) h2 h4 (e2.below hb)⟩
  have e2' := e2
  rw [sawn_is] at e2'
  obtain ⟨A1, c1, A2, c2, A3, c3, -, -, k3, -, -, q3⟩ := e2'.lists
  exact ⟨A3, _, c3, k3, q3⟩
theorem TrB.order {B : Nat} {w : World} {tb m : Nat} {P : List Pr} (h : TrB B w tb m P) : w.cell? ⟨tb, 2, none⟩ = some (.int .i64 m) ∧ tb < w.heap.size := by
  obtain ⟨h0, D, h1, h2⟩ := h
  exact ⟨h1.order.1, h1.lt.1⟩

set_option maxHeartbeats 4000000 in
theorem has_yes {B : Nat} {w : World} {tb m : Nat} {P : List Pr} (h : TrB B w tb m P) {A : Option Addr} {n c : Nat} (hp : Prs w A n c P) :
    Calls Try.prog 12 #[.pointer (some ⟨tb, 0, none⟩), .int .i64 m, .slice A n c] w fun e w' => e = .returned (.bool true) ∧ Below w.heap.size w w' := by
  have HS := soundc h
  obtain ⟨c2, htl⟩ := h.order
  have HP := Lib.hid hp
  clear h hp
  go_enter Try.func12, Try.ntmps12
  go_wp2_with fail
  refine HS.mono ?_
  rintro e w1 ⟨xb, rfl, hb, ⟨A3, n3, c3, k3, q3⟩, ho⟩
  have c21 := (hb.cell (p := ⟨tb, 2, none⟩) htl).trans c2
  have HPS := pairs_same q3 (HP.out.below hb)
  have HB := Lib.hid hb
  have HO := Lib.hid ho
  have hmm : ((m : Int) == (m : Int)) = true := by simp
  clear HS hb ho q3 c2
  go_wp2_with fail
  refine HPS.mono ?_
  rintro e w2 ⟨rfl, hd⟩
  have HB2 := Lib.hid (hd.below w1.heap.size)
  have HOV := HO.out w2 (hd.below w1.heap.size)
  clear HPS hd k3 c21
  go_wp2_with fail
  refine HOV.mono ?_
  rintro e w3 ⟨rfl, rfl⟩
  go_wp2
  go_ret
  exact ⟨rfl, below_on HB.out HB2.out⟩

theorem three_prs {w : World} {C1 C2 C3 : Option Addr} {k1 k2 k3 : Ky} {o1 o2 o3 : Nat} (q1 q2 q3 : Nat) (h1 : Byt w C1 o1 k1) (h2 : Byt w C2 o2 k2) (h3 : Byt w C3 o3 k3) (T : TypeId) :
    Prs (w.alloc (.cells #[.slice C1 o1 q1, .slice none 0 0, .slice C2 o2 q2, .slice none 0 0, .slice C3 o3 q3, .slice none 0 0] T)) (some ⟨w.heap.size, 0, none⟩) 3 3 [(k1, []), (k2, []), (k3, [])] := by
  refine ⟨rfl, Nat.le_refl _, by unfold maxLen; omega, (fun e => by cases e), fun _ => ⟨w.heap.size, 0, rfl, by simp, fun j hj => ?_⟩⟩
  have hc : j = 0 ∨ j = 1 ∨ j = 2 := by omega
  rcases hc with rfl | rfl | rfl
  · exact ⟨C1, o1, q1, none, 0, 0, by simp, by simp, h1.alloc _, byt_none _⟩
  · exact ⟨C2, o2, q2, none, 0, 0, by simp, by simp, h2.alloc _, byt_none _⟩
  · exact ⟨C3, o3, q3, none, 0, 0, by simp, by simp, h3.alloc _, byt_none _⟩
theorem up_made : madeL [([97], []), ([98], []), ([99], [])] = [([97], []), ([98], []), ([99], [])] ∧ pos [([97], []), ([98], []), ([99], [])] [98] = 1 ∧ mayB [98] = true := by decide
set_option maxHeartbeats 4000000 in
theorem up_any (w : World) : Calls Try.prog 7 #[] w fun e w' => e = .returned (.bool true) ∧ Below w.heap.size w w' := by
  have kc := fun (w : World) (C : Array Value) (n c g : Nat) (hg : g = w.heap.size) => Joins.run_convert_bytes_const_at (P := Try.prog) w 25 5 C n c g hg Try.underlying25 Try.underlying5
  have he := eql_err 1 1
  have ha := byt_lit w 97 97 rfl (1, 2)
  have hb := byt_lit (w.alloc (.cells #[.int .u8 97] 5 (1, 2))) 98 98 rfl (1, 2)
  have hc := byt_lit ((w.alloc (.cells #[.int .u8 97] 5 (1, 2))).alloc (.cells #[.int .u8 98] 5 (1, 2))) 99 99 rfl (1, 2)
  have hp := three_prs 1 1 1 ((ha.alloc (.cells #[.int .u8 98] 5 (1, 2))).alloc (.cells #[.int .u8 99] 5 (1, 2))) (hb.alloc (.cells #[.int .u8 99] 5 (1, 2))) hc 27
  have HM := made_yes hp (m := 3) (by omega) (by omega)
  rw [up_made.1] at HM
  have hB0 := (((((Below.refl w.heap.size w).alloc (Nat.le_refl _) (.cells #[.int .u8 97] 5 (1, 2))).alloc (by simp) (.cells #[.int .u8 98] 5 (1, 2))).alloc (by simp; omega) (.cells #[.int .u8 99] 5 (1, 2))).alloc (by simp; omega) (.cells #[.slice (some ⟨w.heap.size, 0, none⟩) 1 1, .slice none 0 0, .slice (some ⟨w.heap.size + 1, 0, none⟩) 1 1, .slice none 0 0, .slice (some ⟨w.heap.size + 1 + 1, 0, none⟩) 1 1, .slice none 0 0] 27))
  simp only [alloc_sz] at HM
  have HB0 := Lib.hid hB0
  have HM := Lib.hid HM
  clear ha hb hc hp hB0
  go_enter Try.func7, Try.ntmps7
  go_wp2_with fail
  refine HM.out.mono ?_
  rintro e w1 ⟨tb, rfl, ⟨-, D, ht, -⟩, hb1⟩
  have HT1 := Lib.hid ht
  have HB1 := Lib.hid (HB0.out.trans (hb1.mono (by omega)))
  have hq1 := byt_lit w1 98 98 rfl (1, 2)
  have hb2 := (Below.refl w1.heap.size w1).alloc (Nat.le_refl _) (.cells #[.int .u8 98] 5 (1, 2))
  have HR := cut_yes (HT1.out.below hb2) 1 hq1 up_made.2.2
  have HR := Lib.hid HR
  have HB2 := Lib.hid (HB1.out.trans (hb2.mono HB1.out.size))
  clear ht hb1 hq1 hb2 HM HB0
  go_wp2_with fail
  refine HR.out.mono ?_
  rintro e w2 ⟨ta, tc, N, Da, Db, rfl, hta, hN1, hN2, htc, hb3⟩
  rw [up_made.2.1] at hta htc
  have HB3 := Lib.hid (HB2.out.trans (hb3.mono HB2.out.size))
  have hb4 := (Below.refl w2.heap.size w2).alloc (Nat.le_refl _) (.cells #[.int .u8 98] 5 (1, 2))
  have k1 : (w2.alloc (.cells #[.int .u8 98] 5 (1, 2))).cell? ⟨ta, 3, none⟩ = some (.int .i64 1) := (hta.b.below hb4).many.1
  have k2 : (w2.alloc (.cells #[.int .u8 98] 5 (1, 2))).cell? ⟨tc, 3, none⟩ = some (.int .i64 2) := (htc.b.below hb4).many.1
  have HB4 := Lib.hid (HB3.out.trans (hb4.mono HB3.out.size))
  clear hta htc hN1 hN2 hb3 hb4 HR
  go_wp2_with fail
  refine (cut_nil _ 1).mono ?_
  rintro e w3 ⟨rfl, rfl⟩
  rw [errV_some (k := 1) (by decide)]
  go_wp2
  go_ret
  exact ⟨rfl, HB4.out⟩
end Go.Proofs.Ytdkppgmhhijkgaa
