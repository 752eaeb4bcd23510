/- The contract of package tree's Put whatever the key and the value. No condition. Contracts of TreeBounds' own Made, Power and Over. Condition: as their heads say. The contract of TreeBounds' own Over: of a sound tree it is 0. Condition: at most 1000 pairs. What TreeBounds asks, as plain data: what was put is there, till it is put anew. Plain; no condition. The walk of TreeBounds. Condition: what came in can be read. -/
import Derived.Test.YtbpmdjcmmokliaaG10
import Derived.Test.YtbpmdjcmmokliaaG11
namespace Go.Proofs.Ytbpmdjcmmokliaa
open Go.RowKit
set_option linter.unusedVariables false
set_option maxRecDepth 100000

set_option maxHeartbeats 8000000 in
theorem tput_unfair {w : World} {D : Nat → Prop} {tb m : Nat} {P : List Pr} (h : Tre w D tb m P) {C V : Option Addr} {o p : Nat} (q r : Nat) {k v : Ky} (hk : Byt w C o k) (hv : Byt w V p v) (hu : fairB (k, v) = false) :
    Calls Try.prog 9 #[.pointer (some ⟨tb, 0, none⟩), .slice C o q, .slice V p r] w (PutOut w D tb m P k v) := by
  have H := Lib.hid h
  obtain ⟨g, L, root, d, t, h1, h2, h3, h4⟩ := h
  subst h3
  obtain ⟨A, Cc, W, hl, hw, hWd⟩ := way_end h2 k
  obtain ⟨f1, f2, f3⟩ := h2.few h4
  have HY : Hid (Calls Try.prog 25 #[.pointer (some ⟨tb, 0, none⟩), .slice C o q] w fun e w1 => ∃ c gr hi xs, e = .returned (.slice (some ⟨gr, 0, none⟩) (d + 1) c) ∧ w1.ownsRow w.heap.size 70 7 (.slice (some ⟨gr, 0, none⟩) (d + 1) c) (d + 1) xs ∧ NodesR w1 xs gr w.heap.size hi (⟨(leafT k d t).1, leafN (leafT k d t), 0⟩ :: W.reverse) ∧ hi ≤ w1.heap.size ∧ Below w.heap.size w w1) := Lib.hid ((way_any h1 h2 (by omega) q hk).mono fun e w1 ⟨c, gr, hi, xs, e1, e2, e3, e4, e5⟩ => by
    have hlen : (wayT k d t).length = d + 1 := by rw [hw]; simp [hWd]
    have hrev : (wayT k d t).reverse = ⟨(leafT k d t).1, leafN (leafT k d t), 0⟩ :: W.reverse := by rw [hw]; simp
    rw [hlen] at e1 e2
    rw [hrev] at e3
    exact ⟨c, gr, hi, xs, e1, e2, e3, e4, e5⟩)
  have HT := Lib.hid h1
  have HG := Lib.hid h2
  have HL := Lib.hid hl
  have HW := Lib.hid (And.intro hw hWd)
  have HK := Lib.hid (And.intro hk hv)
  have HF := Lib.hid (And.intro f2 h4)
  clear h1 h2 hl hw hWd hk hv f1 f2 f3 h4
  go_enter Try.func9, Try.ntmps9
  go_wp2_with fail
  refine HY.out.mono ?_
  rintro e w1 ⟨c, gr, hi, xs, rfl, hrow, hnod, hhi, hb1⟩
  obtain ⟨lo, hi', hh, n1, n2, n3, n4, n5, n6⟩ := leaf_heads hnod
  rw [show W.reverse.length = d by rw [List.length_reverse, HW.out.2]] at n4
  have HLA := last_any hrow n4
  have HWY := Lib.hid (And.intro hrow (And.intro hnod (And.intro hhi hb1)))
  have HLN := Lib.hid n5
  have hfd := field_node ⟨(leafT k d t).1, leafN (leafT k d t), 0⟩ hh
  have hN := Lib.hid (And.intro n1 (And.intro n2 n3))
  clear HY hrow hnod hhi hb1 n1 n2 n3 n4 n5 n6
  go_wp2_with fail
  refine HLA.mono ?_
  rintro e w2 ⟨rfl, hb2⟩
  have HB2 := Lib.hid hb2
  have HW3 := Lib.hid (box5 w2 (.bool (leafN (leafT k d t)).leaf) (.slice hh.A hh.n hh.c) (.slice hh.B hh.m hh.d) (.slice hh.K hh.k hh.e) (.int .i64 (leafN (leafT k d t)).next) 53)
  clear HLA hb2
  go_wp2_with fail
  obtain ⟨W3, hW, hWB, hWs, hWh⟩ := HW3.out
  rw [← hW]
  have hWh : W3.heap[w2.heap.size]? = some (.cells #[.bool true, .slice hh.A hh.n hh.c, .slice hh.B hh.m hh.d, .slice hh.K hh.k hh.e, .int .i64 (leafT k d t).2.2] 53 (0, 0)) := hWh
  have hB13 : Below w1.heap.size w1 W3 := HB2.out.trans (hWB.mono HB2.out.size)
  have hB03 : Below w.heap.size w W3 := HWY.out.2.2.2.trans (hB13.mono HWY.out.2.2.2.size)
  have HB13 := Lib.hid hB13
  have HB03 := Lib.hid hB03
  have HX3 := Lib.hid (And.intro hWh hWs)
  have hrd := (HLN.out.reads.keep (below_agree hB13 (fun b hb hl => hl))).here
  have hlen : (leafT k d t).2.1.length = hh.n := hrd.1.1
  have hn17 : hh.n ≤ 1000 := by have := HL.out.len; have := HG.out.m16; omega
  clear hW HW3 hWB hWs hWh hB13
  have hpr := hrd.1
  have hNo := fun hf => put_no (A := hh.A) (n := hh.n) (c := hh.c) q r (HK.out.1.below hB03) (HK.out.2.below hB03) hf
  have HNo := Lib.hid hNo
  clear hNo hpr hrd hlen hB03
  have hf := hu
  have HP := HNo.out hf
  have HFF := Lib.hid hf
  clear hf
  refine HP.mono ?_
  rintro e w4 ⟨rfl, rfl⟩
  clear HP
  go_wp2
  go_ret2
  refine ⟨?_, D, ?_, fun b hb => .inl hb, below_only HB03.out⟩
  · unfold putF putE
    rw [HFF.out]
    rfl
  · unfold putP
    rw [HFF.out]
    exact H.out.below HB03.out

theorem putb_all {B : Nat} {w : World} {tb m : Nat} {P : List Pr} (h : TrB B w tb m P) (hB : B ≤ w.heap.size) {C V : Option Addr} {o p : Nat} (q r : Nat) {k v : Ky} (hk : Byt w C o k) (hv : Byt w V p v) :
    Calls Try.prog 9 #[.pointer (some ⟨tb, 0, none⟩), .slice C o q, .slice V p r] w fun e w' =>
      e = .returned (.tuple #[.bool (putF P k v), errV (putE P k v)]) ∧ TrB B w' tb m (putP P k v) ∧ Below B w w' := by
  cases hf : fairB (k, v)
  · obtain ⟨h0, D, h1, h2⟩ := h
    exact (tput_unfair h1 q r hk hv hf).mono fun e w' ⟨e1, D', e2, e3, e4⟩ => ⟨e1, ⟨h0, D', e2, fun b hb => (e3 b hb).elim (h2 b) (fun h => Nat.le_trans hB h)⟩, e4.below (fun b hb => hb.elim (h2 b) (fun h => by rw [h]; exact h0)) hB⟩
  · unfold fairB mayB at hf
    have h1 := hk.1
    have h2 := hv.1
    simp at hf
    exact putb h hB q r hk hv (by omega) (by omega)
end Go.Proofs.Ytbpmdjcmmokliaa

namespace Go.Proofs.Ytbpmdjcmmokliaa
open Go.RowKit
set_option linter.unusedVariables false
set_option maxRecDepth 100000

/-- What any pairs, put one by one, come to. -/
def madeL (L : List Pr) : List Pr := L.foldl (fun P p => putP P p.1 p.2) []
theorem made_step (L : List Pr) {i : Nat} (h : i < L.length) : madeL (L.take (i + 1)) = putP (madeL (L.take i)) (gt L i).1 (gt L i).2 := by
  unfold madeL
  rw [List.take_succ_eq_append_getElem h, List.foldl_append, gt_eq h]
  rfl
theorem TrB.size {B : Nat} {w : World} {tb m : Nat} {P : List Pr} (h : TrB B w tb m P) : B ≤ w.heap.size := by
  obtain ⟨h0, D, h1, h2⟩ := h
  have := h1.lt.1
  omega

set_option maxHeartbeats 1000000 in
theorem made_no {w : World} {A : Option Addr} {n c : Nat} (m : Int) (hm : ¬ (3 ≤ m ∧ m ≤ 16)) :
    Calls Try.prog 21 #[.int .i64 m, .slice A n c] w fun e w' => e = .returned (.pointer none) ∧ w = w' := by
  have HN := new_no w m hm
  rw [errV_some (k := 1) (by decide)] at HN
  clear hm
  go_enter Try.func21, Try.ntmps21
  go_wp2_with fail
  refine HN.mono ?_
  rintro e w1 ⟨rfl, rfl⟩
  go_wp2
  go_ret
  exact ⟨rfl, rfl⟩

set_option maxHeartbeats 4000000 in
theorem made_yes {w : World} {A : Option Addr} {n c : Nat} {m : Nat} {L : List Pr} (h : Prs w A n c L) (h3 : 3 ≤ m) (h16 : m ≤ 16) :
    Calls Try.prog 21 #[.int .i64 m, .slice A n c] w fun e w' => ∃ tb, e = .returned (.pointer (some ⟨tb, 0, none⟩)) ∧ TrB w.heap.size w' tb m (madeL L) ∧ Below w.heap.size w w' := by
  have HN := newb w m h3 h16
  have H := Lib.hid h
  have hlen : L.length = n := h.len
  have hn : n ≤ maxLen := Nat.le_trans h.2.1 h.2.2.1
  unfold maxLen at hn
  clear h h3 h16
  go_enter Try.func21, Try.ntmps21
  go_wp2_with fail
  refine HN.mono ?_
  rintro e w1 ⟨tb, rfl, ht, hb⟩
  have HT := Lib.hid ht
  have HB := Lib.hid hb
  clear HN ht hb
  go_wp2_with fail
  go_loopw [7] (fun x wr => ∃ i : Nat, x = .int .i64 (i : Nat) ∧ i ≤ n ∧ TrB w.heap.size wr tb m (madeL (L.take i)) ∧ Below w.heap.size w wr) (fun x _ => n + 1 - (intOf x).toNat)
  case atStart => exact ⟨0, rfl, Nat.zero_le _, HT.out, HB.out⟩
  case round =>
    obtain ⟨i, rfl, hi, ht, hb⟩ := hrel
    have HTr := Lib.hid ht
    have HBr := Lib.hid hb
    clear HT HB ht
    by_cases hin : i < n
    case pos =>
      have hinI : (i : Int) < (n : Int) := by omega
      have g1 : decide ((i : Int) < (n : Int)) = true := by simp; omega
      have g1b : decide (i < n) = true := by simp; omega
      obtain ⟨b, oo, rfl, hbl, A2, n2, c2, B2, m2, d2, k0, k1, y1, y2⟩ := (H.out.below hb).at_ hin
      have HP := putb_all (w := wr.drew) (HTr.out.below ((Below.refl wr.heap.size wr).drew)) (HTr.out.size) c2 d2 (y1.below ((Below.refl wr.heap.size wr).drew)) (y2.below ((Below.refl wr.heap.size wr).drew))
      rw [← made_step L (by omega)] at HP
      have HP := Lib.hid HP
      clear hb y1 y2
      go_wp2_with fail
      go_still_tail 11, (by kernel_rfl)
      change wpList _ _ _ _ _ wr.drew
      clear k0 k1
      go_wp2_with fail
      refine HP.out.mono ?_
      rintro e w3 ⟨rfl, ht3, hb3⟩
      have HT3 := Lib.hid ht3
      have HB3 := Lib.hid (HBr.out.drew.trans hb3)
      clear HP ht3 hb3
      go_wp2
      go_roundw
      case rel => exact ⟨i + 1, rfl, by omega, HT3.out, HB3.out⟩
      case measure => simp [intOf]; omega
    case neg =>
      have hinI : ¬ ((i : Int) < (n : Int)) := by omega
      have g1 : decide ((i : Int) < (n : Int)) = false := by simp; omega
      have g1b : decide (i < n) = false := by simp; omega
      have hall : L.take i = L := List.take_of_length_le (by omega)
      rw [hall] at HTr
      clear hall
      go_wp2
      go_ret
      exact ⟨tb, rfl, HTr.out, HBr.out⟩

set_option maxHeartbeats 1000000 in
theorem power_any (w : World) {a n : Nat} (ha : 1 ≤ a) (ha2 : a ≤ 100) (hn : n ≤ 1000) :
    Calls Try.prog 37 #[.int .i64 a, .int .i64 n] w fun e w' => ∃ r : Nat, e = .returned (.int .i64 r) ∧ r ≤ a ^ n ∧ r ≤ 100000000 ∧ w = w' := by
  go_enter Try.func37, Try.ntmps37
  go_wp2
  go_loop [5, 6] (fun u x => ∃ i r : Nat, u = .int .i64 (r : Nat) ∧ x = .int .i64 (i : Nat) ∧ i ≤ n ∧ r = a ^ i ∧ r ≤ 100000000) (fun _ x => n + 1 - (intOf x).toNat)
  case atStart => exact ⟨0, 1, rfl, rfl, Nat.zero_le _, rfl, by omega⟩
  case round =>
    obtain ⟨i, r, rfl, rfl, hi, hr, hr8⟩ := hrel
    have HR := Lib.hid hr
    clear hr
    by_cases hin : i < n
    case pos =>
      have g1 : decide ((i : Int) < (n : Int)) = true := by simp; omega
      have g1b : decide (i < n) = true := by simp; omega
      have hinI : (i : Int) < (n : Int) := by omega
      by_cases hr6 : r < 1000000
      case pos =>
        have g2 : decide ((r : Int) < 1000000) = true := by simp; omega
        have g2b : decide (r < 1000000) = true := by simp; omega
        have hr6I : (r : Int) < 1000000 := by omega
        have hm : r * a ≤ 100000000 := Nat.le_trans (Nat.mul_le_mul (Nat.le_of_lt hr6) ha2) (by omega)
        have hw : IntKind.i64.wrap ((r : Int) * (a : Int)) = ((r * a : Nat) : Int) := by
          rw [← Int.natCast_mul]
          exact IntWalk.i64_in _ (by omega)
        go_wp2
        go_round
        case rel => exact ⟨i + 1, r * a, by first | rfl | (rw [← hw]; rfl) | simp, rfl, by omega, by rw [HR.out, Nat.pow_succ], hm⟩
        case measure => simp [intOf]; omega
      case neg =>
        have g2 : decide ((r : Int) < 1000000) = false := by simp; omega
        have g2b : decide (r < 1000000) = false := by simp; omega
        have hr6I : ¬ (r : Int) < 1000000 := by omega
        go_wp2
        go_ret
        exact ⟨r, rfl, by rw [HR.out]; exact Nat.pow_le_pow_right ha hi, hr8, rfl⟩
    case neg =>
      have g1 : decide ((i : Int) < (n : Int)) = false := by simp; omega
      have g1b : decide (i < n) = false := by simp; omega
      have hinI : ¬ (i : Int) < (n : Int) := by omega
      go_wp2
      go_ret
      exact ⟨r, rfl, by rw [HR.out]; exact Nat.pow_le_pow_right ha hi, hr8, rfl⟩
end Go.Proofs.Ytbpmdjcmmokliaa

namespace Go.Proofs.Ytbpmdjcmmokliaa
open Go.RowKit
set_option linter.unusedVariables false
set_option maxRecDepth 100000

set_option maxHeartbeats 2000000 in
theorem over_any {w : World} {D S : Nat → Prop} {tb g xb : Nat} {L : List (Option Nd)} {root m : Nat} {d : Nat} {t : Tr d} (h : TrM w D tb g L root m (flat d t).length) (hg : GoodT L m root d t) (hP : (flat d t).length ≤ 1000) (hK : LkM w S xb tb (sawn d t)) :
    Calls Try.prog 22 #[.pointer (some ⟨xb, 0, none⟩)] w fun e w' => e = .returned (.int .i64 0) ∧ w = w' := by
  obtain ⟨f1, f2, f3⟩ := hg.few hP
  obtain ⟨o1, o2⟩ := hg.over
  have h3 := hg.m3
  have h16 := hg.m16
  have hall := hg.all
  obtain ⟨-, -, c2, -, -, -⟩ := h.cells
  rw [sawn_is] at hK
  obtain ⟨k0, k4', k5', -, -, -⟩ := hK.cells
  obtain ⟨A1, q1, A2, q2, A3, q3, -, -, k3', -, -, -⟩ := hK.lists
  obtain ⟨NN, hNN⟩ : ∃ NN, NN = (nums d t).length := ⟨_, rfl⟩
  obtain ⟨PP, hPP⟩ : ∃ PP, PP = (flat d t).length := ⟨_, rfl⟩
  obtain ⟨H, hH⟩ : ∃ H, H = m / 2 := ⟨_, rfl⟩
  rw [← hNN, ← hH, ← hPP] at o2
  rw [← hNN] at o1 hall
  rw [← hPP] at hP
  have k4 : w.cell? ⟨xb, 4, none⟩ = some (.int .i64 NN) := by rw [k4', hNN]
  have k5d : w.cell? ⟨xb, 5, none⟩ = some (.int .i64 ((d : Int) + 1)) := k5'
  have k3 : w.cell? ⟨xb, 3, none⟩ = some (.slice A3 PP q3) := by rw [k3', hPP]
  have hH8 : H ≤ 8 := by omega
  have hmI : (m : Int) ≤ 16 := by omega
  have hm3I : (3 : Int) ≤ (m : Int) := by omega
  have hN2 : NN ≤ 2000 := by omega
  clear h hg hK k4' k5' k3' hNN hPP
  rcases Nat.eq_zero_or_pos d with hd | hd
  · have o1' := o1 hd
    clear o1
    have o1 := o1'
    clear o1'
    subst hd
    have k5 : w.cell? ⟨xb, 5, none⟩ = some (.int .i64 1) := k5d
    clear k5d
    rw [o1] at k4
    have k4n : w.cell? ⟨xb, 4, none⟩ = some (.int .i64 1) := k4
    clear o2 k4
    go_enter Try.func22, Try.ntmps22
    go_wp2
    go_ret
    exact ⟨rfl, rfl⟩
  · obtain ⟨o3, o4⟩ := o2 (by omega)
    have HO := Lib.hid o4
    obtain ⟨d', rfl⟩ : ∃ d', d = d' + 1 := ⟨d - 1, by omega⟩
    have k5 : w.cell? ⟨xb, 5, none⟩ = some (.int .i64 ((d' : Int) + 2)) := by rw [k5d]; congr 2
    clear k5d
    have HPW := Lib.hid (power_any w (a := H + 1) (n := d') (by omega) (by omega) (by omega))
    have e1 : (((d' : Int) + 2) == 1) = false := by simp; omega
    obtain ⟨X, hX⟩ : ∃ X, X = NN * H := ⟨_, rfl⟩
    have hXP : X ≤ 2 * PP := by rw [hX]; exact o3
    have hHI : (m : Int) / 2 = (H : Int) := by omega
    have hw1 : wrap64 ((NN : Int) * ((m : Int) / 2)) = (X : Int) := by
      rw [hHI, ← Int.natCast_mul, ← hX]
      exact IntWalk.wrap64_in (X : Int) (by omega)
    have HHI := Lib.hid (And.intro hHI hX)
    have g1 : decide (2 * (PP : Int) < (X : Int)) = false := by simp; omega
    have g1b : decide (2 * PP < X) = false := by simp; omega
    have hd9 : d' ≤ 8 := by omega
    clear o1 o2 o3 o4 hd hall hHI hX hH f1 f3 h3 h16
    go_enter Try.func22, Try.ntmps22
    go_wp2_with fail
    have HPV : Calls Try.prog 37 #[.int .i64 ((m : Int) / 2 + 1), .int .i64 d'] w fun e w' => ∃ r : Nat, e = .returned (.int .i64 r) ∧ r ≤ (H + 1) ^ d' ∧ r ≤ 100000000 ∧ w = w' := by rw [HHI.out.1]; exact HPW.out
    refine HPV.mono ?_
    rintro e w1 ⟨r, rfl, hr1, hr2, rfl⟩
    obtain ⟨Y, hY⟩ : ∃ Y, Y = 2 * r * H := ⟨_, rfl⟩
    have hYP : Y ≤ PP := by rw [hY]; exact HO.out r hr1
    have hw3 : wrap64 (2 * (r : Int) * ((m : Int) / 2)) = (Y : Int) := by
      rw [HHI.out.1, show (2 : Int) * (r : Int) * (H : Int) = ((2 * r * H : Nat) : Int) by push_cast; rfl, ← hY]
      exact IntWalk.wrap64_in (Y : Int) (by omega)
    have g2 : decide ((PP : Int) < (Y : Int)) = false := by simp; omega
    have g2b : decide (PP < Y) = false := by simp; omega
    clear hr1 hY HPV
    go_wp2
    go_ret
    exact ⟨rfl, rfl⟩
end Go.Proofs.Ytbpmdjcmmokliaa

namespace Go.Proofs.Ytbpmdjcmmokliaa
open Go.RowKit
set_option linter.unusedVariables false
set_option maxRecDepth 100000

theorem val_mem {L : List Pr} (h : Srt L) {k v : Ky} (hm : (k, v) ∈ L) : hasB L k = true ∧ valP L k = v := by
  obtain ⟨X, M, Y, rfl, hX, hY, hM⟩ := split h k
  have hmem : (k, v) ∈ M := by
    rcases List.mem_append.1 hm with h1 | h1
    · have := hX _ h1
      rw [ltB_irrefl] at this
      cases this
    · rcases List.mem_append.1 h1 with h1 | h1
      · exact h1
      · have := hY _ h1
        rw [ltB_irrefl] at this
        cases this
  rcases hM with rfl | ⟨v', rfl⟩
  · cases hmem
  · have e : v = v' := by simpa using hmem
    subst e
    have e1 := has_split hX hY (.inr ⟨v, rfl⟩ : [(k, v)] = [] ∨ ∃ v', [(k, v)] = [(k, v')])
    have e2 := pos_split hX hY (.inr ⟨v, rfl⟩ : [(k, v)] = [] ∨ ∃ v', [(k, v)] = [(k, v')])
    refine ⟨by rw [e1]; rfl, ?_⟩
    unfold valP
    rw [e1, e2, gt_right (Nat.le_refl _)]
    simp [gt]
theorem mem_put_new (P : List Pr) (k v : Ky) : (k, v) ∈ putL P k v := by unfold putL; simp
theorem mem_put_keep {P : List Pr} {k v k' v' : Ky} (h : (k', v') ∈ P) (hk : k' ≠ k) : (k', v') ∈ putL P k v := by
  have hd : (k', v') ∈ delL P k := by
    unfold delL
    refine List.mem_filter.2 ⟨h, ?_⟩
    cases hs : sameB k' k
    · rfl
    · exfalso
      unfold sameB at hs
      exact hk (by simpa using hs)
  unfold putL
  have := List.take_append_drop (pos (delL P k) k) (delL P k)
  rw [← this] at hd
  rcases List.mem_append.1 hd with h1 | h1
  · exact List.mem_append_left _ h1
  · exact List.mem_append_right _ (List.mem_cons_of_mem _ h1)
theorem putP_len (P : List Pr) (k v : Ky) : (putP P k v).length ≤ P.length + 1 := by
  have := len_put P k v
  unfold putP
  split
  · split
    · omega
    · split <;> omega
  · omega
theorem made_len (L : List Pr) : ∀ i, i ≤ L.length → (madeL (L.take i)).length ≤ i
  | 0, _ => by simp [madeL]
  | i + 1, h => by
    rw [made_step L (by omega)]
    have := putP_len (madeL (L.take i)) (gt L i).1 (gt L i).2
    have := made_len L i (by omega)
    omega
theorem made_mem {L : List Pr} (hl : L.length ≤ 100) {i : Nat} (hi : i < L.length) (hf : fairB (gt L i) = true) (hlast : ∀ j, i < j → j < L.length → (gt L j).1 ≠ (gt L i).1 ∨ 32 < (gt L j).2.length) : ∀ t, i < t → t ≤ L.length → gt L i ∈ madeL (L.take t)
  | 0, h, _ => by omega
  | t + 1, h, ht => by
    have hln := made_len L t (by omega)
    have hp := (put_few (P := madeL (L.take t)) (by omega) (gt L t).1 (gt L t).2).1
    rw [made_step L (by omega), hp]
    by_cases e : i = t
    · subst e
      rw [show ((gt L i).1, (gt L i).2) = gt L i from rfl, hf, if_pos rfl]
      exact mem_put_new _ _ _
    · have ih := made_mem hl hi hf hlast t (by omega) (by omega)
      split
      · rename_i hft
        rcases hlast t (by omega) (by omega) with h1 | h1
        · exact mem_put_keep (k' := (gt L i).1) (v' := (gt L i).2) ih (fun e => h1 e.symm)
        · unfold fairB at hft
          simp at hft
          omega
      · exact ih
theorem made_all {L : List Pr} (hl : L.length ≤ 100) {i : Nat} (hi : i < L.length) (hf : fairB (gt L i) = true) (hlast : ∀ j, i < j → j < L.length → (gt L j).1 ≠ (gt L i).1 ∨ 32 < (gt L j).2.length) : gt L i ∈ madeL L := by
  have := made_mem hl hi hf hlast L.length (by omega) (Nat.le_refl _)
  rwa [List.take_length] at this

/-- The law's own keys. -/
def bk (i : Nat) : Ky := [UInt8.ofNat (i * 7 % 251), UInt8.ofNat (i % 256)]
def bv (i : Nat) : Ky := [UInt8.ofNat (i % 256)]
theorem bk_fair (i : Nat) : fairB (bk i, bv i) = true := rfl
theorem bk_byt (w : World) (i : Nat) {x y : Int} (hx : x = ((i * 7 % 251 : Nat) : Int)) (hy : y = ((i % 256 : Nat) : Int)) : Byt (w.alloc (.cells #[.int .u8 x, .int .u8 y] 5)) (some ⟨w.heap.size, 0, none⟩) 2 (bk i) :=
  byt_two w _ _ _ _ (by rw [u8_back (by omega)]; exact hx) (by rw [u8_back (by omega)]; exact hy)
theorem bv_byt (w : World) (i : Nat) {y : Int} (hy : y = ((i % 256 : Nat) : Int)) (fr : Nat × Nat) : Byt (w.alloc (.cells #[.int .u8 y] 5 fr)) (some ⟨w.heap.size, 0, none⟩) 1 (bv i) :=
  byt_lit w _ y (by rw [u8_back (by omega)]; exact hy) fr
end Go.Proofs.Ytbpmdjcmmokliaa

namespace Go.Proofs.Ytbpmdjcmmokliaa
open Go.RowKit
set_option linter.unusedVariables false
set_option maxRecDepth 100000

/-- Where nothing is asked: no such tree, too many pairs, a number out of range. -/
theorem bounds_let {w : World} {A : Option Addr} {n c : Nat} (m : Int) (z : Int) {L : List Pr} (h : Prs w A n c L) (hl : ¬ (3 ≤ m ∧ m ≤ 16) ∨ fewB L 100 = false ∨ z < 0 ∨ 300 < z) :
    Calls Try.prog 5 #[.int .i64 m, .slice A n c, .int .i64 z] w fun e w' => e = .returned (.bool true) ∧ Below w.heap.size w w' := by
  have HUP := up_any w
  have H := Lib.hid h
  by_cases hm : 3 ≤ m ∧ m ≤ 16
  case neg =>
    have HMN := Lib.hid (fun w => made_no (w := w) (A := A) (n := n) (c := c) m hm)
    have HFW := Lib.hid (show ∀ w1, Below w.heap.size w w1 → Calls Try.prog 7 #[.slice A n c, .int .i64 100] w1 fun e w' => e = .returned (.bool (fewB L 100)) ∧ w1 = w' from fun w1 hb => few_any 100 (H.out.below hb))
    clear hm hl h
    go_enter Try.func5, Try.ntmps5
    go_wp2_with fail
    refine HUP.mono ?_
    rintro e w1 ⟨rfl, hb1⟩
    have HB := Lib.hid hb1
    have HFX := HFW.out w1 hb1
    generalize fewB L 100 = fb at HFX
    clear hb1 HFW
    go_wp2_with fail
    refine HFX.mono ?_
    rintro e w2 ⟨rfl, rfl⟩
    clear HFX
    go_wp2_with fail
    refine (HMN.out _).mono ?_
    rintro e w2 ⟨rfl, rfl⟩
    go_wp2
    go_ret
    exact ⟨rfl, HB.out⟩
  case pos =>
    have hl2 : fewB L 100 = false ∨ (fewB L 100 = true ∧ z < 0) ∨ (fewB L 100 = true ∧ ¬ z < 0 ∧ 300 < z) := by
      cases hf : fewB L 100
      · exact .inl rfl
      · rcases hl with h | h | h | h
        · exact absurd hm h
        · exact absurd (hf.symm.trans h) (by decide)
        · exact .inr (.inl ⟨rfl, h⟩)
        · exact .inr (.inr ⟨rfl, by omega, h⟩)
    obtain ⟨m', rfl⟩ : ∃ m' : Nat, m = (m' : Int) := ⟨m.toNat, by omega⟩
    have h3 : 3 ≤ m' := by omega
    have h16 : m' ≤ 16 := by omega
    have HMY := Lib.hid (fun w1 (hb : Below w.heap.size w w1) => made_yes (w := w1) (H.out.below hb) h3 h16)
    have HFW := Lib.hid (show ∀ w1, Below w.heap.size w w1 → Calls Try.prog 7 #[.slice A n c, .int .i64 100] w1 fun e w' => e = .returned (.bool (fewB L 100)) ∧ w1 = w' from fun w1 hb => few_any 100 (H.out.below hb))
    clear hm h h3 h16 hl
    rcases hl2 with hf | ⟨hf, hz⟩ | ⟨hf, hz, hz2⟩
    case' inl => skip
    case' inr.inl =>
      have g1 : decide (z < 0) = true := by simp; omega
    case' inr.inr =>
      have g1 : decide (z < 0) = false := by simp; omega
      have g2 : decide (300 < z) = true := by simp; omega
    all_goals
      rw [hf] at HFW
      clear hf
      go_enter Try.func5, Try.ntmps5
      go_wp2_with fail
      refine HUP.mono ?_
      rintro e w1 ⟨rfl, hb1⟩
      have HB := Lib.hid hb1
      have HFX := HFW.out w1 hb1
      clear hb1 HFW
      go_wp2_with fail
      refine HFX.mono ?_
      rintro e w2 ⟨rfl, rfl⟩
      clear HFX
      go_wp2_with fail
      refine (HMY.out _ HB.out).mono ?_
      rintro e w2 ⟨tb, rfl, -, hb2⟩
      have HB2 := Lib.hid (below_on HB.out hb2)
      clear hb2
      go_wp2
      go_ret
      exact ⟨rfl, HB2.out⟩

/-- What is there of the pairs that came in. -/
def Keep (L P : List Pr) : Prop := ∀ k v, (k, v) ∈ madeL L → k.length ≠ 2 → (k, v) ∈ P
theorem TrB.d {B : Nat} {w : World} {tb m : Nat} {P : List Pr} (h : TrB B w tb m P) : ∃ D, TreD B D w tb m P := by
  obtain ⟨h0, D, h1, h2⟩ := h
  exact ⟨D, h0, h1, h2⟩
theorem Keep.put {L P : List Pr} (h : Keep L P) (i : Nat) : Keep L (putL P (bk i) (bv i)) := fun k v hm hk => mem_put_keep (h k v hm hk) (fun e => hk (by rw [e]; rfl))

set_option maxHeartbeats 16000000 in
theorem bounds_in {w : World} {A : Option Addr} {n c : Nat} {m z : Nat} {L : List Pr} (h : Prs w A n c L) (hf : fewB L 100 = true) (h3 : 3 ≤ m) (h16 : m ≤ 16) (hz : z ≤ 300) :
    Calls Try.prog 5 #[.int .i64 m, .slice A n c, .int .i64 z] w fun e w' => e = .returned (.bool true) ∧ Below w.heap.size w w' := by
  have H := Lib.hid h
  have HF0 := Lib.hid hf
  have hlen : L.length = n := h.len
  have hn100 : n ≤ 100 := by have := (few_small hf).2; omega
  have HM := Lib.hid (And.intro h3 h16)
  have g1 : decide ((z : Int) < 0) = false := by simp
  have g2 : decide (300 < (z : Int)) = false := by simp; omega
  have g2b : decide (300 < z) = false := by simp; omega
  clear h hf h3 h16
  go_enter Try.func5, Try.ntmps5
  go_wp2_with fail
  refine (up_any _).mono ?_
  rintro e w1 ⟨rfl, hb1⟩
  have HB := Lib.hid hb1
  have HF : Calls Try.prog 7 #[.slice A n c, .int .i64 100] w1 _ := few_any 100 (H.out.below hb1)
  rw [HF0.out] at HF
  have HF := Lib.hid HF
  clear hb1
  go_wp2_with fail
  refine HF.out.mono ?_
  rintro e w2 ⟨rfl, rfl⟩
  clear HF
  have HN := made_yes (H.out.below HB.out) HM.out.1 HM.out.2
  go_wp2_with fail
  refine HN.mono ?_
  rintro e w2 ⟨tb, rfl, ht, hb⟩
  have HT := Lib.hid ht
  have HB2 := Lib.hid (below_on HB.out hb)
  have HS := Lib.hid HB.out.size
  have hml := made_len L L.length (Nat.le_refl _)
  rw [List.take_length] at hml
  have HML := Lib.hid hml
  clear HN ht hb hml
  go_wp2_with fail
  clear g1 g2 g2b
  go_loopw [10] (fun x wr => ∃ (i : Nat) (P : List Pr), x = .int .i64 (i : Nat) ∧ i ≤ z ∧ P.length ≤ 100 + i ∧ Keep L P ∧ (∃ D, TreD w1.heap.size D wr tb m P) ∧ Below w.heap.size w wr) (fun x _ => z + 1 - (intOf x).toNat)
  case atStart => exact ⟨0, madeL L, rfl, Nat.zero_le _, by have := HML.out; omega, fun k v h _ => h, HT.out.d, HB2.out⟩
  case round =>
    obtain ⟨i, P, rfl, hi, hPl, hkp, ⟨D, ht⟩, hb⟩ := hrel
    have HTr := Lib.hid ht
    have HBr := Lib.hid hb
    have HKP := Lib.hid hkp
    clear HT HB2 ht hb hkp
    by_cases hin : i < z
    case pos =>
      have hinI : (i : Int) < (z : Int) := by omega
      have q1 : IntKind.u8.wrap ((i : Int) * 7 % 251) = ((i * 7 % 251 : Nat) : Int) := IntWalk.u8_in _ (by omega)
      have q2 : IntKind.u8.wrap (i : Int) = ((i % 256 : Nat) : Int) := by rw [IntKind.wrap_u8]; omega
      have hDl := HTr.out.tre.lt
      have hsz : w1.heap.size ≤ wr.heap.size := HTr.out.b.lt
      have x1 : ((i : Int) * 7 % 251) = ((i * 7 % 251 : Nat) : Int) := by omega
      have x2 : ((i : Int) % 256) = ((i % 256 : Nat) : Int) := by omega
      have HWB := Lib.hid (((Below.refl wr.heap.size wr).alloc (Nat.le_refl _) (.cells #[.int .u8 ((i : Int) * 7 % 251), .int .u8 ((i : Int) % 256)] 5)).alloc (by simp) (.cells #[.int .u8 ((i : Int) % 256)] 5))
      have hk1 := (bk_byt wr i x1 x2).alloc (.cells #[.int .u8 ((i : Int) % 256)] 5)
      have hv1 := bv_byt (wr.alloc (.cells #[.int .u8 ((i : Int) * 7 % 251), .int .u8 ((i : Int) % 256)] 5)) i x2 (0, 0)
      have HKO := Lib.hid (byt_on (C := fun b => ¬ D b ∧ b ≠ tb) hk1 (fun a _ e => by
        injection e with e
        subst e
        exact ⟨fun hd => by have h1 := hDl.2 _ hd; simp at h1, fun e => by have h1 := hDl.1; have e' : wr.heap.size = tb := e; omega⟩))
      have HP := putd (w := (wr.alloc (.cells #[.int .u8 ((i : Int) * 7 % 251), .int .u8 ((i : Int) % 256)] 5)).alloc (.cells #[.int .u8 ((i : Int) % 256)] 5)) (HTr.out.below HWB.out) (Nat.le_trans hsz HWB.out.size) 2 1 hk1 hv1 (by omega) (by omega)
      obtain ⟨pf1, pf2, pf3⟩ := put_few (P := P) (by omega) (bk i) (bv i)
      rw [bk_fair, if_pos rfl] at pf1 pf2
      rw [pf1, pf2, errV_zero, alloc_sz] at HP
      generalize putF P (bk i) (bv i) = fr at HP
      have HP := Lib.hid HP
      have HX := Lib.hid (And.intro x1 x2)
      have hpl := len_put P (bk i) (bv i)
      have HPL := Lib.hid (show (putL P (bk i) (bv i)).length ≤ 100 + (i + 1) by omega)
      clear hDl x1 x2 hk1 hv1 pf1 pf2 pf3 hpl
      go_wp2_with fail
      refine HP.out.mono ?_
      rintro e w3 ⟨rfl, D3, ht3, hd3, ho3, hb3⟩
      have HT3 := Lib.hid ht3
      have HB3 := Lib.hid ((below_on HBr.out HWB.out).trans (hb3.mono HS.out))
      have HK3 := Lib.hid (on_put HKO.out ho3 hd3)
      obtain ⟨v1, v2⟩ := val_mem ht3.tre.fit.1 (mem_put_new P (bk i) (bv i))
      have HG := getb HT3.out.b 2 HK3.out.here
      unfold GetOut at HG
      rw [v1, v2] at HG
      have HG := Lib.hid HG
      clear HP ht3 hd3 ho3 hb3 v1 v2 HKO
      go_wp2_with fail
      refine HG.out.mono ?_
      rintro e w4 ⟨A4, n4, c4, rfl, y4, hb4⟩
      have HB4 := Lib.hid (below_on HB3.out hb4)
      have HT4 := Lib.hid (HT3.out.below hb4)
      have s4 := run_str (c := c4) y4
      have s5 := run_str (c := 1) (bv_byt w4 i HX.out.2 (0, 0))
      clear HG hb4 y4
      --T
      go_wp2_with fail
      go_roundw
      case rel => exact ⟨i + 1, _, rfl, by omega, HPL.out, HKP.out.put i, ⟨D3, HT4.out.below ((Below.refl _ _).alloc (Nat.le_refl _) _)⟩, HB4.out.alloc HB4.out.size _⟩
      case measure => simp [intOf]; omega
    case neg =>
      have hinI : ¬ ((i : Int) < (z : Int)) := by omega
      have HTB := Lib.hid HTr.out.b
      have hP1 : P.length ≤ 1000 := by omega
      clear HTr
      go_wp2_with fail
      clear hinI hin
      obtain ⟨w6, hw6⟩ : ∃ w6, w6 = wr := ⟨wr, rfl⟩
      subst hw6
      go_loopw [16] (fun x wo => ∃ i : Nat, x = .int .i64 (i : Nat) ∧ i ≤ n ∧ Below w6.heap.size w6 wo) (fun x _ => n + 1 - (intOf x).toNat)
      case atStart => exact ⟨0, rfl, Nat.zero_le _, Below.refl _ _⟩
      case round =>
        obtain ⟨i, rfl, hi, hbo⟩ := hrel
        obtain ⟨wo, hwo⟩ : ∃ wo, wo = wr := ⟨wr, rfl⟩
        subst hwo
        have HBO := Lib.hid hbo
        have HBW := Lib.hid (below_on HBr.out hbo)
        by_cases hin : i < n
        case pos =>
          have hinI : (i : Int) < (n : Int) := by omega
          obtain ⟨b, oo, rfl, hbl, A3, n3, c3, B3, m3, d3, k0, k1, y3, y4⟩ := H.out.at_ hin
          have hsh := few_short HF0.out (gt L i) (gt_mem (by omega))
          rw [y3.1, y4.1] at hsh
          have hn3 : n3 ≤ 100 := hsh.1
          have hm3 : m3 ≤ 100 := hsh.2
          have HY := Lib.hid (And.intro y3 y4)
          have HCL := Lib.hid (show ∀ w5, Below w.heap.size w w5 → w5.cell? ⟨b, oo + i * 2, none⟩ = some (.slice A3 n3 c3) ∧ w5.cell? ⟨b, oo + i * 2 + 1, none⟩ = some (.slice B3 m3 d3) from fun w5 hb5 => ⟨(hb5.cell hbl).trans k0, (hb5.cell hbl).trans k1⟩)
          have HAT := Lib.hid (show ∀ j, j < n → ∃ A2 n2 c2 B2 m2 d2, w.cell? ⟨b, oo + j * 2, none⟩ = some (.slice A2 n2 c2) ∧ w.cell? ⟨b, oo + j * 2 + 1, none⟩ = some (.slice B2 m2 d2) ∧ Byt w A2 n2 (gt L j).1 ∧ Byt w B2 m2 (gt L j).2 from fun j hj => by
            obtain ⟨b', oo', e, hbl', A2, n2, c2, B2, m2, d2, q0, q1, z1, z2⟩ := H.out.at_ hj
            injection e with e
            injection e with e1 e2
            subst e1
            subst e2
            exact ⟨A2, n2, c2, B2, m2, d2, q0, q1, z1, z2⟩)
          have HBL := Lib.hid hbl
          clear hbo y3 y4 hsh k0 k1 hbl
          go_wp2_with fail
          go_loopw [17, 18] (fun u x wi => ∃ (l : Bool) (j : Nat), u = .bool l ∧ x = .int .i64 (j : Nat) ∧ i < j ∧ j ≤ n ∧ (l = true → ∀ t, i < t → t < j → (gt L t).1 ≠ (gt L i).1 ∨ 32 < (gt L t).2.length) ∧ Below wo.heap.size wo wi) (fun _ x _ => n + 1 - (intOf x).toNat)
          case atStart => exact ⟨true, i + 1, rfl, rfl, by omega, by omega, fun _ t h1 h2 => by omega, Below.refl _ _⟩
          case round =>
            obtain ⟨l, j, rfl, rfl, hij, hj, hlast, hbi⟩ := hrel
            obtain ⟨wi, hwi⟩ : ∃ wi, wi = wr := ⟨wr, rfl⟩
            subst hwi
            have HLA := Lib.hid hlast
            have HBI := Lib.hid hbi
            have HBN := Lib.hid (below_on HBW.out hbi)
            clear hlast hbi
            by_cases hjn : j < n
            case pos =>
              have hjI : (j : Int) < (n : Int) := by omega
              obtain ⟨A2, n2, c2, B2, m2, d2, e0, e1, y1, y2⟩ := HAT.out j hjn
              have hsh := few_short HF0.out (gt L j) (gt_mem (by omega))
              rw [y1.1, y2.1] at hsh
              have hn2 : n2 ≤ 100 := hsh.1
              have hm2 : m2 ≤ 100 := hsh.2
              have x0 := (HBN.out.cell (p := ⟨b, oo + j * 2, none⟩) HBL.out).trans e0
              have x1 := (HBN.out.cell (p := ⟨b, oo + j * 2 + 1, none⟩) HBL.out).trans e1
              obtain ⟨x2, x3⟩ := HCL.out wi HBN.out
              have r1 := fun q => run_str (c := c2) ((y1.below HBN.out).drewN q)
              have r2 := fun q => run_str (c := c3) ((HY.out.1.below HBN.out).drewN q)
              have HV := Lib.hid y2.1
              obtain ⟨s1, hs1⟩ : ∃ s1, s1 = (gt L j).1 := ⟨_, rfl⟩
              obtain ⟨s2, hs2⟩ : ∃ s2, s2 = (gt L i).1 := ⟨_, rfl⟩
              rw [← hs1] at r1
              rw [← hs2] at r2
              have HSE := Lib.hid (And.intro hs1 hs2)
              clear e0 e1 y1 y2 hsh hs1 hs2
              cases l
              case' false =>
                go_wp2_with fail
                go_quiet (fail)
                clear r1 r2 x0 x1 x2 x3
                have HNX := Lib.hid (show (false = true → ∀ t, i < t → t < j + 1 → (gt L t).1 ≠ (gt L i).1 ∨ 32 < (gt L t).2.length) from fun h => by cases h)
              case' true =>
                by_cases hs : s1 = s2
                case' neg =>
                  have hne : (s1 != s2) = true := by simp [hs]
                  have heq : (s1 == s2) = false := by simp [hs]
                  have HNX := Lib.hid (show (true = true → ∀ t, i < t → t < j + 1 → (gt L t).1 ≠ (gt L i).1 ∨ 32 < (gt L t).2.length) from fun _ t h1 h2 => by
                    rcases Nat.lt_or_ge t j with h | h
                    · exact HLA.out rfl t h1 h
                    · obtain rfl : t = j := by omega
                      exact .inl (fun e => hs (HSE.out.1.trans (e.trans HSE.out.2.symm))))
                  clear hs
                  go_wp2_with fail
                  go_quiet (fail)
                  clear r1 r2 x0 x1 x2 x3
                case' pos =>
                  have hne : (s1 != s2) = false := by simp [hs]
                  have heq : (s1 == s2) = true := by simp [hs]
                  clear hs
                  by_cases h32 : 32 < m2
                  case' pos =>
                    have h32I : decide ((32 : Int) < (m2 : Int)) = true := by simp; omega
                    have h32b : decide (32 < m2) = true := by simp; omega
                    have HNX := Lib.hid (show (true = true → ∀ t, i < t → t < j + 1 → (gt L t).1 ≠ (gt L i).1 ∨ 32 < (gt L t).2.length) from fun _ t h1 h2 => by
                      rcases Nat.lt_or_ge t j with h | h
                      · exact HLA.out rfl t h1 h
                      · obtain rfl : t = j := by omega
                        exact .inr (by rw [HV.out]; exact h32))
                    clear h32
                    go_wp2_with fail
                    go_quiet (fail)
                    clear r1 r2 x0 x1 x2 x3
                  case' neg =>
                    have h32I : decide ((32 : Int) < (m2 : Int)) = false := by simp; omega
                    have h32b : decide (32 < m2) = false := by simp; omega
                    have HNX := Lib.hid (show (false = true → ∀ t, i < t → t < j + 1 → (gt L t).1 ≠ (gt L i).1 ∨ 32 < (gt L t).2.length) from fun h => by cases h)
                    clear h32
                    go_wp2_with fail
                    go_quiet (fail)
                    clear r1 r2 x0 x1 x2 x3
              all_goals
                go_wp2
                go_roundw
                case rel => exact ⟨_, j + 1, rfl, rfl, by omega, by omega, (fun h => by first | exact HNX.out h | exact HNX.out trivial | cases h), below_drewN HBI.out _⟩
                case measure => simp [intOf]; omega
            case neg =>
              have hjI : ¬ ((j : Int) < (n : Int)) := by omega
              obtain ⟨x2, x3⟩ := HCL.out wi HBN.out
              have HMY := rmay_any c3 (HY.out.1.below HBN.out)
              have HBX := Lib.hid (below_on HBO.out HBI.out)
              have hjn' : j = n := by omega
              have HLX := Lib.hid (show l = true → ∀ t, i < t → t < L.length → (gt L t).1 ≠ (gt L i).1 ∨ 32 < (gt L t).2.length from fun h t h1 h2 => HLA.out h t h1 (by omega))
              clear hjn hjn'
              by_cases hpass : mayB (gt L i).1 = true ∧ ¬ 32 < m3 ∧ l = true ∧ ¬ n3 = 2
              case neg =>
                have hcs : mayB (gt L i).1 = false ∨ (mayB (gt L i).1 = true ∧ 32 < m3) ∨ (mayB (gt L i).1 = true ∧ ¬ 32 < m3 ∧ l = false) ∨ (mayB (gt L i).1 = true ∧ ¬ 32 < m3 ∧ l = true ∧ n3 = 2) := by
                  cases h1 : mayB (gt L i).1
                  · exact .inl rfl
                  · by_cases h2 : 32 < m3
                    · exact .inr (.inl ⟨rfl, h2⟩)
                    · cases h3 : l
                      · exact .inr (.inr (.inl ⟨rfl, h2, rfl⟩))
                      · by_cases h4 : n3 = 2
                        · exact .inr (.inr (.inr ⟨rfl, h2, rfl, h4⟩))
                        · exact absurd ⟨h1, h2, h3, h4⟩ hpass
                clear hpass HLX HLA
                rcases hcs with h1 | ⟨h1, h2⟩ | ⟨h1, h2, rfl⟩ | ⟨h1, h2, rfl, h4⟩
                case' inl => skip
                case' inr.inl =>
                  have h2I : decide ((32 : Int) < (m3 : Int)) = true := by simp; omega
                  have h2b : decide (32 < m3) = true := by simp; omega
                case' inr.inr.inl =>
                  have h2I : decide ((32 : Int) < (m3 : Int)) = false := by simp; omega
                  have h2b : decide (32 < m3) = false := by simp; omega
                case' inr.inr.inr =>
                  have h2I : decide ((32 : Int) < (m3 : Int)) = false := by simp; omega
                  have h2b : decide (32 < m3) = false := by simp; omega
                  have h4I : ((n3 : Int) == 2) = true := by simp; omega
                  have h4b : (n3 == 2) = true := by simp; omega
                  clear h4
                all_goals
                  rw [h1] at HMY
                  clear h1
                  go_wp2_with fail
                  refine HMY.mono ?_
                  rintro e wi ⟨rfl, rfl⟩
                  clear HMY
                  go_wp2
                  go_roundw
                  case rel => exact ⟨i + 1, rfl, by omega, HBX.out⟩
                  case measure => simp [intOf]; omega
              case pos =>
                obtain ⟨h1, h2, rfl, h4⟩ := hpass
                have h2I : decide ((32 : Int) < (m3 : Int)) = false := by simp; omega
                have h2b : decide (32 < m3) = false := by simp; omega
                have h4I : ((n3 : Int) == 2) = false := by simp; omega
                have h4b : (n3 == 2) = false := by simp; omega
                have hfr : fairB (gt L i) = true := by
                  unfold fairB
                  rw [h1, HY.out.2.1]
                  simp
                  omega
                have hmm := made_all (by omega) (by omega) hfr (HLX.out rfl)
                have hmP := HKP.out (gt L i).1 (gt L i).2 hmm (by rw [HY.out.1.1]; exact h4)
                obtain ⟨v1, v2⟩ := val_mem (k := (gt L i).1) (v := (gt L i).2) HTB.out.fit.1 hmP
                have HG := getb (HTB.out.below HBX.out) c3 (HY.out.1.below HBN.out)
                unfold GetOut at HG
                rw [v1, v2] at HG
                have HG := Lib.hid HG
                rw [h1] at HMY
                clear h1 h4 h2 hfr hmm hmP v1 v2 HLX HLA
                go_wp2_with fail
                refine HMY.mono ?_
                rintro e wi ⟨rfl, rfl⟩
                clear HMY
                go_wp2_with fail
                refine HG.out.mono ?_
                rintro e w9 ⟨A5, n5, c5, rfl, y5, hb9⟩
                have HB9 := Lib.hid (below_on HBX.out hb9)
                have HN9 := Lib.hid (below_on HBN.out hb9)
                obtain ⟨x2, x3⟩ := HCL.out w9 HN9.out
                have r1 := fun q => run_str (c := c5) (y5.drewN q)
                have r2 := fun q => run_str (c := d3) ((HY.out.2.below HN9.out).drewN q)
                obtain ⟨sv, hsv⟩ : ∃ sv, sv = (gt L i).2 := ⟨_, rfl⟩
                rw [← hsv] at r1 r2
                have heq : (sv == sv) = true := by simp
                clear HG hb9 y5 hsv
                go_wp2_with fail
                go_quiet (fail)
                clear r1 r2 x2 x3
                go_wp2
                go_roundw
                case rel => exact ⟨i + 1, rfl, by omega, below_drewN HB9.out _⟩
                case measure => simp [intOf]; omega
        case neg =>
          have hinI : ¬ ((i : Int) < (n : Int)) := by omega
          have hTB := HTB.out.below hbo
          obtain ⟨h0, D1, ⟨g, LL, root, d, t, hT, hG, hfl, hle⟩, h5⟩ := hTB
          subst hfl
          have HSD := Lib.hid (sound_any hT hG hle)
          have HTG := Lib.hid (And.intro hT (And.intro hG hle))
          clear hT hG hle h0 h5
          go_wp2_with fail
          refine HSD.out.mono ?_
          rintro e w9 ⟨xb, S, rfl, hK, hS, hb9⟩
          have HOV := Lib.hid (over_any (HTG.out.1.below hb9) HTG.out.2.1 HTG.out.2.2 hK)
          have HB9 := Lib.hid (below_on HBW.out hb9)
          clear HSD hK hS hb9
          go_wp2_with fail
          refine HOV.out.mono ?_
          rintro e w9 ⟨rfl, rfl⟩
          go_wp2
          go_ret
          exact ⟨rfl, HB9.out⟩

theorem bounds_any {w : World} {A : Option Addr} {n c : Nat} (m z : Int) {L : List Pr} (h : Prs w A n c L) :
    Calls Try.prog 5 #[.int .i64 m, .slice A n c, .int .i64 z] w fun e w' => e = .returned (.bool true) ∧ Below w.heap.size w w' := by
  by_cases hl : ¬ (3 ≤ m ∧ m ≤ 16) ∨ fewB L 100 = false ∨ z < 0 ∨ 300 < z
  · exact bounds_let m z h hl
  · have hf : fewB L 100 = true := by cases hf : fewB L 100 <;> simp_all
    have hm : 3 ≤ m ∧ m ≤ 16 := Classical.byContradiction fun hh => hl (.inl hh)
    have hz1 : ¬ z < 0 := fun hh => hl (.inr (.inr (.inl hh)))
    have hz2 : ¬ 300 < z := fun hh => hl (.inr (.inr (.inr hh)))
    obtain ⟨m', rfl⟩ : ∃ m' : Nat, m = (m' : Int) := ⟨m.toNat, by omega⟩
    obtain ⟨z', rfl⟩ : ∃ z' : Nat, z = (z' : Int) := ⟨z.toNat, by omega⟩
    exact bounds_in h hf (by omega) (by omega) (by omega)
end Go.Proofs.Ytbpmdjcmmokliaa
