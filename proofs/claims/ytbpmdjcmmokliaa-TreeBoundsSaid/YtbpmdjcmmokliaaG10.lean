/- The law's own Sound: of a sound tree it is true, and what it saw is the tree's. Condition: at most 1000 pairs. A tree of one's own, whatever its blocks; the law's head (the document's example): it returns true; nothing that was there is changed. No condition. A slice of pairs that came in, and a slice of bytes that came in, read as lists. No condition. What TreeFull asks: its keys, plain; the walk. No condition. Contracts of the document's own Delete and Put, once more: in what blocks the row that they tell lies. Condition: as there. -/
import Derived.Test.YtbpmdjcmmokliaaG9
import Derived.Lib.SlBytesConst
import Derived.Lib.SmallJoins
import Derived.Test.YtbpmdjcmmokliaaRows
import Derived.Test.YtbpmdjcmmokliaaG1
import Derived.Deep.Slices
import Derived.Deep.Fields
import Derived.WalkKit
import Derived.ProofKit
import Derived.OpenShut
import Derived.ShutString
import Derived.ChangeOld
import Derived.Below
namespace Go.Proofs.Ytbpmdjcmmokliaa
open Go.RowKit
set_option linter.unusedVariables false
set_option maxRecDepth 100000

/-- What Sound sees of a tree. -/
def sawn (d : Nat) (t : Tr d) : LkS := seen d t 1 ⟨[], [], [], 0, 0⟩
theorem sawn_is (d : Nat) (t : Tr d) : sawn d t = ⟨(lvp d t).map (fun x => x.1), (lvp d t).map (fun x => x.2.2), flat d t, (nums d t).length, d + 1⟩ := by
  unfold sawn seen
  simp
  omega
def SndOut (w : World) (tb d : Nat) (t : Tr d) (e : Ending) (w' : World) : Prop :=
  ∃ xb S, e = .returned (.tuple #[.pointer (some ⟨xb, 0, none⟩), .bool true]) ∧ LkM w' S xb tb (sawn d t) ∧ (∀ b, S b → w.heap.size ≤ b) ∧ Below w.heap.size w w'

theorem look_new (w : World) (tb : Nat) : ∃ W, W = w.alloc (.cells #[.pointer (some ⟨tb, 0, none⟩), .slice none 0 0, .slice none 0 0, .slice none 0 0, .int .i64 0, .int .i64 0, .bool false] 49) ∧
    Below w.heap.size w W ∧ W.heap.size = w.heap.size + 1 ∧ LkM W (· = w.heap.size) w.heap.size tb ⟨[], [], [], 0, 0⟩ := by
  refine ⟨_, rfl, (Below.refl _ _).alloc (Nat.le_refl _) _, by simp, .slice none 0 0, .slice none 0 0, .slice none 0 0, ?_, heap_alloc_new w _, World.ownsRow_nil _ _ _ _, World.ownsRow_nil _ _ _ _, ⟨[], World.ownsRow_nil _ _ _ _, rfl, fun j hj => by cases hj⟩, (fun e => by cases e), (fun e => by cases e), (fun e => by cases e), (fun k e => by cases e), (fun k e => by cases e), (fun k e => by cases e)⟩
  funext b
  apply propext
  constructor
  · exact fun h => .inl h
  · rintro (h | h | h | h)
    · exact h
    · cases h
    · cases h
    · cases h
/-- A Look's lists as they read. -/
theorem LkM.lists {w : World} {S : Nat → Prop} {xb tb : Nat} {s : LkS} (h : LkM w S xb tb s) : ∃ A1 c1 A2 c2 A3 c3, w.cell? ⟨xb, 1, none⟩ = some (.slice A1 s.lv.length c1) ∧ w.cell? ⟨xb, 2, none⟩ = some (.slice A2 s.nx.length c2) ∧ w.cell? ⟨xb, 3, none⟩ = some (.slice A3 s.ps.length c3) ∧
    Ins w A1 s.lv.length c1 (s.lv.map (fun (i : Nat) => (i : Int))) ∧ Ins w A2 s.nx.length c2 s.nx ∧ Prs w A3 s.ps.length c3 s.ps := by
  obtain ⟨vL, vN, vP, rfl, h⟩ := h
  obtain ⟨k0, k1, k2, k3, k4, k5, k6, kf⟩ := h.cells
  obtain ⟨A1, c1, rfl, -⟩ := own_new h.rl
  obtain ⟨A2, c2, rfl, -⟩ := own_new h.rn
  obtain ⟨xs, h1, h2⟩ := h.rp
  obtain ⟨A3, c3, rfl, -⟩ := own_new h1
  refine ⟨A1, c1, A2, c2, A3, c3, k1, k2, k3, ?_, ?_, ?_⟩
  · have := h.rl
    have e : s.lv.map natV = (s.lv.map (fun (i : Nat) => (i : Int))).map intV := by rw [List.map_map]; rfl
    rw [e] at this
    exact (ins_on (C := fun _ => True) this (fun _ _ => trivial)).here
  · exact (ins_on (C := fun _ => True) h.rn (fun _ _ => trivial)).here
  · obtain ⟨A, c, e, hp, _⟩ := own_prs h1 (L := s.ps) ⟨h2.1, fun j hj => by
      obtain ⟨A, n, c, B, m, d, e1, e2, e3, e4⟩ := h2.2 j hj
      exact ⟨A, n, c, B, m, d, e1, e2, e3.here, e4.here⟩⟩
    injection e with e1 e2 e3
    subst e1
    subst e3
    exact hp

set_option maxHeartbeats 4000000 in
theorem sound_any {w : World} {D : Nat → Prop} {tb g : Nat} {L : List (Option Nd)} {root m : Nat} {d : Nat} {t : Tr d} (h : TrM w D tb g L root m (flat d t).length) (hg : GoodT L m root d t) (hP : (flat d t).length ≤ 1000) :
    Calls Try.prog 17 #[.pointer (some ⟨tb, 0, none⟩)] w (SndOut w tb d t) := by
  obtain ⟨f1, f2, f3⟩ := hg.few hP
  have HN := Lib.hid (look_new w tb)
  have HT := Lib.hid h
  have HG := Lib.hid hg
  have hfew := lvp_few d t
  rw [hg.all] at hfew
  have HF := Lib.hid (And.intro hfew (And.intro f1 (And.intro f2 (And.intro f3 hP))))
  have htl : tb < w.heap.size := h.lt.1
  obtain ⟨c0, c1, -, -, -, -⟩ := h.cells
  clear h hg hfew f1 f2 f3
  go_enter Try.func17, Try.ntmps17
  go_wp2_with fail
  obtain ⟨W, hW, hWB, hWs, hWK⟩ := HN.out
  rw [← hW]
  clear hW HN c0 c1
  have HC := (node_all d).go (w := W) (D := D) (S := (· = w.heap.size)) (tb := tb) (g := g) (xb := w.heap.size) (L := L) (root := root) (m := m) (s := ⟨[], [], [], 0, 0⟩) (lo := []) (hi := []) (A1 := none) (B1 := none) (n1 := 0) (m1 := 0) (t := t) (dd := 1) (b := true) 0 0
    ⟨HT.out.below hWB, hWK, fun b hb => by
      have hd := HT.out.lt
      subst hb
      exact ⟨fun h => by have := hd.2 _ h; omega, by omega⟩, fun w' _ => ⟨rfl, fun h => absurd h (by omega)⟩, fun w' _ => ⟨rfl, fun h => absurd h (by omega)⟩, by omega, by omega,
      ⟨by have := HF.out.1; have := HF.out.2.1; show 0 + _ ≤ 5000; omega, by have := HF.out.1; have := HF.out.2.1; show 0 + _ ≤ 5000; omega, by have := HF.out.2.2.2.2; show 0 + _ ≤ 5000; omega, by have := HG.out.all; have := HF.out.2.1; show 0 + _ ≤ 3000; omega⟩, .inl rfl, by have := HF.out.2.2.1; omega, HG.out.holds, HG.out.m16, by have := HF.out.2.1; omega⟩ HG.out.ok (fun _ => HG.out.rt)
  rw [HG.out.rt] at HC
  have HC := Lib.hid HC
  have HWX := Lib.hid (And.intro hWB hWs)
  clear hWB hWs hWK
  refine HC.out.mono ?_
  rintro e w2 ⟨rfl, S, hK, hS, hO⟩
  have hb2 : Below w.heap.size w w2 := HWX.out.1.trans (hO.below (fun b hb => by show w.heap.size ≤ b; rw [hb]; exact Nat.le_refl _) (by have := HWX.out.2; omega))
  have hK : LkM w2 S w.heap.size tb (sawn d t) := hK
  rw [sawn_is] at hK
  have hS2 : ∀ b, S b → w.heap.size ≤ b := fun b hb => by
    have := HWX.out.2
    rcases hS b hb with h | h <;> omega
  have HK := Lib.hid hK
  have HB2 := Lib.hid (And.intro hb2 hS2)
  obtain ⟨k0, k4', k5, k6, -, -⟩ := hK.cells
  obtain ⟨A1, q1, A2, q2, A3, q3, k1', k2', k3', i1, i2, i3⟩ := hK.lists
  have HI := Lib.hid (And.intro i1 (And.intro i2 i3))
  obtain ⟨s0, hs0⟩ := HG.out.chn
  rw [lvp_lvs] at hs0
  have HE := Lib.hid (chn_each _ _ hs0)
  have HL2 := Lib.hid (HT.out.below hb2)
  obtain ⟨c0, -, -, c3, -, -⟩ := HL2.out.cells
  have k1 : w2.cell? ⟨w.heap.size, 1, none⟩ = some (.slice A1 (lvp d t).length q1) := by rw [k1']; simp
  have k2 : w2.cell? ⟨w.heap.size, 2, none⟩ = some (.slice A2 (lvp d t).length q2) := by rw [k2']; simp
  have k3 : w2.cell? ⟨w.heap.size, 3, none⟩ = some (.slice A3 (flat d t).length q3) := k3'
  have k4 : w2.cell? ⟨w.heap.size, 4, none⟩ = some (.int .i64 L.length) := by rw [k4', HG.out.all]
  clear k1' k2' k3' k4'
  obtain ⟨NN, hNN⟩ : ∃ NN, NN = (lvp d t).length := ⟨_, rfl⟩
  obtain ⟨PP, hPP⟩ : ∃ PP, PP = (flat d t).length := ⟨_, rfl⟩
  rw [← hNN] at k1 k2
  rw [← hPP] at k3 c3 hP
  have HNN := Lib.hid (And.intro hNN hPP)
  have hNNb : NN ≤ 2000 := by have := HF.out.1; have := HF.out.2.1; omega
  have hL2b : L.length ≤ 2000 := HF.out.2.1
  clear hb2 hK hS hO hS2 i1 i2 i3 hs0 hNN hPP
  --T1
  go_wp2_with fail
  --T2
  go_loopw [5] (fun v wr => ∃ j : Nat, v = .int .i64 (j : Nat) ∧ j ≤ NN ∧ w2 = wr) (fun v _ => NN + 1 - (intOf v).toNat)
  case atStart => exact ⟨0, rfl, Nat.zero_le _, rfl⟩
  case round =>
    obtain ⟨j, rfl, hj, rfl⟩ := hrel
    by_cases hjn : j < NN
    case pos =>
      have hjI : (j : Int) < (NN : Int) := by omega
      obtain ⟨b2, o2, rfl, hbl2, e2'⟩ := HI.out.2.1.at_ (j := j) (by simp; have := HNN.out.1; omega)
      have hE := HE.out j (by have := HNN.out.1; omega)
      have e2 : w2.cell? ⟨b2, o2 + j, none⟩ = some (.int .i64 (if j + 1 < NN then (((lvp d t).map fun x => x.1).getD (j + 1) 0 : Nat) else -1)) := by
        rw [e2']
        unfold iat
        rw [hE, ← HNN.out.1]
      clear e2'
      by_cases hj1 : j + 1 < NN
      case pos =>
        rw [if_pos hj1] at e2
        obtain ⟨b1, o1, rfl, hbl1, e1'⟩ := HI.out.1.at_ (j := j + 1) (by simp; have := HNN.out.1; omega)
        have hj1I : (j : Int) + 1 < (NN : Int) := by omega
        have e1 : w2.cell? ⟨b1, o1 + (j + 1), none⟩ = some (.int .i64 (((lvp d t).map fun x => x.1).getD (j + 1) 0 : Nat)) := by
          rw [e1']
          unfold iat
          rw [List.getD_eq_getElem?_getD, List.getElem?_map, List.getD_eq_getElem?_getD]
          cases h : ((lvp d t).map fun x => x.1)[j + 1]? with
          | none => rfl
          | some x => rfl
        clear e1'
        generalize ((lvp d t).map fun x => x.1).getD (j + 1) 0 = z at e1 e2
        have hzz : ((z : Int) != (z : Int)) = false := by simp
        clear hE
        go_wp2
        go_roundw
        case rel => exact ⟨j + 1, rfl, by omega, trivial⟩
        case measure => simp [intOf]; omega
      case neg =>
        rw [if_neg hj1] at e2
        have hj1I : ¬ ((j : Int) + 1 < (NN : Int)) := by omega
        have hzz : ((-1 : Int) != (-1 : Int)) = false := by decide
        clear hE
        go_wp2
        go_roundw
        case rel => exact ⟨j + 1, rfl, by omega, trivial⟩
        case measure => simp [intOf]; omega
    case neg =>
      have hjI : ¬ ((j : Int) < (NN : Int)) := by omega
      have HU := Lib.hid (fun q => used_any (w := w2.drewN q) (HL2.out.2.1.keep (below_all (below_drewN (Below.refl _ _) q))))
      have g1 : decide ((PP : Int) ≤ 1000) = true := by simp; omega
      go_wp2_with fail
      go_quiet ((go_at_call 34; exact quiet_drawn (HU.out _)))
      go_wp2
      go_ret2
      exact ⟨_, S, rfl, by rw [sawn_is]; exact HK.out.below (below_drewN (Below.refl _ _) _), HB2.out.2, below_drewN HB2.out.1 _⟩
end Go.Proofs.Ytbpmdjcmmokliaa

namespace Go.Proofs.Ytbpmdjcmmokliaa
open Go.RowKit
set_option linter.unusedVariables false
set_option maxRecDepth 100000

/-- A tree all of whose blocks are from B on. -/
def TrB (B : Nat) (w : World) (tb m : Nat) (P : List Pr) : Prop := B ≤ tb ∧ ∃ D, Tre w D tb m P ∧ ∀ b, D b → B ≤ b
theorem TrB.below {B : Nat} {w w' : World} {tb m : Nat} {P : List Pr} (h : TrB B w tb m P) (hb : Below w.heap.size w w') : TrB B w' tb m P := by
  obtain ⟨h0, D, h1, h2⟩ := h
  exact ⟨h0, D, h1.below hb, h2⟩
theorem TrB.fit {B : Nat} {w : World} {tb m : Nat} {P : List Pr} (h : TrB B w tb m P) : Fit P := by
  obtain ⟨h0, D, h1, h2⟩ := h
  exact h1.fit
theorem TrB.few {B : Nat} {w : World} {tb m : Nat} {P : List Pr} (h : TrB B w tb m P) : P.length ≤ 1000 := by
  obtain ⟨h0, D, ⟨g, L, root, d, t, h1, h2, h3, h4⟩, h5⟩ := h
  exact h4
theorem TrB.mono {B B' : Nat} {w : World} {tb m : Nat} {P : List Pr} (h : TrB B w tb m P) (hB : B' ≤ B) : TrB B' w tb m P := by
  obtain ⟨h0, D, h1, h2⟩ := h
  exact ⟨Nat.le_trans hB h0, D, h1, fun b hb => Nat.le_trans hB (h2 b hb)⟩
theorem newb (w : World) (m : Nat) (h3 : 3 ≤ m) (h16 : m ≤ 16) :
    Calls Try.prog 8 #[.int .i64 m] w fun e w' => ∃ tb, e = .returned (.tuple #[.pointer (some ⟨tb, 0, none⟩), .nilIface]) ∧ TrB w.heap.size w' tb m [] ∧ Below w.heap.size w w' :=
  (new_yes w m h3 h16).mono fun e w' ⟨tb, D, h1, h2, h3, h4, h5⟩ => ⟨tb, h1, ⟨h3, D, h2, h4⟩, h5⟩
theorem putb {B : Nat} {w : World} {tb m : Nat} {P : List Pr} (h : TrB B w tb m P) (hB : B ≤ w.heap.size) {C V : Option Addr} {o p : Nat} (q r : Nat) {k v : Ky} (hk : Byt w C o k) (hv : Byt w V p v) (ho : o ≤ 1000) (hp : p ≤ 1000) :
    Calls Try.prog 9 #[.pointer (some ⟨tb, 0, none⟩), .slice C o q, .slice V p r] w fun e w' =>
      e = .returned (.tuple #[.bool (putF P k v), errV (putE P k v)]) ∧ TrB B w' tb m (putP P k v) ∧ Below B w w' := by
  obtain ⟨h0, D, h1, h2⟩ := h
  exact (tput_any h1 q r hk hv ho hp).mono fun e w' ⟨e1, D', e2, e3, e4⟩ => ⟨e1, ⟨h0, D', e2, fun b hb => (e3 b hb).elim (h2 b) (fun h => Nat.le_trans hB h)⟩, e4.below (fun b hb => hb.elim (h2 b) (fun h => by rw [h]; exact h0)) hB⟩
theorem getb {B : Nat} {w : World} {tb m : Nat} {P : List Pr} (h : TrB B w tb m P) {C : Option Addr} {o : Nat} (q : Nat) {k : Ky} (hk : Byt w C o k) :
    Calls Try.prog 14 #[.pointer (some ⟨tb, 0, none⟩), .slice C o q] w (GetOut w P k) := by
  obtain ⟨h0, D, h1, h2⟩ := h
  exact tget_any h1 q hk
/-- A tree of no pairs is one leaf. -/
theorem GoodT.low {L : List (Option Nd)} {m root d : Nat} {t : Tr d} (h : GoodT L m root d t) (hf : flat d t = []) : d = 0 := by
  cases d with
  | zero => rfl
  | succ d =>
    obtain ⟨a1, a2⟩ := h.ok.mostR h.m3
    have h3 := h.m3
    rw [hf] at a2
    have h1 : 1 ≤ m / 2 := by omega
    have h2 : 1 ≤ (m / 2 + 1) ^ d := Nat.one_le_pow _ _ (by omega)
    have : 1 * 1 ≤ (m / 2 + 1) ^ d * (m / 2) := Nat.mul_le_mul h2 h1
    simp at a2
    omega
theorem height0 {B : Nat} {w : World} {tb m : Nat} (h : TrB B w tb m []) : Calls Try.prog 18 #[.pointer (some ⟨tb, 0, none⟩)] w fun e w' => e = .returned (.int .i64 1) ∧ Below w.heap.size w w' := by
  obtain ⟨h0, D, ⟨g, L, root, d, t, h1, h2, h3, h4⟩, h5⟩ := h
  obtain rfl := h2.low h3
  exact height_any h1 h2 (by have := (h2.few (by rw [h3]; simp)).1; omega)

theorem byt_lit (w : World) (u : UInt8) (x : Int) (hx : x = (u.toNat : Int)) (fr : Nat × Nat) : Byt (w.alloc (.cells #[.int .u8 x] 5 fr)) (some ⟨w.heap.size, 0, none⟩) 1 [u] := by
  refine ⟨rfl, fun _ => ⟨_, rfl, by simp, fun j hj => ?_⟩⟩
  obtain rfl : j = 0 := by simp at hj; omega
  have := World.cell?_alloc_mark w #[.int .u8 x] 5 fr 0
  simpa [Addr.add, hx] using this
theorem byt_none (w : World) : Byt w none 0 [] := ⟨rfl, fun h => absurd h (by omega)⟩
theorem put_a : putP [] [97] [98] = [([97], [98])] ∧ putE [] [97] [98] = 0 ∧ putF [] [97] [98] = true ∧ hasB [([97], [98])] [97] = true ∧ valP [([97], [98])] [97] = [98] := by decide

set_option maxHeartbeats 4000000 in
theorem up_any (w : World) : Calls Try.prog 6 #[] w fun e w' => e = .returned (.bool true) ∧ Below w.heap.size w w' := by
  have kc := fun (w : World) (C : Array Value) (n c g : Nat) (hg : g = w.heap.size) => Joins.run_convert_bytes_const_at (P := Try.prog) w 23 5 C n c g hg Try.underlying23 Try.underlying5
  have HN := Lib.hid (show Calls Try.prog 8 #[.int .i64 3] w _ from newb w 3 (by omega) (by omega))
  have he := eql_err 1 1
  go_enter Try.func6, Try.ntmps6
  go_wp2_with fail
  refine HN.out.mono ?_
  rintro e w1 ⟨tb, rfl, ht, hb⟩
  have HT := Lib.hid ht
  have HB := Lib.hid hb
  have HM := Lib.hid (show Calls Try.prog 8 #[.int .i64 2] w1 _ from new_no w1 2 (by omega))
  clear ht hb HN
  go_wp2_with fail
  refine HM.out.mono ?_
  rintro e w1 ⟨rfl, rfl⟩
  have HH := Lib.hid (height0 HT.out)
  clear HM
  rw [errV_some (by decide)]
  go_wp2_with fail
  refine HH.out.mono ?_
  rintro e w2 ⟨rfl, hb2⟩
  have HT2 := Lib.hid (HT.out.below hb2)
  have HB2 := Lib.hid (HB.out.trans (hb2.mono HB.out.size))
  clear HH hb2 HT HB
  have HP := Lib.hid (putb (w := (w2.alloc (.cells #[.int .u8 97] 5 (1, 2))).alloc (.cells #[.int .u8 98] 5 (1, 2))) (HT2.out.below (((Below.refl _ _).alloc (Nat.le_refl _) _).alloc (by simp) _)) (by have := HB2.out.size; simp; omega) 1 1
    ((byt_lit w2 97 97 rfl (1, 2)).alloc (.cells #[.int .u8 98] 5 (1, 2))) (byt_lit (w2.alloc (.cells #[.int .u8 97] 5 (1, 2))) 98 98 rfl (1, 2)) (by omega) (by omega))
  have HBW := Lib.hid (show Below w.heap.size w ((w2.alloc (.cells #[.int .u8 97] 5 (1, 2))).alloc (.cells #[.int .u8 98] 5 (1, 2))) from (HB2.out.alloc HB2.out.size _).alloc (by have := HB2.out.size; simp; omega) _)
  rw [alloc_sz] at HP
  --T1
  go_wp2_with fail
  --T2
  refine HP.out.mono ?_
  rintro e w3 ⟨rfl, ht, hb⟩
  rw [put_a.1] at ht
  rw [put_a.2.1, put_a.2.2.1, errV_zero]
  have HT3 := Lib.hid ht
  have HB3 := Lib.hid (HBW.out.trans hb)
  clear HP ht hb HBW HT2 HB2
  have HG := Lib.hid (getb (w := w3.alloc (.cells #[.int .u8 97] 5 (1, 2))) (HT3.out.below ((Below.refl _ _).alloc (Nat.le_refl _) _)) 1 (byt_lit w3 97 97 rfl (1, 2)))
  go_wp2_with fail
  refine HG.out.mono ?_
  rintro e w4 ⟨A, n, c, rfl, hy, hb⟩
  rw [put_a.2.2.2.1]
  rw [put_a.2.2.2.2] at hy
  have hs := run_str (c := c) hy
  have HB4 := Lib.hid ((HB3.out.alloc HB3.out.size _).trans (hb.mono (by have := HB3.out.size; simp; omega)))
  clear HG hy hb
  go_wp2
  go_ret
  exact ⟨rfl, HB4.out⟩
end Go.Proofs.Ytbpmdjcmmokliaa

namespace Go.Proofs.Ytbpmdjcmmokliaa
open Go.ChangeShapes Go.WideShapes Go.ChangeAt Go.RowKit Go.Deep
set_option linter.unusedVariables false

section
variable {H : Type} {enc : TypeId × Value → H} {P : Program} {w : World} {base : Nat} {spare : Nat → Bool} {held : Bool}
/-- A slice of structs that came in: nil, or at each element each field's own cell, and its reading. -/
theorem slice_cells {t e : TypeId} {fs : Array Field} {fuel : Nat} {cs : List Value} {x : DataW H × List MemPlace} (ht : P.underlying t = some (.slice e)) (he : P.underlying e = some (.struct fs))
    (hone : oneCellFields P fs = true) (hC : P.cellsOf e = fs.size) (h : DataW.trod enc P w base spare held fuel t cs = some x) :
    cs = [.slice none 0 0] ∨ ∃ (a : Addr) (len cap : Nat), cs = [.slice (some a) len cap] ∧ len ≤ cap ∧ cap ≤ maxLen ∧
      ∀ i, i < len → ∀ (j : Nat) (f : Field), fs[j]? = some f → ∃ (v : Value) (y : DataW H × List MemPlace) (n : Nat), w.cell? (a.add (i * fs.size + j)) = some v ∧ DataW.trod enc P w base spare held n f.type [v] = some y := by
  rcases open_slice ht h with h0 | ⟨a, len, cap, m, n, D, Pl, hcs, _, hl, hm, hmm, _, hi⟩
  · exact .inl h0.1
  · refine .inr ⟨a, len, cap, hcs, hl, hm, fun i hil j f hj => ?_⟩
    have him : i < m := by
      rw [hmm]
      split <;> omega
    obtain ⟨cs', hc, ht'⟩ := hi i him
    rw [hC] at hc
    obtain ⟨_, hcl, hat⟩ := World.cells?_some hc
    obtain ⟨ys, n', _, _, _, hyl, hf⟩ := DataW.trod_struct he ht'
    obtain ⟨ho, hk⟩ := hone_of hone j f hj
    have hjl : j < fs.size := (Array.getElem?_eq_some_iff.1 hj).1
    have h1 := hf j f hj
    rw [ho, hk] at h1
    have e1 : (cs'.drop j).take 1 = [cs'[j]'(by omega)] := by
      rw [List.drop_eq_getElem_cons (by omega)]
      rfl
    rw [e1, List.getElem?_eq_getElem (show j < ys.length by omega)] at h1
    refine ⟨cs'[j]'(by omega), _, n', ?_, h1⟩
    rw [← add_add, hat j hjl, List.getElem?_eq_getElem (by omega)]
end

/-- What holds of some pair at each place holds of a list's. -/
theorem list_of {Q : Nat → Pr → Prop} (n : Nat) (h : ∀ j, j < n → ∃ p, Q j p) : ∃ L : List Pr, L.length = n ∧ ∀ j, j < n → Q j (gt L j) := by
  induction n with
  | zero => exact ⟨[], rfl, fun j hj => absurd hj (by omega)⟩
  | succ n ih =>
    obtain ⟨L, h1, h2⟩ := ih (fun j hj => h j (by omega))
    obtain ⟨p, hp⟩ := h n (by omega)
    refine ⟨L ++ [p], by simp [h1], fun j hj => ?_⟩
    rcases Nat.lt_succ_iff_lt_or_eq.1 hj with hj | rfl
    · have : gt (L ++ [p]) j = gt L j := by
        rw [gt_eq (by simp; omega), gt_eq (by omega), List.getElem_append_left (by omega)]
      rw [this]
      exact h2 j hj
    · have : gt (L ++ [p]) j = p := by
        rw [gt_eq (by simp; omega), List.getElem_append_right (by omega)]
        simp [h1]
      rw [this]
      exact hp

section
variable {H : Type} {enc : TypeId × Value → H} {w : World} {base : Nat} {held : Bool}
/-- A slice of bytes that came in reads as a list. -/
theorem came {fuel : Nat} {v : Value} {x : DataW H × List MemPlace} (h : DataW.trod enc Try.prog w base (fun _ => true) held fuel 23 [v] = some x) :
    ∃ A n c l, v = .slice A n c ∧ Byt w A n l := by
  rcases open_ints Try.underlying23 Try.underlying5 (by kernel_rfl) h with ⟨hcs, _⟩ | ⟨a, n, c, zs, hcs, _, hl, hm, hz, _, hcell, hwz⟩
  · simp at hcs
    exact ⟨none, 0, 0, [], hcs, rfl, fun h => absurd h (by omega)⟩
  · simp at hcs
    have hz' : zs.length = c := by simpa using hz
    refine ⟨some a, n, c, (zs.take n).map fun z => z.toNat.toUInt8, hcs, by simp; omega, fun h0 => ⟨a, rfl, ?_, fun j hj => ?_⟩⟩
    · have := World.block_lt_of_cell? w _ (hcell 0 (by omega))
      rwa [add_block] at this
    · simp at hj
      rw [hcell j (by omega)]
      have hb := hwz (zs.getD j 0) (by
        rw [List.getD_eq_getElem?_getD, List.getElem?_eq_getElem (by omega)]
        exact List.getElem_mem _)
      simp [Lit.wf, IntKind.min, IntKind.max, IntKind.signed, IntKind.bits, List.getElem?_eq_getElem (show j < zs.length by omega)] at hb
      simp [List.getElem?_eq_getElem (show j < zs.length by omega)]
      omega

/-- A slice of pairs that came in reads as a list. -/
theorem came_pairs {fuel : Nat} {v : Value} {x : DataW H × List MemPlace} (h : DataW.trod enc Try.prog w base (fun _ => true) held fuel 22 [v] = some x) :
    ∃ A n c L, v = .slice A n c ∧ Prs w A n c L := by
  rcases slice_cells Try.underlying22 Try.underlying35 (by kernel_rfl) (by kernel_rfl) h with hcs | ⟨a, n, c, hcs, hl, hm, hcell⟩
  · simp at hcs
    exact ⟨none, 0, 0, [], hcs, prs_nil w⟩
  · simp at hcs
    obtain ⟨b, o, s⟩ := a
    rcases Nat.eq_zero_or_pos n with h0 | h0
    · subst h0
      exact ⟨_, 0, c, [], hcs, rfl, hl, hm, (fun e => by cases e), fun h => absurd h (by omega)⟩
    · obtain rfl : s = none := by
        obtain ⟨v0, y0, f0, e0, t0⟩ := hcell 0 h0 0 _ rfl
        simpa [Addr.add] using World.cell?_spot e0
      have hat : ∀ j, j < n → ∃ p : Pr, b < w.heap.size ∧ PairAt w b (o + j * 2) p := fun j hj => by
        obtain ⟨v0, y0, f0, e0, t0⟩ := hcell j hj 0 _ rfl
        obtain ⟨v1, y1, f1, e1, t1⟩ := hcell j hj 1 _ rfl
        obtain ⟨A, n1, c1, l, rfl, b1⟩ := came t0
        obtain ⟨B, m, d, k, rfl, b2⟩ := came t1
        have hb := World.block_lt_of_cell? w _ e0
        rw [add_block] at hb
        have q0 : w.cell? ((⟨b, o, none⟩ : Addr).add (j * 2 + 0)) = some (.slice A n1 c1) := e0
        have q1 : w.cell? ((⟨b, o, none⟩ : Addr).add (j * 2 + 1)) = some (.slice B m d) := e1
        rw [add_lit, Nat.add_zero] at q0
        rw [add_lit, ← Nat.add_assoc] at q1
        exact ⟨(l, k), hb, A, n1, c1, B, m, d, q0, q1, b1, b2⟩
      obtain ⟨L, h1, h2⟩ := list_of n hat
      obtain ⟨hb, _⟩ := h2 0 h0
      exact ⟨_, n, c, L, hcs, h1, hl, hm, (fun e => by cases e), fun _ => ⟨b, o, rfl, hb, fun j hj => (h2 j hj).2⟩⟩
end
end Go.Proofs.Ytbpmdjcmmokliaa

namespace Go.Proofs.Ytbpmdjcmmokliaa
open Go.RowKit
set_option linter.unusedVariables false
set_option maxRecDepth 100000

def fk (i : Nat) : Ky := [UInt8.ofNat (i / 100), UInt8.ofNat (i % 100)]
def FP (n : Nat) : List Pr := (List.range n).map fun j => (fk j, [])
theorem u8_lt {a b : Nat} (ha : a < 256) (hb : b < 256) : (UInt8.ofNat a < UInt8.ofNat b) ↔ a < b := by
  rw [UInt8.lt_iff_toNat_lt]
  simp [UInt8.toNat_ofNat', Nat.mod_eq_of_lt ha, Nat.mod_eq_of_lt hb]
theorem fk_lt {a b : Nat} (h : a < b) (hb : b < 1000) : ltB (fk a) (fk b) = true := by
  have h1 : a / 100 < 256 := by omega
  have h2 : b / 100 < 256 := by omega
  have h3 : a % 100 < 256 := by omega
  have h4 : b % 100 < 256 := by omega
  unfold ltB cmpB fk
  simp only [Lib.compareBytes]
  by_cases e : a / 100 = b / 100
  · have h5 : UInt8.ofNat (a % 100) < UInt8.ofNat (b % 100) := (u8_lt h3 h4).2 (by omega)
    have h6 : ¬ UInt8.ofNat (b / 100) < UInt8.ofNat (b / 100) := fun h => by have := (u8_lt h2 h2).1 h; omega
    rw [e, if_neg h6, if_neg h6, if_pos h5]
    rfl
  · have h5 : UInt8.ofNat (a / 100) < UInt8.ofNat (b / 100) := (u8_lt h1 h2).2 (by omega)
    rw [if_pos h5]
    rfl
theorem fp_len (n : Nat) : (FP n).length = n := by simp [FP]
theorem fp_succ (n : Nat) : FP (n + 1) = FP n ++ [(fk n, [])] := by simp [FP, List.range_succ]
theorem fp_less {n : Nat} (hn : n < 1000) : ∀ p ∈ FP n, ltB p.1 (fk n) = true := fun p hp => by
  obtain ⟨j, hj, rfl⟩ := List.mem_map.1 hp
  exact fk_lt (List.mem_range.1 hj) hn
theorem fp_has {n : Nat} (hn : n < 1000) : hasB (FP n) (fk n) = false := by
  have := has_split (X := FP n) (M := []) (Y := []) (fp_less hn) (fun p hp => by cases hp) (.inl rfl)
  simpa using this
theorem fp_put {n : Nat} (hn : n < 1000) : putL (FP n) (fk n) [] = FP (n + 1) := by
  have := put_split (X := FP n) (M := []) (Y := []) (fp_less hn) (fun p hp => by cases hp) (.inl rfl) []
  rw [fp_succ]
  simpa using this
theorem fp_putP {n : Nat} (hn : n < 1000) : putP (FP n) (fk n) [] = FP (n + 1) := by
  unfold putP
  rw [if_pos (show fairB (fk n, []) = true from rfl), fp_has hn, fp_put hn, fp_len, if_neg (by simp), if_pos hn]

/-- Two bytes in a new block. -/
theorem byt_two (w : World) (u v : UInt8) (x y : Int) (hx : x = (u.toNat : Int)) (hy : y = (v.toNat : Int)) : Byt (w.alloc (.cells #[.int .u8 x, .int .u8 y] 5)) (some ⟨w.heap.size, 0, none⟩) 2 [u, v] := by
  refine ⟨rfl, fun _ => ⟨_, rfl, by simp, fun j hj => ?_⟩⟩
  have h := World.cell?_alloc_mark w #[.int .u8 x, .int .u8 y] 5 (0, 0) j
  rcases j with _ | _ | j
  · simp [Addr.add, hx]
  · simp [Addr.add, hy]
  · simp at hj
    omega
theorem u8_back {a : Nat} (ha : a < 256) : (UInt8.ofNat a).toNat = a := by
  rw [UInt8.toNat_ofNat']
  exact Nat.mod_eq_of_lt ha
theorem fk_byt (w : World) {i : Nat} (hi : i < 1000) : Byt (w.alloc (.cells #[.int .u8 ((i : Int) / 100), .int .u8 ((i : Int) % 100)] 5)) (some ⟨w.heap.size, 0, none⟩) 2 (fk i) :=
  byt_two w _ _ _ _ (by rw [u8_back (by omega)]; rfl) (by rw [u8_back (by omega)]; rfl)

theorem put_full {L : List Pr} {k v : Ky} (hf : fairB (k, v) = true) (hs : Srt L) (hl : L.length = 1000) :
    putF L k v = false ∧ putE L k v = (if hasB L k then 0 else 5) ∧ (putP L k v).length = 1000 := by
  unfold putF putE putP
  rw [hf]
  simp only [if_true, hl]
  cases h : hasB L k
  · simp [hl]
  · have := len_put_is hs k v
    rw [h] at this
    simp [this, hl]

/-- A tree, its parts. -/
theorem sound_b {B : Nat} {w : World} {tb m : Nat} {P : List Pr} (h : TrB B w tb m P) : Calls Try.prog 17 #[.pointer (some ⟨tb, 0, none⟩)] w fun e w' =>
    ∃ xb, e = .returned (.tuple #[.pointer (some ⟨xb, 0, none⟩), .bool true]) ∧ Below w.heap.size w w' ∧ w'.cell? ⟨tb, 3, none⟩ = some (.int .i64 P.length) := by
  obtain ⟨h0, D, ⟨g, L, root, d, t, h1, h2, h3, h4⟩, h5⟩ := h
  subst h3
  refine (sound_any h1 h2 h4).mono fun e w' ⟨xb, S, e1, e2, e3, e4⟩ => ⟨xb, e1, e4, ?_⟩
  exact (h1.below e4).cells.2.2.2.1

set_option maxHeartbeats 4000000 in
theorem full_in {w : World} {C D : Option Addr} {o p : Nat} (q r : Nat) {k v : Ky} {m : Nat} (h' : Byt w C o k) (h'' : Byt w D p v) (h3 : 3 ≤ m) (h16 : m ≤ 16) (ho1 : 1 ≤ o) (ho2 : o ≤ 16) (hp : p ≤ 32) :
    Calls Try.prog 4 #[.int .i64 m, .slice C o q, .slice D p r] w fun e w' => e = .returned (.bool true) ∧ Below w.heap.size w w' := by
  have hf : fairB (k, v) = true := by
    unfold fairB mayB
    have := h'.1
    have := h''.1
    simp
    omega
  have HUP := up_any w
  have HK := Lib.hid (And.intro h' h'')
  have HF := Lib.hid hf
  have HM := Lib.hid (And.intro h3 h16)
  have g1 : decide ((m : Int) < 3) = false := by simp; omega
  have g2 : decide ((16 : Int) < (m : Int)) = false := by simp; omega
  have g3 : decide ((o : Int) < 1) = false := by simp; omega
  have g4 : decide ((16 : Int) < (o : Int)) = false := by simp; omega
  have g5 : decide ((32 : Int) < (p : Int)) = false := by simp; omega
  have g1b : decide (m < 3) = false := by simp; omega
  have g2b : decide (16 < m) = false := by simp; omega
  have g3b : decide (o < 1) = false := by simp; omega
  have g4b : decide (16 < o) = false := by simp; omega
  have g5b : decide (32 < p) = false := by simp; omega
  have g3c : (o == 0) = false := by simp; omega
  clear h' h'' hf h3 h16
  go_enter Try.func4, Try.ntmps4
  go_wp2_with fail
  refine HUP.mono ?_
  rintro e w1 ⟨rfl, hb1⟩
  have HB1 := Lib.hid hb1
  clear HUP hb1
  have HN := newb w1 m HM.out.1 HM.out.2
  go_wp2_with fail
  refine HN.mono ?_
  rintro e w2 ⟨tb, rfl, ht, hb⟩
  have HT := Lib.hid ht
  have HB2 := Lib.hid (HB1.out.trans (hb.mono HB1.out.size))
  have HS := Lib.hid HB1.out.size
  clear HN ht hb
  --T1
  go_wp2_with fail
  --T2
  clear g1 g2 g3 g4 g5 g1b g2b g3b g4b g5b g3c
  go_loopw [10] (fun x wr => ∃ i : Nat, x = .int .i64 (i : Nat) ∧ i ≤ 1000 ∧ TrB w1.heap.size wr tb m (FP i) ∧ Below w.heap.size w wr) (fun x _ => 1001 - (intOf x).toNat)
  case atStart => exact ⟨0, rfl, by omega, HT.out, HB2.out⟩
  case round =>
    obtain ⟨i, rfl, hi, ht, hb⟩ := hrel
    have HT := Lib.hid ht
    have HB := Lib.hid hb
    clear ht hb HB2
    by_cases hin : i < 1000
    case pos =>
      have hinI : (i : Int) < 1000 := by omega
      have hq : IntKind.u8.wrap ((i : Int) / 100) = ((i / 100 : Nat) : Int) := IntWalk.u8_in _ (by omega)
      have hr : IntKind.u8.wrap ((i : Int) % 100) = ((i % 100 : Nat) : Int) := IntWalk.u8_in _ (by omega)
      have HP := Lib.hid (putb (w := wr.alloc (.cells #[.int .u8 ((i : Int) / 100), .int .u8 ((i : Int) % 100)] 5)) (HT.out.below ((Below.refl _ _).alloc (Nat.le_refl _) _)) (by have := HB.out.size; have := HS.out; have := HT.out.2; simp; obtain ⟨D', ⟨g, L, root, d, t, z1, z2, z3, z4⟩, z5⟩ := this; have := z1.lt.1; have := HT.out.1; omega) 2 0 (fk_byt wr hin) (byt_none _) (by omega) (by omega))
      rw [fp_putP hin] at HP
      have HWB := Lib.hid ((Below.refl wr.heap.size wr).alloc (Nat.le_refl _) (.cells #[.int .u8 ((i : Int) / 100), .int .u8 ((i : Int) % 100)] 5))
      go_wp2_with fail
      refine HP.out.mono ?_
      rintro e w3 ⟨rfl, ht, hb⟩
      have HT3 := Lib.hid ht
      have HB3 := Lib.hid ((HB.out.trans (HWB.out.mono HB.out.size)).trans (hb.mono HS.out))
      clear HP ht hb
      go_wp2
      go_roundw
      case rel => exact ⟨i + 1, rfl, by omega, HT3.out, HB3.out⟩
      case measure => simp [intOf]; omega
    case neg =>
      have hinI : ¬ ((i : Int) < 1000) := by omega
      obtain rfl : i = 1000 := by omega
      have HG := getb HT.out q (HK.out.1.below HB.out)
      have HPB := fun w5 (hb : Below wr.heap.size wr w5) (hB : w1.heap.size ≤ w5.heap.size) => putb (w := w5) (HT.out.below hb) hB q r (HK.out.1.below (HB.out.trans (hb.mono HB.out.size))) (HK.out.2.below (HB.out.trans (hb.mono HB.out.size))) (by omega) (by omega)
      obtain ⟨pf1, pf2, pf3⟩ := put_full HF.out HT.out.fit.1 (fp_len 1000)
      rw [pf1, pf2] at HPB
      have HPL := Lib.hid pf3
      have HPB := Lib.hid HPB
      clear pf1 pf2 pf3
      go_wp2_with fail
      refine HG.mono ?_
      rintro e w3 ⟨A, n, c, rfl, -, hb3⟩
      have HB3 := Lib.hid (HB.out.trans (hb3.mono HB.out.size))
      have HP := HPB.out w3 hb3 (by have := hb3.size; have := HT.out.1; obtain ⟨D', ⟨g, L, root, d, t, z1, z2, z3, z4⟩, z5⟩ := HT.out.2; have := z1.lt.1; omega)
      clear HG hb3 HPB
      have he := eql_err 5 5
      cases hh : hasB (FP 1000) k
      all_goals
        rw [hh] at HP
        simp only [if_true, Bool.false_eq_true, if_false] at HP
        first | rw [errV_some (k := 5) (by decide)] at HP | rw [errV_zero] at HP
        clear hh
        go_wp2_with fail
        refine HP.mono ?_
        rintro e w4 ⟨rfl, ht4, hb4⟩
        have HB4 := Lib.hid (HB3.out.trans (hb4.mono HS.out))
        have HS4 := sound_b ht4
        rw [HPL.out] at HS4
        clear HP ht4 hb4
        go_wp2_with fail
        refine HS4.mono ?_
        rintro e w5 ⟨xb, rfl, hb5, c3⟩
        have HB5 := Lib.hid (HB4.out.trans (hb5.mono HB4.out.size))
        have c3 : w5.cell? ⟨tb, 3, none⟩ = some (.int .i64 1000) := c3
        clear HS4 hb5
        go_wp2
        go_ret
        exact ⟨rfl, HB5.out⟩

set_option maxHeartbeats 4000000 in
theorem full_out {w : World} {C D : Option Addr} {o p : Nat} (q r : Nat) (m : Int) (h : ¬ (3 ≤ m ∧ m ≤ 16 ∧ 1 ≤ o ∧ o ≤ 16 ∧ p ≤ 32)) :
    Calls Try.prog 4 #[.int .i64 m, .slice C o q, .slice D p r] w fun e w' => e = .returned (.bool true) ∧ Below w.heap.size w w' := by
  have HUP := up_any w
  have hor : m < 3 ∨ (¬ m < 3 ∧ 16 < m) ∨ (¬ m < 3 ∧ ¬ 16 < m ∧ o = 0) ∨ (¬ m < 3 ∧ ¬ 16 < m ∧ ¬ o = 0 ∧ 16 < o) ∨ (¬ m < 3 ∧ ¬ 16 < m ∧ ¬ o = 0 ∧ ¬ 16 < o ∧ 32 < p) := by omega
  clear h
  rcases hor with h1 | ⟨h1, h2⟩ | ⟨h1, h2, rfl⟩ | ⟨h1, h2, h3, h4⟩ | ⟨h1, h2, h3, h4, h5⟩
  case' inl =>
    have g1 : decide (m < 3) = true := by simp; omega
  case' inr.inl =>
    have g1 : decide (m < 3) = false := by simp; omega
    have g2 : decide (16 < m) = true := by simp; omega
  case' inr.inr.inl =>
    have g1 : decide (m < 3) = false := by simp; omega
    have g2 : decide (16 < m) = false := by simp; omega
  case' inr.inr.inr.inl =>
    have g1 : decide (m < 3) = false := by simp; omega
    have g2 : decide (16 < m) = false := by simp; omega
    have g3 : decide ((o : Int) < 1) = false := by simp; omega
    have g3b : decide (o < 1) = false := by simp; omega
    have g3c : (o == 0) = false := by simp; omega
    have g4 : decide ((16 : Int) < (o : Int)) = true := by simp; omega
    have g4b : decide (16 < o) = true := by simp; omega
  case' inr.inr.inr.inr =>
    have g1 : decide (m < 3) = false := by simp; omega
    have g2 : decide (16 < m) = false := by simp; omega
    have g3 : decide ((o : Int) < 1) = false := by simp; omega
    have g3b : decide (o < 1) = false := by simp; omega
    have g3c : (o == 0) = false := by simp; omega
    have g4 : decide ((16 : Int) < (o : Int)) = false := by simp; omega
    have g4b : decide (16 < o) = false := by simp; omega
    have g5 : decide ((32 : Int) < (p : Int)) = true := by simp; omega
    have g5b : decide (32 < p) = true := by simp; omega
  all_goals
    go_enter Try.func4, Try.ntmps4
    go_wp2_with fail
    refine HUP.mono ?_
    rintro e w1 ⟨rfl, hb1⟩
    have HB1 := Lib.hid hb1
    clear HUP hb1
    go_wp2
    go_ret
    exact ⟨rfl, HB1.out⟩

theorem full_any {w : World} {C D : Option Addr} {o p : Nat} (q r : Nat) (m : Int) {k v : Ky} (h' : Byt w C o k) (h'' : Byt w D p v) :
    Calls Try.prog 4 #[.int .i64 m, .slice C o q, .slice D p r] w fun e w' => e = .returned (.bool true) ∧ Below w.heap.size w w' := by
  by_cases h : 3 ≤ m ∧ m ≤ 16 ∧ 1 ≤ o ∧ o ≤ 16 ∧ p ≤ 32
  · obtain ⟨n, rfl⟩ : ∃ n : Nat, m = (n : Int) := ⟨m.toNat, by omega⟩
    exact full_in q r h' h'' (by omega) (by omega) (by omega) (by omega) (by omega)
  · exact full_out q r m h
end Go.Proofs.Ytbpmdjcmmokliaa

namespace Go.Proofs.Ytbpmdjcmmokliaa
open Go.RowKit
set_option linter.unusedVariables false
set_option maxRecDepth 100000

def MadeO (w : World) (E : Nat → Prop) (L : List Pr) (e : Ending) (w' : World) : Prop := ∃ A n c, e = .returned (.slice A n c) ∧ On (fun b => E b ∨ w.heap.size ≤ b) w' (Prs · A n c L) ∧ Below w.heap.size w w'
theorem readsC_nil {C : Nat → Nat → Prop} (w : World) : ReadsC C w [] [] := ⟨rfl, fun j hj => by cases hj⟩
theorem readsC_one {C : Nat → Prop} {w : World} {A B : Option Addr} {n m : Nat} (c d : Nat) {p : Pr} (h : On C w (Byt · A n p.1)) (h' : On C w (Byt · B m p.2)) : ReadsC (fun _ => C) w [.slice A n c, .slice B m d] [p] := by
  refine ⟨rfl, fun j hj => ?_⟩
  obtain rfl : j = 0 := by simp at hj; omega
  exact ⟨A, n, c, B, m, d, rfl, rfl, h, h'⟩
def DelInvO (w : World) (E : Nat → Prop) (L : List Pr) (k : List UInt8) (j : Nat) (v : Value) (wr : World) : Prop :=
  ∃ m xs, m ≤ j ∧ wr.ownsRow w.heap.size 35 2 v m xs ∧ ReadsC (fun _ => E) w xs (delL (L.take j) k) ∧ Below w.heap.size w wr

set_option maxHeartbeats 2000000 in
theorem rdel_on {E : Nat → Prop} {w : World} {A C : Option Addr} {n c o : Nat} (q : Nat) {L : List Pr} {k : List UInt8} (h : On E w (Prs · A n c L)) (h' : Byt w C o k) (hn : n ≤ 1000) :
    Calls Try.prog 30 #[.slice A n c, .slice C o q] w (MadeO w E (delL L k)) := by
  obtain ⟨i0, hi, hz0, hz1, hz2⟩ := info_parts Try.infoPair
  have HI := Lib.hid hi
  have HZ := Lib.hid (And.intro hz0 (And.intro hz1 hz2))
  clear hi hz0 hz1 hz2
  have HL := Lib.hid h.here.len
  have H := Lib.hid h
  have H' := Lib.hid h'
  clear h h'
  go_enter Try.func30, Try.ntmps30
  go_wp2
  go_loopw [5, 6] (fun v i wr => ∃ j : Nat, j ≤ n ∧ i = .int .i64 j ∧ DelInvO w E L k j v wr) (fun _ i _ => n - (intOf i).toNat)
  case atStart => exact ⟨0, Nat.zero_le _, rfl, 0, [], Nat.le_refl _, World.ownsRow_nil _ _ _ _, readsC_nil w, Below.refl _ _⟩
  case round =>
    obtain ⟨j, hj, rfl, m, xs, hm, hown, hr, hb⟩ := hrel
    have HO := Lib.hid hown
    have HR := Lib.hid hr
    clear hown hr
    have hsz := hb.size
    by_cases hlt : j < n
    · have hst := del_step L k (show j < L.length by rw [HL.out]; exact hlt)
      have HST := Lib.hid hst
      clear hst
      obtain ⟨b, oo, A1, n1, c1, B1, m1, d1, rfl, k0', k1', y1, y2⟩ := prs_pair_on H.out hlt
      have hbl' : b < w.heap.size := World.block_lt_of_cell? w _ k0'
      have hbl : b < wr.heap.size := by omega
      have k0 := (hb.cell (p := ⟨b, oo + j * 2, none⟩) hbl').trans k0'
      have k1 := (hb.cell (p := ⟨b, oo + j * 2 + 1, none⟩) hbl').trans k1'
      have HY := Lib.hid (And.intro y1 y2)
      have HC := same_any c1 q (y1.here.below hb) (H'.out.below hb)
      clear y1 y2 k0' k1' hbl'
      cases hsm : sameB (gt L j).1 k
      · rw [hsm] at HC HST
        clear hsm
        go_wp2_with fail
        refine HC.mono ?_
        rintro e w' ⟨rfl, rfl⟩
        go_wp2_with (at_builtin; refine wpList_append_own _ rfl _ _ 22 rfl w.heap.size 35 i0 (.agg #[.slice none 0 0, .slice none 0 0]) 2 48 Try.underlying22 HI.out HZ.out.1 HZ.out.2.1 HZ.out.2.2 rfl (by decide) _ _ _ rfl (HO.out.alloc _) ⟨wr.heap.size, 0, none⟩ 1 1 [.slice A1 n1 c1, .slice B1 m1 d1] rfl rfl ?c1 ?c2 ?c3 ?c4 ?c5 ?_)
        case c1 => exact two_cells
        case c2 => intro u hu; simp at hu; rcases hu with rfl | rfl <;> rfl
        case c3 => unfold maxLen; omega
        case c4 => omega
        case c5 => simp; omega
        intro v' w1 hown' hgr _
        have HO' := Lib.hid hown'
        have HG := Lib.hid hgr
        clear hown' hgr
        go_wp2
        go_roundw
        case rel =>
          refine ⟨j + 1, by omega, by go_num, m + 1, _, by omega, HO'.out, ?_, ?_⟩
          · rw [HST.out]
            exact HR.out.append (readsC_one c1 d1 HY.out.1 HY.out.2)
          · exact (hb.alloc hsz _).grown HG.out (by simp; omega) (fun t e => (HO.out.lt t e).1)
        case measure => simp [intOf]; omega
      · rw [hsm] at HC HST
        clear hsm
        go_wp2_with fail
        refine HC.mono ?_
        rintro e w' ⟨rfl, rfl⟩
        go_wp2
        go_roundw
        case rel => exact ⟨j + 1, by omega, by go_num, m, xs, by omega, HO.out, by rw [HST.out]; exact HR.out, hb⟩
        case measure => simp [intOf]; omega
    · have hall : L.take j = L := List.take_of_length_le (by rw [HL.out]; omega)
      rw [hall] at HR
      obtain ⟨A2, c2, rfl, -⟩ := own_new HO.out
      have hp := prs_on (C := fun b => E b ∨ w.heap.size ≤ b) HO.out ((HR.out.keep (fun _ => below_all hb)).mono (fun t ht b hb => .inl hb)) (fun a e => .inr (by have := (HO.out.lt a.block (by rw [e]; rfl)).1; exact this))
      have HP := Lib.hid hp
      clear hp hall
      go_wp2
      go_ret
      exact ⟨A2, m, c2, rfl, HP.out, hb⟩

set_option maxHeartbeats 2000000 in
theorem rput_on {E : Nat → Prop} {w : World} {A C D : Option Addr} {n c o p : Nat} (q r : Nat) {L : List Pr} {k v : List UInt8} (h : On E w (Prs · A n c L)) (h' : On E w (Byt · C o k)) (h'' : On E w (Byt · D p v)) (hs : Srt L) (hm : Small L) (ho : o ≤ 1000) (hn : n ≤ 1000) :
    Calls Try.prog 13 #[.slice A n c, .slice C o q, .slice D p r] w (MadeO w E (putL L k v)) := by
  have H := Lib.hid h
  have H' := Lib.hid h'
  have H'' := Lib.hid h''
  have HS := Lib.hid (srt_del hs k)
  have HM := Lib.hid (show Small (delL L k) from fun p hp => hm p (mem_del hp))
  have HD := rdel_on q h h'.here hn
  have HN := Lib.hid (show (delL L k).length ≤ 1000 from Nat.le_trans (len_del L k) (by rw [h.here.len]; exact hn))
  have HP := Lib.hid (pos_le (delL L k) k)
  have HE := Lib.hid (show putL L k v = (delL L k).take (pos (delL L k) k) ++ [(k, v)] ++ (delL L k).drop (pos (delL L k) k) by unfold putL; simp)
  clear h h' h'' hs hm
  go_enter Try.func13, Try.ntmps13
  go_wp2_with fail
  refine HD.mono ?_
  rintro e w1 ⟨A1, n1, c1, rfl, hp1, hb1⟩
  have hl1 := hp1.here.len
  have HP1 := Lib.hid hp1
  have HB1 := Lib.hid hb1
  clear hp1 hb1 HD
  have HN1 : n1 ≤ 1000 := by rw [← hl1]; exact HN.out
  have HPN : pos (delL L k) k ≤ n1 := by rw [← hl1]; exact HP.out
  clear hl1
  have HF := rfind_any q HP1.out.here (H'.out.here.below HB1.out) HS.out HM.out ho
  go_wp2_with fail
  refine HF.mono ?_
  rintro e w2 ⟨rfl, hd⟩
  clear HF
  have HP2 := Lib.hid (HP1.out.keep (below_all (hd.below _)))
  have HB2 : Below w.heap.size w w2 := by
    obtain ⟨d, rfl⟩ := hd
    exact below_drewN HB1.out d
  have HB2 := Lib.hid HB2
  clear hd
  generalize pos (delL L k) k = P at *
  have hPc : P ≤ c1 := Nat.le_trans HPN HP1.out.here.2.1
  clear HP1 HB1
  have B1 : Below w2.heap.size w2 (w2.alloc (.cells #[] 35)) := (Below.refl _ _).alloc (Nat.le_refl _) _
  have O1 : (w2.alloc (.cells #[] 35)).ownsRow w2.heap.size 35 2 (.slice (some ⟨w2.heap.size, 0, none⟩) 0 0) 0 [] := World.ownsRow_made w2 #[] 0 (Nat.le_refl _) (Nat.zero_le _) rfl
  have B1 := Lib.hid B1
  have O1 := Lib.hid O1
  go_wp2_with (at_builtin; refine wpList_append_prs_at rfl _ _ rfl w2.heap.size _ 0 [] rfl O1.out A1 P c1 ((delL L k).take P) rfl (HP2.out.imp fun v hv => hv.upto HPN) B1.out (by omega) B1.out.size ?_)
  intro v1 w3 ys1 hr1 hown1 hg1 _
  have B2 := Lib.hid (own_below B1.out O1.out hg1)
  have R1 := Lib.hid hr1
  have O2 := Lib.hid hown1
  clear hr1 hown1 hg1 B1 O1
  obtain ⟨i0, hi, hz0, hz1, hz2⟩ := info_parts Try.infoPair
  have HI := Lib.hid hi
  have HZ := Lib.hid (And.intro hz0 (And.intro hz1 hz2))
  clear hi hz0 hz1 hz2
  have B3 := Lib.hid (B2.out.alloc B2.out.size (.cells #[.slice C o q, .slice D p r] 35))
  have O3 := Lib.hid (O2.out.alloc (.cells #[.slice C o q, .slice D p r] 35))
  have hsz := Lib.hid B2.out.size
  clear B2 O2
  go_wp2_with (at_builtin; refine wpList_append_own _ rfl _ _ 22 rfl w2.heap.size 35 i0 (.agg #[.slice none 0 0, .slice none 0 0]) 2 48 Try.underlying22 HI.out HZ.out.1 HZ.out.2.1 HZ.out.2.2 rfl (by decide) v1 P ys1 rfl O3.out ⟨w3.heap.size, 0, none⟩ 1 1 [.slice C o q, .slice D p r] rfl rfl two_cells ?c2 (by unfold maxLen; omega) (by omega) B3.out.size ?_)
  case c2 => intro u hu; simp at hu; rcases hu with rfl | rfl <;> rfl
  intro v2 w4 hown2 hg2 hnil
  clear hnil
  have B4 := Lib.hid (own_below B3.out O3.out hg2)
  have O4 := Lib.hid hown2
  have R4 := Lib.hid (R1.out.append (readsC_one (p := (k, v)) q r ((H'.out.keep (below_all HB2.out)).mono (fun b hb => .inl hb)) ((H''.out.keep (below_all HB2.out)).mono (fun b hb => .inl hb))))
  clear hown2 hg2 B3 O3 R1
  have HP5 := Lib.hid (HP2.out.imp fun v hv => hv.from HPN)
  go_wp2_with (at_builtin; refine wpList_append_prs_at rfl _ _ rfl w2.heap.size v2 (P + 1) _ rfl O4.out (cutA A1 P c1) (n1 - P) (c1 - P) ((delL L k).drop P) rfl HP5.out B4.out (by omega) B4.out.size ?_)
  all_goals
    intro v3 w5 ys3 hr3 hown3 hg3 _
    have B5 := Lib.hid (own_below B4.out O4.out hg3)
    have R5 := Lib.hid (R4.out.append hr3)
    have O5 := Lib.hid (show w5.ownsRow w2.heap.size 35 2 v3 (P + 1 + (n1 - P)) (ys1 ++ [.slice C o q, .slice D p r] ++ ys3) by simpa using hown3)
    clear hown3 hr3 hg3 B4 O4 R4
    go_wp2
    go_ret
    obtain ⟨A6, c6, rfl, -⟩ := own_new O5.out
    have hp6 := prs_on (C := fun b => E b ∨ w.heap.size ≤ b) O5.out (R5.out.keep (fun _ => below_all B5.out)) (fun a e => .inr (by have := (O5.out.lt a.block (by rw [e]; rfl)).1; have := HB2.out.size; omega))
    refine ⟨A6, _, c6, rfl, ?_, HB2.out.trans (B5.out.mono HB2.out.size)⟩
    rw [HE.out]
    exact hp6

end Go.Proofs.Ytbpmdjcmmokliaa
