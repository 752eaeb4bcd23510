/- The law's own Sound: of a sound tree it is true, and what it saw is the tree's. Condition: at most 1000 pairs. A tree of one's own, whatever its blocks; the law's head (the document's example): it returns true; nothing that was there is changed. No condition. Contracts of the document's own Delete and Put, once more: in what blocks the row that they tell lies. Condition: as there. The contract of package tree's Put whatever the key and the value. No condition. Contracts of TreeBounds' own Made, Power and Over. Condition: as their heads say. The contract of TreeBounds' own Over: of a sound tree it is 0. Condition: at most 1000 pairs. Sound and Over where only a tree's pairs matter; the document's Row with a footprint; trees whose blocks are named; putting into them. Condition: what came in can be read. -/
import Derived.Test.YtdkppgmhhijkgaaG8
import Derived.Lib.SlBytesConst
import Derived.Lib.SmallJoins
namespace Go.Proofs.Ytdkppgmhhijkgaa
open Go.RowKit
set_option linter.unusedVariables false
set_option maxRecDepth 100000

/-- What Sound sees of a tree. -/
def sawn (d : Nat) (t : Tr d) : LkS := seen d t 1 ⟨[], [], [], 0, 0⟩
theorem sawn_is (d : Nat) (t : Tr d) : sawn d t = ⟨(lvp d t).map (fun x => x.1), (lvp d t).map (fun x => x.2.2), flat d t, (nums d t).length, d + 1⟩ := by
  unfold sawn seen
  simp
  omega
def SndOut (w : World) (tb d : Nat) (t : Tr d) (e : Ending) (w' : World) : Prop :=
  ∃ xb S, e = .returned (.tuple #[.pointer (some ⟨xb, 0, none⟩), .bool true]) ∧ LkM w' S xb tb (sawn d t) ∧ (∀ b, S b → w.heap.size ≤ b) ∧ Below w.heap.size w w'

theorem look_new (w : World) (tb : Nat) : ∃ W, W = w.alloc (.cells #[.pointer (some ⟨tb, 0, none⟩), .slice none 0 0, .slice none 0 0, .slice none 0 0, .int .i64 0, .int .i64 0, .bool false] 64) ∧
    Below w.heap.size w W ∧ W.heap.size = w.heap.size + 1 ∧ LkM W (· = w.heap.size) w.heap.size tb ⟨[], [], [], 0, 0⟩ := by
  refine ⟨_, rfl, (Below.refl _ _).alloc (Nat.le_refl _) _, by simp, .slice none 0 0, .slice none 0 0, .slice none 0 0, ?_, heap_alloc_new w _, World.ownsRow_nil _ _ _ _, World.ownsRow_nil _ _ _ _, ⟨[], World.ownsRow_nil _ _ _ _, rfl, fun j hj => by cases hj⟩, (fun e => by cases e), (fun e => by cases e), (fun e => by cases e), (fun k e => by cases e), (fun k e => by cases e), (fun k e => by cases e)⟩
  funext b
  apply propext
  constructor
  · exact fun h => .inl h
  · rintro (h | h | h | h)
    · exact h
    · cases h
    · cases h
    · cases h
/-- A Look's lists as they read. -/
theorem LkM.lists {w : World} {S : Nat → Prop} {xb tb : Nat} {s : LkS} (h : LkM w S xb tb s) : ∃ A1 c1 A2 c2 A3 c3, w.cell? ⟨xb, 1, none⟩ = some (.slice A1 s.lv.length c1) ∧ w.cell? ⟨xb, 2, none⟩ = some (.slice A2 s.nx.length c2) ∧ w.cell? ⟨xb, 3, none⟩ = some (.slice A3 s.ps.length c3) ∧
    Ins w A1 s.lv.length c1 (s.lv.map (fun (i : Nat) => (i : Int))) ∧ Ins w A2 s.nx.length c2 s.nx ∧ Prs w A3 s.ps.length c3 s.ps := by
  obtain ⟨vL, vN, vP, rfl, h⟩ := h
  obtain ⟨k0, k1, k2, k3, k4, k5, k6, kf⟩ := h.cells
  obtain ⟨A1, c1, rfl, -⟩ := own_new h.rl
  obtain ⟨A2, c2, rfl, -⟩ := own_new h.rn
  obtain ⟨xs, h1, h2⟩ := h.rp
  obtain ⟨A3, c3, rfl, -⟩ := own_new h1
  refine ⟨A1, c1, A2, c2, A3, c3, k1, k2, k3, ?_, ?_, ?_⟩
  · have := h.rl
    have e : s.lv.map natV = (s.lv.map (fun (i : Nat) => (i : Int))).map intV := by rw [List.map_map]; rfl
    rw [e] at this
    exact (ins_on (C := fun _ => True) this (fun _ _ => trivial)).here
  · exact (ins_on (C := fun _ => True) h.rn (fun _ _ => trivial)).here
  · obtain ⟨A, c, e, hp, _⟩ := own_prs h1 (L := s.ps) ⟨h2.1, fun j hj => by
      obtain ⟨A, n, c, B, m, d, e1, e2, e3, e4⟩ := h2.2 j hj
      exact ⟨A, n, c, B, m, d, e1, e2, e3.here, e4.here⟩⟩
    injection e with e1 e2 e3
    subst e1
    subst e3
    exact hp

set_option maxHeartbeats 4000000 in
theorem sound_any {w : World} {D : Nat → Prop} {tb g : Nat} {L : List (Option Nd)} {F : List Nat} {root m : Nat} {d : Nat} {t : Tr d} (h : TrM w D tb g L F root m (flat d t).length) (hg : GoodT L F m root d t) (hP : (flat d t).length ≤ 1000) :
    Calls Try.prog 19 #[.pointer (some ⟨tb, 0, none⟩)] w (SndOut w tb d t) := by
  obtain ⟨f1, f2, f3⟩ := hg.few hP
  have HN := Lib.hid (look_new w tb)
  have HT := Lib.hid h
  have HG := Lib.hid hg
  have hfew := lvp_few d t
  replace hfew : (lvp d t).length ≤ L.length := by have := hg.all; omega
  have HF := Lib.hid (And.intro hfew (And.intro f1 (And.intro f2 (And.intro f3 hP))))
  have htl : tb < w.heap.size := h.lt.1
  obtain ⟨c0, c1, -, -, -, -⟩ := h.cells
  clear h hg hfew f1 f2 f3
  go_enter Try.func19, Try.ntmps19
  go_wp2_with fail
  obtain ⟨W, hW, hWB, hWs, hWK⟩ := HN.out
  rw [← hW]
  clear hW HN c0 c1
  have HC := (node_all d).go (w := W) (D := D) (S := (· = w.heap.size)) (tb := tb) (g := g) (xb := w.heap.size) (L := L) (root := root) (m := m) (s := ⟨[], [], [], 0, 0⟩) (lo := []) (hi := []) (A1 := none) (B1 := none) (n1 := 0) (m1 := 0) (t := t) (dd := 1) (b := true) 0 0
    ⟨HT.out.below hWB, hWK, fun b hb => by
      have hd := HT.out.lt
      subst hb
      exact ⟨fun h => by have := hd.2 _ h; omega, by omega⟩, fun w' _ => ⟨rfl, fun h => absurd h (by omega)⟩, fun w' _ => ⟨rfl, fun h => absurd h (by omega)⟩, by omega, by omega,
      ⟨by have := HF.out.1; have := HF.out.2.1; show 0 + _ ≤ 5000; omega, by have := HF.out.1; have := HF.out.2.1; show 0 + _ ≤ 5000; omega, by have := HF.out.2.2.2.2; show 0 + _ ≤ 5000; omega, by have := HG.out.all; have := HF.out.2.1; show 0 + _ ≤ 3000; omega⟩, .inl rfl, by have := HF.out.2.2.1; omega, HG.out.holds, HG.out.m16, by have := HF.out.2.1; omega⟩ HG.out.ok (fun _ => HG.out.rt)
  rw [HG.out.rt] at HC
  have HC := Lib.hid HC
  have HWX := Lib.hid (And.intro hWB hWs)
  clear hWB hWs hWK
  refine HC.out.mono ?_
  rintro e w2 ⟨rfl, S, hK, hS, hO⟩
  have hb2 : Below w.heap.size w w2 := HWX.out.1.trans (hO.below (fun b hb => by show w.heap.size ≤ b; rw [hb]; exact Nat.le_refl _) (by have := HWX.out.2; omega))
  have hK : LkM w2 S w.heap.size tb (sawn d t) := hK
  rw [sawn_is] at hK
  have hS2 : ∀ b, S b → w.heap.size ≤ b := fun b hb => by
    have := HWX.out.2
    rcases hS b hb with h | h <;> omega
  have HK := Lib.hid hK
  have HB2 := Lib.hid (And.intro hb2 hS2)
  obtain ⟨k0, k4', k5, k6, -, -⟩ := hK.cells
  obtain ⟨A1, q1, A2, q2, A3, q3, k1', k2', k3', i1, i2, i3⟩ := hK.lists
  have HI := Lib.hid (And.intro i1 (And.intro i2 i3))
  obtain ⟨s0, hs0⟩ := HG.out.chn
  rw [lvp_lvs] at hs0
  have HE := Lib.hid (chn_each _ _ hs0)
  have HL2 := Lib.hid (HT.out.below hb2)
  obtain ⟨c0, -, -, c3, -, -⟩ := HL2.out.cells
  have k1 : w2.cell? ⟨w.heap.size, 1, none⟩ = some (.slice A1 (lvp d t).length q1) := by rw [k1']; simp
  have k2 : w2.cell? ⟨w.heap.size, 2, none⟩ = some (.slice A2 (lvp d t).length q2) := by rw [k2']; simp
  have k3 : w2.cell? ⟨w.heap.size, 3, none⟩ = some (.slice A3 (flat d t).length q3) := k3'
  obtain ⟨NU, hNU⟩ : ∃ NU, NU = (nums d t).length := ⟨_, rfl⟩
  have k4 : w2.cell? ⟨w.heap.size, 4, none⟩ = some (.int .i64 NU) := by rw [k4', hNU]
  have hNU2 : NU + F.length = L.length := by rw [hNU]; exact HG.out.all
  have HNU := Lib.hid hNU2
  clear k1' k2' k3' k4'
  obtain ⟨NN, hNN⟩ : ∃ NN, NN = (lvp d t).length := ⟨_, rfl⟩
  obtain ⟨PP, hPP⟩ : ∃ PP, PP = (flat d t).length := ⟨_, rfl⟩
  rw [← hNN] at k1 k2
  rw [← hPP] at k3 c3 hP
  have HNN := Lib.hid (And.intro hNN hPP)
  have hNNb : NN ≤ 2000 := by have := HF.out.1; have := HF.out.2.1; omega
  have hL2b : NU ≤ 2000 := by have := HF.out.2.1; omega
  clear hb2 hK hS hO hS2 i1 i2 i3 hs0 hNN hPP hNU hNU2
  --T1
  go_wp2_with fail
  --T2
  go_loopw [5] (fun v wr => ∃ j : Nat, v = .int .i64 (j : Nat) ∧ j ≤ NN ∧ w2 = wr) (fun v _ => NN + 1 - (intOf v).toNat)
  case atStart => exact ⟨0, rfl, Nat.zero_le _, rfl⟩
  case round =>
    obtain ⟨j, rfl, hj, rfl⟩ := hrel
    by_cases hjn : j < NN
    case pos =>
      have hjI : (j : Int) < (NN : Int) := by omega
      obtain ⟨b2, o2, rfl, hbl2, e2'⟩ := HI.out.2.1.at_ (j := j) (by simp; have := HNN.out.1; omega)
      have hE := HE.out j (by have := HNN.out.1; omega)
      have e2 : w2.cell? ⟨b2, o2 + j, none⟩ = some (.int .i64 (if j + 1 < NN then (((lvp d t).map fun x => x.1).getD (j + 1) 0 : Nat) else -1)) := by
        rw [e2']
        unfold iat
        rw [hE, ← HNN.out.1]
      clear e2'
      by_cases hj1 : j + 1 < NN
      case pos =>
        rw [if_pos hj1] at e2
        obtain ⟨b1, o1, rfl, hbl1, e1'⟩ := HI.out.1.at_ (j := j + 1) (by simp; have := HNN.out.1; omega)
        have hj1I : (j : Int) + 1 < (NN : Int) := by omega
        have e1 : w2.cell? ⟨b1, o1 + (j + 1), none⟩ = some (.int .i64 (((lvp d t).map fun x => x.1).getD (j + 1) 0 : Nat)) := by
          rw [e1']
          unfold iat
          rw [List.getD_eq_getElem?_getD, List.getElem?_map, List.getD_eq_getElem?_getD]
          cases h : ((lvp d t).map fun x => x.1)[j + 1]? with
          | none => rfl
          | some x => rfl
        clear e1'
        generalize ((lvp d t).map fun x => x.1).getD (j + 1) 0 = z at e1 e2
        have hzz : ((z : Int) != (z : Int)) = false := by simp
        clear hE
        go_wp2
        go_roundw
        case rel => exact ⟨j + 1, rfl, by omega, trivial⟩
        case measure => simp [intOf]; omega
      case neg =>
        rw [if_neg hj1] at e2
        have hj1I : ¬ ((j : Int) + 1 < (NN : Int)) := by omega
        have hzz : ((-1 : Int) != (-1 : Int)) = false := by decide
        clear hE
        go_wp2
        go_roundw
        case rel => exact ⟨j + 1, rfl, by omega, trivial⟩
        case measure => simp [intOf]; omega
    case neg =>
      have hjI : ¬ ((j : Int) < (NN : Int)) := by omega
      have HU := Lib.hid (fun q => (used_any (w := w2.drewN q) (HL2.out.2.1.keep (below_all (below_drewN (Below.refl _ _) q)))).mono (fun e w' hh => (show e = .returned (.int .i64 NU) ∧ Drawn (w2.drewN q) w' from ⟨by rw [hh.1]; exact ret_int (by have := HNU.out; omega), hh.2⟩)))
      have g1 : decide ((PP : Int) ≤ 1000) = true := by simp; omega
      go_wp2_with fail
      go_quiet ((go_at_call 38; exact quiet_drawn (HU.out _)))
      go_wp2
      go_ret2
      exact ⟨_, S, rfl, by rw [sawn_is]; exact HK.out.below (below_drewN (Below.refl _ _) _), HB2.out.2, below_drewN HB2.out.1 _⟩
end Go.Proofs.Ytdkppgmhhijkgaa

namespace Go.Proofs.Ytdkppgmhhijkgaa
open Go.RowKit
set_option linter.unusedVariables false
set_option maxRecDepth 100000

/-- A tree all of whose blocks are from B on. -/
def TrB (B : Nat) (w : World) (tb m : Nat) (P : List Pr) : Prop := B ≤ tb ∧ ∃ D, Tre w D tb m P ∧ ∀ b, D b → B ≤ b
theorem TrB.below {B : Nat} {w w' : World} {tb m : Nat} {P : List Pr} (h : TrB B w tb m P) (hb : Below w.heap.size w w') : TrB B w' tb m P := by
  obtain ⟨h0, D, h1, h2⟩ := h
  exact ⟨h0, D, h1.below hb, h2⟩
theorem TrB.fit {B : Nat} {w : World} {tb m : Nat} {P : List Pr} (h : TrB B w tb m P) : Fit P := by
  obtain ⟨h0, D, h1, h2⟩ := h
  exact h1.fit
theorem TrB.few {B : Nat} {w : World} {tb m : Nat} {P : List Pr} (h : TrB B w tb m P) : P.length ≤ 1000 := by
  obtain ⟨h0, D, ⟨g, L, F, root, d, t, h1, h2, h3, h4⟩, h5⟩ := h
  exact h4
theorem TrB.mono {B B' : Nat} {w : World} {tb m : Nat} {P : List Pr} (h : TrB B w tb m P) (hB : B' ≤ B) : TrB B' w tb m P := by
  obtain ⟨h0, D, h1, h2⟩ := h
  exact ⟨Nat.le_trans hB h0, D, h1, fun b hb => Nat.le_trans hB (h2 b hb)⟩
theorem newb (w : World) (m : Nat) (h3 : 3 ≤ m) (h16 : m ≤ 16) :
    Calls Try.prog 23 #[.int .i64 m] w fun e w' => ∃ tb, e = .returned (.tuple #[.pointer (some ⟨tb, 0, none⟩), .nilIface]) ∧ TrB w.heap.size w' tb m [] ∧ Below w.heap.size w w' :=
  (new_yes w m h3 h16).mono fun e w' ⟨tb, D, h1, h2, h3, h4, h5⟩ => ⟨tb, h1, ⟨h3, D, h2, h4⟩, h5⟩
theorem putb {B : Nat} {w : World} {tb m : Nat} {P : List Pr} (h : TrB B w tb m P) (hB : B ≤ w.heap.size) {C V : Option Addr} {o p : Nat} (q r : Nat) {k v : Ky} (hk : Byt w C o k) (hv : Byt w V p v) (ho : o ≤ 1000) (hp : p ≤ 1000) :
    Calls Try.prog 18 #[.pointer (some ⟨tb, 0, none⟩), .slice C o q, .slice V p r] w fun e w' =>
      e = .returned (.tuple #[.bool (putF P k v), errV (putE P k v)]) ∧ TrB B w' tb m (putP P k v) ∧ Below B w w' := by
  obtain ⟨h0, D, h1, h2⟩ := h
  exact (tput_any h1 q r hk hv ho hp).mono fun e w' ⟨e1, D', e2, e3, e4⟩ => ⟨e1, ⟨h0, D', e2, fun b hb => (e3 b hb).elim (h2 b) (fun h => Nat.le_trans hB h)⟩, e4.below (fun b hb => hb.elim (h2 b) (fun h => by rw [h]; exact h0)) hB⟩
/-- A tree of no pairs is one leaf. -/
theorem GoodT.low {L : List (Option Nd)} {F : List Nat} {m root d : Nat} {t : Tr d} (h : GoodT L F m root d t) (hf : flat d t = []) : d = 0 := by
  cases d with
  | zero => rfl
  | succ d =>
    obtain ⟨a1, a2⟩ := h.ok.mostR h.m3
    have h3 := h.m3
    rw [hf] at a2
    have h1 : 1 ≤ m / 2 := by omega
    have h2 : 1 ≤ (m / 2 + 1) ^ d := Nat.one_le_pow _ _ (by omega)
    have : 1 * 1 ≤ (m / 2 + 1) ^ d * (m / 2) := Nat.mul_le_mul h2 h1
    simp at a2
    omega
theorem byt_lit (w : World) (u : UInt8) (x : Int) (hx : x = (u.toNat : Int)) (fr : Nat × Nat) : Byt (w.alloc (.cells #[.int .u8 x] 5 fr)) (some ⟨w.heap.size, 0, none⟩) 1 [u] := by
  refine ⟨rfl, fun _ => ⟨_, rfl, by simp, fun j hj => ?_⟩⟩
  obtain rfl : j = 0 := by simp at hj; omega
  have := World.cell?_alloc_mark w #[.int .u8 x] 5 fr 0
  simpa [Addr.add, hx] using this
theorem byt_none (w : World) : Byt w none 0 [] := ⟨rfl, fun h => absurd h (by omega)⟩
theorem put_a : putP [] [97] [98] = [([97], [98])] ∧ putE [] [97] [98] = 0 ∧ putF [] [97] [98] = true ∧ hasB [([97], [98])] [97] = true ∧ valP [([97], [98])] [97] = [98] := by decide

end Go.Proofs.Ytdkppgmhhijkgaa

namespace Go.Proofs.Ytdkppgmhhijkgaa
open Go.RowKit
set_option linter.unusedVariables false
set_option maxRecDepth 100000

def MadeO (w : World) (E : Nat → Prop) (L : List Pr) (e : Ending) (w' : World) : Prop := ∃ A n c, e = .returned (.slice A n c) ∧ On (fun b => E b ∨ w.heap.size ≤ b) w' (Prs · A n c L) ∧ Below w.heap.size w w'
theorem readsC_nil {C : Nat → Nat → Prop} (w : World) : ReadsC C w [] [] := ⟨rfl, fun j hj => by cases hj⟩
theorem readsC_one {C : Nat → Prop} {w : World} {A B : Option Addr} {n m : Nat} (c d : Nat) {p : Pr} (h : On C w (Byt · A n p.1)) (h' : On C w (Byt · B m p.2)) : ReadsC (fun _ => C) w [.slice A n c, .slice B m d] [p] := by
  refine ⟨rfl, fun j hj => ?_⟩
  obtain rfl : j = 0 := by simp at hj; omega
  exact ⟨A, n, c, B, m, d, rfl, rfl, h, h'⟩
def DelInvO (w : World) (E : Nat → Prop) (L : List Pr) (k : List UInt8) (j : Nat) (v : Value) (wr : World) : Prop :=
  ∃ m xs, m ≤ j ∧ wr.ownsRow w.heap.size 27 2 v m xs ∧ ReadsC (fun _ => E) w xs (delL (L.take j) k) ∧ Below w.heap.size w wr

set_option maxHeartbeats 2000000 in
theorem rdel_on {E : Nat → Prop} {w : World} {A C : Option Addr} {n c o : Nat} (q : Nat) {L : List Pr} {k : List UInt8} (h : On E w (Prs · A n c L)) (h' : Byt w C o k) (hn : n ≤ 1000) :
    Calls Try.prog 52 #[.slice A n c, .slice C o q] w (MadeO w E (delL L k)) := by
  obtain ⟨i0, hi, hz0, hz1, hz2⟩ := info_parts Try.infoPair
  have HI := Lib.hid hi
  have HZ := Lib.hid (And.intro hz0 (And.intro hz1 hz2))
  clear hi hz0 hz1 hz2
  have HL := Lib.hid h.here.len
  have H := Lib.hid h
  have H' := Lib.hid h'
  clear h h'
  go_enter Try.func52, Try.ntmps52
  go_wp2
  go_loopw [5, 6] (fun v i wr => ∃ j : Nat, j ≤ n ∧ i = .int .i64 j ∧ DelInvO w E L k j v wr) (fun _ i _ => n - (intOf i).toNat)
  case atStart => exact ⟨0, Nat.zero_le _, rfl, 0, [], Nat.le_refl _, World.ownsRow_nil _ _ _ _, readsC_nil w, Below.refl _ _⟩
  case round =>
    obtain ⟨j, hj, rfl, m, xs, hm, hown, hr, hb⟩ := hrel
    have HO := Lib.hid hown
    have HR := Lib.hid hr
    clear hown hr
    have hsz := hb.size
    by_cases hlt : j < n
    · have hst := del_step L k (show j < L.length by rw [HL.out]; exact hlt)
      have HST := Lib.hid hst
      clear hst
      obtain ⟨b, oo, A1, n1, c1, B1, m1, d1, rfl, k0', k1', y1, y2⟩ := prs_pair_on H.out hlt
      have hbl' : b < w.heap.size := World.block_lt_of_cell? w _ k0'
      have hbl : b < wr.heap.size := by omega
      have k0 := (hb.cell (p := ⟨b, oo + j * 2, none⟩) hbl').trans k0'
      have k1 := (hb.cell (p := ⟨b, oo + j * 2 + 1, none⟩) hbl').trans k1'
      have HY := Lib.hid (And.intro y1 y2)
      have HC := same_any c1 q (y1.here.below hb) (H'.out.below hb)
      clear y1 y2 k0' k1' hbl'
      cases hsm : sameB (gt L j).1 k
      · rw [hsm] at HC HST
        clear hsm
        go_wp2_with fail
        refine HC.mono ?_
        rintro e w' ⟨rfl, rfl⟩
        go_wp2_with (at_builtin; refine wpList_append_own _ rfl _ _ 22 rfl w.heap.size 27 i0 (.agg #[.slice none 0 0, .slice none 0 0]) 2 48 Try.underlying22 HI.out HZ.out.1 HZ.out.2.1 HZ.out.2.2 rfl (by decide) _ _ _ rfl (HO.out.alloc _) ⟨wr.heap.size, 0, none⟩ 1 1 [.slice A1 n1 c1, .slice B1 m1 d1] rfl rfl ?c1 ?c2 ?c3 ?c4 ?c5 ?_)
        case c1 => exact two_cells
        case c2 => intro u hu; simp at hu; rcases hu with rfl | rfl <;> rfl
        case c3 => unfold maxLen; omega
        case c4 => omega
        case c5 => simp; omega
        intro v' w1 hown' hgr _
        have HO' := Lib.hid hown'
        have HG := Lib.hid hgr
        clear hown' hgr
        go_wp2
        go_roundw
        case rel =>
          refine ⟨j + 1, by omega, by go_num, m + 1, _, by omega, HO'.out, ?_, ?_⟩
          · rw [HST.out]
            exact HR.out.append (readsC_one c1 d1 HY.out.1 HY.out.2)
          · exact (hb.alloc hsz _).grown HG.out (by simp; omega) (fun t e => (HO.out.lt t e).1)
        case measure => simp [intOf]; omega
      · rw [hsm] at HC HST
        clear hsm
        go_wp2_with fail
        refine HC.mono ?_
        rintro e w' ⟨rfl, rfl⟩
        go_wp2
        go_roundw
        case rel => exact ⟨j + 1, by omega, by go_num, m, xs, by omega, HO.out, by rw [HST.out]; exact HR.out, hb⟩
        case measure => simp [intOf]; omega
    · have hall : L.take j = L := List.take_of_length_le (by rw [HL.out]; omega)
      rw [hall] at HR
      obtain ⟨A2, c2, rfl, -⟩ := own_new HO.out
      have hp := prs_on (C := fun b => E b ∨ w.heap.size ≤ b) HO.out ((HR.out.keep (fun _ => below_all hb)).mono (fun t ht b hb => .inl hb)) (fun a e => .inr (by have := (HO.out.lt a.block (by rw [e]; rfl)).1; exact this))
      have HP := Lib.hid hp
      clear hp hall
      go_wp2
      go_ret
      exact ⟨A2, m, c2, rfl, HP.out, hb⟩

set_option maxHeartbeats 2000000 in
theorem rput_on {E : Nat → Prop} {w : World} {A C D : Option Addr} {n c o p : Nat} (q r : Nat) {L : List Pr} {k v : List UInt8} (h : On E w (Prs · A n c L)) (h' : On E w (Byt · C o k)) (h'' : On E w (Byt · D p v)) (hs : Srt L) (hm : Small L) (ho : o ≤ 1000) (hn : n ≤ 1000) :
    Calls Try.prog 28 #[.slice A n c, .slice C o q, .slice D p r] w (MadeO w E (putL L k v)) := by
  have H := Lib.hid h
  have H' := Lib.hid h'
  have H'' := Lib.hid h''
  have HS := Lib.hid (srt_del hs k)
  have HM := Lib.hid (show Small (delL L k) from fun p hp => hm p (mem_del hp))
  have HD := rdel_on q h h'.here hn
  have HN := Lib.hid (show (delL L k).length ≤ 1000 from Nat.le_trans (len_del L k) (by rw [h.here.len]; exact hn))
  have HP := Lib.hid (pos_le (delL L k) k)
  have HE := Lib.hid (show putL L k v = (delL L k).take (pos (delL L k) k) ++ [(k, v)] ++ (delL L k).drop (pos (delL L k) k) by unfold putL; simp)
  clear h h' h'' hs hm
  go_enter Try.func28, Try.ntmps28
  go_wp2_with fail
  refine HD.mono ?_
  rintro e w1 ⟨A1, n1, c1, rfl, hp1, hb1⟩
  have hl1 := hp1.here.len
  have HP1 := Lib.hid hp1
  have HB1 := Lib.hid hb1
  clear hp1 hb1 HD
  have HN1 : n1 ≤ 1000 := by rw [← hl1]; exact HN.out
  have HPN : pos (delL L k) k ≤ n1 := by rw [← hl1]; exact HP.out
  clear hl1
  have HF := rfind_any q HP1.out.here (H'.out.here.below HB1.out) HS.out HM.out ho
  go_wp2_with fail
  refine HF.mono ?_
  rintro e w2 ⟨rfl, hd⟩
  clear HF
  have HP2 := Lib.hid (HP1.out.keep (below_all (hd.below _)))
  have HB2 : Below w.heap.size w w2 := by
    obtain ⟨d, rfl⟩ := hd
    exact below_drewN HB1.out d
  have HB2 := Lib.hid HB2
  clear hd
  generalize pos (delL L k) k = P at *
  have hPc : P ≤ c1 := Nat.le_trans HPN HP1.out.here.2.1
  clear HP1 HB1
  have B1 : Below w2.heap.size w2 (w2.alloc (.cells #[] 27)) := (Below.refl _ _).alloc (Nat.le_refl _) _
  have O1 : (w2.alloc (.cells #[] 27)).ownsRow w2.heap.size 27 2 (.slice (some ⟨w2.heap.size, 0, none⟩) 0 0) 0 [] := World.ownsRow_made w2 #[] 0 (Nat.le_refl _) (Nat.zero_le _) rfl
  have B1 := Lib.hid B1
  have O1 := Lib.hid O1
  go_wp2_with (at_builtin; refine wpList_append_prs_at rfl _ _ rfl w2.heap.size _ 0 [] rfl O1.out A1 P c1 ((delL L k).take P) rfl (HP2.out.imp fun v hv => hv.upto HPN) B1.out (by omega) B1.out.size ?_)
  intro v1 w3 ys1 hr1 hown1 hg1 _
  have B2 := Lib.hid (own_below B1.out O1.out hg1)
  have R1 := Lib.hid hr1
  have O2 := Lib.hid hown1
  clear hr1 hown1 hg1 B1 O1
  obtain ⟨i0, hi, hz0, hz1, hz2⟩ := info_parts Try.infoPair
  have HI := Lib.hid hi
  have HZ := Lib.hid (And.intro hz0 (And.intro hz1 hz2))
  clear hi hz0 hz1 hz2
  have B3 := Lib.hid (B2.out.alloc B2.out.size (.cells #[.slice C o q, .slice D p r] 27))
  have O3 := Lib.hid (O2.out.alloc (.cells #[.slice C o q, .slice D p r] 27))
  have hsz := Lib.hid B2.out.size
  clear B2 O2
  go_wp2_with (at_builtin; refine wpList_append_own _ rfl _ _ 22 rfl w2.heap.size 27 i0 (.agg #[.slice none 0 0, .slice none 0 0]) 2 48 Try.underlying22 HI.out HZ.out.1 HZ.out.2.1 HZ.out.2.2 rfl (by decide) v1 P ys1 rfl O3.out ⟨w3.heap.size, 0, none⟩ 1 1 [.slice C o q, .slice D p r] rfl rfl two_cells ?c2 (by unfold maxLen; omega) (by omega) B3.out.size ?_)
  case c2 => intro u hu; simp at hu; rcases hu with rfl | rfl <;> rfl
  intro v2 w4 hown2 hg2 hnil
  clear hnil
  have B4 := Lib.hid (own_below B3.out O3.out hg2)
  have O4 := Lib.hid hown2
  have R4 := Lib.hid (R1.out.append (readsC_one (p := (k, v)) q r ((H'.out.keep (below_all HB2.out)).mono (fun b hb => .inl hb)) ((H''.out.keep (below_all HB2.out)).mono (fun b hb => .inl hb))))
  clear hown2 hg2 B3 O3 R1
  have HP5 := Lib.hid (HP2.out.imp fun v hv => hv.from HPN)
  go_wp2_with (at_builtin; refine wpList_append_prs_at rfl _ _ rfl w2.heap.size v2 (P + 1) _ rfl O4.out (cutA A1 P c1) (n1 - P) (c1 - P) ((delL L k).drop P) rfl HP5.out B4.out (by omega) B4.out.size ?_)
  all_goals
    intro v3 w5 ys3 hr3 hown3 hg3 _
    have B5 := Lib.hid (own_below B4.out O4.out hg3)
    have R5 := Lib.hid (R4.out.append hr3)
    have O5 := Lib.hid (show w5.ownsRow w2.heap.size 27 2 v3 (P + 1 + (n1 - P)) (ys1 ++ [.slice C o q, .slice D p r] ++ ys3) by simpa using hown3)
    clear hown3 hr3 hg3 B4 O4 R4
    go_wp2
    go_ret
    obtain ⟨A6, c6, rfl, -⟩ := own_new O5.out
    have hp6 := prs_on (C := fun b => E b ∨ w.heap.size ≤ b) O5.out (R5.out.keep (fun _ => below_all B5.out)) (fun a e => .inr (by have := (O5.out.lt a.block (by rw [e]; rfl)).1; have := HB2.out.size; omega))
    refine ⟨A6, _, c6, rfl, ?_, HB2.out.trans (B5.out.mono HB2.out.size)⟩
    rw [HE.out]
    exact hp6

end Go.Proofs.Ytdkppgmhhijkgaa

namespace Go.Proofs.Ytdkppgmhhijkgaa
open Go.RowKit
set_option linter.unusedVariables false
set_option maxRecDepth 100000

set_option maxHeartbeats 8000000 in
theorem tput_unfair {w : World} {D : Nat → Prop} {tb m : Nat} {P : List Pr} (h : Tre w D tb m P) {C V : Option Addr} {o p : Nat} (q r : Nat) {k v : Ky} (hk : Byt w C o k) (hv : Byt w V p v) (hu : fairB (k, v) = false) :
    Calls Try.prog 18 #[.pointer (some ⟨tb, 0, none⟩), .slice C o q, .slice V p r] w (PutOut w D tb m P k v) := by
  have H := Lib.hid h
  obtain ⟨g, L, F, root, d, t, h1, h2, h3, h4⟩ := h
  subst h3
  obtain ⟨A, Cc, W, hl, hw, hWd⟩ := way_end h2 k
  obtain ⟨f1, f2, f3⟩ := h2.few h4
  have HY : Hid (Calls Try.prog 33 #[.pointer (some ⟨tb, 0, none⟩), .slice C o q] w fun e w1 => ∃ c gr hi xs, e = .returned (.slice (some ⟨gr, 0, none⟩) (d + 1) c) ∧ w1.ownsRow w.heap.size 74 7 (.slice (some ⟨gr, 0, none⟩) (d + 1) c) (d + 1) xs ∧ NodesR w1 xs gr w.heap.size hi (⟨(leafT k d t).1, leafN (leafT k d t), 0⟩ :: W.reverse) ∧ hi ≤ w1.heap.size ∧ Below w.heap.size w w1) := Lib.hid ((way_any h1 h2 (by omega) q hk).mono fun e w1 ⟨c, gr, hi, xs, e1, e2, e3, e4, e5⟩ => by
    have hlen : (wayT k d t).length = d + 1 := by rw [hw]; simp [hWd]
    have hrev : (wayT k d t).reverse = ⟨(leafT k d t).1, leafN (leafT k d t), 0⟩ :: W.reverse := by rw [hw]; simp
    rw [hlen] at e1 e2
    rw [hrev] at e3
    exact ⟨c, gr, hi, xs, e1, e2, e3, e4, e5⟩)
  have HT := Lib.hid h1
  have HG := Lib.hid h2
  have HL := Lib.hid hl
  have HW := Lib.hid (And.intro hw hWd)
  have HK := Lib.hid (And.intro hk hv)
  have HF := Lib.hid (And.intro f2 h4)
  clear h1 h2 hl hw hWd hk hv f1 f2 f3 h4
  go_enter Try.func18, Try.ntmps18
  go_wp2_with fail
  refine HY.out.mono ?_
  rintro e w1 ⟨c, gr, hi, xs, rfl, hrow, hnod, hhi, hb1⟩
  obtain ⟨lo, hi', hh, n1, n2, n3, n4, n5, n6⟩ := leaf_heads hnod
  rw [show W.reverse.length = d by rw [List.length_reverse, HW.out.2]] at n4
  have HLA := last_any hrow n4
  have HWY := Lib.hid (And.intro hrow (And.intro hnod (And.intro hhi hb1)))
  have HLN := Lib.hid n5
  have hfd := field_node ⟨(leafT k d t).1, leafN (leafT k d t), 0⟩ hh
  have hN := Lib.hid (And.intro n1 (And.intro n2 n3))
  clear HY hrow hnod hhi hb1 n1 n2 n3 n4 n5 n6
  go_wp2_with fail
  refine HLA.mono ?_
  rintro e w2 ⟨rfl, hb2⟩
  have HB2 := Lib.hid hb2
  have HW3 := Lib.hid (box5 w2 (.bool (leafN (leafT k d t)).leaf) (.slice hh.A hh.n hh.c) (.slice hh.B hh.m hh.d) (.slice hh.K hh.k hh.e) (.int .i64 (leafN (leafT k d t)).next) 72)
  clear HLA hb2
  go_wp2_with fail
  obtain ⟨W3, hW, hWB, hWs, hWh⟩ := HW3.out
  rw [← hW]
  have hWh : W3.heap[w2.heap.size]? = some (.cells #[.bool true, .slice hh.A hh.n hh.c, .slice hh.B hh.m hh.d, .slice hh.K hh.k hh.e, .int .i64 (leafT k d t).2.2] 72 (0, 0)) := hWh
  have hB13 : Below w1.heap.size w1 W3 := HB2.out.trans (hWB.mono HB2.out.size)
  have hB03 : Below w.heap.size w W3 := HWY.out.2.2.2.trans (hB13.mono HWY.out.2.2.2.size)
  have HB13 := Lib.hid hB13
  have HB03 := Lib.hid hB03
  have HX3 := Lib.hid (And.intro hWh hWs)
  have hrd := (HLN.out.reads.keep (below_agree hB13 (fun b hb hl => hl))).here
  have hlen : (leafT k d t).2.1.length = hh.n := hrd.1.1
  have hn17 : hh.n ≤ 1000 := by have := HL.out.len; have := HG.out.m16; omega
  clear hW HW3 hWB hWs hWh hB13
  have hpr := hrd.1
  have hNo := fun hf => put_no (A := hh.A) (n := hh.n) (c := hh.c) q r (HK.out.1.below hB03) (HK.out.2.below hB03) hf
  have HNo := Lib.hid hNo
  clear hNo hpr hrd hlen hB03
  have hf := hu
  have HP := HNo.out hf
  have HFF := Lib.hid hf
  clear hf
  refine HP.mono ?_
  rintro e w4 ⟨rfl, rfl⟩
  clear HP
  go_wp2
  go_ret2
  refine ⟨?_, D, ?_, fun b hb => .inl hb, below_only HB03.out⟩
  · unfold putF putE
    rw [HFF.out]
    rfl
  · unfold putP
    rw [HFF.out]
    exact H.out.below HB03.out

theorem putb_all {B : Nat} {w : World} {tb m : Nat} {P : List Pr} (h : TrB B w tb m P) (hB : B ≤ w.heap.size) {C V : Option Addr} {o p : Nat} (q r : Nat) {k v : Ky} (hk : Byt w C o k) (hv : Byt w V p v) :
    Calls Try.prog 18 #[.pointer (some ⟨tb, 0, none⟩), .slice C o q, .slice V p r] w fun e w' =>
      e = .returned (.tuple #[.bool (putF P k v), errV (putE P k v)]) ∧ TrB B w' tb m (putP P k v) ∧ Below B w w' := by
  cases hf : fairB (k, v)
  · obtain ⟨h0, D, h1, h2⟩ := h
    exact (tput_unfair h1 q r hk hv hf).mono fun e w' ⟨e1, D', e2, e3, e4⟩ => ⟨e1, ⟨h0, D', e2, fun b hb => (e3 b hb).elim (h2 b) (fun h => Nat.le_trans hB h)⟩, e4.below (fun b hb => hb.elim (h2 b) (fun h => by rw [h]; exact h0)) hB⟩
  · unfold fairB mayB at hf
    have h1 := hk.1
    have h2 := hv.1
    simp at hf
    exact putb h hB q r hk hv (by omega) (by omega)
end Go.Proofs.Ytdkppgmhhijkgaa

namespace Go.Proofs.Ytdkppgmhhijkgaa
open Go.RowKit
set_option linter.unusedVariables false
set_option maxRecDepth 100000

/-- What any pairs, put one by one, come to. -/
def madeL (L : List Pr) : List Pr := L.foldl (fun P p => putP P p.1 p.2) []
theorem made_step (L : List Pr) {i : Nat} (h : i < L.length) : madeL (L.take (i + 1)) = putP (madeL (L.take i)) (gt L i).1 (gt L i).2 := by
  unfold madeL
  rw [List.take_succ_eq_append_getElem h, List.foldl_append, gt_eq h]
  rfl
theorem TrB.size {B : Nat} {w : World} {tb m : Nat} {P : List Pr} (h : TrB B w tb m P) : B ≤ w.heap.size := by
  obtain ⟨h0, D, h1, h2⟩ := h
  have := h1.lt.1
  omega

set_option maxHeartbeats 1000000 in
theorem made_no {w : World} {A : Option Addr} {n c : Nat} (m : Int) (hm : ¬ (3 ≤ m ∧ m ≤ 16)) :
    Calls Try.prog 13 #[.int .i64 m, .slice A n c] w fun e w' => e = .returned (.pointer none) ∧ w = w' := by
  have HN := new_no w m hm
  rw [errV_some (k := 1) (by decide)] at HN
  clear hm
  go_enter Try.func13, Try.ntmps13
  go_wp2_with fail
  refine HN.mono ?_
  rintro e w1 ⟨rfl, rfl⟩
  go_wp2
  go_ret
  exact ⟨rfl, rfl⟩

set_option maxHeartbeats 4000000 in
theorem made_yes {w : World} {A : Option Addr} {n c : Nat} {m : Nat} {L : List Pr} (h : Prs w A n c L) (h3 : 3 ≤ m) (h16 : m ≤ 16) :
    Calls Try.prog 13 #[.int .i64 m, .slice A n c] w fun e w' => ∃ tb, e = .returned (.pointer (some ⟨tb, 0, none⟩)) ∧ TrB w.heap.size w' tb m (madeL L) ∧ Below w.heap.size w w' := by
  have HN := newb w m h3 h16
  have H := Lib.hid h
  have hlen : L.length = n := h.len
  have hn : n ≤ maxLen := Nat.le_trans h.2.1 h.2.2.1
  unfold maxLen at hn
  clear h h3 h16
  go_enter Try.func13, Try.ntmps13
  go_wp2_with fail
  refine HN.mono ?_
  rintro e w1 ⟨tb, rfl, ht, hb⟩
  have HT := Lib.hid ht
  have HB := Lib.hid hb
  clear HN ht hb
  go_wp2_with fail
  go_loopw [7] (fun x wr => ∃ i : Nat, x = .int .i64 (i : Nat) ∧ i ≤ n ∧ TrB w.heap.size wr tb m (madeL (L.take i)) ∧ Below w.heap.size w wr) (fun x _ => n + 1 - (intOf x).toNat)
  case atStart => exact ⟨0, rfl, Nat.zero_le _, HT.out, HB.out⟩
  case round =>
    obtain ⟨i, rfl, hi, ht, hb⟩ := hrel
    have HTr := Lib.hid ht
    have HBr := Lib.hid hb
    clear HT HB ht
    by_cases hin : i < n
    case pos =>
      have hinI : (i : Int) < (n : Int) := by omega
      have g1 : decide ((i : Int) < (n : Int)) = true := by simp; omega
      have g1b : decide (i < n) = true := by simp; omega
      obtain ⟨b, oo, rfl, hbl, A2, n2, c2, B2, m2, d2, k0, k1, y1, y2⟩ := (H.out.below hb).at_ hin
      have HP := putb_all (w := wr.drew) (HTr.out.below ((Below.refl wr.heap.size wr).drew)) (HTr.out.size) c2 d2 (y1.below ((Below.refl wr.heap.size wr).drew)) (y2.below ((Below.refl wr.heap.size wr).drew))
      rw [← made_step L (by omega)] at HP
      have HP := Lib.hid HP
      clear hb y1 y2
      go_wp2_with fail
      go_still_tail 11, (by kernel_rfl)
      change wpList _ _ _ _ _ wr.drew
      clear k0 k1
      go_wp2_with fail
      refine HP.out.mono ?_
      rintro e w3 ⟨rfl, ht3, hb3⟩
      have HT3 := Lib.hid ht3
      have HB3 := Lib.hid (HBr.out.drew.trans hb3)
      clear HP ht3 hb3
      go_wp2
      go_roundw
      case rel => exact ⟨i + 1, rfl, by omega, HT3.out, HB3.out⟩
      case measure => simp [intOf]; omega
    case neg =>
      have hinI : ¬ ((i : Int) < (n : Int)) := by omega
      have g1 : decide ((i : Int) < (n : Int)) = false := by simp; omega
      have g1b : decide (i < n) = false := by simp; omega
      have hall : L.take i = L := List.take_of_length_le (by omega)
      rw [hall] at HTr
      clear hall
      go_wp2
      go_ret
      exact ⟨tb, rfl, HTr.out, HBr.out⟩

set_option maxHeartbeats 1000000 in
theorem power_any (w : World) {a n : Nat} (ha : 1 ≤ a) (ha2 : a ≤ 100) (hn : n ≤ 1000) :
    Calls Try.prog 51 #[.int .i64 a, .int .i64 n] w fun e w' => ∃ r : Nat, e = .returned (.int .i64 r) ∧ r ≤ a ^ n ∧ r ≤ 100000000 ∧ w = w' := by
  go_enter Try.func51, Try.ntmps51
  go_wp2
  go_loop [5, 6] (fun u x => ∃ i r : Nat, u = .int .i64 (r : Nat) ∧ x = .int .i64 (i : Nat) ∧ i ≤ n ∧ r = a ^ i ∧ r ≤ 100000000) (fun _ x => n + 1 - (intOf x).toNat)
  case atStart => exact ⟨0, 1, rfl, rfl, Nat.zero_le _, rfl, by omega⟩
  case round =>
    obtain ⟨i, r, rfl, rfl, hi, hr, hr8⟩ := hrel
    have HR := Lib.hid hr
    clear hr
    by_cases hin : i < n
    case pos =>
      have g1 : decide ((i : Int) < (n : Int)) = true := by simp; omega
      have g1b : decide (i < n) = true := by simp; omega
      have hinI : (i : Int) < (n : Int) := by omega
      by_cases hr6 : r < 1000000
      case pos =>
        have g2 : decide ((r : Int) < 1000000) = true := by simp; omega
        have g2b : decide (r < 1000000) = true := by simp; omega
        have hr6I : (r : Int) < 1000000 := by omega
        have hm : r * a ≤ 100000000 := Nat.le_trans (Nat.mul_le_mul (Nat.le_of_lt hr6) ha2) (by omega)
        have hw : IntKind.i64.wrap ((r : Int) * (a : Int)) = ((r * a : Nat) : Int) := by
          rw [← Int.natCast_mul]
          exact IntWalk.i64_in _ (by omega)
        go_wp2
        go_round
        case rel => exact ⟨i + 1, r * a, by first | rfl | (rw [← hw]; rfl) | simp, rfl, by omega, by rw [HR.out, Nat.pow_succ], hm⟩
        case measure => simp [intOf]; omega
      case neg =>
        have g2 : decide ((r : Int) < 1000000) = false := by simp; omega
        have g2b : decide (r < 1000000) = false := by simp; omega
        have hr6I : ¬ (r : Int) < 1000000 := by omega
        go_wp2
        go_ret
        exact ⟨r, rfl, by rw [HR.out]; exact Nat.pow_le_pow_right ha hi, hr8, rfl⟩
    case neg =>
      have g1 : decide ((i : Int) < (n : Int)) = false := by simp; omega
      have g1b : decide (i < n) = false := by simp; omega
      have hinI : ¬ (i : Int) < (n : Int) := by omega
      go_wp2
      go_ret
      exact ⟨r, rfl, by rw [HR.out]; exact Nat.pow_le_pow_right ha hi, hr8, rfl⟩
end Go.Proofs.Ytdkppgmhhijkgaa

namespace Go.Proofs.Ytdkppgmhhijkgaa
open Go.RowKit
set_option linter.unusedVariables false
set_option maxRecDepth 100000

theorem over_g1 {P X : Nat} (h : X ≤ 2 * P) : decide (2 * (P : Int) < (X : Int)) = false := by simp; omega
theorem over_g2 {P X : Nat} (h : X ≤ 2 * P) : decide (2 * P < X) = false := by simp; omega
set_option maxHeartbeats 4000000 in
theorem over_any {w : World} {D S : Nat → Prop} {tb g xb : Nat} {L : List (Option Nd)} {F : List Nat} {root m : Nat} {d : Nat} {t : Tr d} (h : TrM w D tb g L F root m (flat d t).length) (hg : GoodT L F m root d t) (hP : (flat d t).length ≤ 1000) (hK : LkM w S xb tb (sawn d t)) :
    Calls Try.prog 27 #[.pointer (some ⟨xb, 0, none⟩)] w fun e w' => e = .returned (.int .i64 0) ∧ w = w' := by
  obtain ⟨f1, f2, f3⟩ := hg.few hP
  obtain ⟨o1, o2⟩ := hg.over
  have h3 := hg.m3
  have h16 := hg.m16
  have hall := hg.all
  obtain ⟨-, -, c2, -, -, -⟩ := h.cells
  rw [sawn_is] at hK
  obtain ⟨k0, k4', k5', -, -, -⟩ := hK.cells
  obtain ⟨A1, q1, A2, q2, A3, q3, -, -, k3', -, -, -⟩ := hK.lists
  obtain ⟨NN, hNN⟩ : ∃ NN, NN = (nums d t).length := ⟨_, rfl⟩
  obtain ⟨PP, hPP⟩ : ∃ PP, PP = (flat d t).length := ⟨_, rfl⟩
  obtain ⟨H, hH⟩ : ∃ H, H = m / 2 := ⟨_, rfl⟩
  rw [← hNN, ← hH, ← hPP] at o2
  rw [← hNN] at o1 hall
  rw [← hPP] at hP
  have k4 : w.cell? ⟨xb, 4, none⟩ = some (.int .i64 NN) := by rw [k4', hNN]
  have k5d : w.cell? ⟨xb, 5, none⟩ = some (.int .i64 ((d : Int) + 1)) := k5'
  have k3 : w.cell? ⟨xb, 3, none⟩ = some (.slice A3 PP q3) := by rw [k3', hPP]
  have hH8 : H ≤ 8 := by omega
  have hmI : (m : Int) ≤ 16 := by omega
  have hm3I : (3 : Int) ≤ (m : Int) := by omega
  have hN2 : NN ≤ 2000 := by omega
  clear h hg hK k4' k5' k3' hNN hPP
  rcases Nat.eq_zero_or_pos d with hd | hd
  · have o1' := o1 hd
    clear o1
    have o1 := o1'
    clear o1'
    subst hd
    have k5 : w.cell? ⟨xb, 5, none⟩ = some (.int .i64 1) := k5d
    clear k5d
    rw [o1] at k4
    have k4n : w.cell? ⟨xb, 4, none⟩ = some (.int .i64 1) := k4
    clear o2 k4
    go_enter Try.func27, Try.ntmps27
    go_wp2
    go_ret
    exact ⟨rfl, rfl⟩
  · obtain ⟨o3, o4⟩ := o2 (by omega)
    have HO := Lib.hid o4
    obtain ⟨d', rfl⟩ : ∃ d', d = d' + 1 := ⟨d - 1, by omega⟩
    have k5 : w.cell? ⟨xb, 5, none⟩ = some (.int .i64 ((d' : Int) + 2)) := by rw [k5d]; congr 2
    clear k5d
    have HPW := Lib.hid (power_any w (a := H + 1) (n := d') (by omega) (by omega) (by omega))
    have e1 : (((d' : Int) + 2) == 1) = false := by simp; omega
    obtain ⟨X, hX⟩ : ∃ X, X = NN * H := ⟨_, rfl⟩
    have hXP : X ≤ 2 * PP := by rw [hX]; exact o3
    have hHI : (m : Int) / 2 = (H : Int) := by omega
    have hw1 : wrap64 ((NN : Int) * ((m : Int) / 2)) = (X : Int) := by
      rw [hHI, ← Int.natCast_mul, ← hX]
      exact IntWalk.wrap64_in (X : Int) (by omega)
    have HHI := Lib.hid (And.intro hHI hX)
    have g1 : decide (2 * (PP : Int) < (X : Int)) = false := over_g1 hXP
    have g1b : decide (2 * PP < X) = false := over_g2 hXP
    have hd9 : d' ≤ 8 := by omega
    clear o1 o2 o3 o4 hd hall hHI hX hH f1 f3 h3 h16
    go_enter Try.func27, Try.ntmps27
    go_wp2_with fail
    have HPV : Calls Try.prog 51 #[.int .i64 ((m : Int) / 2 + 1), .int .i64 d'] w fun e w' => ∃ r : Nat, e = .returned (.int .i64 r) ∧ r ≤ (H + 1) ^ d' ∧ r ≤ 100000000 ∧ w = w' := by rw [HHI.out.1]; exact HPW.out
    refine HPV.mono ?_
    rintro e w1 ⟨r, rfl, hr1, hr2, rfl⟩
    obtain ⟨Y, hY⟩ : ∃ Y, Y = 2 * r * H := ⟨_, rfl⟩
    have hYP : Y ≤ PP := by rw [hY]; exact HO.out r hr1
    have hw3 : wrap64 (2 * (r : Int) * ((m : Int) / 2)) = (Y : Int) := by
      rw [HHI.out.1, show (2 : Int) * (r : Int) * (H : Int) = ((2 * r * H : Nat) : Int) by push_cast; rfl, ← hY]
      exact IntWalk.wrap64_in (Y : Int) (by omega)
    have g2 : decide ((PP : Int) < (Y : Int)) = false := by simp; omega
    have g2b : decide (PP < Y) = false := by simp; omega
    clear hr1 hY HPV
    go_wp2
    go_ret
    exact ⟨rfl, rfl⟩
end Go.Proofs.Ytdkppgmhhijkgaa

namespace Go.Proofs.Ytdkppgmhhijkgaa
open Go.RowKit
set_option linter.unusedVariables false
set_option maxRecDepth 100000

theorem TrB.many {B : Nat} {w : World} {tb m : Nat} {P : List Pr} (h : TrB B w tb m P) : w.cell? ⟨tb, 3, none⟩ = some (.int .i64 P.length) ∧ tb < w.heap.size := by
  obtain ⟨h0, D, ⟨g, L, F, root, d, t, h1, h2, h3, h4⟩, h5⟩ := h
  exact ⟨h1.cells.2.2.2.1, h1.lt.1⟩
theorem soundb {B : Nat} {w : World} {tb m : Nat} {P : List Pr} (h : TrB B w tb m P) :
    Calls Try.prog 19 #[.pointer (some ⟨tb, 0, none⟩)] w fun e w' => ∃ xb, e = .returned (.tuple #[.pointer (some ⟨xb, 0, none⟩), .bool true]) ∧ Below w.heap.size w w' ∧
      (∃ A n c, w'.cell? ⟨xb, 3, none⟩ = some (.slice A n c) ∧ Prs w' A n c P) ∧ Calls Try.prog 27 #[.pointer (some ⟨xb, 0, none⟩)] w' fun e w'' => e = .returned (.int .i64 0) ∧ w' = w'' := by
  obtain ⟨h0, D, ⟨g, L, F, root, d, t, h1, h2, rfl, h4⟩, h5⟩ := h
  refine (sound_any h1 h2 h4).mono fun e w' ⟨xb, S, e1, e2, e3, e4⟩ => ⟨xb, e1, e4, ?_, over_any (h1.below e4) h2 h4 e2⟩
  have e2' := e2
  rw [sawn_is] at e2'
  obtain ⟨A1, c1, A2, c2, A3, c3, -, -, k3, -, -, q3⟩ := e2'.lists
  exact ⟨A3, _, c3, k3, q3⟩
theorem few_small {L : List Pr} {m : Nat} (h : fewB L m = true) : Small L ∧ L.length ≤ m := by
  unfold fewB at h
  simp only [Bool.and_eq_true, decide_eq_true_eq] at h
  refine ⟨fun p hp => ?_, h.2⟩
  have := List.all_eq_true.1 h.1 p hp
  unfold shortB at this
  simp only [Bool.and_eq_true, decide_eq_true_eq] at this
  omega
theorem few_short {L : List Pr} {m : Nat} (h : fewB L m = true) : ∀ p ∈ L, p.1.length ≤ 100 ∧ p.2.length ≤ 100 := by
  unfold fewB at h
  simp only [Bool.and_eq_true, decide_eq_true_eq] at h
  intro p hp
  have := List.all_eq_true.1 h.1 p hp
  unfold shortB at this
  simpa only [Bool.and_eq_true, decide_eq_true_eq] using this
theorem bne_same (b : Bool) : (b != b) = false := by cases b <;> rfl
theorem Drawn.bel {w w' : World} (h : Drawn w w') (B : Nat) : Below B w w' := h.below B
theorem below_on {a w w' : World} (h : Below a.heap.size a w) (hb : Below w.heap.size w w') : Below a.heap.size a w' := h.trans (hb.mono h.size)
theorem TrB.lt {B : Nat} {w : World} {tb m : Nat} {P : List Pr} (h : TrB B w tb m P) : B ≤ w.heap.size := by
  obtain ⟨h0, D, h1, h2⟩ := h
  have := h1.lt.1
  omega

/-- A tree whose blocks D names, all of them from B on. -/
structure TreD (B : Nat) (D : Nat → Prop) (w : World) (tb m : Nat) (P : List Pr) : Prop where
  tbn : B ≤ tb
  tre : Tre w D tb m P
  dn : ∀ b, D b → B ≤ b
theorem TreD.b {B : Nat} {D : Nat → Prop} {w : World} {tb m : Nat} {P : List Pr} (h : TreD B D w tb m P) : TrB B w tb m P := ⟨h.tbn, D, h.tre, h.dn⟩
theorem TreD.below {B : Nat} {D : Nat → Prop} {w w' : World} {tb m : Nat} {P : List Pr} (h : TreD B D w tb m P) (hb : Below w.heap.size w w') : TreD B D w' tb m P := ⟨h.tbn, h.tre.below hb, h.dn⟩
theorem newd (w : World) (m : Nat) (h3 : 3 ≤ m) (h16 : m ≤ 16) :
    Calls Try.prog 23 #[.int .i64 m] w fun e w' => ∃ tb D, e = .returned (.tuple #[.pointer (some ⟨tb, 0, none⟩), .nilIface]) ∧ TreD w.heap.size D w' tb m [] ∧ Below w.heap.size w w' :=
  (new_yes w m h3 h16).mono fun e w' ⟨tb, D, h1, h2, h3, h4, h5⟩ => ⟨tb, D, h1, ⟨h3, h2, h4⟩, h5⟩
/-- What else stays while a tree turns. -/
theorem on_put {D D' : Nat → Prop} {tb : Nat} {w w' : World} {P : World → Prop} (h : On (fun b => ¬ D b ∧ b ≠ tb) w P) (ho : Only (fun b => D b ∨ b = tb) w w') (hd : ∀ b, D' b → D b ∨ w.heap.size ≤ b) : On (fun b => ¬ D' b ∧ b ≠ tb) w' P :=
  ((h.now).keep (ho.agree fun b hb hs => by
    rcases hs with hs | hs
    · exact hb.1.1 hs
    · exact hb.1.2 hs)).mono fun b hb => ⟨fun hd' => by
      rcases hd b hd' with h | h
      · exact hb.1.1 h
      · have := hb.2; omega, hb.1.2⟩
theorem on_new {D : Nat → Prop} {tb N : Nat} {w : World} {P : World → Prop} (h : On (fun b => (¬ D b ∧ b ≠ tb) ∨ N ≤ b) w P) (hD : ∀ b, D b → b < N) (ht : tb < N) : On (fun b => ¬ D b ∧ b ≠ tb) w P :=
  h.mono fun b hb => by
    rcases hb with hb | hb
    · exact hb
    · exact ⟨fun hd => by have := hD b hd; omega, fun e => by omega⟩
theorem on_old {B : Nat} {D : Nat → Prop} {tb m : Nat} {w w' : World} {P : List Pr} {A : Option Addr} {n : Nat} {l : Ky} (h : Byt w A n l) (hb : Below w.heap.size w w') (hN : w.heap.size ≤ B) (ht : TreD B D w' tb m P) : On (fun b => ¬ D b ∧ b ≠ tb) w' (Byt · A n l) :=
  ((byt_old h).keep (below_all hb)).mono fun b hb => ⟨fun hd => by have := ht.dn b hd; omega, fun e => by have := ht.tbn; omega⟩
def PutD (B : Nat) (D : Nat → Prop) (w : World) (tb m : Nat) (P : List Pr) (b : Bool) (er : Value) (e : Ending) (w' : World) : Prop :=
  e = .returned (.tuple #[.bool b, er]) ∧ ∃ D', TreD B D' w' tb m P ∧ (∀ b, D' b → D b ∨ w.heap.size ≤ b) ∧ Only (fun b => D b ∨ b = tb) w w' ∧ Below B w w'
theorem putd {B : Nat} {D : Nat → Prop} {w : World} {tb m : Nat} {P : List Pr} (h : TreD B D w tb m P) (hB : B ≤ w.heap.size) {C V : Option Addr} {o p : Nat} (q r : Nat) {k v : Ky} (hk : Byt w C o k) (hv : Byt w V p v) (ho : o ≤ 1000) (hp : p ≤ 1000) :
    Calls Try.prog 18 #[.pointer (some ⟨tb, 0, none⟩), .slice C o q, .slice V p r] w (PutD B D w tb m (putP P k v) (putF P k v) (errV (putE P k v))) := by
  obtain ⟨h0, h1, h2⟩ := h
  exact (tput_any h1 q r hk hv ho hp).mono fun e w' ⟨e1, D', e2, e3, e4⟩ => ⟨e1, D', ⟨h0, e2, fun b hb => (e3 b hb).elim (h2 b) (fun h => Nat.le_trans hB h)⟩, e3, e4, e4.below (fun b hb => hb.elim (h2 b) (fun h => by rw [h]; exact h0)) hB⟩

/-- What putting a pair into few pairs is. -/
theorem put_few {P : List Pr} (hl : P.length < 1000) (k v : Ky) : putP P k v = (if fairB (k, v) then putL P k v else P) ∧ putE P k v = (if fairB (k, v) then 0 else 1) ∧ putF P k v = (fairB (k, v) && !hasB P k) := by
  unfold putP putE putF
  simp [hl]
theorem fair_no {k v : Ky} {o p : Nat} (hk : k.length = o) (hv : v.length = p) (h : fairB (k, v) = false) : mayB k = false ∨ (mayB k = true ∧ 32 < p) := by
  unfold fairB at h
  cases hm : mayB k
  · exact .inl rfl
  · rw [hm] at h
    simp at h
    exact .inr ⟨rfl, by omega⟩
theorem fair_yes {k v : Ky} {p : Nat} (hv : v.length = p) (h : fairB (k, v) = true) : mayB k = true ∧ p ≤ 32 := by
  unfold fairB at h
  simp at h
  exact ⟨h.1, by omega⟩


theorem prs_old {w : World} {A : Option Addr} {n c : Nat} {L : List Pr} (h : Prs w A n c L) : On (· < w.heap.size) w (Prs · A n c L) := fun w' ha => h.keep ha.1 (fun q hq => World.cell?_of_block (ha.2 q.block hq hq))
theorem on_oldp {B : Nat} {D : Nat → Prop} {tb m : Nat} {w w' : World} {P L : List Pr} {A : Option Addr} {n c : Nat} (h : Prs w A n c L) (hb : Below w.heap.size w w') (hN : w.heap.size ≤ B) (ht : TreD B D w' tb m P) : On (fun b => ¬ D b ∧ b ≠ tb) w' (Prs · A n c L) :=
  ((prs_old h).keep (below_all hb)).mono fun b hb => ⟨fun hd => by have := ht.dn b hd; omega, fun e => by have := ht.tbn; omega⟩

/-- Where the loop that makes a row of any pairs has come to. -/
def RowInvO (w : World) (E : Nat → Prop) (L : List Pr) (j : Nat) (v : Value) (wr : World) : Prop :=
  ∃ A m c, v = .slice A m c ∧ On (fun b => E b ∨ w.heap.size ≤ b) wr (Prs · A m c (rowL (L.take j))) ∧ Below w.heap.size w wr

set_option maxHeartbeats 2000000 in
theorem rrow_on {E : Nat → Prop} {w : World} {A : Option Addr} {n c : Nat} {L : List Pr} (h : On E w (Prs · A n c L)) (hm : Small L) (hn : n ≤ 500) :
    Calls Try.prog 14 #[.slice A n c] w (MadeO w E (rowL L)) := by
  have HL := Lib.hid h.here.len
  have H := Lib.hid h
  have HM := Lib.hid hm
  clear h hm
  go_enter Try.func14, Try.ntmps14
  go_wp2
  go_loopw [3, 4] (fun v i wr => ∃ j : Nat, j ≤ n ∧ i = .int .i64 j ∧ RowInvO w E L j v wr) (fun _ i _ => n - (intOf i).toNat)
  case atStart => exact ⟨0, Nat.zero_le _, rfl, none, 0, 0, rfl, fun v _ => prs_nil v, Below.refl _ _⟩
  case round =>
    obtain ⟨j, hj, rfl, A1, m, c1, rfl, hp, hb⟩ := hrel
    have HP := Lib.hid hp
    have HB := Lib.hid hb
    have hft := row_fit L j (by rw [HL.out]; exact hj)
    have HF := Lib.hid hft.1
    have hm1 : m ≤ j := by rw [← hp.here.len]; exact hft.2
    clear hp hft
    by_cases hlt : j < n
    · have hj' : j < L.length := by rw [HL.out]; exact hlt
      have HST := Lib.hid (row_step L hj')
      have hsm := HM.out _ (gt_mem hj')
      obtain ⟨b, oo, A2, n2, c2, B2, m2, d2, rfl, k0, k1, y1, y2⟩ := prs_pair_on (H.out.keep (below_all hb)) hlt
      have HC := rmay_any c2 y1.here
      have HY := Lib.hid (And.intro y1 y2)
      have hv : fairB (gt L j) = (mayB (gt L j).1 && decide (m2 ≤ 32)) := by unfold fairB; rw [y2.here.1]
      have HV := Lib.hid hv
      have hn2 : n2 ≤ 1000 := by rw [← y1.here.1]; exact hsm.1
      clear hv hsm hb y1 y2 hj'
      cases hmay : mayB (gt L j).1
      · rw [hmay] at HC HV
        have he : rowL (L.take (j + 1)) = rowL (L.take j) := by rw [HST.out, HV.out]; rfl
        have HE := Lib.hid he
        clear he hmay
        go_wp2_with fail
        refine HC.mono ?_
        rintro e w' ⟨rfl, rfl⟩
        go_wp2
        go_roundw
        case rel => exact ⟨j + 1, by omega, by go_num, A1, m, c1, rfl, by rw [HE.out]; exact HP.out, HB.out⟩
        case measure => simp [intOf]; omega
      · rw [hmay] at HC HV
        have HMY := Lib.hid hmay
        clear hmay
        by_cases h32 : m2 ≤ 32
        · have he : rowL (L.take (j + 1)) = putL (rowL (L.take j)) (gt L j).1 (gt L j).2 := by rw [HST.out, HV.out, show decide (m2 ≤ 32) = true by simp [h32]]; rfl
          have HE := Lib.hid he
          have HQ := Lib.hid (rput_on (E := fun b => E b ∨ w.heap.size ≤ b) (w := wr.drew) c2 d2 (HP.out.keep (below_all (Below.refl wr.heap.size wr).drew)) ((HY.out.1.mono (fun b hb => .inl hb)).keep (below_all (Below.refl wr.heap.size wr).drew)) ((HY.out.2.mono (fun b hb => .inl hb)).keep (below_all (Below.refl wr.heap.size wr).drew)) HF.out.1 (small_fit HF.out) hn2 (by omega))
          clear he
          go_wp2_with fail
          refine HC.mono ?_
          rintro e w' ⟨rfl, rfl⟩
          go_wp2
          go_still_tail 11, (by kernel_rfl)
          change wpList _ _ _ _ _ wr.drew
          go_wp2_with fail
          refine HQ.out.mono ?_
          rintro e w3 ⟨A3, n3, c3, rfl, hp3, hb3⟩
          have HP3 := Lib.hid hp3
          have HB3 := Lib.hid (HB.out.drew.trans (hb3.mono HB.out.size))
          have hws := HB.out.size
          clear hp3 hb3
          go_wp2
          go_roundw
          case rel => exact ⟨j + 1, by omega, by go_num, A3, n3, c3, rfl, by
            rw [HE.out]
            exact HP3.out.mono (fun b hb => by
              rcases hb with hb | hb
              · exact hb
              · exact .inr (Nat.le_trans hws hb)), HB3.out⟩
          case measure => simp [intOf]; omega
        · have he : rowL (L.take (j + 1)) = rowL (L.take j) := by rw [HST.out, HV.out, show decide (m2 ≤ 32) = false by simp; omega]; rfl
          have HE := Lib.hid he
          clear he
          go_wp2_with fail
          refine HC.mono ?_
          rintro e w' ⟨rfl, rfl⟩
          go_wp2
          go_roundw
          case rel => exact ⟨j + 1, by omega, by go_num, A1, m, c1, rfl, by rw [HE.out]; exact HP.out, HB.out⟩
          case measure => simp [intOf]; omega
    · have hall : L.take j = L := List.take_of_length_le (by rw [HL.out]; omega)
      rw [hall] at HP
      clear hall
      go_wp2
      go_ret
      exact ⟨A1, m, c1, rfl, HP.out, HB.out⟩

/-- Few pairs, put one by one, are the document's row. -/
theorem made_row {L : List Pr} (hl : L.length ≤ 500) : ∀ i, i ≤ L.length → madeL (L.take i) = rowL (L.take i)
  | 0, _ => rfl
  | i + 1, h => by
    have ih := made_row hl i (by omega)
    have hf := (row_fit L i (by omega)).2
    rw [made_step L (by omega), row_step L (by omega), ih, (put_few (by omega) _ _).1]
theorem made_is {L : List Pr} (hl : L.length ≤ 500) : madeL L = rowL L := by
  have := made_row hl L.length (Nat.le_refl _)
  rwa [List.take_length] at this
end Go.Proofs.Ytdkppgmhhijkgaa
