/- The contract of package prune's mend by what is left of the tree. Condition: a sound tree's node, one of whose kids may have one too few. The contract of package prune's drop at a leaf, and at another node. Condition: a sound tree's node; a key in its range. The contract of package prune's drop, whatever the depth. Condition: a sound tree's node; a key in its range. Contracts of package prune's lower, remove and Delete. Condition: a sound tree. Deleting where only a tree's pairs matter; the law's up. Condition: a sound tree. -/
import Derived.Test.YthbmchkbebneiaaG13
import Derived.Test.YthbmchkbebneiaaG10
namespace Go.Proofs.Ythbmchkbebneiaa
open Go.RowKit
set_option linter.unusedVariables false

theorem ndT_leaf2 : ∀ (d : Nat) (a b : Tr d), (ndT d a).leaf = (ndT d b).leaf
  | 0, a, b => rfl
  | d + 1, a, b => rfl
theorem ndT_whole {m n : Nat} : ∀ {d : Nat} {lo hi : Ky} {t : Tr d}, OkW m n d lo hi t → (ndT d t).leaf = true ∨ ((ndT d t).leaf = false ∧ (ndT d t).kids.length = (ndT d t).keys.length + 1)
  | 0, lo, hi, t, h => .inl rfl
  | d + 1, lo, hi, t, h => .inr ⟨rfl, by
      have := h.2.len
      show ((nn t).2.2.map _).length = (nn t).2.1.length + 1
      rw [List.length_map]; exact this⟩

/-- What mend leaves, by the tree. -/
structure MendPost (w : World) (D Cn : Nat → Prop) (tb g root m many d i : Nat) (lo hi : Ky) (ks : List Ky) (ts : List (Tr d)) (L : List (Option Nd)) (F : List Nat) (w' : World) (D' : Nat → Prop) (L' : List (Option Nd)) (F' : List Nat) (ks' : List Ky) (ts' : List (Tr d)) (fr : List Nat) : Prop where
  tr : TrM w' D' tb g L' F' root m many
  own : ∀ b, D' b → D b ∨ w.heap.size ≤ b
  only : Only (fun b => D b ∨ Cn b) w w'
  post : FixPost m d lo hi ks ts ks' ts' fr
  holds : Holds L' (d + 1) (mkN i ks' ts')
  eF : F' = F ++ fr
  len : L'.length = L.length
  far : ∀ x, x ≠ i → x ∉ numss d ts → lat L' x = lat L x

theorem mend_post {w : World} {D Cn : Nat → Prop} {tb g : Nat} {L : List (Option Nd)} {F : List Nat} {root m many d i j : Nat} {lo hi : Ky} {ks : List Ky} {ts : List (Tr d)} {c : Tr d} {hn : Nh} (hT : TrM w D tb g L F root m many) (hn0 : NodeIn w Cn hn ⟨false, [], ks, ts.map (fun c => (num d c : Int)), 0⟩) (hcn : ∀ b, Cn b → ¬ D b ∧ b ≠ tb ∧ b < w.heap.size)
    (hk : Kids (OkW m m d) hi lo ks ts) (hj : ts[j]? = some c) (h1 : 1 ≤ ks.length) (h16 : ks.length ≤ 16) (hsz : ∀ i x, i ≠ j → ts[i]? = some x → m / 2 ≤ szT d x) (hc : m / 2 ≤ szT d c + 1) (hL : lat L i = some ⟨false, [], ks, ts.map (fun c => (num d c : Int)), 0⟩) (hts : ∀ c ∈ ts, Holds L d c) (hnd : (i :: numss d ts).Nodup) (m3 : 3 ≤ m) (m16 : m ≤ 16) (few : L.length ≤ 2000) (fewF : F.length ≤ 2000) :
    Calls Try.prog 72 #[.pointer (some ⟨tb, 0, none⟩), .int .i64 i, ndV hn ⟨false, [], ks, ts.map (fun c => (num d c : Int)), 0⟩, .int .i64 j] w fun e w' => e = .returned (.tuple #[]) ∧ ∃ D' L' F' ks' ts' fr, MendPost w D Cn tb g root m many d i lo hi ks ts L F w' D' L' F' ks' ts' fr := by
  have hcm : c ∈ ts := List.mem_of_getElem? hj
  have hkl := hk.len
  have hbase : MendIn w D Cn tb g L F root m many i ⟨false, [], ks, ts.map (fun c => (num d c : Int)), 0⟩ hn j (num d c) (ndT d c) := ⟨hT, hn0, hcn, rfl, by show (ts.map _).length = _; rw [List.length_map]; exact hkl, h1, h16, by show (ts.map _)[j]? = _; rw [List.getElem?_map, hj]; rfl, (hts c hcm).here, few, m16⟩
  rcases fix_post m3 hk hj h1 hsz hc with ⟨hs, hp⟩ | ⟨hs, k1, s, k2, t1, a, b, t2, hf, hn1, hab, hp1, hp2⟩
  · refine (mend_enough hbase (by rw [szNd_T]; exact hs)).mono fun e w' ⟨he, hb⟩ => ⟨he, D, L, F, ks, ts, [], ⟨hT.below hb, fun b hb => .inl hb, below_only hb, hp, ⟨hL, hts⟩, by simp, rfl, fun x _ _ => rfl⟩⟩
  · have hea := hf.ets
    have hek := hf.eks
    have hl1 := hf.len
    have hat := hf.at_
    have ha : a ∈ ts := by rw [hea]; simp
    have hb : b ∈ ts := by rw [hea]; simp
    obtain ⟨la, hha, oa, -⟩ := kids_all hk a ha
    obtain ⟨lb, hhb, ob, -⟩ := kids_all hk b hb
    have hni := List.nodup_cons.1 hnd
    have hia : i ≠ num d a := fun e => hni.1 (e ▸ nums_sub ha _ (num_in d a))
    have hib : i ≠ num d b := fun e => hni.1 (e ▸ nums_sub hb _ (num_in d b))
    have hns : numss d ts = numss d t1 ++ ((nums d a ++ nums d b) ++ numss d t2) := by rw [hea, numss_app, numss_cons, numss_cons]; simp
    have hnd2 := hni.2
    rw [hns] at hnd2
    obtain ⟨q1, q2, q3⟩ := List.nodup_append.1 hnd2
    obtain ⟨q4, q5, q6⟩ := List.nodup_append.1 q2
    obtain ⟨q7, q8, q9⟩ := List.nodup_append.1 q4
    have hab' : num d a ≠ num d b := fun e => q9 _ (num_in d a) _ (num_in d b) e
    have hsm := hT.2.1.small hL
    have hkat : kat ks (j - 1) = s := by
      rw [hek]; unfold kat
      rw [List.getD_eq_getElem?_getD, ← hat, get_mid k1 k2 s rfl]; rfl
    have hin : FixIn w D Cn tb g L F root m many i ⟨false, [], ks, ts.map (fun c => (num d c : Int)), 0⟩ hn j (num d c) (ndT d c) (j - 1) (num d a) (num d b) (ndT d a) (ndT d b) :=
      { base := hbase
        few8 := by rw [szNd_T]; exact hs
        eat := rfl
        atk := by show j - 1 < ks.length; rw [hek]; simp; omega
        klow := by show (ts.map _)[j - 1]? = _; rw [List.getElem?_map, hea, get_mid t1 (b :: t2) a (by omega)]; rfl
        khigh := by
          show (ts.map _)[j - 1 + 1]? = _
          rw [List.getElem?_map, hea]
          have := get_mid (t1 ++ [a]) t2 b (j := j - 1 + 1) (by simp; omega)
          rw [show t1 ++ a :: b :: t2 = (t1 ++ [a]) ++ b :: t2 by simp, this]; rfl
        lx := (hts a ha).here
        ly := (hts b hb).here
        wx := ndT_whole oa
        wy := ndT_whole ob
        eq := ndT_leaf2 d a b
        sx := by rw [szNd_T]; have := oa.sz; omega
        sy := by rw [szNd_T]; have := ob.sz; omega
        ll := hab'
        il := hia
        ih := hib
        hi := ⟨_, hL⟩
        fewF := fewF
        m3 := m3
        ks := hsm.2.2.2.1
        np := rfl
        nx := rfl }
    refine (mend_fix hin).mono fun e w' ⟨he, D', t1', t2', t3'⟩ => ?_
    obtain ⟨z1, z2, z3, z4⟩ := fix_holds hf hL hts hnd hn1 (fun q hq => (hp2 q hq).1) (F := F) (out := fixO m L F i ⟨false, [], ks, ts.map (fun c => (num d c : Int)), 0⟩ (j - 1) (num d a) (num d b) (joinNd (ndT d a) (kat ks (j - 1)) (ndT d b))) (by rw [hkat])
    simp only at t1'
    generalize fixO m L F i _ (j - 1) (num d a) (num d b) _ = out at *
    refine ⟨he, D', out.1, out.2, ?_⟩
    cases ho : (joinR m d a s b).2.1 with
    | none =>
      obtain ⟨y1, y2⟩ := z3 ho
      exact ⟨_, _, _, ⟨t1', t2', t3', hp1 ho, y2, y1, z1, z2⟩⟩
    | some q =>
      obtain ⟨y1, y2⟩ := z4 q ho
      exact ⟨_, _, _, ⟨t1', t2', t3', (hp2 q ho).2, y2, by rw [y1]; simp, z1, z2⟩⟩
end Go.Proofs.Ythbmchkbebneiaa

namespace Go.Proofs.Ythbmchkbebneiaa
open Go.RowKit
set_option linter.unusedVariables false
set_option maxRecDepth 100000

/-- What deleting leaves of an arena's numbers. -/
structure DropPost (m d : Nat) (lo hi k : Ky) (t : Tr d) (L : List (Option Nd)) (F : List Nat) (t' : Tr d) (fr : List Nat) (L' : List (Option Nd)) (F' : List Nat) : Prop where
  del : DelPost m d lo hi k t t' fr
  holds : Holds L' d t'
  eF : F' = F ++ fr
  len : L'.length = L.length
  far : ∀ x, x ∉ nums d t → lat L' x = lat L x
/-- .. and of memory. -/
def Dropped (w : World) (D : Nat → Prop) (tb g root m many d : Nat) (lo hi k : Ky) (t : Tr d) (L : List (Option Nd)) (F : List Nat) (e : Ending) (w' : World) : Prop :=
  e = .returned (.bool (hasB (flat d t) k)) ∧ ∃ D' L' F' t' fr, TrM w' D' tb g L' F' root m many ∧ (∀ b, D' b → D b ∨ w.heap.size ≤ b) ∧ Only D w w' ∧ DropPost m d lo hi k t L F t' fr L' F' ∧ (hasB (flat d t) k = false → L' = L ∧ F' = F)
/-- What drop asks. -/
structure DropIn (w : World) (D : Nat → Prop) (tb g : Nat) (L : List (Option Nd)) (F : List Nat) (root m many d : Nat) (b : Bool) (lo hi k : Ky) (t : Tr d) (C : Option Addr) (o deep : Nat) : Prop where
  tr : TrM w D tb g L F root m many
  holds : Holds L d t
  ok : Ok m d b lo hi t
  inr : inR lo hi k
  nodup : (nums d t).Nodup
  byt : Byt w C o k
  low : d ≤ deep
  high : deep ≤ 100000
  m3 : 3 ≤ m
  m16 : m ≤ 16
  few : L.length ≤ 2000

theorem nodup_short : ∀ (n : Nat) (F : List Nat), F.Nodup → (∀ i ∈ F, i < n) → F.length ≤ n
  | 0, F, _, h => by
    cases F with
    | nil => exact Nat.le_refl _
    | cons a F => have := h a (by simp); omega
  | n + 1, F, hd, h => by
    have h1 := nodup_short n (F.erase n) (hd.erase n) (fun i hi => by
      have h2 := (hd.mem_erase_iff).1 hi
      have := h i h2.2
      omega)
    have h3 := List.length_erase (a := n) (l := F)
    split at h3 <;> omega
theorem free_few {L : List (Option Nd)} {F : List Nat} (h : FreeOk L F) : F.length ≤ L.length := nodup_short _ F h.1 (fun i hi => (h.2 i hi).1)
theorem small_del {L : List Pr} {k : Ky} (h : Small L) : Small (delL L k) := fun p hp => h p (mem_del hp)
theorem del_not {L : List Pr} (h : Srt L) {k : Ky} (hb : hasB L k = false) : delL L k = L := by rw [del_is h, hb]; rfl
theorem drop_not {m : Nat} {d : Nat} {b : Bool} {lo hi k : Ky} {t : Tr d} {L : List (Option Nd)} {F : List Nat} (h : Ok m d b lo hi t) (hL : Holds L d t) (hb : hasB (flat d t) k = false) : DropPost m d lo hi k t L F t [] L F :=
  ⟨⟨rfl, (ok_w h).1, Nat.le_succ _, (del_not h.fit.1.1 hb).symm, by simp, fun s e h => h⟩, hL, by simp, rfl, fun _ _ => rfl⟩

set_option maxHeartbeats 4000000 in
theorem drop_leaf {w : World} {D : Nat → Prop} {tb g : Nat} {L : List (Option Nd)} {F : List Nat} {root m many : Nat} {b : Bool} {lo hi k : Ky} {t : Tr 0} {C : Option Addr} {o deep : Nat} (q : Nat) (h : DropIn w D tb g L F root m many 0 b lo hi k t C o deep) :
    Calls Try.prog 52 #[.pointer (some ⟨tb, 0, none⟩), .int .i64 (num 0 t : Nat), .slice C o q, .int .i64 (deep : Nat)] w (Dropped w D tb g root m many 0 lo hi k t L F) := by
  obtain ⟨i, ps, nx⟩ := t
  have hx : lat L i = some ⟨true, ps, [], [], nx⟩ := h.holds
  have hok : Fit ps ∧ ps.length ≤ m ∧ (b = false → m / 2 ≤ ps.length) ∧ ∀ p ∈ ps, inR lo hi p.1 := h.ok
  have H := Lib.hid h
  have HX := Lib.hid (And.intro hx hok)
  have HG := get_node h.tr.2.1 (k := i) (by have := lat_lt hx; have := h.few; omega) hx
  obtain ⟨c0, -, -, -, -, -⟩ := h.tr.cells
  show Calls Try.prog 52 #[.pointer (some ⟨tb, 0, none⟩), .int .i64 i, .slice C o q, .int .i64 (deep : Nat)] w _
  clear h hx hok
  go_enter Try.func52, Try.ntmps52
  go_wp2_with fail
  refine HG.mono ?_
  rintro e w1 ⟨h1, rfl, hin, hb1⟩
  have HIN := Lib.hid (And.intro hin hb1)
  have W0 := Lib.hid (box5 w1 (.bool true) (.slice h1.A h1.n h1.c) (.slice h1.B h1.m h1.d) (.slice h1.K h1.k h1.e) (.int .i64 nx) 74)
  clear HG hin hb1 c0
  go_upto_region 2 with fail
  obtain ⟨W, hW, hWB, hWs, hWh⟩ := W0.out
  rw [← hW]
  have hB : Below w.heap.size w W := HIN.out.2.trans (hWB.mono HIN.out.2.size)
  have HB := Lib.hid (And.intro hB (And.intro hWs hWh))
  have hp : Prs W h1.A h1.n h1.c ps := (HIN.out.1.reads.here.below hWB).1
  have hn : h1.n = ps.length := hp.1.symm
  have HD := del_any q hp (H.out.byt.below hB) HX.out.2.1.1 (by have := HX.out.2.2.1; have := H.out.m16; omega) (H.out.tr.2.1.small HX.out.1).2.1
  obtain ⟨k0, k1, -, -, k4, -⟩ := five hWh
  clear hW hWB hWs hWh W0 hB hp hn
  go_wp2_with fail
  refine HD.mono ?_
  rintro e w3 ⟨A3, n3, c3, rfl, hp3, hb3⟩
  have hB3 := HB.out.1.trans (hb3.mono HB.out.1.size)
  have HB3 := Lib.hid (And.intro hB3 hp3)
  have HT3 := Lib.hid (H.out.tr.below hB3)
  have hbx := (hb3.block w1.heap.size (by have := HB.out.2.1; omega)).trans HB.out.2.2
  clear HD k0 k1 k4 hb3 hp3 hB3
  cases hh : hasB ps k
  · go_wp2_with fail
    go_ret
    refine ⟨congrArg (fun v => Ending.returned (.bool v)) hh.symm, D, L, F, (i, ps, nx), [], HT3.out, fun b hb => .inl hb, below_only HB3.out.1, drop_not H.out.ok H.out.holds hh, fun _ => ⟨rfl, rfl⟩⟩
  · obtain ⟨c0, -, -, -, -, -⟩ := HT3.out.cells
    obtain ⟨-, -, -, -, k4, -⟩ := five hbx
    have HS := set_node (w := w3.drew) HT3.out.drew.2.1 i HX.out.1 (hh := ⟨A3, n3, c3, none, 0, 0, none, 0, 0⟩) (x := ⟨true, delL ps k, [], [], nx⟩) ⟨(HB3.out.2.below (Below.refl _ _).drew), kys_nil _, ins_nil _⟩ ⟨by have := len_del ps k; have := HX.out.2.2.1; have := H.out.m16; show (delL ps k).length ≤ 1000; omega, small_del (H.out.tr.2.1.small HX.out.1).2.1, by simp, by simp, by simp⟩
    go_upto_region 5 with fail
    go_still_tail 9, (by kernel_rfl)
    change wpList _ _ _ _ _ w3.drew
    go_wp2_with fail
    refine HS.mono ?_
    rintro e w4 ⟨rfl, ht4⟩
    obtain ⟨D4, t1, t2, t3⟩ := trm_turn (w := w3.drew) HT3.out.drew ht4
    have hO : Only D w3 w4 := ⟨t3.os, t3.tape, t3.output, t3.size, t3.block⟩
    have HT4 := Lib.hid (show Dropped w D tb g root m many 0 lo hi k (i, ps, nx) L F (.returned (.bool true)) w4 from ⟨congrArg (fun v => Ending.returned (.bool v)) hh.symm, D4, L.set i (some ⟨true, delL ps k, [], [], nx⟩), F, mkL i (delL ps k) nx, [], t1, fun b hb => (t2 b hb).elim .inl (fun h => .inr (by have h1 : w3.heap.size ≤ b := h; have := HB3.out.1.size; omega)), (below_only HB3.out.1).trans hO,
      ⟨del_leaf H.out.ok, lat_set_eq (lat_lt HX.out.1), by simp, by simp, fun x hx => lat_set_ne (fun e => hx (by rw [e]; show i ∈ [i]; simp))⟩, fun e => absurd (show hasB ps k = false from e) (by rw [hh]; simp)⟩)
    clear t1 t2 t3 ht4 HS hO c0 k4
    go_wp2
    go_ret
    exact HT4.out
end Go.Proofs.Ythbmchkbebneiaa

namespace Go.Proofs.Ythbmchkbebneiaa
open Go.RowKit
set_option linter.unusedVariables false
set_option maxRecDepth 100000

theorem kid_has {m : Nat} (hm : 3 ≤ m) {d : Nat} {lo hi k : Ky} {ks : List Ky} {ts : List (Tr d)} {k1 k2 : List Ky} {t1 t2 : List (Tr d)} {c : Tr d} {l hh : Ky} (q : KidAt (OkW m m d) lo hi k ks ts k1 k2 t1 t2 c l hh) (hok : Ok m d false l hh c) (hall : ∀ x ∈ ts, m / 2 ≤ szT d x) : hasB (flats d ts) k = hasB (flat d c) k := by
  have hts := q.ets
  have hA : ∀ p ∈ flats d t1, ltB p.1 k = true := fun p hp => by
    obtain ⟨L, hL, hp⟩ := List.mem_flatten.1 hp
    obtain ⟨t', ht, rfl⟩ := List.mem_map.1 hL
    obtain ⟨l', h', x1, x2, x3⟩ := q.before t' ht
    exact (w_ok hm x1 (hall t' (by rw [hts]; simp [ht]))).bel x2 x3 p hp
  have hC : ∀ p ∈ flats d t2, ltB k p.1 = true := fun p hp => by
    obtain ⟨L, hL, hp⟩ := List.mem_flatten.1 hp
    obtain ⟨t', ht, rfl⟩ := List.mem_map.1 hL
    obtain ⟨l', h', x1, x2⟩ := q.after t' ht
    exact (w_ok hm x1 (hall t' (by rw [hts]; simp [ht]))).abv x2 p hp
  rw [hts, flats_app, flats_cons]
  exact (has_mid hA hC hok.fit.1.1).1

/-- Where a kid is another one: what the node is then. -/
theorem inner_plain {m d i : Nat} {lo hi k : Ky} {ks : List Ky} {ts t1 t2 : List (Tr d)} {c c' : Tr d} {L L1 : List (Option Nd)} {F F1 : List Nat} {fr : List Nat} (hts : ts = t1 ++ c :: t2) (hx : lat L i = some ⟨false, [], ks, ts.map (fun c => (num d c : Int)), 0⟩) (hH : ∀ x ∈ ts, Holds L d x) (hnd : (i :: numss d ts).Nodup) (hd : DropPost m d lo hi k c L F c' fr L1 F1) :
    ts.map (fun c => (num d c : Int)) = (t1 ++ c' :: t2).map (fun c => (num d c : Int)) ∧ lat L1 i = some ⟨false, [], ks, (t1 ++ c' :: t2).map (fun c => (num d c : Int)), 0⟩ ∧ (∀ x ∈ t1 ++ c' :: t2, Holds L1 d x) ∧ (i :: numss d (t1 ++ c' :: t2)).Nodup ∧ (∀ x ∈ numss d (t1 ++ c' :: t2), x ∈ numss d ts) ∧ ∀ x ∈ nums d c, x ∈ numss d ts := by
  have hsub := del_sub hd.del
  have hns : numss d ts = numss d t1 ++ (nums d c ++ numss d t2) := by rw [hts, numss_app, numss_cons]
  have hns' : numss d (t1 ++ c' :: t2) = numss d t1 ++ (nums d c' ++ numss d t2) := by rw [numss_app, numss_cons]
  have hni := List.nodup_cons.1 hnd
  have hnd2 := hni.2
  rw [hns] at hnd2
  obtain ⟨q1, q2, q3⟩ := List.nodup_append.1 hnd2
  obtain ⟨q4, q5, q6⟩ := List.nodup_append.1 q2
  have hcs : ∀ x ∈ nums d c, x ∈ numss d ts := fun x hx => by rw [hns]; exact List.mem_append_right _ (List.mem_append_left _ hx)
  have e1 : ts.map (fun c => (num d c : Int)) = (t1 ++ c' :: t2).map (fun c => (num d c : Int)) := by
    rw [hts]; simp [hd.del.num]
  have hin : ∀ x ∈ numss d (t1 ++ c' :: t2), x ∈ numss d ts := fun x hx => by
    rw [hns'] at hx
    rw [hns]
    rcases List.mem_append.1 hx with hx | hx
    · exact List.mem_append_left _ hx
    · rcases List.mem_append.1 hx with hx | hx
      · exact List.mem_append_right _ (List.mem_append_left _ (hsub.1 x hx))
      · exact List.mem_append_right _ (List.mem_append_right _ hx)
  refine ⟨e1, ?_, fun x hx' => ?_, List.nodup_cons.2 ⟨fun hi => hni.1 (hin i hi), ?_⟩, hin, hcs⟩
  · rw [hd.far i (fun hi => hni.1 (hcs i hi)), hx, e1]
  · rcases List.mem_append.1 hx' with hx' | hx'
    · exact holds_keep (hH x (by rw [hts]; simp [hx'])) fun y hy => hd.far y fun hc => q3 y (nums_sub hx' y hy) y (List.mem_append_left _ hc) rfl
    · rcases List.mem_cons.1 hx' with rfl | hx'
      · exact hd.holds
      · exact holds_keep (hH x (by rw [hts]; simp [hx'])) fun y hy => hd.far y fun hc => q6 y hc y (nums_sub hx' y hy) rfl
  · rw [hns']
    have hc' : (nums d c').Nodup := (List.nodup_append.1 (hd.del.nums.nodup_iff.2 q4)).1
    exact List.nodup_append.2 ⟨q1, List.nodup_append.2 ⟨hc', q5, fun a ha b hb => q6 a (hsub.1 a ha) b hb⟩, fun a ha b hb => q3 a ha b ((List.mem_append.1 hb).elim (fun h => List.mem_append_left _ (hsub.1 b h)) (fun h => List.mem_append_right _ h))⟩

structure DropAll (m d : Nat) : Prop where
  go : ∀ {w : World} {D : Nat → Prop} {tb g : Nat} {L : List (Option Nd)} {F : List Nat} {root many : Nat} {b : Bool} {lo hi k : Ky} {t : Tr d} {C : Option Addr} {o deep : Nat} (q : Nat), DropIn w D tb g L F root m many d b lo hi k t C o deep →
    Calls Try.prog 52 #[.pointer (some ⟨tb, 0, none⟩), .int .i64 (num d t : Nat), .slice C o q, .int .i64 (deep : Nat)] w (Dropped w D tb g root m many d lo hi k t L F)

set_option maxHeartbeats 8000000 in
theorem drop_inner {m d : Nat} (ih : DropAll m d) : DropAll m (d + 1) := by
  refine ⟨?_⟩
  intro w D tb g L F root many b lo hi k t C o deep q h
  have IH := Lib.hid ih
  obtain ⟨i, ks, ts⟩ := t
  have hx : lat L i = some ⟨false, [], ks, ts.map (fun c => (num d c : Int)), 0⟩ := h.holds.1
  have hH : ∀ x ∈ ts, Holds L d x := h.holds.2
  have hnd : (i :: numss d ts).Nodup := h.nodup
  have hok : 1 ≤ ks.length ∧ ks.length ≤ m ∧ (b = false → m / 2 ≤ ks.length) ∧ Kids (Ok m d false) hi lo ks ts := h.ok
  obtain ⟨k1, k2, t1, t2, c, l, hh, q0, hokc, hget, hall⟩ := drop_kid h.m3 h.ok h.inr
  have q0 : KidAt (OkW m m d) lo hi k ks ts k1 k2 t1 t2 c l hh := q0
  have hget : ts[kidx ks k]? = some c := hget
  have hall : ∀ x ∈ ts, m / 2 ≤ szT d x := hall
  have hidx : kidx ks k = t1.length := by rw [q0.idx, q0.len]
  obtain ⟨dp, rfl⟩ : ∃ dp, deep = dp + 1 := ⟨deep - 1, by have := h.low; omega⟩
  obtain ⟨kx, hkx⟩ : ∃ kx, kx = kidx ks k := ⟨_, rfl⟩
  rw [← hkx] at hget hidx
  have hkl := hok.2.2.2.len
  have hkxl : kx < ts.length := (List.getElem?_eq_some_iff.1 hget).1
  have hm16 := h.m16
  have H := Lib.hid h
  have HX := Lib.hid (And.intro hx (And.intro hH (And.intro hnd hok)))
  have HQ := Lib.hid (And.intro q0 (And.intro hokc (And.intro hget (And.intro hall hidx))))
  have HKX := Lib.hid hkx
  have HS := Lib.hid (kids_srt hok.2.2.2).1
  have HHAS := Lib.hid (show hasB (flat (d + 1) (i, ks, ts)) k = hasB (flat d c) k from kid_has h.m3 q0 hokc hall)
  have HG := get_node h.tr.2.1 (k := i) (by have := lat_lt hx; have := h.few; omega) hx
  obtain ⟨c0, -, -, -, -, -⟩ := h.tr.cells
  have HL := Lib.hid (show ks.length ≤ 16 ∧ ts.length = ks.length + 1 ∧ kx < ts.length ∧ dp ≤ 100000 ∧ d ≤ dp from ⟨by have := hok.2.1; omega, hkl, hkxl, by have := h.high; omega, by have := h.low; omega⟩)
  show Calls Try.prog 52 #[.pointer (some ⟨tb, 0, none⟩), .int .i64 i, .slice C o q, .int .i64 (dp + 1 : Nat)] w _
  clear h hx hok hH hnd q0 hokc hget hall hidx hkx hkl hkxl hm16 ih
  go_enter Try.func52, Try.ntmps52
  go_wp2_with fail
  refine HG.mono ?_
  rintro e w1 ⟨h1, rfl, hin, hb1⟩
  have HIN := Lib.hid (And.intro hin hb1)
  have W0 := Lib.hid (box5 w1 (.bool false) (.slice h1.A h1.n h1.c) (.slice h1.B h1.m h1.d) (.slice h1.K h1.k h1.e) (.int .i64 0) 74)
  have hm : ks.length = h1.m := hin.reads.here.2.1.1
  have hkk : (ts.map (fun c => (num d c : Int))).length = h1.k := hin.reads.here.2.2.1
  rw [List.length_map] at hkk
  have HMK := Lib.hid (And.intro hm hkk)
  clear HG hin hb1 c0 hm hkk
  go_upto_region 2 with fail
  obtain ⟨W, hW, hWB, hWs, hWh⟩ := W0.out
  rw [← hW]
  have hB : Below w.heap.size w W := HIN.out.2.trans (hWB.mono HIN.out.2.size)
  have HB := Lib.hid (And.intro hB (And.intro hWs hWh))
  have HW1 := Lib.hid hWB
  obtain ⟨b0, b1, b2, b3, b4, -⟩ := five hWh
  have HWH := whole_any (w := W) (h := h1) (x := ⟨false, [], ks, ts.map (fun c => (num d c : Int)), 0⟩) (.inr ⟨rfl, by have := HMK.out; have := HL.out; omega, by have := HMK.out; have := HL.out; omega⟩)
  have hne : ¬ ((dp : Int) + 1 = 0) := by omega
  clear hW hWB hWs hWh W0 hB
  go_wp2_with fail
  refine HWH.mono ?_
  rintro e w2 ⟨rfl, hb2⟩
  have hB2 := HB.out.1.trans (hb2.mono HB.out.1.size)
  have HB2 := Lib.hid (And.intro hB2 (And.intro ((hb2.block w1.heap.size (by have := HB.out.2.1; omega)).trans HB.out.2.2) (HW1.out.trans (hb2.mono HW1.out.size))))
  clear HWH b0 b1 b2 b3 b4 hb2 hB2
  have HK2 := pkidof_any (w := w2) q ((HIN.out.1.reads.here.below HB2.out.2.2).2.1) (H.out.byt.below HB2.out.1) HS.out (by have := HMK.out; have := HL.out; omega)
  rw [← HKX.out] at HK2
  obtain ⟨b0, b1, b2, b3, b4, -⟩ := five HB2.out.2.1
  go_wp2_with fail
  refine HK2.mono ?_
  rintro e w2' ⟨rfl, rfl⟩
  have hn2 := HIN.out.1.keep (below_agree HB2.out.2.2 (fun b hb hl => hl))
  have HN2 := Lib.hid hn2
  obtain ⟨bi, hK, hCi, hbi, hci, hkk⟩ := iat_cell (z := (num d c : Int)) (j := kx) hn2 (by show (ts.map _)[kx]? = _; rw [List.getElem?_map, HQ.out.2.2.1]; rfl)
  have HT2 := Lib.hid (H.out.tr.below HB2.out.1)
  have hD := IH.out.go q (w := w2) (D := D) (tb := tb) (g := g) (L := L) (F := F) (root := root) (many := many) (b := false) (lo := l) (hi := hh) (k := k) (t := c) (C := C) (o := o) (deep := dp) ⟨HT2.out, HX.out.2.1 c (List.mem_of_getElem? HQ.out.2.2.1), HQ.out.2.1, HQ.out.1.inr, (by
    have hni := (List.nodup_cons.1 HX.out.2.2.1).2
    rw [HQ.out.1.ets, numss_app, numss_cons] at hni
    exact (List.nodup_append.1 (List.nodup_append.1 hni).2.1).1), H.out.byt.below HB2.out.1, HL.out.2.2.2.2, HL.out.2.2.2.1, H.out.m3, H.out.m16, H.out.few⟩
  have hdp : wrap64 (dp : Int) = (dp : Int) := IntWalk.wrap64_in _ (by have := HL.out; omega)
  have hix : (kx : Int) < (h1.k : Int) := by omega
  have HBX2 := Lib.hid HB2.out.2.1
  have hW1 := HB.out.2.1
  have hs2 := HB2.out.2.2.size
  clear HK2 hn2 b0 b1 b2 b4
  go_wp2_with fail
  refine hD.mono ?_
  rintro e w5 ⟨rfl, D1, L1, F1, c', fr, ht5, hd5, ho5, hp5, hu5⟩
  have HD5 := Lib.hid (And.intro ht5 (And.intro hd5 (And.intro ho5 (And.intro hp5 hu5))))
  have hs5 := ho5.size
  have hpD : ∀ b, w.heap.size ≤ b → ¬ D b := fun b hb hd => by have := H.out.tr.lt.2 b hd; omega
  have HPD := Lib.hid hpD
  have hbx5 := (ho5.block w1.heap.size (Array.getElem?_eq_some_iff.1 HBX2.out).1 (HPD.out _ HIN.out.2.size)).trans HBX2.out
  have HBX5 := Lib.hid hbx5
  clear hD ht5 hd5 ho5 hp5 hu5 hpD hbx5 b3 hci hix hdp
  cases hh2 : hasB (flat d c) k
  · go_wp2_with fail
    go_ret
    obtain ⟨rfl, rfl⟩ := HD5.out.2.2.2.2 hh2
    have hh3 : hasB (flat (d + 1) (i, ks, ts)) k = false := by rw [HHAS.out, hh2]
    exact ⟨congrArg (fun v => Ending.returned (.bool v)) hh3.symm, D1, L1, F1, (i, ks, ts), [], HD5.out.1, fun b hb => (HD5.out.2.1 b hb).imp id (fun h => by have := HB2.out.1.size; omega), (below_only HB2.out.1).trans HD5.out.2.2.1, drop_not H.out.ok H.out.holds hh3, fun _ => ⟨rfl, rfl⟩⟩
  · obtain ⟨z1, z2, z3, z4, z5, z6⟩ := inner_plain HQ.out.1.ets HX.out.1 HX.out.2.1 HX.out.2.2.1 HD5.out.2.2.2.1
    obtain ⟨y1, y2, y3, y4⟩ := kid_set HQ.out.1 HQ.out.2.2.2.1 HD5.out.2.2.2.1.del
    rw [← HQ.out.2.2.2.2] at y2 y3
    have hn5 : NodeIn w5 (fun b => w.heap.size ≤ b ∧ b < w1.heap.size) h1 ⟨false, [], ks, (t1 ++ c' :: t2).map (fun c => (num d c : Int)), 0⟩ := by
      rw [← z1]
      exact HN2.out.keep (HD5.out.2.2.1.agree (fun b hb => HPD.out b hb.1))
    have hs21 := HB2.out.2.2.size
    have hM := mend_post (root := root) (many := many) HD5.out.1 hn5 (fun b hb => ⟨fun hd => by
        rcases HD5.out.2.1 b hd with hd | hd
        · exact HPD.out b hb.1 hd
        · omega, by have := H.out.tr.lt.1; omega, by omega⟩) y1 y2 HX.out.2.2.2.1 HL.out.1 y3 y4 z2 z3 z4 H.out.m3 H.out.m16 (by rw [HD5.out.2.2.2.1.len]; exact H.out.few) (Nat.le_trans (free_few HD5.out.1.2.1.free) (by rw [HD5.out.2.2.2.1.len]; exact H.out.few))
    rw [← z1] at hM
    unfold ndV at hM
    rw [hK] at hM
    have HP5 := Lib.hid (And.intro z5 z6)
    obtain ⟨b0, b1, b2, b3, b4, -⟩ := five HBX5.out
    clear z1 z2 z3 z4 z5 z6 y1 y2 y3 y4 hn5
    go_wp2_with fail
    refine hM.mono ?_
    rintro e w6 ⟨rfl, D2, L2, F2, ks', ts', fr2, hM2⟩
    have HM2 := Lib.hid hM2
    clear hM hM2 b0 b1 b2 b3 b4
    go_wp2_with fail
    go_ret
    have hh3 : hasB (flat (d + 1) (i, ks, ts)) k = true := by rw [HHAS.out, hh2]
    have hp5 := HD5.out.2.2.2.1
    refine ⟨congrArg (fun v => Ending.returned (.bool v)) hh3.symm, D2, L2, F2, mkN i ks' ts', fr ++ fr2, HM2.out.tr, fun b hb => ?_, ?_, ⟨?_, HM2.out.holds, ?_, ?_, fun x hx => ?_⟩, fun e => absurd e (by rw [hh3]; simp)⟩
    · rcases HM2.out.own b hb with hb | hb
      · exact (HD5.out.2.1 b hb).imp id (fun h => by have := HB2.out.1.size; omega)
      · exact .inr (by have := HB2.out.1.size; omega)
    · exact ((below_only HB2.out.1).trans HD5.out.2.2.1).trans2 HM2.out.only (fun b hb => by
        rcases hb with hb | hb
        · exact (HD5.out.2.1 b hb).imp id (fun h => by have := HB2.out.1.size; omega)
        · exact .inr hb.1)
    · exact del_inner H.out.m3 H.out.ok HQ.out.1 HQ.out.2.1 HQ.out.2.2.2.1 hp5.del HM2.out.post
    · rw [HM2.out.eF, hp5.eF, List.append_assoc]
    · rw [HM2.out.len, hp5.len]
    · have hx1 : x ≠ i := fun e => hx (by rw [e]; show i ∈ i :: numss d ts; simp)
      have hx2 : x ∉ numss d ts := fun e => hx (show x ∈ i :: numss d ts from List.mem_cons_of_mem _ e)
      rw [HM2.out.far x hx1 (fun e => hx2 (HP5.out.1 x e)), hp5.far x (fun e => hx2 (HP5.out.2 x e))]

theorem drop_all (m : Nat) : ∀ (d : Nat), DropAll m d
  | 0 => ⟨fun q h => drop_leaf q h⟩
  | d + 1 => drop_inner (drop_all m d)
end Go.Proofs.Ythbmchkbebneiaa

namespace Go.Proofs.Ythbmchkbebneiaa
open Go.RowKit
set_option linter.unusedVariables false
set_option maxRecDepth 100000

/-- What deleting at the root leaves: a sound tree, or a root with one kid, which is a sound tree without it. -/
theorem good_del {L L' : List (Option Nd)} {F F' fr : List Nat} {m root d : Nat} {t t' : Tr d} {k : Ky} (h : GoodT L F m root d t) (hd : DropPost m d [] [] k t L F t' fr L' F') (hF : FreeOk L' F') :
    (∃ n, lat L' root = some n ∧ (n.leaf = true ∨ (n.leaf = false ∧ n.kids.length ≠ 1)) ∧ GoodT L' F' m root d t') ∨
    (∃ d', ∃ c : Tr d', lat L' root = some ⟨false, [], [], [(num d' c : Int)], 0⟩ ∧ GoodT (L'.set root none) (F' ++ [root]) m (num d' c) d' c ∧ flat d' c = flat d t') := by
  have hrt : num d t' = root := hd.del.num.trans h.rt
  have hnd : (nums d t' ++ fr).Nodup := hd.del.nums.nodup_iff.2 h.nodup
  have hnd' := (List.nodup_append.1 hnd).1
  have hlen := hd.del.nums.length_eq
  rw [List.length_append] at hlen
  have hall : (nums d t').length + F'.length = L'.length := by rw [hd.eF, hd.len, List.length_append]; have := h.all; omega
  have hroom : L'.length ≤ 2000 := by rw [hd.len]; exact h.room
  obtain ⟨s0, hs0⟩ := h.chn
  have hch := hd.del.chn _ _ hs0
  have h3 := h.m3
  by_cases hz : d = 0 ∨ 1 ≤ szT d t'
  · refine .inl ⟨ndT d t', by rw [← hrt]; exact hd.holds.here, ?_, hrt, hd.holds, w_root hd.del.ok hz, hnd', hall, hF, hroom, ⟨s0, hch⟩, h.m3, h.m16⟩
    rcases ndT_whole hd.del.ok with hl | ⟨hl, hk⟩
    · exact .inl hl
    · refine .inr ⟨hl, ?_⟩
      have e := szNd_T d t'
      unfold szNd at e
      rw [if_neg (by simp [hl])] at e
      have hz2 : 1 ≤ szT d t' := by
        rcases hz with h0 | h1
        · subst h0
          have : (ndT 0 t').leaf = true := rfl
          rw [this] at hl; cases hl
        · exact h1
      omega
  · refine .inr ?_
    cases d with
    | zero => exact absurd (.inl rfl) hz
    | succ d =>
      obtain ⟨i, ks, ts⟩ := t'
      have hk0 : ks = [] := List.eq_nil_of_length_eq_zero (by have : ¬ 1 ≤ ks.length := fun h => hz (.inr h); omega)
      subst hk0
      obtain ⟨c, hc, -, hok⟩ := hd.del.ok.2
      have hc : ts = [c] := hc
      subst hc
      have hri : i = root := hrt
      subst hri
      have hnd2 : (i :: (nums d c ++ [])).Nodup := by
        have e : nums (d + 1) (i, [], [c]) = i :: (nums d c ++ []) := by show i :: ([c].map (nums d)).flatten = _; simp
        rw [e] at hnd'; exact hnd'
      rw [List.append_nil] at hnd2
      have hin := List.nodup_cons.1 hnd2
      have hHc : Holds L' d c := hd.holds.2 c (by show c ∈ [c]; simp)
      have hli : i < L'.length := lat_lt hd.holds.1
      have hiF : i ∉ F' := hd.holds.unfree hF i (by show i ∈ i :: _; simp)
      refine ⟨d, c, hd.holds.1, ⟨rfl, holds_keep hHc fun x hx => lat_set_ne fun e => hin.1 (e ▸ hx), ok_up hok, hin.2, ?_, ⟨?_, fun x hx => ?_⟩, by rw [List.length_set]; exact hroom, ⟨s0, ?_⟩, h.m3, h.m16⟩, ?_⟩
      · have e : (nums (d + 1) (i, [], [c])).length = (nums d c).length + 1 := by show (i :: ([c].map (nums d)).flatten).length = _; simp
        rw [List.length_set, List.length_append]
        rw [e] at hall
        simp; omega
      · exact List.nodup_append.2 ⟨hF.1, by simp, fun a ha b hb e => hiF (by simp at hb; rw [← hb, ← e]; exact ha)⟩
      · rcases List.mem_append.1 hx with hx | hx
        · rw [List.length_set]
          refine ⟨(hF.2 x hx).1, ?_⟩
          rw [lat_set_ne (fun e => hiF (by rw [← e]; exact hx))]
          exact (hF.2 x hx).2
        · simp at hx
          subst hx
          rw [List.length_set]
          exact ⟨hli, lat_set_eq hli⟩
      · have e : lvs (d + 1) (i, [], [c]) = lvs d c := by show ([c].map (lvs d)).flatten = _; simp
        rw [e] at hch; exact hch
      · show _ = ([c].map (flat d)).flatten
        simp

/-- What Get told, in a box. -/
def GotR (W : World) (xs : Nd) (s8 s9 : Value) (wx : World) : Prop := ∃ p8 h8, s8 = .pointer (some ⟨p8, 0, none⟩) ∧ s9 = .bool true ∧ Below W.heap.size W wx ∧ Box wx p8 h8 xs ∧ W.heap.size ≤ p8 ∧ On (fun b => W.heap.size ≤ b) wx (NdR · h8 xs)

set_option maxHeartbeats 8000000 in
theorem lower_got {W : World} {D : Nat → Prop} {tb g : Nat} {L : List (Option Nd)} {F : List Nat} {root m many : Nat} {xs : Nd} (hT : TrM W D tb g L F root m many) (hx : lat L root = some xs) (hfew : L.length ≤ 2000) (hlone : xs.leaf = true ∨ (xs.leaf = false ∧ xs.kids.length ≠ 1)) :
    Calls Try.prog 53 #[.pointer (some ⟨tb, 0, none⟩)] W fun e w' => e = .returned (.tuple #[]) ∧ Below W.heap.size W w' := by
  have HT := Lib.hid hT
  have HX := Lib.hid (And.intro hx hlone)
  have HG : Hid (∀ V : World, Below W.heap.size W V → Calls Try.prog 38 #[.pointer (some ⟨g, 0, none⟩), .int .i64 root] V (GotN V xs)) := Lib.hid fun V hV => get_node (HT.out.below hV).2.1 (by have := lat_lt HX.out.1; omega) HX.out.1
  clear hT hx hlone
  go_enter Try.func53, Try.ntmps53
  go_upto_region 0 with fail
  go_cut [2, 3] (fun s8 s9 wx => GotR W xs s8 s9 wx)
  case first =>
    obtain ⟨c0, c1, -, -, -, -⟩ := HT.out.cells
    have htl : tb < W.heap.size := HT.out.lt.1
    have HK := Lib.hid (And.intro c0 c1)
    go_region_law (first
      | (go_simp
         go_at_call 38
         refine (HG.out _ (by first | exact (Below.refl W.heap.size W).drew | exact ((Below.refl W.heap.size W).drew).alloc (Nat.le_refl _) _ | exact ((Below.refl W.heap.size W).alloc (Nat.le_refl _) _).drew)).mono ?_
         rintro e w2 ⟨h8, rfl, hin8, hb8⟩
         have hb2 : Below W.heap.size W w2 := by first | exact undrew hb8 | exact (((Below.refl W.heap.size W).drew).alloc (Nat.le_refl _) _).trans (hb8.mono (by simp)) | exact (((Below.refl W.heap.size W).alloc (Nat.le_refl _) _).drew).trans (hb8.mono (by simp))
         have c0 := (hb2.cell (p := ⟨tb, 0, none⟩) htl).trans HK.out.1
         have c1 := (hb2.cell (p := ⟨tb, 1, none⟩) htl).trans HK.out.2
         first | (have Z := Lib.hid ((hb8.block W.heap.size (by simp)).trans (heap_alloc_new W _)); obtain ⟨z0, z1, z2, z3, z4, y0, y1, y2, y3, y4⟩ := five Z.out) | skip
         have HB2 := Lib.hid (And.intro hb2 (And.intro hin8.reads hb8))
         clear hb2 hin8 hb8
         go_wp2_with fail))
    all_goals
      first
        | (obtain ⟨V, hV, hVB, hVs, hVh⟩ := box5 w2 (.bool xs.leaf) (.slice h8.A h8.n h8.c) (.slice h8.B h8.m h8.d) (.slice h8.K h8.k h8.e) (.int .i64 xs.next) 74
           rw [← hV]
           have HG8 := Lib.hid (show GotR W xs (.pointer (some ⟨w2.heap.size, 0, none⟩)) (.bool true) V from ⟨_, h8, rfl, rfl, HB2.out.1.trans (hVB.mono HB2.out.1.size), hVh, HB2.out.1.size, (HB2.out.2.1.keep (below_all hVB)).mono (fun b hb => by have := hb.1; simp at this; omega)⟩))
        | (obtain ⟨V, hV, hVh, hVO⟩ := five_set (.bool xs.leaf) (.slice h8.A h8.n h8.c) (.slice h8.B h8.m h8.d) (.slice h8.K h8.k h8.e) (.int .i64 xs.next) Z.out
           rw [← hV]
           have HG8 := Lib.hid (show GotR W xs (.pointer (some ⟨W.heap.size, 0, none⟩)) (.bool true) V from ⟨_, h8, rfl, rfl, HB2.out.1.trans (hVO.below (fun b hb => by rw [hb]; exact Nat.le_refl _) HB2.out.1.size), hVh, Nat.le_refl _, (HB2.out.2.1.keep (hVO.agree (fun b hb e => by have := hb.1; simp at this; omega))).mono (fun b hb => by have := hb.1; simp at this; omega)⟩))
      clear hV
      go_wp2
      go_meet
      exact HG8.out
  case rest =>
    obtain ⟨p8, h8, rfl, rfl, hb, hbx, hp8, hnr⟩ := hcut
    have HB := Lib.hid hb
    have hk : h8.k = xs.kids.length := hnr.here.2.2.1.symm
    rcases HX.out.2 with hl | ⟨hl, hk1⟩
    · unfold Box at hbx
      rw [hl] at hbx
      obtain ⟨d0, d1, d2, d3, d4, -⟩ := five hbx
      clear hb hbx hp8 hnr
      go_wp2
      go_end0
      exact ⟨rfl, HB.out⟩
    · unfold Box at hbx
      rw [hl] at hbx
      obtain ⟨d0, d1, d2, d3, d4, -⟩ := five hbx
      have g1 : ((h8.k : Int) == 1) = false := by simp; omega
      have g2 : ¬ ((h8.k : Int) = 1) := by omega
      have g3 : ¬ (h8.k = 1) := by omega
      clear hb hbx hp8 hnr
      go_wp2
      go_end0
      exact ⟨rfl, HB.out⟩

/-- What lower leaves where the root has one kid. -/
def Lowered (w : World) (D : Nat → Prop) (tb g : Nat) (L : List (Option Nd)) (F : List Nat) (c m many : Nat) (e : Ending) (w' : World) : Prop :=
  e = .returned (.tuple #[]) ∧ ∃ D', TrM w' D' tb g L F c m many ∧ (∀ b, D' b → D b ∨ w.heap.size ≤ b) ∧ Only (fun b => D b ∨ b = tb) w w'

set_option maxHeartbeats 8000000 in
theorem lower_one {W : World} {D : Nat → Prop} {tb g : Nat} {L : List (Option Nd)} {F : List Nat} {root m many c : Nat} (hT : TrM W D tb g L F root m many) (hx : lat L root = some ⟨false, [], [], [(c : Int)], 0⟩) (hfew : L.length ≤ 2000) (hF : F.length ≤ 2000) :
    Calls Try.prog 53 #[.pointer (some ⟨tb, 0, none⟩)] W (Lowered W D tb g (L.set root none) (F ++ [root]) c m many) := by
  have HT := Lib.hid hT
  obtain ⟨xs, hxs⟩ : ∃ xs : Nd, xs = ⟨false, [], [], [(c : Int)], 0⟩ := ⟨_, rfl⟩
  rw [← hxs] at hx
  have HX := Lib.hid (And.intro hx hxs)
  have HG : Hid (∀ V : World, Below W.heap.size W V → Calls Try.prog 38 #[.pointer (some ⟨g, 0, none⟩), .int .i64 root] V (GotN V xs)) := Lib.hid fun V hV => get_node (HT.out.below hV).2.1 (by have := lat_lt HX.out.1; omega) HX.out.1
  have HF := Lib.hid hF
  clear hT hx hxs hF
  go_enter Try.func53, Try.ntmps53
  go_upto_region 0 with fail
  go_cut [2, 3] (fun s8 s9 wx => GotR W xs s8 s9 wx)
  case first =>
    obtain ⟨c0, c1, -, -, -, -⟩ := HT.out.cells
    have htl : tb < W.heap.size := HT.out.lt.1
    have HK := Lib.hid (And.intro c0 c1)
    go_region_law (first
      | (go_simp
         go_at_call 38
         refine (HG.out _ (by first | exact (Below.refl W.heap.size W).drew | exact ((Below.refl W.heap.size W).drew).alloc (Nat.le_refl _) _ | exact ((Below.refl W.heap.size W).alloc (Nat.le_refl _) _).drew)).mono ?_
         rintro e w2 ⟨h8, rfl, hin8, hb8⟩
         have hb2 : Below W.heap.size W w2 := by first | exact undrew hb8 | exact (((Below.refl W.heap.size W).drew).alloc (Nat.le_refl _) _).trans (hb8.mono (by simp)) | exact (((Below.refl W.heap.size W).alloc (Nat.le_refl _) _).drew).trans (hb8.mono (by simp))
         have c0 := (hb2.cell (p := ⟨tb, 0, none⟩) htl).trans HK.out.1
         have c1 := (hb2.cell (p := ⟨tb, 1, none⟩) htl).trans HK.out.2
         first | (have Z := Lib.hid ((hb8.block W.heap.size (by simp)).trans (heap_alloc_new W _)); obtain ⟨z0, z1, z2, z3, z4, y0, y1, y2, y3, y4⟩ := five Z.out) | skip
         have HB2 := Lib.hid (And.intro hb2 (And.intro hin8.reads hb8))
         clear hb2 hin8 hb8
         go_wp2_with fail))
    all_goals
      first
        | (obtain ⟨V, hV, hVB, hVs, hVh⟩ := box5 w2 (.bool xs.leaf) (.slice h8.A h8.n h8.c) (.slice h8.B h8.m h8.d) (.slice h8.K h8.k h8.e) (.int .i64 xs.next) 74
           rw [← hV]
           have HG8 := Lib.hid (show GotR W xs (.pointer (some ⟨w2.heap.size, 0, none⟩)) (.bool true) V from ⟨_, h8, rfl, rfl, HB2.out.1.trans (hVB.mono HB2.out.1.size), hVh, HB2.out.1.size, (HB2.out.2.1.keep (below_all hVB)).mono (fun b hb => by have := hb.1; simp at this; omega)⟩))
        | (obtain ⟨V, hV, hVh, hVO⟩ := five_set (.bool xs.leaf) (.slice h8.A h8.n h8.c) (.slice h8.B h8.m h8.d) (.slice h8.K h8.k h8.e) (.int .i64 xs.next) Z.out
           rw [← hV]
           have HG8 := Lib.hid (show GotR W xs (.pointer (some ⟨W.heap.size, 0, none⟩)) (.bool true) V from ⟨_, h8, rfl, rfl, HB2.out.1.trans (hVO.below (fun b hb => by rw [hb]; exact Nat.le_refl _) HB2.out.1.size), hVh, Nat.le_refl _, (HB2.out.2.1.keep (hVO.agree (fun b hb e => by have := hb.1; simp at this; omega))).mono (fun b hb => by have := hb.1; simp at this; omega)⟩))
      clear hV
      go_wp2
      go_meet
      exact HG8.out
  case rest =>
    obtain ⟨p8, h8, rfl, rfl, hb, hbx, hp8, hnr⟩ := hcut
    have hX := HX.out.1
    obtain ⟨-, hxs⟩ := HX.out
    subst hxs
    obtain ⟨hA, hn, hc, hB', hm, hd, hK, hk, he⟩ := h8
    have hk1 : hk = 1 := by have : [(c : Int)].length = hk := hnr.here.2.2.1; simpa using this.symm
    obtain ⟨bi, oi, hKe, -, -⟩ := hnr.here.2.2.at_ (j := 0) (by show 0 < hk; omega)
    simp only at hKe
    subst hKe
    subst hk1
    have HNR := Lib.hid hnr
    have HB := Lib.hid hb
    have HBX := Lib.hid hbx
    have HTc := Lib.hid (HT.out.below hb)
    obtain ⟨c0, c1, -, -, -, -⟩ := HTc.out.cells
    obtain ⟨d0, d1, d2, d3, d4, -⟩ := five hbx

    have HF1 := free_node (w := wc.drew) HTc.out.drew.2.1 hX (by have := HF.out; omega)
    clear hb hbx hnr
    go_upto_region 2 with fail
    go_still_tail 8, (by kernel_rfl)
    change wpList _ _ _ _ _ wc.drew
    go_wp2_with fail
    refine HF1.mono ?_
    rintro e w2 ⟨rfl, ht2⟩
    obtain ⟨D2, t1, t2, t3⟩ := trm_turn (w := wc.drew) HTc.out.drew ht2
    have hO2 : Only D wc w2 := ⟨t3.os, t3.tape, t3.output, t3.size, t3.block⟩
    have hpD : ∀ b, W.heap.size ≤ b → ¬ D b := fun b hb hd => by have := HT.out.lt.2 b hd; omega
    have hbx2 : Box w2 p8 _ _ := HBX.out.at (hO2.block p8 HBX.out.lt (hpD p8 hp8))
    have hci2 : w2.cell? ⟨bi, oi, none⟩ = some (Value.int .i64 (c : Int)) := by
      obtain ⟨b', o', e', -, hc'⟩ := (HNR.out.keep (hO2.agree hpD)).here.2.2.at_ (j := 0) (by show 0 < 1; omega)
      injection e' with e'
      injection e' with e1 e2
      subst e1
      subst e2
      exact hc'
    have HT2 := Lib.hid (And.intro t1 (And.intro (show ∀ b, D2 b → D b ∨ wc.heap.size ≤ b from t2) hO2))
    clear HF1 ht2 t1 t2 t3 hO2 c0 c1 d0 d1 d2 d3 d4 hpD
    obtain ⟨c0, c1, -, -, f1, -⟩ := HT2.out.1.cells
    obtain ⟨-, -, -, d3, -, -⟩ := five hbx2
    go_wp2
    go_end0
    refine ⟨rfl, D2, trm_setroot HT2.out.1 c, fun b hb => (HT2.out.2.1 b hb).imp id (fun h => by have := HB.out.size; omega), ?_⟩
    exact ((below_only (D := fun b => D b ∨ b = tb) HB.out).trans (only_mono HT2.out.2.2 (fun b hb => .inl hb))).set _ _ (.inr (.inr rfl))

theorem len_del_has {P : List Pr} (hs : Srt P) {k : Ky} (h : hasB P k = true) : (delL P k).length + 1 = P.length := by
  have hp : pos P k < P.length := by
    rcases Nat.lt_or_ge (pos P k) P.length with hl | hl
    · exact hl
    · have := pos_end hs k (Nat.le_antisymm (pos_le P k) hl)
      rw [this] at h; cases h
  rw [del_is hs, h, if_pos rfl, List.length_append, List.length_take, List.length_drop]
  omega
theorem lowered_any {W : World} {D : Nat → Prop} {tb g : Nat} {L L' : List (Option Nd)} {F F' fr : List Nat} {m root d many : Nat} {t t' : Tr d} {k : Ky} (hT : TrM W D tb g L' F' root m many) (h : GoodT L F m root d t) (hd : DropPost m d [] [] k t L F t' fr L' F') :
    Calls Try.prog 53 #[.pointer (some ⟨tb, 0, none⟩)] W fun e w' => e = .returned (.tuple #[]) ∧ ∃ D', (∃ L2 F2 root2 d2, ∃ t2 : Tr d2, TrM w' D' tb g L2 F2 root2 m many ∧ GoodT L2 F2 m root2 d2 t2 ∧ flat d2 t2 = delL (flat d t) k) ∧ (∀ b, D' b → D b ∨ W.heap.size ≤ b) ∧ Only (fun b => D b ∨ b = tb) W w' := by
  have hfew : L'.length ≤ 2000 := by rw [hd.len]; exact h.room
  rcases good_del h hd hT.2.1.free with ⟨n, q1, q2, q3⟩ | ⟨d', c, q1, q2, q3⟩
  · exact (lower_got hT q1 hfew q2).mono fun e w' ⟨h1, h2⟩ => ⟨h1, D, ⟨L', F', root, d, t', hT.below h2, q3, hd.del.flat⟩, fun b hb => .inl hb, below_only h2⟩
  · exact (lower_one hT q1 hfew (Nat.le_trans (free_few hT.2.1.free) hfew)).mono fun e w' ⟨h1, D', h2, h3, h4⟩ => ⟨h1, D', ⟨_, _, _, d', c, h2, q2, q3.trans hd.del.flat⟩, h3, h4⟩

theorem only_undrew {D : Nat → Prop} {w w' : World} (h : Only D w.drew w') : Only D w w' := ⟨h.os, h.tape, h.output, h.size, h.block⟩
/-- What remove leaves. -/
def RemOut (w : World) (D : Nat → Prop) (tb m : Nat) (P : List Pr) (k : Ky) (w' : World) : Prop :=
  ∃ D', Tre w' D' tb m (delL P k) ∧ (∀ b, D' b → D b ∨ w.heap.size ≤ b) ∧ Only (fun b => D b ∨ b = tb) w w'

set_option maxHeartbeats 8000000 in
theorem rem_any {w : World} {D : Nat → Prop} {tb m : Nat} {P : List Pr} (h : Tre w D tb m P) {C : Option Addr} {o : Nat} (q : Nat) {k : Ky} (hk : Byt w C o k) :
    Calls Try.prog 33 #[.pointer (some ⟨tb, 0, none⟩), .slice C o q] w fun e w' => e = .returned (.bool (hasB P k)) ∧ RemOut w D tb m P k w' := by
  obtain ⟨g, L, F, root, d, t, hT, hG, rfl, hP⟩ := h
  have hdeep : d ≤ L.length := by have := hG.ok.deep; have := hG.all; omega
  have HT := Lib.hid hT
  have HG := Lib.hid (And.intro hG hP)
  have HLEN : Hid (∀ V : World, Below w.heap.size w V → Calls Try.prog 37 #[.pointer (some ⟨g, 0, none⟩)] V fun e w' => e = .returned (.int .i64 L.length) ∧ V = w') := Lib.hid fun V hV => len_any (HT.out.below hV).2.1
  have HD : Hid (∀ V : World, Below w.heap.size w V → Calls Try.prog 52 #[.pointer (some ⟨tb, 0, none⟩), .int .i64 root, .slice C o q, .int .i64 (L.length : Nat)] V (Dropped V D tb g root m (flat d t).length d [] [] k t L F)) := Lib.hid fun V hV => by
    have := (drop_all m d).go (w := V) (D := D) (tb := tb) (g := g) (L := L) (F := F) (root := root) (many := (flat d t).length) (b := true) (lo := []) (hi := []) (k := k) (t := t) (C := C) (o := o) (deep := L.length) q ⟨HT.out.below hV, hG.holds, hG.ok, inR_all k, hG.nodup, hk.below hV, hdeep, by have := hG.room; omega, hG.m3, hG.m16, hG.room⟩
    rw [hG.rt] at this
    exact this
  have htl := hT.lt.1
  obtain ⟨c0, c1, -, -, -, -⟩ := hT.cells
  have HK := Lib.hid (And.intro c0 c1)
  have HS := Lib.hid hG.ok.fit.1
  clear hT hG hP hk
  go_enter Try.func33, Try.ntmps33
  go_upto_region 1 with fail
  cases hh : hasB (flat d t) k
  · go_region_held3 (fun w' => w'.cell? ⟨tb, 0, none⟩ = some (.pointer (some ⟨g, 0, none⟩)) ∧ w'.cell? ⟨tb, 1, none⟩ = some (.int .i64 root)) (go_keep)
      (first
        | (go_at_call 37
           (with_reducible refine (HLEN.out _ (Below.refl _ _).drew).mono ?_)
           rintro e w1 ⟨rfl, rfl⟩)
        | (go_at_call 52
           (with_reducible refine (HD.out _ (Below.refl _ _).drew).mono ?_)
           rintro e w5 ⟨rfl, D1, L1, F1, t', fr, ht5, hd5, ho5, hp5, hu5⟩
           obtain ⟨c0, c1, -, -, -, -⟩ := ht5.cells
           rw [hh]
           have HD5 := Lib.hid (And.intro ht5 (And.intro hd5 (And.intro ho5 (And.intro hp5 hu5))))
           clear ht5 hd5 ho5 hp5 hu5))
    all_goals
      go_wp2
      go_ret
      obtain ⟨rfl, rfl⟩ := HD5.out.2.2.2.2 hh
      refine ⟨congrArg (fun v => Ending.returned (.bool v)) hh.symm, D1, ⟨g, L1, F1, root, d, t, ?_, HG.out.1, (del_not HS.out.1 hh).symm, by rw [del_not HS.out.1 hh]; exact HG.out.2⟩, HD5.out.2.1, only_mono (only_undrew HD5.out.2.2.1) (fun b hb => .inl hb)⟩
      rw [del_not HS.out.1 hh]
      exact HD5.out.1
  · have hlen := len_del_has HS.out.1 hh
    obtain ⟨nd, hnd⟩ : ∃ nd, nd = (delL (flat d t) k).length := ⟨_, rfl⟩
    rw [← hnd] at hlen
    have HND := Lib.hid hnd
    rw [← hlen] at HD
    have HL2 := Lib.hid (show nd ≤ 1000 by have := HG.out.2; omega)
    clear hnd hlen
    go_region_held3 (fun w' => w'.cell? ⟨tb, 0, none⟩ = some (.pointer (some ⟨g, 0, none⟩)) ∧ w'.cell? ⟨tb, 1, none⟩ = some (.int .i64 root)) (go_keep)
      (first
        | (go_at_call 37
           (with_reducible refine (HLEN.out _ (Below.refl _ _).drew).mono ?_)
           rintro e w1 ⟨rfl, rfl⟩)
        | (go_at_call 52
           (with_reducible refine (HD.out _ (Below.refl _ _).drew).mono ?_)
           rintro e w5 ⟨rfl, D1, L1, F1, t', fr, ht5, hd5, ho5, hp5, hu5⟩
           obtain ⟨c0, c1, -, -, -, -⟩ := ht5.cells
           rw [hh]
           have HD5 := Lib.hid (And.intro ht5 (And.intro hd5 (And.intro ho5 (And.intro hp5 hu5))))
           clear ht5 hd5 ho5 hp5 hu5))
    all_goals
      obtain ⟨c0, c1, c2, c3, f1, f3⟩ := HD5.out.1.cells
      have hw1 : wrap64 (nd : Int) = (nd : Int) := IntWalk.wrap64_in _ (by have := HL2.out; omega)
      have HLW := Lib.hid (lowered_any (k := k) (trm_setmany HD5.out.1 nd) HG.out.1 HD5.out.2.2.2.1)
      go_wp2_with fail
      refine HLW.out.mono ?_
      rintro e w6 ⟨rfl, D2, ⟨L2, F2, root2, d2, t2, r1, r2, r3⟩, r4, r5⟩
      have HR := Lib.hid (And.intro r1 (And.intro r2 (And.intro r3 (And.intro r4 r5))))
      clear r1 r2 r3 r4 r5 c0 c1 c2 c3 f1 f3
      go_wp2
      go_ret
      refine ⟨congrArg (fun v => Ending.returned (.bool v)) hh.symm, D2, ⟨g, L2, F2, root2, d2, t2, by rw [← HND.out]; exact HR.out.1, HR.out.2.1, HR.out.2.2.1, by rw [← HND.out]; exact HL2.out⟩, fun b hb => ?_, ?_⟩
      · rcases HR.out.2.2.2.1 b hb with hb | hb
        · exact HD5.out.2.1 b hb
        · have h1 : w5.heap.size ≤ b := by simpa [World.setCell] using hb
          have h2 : w.heap.size ≤ w5.heap.size := HD5.out.2.2.1.size
          exact .inr (by omega)
      · have h1 : Only (fun b => D b ∨ b = tb) w w5 := only_mono (only_undrew HD5.out.2.2.1) (fun b hb => .inl hb)
        exact (h1.set ⟨tb, 3, none⟩ (.int .i64 nd) (.inr (.inr rfl))).trans2 HR.out.2.2.2.2 (fun b hb => by
          rcases hb with hb | hb
          · exact (HD5.out.2.1 b hb).imp .inl id
          · exact .inl (.inr hb))

theorem may_yes {w : World} {D : Nat → Prop} {tb m : Nat} {P : List Pr} (h : Tre w D tb m P) : Calls Try.prog 32 #[.pointer (some ⟨tb, 0, none⟩)] w fun e w' => e = .returned (.bool true) ∧ w = w' := by
  obtain ⟨g, L, F, root, d, t, hT, hG, rfl, hP⟩ := h
  obtain ⟨c0, -, -, -, -, -⟩ := hT.cells
  clear hT hG hP
  go_enter Try.func32, Try.ntmps32
  go_wp2
  go_ret
  exact ⟨rfl, rfl⟩
theorem may_no (w : World) : Calls Try.prog 32 #[.pointer none] w fun e w' => e = .returned (.bool false) ∧ w = w' := by
  go_enter Try.func32, Try.ntmps32
  go_wp2
  go_ret
  exact ⟨rfl, rfl⟩
set_option maxHeartbeats 2000000 in
theorem pdel_any {w : World} {D : Nat → Prop} {tb m : Nat} {P : List Pr} (h : Tre w D tb m P) {C : Option Addr} {o : Nat} (q : Nat) {k : Ky} (hk : Byt w C o k) :
    Calls Try.prog 13 #[.pointer (some ⟨tb, 0, none⟩), .slice C o q] w fun e w' => e = .returned (.tuple #[.bool (hasB P k), .nilIface]) ∧ RemOut w D tb m P k w' := by
  have HM := Lib.hid (may_yes h)
  have HR := Lib.hid (rem_any h q hk)
  clear h hk
  go_enter Try.func13, Try.ntmps13
  go_wp2_with fail
  refine HM.out.mono ?_
  rintro e w1 ⟨rfl, rfl⟩
  go_wp2_with fail
  refine HR.out.mono ?_
  rintro e w2 ⟨rfl, h2⟩
  have H2 := Lib.hid h2
  clear h2
  go_wp2
  exact bodyPost_ret (v := .tuple #[.bool (hasB P k), .nilIface]) (by simp [results, Try.results13, go_sem]) rfl ⟨rfl, H2.out⟩
theorem pdel_nil (w : World) : Calls Try.prog 13 #[.pointer none, .slice none 0 0] w fun e w' => e = .returned (.tuple #[.bool false, errV 1]) ∧ w = w' := by
  go_enter Try.func13, Try.ntmps13
  go_wp2_with fail
  refine (may_no _).mono ?_
  rintro e w1 ⟨rfl, rfl⟩
  go_wp2
  exact bodyPost_ret (v := .tuple #[.bool false, errV 1]) (by simp [results, Try.results13, go_sem, errV]) rfl ⟨rfl, rfl⟩
end Go.Proofs.Ythbmchkbebneiaa

namespace Go.Proofs.Ythbmchkbebneiaa
open Go.RowKit
set_option linter.unusedVariables false
set_option maxRecDepth 100000

theorem delb {B : Nat} {w : World} {tb m : Nat} {P : List Pr} (h : TrB B w tb m P) (hB : B ≤ w.heap.size) {C : Option Addr} {o : Nat} (q : Nat) {k : Ky} (hk : Byt w C o k) :
    Calls Try.prog 13 #[.pointer (some ⟨tb, 0, none⟩), .slice C o q] w fun e w' => e = .returned (.tuple #[.bool (hasB P k), .nilIface]) ∧ TrB B w' tb m (delL P k) ∧ Below B w w' := by
  obtain ⟨h0, D, h1, h2⟩ := h
  exact (pdel_any h1 q hk).mono fun e w' ⟨e1, D', e2, e3, e4⟩ => ⟨e1, ⟨h0, D', e2, fun b hb => (e3 b hb).elim (h2 b) (fun h => Nat.le_trans hB h)⟩, e4.below (fun b hb => hb.elim (h2 b) (fun h => by rw [h]; exact h0)) hB⟩
theorem TrB.many {B : Nat} {w : World} {tb m : Nat} {P : List Pr} (h : TrB B w tb m P) : w.cell? ⟨tb, 3, none⟩ = some (.int .i64 P.length) ∧ tb < w.heap.size := by
  obtain ⟨h0, D, ⟨g, L, F, root, d, t, h1, h2, h3, h4⟩, h5⟩ := h
  exact ⟨h1.cells.2.2.2.1, h1.lt.1⟩
theorem soundb {B : Nat} {w : World} {tb m : Nat} {P : List Pr} (h : TrB B w tb m P) :
    Calls Try.prog 15 #[.pointer (some ⟨tb, 0, none⟩)] w fun e w' => ∃ xb, e = .returned (.tuple #[.pointer (some ⟨xb, 0, none⟩), .bool true]) ∧ Below w.heap.size w w' ∧
      (∃ A n c, w'.cell? ⟨xb, 3, none⟩ = some (.slice A n c) ∧ Prs w' A n c P) ∧ Calls Try.prog 22 #[.pointer (some ⟨xb, 0, none⟩)] w' fun e w'' => e = .returned (.int .i64 0) ∧ w' = w'' := by
  obtain ⟨h0, D, ⟨g, L, F, root, d, t, h1, h2, rfl, h4⟩, h5⟩ := h
  refine (sound_any h1 h2 h4).mono fun e w' ⟨xb, S, e1, e2, e3, e4⟩ => ⟨xb, e1, e4, ?_, over_any (h1.below e4) h2 h4 e2⟩
  have e2' := e2
  rw [sawn_is] at e2'
  obtain ⟨A1, c1, A2, c2, A3, c3, -, -, k3, -, -, q3⟩ := e2'.lists
  exact ⟨A3, _, c3, k3, q3⟩
theorem del_a : madeL [([97], [])] = [([97], [])] ∧ hasB [([97], [])] [97] = true ∧ delL [([97], [])] [97] = [] := by decide

set_option maxHeartbeats 4000000 in
theorem up_any (w : World) : Calls Try.prog 6 #[] w fun e w' => e = .returned (.bool true) ∧ Below w.heap.size w w' := by
  have kc := fun (w : World) (C : Array Value) (n c g : Nat) (hg : g = w.heap.size) => Joins.run_convert_bytes_const_at (P := Try.prog) w 29 5 C n c g hg Try.underlying29 Try.underlying5
  have he := eql_err 1 1
  have hb0 := byt_lit w 97 97 rfl (1, 2)
  have hp := one_prs 1 0 hb0 (byt_none _) 31
  have HM := Lib.hid (made_yes hp (m := 3) (by omega) (by omega))
  have HB0 := Lib.hid (show Below w.heap.size w ((w.alloc (.cells #[.int .u8 97] 5 (1, 2))).alloc (.cells #[.slice (some ⟨w.heap.size, 0, none⟩) 1 1, .slice none 0 0] 31)) from ((Below.refl _ _).alloc (Nat.le_refl _) _).alloc (by simp) _)
  rw [alloc_sz] at HM
  clear hb0 hp
  go_enter Try.func6, Try.ntmps6
  go_wp2_with fail
  refine HM.out.mono ?_
  rintro e w1 ⟨tb, rfl, ht, hb⟩
  rw [del_a.1] at ht
  have HB1 := Lib.hid (HB0.out.trans (hb.mono HB0.out.size))
  have HT1 := Lib.hid (ht.mono (B' := w.heap.size) HB0.out.size)
  have HD := Lib.hid (delb (w := w1.alloc (.cells #[.int .u8 97] 5 (1, 2))) (HT1.out.below ((Below.refl _ _).alloc (Nat.le_refl _) _)) (by have := HB1.out.size; simp; omega) 1 (byt_lit w1 97 97 rfl (1, 2)))
  have HBA := Lib.hid (HB1.out.alloc HB1.out.size (.cells #[.int .u8 97] 5 (1, 2)))
  clear HM ht hb HB0
  go_wp2_with fail
  refine HD.out.mono ?_
  rintro e w2 ⟨rfl, ht, hb⟩
  rw [del_a.2.1]
  rw [del_a.2.2] at ht
  have HT2 := Lib.hid ht
  have HB2 := Lib.hid (HBA.out.trans hb)
  clear HD ht hb HT1 HB1 HBA
  go_wp2_with fail
  refine (pdel_nil w2).mono ?_
  rintro e w3 ⟨rfl, rfl⟩
  rw [errV_some (by decide)]
  have HH := Lib.hid (height0 HT2.out)
  go_wp2_with fail
  refine HH.out.mono ?_
  rintro e w3 ⟨rfl, hb3⟩
  obtain ⟨c3, -⟩ := (HT2.out.below hb3).many
  have HB3 := Lib.hid (HB2.out.trans (hb3.mono HB2.out.size))
  clear HH hb3
  go_wp2
  go_ret
  exact ⟨rfl, HB3.out⟩
end Go.Proofs.Ythbmchkbebneiaa
