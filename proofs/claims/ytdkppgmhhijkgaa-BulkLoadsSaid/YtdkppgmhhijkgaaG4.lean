/- Contracts of package tree's kidOf, with slices.BinarySearchFunc over keys. Condition: keys rise, no more than 1000. A tree in memory; stops on a way, each node in blocks of its own; the contract of package tree's last. No condition. The contract of package tree's way: the nodes from the root to a key's leaf, in new memory. Condition: a sound tree. Contracts of slices.Insert of one element into a row of one's own, at keys and at numbers: in place where there is room, else a new row. Condition: at most 1000 elements. -/
import Derived.Test.YtdkppgmhhijkgaaG3
import Derived.Shelf.Spec.SlicesInsert
import Derived.Lib.AppendZerosOnto
import Derived.Laws.NewBlocks
namespace Go.Proofs.Ytdkppgmhhijkgaa
open Go.RowKit
set_option linter.unusedVariables false
set_option maxRecDepth 100000

/-- Keys as pairs without values. -/
def KS (ks : List Ky) : List Pr := ks.map fun s => (s, [])
theorem gt_ks {ks : List Ky} {j : Nat} (h : j < ks.length) : (gt (KS ks) j).1 = kat ks j := by
  rw [gt_eq (by simpa [KS] using h), kat_eq h]
  simp [KS]
theorem len_ks (ks : List Ky) : (KS ks).length = ks.length := by simp [KS]
theorem kidx_is : ∀ {ks : List Ky} (k : Ky), Srt (KS ks) → kidx ks k = pos (KS ks) k + (if hasB (KS ks) k then 1 else 0)
  | [], k, h => rfl
  | s :: ss, k, h => by
    obtain ⟨h1, h2⟩ := List.pairwise_cons.1 (show Srt ((s, []) :: KS ss) from h)
    have ih := kidx_is k h2
    cases h3 : ltB s k
    · have hp : pos (KS (s :: ss)) k = 0 := by
        show (((s, []) :: KS ss : List Pr).takeWhile _).length = 0
        simp [h3]
      rw [hp]
      cases h4 : ltB k s
      · have e := ltB_total _ _ h3 h4
        subst e
        have h5 : kidx ss s = 0 := by
          cases ss with
          | nil => rfl
          | cons x ss =>
            have := h1 (x, []) (by simp [KS])
            simp [kidx, this]
        simp [kidx, h4, h5, hasB, KS, sameB]
      · have h6 : hasB (KS (s :: ss)) k = false := by
          refine List.any_eq_false.2 fun p hp => ?_
          have hlt : ltB k p.1 = true := by
            rcases List.mem_cons.1 (show p ∈ (s, []) :: KS ss from hp) with rfl | hp
            · exact h4
            · exact ltB_trans h4 (h1 p hp)
          unfold sameB
          by_cases e : p.1 = k
          · rw [e, ltB_irrefl] at hlt; cases hlt
          · simp [e]
        rw [h6]
        simp [kidx, h4]
    · have h4 := ltB_asymm h3
      have hp : pos (KS (s :: ss)) k = pos (KS ss) k + 1 := by
        show (((s, []) :: KS ss : List Pr).takeWhile _).length = _
        simp [h3, pos]
      have hh : hasB (KS (s :: ss)) k = hasB (KS ss) k := by
        show (((s, []) :: KS ss : List Pr).any _) = _
        have : sameB s k = false := by
          unfold sameB
          by_cases e : s = k
          · rw [e, ltB_irrefl] at h3; cases h3
          · simp [e]
        simp [this, hasB]
      rw [hp, hh]
      simp only [kidx, h4]
      rw [ih]
      simp; omega

set_option maxHeartbeats 2000000 in
theorem searchk_any {w : World} {A C : Option Addr} {n c o : Nat} (q : Nat) {ks : List Ky} {k : List UInt8} (h : Kys w A n c ks) (h' : Byt w C o k) (hs : Srt (KS ks)) (hn : n ≤ 1000) :
    Calls Try.prog 70 #[.slice A n c, .slice C o q, .func (.func 47) #[] #[]] w fun e w' => e = .returned (.tuple #[.int .i64 (pos (KS ks) k), .bool (hasB (KS ks) k)]) ∧ w = w' := by
  have H := Lib.hid h
  have H' := Lib.hid h'
  have HS := Lib.hid hs
  have hlen : (KS ks).length = n := by rw [len_ks]; exact h.1
  have HL := Lib.hid hlen
  have HK := Lib.hid (show ks.length = n from h.1)
  clear h h' hs hlen
  have HP := Lib.hid (pos_le (KS ks) k)
  go_enter Try.func70, Try.ntmps70
  go_wp2
  go_loop [9, 10] (fun s9 s10 => ∃ i j : Nat, s9 = .int .i64 i ∧ s10 = .int .i64 j ∧ i ≤ j ∧ j ≤ n ∧ Srch (KS ks) k i j) (fun s9 s10 => (intOf s10).toNat - (intOf s9).toNat)
  case atStart => exact ⟨0, n, rfl, rfl, Nat.zero_le _, Nat.le_refl _, ⟨Nat.zero_le _, by rw [← HL.out]; exact HP.out⟩⟩
  case round =>
    obtain ⟨i, j, rfl, rfl, hij, hjn, hsr⟩ := hrel
    have HSR := Lib.hid hsr
    clear hsr
    by_cases hlt : i < j
    · obtain ⟨b, oo, A1, n1, c1, rfl, hbl, k0, y1⟩ := H.out.at_ (show (i + j) / 2 < n by omega)
      have HC := compare_any c1 q y1 H'.out
      clear y1
      have hpl := pos_lt HS.out k (show (i + j) / 2 < (KS ks).length by have := HL.out; omega)
      rw [gt_ks (by have := HK.out; omega)] at hpl
      generalize kat ks ((i + j) / 2) = y at HC hpl
      have HPL := Lib.hid hpl
      clear hpl
      have HLT := Lib.hid (cmp_lt y k)
      by_cases hy : cmpB y k < 0
      · have h1 : (i + j) / 2 < pos (KS ks) k := by
          have := HPL.out
          rw [← HLT.out] at this
          simpa [hy] using this
        have H1 := Lib.hid h1
        clear h1
        go_wp2_with fail
        refine HC.mono ?_
        rintro e w' ⟨rfl, rfl⟩
        go_wp2
        exact ⟨⟨(i + j) / 2 + 1, j, by rw [mid_cast]; rfl, rfl, by omega, hjn, ⟨H1.out, HSR.out.2⟩⟩, meas_up i j hlt⟩
      · have h1 : ¬ (i + j) / 2 < pos (KS ks) k := by
          have := HPL.out
          rw [← HLT.out] at this
          simpa [hy] using this
        have H1 := Lib.hid h1
        clear h1
        go_wp2_with fail
        refine HC.mono ?_
        rintro e w' ⟨rfl, rfl⟩
        go_wp2
        exact ⟨⟨i, (i + j) / 2, rfl, by rw [mid_cast], by omega, by omega, ⟨HSR.out.1, Nat.le_of_not_lt H1.out⟩⟩, meas_down i j hlt⟩
    · obtain rfl : j = i := by omega
      have hp : pos (KS ks) k = j := by have := HSR.out; unfold Srch at this; omega
      have HPJ := Lib.hid hp
      clear hp
      by_cases hjl : j < n
      · obtain ⟨b, oo, A1, n1, c1, rfl, hbl, k0, y1⟩ := H.out.at_ hjl
        have HC := compare_any c1 q y1 H'.out
        clear y1
        have hsm := pos_same HS.out k (by rw [HPJ.out, HL.out]; exact hjl)
        rw [HPJ.out, gt_ks (by have := HK.out; omega)] at hsm
        generalize kat ks j = y at HC hsm
        have HSM := Lib.hid hsm
        clear hsm
        have HZ := Lib.hid (cmp_zero y k)
        go_wp2_with fail
        refine HC.mono ?_
        rintro e w' ⟨rfl, rfl⟩
        go_wp2
        go_ret2
        exact ⟨ret_two (by rw [HPJ.out]) (by rw [← HSM.out, ← HZ.out]), rfl⟩
      · have hz := pos_end HS.out k (by rw [HPJ.out, HL.out]; omega)
        have HZ := Lib.hid hz
        clear hz
        go_wp2
        go_ret2
        exact ⟨ret_two (by rw [HPJ.out]) (by rw [HZ.out]), rfl⟩

set_option maxHeartbeats 1000000 in
theorem kidof_any {w : World} {A C : Option Addr} {n c o : Nat} (q : Nat) {ks : List Ky} {k : List UInt8} (h : Kys w A n c ks) (h' : Byt w C o k) (hs : Srt (KS ks)) (hn : n ≤ 1000) :
    Calls Try.prog 55 #[.slice A n c, .slice C o q] w fun e w' => e = .returned (.int .i64 (kidx ks k)) ∧ w = w' := by
  have H := searchk_any q h h' hs hn
  have HX := Lib.hid (kidx_is k hs)
  have HP := pos_le (KS ks) k
  rw [len_ks, h.1] at HP
  have HN := Lib.hid hn
  clear h h' hs hn
  generalize pos (KS ks) k = P at *
  cases hb : hasB (KS ks) k
  · rw [hb] at H HX
    go_enter Try.func55, Try.ntmps55
    go_wp2_with (go_at_call 70; refine H.mono ?_; rintro e w' ⟨rfl, rfl⟩)
    go_ret
    exact ⟨ret_int (by rw [HX.out]; simp), rfl⟩
  · rw [hb] at H HX
    have hb1 : IntKind.i64.wrap ((P : Int) + 1) = (P : Int) + 1 := IntWalk.i64_in _ (by have := HN.out; omega)
    go_enter Try.func55, Try.ntmps55
    go_wp2_with (go_at_call 70; refine H.mono ?_; rintro e w' ⟨rfl, rfl⟩)
    go_ret
    exact ⟨ret_int (by rw [HX.out]; simp), rfl⟩
end Go.Proofs.Ytdkppgmhhijkgaa

namespace Go.Proofs.Ytdkppgmhhijkgaa
open Go.RowKit
set_option linter.unusedVariables false
set_option maxRecDepth 100000

/-- A tree in memory: its own four cells, and its arena, within the blocks that D names. -/
def TrM (w : World) (D : Nat → Prop) (tb g : Nat) (L : List (Option Nd)) (F : List Nat) (root m many : Nat) : Prop :=
  w.heap[tb]? = some (.cells #[.pointer (some ⟨g, 0, none⟩), .int .i64 root, .int .i64 m, .int .i64 many] 57 (0, 0)) ∧ Ar w D g L F ∧ ¬ D tb
theorem TrM.keep {w w' : World} {D : Nat → Prop} {tb g : Nat} {L : List (Option Nd)} {F : List Nat} {root m many : Nat} (h : TrM w D tb g L F root m many) (ha : Agree (fun b => D b ∨ b = tb) w w') : TrM w' D tb g L F root m many := by
  refine ⟨?_, h.2.1.keep (ha.mono fun b hb => .inl hb), h.2.2⟩
  rw [ha.2 tb (.inr rfl) (Array.getElem?_eq_some_iff.1 h.1).1]
  exact h.1
theorem TrM.lt {w : World} {D : Nat → Prop} {tb g : Nat} {L : List (Option Nd)} {F : List Nat} {root m many : Nat} (h : TrM w D tb g L F root m many) : tb < w.heap.size ∧ ∀ b, D b → b < w.heap.size :=
  ⟨(Array.getElem?_eq_some_iff.1 h.1).1, h.2.1.lt⟩
theorem TrM.below {w w' : World} {D : Nat → Prop} {tb g : Nat} {L : List (Option Nd)} {F : List Nat} {root m many : Nat} (h : TrM w D tb g L F root m many) (hb : Below w.heap.size w w') : TrM w' D tb g L F root m many := h.keep (below_all hb)
theorem TrM.cells {w : World} {D : Nat → Prop} {tb g : Nat} {L : List (Option Nd)} {F : List Nat} {root m many : Nat} (h : TrM w D tb g L F root m many) :
    w.cell? ⟨tb, 0, none⟩ = some (.pointer (some ⟨g, 0, none⟩)) ∧ w.cell? ⟨tb, 1, none⟩ = some (.int .i64 root) ∧ w.cell? ⟨tb, 2, none⟩ = some (.int .i64 m) ∧ w.cell? ⟨tb, 3, none⟩ = some (.int .i64 many) ∧
      w.frozen? ⟨tb, 1, none⟩ = false ∧ w.frozen? ⟨tb, 3, none⟩ = false := by
  have := h.1
  simp [World.cell?, World.frozen?, this]

/-- What lies in the blocks of one node: it reads, its keys and its kids are rows of one's own, and no two of these share a block. -/
structure NodeIn (w : World) (C : Nat → Prop) (h : Nh) (x : Nd) : Prop where
  reads : On C w (NdR · h x)
  kids : w.ownsRow 0 3 1 (.slice h.K h.k h.e) h.k (x.kids.map intV)
  keys : ∃ ys, w.ownsRow 0 25 1 (.slice h.B h.m h.d) h.m ys ∧ KReads (fun _ b => C b ∧ (∀ a, h.B = some a → a.block ≠ b) ∧ ∀ a, h.K = some a → a.block ≠ b) w ys x.keys
  apart : ∀ a b, h.B = some a → h.K = some b → a.block ≠ b.block
  inB : ∀ a, h.B = some a → C a.block
  inK : ∀ a, h.K = some a → C a.block
theorem own_block {A : Option Addr} {n c k : Nat} (h : (Value.slice A n c).ownBlock = some k) : ∃ a, A = some a ∧ a.block = k := by
  cases A with
  | none => cases h
  | some a => injection h with h; exact ⟨a, rfl, h⟩
theorem NodeIn.keep {w w' : World} {C : Nat → Prop} {h : Nh} {x : Nd} (hn : NodeIn w C h x) (ha : Agree C w w') : NodeIn w' C h x := by
  obtain ⟨h1, h2, ⟨ys, h3, h4⟩, h5, h6, h7⟩ := hn
  refine ⟨h1.keep ha, own_agree h2 ha fun k hk => ?_, ⟨ys, own_agree h3 ha fun k hk => ?_, h4.keep fun t => ha.mono fun b hb => hb.1⟩, h5, h6, h7⟩
  · obtain ⟨a, e, rfl⟩ := own_block hk
    exact h7 a e
  · obtain ⟨a, e, rfl⟩ := own_block hk
    exact h6 a e
/-- What Get told. -/
theorem node_got {w w' : World} {N : Nat} {h : Nh} {x : Nd} (hN : w.heap.size ≤ N) (h1 : On (w.heap.size ≤ ·) w' (NdR · h x)) (h2 : w'.ownsRow N 3 1 (.slice h.K h.k h.e) h.k (x.kids.map intV)) (h3 : KeysOwn N w' h x) :
    NodeIn w' (fun b => w.heap.size ≤ b ∧ b < w'.heap.size) h x := by
  obtain ⟨ys, k1, k2, k3⟩ := h3
  refine ⟨h1.now, h2.mono (Nat.zero_le _), ⟨ys, k1.mono (Nat.zero_le _), k2.now.mono fun t ht b hb => ⟨⟨by have := hb.1.1; omega, hb.2⟩, hb.1.2⟩⟩, k3, fun a e => ?_, fun a e => ?_⟩
  · have := k1.lt a.block (by rw [e]; rfl)
    omega
  · have := h2.lt a.block (by rw [e]; rfl)
    omega

/-- A stop's cells in a row. -/
def Heads (xs : List Value) (j : Nat) (s : Stp) (h : Nh) : Prop :=
  xs[j * 7]? = some (.int .i64 s.num) ∧ xs[j * 7 + 1]? = some (.bool s.nd.leaf) ∧ xs[j * 7 + 2]? = some (.slice h.A h.n h.c) ∧ xs[j * 7 + 3]? = some (.slice h.B h.m h.d) ∧ xs[j * 7 + 4]? = some (.slice h.K h.k h.e) ∧ xs[j * 7 + 5]? = some (.int .i64 s.nd.next) ∧ xs[j * 7 + 6]? = some (.int .i64 s.kid)
abbrev stpV (s : Stp) (h : Nh) : List Value := [.int .i64 s.num, .bool s.nd.leaf, .slice h.A h.n h.c, .slice h.B h.m h.d, .slice h.K h.k h.e, .int .i64 s.nd.next, .int .i64 s.kid]
theorem heads_new {xs : List Value} {j : Nat} (s : Stp) (h : Nh) (hl : xs.length = j * 7) : Heads (xs ++ stpV s h) j s h := by
  refine ⟨?_, ?_, ?_, ?_, ?_, ?_, ?_⟩ <;> rw [List.getElem?_append_right (by omega)]
  · rw [show j * 7 - xs.length = 0 by omega]; rfl
  · rw [show j * 7 + 1 - xs.length = 1 by omega]; rfl
  · rw [show j * 7 + 2 - xs.length = 2 by omega]; rfl
  · rw [show j * 7 + 3 - xs.length = 3 by omega]; rfl
  · rw [show j * 7 + 4 - xs.length = 4 by omega]; rfl
  · rw [show j * 7 + 5 - xs.length = 5 by omega]; rfl
  · rw [show j * 7 + 6 - xs.length = 6 by omega]; rfl
theorem Heads.cells {xs ys : List Value} {j : Nat} {s : Stp} {h : Nh} (hh : Heads xs j s h) (he : ∀ r, r < 7 → ys[j * 7 + r]? = xs[j * 7 + r]?) : Heads ys j s h :=
  ⟨(he 0 (by omega)).trans hh.1, (he 1 (by omega)).trans hh.2.1, (he 2 (by omega)).trans hh.2.2.1, (he 3 (by omega)).trans hh.2.2.2.1, (he 4 (by omega)).trans hh.2.2.2.2.1, (he 5 (by omega)).trans hh.2.2.2.2.2.1, (he 6 (by omega)).trans hh.2.2.2.2.2.2⟩

/-- The stops of a way, its end first: each one's node lies in blocks of its own, below hi, from N on; gr is the way's own block. -/
def NodesR (w : World) (xs : List Value) (gr N : Nat) : Nat → List Stp → Prop
  | _, [] => True
  | hi, s :: up => ∃ lo hi' h, N ≤ lo ∧ lo ≤ hi' ∧ hi' ≤ hi ∧ (gr < lo ∨ hi' ≤ gr) ∧ Heads xs up.length s h ∧ NodeIn w (fun b => lo ≤ b ∧ b < hi') h s.nd ∧ NodesR w xs gr N lo up
theorem NodesR.keep {w w' : World} {xs : List Value} {gr N : Nat} : ∀ {hi : Nat} {R : List Stp}, NodesR w xs gr N hi R → Agree (fun b => N ≤ b ∧ b < hi ∧ b ≠ gr) w w' → NodesR w' xs gr N hi R
  | _, [], h, _ => trivial
  | hi, s :: up, h, ha => by
    obtain ⟨lo, hi', hh, h1, h2, h3, h4, h5, h6, h7⟩ := h
    exact ⟨lo, hi', hh, h1, h2, h3, h4, h5, h6.keep (ha.mono fun b hb => by omega), h7.keep (ha.mono fun b hb => by omega)⟩
theorem NodesR.cells {w : World} {xs ys : List Value} {gr N : Nat} : ∀ {hi : Nat} {R : List Stp}, NodesR w xs gr N hi R → (∀ i, i < R.length * 7 → ys[i]? = xs[i]?) → NodesR w ys gr N hi R
  | _, [], h, _ => trivial
  | hi, s :: up, h, he => by
    obtain ⟨lo, hi', hh, h1, h2, h3, h4, h5, h6, h7⟩ := h
    exact ⟨lo, hi', hh, h1, h2, h3, h4, h5.cells fun r hr => he _ (by simp; omega), h6, h7.cells fun i hi => he i (by simp; omega)⟩
/-- The row has moved. -/
theorem NodesR.move {w : World} {xs : List Value} {gr gr' N : Nat} : ∀ {hi : Nat} {R : List Stp}, NodesR w xs gr N hi R → hi ≤ gr' → NodesR w xs gr' N hi R
  | _, [], h, _ => trivial
  | hi, s :: up, h, hg => by
    obtain ⟨lo, hi', hh, h1, h2, h3, h4, h5, h6, h7⟩ := h
    exact ⟨lo, hi', hh, h1, h2, h3, .inr (by omega), h5, h6, h7.move (by omega)⟩
theorem NodesR.up {w : World} {xs : List Value} {gr N : Nat} : ∀ {hi hi2 : Nat} {R : List Stp}, NodesR w xs gr N hi R → hi ≤ hi2 → NodesR w xs gr N hi2 R
  | _, _, [], h, _ => trivial
  | hi, hi2, s :: up, h, hg => by
    obtain ⟨lo, hi', hh, h1, h2, h3, h4⟩ := h
    exact ⟨lo, hi', hh, h1, h2, by omega, h4⟩

/-- What stands in a way's row, its end first. -/
def HeadsR (xs : List Value) : List Stp → Prop
  | [] => True
  | s :: up => (∃ h, Heads xs up.length s h) ∧ HeadsR xs up
theorem NodesR.heads {w : World} {xs : List Value} {gr N : Nat} : ∀ {hi : Nat} {R : List Stp}, NodesR w xs gr N hi R → HeadsR xs R
  | _, [], h => trivial
  | hi, s :: up, h => by
    obtain ⟨lo, hi', hh, h1, h2, h3, h4, h5, h6, h7⟩ := h
    exact ⟨⟨hh, h5⟩, h7.heads⟩

abbrev stopV (s : Stp) (h : Nh) : Value := .agg #[.int .i64 s.num, .bool s.nd.leaf, .slice h.A h.n h.c, .slice h.B h.m h.d, .slice h.K h.k h.e, .int .i64 s.nd.next, .int .i64 s.kid]
theorem Try.infoStop : (Try.prog.info? 74).map (fun i => (i.zero, i.size, i.bytes)) = some (some (.agg #[.int .i64 0, .bool false, .slice none 0 0, .slice none 0 0, .slice none 0 0, .int .i64 0, .int .i64 0]), 7, 104) := by kernel_rfl

set_option maxHeartbeats 1000000 in
theorem last_any {w : World} {gr p c N : Nat} {xs : List Value} (h : w.ownsRow N 74 7 (.slice (some ⟨gr, 0, none⟩) (p + 1) c) (p + 1) xs) {s : Stp} {hh : Nh} (hs : Heads xs p s hh) :
    Calls Try.prog 34 #[.slice (some ⟨gr, 0, none⟩) (p + 1 : Nat) c] w fun e w' => e = .returned (stopV s hh) ∧ Below w.heap.size w w' := by
  have hn : p + 1 ≤ maxLen := Nat.le_trans (own_caps h).1 (own_caps h).2.1
  unfold maxLen at hn
  have hlt : gr < w.heap.size := by
    obtain ⟨g, e, _, hg⟩ := own_at h (by omega)
    injection e with e
    injection e with e
    omega
  obtain ⟨h0, h1, h2, h3, h4, h5, h6⟩ := hs
  have c0 := (h.cellAt (p * 7) (by omega)).trans h0
  have c1 := (h.cellAt (p * 7 + 1) (by omega)).trans h1
  have c2 := (h.cellAt (p * 7 + 2) (by omega)).trans h2
  have c3 := (h.cellAt (p * 7 + 3) (by omega)).trans h3
  have c4 := (h.cellAt (p * 7 + 4) (by omega)).trans h4
  have c5 := (h.cellAt (p * 7 + 5) (by omega)).trans h5
  have c6 := (h.cellAt (p * 7 + 6) (by omega)).trans h6
  clear h h0 h1 h2 h3 h4 h5 h6
  go_enter Try.func34, Try.ntmps34
  go_wp2
  refine bodyPost_ret (v := stopV s hh) (by simp [results, Try.results34, go_sem]) rfl ⟨rfl, ?_⟩
  exact (Below.refl _ w).alloc (Nat.le_refl _) _
end Go.Proofs.Ytdkppgmhhijkgaa

namespace Go.Proofs.Ytdkppgmhhijkgaa
open Go.RowKit
set_option linter.unusedVariables false
set_option maxRecDepth 100000

theorem kids_srt {α : Type} {P : Ky → Ky → α → Prop} {hi : Ky} : ∀ {lo : Ky} {ks : List Ky} {ts : List α}, Kids P hi lo ks ts → Srt (KS ks) ∧ ∀ x ∈ ks, ltB lo x = true
  | lo, [], ts, h => ⟨List.Pairwise.nil, fun x hx => by cases hx⟩
  | lo, s :: ss, ts, h => by
    obtain ⟨t, r, rfl, h1, h2, _, h⟩ := h
    obtain ⟨e1, e2⟩ := kids_srt h
    have hls : ltB lo s = true := by
      rcases h1.2.2 with e | e
      · exact absurd e h2
      · exact e
    refine ⟨List.pairwise_cons.2 ⟨fun p hp => ?_, e1⟩, fun x hx => ?_⟩
    · obtain ⟨x, hx, rfl⟩ := List.mem_map.1 hp
      exact e2 x hx
    · rcases List.mem_cons.1 hx with rfl | hx
      · exact hls
      · exact ltB_trans hls (e2 x hx)
theorem Ar.small {w : World} {D : Nat → Prop} {g : Nat} {L : List (Option Nd)} {F : List Nat} (h : Ar w D g L F) {k : Nat} {x : Nd} (hx : lat L k = some x) : SmallN x := by
  obtain ⟨C, P, Q, pc, qc, xs, h⟩ := h
  obtain ⟨_, _, _, _, _, _, hs, _⟩ := h.six (lat_lt hx) hx
  exact hs
theorem got_yes {L : List (Option Nd)} {k : Nat} {x : Nd} (hx : lat L k = some x) : usedB L (k : Int) = true ∧ gotNd L (k : Int) = x := by
  have hu : usedB L (k : Int) = true := by unfold usedB; simp [hx]
  exact ⟨hu, by unfold gotNd; rw [hu]; simp [hx]⟩
theorem seven_cells {w : World} {b : Nat} {u0 u1 u2 u3 u4 u5 u6 : Value} {T : TypeId} (h : w.heap[b]? = some (.cells #[u0, u1, u2, u3, u4, u5, u6] T (0, 0))) : ∀ j u, [u0, u1, u2, u3, u4, u5, u6][j]? = some u → w.cell? ((⟨b, 0, none⟩ : Addr).add j) = some u := by
  intro j u hu
  rw [add_lit]
  match j with
  | 0 | 1 | 2 | 3 | 4 | 5 | 6 =>
    simp at hu
    subst hu
    simp [World.cell?, h]
  | j + 7 => simp at hu
theorem stp_one (s : Stp) (h : Nh) : ∀ u ∈ stpV s h, u.oneCell' = true := by
  intro u hu
  simp at hu
  rcases hu with rfl | rfl | rfl | rfl | rfl | rfl | rfl <;> rfl

def lenV : Value → Nat
  | .slice _ n _ => n
  | _ => 0

/-- Where the loop has come to: the stops so far, and the tree below. -/
def WayInv (w : World) (L : List (Option Nd)) (m : Nat) (k : Ky) (full : List Stp) (d : Nat) (l i : Value) (wr : World) : Prop :=
  ∃ (R : List Stp) (A : Option Addr) (c gr hi : Nat) (xs : List Value) (d' : Nat) (t' : Tr d') (b : Bool) (lo up : Ky), l = .slice A R.length c ∧ wr.ownsRow w.heap.size 74 7 (.slice A R.length c) R.length xs ∧ NodesR wr xs gr w.heap.size hi R ∧ hi ≤ wr.heap.size ∧
    (∀ a, A = some a → a.block = gr) ∧ Below w.heap.size w wr ∧ i = .int .i64 (num d' t') ∧ Holds L d' t' ∧ Ok m d' b lo up t' ∧ inR lo up k ∧ R.reverse ++ wayT k d' t' = full ∧ d' + R.length = d

/-- What way leaves. -/
def WayOut (w : World) (full : List Stp) (e : Ending) (w' : World) : Prop :=
  ∃ c gr hi xs, e = .returned (.slice (some ⟨gr, 0, none⟩) full.length c) ∧ w'.ownsRow w.heap.size 74 7 (.slice (some ⟨gr, 0, none⟩) full.length c) full.length xs ∧ NodesR w' xs gr w.heap.size hi full.reverse ∧ hi ≤ w'.heap.size ∧ Below w.heap.size w w'

/-- One stop more. -/
theorem way_more {w wr w2 w5 : World} {R : List Stp} {A : Option Addr} {c gr hi gr' : Nat} {xs : List Value} {s : Stp} {h : Nh} (hown : wr.ownsRow w.heap.size 74 7 (.slice A R.length c) R.length xs) (hn : NodesR wr xs gr w.heap.size hi R) (hhi : hi ≤ wr.heap.size) (hA : ∀ a, A = some a → a.block = gr) (hb : Below w.heap.size w wr)
    (hb2 : Below wr.heap.size wr w2) (hin : NodeIn w2 (fun b => wr.heap.size ≤ b ∧ b < w2.heap.size) h s.nd) (hsz : w2.heap.size ≤ w5.heap.size) (hag : ∀ b, b < w2.heap.size → (∀ a, A = some a → a.block ≠ b) → w5.heap[b]? = w2.heap[b]?)
    (hat : (∃ a, A = some a ∧ a.block = gr') ∨ w2.heap.size ≤ gr') : NodesR w5 (xs ++ stpV s h) gr' w.heap.size w2.heap.size (s :: R) := by
  have hs2 := hb2.size
  have hxl := hown.1
  have hlt : ∀ a, A = some a → a.block < wr.heap.size := fun a e => by
    subst e
    exact (hown.lt a.block rfl).2
  have hold : NodesR w5 xs gr w.heap.size hi R := hn.keep ⟨by omega, fun b hb hl => by
    rw [hag b (by omega) (fun a e => by rw [hA a e]; exact fun e => hb.2.2 e.symm)]
    exact hb2.block b hl⟩
  have hold2 : NodesR w5 xs gr' w.heap.size wr.heap.size R := by
    rcases hat with ⟨a, e1, e2⟩ | h2
    · rw [← e2, hA a e1]
      exact hold.up hhi
    · exact (hold.move (by omega)).up hhi
  refine ⟨wr.heap.size, w2.heap.size, h, hb.size, hs2, Nat.le_refl _, ?_, heads_new s h hxl, hin.keep ⟨hsz, fun b hb hl => hag b hl fun a e => ?_⟩, hold2.cells fun i hi => ?_⟩
  · rcases hat with ⟨a, e1, e2⟩ | h2
    · exact .inl (by rw [← e2]; exact hlt a e1)
    · exact .inr h2
  · have := hlt a e
    omega
  · rw [List.getElem?_append_left (by omega)]

/-- What Get tells of a number that has a node. -/
def GotN (w : World) (x : Nd) (e : Ending) (w' : World) : Prop := ∃ h, e = .returned (.tuple #[ndV h x, .bool true]) ∧ NodeIn w' (fun b => w.heap.size ≤ b ∧ b < w'.heap.size) h x ∧ Below w.heap.size w w'
theorem get_node {w : World} {D : Nat → Prop} {g : Nat} {L : List (Option Nd)} {F : List Nat} (h : Ar w D g L F) {k : Nat} (hk : k ≤ 1000000) {x : Nd} (hx : lat L k = some x) :
    Calls Try.prog 41 #[.pointer (some ⟨g, 0, none⟩), .int .i64 k] w (GotN w x) := by
  obtain ⟨hu, hg⟩ := got_yes hx
  refine (get_own h k (by omega)).mono fun e w' ⟨hh, h1, h2, h3, h4, h5⟩ => ?_
  rw [hg, hu] at h1
  rw [hg] at h2 h4 h5
  exact ⟨hh, h1, node_got (Nat.le_succ _) h2 h4 h5, h3⟩
theorem box5 (w : World) (a0 a1 a2 a3 a4 : Value) (T : TypeId) : ∃ W, W = w.alloc (.cells #[a0, a1, a2, a3, a4] T) ∧ Below w.heap.size w W ∧ W.heap.size = w.heap.size + 1 ∧ W.heap[w.heap.size]? = some (.cells #[a0, a1, a2, a3, a4] T (0, 0)) :=
  ⟨_, rfl, (Below.refl _ _).alloc (Nat.le_refl _) _, by simp, heap_alloc_new w _⟩
theorem box7 (w : World) (a0 a1 a2 a3 a4 a5 a6 : Value) (T : TypeId) : ∃ W, W = w.alloc (.cells #[a0, a1, a2, a3, a4, a5, a6] T) ∧ Below w.heap.size w W ∧ W.heap.size = w.heap.size + 1 ∧ W.heap[w.heap.size]? = some (.cells #[a0, a1, a2, a3, a4, a5, a6] T (0, 0)) :=
  ⟨_, rfl, (Below.refl _ _).alloc (Nat.le_refl _) _, by simp, heap_alloc_new w _⟩

set_option maxHeartbeats 4000000 in
theorem way_any {w : World} {D : Nat → Prop} {tb g : Nat} {L : List (Option Nd)} {F : List Nat} {root m many : Nat} (h : TrM w D tb g L F root m many) {d : Nat} {t : Tr d} (hg : GoodT L F m root d t) (hL2 : L.length ≤ 9000) {C : Option Addr} {o : Nat} (q : Nat) {k : Ky} (hk : Byt w C o k) :
    Calls Try.prog 33 #[.pointer (some ⟨tb, 0, none⟩), .slice C o q] w (WayOut w (wayT k d t)) := by
  have HT := Lib.hid h
  have HK := Lib.hid hk
  have HG := Lib.hid hg
  have hdeep : d + 1 ≤ L.length := by have := hg.all; have := hg.ok.deep; omega
  obtain ⟨c0, c1, c2, c3, -, -⟩ := h.cells
  obtain ⟨i0, hi, hz0, hz1, hz2⟩ := info_parts Try.infoStop
  have HI := Lib.hid hi
  have HZ := Lib.hid (And.intro hz0 (And.intro hz1 hz2))
  clear h hk hi hz0 hz1 hz2 hg
  go_enter Try.func33, Try.ntmps33
  go_wp2
  clear c0 c1 c2 c3
  go_loopw [5, 6] (fun l i wr => WayInv w L m k (wayT k d t) d l i wr) (fun l _ _ => d + 1 - lenV l)
  case atStart => exact ⟨[], none, 0, 0, 0, [], d, t, true, [], [], rfl, World.ownsRow_nil _ _ _ _, trivial, Nat.zero_le _, (fun a e => by cases e), Below.refl _ _, by rw [HG.out.rt], HG.out.holds, HG.out.ok, inR_all k, rfl, rfl⟩
  case round =>
    obtain ⟨R, A, c, gr, hi, xs, d', t', b, lo, up, rfl, hown, hn, hhi, hA, hb, rfl, hL, hok, hin, hfull, hdr⟩ := hrel
    have hT := HT.out.keep (below_all hb)
    obtain ⟨c0, -, -, -, -, -⟩ := hT.cells
    have HLen := len_any hT.2.1
    have hx := hL.here
    have hnl := lat_lt hx
    have HGet := get_node hT.2.1 (by omega) hx
    have hsm := hT.2.1.small hx
    have hle : R.length ≤ L.length := by omega
    have hkx : ∃ j, kidx (ndT d' t').keys k = j ∧ j ≤ (ndT d' t').keys.length ∧ Srt (KS (ndT d' t').keys) ∧ (ndT d' t').keys.length ≤ 1000 := ⟨_, rfl, kidx_le _ _, by
      cases d' with
      | zero => exact List.Pairwise.nil
      | succ d' => exact (kids_srt hok.2.2.2).1, hsm.2.2.1⟩
    obtain ⟨j, hj, hjl, hsrt, hk1000⟩ := hkx
    have HJ := Lib.hid (And.intro hj (And.intro hjl (And.intro hsrt hk1000)))
    have HO := Lib.hid hown
    have HN := Lib.hid hn
    have HL := Lib.hid hL
    have HOK := Lib.hid hok
    have HIN := Lib.hid hin
    have HF := Lib.hid hfull
    have HB := Lib.hid (And.intro hhi (And.intro hA hb))
    have HD := Lib.hid (And.intro hdr hnl)
    have hRn : R.length ≤ 9000 := by omega
    clear hown hn hL hok hin hfull hhi hA hb hT hx hsm hj hjl hsrt hdr hnl hk1000
    obtain ⟨x, hxe⟩ : ∃ x, x = ndT d' t' := ⟨_, rfl⟩
    rw [← hxe] at HGet HJ
    have HXE := Lib.hid hxe
    clear hxe
    generalize hie : num d' t' = i at *
    have HIE := Lib.hid hie
    clear hie
    go_wp2_with fail
    refine HLen.mono ?_
    rintro e w1 ⟨rfl, rfl⟩
    clear HLen
    go_wp2_with fail
    clear hle
    refine HGet.mono ?_
    rintro e w2 ⟨hh, rfl, hin, hb2⟩
    clear HGet c0
    have HIN2 := Lib.hid hin
    have HB2 := Lib.hid hb2
    have HW := Lib.hid (box5 w2 (.bool x.leaf) (.slice hh.A hh.n hh.c) (.slice hh.B hh.m hh.d) (.slice hh.K hh.k hh.e) (.int .i64 x.next) 72)
    clear hin hb2
    go_wp2_with fail
    obtain ⟨W, hW, hWB, hWs, hWh⟩ := HW.out
    rw [← hW]
    have HWB := Lib.hid hWB
    have HWS := Lib.hid hWs
    have HKO := kidof_any q ((HIN2.out.keep (below_all hWB)).reads.here.2.1) (HK.out.below (HB.out.2.2.trans ((HB2.out.mono HB.out.2.2.size).trans (hWB.mono (Nat.le_trans HB.out.2.2.size HB2.out.size))))) HJ.out.2.2.1 (by have := HIN2.out.reads.here.2.1.1; have := HJ.out.2.2.2; omega)
    rw [HJ.out.1] at HKO
    obtain ⟨b0, b1, b2, b3, b4, -⟩ := five hWh
    have hWh2 := Lib.hid hWh
    clear hW HW hWB hWs hWh
    refine HKO.mono ?_
    rintro e w4 ⟨rfl, rfl⟩
    clear HKO
    have HBW : Hid (Below wr.heap.size wr W) := Lib.hid (HB2.out.trans (HWB.out.mono HB2.out.size))
    have HO4 := Lib.hid ((own_keep HO.out HBW.out).alloc (.cells #[.int .i64 i, .bool x.leaf, .slice hh.A hh.n hh.c, .slice hh.B hh.m hh.d, .slice hh.K hh.k hh.e, .int .i64 x.next, .int .i64 j] 74))
    have HC7 := Lib.hid (seven_cells (heap_alloc_new W (.cells #[.int .i64 i, .bool x.leaf, .slice hh.A hh.n hh.c, .slice hh.B hh.m hh.d, .slice hh.K hh.k hh.e, .int .i64 x.next, .int .i64 j] 74)))
    have hbase : w.heap.size ≤ (W.alloc (.cells #[.int .i64 i, .bool x.leaf, .slice hh.A hh.n hh.c, .slice hh.B hh.m hh.d, .slice hh.K hh.k hh.e, .int .i64 x.next, .int .i64 j] 74)).heap.size := by
      have := HB.out.2.2.size; have := HBW.out.size; simp; omega
    go_wp2_with (at_builtin; refine wpList_append_lies _ rfl _ _ 68 rfl w.heap.size 74 i0 (.agg #[.int .i64 0, .bool false, .slice none 0 0, .slice none 0 0, .slice none 0 0, .int .i64 0, .int .i64 0]) 7 104 Try.underlying68 HI.out HZ.out.1 HZ.out.2.1 HZ.out.2.2 rfl (by decide) (.slice A R.length c) R.length xs rfl HO4.out ⟨W.heap.size, 0, none⟩ 1 1 (stpV ⟨i, x, j⟩ hh) rfl rfl HC7.out (stp_one ⟨i, x, j⟩ hh) (by decide) (by unfold maxLen; omega) (by omega) hbase _ rfl ?_)
    intro gr' cap w5 hown5 hgrow5 hat5 hlt5
    have hsz5 : w2.heap.size ≤ w5.heap.size := by have := hgrow5.size; have := HWS.out; simp at *; omega
    have hAlt : ∀ a, A = some a → a.block < wr.heap.size := fun a e => by
      have := (HO.out.lt a.block (by rw [e]; rfl)).2
      exact this
    have hag : ∀ b, b < w2.heap.size + 1 → (∀ a, A = some a → a.block ≠ b) → w5.heap[b]? = W.heap[b]? := fun b hb hne =>
      (hgrow5.block b (by have := HWS.out; simp; omega) (fun e => by
        obtain ⟨a, e1, e2⟩ := own_block e.symm
        exact hne a e1 e2)).trans (Below.heap_alloc _ _ _ (by have := HWS.out; omega))
    have hag2 : ∀ b, b < w2.heap.size → (∀ a, A = some a → a.block ≠ b) → w5.heap[b]? = w2.heap[b]? := fun b hb hne => (hag b (by omega) hne).trans (HWB.out.block b hb)
    have hwr2 := HB2.out.size
    have HIN5 := Lib.hid (HIN2.out.keep (w' := w5) ⟨hsz5, fun b hb hl => hag2 b hl fun a e => by have := hAlt a e; omega⟩)
    have HN5 := Lib.hid (way_more (w5 := w5) (gr' := gr') (s := ⟨i, x, j⟩) HO.out HN.out HB.out.1 HB.out.2.1 HB.out.2.2 HB2.out HIN2.out hsz5 hag2 (hat5.imp (fun e => own_block e) (fun e => by have := HWS.out; omega)))
    have HB5 := Lib.hid (((HB.out.2.2.trans (HBW.out.mono HB.out.2.2.size)).alloc (by have := HB.out.2.2.size; have := HBW.out.size; omega) _).grown hgrow5 hbase (fun k hk => (HO.out.lt k hk).1))
    have HO5 := Lib.hid hown5
    have HS5 := Lib.hid hsz5
    have q5 := hag w2.heap.size (by omega) (fun a e => by have := hAlt a e; omega)
    have HWQ := Lib.hid (q5.trans hWh2.out)
    clear hown5 hgrow5 hat5 hsz5 hAlt hag hag2 hbase HO4 HC7 HO HN q5 b0 b1 b2 b3 b4
    obtain ⟨b0, b1, b2, b3, b4, -⟩ := five HWQ.out
    cases d' with
    | zero =>
      have hx0 : x.leaf = true := by rw [HXE.out]; rfl
      have hfl : wayT k d t = ((⟨i, x, j⟩ : Stp) :: R).reverse := by
        have h1 : j = 0 := by rw [← HJ.out.1, HXE.out]; rfl
        rw [← HF.out, List.reverse_cons, h1, HXE.out, ← HIE.out]
        rfl
      have HFL := Lib.hid hfl
      rw [hx0] at b0
      clear hx0 hfl b1 b2 b3 b4
      go_wp2
      go_ret
      refine ⟨cap, gr', w2.heap.size, xs ++ stpV ⟨i, x, j⟩ hh, ?_, ?_, ?_, HS5.out, HB5.out⟩
      · rw [HFL.out, List.length_reverse, List.length_cons]
        rfl
      · rw [HFL.out, List.length_reverse, List.length_cons]
        exact HO5.out
      · rw [HFL.out, List.reverse_reverse]
        exact HN5.out
    | succ d' =>
      obtain ⟨k1, k2, t1, t2, ch, l', h', hq, hget, hway, hleaf⟩ := way_kid HOK.out HIN.out
      have hx0 : x.leaf = false := by rw [HXE.out]; rfl
      have hkn : hh.k = hh.m + 1 := by
        have e1 := HIN5.out.reads.here.2.2.1
        have e2 := HIN5.out.reads.here.2.1.1
        have e3 := HOK.out.2.2.2.len
        rw [HXE.out] at e1 e2
        have e1' : ((nn t').2.2.map (fun c => (num d' c : Int))).length = hh.k := e1
        have e2' : (nn t').2.1.length = hh.m := e2
        rw [List.length_map] at e1'
        omega
      have hm : hh.m ≤ 1000 := by have := HIN5.out.reads.here.2.1.1; have := HJ.out.2.2.2; omega
      have hjk : j < hh.k := by have := HIN5.out.reads.here.2.1.1; have := HJ.out.2.1; omega
      obtain ⟨gk, hKe, -, hgk⟩ := own_at HIN5.out.kids (by omega)
      have hkc : w5.cell? ⟨gk, j, none⟩ = some (.int .i64 (num d' ch)) := by
        have := HIN5.out.kids
        rw [hKe] at this
        rw [this.cellAt j (by omega), HXE.out]
        show (((nn t').2.2.map (fun c => (num d' c : Int))).map intV)[j]? = _
        have hj : kidx (nn t').2.1 k = j := by have := HJ.out.1; rw [HXE.out] at this; exact this
        rw [hj] at hget
        rw [List.getElem?_map, List.getElem?_map, hget]
        rfl
      have hch : Holds L d' ch := HL.out.2 ch (by rw [hq.ets]; simp)
      have hfl : ((⟨i, x, j⟩ : Stp) :: R).reverse ++ wayT k d' ch = wayT k d t := by
        rw [← HF.out, hway, List.reverse_cons, ← HIE.out, ← HJ.out.1, HXE.out, List.append_assoc]
        rfl
      have HNX := Lib.hid (And.intro hch (And.intro hq.kid (And.intro hq.inr hfl)))
      have hw1 : IntKind.i64.wrap ((hh.m : Int) + 1) = (hh.m : Int) + 1 := IntWalk.i64_in _ (by omega)
      rw [hx0] at b0
      clear hx0 hq hget hway hleaf hch hfl
      rw [hkn, hKe] at b3
      have hjk' : j < hh.m + 1 := by omega
      go_wp2
      go_roundw
      case rel => exact ⟨⟨i, x, j⟩ :: R, some ⟨gr', 0, none⟩, cap, gr', w2.heap.size, xs ++ stpV ⟨i, x, j⟩ hh, d', ch, false, l', h', rfl, HO5.out, HN5.out, HS5.out, (fun a e => by injection e with e; rw [← e]), HB5.out, rfl, HNX.out.1, HNX.out.2.1, HNX.out.2.2.1, HNX.out.2.2.2, by have := HD.out.1; simp; omega⟩
      case measure =>
        show d + 1 - (R.length + 1) < d + 1 - R.length
        have := HD.out.1
        omega
end Go.Proofs.Ytdkppgmhhijkgaa

namespace Go.Proofs.Ytdkppgmhhijkgaa
open Go.RowKit
set_option linter.unusedVariables false
set_option maxRecDepth 100000

theorem obj_setCells {b : Nat} {e : TypeId} {fz : Nat × Nat} : ∀ (vs : List Value) (o : Nat) (w : World) (cur : Array Value), w.heap[b]? = some (.cells cur e fz) → ∃ cur', (w.setCells b o vs).heap[b]? = some (.cells cur' e fz) ∧ cur'.size = cur.size
  | [], o, w, cur, h => ⟨cur, h, rfl⟩
  | v :: vs, o, w, cur, h => by
    have h1 : (w.setCell ⟨b, o, none⟩ v).heap[b]? = some (.cells (cur.setIfInBounds o v) e fz) := by
      simp [World.setCell, Array.getElem?_modify, h]
    obtain ⟨cur', h2, h3⟩ := obj_setCells vs (o + 1) _ _ h1
    exact ⟨cur', h2, by rw [h3]; simp⟩
theorem own_of_cells {w : World} {N g n cap : Nat} {e : TypeId} {cur : Array Value} {xs : List Value} (h : w.heap[g]? = some (.cells cur e (0, 0))) (hN : N ≤ g) (hn : n ≤ cap) (hc : cap ≤ maxLen) (hs : cur.size = cap) (hl : xs.length = n) (hx : ∀ j, j < n → w.cell? ⟨g, j, none⟩ = xs[j]?) :
    w.ownsRow N e 1 (.slice (some ⟨g, 0, none⟩) n cap) n xs := by
  refine ⟨by omega, .inr ⟨g, cap, cur, rfl, hN, h, hn, hc, by omega, ?_⟩⟩
  refine List.ext_getElem? fun j => ?_
  by_cases hj : j < n
  · rw [← hx j hj]
    simp [World.cell?, h, hj]
  · rw [List.getElem?_eq_none (by simp; omega), List.getElem?_eq_none (by omega)]
theorem ins_at {α : Type} (l : List α) {i : Nat} (x : α) (hi : i ≤ l.length) (j : Nat) : (ins l i x)[j]? = if j < i then l[j]? else if j = i then some x else l[j - 1]? := by
  unfold ins
  have hl : (l.take i).length = i := by simp; omega
  by_cases h1 : j < i
  · rw [if_pos h1, List.getElem?_append_left (by omega), List.getElem?_take, if_pos h1]
  · rw [if_neg h1, List.getElem?_append_right (by omega), hl]
    by_cases h2 : j = i
    · subst h2
      simp
    · rw [if_neg h2]
      obtain ⟨t, rfl⟩ : ∃ t, j = i + 1 + t := ⟨j - (i + 1), by omega⟩
      rw [show i + 1 + t - i = t + 1 by omega, List.getElem?_cons_succ, List.getElem?_drop, show i + 1 + t - 1 = i + t by omega]

/-- What Insert leaves. -/
def Insd (w : World) (N b : Nat) (E : TypeId) (n : Nat) (xs : List Value) (e : Ending) (w' : World) : Prop :=
  ∃ g cap, e = .returned (.slice (some ⟨g, 0, none⟩) n cap) ∧ w'.ownsRow N E 1 (.slice (some ⟨g, 0, none⟩) n cap) n xs ∧ w.grownBy w' (some b) ∧ (g = b ∨ w.heap.size ≤ g) ∧ g < w'.heap.size
theorem grown_setCells {w : World} {b : Nat} : ∀ (vs : List Value) (o : Nat) {w' : World}, w.grownBy w' (some b) → w.grownBy (w'.setCells b o vs) (some b)
  | [], o, w', h => h
  | v :: vs, o, w', h => grown_setCells vs (o + 1) (w' := w'.setCell ⟨b, o, none⟩ v) ⟨h.os, h.tape, h.output, by simpa [World.setCell] using h.size, fun k hk hne => by
      rw [Below.heap_setCell _ _ _ _ (fun e => hne (by rw [e]))]
      exact h.block k hk hne⟩
theorem grown_setCells_new {w : World} {row : Option Nat} {b : Nat} (hb : w.heap.size ≤ b) : ∀ (vs : List Value) (o : Nat) {w' : World}, w.grownBy w' row → w.grownBy (w'.setCells b o vs) row
  | [], o, w', h => h
  | v :: vs, o, w', h => grown_setCells_new hb vs (o + 1) (w' := w'.setCell ⟨b, o, none⟩ v) ⟨h.os, h.tape, h.output, by simpa [World.setCell] using h.size, fun k hk hne => by
      rw [Below.heap_setCell _ _ _ _ (show k ≠ b by omega)]
      exact h.block k hk hne⟩
theorem grown_drew {w w' : World} {row : Option Nat} (h : w.grownBy w' row) : w.grownBy w'.drew row := ⟨h.os, h.tape, h.output, h.size, h.block⟩
theorem size_setCells' (b : Nat) : ∀ (vs : List Value) (o : Nat) (w : World), (w.setCells b o vs).heap.size = w.heap.size
  | [], _, _ => rfl
  | v :: vs, o, w => by
    show ((w.setCell ⟨b, o, none⟩ v).setCells b (o + 1) vs).heap.size = _
    rw [size_setCells' b vs (o + 1)]
    simp [World.setCell]

set_option maxHeartbeats 4000000 in
theorem insk_end {w : World} {N b n c vb : Nat} {cs : List Value} {u : Value} (h : w.ownsRow N 25 1 (.slice (some ⟨b, 0, none⟩) n c) n cs) (hn : n ≤ 1000) (hNw : N ≤ w.heap.size) (hv : w.heap[vb]? = some (.cells #[u] 25 (0, 0))) (h1 : u.oneCell' = true) :
    Calls Try.prog 72 #[.slice (some ⟨b, 0, none⟩) n c, .int .i64 n, .slice (some ⟨vb, 0, none⟩) 1 1] w (Insd w N b 25 (n + 1) (ins cs n u)) := by
  obtain ⟨i0, hi, hz0, hz1, hz2⟩ := info_parts Try.infoKey
  have hnc := (own_caps h).1
  have hcm := (own_caps h).2.1
  unfold maxLen at hcm
  have hi' : ins cs n u = cs ++ [u] := by
    have hl := h.1
    unfold ins
    rw [List.take_of_length_le (by omega), List.drop_of_length_le (by omega)]
  rw [hi']
  have H := Lib.hid h
  have HNW := Lib.hid hNw
  have hcl : ∀ j x, [u][j]? = some x → w.cell? ((⟨vb, 0, none⟩ : Addr).add j) = some x := fun j x hj => by
    have hj0 : j = 0 := by have := (List.getElem?_eq_some_iff.1 hj).1; simp at this; omega
    subst hj0
    simp at hj
    subst hj
    rw [add_lit]
    simp [World.cell?, hv]
  have HC := Lib.hid hcl
  have H1 := Lib.hid (show ∀ x ∈ [u], x.oneCell' = true from fun x hx => by simp at hx; rw [hx]; exact h1)
  clear h hv hcl hNw h1
  go_enter Try.func72, Try.ntmps72
  go_wp2_with (at_builtin; refine wpList_append_lies _ rfl _ _ 70 rfl N 25 i0 (.slice none 0 0) 1 24 Try.underlying70 hi hz0 hz1 hz2 rfl (by decide) _ n cs rfl H.out ⟨vb, 0, none⟩ 1 1 [u] rfl rfl HC.out H1.out (by decide) (by unfold maxLen; omega) (by omega) HNW.out _ rfl ?_)
  all_goals
    intro g cap w' hown hgrow hat hlt
    go_wp2
    go_ret
    exact ⟨g, cap, rfl, hown, hgrow, hat.imp (fun e => by injection e with e; exact e.symm) (fun e => by omega), hlt⟩

set_option maxHeartbeats 4000000 in
theorem insk_room {w : World} {N b n c i vb : Nat} {cs : List Value} {u : Value} (h : w.ownsRow N 25 1 (.slice (some ⟨b, 0, none⟩) n c) n cs) (hn : n ≤ 1000) (hi : i < n) (hroom : n + 1 ≤ c) (hv : w.heap[vb]? = some (.cells #[u] 25 (0, 0))) (hvb : vb ≠ b) (h1 : u.oneCell' = true) (h1c : ∀ v ∈ cs, v.oneCell' = true) :
    Calls Try.prog 72 #[.slice (some ⟨b, 0, none⟩) n c, .int .i64 i, .slice (some ⟨vb, 0, none⟩) 1 1] w (Insd w N b 25 (n + 1) (ins cs i u)) := by
  obtain ⟨i0, hi0, hz0, hz1, hz2⟩ := info_parts Try.infoKey
  have hcm := (own_caps h).2.1
  have hcl := h.1
  obtain ⟨cur, hcur, hcs⟩ : ∃ cur, w.heap[b]? = some (.cells cur 25 (0, 0)) ∧ cur.size = c := by
    rcases h.2 with ⟨e, _⟩ | ⟨g, cap, cur, e, _, hg, _, _, hs, _⟩
    · cases e
    · injection e with e1 e2 e3
      injection e1 with e1
      injection e1 with e1
      subst e1
      subst e3
      exact ⟨cur, hg, by omega⟩
  have hNb : N ≤ b := (h.lt b rfl).1
  have hbl : b < w.heap.size := (h.lt b rfl).2
  have hsz : (Try.prog.info? 25).map (·.size) = some 1 := by rw [hi0]; simp [hz1]
  have hc0 : ∀ j v, cs[j]? = some v → w.cell? ⟨b, j, none⟩ = some v := fun j v hj => (h.cellAt j (by have := (List.getElem?_eq_some_iff.1 hj).1; omega)).trans hj
  have hsp : ∀ j, j < n + 1 → (w.cell? ⟨b, j, none⟩).isSome = true := fun j hj => by
    simp [World.cell?, hcur]
    omega
  have hfz : ∀ j, w.frozen? ⟨b, j, none⟩ = false := fun j => h.frozenAt j
  have hv0 : w.cell? ⟨vb, 0, none⟩ = some u := by simp [World.cell?, hv]
  have hov : ∀ lb cb, (callFunc 80 #[.slice (some ⟨vb, 0, none⟩) 1 1, .slice (some ⟨b, i + 1, none⟩) lb cb]).run Try.prog w = .ok (.value (.bool false)) w := fun lb cb => by
    rw [run_callFunc_extern Try.func80 (by kernel_rfl) (by kernel_rfl) (by kernel_rfl) (e := Extern.SlicesOverlaps.overlaps #[70, 70] #[4]) (by kernel_rfl),
      Lib.run_overlaps_apart w 70 4 25 Try.underlying70 1 (fun w => by simp [sizeOf, typeInfo, hi0, hz1]) ⟨vb, 0, none⟩ ⟨b, i + 1, none⟩ 1 1 lb cb hvb 25 25 1 cur.size (by simp [World.shape?, hv]) (by simp [World.shape?, hcur]) (by omega) (by simp [World.frozen?, hv]) (by simp [World.frozen?, hv])]
    rfl
  have hdl : (cs.drop i).length = n - i := by rw [List.length_drop]; omega
  have hcp1 : ∀ ty dl dc sl sc, dl = n - i → sl = n + 1 - i → (Builtin.copy_ #[70, 70] ty #[.slice (some ⟨b, i + 1, none⟩) dl dc, .slice (some ⟨b, i, none⟩) sl sc]).run Try.prog w.drew = .ok (goInt (cs.drop i).length) (w.drew.setCells b (i + 1) (cs.drop i)) := fun ty dl dc sl sc e1 e2 =>
    run_copy_cells w.drew _ _ ty 25 b (i + 1) dl dc ⟨b, i, none⟩ sl sc (cs.drop i) Try.underlying70 hsz (by rw [hdl]; simp only [Nat.min_def]; split <;> omega)
      (fun j v hj => by rw [add_lit]; exact hc0 (i + j) v (by rwa [List.getElem?_drop] at hj))
      (fun j hj => hsp _ (by omega)) (fun j hj => hfz _) (fun v hv => h1c v (List.mem_of_mem_drop hv))
  obtain ⟨W1, hW1⟩ : ∃ W1, W1 = w.drew.setCells b (i + 1) (cs.drop i) := ⟨_, rfl⟩
  have hsp1 : ∀ k, k < n + 1 → (W1.cell? ⟨b, k, none⟩).isSome = true := fun k hk => by
    rw [hW1]
    exact isSome_setCells b (cs.drop i) (i + 1) w.drew (fun j hj => hsp _ (by omega)) k (hsp k hk)
  have hcp2 : ∀ (W : World), (∀ x, W.cell? x = W1.cell? x) → (∀ x, W.frozen? x = W1.frozen? x) → ∀ ty dl dc, 1 ≤ dl → (Builtin.copy_ #[70, 70] ty #[.slice (some ⟨b, i, none⟩) dl dc, .slice (some ⟨vb, 0, none⟩) 1 1]).run Try.prog W = .ok (goInt [u].length) (W.setCells b i [u]) := fun W hWc hWf ty dl dc e1 =>
    run_copy_cells W _ _ ty 25 b i dl dc ⟨vb, 0, none⟩ 1 1 [u] Try.underlying70 hsz (by simp only [Nat.min_def, List.length_cons, List.length_nil]; split <;> omega)
      (fun j v hj => by
        have hj0 : j = 0 := by have := (List.getElem?_eq_some_iff.1 hj).1; simp at this; omega
        subst hj0
        simp at hj
        subst hj
        rw [add_lit, hWc, hW1, World.cell?_setCells_out b _ _ _ _ (fun h _ => absurd h hvb)]
        exact hv0)
      (fun j hj => by rw [hWc]; simp at hj; exact hsp1 _ (by omega)) (fun j hj => by rw [hWf, hW1, World.frozen?_setCells]; exact hfz _) (fun v hv => by simp at hv; rw [hv]; exact h1)
  have hfin : (W1.setCells b i [u]).ownsRow N 25 1 (.slice (some ⟨b, 0, none⟩) (n + 1) c) (n + 1) (ins cs i u) := by
    obtain ⟨cur1, q1, q2⟩ := obj_setCells (cs.drop i) (i + 1) w.drew cur hcur
    obtain ⟨cur2, q3, q4⟩ := obj_setCells [u] i (w.drew.setCells b (i + 1) (cs.drop i)) cur1 q1
    rw [hW1]
    refine own_of_cells q3 hNb hroom hcm (by omega) (by rw [ins_len _ _ (by omega)]; omega) fun j hj => ?_
    rw [ins_at _ _ (by omega)]
    by_cases e1 : j < i
    · rw [if_pos e1, World.cell?_setCells_out b _ _ _ _ (fun _ _ => .inl e1), World.cell?_setCells_out b _ _ _ _ (fun _ _ => .inl (by show j < i + 1; omega))]
      exact h.cellAt j (by omega)
    · rw [if_neg e1]
      by_cases e2 : j = i
      · subst e2
        rw [if_pos rfl]
        have := World.cell?_setCells_in b [u] j (w.drew.setCells b (j + 1) (cs.drop j)) (fun t ht => by simp at ht; subst ht; rw [← hW1]; exact hsp1 _ (by omega)) 0 (by simp)
        simpa using this
      · rw [if_neg e2, World.cell?_setCells_out b _ _ _ _ (fun _ _ => .inr (by show i + [u].length ≤ j; simp; omega))]
        obtain ⟨t, rfl⟩ : ∃ t, j = i + 1 + t := ⟨j - (i + 1), by omega⟩
        have := World.cell?_setCells_in b (cs.drop i) (i + 1) w.drew (fun t ht => hsp _ (by omega)) t (by omega)
        rw [this, show i + 1 + t - 1 = i + t by omega]
        simp
  have hgr : w.grownBy (W1.setCells b i [u]) (some b) := by
    rw [hW1]
    exact grown_setCells [u] i (grown_setCells (cs.drop i) (i + 1) (w' := w.drew) ⟨rfl, rfl, rfl, Nat.le_refl _, fun _ _ _ => rfl⟩)
  have HF := Lib.hid (And.intro hfin (And.intro hgr (show b < (W1.setCells b i [u]).heap.size by rw [size_setCells', hW1, size_setCells']; exact hbl)))
  clear hfin hgr hc0 hsp hfz hsp1 hcur h h1c
  rw [← hW1] at hcp1
  clear hW1
  have hz1' : ¬ ((i : Int) = (n : Int)) := by omega
  have mixed : Try.prog.follows .mixedOrders = true := by kernel_rfl
  unfold maxLen at hcm
  have hw1 : IntKind.i64.wrap ((i : Int) + 1) = (i : Int) + 1 := by rw [IntKind.wrap_i64]; omega
  have hb1 : (0 : Int) ≤ (i : Int) + 1 := by omega
  have hin : i ≤ n := by omega
  have htn : ((i : Int) + 1).toNat = i + 1 := by omega
  have hb2 : ¬ (c = i + 1) := by omega
  have hb3 : (i : Int) ≤ (n : Int) + 1 := by omega
  have hb4 : ¬ (c = i) := by omega
  go_enter Try.func72, Try.ntmps72
  go_wp2_with (simp only [hov])
  go_region_law_o (refine step_copy_runI rfl _ _ 70 70 rfl _ _ (by simp [Act.eval, Act.put]) (by simp [Act.eval, Act.put]) (hcp1 _ _ _ _ _ (by omega) (by omega)) ?_)
  go_wp2_with (refine wpList_copy_runI _ rfl _ _ 70 70 rfl _ _ rfl rfl (hcp2 _ (fun _ => rfl) (fun _ => rfl) _ _ _ (by omega)) ?_)
  go_ret
  exact ⟨b, c, rfl, HF.out.1, HF.out.2.1, .inl rfl, HF.out.2.2⟩

set_option maxHeartbeats 4000000 in
theorem insk_grow {w : World} {N b n c i vb : Nat} {cs : List Value} {u : Value} (h : w.ownsRow N 25 1 (.slice (some ⟨b, 0, none⟩) n c) n cs) (hn : n ≤ 1000) (hNw : N ≤ w.heap.size) (hi : i < n) (hroom : c < n + 1) (hv : w.heap[vb]? = some (.cells #[u] 25 (0, 0))) (h1 : u.oneCell' = true) (h1c : ∀ v ∈ cs, v.oneCell' = true) :
    Calls Try.prog 72 #[.slice (some ⟨b, 0, none⟩) n c, .int .i64 i, .slice (some ⟨vb, 0, none⟩) 1 1] w (Insd w N b 25 (n + 1) (ins cs i u)) := by
  obtain ⟨i0, hi0, hz0, hz1, hz2⟩ := info_parts Try.infoKey
  have hnc := (own_caps h).1
  have hcl := h.1
  have hbl : b < w.heap.size := (h.lt b rfl).2
  have hvw : vb < w.heap.size := (Array.getElem?_eq_some_iff.1 hv).1
  have hsz : (Try.prog.info? 25).map (·.size) = some 1 := by rw [hi0]; simp [hz1]
  have hc0 : ∀ j v, cs[j]? = some v → w.cell? ⟨b, j, none⟩ = some v := fun j v hj => (h.cellAt j (by have := (List.getElem?_eq_some_iff.1 hj).1; omega)).trans hj
  have hv0 : w.cell? ⟨vb, 0, none⟩ = some u := by simp [World.cell?, hv]
  have hkk : (n : Int) + 1 - (i : Int) = ((n + 1 - i : Nat) : Int) := by omega
  have hik : i + (n + 1 - i) = n + 1 := by omega
  have hold : (Builtin.firstCells i0.size i (.slice (some ⟨b, 0, none⟩) i c)).run Try.prog w.drew = .ok (cs.take i).toArray w.drew := by
    rw [hz1]
    exact run_firstCells_some w.drew 1 i ⟨b, 0, none⟩ i c (cs.take i) (by rw [List.length_take]; omega) (fun j v hj => by
      rw [Addr.add_lit, Nat.zero_add]
      rw [List.getElem?_take] at hj
      split at hj
      · exact hc0 j v hj
      · cases hj)
  have hrz : ∀ ty, (Builtin.append_ #[70, 3] ty #[.slice (some ⟨b, 0, none⟩) i c, .int .i64 ((n : Int) + 1 - (i : Int))]).run Try.prog w =
      .ok (.slice (some ⟨w.heap.size, 0, none⟩) (n + 1) (grownCap w (n + 1) c 25)) (w.drew.alloc (.cells ((cs.take i).toArray ++ Builtin.zeroCells (Value.cells (.slice none 0 0)) (n + 1 - i) ++ Builtin.zeroCells (Value.cells (.slice none 0 0)) (grownCap w (n + 1) c 25 - (n + 1))) 25)) := fun ty => by
    have h := Lib.run_append_grow_zeros w 70 3 ty 25 i0 _ .i64 .i64 Try.underlying70 Try.underlying3 hi0 hz0 (some ⟨b, 0, none⟩) i c (cs.take i) hold (n + 1 - i) (by omega) (by omega) (by omega) (by omega) (by rw [hz2]; omega) (by rw [hz2, hik]; exact growslice_fits hroom (by omega))
    rw [hik] at h
    rw [hkk]
    exact h
  obtain ⟨G, hG⟩ : ∃ G, G = grownCap w (n + 1) c 25 := ⟨_, rfl⟩
  have hGn : n + 1 ≤ G := by rw [hG]; exact grownCap_ge w _ _ _
  have hGm : G ≤ maxLen := by
    have := grownCap_le_maxLen w (n + 1) c 25 (by unfold maxLen; omega)
    rwa [← hG] at this
  obtain ⟨ROW, hROW⟩ : ∃ ROW : Array Value, ROW = (cs.take i).toArray ++ Builtin.zeroCells (Value.cells (.slice none 0 0)) (n + 1 - i) ++ Builtin.zeroCells (Value.cells (.slice none 0 0)) (G - (n + 1)) := ⟨_, rfl⟩
  rw [← hG] at hrz
  rw [← hROW] at hrz
  have hRl : ROW.size = G := by
    rw [hROW]
    simp [Builtin.zeroCells, Value.cells]
    omega
  have hRi : ∀ j, j < i → ROW[j]? = cs[j]? := fun j hj => by
    rw [hROW, Array.append_assoc, Array.getElem?_append_left (by simp; omega)]
    simp [hj]
  obtain ⟨W1, hW1⟩ : ∃ W1, W1 = w.drew.alloc (.cells ROW 25) := ⟨_, rfl⟩
  rw [← hW1] at hrz
  have hN1 : ∀ j, j < n + 1 → (W1.cell? ⟨w.heap.size, j, none⟩).isSome = true := fun j hj => by
    rw [hW1, World.cell?_alloc_at (w := w.drew) ROW _ w.heap.size j rfl, Array.getElem?_eq_getElem (by omega)]; rfl
  have hNf : ∀ j, W1.frozen? ⟨w.heap.size, j, none⟩ = false := fun j => by rw [hW1]; exact World.frozen?_alloc_at (w := w.drew) ROW _ w.heap.size j rfl
  have hOb : ∀ j v, w.cell? ⟨b, j, none⟩ = some v → W1.cell? ⟨b, j, none⟩ = some v := fun j v h => by rw [hW1, World.cell?_alloc_past (w := w.drew) _ b j hbl]; exact h
  have hOv : W1.cell? ⟨vb, 0, none⟩ = some u := by rw [hW1, World.cell?_alloc_past (w := w.drew) _ vb 0 hvw]; exact hv0
  have hbN : b ≠ w.heap.size := by omega
  have hdl : (cs.drop i).length = n - i := by rw [List.length_drop]; omega
  have hcpA : ∀ (W : World), (∀ x, W.cell? x = W1.cell? x) → (∀ x, W.frozen? x = W1.frozen? x) → ∀ ty dl dc, 1 ≤ dl → (Builtin.copy_ #[70, 70] ty #[.slice (some ⟨w.heap.size, i, none⟩) dl dc, .slice (some ⟨vb, 0, none⟩) 1 1]).run Try.prog W = .ok (goInt [u].length) (W.setCells w.heap.size i [u]) := fun W hWc hWf ty dl dc e1 =>
    run_copy_cells W _ _ ty 25 w.heap.size i dl dc ⟨vb, 0, none⟩ 1 1 [u] Try.underlying70 hsz (by simp only [Nat.min_def, List.length_cons, List.length_nil]; split <;> omega)
      (fun j v hj => by
        have hj0 : j = 0 := by have := (List.getElem?_eq_some_iff.1 hj).1; simp at this; omega
        subst hj0
        simp at hj
        subst hj
        rw [add_lit, hWc]
        exact hOv)
      (fun j hj => by rw [hWc]; simp at hj; exact hN1 _ (by omega)) (fun j hj => by rw [hWf]; exact hNf _) (fun v hv => by simp at hv; rw [hv]; exact h1)
  have hcpB : ∀ (W : World), (∀ x, W.cell? x = (W1.setCells w.heap.size i [u]).cell? x) → (∀ x, W.frozen? x = (W1.setCells w.heap.size i [u]).frozen? x) → ∀ ty dl dc sl sc, dl = n - i → sl = n - i → (Builtin.copy_ #[70, 70] ty #[.slice (some ⟨w.heap.size, i + 1, none⟩) dl dc, .slice (some ⟨b, i, none⟩) sl sc]).run Try.prog W = .ok (goInt (cs.drop i).length) (W.setCells w.heap.size (i + 1) (cs.drop i)) := fun W hWc hWf ty dl dc sl sc e1 e2 =>
    run_copy_cells W _ _ ty 25 w.heap.size (i + 1) dl dc ⟨b, i, none⟩ sl sc (cs.drop i) Try.underlying70 hsz (by rw [hdl]; simp only [Nat.min_def]; split <;> omega)
      (fun j v hj => by
        rw [add_lit, hWc, World.cell?_setCells_out _ _ _ _ _ (fun h _ => absurd h hbN)]
        exact hOb _ v (hc0 (i + j) v (by rwa [List.getElem?_drop] at hj)))
      (fun j hj => by rw [hWc]; exact isSome_setCells _ [u] i W1 (fun t ht => hN1 _ (by simp at ht; omega)) _ (hN1 _ (by omega)))
      (fun j hj => by rw [hWf, World.frozen?_setCells]; exact hNf _) (fun v hv => h1c v (List.mem_of_mem_drop hv))
  have hWrow : W1.heap[w.heap.size]? = some (.cells ROW 25 (0, 0)) := by rw [hW1]; exact heap_alloc_new w.drew _
  have hW1s : W1.heap.size = w.heap.size + 1 := by rw [hW1]; simp
  have hW1b : ∀ k, k < w.heap.size → W1.heap[k]? = w.heap[k]? := fun k hk => by rw [hW1]; exact Below.heap_alloc w.drew _ _ hk
  have hW1o : W1.os = w.os ∧ W1.tape = w.tape ∧ W1.output = w.output := by rw [hW1]; exact ⟨rfl, rfl, rfl⟩
  have hrow : ∀ W : World, W.heap = ((W1.setCells w.heap.size i [u]).setCells w.heap.size (i + 1) (cs.drop i)).heap → W.ownsRow N 25 1 (.slice (some ⟨w.heap.size, 0, none⟩) (n + 1) G) (n + 1) (ins cs i u) := by
    intro W hW
    obtain ⟨cur1, q1, q2⟩ := obj_setCells [u] i W1 ROW hWrow
    obtain ⟨cur2, q3, q4⟩ := obj_setCells (cs.drop i) (i + 1) _ cur1 q1
    have hcell : ∀ x, W.cell? x = ((W1.setCells w.heap.size i [u]).setCells w.heap.size (i + 1) (cs.drop i)).cell? x := fun x => by unfold World.cell?; rw [hW]
    refine own_of_cells (by rw [hW]; exact q3) hNw hGn hGm (by omega) (by rw [ins_len _ _ (by omega)]; omega) fun j hj => ?_
    rw [ins_at _ _ (by omega), hcell]
    by_cases e1 : j < i
    · rw [if_pos e1, World.cell?_setCells_out _ _ _ _ _ (fun _ _ => .inl (by show j < i + 1; omega)), World.cell?_setCells_out _ _ _ _ _ (fun _ _ => .inl e1), ← hRi j e1]
      simp [World.cell?, hWrow]
    · rw [if_neg e1]
      by_cases e2 : j = i
      · subst e2
        rw [if_pos rfl, World.cell?_setCells_out _ _ _ _ _ (fun _ _ => .inl (by show j < j + 1; omega))]
        have := World.cell?_setCells_in w.heap.size [u] j W1 (fun t ht => by simp at ht; subst ht; exact hN1 _ (by omega)) 0 (by simp)
        simpa using this
      · rw [if_neg e2]
        obtain ⟨t, rfl⟩ : ∃ t, j = i + 1 + t := ⟨j - (i + 1), by omega⟩
        have := World.cell?_setCells_in w.heap.size (cs.drop i) (i + 1) (W1.setCells w.heap.size i [u]) (fun t ht => isSome_setCells _ [u] i W1 (fun t ht => hN1 _ (by simp at ht; omega)) _ (hN1 _ (by omega))) t (by omega)
        rw [this, show i + 1 + t - 1 = i + t by omega]
        simp
  have hgr : w.grownBy ((W1.setCells w.heap.size i [u]).setCells w.heap.size (i + 1) (cs.drop i)) (some b) :=
    grown_setCells_new (Nat.le_refl _) _ _ (grown_setCells_new (Nat.le_refl _) _ _ ⟨hW1o.1, hW1o.2.1, hW1o.2.2, by omega, fun k hk _ => hW1b k hk⟩)
  have HF := Lib.hid (And.intro hrow (And.intro hgr (show w.heap.size < ((W1.setCells w.heap.size i [u]).setCells w.heap.size (i + 1) (cs.drop i)).heap.size by rw [size_setCells', size_setCells']; omega)))
  have hHE := Lib.hid (show ∀ vs ws, ((((w.alloc (.cells ROW 25)).drew.setCells w.heap.size i vs).drew).setCells w.heap.size (i + 1) ws).heap = ((W1.setCells w.heap.size i vs).setCells w.heap.size (i + 1) ws).heap from fun vs ws => by
    rw [hW1]
    rw [show w.drew.alloc (.cells ROW 25) = (w.alloc (.cells ROW 25)).drew from rfl, ← drew_setCells]
    rfl)
  have hE1 : ∀ x, ((w.alloc (.cells ROW 25)).drew).cell? x = W1.cell? x := fun x => by rw [hW1]; rfl
  have hE2 : ∀ x, ((w.alloc (.cells ROW 25)).drew).frozen? x = W1.frozen? x := fun x => by rw [hW1]; rfl
  have hF1 : ∀ x, (((w.alloc (.cells ROW 25)).drew.setCells w.heap.size i [u]).drew).cell? x = (W1.setCells w.heap.size i [u]).cell? x := fun x => by rw [hW1]; rfl
  have hF2 : ∀ x, (((w.alloc (.cells ROW 25)).drew.setCells w.heap.size i [u]).drew).frozen? x = (W1.setCells w.heap.size i [u]).frozen? x := fun x => by rw [hW1]; rfl
  have hmixed : Try.prog.follows .mixedOrders = true := by kernel_rfl
  rw [hW1] at hrz
  have hz1' : ¬ ((i : Int) = (n : Int)) := by omega
  have hz3 : (c : Int) < (n : Int) + 1 := by omega
  unfold maxLen at hGm
  have hGi : ¬ (G = i) := by omega
  have hGim : ¬ (G = i + 1) := by omega
  have hci : ¬ (c = i) := by omega
  have hw1 : IntKind.i64.wrap ((i : Int) + 1) = (i : Int) + 1 := by rw [IntKind.wrap_i64]; omega
  have hb1 : (0 : Int) ≤ (i : Int) + 1 := by omega
  have hin : i ≤ n := by omega
  have htn : ((i : Int) + 1).toNat = i + 1 := by omega
  have hb3 : (i : Int) ≤ (n : Int) := by omega
  clear hkk hik hold hROW hG hRl hRi hW1 h hc0 hv0 hv hN1 hNf hOb hOv hWrow hW1s hW1b hW1o hrow hgr h1 h1c
  go_enter Try.func72, Try.ntmps72
  go_wp2_with (first
    | (at_builtin; refine Lib.wpList_append_run _ rfl _ _ _ _ rfl _ _ rfl rfl _ _ (hrz _) ?_)
    | (refine wpList_copy_runI _ rfl _ _ 70 70 rfl _ _ rfl rfl (hcpA _ hE1 hE2 _ _ _ (by omega)) ?_))
  go_region_law_o (refine step_copy_runI rfl _ _ 70 70 rfl _ _ (by simp [Act.eval, Act.put]) (by simp [Act.eval, Act.put]) (hcpB _ hF1 hF2 _ _ _ _ _ (by omega) (by omega)) ?_)
  go_wp2
  go_ret
  refine ⟨w.heap.size, G, rfl, HF.out.1 _ (hHE.out _ _), grown_setCells_new (Nat.le_refl _) _ _ (grown_drew (grown_setCells_new (Nat.le_refl _) _ _ (grown_drew ⟨rfl, rfl, rfl, by simp, fun k hk _ => Below.heap_alloc _ _ _ hk⟩))), .inr (Nat.le_refl _), ?_⟩
  rw [size_setCells']
  show w.heap.size < (World.setCells _ _ _ _).heap.size
  rw [size_setCells']
  show w.heap.size < (w.alloc _).heap.size
  simp

theorem insk_any {w : World} {N b n c i vb : Nat} {cs : List Value} {u : Value} (h : w.ownsRow N 25 1 (.slice (some ⟨b, 0, none⟩) n c) n cs) (hn : n ≤ 1000) (hNw : N ≤ w.heap.size) (hi : i ≤ n) (hv : w.heap[vb]? = some (.cells #[u] 25 (0, 0))) (hvb : vb ≠ b) (h1 : u.oneCell' = true) (h1c : ∀ v ∈ cs, v.oneCell' = true) :
    Calls Try.prog 72 #[.slice (some ⟨b, 0, none⟩) n c, .int .i64 i, .slice (some ⟨vb, 0, none⟩) 1 1] w (Insd w N b 25 (n + 1) (ins cs i u)) := by
  rcases Nat.lt_or_ge i n with hl | hl
  · rcases Nat.lt_or_ge c (n + 1) with hc | hc
    · exact insk_grow h hn hNw hl hc hv h1 h1c
    · exact insk_room h hn hl hc hv hvb h1 h1c
  · obtain rfl : i = n := by omega
    exact insk_end h hn hNw hv h1

set_option maxHeartbeats 4000000 in
theorem insi_end {w : World} {N b n c vb : Nat} {cs : List Value} {u : Value} (h : w.ownsRow N 3 1 (.slice (some ⟨b, 0, none⟩) n c) n cs) (hn : n ≤ 1000) (hNw : N ≤ w.heap.size) (hv : w.heap[vb]? = some (.cells #[u] 3 (0, 0))) (h1 : u.oneCell' = true) :
    Calls Try.prog 73 #[.slice (some ⟨b, 0, none⟩) n c, .int .i64 n, .slice (some ⟨vb, 0, none⟩) 1 1] w (Insd w N b 3 (n + 1) (ins cs n u)) := by
  obtain ⟨i0, hi, hz0, hz1, hz2⟩ := info_parts Try.infoInt
  have hnc := (own_caps h).1
  have hcm := (own_caps h).2.1
  unfold maxLen at hcm
  have hi' : ins cs n u = cs ++ [u] := by
    have hl := h.1
    unfold ins
    rw [List.take_of_length_le (by omega), List.drop_of_length_le (by omega)]
  rw [hi']
  have H := Lib.hid h
  have HNW := Lib.hid hNw
  have hcl : ∀ j x, [u][j]? = some x → w.cell? ((⟨vb, 0, none⟩ : Addr).add j) = some x := fun j x hj => by
    have hj0 : j = 0 := by have := (List.getElem?_eq_some_iff.1 hj).1; simp at this; omega
    subst hj0
    simp at hj
    subst hj
    rw [add_lit]
    simp [World.cell?, hv]
  have HC := Lib.hid hcl
  have H1 := Lib.hid (show ∀ x ∈ [u], x.oneCell' = true from fun x hx => by simp at hx; rw [hx]; exact h1)
  clear h hv hcl hNw h1
  go_enter Try.func73, Try.ntmps73
  go_wp2_with (at_builtin; refine wpList_append_lies _ rfl _ _ 62 rfl N 3 i0 (.int .i64 0) 1 8 Try.underlying62 hi hz0 hz1 hz2 rfl (by decide) _ n cs rfl H.out ⟨vb, 0, none⟩ 1 1 [u] rfl rfl HC.out H1.out (by decide) (by unfold maxLen; omega) (by omega) HNW.out _ rfl ?_)
  all_goals
    intro g cap w' hown hgrow hat hlt
    go_wp2
    go_ret
    exact ⟨g, cap, rfl, hown, hgrow, hat.imp (fun e => by injection e with e; exact e.symm) (fun e => by omega), hlt⟩

set_option maxHeartbeats 4000000 in
theorem insi_room {w : World} {N b n c i vb : Nat} {cs : List Value} {u : Value} (h : w.ownsRow N 3 1 (.slice (some ⟨b, 0, none⟩) n c) n cs) (hn : n ≤ 1000) (hi : i < n) (hroom : n + 1 ≤ c) (hv : w.heap[vb]? = some (.cells #[u] 3 (0, 0))) (hvb : vb ≠ b) (h1 : u.oneCell' = true) (h1c : ∀ v ∈ cs, v.oneCell' = true) :
    Calls Try.prog 73 #[.slice (some ⟨b, 0, none⟩) n c, .int .i64 i, .slice (some ⟨vb, 0, none⟩) 1 1] w (Insd w N b 3 (n + 1) (ins cs i u)) := by
  obtain ⟨i0, hi0, hz0, hz1, hz2⟩ := info_parts Try.infoInt
  have hcm := (own_caps h).2.1
  have hcl := h.1
  obtain ⟨cur, hcur, hcs⟩ : ∃ cur, w.heap[b]? = some (.cells cur 3 (0, 0)) ∧ cur.size = c := by
    rcases h.2 with ⟨e, _⟩ | ⟨g, cap, cur, e, _, hg, _, _, hs, _⟩
    · cases e
    · injection e with e1 e2 e3
      injection e1 with e1
      injection e1 with e1
      subst e1
      subst e3
      exact ⟨cur, hg, by omega⟩
  have hNb : N ≤ b := (h.lt b rfl).1
  have hbl : b < w.heap.size := (h.lt b rfl).2
  have hsz : (Try.prog.info? 3).map (·.size) = some 1 := by rw [hi0]; simp [hz1]
  have hc0 : ∀ j v, cs[j]? = some v → w.cell? ⟨b, j, none⟩ = some v := fun j v hj => (h.cellAt j (by have := (List.getElem?_eq_some_iff.1 hj).1; omega)).trans hj
  have hsp : ∀ j, j < n + 1 → (w.cell? ⟨b, j, none⟩).isSome = true := fun j hj => by
    simp [World.cell?, hcur]
    omega
  have hfz : ∀ j, w.frozen? ⟨b, j, none⟩ = false := fun j => h.frozenAt j
  have hv0 : w.cell? ⟨vb, 0, none⟩ = some u := by simp [World.cell?, hv]
  have hov : ∀ lb cb, (callFunc 82 #[.slice (some ⟨vb, 0, none⟩) 1 1, .slice (some ⟨b, i + 1, none⟩) lb cb]).run Try.prog w = .ok (.value (.bool false)) w := fun lb cb => by
    rw [run_callFunc_extern Try.func82 (by kernel_rfl) (by kernel_rfl) (by kernel_rfl) (e := Extern.SlicesOverlaps.overlaps #[62, 62] #[4]) (by kernel_rfl),
      Lib.run_overlaps_apart w 62 4 3 Try.underlying62 1 (fun w => by simp [sizeOf, typeInfo, hi0, hz1]) ⟨vb, 0, none⟩ ⟨b, i + 1, none⟩ 1 1 lb cb hvb 3 3 1 cur.size (by simp [World.shape?, hv]) (by simp [World.shape?, hcur]) (by omega) (by simp [World.frozen?, hv]) (by simp [World.frozen?, hv])]
    rfl
  have hdl : (cs.drop i).length = n - i := by rw [List.length_drop]; omega
  have hcp1 : ∀ ty dl dc sl sc, dl = n - i → sl = n + 1 - i → (Builtin.copy_ #[62, 62] ty #[.slice (some ⟨b, i + 1, none⟩) dl dc, .slice (some ⟨b, i, none⟩) sl sc]).run Try.prog w.drew = .ok (goInt (cs.drop i).length) (w.drew.setCells b (i + 1) (cs.drop i)) := fun ty dl dc sl sc e1 e2 =>
    run_copy_cells w.drew _ _ ty 3 b (i + 1) dl dc ⟨b, i, none⟩ sl sc (cs.drop i) Try.underlying62 hsz (by rw [hdl]; simp only [Nat.min_def]; split <;> omega)
      (fun j v hj => by rw [add_lit]; exact hc0 (i + j) v (by rwa [List.getElem?_drop] at hj))
      (fun j hj => hsp _ (by omega)) (fun j hj => hfz _) (fun v hv => h1c v (List.mem_of_mem_drop hv))
  obtain ⟨W1, hW1⟩ : ∃ W1, W1 = w.drew.setCells b (i + 1) (cs.drop i) := ⟨_, rfl⟩
  have hsp1 : ∀ k, k < n + 1 → (W1.cell? ⟨b, k, none⟩).isSome = true := fun k hk => by
    rw [hW1]
    exact isSome_setCells b (cs.drop i) (i + 1) w.drew (fun j hj => hsp _ (by omega)) k (hsp k hk)
  have hcp2 : ∀ (W : World), (∀ x, W.cell? x = W1.cell? x) → (∀ x, W.frozen? x = W1.frozen? x) → ∀ ty dl dc, 1 ≤ dl → (Builtin.copy_ #[62, 62] ty #[.slice (some ⟨b, i, none⟩) dl dc, .slice (some ⟨vb, 0, none⟩) 1 1]).run Try.prog W = .ok (goInt [u].length) (W.setCells b i [u]) := fun W hWc hWf ty dl dc e1 =>
    run_copy_cells W _ _ ty 3 b i dl dc ⟨vb, 0, none⟩ 1 1 [u] Try.underlying62 hsz (by simp only [Nat.min_def, List.length_cons, List.length_nil]; split <;> omega)
      (fun j v hj => by
        have hj0 : j = 0 := by have := (List.getElem?_eq_some_iff.1 hj).1; simp at this; omega
        subst hj0
        simp at hj
        subst hj
        rw [add_lit, hWc, hW1, World.cell?_setCells_out b _ _ _ _ (fun h _ => absurd h hvb)]
        exact hv0)
      (fun j hj => by rw [hWc]; simp at hj; exact hsp1 _ (by omega)) (fun j hj => by rw [hWf, hW1, World.frozen?_setCells]; exact hfz _) (fun v hv => by simp at hv; rw [hv]; exact h1)
  have hfin : (W1.setCells b i [u]).ownsRow N 3 1 (.slice (some ⟨b, 0, none⟩) (n + 1) c) (n + 1) (ins cs i u) := by
    obtain ⟨cur1, q1, q2⟩ := obj_setCells (cs.drop i) (i + 1) w.drew cur hcur
    obtain ⟨cur2, q3, q4⟩ := obj_setCells [u] i (w.drew.setCells b (i + 1) (cs.drop i)) cur1 q1
    rw [hW1]
    refine own_of_cells q3 hNb hroom hcm (by omega) (by rw [ins_len _ _ (by omega)]; omega) fun j hj => ?_
    rw [ins_at _ _ (by omega)]
    by_cases e1 : j < i
    · rw [if_pos e1, World.cell?_setCells_out b _ _ _ _ (fun _ _ => .inl e1), World.cell?_setCells_out b _ _ _ _ (fun _ _ => .inl (by show j < i + 1; omega))]
      exact h.cellAt j (by omega)
    · rw [if_neg e1]
      by_cases e2 : j = i
      · subst e2
        rw [if_pos rfl]
        have := World.cell?_setCells_in b [u] j (w.drew.setCells b (j + 1) (cs.drop j)) (fun t ht => by simp at ht; subst ht; rw [← hW1]; exact hsp1 _ (by omega)) 0 (by simp)
        simpa using this
      · rw [if_neg e2, World.cell?_setCells_out b _ _ _ _ (fun _ _ => .inr (by show i + [u].length ≤ j; simp; omega))]
        obtain ⟨t, rfl⟩ : ∃ t, j = i + 1 + t := ⟨j - (i + 1), by omega⟩
        have := World.cell?_setCells_in b (cs.drop i) (i + 1) w.drew (fun t ht => hsp _ (by omega)) t (by omega)
        rw [this, show i + 1 + t - 1 = i + t by omega]
        simp
  have hgr : w.grownBy (W1.setCells b i [u]) (some b) := by
    rw [hW1]
    exact grown_setCells [u] i (grown_setCells (cs.drop i) (i + 1) (w' := w.drew) ⟨rfl, rfl, rfl, Nat.le_refl _, fun _ _ _ => rfl⟩)
  have HF := Lib.hid (And.intro hfin (And.intro hgr (show b < (W1.setCells b i [u]).heap.size by rw [size_setCells', hW1, size_setCells']; exact hbl)))
  clear hfin hgr hc0 hsp hfz hsp1 hcur h h1c
  rw [← hW1] at hcp1
  clear hW1
  have hz1' : ¬ ((i : Int) = (n : Int)) := by omega
  have mixed : Try.prog.follows .mixedOrders = true := by kernel_rfl
  unfold maxLen at hcm
  have hw1 : IntKind.i64.wrap ((i : Int) + 1) = (i : Int) + 1 := by rw [IntKind.wrap_i64]; omega
  have hb1 : (0 : Int) ≤ (i : Int) + 1 := by omega
  have hin : i ≤ n := by omega
  have htn : ((i : Int) + 1).toNat = i + 1 := by omega
  have hb2 : ¬ (c = i + 1) := by omega
  have hb3 : (i : Int) ≤ (n : Int) + 1 := by omega
  have hb4 : ¬ (c = i) := by omega
  go_enter Try.func73, Try.ntmps73
  go_wp2_with (simp only [hov])
  go_region_law_o (refine step_copy_runI rfl _ _ 62 62 rfl _ _ (by simp [Act.eval, Act.put]) (by simp [Act.eval, Act.put]) (hcp1 _ _ _ _ _ (by omega) (by omega)) ?_)
  go_wp2_with (refine wpList_copy_runI _ rfl _ _ 62 62 rfl _ _ rfl rfl (hcp2 _ (fun _ => rfl) (fun _ => rfl) _ _ _ (by omega)) ?_)
  go_ret
  exact ⟨b, c, rfl, HF.out.1, HF.out.2.1, .inl rfl, HF.out.2.2⟩

set_option maxHeartbeats 4000000 in
theorem insi_grow {w : World} {N b n c i vb : Nat} {cs : List Value} {u : Value} (h : w.ownsRow N 3 1 (.slice (some ⟨b, 0, none⟩) n c) n cs) (hn : n ≤ 1000) (hNw : N ≤ w.heap.size) (hi : i < n) (hroom : c < n + 1) (hv : w.heap[vb]? = some (.cells #[u] 3 (0, 0))) (h1 : u.oneCell' = true) (h1c : ∀ v ∈ cs, v.oneCell' = true) :
    Calls Try.prog 73 #[.slice (some ⟨b, 0, none⟩) n c, .int .i64 i, .slice (some ⟨vb, 0, none⟩) 1 1] w (Insd w N b 3 (n + 1) (ins cs i u)) := by
  obtain ⟨i0, hi0, hz0, hz1, hz2⟩ := info_parts Try.infoInt
  have hnc := (own_caps h).1
  have hcl := h.1
  have hbl : b < w.heap.size := (h.lt b rfl).2
  have hvw : vb < w.heap.size := (Array.getElem?_eq_some_iff.1 hv).1
  have hsz : (Try.prog.info? 3).map (·.size) = some 1 := by rw [hi0]; simp [hz1]
  have hc0 : ∀ j v, cs[j]? = some v → w.cell? ⟨b, j, none⟩ = some v := fun j v hj => (h.cellAt j (by have := (List.getElem?_eq_some_iff.1 hj).1; omega)).trans hj
  have hv0 : w.cell? ⟨vb, 0, none⟩ = some u := by simp [World.cell?, hv]
  have hkk : (n : Int) + 1 - (i : Int) = ((n + 1 - i : Nat) : Int) := by omega
  have hik : i + (n + 1 - i) = n + 1 := by omega
  have hold : (Builtin.firstCells i0.size i (.slice (some ⟨b, 0, none⟩) i c)).run Try.prog w.drew = .ok (cs.take i).toArray w.drew := by
    rw [hz1]
    exact run_firstCells_some w.drew 1 i ⟨b, 0, none⟩ i c (cs.take i) (by rw [List.length_take]; omega) (fun j v hj => by
      rw [Addr.add_lit, Nat.zero_add]
      rw [List.getElem?_take] at hj
      split at hj
      · exact hc0 j v hj
      · cases hj)
  have hrz : ∀ ty, (Builtin.append_ #[62, 3] ty #[.slice (some ⟨b, 0, none⟩) i c, .int .i64 ((n : Int) + 1 - (i : Int))]).run Try.prog w =
      .ok (.slice (some ⟨w.heap.size, 0, none⟩) (n + 1) (grownCap w (n + 1) c 3)) (w.drew.alloc (.cells ((cs.take i).toArray ++ Builtin.zeroCells (Value.cells (.int .i64 0)) (n + 1 - i) ++ Builtin.zeroCells (Value.cells (.int .i64 0)) (grownCap w (n + 1) c 3 - (n + 1))) 3)) := fun ty => by
    have h := Lib.run_append_grow_zeros w 62 3 ty 3 i0 _ .i64 .i64 Try.underlying62 Try.underlying3 hi0 hz0 (some ⟨b, 0, none⟩) i c (cs.take i) hold (n + 1 - i) (by omega) (by omega) (by omega) (by omega) (by rw [hz2]; omega) (by rw [hz2, hik]; exact growslice_fits hroom (by omega))
    rw [hik] at h
    rw [hkk]
    exact h
  obtain ⟨G, hG⟩ : ∃ G, G = grownCap w (n + 1) c 3 := ⟨_, rfl⟩
  have hGn : n + 1 ≤ G := by rw [hG]; exact grownCap_ge w _ _ _
  have hGm : G ≤ maxLen := by
    have := grownCap_le_maxLen w (n + 1) c 3 (by unfold maxLen; omega)
    rwa [← hG] at this
  obtain ⟨ROW, hROW⟩ : ∃ ROW : Array Value, ROW = (cs.take i).toArray ++ Builtin.zeroCells (Value.cells (.int .i64 0)) (n + 1 - i) ++ Builtin.zeroCells (Value.cells (.int .i64 0)) (G - (n + 1)) := ⟨_, rfl⟩
  rw [← hG] at hrz
  rw [← hROW] at hrz
  have hRl : ROW.size = G := by
    rw [hROW]
    simp [Builtin.zeroCells, Value.cells]
    omega
  have hRi : ∀ j, j < i → ROW[j]? = cs[j]? := fun j hj => by
    rw [hROW, Array.append_assoc, Array.getElem?_append_left (by simp; omega)]
    simp [hj]
  obtain ⟨W1, hW1⟩ : ∃ W1, W1 = w.drew.alloc (.cells ROW 3) := ⟨_, rfl⟩
  rw [← hW1] at hrz
  have hN1 : ∀ j, j < n + 1 → (W1.cell? ⟨w.heap.size, j, none⟩).isSome = true := fun j hj => by
    rw [hW1, World.cell?_alloc_at (w := w.drew) ROW _ w.heap.size j rfl, Array.getElem?_eq_getElem (by omega)]; rfl
  have hNf : ∀ j, W1.frozen? ⟨w.heap.size, j, none⟩ = false := fun j => by rw [hW1]; exact World.frozen?_alloc_at (w := w.drew) ROW _ w.heap.size j rfl
  have hOb : ∀ j v, w.cell? ⟨b, j, none⟩ = some v → W1.cell? ⟨b, j, none⟩ = some v := fun j v h => by rw [hW1, World.cell?_alloc_past (w := w.drew) _ b j hbl]; exact h
  have hOv : W1.cell? ⟨vb, 0, none⟩ = some u := by rw [hW1, World.cell?_alloc_past (w := w.drew) _ vb 0 hvw]; exact hv0
  have hbN : b ≠ w.heap.size := by omega
  have hdl : (cs.drop i).length = n - i := by rw [List.length_drop]; omega
  have hcpA : ∀ (W : World), (∀ x, W.cell? x = W1.cell? x) → (∀ x, W.frozen? x = W1.frozen? x) → ∀ ty dl dc, 1 ≤ dl → (Builtin.copy_ #[62, 62] ty #[.slice (some ⟨w.heap.size, i, none⟩) dl dc, .slice (some ⟨vb, 0, none⟩) 1 1]).run Try.prog W = .ok (goInt [u].length) (W.setCells w.heap.size i [u]) := fun W hWc hWf ty dl dc e1 =>
    run_copy_cells W _ _ ty 3 w.heap.size i dl dc ⟨vb, 0, none⟩ 1 1 [u] Try.underlying62 hsz (by simp only [Nat.min_def, List.length_cons, List.length_nil]; split <;> omega)
      (fun j v hj => by
        have hj0 : j = 0 := by have := (List.getElem?_eq_some_iff.1 hj).1; simp at this; omega
        subst hj0
        simp at hj
        subst hj
        rw [add_lit, hWc]
        exact hOv)
      (fun j hj => by rw [hWc]; simp at hj; exact hN1 _ (by omega)) (fun j hj => by rw [hWf]; exact hNf _) (fun v hv => by simp at hv; rw [hv]; exact h1)
  have hcpB : ∀ (W : World), (∀ x, W.cell? x = (W1.setCells w.heap.size i [u]).cell? x) → (∀ x, W.frozen? x = (W1.setCells w.heap.size i [u]).frozen? x) → ∀ ty dl dc sl sc, dl = n - i → sl = n - i → (Builtin.copy_ #[62, 62] ty #[.slice (some ⟨w.heap.size, i + 1, none⟩) dl dc, .slice (some ⟨b, i, none⟩) sl sc]).run Try.prog W = .ok (goInt (cs.drop i).length) (W.setCells w.heap.size (i + 1) (cs.drop i)) := fun W hWc hWf ty dl dc sl sc e1 e2 =>
    run_copy_cells W _ _ ty 3 w.heap.size (i + 1) dl dc ⟨b, i, none⟩ sl sc (cs.drop i) Try.underlying62 hsz (by rw [hdl]; simp only [Nat.min_def]; split <;> omega)
      (fun j v hj => by
        rw [add_lit, hWc, World.cell?_setCells_out _ _ _ _ _ (fun h _ => absurd h hbN)]
        exact hOb _ v (hc0 (i + j) v (by rwa [List.getElem?_drop] at hj)))
      (fun j hj => by rw [hWc]; exact isSome_setCells _ [u] i W1 (fun t ht => hN1 _ (by simp at ht; omega)) _ (hN1 _ (by omega)))
      (fun j hj => by rw [hWf, World.frozen?_setCells]; exact hNf _) (fun v hv => h1c v (List.mem_of_mem_drop hv))
  have hWrow : W1.heap[w.heap.size]? = some (.cells ROW 3 (0, 0)) := by rw [hW1]; exact heap_alloc_new w.drew _
  have hW1s : W1.heap.size = w.heap.size + 1 := by rw [hW1]; simp
  have hW1b : ∀ k, k < w.heap.size → W1.heap[k]? = w.heap[k]? := fun k hk => by rw [hW1]; exact Below.heap_alloc w.drew _ _ hk
  have hW1o : W1.os = w.os ∧ W1.tape = w.tape ∧ W1.output = w.output := by rw [hW1]; exact ⟨rfl, rfl, rfl⟩
  have hrow : ∀ W : World, W.heap = ((W1.setCells w.heap.size i [u]).setCells w.heap.size (i + 1) (cs.drop i)).heap → W.ownsRow N 3 1 (.slice (some ⟨w.heap.size, 0, none⟩) (n + 1) G) (n + 1) (ins cs i u) := by
    intro W hW
    obtain ⟨cur1, q1, q2⟩ := obj_setCells [u] i W1 ROW hWrow
    obtain ⟨cur2, q3, q4⟩ := obj_setCells (cs.drop i) (i + 1) _ cur1 q1
    have hcell : ∀ x, W.cell? x = ((W1.setCells w.heap.size i [u]).setCells w.heap.size (i + 1) (cs.drop i)).cell? x := fun x => by unfold World.cell?; rw [hW]
    refine own_of_cells (by rw [hW]; exact q3) hNw hGn hGm (by omega) (by rw [ins_len _ _ (by omega)]; omega) fun j hj => ?_
    rw [ins_at _ _ (by omega), hcell]
    by_cases e1 : j < i
    · rw [if_pos e1, World.cell?_setCells_out _ _ _ _ _ (fun _ _ => .inl (by show j < i + 1; omega)), World.cell?_setCells_out _ _ _ _ _ (fun _ _ => .inl e1), ← hRi j e1]
      simp [World.cell?, hWrow]
    · rw [if_neg e1]
      by_cases e2 : j = i
      · subst e2
        rw [if_pos rfl, World.cell?_setCells_out _ _ _ _ _ (fun _ _ => .inl (by show j < j + 1; omega))]
        have := World.cell?_setCells_in w.heap.size [u] j W1 (fun t ht => by simp at ht; subst ht; exact hN1 _ (by omega)) 0 (by simp)
        simpa using this
      · rw [if_neg e2]
        obtain ⟨t, rfl⟩ : ∃ t, j = i + 1 + t := ⟨j - (i + 1), by omega⟩
        have := World.cell?_setCells_in w.heap.size (cs.drop i) (i + 1) (W1.setCells w.heap.size i [u]) (fun t ht => isSome_setCells _ [u] i W1 (fun t ht => hN1 _ (by simp at ht; omega)) _ (hN1 _ (by omega))) t (by omega)
        rw [this, show i + 1 + t - 1 = i + t by omega]
        simp
  have hgr : w.grownBy ((W1.setCells w.heap.size i [u]).setCells w.heap.size (i + 1) (cs.drop i)) (some b) :=
    grown_setCells_new (Nat.le_refl _) _ _ (grown_setCells_new (Nat.le_refl _) _ _ ⟨hW1o.1, hW1o.2.1, hW1o.2.2, by omega, fun k hk _ => hW1b k hk⟩)
  have HF := Lib.hid (And.intro hrow (And.intro hgr (show w.heap.size < ((W1.setCells w.heap.size i [u]).setCells w.heap.size (i + 1) (cs.drop i)).heap.size by rw [size_setCells', size_setCells']; omega)))
  have hHE := Lib.hid (show ∀ vs ws, ((((w.alloc (.cells ROW 3)).drew.setCells w.heap.size i vs).drew).setCells w.heap.size (i + 1) ws).heap = ((W1.setCells w.heap.size i vs).setCells w.heap.size (i + 1) ws).heap from fun vs ws => by
    rw [hW1]
    rw [show w.drew.alloc (.cells ROW 3) = (w.alloc (.cells ROW 3)).drew from rfl, ← drew_setCells]
    rfl)
  have hE1 : ∀ x, ((w.alloc (.cells ROW 3)).drew).cell? x = W1.cell? x := fun x => by rw [hW1]; rfl
  have hE2 : ∀ x, ((w.alloc (.cells ROW 3)).drew).frozen? x = W1.frozen? x := fun x => by rw [hW1]; rfl
  have hF1 : ∀ x, (((w.alloc (.cells ROW 3)).drew.setCells w.heap.size i [u]).drew).cell? x = (W1.setCells w.heap.size i [u]).cell? x := fun x => by rw [hW1]; rfl
  have hF2 : ∀ x, (((w.alloc (.cells ROW 3)).drew.setCells w.heap.size i [u]).drew).frozen? x = (W1.setCells w.heap.size i [u]).frozen? x := fun x => by rw [hW1]; rfl
  have hmixed : Try.prog.follows .mixedOrders = true := by kernel_rfl
  rw [hW1] at hrz
  have hz1' : ¬ ((i : Int) = (n : Int)) := by omega
  have hz3 : (c : Int) < (n : Int) + 1 := by omega
  unfold maxLen at hGm
  have hGi : ¬ (G = i) := by omega
  have hGim : ¬ (G = i + 1) := by omega
  have hci : ¬ (c = i) := by omega
  have hw1 : IntKind.i64.wrap ((i : Int) + 1) = (i : Int) + 1 := by rw [IntKind.wrap_i64]; omega
  have hb1 : (0 : Int) ≤ (i : Int) + 1 := by omega
  have hin : i ≤ n := by omega
  have htn : ((i : Int) + 1).toNat = i + 1 := by omega
  have hb3 : (i : Int) ≤ (n : Int) := by omega
  clear hkk hik hold hROW hG hRl hRi hW1 h hc0 hv0 hv hN1 hNf hOb hOv hWrow hW1s hW1b hW1o hrow hgr h1 h1c
  go_enter Try.func73, Try.ntmps73
  go_wp2_with (first
    | (at_builtin; refine Lib.wpList_append_run _ rfl _ _ _ _ rfl _ _ rfl rfl _ _ (hrz _) ?_)
    | (refine wpList_copy_runI _ rfl _ _ 62 62 rfl _ _ rfl rfl (hcpA _ hE1 hE2 _ _ _ (by omega)) ?_))
  go_region_law_o (refine step_copy_runI rfl _ _ 62 62 rfl _ _ (by simp [Act.eval, Act.put]) (by simp [Act.eval, Act.put]) (hcpB _ hF1 hF2 _ _ _ _ _ (by omega) (by omega)) ?_)
  go_wp2
  go_ret
  refine ⟨w.heap.size, G, rfl, HF.out.1 _ (hHE.out _ _), grown_setCells_new (Nat.le_refl _) _ _ (grown_drew (grown_setCells_new (Nat.le_refl _) _ _ (grown_drew ⟨rfl, rfl, rfl, by simp, fun k hk _ => Below.heap_alloc _ _ _ hk⟩))), .inr (Nat.le_refl _), ?_⟩
  rw [size_setCells']
  show w.heap.size < (World.setCells _ _ _ _).heap.size
  rw [size_setCells']
  show w.heap.size < (w.alloc _).heap.size
  simp

theorem insi_any {w : World} {N b n c i vb : Nat} {cs : List Value} {u : Value} (h : w.ownsRow N 3 1 (.slice (some ⟨b, 0, none⟩) n c) n cs) (hn : n ≤ 1000) (hNw : N ≤ w.heap.size) (hi : i ≤ n) (hv : w.heap[vb]? = some (.cells #[u] 3 (0, 0))) (hvb : vb ≠ b) (h1 : u.oneCell' = true) (h1c : ∀ v ∈ cs, v.oneCell' = true) :
    Calls Try.prog 73 #[.slice (some ⟨b, 0, none⟩) n c, .int .i64 i, .slice (some ⟨vb, 0, none⟩) 1 1] w (Insd w N b 3 (n + 1) (ins cs i u)) := by
  rcases Nat.lt_or_ge i n with hl | hl
  · rcases Nat.lt_or_ge c (n + 1) with hc | hc
    · exact insi_grow h hn hNw hl hc hv h1 h1c
    · exact insi_room h hn hl hc hv hvb h1 h1c
  · obtain rfl : i = n := by omega
    exact insi_end h hn hNw hv h1
end Go.Proofs.Ytdkppgmhhijkgaa
