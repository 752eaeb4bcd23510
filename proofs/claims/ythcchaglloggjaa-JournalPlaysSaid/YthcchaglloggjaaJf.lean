/- Contracts of slices.Delete of the first group, of the first answer: in place; of package journal's Answered. Condition: at most 1000 elements. -/
import Derived.Test.YthcchaglloggjaaJe
import Derived.Lib.SliceRun
import Derived.Deep.RegionHeld3
namespace Go.Proofs.Ythcchaglloggjaa
open Go.RowKit
set_option linter.unusedVariables false
set_option maxRecDepth 100000

theorem clear_one {P : Program} (w : World) (t e ty : TypeId) (z : Value) (us : List Value) (ht : P.underlying t = some (.slice e)) (hv : ∀ w, (zeroValue e).run P w = .ok z w) (hz : z.cells = us.toArray) (h1 : ∀ u ∈ us, u.oneCell' = true) (b o c : Nat)
    (hc : ∀ j, j < us.length → (w.cell? ⟨b, o + j, none⟩).isSome = true) (hf : ∀ j, j < us.length → w.frozen? ⟨b, o + j, none⟩ = false) :
    (Builtin.clear_ #[t] ty #[.slice (some ⟨b, o, none⟩) 1 c]).run P w = .ok (.tuple #[]) (w.setCells b o us) := by
  have hzc : (Builtin.zeroCells z.cells 1).toList = us := by
    rw [hz]
    apply List.ext_getElem
    · simp [Builtin.zeroCells]
    · intro i h1 h2
      simp [Builtin.zeroCells, Nat.mod_eq_of_lt h2, List.getElem?_eq_getElem h2]
  have hst := run_storeCells_cells (P := P) b o us 0 w (by simpa using hc) (by simpa using hf) h1
  simp only [Nat.add_zero] at hst
  simp [Builtin.clear_, run_underlying ht, hv, hzc, hst]
theorem obj_setCells {b : Nat} {e : TypeId} {fz : Nat × Nat} : ∀ (vs : List Value) (o : Nat) (w : World) (cur : Array Value), w.heap[b]? = some (.cells cur e fz) → ∃ cur', (w.setCells b o vs).heap[b]? = some (.cells cur' e fz) ∧ cur'.size = cur.size
  | [], o, w, cur, h => ⟨cur, h, rfl⟩
  | v :: vs, o, w, cur, h => by
    have h1 : (w.setCell ⟨b, o, none⟩ v).heap[b]? = some (.cells (cur.setIfInBounds o v) e fz) := by
      simp [World.setCell, Array.getElem?_modify, h]
    obtain ⟨cur', h2, h3⟩ := obj_setCells vs (o + 1) _ _ h1
    exact ⟨cur', h2, by rw [h3]; simp⟩
theorem own_cells {w : World} {N g n cap s : Nat} {e : TypeId} {cur : Array Value} {xs : List Value} (h : w.heap[g]? = some (.cells cur e (0, 0))) (hN : N ≤ g) (hn : n ≤ cap) (hc : cap ≤ maxLen) (hs : cur.size = cap * s) (hl : xs.length = n * s) (hx : ∀ j, j < n * s → w.cell? ⟨g, j, none⟩ = xs[j]?) :
    w.ownsRow N e s (.slice (some ⟨g, 0, none⟩) n cap) n xs := by
  refine ⟨hl, .inr ⟨g, cap, cur, rfl, hN, h, hn, hc, hs, ?_⟩⟩
  refine List.ext_getElem? fun j => ?_
  by_cases hj : j < n * s
  · rw [← hx j hj]
    simp [World.cell?, h, hj]
  · rw [List.getElem?_eq_none (by simp; omega), List.getElem?_eq_none (by omega)]
theorem grown_setCells {w : World} {b : Nat} : ∀ (vs : List Value) (o : Nat) {w' : World}, w.grownBy w' (some b) → w.grownBy (w'.setCells b o vs) (some b)
  | [], o, w', h => h
  | v :: vs, o, w', h => grown_setCells vs (o + 1) (w' := w'.setCell ⟨b, o, none⟩ v) ⟨h.os, h.tape, h.output, by simpa [World.setCell] using h.size, fun k hk hne => by
      rw [Below.heap_setCell _ _ _ _ (fun e => hne (by rw [e]))]
      exact h.block k hk hne⟩
theorem some_setCells (b : Nat) : ∀ (vs : List Value) (o : Nat) (w : World) (k : Nat), (w.cell? ⟨b, k, none⟩).isSome = true → ((w.setCells b o vs).cell? ⟨b, k, none⟩).isSome = true
  | [], o, w, k, h => h
  | v :: vs, o, w, k, h => some_setCells b vs (o + 1) (w.setCell ⟨b, o, none⟩ v) k (by
      obtain ⟨u, hu⟩ := Option.isSome_iff_exists.1 h
      by_cases e : (⟨b, o, none⟩ : Addr) = ⟨b, k, none⟩
      · rw [← e, World.cell?_setCell_same w ⟨b, o, none⟩ v (by rw [e]; exact hu)]; rfl
      · rw [World.cell?_setCell_other w _ _ _ e]; exact h)

theorem zeroGr (w : World) : (zeroValue 72).run Try.prog w = .ok (.agg #[.slice none 0 0, .slice none 0 0]) w := by kernel_rfl
theorem Try.infoGr : (Try.prog.info? 72).map (fun i => (i.zero, i.size, i.bytes)) = some (some (.agg #[.slice none 0 0, .slice none 0 0]), 2, 48) := by kernel_rfl
set_option maxHeartbeats 4000000 in
theorem delGr {w : World} {N b n c : Nat} {cs : List Value} (h : w.ownsRow N 72 2 (.slice (some ⟨b, 0, none⟩) (n + 1) c) (n + 1) cs) (hn : n ≤ 1000) (h1c : ∀ v ∈ cs, v.oneCell' = true) :
    Calls Try.prog 31 #[.slice (some ⟨b, 0, none⟩) (n + 1) c, .int .i64 0, .int .i64 1] w fun e w' => e = .returned (.slice (some ⟨b, 0, none⟩) n c) ∧ w'.ownsRow N 72 2 (.slice (some ⟨b, 0, none⟩) n c) n (cs.drop 2) ∧ w.grownBy w' (some b) := by
  obtain ⟨i0, hi0, hz0, hz1, hz2⟩ := info_parts Try.infoGr
  have hnc := (own_caps h).1
  have hcm := (own_caps h).2.1
  have hcl := h.1
  obtain ⟨cur, hcur, hcs⟩ : ∃ cur, w.heap[b]? = some (.cells cur 72 (0, 0)) ∧ cur.size = c * 2 := by
    rcases h.2 with ⟨e, _⟩ | ⟨g, cap, cur, e, _, hg, _, _, hs, _⟩
    · cases e
    · injection e with e1 e2 e3
      injection e1 with e1
      injection e1 with e1
      subst e1
      subst e3
      exact ⟨cur, hg, hs⟩
  have hNb : N ≤ b := (h.lt b rfl).1
  have hfz : ∀ j, w.frozen? ⟨b, j, none⟩ = false := fun j => h.frozenAt j
  have hsp : ∀ j, j < c * 2 → (w.cell? ⟨b, j, none⟩).isSome = true := fun j hj => by
    simp [World.cell?, hcur]
    omega
  have hlen : (cs.drop 2).length = n * 2 := by rw [List.length_drop]; omega
  obtain ⟨A, hA, hsrc⟩ : ∃ A : Addr, (if c = 1 then some (⟨b, 0, none⟩ : Addr) else some ⟨b, 2, none⟩) = some A ∧ Hid (∀ t u, (cs.drop 2)[t]? = some u → w.drew.cell? (A.add t) = some u) := by
    by_cases h' : c = 1
    · refine ⟨⟨b, 0, none⟩, by simp [h'], fun t u hu => ?_⟩
      have h0 : (cs.drop 2).length = 0 := by rw [hlen]; omega
      rw [List.length_eq_zero_iff.1 h0] at hu
      simp at hu
    · refine ⟨⟨b, 2, none⟩, by simp [h'], fun t u hu => ?_⟩
      rw [List.getElem?_drop] at hu
      rw [Addr.add_lit]
      exact (h.cellAt (2 + t) (by have := (List.getElem?_eq_some_iff.1 hu).1; omega)).trans hu
  obtain ⟨news, hnews⟩ : ∃ news, news = cs.drop 2 := ⟨_, rfl⟩
  rw [← hnews] at hlen hsrc ⊢
  have s1 : Hid (news.length = n * 2) := Lib.hid hlen
  have s2 : Hid (∀ u ∈ news, u.oneCell' = true) := Lib.hid fun u hu => h1c u (by rw [hnews] at hu; exact List.mem_of_mem_drop hu)
  have s3 : Hid (∀ t, t < news.length → (w.drew.cell? ⟨b, 0 + 0 * 2 + t, none⟩).isSome = true ∧ w.drew.frozen? ⟨b, 0 + 0 * 2 + t, none⟩ = false) := Lib.hid fun t ht => by
    rw [hlen] at ht
    exact ⟨hsp _ (by omega), hfz _⟩
  obtain ⟨W1, hW1⟩ : ∃ W1, W1 = w.drew.setCells b (0 + 0 * 2) news := ⟨_, rfl⟩
  have hsp1 : ∀ k, k < c * 2 → (W1.cell? ⟨b, k, none⟩).isSome = true := fun k hk => by
    rw [hW1]
    exact some_setCells b news (0 + 0 * 2) w.drew k (hsp k hk)
  have hfz1 : ∀ k, W1.frozen? ⟨b, k, none⟩ = false := fun k => by rw [hW1, World.frozen?_setCells]; exact hfz _
  have hcl2 : ∀ ty, (Builtin.clear_ #[63] ty #[.slice (some ⟨b, n * 2, none⟩) 1 (c - n)]).run Try.prog W1 = .ok (.tuple #[]) (W1.setCells b (n * 2) [.slice none 0 0, .slice none 0 0]) :=
    fun ty => clear_one W1 _ _ ty (.agg #[.slice none 0 0, .slice none 0 0]) [.slice none 0 0, .slice none 0 0] Try.underlying63 zeroGr rfl (by intro u hu; simp at hu; first | (subst hu; rfl) | (rcases hu with rfl | rfl | rfl | rfl <;> rfl)) b (n * 2) _ (fun t ht => hsp1 _ (by simp at ht; omega)) (fun t ht => hfz1 _)
  have hfin : (W1.setCells b (n * 2) [.slice none 0 0, .slice none 0 0]).ownsRow N 72 2 (.slice (some ⟨b, 0, none⟩) n c) n news := by
    obtain ⟨cur1, q1, q2⟩ := obj_setCells news (0 + 0 * 2) w.drew cur hcur
    rw [← hW1] at q1
    obtain ⟨cur2, q3, q4⟩ := obj_setCells [.slice none 0 0, .slice none 0 0] (n * 2) W1 cur1 q1
    refine own_cells q3 hNb (by omega) hcm (by omega) hlen fun j hj => ?_
    rw [World.cell?_setCells_out b _ _ _ _ (fun _ _ => .inl (by show j < n * 2; omega)), hW1]
    have := World.cell?_setCells_in b news (0 + 0 * 2) w.drew (fun t ht => hsp _ (by omega)) j (by omega)
    rw [show 0 + 0 * 2 + j = j by omega] at this
    rw [this, List.getElem?_eq_getElem]
  have hgr : w.grownBy (W1.setCells b (n * 2) [.slice none 0 0, .slice none 0 0]) (some b) := by
    rw [hW1]
    exact grown_setCells _ _ (grown_setCells _ _ (w' := w.drew) ⟨rfl, rfl, rfl, Nat.le_refl _, fun _ _ _ => rfl⟩)
  have HF := Lib.hid (And.intro hfin hgr)
  have HW := Lib.hid hW1
  have HA := Lib.hid hA
  have mixed : Try.prog.follows .mixedOrders = true := by kernel_rfl
  unfold maxLen at hcm
  have h1c' : 1 ≤ c := by omega
  have hcn : ¬ (c = n) := by omega
  have hnc1 : n ≤ c := by omega
  have hn1 : n ≤ n + 1 := by omega
  have hsub : n + 1 - n = 1 := by omega
  have hle1 : (1 : Int) ≤ (n : Int) + 1 := by omega
  clear hfin hgr hW1 hsp hfz hsp1 hfz1 hcur h h1c hlen hnews hcl hA
  go_enter Try.func31, Try.ntmps31
  go_wp2_with fail
  have hAs : (if c = 1 then some (⟨b, 0, none⟩ : Addr) else some ⟨b, 2, none⟩) = some A := HA.out
  go_region_law_o (refine step_append_room rfl (.tmp 22) (.tmp 25) 63 rfl 72 i0 2 Try.underlying63 hi0 hz1 b 0 0 c (by simp [Act.eval, Act.put]) A n (c - 1) news (by simp [Act.eval, Act.put]) s1.out hsrc.out s2.out (by omega) s3.out ?_; rw [← HW.out])
  go_wp2
  go_ret
  exact ⟨by simp, HF.out.1, HF.out.2⟩

theorem zeroRy (w : World) : (zeroValue 78).run Try.prog w = .ok (.agg #[.int .i64 0, .int .i64 0, .bool false, .slice none 0 0, .slice none 0 0, .int .u64 0]) w := by kernel_rfl
theorem Try.infoRy : (Try.prog.info? 78).map (fun i => (i.zero, i.size, i.bytes)) = some (some (.agg #[.int .i64 0, .int .i64 0, .bool false, .slice none 0 0, .slice none 0 0, .int .u64 0]), 6, 80) := by kernel_rfl
set_option maxHeartbeats 4000000 in
theorem delRy {w : World} {N b n c : Nat} {cs : List Value} (h : w.ownsRow N 78 6 (.slice (some ⟨b, 0, none⟩) (n + 1) c) (n + 1) cs) (hn : n ≤ 1000) (h1c : ∀ v ∈ cs, v.oneCell' = true) :
    Calls Try.prog 32 #[.slice (some ⟨b, 0, none⟩) (n + 1) c, .int .i64 0, .int .i64 1] w fun e w' => e = .returned (.slice (some ⟨b, 0, none⟩) n c) ∧ w'.ownsRow N 78 6 (.slice (some ⟨b, 0, none⟩) n c) n (cs.drop 6) ∧ w.grownBy w' (some b) := by
  obtain ⟨i0, hi0, hz0, hz1, hz2⟩ := info_parts Try.infoRy
  have hnc := (own_caps h).1
  have hcm := (own_caps h).2.1
  have hcl := h.1
  obtain ⟨cur, hcur, hcs⟩ : ∃ cur, w.heap[b]? = some (.cells cur 78 (0, 0)) ∧ cur.size = c * 6 := by
    rcases h.2 with ⟨e, _⟩ | ⟨g, cap, cur, e, _, hg, _, _, hs, _⟩
    · cases e
    · injection e with e1 e2 e3
      injection e1 with e1
      injection e1 with e1
      subst e1
      subst e3
      exact ⟨cur, hg, hs⟩
  have hNb : N ≤ b := (h.lt b rfl).1
  have hfz : ∀ j, w.frozen? ⟨b, j, none⟩ = false := fun j => h.frozenAt j
  have hsp : ∀ j, j < c * 6 → (w.cell? ⟨b, j, none⟩).isSome = true := fun j hj => by
    simp [World.cell?, hcur]
    omega
  have hlen : (cs.drop 6).length = n * 6 := by rw [List.length_drop]; omega
  obtain ⟨A, hA, hsrc⟩ : ∃ A : Addr, (if c = 1 then some (⟨b, 0, none⟩ : Addr) else some ⟨b, 6, none⟩) = some A ∧ Hid (∀ t u, (cs.drop 6)[t]? = some u → w.drew.cell? (A.add t) = some u) := by
    by_cases h' : c = 1
    · refine ⟨⟨b, 0, none⟩, by simp [h'], fun t u hu => ?_⟩
      have h0 : (cs.drop 6).length = 0 := by rw [hlen]; omega
      rw [List.length_eq_zero_iff.1 h0] at hu
      simp at hu
    · refine ⟨⟨b, 6, none⟩, by simp [h'], fun t u hu => ?_⟩
      rw [List.getElem?_drop] at hu
      rw [Addr.add_lit]
      exact (h.cellAt (6 + t) (by have := (List.getElem?_eq_some_iff.1 hu).1; omega)).trans hu
  obtain ⟨news, hnews⟩ : ∃ news, news = cs.drop 6 := ⟨_, rfl⟩
  rw [← hnews] at hlen hsrc ⊢
  have s1 : Hid (news.length = n * 6) := Lib.hid hlen
  have s2 : Hid (∀ u ∈ news, u.oneCell' = true) := Lib.hid fun u hu => h1c u (by rw [hnews] at hu; exact List.mem_of_mem_drop hu)
  have s3 : Hid (∀ t, t < news.length → (w.drew.cell? ⟨b, 0 + 0 * 6 + t, none⟩).isSome = true ∧ w.drew.frozen? ⟨b, 0 + 0 * 6 + t, none⟩ = false) := Lib.hid fun t ht => by
    rw [hlen] at ht
    exact ⟨hsp _ (by omega), hfz _⟩
  obtain ⟨W1, hW1⟩ : ∃ W1, W1 = w.drew.setCells b (0 + 0 * 6) news := ⟨_, rfl⟩
  have hsp1 : ∀ k, k < c * 6 → (W1.cell? ⟨b, k, none⟩).isSome = true := fun k hk => by
    rw [hW1]
    exact some_setCells b news (0 + 0 * 6) w.drew k (hsp k hk)
  have hfz1 : ∀ k, W1.frozen? ⟨b, k, none⟩ = false := fun k => by rw [hW1, World.frozen?_setCells]; exact hfz _
  have hcl2 : ∀ ty, (Builtin.clear_ #[64] ty #[.slice (some ⟨b, n * 6, none⟩) 1 (c - n)]).run Try.prog W1 = .ok (.tuple #[]) (W1.setCells b (n * 6) [.int .i64 0, .int .i64 0, .bool false, .slice none 0 0, .slice none 0 0, .int .u64 0]) :=
    fun ty => clear_one W1 _ _ ty (.agg #[.int .i64 0, .int .i64 0, .bool false, .slice none 0 0, .slice none 0 0, .int .u64 0]) [.int .i64 0, .int .i64 0, .bool false, .slice none 0 0, .slice none 0 0, .int .u64 0] Try.underlying64 zeroRy rfl (by intro u hu; simp at hu; first | (subst hu; rfl) | (rcases hu with rfl | rfl | rfl | rfl <;> rfl)) b (n * 6) _ (fun t ht => hsp1 _ (by simp at ht; omega)) (fun t ht => hfz1 _)
  have hfin : (W1.setCells b (n * 6) [.int .i64 0, .int .i64 0, .bool false, .slice none 0 0, .slice none 0 0, .int .u64 0]).ownsRow N 78 6 (.slice (some ⟨b, 0, none⟩) n c) n news := by
    obtain ⟨cur1, q1, q2⟩ := obj_setCells news (0 + 0 * 6) w.drew cur hcur
    rw [← hW1] at q1
    obtain ⟨cur2, q3, q4⟩ := obj_setCells [.int .i64 0, .int .i64 0, .bool false, .slice none 0 0, .slice none 0 0, .int .u64 0] (n * 6) W1 cur1 q1
    refine own_cells q3 hNb (by omega) hcm (by omega) hlen fun j hj => ?_
    rw [World.cell?_setCells_out b _ _ _ _ (fun _ _ => .inl (by show j < n * 6; omega)), hW1]
    have := World.cell?_setCells_in b news (0 + 0 * 6) w.drew (fun t ht => hsp _ (by omega)) j (by omega)
    rw [show 0 + 0 * 6 + j = j by omega] at this
    rw [this, List.getElem?_eq_getElem]
  have hgr : w.grownBy (W1.setCells b (n * 6) [.int .i64 0, .int .i64 0, .bool false, .slice none 0 0, .slice none 0 0, .int .u64 0]) (some b) := by
    rw [hW1]
    exact grown_setCells _ _ (grown_setCells _ _ (w' := w.drew) ⟨rfl, rfl, rfl, Nat.le_refl _, fun _ _ _ => rfl⟩)
  have HF := Lib.hid (And.intro hfin hgr)
  have HW := Lib.hid hW1
  have HA := Lib.hid hA
  have mixed : Try.prog.follows .mixedOrders = true := by kernel_rfl
  unfold maxLen at hcm
  have h1c' : 1 ≤ c := by omega
  have hcn : ¬ (c = n) := by omega
  have hnc1 : n ≤ c := by omega
  have hn1 : n ≤ n + 1 := by omega
  have hsub : n + 1 - n = 1 := by omega
  have hle1 : (1 : Int) ≤ (n : Int) + 1 := by omega
  clear hfin hgr hW1 hsp hfz hsp1 hfz1 hcur h h1c hlen hnews hcl hA
  go_enter Try.func32, Try.ntmps32
  go_wp2_with fail
  have hAs : (if c = 1 then some (⟨b, 0, none⟩ : Addr) else some ⟨b, 6, none⟩) = some A := HA.out
  go_region_law_o (refine step_append_room rfl (.tmp 22) (.tmp 25) 64 rfl 78 i0 6 Try.underlying64 hi0 hz1 b 0 0 c (by simp [Act.eval, Act.put]) A n (c - 1) news (by simp [Act.eval, Act.put]) s1.out hsrc.out s2.out (by omega) s3.out ?_; rw [← HW.out])
  go_wp2
  go_ret
  exact ⟨by simp, HF.out.1, HF.out.2⟩

theorem readsY_one {D : Nat → Prop} {w : World} {ys : List Value} {R : List Ry} (h : ReadsY D w ys R) : ∀ u ∈ ys, u.oneCell' = true := fun u hu => by
  obtain ⟨i, hi, rfl⟩ := List.mem_iff_getElem.1 hu
  have hl := h.1
  obtain ⟨k, e, -⟩ := h.2 (i / 6) (by omega)
  have h1 := e (i % 6) (by omega)
  rw [show i / 6 * 6 + i % 6 = i by omega, List.getElem?_eq_getElem hi] at h1
  have h2 : ys[i] ∈ ryC k (ry R (i / 6)) := List.mem_of_getElem? h1.symm
  generalize ys[i] = u at h2
  simp [ryC] at h2
  rcases h2 with rfl | rfl | rfl | rfl | rfl | rfl <;> rfl
theorem readsG_one {D : Nat → Prop} {w : World} {xs : List Value} {T : List Gr} (h : ReadsG D w xs T) : ∀ u ∈ xs, u.oneCell' = true := fun u hu => by
  obtain ⟨i, hi, rfl⟩ := List.mem_iff_getElem.1 hu
  have hl := h.1
  obtain ⟨A, n, c, B, m, d, e1, e2, -⟩ := h.2 (i / 2) (by omega)
  by_cases hp : i % 2 = 0
  · rw [show i / 2 * 2 = i by omega, List.getElem?_eq_getElem hi] at e1
    rw [Option.some.inj e1]
    rfl
  · rw [show i / 2 * 2 + 1 = i by omega, List.getElem?_eq_getElem hi] at e2
    rw [Option.some.inj e2]
    rfl

def doneK (R : List Ry) : Int := match R with | [] => 10 | _ :: _ => 0
/-- The first answer is told. -/
theorem JM.told {C : Nat → Prop} {w w2 : World} {N p t cap : Nat} {vt : Value} {T : List Gr} {x : Ry} {R : List Ry} {ys : List Value} (h : JM C w N p vt (.slice (some ⟨t, 0, none⟩) (R.length + 1) cap) T (x :: R))
    (hr : ReadsY (fun b => C b ∧ Jo p vt (.slice (some ⟨t, 0, none⟩) (R.length + 1) cap) b) w ys (x :: R)) (hown : w2.ownsRow N 78 6 (.slice (some ⟨t, 0, none⟩) R.length cap) R.length (ys.drop 6)) (hg : w.grownBy w2 (some t)) :
    JM C (w2.setCell ⟨p, 1, none⟩ (.slice (some ⟨t, 0, none⟩) R.length cap)) N p vt (.slice (some ⟨t, 0, none⟩) R.length cap) T R ∧
      Kp (Jo p vt (.slice (some ⟨t, 0, none⟩) (R.length + 1) cap)) (Jo p vt (.slice (some ⟨t, 0, none⟩) R.length cap)) w (w2.setCell ⟨p, 1, none⟩ (.slice (some ⟨t, 0, none⟩) R.length cap)) := by
  have hpl := h.lt
  have htp : t ≠ p := fun e => h.pr t rfl e.symm
  have hk : Kp (Jo p vt (.slice (some ⟨t, 0, none⟩) (R.length + 1) cap)) (Jo p vt (.slice (some ⟨t, 0, none⟩) R.length cap)) w (w2.setCell ⟨p, 1, none⟩ (.slice (some ⟨t, 0, none⟩) R.length cap)) := by
    refine ⟨hg.os, hg.tape, hg.output, by simpa [World.setCell] using hg.size, fun k hk hj => ?_, fun k _ hj => hj⟩
    rw [Below.heap_setCell _ _ _ _ hj.1]
    exact hg.block k hk (fun e => hj.2.2 t rfl (Option.some.inj e))
  have hag : Agree (fun b => b ≠ p ∧ b ≠ t) w (w2.setCell ⟨p, 1, none⟩ (.slice (some ⟨t, 0, none⟩) R.length cap)) :=
    ((agree_grown (C := fun b => b ≠ t) hg fun k hk hc => hc (Option.some.inj hk).symm).mono fun b hb => hb.2).trans (agree_set _ _ _ (fun hc => hc.1 rfl))
  obtain ⟨xs, h1, h2⟩ := h.todo
  refine ⟨⟨?_, h.np, ⟨xs, own_agree h1 hag (fun k hk' => ⟨fun e => h.pt k hk' e.symm, fun e => h.tr k hk' t rfl e⟩), h2.imp fun Q ho => hk.on ho (fun b hb => hb.2) fun b hb _ hn => ⟨hb.1, hn⟩⟩,
    ⟨ys.drop 6, own_agree (C := fun b => b ≠ p) hown (agree_set w2 ⟨p, 1, none⟩ _ (by simp)) (fun k hk' => by have e : t = k := Option.some.inj hk'; omega), hr.tail.imp fun Q ho => hk.on ho (fun b hb => hb.2) fun b hb _ hn => ⟨hb.1, hn⟩⟩, h.pt, h.pr, h.tr⟩, hk⟩
  have e1 : w2.heap[p]? = some (.cells [vt, .slice (some ⟨t, 0, none⟩) (R.length + 1) cap].toArray 66 (0, 0)) := (hg.block p hpl (fun e => htp (Option.some.inj e).symm)).trans h.obj
  exact set_obj _ e1

def JdO (C : Nat → Prop) (w : World) (N p : Nat) (vt vr : Value) (k : Int) (T : List Gr) (R : List Ry) (e : Ending) (w' : World) : Prop :=
  ∃ vt' vr', e = .returned (errV k) ∧ JM C w' N p vt' vr' T R ∧ Kp (Jo p vt vr) (Jo p vt' vr') w w'

set_option maxHeartbeats 2000000 in
theorem answered_any {C : Nat → Prop} {w : World} {N p : Nat} {vt vr : Value} {T : List Gr} {R : List Ry} (h : JM C w N p vt vr T R) (hn : R.length ≤ 1000) :
    Calls Try.prog 14 #[.pointer (some ⟨p, 0, none⟩)] w (JdO C w N p vt vr (doneK R) T R.tail) := by
  have H := Lib.hid h
  obtain ⟨-, c1, -, f1⟩ := h.cells
  cases R with
  | nil =>
    obtain ⟨A, c, B, d, -, rfl⟩ := h.shape
    dsimp only [List.length_nil] at c1
    clear h hn
    go_enter Try.func14, Try.ntmps14
    go_wp2
    go_ret
    exact ⟨_, _, rfl, H.out, Kp.refl _ _⟩
  | cons x R =>
    obtain ⟨ys, h1, h2⟩ := h.ready
    have hx := Lib.hid (readsY_one h2)
    have hsh := own_new h1
    obtain ⟨B, d, rfl, -⟩ := hsh
    obtain ⟨t, rfl, -, -⟩ := own_at h1 (by simp)
    have HO := Lib.hid h1
    have HR := Lib.hid h2
    have htp : t ≠ p := fun e => h.pr t rfl e.symm
    have hpl := h.lt
    rw [show (x :: R).length = R.length + 1 from rfl] at *
    have hne : ¬ (R.length + 1 = 0) := by omega
    have hz : (((R.length : Int) + 1) == 0) = false := by simp; omega
    have D := Lib.hid (delRy HO.out (by simp at hn; omega) hx.out)
    have hn2 : R.length ≤ 1000 := by omega
    have HF := Lib.hid (And.intro c1 f1)
    clear h h1 h2 hx hn
    obtain ⟨rl, hrl⟩ : ∃ rl, rl = R.length := ⟨_, rfl⟩
    go_enter Try.func14, Try.ntmps14
    go_wp2_with fail
    refine D.out.mono ?_
    rintro e w2 ⟨rfl, hown, hg⟩
    have HT := Lib.hid (H.out.told HR.out hown hg)
    have c1 := (hg.cell_far ⟨p, 1, none⟩ hpl (fun e => htp (Option.some.inj e).symm)).trans HF.out.1
    have f1 := (hg.frozen_far ⟨p, 1, none⟩ hpl (fun e => htp (Option.some.inj e).symm)).trans HF.out.2
    clear hown hg D
    go_wp2
    go_ret
    exact ⟨_, _, rfl, HT.out.1, HT.out.2⟩
end Go.Proofs.Ythcchaglloggjaa
