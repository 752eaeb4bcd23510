/- Contracts of a ring's calls (elements: int). Conditions: room for 1 to 64; no more than 1000 were ever put. -/
import Derived.Test.YtnghhcjfalgkdaaRb
namespace Go.Proofs.Ytnghhcjfalgkdaa
open Go.RowKit
set_option linter.unusedVariables false
set_option maxRecDepth 100000

/-- A ring in memory: four blocks from N on; t were taken, and L is in it. -/
structure Rvi (w : World) (N n t : Nat) (L : List Int) (V S : Nat → Int) (P : Nat → Int) : Prop where
  obj : w.heap[N + 3]? = some (.cells #[.pointer (some ⟨N + 1, 0, none⟩), .slice (some ⟨N + 2, 0, none⟩) n n] 63 (0, 0))
  cl : Cl w (N + 1) N 2 V S
  v0 : V 0 = (t : Int)
  v1 : V 1 = (t : Int) + (L.length : Int)
  s0 : S 0 = (t : Int)
  s1 : S 1 = (t : Int) + (L.length : Int)
  row : w.rowIs (N + 2) 3 n (fun j => (.int .i64 (P j)))
  is : ∀ i, i < L.length → P ((t + i) % n) = L.getD i 0
  len : L.length ≤ n
  n1 : 1 ≤ n
  n64 : n ≤ 64
  few : t + L.length ≤ 1000
def Rgi (w : World) (N n t : Nat) (L : List Int) : Prop := ∃ V S P, Rvi w N n t L V S P
theorem Rvi.lt {w : World} {N n t : Nat} {L : List Int} {V S : Nat → Int} {P : Nat → Int} (h : Rvi w N n t L V S P) : N + 3 < w.heap.size := (Array.getElem?_eq_some_iff.1 h.obj).1
theorem Rgi.lt {w : World} {N n t : Nat} {L : List Int} (h : Rgi w N n t L) : N + 3 < w.heap.size := by
  obtain ⟨V, S, P, h⟩ := h
  exact h.lt
theorem Rgi.facts {w : World} {N n t : Nat} {L : List Int} (h : Rgi w N n t L) : L.length ≤ n ∧ 1 ≤ n ∧ n ≤ 64 ∧ t + L.length ≤ 1000 := by
  obtain ⟨V, S, P, h⟩ := h
  exact ⟨h.len, h.n1, h.n64, h.few⟩
theorem Rgi.keep {w w' : World} {N n t : Nat} {L : List Int} (h : Rgi w N n t L) (e : ∀ k, k < N + 4 → w'.heap[k]? = w.heap[k]?) : Rgi w' N n t L := by
  obtain ⟨V, S, P, h⟩ := h
  exact ⟨V, S, P, (e _ (by omega)).trans h.obj, ⟨(e _ (by omega)).trans h.cl.1, h.cl.2.of_block (e _ (by omega))⟩, h.v0, h.v1, h.s0, h.s1, h.row.of_block (e _ (by omega)), h.is, h.len, h.n1, h.n64, h.few⟩
theorem Rgi.below {w w' : World} {N n t : Nat} {L : List Int} (h : Rgi w N n t L) (hb : Below w.heap.size w w') : Rgi w' N n t L := h.keep fun k hk => hb.block k (by have := h.lt; omega)
theorem Rvi.c0 {w : World} {N n t : Nat} {L : List Int} {V S : Nat → Int} {P : Nat → Int} (h : Rvi w N n t L V S P) : w.cell? ⟨N + 3, 0, none⟩ = some (.pointer (some ⟨N + 1, 0, none⟩)) ∧ w.cell? ⟨N + 3, 1, none⟩ = some (.slice (some ⟨N + 2, 0, none⟩) n n) := by
  simp [World.cell?, h.obj]

set_option maxHeartbeats 1000000 in
theorem stampsi {w : World} {N n t : Nat} {L : List Int} (h : Rgi w N n t L) :
    Calls Try.prog 22 #[.pointer (some ⟨N + 3, 0, none⟩)] w fun e w' => e = .returned (.tuple #[.int .u64 (t : Int), .int .u64 ((t : Int) + (L.length : Int))]) ∧ w = w' := by
  obtain ⟨V, S, P, h⟩ := h
  obtain ⟨c0, c1⟩ := h.c0
  have H0 := Lib.hid (load_at (N + 1) N 0 V S w h.cl (by omega) _ h.v0)
  have H1 := Lib.hid (load_at (N + 1) N 1 V S w h.cl (by omega) _ h.v1)
  clear h
  go_enter Try.func22, Try.ntmps22
  go_wp2_with fail
  refine H0.out.mono ?_
  rintro e w1 ⟨rfl, rfl⟩
  go_wp2_with fail
  refine H1.out.mono ?_
  rintro e w1 ⟨rfl, rfl⟩
  go_wp2
  go_ret2
  exact ⟨rfl, rfl⟩

set_option maxHeartbeats 1000000 in
theorem leni {w : World} {N n t : Nat} {L : List Int} (h : Rgi w N n t L) :
    Calls Try.prog 17 #[.pointer (some ⟨N + 3, 0, none⟩)] w fun e w' => e = .returned (.int .i64 (L.length : Int)) ∧ w = w' := by
  obtain ⟨f1, f2, f3, f4⟩ := h.facts
  have H0 := Lib.hid (stampsi h)
  clear h
  have e1 : IntKind.u64.wrap ((t : Int) + (L.length : Int) - (t : Int)) = (L.length : Int) := by rw [IntWalk.u64_in _ (by omega)]; omega
  have e2 : IntKind.i64.wrap ((L.length : Int)) = (L.length : Int) := IntWalk.i64_in _ (by omega)
  generalize L.length = m at *
  go_enter Try.func17, Try.ntmps17
  go_wp2_with fail
  refine H0.out.mono ?_
  rintro e w1 ⟨rfl, rfl⟩
  go_wp2
  go_ret
  exact ⟨ret_int (by omega), rfl⟩

set_option maxHeartbeats 1000000 in
theorem placei {w : World} {N n t : Nat} {L : List Int} (h : Rgi w N n t L) (k : Nat) (hk : k ≤ 1000) (v : Int) (hv : v = (k : Int)) :
    Calls Try.prog 23 #[.pointer (some ⟨N + 3, 0, none⟩), .int .u64 v] w fun e w' => e = .returned (.int .i64 ((k % n : Nat) : Int)) ∧ w = w' := by
  subst hv
  obtain ⟨f1, f2, f3, f4⟩ := h.facts
  obtain ⟨V, S, P, h⟩ := h
  obtain ⟨c0, c1⟩ := h.c0
  clear h
  have hm : k % n < n := Nat.mod_lt _ (by omega)
  have e1 : IntKind.u64.wrap (n : Int) = (n : Int) := IntWalk.u64_in _ (by omega)
  have e2 : IntKind.u64.wrap ((k : Int).tmod (n : Int)) = ((k % n : Nat) : Int) := by
    rw [Int.tmod_eq_emod_of_nonneg (by omega), ← Int.natCast_emod, IntWalk.u64_in _ (by omega)]
  have e3 : IntKind.i64.wrap ((k % n : Nat) : Int) = ((k % n : Nat) : Int) := IntWalk.i64_in _ (by omega)
  have e4 : (k : Int) % (n : Int) = ((k % n : Nat) : Int) := (Int.natCast_emod _ _).symm
  have HE := Lib.hid e4
  clear e4
  go_enter Try.func23, Try.ntmps23
  go_wp2
  go_ret
  exact ⟨ret_int (by first | rfl | exact HE.out), rfl⟩
theorem Rgi.drewN {w : World} {N n t : Nat} {L : List Int} (h : Rgi w N n t L) (k : Nat) : Rgi (w.drewN k) N n t L := h.keep fun _ _ => rfl

set_option maxHeartbeats 1000000 in
theorem put_fulli {w : World} {N n t : Nat} {L : List Int} (h : Rgi w N n t L) (x : Int) (hf : L.length = n) :
    Calls Try.prog 14 #[.pointer (some ⟨N + 3, 0, none⟩), (.int .i64 x)] w fun e w' => e = .returned (.iface 29 (.int .i64 5)) ∧ ∃ m, w' = w.drewN m := by
  have HL := Lib.hid (fun m => quiet_left (leni (h.drewN m)))
  obtain ⟨f1, f2, f3, f4⟩ := h.facts
  obtain ⟨V, S, P, h⟩ := h
  obtain ⟨c0, c1⟩ := h.c0
  clear h
  generalize L.length = m at *
  subst hf
  go_enter Try.func14, Try.ntmps14
  go_wp2
  go_quiet ((go_at_call 17; exact HL.out _))
  go_wp2
  go_ret
  exact ⟨rfl, _, rfl⟩

/-- What stands in the places where one is put. -/
theorem row_puti {n t : Nat} {L : List Int} {P : Nat → Int} (x : Int) (hl : L.length < n) (is : ∀ i, i < L.length → P ((t + i) % n) = L.getD i 0) :
    ∀ i, i < (L ++ [x]).length → (fun j => if j = (t + L.length) % n then x else P j) ((t + i) % n) = (L ++ [x]).getD i 0 := fun i hi => by
  rw [List.length_append] at hi
  simp only [List.length_cons, List.length_nil] at hi
  show (if (t + i) % n = (t + L.length) % n then x else P ((t + i) % n)) = _
  rw [List.getD_eq_getElem?_getD]
  by_cases e : i = L.length
  · subst e
    rw [if_pos rfl, List.getElem?_append_right (Nat.le_refl _), Nat.sub_self]
    rfl
  · rw [if_neg (mod_ne (by omega) hl e), is i (by omega), List.getD_eq_getElem?_getD, List.getElem?_append_left (by omega)]

theorem Rvi.put {w w1 w2 : World} {N n t : Nat} {L : List Int} {V S : Nat → Int} {P : Nat → Int} (h : Rvi w N n t L V S P) (x : Int) (hl : L.length < n) (hk : t + L.length < 1000)
    (e : w1.heap = (w.setCell ⟨N + 2, (t + L.length) % n, none⟩ (.int .i64 x)).heap) (h2 : Wrote w1 w2 (N + 1) N 2 V S 1 ((t : Int) + (L.length : Int) + 1)) : Rgi w2 N n t (L ++ [x]) := by
  obtain ⟨hc, hg, hs⟩ := h2
  have hN := h.lt
  have hb : ∀ k, k ≠ N → k ≠ N + 2 → k < w.heap.size → w2.heap[k]? = w.heap[k]? := fun k h1 h2 h3 => by
    rw [hg.block k (by rw [e]; simpa [World.setCell] using h3) (by intro e; exact h1 (Option.some.inj e)), e, Below.heap_setCell _ _ _ _ (by simpa using h2)]
  have hq : w2.heap[N + 2]? = (w.setCell ⟨N + 2, (t + L.length) % n, none⟩ (.int .i64 x)).heap[N + 2]? := by
    rw [hg.block (N + 2) (by rw [e]; simp [World.setCell]; omega) (by intro e; have := Option.some.inj e; omega), e]
  refine ⟨_, _, (fun j => if j = (t + L.length) % n then x else P j), (hb _ (by omega) (by omega) hN).trans h.obj, hc, ?_, ?_, ?_, ?_, ?_, row_puti x hl h.is, ?_, h.n1, h.n64, ?_⟩
  · rw [upd_other _ _ _ _ (by decide)]; exact h.v0
  · rw [upd_same, List.length_append]; simp; omega
  · rw [upd_other _ _ _ _ (by decide)]; exact h.s0
  · rw [upd_same, h.s1, List.length_append]; simp; omega
  · refine ((h.row.set ((t + L.length) % n) (.int .i64 x)).of_block hq).congr fun i _ => ?_
    by_cases e : i = (t + L.length) % n
    · simp [e]
    · simp [e]
  · rw [List.length_append]; simp; omega
  · rw [List.length_append]; simp; omega

theorem wrote_chgi {w w1 w2 : World} {N i o : Nat} {u : Value} {v : Int} {V S : Nat → Int} (e : w1.heap = (w.setCell ⟨N + 2, o, none⟩ u).heap) (e1 : w1.os = w.os) (e2 : w1.tape = w.tape) (e3 : w1.output = w.output) (h2 : Wrote w1 w2 (N + 1) N 2 V S i v) : ChgN N w w2 := by
  obtain ⟨hc, hg, hs⟩ := h2
  have hz : w1.heap.size = w.heap.size := by rw [e]; simp [World.setCell]
  refine ⟨hg.os.trans e1, hg.tape.trans e2, hg.output.trans e3, by omega, fun k hk h => ?_⟩
  rw [hg.block k (by omega) (by intro e; have := Option.some.inj e; omega), e, Below.heap_setCell _ _ _ _ (by simp; omega)]

set_option maxHeartbeats 2000000 in
theorem put_roomi {w : World} {N n t : Nat} {L : List Int} (h : Rgi w N n t L) (x : Int) (hf : L.length < n) (hk : t + L.length < 1000) :
    Calls Try.prog 14 #[.pointer (some ⟨N + 3, 0, none⟩), (.int .i64 x)] w fun e w' => e = .returned .nilIface ∧ Rgi w' N n t (L ++ [x]) ∧ ChgN N w w' := by
  have HL := Lib.hid (fun m => quiet_left (leni (h.drewN m)))
  have HST := Lib.hid (fun m => stampsi (h.drewN m))
  have HPL := Lib.hid (fun m => placei (h.drewN m) (t + L.length) (by omega) ((t : Int) + (L.length : Int)) (by omega))
  obtain ⟨f1, f2, f3, f4⟩ := h.facts
  obtain ⟨V, S, P, h⟩ := h
  have hm : (t + L.length) % n < n := Nat.mod_lt _ (by omega)
  have HPUT := Lib.hid (fun (w1 w2 : World) e h2 => h.put (w1 := w1) (w2 := w2) x hf hk e h2)
  have HADD := Lib.hid (fun (w1 : World) (hc : Cl w1 (N + 1) N 2 V S) => add_at (N + 1) N 1 V S w1 hc (by omega) ((t : Int) + (L.length : Int)) h.v1 (by rw [h.s1]; omega) (by rw [h.s1]; omega) (by omega) (by omega))
  have hcl : Cl (w.setCell ⟨N + 2, (t + L.length) % n, none⟩ (.int .i64 x)) (N + 1) N 2 V S :=
    ⟨by rw [Below.heap_setCell _ _ _ _ (by simp)]; exact h.cl.1, h.cl.2.setOther (a := ⟨N + 2, (t + L.length) % n, none⟩) (by simp) _⟩
  have HCL := Lib.hid (fun (w1 : World) (e : w1.heap = _) => hcl.heap (w1 := w1) e)
  obtain ⟨c0, c1⟩ := h.c0
  obtain hc2 := h.row.cell hm
  have hfz := h.row.frozen ((t + L.length) % n)
  generalize hP : P ((t + L.length) % n) = y at hc2
  clear h hcl hP
  generalize hj : (t + L.length) % n = j at *
  have hne : ((L.length : Int) == (n : Int)) = false := by simp; omega
  have hj0 : (j : Int) < (n : Int) := by omega
  have hj1 : (0 : Int) ≤ (j : Int) := by omega
  clear hj
  go_enter Try.func14, Try.ntmps14
  go_wp2
  go_quiet ((go_at_call 17; exact HL.out _))
  go_wp2_with fail
  refine (HST.out _).mono ?_
  rintro e w1 ⟨rfl, rfl⟩
  go_upto_region 4 with fail
  go_region_held3 (fun w' => w'.cell? ⟨N + 3, 1, none⟩ = some (.slice (some ⟨N + 2, 0, none⟩) n n)) (go_keep)
    ((go_at_call 23
      (with_reducible refine (HPL.out _).mono ?_)
      rintro e w1 ⟨rfl, rfl⟩))
  go_wp2_with fail
  refine (HADD.out _ (HCL.out _ (by rfl))).mono ?_
  rintro e w2 ⟨rfl, h2⟩
  have HR := Lib.hid (HPUT.out _ _ (by rfl) h2)
  have HC := Lib.hid (wrote_chgi (w := w) (o := j) (u := (.int .i64 x)) (by rfl) (by rfl) (by rfl) (by rfl) h2)
  clear h2
  go_wp2
  go_ret
  exact ⟨rfl, HR.out, HC.out⟩

/-- What stands in the places where one is taken. -/
theorem row_takei {n t : Nat} {x : Int} {M : List Int} {P : Nat → Int} (z : Int) (hl : M.length < n) (is : ∀ i, i < (x :: M).length → P ((t + i) % n) = (x :: M).getD i 0) :
    ∀ i, i < M.length → (fun j => if j = t % n then z else P j) ((t + 1 + i) % n) = M.getD i 0 := fun i hi => by
  have e := is (i + 1) (by simp; omega)
  show (if (t + 1 + i) % n = t % n then z else P ((t + 1 + i) % n)) = _
  have hne : (t + (i + 1)) % n ≠ t % n := mod_ne (t := t) (n := n) (i := i + 1) (j := 0) (by omega) (by omega) (by omega)
  rw [show t + 1 + i = t + (i + 1) by omega, if_neg hne, e]
  rfl

theorem Rvi.take {w w1 w2 : World} {N n t : Nat} {x : Int} {M : List Int} {V S : Nat → Int} {P : Nat → Int} (h : Rvi w N n t (x :: M) V S P)
    (e : w1.heap = (w.setCell ⟨N + 2, t % n, none⟩ (.int .i64 0)).heap) (h2 : Wrote w1 w2 (N + 1) N 2 V S 0 ((t : Int) + 1)) : Rgi w2 N n (t + 1) M := by
  obtain ⟨hc, hg, hs⟩ := h2
  have hN := h.lt
  have hlen := h.len
  have hfew := h.few
  rw [List.length_cons] at hlen hfew
  have hb : ∀ k, k ≠ N → k ≠ N + 2 → k < w.heap.size → w2.heap[k]? = w.heap[k]? := fun k h1 h2 h3 => by
    rw [hg.block k (by rw [e]; simpa [World.setCell] using h3) (by intro e; exact h1 (Option.some.inj e)), e, Below.heap_setCell _ _ _ _ (by simpa using h2)]
  have hq : w2.heap[N + 2]? = (w.setCell ⟨N + 2, t % n, none⟩ (.int .i64 0)).heap[N + 2]? := by
    rw [hg.block (N + 2) (by rw [e]; simp [World.setCell]; omega) (by intro e; have := Option.some.inj e; omega), e]
  have hv1 := h.v1
  have hs1 := h.s1
  rw [List.length_cons] at hv1 hs1
  refine ⟨_, _, (fun j => if j = t % n then 0 else P j), (hb _ (by omega) (by omega) hN).trans h.obj, hc, ?_, ?_, ?_, ?_, ?_, row_takei 0 (by omega) h.is, by omega, h.n1, h.n64, by omega⟩
  · rw [upd_same]; omega
  · rw [upd_other _ _ _ _ (by decide), hv1]; omega
  · rw [upd_same, h.s0]; omega
  · rw [upd_other _ _ _ _ (by decide), hs1]; omega
  · refine ((h.row.set (t % n) (.int .i64 0)).of_block hq).congr fun i _ => ?_
    by_cases e : i = t % n
    · simp [e]
    · simp [e]

set_option maxHeartbeats 1000000 in
theorem take_nonei {w : World} {N n t : Nat} (h : Rgi w N n t []) :
    Calls Try.prog 15 #[.pointer (some ⟨N + 3, 0, none⟩)] w fun e w' => e = .returned (.tuple #[(.int .i64 0), .iface 29 (.int .i64 3)]) ∧ w = w' := by
  have HL := Lib.hid (leni h)
  clear h
  go_enter Try.func15, Try.ntmps15
  go_wp2_with fail
  refine HL.out.mono ?_
  rintro e w1 ⟨rfl, rfl⟩
  go_wp2
  go_ret2
  exact ⟨rfl, rfl⟩

set_option maxHeartbeats 2000000 in
theorem take_somei {w : World} {N n t : Nat} {x : Int} {M : List Int} (h : Rgi w N n t (x :: M)) :
    Calls Try.prog 15 #[.pointer (some ⟨N + 3, 0, none⟩)] w fun e w' => e = .returned (.tuple #[(.int .i64 x), .nilIface]) ∧ Rgi w' N n (t + 1) M ∧ ChgN N w w' := by
  have HL := Lib.hid (leni h)
  have HST := Lib.hid (stampsi h)
  obtain ⟨f1, f2, f3, f4⟩ := h.facts
  have HPL := Lib.hid (placei h t (by omega) (t : Int) rfl)
  obtain ⟨V, S, P, h⟩ := h
  have hm : t % n < n := Nat.mod_lt _ (by omega)
  have HTAKE := Lib.hid (fun (w1 w2 : World) e h2 => h.take (w1 := w1) (w2 := w2) e h2)
  have HADD := Lib.hid (fun (w1 : World) (hc : Cl w1 (N + 1) N 2 V S) => add_at (N + 1) N 0 V S w1 hc (by omega) (t : Int) h.v0 (by rw [h.s0]; omega) (by rw [h.s0]; omega) (by omega) (by omega))
  have hcl : Cl (w.setCell ⟨N + 2, t % n, none⟩ (.int .i64 0)) (N + 1) N 2 V S :=
    ⟨by rw [Below.heap_setCell _ _ _ _ (by simp)]; exact h.cl.1, h.cl.2.setOther (a := ⟨N + 2, t % n, none⟩) (by simp) _⟩
  have HCL := Lib.hid (fun (w1 : World) (e : w1.heap = _) => hcl.heap (w1 := w1) e)
  obtain ⟨c0, c1⟩ := h.c0
  obtain hc2 := h.row.cell hm
  have hfz := h.row.frozen (t % n)
  have hx : P (t % n) = x := by have := h.is 0 (by simp); simpa using this
  rw [hx] at hc2
  clear h hcl hx
  generalize hj : t % n = j at *
  rw [List.length_cons] at HL f1 f4
  have hne : (((M.length + 1 : Nat) : Int) == 0) = false := by simp; omega
  have hj0 : (j : Int) < (n : Int) := by omega
  have hj1 : (0 : Int) ≤ (j : Int) := by omega
  clear hj
  go_enter Try.func15, Try.ntmps15
  go_wp2_with fail
  refine HL.out.mono ?_
  rintro e w1 ⟨rfl, rfl⟩
  go_wp2_with fail
  refine HST.out.mono ?_
  rintro e w1 ⟨rfl, rfl⟩
  go_wp2_with fail
  refine HPL.out.mono ?_
  rintro e w1 ⟨rfl, rfl⟩
  go_wp2_with fail
  refine (HADD.out _ (HCL.out _ (by rfl))).mono ?_
  rintro e w2 ⟨rfl, h2⟩
  have HR := Lib.hid (HTAKE.out _ _ (by rfl) h2)
  have HC := Lib.hid (wrote_chgi (w := w) (o := j) (u := (.int .i64 0)) (by rfl) (by rfl) (by rfl) (by rfl) h2)
  clear h2
  go_wp2
  go_ret2
  exact ⟨rfl, HR.out, HC.out⟩

def mvi (x : Int) : Value := (.int .i64 x)
/-- A slice that reads as the list L. -/
def Lsi (w : World) (A : Option Addr) (c : Nat) (L : List Int) : Prop :=
  L.length ≤ c ∧ c ≤ maxLen ∧ (A = none → c = 0) ∧ (0 < L.length → ∃ b o, A = some ⟨b, o, none⟩ ∧ b < w.heap.size ∧ ∀ j, j < L.length → w.cell? ⟨b, o + j, none⟩ = some (.int .i64 (L.getD j 0)))
theorem ls_nili (w : World) : Lsi w none 0 [] := ⟨Nat.le_refl _, Nat.zero_le _, fun _ => rfl, fun h => absurd h (by simp)⟩
theorem Lsi.at_ {w : World} {A : Option Addr} {c j : Nat} {L : List Int} (h : Lsi w A c L) (hj : j < L.length) : ∃ b o, A = some ⟨b, o, none⟩ ∧ b < w.heap.size ∧ w.cell? ⟨b, o + j, none⟩ = some (.int .i64 (L.getD j 0)) := by
  obtain ⟨b, o, e, hb, hp⟩ := h.2.2.2 (by omega)
  exact ⟨b, o, e, hb, hp j hj⟩
theorem Lsi.keep {w w' : World} {A : Option Addr} {c : Nat} {L : List Int} (h : Lsi w A c L) (hs : w.heap.size ≤ w'.heap.size) (hc : ∀ a : Addr, A = some a → ∀ q : Addr, q.block = a.block → q.block < w.heap.size → w'.cell? q = w.cell? q) : Lsi w' A c L := by
  obtain ⟨h1, h2, h3, h4⟩ := h
  refine ⟨h1, h2, h3, fun h0 => ?_⟩
  obtain ⟨b, o, e, hb, hj⟩ := h4 h0
  exact ⟨b, o, e, by omega, fun j hl => (hc _ e ⟨b, o + j, none⟩ rfl hb).trans (hj j hl)⟩
theorem Lsi.below {w w' : World} {A : Option Addr} {c : Nat} {L : List Int} (h : Lsi w A c L) (hb : Below w.heap.size w w') : Lsi w' A c L := h.keep hb.size fun _ _ _ _ hp => hb.cell hp
theorem Lsi.chg {N : Nat} {w w' : World} {A : Option Addr} {c : Nat} {L : List Int} (h : Lsi w A c L) (ho : Off N A) (hb : ChgN N w w') : Lsi w' A c L :=
  h.keep hb.size fun a e q hq hp => hb.cell hp (.inr (by rw [hq]; exact ho a e))
theorem Lsi.cells {w : World} {A : Option Addr} {c : Nat} {L : List Int} (h : Lsi w A c L) : ∀ a, A = some a → ∀ j u, (L.map mvi)[j]? = some u → w.cell? (a.add j) = some u := by
  obtain ⟨h1, h2, h3, h4⟩ := h
  intro a e j u hu
  subst e
  rw [List.getElem?_map] at hu
  obtain ⟨z, hz, rfl⟩ := Option.map_eq_some_iff.1 hu
  obtain ⟨hj, rfl⟩ := List.getElem?_eq_some_iff.1 hz
  obtain ⟨b, o, e, _, hc⟩ := h4 (by omega)
  injection e with e
  subst e
  rw [add_lit, hc j (by omega), List.getD_eq_getElem?_getD, List.getElem?_eq_getElem hj]
  rfl
theorem one_cellsi (L : List Int) : ∀ u ∈ L.map mvi, u.oneCell' = true := fun u hu => by
  obtain ⟨k, -, rfl⟩ := List.mem_map.1 hu
  rfl
/-- A row of one's own reads as its list. -/
theorem own_lsi {w : World} {N n : Nat} {v : Value} {L : List Int} (h : w.ownsRow N 3 1 v n (L.map mvi)) : ∃ A c, v = .slice A L.length c ∧ Lsi w A c L ∧ (0 < L.length → ∀ a, A = some a → N ≤ a.block) ∧ n = L.length := by
  obtain ⟨A, c, rfl, h1, h2, h3⟩ := own_new h
  have hl : L.length = n := by have := h.1; simpa using this
  subst hl
  refine ⟨A, c, rfl, ⟨h1, h2, fun e => (h3 e).2, fun h0 => ?_⟩, fun h0 a e => ?_, rfl⟩
  · obtain ⟨g, rfl, -, hg⟩ := own_at h h0
    refine ⟨g, 0, rfl, hg, fun j hj => ?_⟩
    rw [Nat.zero_add]
    refine (h.cellAt _ (by omega)).trans ?_
    rw [List.getElem?_map, List.getElem?_eq_getElem hj, List.getD_eq_getElem?_getD, List.getElem?_eq_getElem hj]
    rfl
  · obtain ⟨g, e', hg, -⟩ := own_at h h0
    rw [e'] at e
    injection e with e
    subst e
    exact hg

set_option maxHeartbeats 1000000 in
theorem new_oki (n : Nat) (w : World) (h1 : 1 ≤ n) (h2 : n ≤ 64) :
    Calls Try.prog 13 #[.int .i64 (n : Int)] w fun e w' => e = .returned (.tuple #[.pointer (some ⟨w.heap.size + 3, 0, none⟩), .nilIface]) ∧ Rgi w' w.heap.size n 0 [] ∧ Below w.heap.size w w' := by
  obtain ⟨i0, hi, hz0, hz1, hz2⟩ := info_parts Try.infoInt
  have hmk := run_make_row (P := Try.prog) 50 3 i0 (.int .i64 0) Try.underlying50 hi hz0 hz1 rfl .i64 .i64 n (by rw [hz2]; omega) (by omega)
  have HNW := Lib.hid (new_ok 2 w (by omega) (by omega))
  clear hi hz0 hz1 hz2
  go_enter Try.func13, Try.ntmps13
  go_wp2_with fail
  refine HNW.out.mono ?_
  rintro e w1 ⟨rfl, hcl, hb1, hs1⟩
  have HCL := Lib.hid hcl
  have HB1 := Lib.hid hb1
  clear hcl hb1
  go_wp2
  go_ret2
  have e3 : w.heap.size + 3 = (w1.alloc (.cells (madeCells #[(.int .i64 0)] n) 3)).heap.size := by simp; omega
  refine ⟨?_, ⟨(fun _ => 0), (fun _ => 0), (fun _ => 0), ?_, (show Cl _ _ _ _ _ _ from ⟨?_, ?_⟩), rfl, rfl, rfl, rfl, ?_, fun i hi => absurd hi (by simp), by simp, h1, h2, by simp⟩, ?_⟩
  · rw [show w.heap.size + 3 = w1.heap.size + 1 by omega]
    rfl
  · rw [e3, show w.heap.size + 2 = w1.heap.size by omega]
    exact Deep.blk_alloc_new _ _
  · rw [Deep.blk_alloc_lt _ _ _ (by simp; omega), Deep.blk_alloc_lt _ _ _ (by omega)]
    exact HCL.out.1
  · exact (HCL.out.2.alloc _).alloc _
  · rw [show w.heap.size + 2 = w1.heap.size by omega]
    exact (World.rowIs_made w1 (.int .i64 0) n 3).alloc _
  · exact (HB1.out.alloc HB1.out.size _).alloc (by have := HB1.out.size; simp; omega) _

set_option maxHeartbeats 400000 in
theorem new_noi (n : Int) (w : World) (h : n < 1 ∨ 64 < n) :
    Calls Try.prog 13 #[.int .i64 n] w fun e w' => e = .returned (.tuple #[.pointer none, .iface 29 (.int .i64 1)]) ∧ w = w' := by
  rcases h with h | h
  · go_enter Try.func13, Try.ntmps13
    go_wp2
    go_ret2
    exact ⟨rfl, rfl⟩
  · have h' : ¬ n < 1 := by omega
    go_enter Try.func13, Try.ntmps13
    go_wp2
    go_ret2
    exact ⟨rfl, rfl⟩

/-- What stands at the head of Drain's loop. -/
def DrIi (w : World) (N n t : Nat) (L : List Int) (v x e : Value) (wr : World) : Prop :=
  ∃ D : List Int, wr.ownsRow w.heap.size 3 1 v D.length (D.map mvi) ∧ ChgN N w wr ∧
    ((∃ y M, L = D ++ y :: M ∧ x = (.int .i64 y) ∧ e = .nilIface ∧ Rgi wr N n (t + D.length + 1) M) ∨ (L = D ∧ x = (.int .i64 0) ∧ e = .iface 29 (.int .i64 3) ∧ Rgi wr N n (t + D.length) []))

set_option maxHeartbeats 4000000 in
theorem draini {w : World} {N n t : Nat} {L : List Int} (h : Rgi w N n t L) :
    Calls Try.prog 16 #[.pointer (some ⟨N + 3, 0, none⟩)] w fun e w' => ∃ A c, e = .returned (.slice A L.length c) ∧ Lsi w' A c L ∧ Rgi w' N n (t + L.length) [] ∧ ChgN N w w' := by
  obtain ⟨i0, hi, hz0, hz1, hz2⟩ := info_parts Try.infoInt
  have HI := Lib.hid hi
  have HZ := Lib.hid (And.intro hz0 (And.intro hz1 hz2))
  have hfacts := h.facts
  have hlt := h.lt
  have HF : ∃ x e, Hid (Calls Try.prog 15 #[.pointer (some ⟨N + 3, 0, none⟩)] w fun e' w' => e' = .returned (.tuple #[x, e]) ∧ DrIi w N n t L (.slice none 0 0) x e w') := by
    cases L with
    | nil => exact ⟨_, _, Lib.hid ((take_nonei h).mono fun e' w' ⟨h1, h2⟩ => ⟨h1, by subst h2; exact ⟨[], World.ownsRow_nil _ _ _ _, ChgN.refl _ _, .inr ⟨rfl, rfl, rfl, h⟩⟩⟩)⟩
    | cons y M => exact ⟨_, _, Lib.hid ((take_somei h).mono fun e' w' ⟨h1, h2, h3⟩ => ⟨h1, [], World.ownsRow_nil _ _ _ _, h3, .inl ⟨y, M, rfl, rfl, rfl, h2⟩⟩)⟩
  obtain ⟨x0, e0, HF⟩ := HF
  clear hi hz0 hz1 hz2 h
  go_enter Try.func16, Try.ntmps16
  go_wp2_with fail
  refine HF.out.mono ?_
  rintro e w1 ⟨rfl, hI⟩
  have HI1 := Lib.hid hI
  clear hI HF
  go_wp2_with fail
  go_loopw [3, 4, 5] (fun v x e wr => Hid (DrIi w N n t L v x e wr)) (fun v _ _ _ => L.length - lenV v)
  case atStart => exact HI1
  case round =>
    clear HI1
    obtain ⟨D, hown, hc, ⟨y, M, hL, rfl, rfl, hr⟩ | ⟨hL, rfl, rfl, hr⟩⟩ := hrel.out
    · have hsz := hc.size
      have HC := Lib.hid hc
      have HO := Lib.hid hown
      have HR := Lib.hid hr
      have hLn : L.length = D.length + (M.length + 1) := by rw [hL, List.length_append, List.length_cons]
      have HL := Lib.hid hL
      obtain ⟨A, c, rfl, -⟩ := own_new hown
      have HLT := Lib.hid (own_lt hown)
      have HAT := Lib.hid (fun h0 => own_at hown h0)
      clear hrel hc hown hr hL
      have hN4 : N + 4 ≤ w.heap.size := by omega
      have HNW := Lib.hid (World.news_of_block (w := wr.alloc (.cells #[(.int .i64 y)] 3)) (Deep.blk_alloc_new wr (.cells #[(.int .i64 y)] 3)))
      go_wp2_with (at_builtin; refine wpList_append_own _ rfl _ _ 50 rfl w.heap.size 3 i0 (.int .i64 0) 1 8 Try.underlying50 HI.out HZ.out.1 HZ.out.2.1 HZ.out.2.2 rfl (by decide) (.slice A D.length c) D.length (D.map mvi) rfl (HO.out.alloc _) ⟨wr.heap.size, 0, none⟩ 1 1 [(.int .i64 y)] rfl rfl HNW.out (fun u hu => by simp at hu; subst hu; rfl) (by unfold maxLen; omega) (by omega) (by simp; omega) ?_)
      intro v1 w2 hown1 hg1 hnil1
      obtain ⟨hc2, hb2⟩ := app_chg (B := N + 4) HC.out HO.out hg1 (by omega)
      have HR2 := Lib.hid (HR.out.keep hb2)
      have HG2 := Lib.hid (own_ge hown1)
      have HC2 := Lib.hid hc2
      have hown2 : w2.ownsRow w.heap.size 3 1 v1 (D ++ [y]).length ((D ++ [y]).map mvi) := by
        rw [List.length_append, List.map_append]; exact hown1
      have HO2 := Lib.hid hown2
      have hdl : (D ++ [y]).length = D.length + 1 := by rw [List.length_append]; rfl
      have hLn1 : L.length = (D ++ [y]).length + M.length := by omega
      have hlv : lenV v1 = D.length + 1 := by
        obtain ⟨A1, c1, rfl, -⟩ := own_new hown1
        rfl
      have HF : ∃ x e, Hid (Calls Try.prog 15 #[.pointer (some ⟨N + 3, 0, none⟩)] w2 fun e' w' => e' = .returned (.tuple #[x, e]) ∧ DrIi w N n t L v1 x e w') := by
        have hr2 := HR2.out
        have hL2 := HL.out
        rw [show t + D.length + 1 = t + (D ++ [y]).length by omega] at hr2
        have hst : ∀ w', ChgN N w2 w' → w'.ownsRow w.heap.size 3 1 v1 (D ++ [y]).length ((D ++ [y]).map mvi) ∧ ChgN N w w' := fun w' hc => ⟨own_chg HO2.out hc (fun k hk => by have := HG2.out k hk; omega), HC2.out.trans hc⟩
        cases M with
        | nil => exact ⟨_, _, Lib.hid ((take_nonei hr2).mono fun e' w' ⟨h1, h2⟩ => ⟨h1, by subst h2; exact ⟨D ++ [y], (hst _ (ChgN.refl _ _)).1, (hst _ (ChgN.refl _ _)).2, .inr ⟨hL2, rfl, rfl, hr2⟩⟩⟩)⟩
        | cons z M => exact ⟨_, _, Lib.hid ((take_somei hr2).mono fun e' w' ⟨h1, h2, h3⟩ => ⟨h1, D ++ [y], (hst _ h3).1, (hst _ h3).2, .inl ⟨z, M, by rw [hL2, List.append_assoc]; rfl, rfl, rfl, h2⟩⟩)⟩
      obtain ⟨x2, e2, HF⟩ := HF
      clear hown1 hg1 hnil1 hc2 hb2 hown2 HNW HO HC HR HL HLT HAT HG2 HO2 HC2 HR2
      go_wp2_with fail
      refine HF.out.mono ?_
      rintro e w3 ⟨rfl, hI⟩
      have HI2 := Lib.hid hI
      clear hI HF
      go_wp2
      go_roundw
      case rel => exact HI2
      case measure =>
        show L.length - lenV v1 < L.length - D.length
        omega
    · have HC := Lib.hid hc
      have HR := Lib.hid hr
      obtain ⟨A, c, hv, hls, -, -⟩ := own_lsi hown
      subst hL hv
      have HLS := Lib.hid hls
      clear hrel hc hown hr hls
      go_wp2
      go_ret
      exact ⟨A, c, rfl, HLS.out, HR.out, HC.out⟩
end Go.Proofs.Ytnghhcjfalgkdaa
