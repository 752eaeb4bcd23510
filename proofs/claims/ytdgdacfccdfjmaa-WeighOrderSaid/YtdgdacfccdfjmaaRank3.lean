/- Contract of package weigh's Rank at three weights: the first place that it tells is that of the heaviest, of alike ones the earliest; and that Heaviest tells the same. Condition: the cells are float64 words. -/
import Derived.Test.YtdgdacfccdfjmaaRankW
namespace Go.Proofs.Ytdgdacfccdfjmaa
open Go.RowKit Go.Shelf Go.Sort

/-- Places as the sort has them. -/
def encP (i : Fin 3) : Value := .int .i64 (i.val : Int)
def cfP (F : Nat → Nat) (i j : Fin 3) : Int := cP F i.val j.val

theorem cI_iff (x y : Int) : (cI x y < 0 ↔ x < y) ∧ (cI x y = 0 ↔ x = y) := by
  unfold cI
  by_cases h1 : x < y
  · rw [if_pos h1]; omega
  · rw [if_neg h1]
    by_cases h2 : y < x
    · rw [if_pos h2]; omega
    · rw [if_neg h2]; omega

theorem ltP (F : Nat → Nat) (i j : Fin 3) : ltOf (cfP F) i j = decide (rk (F j) < rk (F i) ∨ rk (F j) = rk (F i) ∧ i.val < j.val) := by
  unfold ltOf cfP cP cF
  have h1 := cI_iff (rk (F j)) (rk (F i))
  have h2 := cI_iff i.val j.val
  rw [Bool.eq_iff_iff]
  simp only [decide_eq_true_eq]
  by_cases h0 : cI (rk (F j)) (rk (F i)) = 0
  · rw [if_neg (by simpa using h0)]
    omega
  · rw [if_pos h0]
    omega

theorem swoP (F : Nat → Nat) : SWO (ltOf (cfP F)) where
  irrefl x := by rw [ltP]; simp
  trans x y z h1 h2 := by rw [ltP] at *; simp only [decide_eq_true_eq] at *; omega
  ntrans x y z h1 h2 := by rw [ltP] at *; simp only [decide_eq_false_iff_not] at *; omega

theorem cells_sort (w : World) (B : Nat) (m : Nat) (os : Array Obj) (dk : Array (Fin 3)) (a : Addr) (h1 : a.block ≠ B) (h2 : a.block < w.heap.size) : (sortWorld encP w B 0 m dk os).cell? a = w.cell? a := by
  unfold sortWorld
  rw [cell?_grow _ _ _ (by rw [size_putRow]; exact h2), cell?_putRow_other encP _ B 0 dk a (Or.inl h1)]
  rfl

theorem reads (w : World) (B pb lb off cap : Nat) (F : Nat → Nat) (hF : ∀ j, j < 3 → F j < 18446744073709551616) (h : Lies w pb lb off 3 cap F) (hp : pb ≠ B) (hl : lb ≠ B) (hpw : pb < w.heap.size) (hlw : lb < w.heap.size) :
    CmpReads Try.prog 20 #[.pointer (some ⟨pb, 0, none⟩)] encP (cfP F) B 0 3 w := by
  intro m os dk _ x y
  have hL : Lies (sortWorld encP w B 0 m dk os) pb lb off 3 cap F :=
    ⟨(cells_sort w B m os dk ⟨pb, 0, none⟩ hp hpw).trans h.1, fun j hj => (cells_sort w B m os dk ⟨lb, off + j, none⟩ hl hlw).trans (h.2 j hj)⟩
  exact closure _ pb lb off 3 cap F x.val y.val hF hL x.isLt y.isLt

theorem len12 (n : Nat) (W : World) (h : n ≤ 12) : Calls Try.prog 26 #[.int .u64 n] W fun e w' => (∃ l : Int, e = .returned (.int .i64 l)) ∧ w' = W :=
  (Any.bits_Len Try.lays125 n W (by omega) (by omega)).mono fun _ _ ⟨he, hw⟩ => ⟨⟨_, he⟩, hw⟩

/-- The first place is best. -/
def Best (F : Nat → Nat) (d : Nat) : Prop := d < 3 ∧ ∀ j, j < 3 → ¬ (rk (F d) < rk (F j) ∨ rk (F d) = rk (F j) ∧ j < d)

theorem best_of {F : Nat → Nat} {d' : Array (Fin 3)} (hp : PermIn 0 3 #[0, 1, 2] d') (hs : SortedIn (ltOf (cfP F)) 0 3 d') : Best F (d'[0]!).val := by
  obtain ⟨hz, _, hperm⟩ := hp
  have hz3 : d'.size = 3 := hz
  refine ⟨(d'[0]!).isLt, fun j hj => ?_⟩
  have hmem : (⟨j, hj⟩ : Fin 3) ∈ (d'.extract 0 3).toList := by
    refine hperm.mem_iff.2 ?_
    have hall : ∀ x : Fin 3, x ∈ ((#[0, 1, 2] : Array (Fin 3)).extract 0 3).toList := by decide
    exact hall _
  have he : d'.extract 0 3 = d' := by
    have h := Array.extract_size (xs := d')
    rwa [hz3] at h
  rw [he] at hmem
  obtain ⟨i, hi, hv⟩ := List.getElem_of_mem hmem
  have hi' : i < d'.size := by simpa using hi
  have hv' : d'[i]! = ⟨j, hj⟩ := by rw [getElem!_pos d' i hi', ← hv]; simp
  have hlt : ltOf (cfP F) (d'[i]!) (d'[0]!) = false := by
    by_cases h0 : i = 0
    · subst h0; exact (swoP F).irrefl _
    · exact hs 0 i (Nat.le_refl _) (by omega) (by omega)
  rw [hv', ltP] at hlt
  simpa using hlt

theorem hv_best (F : Nat → Nat) (k : Nat) (m : Nat) (hm : hv F k = m) : (∀ j, j < k → rk (F j) ≤ rk (F m)) ∧ ∀ j, j < m → rk (F j) < rk (F m) := by
  induction k generalizing m with
  | zero => exact absurd hm (by show ¬ (-1 : Int) = m; omega)
  | succ k ih =>
    have hb := hv_bd F k
    by_cases h0 : k = 0
    · subst h0
      have : m = 0 := by have : ((0 : Nat) : Int) = m := hm; omega
      subst this
      exact ⟨fun j hj => by obtain rfl : j = 0 := by omega
                            omega, fun j hj => absurd hj (by omega)⟩
    · obtain ⟨m', hm'⟩ : ∃ m' : Nat, hv F k = m' := ⟨(hv F k).toNat, by omega⟩
      obtain ⟨i1, i2⟩ := ih m' hm'
      by_cases hg : 0 < cF (F k) (F m')
      · have e := hv_new hm' hg
        obtain rfl : m = k := by omega
        have hr : rk (F m') < rk (F m) := by
          unfold cF at hg
          have := cI_iff (rk (F m)) (rk (F m'))
          omega
        exact ⟨fun j hj => by
          by_cases hjm : j = m
          · subst hjm; omega
          · have := i1 j (by omega); omega, fun j hj => by have := i1 j hj; omega⟩
      · have e := hv_old hm' hg
        obtain rfl : m = m' := by omega
        have hr : rk (F k) ≤ rk (F m) := by
          unfold cF at hg
          by_cases h : rk (F m) < rk (F k)
          · rw [cI_gt h] at hg; omega
          · omega
        exact ⟨fun j hj => by
          by_cases hjk : j = k
          · subst hjk; exact hr
          · exact i1 j (by omega), i2⟩

theorem best_hv {F : Nat → Nat} {d : Nat} (h : Best F d) : hv F 3 = d := by
  have hb := hv_bd F 3
  obtain ⟨m, hm⟩ : ∃ m : Nat, hv F 3 = m := ⟨(hv F 3).toNat, by omega⟩
  obtain ⟨h1, h2⟩ := hv_best F 3 m hm
  have hm3 : m < 3 := by omega
  have a1 := h1 d h.1
  have a2 := h2 d
  have a3 := h.2 m hm3
  rw [hm]
  by_cases hdm : d < m
  · have := a2 hdm; omega
  · omega

theorem info_int : (Try.prog.info? 3).map (fun i => (i.zero, i.size, i.bytes)) = some (some (.int .i64 0), 1, 8) := by kernel_rfl

/-- What Rank leaves. -/
def Ranked (w : World) (F : Nat → Nat) (e : Ending) (w' : World) : Prop :=
  e = .returned (.slice (some ⟨w.heap.size + 1, 0, none⟩) 3 3) ∧ Below w.heap.size w w' ∧ w'.cell? ⟨w.heap.size + 1, 0, none⟩ = some (.int .i64 (hv F 3))

def count (k j : Nat) : Int := if j < k then j else 0
def RkRel (w wr : World) (l : Value) (k : Nat) : Prop :=
  wr.rowIs (w.heap.size + 1) 3 3 (fun j => .int .i64 (count k j)) ∧ Below w.heap.size w wr ∧ wr.cell? ⟨w.heap.size, 0, none⟩ = some l ∧ wr.heap.size = w.heap.size + 2

theorem RkRel.put {w wr : World} {l : Value} {k : Nat} (h : RkRel w wr l k) : RkRel w (wr.setCell ⟨w.heap.size + 1, k, none⟩ (.int .i64 (k : Int))) l (k + 1) := by
  refine ⟨(h.1.set k _).congr fun i _ => ?_, h.2.1.setCell (by simp) _, ?_, ?_⟩
  · unfold count
    by_cases e : i = k
    · subst e; rw [if_pos rfl, if_pos (by omega)]
    · rw [if_neg e]
      by_cases e2 : i < k
      · rw [if_pos e2, if_pos (by omega)]
      · rw [if_neg e2, if_neg (by omega)]
  · rw [← h.2.2.1]
    exact World.cell?_of_block (Below.heap_setCell _ _ _ _ (by simp))
  · rw [← h.2.2.2]
    simp [World.setCell]

theorem putRow_below {w wr : World} {B : Nat} (h : Below B w wr) (d : Array (Fin 3)) {blk : Nat} (hb : B ≤ blk) (n : Nat) : Below B w ((putRow encP wr blk 0 d).drewN n) := by
  refine ⟨h.os, h.tape, h.output, ?_, fun k hk => ?_⟩
  · exact Nat.le_trans h.size (Nat.le_of_eq (Go.Sort.size_putRow encP wr blk 0 d).symm)
  · refine Eq.trans ?_ (h.block k hk)
    show (putRow encP wr blk 0 d).heap[k]? = wr.heap[k]?
    simp only [putRow, mapBlock, Array.getElem?_modify]
    rw [if_neg (by omega)]

set_option maxHeartbeats 1000000 in
theorem rank3 (w : World) (lb off cap : Nat) (F : Nat → Nat) (hF : ∀ j, j < 3 → F j < 18446744073709551616) (hl : lb < w.heap.size) (hc : ∀ j, j < 3 → w.cell? ⟨lb, off + j, none⟩ = some (.float .f64 (F j))) :
    Calls Try.prog 13 #[.slice (some ⟨lb, off, none⟩) 3 cap] w (Ranked w F) := by
  have hmk : ∀ W : World, (Instr.makeSlice 27 (.int .i64 3) (.int .i64 3)).run Try.prog W = .ok (.slice (some ⟨W.heap.size, 0, none⟩) 3 3) (W.alloc (.cells (madeCells #[.int .i64 0] 3) 3)) :=
    fun W : World => run_make_row' (P := Try.prog) 27 3 (.int .i64 0) 8 Try.underlying27 info_int rfl .i64 .i64 3 (by omega) (by omega) W
  have HC := Lib.hid hc
  have HF := Lib.hid hF
  clear hc hF
  go_enter Try.func13, Try.ntmps13
  go_wp2
  go_loopw [10] (fun i wr => ∃ k : Nat, k ≤ 3 ∧ i = .int .i64 k ∧ RkRel w wr (.slice (some ⟨lb, off, none⟩) 3 cap) k) (fun i _ => 3 - (intOf i).toNat)
  case atStart =>
    refine ⟨0, by omega, rfl, ?_, ?_, ?_, ?_⟩
    · have h := World.rowIs_made (w.alloc (.cells #[.slice (some ⟨lb, off, none⟩) 3 cap] 28)) (.int .i64 0) 3 3
      have hz : (w.alloc (.cells #[.slice (some ⟨lb, off, none⟩) 3 cap] 28)).heap.size = w.heap.size + 1 := by simp
      rw [hz] at h
      exact h
    · exact ((Below.refl _ _).alloc (Nat.le_refl _) _).alloc (by simp) _
    · simp [go_sem]
    · simp
  case round =>
    obtain ⟨k, hk, rfl, hr⟩ := hrel
    by_cases hlt : k < 3
    · have rc := hr.1.cell hlt
      have rf := hr.1.frozen k
      have hnx := Lib.hid hr.put
      go_wp2
      go_roundw
      case rel => exact ⟨k + 1, by omega, by go_num, hnx.out⟩
      case measure => simp [intOf]; omega
    · obtain rfl : k = 3 := by omega
      have HH : Hid (Holds encP wr (w.heap.size + 1) 0 #[0, 1, 2]) := by
        intro j hj
        have hj3 : j < 3 := hj
        refine ⟨?_, hr.1.frozen _⟩
        rw [Nat.zero_add]
        refine (hr.1.cell hj3).trans ?_
        match j, hj3 with
        | 0, _ => rfl
        | 1, _ => rfl
        | 2, _ => rfl
      have hS := Lib.hid (Any.slices_SortFunc_small_sorted Try.laysSlF6_f19 encP (fun _ => rfl) (cfP F) (swoP F) 20 #[.pointer (some ⟨w.heap.size, 0, none⟩)] (w.heap.size + 1) 0 3 #[0, 1, 2] wr
        (enters_of Try.func20 (by kernel_rfl) rfl)
        (reads wr (w.heap.size + 1) w.heap.size lb off cap F HF.out ⟨hr.2.2.1, fun j hj => (hr.2.1.cell (by exact hl)).trans (HC.out j hj)⟩ (by omega) (by omega) (by rw [hr.2.2.2]; omega) (by rw [hr.2.2.2]; omega)) HH.out (by decide) len12)
      go_wp2_with fail
      refine hS.out.mono ?_
      rintro e w' ⟨rfl, d', n, hp, hs, rfl⟩
      have hfin : Ranked w F (.returned (.slice (some ⟨w.heap.size + 1, 0, none⟩) 3 3)) ((putRow encP wr (w.heap.size + 1) 0 d').drewN n) := by
        refine ⟨rfl, putRow_below hr.2.1 d' (by omega) n, ?_⟩
        rw [best_hv (best_of hp hs)]
        have hsz : d'.size = 3 := hp.1
        exact cell?_putRow encP wr (w.heap.size + 1) 0 #[0, 1, 2] d' HH.out hsz 0 (by omega)
      have hfin := Lib.hid hfin
      clear hr hS hp hs HH
      go_wp2
      go_ret
      exact hfin.out

end Go.Proofs.Ytdgdacfccdfjmaa
