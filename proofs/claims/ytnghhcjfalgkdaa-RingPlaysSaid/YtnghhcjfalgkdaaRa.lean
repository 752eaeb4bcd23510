/- Contracts of package cell as far as a ring calls it; errors as numbers; the law's pick. Conditions: stamps stay below one million. -/
import Derived.Test.YtnghhcjfalgkdaaRows
import Derived.WalkKit
import Derived.WalkSpells
import Derived.WalkLawsBesides
import Derived.Deep.OwnRows
import Derived.LaidEql
import Derived.Lib.Hide
namespace Go.Proofs.Ytnghhcjfalgkdaa
open Go.RowKit

/-- A row of pairs, a value and a stamp each. -/
def mix (V S : Nat → Int) (j : Nat) : Value := if j % 2 = 0 then .int .u64 (V (j / 2)) else .int .i64 (S (j / 2))

/-- Cells: a block of one slice, and the row that it leads to. -/
def Cl (w : World) (p b n : Nat) (V S : Nat → Int) : Prop :=
  w.heap[p]? = some (.cells #[.slice (some ⟨b, 0, none⟩) n n] 66 (0, 0)) ∧ w.rowIs b 69 (n * 2) (mix V S)

def upd (f : Nat → Int) (i : Nat) (x : Int) : Nat → Int := fun j => if j = i then x else f j

theorem upd_same (f : Nat → Int) (i : Nat) (x : Int) : upd f i x i = x := by simp [upd]
theorem upd_other (f : Nat → Int) (i j : Nat) (x : Int) (h : j ≠ i) : upd f i x j = f j := by simp [upd, h]

theorem Cl.ptr {w : World} {p b n : Nat} {V S : Nat → Int} (h : Cl w p b n V S) : w.cell? ⟨p, 0, none⟩ = some (.slice (some ⟨b, 0, none⟩) n n) := by
  simp [World.cell?, h.1]
theorem row_val {w : World} {b t n : Nat} {V S : Nat → Int} (h : w.rowIs b t (n * 2) (mix V S)) {i : Nat} (hi : i < n) : w.cell? ⟨b, i * 2, none⟩ = some (.int .u64 (V i)) := by
  rw [h.cell (by omega)]; simp [mix]
theorem row_stp {w : World} {b t n : Nat} {V S : Nat → Int} (h : w.rowIs b t (n * 2) (mix V S)) {i : Nat} (hi : i < n) : w.cell? ⟨b, i * 2 + 1, none⟩ = some (.int .i64 (S i)) := by
  rw [h.cell (by omega)]
  have e1 : (i * 2 + 1) % 2 = 1 := by omega
  have e2 : (i * 2 + 1) / 2 = i := by omega
  simp [mix, e1, e2]
theorem row_set {w : World} {b t n : Nat} {V S : Nat → Int} (h : w.rowIs b t (n * 2) (mix V S)) (i : Nat) (v s : Int) :
    ((w.setCell ⟨b, i * 2, none⟩ (.int .u64 v)).setCell ⟨b, i * 2 + 1, none⟩ (.int .i64 s)).rowIs b t (n * 2) (mix (upd V i v) (upd S i s)) := by
  refine ((h.set (i * 2) (.int .u64 v)).set (i * 2 + 1) (.int .i64 s)).congr fun j _ => ?_
  simp only [mix, upd]
  by_cases h1 : j = i * 2 + 1
  · subst h1
    have e1 : (i * 2 + 1) % 2 = 1 := by omega
    have e2 : (i * 2 + 1) / 2 = i := by omega
    simp [e1, e2]
  · by_cases h2 : j = i * 2
    · subst h2
      simp
    · rw [if_neg h1, if_neg h2]
      by_cases h3 : j % 2 = 0
      · have : j / 2 ≠ i := by omega
        simp [h3, this]
      · have : j / 2 ≠ i := by omega
        simp [h3, this]
theorem Cl.set {w : World} {p b n : Nat} {V S : Nat → Int} (h : Cl w p b n V S) (i : Nat) (v s : Int) (hpb : p ≠ b) :
    Cl ((w.setCell ⟨b, i * 2, none⟩ (.int .u64 v)).setCell ⟨b, i * 2 + 1, none⟩ (.int .i64 s)) p b n (upd V i v) (upd S i s) := by
  refine ⟨?_, row_set h.2 i v s⟩
  rw [Below.heap_setCell _ _ _ _ (by simpa using hpb), Below.heap_setCell _ _ _ _ (by simpa using hpb)]
  exact h.1

theorem grown_two (w : World) (b i : Nat) (u v : Value) : w.grownBy ((w.setCell ⟨b, i * 2, none⟩ u).setCell ⟨b, i * 2 + 1, none⟩ v) (some b) :=
  ⟨rfl, rfl, rfl, by simp [World.setCell], fun k _ hk => by
    have : k ≠ b := fun e => hk (by rw [e])
    rw [Below.heap_setCell _ _ _ _ (by simpa using this), Below.heap_setCell _ _ _ _ (by simpa using this)]⟩

theorem grown_size (w : World) (b i : Nat) (u v : Value) : ((w.setCell ⟨b, i * 2, none⟩ u).setCell ⟨b, i * 2 + 1, none⟩ v).heap.size = w.heap.size := by
  simp [World.setCell]

theorem Cl.ne {w : World} {p b n : Nat} {V S : Nat → Int} (h : Cl w p b n V S) : p ≠ b := by
  rintro rfl
  obtain ⟨c, hb, _⟩ := h.2
  rw [h.1] at hb
  simp at hb

/-- What a write leaves. -/
def Wrote (w w' : World) (p b n : Nat) (V S : Nat → Int) (i : Nat) (v : Int) : Prop :=
  Cl w' p b n (upd V i v) (upd S i (S i + 1)) ∧ w.grownBy w' (some b) ∧ w'.heap.size = w.heap.size

set_option maxHeartbeats 400000 in
theorem has_in (p b : Nat) (n : Nat) (i : Nat) (w : World) (hi : i < n)
    (hp : w.cell? ⟨p, 0, none⟩ = some (.slice (some ⟨b, 0, none⟩) n n)) :
    Calls Try.prog 24 #[.pointer (some ⟨p, 0, none⟩), .int .i64 i] w fun e w' => e = .returned (.bool true) ∧ w = w' := by
  go_enter Try.func24, Try.ntmps24
  go_wp2
  go_ret
  exact ⟨rfl, rfl⟩

set_option maxHeartbeats 400000 in
theorem load_in (p b : Nat) (n : Nat) (i : Int) (V S : Nat → Int) (w : World) (h0 : 0 ≤ i) (hi : i < n) (hc : Cl w p b n V S) :
    Calls Try.prog 21 #[.pointer (some ⟨p, 0, none⟩), .int .i64 i] w fun e w' => e = .returned (.tuple #[.int .u64 (V i.toNat), .nilIface]) ∧ w = w' := by
  obtain ⟨j, rfl⟩ := Int.eq_ofNat_of_zero_le h0
  have hj : j < n := by omega
  have hp := hc.ptr
  have hs := row_val hc.2 hj
  rw [Int.toNat_natCast]
  generalize V j = s at hs ⊢
  clear hc
  go_enter Try.func21, Try.ntmps21
  go_wp2_with (go_at_call 24; refine (has_in p b n j _ hj hp).mono ?_; rintro e w' ⟨rfl, rfl⟩)
  go_ret2
  exact ⟨rfl, rfl⟩

set_option maxHeartbeats 400000 in
theorem write_raw (p b : Nat) (n : Nat) (i : Nat) (x v s : Int) (w : World) (hi : i < n) (hpb : p ≠ b)
    (hp : w.cell? ⟨p, 0, none⟩ = some (.slice (some ⟨b, 0, none⟩) n n)) (hx : w.cell? ⟨b, i * 2, none⟩ = some (.int .u64 x)) (hs : w.cell? ⟨b, i * 2 + 1, none⟩ = some (.int .i64 s))
    (hf : ∀ j, w.frozen? ⟨b, j, none⟩ = false) (h0 : 0 ≤ s) (h1 : s ≤ 1000000) :
    Calls Try.prog 25 #[.pointer (some ⟨p, 0, none⟩), .int .i64 i, .int .u64 v] w fun e w' => e = .returned (.tuple #[]) ∧ (w.setCell ⟨b, i * 2, none⟩ (.int .u64 v)).setCell ⟨b, i * 2 + 1, none⟩ (.int .i64 (s + 1)) = w' := by
  go_enter Try.func25, Try.ntmps25
  go_wp2
  go_end0
  exact ⟨rfl, rfl⟩

theorem write_in (p b : Nat) (n : Nat) (i : Nat) (v : Int) (V S : Nat → Int) (w : World) (hi : i < n) (hc : Cl w p b n V S) (h0 : 0 ≤ S i) (h1 : S i ≤ 1000000) :
    Calls Try.prog 25 #[.pointer (some ⟨p, 0, none⟩), .int .i64 i, .int .u64 v] w fun e w' => e = .returned (.tuple #[]) ∧ Wrote w w' p b n V S i v :=
  (write_raw p b n i (V i) v (S i) w hi hc.ne hc.ptr (row_val hc.2 hi) (row_stp hc.2 hi) (fun j => hc.2.frozen j) h0 h1).mono fun _ _ ⟨he, hw⟩ =>
    ⟨he, by subst hw; exact ⟨hc.set i v _ hc.ne, grown_two _ _ _ _ _, grown_size _ _ _ _ _⟩⟩

set_option maxHeartbeats 400000 in
theorem add_in (p b : Nat) (n : Nat) (i d : Int) (V S : Nat → Int) (w : World) (hi0 : 0 ≤ i) (hi : i < n) (hc : Cl w p b n V S) (h0 : 0 ≤ S i.toNat) (h1 : S i.toNat ≤ 1000000) :
    Calls Try.prog 20 #[.pointer (some ⟨p, 0, none⟩), .int .i64 i, .int .u64 d] w fun e w' => e = .returned (.tuple #[.int .u64 (V i.toNat), .nilIface]) ∧ Wrote w w' p b n V S i.toNat (IntKind.u64.wrap (V i.toNat + d)) := by
  obtain ⟨j, rfl⟩ := Int.eq_ofNat_of_zero_le hi0
  have hj : j < n := by omega
  have hp := hc.ptr
  rw [Int.toNat_natCast] at *
  have hs := row_val hc.2 hj
  have H := fun v => write_in p b n j v V S w hj hc h0 h1
  have HH := Lib.hid H
  clear H hc
  generalize V j = s at hs ⊢
  go_enter Try.func20, Try.ntmps20
  go_wp2_with (first | (go_at_call 24; refine (has_in p b n j _ hj hp).mono ?_; rintro e w' ⟨rfl, rfl⟩) | (go_at_call 25; refine (HH.out _).mono ?_; rintro e w' ⟨rfl, hw⟩))
  go_ret2
  exact ⟨rfl, hw⟩

theorem grown_below {w w' : World} {b B : Nat} (h : w.grownBy w' (some b)) (hb : B ≤ b) (hB : B ≤ w.heap.size) : Below B w w' :=
  (Below.refl B w).grown h hB (fun k hk => by injection hk with e; omega)

theorem Try.infoWr : (Try.prog.info? 69).map (fun i => (i.zero, i.size, i.bytes)) = some (some (.agg #[.int .u64 0, .int .i64 0]), 2, 16) := by kernel_rfl
theorem made_row (w : World) (n : Nat) (t : TypeId) : (w.alloc (.cells (madeCells #[.int .u64 0, .int .i64 0] (n * 2)) t)).rowIs w.heap.size t (n * 2) (mix (fun _ => 0) (fun _ => 0)) := by
  refine ⟨_, Deep.blk_alloc_new _ _, size_madeCells _ _, fun i hi => ?_⟩
  have h2 : i % 2 < 2 := Nat.mod_lt _ (by omega)
  simp only [madeCells, mix]
  by_cases h : i % 2 = 0
  · simp [hi, h]
  · have h1 : i % 2 = 1 := by omega
    simp [hi, h1]

theorem run_make_pairs (t e : TypeId) (ht : Try.prog.underlying t = some (.slice e))
    (hinfo : (Try.prog.info? e).map (fun i => (i.zero, i.size, i.bytes)) = some (some (.agg #[.int .u64 0, .int .i64 0]), 2, 16)) (n : Nat) (hn : n ≤ 1000) (w : World) :
    (Instr.makeSlice t (.int .i64 (n : Int)) (.int .i64 (n : Int))).run Try.prog w = .ok (.slice (some ⟨w.heap.size, 0, none⟩) n n) (w.alloc (.cells (madeCells #[.int .u64 0, .int .i64 0] (n * 2)) e)) := by
  obtain ⟨i, hi, hzz⟩ := Option.map_eq_some_iff.1 hinfo
  simp only [Prod.mk.injEq] at hzz
  obtain ⟨hz, hs, hb⟩ := hzz
  have hr := run_make (P := Try.prog) w t e i _ ht hi hz .i64 .i64 n n (by omega) (Int.le_refl _) (by rw [hb]; omega) (by omega)
  simp only [Int.toNat_natCast, hs] at hr
  exact hr

/-- What New leaves. -/
def Newed (w w' : World) (n : Nat) : Prop :=
  Cl w' (w.heap.size + 1) w.heap.size n (fun _ => 0) (fun _ => 0) ∧ Below w.heap.size w w' ∧ w'.heap.size = w.heap.size + 2

set_option maxHeartbeats 400000 in
theorem new_ok (n : Int) (w : World) (h1 : 1 ≤ n) (h2 : n ≤ 1000) :
    Calls Try.prog 18 #[.int .i64 n] w fun e w' => e = .returned (.tuple #[.pointer (some ⟨w.heap.size + 1, 0, none⟩), .nilIface]) ∧ Newed w w' n.toNat := by
  obtain ⟨m, rfl⟩ := Int.eq_ofNat_of_zero_le (show 0 ≤ n by omega)
  rw [Int.toNat_natCast]
  have hmk := run_make_pairs 64 69 Try.underlying64 Try.infoWr m (by omega)
  go_enter Try.func18, Try.ntmps18
  go_wp2
  go_ret2
  refine ⟨rfl, ⟨?_, ?_⟩, ?_, ?_⟩
  · rw [show w.heap.size + 1 = (w.alloc (.cells (madeCells #[.int .u64 0, .int .i64 0] (m * 2)) 69)).heap.size by simp]
    exact Deep.blk_alloc_new _ _
  · exact (made_row w m 69).alloc _
  · exact ((Below.refl _ _).alloc (Nat.le_refl _) _).alloc (by simp) _
  · simp

set_option maxHeartbeats 400000 in
theorem new_no (n : Int) (w : World) (h : n < 1 ∨ 1000 < n) :
    Calls Try.prog 18 #[.int .i64 n] w fun e w' => e = .returned (.tuple #[.pointer none, .iface 29 (.int .i64 1)]) ∧ w = w' := by
  rcases h with h | h
  · go_enter Try.func18, Try.ntmps18
    go_wp2
    go_ret2
    exact ⟨rfl, rfl⟩
  · have h' : ¬ n < 1 := by omega
    go_enter Try.func18, Try.ntmps18
    go_wp2
    go_ret2
    exact ⟨rfl, rfl⟩

theorem Try.infoErr : (Try.prog.info? 29).map (fun i => i.comparable) = some true := by kernel_rfl

theorem errs_alike (depth : Nat) (a b : Int) (w : World) : (Op.equalIn (depth + 2) 26 (.iface 29 (.int .i64 a)) (.iface 29 (.int .i64 b))).run Try.prog w = .ok (a == b) w := by
  obtain ⟨i, hi, hc⟩ := Option.map_eq_some_iff.1 Try.infoErr
  have u26 := run_underlying (w := w) Try.underlying26
  simp [Op.equalIn, u26, typeInfo, hi, hc]

/-- Two errors that are numbers of api's own type are the same if the numbers are. -/
theorem eql_err (a b : Int) (w : World) : (binOp .eql 26 (.iface 29 (.int .i64 a)) (.iface 29 (.int .i64 b))).run Try.prog w = .ok (.bool (a == b)) w := by
  have h := errs_alike 9998 a b w
  simp only [binOp, Op.equal, Op.maxDepth]
  simp [h]

theorem neq_err (a b : Int) (w : World) : (binOp .neq 26 (.iface 29 (.int .i64 a)) (.iface 29 (.int .i64 b))).run Try.prog w = .ok (.bool (a != b)) w := by
  have h := errs_alike 9998 a b w
  simp only [binOp, Op.equal, Op.maxDepth]
  simp [h, bne]

theorem ret_int {k : IntKind} {a b : Int} (h : a = b) : Ending.returned (.int k a) = .returned (.int k b) := by rw [h]

/-- What pick takes of a raw number, modulo m. -/
def pk (c m : Int) : Int := (if c < 0 then -(c + 1) else c) % m

theorem pk_lt (c m : Int) (hm : 0 < m) : 0 ≤ pk c m ∧ pk c m < m := by
  unfold pk
  exact ⟨Int.emod_nonneg _ (by omega), Int.emod_lt_of_pos _ hm⟩

set_option maxHeartbeats 400000 in
theorem pick_any (c m r : Int) (w : World) (h1 : -9223372036854775808 ≤ c) (h2 : c ≤ 9223372036854775807) (hm : 1 ≤ m) (hm2 : m ≤ 1000) (hr : pk c m = r) :
    Calls Try.prog 7 #[.int .i64 c, .int .i64 m] w fun e w' => e = .returned (.int .i64 r) ∧ w = w' := by
  subst hr
  by_cases hc : c < 0
  · have hv : -(c + 1).tmod m = pk c m := by
      unfold pk
      rw [if_pos hc, ← Int.neg_tmod, Int.tmod_eq_emod_of_nonneg (by omega)]
    have HV := Lib.hid hv
    clear hv
    go_enter Try.func7, Try.ntmps7
    go_wp2
    go_ret
    exact ⟨ret_int HV.out, rfl⟩
  · have hv : c % m = pk c m := by
      unfold pk
      rw [if_neg hc]
    have HV := Lib.hid hv
    clear hv
    go_enter Try.func7, Try.ntmps7
    go_wp2
    go_ret
    exact ⟨ret_int HV.out, rfl⟩
end Go.Proofs.Ytnghhcjfalgkdaa
