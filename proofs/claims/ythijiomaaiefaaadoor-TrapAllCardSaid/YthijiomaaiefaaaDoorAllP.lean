/-
  Proved here: for every list of ways the law TrapAll returns true (no trapped call panics; of any, one behind the other, each does what it does, whatever others do; a list of more than a hundred is let go, as the law says), and the argument reads afterwards as before.
  Conditions: none of ours. The statement's own: what came in can be read; the library's variables errors.errorType, internal/strconv.uint64pow10 and math/bits' two tables hold what the program's text lays (the card ties that to the text).
-/
import Derived.Test.YthijiomaaiefaaaDoorAllW
import Derived.Test.YthijiomaaiefaaaDoorLd
import Derived.Test.YthijiomaaiefaaaDoorCards
import Derived.Test.YthijiomaaiefaaaDoorTie
import Derived.Deep.Slices
import Derived.Deep.Strs
import Derived.SizedLaws
import Derived.Lib.SmallJoins
import Derived.Carry
import Derived.SevenTiedAt
namespace Go.Proofs.YthijiomaaiefaaaDoor.trapAll
open Go.ChangeShapes Go.WideShapes Go.ChangeAt Go.RowKit Go.Joins Go.Deep

theorem three {α : Type} {l : List α} (h : l.length = 3) : ∃ a b c, l = [a, b, c] := by
  match l, h with
  | [a, b, c], _ => exact ⟨a, b, c, rfl⟩

section
variable {H : Type} {enc : TypeId × Value → H} {w : World} {base : Nat} {spare : Nat → Bool} {held : Bool}

theorem weightsAll_mem {P : Program} {e : TypeId} {d : DataW H} {n : Nat} (hn : n ∈ d.weights P e) : ∀ {l : List (DataW H)}, d ∈ l → n ∈ DataW.weightsAll P e l
  | [], h => by cases h
  | x :: r, h => by
    simp only [DataW.weightsAll, List.mem_append]
    rcases List.mem_cons.1 h with rfl | h
    · exact .inl hn
    · exact .inr (weightsAll_mem hn h)

/-- A list of ways that came in: nil, or at each place the way's three cells, and its reading. -/
theorem slice_ways {fuel : Nat} {cs : List Value} {x : DataW H × List MemPlace} (h : DataW.trod enc Tryd.prog w base spare held fuel 36 cs = some x) :
    cs = [.slice none 0 0] ∨ ∃ (a : Addr) (len cap : Nat) (elems sp : List (DataW H)), cs = [.slice (some a) len cap] ∧ len ≤ cap ∧ cap ≤ maxLen ∧ x.1 = .slice elems sp ∧
      ∀ i, i < len → ∃ (wh cd : Int) (tx : ByteArray), w.cell? (a.add (i * 3 + 0)) = some (.int .i64 wh) ∧ w.cell? (a.add (i * 3 + 1)) = some (.int .i64 cd) ∧ w.cell? (a.add (i * 3 + 2)) = some (.string tx) ∧
        (Lit.int .i64 wh).wf = true ∧ (Lit.int .i64 cd).wf = true ∧ (.agg [.lit (.int .i64 wh), .lit (.int .i64 cd), .lit (.string tx.data.toList)] : DataW H) ∈ elems := by
  rcases open_slice Tryd.underlying36 h with h0 | ⟨a, len, cap, m, n, D, Pl, hcs, _, hl, hm, hmm, hx, hi⟩
  · exact .inl h0.1
  · refine .inr ⟨a, len, cap, _, _, hcs, hl, hm, by rw [hx], fun i hil => ?_⟩
    have him : i < m := by
      rw [hmm]
      split <;> omega
    obtain ⟨cs', hc, ht'⟩ := hi i him
    have hC : Tryd.prog.cellsOf 23 = 3 := by kernel_rfl
    rw [hC] at hc
    obtain ⟨_, hcl, hat⟩ := World.cells?_some hc
    obtain ⟨y0, y1, y2, n', hxx, _, t0, t1, t2⟩ := trod_struct3 Tryd.underlying23 ht'
    obtain ⟨v0, v1, v2, rfl⟩ := three hcl
    have k3 : Tryd.prog.cellsOf 3 = 1 := by kernel_rfl
    have k9 : Tryd.prog.cellsOf 9 = 1 := by kernel_rfl
    simp only [k3, k9] at t0 t1 t2
    obtain ⟨wh, q0, r0, wf0⟩ := DataW.trod_int Tryd.underlying3 t0
    obtain ⟨cd, q1, r1, wf1⟩ := DataW.trod_int Tryd.underlying3 t1
    obtain ⟨tx, q2, r2, _⟩ := DataW.trod_string Tryd.underlying9 t2
    simp at q0 q1 q2
    subst q0 q1 q2
    refine ⟨wh, cd, tx, ?_, ?_, ?_, wf0, wf1, ?_⟩
    · rw [← add_add, hat 0 (by omega)]; rfl
    · rw [← add_add, hat 1 (by omega)]; rfl
    · rw [← add_add, hat 2 (by omega)]; rfl
    · have hD : D i = .agg [.lit (.int .i64 wh), .lit (.int .i64 cd), .lit (.string tx.data.toList)] := by
        have := congrArg Prod.fst hxx
        rw [r0, r1, r2] at this
        exact this
      rw [← hD]
      exact List.mem_map.2 ⟨i, List.mem_range.2 hil, rfl⟩
end

theorem way_sized {H : Type} {elems sp : List (DataW H)} {wh cd : Int} {l : List UInt8} (h : (DataW.weightsEach Tryd.prog [36] [.slice elems sp]).all (· ≤ reachBytes) = true)
    (hm : (.agg [.lit (.int .i64 wh), .lit (.int .i64 cd), .lit (.string l)] : DataW H) ∈ elems) : l.length ≤ 140737488351232 := by
  have h1 : l.length ∈ DataW.weightsAll Tryd.prog 23 elems := weightsAll_mem (by simp [DataW.weights, DataW.weightsEach, Tryd.underlying23]) hm
  have h2 := List.all_eq_true.1 h l.length (by simp [DataW.weightsEach, DataW.weights, Tryd.underlying36, h1])
  exact of_decide_eq_true h2

/-- What the walk is told of the ways that came in. -/
def IsWays (w : World) (a : Option Addr) (len : Nat) : Prop :=
  (a = none ∧ len = 0) ∨ ∃ x, a = some x ∧ len ≤ maxLen ∧ ∀ i, i < len → ∃ (wh cd : Int) (tx : ByteArray), w.cell? (x.add (i * 3 + 0)) = some (.int .i64 wh) ∧ w.cell? (x.add (i * 3 + 1)) = some (.int .i64 cd) ∧ w.cell? (x.add (i * 3 + 2)) = some (.string tx) ∧
    (Lit.int .i64 wh).wf = true ∧ (Lit.int .i64 cd).wf = true ∧ tx.size ≤ 140737488351232

theorem walk (a : Option Addr) (len cap : Nat) (w : World) (hl : Libs w) (h : IsWays w a len) :
    Calls Tryd.prog 4 #[.slice a len cap] w fun e w' => e = .returned (.bool true) ∧ Below w.heap.size w w' := by
  by_cases hlen : 100 < len
  · refine all_long a len cap w hlen ?_
    rcases h with ⟨_, rfl⟩ | ⟨x, _, hm, _⟩
    · omega
    · exact hm
  · rcases h with ⟨rfl, rfl⟩ | ⟨x, rfl, _, hcell⟩
    · exact all_some none 0 0 0 cap w hl (by omega) (fun _ => 0) (fun _ => 0) (fun _ => ⟨#[]⟩) (fun h => by omega) (fun i hi => by omega)
    · obtain ⟨b, off, spot⟩ := x
      by_cases h0 : len = 0
      · subst h0
        exact all_some _ 0 0 0 cap w hl (by omega) (fun _ => 0) (fun _ => 0) (fun _ => ⟨#[]⟩) (fun h => by omega) (fun i hi => by omega)
      · have hspot : spot = none := by
          obtain ⟨wh, cd, tx, c0, _⟩ := hcell 0 (by omega)
          simpa [Addr.add] using World.cell?_spot c0
        subst hspot
        have hb : b < w.heap.size := by
          obtain ⟨wh, cd, tx, c0, _⟩ := hcell 0 (by omega)
          exact World.block_lt_of_cell? w _ c0
        have hw : ∀ i, ∃ t : Int × Int × ByteArray, i < len → LWay w b (off + i * 3) t.1 t.2.1 t.2.2 := fun i => by
          by_cases hi : i < len
          · obtain ⟨wh, cd, tx, c0, c1, c2, w0, w1, hs⟩ := hcell i hi
            rw [add_plain] at c0 c1 c2
            refine ⟨(wh, cd, tx), fun _ => ⟨c0, ?_, ?_, ?_, ?_, hs⟩⟩
            · rw [show off + i * 3 + 1 = off + (i * 3 + 1) by omega]; exact c1
            · rw [show off + i * 3 + 1 + 1 = off + (i * 3 + 2) by omega]; exact c2
            · simpa [Lit.wf, IntKind.min, IntKind.max, IntKind.signed, IntKind.bits] using w0
            · simpa [Lit.wf, IntKind.min, IntKind.max, IntKind.signed, IntKind.bits] using w1
          · exact ⟨(0, 0, ⟨#[]⟩), fun h => absurd h hi⟩
        obtain ⟨f, hf⟩ := Classical.axiomOfChoice hw
        exact all_some _ b off len cap w hl (by omega) (fun i => (f i).1) (fun i => (f i).2.1) (fun i => (f i).2.2) (fun _ => ⟨rfl, hb⟩) (fun i hi => hf i hi)

set_option maxRecDepth 100000 in
theorem lifted (os : Os) (started : os.Started) (H : Type) (enc : TypeId × Value → H) :
    ReturnsInHanded {} Tryd.checked os 4 .any (fun w args => (Rows.trapAllSpec.pre enc Tryd.prog Tryd.f4 [] false w args ∧ laidMetH Tryd.prog Rows.trapAllRow.laid w) ∧ sizedMet enc Tryd.prog Tryd.f4 (OpenSpec.ofChange Rows.trapAllSpec) false w args)
      (Rows.trapAllSpec.post enc Tryd.prog Tryd.f4 false true false false) := by
  refine returnsInHanded_of_change_and (C := Tryd.checked) (X := fun w _ => laidMetH Tryd.prog Rows.trapAllRow.laid w) (fun _ _ _ hh h => h.of_heap hh) own started (by kernel_rfl) Tryd.func4
    (ChangeSpec.witness_shaped (enc := enc) (C := Tryd.checked) (os := os) (X := fun w _ => laidMetH Tryd.prog Rows.trapAllRow.laid w) false (World.doorLaid Tryd.prog 31 os) #[.slice none 0 0] 8 rfl (World.shaped_of_RefB (by kernel_rfl) (by kernel_rfl)) (by kernel_rfl) (by kernel_rfl) (by kernel_rfl) (door_met os _)) ?_
  intro W base args ds gs before hval0 hW _ hsz hL _
  have hval : ∀ (j : Nat) t v, Tryd.f4.params[j]? = some t → args[j]? = some v → Value.okWide Tryd.prog W .any base t v := hval0
  have hW' := hW
  obtain ⟨p, q, hA0, hV, rfl, hfz, hnd⟩ := hW
  have hA : DataW.TrodAll enc Tryd.prog W 0 (fun _ => true) true Tryd.f4.params.toList args.toList ds p := hA0
  rw [Tryd.params4] at hA hval
  obtain ⟨v0, d0, rfl, rfl, h0⟩ := trodAll_one hA
  obtain ⟨rfl, rfl⟩ := trodVars_none hV
  obtain ⟨a, len, cap, rfl⟩ := okWide_slice Tryd.underlying36 (hval 0 36 v0 rfl rfl)
  have k0 := h0
  have lt0 : ∀ x ∈ p, x.block < W.heap.size := by obtain ⟨m, hm⟩ := k0; exact DataW.trod_lt m _ _ _ hm
  have w0 : IsWays W a len := by
    obtain ⟨fuel, hf⟩ := h0
    rcases slice_ways hf with hcs | ⟨x, l, c, elems, sp, hcs, hl, hm, hd, hcell⟩
    · simp [Value.cells] at hcs
      exact .inl ⟨hcs.1, hcs.2.1⟩
    · simp [Value.cells] at hcs
      obtain ⟨rfl, rfl, rfl⟩ := hcs
      refine .inr ⟨x, rfl, Nat.le_trans hl hm, fun i hi => ?_⟩
      obtain ⟨wh, cd, tx, e0, e1, e2, f0, f1, hmem⟩ := hcell i hi
      refine ⟨wh, cd, tx, e0, e1, e2, f0, f1, ?_⟩
      have hd' : d0 = .slice elems sp := hd
      subst hd'
      have := way_sized hsz hmem
      simpa using this
  clear hA0 hval0
  refine (walk a len cap W (libs_of hL) w0).mono fun e W' ⟨he, bel⟩ => ?_
  subst he
  exact ⟨_, rfl, _, _, _, [], _, [], hW', trodAll_mk1 (shut_bool Tryd.underlying4 _), trodAll_mk1 (Below.trod laidOut (by kernel_rfl) (of_decide_eq_true (by kernel_rfl)) k0 bel lt0), rfl, bel.frame _, fun h => by cases h⟩

theorem over : Rows.TrapAllSaid :=
  OpenClaim.holds_of_wide 4 Tryd.f4 rfl rfl rfl rfl rfl rfl rfl ⟨rfl, rfl, rfl, rfl, rfl⟩ rfl rfl rfl rfl rfl (by kernel_rfl) Tryd.func4 (by kernel_rfl)
    (of_decide_eq_true (by kernel_rfl)) (by unfold Func.isWrapper; first | (rw [if_pos (by decide +kernel)]; kernel_rfl) | (rw [if_neg (by decide +kernel)]; exact ⟨rfl, rfl⟩))
    (fun os started H enc _ => lifted os started H enc)

theorem card : Rows.TrapAllCardSaid :=
  Claim7.holds_tied_plain_at .later [] [.data, .data, .data, .handle] true Rows.trapAllCard.stood.harness true
    over (fun _ h => by cases h) (by kernel_rfl) (fun _ h => by cases h) trapAll_row_tie rfl ⟨rfl, rfl⟩ (by kernel_rfl) rfl
    (fun f fn hf hfn => by
      obtain rfl : f = 4 := Option.some.inj ((show Tryd.prog.funcNamed Rows.trapAllRow.func = some 4 by kernel_rfl).symm.trans hf) |>.symm
      obtain rfl : fn = Tryd.f4 := (Option.some.inj (Tryd.func4.symm.trans hfn)).symm
      exact ⟨by kernel_rfl, fun j t ht => by
        rw [Tryd.params4] at ht
        have hm : t ∈ [36] := by simpa using Array.mem_of_getElem? ht
        have hall : ([36].all fun u => !Tryd.prog.wantsStandIn u) = true := by kernel_rfl
        exact (show Tryd.prog.wantsStandIn t = false by simpa using List.all_eq_true.1 hall t hm)⟩)
    (by kernel_rfl)
end Go.Proofs.YthijiomaaiefaaaDoor.trapAll
namespace Go.Proofs.YthijiomaaiefaaaDoor
theorem trapAll_holds : Rows.TrapAllCardSaid := trapAll.card
#print axioms trapAll_holds
end Go.Proofs.YthijiomaaiefaaaDoor
