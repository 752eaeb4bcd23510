/- Slots as plain data and in memory: what each call does to them, cells that are stored into. No condition. -/
import Derived.Test.YthcchaglloggjaaWt
import Derived.Test.YthcchaglloggjaaWq
namespace Go.Proofs.Ythcchaglloggjaa
open Go.RowKit
set_option linter.unusedVariables false
set_option maxRecDepth 100000

/-- An answer whole, with its stamp. -/
structure An where
  code : Int
  found : Bool
  val : List UInt8
  rows : List Pr
  stamp : Int
/-- A slot: a state, a request, an answer. -/
structure Sl where
  st : Int
  r : Rq
  a : An
def an0 : An := ⟨0, false, [], [], 0⟩
def sl0 : Sl := ⟨0, rq0, an0⟩
def sl (L : List Sl) (i : Nat) : Sl := L.getD i sl0
theorem sl_set {L : List Sl} {i j : Nat} {x : Sl} (h : i < L.length) : sl (L.set i x) j = if j = i then x else sl L j := by
  unfold sl
  simp only [List.getD_eq_getElem?_getD]
  by_cases e : j = i
  · subst e
    rw [List.getElem?_set_self h, if_pos rfl]
    rfl
  · rw [List.getElem?_set_ne (fun h => e h.symm), if_neg e]

/-- The first place of which something is so; -1: there is none. -/
def fst (p : Nat → Bool) : Nat → Int
  | 0 => -1
  | n + 1 => if fst p n = -1 then (if p n then n else -1) else fst p n
theorem fst_no {p : Nat → Bool} : ∀ {n : Nat}, (∀ k, k < n → p k = false) → fst p n = -1
  | 0, _ => rfl
  | n + 1, h => by rw [fst, if_pos (fst_no fun k hk => h k (by omega)), h n (by omega)]; rfl
theorem fst_at {p : Nat → Bool} {i : Nat} (hi : p i = true) (hn : ∀ k, k < i → p k = false) : ∀ {n : Nat}, i < n → fst p n = i
  | n + 1, h => by
    by_cases e : i = n
    · subst e
      rw [fst, if_pos (fst_no hn), hi]
      rfl
    · have h1 := fst_at hi hn (n := n) (by omega)
      rw [fst, h1, if_neg (by omega)]
theorem fst_some {p : Nat → Bool} : ∀ {n : Nat}, (∃ i : Nat, i < n ∧ fst p n = i ∧ p i = true ∧ ∀ k, k < i → p k = false) ∨ (fst p n = -1 ∧ ∀ k, k < n → p k = false)
  | 0 => .inr ⟨rfl, fun k hk => absurd hk (by omega)⟩
  | n + 1 => by
    rcases fst_some (p := p) (n := n) with ⟨i, h1, h2, h3, h4⟩ | ⟨h1, h2⟩
    · exact .inl ⟨i, by omega, by rw [fst, h2, if_neg (by omega)], h3, h4⟩
    · by_cases hn : p n = true
      · exact .inl ⟨n, by omega, by rw [fst, if_pos h1, hn]; rfl, hn, h2⟩
      · refine .inr ⟨by rw [fst, if_pos h1, if_neg hn], fun k hk => ?_⟩
        rcases Nat.lt_succ_iff_lt_or_eq.1 hk with hk | rfl
        · exact h2 k hk
        · simpa using hn

/-- What the calls tell, and leave. -/
def stOf (L : List Sl) (i : Int) : Int := if 0 ≤ i ∧ i < L.length then (sl L i.toNat).st else -1
def firstS (L : List Sl) (s : Int) : Int := fst (fun k => (sl L k).st == s) L.length
def servesB (L : List Sl) (c : Int) : Bool := decide (0 ≤ fst (fun k => (sl L k).st != 0 && (sl L k).r.cl == c) L.length)
def postK (L : List Sl) (r : Rq) : Int := if mayQ r then (if servesB L r.cl then 4 else if firstS L 0 = -1 then 5 else 0) else 1
def postI (L : List Sl) (r : Rq) : Int := if postK L r = 0 then firstS L 0 else 0
def postL (L : List Sl) (r : Rq) : List Sl := if postK L r = 0 then L.set (firstS L 0).toNat ⟨1, r, an0⟩ else L
def turnK (L : List Sl) (i a b : Int) : Int := if stOf L i = -1 then 6 else if stOf L i = a ∨ stOf L i = b then 0 else 10
def turnL (L : List Sl) (i t a b : Int) : List Sl := if turnK L i a b = 0 then L.set i.toNat ⟨t, (sl L i.toNat).r, (sl L i.toNat).a⟩ else L
def ansL (L : List Sl) (i : Int) (x : An) : List Sl := if turnK L i 2 2 = 0 then L.set i.toNat ⟨3, (sl L i.toNat).r, x⟩ else L
def takeK (L : List Sl) (i c q : Int) : Int :=
  if stOf L i = -1 then 6 else if stOf L i = 0 ∨ (sl L i.toNat).r.cl ≠ c ∨ (sl L i.toNat).r.sq ≠ q then 3 else if stOf L i < 3 then 10 else if stOf L i = 4 then 8 else 0
def takeA (L : List Sl) (i c q : Int) : An := if takeK L i c q = 0 then (sl L i.toNat).a else an0
def takeL (L : List Sl) (i c q : Int) : List Sl := if takeK L i c q = 0 ∨ takeK L i c q = 8 then L.set i.toNat sl0 else L
/-- States are 0 to 4; what is empty has no request. -/
def OkL (L : List Sl) : Prop := ∀ j, 0 ≤ (sl L j).st ∧ (sl L j).st ≤ 4 ∧ ((sl L j).st = 0 → sl L j = sl0)
theorem stOf_in {L : List Sl} {j : Nat} (h : j < L.length) : stOf L j = (sl L j).st := by
  unfold stOf
  rw [if_pos ⟨by omega, by omega⟩, Int.toNat_natCast]
theorem stOf_out {L : List Sl} {i : Int} (h : i < 0 ∨ (L.length : Int) ≤ i) : stOf L i = -1 := by
  unfold stOf
  rw [if_neg (by omega)]
theorem in_out (n : Nat) (i : Int) : (∃ j : Nat, i = j ∧ j < n) ∨ (i < 0 ∨ (n : Int) ≤ i) := by
  by_cases h : 0 ≤ i ∧ i < n
  · exact .inl ⟨i.toNat, by omega, by omega⟩
  · exact .inr (by omega)
theorem OkL.set {L : List Sl} (h : OkL L) {i : Nat} (hi : i < L.length) {x : Sl} (h0 : 0 ≤ x.st) (h4 : x.st ≤ 4) (hz : x.st = 0 → x = sl0) : OkL (L.set i x) := fun j => by
  rw [sl_set hi]
  by_cases e : j = i
  · rw [if_pos e]; exact ⟨h0, h4, hz⟩
  · rw [if_neg e]; exact h j
theorem stOf_five {L : List Sl} (h : OkL L) (i : Int) : stOf L i = -1 ∨ stOf L i = 0 ∨ stOf L i = 1 ∨ stOf L i = 2 ∨ stOf L i = 3 ∨ stOf L i = 4 := by
  rcases in_out L.length i with ⟨j, rfl, hj⟩ | hi
  · rw [stOf_in hj]
    have := h j
    omega
  · exact .inl (stOf_out hi)
theorem stOf_lt {L : List Sl} {i : Int} (h : stOf L i ≠ -1) : 0 ≤ i ∧ i < L.length := by
  rcases in_out L.length i with ⟨j, rfl, hj⟩ | hi
  · omega
  · exact absurd (stOf_out hi) h
theorem len_post (L : List Sl) (r : Rq) : (postL L r).length = L.length := by unfold postL; split <;> simp
theorem len_turn (L : List Sl) (i t a b : Int) : (turnL L i t a b).length = L.length := by unfold turnL; split <;> simp
theorem len_ans (L : List Sl) (i : Int) (x : An) : (ansL L i x).length = L.length := by unfold ansL; split <;> simp
theorem len_take (L : List Sl) (i c q : Int) : (takeL L i c q).length = L.length := by unfold takeL; split <;> simp
theorem postK_zero {L : List Sl} {r : Rq} (h : postK L r = 0) : mayQ r = true ∧ servesB L r.cl = false ∧ ∃ i : Nat, firstS L 0 = i ∧ i < L.length ∧ (sl L i).st = 0 := by
  unfold postK at h
  by_cases h1 : mayQ r = true
  · rw [if_pos h1] at h
    by_cases h2 : servesB L r.cl = true
    · rw [if_pos h2] at h; omega
    · rw [if_neg h2] at h
      refine ⟨h1, by simpa using h2, ?_⟩
      rcases fst_some (p := fun k => (sl L k).st == 0) (n := L.length) with ⟨i, g1, g2, g3, g4⟩ | ⟨g1, g2⟩
      · exact ⟨i, g2, g1, by simpa using g3⟩
      · rw [if_pos (show firstS L 0 = -1 from g1)] at h; omega
  · rw [if_neg h1] at h; omega
theorem ok_post {L : List Sl} (h : OkL L) (r : Rq) : OkL (postL L r) := by
  unfold postL
  split
  · rename_i hk
    obtain ⟨-, -, i, e, hi, -⟩ := postK_zero hk
    rw [e, Int.toNat_natCast]
    exact h.set hi (by show (0 : Int) ≤ 1; omega) (by show (1 : Int) ≤ 4; omega) (fun h => by cases h)
  · exact h
theorem turnK_zero {L : List Sl} {i a b : Int} (h : turnK L i a b = 0) : ∃ j : Nat, i = j ∧ j < L.length ∧ ((sl L j).st = a ∨ (sl L j).st = b) := by
  unfold turnK at h
  rcases in_out L.length i with ⟨j, rfl, hj⟩ | hi
  · rw [stOf_in hj] at h
    refine ⟨j, rfl, hj, ?_⟩
    by_cases h1 : (sl L j).st = -1
    · rw [if_pos h1] at h; omega
    · rw [if_neg h1] at h
      by_cases h2 : (sl L j).st = a ∨ (sl L j).st = b
      · exact h2
      · rw [if_neg h2] at h; omega
  · rw [stOf_out hi, if_pos rfl] at h; omega
theorem ok_turn {L : List Sl} (h : OkL L) (i t a b : Int) (h1 : 1 ≤ t) (h4 : t ≤ 4) : OkL (turnL L i t a b) := by
  unfold turnL
  split
  · rename_i hk
    obtain ⟨j, rfl, hj, -⟩ := turnK_zero hk
    rw [Int.toNat_natCast]
    exact h.set hj (by show 0 ≤ t; omega) h4 (fun e => by have : t = 0 := e; omega)
  · exact h
theorem ok_ans {L : List Sl} (h : OkL L) (i : Int) (x : An) : OkL (ansL L i x) := by
  unfold ansL
  split
  · rename_i hk
    obtain ⟨j, rfl, hj, -⟩ := turnK_zero hk
    rw [Int.toNat_natCast]
    exact h.set hj (by show (0 : Int) ≤ 3; omega) (by show (3 : Int) ≤ 4; omega) (fun h => by cases h)
  · exact h
theorem takeK_in {L : List Sl} {i c q : Int} (h : takeK L i c q ≠ 6) : ∃ j : Nat, i = j ∧ j < L.length := by
  rcases in_out L.length i with ⟨j, rfl, hj⟩ | hi
  · exact ⟨j, rfl, hj⟩
  · unfold takeK at h
    rw [stOf_out hi, if_pos rfl] at h
    exact absurd rfl h
theorem ok_take {L : List Sl} (h : OkL L) (i c q : Int) : OkL (takeL L i c q) := by
  unfold takeL
  split
  · rename_i hk
    obtain ⟨j, rfl, hj⟩ := takeK_in (L := L) (i := i) (c := c) (q := q) (by omega)
    rw [Int.toNat_natCast]
    exact h.set hj (by show (0 : Int) ≤ 0; omega) (by show (0 : Int) ≤ 4; omega) (fun _ => rfl)
  · exact h
theorem postK_le (L : List Sl) (r : Rq) : 0 ≤ postK L r ∧ postK L r ≤ 11 := by unfold postK; split <;> (try split) <;> (try split) <;> omega
theorem turnK_le (L : List Sl) (i a b : Int) : 0 ≤ turnK L i a b ∧ turnK L i a b ≤ 11 := by unfold turnK; split <;> (try split) <;> omega
theorem takeK_le (L : List Sl) (i c q : Int) : 0 ≤ takeK L i c q ∧ takeK L i c q ≤ 11 := by unfold takeK; split <;> (try split) <;> (try split) <;> (try split) <;> omega

/-- Cells stored one behind the other. -/
def stores (w : World) (b : Nat) : Nat → List Value → World
  | _, [] => w
  | o, u :: us => stores (w.setCell ⟨b, o, none⟩ u) b (o + 1) us
def puts (xs : List Value) : Nat → List Value → List Value
  | _, [] => xs
  | o, u :: us => puts (xs.set o u) (o + 1) us
theorem puts_len : ∀ (us : List Value) (xs : List Value) (o : Nat), (puts xs o us).length = xs.length
  | [], _, _ => rfl
  | u :: us, xs, o => by rw [puts, puts_len us]; simp
theorem puts_out : ∀ (us : List Value) (xs : List Value) (o j : Nat), (j < o ∨ o + us.length ≤ j) → (puts xs o us)[j]? = xs[j]?
  | [], _, _, _, _ => rfl
  | u :: us, xs, o, j, h => by
    rw [puts, puts_out us _ _ _ (by simp at h; omega), List.getElem?_set_ne (by simp at h; omega)]
theorem puts_in : ∀ (us : List Value) (xs : List Value) (o t : Nat), t < us.length → o + us.length ≤ xs.length → (puts xs o us)[o + t]? = us[t]?
  | [], _, _, _, h, _ => absurd h (by simp)
  | u :: us, xs, o, 0, h, hl => by
    rw [puts, puts_out us _ _ _ (by omega), Nat.add_zero, List.getElem?_set_self (by simp at hl; omega)]
    rfl
  | u :: us, xs, o, t + 1, h, hl => by
    rw [puts, show o + (t + 1) = o + 1 + t by omega, puts_in us _ _ _ (by simpa using h) (by simp at hl ⊢; omega)]
    rfl
theorem stores_obj {b : Nat} {T : TypeId} {fr : Nat × Nat} : ∀ (us : List Value) (w : World) (xs : List Value) (o : Nat), w.heap[b]? = some (.cells xs.toArray T fr) → (stores w b o us).heap[b]? = some (.cells (puts xs o us).toArray T fr)
  | [], _, _, _, h => h
  | u :: us, w, xs, o, h => by
    rw [stores, puts]
    refine stores_obj us _ _ _ ?_
    simp [World.setCell, Array.getElem?_modify, h]
theorem stores_size (b : Nat) : ∀ (us : List Value) (w : World) (o : Nat), (stores w b o us).heap.size = w.heap.size
  | [], _, _ => rfl
  | u :: us, w, o => by rw [stores, stores_size b us]; simp [World.setCell]
theorem stores_other {b g : Nat} (h : g ≠ b) : ∀ (us : List Value) (w : World) (o : Nat), (stores w b o us).heap[g]? = w.heap[g]?
  | [], _, _ => rfl
  | u :: us, w, o => by rw [stores, stores_other h us, Below.heap_setCell _ _ _ _ h]

/-- But for one block nothing has turned. -/
structure Chg (b : Nat) (w w' : World) : Prop where
  os : w'.os = w.os
  tape : w'.tape = w.tape
  output : w'.output = w.output
  size : w.heap.size ≤ w'.heap.size
  block : ∀ k, k < w.heap.size → k ≠ b → w'.heap[k]? = w.heap[k]?
theorem Chg.refl (b : Nat) (w : World) : Chg b w w := ⟨rfl, rfl, rfl, Nat.le_refl _, fun _ _ _ => rfl⟩
theorem Chg.trans {b : Nat} {u v w : World} (h : Chg b u v) (k : Chg b v w) : Chg b u w :=
  ⟨k.os.trans h.os, k.tape.trans h.tape, k.output.trans h.output, Nat.le_trans h.size k.size, fun i hi hb => (k.block i (Nat.lt_of_lt_of_le hi h.size) hb).trans (h.block i hi hb)⟩
theorem below_chg {b : Nat} {w w' : World} (h : Below w.heap.size w w') : Chg b w w' := ⟨h.os, h.tape, h.output, h.size, fun k hk _ => h.block k hk⟩
theorem Chg.below {b B : Nat} {w w' : World} (h : Chg b w w') (hb : B ≤ b) (hB : B ≤ w.heap.size) : Below B w w' := ⟨h.os, h.tape, h.output, h.size, fun k hk => h.block k (by omega) (by omega)⟩
theorem Chg.agree {b : Nat} {C : Nat → Prop} {w w' : World} (h : Chg b w w') (hC : ¬ C b) : Agree C w w' := ⟨h.size, fun k hk hl => h.block k hl (fun e => hC (e ▸ hk))⟩
theorem chg_set (b : Nat) (w : World) (o : Nat) (u : Value) : Chg b w (w.setCell ⟨b, o, none⟩ u) := ⟨rfl, rfl, rfl, by simp [World.setCell], fun k _ hk => Below.heap_setCell _ _ _ _ hk⟩
theorem chg_stores (b : Nat) : ∀ (us : List Value) (w : World) (o : Nat), Chg b w (stores w b o us)
  | [], w, _ => Chg.refl b w
  | u :: us, w, o => by rw [stores]; exact (chg_set b w o u).trans (chg_stores b us _ _)

/-- An answer's value and what it reads as. -/
def anV (h : Sh) (a : An) : Value := .agg #[.int .i64 a.code, .bool a.found, .slice h.A h.n h.c, .slice h.B h.m h.d, .int .u64 a.stamp]
def AnR (w : World) (h : Sh) (a : An) : Prop := Byt w h.A h.n a.val ∧ Prs w h.B h.m h.d a.rows
theorem AnR.below {w w' : World} {h : Sh} {a : An} (hr : AnR w h a) (hb : Below w.heap.size w w') : AnR w' h a := ⟨hr.1.below hb, hr.2.below hb⟩
def qh0 : Qh := ⟨none, 0, 0, none, 0, 0, none, 0, 0, none, 0, 0⟩
theorem rq0_on (C : Nat → Prop) (w : World) : On C w (RqR · qh0 rq0) := fun w' _ => ⟨byt_none w', byt_none w', byt_none w', byt_none w'⟩
theorem an0_on (C : Nat → Prop) (w : World) : On C w (AnR · sh0 an0) := fun w' _ => ⟨byt_none w', prs_nil w'⟩

/-- A slot's fourteen cells. -/
def slC (h : Qh) (k : Sh) (x : Sl) : List Value :=
  [.int .i64 x.st, .int .i64 x.r.cl, .int .i64 x.r.sq, .int .i64 x.r.kind, .slice h.A h.n h.c, .slice h.B h.m h.d, .slice h.C h.o h.p, .slice h.D h.q h.s, .int .i64 x.r.limit, .int .i64 x.a.code, .bool x.a.found, .slice k.A k.n k.c, .slice k.B k.m k.d, .int .u64 x.a.stamp]
def SlotIs (C : Nat → Prop) (w : World) (xs : List Value) (j : Nat) (x : Sl) : Prop :=
  ∃ h k, (∀ t, t < 14 → xs[j * 14 + t]? = (slC h k x)[t]?) ∧ On C w (RqR · h x.r) ∧ On C w (AnR · k x.a)
/-- Slots in a block of their own, that read as the list L; what they lead to lies in blocks that C names. -/
def SlM (C : Nat → Prop) (w : World) (T : TypeId) (b n : Nat) (L : List Sl) : Prop :=
  ∃ xs : List Value, w.heap[b]? = some (.cells xs.toArray T (0, 0)) ∧ xs.length = n * 14 ∧ L.length = n ∧ ∀ j, j < n → SlotIs C w xs j (sl L j)
theorem SlM.lt {C : Nat → Prop} {w : World} {T : TypeId} {b n : Nat} {L : List Sl} (h : SlM C w T b n L) : b < w.heap.size := by
  obtain ⟨xs, h1, -⟩ := h
  exact (Array.getElem?_eq_some_iff.1 h1).1
theorem SlM.len {C : Nat → Prop} {w : World} {T : TypeId} {b n : Nat} {L : List Sl} (h : SlM C w T b n L) : L.length = n := by
  obtain ⟨xs, -, -, h1, -⟩ := h
  exact h1
theorem SlM.keep {C : Nat → Prop} {w w' : World} {T : TypeId} {b n : Nat} {L : List Sl} (h : SlM C w T b n L) (ha : Agree C w w') (hb : w'.heap[b]? = w.heap[b]?) : SlM C w' T b n L := by
  obtain ⟨xs, h1, h2, h3, h4⟩ := h
  refine ⟨xs, hb.trans h1, h2, h3, fun j hj => ?_⟩
  obtain ⟨h, k, e, r1, r2⟩ := h4 j hj
  exact ⟨h, k, e, r1.keep ha, r2.keep ha⟩
theorem SlM.below {C : Nat → Prop} {w w' : World} {T : TypeId} {b n : Nat} {L : List Sl} (h : SlM C w T b n L) (hb : Below w.heap.size w w') : SlM C w' T b n L := h.keep (below_all hb) (hb.block b h.lt)
theorem SlM.frz {C : Nat → Prop} {w : World} {T : TypeId} {b n : Nat} {L : List Sl} (h : SlM C w T b n L) (o : Nat) : w.frozen? ⟨b, o, none⟩ = false := by
  obtain ⟨xs, h1, -⟩ := h
  simp [World.frozen?, h1]
/-- A slot's cells in memory. -/
def SlAt (w : World) (b o : Nat) (h : Qh) (k : Sh) (x : Sl) : Prop :=
  w.cell? ⟨b, o, none⟩ = some (.int .i64 x.st) ∧ w.cell? ⟨b, o + 1, none⟩ = some (.int .i64 x.r.cl) ∧ w.cell? ⟨b, o + 2, none⟩ = some (.int .i64 x.r.sq) ∧ w.cell? ⟨b, o + 3, none⟩ = some (.int .i64 x.r.kind) ∧
    w.cell? ⟨b, o + 4, none⟩ = some (.slice h.A h.n h.c) ∧ w.cell? ⟨b, o + 5, none⟩ = some (.slice h.B h.m h.d) ∧ w.cell? ⟨b, o + 6, none⟩ = some (.slice h.C h.o h.p) ∧ w.cell? ⟨b, o + 7, none⟩ = some (.slice h.D h.q h.s) ∧ w.cell? ⟨b, o + 8, none⟩ = some (.int .i64 x.r.limit) ∧
    w.cell? ⟨b, o + 9, none⟩ = some (.int .i64 x.a.code) ∧ w.cell? ⟨b, o + 10, none⟩ = some (.bool x.a.found) ∧ w.cell? ⟨b, o + 11, none⟩ = some (.slice k.A k.n k.c) ∧ w.cell? ⟨b, o + 12, none⟩ = some (.slice k.B k.m k.d) ∧ w.cell? ⟨b, o + 13, none⟩ = some (.int .u64 x.a.stamp)
theorem SlAt.below {w w' : World} {b o B : Nat} {h : Qh} {k : Sh} {x : Sl} (hx : SlAt w b o h k x) (hb : Below B w w') (hl : b < B) : SlAt w' b o h k x := by
  obtain ⟨e0, e1, e2, e3, e4, e5, e6, e7, e8, e9, e10, e11, e12, e13⟩ := hx
  exact ⟨(hb.cell (p := ⟨b, _, none⟩) hl).trans e0, (hb.cell (p := ⟨b, _, none⟩) hl).trans e1, (hb.cell (p := ⟨b, _, none⟩) hl).trans e2, (hb.cell (p := ⟨b, _, none⟩) hl).trans e3, (hb.cell (p := ⟨b, _, none⟩) hl).trans e4, (hb.cell (p := ⟨b, _, none⟩) hl).trans e5, (hb.cell (p := ⟨b, _, none⟩) hl).trans e6,
    (hb.cell (p := ⟨b, _, none⟩) hl).trans e7, (hb.cell (p := ⟨b, _, none⟩) hl).trans e8, (hb.cell (p := ⟨b, _, none⟩) hl).trans e9, (hb.cell (p := ⟨b, _, none⟩) hl).trans e10, (hb.cell (p := ⟨b, _, none⟩) hl).trans e11, (hb.cell (p := ⟨b, _, none⟩) hl).trans e12, (hb.cell (p := ⟨b, _, none⟩) hl).trans e13⟩
theorem SlM.at_ {C : Nat → Prop} {w : World} {T : TypeId} {b n : Nat} {L : List Sl} (h : SlM C w T b n L) {j : Nat} (hj : j < n) :
    ∃ (h : Qh) (k : Sh), SlAt w b (j * 14) h k (sl L j) ∧ On C w (RqR · h (sl L j).r) ∧ On C w (AnR · k (sl L j).a) := by
  obtain ⟨xs, h1, h2, h3, h4⟩ := h
  obtain ⟨h, k, e, r1, r2⟩ := h4 j hj
  have hc : ∀ t, t < 14 → w.cell? ⟨b, j * 14 + t, none⟩ = (slC h k (sl L j))[t]? := fun t ht => by
    rw [← e t ht]
    simp [World.cell?, h1]
  exact ⟨h, k, ⟨hc 0 (by omega), hc 1 (by omega), hc 2 (by omega), hc 3 (by omega), hc 4 (by omega), hc 5 (by omega), hc 6 (by omega), hc 7 (by omega), hc 8 (by omega), hc 9 (by omega), hc 10 (by omega), hc 11 (by omega), hc 12 (by omega), hc 13 (by omega)⟩, r1, r2⟩
/-- Some of a slot's cells are stored into. -/
theorem SlM.put {C : Nat → Prop} {w : World} {T : TypeId} {b n : Nat} {L : List Sl} (hm : SlM C w T b n L) (hC : ¬ C b) {i o : Nat} (hi : i < n) {us : List Value} {x : Sl} {h h' : Qh} {k k' : Sh} (ho : o + us.length ≤ 14)
    (hx : SlAt w b (i * 14) h k (sl L i)) (he : ∀ t, t < 14 → (slC h' k' x)[t]? = if o ≤ t ∧ t < o + us.length then us[t - o]? else (slC h k (sl L i))[t]?) (r1 : On C w (RqR · h' x.r)) (r2 : On C w (AnR · k' x.a)) :
    SlM C (stores w b (i * 14 + o) us) T b n (L.set i x) := by
  obtain ⟨xs, h1, h2, h3, h4⟩ := hm
  have hxs : ∀ t, t < 14 → xs[i * 14 + t]? = (slC h k (sl L i))[t]? := fun t ht => by
    obtain ⟨e0, e1, e2, e3, e4, e5, e6, e7, e8, e9, e10, e11, e12, e13⟩ := hx
    have hc : xs[i * 14 + t]? = w.cell? ⟨b, i * 14 + t, none⟩ := by simp [World.cell?, h1]
    rw [hc]
    have : t = 0 ∨ t = 1 ∨ t = 2 ∨ t = 3 ∨ t = 4 ∨ t = 5 ∨ t = 6 ∨ t = 7 ∨ t = 8 ∨ t = 9 ∨ t = 10 ∨ t = 11 ∨ t = 12 ∨ t = 13 := by omega
    rcases this with rfl | rfl | rfl | rfl | rfl | rfl | rfl | rfl | rfl | rfl | rfl | rfl | rfl | rfl
    · exact e0
    · exact e1
    · exact e2
    · exact e3
    · exact e4
    · exact e5
    · exact e6
    · exact e7
    · exact e8
    · exact e9
    · exact e10
    · exact e11
    · exact e12
    · exact e13
  have hag := (chg_stores b us w (i * 14 + o)).agree hC
  refine ⟨puts xs (i * 14 + o) us, stores_obj us w xs _ h1, by rw [puts_len]; exact h2, by rw [List.length_set]; exact h3, fun j hj => ?_⟩
  rw [sl_set (by omega)]
  by_cases e : j = i
  · subst e
    rw [if_pos rfl]
    refine ⟨h', k', fun t ht => ?_, r1.keep hag, r2.keep hag⟩
    rw [he t ht]
    by_cases ht2 : o ≤ t ∧ t < o + us.length
    · rw [if_pos ht2, show j * 14 + t = j * 14 + o + (t - o) by omega, puts_in us _ _ _ (by omega) (by omega)]
    · rw [if_neg ht2, puts_out us _ _ _ (by omega), hxs t ht]
  · rw [if_neg e]
    obtain ⟨h, k, e1, s1, s2⟩ := h4 j hj
    refine ⟨h, k, fun t ht => ?_, s1.keep hag, s2.keep hag⟩
    rw [puts_out us _ _ _ (by omega), e1 t ht]
/-- New slots, all empty. -/
def zs14 : Array Value := #[.int .i64 0, .int .i64 0, .int .i64 0, .int .i64 0, .slice none 0 0, .slice none 0 0, .slice none 0 0, .slice none 0 0, .int .i64 0, .int .i64 0, .bool false, .slice none 0 0, .slice none 0 0, .int .u64 0]
theorem sl_new (n j : Nat) : sl (List.replicate n sl0) j = sl0 := by
  unfold sl
  rw [List.getD_eq_getElem?_getD]
  by_cases h : j < n
  · simp [h]
  · simp [h]
theorem ok_new (n : Nat) : OkL (List.replicate n sl0) := fun j => by
  rw [sl_new]
  exact ⟨Int.le_refl _, by show (0 : Int) ≤ 4; omega, fun _ => rfl⟩
theorem slM_new (C : Nat → Prop) (w : World) (T : TypeId) (n : Nat) : SlM C (w.alloc (.cells (madeCells zs14 (n * 14)) T)) T w.heap.size n (List.replicate n sl0) := by
  refine ⟨(madeCells zs14 (n * 14)).toList, Deep.blk_alloc_new _ _, by simp [size_madeCells], by simp, fun j hj => ?_⟩
  rw [sl_new]
  refine ⟨qh0, sh0, fun t ht => ?_, rq0_on _ _, an0_on _ _⟩
  have h14 : zs14.size = 14 := rfl
  have hlt : j * 14 + t < n * 14 := by omega
  rw [Array.getElem?_toList]
  unfold madeCells
  rw [Array.getElem?_map, Array.getElem?_range, if_pos hlt, h14]
  rw [show (some (j * 14 + t)).map (fun x => zs14[x % 14]!) = some (zs14[(j * 14 + t) % 14]!) from rfl, show (j * 14 + t) % 14 = t by omega]
  have : t = 0 ∨ t = 1 ∨ t = 2 ∨ t = 3 ∨ t = 4 ∨ t = 5 ∨ t = 6 ∨ t = 7 ∨ t = 8 ∨ t = 9 ∨ t = 10 ∨ t = 11 ∨ t = 12 ∨ t = 13 := by omega
  rcases this with rfl | rfl | rfl | rfl | rfl | rfl | rfl | rfl | rfl | rfl | rfl | rfl | rfl | rfl <;> rfl
end Go.Proofs.Ythcchaglloggjaa
