/- JournalOnce, plainly and in memory: what is answered is what was posted, in order, each once. No condition. -/
import Derived.Test.YthcchaglloggjaaJi
namespace Go.Proofs.Ythcchaglloggjaa
open Go.RowKit
set_option linter.unusedVariables false
set_option maxRecDepth 100000

/-- What the law answers. -/
def stA (r : Rq) : An := ⟨IntKind.i64.wrap (1000 + r.cl), r.sq.tmod 2 == 1, [], [], 0⟩
def stL (g : Gr) : List An := g.map fun x => stA x.2
theorem stA_sm (r : Rq) : SmA (stA r) := ⟨Nat.zero_le _, Nat.zero_le _, fun p hp => by cases hp⟩
theorem zipA_st (g : Gr) : zipA g (stL g) = g.map fun x => (x.1, stA x.2) := by
  unfold zipA stL
  induction g with
  | nil => rfl
  | cons x g ih => simp only [List.map_cons, List.zip_cons_cons]; rw [ih]
/-- What holds of what is not applied, not told, and told. -/
structure OnI (all : Gr) (T : List Gr) (R : List Ry) (seen : List Int) (ap : Nat) : Prop where
  slots : seen ++ (R.map Prod.fst ++ T.flatten.map Prod.fst) = all.map Prod.fst
  pend : ∀ x ∈ R, ∃ y ∈ all, x = (y.1, stA y.2)
  todo : ∀ y ∈ T.flatten, y ∈ all
  cnt : ap + sizeT T = all.length
  ok : OkJ T R
theorem OnI.apply {all : Gr} {g : Gr} {T : List Gr} {R : List Ry} {seen : List Int} {ap : Nat} (h : OnI all (g :: T) R seen ap) : OnI all T (R ++ zipA g (stL g)) seen (ap + g.length) := by
  obtain ⟨h1, h2, h3, h4, h5⟩ := h
  rw [zipA_st]
  refine ⟨?_, fun x hx => ?_, fun y hy => h3 y (by simp; exact .inr (by simpa using hy)), by rw [sizeT_cons] at h4; omega, ⟨fun x hx => h5.ne x (by simp [hx]), fun x hx => h5.sm x (by simp [hx]), fun x hx => ?_, ?_⟩⟩
  · rw [← h1]
    simp [List.map_append, List.map_map, Function.comp_def]
  · rcases List.mem_append.1 hx with hx | hx
    · exact h2 x hx
    · obtain ⟨y, hy, rfl⟩ := List.mem_map.1 hx
      exact ⟨y, h3 y (by simp [hy]), rfl⟩
  · rcases List.mem_append.1 hx with hx | hx
    · exact h5.an x hx
    · obtain ⟨y, hy, rfl⟩ := List.mem_map.1 hx
      exact stA_sm _
  · have := h5.few
    rw [sizeT_cons] at this
    simp
    omega
theorem OnI.tell {all : Gr} {T : List Gr} {x : Ry} {R : List Ry} {seen : List Int} {ap : Nat} (h : OnI all T (x :: R) seen ap) : OnI all T R (seen ++ [x.1]) ap := by
  obtain ⟨h1, h2, h3, h4, h5⟩ := h
  refine ⟨by rw [← h1]; simp, fun y hy => h2 y (by simp [hy]), h3, h4, ⟨h5.ne, h5.sm, fun y hy => h5.an y (by simp [hy]), ?_⟩⟩
  have := h5.few
  simp at this
  omega
theorem OnI.new {all : Gr} {T : List Gr} {x : Ry} {R : List Ry} {seen : List Int} {ap : Nat} (h : OnI all T (x :: R) seen ap) (hd : (all.map Prod.fst).Nodup) : x.1 ∉ seen := fun hm => by
  rw [← h.slots] at hd
  rw [List.nodup_append] at hd
  exact hd.2.2 x.1 hm x.1 (by simp) rfl
theorem OnI.lens {all : Gr} {T : List Gr} {R : List Ry} {seen : List Int} {ap : Nat} (h : OnI all T R seen ap) : seen.length + (R.length + sizeT T) = all.length := by
  have := congrArg List.length h.slots
  simp only [List.length_append, List.length_map] at this
  rw [List.length_flatten] at this
  exact this

/-- All that a batch holds. -/
def allG (L : List Int) (M : List Rq) (g : Nat → Nat) (n : Nat) : Gr := (grT L M (grpL M g n)).flatten
theorem allG_eq (L : List Int) (M : List Rq) (g : Nat → Nat) (n : Nat) : allG L M g n = (List.range n).map fun k => (it L (g k), gq M (g k)) := by
  unfold allG grT
  rw [← List.map_flatten, grpL_flat, List.map_map]
  rfl
theorem allG_len (L : List Int) (M : List Rq) (g : Nat → Nat) (n : Nat) : (allG L M g n).length = n := by rw [allG_eq]; simp
theorem allG_mem {L : List Int} {M : List Rq} {g : Nat → Nat} {n : Nat} (ho : OrdI M n g) {y : Int × Rq} (hy : y ∈ allG L M g n) : ∃ i, i < n ∧ y = (it L i, gq M i) := by
  rw [allG_eq] at hy
  obtain ⟨k, hk, rfl⟩ := List.mem_map.1 hy
  exact ⟨g k, ho.lt k (List.mem_range.1 hk), rfl⟩
theorem it_inj {L : List Int} (hd : L.Nodup) {i j : Nat} (hi : i < L.length) (hj : j < L.length) (h : it L i = it L j) : i = j := by
  have h1 : it L i = L[i] := by unfold it; simp [hi]
  have h2 : it L j = L[j] := by unfold it; simp [hj]
  rw [h1, h2] at h
  have hp := List.pairwise_iff_getElem.1 (List.nodup_iff_pairwise_ne.1 hd)
  rcases Nat.lt_trichotomy i j with h3 | h3 | h3
  · exact absurd h (hp i j hi hj h3)
  · exact h3
  · exact absurd h.symm (hp j i hj hi h3)
theorem allG_nodup {L : List Int} {M : List Rq} {g : Nat → Nat} {n : Nat} (ho : OrdI M n g) (hd : L.Nodup) (hl : L.length = n) : ((allG L M g n).map Prod.fst).Nodup := by
  rw [allG_eq, List.map_map]
  refine List.nodup_iff_pairwise_ne.2 (List.pairwise_iff_getElem.2 fun i j hi hj hij => ?_)
  simp at hi hj
  simp
  intro e
  have h1 := it_inj hd (by rw [hl]; exact ho.lt i hi) (by rw [hl]; exact ho.lt j hj) e
  have h2 := ho.rise i j (Nat.zero_le _) hij hj
  rw [h1, (ordT_sto M).irr] at h2
  cases h2
theorem on_start {L : List Int} {M : List Rq} {g : Nat → Nat} {n : Nat} (ho : OrdI M n g) (hn : n ≤ 32) (hs : ∀ j, j < n → smallQ (gq M j) = true) : OnI (allG L M g n) (grT L M (grpL M g n)) [] [] 0 := by
  refine ⟨by simp [allG], (fun x hx => by cases hx), fun y hy => hy, ?_, grT_ok ho hn hs⟩
  rw [Nat.zero_add, sizeT_grT, grpL_flat, allG_len]
  simp

/-- The journal, and what was told. -/
structure OnM (w : World) (p : Nat) (v : Value) (T : List Gr) (R : List Ry) (seen : List Int) (wr : World) : Prop where
  below : Below w.heap.size w wr
  mem : ∃ vt vr, JM (Off v) wr w.heap.size p vt vr T R ∧ ∀ b, v.ownBlock = some b → Jo p vt vr b
  row : wr.ownsRow w.heap.size 3 1 v seen.length (seen.map (Value.int .i64))
theorem OnM.more {w wr wx : World} {p : Nat} {v : Value} {T : List Gr} {R : List Ry} {seen : List Int} (h : OnM w p v T R seen wr) (hb : Below wr.heap.size wr wx) : OnM w p v T R seen wx := by
  obtain ⟨h1, ⟨vt, vr, h2, h3⟩, h4⟩ := h
  exact ⟨h1.trans (hb.mono h1.size), ⟨vt, vr, h2.below hb, h3⟩, own_keep h4 hb⟩
theorem OnM.turn {w wr wx : World} {p : Nat} {v vt vr vt' vr' : Value} {T T' : List Gr} {R R' : List Ry} {seen : List Int} (h : OnM w p v T R seen wr) (h2 : JM (Off v) wr w.heap.size p vt vr T R) (h3 : ∀ b, v.ownBlock = some b → Jo p vt vr b) (hm : JM (Off v) wx w.heap.size p vt' vr' T' R') (hk : Kp (Jo p vt vr) (Jo p vt' vr') wr wx) : OnM w p v T' R' seen wx :=
  ⟨h.below.trans (hk.below (fun b hb => jo_low h2 hb) h.below.size), ⟨vt', vr', hm, fun b hb => hk.next b (h.row.lt b hb).2 (h3 b hb)⟩, own_agree h.row hk.agree h3⟩
theorem OnM.new {w wr : World} {p : Nat} {v : Value} {T : List Gr} {R : List Ry} {seen : List Int} (h : OnM w p v T R seen wr) : ∀ b, wr.heap.size ≤ b → Off v b := fun b hb q hq e => by
  have := (h.row.lt q hq).2
  omega
/-- One more is told. -/
theorem OnM.seen {w wr wa w5 : World} {p : Nat} {v v5 : Value} {T : List Gr} {R : List Ry} {seen : List Int} {x : Int} (h : OnM w p v T R seen wr) (ha : Below wr.heap.size wr wa) (hown : w5.ownsRow w.heap.size 3 1 v5 (seen.length + 1) (seen.map (Value.int .i64) ++ [.int .i64 x])) (hg : wa.grownBy w5 v.ownBlock)
    (hat : v5.ownBlock = v.ownBlock ∨ v5.ownBlock = some wa.heap.size) : OnM w p v5 T R (seen ++ [x]) w5 := by
  have has := ha.size
  obtain ⟨h1, ⟨vt, vr, h2, h3⟩, h4⟩ := h
  have new : ∀ b, b < wr.heap.size → Off v b → Off v5 b := fun b hb ho q hq => by
    rcases hat with e | e
    · exact ho q (by rw [← e]; exact hq)
    · rw [e] at hq; injection hq with hq; omega
  have hk : Kp (Off v) (Off v5) wr w5 := ⟨hg.os.trans ha.os, hg.tape.trans ha.tape, hg.output.trans ha.output, Nat.le_trans has hg.size, fun b hb ho => (hg.block b (by omega) (fun e => ho b e.symm rfl)).trans (ha.block b hb), new⟩
  have off : ∀ b, (∀ q, v.ownBlock = some q → q ≠ b) → Off v b := fun b hb q hq e => hb q hq e.symm
  refine ⟨(h1.trans (ha.mono h1.size)).grown hg (by have := h1.size; omega) (fun q hq => (h4.lt q hq).1), ⟨vt, vr, h2.other hk (off p fun q hq e => (h3 q hq).1 e) (fun b hb => off b fun q hq e => (h3 q hq).2.1 b hb e) (fun b hb => off b fun q hq e => (h3 q hq).2.2 b hb e) (fun b hb => hb) (fun b _ _ hn => hn), fun b hb => ?_⟩, ?_⟩
  · rcases hat with e | e
    · exact h3 b (by rw [← e]; exact hb)
    · rw [e] at hb; injection hb with hb; exact jo_new h2 (by omega)
  · simpa using hown

/-- Answers of one's own, that grow. -/
def anC (k : Sh) (a : An) : List Value := [.int .i64 a.code, .bool a.found, .slice k.A k.n k.c, .slice k.B k.m k.d, .int .u64 a.stamp]
theorem anC_one (k : Sh) (a : An) : ∀ u ∈ anC k a, u.oneCell' = true := by
  intro u hu
  simp [anC] at hu
  rcases hu with rfl | rfl | rfl | rfl | rfl <;> rfl
def ReadsA (C : Nat → Prop) (w : World) (xs : List Value) (L : List An) : Prop :=
  xs.length = L.length * 5 ∧ ∀ j, j < L.length → ∃ k : Sh, (∀ t, t < 5 → xs[j * 5 + t]? = (anC k (aq L j))[t]?) ∧ On C w (AnR · k (aq L j))
theorem ReadsA.nil (C : Nat → Prop) (w : World) : ReadsA C w [] [] := ⟨rfl, fun j hj => by cases hj⟩
theorem ReadsA.imp {C C' : Nat → Prop} {w w' : World} {xs : List Value} {L : List An} (h : ReadsA C w xs L) (hi : ∀ Q : World → Prop, On C w Q → On C' w' Q) : ReadsA C' w' xs L :=
  ⟨h.1, fun j hj => by
    obtain ⟨k, e, r⟩ := h.2 j hj
    exact ⟨k, e, hi _ r⟩⟩
theorem aq_left {L K : List An} {j : Nat} (h : j < L.length) : aq (L ++ K) j = aq L j := by
  unfold aq
  rw [List.getD_eq_getElem?_getD, List.getD_eq_getElem?_getD, List.getElem?_append_left h]
theorem aq_one (L : List An) (a : An) : aq (L ++ [a]) L.length = a := by unfold aq; simp
theorem ReadsA.more {C : Nat → Prop} {w : World} {xs : List Value} {L : List An} {k : Sh} {a : An} (h : ReadsA C w xs L) (ha : On C w (AnR · k a)) : ReadsA C w (xs ++ anC k a) (L ++ [a]) := by
  have hx := h.1
  have h5 : (anC k a).length = 5 := rfl
  refine ⟨by rw [List.length_append, List.length_append, h5, List.length_singleton]; omega, fun j hj => ?_⟩
  by_cases hl : j < L.length
  · obtain ⟨k, e, r⟩ := h.2 j hl
    refine ⟨k, fun t ht => ?_, by rw [aq_left hl]; exact r⟩
    rw [aq_left hl, List.getElem?_append_left (by omega)]
    exact e t ht
  · obtain rfl : j = L.length := by simp at hj; omega
    refine ⟨k, fun t ht => ?_, by rw [aq_one]; exact ha⟩
    rw [aq_one, List.getElem?_append_right (by omega), show L.length * 5 + t - xs.length = t by omega]
theorem own_anss {C : Nat → Prop} {w : World} {N n : Nat} {v : Value} {xs : List Value} {L : List An} (h : w.ownsRow N 46 5 v n xs) (hr : ReadsA C w xs L) : ∃ A c, v = .slice A n c ∧ On (fun b => C b ∨ v.ownBlock = some b) w (Anss · A n L) := by
  have hlen : L.length = n := by have := h.1; have := hr.1; omega
  obtain ⟨A, c, rfl, -⟩ := own_new h
  refine ⟨A, c, rfl, fun w' ha => ?_⟩
  have h' := own_agree h ha (fun k hk => .inr hk)
  have hr' : ReadsA C w' xs L := hr.imp fun Q ho => ho.keep (ha.mono fun b hb => .inl hb)
  have hc := own_caps h'
  refine ⟨hlen, Nat.le_trans hc.1 hc.2.1, fun h0 => ?_⟩
  obtain ⟨g, rfl, -, hg⟩ := own_at h' h0
  refine ⟨g, 0, rfl, hg, fun j hj => ?_⟩
  rw [Nat.zero_add]
  obtain ⟨k, e, r⟩ := hr'.2 j (by omega)
  have hx := h'.1
  have hc : ∀ t, t < 5 → w'.cell? ⟨g, j * 5 + t, none⟩ = (anC k (aq L j))[t]? := fun t ht => (h'.cellAt _ (by omega)).trans (e t ht)
  exact ⟨k, hc 0 (by omega), hc 1 (by omega), hc 2 (by omega), hc 3 (by omega), hc 4 (by omega), r.here⟩
/-- Answers whose slices are nil. -/
def GrowsA (w : World) (N : Nat) (v : Value) (n : Nat) (L : List An) : Prop := ∃ xs, w.ownsRow N 46 5 v n xs ∧ ReadsA (fun _ => False) w xs L
theorem growsA_nil (w : World) (N : Nat) : GrowsA w N (.slice none 0 0) 0 [] := ⟨[], World.ownsRow_nil _ _ _ _, ReadsA.nil _ _⟩
theorem GrowsA.anss {w : World} {N n : Nat} {v : Value} {L : List An} (h : GrowsA w N v n L) : ∃ A c, v = .slice A n c ∧ On (N ≤ ·) w (Anss · A n L) := by
  obtain ⟨xs, h1, h2⟩ := h
  have hlt := h1.lt
  obtain ⟨A, c, e, ho⟩ := own_anss h1 h2
  exact ⟨A, c, e, ho.mono fun b hb => hb.elim False.elim (fun h => (hlt b h).1)⟩
end Go.Proofs.Ythcchaglloggjaa
