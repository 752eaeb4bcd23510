/- What the arena's Make leaves: a number that was free, or the next one. No condition. -/
import Derived.Test.YtbphjhmmdkaggaaNj
namespace Go.Proofs.Ytbphjhmmdkaggaa
open Go.RowKit
set_option linter.unusedVariables false

theorem own_cut {w : World} {base : Nat} {e : TypeId} {s n c m : Nat} {A : Option Addr} {xs : List Value} (h : w.ownsRow base e s (.slice A n c) n xs) (hm : m ≤ n) : w.ownsRow base e s (.slice A m c) m (xs.take (m * s)) := by
  obtain ⟨h1, h2⟩ := h
  have hms : m * s ≤ n * s := Nat.mul_le_mul_right s hm
  refine ⟨by simp; omega, ?_⟩
  rcases h2 with ⟨e, rfl⟩ | ⟨g, cap, cur, e, hB, hh, h3, h4, h5, h6⟩
  · injection e with e1 e2 e3
    subst e1
    subst e3
    obtain rfl : m = 0 := by omega
    exact .inl ⟨rfl, rfl⟩
  · injection e with e1 e2 e3
    subst e1
    subst e3
    exact .inr ⟨g, c, cur, rfl, hB, hh, by omega, h4, h5, by rw [← h6, List.take_take, Nat.min_eq_left hms]⟩

/-- An arena whose last free number is taken. -/
theorem ArW.pop {w : World} {C D : Nat → Prop} {g k pc qc : Nat} {L : List (Option Nd)} {F : List Nat} {P Q : Option Addr} {xs : List Value} (h : ArW w C D g L (F ++ [k]) P Q pc qc xs) :
    ArW (w.setCell ⟨g, 1, none⟩ (.slice Q F.length qc)) C D g L F P Q pc qc xs ∧ k < L.length ∧ lat L k = none ∧ k ∉ F := by
  obtain ⟨h1, h2, h3, h4, h5, h6⟩ := h
  have hnd := List.nodup_append.1 h5.1
  refine ⟨⟨pair_set1 _ h1, ?_, ?_, fun i hi => (h4 i hi).keep (agree_set w _ _ h6.cg), ⟨hnd.1, fun i hi => h5.2 i (List.mem_append_left _ hi)⟩, h6.keep (by simp [World.setCell])⟩, (h5.2 k (by simp)).1, (h5.2 k (by simp)).2, fun hk => hnd.2.2 k hk k (by simp) rfl⟩
  · refine own_agree h2 (C := fun b => ∃ a, P = some a ∧ a.block = b) (agree_set w _ _ ?_) (fun b e => ?_)
    · rintro ⟨a, e, e'⟩
      exact (h6.p a e).2.2 e'
    · cases P with
      | none => cases e
      | some a => injection e with e; exact ⟨a, rfl, e⟩
  · have hc := own_cut (m := F.length) h3 (by simp)
    have hr : (List.map natV (F ++ [k])).take (F.length * 1) = List.map natV F := by
      rw [List.map_append, Nat.mul_one, List.take_append_of_le_length (by simp)]
      exact List.take_of_length_le (by simp)
    rw [hr] at hc
    refine own_agree hc (C := fun b => ∃ a, Q = some a ∧ a.block = b) (agree_set w _ _ ?_) (fun b e => ?_)
    · rintro ⟨a, e, e'⟩
      exact (h6.q a e).2.2 e'
    · cases Q with
      | none => cases e
      | some a => injection e with e; exact ⟨a, rfl, e⟩

theorem getq_left {xs ys : List Value} {n i r : Nat} (hl : xs.length = n * 6) (hi : i < n) (hr : r < 6) : (xs ++ ys)[i * 6 + r]? = xs[i * 6 + r]? := List.getElem?_append_left (by omega)
theorem getq_right {xs ys : List Value} {n r : Nat} (hl : xs.length = n * 6) : (xs ++ ys)[n * 6 + r]? = ys[r]? := by
  rw [List.getElem?_append_right (by omega)]
  congr 1
  omega

/-- An arena with one number more. -/
theorem ArW.new1 {w w1 w2 w3 : World} {C D : Nat → Prop} {g pc qc p' pc' : Nat} {L : List (Option Nd)} {F : List Nat} {P Q : Option Addr} {xs : List Value} {x : Nd} {h2 : Nh} (h : ArW w C D g L F P Q pc qc xs) (hb1 : Below w.heap.size w w1) (hb2 : Below w1.heap.size w1 w2) (hs : SmallN x) (hon : On (w.heap.size ≤ ·) w1 (NdR · h2 x))
    (hown : w3.ownsRow 0 63 6 (.slice (some ⟨p', 0, none⟩) (L.length + 1) pc') (L.length + 1) (xs ++ [.bool x.leaf, .slice h2.A h2.n h2.c, .slice h2.B h2.m h2.d, .slice h2.K h2.k h2.e, .int .i64 x.next, .bool true]))
    (hg : w2.grownBy w3 (Value.slice P L.length pc).ownBlock) (hat : (Value.slice P L.length pc).ownBlock = some p' ∨ w1.heap.size ≤ p') (hlt : p' < w3.heap.size) :
    Turn w D g (L ++ [some x]) F (w3.setCell ⟨g, 0, none⟩ (.slice (some ⟨p', 0, none⟩) (L.length + 1) pc')) := by
  obtain ⟨h1, h2', h3, h4, h5, h6⟩ := h
  have hgl := h6.lt g h6.dg
  have hP : ∀ b, (Value.slice P L.length pc).ownBlock = some b → D b ∧ ¬ C b ∧ b ≠ g ∧ ∀ a, Q = some a → b ≠ a.block := fun b e => by
    cases P with
    | none => cases e
    | some a =>
      injection e with e
      subst e
      have := h6.p a rfl
      exact ⟨this.1, this.2.1, this.2.2, fun a' e' => h6.pq a a' rfl e'⟩
  have hs1 : w.heap.size ≤ w1.heap.size := hb1.size
  have hs2 : w1.heap.size ≤ w2.heap.size := hb2.size
  have hs3 : w2.heap.size ≤ w3.heap.size := hg.size
  have hsz : (w3.setCell ⟨g, 0, none⟩ (.slice (some ⟨p', 0, none⟩) (L.length + 1) pc')).heap.size = w3.heap.size := by simp [World.setCell]
  have h13 : ∀ b, b < w1.heap.size → (∀ c, (Value.slice P L.length pc).ownBlock = some c → b ≠ c) → w3.heap[b]? = w1.heap[b]? := fun b hb1 hb => (hg.block b (Nat.lt_of_lt_of_le hb1 hs2) (fun e => hb b e.symm rfl)).trans (hb2.block b hb1)
  have h03 : ∀ b, b < w.heap.size → (∀ c, (Value.slice P L.length pc).ownBlock = some c → b ≠ c) → w3.heap[b]? = w.heap[b]? := fun b hb' hb => (h13 b (by omega) hb).trans (hb1.block b hb')
  have hpg : p' ≠ g := by
    rcases hat with e | e
    · exact (hP p' e).2.2.1
    · omega
  have hag : ∀ E : Nat → Prop, (∀ b, E b → D b ∧ (∀ c, (Value.slice P L.length pc).ownBlock = some c → b ≠ c) ∧ b ≠ g) → Agree E w (w3.setCell ⟨g, 0, none⟩ (.slice (some ⟨p', 0, none⟩) (L.length + 1) pc')) := fun E hE =>
    ⟨by rw [hsz]; omega, fun b hb1 hl => by
      rw [Below.heap_setCell _ _ _ _ (hE b hb1).2.2]
      exact h03 b hl (hE b hb1).2.1⟩
  have hnew : Agree (w.heap.size ≤ ·) w1 (w3.setCell ⟨g, 0, none⟩ (.slice (some ⟨p', 0, none⟩) (L.length + 1) pc')) := ⟨by rw [hsz]; omega, fun b hb hl => by
    have hb' : w.heap.size ≤ b := hb
    rw [Below.heap_setCell _ _ _ _ (by show b ≠ g; omega)]
    exact h13 b hl (fun c e => by have := h6.lt c (hP c e).1; omega)⟩
  refine ⟨grow D w (w3.setCell ⟨g, 0, none⟩ (.slice (some ⟨p', 0, none⟩) (L.length + 1) pc')), ⟨grow C w w1, some ⟨p', 0, none⟩, Q, pc', qc, xs ++ [.bool x.leaf, .slice h2.A h2.n h2.c, .slice h2.B h2.m h2.d, .slice h2.K h2.k h2.e, .int .i64 x.next, .bool true], ?_, ?_, ?_, fun i hi => ?_, ⟨h5.1, fun i hi => ?_⟩, ?_⟩, fun b hb => hb.imp id (fun h => h.1), ?_⟩
  · have := (h03 g hgl fun c e => (hP c e).2.2.1.symm).trans h1
    have := pair_set0 (.slice (some ⟨p', 0, none⟩) (L.length + 1) pc') this
    rw [this, List.length_append]
    rfl
  · rw [List.length_append]
    exact own_agree hown (C := (· = p')) (agree_set w3 _ _ (by exact fun e => hpg e.symm)) (fun b e => by injection e with e; exact e.symm)
  · refine own_agree h3 (hag (fun b => ∃ a, Q = some a ∧ a.block = b) ?_) ?_
    · rintro b ⟨a, e, rfl⟩
      exact ⟨(h6.q a e).1, fun c e' => ((hP c e').2.2.2 a e).symm, (h6.q a e).2.2⟩
    · intro b e
      cases Q with
      | none => cases e
      | some a => injection e with e; exact ⟨a, rfl, e⟩
  · rw [lat_push]
    by_cases e : i = L.length
    · rw [if_pos e, e]
      have hq := fun r => getq_right (ys := [.bool x.leaf, .slice h2.A h2.n h2.c, .slice h2.B h2.m h2.d, .slice h2.K h2.k h2.e, .int .i64 x.next, .bool true]) (r := r) h2'.1
      refine ⟨h2, hq 0, hq 1, hq 2, hq 3, hq 4, hq 5, hs, ?_⟩
      exact (hon.now.keep (hnew.mono fun b hb => hb.1)).mono (fun b hb => .inr hb)
    · rw [if_neg e]
      have hil : i < L.length := by simp at hi; omega
      exact (((h4 i hil).keep (hag C fun b hc => ⟨h6.cd b hc, fun c e e' => (hP c e).2.1 (e' ▸ hc), fun e => h6.cg (e ▸ hc)⟩)).mono (fun b hb => .inl hb)).cells (fun r hr => getq_left h2'.1 hil hr)
  · have := h5.2 i hi
    rw [List.length_append, lat_push, if_neg (by omega)]
    exact ⟨by simp; omega, this.2⟩
  · refine ⟨.inl h6.dg, ?_, ?_, ?_, ?_, ?_, ?_⟩
    · rintro (hc | hc)
      · exact h6.cg hc
      · omega
    · intro a e
      injection e with e
      subst e
      refine ⟨?_, ?_, hpg⟩
      · rcases hat with e | e
        · exact .inl (hP p' e).1
        · exact .inr ⟨by show w.heap.size ≤ p'; omega, by rw [hsz]; exact hlt⟩
      · rintro (hc | hc)
        · rcases hat with e | e
          · exact (hP p' e).2.1 hc
          · have := h6.lt _ (h6.cd _ hc); simp at this; omega
        · rcases hat with e | e
          · have := h6.lt _ (hP p' e).1; simp at hc; omega
          · simp at hc; omega
    · intro a e
      refine ⟨.inl (h6.q a e).1, ?_, (h6.q a e).2.2⟩
      rintro (hc | hc)
      · exact (h6.q a e).2.1 hc
      · have := h6.lt _ (h6.q a e).1; omega
    · intro a b e e'
      injection e with e
      subst e
      rcases hat with e1 | e1
      · exact (hP p' e1).2.2.2 b e'
      · have := h6.lt _ (h6.q b e').1
        show p' ≠ b.block
        omega
    · intro b hb
      rcases hb with hb | hb
      · exact .inl (h6.cd b hb)
      · exact .inr ⟨hb.1, by rw [hsz]; omega⟩
    · intro b hb
      rw [hsz]
      rcases hb with hb | hb
      · have := h6.lt b hb; omega
      · rw [hsz] at hb; exact hb.2
  · exact ((below_only (hb1.trans (hb2.mono hs1))).grown hg (fun c e => .inr (hP c e).1)).set _ _ (.inr h6.dg)
end Go.Proofs.Ytbphjhmmdkaggaa
