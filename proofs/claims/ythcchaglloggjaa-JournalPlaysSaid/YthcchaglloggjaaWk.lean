/- Lists of requests, and of answers, in memory; answers put behind answers. Condition: what came in can be read. -/
import Derived.Test.YthcchaglloggjaaWj
namespace Go.Proofs.Ythcchaglloggjaa
open Go.RowKit
set_option linter.unusedVariables false
set_option maxRecDepth 100000

theorem Try.infoRes : (Try.prog.info? 46).map (fun i => (i.zero, i.size, i.bytes)) = some (some (.agg #[.int .i64 0, .bool false, .slice none 0 0, .slice none 0 0, .int .u64 0]), 5, 72) := by kernel_rfl

/-- A request's eight cells, and what they read as. -/
def RqAt (w : World) (b o : Nat) (r : Rq) : Prop :=
  ∃ h : Qh, w.cell? ⟨b, o, none⟩ = some (.int .i64 r.cl) ∧ w.cell? ⟨b, o + 1, none⟩ = some (.int .i64 r.sq) ∧ w.cell? ⟨b, o + 2, none⟩ = some (.int .i64 r.kind) ∧ w.cell? ⟨b, o + 3, none⟩ = some (.slice h.A h.n h.c) ∧
    w.cell? ⟨b, o + 4, none⟩ = some (.slice h.B h.m h.d) ∧ w.cell? ⟨b, o + 5, none⟩ = some (.slice h.C h.o h.p) ∧ w.cell? ⟨b, o + 6, none⟩ = some (.slice h.D h.q h.s) ∧ w.cell? ⟨b, o + 7, none⟩ = some (.int .i64 r.limit) ∧ RqR w h r
/-- A slice of requests that reads as the list M. -/
def Reqs (w : World) (A : Option Addr) (n : Nat) (M : List Rq) : Prop :=
  M.length = n ∧ n ≤ maxLen ∧ (0 < n → ∃ b o, A = some ⟨b, o, none⟩ ∧ b < w.heap.size ∧ ∀ j, j < n → RqAt w b (o + j * 8) (gq M j))
theorem RqAt.below {w w' : World} {b o : Nat} {r : Rq} (h : RqAt w b o r) (hl : b < w.heap.size) (hb : Below w.heap.size w w') : RqAt w' b o r := by
  obtain ⟨h, k0, k1, k2, k3, k4, k5, k6, k7, hr⟩ := h
  exact ⟨h, (hb.cell (p := ⟨b, o, none⟩) hl).trans k0, (hb.cell (p := ⟨b, o + 1, none⟩) hl).trans k1, (hb.cell (p := ⟨b, o + 2, none⟩) hl).trans k2, (hb.cell (p := ⟨b, o + 3, none⟩) hl).trans k3,
    (hb.cell (p := ⟨b, o + 4, none⟩) hl).trans k4, (hb.cell (p := ⟨b, o + 5, none⟩) hl).trans k5, (hb.cell (p := ⟨b, o + 6, none⟩) hl).trans k6, (hb.cell (p := ⟨b, o + 7, none⟩) hl).trans k7, hr.below hb⟩
theorem Reqs.below {w w' : World} {A : Option Addr} {n : Nat} {M : List Rq} (h : Reqs w A n M) (hb : Below w.heap.size w w') : Reqs w' A n M :=
  ⟨h.1, h.2.1, fun h0 => by
    obtain ⟨b, o, e, hl, hj⟩ := h.2.2 h0
    exact ⟨b, o, e, Nat.lt_of_lt_of_le hl hb.size, fun j hjn => (hj j hjn).below hl hb⟩⟩
theorem Reqs.at_ {w : World} {A : Option Addr} {n j : Nat} {M : List Rq} (h : Reqs w A n M) (hj : j < n) : ∃ b o, A = some ⟨b, o, none⟩ ∧ b < w.heap.size ∧ RqAt w b (o + j * 8) (gq M j) := by
  obtain ⟨b, o, e, hb, hp⟩ := h.2.2 (by omega)
  exact ⟨b, o, e, hb, hp j hj⟩

/-- An answer's five cells, and what they read as; a slice of answers that reads as the list R. -/
def RsAt (w : World) (b o : Nat) (s : Rs) : Prop :=
  ∃ h : Sh, w.cell? ⟨b, o, none⟩ = some (.int .i64 s.code) ∧ w.cell? ⟨b, o + 1, none⟩ = some (.bool s.found) ∧ w.cell? ⟨b, o + 2, none⟩ = some (.slice h.A h.n h.c) ∧ w.cell? ⟨b, o + 3, none⟩ = some (.slice h.B h.m h.d) ∧
    w.cell? ⟨b, o + 4, none⟩ = some (.int .u64 0) ∧ RsR w h s
def Ress (w : World) (A : Option Addr) (n : Nat) (R : List Rs) : Prop :=
  R.length = n ∧ n ≤ maxLen ∧ (0 < n → ∃ b o, A = some ⟨b, o, none⟩ ∧ b < w.heap.size ∧ ∀ j, j < n → RsAt w b (o + j * 5) (gs R j))
theorem RsAt.below {w w' : World} {b o : Nat} {s : Rs} (h : RsAt w b o s) (hl : b < w.heap.size) (hb : Below w.heap.size w w') : RsAt w' b o s := by
  obtain ⟨h, k0, k1, k2, k3, k4, hr⟩ := h
  exact ⟨h, (hb.cell (p := ⟨b, o, none⟩) hl).trans k0, (hb.cell (p := ⟨b, o + 1, none⟩) hl).trans k1, (hb.cell (p := ⟨b, o + 2, none⟩) hl).trans k2, (hb.cell (p := ⟨b, o + 3, none⟩) hl).trans k3,
    (hb.cell (p := ⟨b, o + 4, none⟩) hl).trans k4, hr.below hb⟩
theorem Ress.below {w w' : World} {A : Option Addr} {n : Nat} {R : List Rs} (h : Ress w A n R) (hb : Below w.heap.size w w') : Ress w' A n R :=
  ⟨h.1, h.2.1, fun h0 => by
    obtain ⟨b, o, e, hl, hj⟩ := h.2.2 h0
    exact ⟨b, o, e, Nat.lt_of_lt_of_le hl hb.size, fun j hjn => (hj j hjn).below hl hb⟩⟩
theorem Ress.at_ {w : World} {A : Option Addr} {n j : Nat} {R : List Rs} (h : Ress w A n R) (hj : j < n) : ∃ b o, A = some ⟨b, o, none⟩ ∧ b < w.heap.size ∧ RsAt w b (o + j * 5) (gs R j) := by
  obtain ⟨b, o, e, hb, hp⟩ := h.2.2 (by omega)
  exact ⟨b, o, e, hb, hp j hj⟩

/-- Cells that read as answers, what they lead to in blocks that C names. -/
def ReadsS (C : Nat → Prop) (w : World) (xs : List Value) (R : List Rs) : Prop :=
  xs.length = R.length * 5 ∧ ∀ j, j < R.length → ∃ h : Sh, xs[j * 5]? = some (.int .i64 (gs R j).code) ∧ xs[j * 5 + 1]? = some (.bool (gs R j).found) ∧ xs[j * 5 + 2]? = some (.slice h.A h.n h.c) ∧ xs[j * 5 + 3]? = some (.slice h.B h.m h.d) ∧ xs[j * 5 + 4]? = some (.int .u64 0) ∧ On C w (RsR · h (gs R j))
theorem ReadsS.nil (C : Nat → Prop) (w : World) : ReadsS C w [] [] := ⟨rfl, fun j hj => by cases hj⟩
theorem ReadsS.more {C : Nat → Prop} {w : World} {xs : List Value} {R : List Rs} (h : ReadsS C w xs R) {s : Rs} {hh : Sh} (hs : On C w (RsR · hh s)) : ReadsS C w (xs ++ [.int .i64 s.code, .bool s.found, .slice hh.A hh.n hh.c, .slice hh.B hh.m hh.d, .int .u64 0]) (R ++ [s]) := by
  obtain ⟨h1, h2⟩ := h
  refine ⟨by simp; omega, fun j hj => ?_⟩
  by_cases hl : j < R.length
  · obtain ⟨h, e0, e1, e2, e3, e4, e5⟩ := h2 j hl
    refine ⟨h, ?_⟩
    rw [gs_left hl, List.getElem?_append_left (by omega), List.getElem?_append_left (by omega), List.getElem?_append_left (by omega), List.getElem?_append_left (by omega), List.getElem?_append_left (by omega)]
    exact ⟨e0, e1, e2, e3, e4, e5⟩
  · obtain rfl : j = R.length := by simp at hj; omega
    refine ⟨hh, ?_⟩
    rw [gs_one, List.getElem?_append_right (by omega), List.getElem?_append_right (by omega), List.getElem?_append_right (by omega), List.getElem?_append_right (by omega), List.getElem?_append_right (by omega)]
    rw [show R.length * 5 - xs.length = 0 by omega, show R.length * 5 + 1 - xs.length = 1 by omega, show R.length * 5 + 2 - xs.length = 2 by omega, show R.length * 5 + 3 - xs.length = 3 by omega, show R.length * 5 + 4 - xs.length = 4 by omega]
    exact ⟨rfl, rfl, rfl, rfl, rfl, hs⟩
theorem ReadsS.imp {C C' : Nat → Prop} {w w' : World} {xs : List Value} {R : List Rs} (h : ReadsS C w xs R) (hi : ∀ hh s, On C w (RsR · hh s) → On C' w' (RsR · hh s)) : ReadsS C' w' xs R :=
  ⟨h.1, fun j hj => by
    obtain ⟨h, e0, e1, e2, e3, e4, e5⟩ := h.2 j hj
    exact ⟨h, e0, e1, e2, e3, e4, hi _ _ e5⟩⟩

/-- A list of answers of one's own, that grows: its row, and all that it leads to elsewhere. -/
def Off (v : Value) (b : Nat) : Prop := ∀ k, v.ownBlock = some k → b ≠ k
def GrowsS (w : World) (N : Nat) (v : Value) (n : Nat) (R : List Rs) : Prop := ∃ xs, w.ownsRow N 46 5 v n xs ∧ ReadsS (Off v) w xs R
theorem growsS_nil (w : World) (N : Nat) : GrowsS w N (.slice none 0 0) 0 [] := ⟨[], World.ownsRow_nil _ _ _ _, ReadsS.nil _ _⟩
theorem GrowsS.below {w w' : World} {N : Nat} {v : Value} {n : Nat} {R : List Rs} (h : GrowsS w N v n R) (hb : Below w.heap.size w w') : GrowsS w' N v n R := by
  obtain ⟨xs, h1, h2⟩ := h
  exact ⟨xs, own_keep h1 hb, h2.imp fun hh s ho => ho.keep (below_all hb)⟩
theorem GrowsS.lt {w : World} {N : Nat} {v : Value} {n : Nat} {R : List Rs} (h : GrowsS w N v n R) : ∀ k, v.ownBlock = some k → k < w.heap.size ∧ N ≤ k := by
  obtain ⟨xs, h1, -⟩ := h
  exact fun k hk => ⟨(h1.lt k hk).2, (h1.lt k hk).1⟩
theorem GrowsS.ress {w : World} {N : Nat} {v : Value} {n : Nat} {R : List Rs} (h : GrowsS w N v n R) : ∃ A c, v = .slice A n c ∧ Ress w A n R := by
  obtain ⟨xs, h1, h2⟩ := h
  obtain ⟨A, c, rfl, -⟩ := own_new h1
  have hl : R.length = n := by have := h1.1; have := h2.1; omega
  have hc := own_caps h1
  refine ⟨A, c, rfl, hl, Nat.le_trans hc.1 hc.2.1, fun h0 => ?_⟩
  obtain ⟨g, rfl, -, hg⟩ := own_at h1 h0
  refine ⟨g, 0, rfl, hg, fun j hj => ?_⟩
  obtain ⟨h, e0, e1, e2, e3, e4, e5⟩ := h2.2 j (by omega)
  rw [Nat.zero_add]
  exact ⟨h, (h1.cellAt _ (by omega)).trans e0, (h1.cellAt _ (by omega)).trans e1, (h1.cellAt _ (by omega)).trans e2, (h1.cellAt _ (by omega)).trans e3, (h1.cellAt _ (by omega)).trans e4, e5.here⟩
/-- What lies elsewhere stays while the list grows. -/
theorem grow_on {C : Nat → Prop} {w w' : World} {v v' : Value} {P : World → Prop} (h : On C w P) (hC : ∀ b, C b → Off v b) (hg : w.grownBy w' v.ownBlock) (hat : v'.ownBlock = v.ownBlock ∨ v'.ownBlock = some w.heap.size) : On (Off v') w' P := by
  refine ((h.now).keep (agree_grown hg fun k hk hc => hC k hc.1 k hk rfl)).mono fun b hb k hk => ?_
  rcases hat with e | e
  · exact hC b hb.1 k (by rw [← e]; exact hk)
  · rw [e] at hk
    injection hk with hk
    have := hb.2
    omega
theorem GrowsS.more {w w' : World} {N n : Nat} {v v' : Value} {R : List Rs} {xs : List Value} {s : Rs} {hh : Sh} (hr : ReadsS (Off v) w xs R) (hs : On (Off v) w (RsR · hh s))
    (h1 : w'.ownsRow N 46 5 v' (n + 1) (xs ++ [.int .i64 s.code, .bool s.found, .slice hh.A hh.n hh.c, .slice hh.B hh.m hh.d, .int .u64 0])) (hg : w.grownBy w' v.ownBlock) (hat : v'.ownBlock = v.ownBlock ∨ v'.ownBlock = some w.heap.size) : GrowsS w' N v' (n + 1) (R ++ [s]) :=
  ⟨_, h1, (hr.more hs).imp fun hh s ho => grow_on ho (fun b hb => hb) hg hat⟩
theorem five_cells {w : World} {a0 a1 a2 a3 a4 : Value} {T : TypeId} : ∀ j u, [a0, a1, a2, a3, a4][j]? = some u → (w.alloc (.cells #[a0, a1, a2, a3, a4] T)).cell? ((⟨w.heap.size, 0, none⟩ : Addr).add j) = some u := by
  intro j u hu
  rcases j with _ | _ | _ | _ | _ | j
  · simp at hu; subst hu; simp [Addr.add]
  · simp at hu; subst hu; simp [Addr.add]
  · simp at hu; subst hu; simp [Addr.add]
  · simp at hu; subst hu; simp [Addr.add]
  · simp at hu; subst hu; simp [Addr.add]
  · simp at hu

/-- Where the loop has come to. -/
def AllI (w : World) (L : List Pr) (M : List Rq) (most : Int) (j : Nat) (l a : Value) (wr : World) : Prop :=
  ∃ A n c, l = .slice A n c ∧ On (Off a) wr (Prs · A n c (thenQ L M most j)) ∧ GrowsS wr w.heap.size a j (allQ L M most j) ∧ Below w.heap.size w wr
theorem off_new {w : World} {N n : Nat} {v : Value} {R : List Rs} (h : GrowsS w N v n R) {B : Nat} (hB : w.heap.size ≤ B) : ∀ b, B ≤ b → Off v b := fun b hb k hk e => by
  have := (h.lt k hk).1
  omega

end Go.Proofs.Ythcchaglloggjaa
