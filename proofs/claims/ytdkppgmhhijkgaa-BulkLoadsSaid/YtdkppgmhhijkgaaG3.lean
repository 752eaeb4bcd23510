/- The contract of the arena's Make where a number is free; Make whatever is free. Condition: at most 10000 numbers; no list of a node longer than 1000. B+-trees as plain data: what is in them, that they are sound, putting a pair. Plain; no condition. Putting a pair into a B+-tree, as plain data: that it stays sound, and what is in it. Plain; no condition. What the program's own putting does to the numbers of an arena: it is putting into the tree. Plain; no condition. Sound B+-trees in an arena's numbers: a new one, what putting leaves, the leaf of a key, all leaves, how many nodes and how high. Plain; no condition. -/
import Derived.Test.YtdkppgmhhijkgaaG2
namespace Go.Proofs.Ytdkppgmhhijkgaa
open Go.RowKit
set_option linter.unusedVariables false
set_option maxRecDepth 100000

theorem ArW.last {w : World} {C D : Nat → Prop} {g k pc qc : Nat} {L : List (Option Nd)} {F : List Nat} {P Q : Option Addr} {xs : List Value} (h : ArW w C D g L (F ++ [k]) P Q pc qc xs) : ∃ q, Q = some ⟨q, 0, none⟩ ∧ w.cell? ⟨q, F.length, none⟩ = some (.int .i64 k) := by
  obtain ⟨h1, h2, h3, h4, h5, h6⟩ := h
  obtain ⟨q, rfl, -, -⟩ := own_at h3 (by simp)
  refine ⟨q, rfl, ?_⟩
  rw [h3.cellAt _ (by simp)]
  simp

set_option maxRecDepth 100000 in
set_option maxHeartbeats 4000000 in
theorem make_pop {w : World} {D : Nat → Prop} {g k : Nat} {L : List (Option Nd)} {F : List Nat} (h : Ar w D g L (F ++ [k])) (hN : L.length ≤ 10000) (hM : F.length ≤ 10000) {hh : Nh} {x : Nd} (hr : On (fun b => ¬ D b) w (NdR · hh x)) (hs : SmallN x) :
    Calls Try.prog 45 #[.pointer (some ⟨g, 0, none⟩), ndV hh x] w (MakeOut w D g (L.set k (some x)) F k) := by
  obtain ⟨C, P, Q, pc, qc, xs, h⟩ := h
  have hgl : g < w.heap.size := h.2.2.2.2.2.lt g h.2.2.2.2.2.dg
  have hDg : D g := h.2.2.2.2.2.dg
  have h' := h.keep (agree_alloc w (.cells #[.bool x.leaf, .slice hh.A hh.n hh.c, .slice hh.B hh.m hh.d, .slice hh.K hh.k hh.e, .int .i64 x.next] 72))
  obtain ⟨hpop, hk, hlk, hkF⟩ := h.pop
  obtain ⟨q, rfl, cq⟩ := h'.last
  obtain ⟨c0, c1, f0, f1⟩ := pair_cells h'.1
  obtain ⟨W1, hW1, hp1, hW1s, hW1h, hW1r, hW1o⟩ : ∃ W1, W1 = (w.setCell ⟨g, 1, none⟩ (.slice (some ⟨q, 0, none⟩) F.length qc)).alloc (.cells #[.bool x.leaf, .slice hh.A hh.n hh.c, .slice hh.B hh.m hh.d, .slice hh.K hh.k hh.e, .int .i64 x.next] 72) ∧ ArW W1 C D g L F P (some ⟨q, 0, none⟩) pc qc xs ∧ W1.heap.size = w.heap.size + 1 ∧ W1.heap[w.heap.size]? = some (.cells #[.bool x.leaf, .slice hh.A hh.n hh.c, .slice hh.B hh.m hh.d, .slice hh.K hh.k hh.e, .int .i64 x.next] 72 (0, 0)) ∧ NdR W1 hh x ∧ Only D w W1 := by
    have hz : (w.setCell ⟨g, 1, none⟩ (.slice (some ⟨q, 0, none⟩) F.length qc)).heap.size = w.heap.size := by simp [World.setCell]
    refine ⟨_, rfl, hpop.keep (agree_alloc _ _), alloc_size hz _, ?_, ((hr.keep (agree_set w _ _ (fun h => h hDg))).keep (agree_alloc _ _)).here, ((Only.refl D w).set _ _ (.inr hDg)).alloc _⟩
    have := heap_alloc_new (w.setCell ⟨g, 1, none⟩ (.slice (some ⟨q, 0, none⟩) F.length qc)) (.cells #[.bool x.leaf, .slice hh.A hh.n hh.c, .slice hh.B hh.m hh.d, .slice hh.K hh.k hh.e, .int .i64 x.next] 72)
    rw [hz] at this
    exact this
  obtain ⟨p, u0, u1, u2, u3, u4, u5, rfl, hDp, hpg, hCp, g0, g1, g2, g3, g4, g5, fz⟩ := hp1.any hk
  have hpl : p < w.heap.size := h.2.2.2.2.2.lt p hDp
  have hqg : q ≠ g := (h.2.2.2.2.2.q _ rfl).2.2
  have K1 := Lib.hid (And.intro g0 (And.intro g1 (And.intro g2 (And.intro g3 (And.intro g4 g5)))))
  have K2 := Lib.hid fz
  have HP := Lib.hid hp1
  have HW1 := Lib.hid hW1
  have hqc : F.length + 1 ≤ qc := by have := (own_caps h.2.2.1).1; simpa using this
  have HX := Lib.hid (And.intro hk (And.intro hlk hkF))
  have HR := Lib.hid hW1r
  have HB := Lib.hid (And.intro hW1h (And.intro hW1s hW1o))
  have HS := Lib.hid hs
  have HH := Lib.hid (pair_cells hp1.1)
  simp only [List.length_append, List.length_cons, List.length_nil, Nat.zero_add] at c1
  generalize hn : L.length = n at c0 hN hk HH
  generalize hm : F.length = m at c1 hM cq HW1 HH hqc
  have HNL := Lib.hid (And.intro hn hm)
  clear h h' hr hs hn hm hpop hp1 hlk hkF hDp hCp hDg hW1 hW1s hW1h hW1r hW1o g0 g1 g2 g3 g4 g5 fz
  go_enter Try.func45, Try.ntmps45
  have hm0 : decide ((m : Int) < 0) = false := by simp
  have hmq : m ≤ qc := by omega
  go_wp2
  rw [← HW1.out]
  clear hm0 c0 c1 cq f0 f1
  obtain ⟨b0, b1, b2, b3, b4, -⟩ := five HB.out.1
  obtain ⟨c0, -, -, -⟩ := HH.out
  have D0 := Lib.hid (apart_any (w := W1.drew) (show NdR W1.drew hh x from HR.out) HS.out)
  have K0 := Lib.hid c0
  have KB := Lib.hid (And.intro b0 (And.intro b1 (And.intro b2 (And.intro b3 b4))))
  have z1 : ¬ (p = w.heap.size) := by omega
  have z2 : ¬ (w.heap.size = p) := by omega
  have z3 : ¬ (g = p) := fun e => hpg e.symm
  have hl1 : w.heap.size < W1.heap.size := by have := HB.out.2.1; omega
  go_region_held3 (fun w' => w'.cell? ⟨g, 0, none⟩ = some (.slice (some ⟨p, 0, none⟩) n pc) ∧ w'.cell? ⟨w.heap.size, 0, none⟩ = some (.bool x.leaf) ∧ w'.cell? ⟨w.heap.size, 1, none⟩ = some (.slice hh.A hh.n hh.c) ∧ w'.cell? ⟨w.heap.size, 2, none⟩ = some (.slice hh.B hh.m hh.d) ∧ w'.cell? ⟨w.heap.size, 3, none⟩ = some (.slice hh.K hh.k hh.e) ∧ w'.cell? ⟨w.heap.size, 4, none⟩ = some (.int .i64 x.next)) (go_keep)
    ((go_at_call 63
      (with_reducible refine D0.out.mono ?_)
      rintro e w3 ⟨h3, rfl, on3, hb3⟩
      have hb3 := undrew hb3
      have c0 := (hb3.cell (p := ⟨g, 0, none⟩) (Nat.lt_trans hgl hl1)).trans K0.out
      have b0 := (hb3.cell (p := ⟨w.heap.size, 0, none⟩) hl1).trans KB.out.1
      have b1 := (hb3.cell (p := ⟨w.heap.size, 1, none⟩) hl1).trans KB.out.2.1
      have b2 := (hb3.cell (p := ⟨w.heap.size, 2, none⟩) hl1).trans KB.out.2.2.1
      have b3 := (hb3.cell (p := ⟨w.heap.size, 3, none⟩) hl1).trans KB.out.2.2.2.1
      have b4 := (hb3.cell (p := ⟨w.heap.size, 4, none⟩) hl1).trans KB.out.2.2.2.2
      have g0 := (hb3.cell (p := ⟨p, k * 6, none⟩) (Nat.lt_trans hpl hl1)).trans K1.out.1
      have g1 := (hb3.cell (p := ⟨p, k * 6 + 1, none⟩) (Nat.lt_trans hpl hl1)).trans K1.out.2.1
      have g2 := (hb3.cell (p := ⟨p, k * 6 + 2, none⟩) (Nat.lt_trans hpl hl1)).trans K1.out.2.2.1
      have g3 := (hb3.cell (p := ⟨p, k * 6 + 3, none⟩) (Nat.lt_trans hpl hl1)).trans K1.out.2.2.2.1
      have g4 := (hb3.cell (p := ⟨p, k * 6 + 4, none⟩) (Nat.lt_trans hpl hl1)).trans K1.out.2.2.2.2.1
      have g5 := (hb3.cell (p := ⟨p, k * 6 + 5, none⟩) (Nat.lt_trans hpl hl1)).trans K1.out.2.2.2.2.2
      have f0 := (hb3.frozen (p := ⟨p, k * 6, none⟩) (Nat.lt_trans hpl hl1)).trans (K2.out _)
      have f1 := (hb3.frozen (p := ⟨p, k * 6 + 1, none⟩) (Nat.lt_trans hpl hl1)).trans (K2.out _)
      have f2 := (hb3.frozen (p := ⟨p, k * 6 + 2, none⟩) (Nat.lt_trans hpl hl1)).trans (K2.out _)
      have f3 := (hb3.frozen (p := ⟨p, k * 6 + 3, none⟩) (Nat.lt_trans hpl hl1)).trans (K2.out _)
      have f4 := (hb3.frozen (p := ⟨p, k * 6 + 4, none⟩) (Nat.lt_trans hpl hl1)).trans (K2.out _)
      have f5 := (hb3.frozen (p := ⟨p, k * 6 + 5, none⟩) (Nat.lt_trans hpl hl1)).trans (K2.out _)
      have HON := Lib.hid on3
      have HB3 := Lib.hid hb3
      clear on3 hb3))
  all_goals
    go_wp2
    go_ret
    refine ⟨rfl, ?_⟩
    have hp6 := HP.out.put6 (w1 := w3) (k := k) (o := some x) (u0 := .bool x.leaf) (u1 := .slice h3.A h3.n h3.c) (u2 := .slice h3.B h3.m h3.d) (u3 := .slice h3.K h3.k h3.e) (u4 := .int .i64 x.next) (u5 := .bool true) HX.out.1 HX.out.2.2 HB3.out (fun ys e0 e1 e2 e3 e4 e5 =>
      ⟨h3, e0, e1, e2, e3, e4, e5, HS.out, (HON.out.keep (six_agr w3 _ _ _ _ _ _ _ (by show ¬ (W1.heap.size ≤ p); omega))).now.mono (fun b hb => .inr hb)⟩)
    obtain ⟨ys, hA, hO⟩ := hp6
    exact ⟨_, ⟨_, _, _, _, _, _, hA⟩, fun b hb => hb.imp id (fun h => by have := HB.out.2.1; omega), HB.out.2.2.trans2 hO (fun b hb => .inl hb)⟩

theorem make_any {w : World} {D : Nat → Prop} {g : Nat} {L : List (Option Nd)} {F : List Nat} (h : Ar w D g L F) (hN : L.length ≤ 10000) (hM : F.length ≤ 10000) {hh : Nh} {x : Nd} (hr : On (fun b => ¬ D b) w (NdR · hh x)) (hs : SmallN x) :
    Calls Try.prog 45 #[.pointer (some ⟨g, 0, none⟩), ndV hh x] w fun e w' =>
      (F = [] ∧ MakeOut w D g (L ++ [some x]) [] L.length e w') ∨ ∃ F0 k, F = F0 ++ [k] ∧ MakeOut w D g (L.set k (some x)) F0 k e w' := by
  rcases List.eq_nil_or_concat F with rfl | ⟨F0, k, rfl⟩
  · exact (make_new h hN hr.here hs).mono fun e w' h => .inl ⟨rfl, h⟩
  · rw [List.concat_eq_append] at *
    exact (make_pop h hN (by simp at hM; omega) hr hs).mono fun e w' h => .inr ⟨F0, k, rfl, h⟩
end Go.Proofs.Ytdkppgmhhijkgaa

namespace Go.Proofs.Ytdkppgmhhijkgaa
set_option linter.unusedVariables false
set_option maxRecDepth 100000

abbrev Ky := List UInt8

/-- A tree of a depth: a leaf's number, pairs, and the next leaf's; another node's number, keys and kids. -/
def Tr : Nat → Type
  | 0 => Nat × List Pr × Int
  | d + 1 => Nat × List Ky × List (Tr d)
def lf (t : Tr 0) : Nat × List Pr × Int := t
def nn {d : Nat} (t : Tr (d + 1)) : Nat × List Ky × List (Tr d) := t
def mkL (i : Nat) (ps : List Pr) (nx : Int) : Tr 0 := (i, ps, nx)
def mkN {d : Nat} (i : Nat) (ks : List Ky) (ts : List (Tr d)) : Tr (d + 1) := (i, ks, ts)

def num : (d : Nat) → Tr d → Nat
  | 0, t => (lf t).1
  | _ + 1, t => (nn t).1
def flat : (d : Nat) → Tr d → List Pr
  | 0, t => (lf t).2.1
  | d + 1, t => ((nn t).2.2.map (flat d)).flatten
def nums : (d : Nat) → Tr d → List Nat
  | 0, t => [(lf t).1]
  | d + 1, t => (nn t).1 :: ((nn t).2.2.map (nums d)).flatten
/-- The leaves: each one's number, and the next one's. -/
def lvs : (d : Nat) → Tr d → List (Nat × Int)
  | 0, t => [((lf t).1, (lf t).2.2)]
  | d + 1, t => ((nn t).2.2.map (lvs d)).flatten

/-- From one number on, by next numbers, one comes through a list to another. -/
def Chn : Int → List (Nat × Int) → Int → Prop
  | s, [], e => s = e
  | s, p :: l, e => s = (p.1 : Int) ∧ Chn p.2 l e
theorem chn_app {s e : Int} {A B : List (Nat × Int)} : Chn s (A ++ B) e ↔ ∃ x, Chn s A x ∧ Chn x B e := by
  induction A generalizing s with
  | nil => simp [Chn]
  | cons p A ih => simp only [List.cons_append, Chn, ih]; constructor
                   · rintro ⟨h, x, h1, h2⟩; exact ⟨x, ⟨h, h1⟩, h2⟩
                   · rintro ⟨x, ⟨h, h1⟩, h2⟩; exact ⟨h, x, h1, h2⟩

/-- What an arena has of a tree. -/
def Holds (L : List (Option Nd)) : (d : Nat) → Tr d → Prop
  | 0, t => lat L (lf t).1 = some ⟨true, (lf t).2.1, [], [], (lf t).2.2⟩
  | d + 1, t => lat L (nn t).1 = some ⟨false, [], (nn t).2.1, (nn t).2.2.map (fun c => (num d c : Int)), 0⟩ ∧ ∀ c ∈ (nn t).2.2, Holds L d c

theorem holds_keep {L L' : List (Option Nd)} : ∀ {d : Nat} {t : Tr d}, Holds L d t → (∀ i ∈ nums d t, lat L' i = lat L i) → Holds L' d t
  | 0, t, h, hk => by
    show lat L' _ = _
    rw [hk _ (by simp [nums])]
    exact h
  | d + 1, t, h, hk => by
    refine ⟨(hk _ (by simp [nums])).trans h.1, fun c hc => holds_keep (h.2 c hc) fun i hi => hk i ?_⟩
    simp only [nums, List.mem_cons, List.mem_flatten, List.mem_map]
    exact .inr ⟨_, ⟨c, hc, rfl⟩, hi⟩

/-- Ranges. -/
def sndR (l h : Ky) : Prop := l.length ≤ 16 ∧ h.length ≤ 16 ∧ (h = [] ∨ ltB l h = true)
def inR (l h k : Ky) : Prop := ltB k l = false ∧ (h = [] ∨ ltB k h = true)

/-- Kids, each in its range. -/
def Kids {α : Type} (P : Ky → Ky → α → Prop) (hi : Ky) : Ky → List Ky → List α → Prop
  | lo, [], ts => ∃ t, ts = [t] ∧ sndR lo hi ∧ P lo hi t
  | lo, s :: ss, ts => ∃ t r, ts = t :: r ∧ sndR lo s ∧ s ≠ [] ∧ P lo s t ∧ Kids P hi s ss r

/-- A tree is sound, in a range; b: it is the root. -/
def Ok (m : Nat) : (d : Nat) → Bool → Ky → Ky → Tr d → Prop
  | 0, b, lo, hi, t => Fit (lf t).2.1 ∧ (lf t).2.1.length ≤ m ∧ (b = false → m / 2 ≤ (lf t).2.1.length) ∧ ∀ p ∈ (lf t).2.1, inR lo hi p.1
  | d + 1, b, lo, hi, t => 1 ≤ (nn t).2.1.length ∧ (nn t).2.1.length ≤ m ∧ (b = false → m / 2 ≤ (nn t).2.1.length) ∧ Kids (Ok m d false) hi lo (nn t).2.1 (nn t).2.2

theorem ltB_le_trans {a b c : Ky} (h1 : ltB b a = false) (h2 : ltB b c = true) : ltB a c = true := by
  cases h : ltB a b
  · rw [ltB_total a b h h1]; exact h2
  · exact ltB_trans h h2
theorem ltB_lt_le {a b c : Ky} (h1 : ltB a b = true) (h2 : ltB c b = false) : ltB a c = true := by
  cases h : ltB b c
  · rw [← ltB_total b c h h2]; exact h1
  · exact ltB_trans h1 h
theorem le_trans_ltB {a b c : Ky} (h1 : ltB b a = false) (h2 : ltB c b = false) : ltB c a = false := by
  cases h : ltB c a
  · rfl
  · have := ltB_lt_le h h1
    rw [h2] at this
    cases this
theorem nil_le (k : Ky) : ltB k [] = false := ltB_nil k

theorem Kids.len {α : Type} {P : Ky → Ky → α → Prop} {hi : Ky} : ∀ {lo : Ky} {ks : List Ky} {ts : List α}, Kids P hi lo ks ts → ts.length = ks.length + 1
  | lo, [], ts, h => by obtain ⟨t, rfl, _⟩ := h; rfl
  | lo, s :: ss, ts, h => by
    obtain ⟨t, r, rfl, _, _, _, h⟩ := h
    simp [Kids.len h]
theorem Kids.snd {α : Type} {P : Ky → Ky → α → Prop} {hi : Ky} : ∀ {lo : Ky} {ks : List Ky} {ts : List α}, Kids P hi lo ks ts → sndR lo hi
  | lo, [], ts, h => by obtain ⟨t, rfl, h, _⟩ := h; exact h
  | lo, s :: ss, ts, h => by
    obtain ⟨t, r, rfl, h1, h2, _, h⟩ := h
    have h' := Kids.snd h
    refine ⟨h1.1, h'.2.1, ?_⟩
    rcases h'.2.2 with e | e
    · exact .inl e
    · rcases h1.2.2 with e1 | e1
      · exact absurd e1 h2
      · exact .inr (ltB_trans e1 e)

/-- How many keys are no greater than one. -/
def kidx : List Ky → Ky → Nat
  | [], _ => 0
  | s :: ss, k => if ltB k s then 0 else kidx ss k + 1
theorem kidx_le : ∀ (ks : List Ky) (k : Ky), kidx ks k ≤ ks.length
  | [], _ => Nat.le_refl _
  | s :: ss, k => by
    unfold kidx
    split
    · exact Nat.zero_le _
    · have := kidx_le ss k
      simp; omega

/-- The kid in whose range a key is; what may stand in its place. -/
structure KidAt {α : Type} (P : Ky → Ky → α → Prop) (lo hi k : Ky) (ks : List Ky) (ts : List α) (k1 k2 : List Ky) (t1 t2 : List α) (c : α) (l h : Ky) : Prop where
  eks : ks = k1 ++ k2
  ets : ts = t1 ++ c :: t2
  len : t1.length = k1.length
  idx : kidx ks k = k1.length
  inr : inR l h k
  snd : sndR l h
  kid : P l h c
  before : ∀ t ∈ t1, ∃ l' h', P l' h' t ∧ h' ≠ [] ∧ ltB k h' = false
  after : ∀ t ∈ t2, ∃ l' h', P l' h' t ∧ ltB k l' = true
  one : ∀ c', P l h c' → Kids P hi lo (k1 ++ k2) (t1 ++ c' :: t2)
  two : ∀ a s r, sndR l s → s ≠ [] → P l s a → sndR s h → P s h r → Kids P hi lo (k1 ++ s :: k2) (t1 ++ a :: r :: t2)

theorem kids_after {α : Type} {P : Ky → Ky → α → Prop} {hi : Ky} {k : Ky} : ∀ {lo : Ky} {ks : List Ky} {ts : List α}, Kids P hi lo ks ts → ltB k lo = true → ∀ t ∈ ts, ∃ l' h', P l' h' t ∧ ltB k l' = true
  | lo, [], ts, h, hk => by
    obtain ⟨t, rfl, _, h⟩ := h
    intro t' ht
    simp at ht
    subst ht
    exact ⟨_, _, h, hk⟩
  | lo, s :: ss, ts, h, hk => by
    obtain ⟨t, r, rfl, h1, h2, h3, h⟩ := h
    intro t' ht
    rcases List.mem_cons.1 ht with rfl | ht
    · exact ⟨_, _, h3, hk⟩
    · refine kids_after h ?_ t' ht
      rcases h1.2.2 with e | e
      · exact absurd e h2
      · exact ltB_trans hk e

theorem kids_at {α : Type} {P : Ky → Ky → α → Prop} {hi k : Ky} : ∀ {lo : Ky} {ks : List Ky} {ts : List α}, Kids P hi lo ks ts → inR lo hi k → ∃ k1 k2 t1 t2 c l h, KidAt P lo hi k ks ts k1 k2 t1 t2 c l h
  | lo, [], ts, h, hk => by
    obtain ⟨t, rfl, h1, h2⟩ := h
    exact ⟨[], [], [], [], t, lo, hi, rfl, rfl, rfl, rfl, hk, h1, h2, (fun _ h => by cases h), (fun _ h => by cases h), (fun c' h => ⟨c', rfl, h1, h⟩),
      fun a s r x1 x2 x3 x4 x5 => ⟨a, [r], rfl, x1, x2, x3, r, rfl, x4, x5⟩⟩
  | lo, s :: ss, ts, h, hk => by
    obtain ⟨t, r, rfl, h1, h2, h3, h⟩ := h
    by_cases hs : ltB k s = true
    · refine ⟨[], s :: ss, [], r, t, lo, s, rfl, rfl, rfl, by simp [kidx, hs], ⟨hk.1, .inr hs⟩, h1, h3, (fun _ h => by cases h), kids_after h hs, fun c' hc => ⟨c', r, rfl, h1, h2, hc, h⟩,
        fun a s' r' x1 x2 x3 x4 x5 => ⟨a, r' :: r, rfl, x1, x2, x3, r', r, rfl, x4, h2, x5, h⟩⟩
    · have hs' : ltB k s = false := by simpa using hs
      obtain ⟨k1, k2, t1, t2, c, l, hh, q⟩ := kids_at h ⟨hs', hk.2⟩
      refine ⟨s :: k1, k2, t :: t1, t2, c, l, hh, by rw [q.eks]; rfl, by rw [q.ets]; rfl, by simp [q.len], by simp [kidx, hs', q.idx], q.inr, q.snd, q.kid, ?_, q.after, fun c' hc => ⟨t, _, rfl, h1, h2, h3, q.one c' hc⟩,
        fun a s' r' x1 x2 x3 x4 x5 => ⟨t, _, rfl, h1, h2, h3, q.two a s' r' x1 x2 x3 x4 x5⟩⟩
      intro t' ht
      rcases List.mem_cons.1 ht with rfl | ht
      · exact ⟨_, _, h3, h2, hs'⟩
      · exact q.before t' ht

/-- Kids part at a key. -/
theorem kids_split {α : Type} {P : Ky → Ky → α → Prop} {hi s : Ky} {k2 : List Ky} : ∀ {lo : Ky} {k1 : List Ky} {ts : List α}, Kids P hi lo (k1 ++ s :: k2) ts →
    s ≠ [] ∧ Kids P s lo k1 (ts.take (k1.length + 1)) ∧ Kids P hi s k2 (ts.drop (k1.length + 1))
  | lo, [], ts, h => by
    obtain ⟨t, r, rfl, h1, h2, h3, h⟩ := h
    exact ⟨h2, ⟨t, rfl, h1, h3⟩, h⟩
  | lo, x :: k1, ts, h => by
    obtain ⟨t, r, rfl, h1, h2, h3, h⟩ := h
    obtain ⟨e1, e2, e3⟩ := kids_split h
    exact ⟨e1, ⟨t, _, rfl, h1, h2, h3, e2⟩, e3⟩

/-- All that holds of each kid's keys holds of the kids'. -/
theorem kids_all {α : Type} {P : Ky → Ky → α → Prop} {hi : Ky} : ∀ {lo : Ky} {ks : List Ky} {ts : List α}, Kids P hi lo ks ts → ∀ t ∈ ts, ∃ l h, P l h t ∧ ltB l lo = false ∧ (hi = [] ∨ (h ≠ [] ∧ ltB hi h = false))
  | lo, [], ts, h => by
    obtain ⟨t, rfl, h1, h2⟩ := h
    intro t' ht
    simp at ht
    subst ht
    refine ⟨_, _, h2, ltB_irrefl _, ?_⟩
    by_cases e : hi = []
    · exact .inl e
    · exact .inr ⟨e, ltB_irrefl _⟩
  | lo, s :: ss, ts, h => by
    have hsn := Kids.snd (P := P) (lo := lo) (ks := s :: ss) h
    obtain ⟨t, r, rfl, h1, h2, h3, h⟩ := h
    intro t' ht
    rcases List.mem_cons.1 ht with rfl | ht
    · refine ⟨_, _, h3, ltB_irrefl _, ?_⟩
      rcases (Kids.snd h).2.2 with e | e
      · exact .inl e
      · exact .inr ⟨h2, ltB_asymm e⟩
    · obtain ⟨l, hh, e1, e2, e3⟩ := kids_all h t' ht
      refine ⟨l, hh, e1, ?_, e3⟩
      rcases h1.2.2 with e | e
      · exact absurd e h2
      · exact le_trans_ltB (ltB_asymm e) e2

/-- The pairs of a sound tree rise, may be, and are in its range. -/
theorem Ok.fit {m : Nat} : ∀ {d : Nat} {b : Bool} {lo hi : Ky} {t : Tr d}, Ok m d b lo hi t → Fit (flat d t) ∧ ∀ p ∈ flat d t, inR lo hi p.1
  | 0, b, lo, hi, t, h => ⟨h.1, h.2.2.2⟩
  | d + 1, b, lo, hi, t, h => by
    have key : ∀ (lo : Ky) (ks : List Ky) (ts : List (Tr d)), Kids (Ok m d false) hi lo ks ts → Fit (ts.map (flat d)).flatten ∧ ∀ p ∈ (ts.map (flat d)).flatten, inR lo hi p.1 := by
      intro lo ks
      induction ks generalizing lo with
      | nil =>
        rintro ts ⟨t, rfl, h1, h2⟩
        simpa using h2.fit
      | cons s ss ih =>
        rintro ts ⟨t, r, rfl, h1, h2, h3, h⟩
        obtain ⟨f1, f2⟩ := ih s r h
        obtain ⟨g1, g2⟩ := h3.fit
        rw [List.map_cons, List.flatten_cons]
        have hls : ltB lo s = true := by
          rcases h1.2.2 with e | e
          · exact absurd e h2
          · exact e
        refine ⟨⟨srt_append.2 ⟨g1.1, f1.1, fun p hp q hq => ?_⟩, fun p hp => ?_⟩, fun p hp => ?_⟩
        · have a1 := (g2 p hp).2
          have a2 := (f2 q hq).1
          rcases a1 with e | e
          · exact absurd e h2
          · exact ltB_lt_le e a2
        · rcases List.mem_append.1 hp with hp | hp
          · exact g1.2 p hp
          · exact f1.2 p hp
        · rcases List.mem_append.1 hp with hp | hp
          · refine ⟨(g2 p hp).1, ?_⟩
            rcases (Kids.snd h).2.2 with e | e
            · exact .inl e
            · rcases (g2 p hp).2 with e1 | e1
              · exact absurd e1 h2
              · exact .inr (ltB_trans e1 e)
          · exact ⟨le_trans_ltB (ltB_asymm hls) (f2 p hp).1, (f2 p hp).2⟩
    exact key lo _ _ h.2.2.2
theorem Ok.bel {m d : Nat} {b : Bool} {lo hi k : Ky} {t : Tr d} (h : Ok m d b lo hi t) (hh : hi ≠ []) (hk : ltB k hi = false) : ∀ p ∈ flat d t, ltB p.1 k = true := fun p hp => by
  rcases (h.fit.2 p hp).2 with e | e
  · exact absurd e hh
  · exact ltB_lt_le e hk
theorem Ok.abv {m d : Nat} {b : Bool} {lo hi k : Ky} {t : Tr d} (h : Ok m d b lo hi t) (hk : ltB k lo = true) : ∀ p ∈ flat d t, ltB k p.1 = true := fun p hp =>
  ltB_lt_le hk (h.fit.2 p hp).1

/-- Putting between what is less and what is greater. -/
theorem put_mid {A B C : List Pr} {k : Ky} (v : List UInt8) (hA : ∀ p ∈ A, ltB p.1 k = true) (hC : ∀ p ∈ C, ltB k p.1 = true) (hB : Srt B) : putL (A ++ (B ++ C)) k v = A ++ (putL B k v ++ C) := by
  obtain ⟨X, M, Y, rfl, hX, hY, hM⟩ := split hB k
  have hX' : ∀ p ∈ A ++ X, ltB p.1 k = true := fun p hp => (List.mem_append.1 hp).elim (hA p) (hX p)
  have hY' : ∀ p ∈ Y ++ C, ltB k p.1 = true := fun p hp => (List.mem_append.1 hp).elim (hY p) (hC p)
  have e : A ++ (X ++ (M ++ Y) ++ C) = (A ++ X) ++ (M ++ (Y ++ C)) := by simp
  rw [e, put_split hX' hY' hM v, put_split hX hY hM v]
  simp
theorem has_mid {A B C : List Pr} {k : Ky} (hA : ∀ p ∈ A, ltB p.1 k = true) (hC : ∀ p ∈ C, ltB k p.1 = true) (hB : Srt B) : hasB (A ++ (B ++ C)) k = hasB B k ∧ (hasB B k = true → gt (A ++ (B ++ C)) (pos (A ++ (B ++ C)) k) = gt B (pos B k)) := by
  obtain ⟨X, M, Y, rfl, hX, hY, hM⟩ := split hB k
  have hX' : ∀ p ∈ A ++ X, ltB p.1 k = true := fun p hp => (List.mem_append.1 hp).elim (hA p) (hX p)
  have hY' : ∀ p ∈ Y ++ C, ltB k p.1 = true := fun p hp => (List.mem_append.1 hp).elim (hY p) (hC p)
  have e : A ++ (X ++ (M ++ Y) ++ C) = (A ++ X) ++ (M ++ (Y ++ C)) := by simp
  rw [e, has_split hX' hY' hM, has_split hX hY hM, pos_split hX' hY' hM, pos_split hX hY hM]
  refine ⟨rfl, fun h => ?_⟩
  rcases hM with rfl | ⟨v, rfl⟩
  · simp at h
  · rw [gt_right (Nat.le_refl _), gt_right (Nat.le_refl _)]
    simp [gt]
theorem len_put_is {L : List Pr} (h : Srt L) (k v : Ky) : (putL L k v).length = L.length + (if hasB L k then 0 else 1) := by
  obtain ⟨X, M, Y, rfl, hX, hY, hM⟩ := split h k
  rw [put_split hX hY hM, has_split hX hY hM]
  rcases hM with rfl | ⟨v', rfl⟩ <;> simp <;> omega
end Go.Proofs.Ytdkppgmhhijkgaa

namespace Go.Proofs.Ytdkppgmhhijkgaa
set_option linter.unusedVariables false
set_option maxRecDepth 100000

def ins {α : Type} (l : List α) (j : Nat) (x : α) : List α := l.take j ++ x :: l.drop j
theorem ins_len {α : Type} (l : List α) {j : Nat} (x : α) (h : j ≤ l.length) : (ins l j x).length = l.length + 1 := by
  unfold ins; simp; omega
theorem ins_app {α : Type} (a b : List α) (x : α) : ins (a ++ b) a.length x = a ++ x :: b := by
  unfold ins; simp

abbrev Res (d : Nat) := Tr d × Option (Ky × Tr d) × Nat
def halfL (σ : Nat → Nat) (m i : Nat) (ps : List Pr) (nx : Int) (f : Nat) : Res 0 :=
  if ps.length ≤ m then (mkL i ps nx, none, f)
  else (mkL i (ps.take (ps.length / 2)) (σ f), some ((gt ps (ps.length / 2)).1, mkL (σ f) (ps.drop (ps.length / 2)) nx), f + 1)
def halfN (σ : Nat → Nat) {d : Nat} (m i : Nat) (ks : List Ky) (ts : List (Tr d)) (f : Nat) : Res (d + 1) :=
  if ks.length ≤ m then (mkN i ks ts, none, f)
  else (mkN i (ks.take (ks.length / 2)) (ts.take (ks.length / 2 + 1)), some (kat ks (ks.length / 2), mkN (σ f) (ks.drop (ks.length / 2 + 1)) (ts.drop (ks.length / 2 + 1))), f + 1)
def upN (σ : Nat → Nat) {d : Nat} (m i : Nat) (ks : List Ky) (ts : List (Tr d)) (j : Nat) (R : Res d) : Res (d + 1) :=
  match R.2.1 with
  | none => (mkN i ks (ts.set j R.1), none, R.2.2)
  | some q => halfN σ m i (ins ks j q.1) (ins (ts.set j R.1) (j + 1) q.2) R.2.2
/-- Putting: the tree, or two and the key between them; how many new numbers were taken (σ tells which). -/
def insT (σ : Nat → Nat) (m : Nat) (k v : Ky) : (d : Nat) → Nat → Tr d → Res d
  | 0, f, t => halfL σ m (lf t).1 (putL (lf t).2.1 k v) (lf t).2.2 f
  | d + 1, f, t =>
    match (nn t).2.2[kidx (nn t).2.1 k]? with
    | none => (t, none, f)
    | some c => upN σ m (nn t).1 (nn t).2.1 (nn t).2.2 (kidx (nn t).2.1 k) (insT σ m k v d f c)
/-- The numbers that were taken. -/
def tkn (σ : Nat → Nat) (f g : Nat) : List Nat := (List.range' f (g - f)).map σ

structure Whole (m d : Nat) (b : Bool) (lo hi : Ky) (P : List Pr) (N : List Nat) (C : List (Nat × Int)) (l : Tr d) : Prop where
  ok : Ok m d b lo hi l
  flat : flat d l = P
  nums : (nums d l).Perm N
  chn : ∀ s e, Chn s C e → Chn s (lvs d l) e
structure Halves (m d : Nat) (lo hi : Ky) (P : List Pr) (N : List Nat) (C : List (Nat × Int)) (l : Tr d) (q : Ky × Tr d) : Prop where
  okl : Ok m d false lo q.1 l
  okr : Ok m d false q.1 hi q.2
  sl : sndR lo q.1
  ne : q.1 ≠ []
  sr : sndR q.1 hi
  flat : flat d l ++ flat d q.2 = P
  nums : (nums d l ++ nums d q.2).Perm N
  chn : ∀ s e, Chn s C e → Chn s (lvs d l ++ lvs d q.2) e
/-- What putting leaves. -/
def InsPost (σ : Nat → Nat) (m d : Nat) (b : Bool) (lo hi : Ky) (P : List Pr) (N : List Nat) (C : List (Nat × Int)) (i f : Nat) (R : Res d) : Prop :=
  num d R.1 = i ∧ f ≤ R.2.2 ∧ (R.2.1 = none → Whole m d b lo hi P (N ++ tkn σ f R.2.2) C R.1) ∧ (∀ q, R.2.1 = some q → Halves m d lo hi P (N ++ tkn σ f R.2.2) C R.1 q)

theorem at_parts {α : Type} (l : List α) (d0 : α) {h : Nat} (hh : h < l.length) : l = l.take h ++ l.getD h d0 :: l.drop (h + 1) := by
  rw [List.getD_eq_getElem?_getD, List.getElem?_eq_getElem hh]
  simp

theorem halfL_post {σ : Nat → Nat} {m i : Nat} {b : Bool} {lo hi : Ky} {ps : List Pr} {nx : Int} (f : Nat) (hm : 1 ≤ m) (hf : Fit ps) (hl : ps.length ≤ 2 * m) (hb : b = false → m / 2 ≤ ps.length) (hr : ∀ p ∈ ps, inR lo hi p.1) (hs : sndR lo hi) :
    InsPost σ m 0 b lo hi ps [i] [(i, nx)] i f (halfL σ m i ps nx f) := by
  by_cases h : ps.length ≤ m
  · have e : halfL σ m i ps nx f = (mkL i ps nx, none, f) := by unfold halfL; rw [if_pos h]
    rw [e]
    refine ⟨rfl, Nat.le_refl _, fun _ => ⟨⟨hf, h, hb, hr⟩, rfl, ?_, fun s e h => h⟩, fun q hq => by cases hq⟩
    show List.Perm [i] ([i] ++ tkn σ f f)
    simp [tkn]
  · have e : halfL σ m i ps nx f = (mkL i (ps.take (ps.length / 2)) (σ f), some ((gt ps (ps.length / 2)).1, mkL (σ f) (ps.drop (ps.length / 2)) nx), f + 1) := by unfold halfL; rw [if_neg h]
    rw [e]
    refine ⟨rfl, Nat.le_succ _, (fun h => by cases h), fun q hq => ?_⟩
    injection hq with hq
    subst hq
    have hlen : m + 1 ≤ ps.length := by omega
    have hh : ps.length / 2 < ps.length := by omega
    have hp := at_parts ps ([], []) hh
    have hmem := gt_mem hh
    have hfs := hf.2 _ hmem
    have hrs := hr _ hmem
    have hgt : ps.getD (ps.length / 2) ([], []) = gt ps (ps.length / 2) := rfl
    rw [hgt] at hp
    have hd : ps.drop (ps.length / 2) = gt ps (ps.length / 2) :: ps.drop (ps.length / 2 + 1) := by
      rw [List.drop_eq_getElem_cons hh, gt_eq hh]
    have hsrt := hf.1
    rw [hp] at hsrt
    obtain ⟨s1, s2, s3⟩ := srt_append.1 hsrt
    have s4 := (List.pairwise_cons.1 s2).1
    generalize gt ps (ps.length / 2) = x at *
    have hx : x.1 ≠ [] ∧ x.1.length ≤ 16 := by
      unfold fairB mayB at hfs
      simp at hfs
      exact ⟨by rintro e; rw [e] at hfs; simp at hfs, by omega⟩
    have hsl : sndR lo x.1 := by
      refine ⟨hs.1, hx.2, .inr ?_⟩
      have h0 : 0 < (ps.take (ps.length / 2)).length := by simp; omega
      have hm0 := List.getElem_mem h0
      have a1 := s3 _ hm0 x (by simp)
      have a2 := (hr _ (List.mem_of_mem_take hm0)).1
      exact ltB_le_trans a2 a1
    refine ⟨⟨⟨s1, fun p hp => hf.2 p (List.mem_of_mem_take hp)⟩, ?_, fun _ => ?_, fun p hp => ⟨(hr p (List.mem_of_mem_take hp)).1, .inr (s3 p hp x (by simp))⟩⟩, ⟨⟨?_, fun p hp => hf.2 p (List.mem_of_mem_drop hp)⟩, ?_, fun _ => ?_, fun p hp => ⟨?_, (hr p (List.mem_of_mem_drop hp)).2⟩⟩, hsl, hx.1, ⟨hx.2, hs.2.1, hrs.2⟩, ?_, ?_, ?_⟩
    · show (ps.take (ps.length / 2)).length ≤ m
      simp; omega
    · show m / 2 ≤ (ps.take (ps.length / 2)).length
      simp; omega
    · show Srt (ps.drop (ps.length / 2))
      rw [hd]; exact s2
    · show (ps.drop (ps.length / 2)).length ≤ m
      simp; omega
    · show m / 2 ≤ (ps.drop (ps.length / 2)).length
      simp; omega
    · have hp' : p ∈ ps.drop (ps.length / 2) := hp
      rw [hd] at hp'
      rcases List.mem_cons.1 hp' with rfl | hp'
      · exact ltB_irrefl _
      · exact ltB_asymm (s4 p hp')
    · show ps.take (ps.length / 2) ++ ps.drop (ps.length / 2) = ps
      exact List.take_append_drop _ _
    · show List.Perm ([i] ++ [σ f]) ([i] ++ tkn σ f (f + 1))
      unfold tkn
      rw [show f + 1 - f = 1 by omega]
      exact List.Perm.refl _
    · intro s e hc
      have hc' : s = (i : Int) ∧ nx = e := hc
      show Chn s [(i, (σ f : Int)), (σ f, nx)] e
      exact ⟨hc'.1, rfl, hc'.2⟩

theorem halfN_post {σ : Nat → Nat} {m d i : Nat} {b : Bool} {lo hi : Ky} {ks : List Ky} {ts : List (Tr d)} {P : List Pr} {N : List Nat} {C : List (Nat × Int)} {f0 f : Nat} (hff : f0 ≤ f) (hl1 : 1 ≤ ks.length) (hm : 2 ≤ m) (hl : ks.length ≤ 2 * m) (hb : b = false → m / 2 ≤ ks.length) (hk : Kids (Ok m d false) hi lo ks ts)
    (hP : (ts.map (flat d)).flatten = P) (hN : (i :: (ts.map (nums d)).flatten).Perm (N ++ tkn σ f0 f)) (hC : ∀ s e, Chn s C e → Chn s (ts.map (lvs d)).flatten e) :
    InsPost σ m (d + 1) b lo hi P N C i f0 (halfN σ m i ks ts f) := by
  by_cases h : ks.length ≤ m
  · have e : halfN σ m i ks ts f = (mkN i ks ts, none, f) := by unfold halfN; rw [if_pos h]
    rw [e]
    exact ⟨rfl, hff, fun _ => ⟨⟨hl1, h, hb, hk⟩, hP, hN, hC⟩, fun q hq => by cases hq⟩
  · have e : halfN σ m i ks ts f = (mkN i (ks.take (ks.length / 2)) (ts.take (ks.length / 2 + 1)), some (kat ks (ks.length / 2), mkN (σ f) (ks.drop (ks.length / 2 + 1)) (ts.drop (ks.length / 2 + 1))), f + 1) := by unfold halfN; rw [if_neg h]
    rw [e]
    refine ⟨rfl, Nat.le_succ_of_le hff, (fun h => by cases h), fun q hq => ?_⟩
    injection hq with hq
    subst hq
    have hh : ks.length / 2 < ks.length := by omega
    have hp := at_parts ks [] hh
    have hlt : (ks.take (ks.length / 2)).length = ks.length / 2 := by simp; omega
    rw [hp] at hk
    obtain ⟨e1, e2, e3⟩ := kids_split hk
    rw [hlt] at e2 e3
    have hlen : m + 1 ≤ ks.length := by omega
    refine ⟨⟨?_, ?_, fun _ => ?_, e2⟩, ⟨?_, ?_, fun _ => ?_, e3⟩, e2.snd, e1, e3.snd, ?_, ?_, ?_⟩
    · show 1 ≤ (ks.take (ks.length / 2)).length
      omega
    · show (ks.take (ks.length / 2)).length ≤ m
      omega
    · show m / 2 ≤ (ks.take (ks.length / 2)).length
      omega
    · show 1 ≤ (ks.drop (ks.length / 2 + 1)).length
      simp; omega
    · show (ks.drop (ks.length / 2 + 1)).length ≤ m
      simp; omega
    · show m / 2 ≤ (ks.drop (ks.length / 2 + 1)).length
      simp; omega
    · show ((ts.take (ks.length / 2 + 1)).map (flat d)).flatten ++ ((ts.drop (ks.length / 2 + 1)).map (flat d)).flatten = P
      rw [← List.flatten_append, ← List.map_append, List.take_append_drop, hP]
    · show List.Perm ((i :: ((ts.take (ks.length / 2 + 1)).map (nums d)).flatten) ++ (σ f :: ((ts.drop (ks.length / 2 + 1)).map (nums d)).flatten)) (N ++ tkn σ f0 (f + 1))
      have a1 : tkn σ f0 (f + 1) = tkn σ f0 f ++ [σ f] := by
        unfold tkn
        rw [show f + 1 - f0 = (f - f0) + 1 by omega, List.range'_concat, List.map_append]
        congr 1
        show [σ (f0 + 1 * (f - f0))] = [σ f]
        rw [show f0 + 1 * (f - f0) = f by omega]
      rw [a1, ← List.append_assoc]
      refine List.Perm.trans ?_ (hN.append_right [σ f])
      have a2 : (ts.map (nums d)).flatten = ((ts.take (ks.length / 2 + 1)).map (nums d)).flatten ++ ((ts.drop (ks.length / 2 + 1)).map (nums d)).flatten := by
        rw [← List.flatten_append, ← List.map_append, List.take_append_drop]
      rw [a2]
      generalize ((ts.take (ks.length / 2 + 1)).map (nums d)).flatten = A
      generalize ((ts.drop (ks.length / 2 + 1)).map (nums d)).flatten = B
      simp only [List.cons_append, List.append_assoc]
      refine List.Perm.cons _ (List.Perm.append_left _ ?_)
      exact (List.perm_append_comm (l₁ := [σ f]) (l₂ := B))
    · intro s e hc
      show Chn s (((ts.take (ks.length / 2 + 1)).map (lvs d)).flatten ++ ((ts.drop (ks.length / 2 + 1)).map (lvs d)).flatten) e
      rw [← List.flatten_append, ← List.map_append, List.take_append_drop]
      exact hC s e hc

theorem set_mid {α : Type} (a b : List α) (x y : α) {j : Nat} (h : j = a.length) : (a ++ x :: b).set j y = a ++ y :: b := by
  subst h; simp
theorem get_mid {α : Type} (a b : List α) (x : α) {j : Nat} (h : j = a.length) : (a ++ x :: b)[j]? = some x := by
  subst h; simp

theorem ins_post (σ : Nat → Nat) {m : Nat} {k v : Ky} (hm : 3 ≤ m) (hf : fairB (k, v) = true) : ∀ {d : Nat} {b : Bool} {lo hi : Ky} {t : Tr d} (f : Nat), Ok m d b lo hi t → sndR lo hi → inR lo hi k →
    InsPost σ m d b lo hi (putL (flat d t) k v) (nums d t) (lvs d t) (num d t) f (insT σ m k v d f t)
  | 0, b, lo, hi, t, f, h, hs, hk => by
    have hp := h.1.put (k := k) (v := v) hf
    refine halfL_post f (by omega) hp ?_ (fun hb => ?_) (fun p hp => ?_) hs
    · have := len_put (lf t).2.1 k v
      have := h.2.1
      show (putL (lf t).2.1 k v).length ≤ 2 * m
      omega
    · have := len_put_is h.1.1 k v
      have := h.2.2.1 hb
      show m / 2 ≤ (putL (lf t).2.1 k v).length
      omega
    · rcases mem_put hp with hp | rfl
      · exact h.2.2.2 p hp
      · exact hk
  | d + 1, b, lo, hi, t, f, h, hs, hk => by
    obtain ⟨h1, h2, h3, h4⟩ := h
    obtain ⟨k1, k2, t1, t2, c, l, hh, q⟩ := kids_at h4 hk
    have hidx : kidx (nn t).2.1 k = t1.length := by rw [q.idx, q.len]
    have hget : (nn t).2.2[kidx (nn t).2.1 k]? = some c := by rw [q.ets]; exact get_mid t1 t2 c hidx
    have e : insT σ m k v (d + 1) f t = upN σ m (nn t).1 (nn t).2.1 (nn t).2.2 (kidx (nn t).2.1 k) (insT σ m k v d f c) := by
      show (match (nn t).2.2[kidx (nn t).2.1 k]? with | none => _ | some c => _) = _
      rw [hget]
    have hpost := ins_post σ hm hf f q.kid q.snd q.inr
    rw [e]
    generalize insT σ m k v d f c = R at hpost
    obtain ⟨p1, p2, p3, p4⟩ := hpost
    have hA : ∀ p ∈ (t1.map (flat d)).flatten, ltB p.1 k = true := fun p hp => by
      obtain ⟨L, hL, hp⟩ := List.mem_flatten.1 hp
      obtain ⟨t', ht, rfl⟩ := List.mem_map.1 hL
      obtain ⟨l', h', x1, x2, x3⟩ := q.before t' ht
      exact x1.bel x2 x3 p hp
    have hC : ∀ p ∈ (t2.map (flat d)).flatten, ltB k p.1 = true := fun p hp => by
      obtain ⟨L, hL, hp⟩ := List.mem_flatten.1 hp
      obtain ⟨t', ht, rfl⟩ := List.mem_map.1 hL
      obtain ⟨l', h', x1, x2⟩ := q.after t' ht
      exact x1.abv x2 p hp
    have hflat : flat (d + 1) t = (t1.map (flat d)).flatten ++ (flat d c ++ (t2.map (flat d)).flatten) := by
      show ((nn t).2.2.map (flat d)).flatten = _
      rw [q.ets]; simp
    have hnums : nums (d + 1) t = (nn t).1 :: ((t1.map (nums d)).flatten ++ (nums d c ++ (t2.map (nums d)).flatten)) := by
      show (nn t).1 :: ((nn t).2.2.map (nums d)).flatten = _
      rw [q.ets]; simp
    have hlvs : lvs (d + 1) t = (t1.map (lvs d)).flatten ++ (lvs d c ++ (t2.map (lvs d)).flatten) := by
      show ((nn t).2.2.map (lvs d)).flatten = _
      rw [q.ets]; simp
    have hput := put_mid v hA hC q.kid.fit.1.1
    rw [hflat, hnums, hlvs, hput]
    have hset : (nn t).2.2.set (kidx (nn t).2.1 k) R.1 = t1 ++ R.1 :: t2 := by rw [q.ets]; exact set_mid t1 t2 c R.1 hidx
    unfold upN
    cases ho : R.2.1 with
    | none =>
      obtain ⟨w1, w2, w3, w4⟩ := p3 ho
      simp only []
      rw [hset]
      refine ⟨rfl, p2, fun _ => ⟨⟨h1, h2, h3, ?_⟩, ?_, ?_, fun s e hc => ?_⟩, fun q hq => by cases hq⟩
      · show Kids (Ok m d false) hi lo (nn t).2.1 (t1 ++ R.1 :: t2)
        rw [q.eks]
        exact q.one _ w1
      · show ((t1 ++ R.1 :: t2).map (flat d)).flatten = _
        simp [w2]
      · show List.Perm ((nn t).1 :: ((t1 ++ R.1 :: t2).map (nums d)).flatten) (_ :: (_ ++ (_ ++ _)) ++ tkn σ f R.2.2)
        simp only [List.map_append, List.map_cons, List.flatten_append, List.flatten_cons, List.cons_append, List.append_assoc]
        refine List.Perm.cons _ (List.Perm.append_left _ ?_)
        refine (w3.append_right _).trans ?_
        rw [List.append_assoc]
        exact List.Perm.append_left _ List.perm_append_comm
      · show Chn s ((t1 ++ R.1 :: t2).map (lvs d)).flatten e
        simp only [List.map_append, List.map_cons, List.flatten_append, List.flatten_cons]
        obtain ⟨x, c1, c2⟩ := chn_app.1 hc
        obtain ⟨y, c2, c3⟩ := chn_app.1 c2
        exact chn_app.2 ⟨x, c1, chn_app.2 ⟨y, w4 _ _ c2, c3⟩⟩
    | some r =>
      obtain ⟨s, r⟩ := r
      obtain ⟨w1, w2, w3, w4, w5, w6, w7, w8⟩ := p4 _ ho
      simp only [] at w1 w2 w3 w4 w5 w6 w7 w8
      simp only []
      have hk' : ins (nn t).2.1 (kidx (nn t).2.1 k) s = k1 ++ s :: k2 := by
        rw [q.idx, q.eks]; exact ins_app k1 k2 s
      have ht' : ins (t1 ++ R.1 :: t2) (kidx (nn t).2.1 k + 1) r = t1 ++ R.1 :: r :: t2 := by
        have := ins_app (t1 ++ [R.1]) t2 r
        rw [hidx]
        simpa using this
      have hkl : (k1 ++ s :: k2).length = (nn t).2.1.length + 1 := by
        rw [q.eks]; simp; omega
      rw [hset, hk', ht']
      refine halfN_post p2 (by omega) (by omega) (by omega) (fun hb => by have := h3 hb; omega) (q.two _ _ _ w3 w4 w1 w5 w2) ?_ ?_ (fun s' e hc => ?_)
      · simp [← w6]
      · simp only [List.map_append, List.map_cons, List.flatten_append, List.flatten_cons, List.cons_append, List.append_assoc]
        refine List.Perm.cons _ (List.Perm.append_left _ ?_)
        rw [← List.append_assoc]
        refine (w7.append_right _).trans ?_
        rw [List.append_assoc]
        exact List.Perm.append_left _ List.perm_append_comm
      · simp only [List.map_append, List.map_cons, List.flatten_append, List.flatten_cons]
        obtain ⟨x, c1, c2⟩ := chn_app.1 hc
        obtain ⟨y, c2, c3⟩ := chn_app.1 c2
        rw [← List.append_assoc (lvs d R.1)]
        exact chn_app.2 ⟨x, c1, chn_app.2 ⟨y, w8 _ _ c2, c3⟩⟩
end Go.Proofs.Ytdkppgmhhijkgaa

namespace Go.Proofs.Ytdkppgmhhijkgaa
set_option linter.unusedVariables false
set_option maxRecDepth 100000

/-- A stop on a way. -/
structure Stp where
  num : Nat
  nd : Nd
  kid : Nat

/-- A node of a tree. -/
def ndT : (d : Nat) → Tr d → Nd
  | 0, t => ⟨true, (lf t).2.1, [], [], (lf t).2.2⟩
  | d + 1, t => ⟨false, [], (nn t).2.1, (nn t).2.2.map (fun c => (num d c : Int)), 0⟩
theorem Holds.here {L : List (Option Nd)} : ∀ {d : Nat} {t : Tr d}, Holds L d t → lat L (num d t) = some (ndT d t)
  | 0, t, h => h
  | d + 1, t, h => h.1

/-- The way to a key's leaf. -/
def wayT (k : Ky) : (d : Nat) → Tr d → List Stp
  | 0, t => [⟨(lf t).1, ndT 0 t, 0⟩]
  | d + 1, t => ⟨(nn t).1, ndT (d + 1) t, kidx (nn t).2.1 k⟩ :: match (nn t).2.2[kidx (nn t).2.1 k]? with
    | none => []
    | some c => wayT k d c
/-- Its leaf. -/
def leafT (k : Ky) : (d : Nat) → Tr d → Nat × List Pr × Int
  | 0, t => lf t
  | d + 1, t => match (nn t).2.2[kidx (nn t).2.1 k]? with
    | none => (0, [], 0)
    | some c => leafT k d c
def leafN (x : Nat × List Pr × Int) : Nd := ⟨true, x.2.1, [], [], x.2.2⟩

def fitsN (m : Nat) (n : Nd) : Bool := decide (n.pairs.length ≤ m) && decide (n.keys.length ≤ m)
def leftN (n : Nd) (high : Int) : Nd :=
  if n.leaf then ⟨true, n.pairs.take (n.pairs.length / 2), [], [], high⟩ else ⟨false, [], n.keys.take (n.keys.length / 2), n.kids.take (n.keys.length / 2 + 1), 0⟩
def rightN (n : Nd) : Nd :=
  if n.leaf then ⟨true, n.pairs.drop (n.pairs.length / 2), [], [], n.next⟩ else ⟨false, [], n.keys.drop (n.keys.length / 2 + 1), n.kids.drop (n.keys.length / 2 + 1), 0⟩
def sepN (n : Nd) : Ky := if n.leaf then (gt n.pairs (n.pairs.length / 2)).1 else kat n.keys (n.keys.length / 2)
def withN (s : Stp) (from_ : Ky) (kid : Int) : Nd := ⟨false, [], ins s.nd.keys s.kid from_, ins s.nd.kids (s.kid + 1) kid, 0⟩
def rootN (s : Ky) (low high : Int) : Nd := ⟨false, [], [s], [low, high], 0⟩

/-- The number that Make gives, and what Make leaves. -/
def nxt (n : Nat) (F : List Nat) : Nat := F.getLastD n
def mkA (L : List (Option Nd)) (F : List Nat) (x : Nd) : List (Option Nd) := if F = [] then L ++ [some x] else L.set (nxt L.length F) (some x)
/-- The numbers that Make gives, one after another. -/
def sup (n : Nat) (F : List Nat) (j : Nat) : Nat := nxt (n + (j - F.length)) (F.take (F.length - j))
theorem sup_zero (n : Nat) (F : List Nat) : sup n F 0 = nxt n F := by unfold sup; simp

/-- What lay does, the way from its end on: the numbers, the free ones, and the root. -/
def layR (m : Nat) : List Stp → Nd → List (Option Nd) → List Nat → Nat → List (Option Nd) × List Nat × Nat
  | [], _, L, F, root => (L, F, root)
  | s :: up, n, L, F, root =>
    if fitsN m n then (L.set s.num (some n), F, root)
    else match up with
      | [] => (mkA ((mkA L F (rightN n)).set s.num (some (leftN n (nxt L.length F)))) F.dropLast (rootN (sepN n) s.num (nxt L.length F)), F.dropLast.dropLast, nxt ((mkA L F (rightN n)).set s.num (some (leftN n (nxt L.length F)))).length F.dropLast)
      | a :: up' => layR m (a :: up') (withN a (sepN n) (nxt L.length F)) ((mkA L F (rightN n)).set s.num (some (leftN n (nxt L.length F)))) F.dropLast root
/-- Where a node was halved: what is done above. -/
def layUp (m : Nat) (up : List Stp) (low : Nat) (s : Ky) (high : Nat) (L : List (Option Nd)) (F : List Nat) (root : Nat) : List (Option Nd) × List Nat × Nat :=
  match up with
  | [] => (mkA L F (rootN s low high), F.dropLast, nxt L.length F)
  | a :: up' => layR m (a :: up') (withN a s high) L F root
theorem layR_fits {m : Nat} {s : Stp} {up : List Stp} {n : Nd} {L : List (Option Nd)} {F : List Nat} {root : Nat} (h : fitsN m n = true) : layR m (s :: up) n L F root = (L.set s.num (some n), F, root) := by
  unfold layR; rw [if_pos h]
theorem layR_not {m : Nat} {s : Stp} {up : List Stp} {n : Nd} {L : List (Option Nd)} {F : List Nat} {root : Nat} (h : fitsN m n = false) :
    layR m (s :: up) n L F root = layUp m up s.num (sepN n) (nxt L.length F) ((mkA L F (rightN n)).set s.num (some (leftN n (nxt L.length F)))) F.dropLast root := by
  unfold layR; rw [if_neg (by simp [h])]
  unfold layUp
  cases up with
  | nil => rfl
  | cons a up => rfl

theorem lat_lt {L : List (Option Nd)} {i : Nat} {x : Nd} (h : lat L i = some x) : i < L.length := by
  rcases Nat.lt_or_ge i L.length with hk | hk
  · exact hk
  · rw [lat_out hk] at h; cases h
theorem lat_push_lt {L : List (Option Nd)} {j : Nat} {o : Option Nd} (h : j < L.length) : lat (L ++ [o]) j = lat L j := by
  rw [lat_push, if_neg (by omega)]
theorem lat_set_ne {L : List (Option Nd)} {i j : Nat} {o : Option Nd} (h : j ≠ i) : lat (L.set i o) j = lat L j := by
  unfold lat
  simp only [List.getD_eq_getElem?_getD]
  rw [List.getElem?_set_ne (fun e => h e.symm)]
theorem lat_set_eq {L : List (Option Nd)} {i : Nat} {o : Option Nd} (h : i < L.length) : lat (L.set i o) i = o := by
  rw [lat_set h, if_pos rfl]

theorem Holds.lt {L : List (Option Nd)} : ∀ {d : Nat} {t : Tr d}, Holds L d t → ∀ i ∈ nums d t, i < L.length
  | 0, t, h, i, hi => by
    simp [nums] at hi
    subst hi
    exact lat_lt h
  | d + 1, t, h, i, hi => by
    simp only [nums, List.mem_cons, List.mem_flatten, List.mem_map] at hi
    rcases hi with rfl | ⟨_, ⟨c, hc, rfl⟩, hi⟩
    · exact lat_lt h.1
    · exact (h.2 c hc).lt i hi

theorem last_or (F : List Nat) : F = [] ∨ ∃ F0 k, F = F0 ++ [k] := by
  rcases List.eq_nil_or_concat F with h | ⟨F0, k, h⟩
  · exact .inl h
  · exact .inr ⟨F0, k, by rw [h, List.concat_eq_append]⟩
theorem mkA_len (L : List (Option Nd)) (F : List Nat) (x : Nd) : (mkA L F x).length = L.length + (1 - F.length) := by
  unfold mkA
  split
  · rename_i h; subst h; simp
  · rename_i h
    have : 1 ≤ F.length := List.length_pos_iff.2 h
    simp; omega
theorem nxt_cases (n : Nat) (F : List Nat) : (F = [] ∧ nxt n F = n) ∨ nxt n F ∈ F := by
  rcases last_or F with rfl | ⟨F0, k, rfl⟩
  · exact .inl ⟨rfl, rfl⟩
  · exact .inr (by simp [nxt])
theorem nxt_lt {L : List (Option Nd)} {F : List Nat} (h : FreeOk L F) (x : Nd) : nxt L.length F < (mkA L F x).length := by
  rw [mkA_len]
  rcases nxt_cases L.length F with ⟨h1, h2⟩ | h1
  · rw [h2, h1]; simp
  · have := (h.2 _ h1).1
    omega
theorem nxt_none {L : List (Option Nd)} {F : List Nat} (h : FreeOk L F) : lat L (nxt L.length F) = none := by
  rcases nxt_cases L.length F with ⟨h1, h2⟩ | h1
  · rw [h2]; exact lat_out (Nat.le_refl _)
  · exact (h.2 _ h1).2
theorem mkA_at {L : List (Option Nd)} {F : List Nat} (h : FreeOk L F) (x : Nd) (i : Nat) : lat (mkA L F x) i = if i = nxt L.length F then some x else lat L i := by
  rcases last_or F with rfl | ⟨F0, k, rfl⟩
  · have e : mkA L [] x = L ++ [some x] := by unfold mkA; rw [if_pos rfl]
    rw [e, lat_push]
    rfl
  · have e : mkA L (F0 ++ [k]) x = L.set k (some x) := by unfold mkA; rw [if_neg (by simp)]; simp [nxt]
    have hn : nxt L.length (F0 ++ [k]) = k := by simp [nxt]
    rw [e, hn, lat_set (h.2 k (by simp)).1]
theorem mkA_free {L : List (Option Nd)} {F : List Nat} (h : FreeOk L F) (x : Nd) : FreeOk (mkA L F x) F.dropLast := by
  rcases last_or F with rfl | ⟨F0, k, rfl⟩
  · exact ⟨List.nodup_nil, fun i hi => by cases hi⟩
  · have hd : (F0 ++ [k]).dropLast = F0 := by simp
    have hn : nxt L.length (F0 ++ [k]) = k := by simp [nxt]
    obtain ⟨h1, -, h3⟩ := List.nodup_append.1 h.1
    rw [hd]
    refine ⟨h1, fun i hi => ?_⟩
    have h4 := h.2 i (by simp [hi])
    refine ⟨by rw [mkA_len]; omega, ?_⟩
    rw [mkA_at h, hn, if_neg (fun e => h3 i hi k (by simp) e)]
    exact h4.2
theorem set_free {L : List (Option Nd)} {F : List Nat} (h : FreeOk L F) {i : Nat} (o : Option Nd) (hi : i ∉ F) : FreeOk (L.set i o) F :=
  ⟨h.1, fun j hj => ⟨by rw [List.length_set]; exact (h.2 j hj).1, (lat_set_ne (fun e => hi (by rw [← e]; exact hj))).trans (h.2 j hj).2⟩⟩
theorem Holds.some {L : List (Option Nd)} : ∀ {d : Nat} {t : Tr d}, Holds L d t → ∀ i ∈ nums d t, ∃ x, lat L i = some x
  | 0, t, h, i, hi => by
    simp [nums] at hi
    subst hi
    exact ⟨_, h⟩
  | d + 1, t, h, i, hi => by
    simp only [nums, List.mem_cons, List.mem_flatten, List.mem_map] at hi
    rcases hi with rfl | ⟨_, ⟨c, hc, rfl⟩, hi⟩
    · exact ⟨_, h.1⟩
    · exact (h.2 c hc).some i hi
theorem Holds.unfree {L : List (Option Nd)} {F : List Nat} {d : Nat} {t : Tr d} (h : Holds L d t) (hF : FreeOk L F) : ∀ i ∈ nums d t, i ∉ F := fun i hi hf => by
  obtain ⟨x, hx⟩ := h.some i hi
  rw [(hF.2 i hf).2] at hx
  cases hx
theorem Holds.unnext {L : List (Option Nd)} {F : List Nat} {d : Nat} {t : Tr d} (h : Holds L d t) (hF : FreeOk L F) : ∀ i ∈ nums d t, i ≠ nxt L.length F := fun i hi e => by
  obtain ⟨x, hx⟩ := h.some i hi
  rw [e, nxt_none hF] at hx
  cases hx
theorem take_drop1 (F : List Nat) (j : Nat) : (F.take (F.length - j)).dropLast = F.take (F.length - (j + 1)) := by
  rw [List.dropLast_eq_take, List.take_take, List.length_take]
  congr 1
  omega

/-- What is left of the numbers by putting. -/
structure LayPost (m d : Nat) (L : List (Option Nd)) (F : List Nat) (root : Nat) (up : List Stp) (t : Tr d) (R : Res d) (out : List (Option Nd) × List Nat × Nat) (L' : List (Option Nd)) : Prop where
  len : L'.length = L.length + (R.2.2 - F.length)
  far : ∀ i, i < L.length → i ∉ F → i ∉ nums d t → lat L' i = lat L i
  free : FreeOk L' (F.take (F.length - R.2.2))
  one : R.2.1 = none → out = (L', F.take (F.length - R.2.2), root) ∧ Holds L' d R.1
  two : ∀ q, R.2.1 = some q → out = layUp m up (num d t) q.1 (num d q.2) L' (F.take (F.length - R.2.2)) root ∧ Holds L' d R.1 ∧ Holds L' d q.2

theorem map_take_num {d : Nat} (ts : List (Tr d)) (n : Nat) : (ts.map (fun c => (num d c : Int))).take n = (ts.take n).map (fun c => (num d c : Int)) := by simp
theorem map_drop_num {d : Nat} (ts : List (Tr d)) (n : Nat) : (ts.map (fun c => (num d c : Int))).drop n = (ts.drop n).map (fun c => (num d c : Int)) := by simp

/-- A leaf laid. -/
theorem layL_post {m : Nat} {L : List (Option Nd)} {F : List Nat} {root : Nat} {up : List Stp} {t : Tr 0} (s : Stp) (hs : s.num = (lf t).1) (ps : List Pr) (hL : Holds L 0 t) (hF : FreeOk L F) :
    ∃ L', LayPost m 0 L F root up t (halfL (sup L.length F) m (lf t).1 ps (lf t).2.2 0) (layR m (s :: up) ⟨true, ps, [], [], (lf t).2.2⟩ L F root) L' := by
  have hlt : (lf t).1 < L.length := lat_lt hL
  have hnF : (lf t).1 ∉ F := hL.unfree hF _ (by simp [nums])
  have hnn : (lf t).1 ≠ nxt L.length F := hL.unnext hF _ (by simp [nums])
  by_cases h : ps.length ≤ m
  · have e : halfL (sup L.length F) m (lf t).1 ps (lf t).2.2 0 = (mkL (lf t).1 ps (lf t).2.2, none, 0) := by unfold halfL; rw [if_pos h]
    rw [e, layR_fits (by simp [fitsN, h]), hs]
    refine ⟨_, ⟨by simp, fun i hi _ hn => lat_set_ne (by simpa [nums] using hn), ?_, fun _ => ⟨by rw [Nat.sub_zero, List.take_length], ?_⟩, fun q hq => by cases hq⟩⟩
    · simpa using set_free hF _ hnF
    · exact lat_set_eq hlt
  · have e : halfL (sup L.length F) m (lf t).1 ps (lf t).2.2 0 = (mkL (lf t).1 (ps.take (ps.length / 2)) (nxt L.length F), some ((gt ps (ps.length / 2)).1, mkL (nxt L.length F) (ps.drop (ps.length / 2)) (lf t).2.2), 1) := by unfold halfL; rw [if_neg h, sup_zero]
    have hd : F.dropLast = F.take (F.length - 1) := List.dropLast_eq_take
    rw [e, layR_not (by simp [fitsN, h]), hs]
    refine ⟨(mkA L F (rightN ⟨true, ps, [], [], (lf t).2.2⟩)).set (lf t).1 (some (leftN ⟨true, ps, [], [], (lf t).2.2⟩ (nxt L.length F))), ⟨by rw [List.length_set, mkA_len], fun i hi hiF hn => ?_, ?_, (fun h => by cases h), fun q hq => ?_⟩⟩
    · rw [lat_set_ne (by simpa [nums] using hn), mkA_at hF, if_neg]
      intro e
      rcases nxt_cases L.length F with ⟨h1, h2⟩ | h1
      · omega
      · exact hiF (e ▸ h1)
    · rw [← hd]
      exact set_free (mkA_free hF _) _ (fun hm => hnF ((List.dropLast_sublist _).subset hm))
    · injection hq with hq
      subst hq
      refine ⟨by rw [← hd]; rfl, ?_, ?_⟩
      · show lat _ (lf t).1 = _
        rw [lat_set_eq (by rw [mkA_len]; omega)]
        rfl
      · show lat _ (nxt L.length F) = _
        rw [lat_set_ne (fun e => hnn e.symm), mkA_at hF, if_pos rfl]
        rfl

/-- Another node laid. -/
theorem layN_post {m d : Nat} {L L1 : List (Option Nd)} {F : List Nat} {root : Nat} {up : List Stp} {t : Tr (d + 1)} (s : Stp) (hs : s.num = (nn t).1) (ks : List Ky) (ts : List (Tr d)) (f : Nat) (hlt : (nn t).1 < L.length) (htF : (nn t).1 ∉ F) (hL1 : L1.length = L.length + (f - F.length)) (hF1 : FreeOk L1 (F.take (F.length - f)))
    (hfar : ∀ i, i < L.length → i ∉ F → i ∉ nums (d + 1) t → lat L1 i = lat L i) (hts : ∀ c ∈ ts, Holds L1 d c) (hni : ∀ c ∈ ts, (nn t).1 ∉ nums d c) :
    ∃ L', LayPost m (d + 1) L F root up t (halfN (sup L.length F) m (nn t).1 ks ts f) (layR m (s :: up) ⟨false, [], ks, ts.map (fun c => (num d c : Int)), 0⟩ L1 (F.take (F.length - f)) root) L' := by
  have hne : ∀ i, i ∉ nums (d + 1) t → i ≠ (nn t).1 := fun i hi e => hi (by rw [e]; simp [nums])
  have hsup : sup L.length F f = nxt L1.length (F.take (F.length - f)) := by unfold sup; rw [hL1]
  have htF1 : (nn t).1 ∉ F.take (F.length - f) := fun hm => htF (List.mem_of_mem_take hm)
  by_cases h : ks.length ≤ m
  · have e : halfN (sup L.length F) m (nn t).1 ks ts f = (mkN (nn t).1 ks ts, none, f) := by unfold halfN; rw [if_pos h]
    rw [e, layR_fits (by simp [fitsN, h]), hs]
    refine ⟨_, ⟨by rw [List.length_set]; exact hL1, fun i hi hiF hn => (lat_set_ne (hne i hn)).trans (hfar i hi hiF hn), set_free hF1 _ htF1, fun _ => ⟨rfl, ?_, fun c hc => ?_⟩, fun q hq => by cases hq⟩⟩
    · exact lat_set_eq (by omega)
    · exact holds_keep (hts c hc) fun i hi => lat_set_ne fun e => hni c hc (e ▸ hi)
  · have e : halfN (sup L.length F) m (nn t).1 ks ts f = (mkN (nn t).1 (ks.take (ks.length / 2)) (ts.take (ks.length / 2 + 1)), some (kat ks (ks.length / 2), mkN (nxt L1.length (F.take (F.length - f))) (ks.drop (ks.length / 2 + 1)) (ts.drop (ks.length / 2 + 1))), f + 1) := by unfold halfN; rw [if_neg h, hsup]
    rw [e, layR_not (by simp [fitsN, h]), hs]
    generalize hF2 : F.take (F.length - f) = F1 at *
    have hd : F1.dropLast = F.take (F.length - (f + 1)) := by rw [← hF2, take_drop1]
    have hkeep : ∀ c ∈ ts, Holds ((mkA L1 F1 (rightN ⟨false, [], ks, ts.map (fun c => (num d c : Int)), 0⟩)).set (nn t).1 (some (leftN ⟨false, [], ks, ts.map (fun c => (num d c : Int)), 0⟩ (nxt L1.length F1)))) d c := fun c hc =>
      holds_keep (hts c hc) fun i hi => by
        have hne' : i ≠ (nn t).1 := fun e => hni c hc (by rw [← e]; exact hi)
        rw [lat_set_ne hne', mkA_at hF1, if_neg ((hts c hc).unnext hF1 i hi)]
    have hnx : (nn t).1 ≠ nxt L1.length F1 := fun e => by
      rcases nxt_cases L1.length F1 with ⟨h1, h2⟩ | h1
      · omega
      · exact htF1 (e ▸ h1)
    refine ⟨(mkA L1 F1 (rightN ⟨false, [], ks, ts.map (fun c => (num d c : Int)), 0⟩)).set (nn t).1 (some (leftN ⟨false, [], ks, ts.map (fun c => (num d c : Int)), 0⟩ (nxt L1.length F1))), ⟨?_, fun i hi hiF hn => ?_, ?_, (fun h => by cases h), fun q hq => ?_⟩⟩
    · have hl : F1.length = F.length - f := by rw [← hF2, List.length_take]; omega
      rw [List.length_set, mkA_len, hL1, hl]
      show _ = L.length + (f + 1 - F.length)
      omega
    · rw [lat_set_ne (hne i hn), mkA_at hF1, if_neg, hfar i hi hiF hn]
      intro e
      rcases nxt_cases L1.length F1 with ⟨h1, h2⟩ | h1
      · omega
      · rw [← e, ← hF2] at h1
        exact hiF (List.mem_of_mem_take h1)
    · show FreeOk _ (F.take (F.length - (f + 1)))
      rw [← hd]
      exact set_free (mkA_free hF1 _) _ (fun hm => htF1 ((List.dropLast_sublist _).subset hm))
    · injection hq with hq
      subst hq
      refine ⟨?_, ⟨?_, fun c hc => hkeep c (List.mem_of_mem_take hc)⟩, ⟨?_, fun c hc => hkeep c (List.mem_of_mem_drop hc)⟩⟩
      · show _ = layUp m up (num (d + 1) t) _ _ _ (F.take (F.length - (f + 1))) root
        rw [← hd]
        rfl
      · show lat _ (nn t).1 = _
        rw [lat_set_eq (by rw [mkA_len]; omega)]
        simp [leftN, mkN, nn]
      · show lat _ (nxt L1.length F1) = _
        rw [lat_set_ne (fun e => hnx e.symm), mkA_at hF1, if_pos rfl]
        simp [rightN, mkN, nn]

theorem lay_post {m : Nat} {k v : Ky} (hm : 3 ≤ m) (hf : fairB (k, v) = true) : ∀ {d : Nat} {b : Bool} {lo hi : Ky} {t : Tr d} {L : List (Option Nd)} {F : List Nat} {root : Nat} (up : List Stp), Ok m d b lo hi t → sndR lo hi → inR lo hi k → Holds L d t → (nums d t).Nodup → FreeOk L F →
    ∃ L', LayPost m d L F root up t (insT (sup L.length F) m k v d 0 t) (layR m ((wayT k d t).reverse ++ up) ⟨true, putL (leafT k d t).2.1 k v, [], [], (leafT k d t).2.2⟩ L F root) L'
  | 0, b, lo, hi, t, L, F, root, up, h, hs, hk, hL, hN, hF => layL_post ⟨(lf t).1, ndT 0 t, 0⟩ rfl _ hL hF
  | d + 1, b, lo, hi, t, L, F, root, up, h, hs, hk, hL, hN, hF => by
    obtain ⟨k1, k2, t1, t2, c, l, hh, q⟩ := kids_at h.2.2.2 hk
    have hidx : kidx (nn t).2.1 k = t1.length := by rw [q.idx, q.len]
    have hget : (nn t).2.2[kidx (nn t).2.1 k]? = some c := by rw [q.ets]; exact get_mid t1 t2 c hidx
    have e : insT (sup L.length F) m k v (d + 1) 0 t = upN (sup L.length F) m (nn t).1 (nn t).2.1 (nn t).2.2 (kidx (nn t).2.1 k) (insT (sup L.length F) m k v d 0 c) := by
      show (match (nn t).2.2[kidx (nn t).2.1 k]? with | none => _ | some c => _) = _
      rw [hget]
    have hway : wayT k (d + 1) t = ⟨(nn t).1, ndT (d + 1) t, kidx (nn t).2.1 k⟩ :: wayT k d c := by
      show _ :: (match (nn t).2.2[kidx (nn t).2.1 k]? with | none => _ | some c => _) = _
      rw [hget]
    have hleaf : leafT k (d + 1) t = leafT k d c := by
      show (match (nn t).2.2[kidx (nn t).2.1 k]? with | none => _ | some c => _) = _
      rw [hget]
    have hnums : nums (d + 1) t = (nn t).1 :: ((t1.map (nums d)).flatten ++ (nums d c ++ (t2.map (nums d)).flatten)) := by
      show (nn t).1 :: ((nn t).2.2.map (nums d)).flatten = _
      rw [q.ets]; simp
    have hHc : Holds L d c := hL.2 c (by rw [q.ets]; simp)
    have hlt : (nn t).1 < L.length := lat_lt hL.1
    rw [hnums] at hN
    obtain ⟨hN0, hN1⟩ := List.nodup_cons.1 hN
    obtain ⟨-, hN2, hN3⟩ := List.nodup_append.1 hN1
    obtain ⟨hN4, -, hN5⟩ := List.nodup_append.1 hN2
    have hpost := ins_post (sup L.length F) hm hf 0 q.kid q.snd q.inr
    have htF : (nn t).1 ∉ F := hL.unfree hF _ (by simp [nums])
    obtain ⟨L1, hlay⟩ := lay_post hm hf (root := root) (⟨(nn t).1, ndT (d + 1) t, kidx (nn t).2.1 k⟩ :: up) q.kid q.snd q.inr hHc hN4 hF
    rw [e, hway, hleaf, List.reverse_cons, List.append_assoc, List.singleton_append]
    generalize layR m ((wayT k d c).reverse ++ _) _ L F root = out at hlay ⊢
    generalize insT (sup L.length F) m k v d 0 c = R at hpost hlay ⊢
    obtain ⟨p1, p2, p3, p4⟩ := hpost
    obtain ⟨g1, g2, gF, g3, g4⟩ := hlay
    have hset : (nn t).2.2.set (kidx (nn t).2.1 k) R.1 = t1 ++ R.1 :: t2 := by rw [q.ets]; exact set_mid t1 t2 c R.1 hidx
    have hmc : ∀ i, i ∈ nums d c → i ∈ nums (d + 1) t := fun i hi => by rw [hnums]; simp [hi]
    have hsib : ∀ c', c' ∈ t1 ∨ c' ∈ t2 → (∀ i ∈ nums d c', i ∉ nums d c ∧ i ≠ (nn t).1) ∧ Holds L d c' := fun c' hc' => by
      refine ⟨fun i hi => ⟨fun hic => ?_, fun e => ?_⟩, hL.2 c' (by rw [q.ets]; simp; rcases hc' with h | h; exact .inl h; exact .inr (.inr h))⟩
      · rcases hc' with hc' | hc'
        · exact hN3 i (List.mem_flatten.2 ⟨_, List.mem_map.2 ⟨c', hc', rfl⟩, hi⟩) i (by simp [hic]) rfl
        · exact hN5 i hic i (List.mem_flatten.2 ⟨_, List.mem_map.2 ⟨c', hc', rfl⟩, hi⟩) rfl
      · refine hN0 ?_
        rw [← e]
        rcases hc' with hc' | hc'
        · exact List.mem_append_left _ (List.mem_flatten.2 ⟨_, List.mem_map.2 ⟨c', hc', rfl⟩, hi⟩)
        · exact List.mem_append_right _ (List.mem_append_right _ (List.mem_flatten.2 ⟨_, List.mem_map.2 ⟨c', hc', rfl⟩, hi⟩))
    have hsib1 : ∀ c', c' ∈ t1 ∨ c' ∈ t2 → Holds L1 d c' := fun c' hc' => by
      obtain ⟨s1, s2⟩ := hsib c' hc'
      exact holds_keep s2 fun i hi => g2 i (s2.lt i hi) (s2.unfree hF i hi) (s1 i hi).1
    have hnc : (nn t).1 ∉ nums d c := fun hi => hN0 (by simp [hi])
    have hnew : (nn t).1 ∉ tkn (sup L.length F) 0 R.2.2 := fun hi => by
      obtain ⟨j, hj, e⟩ := List.mem_map.1 hi
      rcases nxt_cases (L.length + (j - F.length)) (F.take (F.length - j)) with ⟨h1, h2⟩ | h1
      · have : L.length + (j - F.length) = (nn t).1 := h2.symm.trans e
        omega
      · have h1 : sup L.length F j ∈ F.take (F.length - j) := h1
        rw [e] at h1
        exact htF (List.mem_of_mem_take h1)
    unfold upN
    cases ho : R.2.1 with
    | none =>
      obtain ⟨rfl, o2⟩ := g3 ho
      have w3 := (p3 ho).nums
      simp only []
      rw [hset]
      refine ⟨L1, g1, fun i hi hiF hn => g2 i hi hiF fun h => hn (hmc i h), gF, fun _ => ⟨rfl, ?_, fun c' hc' => ?_⟩, fun q hq => by cases hq⟩
      · show lat L1 (nn t).1 = _
        rw [g2 _ hlt htF hnc, hL.1]
        show some (Nd.mk false [] (nn t).2.1 ((nn t).2.2.map (fun c => (num d c : Int))) 0) = some (Nd.mk false [] (nn t).2.1 ((t1 ++ R.1 :: t2).map (fun c => (num d c : Int))) 0)
        rw [q.ets]
        simp [p1]
      · have hc' : c' ∈ t1 ++ R.1 :: t2 := hc'
        rcases List.mem_append.1 hc' with hc' | hc'
        · exact hsib1 c' (.inl hc')
        · rcases List.mem_cons.1 hc' with rfl | hc'
          · exact o2
          · exact hsib1 c' (.inr hc')
    | some r =>
      obtain ⟨s, r⟩ := r
      obtain ⟨o1, o2, o3⟩ := g4 _ ho
      have w7 := (p4 _ ho).nums
      simp only [] at w7 o1 o2 o3
      simp only []
      have hk' : ins (nn t).2.1 (kidx (nn t).2.1 k) s = k1 ++ s :: k2 := by
        rw [q.idx, q.eks]; exact ins_app k1 k2 s
      have ht' : ins (t1 ++ R.1 :: t2) (kidx (nn t).2.1 k + 1) r = t1 ++ R.1 :: r :: t2 := by
        have := ins_app (t1 ++ [R.1]) t2 r
        rw [hidx]
        simpa using this
      have hnd : withN ⟨(nn t).1, ndT (d + 1) t, kidx (nn t).2.1 k⟩ s (num d r) = ⟨false, [], k1 ++ s :: k2, (t1 ++ R.1 :: r :: t2).map (fun c => (num d c : Int)), 0⟩ := by
        show Nd.mk false [] (ins (nn t).2.1 _ s) (ins ((nn t).2.2.map (fun c => (num d c : Int))) (kidx (nn t).2.1 k + 1) (num d r)) 0 = _
        rw [hk']
        have := ins_app ((t1 ++ [c]).map (fun c => (num d c : Int))) (t2.map (fun c => (num d c : Int))) (num d r : Int)
        rw [hidx, q.ets]
        simp only [List.map_append, List.map_cons, List.map_nil, List.length_append, List.length_map, List.length_cons, List.length_nil, List.append_assoc, List.cons_append, List.nil_append] at this ⊢
        rw [p1, this]
      rw [hset, hk', ht']
      have hnr : ∀ c', c' = R.1 ∨ c' = r → (nn t).1 ∉ nums d c' := fun c' hc' hi => by
        have : (nn t).1 ∈ nums d R.1 ++ nums d r := by
          rcases hc' with rfl | rfl
          · exact List.mem_append_left _ hi
          · exact List.mem_append_right _ hi
        rcases List.mem_append.1 (w7.mem_iff.1 this) with h | h
        · exact hnc h
        · exact hnew h
      have hall : ∀ c' ∈ t1 ++ R.1 :: r :: t2, c' ∈ t1 ∨ c' = R.1 ∨ c' = r ∨ c' ∈ t2 := fun c' hc' => by simpa using hc'
      rw [o1]
      show ∃ L', LayPost m (d + 1) L F root up t (halfN (sup L.length F) m (nn t).1 (k1 ++ s :: k2) (t1 ++ R.1 :: r :: t2) R.2.2) (layR m (⟨(nn t).1, ndT (d + 1) t, kidx (nn t).2.1 k⟩ :: up) (withN ⟨(nn t).1, ndT (d + 1) t, kidx (nn t).2.1 k⟩ s (num d r)) L1 (F.take (F.length - R.2.2)) root) L'
      rw [hnd]
      refine layN_post _ rfl _ _ R.2.2 hlt htF g1 gF (fun i hi hiF hn => g2 i hi hiF fun h => hn (hmc i h)) (fun c' hc' => ?_) (fun c' hc' => ?_)
      · rcases hall c' hc' with h | rfl | rfl | h
        · exact hsib1 c' (.inl h)
        · exact o2
        · exact o3
        · exact hsib1 c' (.inr h)
      · rcases hall c' hc' with h | h | h | h
        · exact fun hi => ((hsib c' (.inl h)).1 _ hi).2 rfl
        · exact hnr c' (.inl h)
        · exact hnr c' (.inr h)
        · exact fun hi => ((hsib c' (.inr h)).1 _ hi).2 rfl
end Go.Proofs.Ytdkppgmhhijkgaa

namespace Go.Proofs.Ytdkppgmhhijkgaa
set_option linter.unusedVariables false
set_option maxRecDepth 100000

theorem sum_mul {α : Type} (f g : α → Nat) (a b c : Nat) : ∀ (l : List α), (∀ x ∈ l, (f x + a) * b ≤ c * g x) → ((l.map f).sum + l.length * a) * b ≤ c * (l.map g).sum
  | [], _ => by simp
  | x :: l, h => by
    have h1 := h x (by simp)
    have h2 := sum_mul f g a b c l fun y hy => h y (by simp [hy])
    simp only [List.map_cons, List.sum_cons, List.length_cons]
    have e : (f x + (l.map f).sum + (l.length + 1) * a) * b = (f x + a) * b + ((l.map f).sum + l.length * a) * b := by
      rw [← Nat.add_mul]; congr 1; rw [Nat.add_mul]; omega
    rw [e, Nat.mul_add]
    omega
theorem sum_least {α : Type} (g : α → Nat) (a : Nat) : ∀ (l : List α), (∀ x ∈ l, a ≤ g x) → l.length * a ≤ (l.map g).sum
  | [], _ => by simp
  | x :: l, h => by
    have h1 := h x (by simp)
    have h2 := sum_least g a l fun y hy => h y (by simp [hy])
    simp only [List.map_cons, List.sum_cons, List.length_cons]
    rw [Nat.add_mul]
    omega

/-- What a sound tree's nodes and its height ask for. -/
theorem Ok.most {m : Nat} (hm : 3 ≤ m) : ∀ {d : Nat} {lo hi : Ky} {t : Tr d}, Ok m d false lo hi t → ((nums d t).length + 1) * (m / 2) ≤ 2 * (flat d t).length ∧ (m / 2 + 1) ^ d * (m / 2) ≤ (flat d t).length
  | 0, lo, hi, t, h => by
    have := h.2.2.1 rfl
    show (1 + 1) * (m / 2) ≤ 2 * (lf t).2.1.length ∧ 1 * (m / 2) ≤ (lf t).2.1.length
    omega
  | d + 1, lo, hi, t, h => by
    have hl := h.2.2.2.len
    have hb := h.2.2.1 rfl
    have h1 := h.1
    have hall := kids_all h.2.2.2
    show ((nn t).1 :: ((nn t).2.2.map (nums d)).flatten).length.succ * (m / 2) ≤ 2 * ((nn t).2.2.map (flat d)).flatten.length ∧ (m / 2 + 1) ^ (d + 1) * (m / 2) ≤ ((nn t).2.2.map (flat d)).flatten.length
    rw [List.length_cons, List.length_flatten, List.length_flatten, List.map_map, List.map_map]
    have s1 := sum_mul (List.length ∘ nums d) (List.length ∘ flat d) 1 (m / 2) 2 (nn t).2.2 fun c hc => by
      obtain ⟨l, hh, e1, _⟩ := hall c hc
      exact (e1.most hm).1
    have s2 := sum_least (List.length ∘ flat d) ((m / 2 + 1) ^ d * (m / 2)) (nn t).2.2 fun c hc => by
      obtain ⟨l, hh, e1, _⟩ := hall c hc
      exact (e1.most hm).2
    constructor
    · refine Nat.le_trans (Nat.mul_le_mul_right _ ?_) s1
      omega
    · refine Nat.le_trans ?_ s2
      rw [Nat.pow_succ, Nat.mul_comm ((m / 2 + 1) ^ d), Nat.mul_assoc]
      exact Nat.mul_le_mul_right _ (by omega)
/-- .. and of a root that is no leaf. -/
theorem Ok.mostR {m : Nat} (hm : 3 ≤ m) {d : Nat} {b : Bool} {lo hi : Ky} {t : Tr (d + 1)} (h : Ok m (d + 1) b lo hi t) : ((nums (d + 1) t).length + 1) * (m / 2) ≤ 2 * (flat (d + 1) t).length ∧ 2 * ((m / 2 + 1) ^ d * (m / 2)) ≤ (flat (d + 1) t).length := by
  have hl := h.2.2.2.len
  have h1 := h.1
  have hall := kids_all h.2.2.2
  show ((nn t).1 :: ((nn t).2.2.map (nums d)).flatten).length.succ * (m / 2) ≤ 2 * ((nn t).2.2.map (flat d)).flatten.length ∧ 2 * ((m / 2 + 1) ^ d * (m / 2)) ≤ ((nn t).2.2.map (flat d)).flatten.length
  rw [List.length_cons, List.length_flatten, List.length_flatten, List.map_map, List.map_map]
  have s1 := sum_mul (List.length ∘ nums d) (List.length ∘ flat d) 1 (m / 2) 2 (nn t).2.2 fun c hc => by
    obtain ⟨l, hh, e1, _⟩ := hall c hc
    exact (e1.most hm).1
  have s2 := sum_least (List.length ∘ flat d) ((m / 2 + 1) ^ d * (m / 2)) (nn t).2.2 fun c hc => by
    obtain ⟨l, hh, e1, _⟩ := hall c hc
    exact (e1.most hm).2
  constructor
  · refine Nat.le_trans (Nat.mul_le_mul_right _ ?_) s1
    omega
  · refine Nat.le_trans ?_ s2
    exact Nat.mul_le_mul_right _ (by omega)
theorem pow_two_le (a : Nat) (h : 1 ≤ a) (d : Nat) : 2 ^ d ≤ (a + 1) ^ d := Nat.pow_le_pow_left (by omega) d
theorem two_pow_ge {d : Nat} (h : 9 ≤ d) : 512 ≤ 2 ^ d := Nat.pow_le_pow_right (n := 2) (by omega) h
/-- A sound tree, and all of an arena's numbers but the free ones are its. -/
structure GoodT (L : List (Option Nd)) (F : List Nat) (m root d : Nat) (t : Tr d) : Prop where
  rt : num d t = root
  holds : Holds L d t
  ok : Ok m d true [] [] t
  nodup : (nums d t).Nodup
  all : (nums d t).length + F.length = L.length
  free : FreeOk L F
  room : L.length ≤ 2000
  chn : ∃ s, Chn s (lvs d t) (-1)
  m3 : 3 ≤ m
  m16 : m ≤ 16

theorem inR_all (k : Ky) : inR [] [] k := ⟨ltB_nil k, .inl rfl⟩
theorem sndR_all : sndR [] [] := ⟨by simp, by simp, .inl rfl⟩

theorem good_new {m : Nat} (h3 : 3 ≤ m) (h16 : m ≤ 16) : GoodT [some ⟨true, [], [], [], -1⟩] [] m 0 0 (mkL 0 [] (-1)) :=
  ⟨rfl, rfl, ⟨fit_nil, Nat.zero_le _, (fun h => by cases h), fun p hp => by cases hp⟩, by simp [nums], rfl, ⟨List.nodup_nil, fun i hi => by cases hi⟩, by simp, ⟨0, rfl, rfl⟩, h3, h16⟩

/-- At most 1000 pairs: at most 2000 nodes. -/
theorem Ok.nodes {m : Nat} (h3 : 3 ≤ m) {d : Nat} {b : Bool} {lo hi : Ky} {t : Tr d} (h : Ok m d b lo hi t) (hp : (flat d t).length ≤ 1000) : (nums d t).length ≤ 2000 := by
  cases d with
  | zero => 
    have : (nums 0 t).length = 1 := rfl
    omega
  | succ d =>
    obtain ⟨a1, a2⟩ := h.mostR h3
    have hh : 1 ≤ m / 2 := by omega
    have : ((nums (d + 1) t).length + 1) * 1 ≤ ((nums (d + 1) t).length + 1) * (m / 2) := Nat.mul_le_mul_left _ hh
    omega

theorem sup_low {n : Nat} {F : List Nat} {j : Nat} (h : j < F.length) : sup n F j = F[F.length - 1 - j] := by
  unfold sup
  have e : F.take (F.length - j) = F.take (F.length - 1 - j) ++ [F[F.length - 1 - j]] := by
    rw [show F.length - j = (F.length - 1 - j) + 1 by omega]
    exact List.take_succ_eq_append_getElem (by omega)
  rw [e]
  unfold nxt
  rw [List.getLastD_eq_getLast?, List.getLast?_append]
  rfl
theorem sup_high {n : Nat} {F : List Nat} {j : Nat} (h : F.length ≤ j) : sup n F j = n + (j - F.length) := by
  unfold sup
  rw [show F.length - j = 0 by omega]
  rfl
theorem sup_ne {L : List (Option Nd)} {F : List Nat} (h : FreeOk L F) {i j : Nat} (hij : i < j) : sup L.length F i ≠ sup L.length F j := by
  by_cases hj : j < F.length
  · rw [sup_low hj, sup_low (show i < F.length by omega)]
    intro e
    have h2 := (List.pairwise_iff_getElem.1 h.1) (F.length - 1 - j) (F.length - 1 - i) (by omega) (by omega) (by omega)
    exact h2 e.symm
  · rw [sup_high (show F.length ≤ j by omega)]
    by_cases hi : i < F.length
    · rw [sup_low hi]
      have := (h.2 _ (List.getElem_mem (show F.length - 1 - i < F.length by omega))).1
      omega
    · rw [sup_high (show F.length ≤ i by omega)]
      omega
theorem tkn_nodup {L : List (Option Nd)} {F : List Nat} (h : FreeOk L F) (r : Nat) : (tkn (sup L.length F) 0 r).Nodup := by
  unfold tkn
  refine List.Pairwise.map _ (fun a b hab => ?_) List.pairwise_lt_range'
  exact sup_ne h hab
theorem sup_out {L : List (Option Nd)} {F : List Nat} (h : FreeOk L F) (j : Nat) : lat L (sup L.length F j) = none := by
  by_cases hj : j < F.length
  · rw [sup_low hj]
    exact (h.2 _ (List.getElem_mem _)).2
  · rw [sup_high (by omega)]
    exact lat_out (by omega)

theorem GoodT.put {L : List (Option Nd)} {F : List Nat} {m root d : Nat} {t : Tr d} (h : GoodT L F m root d t) {k v : Ky} (hf : fairB (k, v) = true) (hP : (putL (flat d t) k v).length ≤ 1000) :
    ∃ d' t', GoodT (layR m (wayT k d t).reverse ⟨true, putL (leafT k d t).2.1 k v, [], [], (leafT k d t).2.2⟩ L F root).1 (layR m (wayT k d t).reverse ⟨true, putL (leafT k d t).2.1 k v, [], [], (leafT k d t).2.2⟩ L F root).2.1 m (layR m (wayT k d t).reverse ⟨true, putL (leafT k d t).2.1 k v, [], [], (leafT k d t).2.2⟩ L F root).2.2 d' t' ∧ flat d' t' = putL (flat d t) k v := by
  have hp := ins_post (sup L.length F) h.m3 hf 0 h.ok sndR_all (inR_all k)
  obtain ⟨L', hl⟩ := lay_post h.m3 hf (root := root) [] h.ok sndR_all (inR_all k) h.holds h.nodup h.free
  rw [List.append_nil] at hl
  generalize layR m _ _ L F root = out at hl ⊢
  generalize insT (sup L.length F) m k v d 0 t = R at hp hl
  obtain ⟨p1, p2, p3, p4⟩ := hp
  obtain ⟨g1, g2, gF, g3, g4⟩ := hl
  have hnd : (nums d t ++ tkn (sup L.length F) 0 R.2.2).Nodup := List.nodup_append.2 ⟨h.nodup, tkn_nodup h.free _, fun a ha b hb e => by
    obtain ⟨j, hj, rfl⟩ := List.mem_map.1 hb
    obtain ⟨x, hx⟩ := h.holds.some a ha
    rw [e, sup_out h.free] at hx
    cases hx⟩
  have htl : (tkn (sup L.length F) 0 R.2.2).length = R.2.2 := by unfold tkn; simp
  have hfl : (F.take (F.length - R.2.2)).length = F.length - R.2.2 := by rw [List.length_take]; omega
  obtain ⟨s0, hs0⟩ := h.chn
  have hall := h.all
  have hroom := h.room
  cases ho : R.2.1 with
  | none =>
    obtain ⟨rfl, o2⟩ := g3 ho
    obtain ⟨w1, w2, w3, w4⟩ := p3 ho
    have hlen := w3.length_eq
    rw [List.length_append, htl] at hlen
    have hn := w1.nodes h.m3 (by rw [w2]; exact hP)
    refine ⟨d, R.1, ⟨p1.trans h.rt, o2, w1, w3.nodup_iff.2 hnd, ?_, gF, ?_, ⟨s0, w4 _ _ hs0⟩, h.m3, h.m16⟩, w2⟩
    · show _ + (F.take (F.length - R.2.2)).length = L'.length
      omega
    · show L'.length ≤ 2000
      omega
  | some q =>
    obtain ⟨s, r⟩ := q
    obtain ⟨o1, o2, o3⟩ := g4 _ ho
    obtain ⟨w1, w2, w3, w4, w5, w6, w7, w8⟩ := p4 _ ho
    simp only [] at w1 w2 w3 w4 w5 w6 w7 w8 o1 o2 o3
    generalize hF1 : F.take (F.length - R.2.2) = F1 at *
    obtain rfl : out = (mkA L' F1 (rootN s (num d t) (num d r)), F1.dropLast, nxt L'.length F1) := o1
    have hlen := w7.length_eq
    rw [List.length_append, List.length_append, htl] at hlen
    have hkeep : ∀ c, Holds L' d c → Holds (mkA L' F1 (rootN s (num d t) (num d r))) d c := fun c hc => holds_keep hc fun i hi => by
      rw [mkA_at gF, if_neg (hc.unnext gF i hi)]
    have h3 := h.m3
    have hml := mkA_len L' F1 (rootN s (num d t) (num d r))
    have hok : Ok m (d + 1) true [] [] (mkN (nxt L'.length F1) [s] [R.1, r]) := ⟨by show 1 ≤ 1; omega, by show 1 ≤ m; omega, (fun h => by cases h), ⟨R.1, [r], rfl, w3, w4, w1, r, rfl, w5, w2⟩⟩
    have hflat : flat (d + 1) (mkN (nxt L'.length F1) [s] [R.1, r]) = putL (flat d t) k v := by
      show ([R.1, r].map (flat d)).flatten = _
      rw [← w6]
      simp
    have hn := hok.nodes h3 (by rw [hflat]; exact hP)
    have hnl : (nums (d + 1) (mkN (nxt L'.length F1) [s] [R.1, r])).length = (nums d R.1).length + (nums d r).length + 1 := by
      show (nxt L'.length F1 :: ([R.1, r].map (nums d)).flatten).length = _
      simp
    have hdl : F1.dropLast.length = F1.length - 1 := List.length_dropLast
    refine ⟨d + 1, mkN (nxt L'.length F1) [s] [R.1, r], ⟨rfl, ⟨?_, fun c hc => ?_⟩, hok, ?_, ?_, mkA_free gF _, ?_, ⟨s0, ?_⟩, h.m3, h.m16⟩, hflat⟩
    · show lat _ (nxt L'.length F1) = _
      rw [mkA_at gF, if_pos rfl]
      show some (Nd.mk false [] [s] [(num d t : Int), (num d r : Int)] 0) = some (Nd.mk false [] [s] [(num d R.1 : Int), (num d r : Int)] 0)
      rw [p1]
    · have hc' : c ∈ [R.1, r] := hc
      simp at hc'
      rcases hc' with rfl | rfl
      · exact hkeep _ o2
      · exact hkeep _ o3
    · show (nxt L'.length F1 :: ([R.1, r].map (nums d)).flatten).Nodup
      have e : ([R.1, r].map (nums d)).flatten = nums d R.1 ++ nums d r := by simp
      rw [e]
      refine List.nodup_cons.2 ⟨fun hi => ?_, w7.nodup_iff.2 hnd⟩
      rcases List.mem_append.1 hi with hi | hi
      · exact o2.unnext gF _ hi rfl
      · exact o3.unnext gF _ hi rfl
    · show _ + F1.dropLast.length = (mkA L' F1 (rootN s (num d t) (num d r))).length
      omega
    · show (mkA L' F1 (rootN s (num d t) (num d r))).length ≤ 2000
      omega
    · show Chn s0 ([R.1, r].map (lvs d)).flatten (-1)
      have e : ([R.1, r].map (lvs d)).flatten = lvs d R.1 ++ lvs d r := by simp
      rw [e]
      exact w8 _ _ hs0

/-- A way's kid. -/
theorem way_kid {m : Nat} {k : Ky} {d : Nat} {b : Bool} {lo hi : Ky} {t : Tr (d + 1)} (h : Ok m (d + 1) b lo hi t) (hk : inR lo hi k) :
    ∃ k1 k2 t1 t2 c l hh, KidAt (Ok m d false) lo hi k (nn t).2.1 (nn t).2.2 k1 k2 t1 t2 c l hh ∧ (nn t).2.2[kidx (nn t).2.1 k]? = some c ∧
      wayT k (d + 1) t = ⟨(nn t).1, ndT (d + 1) t, kidx (nn t).2.1 k⟩ :: wayT k d c ∧ leafT k (d + 1) t = leafT k d c := by
  obtain ⟨k1, k2, t1, t2, c, l, hh, q⟩ := kids_at h.2.2.2 hk
  have hidx : kidx (nn t).2.1 k = t1.length := by rw [q.idx, q.len]
  have hget : (nn t).2.2[kidx (nn t).2.1 k]? = some c := by rw [q.ets]; exact get_mid t1 t2 c hidx
  refine ⟨k1, k2, t1, t2, c, l, hh, q, hget, ?_, ?_⟩
  · show _ :: (match (nn t).2.2[kidx (nn t).2.1 k]? with | none => _ | some c => _) = _
    rw [hget]
  · show (match (nn t).2.2[kidx (nn t).2.1 k]? with | none => _ | some c => _) = _
    rw [hget]

/-- The leaf of a key: what stands ahead of it is less, what stands behind is greater. -/
structure LeafAt (L : List (Option Nd)) (m : Nat) (k : Ky) (d : Nat) (t : Tr d) (A C : List Pr) : Prop where
  mid : flat d t = A ++ ((leafT k d t).2.1 ++ C)
  low : ∀ p ∈ A, ltB p.1 k = true
  high : ∀ p ∈ C, ltB k p.1 = true
  fit : Fit (leafT k d t).2.1
  len : (leafT k d t).2.1.length ≤ m
  holds : lat L (leafT k d t).1 = some (leafN (leafT k d t))
  way : ∃ W, wayT k d t = W ++ [⟨(leafT k d t).1, leafN (leafT k d t), 0⟩] ∧ W.length = d

theorem leaf_at {L : List (Option Nd)} {m : Nat} {k : Ky} : ∀ {d : Nat} {b : Bool} {lo hi : Ky} {t : Tr d}, Ok m d b lo hi t → inR lo hi k → Holds L d t → ∃ A C, LeafAt L m k d t A C
  | 0, b, lo, hi, t, h, hk, hL => ⟨[], [], by show (lf t).2.1 = [] ++ ((lf t).2.1 ++ []); simp, (fun p hp => by cases hp), (fun p hp => by cases hp), h.1, h.2.1, hL, [], rfl, rfl⟩
  | d + 1, b, lo, hi, t, h, hk, hL => by
    obtain ⟨k1, k2, t1, t2, c, l, hh, q, hget, hway, hleaf⟩ := way_kid h hk
    have hHc : Holds L d c := hL.2 c (by rw [q.ets]; simp)
    obtain ⟨A, C, a1, a2, a3, a4, a5, a6, W, a7, a8⟩ := leaf_at q.kid q.inr hHc
    have hflat : flat (d + 1) t = (t1.map (flat d)).flatten ++ (flat d c ++ (t2.map (flat d)).flatten) := by
      show ((nn t).2.2.map (flat d)).flatten = _
      rw [q.ets]; simp
    refine ⟨(t1.map (flat d)).flatten ++ A, C ++ (t2.map (flat d)).flatten, ?_, fun p hp => ?_, fun p hp => ?_, ?_, ?_, ?_, ⟨(nn t).1, ndT (d + 1) t, kidx (nn t).2.1 k⟩ :: W, ?_, by simp [a8]⟩
    · rw [hflat, hleaf, a1]; simp
    · rcases List.mem_append.1 hp with hp | hp
      · obtain ⟨L, hL, hp⟩ := List.mem_flatten.1 hp
        obtain ⟨t', ht, rfl⟩ := List.mem_map.1 hL
        obtain ⟨l', h', x1, x2, x3⟩ := q.before t' ht
        exact x1.bel x2 x3 p hp
      · exact a2 p hp
    · rcases List.mem_append.1 hp with hp | hp
      · exact a3 p hp
      · obtain ⟨L, hL, hp⟩ := List.mem_flatten.1 hp
        obtain ⟨t', ht, rfl⟩ := List.mem_map.1 hL
        obtain ⟨l', h', x1, x2⟩ := q.after t' ht
        exact x1.abv x2 p hp
    · rw [hleaf]; exact a4
    · rw [hleaf]; exact a5
    · rw [hleaf]; exact a6
    · rw [hway, hleaf, a7]; rfl
theorem LeafAt.has {L : List (Option Nd)} {m : Nat} {k : Ky} {d : Nat} {t : Tr d} {A C : List Pr} (h : LeafAt L m k d t A C) :
    hasB (flat d t) k = hasB (leafT k d t).2.1 k ∧ (hasB (leafT k d t).2.1 k = true → gt (flat d t) (pos (flat d t) k) = gt (leafT k d t).2.1 (pos (leafT k d t).2.1 k)) := by
  rw [h.mid]
  exact has_mid h.low h.high h.fit.1

/-- All leaves, in order. -/
def lvp : (d : Nat) → Tr d → List (Nat × List Pr × Int)
  | 0, t => [lf t]
  | d + 1, t => ((nn t).2.2.map (lvp d)).flatten
theorem lvp_lvs : ∀ (d : Nat) (t : Tr d), lvs d t = (lvp d t).map fun x => (x.1, x.2.2)
  | 0, t => rfl
  | d + 1, t => by
    show ((nn t).2.2.map (lvs d)).flatten = ((nn t).2.2.map (lvp d)).flatten.map _
    rw [List.map_flatten, List.map_map]
    congr 1
    exact List.map_congr_left fun c _ => lvp_lvs d c
theorem lvp_flat : ∀ (d : Nat) (t : Tr d), flat d t = ((lvp d t).map fun x => x.2.1).flatten
  | 0, t => by show (lf t).2.1 = _; simp [lvp]
  | d + 1, t => by
    show ((nn t).2.2.map (flat d)).flatten = (((nn t).2.2.map (lvp d)).flatten.map _).flatten
    rw [List.map_flatten, List.map_map, List.flatten_flatten, List.map_map]
    congr 1
    exact List.map_congr_left fun c _ => lvp_flat d c
theorem lvp_holds {L : List (Option Nd)} : ∀ {d : Nat} {t : Tr d}, Holds L d t → ∀ x ∈ lvp d t, lat L x.1 = some (leafN x)
  | 0, t, h, x, hx => by
    simp [lvp] at hx
    subst hx
    exact h
  | d + 1, t, h, x, hx => by
    simp only [lvp, List.mem_flatten, List.mem_map] at hx
    obtain ⟨_, ⟨c, hc, rfl⟩, hx⟩ := hx
    exact lvp_holds (h.2 c hc) x hx
theorem sum_map_le {α : Type} (f g : α → Nat) : ∀ (l : List α), (∀ x ∈ l, f x ≤ g x) → (l.map f).sum ≤ (l.map g).sum
  | [], _ => Nat.le_refl _
  | x :: l, h => by
    have := h x (by simp)
    have := sum_map_le f g l fun y hy => h y (by simp [hy])
    simp; omega
theorem lvp_few : ∀ (d : Nat) (t : Tr d), (lvp d t).length ≤ (nums d t).length
  | 0, t => Nat.le_refl _
  | d + 1, t => by
    show ((nn t).2.2.map (lvp d)).flatten.length ≤ ((nn t).1 :: ((nn t).2.2.map (nums d)).flatten).length
    rw [List.length_cons, List.length_flatten, List.length_flatten, List.map_map, List.map_map]
    have := sum_map_le (List.length ∘ lvp d) (List.length ∘ nums d) (nn t).2.2 fun c _ => lvp_few d c
    omega
theorem kidx_nil {ks : List Ky} (h : ∀ s ∈ ks, s ≠ []) : kidx ks [] = 0 := by
  cases ks with
  | nil => rfl
  | cons s ss =>
    have : ltB [] s = true := by
      cases s with
      | nil => exact absurd rfl (h [] (by simp))
      | cons y b => rfl
    simp [kidx, this]
theorem Kids.ne {α : Type} {P : Ky → Ky → α → Prop} {hi : Ky} : ∀ {lo : Ky} {ks : List Ky} {ts : List α}, Kids P hi lo ks ts → ∀ s ∈ ks, s ≠ []
  | lo, [], ts, h => by intro s hs; cases hs
  | lo, s :: ss, ts, h => by
    obtain ⟨t, r, rfl, h1, h2, _, h⟩ := h
    intro x hx
    rcases List.mem_cons.1 hx with rfl | hx
    · exact h2
    · exact h.ne x hx
theorem inR_nil {lo hi : Ky} (h : lo = []) : inR lo hi [] ∨ hi = [] ∨ hi ≠ [] := by
  by_cases e : hi = []
  · exact .inr (.inl e)
  · exact .inr (.inr e)
/-- The first leaf is that of no bytes. -/
theorem leaf_first {m : Nat} : ∀ {d : Nat} {b : Bool} {lo hi : Ky} {t : Tr d}, Ok m d b lo hi t → ∃ r, lvp d t = leafT [] d t :: r
  | 0, b, lo, hi, t, h => ⟨[], rfl⟩
  | d + 1, b, lo, hi, t, h => by
    have h0 := kidx_nil h.2.2.2.ne
    have hl := h.2.2.2.len
    have hall := kids_all h.2.2.2
    cases hts : (nn t).2.2 with
    | nil => rw [hts] at hl; simp at hl
    | cons c ts =>
      rw [hts] at hall
      obtain ⟨l, hh, e1, _⟩ := hall c (by simp)
      obtain ⟨r, hr⟩ := leaf_first e1
      have hleaf : leafT [] (d + 1) t = leafT [] d c := by
        show (match (nn t).2.2[kidx (nn t).2.1 []]? with | none => _ | some c => _) = _
        rw [h0, hts]; rfl
      refine ⟨r ++ (ts.map (lvp d)).flatten, ?_⟩
      show ((nn t).2.2.map (lvp d)).flatten = _
      rw [hts, hleaf]
      simp [hr]

/-- At most 1000 pairs: at most 2000 nodes, and at most 10 high. -/
theorem GoodT.few {L : List (Option Nd)} {F : List Nat} {m root d : Nat} {t : Tr d} (h : GoodT L F m root d t) (hp : (flat d t).length ≤ 1000) : L.length ≤ 2000 ∧ d ≤ 9 ∧ 1 ≤ L.length := by
  have hall := h.all
  have h3 := h.m3
  refine ⟨h.room, ?_, ?_⟩
  · cases d with
    | zero => omega
    | succ d =>
      obtain ⟨a1, a2⟩ := h.ok.mostR h3
      have hh : 1 ≤ m / 2 := by omega
      rcases Nat.lt_or_ge d 9 with hd | hd
      · omega
      · have b1 := pow_two_le (m / 2) hh d
        have b2 := two_pow_ge hd
        have b3 : (m / 2 + 1) ^ d * 1 ≤ (m / 2 + 1) ^ d * (m / 2) := Nat.mul_le_mul_left _ hh
        omega
  · have := lat_lt h.holds.here
    omega
/-- A way is no longer than there are nodes. -/
theorem Ok.deep {m : Nat} : ∀ {d : Nat} {b : Bool} {lo hi : Ky} {t : Tr d}, Ok m d b lo hi t → d + 1 ≤ (nums d t).length
  | 0, b, lo, hi, t, h => Nat.le_refl _
  | d + 1, b, lo, hi, t, h => by
    have hl := h.2.2.2.len
    have hall := kids_all h.2.2.2
    cases hts : (nn t).2.2 with
    | nil => rw [hts] at hl; simp at hl
    | cons c ts =>
      rw [hts] at hall
      obtain ⟨l, hh, e1, _⟩ := hall c (by simp)
      have := e1.deep
      show d + 1 + 1 ≤ ((nn t).1 :: ((nn t).2.2.map (nums d)).flatten).length
      rw [hts]
      simp
      omega
end Go.Proofs.Ytdkppgmhhijkgaa
