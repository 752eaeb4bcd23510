/- Deleting from a B+-tree, as plain data: what is left stays sound, and what is in it; two neighbours joined, or laid anew. Plain; no condition. Contracts of package prune's kidOf, whole, size and alike. Condition: keys rise, no more than 1000; a node has one kid more than keys. Contracts of slices.Concat and slices.Delete of pairs, keys and numbers, by cells: a row of one's own in new memory; a row of one's own with one element less, in place. Condition: at most 3000 elements. Contracts of slices.Delete of one key, of one number: in place. Condition: at most 1000 elements. Contracts of package prune's joined: two neighbours as one node, which shares their bytes. Condition: what came in can be read, at most 1000 of each. The contract of package prune's joined at two nodes that aren't leaves. Condition: what came in can be read, at most 1000 of each. -/
import Derived.Test.YthbmchkbebneiaaG3
import Derived.Test.YthbmchkbebneiaaG4
import Derived.Lib.SliceRun
import Derived.Deep.RegionLaw
import Derived.Test.YthbmchkbebneiaaG5
import Derived.Deep.RegionHeld3
namespace Go.Proofs.Ythbmchkbebneiaa
set_option linter.unusedVariables false

/-- How many a node has of what it may have too few. -/
def szT : (d : Nat) → Tr d → Nat
  | 0, t => (lf t).2.1.length
  | _ + 1, t => (nn t).2.1.length
/-- Sound, but that the node itself may have few; it has at most n. -/
def OkW (m n : Nat) : (d : Nat) → Ky → Ky → Tr d → Prop
  | 0, lo, hi, t => Fit (lf t).2.1 ∧ (lf t).2.1.length ≤ n ∧ ∀ p ∈ (lf t).2.1, inR lo hi p.1
  | d + 1, lo, hi, t => (nn t).2.1.length ≤ n ∧ Kids (Ok m d false) hi lo (nn t).2.1 (nn t).2.2
theorem ok_w {m : Nat} : ∀ {d : Nat} {b : Bool} {lo hi : Ky} {t : Tr d}, Ok m d b lo hi t → OkW m m d lo hi t ∧ (b = false → m / 2 ≤ szT d t) ∧ szT d t ≤ m ∧ (d = 0 ∨ 1 ≤ szT d t)
  | 0, b, lo, hi, t, h => ⟨⟨h.1, h.2.1, h.2.2.2⟩, h.2.2.1, h.2.1, .inl rfl⟩
  | d + 1, b, lo, hi, t, h => ⟨⟨h.2.1, h.2.2.2⟩, h.2.2.1, h.2.1, .inr h.1⟩
theorem w_ok {m : Nat} (hm : 3 ≤ m) : ∀ {d : Nat} {lo hi : Ky} {t : Tr d}, OkW m m d lo hi t → m / 2 ≤ szT d t → Ok m d false lo hi t
  | 0, lo, hi, t, h, hs => ⟨h.1, h.2.1, fun _ => hs, h.2.2⟩
  | d + 1, lo, hi, t, h, hs => ⟨by have : m / 2 ≤ (nn t).2.1.length := hs; omega, h.1, fun _ => hs, h.2⟩
theorem w_root {m : Nat} : ∀ {d : Nat} {lo hi : Ky} {t : Tr d}, OkW m m d lo hi t → (d = 0 ∨ 1 ≤ szT d t) → Ok m d true lo hi t
  | 0, lo, hi, t, h, hs => ⟨h.1, h.2.1, (fun h => by cases h), h.2.2⟩
  | d + 1, lo, hi, t, h, hs => ⟨by
      rcases hs with hs | hs
      · cases hs
      · exact hs, h.1, (fun h => by cases h), h.2⟩
theorem OkW.sz {m n : Nat} : ∀ {d : Nat} {lo hi : Ky} {t : Tr d}, OkW m n d lo hi t → szT d t ≤ n
  | 0, lo, hi, t, h => h.2.1
  | d + 1, lo, hi, t, h => h.1
theorem ok_up {m : Nat} : ∀ {d : Nat} {b : Bool} {lo hi : Ky} {t : Tr d}, Ok m d b lo hi t → Ok m d true lo hi t
  | 0, b, lo, hi, t, h => ⟨h.1, h.2.1, (fun h => by cases h), h.2.2.2⟩
  | d + 1, b, lo, hi, t, h => ⟨h.1, h.2.1, (fun h => by cases h), h.2.2.2⟩

theorem kids_imp {α : Type} {P Q : Ky → Ky → α → Prop} {hi : Ky} : ∀ {lo : Ky} {ks : List Ky} {ts : List α}, (∀ t ∈ ts, ∀ l h, P l h t → Q l h t) → Kids P hi lo ks ts → Kids Q hi lo ks ts
  | lo, [], ts, f, h => by
    obtain ⟨t, rfl, h1, h2⟩ := h
    exact ⟨t, rfl, h1, f t (by simp) _ _ h2⟩
  | lo, s :: ss, ts, f, h => by
    obtain ⟨t, r, rfl, h1, h2, h3, h⟩ := h
    exact ⟨t, r, rfl, h1, h2, f t (by simp) _ _ h3, kids_imp (fun x hx => f x (by simp [hx])) h⟩
theorem kids_join {α : Type} {P : Ky → Ky → α → Prop} {hi s : Ky} {k2 : List Ky} {t2 : List α} (hs : s ≠ []) : ∀ {lo : Ky} {k1 : List Ky} {t1 : List α}, Kids P s lo k1 t1 → Kids P hi s k2 t2 → Kids P hi lo (k1 ++ s :: k2) (t1 ++ t2)
  | lo, [], t1, h, h' => by
    obtain ⟨t, rfl, h1, h2⟩ := h
    exact ⟨t, t2, rfl, h1, hs, h2, h'⟩
  | lo, x :: k1, t1, h, h' => by
    obtain ⟨t, r, rfl, h1, h2, h3, h⟩ := h
    exact ⟨t, r ++ t2, rfl, h1, h2, h3, kids_join hs h h'⟩
theorem snd_trans {l s h : Ky} (h1 : sndR l s) (hs : s ≠ []) (h2 : sndR s h) : sndR l h := by
  refine ⟨h1.1, h2.2.1, ?_⟩
  rcases h2.2.2 with e | e
  · exact .inl e
  · rcases h1.2.2 with e1 | e1
    · exact absurd e1 hs
    · exact .inr (ltB_trans e1 e)

/-- Two neighbours: the range of both; what may stand in their place. -/
structure TwoAt {α : Type} (P : Ky → Ky → α → Prop) (lo hi : Ky) (k1 k2 : List Ky) (s : Ky) (t1 t2 : List α) (a b : α) (l h : Ky) : Prop where
  sl : sndR l s
  ne : s ≠ []
  pa : P l s a
  sr : sndR s h
  pb : P s h b
  one : ∀ c, P l h c → Kids P hi lo (k1 ++ k2) (t1 ++ c :: t2)
  two : ∀ a' s' b', sndR l s' → s' ≠ [] → P l s' a' → sndR s' h → P s' h b' → Kids P hi lo (k1 ++ s' :: k2) (t1 ++ a' :: b' :: t2)
theorem two_at {α : Type} {P : Ky → Ky → α → Prop} {hi s : Ky} {k2 : List Ky} {t2 : List α} {a b : α} : ∀ {lo : Ky} {k1 : List Ky} {t1 : List α}, Kids P hi lo (k1 ++ s :: k2) (t1 ++ a :: b :: t2) → t1.length = k1.length → ∃ l h, TwoAt P lo hi k1 k2 s t1 t2 a b l h
  | lo, [], t1, h, hl => by
    obtain rfl : t1 = [] := List.eq_nil_of_length_eq_zero hl
    obtain ⟨t, r, e, h1, h2, h3, h⟩ := h
    simp at e
    obtain ⟨rfl, rfl⟩ := e
    cases k2 with
    | nil =>
      obtain ⟨t', e, h4, h5⟩ := h
      simp at e
      obtain ⟨rfl, rfl⟩ := e
      exact ⟨lo, hi, h1, h2, h3, h4, h5, fun c hc => ⟨c, rfl, snd_trans h1 h2 h4, hc⟩, fun a' s' b' x1 x2 x3 x4 x5 => ⟨a', [b'], rfl, x1, x2, x3, b', rfl, x4, x5⟩⟩
    | cons s2 k2 =>
      obtain ⟨t', r', e, h4, h5, h6, h⟩ := h
      simp at e
      obtain ⟨rfl, rfl⟩ := e
      exact ⟨lo, s2, h1, h2, h3, h4, h6, fun c hc => ⟨c, t2, rfl, snd_trans h1 h2 h4, h5, hc, h⟩, fun a' s' b' x1 x2 x3 x4 x5 => ⟨a', b' :: t2, rfl, x1, x2, x3, b', t2, rfl, x4, h5, x5, h⟩⟩
  | lo, x :: k1, t1, h, hl => by
    cases t1 with
    | nil => cases hl
    | cons y t1 =>
      obtain ⟨t, r, e, h1, h2, h3, h⟩ := h
      simp at e
      obtain ⟨rfl, rfl⟩ := e
      obtain ⟨l, hh, q⟩ := two_at h (by simpa using hl)
      exact ⟨l, hh, q.sl, q.ne, q.pa, q.sr, q.pb, fun c hc => ⟨y, _, rfl, h1, h2, h3, q.one c hc⟩, fun a' s' b' x1 x2 x3 x4 x5 => ⟨y, _, rfl, h1, h2, h3, q.two a' s' b' x1 x2 x3 x4 x5⟩⟩

/-- Two neighbours as one, or, if that has too many, as two. -/
def joinR (m : Nat) : (d : Nat) → Tr d → Ky → Tr d → Res d
  | 0, a, _, b => halfL (fun _ => (lf b).1) m (lf a).1 ((lf a).2.1 ++ (lf b).2.1) (lf b).2.2 0
  | d + 1, a, s, b => halfN (fun _ => (nn b).1) m (nn a).1 ((nn a).2.1 ++ s :: (nn b).2.1) ((nn a).2.2 ++ (nn b).2.2) 0
theorem halfL_cnt {σ : Nat → Nat} {m i : Nat} {ps : List Pr} {nx : Int} {f : Nat} : ((halfL σ m i ps nx f).2.1 = none → (halfL σ m i ps nx f).2.2 = f) ∧ ∀ q, (halfL σ m i ps nx f).2.1 = some q → (halfL σ m i ps nx f).2.2 = f + 1 ∧ num 0 q.2 = σ f := by
  unfold halfL
  split
  · exact ⟨fun _ => rfl, fun q h => by cases h⟩
  · exact ⟨fun h => (by cases h), fun q h => by injection h with h; subst h; exact ⟨rfl, rfl⟩⟩
theorem halfN_cnt {σ : Nat → Nat} {d m i : Nat} {ks : List Ky} {ts : List (Tr d)} {f : Nat} : ((halfN σ m i ks ts f).2.1 = none → (halfN σ m i ks ts f).2.2 = f) ∧ ∀ q, (halfN σ m i ks ts f).2.1 = some q → (halfN σ m i ks ts f).2.2 = f + 1 ∧ num (d + 1) q.2 = σ f := by
  unfold halfN
  split
  · exact ⟨fun _ => rfl, fun q h => by cases h⟩
  · exact ⟨fun h => (by cases h), fun q h => by injection h with h; subst h; exact ⟨rfl, rfl⟩⟩

/-- What joining two leaves. -/
structure JoinOne (m d : Nat) (lo hi : Ky) (a b : Tr d) (l : Tr d) : Prop where
  ok : Ok m d false lo hi l
  flat : flat d l = flat d a ++ flat d b
  nums : (nums d l ++ [num d b]).Perm (nums d a ++ nums d b)
  chn : ∀ s e, Chn s (lvs d a ++ lvs d b) e → Chn s (lvs d l) e
structure JoinTwo (m d : Nat) (lo hi : Ky) (a b : Tr d) (l : Tr d) (q : Ky × Tr d) : Prop where
  okl : Ok m d false lo q.1 l
  okr : Ok m d false q.1 hi q.2
  sl : sndR lo q.1
  ne : q.1 ≠ []
  sr : sndR q.1 hi
  flat : flat d l ++ flat d q.2 = flat d a ++ flat d b
  nums : (nums d l ++ nums d q.2).Perm (nums d a ++ nums d b)
  chn : ∀ s e, Chn s (lvs d a ++ lvs d b) e → Chn s (lvs d l ++ lvs d q.2) e
  num : num d q.2 = num d b
def JoinPost (m d : Nat) (lo hi : Ky) (a b : Tr d) (R : Res d) : Prop :=
  num d R.1 = num d a ∧ (R.2.1 = none → JoinOne m d lo hi a b R.1) ∧ (∀ q, R.2.1 = some q → JoinTwo m d lo hi a b R.1 q)

theorem join_post {m : Nat} (hm : 3 ≤ m) : ∀ {d : Nat} {lo s hi : Ky} {a b : Tr d}, OkW m m d lo s a → OkW m m d s hi b → sndR lo s → s ≠ [] → sndR s hi → m / 2 ≤ szT d a + szT d b → szT d a + szT d b + 1 ≤ 2 * m → JoinPost m d lo hi a b (joinR m d a s b)
  | 0, lo, s, hi, a, b, ha, hb, h1, hs, h2, hz, hw => by
    have hfit : Fit ((lf a).2.1 ++ (lf b).2.1) := by
      refine ⟨srt_append.2 ⟨ha.1.1, hb.1.1, fun p hp q hq => ?_⟩, fun p hp => (List.mem_append.1 hp).elim (ha.1.2 p) (hb.1.2 p)⟩
      have a1 := (ha.2.2 p hp).2
      have a2 := (hb.2.2 q hq).1
      rcases a1 with e | e
      · exact absurd e hs
      · exact ltB_lt_le e a2
    have hls : ltB lo s = true := by
      rcases h1.2.2 with e | e
      · exact absurd e hs
      · exact e
    have hin : ∀ p ∈ (lf a).2.1 ++ (lf b).2.1, inR lo hi p.1 := fun p hp => by
      rcases List.mem_append.1 hp with hp | hp
      · refine ⟨(ha.2.2 p hp).1, ?_⟩
        rcases h2.2.2 with e | e
        · exact .inl e
        · rcases (ha.2.2 p hp).2 with e1 | e1
          · exact absurd e1 hs
          · exact .inr (ltB_trans e1 e)
      · exact ⟨le_trans_ltB (ltB_asymm hls) (hb.2.2 p hp).1, (hb.2.2 p hp).2⟩
    have hlen : ((lf a).2.1 ++ (lf b).2.1).length = szT 0 a + szT 0 b := List.length_append
    have hp := halfL_post (σ := fun _ => (lf b).1) (m := m) (i := (lf a).1) (b := false) (nx := (lf b).2.2) 0 (by omega) hfit (by omega) (fun _ => by omega) hin (snd_trans h1 hs h2)
    have hc := halfL_cnt (σ := fun _ => (lf b).1) (m := m) (i := (lf a).1) (ps := (lf a).2.1 ++ (lf b).2.1) (nx := (lf b).2.2) (f := 0)
    show JoinPost m 0 lo hi a b (halfL (fun _ => (lf b).1) m (lf a).1 ((lf a).2.1 ++ (lf b).2.1) (lf b).2.2 0)
    generalize halfL (fun _ => (lf b).1) m (lf a).1 ((lf a).2.1 ++ (lf b).2.1) (lf b).2.2 0 = R at hp hc
    obtain ⟨p1, p2, p3, p4⟩ := hp
    have hch : ∀ s' e, Chn s' (lvs 0 a ++ lvs 0 b) e → Chn s' [((lf a).1, (lf b).2.2)] e := fun s' e h => by
      have h : s' = ((lf a).1 : Int) ∧ (lf a).2.2 = ((lf b).1 : Int) ∧ (lf b).2.2 = e := h
      exact ⟨h.1, h.2.2⟩
    refine ⟨p1, fun h => ?_, fun q h => ?_⟩
    · obtain ⟨w1, w2, w3, w4⟩ := p3 h
      rw [hc.1 h] at w3
      refine ⟨w1, w2, ?_, fun s' e h => w4 _ _ (hch _ _ h)⟩
      have w3' : (nums 0 R.1).Perm [(lf a).1] := by simpa [tkn] using w3
      exact w3'.append_right _
    · obtain ⟨w1, w2, w3, w4, w5, w6, w7, w8⟩ := p4 q h
      obtain ⟨c1, c2⟩ := hc.2 q h
      rw [c1] at w7
      exact ⟨w1, w2, w3, w4, w5, w6, w7, fun s' e h => w8 _ _ (hch _ _ h), c2⟩
  | d + 1, lo, s, hi, a, b, ha, hb, h1, hs, h2, hz, hw => by
    have hk := kids_join hs ha.2 hb.2
    have hlen : ((nn a).2.1 ++ s :: (nn b).2.1).length = szT (d + 1) a + szT (d + 1) b + 1 := by
      rw [List.length_append, List.length_cons]; rfl
    have hp := halfN_post (σ := fun _ => (nn b).1) (m := m) (i := (nn a).1) (b := false) (f0 := 0) (f := 0) (Nat.le_refl _) (by omega) (by omega) (by omega) (fun _ => by omega) hk
      (P := flat (d + 1) a ++ flat (d + 1) b) (N := (nn a).1 :: (((nn a).2.2 ++ (nn b).2.2).map (nums d)).flatten) (C := lvs (d + 1) a ++ lvs (d + 1) b)
      (by rw [List.map_append, List.flatten_append]; rfl) (by simp [tkn]) (fun s' e h => by rw [List.map_append, List.flatten_append]; exact h)
    have hc := halfN_cnt (σ := fun _ => (nn b).1) (m := m) (i := (nn a).1) (ks := (nn a).2.1 ++ s :: (nn b).2.1) (ts := (nn a).2.2 ++ (nn b).2.2) (f := 0)
    show JoinPost m (d + 1) lo hi a b (halfN (fun _ => (nn b).1) m (nn a).1 ((nn a).2.1 ++ s :: (nn b).2.1) ((nn a).2.2 ++ (nn b).2.2) 0)
    generalize halfN (fun _ => (nn b).1) m (nn a).1 ((nn a).2.1 ++ s :: (nn b).2.1) ((nn a).2.2 ++ (nn b).2.2) 0 = R at hp hc
    obtain ⟨p1, p2, p3, p4⟩ := hp
    have hN : ((nn a).1 :: (((nn a).2.2 ++ (nn b).2.2).map (nums d)).flatten ++ [(nn b).1]).Perm (nums (d + 1) a ++ nums (d + 1) b) := by
      show List.Perm _ (((nn a).1 :: ((nn a).2.2.map (nums d)).flatten) ++ ((nn b).1 :: ((nn b).2.2.map (nums d)).flatten))
      rw [List.map_append, List.flatten_append]
      generalize ((nn a).2.2.map (nums d)).flatten = A
      generalize ((nn b).2.2.map (nums d)).flatten = B
      simp only [List.cons_append, List.append_assoc]
      refine List.Perm.cons _ (List.Perm.append_left _ ?_)
      exact (List.perm_append_comm (l₁ := B) (l₂ := [(nn b).1]))
    refine ⟨p1, fun h => ?_, fun q h => ?_⟩
    · obtain ⟨w1, w2, w3, w4⟩ := p3 h
      rw [hc.1 h] at w3
      refine ⟨w1, w2, ?_, w4⟩
      have w3' : (nums (d + 1) R.1).Perm ((nn a).1 :: (((nn a).2.2 ++ (nn b).2.2).map (nums d)).flatten) := by simpa [tkn] using w3
      exact (w3'.append_right _).trans hN
    · obtain ⟨w1, w2, w3, w4, w5, w6, w7, w8⟩ := p4 q h
      obtain ⟨c1, c2⟩ := hc.2 q h
      rw [c1] at w7
      exact ⟨w1, w2, w3, w4, w5, w6, w7.trans hN, w8, c2⟩

/-- All kids together. -/
def flats (d : Nat) (ts : List (Tr d)) : List Pr := (ts.map (flat d)).flatten
def numss (d : Nat) (ts : List (Tr d)) : List Nat := (ts.map (nums d)).flatten
def lvss (d : Nat) (ts : List (Tr d)) : List (Nat × Int) := (ts.map (lvs d)).flatten
theorem flats_app (d : Nat) (a b : List (Tr d)) : flats d (a ++ b) = flats d a ++ flats d b := by unfold flats; simp
theorem flats_cons (d : Nat) (a : Tr d) (b : List (Tr d)) : flats d (a :: b) = flat d a ++ flats d b := by unfold flats; simp
theorem numss_app (d : Nat) (a b : List (Tr d)) : numss d (a ++ b) = numss d a ++ numss d b := by unfold numss; simp
theorem numss_cons (d : Nat) (a : Tr d) (b : List (Tr d)) : numss d (a :: b) = nums d a ++ numss d b := by unfold numss; simp
theorem lvss_app (d : Nat) (a b : List (Tr d)) : lvss d (a ++ b) = lvss d a ++ lvss d b := by unfold lvss; simp
theorem lvss_cons (d : Nat) (a : Tr d) (b : List (Tr d)) : lvss d (a :: b) = lvs d a ++ lvss d b := by unfold lvss; simp

/-- What is left of kids where one had too few. -/
structure FixPost (m d : Nat) (lo hi : Ky) (ks : List Ky) (ts : List (Tr d)) (ks' : List Ky) (ts' : List (Tr d)) (fr : List Nat) : Prop where
  kids : Kids (Ok m d false) hi lo ks' ts'
  few : ks'.length ≤ ks.length ∧ ks.length ≤ ks'.length + 1
  flat : flats d ts' = flats d ts
  nums : (numss d ts' ++ fr).Perm (numss d ts)
  chn : ∀ s e, Chn s (lvss d ts) e → Chn s (lvss d ts') e
/-- Which neighbours are laid anew. -/
structure FixAt (d : Nat) (ks : List Ky) (ts : List (Tr d)) (j : Nat) (k1 : List Ky) (s : Ky) (k2 : List Ky) (t1 : List (Tr d)) (a b : Tr d) (t2 : List (Tr d)) : Prop where
  eks : ks = k1 ++ s :: k2
  ets : ts = t1 ++ a :: b :: t2
  len : t1.length = k1.length
  at_ : k1.length = j - 1

theorem fix_at {d : Nat} {ks : List Ky} {ts : List (Tr d)} {j : Nat} (hl : ts.length = ks.length + 1) (h1 : 1 ≤ ks.length) (hj : j < ts.length) : ∃ k1 s k2 t1 a b t2, FixAt d ks ts j k1 s k2 t1 a b t2 := by
  have e1 := at_parts ks [] (show j - 1 < ks.length by omega)
  have h2 : j - 1 < ts.length := by omega
  have h3 : j - 1 + 1 < ts.length := by omega
  have e2 : ts = ts.take (j - 1) ++ ts[j - 1] :: ts[j - 1 + 1] :: ts.drop (j - 1 + 1 + 1) := by
    rw [← List.drop_eq_getElem_cons h3, ← List.drop_eq_getElem_cons h2, List.take_append_drop]
  exact ⟨_, _, _, _, _, _, _, e1, e2, by simp; omega, by simp; omega⟩

theorem fix_post {m : Nat} (hm : 3 ≤ m) {d : Nat} {lo hi : Ky} {ks : List Ky} {ts : List (Tr d)} {j : Nat} {c : Tr d} (hk : Kids (OkW m m d) hi lo ks ts) (hj : ts[j]? = some c) (h1 : 1 ≤ ks.length) (hsz : ∀ i x, i ≠ j → ts[i]? = some x → m / 2 ≤ szT d x) (hc : m / 2 ≤ szT d c + 1) :
    (m / 2 ≤ szT d c ∧ FixPost m d lo hi ks ts ks ts []) ∨
    (szT d c < m / 2 ∧ ∃ k1 s k2 t1 a b t2, FixAt d ks ts j k1 s k2 t1 a b t2 ∧ num d (joinR m d a s b).1 = num d a ∧ szT d a + szT d b + 1 ≤ 2 * m ∧
      ((joinR m d a s b).2.1 = none → FixPost m d lo hi ks ts (k1 ++ k2) (t1 ++ (joinR m d a s b).1 :: t2) [num d b]) ∧
      (∀ q, (joinR m d a s b).2.1 = some q → num d q.2 = num d b ∧ FixPost m d lo hi ks ts (k1 ++ q.1 :: k2) (t1 ++ (joinR m d a s b).1 :: q.2 :: t2) [])) := by
  have hl := hk.len
  have hjl : j < ts.length := by
    rcases Nat.lt_or_ge j ts.length with h | h
    · exact h
    · rw [List.getElem?_eq_none h] at hj; cases hj
  by_cases hs : m / 2 ≤ szT d c
  · refine .inl ⟨hs, ?_, ⟨Nat.le_refl _, Nat.le_succ _⟩, rfl, by simp, fun s e h => h⟩
    refine kids_imp (fun t ht l h hw => w_ok hm hw ?_) hk
    obtain ⟨i, hi, rfl⟩ := List.getElem_of_mem ht
    by_cases e : i = j
    · subst e
      rw [List.getElem?_eq_getElem hi] at hj
      injection hj with hj
      rw [hj]; exact hs
    · exact hsz i _ e (List.getElem?_eq_getElem hi)
  · refine .inr ⟨by omega, ?_⟩
    obtain ⟨k1, s, k2, t1, a, b, t2, hf⟩ := fix_at hl h1 hjl
    have hts := hf.ets
    have hks := hf.eks
    have hlen := hf.len
    have hat := hf.at_
    rw [hts, hks] at hk
    obtain ⟨l, h, q⟩ := two_at hk hlen
    have ga : ts[k1.length]? = some a := by rw [hts]; exact get_mid t1 _ a (by omega)
    have gb : ts[k1.length + 1]? = some b := by
      rw [hts]
      have := get_mid (t1 ++ [a]) t2 b (j := k1.length + 1) (by simp; omega)
      simpa using this
    have hza := q.pa.sz
    have hzb := q.pb.sz
    have hall : ∀ x, x ∈ t1 ∨ x ∈ t2 → m / 2 ≤ szT d x := fun x hx => by
      rcases hx with hx | hx
      · obtain ⟨i, hi, rfl⟩ := List.getElem_of_mem hx
        refine hsz i _ (by omega) ?_
        rw [hts, List.getElem?_append_left hi, List.getElem?_eq_getElem hi]
      · obtain ⟨i, hi, rfl⟩ := List.getElem_of_mem hx
        refine hsz (k1.length + 2 + i) _ (by omega) ?_
        rw [hts, List.getElem?_append_right (by omega), show k1.length + 2 + i - t1.length = i + 1 + 1 by omega]
        simp [hi]
    have hab : m / 2 ≤ szT d a + szT d b ∧ szT d a + szT d b + 1 ≤ 2 * m := by
      by_cases hj0 : j = 0
      · subst hj0
        have e : k1.length = 0 := by omega
        rw [e] at ga gb
        rw [hj] at ga
        injection ga with ga
        subst ga
        have := hsz 1 b (by omega) (by simpa using gb)
        omega
      · have e : k1.length + 1 = j := by omega
        rw [e, hj] at gb
        injection gb with gb
        subst gb
        have := hsz k1.length a (by omega) ga
        omega
    obtain ⟨p1, p2, p3⟩ := join_post hm q.pa q.pb q.sl q.ne q.sr hab.1 hab.2
    refine ⟨k1, s, k2, t1, a, b, t2, hf, p1, hab.2, fun hn => ?_, fun r hr => ?_⟩
    · obtain ⟨w1, w2, w3, w4⟩ := p2 hn
      have hkk := q.one _ (ok_w w1).1
      refine ⟨kids_imp (fun t ht l h hw => w_ok hm hw ?_) hkk, ?_, ?_, ?_, fun s' e hc => ?_⟩
      · rcases List.mem_append.1 ht with ht | ht
        · exact hall _ (.inl ht)
        · rcases List.mem_cons.1 ht with rfl | ht
          · exact (ok_w w1).2.1 rfl
          · exact hall _ (.inr ht)
      · rw [hks]; simp; omega
      · rw [hts, flats_app, flats_app, flats_cons, flats_cons, flats_cons, w2, List.append_assoc]
      · rw [hts, numss_app, numss_app, numss_cons, numss_cons, numss_cons, List.append_assoc]
        refine List.Perm.append_left _ ?_
        rw [← List.append_assoc (nums d a)]
        refine List.Perm.trans ?_ (w3.append_right _)
        rw [List.append_assoc, List.append_assoc]
        exact List.Perm.append_left _ List.perm_append_comm
      · rw [hts, lvss_app, lvss_cons, lvss_cons] at hc
        rw [lvss_app, lvss_cons]
        obtain ⟨x, c1, c2⟩ := chn_app.1 hc
        rw [← List.append_assoc] at c2
        obtain ⟨y, c2, c3⟩ := chn_app.1 c2
        exact chn_app.2 ⟨x, c1, chn_app.2 ⟨y, w4 _ _ c2, c3⟩⟩
    · obtain ⟨w1, w2, w3, w4, w5, w6, w7, w8, w9⟩ := p3 r hr
      have hkk := q.two _ _ _ w3 w4 (ok_w w1).1 w5 (ok_w w2).1
      refine ⟨w9, kids_imp (fun t ht l h hw => w_ok hm hw ?_) hkk, ?_, ?_, ?_, fun s' e hc => ?_⟩
      · rcases List.mem_append.1 ht with ht | ht
        · exact hall _ (.inl ht)
        · rcases List.mem_cons.1 ht with rfl | ht
          · exact (ok_w w1).2.1 rfl
          · rcases List.mem_cons.1 ht with rfl | ht
            · exact (ok_w w2).2.1 rfl
            · exact hall _ (.inr ht)
      · rw [hks]; simp
      · rw [hts, flats_app, flats_app, flats_cons, flats_cons, flats_cons, flats_cons, ← List.append_assoc (flat d _) (flat d r.2), w6, List.append_assoc]
      · rw [hts, List.append_nil, numss_app, numss_app, numss_cons, numss_cons, numss_cons, numss_cons]
        refine List.Perm.append_left _ ?_
        rw [← List.append_assoc, ← List.append_assoc]
        exact w7.append_right _
      · rw [hts, lvss_app, lvss_cons, lvss_cons] at hc
        rw [lvss_app, lvss_cons, lvss_cons]
        obtain ⟨x, c1, c2⟩ := chn_app.1 hc
        rw [← List.append_assoc] at c2
        obtain ⟨y, c2, c3⟩ := chn_app.1 c2
        rw [← List.append_assoc (lvs d _) (lvs d r.2)]
        exact chn_app.2 ⟨x, c1, chn_app.2 ⟨y, w8 _ _ c2, c3⟩⟩

/-- What deleting leaves of a tree: the tree, and the numbers that were freed. -/
structure DelPost (m d : Nat) (lo hi : Ky) (k : Ky) (t : Tr d) (t' : Tr d) (fr : List Nat) : Prop where
  num : num d t' = num d t
  ok : OkW m m d lo hi t'
  few : szT d t ≤ szT d t' + 1
  flat : flat d t' = delL (flat d t) k
  nums : (nums d t' ++ fr).Perm (nums d t)
  chn : ∀ s e, Chn s (lvs d t) e → Chn s (lvs d t') e

theorem len_del_is {L : List Pr} (h : Srt L) (k : Ky) : L.length ≤ (delL L k).length + 1 := by
  obtain ⟨X, M, Y, rfl, hX, hY, hM⟩ := split h k
  rw [del_split hX hY hM]
  rcases hM with rfl | ⟨v', rfl⟩ <;> simp <;> omega
theorem del_mid {A B C : List Pr} {k : Ky} (hA : ∀ p ∈ A, ltB p.1 k = true) (hC : ∀ p ∈ C, ltB k p.1 = true) (hB : Srt B) : delL (A ++ (B ++ C)) k = A ++ (delL B k ++ C) := by
  obtain ⟨X, M, Y, rfl, hX, hY, hM⟩ := split hB k
  have hX' : ∀ p ∈ A ++ X, ltB p.1 k = true := fun p hp => (List.mem_append.1 hp).elim (hA p) (hX p)
  have hY' : ∀ p ∈ Y ++ C, ltB k p.1 = true := fun p hp => (List.mem_append.1 hp).elim (hY p) (hC p)
  have e : A ++ (X ++ (M ++ Y) ++ C) = (A ++ X) ++ (M ++ (Y ++ C)) := by simp
  rw [e, del_split hX' hY' hM, del_split hX hY hM]
  simp
theorem del_leaf {m : Nat} {lo hi k : Ky} {b : Bool} {t : Tr 0} (h : Ok m 0 b lo hi t) : DelPost m 0 lo hi k t (mkL (lf t).1 (delL (lf t).2.1 k) (lf t).2.2) [] :=
  ⟨rfl, ⟨h.1.del k, Nat.le_trans (len_del _ _) h.2.1, fun p hp => h.2.2.2 p (mem_del hp)⟩, len_del_is h.1.1 k, rfl, by show List.Perm ([(lf t).1] ++ []) [(lf t).1]; simp, fun s e h => h⟩

/-- The kid that a key is in, by what the kids are but for their sizes. -/
theorem drop_kid {m : Nat} (hm : 3 ≤ m) {d : Nat} {b : Bool} {lo hi k : Ky} {t : Tr (d + 1)} (h : Ok m (d + 1) b lo hi t) (hk : inR lo hi k) :
    ∃ k1 k2 t1 t2 c l hh, KidAt (OkW m m d) lo hi k (nn t).2.1 (nn t).2.2 k1 k2 t1 t2 c l hh ∧ Ok m d false l hh c ∧ (nn t).2.2[kidx (nn t).2.1 k]? = some c ∧ (∀ x ∈ (nn t).2.2, m / 2 ≤ szT d x) := by
  have hall : ∀ x ∈ (nn t).2.2, m / 2 ≤ szT d x := fun x hx => by
    obtain ⟨l', h', e1, _⟩ := kids_all h.2.2.2 x hx
    exact (ok_w e1).2.1 rfl
  obtain ⟨k1, k2, t1, t2, c, l, hh, q⟩ := kids_at (kids_imp (Q := OkW m m d) (fun x hx l' h' hw => (ok_w hw).1) h.2.2.2) hk
  refine ⟨k1, k2, t1, t2, c, l, hh, q, w_ok hm q.kid (hall c (by rw [q.ets]; simp)), ?_, hall⟩
  rw [q.ets]
  exact get_mid t1 t2 c (by rw [q.idx, q.len])
/-- The kid is another one. -/
theorem kid_set {m : Nat} {d : Nat} {lo hi k : Ky} {ks : List Ky} {ts : List (Tr d)} {k1 k2 : List Ky} {t1 t2 : List (Tr d)} {c c' : Tr d} {l h : Ky} {fr : List Nat} (q : KidAt (OkW m m d) lo hi k ks ts k1 k2 t1 t2 c l h) (hall : ∀ x ∈ ts, m / 2 ≤ szT d x) (hd : DelPost m d l h k c c' fr) :
    Kids (OkW m m d) hi lo ks (t1 ++ c' :: t2) ∧ (t1 ++ c' :: t2)[t1.length]? = some c' ∧ (∀ i x, i ≠ t1.length → (t1 ++ c' :: t2)[i]? = some x → m / 2 ≤ szT d x) ∧ m / 2 ≤ szT d c' + 1 := by
  have hts := q.ets
  refine ⟨by rw [q.eks]; exact q.one _ hd.ok, get_mid t1 t2 c' rfl, fun i x hi hx => ?_, ?_⟩
  · refine hall x ?_
    rw [hts]
    rcases Nat.lt_or_ge i t1.length with h | h
    · rw [List.getElem?_append_left h] at hx
      exact List.mem_append_left _ (List.mem_of_getElem? hx)
    · rw [List.getElem?_append_right h] at hx
      obtain ⟨r, hr⟩ : ∃ r, i - t1.length = r + 1 := ⟨i - t1.length - 1, by omega⟩
      rw [hr] at hx
      exact List.mem_append_right _ (List.mem_cons_of_mem _ (List.mem_of_getElem? (by simpa using hx)))
  · have := hall c (by rw [hts]; simp)
    have := hd.few
    omega
/-- What is left of a node, its kid another one, and laid anew where that had too few. -/
theorem del_inner {m : Nat} (hm : 3 ≤ m) {d : Nat} {b : Bool} {lo hi k : Ky} {t : Tr (d + 1)} (h : Ok m (d + 1) b lo hi t) {k1 k2 : List Ky} {t1 t2 : List (Tr d)} {c c' : Tr d} {l hh : Ky} {fr : List Nat} (q : KidAt (OkW m m d) lo hi k (nn t).2.1 (nn t).2.2 k1 k2 t1 t2 c l hh)
    (hok : Ok m d false l hh c) (hall : ∀ x ∈ (nn t).2.2, m / 2 ≤ szT d x) (hd : DelPost m d l hh k c c' fr) {ks' : List Ky} {ts' : List (Tr d)} {fr2 : List Nat} (hf : FixPost m d lo hi (nn t).2.1 (t1 ++ c' :: t2) ks' ts' fr2) : DelPost m (d + 1) lo hi k t (mkN (nn t).1 ks' ts') (fr ++ fr2) := by
  have hts := q.ets
  have hA : ∀ p ∈ flats d t1, ltB p.1 k = true := fun p hp => by
    obtain ⟨L, hL, hp⟩ := List.mem_flatten.1 hp
    obtain ⟨t', ht, rfl⟩ := List.mem_map.1 hL
    obtain ⟨l', h', x1, x2, x3⟩ := q.before t' ht
    exact (w_ok hm x1 (hall t' (by rw [hts]; simp [ht]))).bel x2 x3 p hp
  have hC : ∀ p ∈ flats d t2, ltB k p.1 = true := fun p hp => by
    obtain ⟨L, hL, hp⟩ := List.mem_flatten.1 hp
    obtain ⟨t', ht, rfl⟩ := List.mem_map.1 hL
    obtain ⟨l', h', x1, x2⟩ := q.after t' ht
    exact (w_ok hm x1 (hall t' (by rw [hts]; simp [ht]))).abv x2 p hp
  refine ⟨rfl, ⟨Nat.le_trans hf.few.1 h.2.1, hf.kids⟩, hf.few.2, ?_, ?_, fun s e hc => ?_⟩
  · show flats d ts' = delL (flats d (nn t).2.2) k
    rw [hf.flat, hts, flats_app, flats_cons, flats_app, flats_cons, hd.flat]
    exact (del_mid hA hC hok.fit.1.1).symm
  · show List.Perm (((nn t).1 :: numss d ts') ++ (fr ++ fr2)) ((nn t).1 :: numss d (nn t).2.2)
    refine List.Perm.cons _ ?_
    have h2 : (numss d ts' ++ fr2 ++ fr).Perm (numss d (t1 ++ c' :: t2) ++ fr) := hf.nums.append_right _
    refine ((List.Perm.append_left _ List.perm_append_comm).trans (by rw [← List.append_assoc])).trans (h2.trans ?_)
    rw [hts, numss_app, numss_cons, numss_app, numss_cons, List.append_assoc]
    refine List.Perm.append_left _ ?_
    refine List.Perm.trans ?_ (hd.nums.append_right _)
    rw [List.append_assoc, List.append_assoc]
    exact List.Perm.append_left _ List.perm_append_comm
  · show Chn s (lvss d ts') e
    refine hf.chn _ _ ?_
    have hc : Chn s (lvss d (nn t).2.2) e := hc
    rw [hts, lvss_app, lvss_cons] at hc
    rw [lvss_app, lvss_cons]
    obtain ⟨x, c1, c2⟩ := chn_app.1 hc
    obtain ⟨y, c2, c3⟩ := chn_app.1 c2
    exact chn_app.2 ⟨x, c1, chn_app.2 ⟨y, hd.chn _ _ c2, c3⟩⟩
theorem del_sub {m d : Nat} {lo hi k : Ky} {t t' : Tr d} {fr : List Nat} (h : DelPost m d lo hi k t t' fr) : (∀ i ∈ nums d t', i ∈ nums d t) ∧ (∀ i ∈ fr, i ∈ nums d t) :=
  ⟨fun i hi => h.nums.mem_iff.1 (List.mem_append_left _ hi), fun i hi => h.nums.mem_iff.1 (List.mem_append_right _ hi)⟩
end Go.Proofs.Ythbmchkbebneiaa

namespace Go.Proofs.Ythbmchkbebneiaa
open Go.RowKit
set_option linter.unusedVariables false
set_option maxRecDepth 100000

set_option maxHeartbeats 1000000 in
theorem pkidof_any {w : World} {A C : Option Addr} {n c o : Nat} (q : Nat) {ks : List Ky} {k : List UInt8} (h : Kys w A n c ks) (h' : Byt w C o k) (hs : Srt (KS ks)) (hn : n ≤ 1000) :
    Calls Try.prog 71 #[.slice A n c, .slice C o q] w fun e w' => e = .returned (.int .i64 (kidx ks k)) ∧ w = w' := by
  have H := searchk_any q h h' hs hn
  have HX := Lib.hid (kidx_is k hs)
  have HP := pos_le (KS ks) k
  rw [len_ks, h.1] at HP
  have HN := Lib.hid hn
  clear h h' hs hn
  generalize pos (KS ks) k = P at *
  cases hb : hasB (KS ks) k
  · rw [hb] at H HX
    go_enter Try.func71, Try.ntmps71
    go_wp2_with (go_at_call 62; refine H.mono ?_; rintro e w' ⟨rfl, rfl⟩)
    go_ret
    exact ⟨ret_int (by rw [HX.out]; simp), rfl⟩
  · rw [hb] at H HX
    have hb1 : IntKind.i64.wrap ((P : Int) + 1) = (P : Int) + 1 := IntWalk.i64_in _ (by have := HN.out; omega)
    go_enter Try.func71, Try.ntmps71
    go_wp2_with (go_at_call 62; refine H.mono ?_; rintro e w' ⟨rfl, rfl⟩)
    go_ret
    exact ⟨ret_int (by rw [HX.out]; simp), rfl⟩

/-- One kid more than keys, or a leaf. -/
def WholeN (h : Nh) (x : Nd) : Prop := x.leaf = true ∨ (x.leaf = false ∧ h.k = h.m + 1 ∧ h.m ≤ 10000)
set_option maxHeartbeats 1000000 in
theorem whole_any {w : World} {h : Nh} {x : Nd} (hw : WholeN h x) :
    Calls Try.prog 70 #[ndV h x] w fun e w' => e = .returned (.bool true) ∧ Below w.heap.size w w' := by
  obtain ⟨A, n, c, B, m, d, K, k, ee⟩ := h
  obtain ⟨lf, ps, ks, ts, nx⟩ := x
  rcases hw with hl | ⟨hl, hk, hm⟩
  · simp only at hl
    subst hl
    go_enter Try.func70, Try.ntmps70
    go_wp2
    go_ret
    exact ⟨rfl, (Below.refl _ _).alloc (Nat.le_refl _) _⟩
  · simp only at hl hk hm
    subst hl
    subst hk
    have hw1 : IntKind.i64.wrap ((m : Int) + 1) = (m : Int) + 1 := IntWalk.i64_in _ (by omega)
    go_enter Try.func70, Try.ntmps70
    go_wp2
    go_ret
    refine ⟨?_, (Below.refl _ _).alloc (Nat.le_refl _) _⟩
    first
      | rfl
      | simp

/-- What it has of what it may have too few. -/
def szN (h : Nh) (x : Nd) : Nat := if x.leaf then h.n else h.m
set_option maxHeartbeats 1000000 in
theorem size_any {w : World} {h : Nh} {x : Nd} :
    Calls Try.prog 84 #[ndV h x] w fun e w' => e = .returned (.int .i64 (szN h x)) ∧ Below w.heap.size w w' := by
  obtain ⟨A, n, c, B, m, d, K, k, ee⟩ := h
  obtain ⟨lf, ps, ks, ts, nx⟩ := x
  cases lf
  · go_enter Try.func84, Try.ntmps84
    go_wp2
    go_ret
    exact ⟨rfl, (Below.refl _ _).alloc (Nat.le_refl _) _⟩
  · go_enter Try.func84, Try.ntmps84
    go_wp2
    go_ret
    exact ⟨rfl, (Below.refl _ _).alloc (Nat.le_refl _) _⟩

set_option maxHeartbeats 2000000 in
theorem alike_any {w : World} {h g : Nh} {x y : Nd} (hx : WholeN h x) (hy : WholeN g y) (he : x.leaf = y.leaf) :
    Calls Try.prog 85 #[ndV h x, ndV g y] w fun e w' => e = .returned (.bool true) ∧ Below w.heap.size w w' := by
  have W0 := Lib.hid (two_new w (.cells #[.bool x.leaf, .slice h.A h.n h.c, .slice h.B h.m h.d, .slice h.K h.k h.e, .int .i64 x.next] 74) (.cells #[.bool y.leaf, .slice g.A g.n g.c, .slice g.B g.m g.d, .slice g.K g.k g.e, .int .i64 y.next] 74))
  have H1 : Hid (∀ v : World, Calls Try.prog 70 #[ndV h x] v fun e w' => e = .returned (.bool true) ∧ Below v.heap.size v w') := Lib.hid fun v => whole_any hx
  have H2 : Hid (∀ v : World, Calls Try.prog 70 #[ndV g y] v fun e w' => e = .returned (.bool true) ∧ Below v.heap.size v w') := Lib.hid fun v => whole_any hy
  have HE := Lib.hid he
  clear hx hy he
  go_enter Try.func85, Try.ntmps85
  go_wp2_with fail
  obtain ⟨W, hW, hWB, hWs, h0, h1⟩ := W0.out
  rw [← hW]
  clear hW W0
  refine (H1.out W).mono ?_
  rintro e w1 ⟨rfl, hb1⟩
  have k0 := (hb1.block w.heap.size (by omega)).trans h0
  have k1 := (hb1.block (w.heap.size + 1) (by omega)).trans h1
  have HB1 := Lib.hid (hWB.trans (hb1.mono hWB.size))
  have HS1 := Lib.hid hb1.size
  have HK := Lib.hid (And.intro k0 k1)
  obtain ⟨b0, b1, b2, b3, b4, -⟩ := five k1
  clear hWB h0 h1 hb1 k0 k1
  go_wp2_with fail
  refine (H2.out w1).mono ?_
  rintro e w2 ⟨rfl, hb2⟩
  clear b0 b1 b2 b3 b4
  obtain ⟨b0, -⟩ := five ((hb2.block w.heap.size (by have := HS1.out; omega)).trans HK.out.1)
  obtain ⟨d0, -⟩ := five ((hb2.block (w.heap.size + 1) (by have := HS1.out; omega)).trans HK.out.2)
  rw [HE.out] at b0
  have HB2 := Lib.hid (HB1.out.trans (hb2.mono HB1.out.size))
  clear hb2 hWs
  cases y.leaf
  all_goals
    go_wp2
    go_ret
    exact ⟨rfl, HB2.out⟩
end Go.Proofs.Ythbmchkbebneiaa

namespace Go.Proofs.Ythbmchkbebneiaa
open Go.RowKit
set_option linter.unusedVariables false
set_option maxRecDepth 100000

/-- A slice's cells. -/
def Src (w : World) (s : Nat) (A : Option Addr) (n c : Nat) (xs : List Value) : Prop :=
  xs.length = n * s ∧ n ≤ c ∧ (A = none → c = 0) ∧ (∀ a, A = some a → ∀ j u, xs[j]? = some u → w.cell? (a.add j) = some u) ∧ ∀ u ∈ xs, u.oneCell' = true
theorem Src.below {w w' : World} {s : Nat} {A : Option Addr} {n c : Nat} {xs : List Value} (h : Src w s A n c xs) (hb : Below w.heap.size w w') : Src w' s A n c xs :=
  ⟨h.1, h.2.1, h.2.2.1, fun a e j u hu => by
    have hc := h.2.2.2.1 a e j u hu
    exact (hb.cell (World.block_lt_of_cell? w _ hc)).trans hc, h.2.2.2.2⟩

/-- Slices side by side: cells of block b. -/
def PiecesC (w : World) (s b m : Nat) (A : Nat → Option Addr) (n c : Nat → Nat) (X : Nat → List Value) : Prop :=
  b < w.heap.size ∧ ∀ j, j < m → w.cell? ⟨b, j, none⟩ = some (.slice (A j) (n j) (c j)) ∧ Src w s (A j) (n j) (c j) (X j)
def catV (X : Nat → List Value) : Nat → List Value
  | 0 => []
  | j + 1 => catV X j ++ X j
def CatInvC (w : World) (E s : Nat) (X : Nat → List Value) (k j : Nat) (v : Value) (wr : World) : Prop :=
  wr.ownsRow w.heap.size E s v k (catV X j) ∧ Below w.heap.size w wr
def GrownE (w : World) (E s : Nat) (e : Ending) (w' : World) : Prop := ∃ v, e = .returned v ∧ w'.ownsRow w.heap.size E s v 0 [] ∧ Below w.heap.size w w'

/-- One less, in place. -/
def Cutd (w : World) (N b : Nat) (E n c : Nat) (xs : List Value) (e : Ending) (w' : World) : Prop :=
  e = .returned (.slice (some ⟨b, 0, none⟩) n c) ∧ w'.ownsRow N E 1 (.slice (some ⟨b, 0, none⟩) n c) n xs ∧ w.grownBy w' (some b)

theorem wpList_append_srcp {w w0 : World} {ops : Array Oper} {rest : List Oper} {o : Oper} {a : Act} {Q : Exit → Act → World → Prop} (hgd : o.guard = none) (s x : Operand)
    (ho : o.op = .call { callee := .builtin .append, args := #[s, x], argTypes := #[22, 22] })
    (base : Nat) (v : Value) (n : Nat) (xs : List Value) (hs : a.eval s = v) (hown : w.ownsRow base 31 2 v n xs)
    (A : Option Addr) (m c : Nat) (ys : List Value) (hx : a.eval x = .slice A m c) (hp : Src w0 2 A m c ys) (hb : Below w0.heap.size w0 w) (h63 : n + m ≤ 3000) (hbase : base ≤ w.heap.size)
    (h : ∀ v' w', w'.ownsRow base 31 2 v' (n + m) (xs ++ ys) → w.grownBy w' v.ownBlock → wpList Try.prog ops Q rest (a.put o.dst v') w') :
    wpList Try.prog ops Q (o :: rest) a w := by
  obtain ⟨i0, hi, hz0, hz1, hz2⟩ := info_parts Try.infoPair
  obtain ⟨hl, hmc, hA, hc, h1⟩ := hp
  cases A with
  | none =>
    obtain rfl : c = 0 := hA rfl
    obtain rfl : m = 0 := Nat.le_zero.1 hmc
    obtain rfl : ys = [] := List.eq_nil_of_length_eq_zero (by omega)
    refine wpList_append_own_none (w := w) hgd s x _ ho base 31 i0 2 Try.underlying22 hi v n xs hs hown hx ?_
    exact h v w (by simpa using hown) (World.grownBy.refl _ _)
  | some ad =>
    refine wpList_append_own w hgd s x _ ho base 31 i0 (.agg #[.slice none 0 0, .slice none 0 0]) 2 48 Try.underlying22 hi hz0 hz1 hz2 rfl (by decide) v n xs hs hown ad m c ys hx hl (fun j u hu => ?_) h1 (by unfold maxLen; omega) (by omega) hbase ?_
    · have hcell := hc ad rfl j u hu
      have hlt := World.block_lt_of_cell? w0 _ hcell
      exact (hb.cell hlt).trans hcell
    intro v' w' h1 h2 _
    exact h v' w' h1 h2

set_option maxHeartbeats 1000000 in
theorem growp_nil {w : World} (n : Nat) (hn : n ≤ 3000) :
    Calls Try.prog 79 #[.slice none 0 0, .int .i64 n] w (GrownE w 31 2) := by
  obtain ⟨i0, hi, hz0, hz1, hz2⟩ := info_parts Try.infoPair
  rcases Nat.eq_zero_or_pos n with h0 | h0
  · subst h0
    clear hn
    go_enter Try.func79, Try.ntmps79
    go_wp2
    go_ret
    exact ⟨_, rfl, World.ownsRow_nil _ _ _ _, Below.refl _ _⟩
  · have HR := Lib.hid (Lib.run_append_nil_zeros (P := Try.prog) w 22 3 22 31 i0 (.agg #[.slice none 0 0, .slice none 0 0]) .i64 .i64 Try.underlying22 Try.underlying3 hi hz0 n h0 (by rw [hz1]; decide) (by omega) (by rw [hz2]; omega))
    have hge := grownCap_ge w n 0 31
    have hle := grownCap_le_maxLen w n 0 31 (by unfold maxLen; omega)
    generalize grownCap w n 0 31 = g at HR hge hle
    clear hi hz0 hz1 hz2
    go_enter Try.func79, Try.ntmps79
    go_wp2_with (at_builtin; refine Lib.wpList_append_run _ rfl _ _ _ _ rfl _ _ rfl rfl _ _ HR.out ?_)
    go_ret
    refine ⟨_, rfl, ?_, ?_⟩
    · refine World.ownsRow_made (base := w.heap.size) w.drew _ g (Nat.le_refl _) hle ?_
      simp [size_zeroCells]
      try omega
    · exact ((Below.refl w.heap.size w).drew).alloc (Nat.le_refl _) _

set_option maxHeartbeats 2000000 in
theorem concatp_any {w : World} {b m : Nat} {A : Nat → Option Addr} {n c : Nat → Nat} {X : Nat → List Value} (h : PiecesC w 2 b m A n c X) (hm : m ≤ 3) (hs : sumN n m ≤ 3000) :
    Calls Try.prog 65 #[.slice (some ⟨b, 0, none⟩) m m] w (ClonedR w 31 2 (sumN n m) (catV X m)) := by
  have H := Lib.hid h
  have HS := Lib.hid hs
  clear h hs
  go_enter Try.func65, Try.ntmps65
  go_wp2
  go_loop [3, 11] (fun s i => ∃ j : Nat, j ≤ m ∧ i = .int .i64 j ∧ s = .int .i64 (sumN n j : Nat)) (fun _ i => m - (intOf i).toNat)
  case atStart => exact ⟨0, Nat.zero_le _, rfl, rfl⟩
  case round =>
    obtain ⟨j, hj, rfl, rfl⟩ := hrel
    by_cases hlt : j < m
    · obtain ⟨k0, _⟩ := H.out.2 j hlt
      have hle : sumN n j + n j ≤ 3000 := Nat.le_trans (sum_mono n (show j + 1 ≤ m from hlt)) HS.out
      have hsm : sumN n (j + 1) = sumN n j + n j := rfl
      have HSM := Lib.hid hsm
      clear hsm
      go_wp2
      go_round
      case rel => exact ⟨j + 1, by omega, by go_num, by rw [HSM.out]; go_num⟩
      case measure => simp [intOf]; omega
    · obtain rfl : j = m := by omega
      have HG := growp_nil (w := w) (sumN n j) HS.out
      have hsl := HS.out
      go_wp2_with fail
      refine HG.mono ?_
      rintro e w1 ⟨v, rfl, hown, hb⟩
      have HO := Lib.hid hown
      have HB := Lib.hid hb
      clear hown hb HG
      go_wp2
      go_loopw [6, 27] (fun v i wr => ∃ t : Nat, t ≤ j ∧ i = .int .i64 t ∧ CatInvC w 31 2 X (sumN n t) t v wr) (fun _ i _ => j - (intOf i).toNat)
      case atStart => exact ⟨0, Nat.zero_le _, rfl, HO.out, HB.out⟩
      case round =>
        obtain ⟨t, ht, rfl, hown, hb⟩ := hrel
        have HO2 := Lib.hid hown
        have HB2 := Lib.hid hb
        clear hown hb
        by_cases htl : t < j
        · obtain ⟨k0, hp⟩ := H.out.2 t htl
          have k1 : wr.cell? ⟨b, t, none⟩ = some (.slice (A t) (n t) (c t)) := (HB2.out.cell (p := ⟨b, t, none⟩) H.out.1).trans k0
          have HP := Lib.hid hp
          have hle : sumN n t + n t ≤ 3000 := Nat.le_trans (sum_mono n (show t + 1 ≤ j from htl)) HS.out
          clear k0 hp
          go_wp2_with (at_builtin; refine wpList_append_srcp rfl _ _ rfl w.heap.size _ (sumN n t) (catV X t) rfl HO2.out (A t) (n t) (c t) (X t) rfl HP.out HB2.out hle HB2.out.size ?_)
          intro v' w2 hown hg
          have HB3 := Lib.hid (own_below HB2.out HO2.out hg)
          have HO3 := Lib.hid hown
          clear hown hg
          go_wp2
          go_roundw
          case rel => exact ⟨t + 1, by omega, by go_num, HO3.out, HB3.out⟩
          case measure => simp [intOf]; omega
        · obtain rfl : t = j := by omega
          go_wp2
          go_ret
          exact ⟨_, rfl, HO2.out, HB2.out⟩

theorem wpList_append_srck {w w0 : World} {ops : Array Oper} {rest : List Oper} {o : Oper} {a : Act} {Q : Exit → Act → World → Prop} (hgd : o.guard = none) (s x : Operand)
    (ho : o.op = .call { callee := .builtin .append, args := #[s, x], argTypes := #[72, 72] })
    (base : Nat) (v : Value) (n : Nat) (xs : List Value) (hs : a.eval s = v) (hown : w.ownsRow base 29 1 v n xs)
    (A : Option Addr) (m c : Nat) (ys : List Value) (hx : a.eval x = .slice A m c) (hp : Src w0 1 A m c ys) (hb : Below w0.heap.size w0 w) (h63 : n + m ≤ 3000) (hbase : base ≤ w.heap.size)
    (h : ∀ v' w', w'.ownsRow base 29 1 v' (n + m) (xs ++ ys) → w.grownBy w' v.ownBlock → wpList Try.prog ops Q rest (a.put o.dst v') w') :
    wpList Try.prog ops Q (o :: rest) a w := by
  obtain ⟨i0, hi, hz0, hz1, hz2⟩ := info_parts Try.infoKey
  obtain ⟨hl, hmc, hA, hc, h1⟩ := hp
  cases A with
  | none =>
    obtain rfl : c = 0 := hA rfl
    obtain rfl : m = 0 := Nat.le_zero.1 hmc
    obtain rfl : ys = [] := List.eq_nil_of_length_eq_zero (by omega)
    refine wpList_append_own_none (w := w) hgd s x _ ho base 29 i0 1 Try.underlying72 hi v n xs hs hown hx ?_
    exact h v w (by simpa using hown) (World.grownBy.refl _ _)
  | some ad =>
    refine wpList_append_own w hgd s x _ ho base 29 i0 (.slice none 0 0) 1 24 Try.underlying72 hi hz0 hz1 hz2 rfl (by decide) v n xs hs hown ad m c ys hx hl (fun j u hu => ?_) h1 (by unfold maxLen; omega) (by omega) hbase ?_
    · have hcell := hc ad rfl j u hu
      have hlt := World.block_lt_of_cell? w0 _ hcell
      exact (hb.cell hlt).trans hcell
    intro v' w' h1 h2 _
    exact h v' w' h1 h2

set_option maxHeartbeats 1000000 in
theorem growk_nil {w : World} (n : Nat) (hn : n ≤ 3000) :
    Calls Try.prog 97 #[.slice none 0 0, .int .i64 n] w (GrownE w 29 1) := by
  obtain ⟨i0, hi, hz0, hz1, hz2⟩ := info_parts Try.infoKey
  rcases Nat.eq_zero_or_pos n with h0 | h0
  · subst h0
    clear hn
    go_enter Try.func97, Try.ntmps97
    go_wp2
    go_ret
    exact ⟨_, rfl, World.ownsRow_nil _ _ _ _, Below.refl _ _⟩
  · have HR := Lib.hid (Lib.run_append_nil_zeros (P := Try.prog) w 72 3 72 29 i0 (.slice none 0 0) .i64 .i64 Try.underlying72 Try.underlying3 hi hz0 n h0 (by rw [hz1]; decide) (by omega) (by rw [hz2]; omega))
    have hge := grownCap_ge w n 0 29
    have hle := grownCap_le_maxLen w n 0 29 (by unfold maxLen; omega)
    generalize grownCap w n 0 29 = g at HR hge hle
    clear hi hz0 hz1 hz2
    go_enter Try.func97, Try.ntmps97
    go_wp2_with (at_builtin; refine Lib.wpList_append_run _ rfl _ _ _ _ rfl _ _ rfl rfl _ _ HR.out ?_)
    go_ret
    refine ⟨_, rfl, ?_, ?_⟩
    · refine World.ownsRow_made (base := w.heap.size) w.drew _ g (Nat.le_refl _) hle ?_
      simp [size_zeroCells]
      try omega
    · exact ((Below.refl w.heap.size w).drew).alloc (Nat.le_refl _) _

set_option maxHeartbeats 2000000 in
theorem concatk_any {w : World} {b m : Nat} {A : Nat → Option Addr} {n c : Nat → Nat} {X : Nat → List Value} (h : PiecesC w 1 b m A n c X) (hm : m ≤ 3) (hs : sumN n m ≤ 3000) :
    Calls Try.prog 93 #[.slice (some ⟨b, 0, none⟩) m m] w (ClonedR w 29 1 (sumN n m) (catV X m)) := by
  have H := Lib.hid h
  have HS := Lib.hid hs
  clear h hs
  go_enter Try.func93, Try.ntmps93
  go_wp2
  go_loop [3, 11] (fun s i => ∃ j : Nat, j ≤ m ∧ i = .int .i64 j ∧ s = .int .i64 (sumN n j : Nat)) (fun _ i => m - (intOf i).toNat)
  case atStart => exact ⟨0, Nat.zero_le _, rfl, rfl⟩
  case round =>
    obtain ⟨j, hj, rfl, rfl⟩ := hrel
    by_cases hlt : j < m
    · obtain ⟨k0, _⟩ := H.out.2 j hlt
      have hle : sumN n j + n j ≤ 3000 := Nat.le_trans (sum_mono n (show j + 1 ≤ m from hlt)) HS.out
      have hsm : sumN n (j + 1) = sumN n j + n j := rfl
      have HSM := Lib.hid hsm
      clear hsm
      go_wp2
      go_round
      case rel => exact ⟨j + 1, by omega, by go_num, by rw [HSM.out]; go_num⟩
      case measure => simp [intOf]; omega
    · obtain rfl : j = m := by omega
      have HG := growk_nil (w := w) (sumN n j) HS.out
      have hsl := HS.out
      go_wp2_with fail
      refine HG.mono ?_
      rintro e w1 ⟨v, rfl, hown, hb⟩
      have HO := Lib.hid hown
      have HB := Lib.hid hb
      clear hown hb HG
      go_wp2
      go_loopw [6, 27] (fun v i wr => ∃ t : Nat, t ≤ j ∧ i = .int .i64 t ∧ CatInvC w 29 1 X (sumN n t) t v wr) (fun _ i _ => j - (intOf i).toNat)
      case atStart => exact ⟨0, Nat.zero_le _, rfl, HO.out, HB.out⟩
      case round =>
        obtain ⟨t, ht, rfl, hown, hb⟩ := hrel
        have HO2 := Lib.hid hown
        have HB2 := Lib.hid hb
        clear hown hb
        by_cases htl : t < j
        · obtain ⟨k0, hp⟩ := H.out.2 t htl
          have k1 : wr.cell? ⟨b, t, none⟩ = some (.slice (A t) (n t) (c t)) := (HB2.out.cell (p := ⟨b, t, none⟩) H.out.1).trans k0
          have HP := Lib.hid hp
          have hle : sumN n t + n t ≤ 3000 := Nat.le_trans (sum_mono n (show t + 1 ≤ j from htl)) HS.out
          clear k0 hp
          go_wp2_with (at_builtin; refine wpList_append_srck rfl _ _ rfl w.heap.size _ (sumN n t) (catV X t) rfl HO2.out (A t) (n t) (c t) (X t) rfl HP.out HB2.out hle HB2.out.size ?_)
          intro v' w2 hown hg
          have HB3 := Lib.hid (own_below HB2.out HO2.out hg)
          have HO3 := Lib.hid hown
          clear hown hg
          go_wp2
          go_roundw
          case rel => exact ⟨t + 1, by omega, by go_num, HO3.out, HB3.out⟩
          case measure => simp [intOf]; omega
        · obtain rfl : t = j := by omega
          go_wp2
          go_ret
          exact ⟨_, rfl, HO2.out, HB2.out⟩

theorem wpList_append_srci {w w0 : World} {ops : Array Oper} {rest : List Oper} {o : Oper} {a : Act} {Q : Exit → Act → World → Prop} (hgd : o.guard = none) (s x : Operand)
    (ho : o.op = .call { callee := .builtin .append, args := #[s, x], argTypes := #[47, 47] })
    (base : Nat) (v : Value) (n : Nat) (xs : List Value) (hs : a.eval s = v) (hown : w.ownsRow base 3 1 v n xs)
    (A : Option Addr) (m c : Nat) (ys : List Value) (hx : a.eval x = .slice A m c) (hp : Src w0 1 A m c ys) (hb : Below w0.heap.size w0 w) (h63 : n + m ≤ 3000) (hbase : base ≤ w.heap.size)
    (h : ∀ v' w', w'.ownsRow base 3 1 v' (n + m) (xs ++ ys) → w.grownBy w' v.ownBlock → wpList Try.prog ops Q rest (a.put o.dst v') w') :
    wpList Try.prog ops Q (o :: rest) a w := by
  obtain ⟨i0, hi, hz0, hz1, hz2⟩ := info_parts Try.infoInt
  obtain ⟨hl, hmc, hA, hc, h1⟩ := hp
  cases A with
  | none =>
    obtain rfl : c = 0 := hA rfl
    obtain rfl : m = 0 := Nat.le_zero.1 hmc
    obtain rfl : ys = [] := List.eq_nil_of_length_eq_zero (by omega)
    refine wpList_append_own_none (w := w) hgd s x _ ho base 3 i0 1 Try.underlying47 hi v n xs hs hown hx ?_
    exact h v w (by simpa using hown) (World.grownBy.refl _ _)
  | some ad =>
    refine wpList_append_own w hgd s x _ ho base 3 i0 (.int .i64 0) 1 8 Try.underlying47 hi hz0 hz1 hz2 rfl (by decide) v n xs hs hown ad m c ys hx hl (fun j u hu => ?_) h1 (by unfold maxLen; omega) (by omega) hbase ?_
    · have hcell := hc ad rfl j u hu
      have hlt := World.block_lt_of_cell? w0 _ hcell
      exact (hb.cell hlt).trans hcell
    intro v' w' h1 h2 _
    exact h v' w' h1 h2

set_option maxHeartbeats 1000000 in
theorem growi_nil {w : World} (n : Nat) (hn : n ≤ 3000) :
    Calls Try.prog 98 #[.slice none 0 0, .int .i64 n] w (GrownE w 3 1) := by
  obtain ⟨i0, hi, hz0, hz1, hz2⟩ := info_parts Try.infoInt
  rcases Nat.eq_zero_or_pos n with h0 | h0
  · subst h0
    clear hn
    go_enter Try.func98, Try.ntmps98
    go_wp2
    go_ret
    exact ⟨_, rfl, World.ownsRow_nil _ _ _ _, Below.refl _ _⟩
  · have HR := Lib.hid (Lib.run_append_nil_zeros (P := Try.prog) w 47 3 47 3 i0 (.int .i64 0) .i64 .i64 Try.underlying47 Try.underlying3 hi hz0 n h0 (by rw [hz1]; decide) (by omega) (by rw [hz2]; omega))
    have hge := grownCap_ge w n 0 3
    have hle := grownCap_le_maxLen w n 0 3 (by unfold maxLen; omega)
    generalize grownCap w n 0 3 = g at HR hge hle
    clear hi hz0 hz1 hz2
    go_enter Try.func98, Try.ntmps98
    go_wp2_with (at_builtin; refine Lib.wpList_append_run _ rfl _ _ _ _ rfl _ _ rfl rfl _ _ HR.out ?_)
    go_ret
    refine ⟨_, rfl, ?_, ?_⟩
    · refine World.ownsRow_made (base := w.heap.size) w.drew _ g (Nat.le_refl _) hle ?_
      simp [size_zeroCells]
      try omega
    · exact ((Below.refl w.heap.size w).drew).alloc (Nat.le_refl _) _

set_option maxHeartbeats 2000000 in
theorem concati_any {w : World} {b m : Nat} {A : Nat → Option Addr} {n c : Nat → Nat} {X : Nat → List Value} (h : PiecesC w 1 b m A n c X) (hm : m ≤ 3) (hs : sumN n m ≤ 3000) :
    Calls Try.prog 94 #[.slice (some ⟨b, 0, none⟩) m m] w (ClonedR w 3 1 (sumN n m) (catV X m)) := by
  have H := Lib.hid h
  have HS := Lib.hid hs
  clear h hs
  go_enter Try.func94, Try.ntmps94
  go_wp2
  go_loop [3, 11] (fun s i => ∃ j : Nat, j ≤ m ∧ i = .int .i64 j ∧ s = .int .i64 (sumN n j : Nat)) (fun _ i => m - (intOf i).toNat)
  case atStart => exact ⟨0, Nat.zero_le _, rfl, rfl⟩
  case round =>
    obtain ⟨j, hj, rfl, rfl⟩ := hrel
    by_cases hlt : j < m
    · obtain ⟨k0, _⟩ := H.out.2 j hlt
      have hle : sumN n j + n j ≤ 3000 := Nat.le_trans (sum_mono n (show j + 1 ≤ m from hlt)) HS.out
      have hsm : sumN n (j + 1) = sumN n j + n j := rfl
      have HSM := Lib.hid hsm
      clear hsm
      go_wp2
      go_round
      case rel => exact ⟨j + 1, by omega, by go_num, by rw [HSM.out]; go_num⟩
      case measure => simp [intOf]; omega
    · obtain rfl : j = m := by omega
      have HG := growi_nil (w := w) (sumN n j) HS.out
      have hsl := HS.out
      go_wp2_with fail
      refine HG.mono ?_
      rintro e w1 ⟨v, rfl, hown, hb⟩
      have HO := Lib.hid hown
      have HB := Lib.hid hb
      clear hown hb HG
      go_wp2
      go_loopw [6, 27] (fun v i wr => ∃ t : Nat, t ≤ j ∧ i = .int .i64 t ∧ CatInvC w 3 1 X (sumN n t) t v wr) (fun _ i _ => j - (intOf i).toNat)
      case atStart => exact ⟨0, Nat.zero_le _, rfl, HO.out, HB.out⟩
      case round =>
        obtain ⟨t, ht, rfl, hown, hb⟩ := hrel
        have HO2 := Lib.hid hown
        have HB2 := Lib.hid hb
        clear hown hb
        by_cases htl : t < j
        · obtain ⟨k0, hp⟩ := H.out.2 t htl
          have k1 : wr.cell? ⟨b, t, none⟩ = some (.slice (A t) (n t) (c t)) := (HB2.out.cell (p := ⟨b, t, none⟩) H.out.1).trans k0
          have HP := Lib.hid hp
          have hle : sumN n t + n t ≤ 3000 := Nat.le_trans (sum_mono n (show t + 1 ≤ j from htl)) HS.out
          clear k0 hp
          go_wp2_with (at_builtin; refine wpList_append_srci rfl _ _ rfl w.heap.size _ (sumN n t) (catV X t) rfl HO2.out (A t) (n t) (c t) (X t) rfl HP.out HB2.out hle HB2.out.size ?_)
          intro v' w2 hown hg
          have HB3 := Lib.hid (own_below HB2.out HO2.out hg)
          have HO3 := Lib.hid hown
          clear hown hg
          go_wp2
          go_roundw
          case rel => exact ⟨t + 1, by omega, by go_num, HO3.out, HB3.out⟩
          case measure => simp [intOf]; omega
        · obtain rfl : t = j := by omega
          go_wp2
          go_ret
          exact ⟨_, rfl, HO2.out, HB2.out⟩
end Go.Proofs.Ythbmchkbebneiaa

namespace Go.Proofs.Ythbmchkbebneiaa
open Go.RowKit
set_option linter.unusedVariables false
set_option maxRecDepth 100000

theorem zerok (w : World) : (zeroValue 29).run Try.prog w = .ok (.slice none 0 0) w := by kernel_rfl
set_option maxHeartbeats 4000000 in
theorem delk_any {w : World} {N b n c i : Nat} {cs : List Value} (h : w.ownsRow N 29 1 (.slice (some ⟨b, 0, none⟩) n c) n cs) (hn : n ≤ 1000) (hi : i < n) (h1c : ∀ v ∈ cs, v.oneCell' = true) :
    Calls Try.prog 87 #[.slice (some ⟨b, 0, none⟩) n c, .int .i64 i, .int .i64 (i + 1 : Nat)] w (Cutd w N b 29 (n - 1) c (cs.take i ++ cs.drop (i + 1))) := by
  obtain ⟨i0, hi0, hz0, hz1, hz2⟩ := info_parts Try.infoKey
  have hnc := (own_caps h).1
  have hcm := (own_caps h).2.1
  have hcl := h.1
  obtain ⟨cur, hcur, hcs⟩ : ∃ cur, w.heap[b]? = some (.cells cur 29 (0, 0)) ∧ cur.size = c := by
    rcases h.2 with ⟨e, _⟩ | ⟨g, cap, cur, e, _, hg, _, _, hs, _⟩
    · cases e
    · injection e with e1 e2 e3
      injection e1 with e1
      injection e1 with e1
      subst e1
      subst e3
      exact ⟨cur, hg, by omega⟩
  have hNb : N ≤ b := (h.lt b rfl).1
  have hbl : b < w.heap.size := (h.lt b rfl).2
  have hfz : ∀ j, w.frozen? ⟨b, j, none⟩ = false := fun j => h.frozenAt j
  have hsp : ∀ j, j < n → (w.cell? ⟨b, j, none⟩).isSome = true := fun j hj => by
    simp [World.cell?, hcur]
    omega
  have hlen : (cs.drop (i + 1)).length = n - (i + 1) := by rw [List.length_drop]; omega
  obtain ⟨A, hA, hsrc⟩ : ∃ A : Addr, (if c = i + 1 then some (⟨b, 0, none⟩ : Addr) else some ⟨b, i + 1, none⟩) = some A ∧ Hid (∀ t u, (cs.drop (i + 1))[t]? = some u → w.drew.cell? (A.add t) = some u) := by
    by_cases h' : c = i + 1
    · refine ⟨⟨b, 0, none⟩, by simp [h'], fun t u hu => ?_⟩
      have h0 : (cs.drop (i + 1)).length = 0 := by rw [hlen]; omega
      rw [List.length_eq_zero_iff.1 h0] at hu
      simp at hu
    · refine ⟨⟨b, i + 1, none⟩, by simp [h'], fun t u hu => ?_⟩
      rw [List.getElem?_drop] at hu
      rw [Addr.add_lit]
      exact (h.cellAt (i + 1 + t) (by have := (List.getElem?_eq_some_iff.1 hu).1; omega)).trans hu
  obtain ⟨news, hnews⟩ : ∃ news, news = cs.drop (i + 1) := ⟨_, rfl⟩
  rw [← hnews] at hlen hsrc
  have s1 : Hid (news.length = (n - (i + 1)) * 1) := Lib.hid (by rw [Nat.mul_one]; exact hlen)
  have s2 : Hid (∀ u ∈ news, u.oneCell' = true) := Lib.hid fun u hu => h1c u (by rw [hnews] at hu; exact List.mem_of_mem_drop hu)
  have s3 : Hid (∀ t, t < news.length → (w.drew.cell? ⟨b, 0 + i * 1 + t, none⟩).isSome = true ∧ w.drew.frozen? ⟨b, 0 + i * 1 + t, none⟩ = false) := Lib.hid fun t ht => by
    rw [hlen] at ht
    exact ⟨hsp _ (by omega), hfz _⟩
  obtain ⟨W1, hW1⟩ : ∃ W1, W1 = w.drew.setCells b (0 + i * 1) news := ⟨_, rfl⟩
  have hsp1 : ∀ k, k < n → (W1.cell? ⟨b, k, none⟩).isSome = true := fun k hk => by
    rw [hW1]
    exact isSome_setCells b news (0 + i * 1) w.drew (fun j hj => hsp _ (by omega)) k (hsp k hk)
  have hfz1 : ∀ k, W1.frozen? ⟨b, k, none⟩ = false := fun k => by rw [hW1, World.frozen?_setCells]; exact hfz _
  have hcl2 : ∀ ty, (Builtin.clear_ #[72] ty #[.slice (some ⟨b, 0 + (n - 1), none⟩) (n - (n - 1)) (c - (n - 1))]).run Try.prog W1 = .ok (.tuple #[]) (W1.setCells b (0 + (n - 1)) (List.replicate (n - (n - 1)) (.slice none 0 0))) :=
    fun ty => Lib.run_clear_slice W1 _ _ ty _ Try.underlying72 zerok rfl rfl b (0 + (n - 1)) _ _ (by omega) (fun t ht => hsp1 _ (by omega)) (fun t ht => hfz1 _)
  have hfin : (W1.setCells b (0 + (n - 1)) (List.replicate (n - (n - 1)) (.slice none 0 0))).ownsRow N 29 1 (.slice (some ⟨b, 0, none⟩) (n - 1) c) (n - 1) (cs.take i ++ news) := by
    obtain ⟨cur1, q1, q2⟩ := obj_setCells news (0 + i * 1) w.drew cur hcur
    rw [← hW1] at q1
    obtain ⟨cur2, q3, q4⟩ := obj_setCells (List.replicate (n - (n - 1)) (.slice none 0 0)) (0 + (n - 1)) W1 cur1 q1
    refine own_of_cells q3 hNb (by omega) hcm (by omega) (by rw [List.length_append, List.length_take]; omega) fun j hj => ?_
    rw [World.cell?_setCells_out b _ _ _ _ (fun _ _ => .inl (by show j < 0 + (n - 1); omega)), hW1]
    by_cases e1 : j < i
    · rw [List.getElem?_append_left (by rw [List.length_take]; omega), List.getElem?_take, if_pos e1, World.cell?_setCells_out b _ _ _ _ (fun _ _ => .inl (by show j < 0 + i * 1; omega))]
      exact h.cellAt j (by omega)
    · rw [List.getElem?_append_right (by rw [List.length_take]; omega), List.length_take, show j - min i cs.length = j - i by omega]
      have := World.cell?_setCells_in b news (0 + i * 1) w.drew (fun t ht => hsp _ (by omega)) (j - i) (by omega)
      rw [show 0 + i * 1 + (j - i) = j by omega] at this
      rw [this, List.getElem?_eq_getElem]
  have hgr : w.grownBy (W1.setCells b (0 + (n - 1)) (List.replicate (n - (n - 1)) (.slice none 0 0))) (some b) := by
    rw [hW1]
    exact grown_setCells _ _ (grown_setCells _ _ (w' := w.drew) ⟨rfl, rfl, rfl, Nat.le_refl _, fun _ _ _ => rfl⟩)
  rw [← hnews]
  have HF := Lib.hid (And.intro hfin hgr)
  have HW := Lib.hid hW1
  have HA := Lib.hid hA
  obtain ⟨n1, rfl⟩ : ∃ n1, n = n1 + 1 := ⟨n - 1, by omega⟩
  have hmin : n1 + 1 - 1 = n1 := by omega
  rw [hmin, Nat.zero_add, show n1 + 1 - n1 = 1 by omega] at hcl2 HF
  rw [hmin]
  have mixed : Try.prog.follows .mixedOrders = true := by kernel_rfl
  unfold maxLen at hcm
  have hic : i ≤ c := by omega
  have hjc : i + 1 ≤ c := by omega
  have hne : ¬ ((i : Int) = (i : Int) + 1) := by omega
  have hsum : i + (n1 - i) = n1 := by omega
  have s4 : Hid (news.length = (n1 - i) * 1) := Lib.hid (by have := s1.out; omega)
  have hb1 : (0 : Int) ≤ (i : Int) + 1 := by omega
  have hb2 : i ≤ n1 := by omega
  have hn1c : n1 ≤ c := by omega
  clear hfin hgr hW1 hsp hfz hsp1 hfz1 hcur h h1c hlen hnews hcl hA
  go_enter Try.func87, Try.ntmps87
  go_wp2_with fail
  have hAs : (if c = i + 1 then some (⟨b, 0, none⟩ : Addr) else some ⟨b, i + 1, none⟩) = some A := HA.out
  go_region_law_o (refine step_append_room rfl (.tmp 22) (.tmp 25) 72 rfl 29 i0 1 Try.underlying72 hi0 hz1 b 0 i c (by simp [Act.eval, Act.put]) A (n1 - i) (c - (i + 1)) news (by simp [Act.eval, Act.put]) s4.out hsrc.out s2.out (by omega) s3.out ?_; rw [← HW.out])
  go_wp2
  go_ret
  exact ⟨rfl, HF.out.1, HF.out.2⟩

theorem zeroi (w : World) : (zeroValue 3).run Try.prog w = .ok (.int .i64 0) w := by kernel_rfl
set_option maxHeartbeats 4000000 in
theorem deli_any {w : World} {N b n c i : Nat} {cs : List Value} (h : w.ownsRow N 3 1 (.slice (some ⟨b, 0, none⟩) n c) n cs) (hn : n ≤ 1000) (hi : i < n) (h1c : ∀ v ∈ cs, v.oneCell' = true) :
    Calls Try.prog 88 #[.slice (some ⟨b, 0, none⟩) n c, .int .i64 i, .int .i64 (i + 1 : Nat)] w (Cutd w N b 3 (n - 1) c (cs.take i ++ cs.drop (i + 1))) := by
  obtain ⟨i0, hi0, hz0, hz1, hz2⟩ := info_parts Try.infoInt
  have hnc := (own_caps h).1
  have hcm := (own_caps h).2.1
  have hcl := h.1
  obtain ⟨cur, hcur, hcs⟩ : ∃ cur, w.heap[b]? = some (.cells cur 3 (0, 0)) ∧ cur.size = c := by
    rcases h.2 with ⟨e, _⟩ | ⟨g, cap, cur, e, _, hg, _, _, hs, _⟩
    · cases e
    · injection e with e1 e2 e3
      injection e1 with e1
      injection e1 with e1
      subst e1
      subst e3
      exact ⟨cur, hg, by omega⟩
  have hNb : N ≤ b := (h.lt b rfl).1
  have hbl : b < w.heap.size := (h.lt b rfl).2
  have hfz : ∀ j, w.frozen? ⟨b, j, none⟩ = false := fun j => h.frozenAt j
  have hsp : ∀ j, j < n → (w.cell? ⟨b, j, none⟩).isSome = true := fun j hj => by
    simp [World.cell?, hcur]
    omega
  have hlen : (cs.drop (i + 1)).length = n - (i + 1) := by rw [List.length_drop]; omega
  obtain ⟨A, hA, hsrc⟩ : ∃ A : Addr, (if c = i + 1 then some (⟨b, 0, none⟩ : Addr) else some ⟨b, i + 1, none⟩) = some A ∧ Hid (∀ t u, (cs.drop (i + 1))[t]? = some u → w.drew.cell? (A.add t) = some u) := by
    by_cases h' : c = i + 1
    · refine ⟨⟨b, 0, none⟩, by simp [h'], fun t u hu => ?_⟩
      have h0 : (cs.drop (i + 1)).length = 0 := by rw [hlen]; omega
      rw [List.length_eq_zero_iff.1 h0] at hu
      simp at hu
    · refine ⟨⟨b, i + 1, none⟩, by simp [h'], fun t u hu => ?_⟩
      rw [List.getElem?_drop] at hu
      rw [Addr.add_lit]
      exact (h.cellAt (i + 1 + t) (by have := (List.getElem?_eq_some_iff.1 hu).1; omega)).trans hu
  obtain ⟨news, hnews⟩ : ∃ news, news = cs.drop (i + 1) := ⟨_, rfl⟩
  rw [← hnews] at hlen hsrc
  have s1 : Hid (news.length = (n - (i + 1)) * 1) := Lib.hid (by rw [Nat.mul_one]; exact hlen)
  have s2 : Hid (∀ u ∈ news, u.oneCell' = true) := Lib.hid fun u hu => h1c u (by rw [hnews] at hu; exact List.mem_of_mem_drop hu)
  have s3 : Hid (∀ t, t < news.length → (w.drew.cell? ⟨b, 0 + i * 1 + t, none⟩).isSome = true ∧ w.drew.frozen? ⟨b, 0 + i * 1 + t, none⟩ = false) := Lib.hid fun t ht => by
    rw [hlen] at ht
    exact ⟨hsp _ (by omega), hfz _⟩
  obtain ⟨W1, hW1⟩ : ∃ W1, W1 = w.drew.setCells b (0 + i * 1) news := ⟨_, rfl⟩
  have hsp1 : ∀ k, k < n → (W1.cell? ⟨b, k, none⟩).isSome = true := fun k hk => by
    rw [hW1]
    exact isSome_setCells b news (0 + i * 1) w.drew (fun j hj => hsp _ (by omega)) k (hsp k hk)
  have hfz1 : ∀ k, W1.frozen? ⟨b, k, none⟩ = false := fun k => by rw [hW1, World.frozen?_setCells]; exact hfz _
  have hcl2 : ∀ ty, (Builtin.clear_ #[47] ty #[.slice (some ⟨b, 0 + (n - 1), none⟩) (n - (n - 1)) (c - (n - 1))]).run Try.prog W1 = .ok (.tuple #[]) (W1.setCells b (0 + (n - 1)) (List.replicate (n - (n - 1)) (.int .i64 0))) :=
    fun ty => Lib.run_clear_slice W1 _ _ ty _ Try.underlying47 zeroi rfl rfl b (0 + (n - 1)) _ _ (by omega) (fun t ht => hsp1 _ (by omega)) (fun t ht => hfz1 _)
  have hfin : (W1.setCells b (0 + (n - 1)) (List.replicate (n - (n - 1)) (.int .i64 0))).ownsRow N 3 1 (.slice (some ⟨b, 0, none⟩) (n - 1) c) (n - 1) (cs.take i ++ news) := by
    obtain ⟨cur1, q1, q2⟩ := obj_setCells news (0 + i * 1) w.drew cur hcur
    rw [← hW1] at q1
    obtain ⟨cur2, q3, q4⟩ := obj_setCells (List.replicate (n - (n - 1)) (.int .i64 0)) (0 + (n - 1)) W1 cur1 q1
    refine own_of_cells q3 hNb (by omega) hcm (by omega) (by rw [List.length_append, List.length_take]; omega) fun j hj => ?_
    rw [World.cell?_setCells_out b _ _ _ _ (fun _ _ => .inl (by show j < 0 + (n - 1); omega)), hW1]
    by_cases e1 : j < i
    · rw [List.getElem?_append_left (by rw [List.length_take]; omega), List.getElem?_take, if_pos e1, World.cell?_setCells_out b _ _ _ _ (fun _ _ => .inl (by show j < 0 + i * 1; omega))]
      exact h.cellAt j (by omega)
    · rw [List.getElem?_append_right (by rw [List.length_take]; omega), List.length_take, show j - min i cs.length = j - i by omega]
      have := World.cell?_setCells_in b news (0 + i * 1) w.drew (fun t ht => hsp _ (by omega)) (j - i) (by omega)
      rw [show 0 + i * 1 + (j - i) = j by omega] at this
      rw [this, List.getElem?_eq_getElem]
  have hgr : w.grownBy (W1.setCells b (0 + (n - 1)) (List.replicate (n - (n - 1)) (.int .i64 0))) (some b) := by
    rw [hW1]
    exact grown_setCells _ _ (grown_setCells _ _ (w' := w.drew) ⟨rfl, rfl, rfl, Nat.le_refl _, fun _ _ _ => rfl⟩)
  rw [← hnews]
  have HF := Lib.hid (And.intro hfin hgr)
  have HW := Lib.hid hW1
  have HA := Lib.hid hA
  obtain ⟨n1, rfl⟩ : ∃ n1, n = n1 + 1 := ⟨n - 1, by omega⟩
  have hmin : n1 + 1 - 1 = n1 := by omega
  rw [hmin, Nat.zero_add, show n1 + 1 - n1 = 1 by omega] at hcl2 HF
  rw [hmin]
  have mixed : Try.prog.follows .mixedOrders = true := by kernel_rfl
  unfold maxLen at hcm
  have hic : i ≤ c := by omega
  have hjc : i + 1 ≤ c := by omega
  have hne : ¬ ((i : Int) = (i : Int) + 1) := by omega
  have hsum : i + (n1 - i) = n1 := by omega
  have s4 : Hid (news.length = (n1 - i) * 1) := Lib.hid (by have := s1.out; omega)
  have hb1 : (0 : Int) ≤ (i : Int) + 1 := by omega
  have hb2 : i ≤ n1 := by omega
  have hn1c : n1 ≤ c := by omega
  clear hfin hgr hW1 hsp hfz hsp1 hfz1 hcur h h1c hlen hnews hcl hA
  go_enter Try.func88, Try.ntmps88
  go_wp2_with fail
  have hAs : (if c = i + 1 then some (⟨b, 0, none⟩ : Addr) else some ⟨b, i + 1, none⟩) = some A := HA.out
  go_region_law_o (refine step_append_room rfl (.tmp 22) (.tmp 25) 47 rfl 3 i0 1 Try.underlying47 hi0 hz1 b 0 i c (by simp [Act.eval, Act.put]) A (n1 - i) (c - (i + 1)) news (by simp [Act.eval, Act.put]) s4.out hsrc.out s2.out (by omega) s3.out ?_; rw [← HW.out])
  go_wp2
  go_ret
  exact ⟨rfl, HF.out.1, HF.out.2⟩
end Go.Proofs.Ythbmchkbebneiaa

namespace Go.Proofs.Ythbmchkbebneiaa
open Go.RowKit
set_option linter.unusedVariables false
set_option maxRecDepth 100000

/-- Two nodes as one; the key that stands between them is one of its own, if they aren't leaves. -/
def joinNd (x : Nd) (s : Ky) (y : Nd) : Nd := if x.leaf then ⟨true, x.pairs ++ y.pairs, [], [], y.next⟩ else ⟨false, [], x.keys ++ s :: y.keys, x.kids ++ y.kids, 0⟩

theorem prs_val_on {C : Nat → Prop} {w : World} {A : Option Addr} {n c : Nat} {L : List Pr} (h : On C w (Prs · A n c L)) {j : Nat} (hj : j < n) :
    ∃ b o FA fn fc, A = some ⟨b, o, none⟩ ∧ b < w.heap.size ∧ w.cell? ⟨b, o + j * 2 + 1, none⟩ = some (.slice FA fn fc) ∧ On C w (Byt · FA fn (gt L j).2) := by
  obtain ⟨b, o, e, hb, A1, n1, c1, B1, m1, d1, k0, k1, y1, y2⟩ := h.here.at_ hj
  have hC : C b := block_in (C := C) (w := w) (b := b) (o := o + j * 2) fun w' ha => by
    obtain ⟨b', o', e', hb', A2, n2, c2, B2, m2, d2, q0, q1, z1, z2⟩ := (h w' ha).at_ hj
    rw [e] at e'
    injection e' with e'
    injection e' with e1 e2
    subst e1
    subst e2
    exact ⟨A2, n2, c2, q0⟩
  refine ⟨b, o, B1, m1, d1, e, hb, k1, fun w' ha => ?_⟩
  obtain ⟨b', o', e', hb', A2, n2, c2, B2, m2, d2, q0, q1, z1, z2⟩ := (h w' ha).at_ hj
  rw [e] at e'
  injection e' with e'
  injection e' with e1 e2
  subst e1
  subst e2
  rw [World.cell?_of_block (w := w) (a := ⟨b, o + j * 2 + 1, none⟩) (ha.2 b hC hb), k1] at q1
  injection q1 with q1
  injection q1 with q1 q2 q3
  rw [q1, q2]
  exact z2
theorem prs_src {C : Nat → Prop} {w : World} {A : Option Addr} {n c : Nat} {L : List Pr} (h : On C w (Prs · A n c L)) : ∃ xs, Src w 2 A n c xs ∧ ReadsC (fun _ => C) w xs L := by
  obtain ⟨xs, h1, h2, h3⟩ := h.here.cells
  have hl : L.length = n := h.here.1
  refine ⟨xs, ⟨h2, h.here.2.1, h.here.2.2.2.1, h3, h1.one⟩, by omega, fun j hj => ?_⟩
  obtain ⟨b, o, FA, fn, fc, hA, hb, hc, hon⟩ := prs_key_on h (j := j) (by omega)
  obtain ⟨b', o', GA, gn, gc, hA', hb', hc', hon'⟩ := prs_val_on h (j := j) (by omega)
  rw [hA] at hA'
  injection hA' with hA'
  injection hA' with e1 e2
  subst e1
  subst e2
  have g0 : j * 2 < xs.length := by omega
  have g1 : j * 2 + 1 < xs.length := by omega
  have k0 := h3 _ hA (j * 2) _ (List.getElem?_eq_getElem g0)
  have k1 := h3 _ hA (j * 2 + 1) _ (List.getElem?_eq_getElem g1)
  rw [add_lit, hc] at k0
  rw [add_lit, ← Nat.add_assoc, hc'] at k1
  injection k0 with k0
  injection k1 with k1
  exact ⟨FA, fn, fc, GA, gn, gc, by rw [List.getElem?_eq_getElem g0, k0], by rw [List.getElem?_eq_getElem g1, k1], hon, hon'⟩
theorem kys_src {C : Nat → Prop} {w : World} {A : Option Addr} {n c : Nat} {L : List Ky} (h : On C w (Kys · A n c L)) : ∃ xs, Src w 1 A n c xs ∧ KReads (fun _ => C) w xs L := by
  obtain ⟨xs, h1, h2, h3⟩ := h.here.cells
  have hl : L.length = n := h.here.1
  refine ⟨xs, ⟨by omega, h.here.2.1, h.here.2.2.2.1, h3, fun u hu => ?_⟩, by omega, fun j hj => ?_⟩
  · obtain ⟨j, hj, rfl⟩ := List.getElem_of_mem hu
    obtain ⟨B, m, d, e1, _⟩ := h2 j (by omega)
    rw [List.getElem?_eq_getElem hj] at e1
    injection e1 with e1
    rw [e1]
    rfl
  · obtain ⟨b, o, FA, fn, fc, hA, hb, hc, hon⟩ := kys_key_on h (j := j) (by omega)
    have g0 : j < xs.length := by omega
    have k0 := h3 _ hA j _ (List.getElem?_eq_getElem g0)
    rw [add_lit, hc] at k0
    injection k0 with k0
    exact ⟨FA, fn, fc, by rw [List.getElem?_eq_getElem g0, k0], hon⟩
theorem ins_src {w : World} {A : Option Addr} {n c : Nat} {L : List Int} (h : Ins w A n c L) : Src w 1 A n c (L.map intV) := by
  obtain ⟨h1, h2⟩ := h.cells
  exact ⟨by omega, h.2.1, h.2.2.2.1, h2, fun u hu => by obtain ⟨z, _, rfl⟩ := List.mem_map.1 hu; rfl⟩
theorem kat_app (L M : List Ky) (j : Nat) : kat (L ++ M) j = if j < L.length then kat L j else kat M (j - L.length) := by
  unfold kat
  simp only [List.getD_eq_getElem?_getD]
  by_cases h : j < L.length
  · rw [if_pos h, List.getElem?_append_left h]
  · rw [if_neg h, List.getElem?_append_right (by omega)]
theorem kreads_app {D : Nat → Prop} {w : World} {xs ys : List Value} {L M : List Ky} (h : KReads (fun _ => D) w xs L) (h' : KReads (fun _ => D) w ys M) : KReads (fun _ => D) w (xs ++ ys) (L ++ M) := by
  have e1 := h.1
  have e2 := h'.1
  refine ⟨by simp [e1, e2], fun j hj => ?_⟩
  rw [kat_app]
  by_cases hl : j < L.length
  · rw [if_pos hl, List.getElem?_append_left (by omega)]
    exact h.2 j hl
  · rw [if_neg hl, List.getElem?_append_right (by omega), e1]
    exact h'.2 (j - L.length) (by simp at hj; omega)
theorem kreads_one1 {D : Nat → Prop} {w : World} {A : Option Addr} {n : Nat} (c : Nat) {s : Ky} (h : On D w (Byt · A n s)) : KReads (fun _ => D) w [.slice A n c] [s] := by
  refine ⟨rfl, fun j hj => ?_⟩
  have : j = 0 := by simp at hj; omega
  subst this
  exact ⟨A, n, c, rfl, h⟩
theorem reads_app {D : Nat → Prop} {w : World} {xs ys : List Value} {L M : List Pr} (h : ReadsC (fun _ => D) w xs L) (h' : ReadsC (fun _ => D) w ys M) : ReadsC (fun _ => D) w (xs ++ ys) (L ++ M) := by
  have e1 := h.1
  have e2 := h'.1
  refine ⟨by simp [e1, e2]; omega, fun j hj => ?_⟩
  by_cases hl : j < L.length
  · rw [gt_left hl, List.getElem?_append_left (by omega), List.getElem?_append_left (by omega)]
    exact h.2 j hl
  · rw [gt_right (by omega), List.getElem?_append_right (by omega), List.getElem?_append_right (by omega), e1]
    obtain ⟨A, n, c, B, m, d, q1, q2, q3, q4⟩ := h'.2 (j - L.length) (by simp at hj; omega)
    refine ⟨A, n, c, B, m, d, ?_, ?_, q3, q4⟩
    · rw [← q1]; congr 1; omega
    · rw [← q2]; congr 1; omega

/-- What joined leaves. -/
def Joined (w : World) (C : Nat → Prop) (x : Nd) (e : Ending) (w' : World) : Prop :=
  ∃ h, e = .returned (ndV h x) ∧ On (fun b => C b ∨ w.heap.size ≤ b) w' (NdR · h x) ∧ Below w.heap.size w w'

theorem three_new (w : World) (o1 o2 o3 : Obj) : ∃ W, W = ((w.alloc o1).alloc o2).alloc o3 ∧ Below w.heap.size w W ∧ W.heap.size = w.heap.size + 1 + 1 + 1 ∧ W.heap[w.heap.size]? = some o1 ∧ W.heap[w.heap.size + 1]? = some o2 ∧ W.heap[w.heap.size + 1 + 1]? = some o3 := by
  obtain ⟨W, hW, hB, hs, h1, h2⟩ := two_new w o1 o2
  have hb : Below W.heap.size W (W.alloc o3) := (Below.refl _ W).alloc (Nat.le_refl _) _
  refine ⟨W.alloc o3, by rw [hW], hB.alloc hB.size _, by simp [hs], (hb.block _ (by omega)).trans h1, (hb.block _ (by omega)).trans h2, ?_⟩
  have := heap_alloc_new W o3
  rw [hs] at this
  exact this
def two {α : Type} (a b : α) (j : Nat) : α := if j = 0 then a else b
def tri {α : Type} (a b c : α) (j : Nat) : α := if j = 0 then a else if j = 1 then b else c

set_option maxHeartbeats 4000000 in
theorem joined_leaf {w : World} {C : Nat → Prop} {h g : Nh} {x y : Nd} {FA : Option Addr} {fn : Nat} (fc : Nat) {s : Ky} (hC : ∀ b, C b → b < w.heap.size) (hr : On C w (NdR · h x)) (hr' : On C w (NdR · g y)) (hl : x.leaf = true) (hn : x.pairs.length ≤ 1000) (hm : y.pairs.length ≤ 1000) :
    Calls Try.prog 86 #[ndV h x, .slice FA fn fc, ndV g y] w (Joined w C (joinNd x s y)) := by
  have hj : joinNd x s y = ⟨true, x.pairs ++ y.pairs, [], [], y.next⟩ := by unfold joinNd; rw [if_pos hl]
  obtain ⟨xs, s1, r1⟩ := prs_src (hr.imp fun v hv => hv.1)
  obtain ⟨ys, s2, r2⟩ := prs_src (hr'.imp fun v hv => hv.1)
  have hxn : x.pairs.length = h.n := hr.here.1.1
  have hyn : y.pairs.length = g.n := hr'.here.1.1
  have W0 := Lib.hid (three_new w (.cells #[.bool true, .slice h.A h.n h.c, .slice h.B h.m h.d, .slice h.K h.k h.e, .int .i64 x.next] 74) (.cells #[.bool y.leaf, .slice g.A g.n g.c, .slice g.B g.m g.d, .slice g.K g.k g.e, .int .i64 y.next] 74) (.cells #[.bool false, .slice none 0 0, .slice none 0 0, .slice none 0 0, .int .i64 0] 74))
  have S1 := Lib.hid s1
  have S2 := Lib.hid s2
  have R1 := Lib.hid r1
  have R2 := Lib.hid r2
  have HN := Lib.hid (show h.n ≤ 1000 ∧ g.n ≤ 1000 by omega)
  have HC := Lib.hid hC
  rw [hj]
  clear hr hr' hn hm hxn hyn s1 s2 r1 r2 hj hC
  go_enter Try.func86, Try.ntmps86
  go_wp2_with fail
  obtain ⟨W, hW, hWB, hWs, h0, h1, h2⟩ := W0.out
  rw [← hW]
  have HX := Lib.hid (And.intro h0 (And.intro h1 h2))
  have HWB := Lib.hid hWB
  have HWS := Lib.hid hWs
  clear hW W0 hWB h0 h1 h2
  obtain ⟨V, hV, hVB, hVs, hVh⟩ : ∃ V, V = W.alloc (.cells #[.slice h.A h.n h.c, .slice g.A g.n g.c] 22) ∧ Below W.heap.size W V ∧ V.heap.size = W.heap.size + 1 ∧ V.heap[W.heap.size]? = some (.cells #[.slice h.A h.n h.c, .slice g.A g.n g.c] 22 (0, 0)) := ⟨_, rfl, (Below.refl _ _).alloc (Nat.le_refl _) _, by simp, heap_alloc_new W _⟩
  rw [← hV]
  have hbV : Below w.heap.size w V := HWB.out.trans (hVB.mono HWB.out.size)
  have HBV := Lib.hid hbV
  have hP : PiecesC V 2 W.heap.size 2 (two h.A g.A) (two h.n g.n) (two h.c g.c) (two xs ys) := by
    refine ⟨by omega, fun j hj => ?_⟩
    have : j = 0 ∨ j = 1 := by omega
    rcases this with rfl | rfl
    · exact ⟨by simp [World.cell?, hVh, two], S1.out.below hbV⟩
    · exact ⟨by simp [World.cell?, hVh, two], S2.out.below hbV⟩
  have hsum : sumN (two h.n g.n) 2 = h.n + g.n := by simp [sumN, two]
  have hcat : catV (two xs ys) 2 = xs ++ ys := by simp [catV, two]
  have HCC := concatp_any hP (by omega) (by have := HN.out; rw [hsum]; omega)
  rw [hsum, hcat, hWs] at HCC
  have HVS := Lib.hid hVs
  have HVB := Lib.hid hVB
  clear hV hVB hVh hbV hP hsum hcat hVs hWs
  (with_reducible refine HCC.mono ?_)
  rintro e w1 ⟨v, rfl, hown, hb1⟩
  have hb : Below W.heap.size W w1 := HVB.out.trans (hb1.mono HVB.out.size)
  obtain ⟨A, c, rfl, hN, -⟩ := own_new hown
  have HO := Lib.hid hown
  have HB := Lib.hid (HWB.out.trans (hb.mono HWB.out.size))
  have hs1 := hb.size
  obtain ⟨d0, d1, d2, d3, d4, -⟩ := five ((hb.block (w.heap.size + 1) (by have := HWS.out; omega)).trans HX.out.2.1)
  obtain ⟨k0, k1, k2, k3, k4, f0, f1, f2, f3, f4⟩ := five ((hb.block (w.heap.size + 1 + 1) (by have := HWS.out; omega)).trans HX.out.2.2)
  have HNW := Lib.hid (And.intro hN hs1)
  clear HCC hown hb1 hb hN hs1
  go_wp2_with fail
  refine bodyPost_ret (v := ndV ⟨A, h.n + g.n, c, none, 0, 0, none, 0, 0⟩ ⟨true, x.pairs ++ y.pairs, [], [], y.next⟩) (by simp [results, Try.results86, go_sem, k0, k1, k2, k3, k4]) rfl ⟨_, rfl, ?_, ?_⟩
  · have hp : On (fun b => C b ∨ w.heap.size + 1 + 1 + 1 ≤ b) w1 (Prs · A (h.n + g.n) c (x.pairs ++ y.pairs)) := by
      refine prs_on HO.out (((reads_app R1.out R2.out).keep (fun t => below_agree HB.out fun b hb hl => hl)).mono (fun t ht b hb => .inl hb)) fun a e => .inr ?_
      have := HNW.out.1 a e
      have := HWS.out
      have := HVS.out
      omega
    refine ((On.imp hp (fun v hv => ⟨hv, kys_nil v, ins_nil v⟩)).keep (five_agree w1 (b := w.heap.size + 1 + 1) 0 _ _ _ _ _ (fun hb => ?_))).mono (fun b hb => hb.imp id (fun h => by omega))
    rcases hb with hb | hb
    · have := HC.out _ hb; omega
    · omega
  · exact five_below HB.out (b := w.heap.size + 1 + 1) (by omega) 0 _ _ _ _ _
end Go.Proofs.Ythbmchkbebneiaa

namespace Go.Proofs.Ythbmchkbebneiaa
open Go.RowKit
set_option linter.unusedVariables false
set_option maxRecDepth 100000

/-- What a call that makes a row leaves, of two earlier worlds. -/
def MadeRow (W V : World) (E n : Nat) (xs : List Value) (e : Ending) (w' : World) : Prop :=
  ∃ A c, e = .returned (.slice A n c) ∧ w'.ownsRow W.heap.size E 1 (.slice A n c) n xs ∧ Below W.heap.size W w' ∧ Below V.heap.size V w'

set_option maxHeartbeats 8000000 in
theorem joined_node {w : World} {C : Nat → Prop} {h g : Nh} {x y : Nd} {FA : Option Addr} {fn : Nat} (fc : Nat) {s : Ky} (hC : ∀ b, C b → b < w.heap.size) (hr : On C w (NdR · h x)) (hr' : On C w (NdR · g y)) (hf : On C w (Byt · FA fn s)) (hl : x.leaf = false) (hn : x.keys.length ≤ 900) (hm : y.keys.length ≤ 900) (hn' : x.kids.length ≤ 1000) (hm' : y.kids.length ≤ 1000) :
    Calls Try.prog 86 #[ndV h x, .slice FA fn fc, ndV g y] w (Joined w C (joinNd x s y)) := by
  have hj : joinNd x s y = ⟨false, [], x.keys ++ s :: y.keys, x.kids ++ y.kids, 0⟩ := by unfold joinNd; rw [if_neg (by simp [hl])]
  obtain ⟨xs, s1, r1⟩ := kys_src (hr.imp fun v hv => hv.2.1)
  obtain ⟨ys, s2, r2⟩ := kys_src (hr'.imp fun v hv => hv.2.1)
  have i1 := ins_src hr.here.2.2
  have i2 := ins_src hr'.here.2.2
  have hxn : x.keys.length = h.m := hr.here.2.1.1
  have hyn : y.keys.length = g.m := hr'.here.2.1.1
  have hxk : x.kids.length = h.k := hr.here.2.2.1
  have hyk : y.kids.length = g.k := hr'.here.2.2.1
  have R1 := Lib.hid r1
  have R2 := Lib.hid r2
  have HF := Lib.hid hf
  have HN := Lib.hid (show h.m ≤ 900 ∧ g.m ≤ 900 ∧ h.k ≤ 1000 ∧ g.k ≤ 1000 by omega)
  have HC := Lib.hid hC
  have W0 := Lib.hid (three_new w (.cells #[.bool false, .slice h.A h.n h.c, .slice h.B h.m h.d, .slice h.K h.k h.e, .int .i64 x.next] 74) (.cells #[.bool y.leaf, .slice g.A g.n g.c, .slice g.B g.m g.d, .slice g.K g.k g.e, .int .i64 y.next] 74) (.cells #[.bool false, .slice none 0 0, .slice none 0 0, .slice none 0 0, .int .i64 0] 74))
  have HK : Hid (∀ (W V : World) (pb : Nat), Below w.heap.size w W → Below W.heap.size W V → (∃ sb, V.heap[pb]? = some (.cells #[.slice h.B h.m h.d, .slice (some ⟨sb, 0, none⟩) 1 1, .slice g.B g.m g.d] 72 (0, 0)) ∧ V.heap[sb]? = some (.cells #[.slice FA fn fc] 29 (0, 0))) →
      Calls Try.prog 93 #[.slice (some ⟨pb, 0, none⟩) 3 3] V (MadeRow W V 29 (h.m + 1 + g.m) (xs ++ [.slice FA fn fc] ++ ys))) := Lib.hid fun W V pb hW hV hb => by
    obtain ⟨sb, hp, hsb⟩ := hb
    have hwV : Below w.heap.size w V := hW.trans (hV.mono hW.size)
    have hP : PiecesC V 1 pb 3 (tri h.B (some ⟨sb, 0, none⟩) g.B) (tri h.m 1 g.m) (tri h.d 1 g.d) (tri xs [.slice FA fn fc] ys) := by
      refine ⟨(Array.getElem?_eq_some_iff.1 hp).1, fun j hj => ?_⟩
      have : j = 0 ∨ j = 1 ∨ j = 2 := by omega
      rcases this with rfl | rfl | rfl
      · exact ⟨by simp [World.cell?, hp, tri], s1.below hwV⟩
      · refine ⟨by simp [World.cell?, hp, tri], rfl, Nat.le_refl _, (fun e => by cases e), fun a e j u hu => ?_, fun u hu => by simp [tri] at hu; rw [hu]; rfl⟩
        have e : some (⟨sb, 0, none⟩ : Addr) = some a := e
        injection e with e
        subst e
        have hj0 : j = 0 := by have := (List.getElem?_eq_some_iff.1 hu).1; simp [tri] at this; omega
        subst hj0
        simp [tri] at hu
        subst hu
        simp [add_lit, World.cell?, hsb]
      · exact ⟨by simp [World.cell?, hp, tri], s2.below hwV⟩
    have hsum : sumN (tri h.m 1 g.m) 3 = h.m + 1 + g.m := by simp [sumN, tri]
    have hcat : catV (tri xs [.slice FA fn fc] ys) 3 = xs ++ [.slice FA fn fc] ++ ys := by simp [catV, tri]
    have HCC := concatk_any hP (by omega) (by have := HN.out; rw [hsum]; omega)
    rw [hsum, hcat] at HCC
    refine HCC.mono fun e w' ⟨v, h1, h2, h3⟩ => ?_
    obtain ⟨A, c, rfl, -⟩ := own_new h2
    exact ⟨A, c, h1, h2.mono hV.size, hV.trans (h3.mono hV.size), h3⟩
  have HI : Hid (∀ (W V : World) (pb : Nat), Below w.heap.size w W → Below W.heap.size W V → V.heap[pb]? = some (.cells #[.slice h.K h.k h.e, .slice g.K g.k g.e] 47 (0, 0)) →
      Calls Try.prog 94 #[.slice (some ⟨pb, 0, none⟩) 2 2] V (MadeRow W V 3 (h.k + g.k) ((x.kids ++ y.kids).map intV))) := Lib.hid fun W V pb hW hV hp => by
    have hwV : Below w.heap.size w V := hW.trans (hV.mono hW.size)
    have hP : PiecesC V 1 pb 2 (two h.K g.K) (two h.k g.k) (two h.e g.e) (two (x.kids.map intV) (y.kids.map intV)) := by
      refine ⟨(Array.getElem?_eq_some_iff.1 hp).1, fun j hj => ?_⟩
      have : j = 0 ∨ j = 1 := by omega
      rcases this with rfl | rfl
      · exact ⟨by simp [World.cell?, hp, two], i1.below hwV⟩
      · exact ⟨by simp [World.cell?, hp, two], i2.below hwV⟩
    have hsum : sumN (two h.k g.k) 2 = h.k + g.k := by simp [sumN, two]
    have hcat : catV (two (x.kids.map intV) (y.kids.map intV)) 2 = (x.kids ++ y.kids).map intV := by simp [catV, two]
    have HCC := concati_any hP (by omega) (by have := HN.out; rw [hsum]; omega)
    rw [hsum, hcat] at HCC
    refine HCC.mono fun e w' ⟨v, h1, h2, h3⟩ => ?_
    obtain ⟨A, c, rfl, -⟩ := own_new h2
    exact ⟨A, c, h1, h2.mono hV.size, hV.trans (h3.mono hV.size), h3⟩
  rw [hj]
  clear hr hr' hn hm hn' hm' hxn hyn hxk hyk s1 s2 r1 r2 i1 i2 hj hC hf
  go_enter Try.func86, Try.ntmps86
  go_wp2_with fail
  obtain ⟨W, hW, hWB, hWs, h0, h1, h2⟩ := W0.out
  rw [← hW]
  obtain ⟨b0, b1, b2, b3, b4, -⟩ := five h0
  obtain ⟨c0, c1, c2, c3, c4, -⟩ := five h1
  obtain ⟨d0, d1, d2, d3, d4, f0, f1, f2, f3, f4⟩ := five h2
  have HX := Lib.hid (And.intro h0 (And.intro h1 h2))
  have HWB := Lib.hid hWB
  have HWS := Lib.hid hWs
  have hl0 : w.heap.size < W.heap.size := by omega
  have hl1 : w.heap.size + 1 < W.heap.size := by omega
  have hl2 : w.heap.size + 1 + 1 < W.heap.size := by omega
  have HB2 := Lib.hid (fun o o' => ((((Below.refl W.heap.size W).alloc (Nat.le_refl _) o).alloc (by simp) o').drew))
  have HB3 := Lib.hid (fun o o' o'' => (((((Below.refl W.heap.size W).alloc (Nat.le_refl _) o).alloc (by simp) o').alloc (by simp; omega) o'').drew))
  have HH20 : Hid (∀ o o' : Obj, ((W.alloc o).alloc o').drew.heap[w.heap.size + 1 + 1 + 1]? = some o) := Lib.hid fun o o' => by
    rw [← hWs]; exact (Below.heap_alloc (W.alloc o) o' _ (by simp)).trans (heap_alloc_new W o)
  have HH21 : Hid (∀ o o' : Obj, ((W.alloc o).alloc o').drew.heap[w.heap.size + 1 + 1 + 1 + 1]? = some o') := Lib.hid fun o o' => by
    have := heap_alloc_new (W.alloc o) o'
    rw [alloc_sz, hWs] at this
    exact this
  have HH30 : Hid (∀ o o' o'' : Obj, (((W.alloc o).alloc o').alloc o'').drew.heap[w.heap.size + 1 + 1 + 1]? = some o) := Lib.hid fun o o' o'' => (Below.heap_alloc ((W.alloc o).alloc o') o'' _ (by simp; omega)).trans (HH20.out o o')
  have HH31 : Hid (∀ o o' o'' : Obj, (((W.alloc o).alloc o').alloc o'').drew.heap[w.heap.size + 1 + 1 + 1 + 1]? = some o') := Lib.hid fun o o' o'' => (Below.heap_alloc ((W.alloc o).alloc o') o'' _ (by simp; omega)).trans (HH21.out o o')
  have HH32 : Hid (∀ o o' o'' : Obj, (((W.alloc o).alloc o').alloc o'').drew.heap[w.heap.size + 1 + 1 + 1 + 1 + 1]? = some o'') := Lib.hid fun o o' o'' => by
    have := heap_alloc_new ((W.alloc o).alloc o') o''
    rw [alloc_sz, alloc_sz, hWs] at this
    exact this
  clear hW W0 hWB h0 h1 h2
  go_region_held3 (fun w' => w'.cell? ⟨w.heap.size, 2, none⟩ = some (.slice h.B h.m h.d) ∧ w'.cell? ⟨w.heap.size, 3, none⟩ = some (.slice h.K h.k h.e) ∧ w'.cell? ⟨w.heap.size + 1, 2, none⟩ = some (.slice g.B g.m g.d) ∧ w'.cell? ⟨w.heap.size + 1, 3, none⟩ = some (.slice g.K g.k g.e)) (first | (go_keep; done) | ((have hq1 : ¬ (w.heap.size = w.heap.size + 1 + 1) := by omega); (have hq2 : ¬ (w.heap.size + 1 + 1 = w.heap.size) := by omega); go_keep; done) | (with_reducible exact ⟨((HB3.out _ _ _).cell (p := ⟨w.heap.size, 2, none⟩) hl0).trans (five HX.out.1).2.2.1, ((HB3.out _ _ _).cell (p := ⟨w.heap.size, 3, none⟩) hl0).trans (five HX.out.1).2.2.2.1, ((HB3.out _ _ _).cell (p := ⟨w.heap.size + 1, 2, none⟩) hl1).trans (five HX.out.2.1).2.2.1, ((HB3.out _ _ _).cell (p := ⟨w.heap.size + 1, 3, none⟩) hl1).trans (five HX.out.2.1).2.2.2.1⟩))
    (first
      | (go_at_call 93
         (with_reducible refine (HK.out W _ _ HWB.out (by first | with_reducible exact HB2.out _ _ | with_reducible exact HB3.out _ _ _) (by first | with_reducible exact ⟨_, HH21.out _ _, HH20.out _ _⟩ | with_reducible exact ⟨_, HH32.out _ _ _, HH31.out _ _ _⟩ | with_reducible exact ⟨_, HH32.out _ _ _, HH30.out _ _ _⟩ | with_reducible exact ⟨_, HH31.out _ _ _, HH30.out _ _ _⟩)).mono ?_)
         rintro e w3 ⟨A3, p3, rfl, ho3, hb3, hv3⟩
         obtain ⟨-, -, b2, b3, -⟩ := five ((hb3.block w.heap.size hl0).trans HX.out.1)
         obtain ⟨-, -, c2, c3, -⟩ := five ((hb3.block (w.heap.size + 1) hl1).trans HX.out.2.1)
         obtain ⟨d0, d1, d2, d3, d4, f0, f1, f2, f3, f4⟩ := five ((hb3.block (w.heap.size + 1 + 1) hl2).trans HX.out.2.2)
         have HG3 := Lib.hid (And.intro ho3 (And.intro hb3 hv3))
         clear ho3 hb3 hv3)
      | (go_at_call 94
         (with_reducible refine (HI.out W _ _ HWB.out (by first | exact HG3.out.2.1 | exact HG3.out.2.1.alloc HG3.out.2.1.size _) (by first | with_reducible exact heap_alloc_new w3 _ | with_reducible exact (HG3.out.2.2.block _ (by simp; omega)).trans (HH30.out _ _ _) | with_reducible exact (HG3.out.2.2.block _ (by simp; omega)).trans (HH31.out _ _ _) | with_reducible exact (HG3.out.2.2.block _ (by simp; omega)).trans (HH32.out _ _ _))).mono ?_)
         rintro e w4 ⟨A4, p4, rfl, ho4, hb4, hv4⟩
         obtain ⟨-, -, b2, b3, -⟩ := five ((hb4.block w.heap.size hl0).trans HX.out.1)
         obtain ⟨-, -, c2, c3, -⟩ := five ((hb4.block (w.heap.size + 1) hl1).trans HX.out.2.1)
         obtain ⟨d0, d1, d2, d3, d4, f0, f1, f2, f3, f4⟩ := five ((hb4.block (w.heap.size + 1 + 1) hl2).trans HX.out.2.2)
         have HG4 := Lib.hid (show w4.ownsRow W.heap.size 3 1 (.slice A4 (h.k + g.k) p4) (h.k + g.k) ((x.kids ++ y.kids).map intV) ∧ Below W.heap.size W w4 ∧ Below w3.heap.size w3 w4 from ⟨ho4, hb4, by
           first
             | exact hv4
             | exact ((Below.refl _ w3).alloc (Nat.le_refl _) _).trans (hv4.mono (by simp))⟩)
         clear ho4 hb4 hv4))
  all_goals
    have hB4 : Below w.heap.size w w4 := HWB.out.trans (HG4.out.2.1.mono HWB.out.size)
    have hk4 : On (fun b => C b ∨ w.heap.size + 1 + 1 + 1 ≤ b) w4 (Kys · A3 (h.m + 1 + g.m) p3 (x.keys ++ [s] ++ y.keys)) := by
      refine kys_on (own_keep HG3.out.1 HG4.out.2.2) (((kreads_app (kreads_app R1.out (kreads_one1 fc HF.out)) R2.out).keep (fun t => below_agree hB4 fun b hb hl => hl)).mono (fun t ht b hb => .inl hb)) fun a e => .inr ?_
      have := (HG3.out.1.lt a.block (by rw [e]; rfl)).1
      have := HWS.out
      omega
    have hi4 : On (fun b => C b ∨ w.heap.size + 1 + 1 + 1 ≤ b) w4 (Ins · A4 (h.k + g.k) p4 (x.kids ++ y.kids)) := by
      refine ins_on HG4.out.1 fun a e => .inr ?_
      have := (HG4.out.1.lt a.block (by rw [e]; rfl)).1
      have := HWS.out
      omega
    have HK4 := Lib.hid (And.intro hk4 (And.intro hi4 hB4))
    clear hk4 hi4 hB4 HK HI HB2 HB3 HH20 HH21 HH30 HH31 HH32 HG3 HG4 R1 R2 HX b0 b1 b2 b3 b4 c0 c1 c2 c3 c4
    go_wp2
    refine bodyPost_ret (v := ndV ⟨none, 0, 0, A3, h.m + 1 + g.m, p3, A4, h.k + g.k, p4⟩ ⟨false, [], x.keys ++ s :: y.keys, x.kids ++ y.kids, 0⟩) (by simp [results, Try.results86, go_sem, d0, d1, d2, d3, d4]) rfl ⟨_, rfl, ?_, ?_⟩
    · refine ((On.imp (C := fun b => C b ∨ w.heap.size + 1 + 1 + 1 ≤ b) (P := fun v => Kys v A3 (h.m + 1 + g.m) p3 (x.keys ++ [s] ++ y.keys) ∧ Ins v A4 (h.k + g.k) p4 (x.kids ++ y.kids)) (fun v hv => ⟨HK4.out.1 v hv, HK4.out.2.1 v hv⟩) (fun v hv => (show NdR v ⟨none, 0, 0, A3, h.m + 1 + g.m, p3, A4, h.k + g.k, p4⟩ ⟨false, [], x.keys ++ s :: y.keys, x.kids ++ y.kids, 0⟩ from ⟨prs_nil v, by have := hv.1; simpa using this, hv.2⟩))).keep (five_agree w4 (b := w.heap.size + 1 + 1) 0 _ _ _ _ _ (fun hb => ?_))).mono (fun b hb => hb.imp id (fun h => by omega))
      rcases hb with hb | hb
      · have := HC.out _ hb; omega
      · omega
    · exact five_below HK4.out.2.2 (b := w.heap.size + 1 + 1) (by omega) 0 _ _ _ _ _
end Go.Proofs.Ythbmchkbebneiaa
