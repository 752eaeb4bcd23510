/- What ArenaOnce's walk goes by: the numbers that are used, the row that lists them, the deeds that came in. No condition. -/
import Derived.Test.YtbphjhmmdkaggaaNu
import Derived.StillTailTactics
namespace Go.Proofs.Ytbphjhmmdkaggaa
open Go.RowKit
set_option linter.unusedVariables false

/-- append of cells, none included, at a step of a region that draws its order. -/
theorem step_append_at {P : Program} (w : World) {ops : Array Oper} {o : Oper} {a : Act} {K : Act → World → Prop} {Q : Exit → Act → World → Prop} {E : Prop} (hgd : o.guard = none) (s x : Operand) (t : TypeId)
    (ho : o.op = .call { callee := .builtin .append, args := #[s, x], argTypes := #[t, t] })
    (base : Nat) (e : TypeId) (i : TypeInfo) (z : Value) (size bytes : Nat) (ht : P.underlying t = some (.slice e)) (hi : P.info? e = some i) (hz : i.zero = some z)
    (hsize : i.size = size) (hby : i.bytes = bytes) (hzs : z.cells.size = size) (hsz : 0 < size)
    (v : Value) (n : Nat) (xs : List Value) (hs : a.eval s = v) (hown : w.ownsRow base e size v n xs)
    (ad : Addr) (m c : Nat) (news : List Value) (hx : a.eval x = .slice (some ad) m c) (hl : news.length = m * size) (hnews : ∀ j u, news[j]? = some u → w.cell? (ad.add j) = some u) (h1 : ∀ u ∈ news, u.oneCell' = true)
    (h63 : n + m ≤ maxLen) (hbytes : (n + m) * bytes ≤ 140737488355328) (hbase : base ≤ w.heap.size)
    (h : ∀ v' w', w'.ownsRow base e size v' (n + m) (xs ++ news) → w.grownBy w' v.ownBlock → (v'.ownBlock = v.ownBlock ∨ v'.ownBlock = some w.heap.size) → K (a.put o.dst v') w') :
    if Region.wanted o (yielded ops a.tmps) = true then Oper.wp P o a w K Q else E := by
  have hw : Region.wanted o (yielded ops a.tmps) = true := by simp [Region.wanted, hgd]
  rw [if_pos hw]
  obtain ⟨v', w', hr, h2, h3, _, h5⟩ := run_append_own_at (P := P) w base t o.type e i z size bytes ht hi hz hsize hby hzs hsz v n xs hown ad m c news hl hnews h1 h63 hbytes hbase
  unfold Oper.wp execOp
  simp only [ho, resolve, invoke, builtin, Sem.run_bind, Sem.run_pure, Result.andThen_ok, List.map_toArray, List.map_cons, List.map_nil, hs, hx, hr]
  exact h v' w' h2 h3 h5

/-- Who is used: each once, each has a node, and the others are free. -/
def Inv (U : List Nat) (L : List (Option Nd)) (F : List Nat) : Prop := U.Nodup ∧ (∀ x ∈ U, (lat L x).isSome = true) ∧ U.length + F.length = L.length

theorem inv_new {U : List Nat} {L : List (Option Nd)} (x : Nd) (h : Inv U L []) : (∀ u ∈ U, u ≠ L.length) ∧ Inv (U ++ [L.length]) (L ++ [some x]) [] ∧ U.length = L.length := by
  obtain ⟨h1, h2, h3⟩ := h
  have hu : ∀ u ∈ U, u ≠ L.length := fun u hu e => by
    have := h2 u hu
    rw [e, lat_out (Nat.le_refl _)] at this
    cases this
  refine ⟨hu, ⟨List.nodup_append.2 ⟨h1, by simp, fun a ha b hb => by simp at hb; subst hb; exact hu a ha⟩, fun u hm => ?_, by simp at h3 ⊢; exact h3⟩, by simpa using h3⟩
  rw [lat_push]
  rcases List.mem_append.1 hm with hm | hm
  · rw [if_neg (hu u hm)]; exact h2 u hm
  · simp at hm; rw [if_pos hm]; rfl
theorem inv_pop {U F : List Nat} {L : List (Option Nd)} {k : Nat} (x : Nd) (h : Inv U L (F ++ [k])) (hf : FreeOk L (F ++ [k])) : (∀ u ∈ U, u ≠ k) ∧ Inv (U ++ [k]) (L.set k (some x)) F ∧ U.length + 1 ≤ L.length := by
  obtain ⟨h1, h2, h3⟩ := h
  obtain ⟨hk, hl⟩ := hf.2 k (by simp)
  have hu : ∀ u ∈ U, u ≠ k := fun u hu e => by
    have := h2 u hu
    rw [e, hl] at this
    cases this
  refine ⟨hu, ⟨List.nodup_append.2 ⟨h1, by simp, fun a ha b hb => by simp at hb; subst hb; exact hu a ha⟩, fun u hm => ?_, by simp at h3 ⊢; omega⟩, by simp at h3; omega⟩
  rw [lat_set hk]
  rcases List.mem_append.1 hm with hm | hm
  · rw [if_neg (hu u hm)]; exact h2 u hm
  · simp at hm; rw [if_pos hm]; rfl
theorem inv_free {U F : List Nat} {L : List (Option Nd)} {k : Nat} (h : Inv U L F) (hk : k < U.length) :
    usedB L (U.getD k 0 : Nat) = true ∧ Inv (U.take k ++ U.drop (k + 1)) (L.set (U.getD k 0) none) (F ++ [U.getD k 0]) ∧ U.length ≤ L.length := by
  obtain ⟨h1, h2, h3⟩ := h
  have hg : U.getD k 0 = U[k] := by simp [List.getD_eq_getElem?_getD, hk]
  rw [hg]
  have hm := List.getElem_mem hk
  have hs := h2 _ hm
  have hl : U[k] < L.length := by
    rcases Nat.lt_or_ge U[k] L.length with h | h
    · exact h
    · rw [lat_out h] at hs; cases hs
  have hsub : (U.take k ++ U.drop (k + 1)) = U.eraseIdx k := by rw [List.eraseIdx_eq_take_drop_succ]
  have hne : ∀ u ∈ U.take k ++ U.drop (k + 1), u ∈ U ∧ u ≠ U[k] := fun u hu => by
    have e : U = U.take k ++ (U[k] :: U.drop (k + 1)) := by rw [List.getElem_cons_drop]; exact (List.take_append_drop k U).symm
    have hn := h1
    rw [e] at hn
    obtain ⟨n1, n2, n3⟩ := List.nodup_append.1 hn
    rcases List.mem_append.1 hu with hu | hu
    · exact ⟨List.mem_of_mem_take hu, n3 u hu U[k] List.mem_cons_self⟩
    · exact ⟨List.mem_of_mem_drop hu, fun e => (List.nodup_cons.1 n2).1 (by rw [← e]; exact hu)⟩
  refine ⟨by unfold usedB; simp [hs], ⟨?_, fun u hu => ?_, ?_⟩, by omega⟩
  · rw [hsub]; exact h1.sublist (List.eraseIdx_sublist _ _)
  · rw [lat_set hl, if_neg (hne u hu).2]; exact h2 u (hne u hu).1
  · simp; omega

/-- A deed, as it came in: what, at which number, which node. -/
def DeedAt (w : World) (b o : Nat) (wh at' : Int) (h : Nh) (x : Nd) : Prop :=
  w.cell? ⟨b, o, none⟩ = some (.int .i64 wh) ∧ w.cell? ⟨b, o + 1, none⟩ = some (.int .i64 at') ∧ w.cell? ⟨b, o + 2, none⟩ = some (.bool x.leaf) ∧ w.cell? ⟨b, o + 3, none⟩ = some (.slice h.A h.n h.c) ∧
  w.cell? ⟨b, o + 4, none⟩ = some (.slice h.B h.m h.d) ∧ w.cell? ⟨b, o + 5, none⟩ = some (.slice h.K h.k h.e) ∧ w.cell? ⟨b, o + 6, none⟩ = some (.int .i64 x.next) ∧ NdR w h x ∧
  (-9223372036854775808 ≤ wh ∧ wh ≤ 9223372036854775807) ∧ (-9223372036854775808 ≤ at' ∧ at' ≤ 9223372036854775807)
def Deeds (w : World) (A : Option Addr) (n : Nat) : Prop := n ≤ maxLen ∧ (0 < n → ∃ b o, A = some ⟨b, o, none⟩ ∧ b < w.heap.size ∧ ∀ i, i < n → ∃ wh at' h x, DeedAt w b (o + i * 7) wh at' h x)

/-- Where ArenaOnce's loop has come to. -/
def OnceRel (w : World) (g : Nat) (A : Option Addr) (c : Nat) (L : List (Option Nd)) (F U : List Nat) (j : Nat) (wr : World) : Prop :=
  ∃ D, Ar wr D g L F ∧ (∀ b, D b → w.heap.size ≤ b) ∧ wr.ownsRow w.heap.size 3 1 (.slice A U.length c) U.length (U.map natV) ∧ (∀ a, A = some a → ¬ D a.block) ∧ Inv U L F ∧ L.length ≤ j ∧ Below w.heap.size w wr

theorem OnceRel.size {w : World} {g : Nat} {A : Option Addr} {c : Nat} {L : List (Option Nd)} {F U : List Nat} {j : Nat} {wr : World} (h : OnceRel w g A c L F U j wr) : w.heap.size ≤ wr.heap.size := by
  obtain ⟨D, _, _, _, _, _, _, hb⟩ := h
  exact hb.size
/-- Behind what turns the arena alone. -/
theorem once_turn {w wr w1 : World} {D : Nat → Prop} {g : Nat} {A : Option Addr} {c : Nat} {L' : List (Option Nd)} {F' U : List Nat} (hT : Turn wr D g L' F' w1) (hD : ∀ b, D b → w.heap.size ≤ b) (hlt : ∀ b, D b → b < wr.heap.size)
    (hown : wr.ownsRow w.heap.size 3 1 (.slice A U.length c) U.length (U.map natV)) (hA : ∀ a, A = some a → ¬ D a.block) (hb : Below w.heap.size w wr) :
    ∃ D', Ar w1 D' g L' F' ∧ (∀ b, D' b → w.heap.size ≤ b) ∧ w1.ownsRow w.heap.size 3 1 (.slice A U.length c) U.length (U.map natV) ∧ (∀ a, A = some a → ¬ D' a.block) ∧ Below w.heap.size w w1 := by
  obtain ⟨D', ha, hd, ho⟩ := hT
  have hbl : ∀ a, A = some a → a.block < wr.heap.size := fun a e => by subst e; exact (hown.lt _ rfl).2
  refine ⟨D', ha, fun b hb' => (hd b hb').elim (hD b) (fun h => Nat.le_trans hb.size h), own_agree (C := fun b => ∃ a, A = some a ∧ a.block = b) hown (ho.agree fun b ⟨a, e, e'⟩ => e' ▸ hA a e) (fun k hk => ?_), fun a e hd' => ?_, hb.trans (ho.below hD hb.size)⟩
  · cases A with
    | none => cases hk
    | some a => injection hk with hk; exact ⟨a, rfl, hk⟩
  · rcases hd _ hd' with h | h
    · exact hA a e h
    · have := hbl a e; omega
/-- Behind what makes or fills a row of numbers. -/
theorem once_row {w w1 w2 w3 : World} {D : Nat → Prop} {g : Nat} {L : List (Option Nd)} {F U : List Nat} {row : Option Nat} {v : Value} (ha : Ar w1 D g L F) (hD : ∀ b, D b → w.heap.size ≤ b) (hb : Below w.heap.size w w1)
    (h12 : Below w1.heap.size w1 w2) (hg : w2.grownBy w3 row) (hrow : ∀ k, row = some k → w.heap.size ≤ k ∧ ¬ D k) (hown : w3.ownsRow w.heap.size 3 1 v U.length (U.map natV)) (hat : v.ownBlock = row ∨ ∀ k, v.ownBlock = some k → w1.heap.size ≤ k) :
    ∃ A c, v = .slice A U.length c ∧ Ar w3 D g L F ∧ w3.ownsRow w.heap.size 3 1 (.slice A U.length c) U.length (U.map natV) ∧ (∀ a, A = some a → ¬ D a.block) ∧ Below w.heap.size w w3 := by
  obtain ⟨A, c, rfl, hN, -⟩ := own_new hown
  refine ⟨A, c, rfl, (ha.keep (below_all h12)).keep (agree_grown hg fun k hk => (hrow k hk).2), hown, fun a e hd => ?_, (hb.trans (h12.mono hb.size)).grown hg (Nat.le_trans hb.size h12.size) (fun k hk => (hrow k hk).1)⟩
  subst e
  rcases hat with h | h
  · exact (hrow a.block h.symm).2 hd
  · have := h a.block rfl
    have := ha.lt _ hd
    omega

theorem make_new_lit {w : World} {D : Nat → Prop} {g : Nat} {L : List (Option Nd)} (h : Ar w D g L []) (hN : L.length ≤ 10000) (lf : Bool) (nx : Int) :
    Calls Try.prog 10 #[.pointer (some ⟨g, 0, none⟩), .agg #[.bool lf, .slice none 0 0, .slice none 0 0, .slice none 0 0, .int .i64 nx]] w (MakeOut w D g (L ++ [some ⟨lf, [], [], [], nx⟩]) [] L.length) :=
  (make_new h hN (nil_on (fun _ => True) w lf nx).here (nil_small lf nx)).mono fun _ _ h => h
theorem make_pop_lit {w : World} {D : Nat → Prop} {g k : Nat} {L : List (Option Nd)} {F : List Nat} (h : Ar w D g L (F ++ [k])) (hN : L.length ≤ 10000) (hM : F.length ≤ 10000) (lf : Bool) (nx : Int) :
    Calls Try.prog 10 #[.pointer (some ⟨g, 0, none⟩), .agg #[.bool lf, .slice none 0 0, .slice none 0 0, .slice none 0 0, .int .i64 nx]] w (MakeOut w D g (L.set k (some ⟨lf, [], [], [], nx⟩)) F k) :=
  (make_pop h hN hM (nil_on _ w lf nx) (nil_small lf nx)).mono fun _ _ h => h

/-- What the loop's tail asks: how many are used, how many numbers there are. -/
theorem used_is {w : World} {D : Nat → Prop} {g : Nat} {L : List (Option Nd)} {F : List Nat} (h : Ar w D g L F) (u : Int) (hu : (L.length : Int) - F.length = u) :
    Calls Try.prog 18 #[.pointer (some ⟨g, 0, none⟩)] w fun e w' => e = .returned (.int .i64 u) ∧ Drawn w w' := by
  subst hu
  exact used_any h
theorem len_is {w : World} {D : Nat → Prop} {g : Nat} {L : List (Option Nd)} {F : List Nat} (h : Ar w D g L F) (u : Int) (hu : (L.length : Int) = u) :
    Calls Try.prog 19 #[.pointer (some ⟨g, 0, none⟩)] w fun e w' => e = .returned (.int .i64 u) ∧ w = w' := by
  subst hu
  exact len_any h
theorem usedB_lt {L : List (Option Nd)} {m : Nat} (h : usedB L (m : Int) = true) : m < L.length := by
  rcases Nat.lt_or_ge m L.length with h' | h'
  · exact h'
  · unfold usedB at h
    simp only [Int.toNat_natCast, lat_out h'] at h
    simp at h
theorem free_used {w : World} {D : Nat → Prop} {g : Nat} {L : List (Option Nd)} {F : List Nat} (h : Ar w D g L F) (m : Nat) (hm : m ≤ 1000000) (hu : usedB L (m : Int) = true) (hF : F.length ≤ 10000) :
    Calls Try.prog 15 #[.pointer (some ⟨g, 0, none⟩), .int .i64 m] w fun e w' => e = .returned .nilIface ∧ Turn w D g (L.set m none) (F ++ [m]) w' := by
  refine (free_any h m (by omega) hF).mono fun e w' h => ?_
  unfold FreeOut at h
  rw [hu] at h
  exact h
theorem cells_take {w : World} {base c : Nat} {gg : Nat} {U : List Nat} (h : w.ownsRow base 3 1 (.slice (some ⟨gg, 0, none⟩) U.length c) U.length (U.map natV)) (k : Nat) : ∀ j u, ((U.take k).map natV)[j]? = some u → w.cell? ((⟨gg, 0, none⟩ : Addr).add j) = some u := by
  intro j u hu
  refine h.cells (g := gg) rfl j u ?_
  rw [List.map_take] at hu
  obtain ⟨h1, h2⟩ := List.getElem?_eq_some_iff.1 hu
  rw [List.getElem_take] at h2
  exact List.getElem?_eq_some_iff.2 ⟨by simp at h1 ⊢; omega, h2⟩
theorem cells_drop {w : World} {base c : Nat} {gg : Nat} {U : List Nat} (h : w.ownsRow base 3 1 (.slice (some ⟨gg, 0, none⟩) U.length c) U.length (U.map natV)) (k : Nat) : ∀ j u, ((U.drop k).map natV)[j]? = some u → w.cell? ((⟨gg, k, none⟩ : Addr).add j) = some u := by
  intro j u hu
  have := h.cells (g := gg) rfl (k + j) u (by
    rw [List.map_drop, List.getElem?_drop] at hu
    exact hu)
  rw [add_lit] at this ⊢
  simpa using this
theorem nat_one (U : List Nat) : ∀ u ∈ U.map natV, u.oneCell' = true := by
  intro u hu
  obtain ⟨z, _, rfl⟩ := List.mem_map.1 hu
  rfl
theorem row_at {w : World} {base c : Nat} {A : Option Addr} {U : List Nat} (h : w.ownsRow base 3 1 (.slice A U.length c) U.length (U.map natV)) {t : Nat} (ht : t < U.length) :
    ∃ gg, A = some ⟨gg, 0, none⟩ ∧ gg < w.heap.size ∧ w.cell? ⟨gg, t, none⟩ = some (.int .i64 (U.getD t 0 : Nat)) := by
  obtain ⟨gg, rfl, _, hl⟩ := own_at h (by omega)
  refine ⟨gg, rfl, hl, ?_⟩
  rw [h.cellAt t (by omega)]
  simp [ht]
theorem drawn_agree {C : Nat → Prop} {w w' : World} (h : Drawn w w') : Agree C w w' := by
  obtain ⟨d, rfl⟩ := h
  exact ⟨Nat.le_refl _, fun _ _ _ => rfl⟩
theorem OnceRel.drawn {w : World} {g : Nat} {A : Option Addr} {c : Nat} {L : List (Option Nd)} {F U : List Nat} {j : Nat} {wr w' : World} (h : OnceRel w g A c L F U j wr) (hd : Drawn wr w') : OnceRel w g A c L F U j w' := by
  obtain ⟨D, h1, h2, h3, h4, h5, h6, h7⟩ := h
  exact ⟨D, h1.keep (drawn_agree hd), h2, own_agree h3 (C := fun _ => True) (drawn_agree hd) (fun _ _ => trivial), h4, h5, h6, h7.trans (below_drawn hd)⟩
end Go.Proofs.Ytbphjhmmdkaggaa
