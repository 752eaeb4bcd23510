/- What a ring's calls leave alone; places round and round; a cell's own Load and Add by the value that it has. Conditions: stamps stay below one million. -/
import Derived.Test.YtnghhcjfalgkdaaRa
import Derived.Deep.QuietTactic
import Derived.BigQuiet
import Derived.Deep.RegionHeld3
import Derived.IntWalk
import Derived.OwnWalk
import Derived.Laws.AppendOwn
import Derived.Laws.AppendOwnNone
import Derived.Maps.AppendAt
import Derived.Deep.DeepCutAuto
import Derived.Deep.RegionLaw
import Derived.Deep.AppendLies
import Derived.StillTailTactics
namespace Go.Proofs.Ytnghhcjfalgkdaa
open Go.RowKit
set_option linter.unusedVariables false

theorem quiet_left {P : Program} {f : FuncId} {args : Array Value} {w : World} {n : Nat} {v : Value}
    (h : Calls P f args (w.drewN n) fun e w' => e = .returned v ∧ w.drewN n = w') : Calls P f args (w.drewN n) fun e w'' => e = .returned v ∧ ∃ m, w'' = w.drewN m :=
  h.mono fun _ _ ⟨he, hm⟩ => ⟨he, n, hm.symm⟩

/-- But for the four blocks of a ring nothing has turned. -/
structure ChgN (N : Nat) (w w' : World) : Prop where
  os : w'.os = w.os
  tape : w'.tape = w.tape
  output : w'.output = w.output
  size : w.heap.size ≤ w'.heap.size
  block : ∀ k, k < w.heap.size → (k < N ∨ N + 4 ≤ k) → w'.heap[k]? = w.heap[k]?
theorem ChgN.refl (N : Nat) (w : World) : ChgN N w w := ⟨rfl, rfl, rfl, Nat.le_refl _, fun _ _ _ => rfl⟩
theorem ChgN.trans {N : Nat} {u v w : World} (h : ChgN N u v) (k : ChgN N v w) : ChgN N u w :=
  ⟨k.os.trans h.os, k.tape.trans h.tape, k.output.trans h.output, Nat.le_trans h.size k.size, fun i hi hb => (k.block i (Nat.lt_of_lt_of_le hi h.size) hb).trans (h.block i hi hb)⟩
theorem below_chgN {N : Nat} {w w' : World} (h : Below w.heap.size w w') : ChgN N w w' := ⟨h.os, h.tape, h.output, h.size, fun k hk _ => h.block k hk⟩
theorem ChgN.below {N B : Nat} {w w' : World} (h : ChgN N w w') (hb : B ≤ N) (hB : B ≤ w.heap.size) : Below B w w' := ⟨h.os, h.tape, h.output, h.size, fun k hk => h.block k (by omega) (.inl (by omega))⟩
theorem ChgN.cell {N : Nat} {w w' : World} (h : ChgN N w w') {p : Addr} (hp : p.block < w.heap.size) (hn : p.block < N ∨ N + 4 ≤ p.block) : w'.cell? p = w.cell? p := by
  simp [World.cell?, h.block p.block hp hn]

theorem mod_ne {t n i j : Nat} (hi : i < n) (hj : j < n) (h : i ≠ j) : (t + i) % n ≠ (t + j) % n := fun e => by
  rcases Nat.lt_or_gt_of_ne h with hl | hl
  · have h1 := Nat.sub_mod_eq_zero_of_mod_eq e.symm
    rw [show t + j - (t + i) = j - i by omega, Nat.mod_eq_of_lt (by omega)] at h1
    omega
  · have h1 := Nat.sub_mod_eq_zero_of_mod_eq e
    rw [show t + i - (t + j) = i - j by omega, Nat.mod_eq_of_lt (by omega)] at h1
    omega

theorem Cl.heap {w w1 : World} {p b n : Nat} {V S : Nat → Int} (h : Cl w p b n V S) (e : w1.heap = w.heap) : Cl w1 p b n V S := ⟨by rw [e]; exact h.1, h.2.of_block (by rw [e])⟩

theorem load_at (p b i : Nat) (V S : Nat → Int) (w : World) (hc : Cl w p b 2 V S) (hi : i < 2) (v : Int) (hv : V i = v) :
    Calls Try.prog 21 #[.pointer (some ⟨p, 0, none⟩), .int .i64 (i : Int)] w fun e w' => e = .returned (.tuple #[.int .u64 v, .nilIface]) ∧ w = w' := by
  subst hv
  exact load_in p b 2 i V S w (by omega) (by omega) hc

theorem add_at (p b i : Nat) (V S : Nat → Int) (w : World) (hc : Cl w p b 2 V S) (hi : i < 2) (v : Int) (hv : V i = v) (h0 : 0 ≤ S i) (h1 : S i ≤ 1000000) (hv0 : 0 ≤ v) (hv1 : v ≤ 1000000) :
    Calls Try.prog 20 #[.pointer (some ⟨p, 0, none⟩), .int .i64 (i : Int), .int .u64 1] w fun e w' => e = .returned (.tuple #[.int .u64 v, .nilIface]) ∧ Wrote w w' p b 2 V S i (v + 1) := by
  subst hv
  have h := add_in p b 2 i 1 V S w (by omega) (by omega) hc (by simpa using h0) (by simpa using h1)
  rw [IntWalk.u64_in _ (by rw [Int.toNat_natCast]; omega)] at h
  exact h
theorem own_new {w' : World} {N : Nat} {E : TypeId} {s n : Nat} {v : Value} {xs : List Value} (h : w'.ownsRow N E s v n xs) : ∃ A c, v = .slice A n c ∧ n ≤ c ∧ c ≤ maxLen ∧ (A = none → n = 0 ∧ c = 0) := by
  rcases h.2 with ⟨rfl, rfl⟩ | ⟨g, cap, cur, rfl, hB, hh, h1, h2, _⟩
  · exact ⟨none, 0, rfl, Nat.le_refl _, Nat.zero_le _, fun _ => ⟨rfl, rfl⟩⟩
  · exact ⟨_, _, rfl, h1, h2, (fun e => by cases e)⟩
theorem own_at {w : World} {base : Nat} {e : TypeId} {s n c : Nat} {A : Option Addr} {xs : List Value} (h : w.ownsRow base e s (.slice A n c) n xs) (h0 : 0 < n) : ∃ g, A = some ⟨g, 0, none⟩ ∧ base ≤ g ∧ g < w.heap.size := by
  rcases h.2 with ⟨_, rfl⟩ | ⟨g, cap, cur, e, hB, hh, _⟩
  · omega
  · injection e with e1 e2 e3
    exact ⟨g, e1, hB, (Array.getElem?_eq_some_iff.1 hh).1⟩
theorem step_append_at {P : Program} (w : World) {ops : Array Oper} {o : Oper} {a : Act} {K : Act → World → Prop} {Q : Exit → Act → World → Prop} {E : Prop} (hgd : o.guard = none) (s x : Operand) (t : TypeId)
    (ho : o.op = .call { callee := .builtin .append, args := #[s, x], argTypes := #[t, t] })
    (base : Nat) (e : TypeId) (i : TypeInfo) (z : Value) (size bytes : Nat) (ht : P.underlying t = some (.slice e)) (hi : P.info? e = some i) (hz : i.zero = some z)
    (hsize : i.size = size) (hby : i.bytes = bytes) (hzs : z.cells.size = size) (hsz : 0 < size)
    (v : Value) (n : Nat) (xs : List Value) (hs : a.eval s = v) (hown : w.ownsRow base e size v n xs)
    (ad : Addr) (m c : Nat) (news : List Value) (hx : a.eval x = .slice (some ad) m c) (hl : news.length = m * size) (hnews : ∀ j u, news[j]? = some u → w.cell? (ad.add j) = some u) (h1 : ∀ u ∈ news, u.oneCell' = true)
    (h63 : n + m ≤ maxLen) (hbytes : (n + m) * bytes ≤ 140737488355328) (hbase : base ≤ w.heap.size)
    (h : ∀ v' w', w'.ownsRow base e size v' (n + m) (xs ++ news) → w.grownBy w' v.ownBlock → (v'.ownBlock = v.ownBlock ∨ v'.ownBlock = some w.heap.size) → K (a.put o.dst v') w') :
    if Region.wanted o (yielded ops a.tmps) = true then Oper.wp P o a w K Q else E := by
  have hw : Region.wanted o (yielded ops a.tmps) = true := by simp [Region.wanted, hgd]
  rw [if_pos hw]
  obtain ⟨v', w', hr, h2, h3, _, h5⟩ := run_append_own_at (P := P) w base t o.type e i z size bytes ht hi hz hsize hby hzs hsz v n xs hown ad m c news hl hnews h1 h63 hbytes hbase
  unfold Oper.wp execOp
  simp only [ho, resolve, invoke, builtin, Sem.run_bind, Sem.run_pure, Result.andThen_ok, List.map_toArray, List.map_cons, List.map_nil, hs, hx, hr]
  exact h v' w' h2 h3 h5

theorem app_block {w3 W w5 : World} {v5 : Value} {r : Option Nat} (hW : Below w3.heap.size w3 W) (hr : ∀ k, r = some k → w3.heap.size ≤ k) (hg : W.grownBy w5 r) (hat : v5.ownBlock = r ∨ v5.ownBlock = some W.heap.size) : Below w3.heap.size w3 w5 ∧ ∀ k, v5.ownBlock = some k → w3.heap.size ≤ k :=
  ⟨hW.grown hg hW.size hr, fun k hk => by
    rcases hat with e | e
    · exact hr k (by rw [← e]; exact hk)
    · rw [e] at hk
      have := Option.some.inj hk
      have := hW.size
      omega⟩
theorem grown_far {w w' : World} {r : Option Nat} (h : w.grownBy w' r) (a : Addr) (hl : a.block < w.heap.size) (hn : some a.block ≠ r) : w'.cell? a = w.cell? a := World.cell?_of_block (h.block a.block hl hn)
theorem alloc_sz (w : World) (o : Obj) : (w.alloc o).heap.size = w.heap.size + 1 := by simp
theorem add_lit (b o n : Nat) : (⟨b, o, none⟩ : Addr).add n = ⟨b, o + n, none⟩ := by
  unfold Addr.add
  split
  · next h => rw [h]; rfl
  · rfl
theorem own_lt {w : World} {N : Nat} {e s n : Nat} {v : Value} {xs : List Value} (h : w.ownsRow N e s v n xs) : ∀ k, v.ownBlock = some k → k < w.heap.size := fun k hk => (h.lt k hk).2
theorem ret_bool {a b : Bool} (h : a = b) : Ending.returned (.bool a) = .returned (.bool b) := by rw [h]
theorem add_block (a : Addr) (n : Nat) : (a.add n).block = a.block := by unfold Addr.add; split <;> rfl
theorem own_keep {w w' : World} {base e size n : Nat} {v : Value} {xs : List Value} (h : w.ownsRow base e size v n xs) (hb : Below w.heap.size w w') : w'.ownsRow base e size v n xs :=
  h.kept (row := none) ⟨hb.os, hb.tape, hb.output, hb.size, fun k hk _ => hb.block k hk⟩ (by cases hv : v.ownBlock <;> simp)
theorem undrew {B : Nat} {w w' : World} (h : Below B w.drew w') : Below B w w' := ⟨h.os, h.tape, h.output, h.size, h.block⟩

/-- Does a slice lie off the ring's blocks? -/
def Off (N : Nat) (A : Option Addr) : Prop := ∀ a, A = some a → N + 4 ≤ a.block
def lenV : Value → Nat
  | .slice _ n _ => n
  | _ => 0
theorem Try.infoString : (Try.prog.info? 9).map (fun i => (i.zero, i.size, i.bytes)) = some (some (.string ⟨#[]⟩), 1, 16) := by kernel_rfl
theorem Try.infoInt : (Try.prog.info? 3).map (fun i => (i.zero, i.size, i.bytes)) = some (some (.int .i64 0), 1, 8) := by kernel_rfl
theorem own_chg {N : Nat} {w w' : World} {base e s n : Nat} {v : Value} {xs : List Value} (h : w.ownsRow base e s v n xs) (hc : ChgN N w w') (ho : ∀ k, v.ownBlock = some k → N + 4 ≤ k) : w'.ownsRow base e s v n xs := by
  refine ⟨h.1, ?_⟩
  rcases h.2 with h0 | ⟨g, cap, cur, rfl, hB, hh, h3⟩
  · exact .inl h0
  · exact .inr ⟨g, cap, cur, rfl, hB, (hc.block g (Array.getElem?_eq_some_iff.1 hh).1 (.inr (ho g rfl))).trans hh, h3⟩
theorem own_ge {w : World} {N : Nat} {e s n : Nat} {v : Value} {xs : List Value} (h : w.ownsRow N e s v n xs) : ∀ k, v.ownBlock = some k → N ≤ k := fun k hk => (h.lt k hk).1
/-- Behind an append to a row of one's own that lies behind the ring. -/
theorem app_chg {N B : Nat} {w wr w2 : World} {v : Value} {e s n : Nat} {xs : List Value} {o : Obj} (hc : ChgN N w wr) (ho : wr.ownsRow w.heap.size e s v n xs) (hg : (wr.alloc o).grownBy w2 v.ownBlock) (hB : B ≤ w.heap.size) :
    ChgN N w w2 ∧ ∀ k, k < B → w2.heap[k]? = wr.heap[k]? := by
  have hs := hc.size
  have hb : ∀ k, k < w.heap.size → w2.heap[k]? = wr.heap[k]? := fun k hk => by
    rw [hg.block k (by simp; omega) (fun e => by have := own_ge ho k e.symm; omega), Below.heap_alloc _ _ _ (by omega)]
  exact ⟨⟨hg.os.trans hc.os, hg.tape.trans hc.tape, hg.output.trans hc.output, by have := hg.size; simp at this; omega, fun k hk h => (hb k hk).trans (hc.block k hk h)⟩, fun k hk => hb k (by omega)⟩
end Go.Proofs.Ytnghhcjfalgkdaa
