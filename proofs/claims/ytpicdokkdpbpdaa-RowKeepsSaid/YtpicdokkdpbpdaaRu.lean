/- The law's head (the document's example): it returns true; nothing that was there is changed. No condition. -/
import Derived.Test.YtpicdokkdpbpdaaRr
import Derived.Lib.SlBytesConst
import Derived.Lib.SmallJoins
namespace Go.Proofs.Ytpicdokkdpbpdaa
open Go.RowKit
set_option linter.unusedVariables false

theorem byt_lit (w : World) (u : UInt8) (x : Int) (hx : x = (u.toNat : Int)) (fr : Nat × Nat) : Byt (w.alloc (.cells #[.int .u8 x] 5 fr)) (some ⟨w.heap.size, 0, none⟩) 1 [u] := by
  refine ⟨rfl, fun _ => ⟨_, rfl, by simp, fun j hj => ?_⟩⟩
  obtain rfl : j = 0 := by simp at hj; omega
  have := World.cell?_alloc_mark w #[.int .u8 x] 5 fr 0
  simpa [Addr.add, hx] using this
theorem byt_none (w : World) : Byt w none 0 [] := ⟨rfl, fun h => absurd h (by omega)⟩

def litL : List Pr := [([97], []), ([99], [])]
def litM : List Pr := [([97], []), ([98], []), ([99], [])]

theorem lit_srt : Srt litL := by
  unfold Srt litL
  decide
theorem lit_small : Small litL := by
  intro p hp
  unfold litL at hp
  simp at hp
  rcases hp with rfl | rfl <;> simp
theorem lit_put : putL litL [98] [] = litM := by decide
theorem lit_has : hasB litL [98] = false := by decide

def litW (w : World) : World := (((w.alloc (.cells #[.int .u8 97] 5 (1, 2))).alloc (.cells #[.int .u8 99] 5 (1, 2))).alloc (.cells #[.slice (some ⟨w.heap.size, 0, none⟩) 1 1, .slice none 0 0, .slice (some ⟨w.heap.size + 1, 0, none⟩) 1 1, .slice none 0 0] 43)).alloc (.cells #[.int .u8 98] 5 (1, 2))

theorem lit_prs (w : World) : Prs (litW w) (some ⟨w.heap.size + 1 + 1, 0, none⟩) 2 2 litL ∧ Byt (litW w) (some ⟨w.heap.size + 1 + 1 + 1, 0, none⟩) 1 [98] ∧ Below w.heap.size w (litW w) := by
  have b1 := ((byt_lit w 97 97 rfl (1, 2)).alloc (.cells #[.int .u8 99] 5 (1, 2)))
  have b2 := byt_lit (w.alloc (.cells #[.int .u8 97] 5 (1, 2))) 99 99 rfl (1, 2)
  have e1 : (w.alloc (.cells #[.int .u8 97] 5 (1, 2))).heap.size = w.heap.size + 1 := by simp
  have e2 : ((w.alloc (.cells #[.int .u8 97] 5 (1, 2))).alloc (.cells #[.int .u8 99] 5 (1, 2))).heap.size = w.heap.size + 1 + 1 := by simp
  rw [e1] at b2
  have hp : Prs (((w.alloc (.cells #[.int .u8 97] 5 (1, 2))).alloc (.cells #[.int .u8 99] 5 (1, 2))).alloc (.cells #[.slice (some ⟨w.heap.size, 0, none⟩) 1 1, .slice none 0 0, .slice (some ⟨w.heap.size + 1, 0, none⟩) 1 1, .slice none 0 0] 43)) (some ⟨w.heap.size + 1 + 1, 0, none⟩) 2 2 litL := by
    refine ⟨rfl, Nat.le_refl _, by unfold maxLen; omega, (fun e => by cases e), fun _ => ⟨w.heap.size + 1 + 1, 0, rfl, by simp, fun j hj => ?_⟩⟩
    have b1 := b1.alloc (.cells #[.slice (some ⟨w.heap.size, 0, none⟩) 1 1, .slice none 0 0, .slice (some ⟨w.heap.size + 1, 0, none⟩) 1 1, .slice none 0 0] 43)
    have b2 := b2.alloc (.cells #[.slice (some ⟨w.heap.size, 0, none⟩) 1 1, .slice none 0 0, .slice (some ⟨w.heap.size + 1, 0, none⟩) 1 1, .slice none 0 0] 43)
    have hc : ∀ j u, (#[Value.slice (some ⟨w.heap.size, 0, none⟩) 1 1, .slice none 0 0, .slice (some ⟨w.heap.size + 1, 0, none⟩) 1 1, .slice none 0 0])[j]? = some u →
        (((w.alloc (.cells #[.int .u8 97] 5 (1, 2))).alloc (.cells #[.int .u8 99] 5 (1, 2))).alloc (.cells #[.slice (some ⟨w.heap.size, 0, none⟩) 1 1, .slice none 0 0, .slice (some ⟨w.heap.size + 1, 0, none⟩) 1 1, .slice none 0 0] 43)).cell? ⟨w.heap.size + 1 + 1, j, none⟩ = some u := fun j u h => by
      rw [← e2, World.cell?_alloc_mark]
      exact h
    obtain rfl | rfl : j = 0 ∨ j = 1 := by omega
    · exact ⟨_, 1, 1, none, 0, 0, hc 0 _ rfl, hc 1 _ rfl, b1, byt_none _⟩
    · exact ⟨_, 1, 1, none, 0, 0, hc 2 _ rfl, hc 3 _ rfl, b2, byt_none _⟩
  refine ⟨hp.alloc _, ?_, ?_⟩
  · have b3 := byt_lit (((w.alloc (.cells #[.int .u8 97] 5 (1, 2))).alloc (.cells #[.int .u8 99] 5 (1, 2))).alloc (.cells #[.slice (some ⟨w.heap.size, 0, none⟩) 1 1, .slice none 0 0, .slice (some ⟨w.heap.size + 1, 0, none⟩) 1 1, .slice none 0 0] 43)) 98 98 rfl (1, 2)
    have e3 : (((w.alloc (.cells #[.int .u8 97] 5 (1, 2))).alloc (.cells #[.int .u8 99] 5 (1, 2))).alloc (.cells #[.slice (some ⟨w.heap.size, 0, none⟩) 1 1, .slice none 0 0, .slice (some ⟨w.heap.size + 1, 0, none⟩) 1 1, .slice none 0 0] 43)).heap.size = w.heap.size + 1 + 1 + 1 := by simp
    rw [e3] at b3
    exact b3
  · exact ((((Below.refl _ w).alloc (Nat.le_refl _) _).alloc (by simp) _).alloc (by simp; omega) _).alloc (by simp; omega) _

theorem put_lit (w : World) : Calls Try.prog 15 #[.slice (some ⟨w.heap.size + 1 + 1, 0, none⟩) 2 2, .slice (some ⟨w.heap.size + 1 + 1 + 1, 0, none⟩) 1 1, .slice none 0 0] (litW w)
    fun e w' => ∃ A n c, e = .returned (.tuple #[.slice A n c, .bool true, .nilIface]) ∧ Prs w' A n c litM ∧ Below w.heap.size w w' := by
  obtain ⟨h1, h2, h3⟩ := lit_prs w
  refine (put_yes 1 0 h1 h2 (byt_none _) lit_srt (by omega) lit_small (by decide) (by omega) (by omega)).mono ?_
  rintro e w' ⟨A, n, c, rfl, hp, hb⟩
  rw [lit_put] at hp
  exact ⟨A, n, c, by rw [lit_has]; rfl, hp, h3.trans (hb.mono h3.size)⟩

def UpPut (w : World) (e : Ending) (w' : World) : Prop := ∃ A n c, e = .returned (.tuple #[.slice A n c, .bool true, .nilIface]) ∧ Prs w' A n c litM ∧ Below w.heap.size w w'

set_option maxRecDepth 100000 in
set_option maxHeartbeats 2000000 in
theorem up_any (w : World) : Calls Try.prog 5 #[] w fun e w' => e = .returned (.bool true) ∧ Below w.heap.size w w' := by
  have kc := fun (w : World) (C : Array Value) (n c g : Nat) (hg : g = w.heap.size) => Joins.run_convert_bytes_const_at (P := Try.prog) w 23 5 C n c g hg Try.underlying23 Try.underlying5
  have HL := Lib.hid (put_lit w)
  unfold litW at HL
  go_enter Try.func5, Try.ntmps5
  go_wp2_with fail
  refine HL.out.mono ?_
  rintro e w1 ⟨A, n, c, rfl, hp, hb⟩
  obtain rfl : n = 3 := hp.len.symm
  have HI := Lib.hid (is_any hp)
  obtain ⟨b, o, rfl, hbl, A1, n1, c1, B1, m1, d1, k0, k1, y1, y2⟩ := hp.at_ (j := 1) (by omega)
  have r1 := run_str (c := c1) y1
  have hs : (gt litM 1).1 = [98] := rfl
  rw [hs] at r1
  have HB := Lib.hid hb
  clear hp hb y1 y2 hs HL
  go_wp2_with fail
  refine HI.out.mono ?_
  rintro e w2 ⟨rfl, hb2⟩
  have HB2 := Lib.hid hb2
  have hlm : isB litM = true := by decide
  have HN := Lib.hid (is_any (one_prs (w := w2) 0 0 (byt_none w2) (byt_none w2) 43))
  rw [hlm]
  clear hb2 hlm r1 k0 k1
  go_wp2_with fail
  refine HN.out.mono ?_
  rintro e w3 ⟨rfl, hb3⟩
  have HB3 := Lib.hid hb3
  have hln : isB [([], [])] = false := by decide
  rw [hln]
  clear hb3 hln
  go_wp2
  go_ret
  have hs := HB.out.size
  have hs2 := HB2.out.size
  exact ⟨rfl, ((HB.out.trans (HB2.out.mono hs)).alloc (by omega) _).trans (HB3.out.mono (by simp; omega))⟩
end Go.Proofs.Ytpicdokkdpbpdaa
