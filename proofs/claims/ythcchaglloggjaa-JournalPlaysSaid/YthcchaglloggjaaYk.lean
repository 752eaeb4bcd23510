/- The contracts of the document's own Order and Ints. Condition: no more than 1000 requests, whose slices have at most 100 bytes; what came in can be read. -/
import Derived.Test.YthcchaglloggjaaYj
namespace Go.Proofs.Ythcchaglloggjaa
open Go.RowKit
set_option linter.unusedVariables false
set_option maxRecDepth 100000

/-- Where the search for a place has come to: those from q on are looked at. -/
structure LookI (M : List Rq) (L : List Nat) (i q at_ : Nat) : Prop where
  le : q ≤ at_
  le2 : at_ ≤ i
  no : ∀ p, q ≤ p → p < at_ → aheadQ (gq M i) (gq M (nat L p)) = false
  yes : at_ < i → aheadQ (gq M i) (gq M (nat L at_)) = true

/-- One number in a new block. -/
theorem nls_one (w : World) (k : Nat) (T : TypeId) : Nls (w.alloc (.cells #[.int .i64 k] T)) (some ⟨w.heap.size, 0, none⟩) 1 1 [k] :=
  ⟨rfl, Nat.le_refl _, by unfold maxLen; omega, (fun e => by cases e), fun _ => ⟨w.heap.size, 0, rfl, by simp, fun j hj => by
    obtain rfl : j = 0 := by omega
    simp [natV, nat]⟩⟩

set_option maxHeartbeats 16000000 in
theorem dorder_any {w : World} {A : Option Addr} {n : Nat} (c : Nat) {M : List Rq} (h : Reqs w A n M) (hs : ∀ j, j < n → smallQ (gq M j) = true) (hn : n ≤ 1000) :
    Calls Try.prog 42 #[.slice A n c] w fun e w' => ∃ (B : Option Addr) (c' : Nat) (g : Nat → Nat), e = .returned (.slice B n c') ∧ Nts w' B n g ∧ OrdI M n g ∧ Below w.heap.size w w' := by
  have H := Lib.hid h
  have HS := Lib.hid hs
  clear h hs
  go_enter Try.func42, Try.ntmps42
  go_wp2
  go_loopw [3, 4] (fun s t wr => ∃ (i : Nat) (B : Option Addr) (c' : Nat) (L : List Nat), i ≤ n ∧ s = .slice B i c' ∧ t = .int .i64 i ∧ Nls wr B i c' L ∧ Hid (OrdL M i L) ∧ Below w.heap.size w wr) (fun _ t _ => n - (intOf t).toNat)
  case atStart => exact ⟨0, none, 0, [], Nat.zero_le _, rfl, rfl, nls_nil _, Lib.hid ⟨rfl, fun i j h1 h2 h3 => by omega, fun k hk => by omega, fun v hv => by omega⟩, Below.refl _ _⟩
  case round =>
    obtain ⟨i, B, c', L, hi, rfl, rfl, hl, HO, hb⟩ := hrel
    have HL := Lib.hid hl
    have HB := Lib.hid hb
    clear hl hb
    by_cases hlt : i < n
    · go_wp2
      go_loopw [5, 6] (fun s t wr2 => ∃ (at_ q : Nat), s = .int .i64 at_ ∧ t = .int .i64 ((q : Int) - 1) ∧ q ≤ i ∧ at_ ≤ i ∧ Hid (LookI M L i q at_) ∧ Below wr.heap.size wr wr2) (fun _ t _ => (intOf t + 1).toNat)
      case atStart => exact ⟨i, i, rfl, rfl, Nat.le_refl _, Nat.le_refl _, Lib.hid ⟨Nat.le_refl _, Nat.le_refl _, fun p p1 p2 => by omega, fun h => by omega⟩, Below.refl _ _⟩
      case round =>
        obtain ⟨at_, q, rfl, rfl, hq, hat, HK, hb2⟩ := hrel
        have HB2 := Lib.hid hb2
        have HL2 := Lib.hid (HL.out.below hb2)
        have HBN := Lib.hid (HB.out.trans (hb2.mono HB.out.size))
        clear hb2
        by_cases hq0 : 0 < q
        · obtain ⟨p, rfl⟩ : ∃ p, q = p + 1 := ⟨q - 1, by omega⟩
          have hpi : p < i := by omega
          obtain ⟨ob, oo, rfl, hob, co⟩ := HL2.out.at_ hpi
          have hxi := HO.out.is.lt p hpi
          obtain ⟨b, o, rfl, hbl, h1, x0, x1, x2, x3, x4, x5, x6, x7, hr1⟩ := (H.out.below HBN.out).at_ hlt
          obtain ⟨b', o', e', -, h2, y0, y1, y2, y3, y4, y5, y6, y7, hr2⟩ := (H.out.below HBN.out).at_ (show nat L p < n by omega)
          injection e' with e'
          injection e' with e1 e2
          subst e1
          subst e2
          have D := Lib.hid (aheadq_any (w := wr.drew) (hr1.below (Below.refl _ _).drew) (hr2.below (Below.refl _ _).drew) (HS.out i hlt) (HS.out (nat L p) (by omega)))
          clear hr1 hr2
          have HNX := Lib.hid (fun (hz : aheadQ (gq M i) (gq M (nat L p)) = true) => (show LookI M L i p p from ⟨Nat.le_refl _, by omega, fun k k1 k2 => by omega, fun _ => hz⟩))
          have HNY := Lib.hid (fun (hz : aheadQ (gq M i) (gq M (nat L p)) = false) => (show LookI M L i p at_ from ⟨by have := HK.out.le; omega, hat, fun k k1 k2 => by
            by_cases e : k = p
            · rw [e]; exact hz
            · exact HK.out.no k (by omega) k2, HK.out.yes⟩))
          generalize aheadQ (gq M i) (gq M (nat L p)) = z at D HNX HNY
          generalize gq M i = r1 at x0 x1 x2 x3 x4 x5 x6 x7 D
          generalize gq M (nat L p) = r2 at y0 y1 y2 y3 y4 y5 y6 y7 D
          generalize nat L p = x at co hxi y0 y1 y2 y3 y4 y5 y6 y7
          have bi : (0 : Int) ≤ (i : Int) := by omega
          have bi2 : (i : Int) < (n : Int) := by omega
          have bx : (0 : Int) ≤ (x : Int) := by omega
          have bx2 : (x : Int) < (n : Int) := by omega
          have bp : (0 : Int) ≤ (p : Int) := by omega
          have bp2 : (p : Int) < (i : Int) := by omega
          clear HK hq0
          cases z
          all_goals
            go_upto_region 9 with fail
            go_region_held3 (fun w' => w'.cell? ⟨ob, oo + p, none⟩ = some (.int .i64 x) ∧ w'.cell? ⟨b, o + i * 8, none⟩ = some (.int .i64 r1.cl) ∧ w'.cell? ⟨b, o + i * 8 + 1, none⟩ = some (.int .i64 r1.sq) ∧ w'.cell? ⟨b, o + i * 8 + 2, none⟩ = some (.int .i64 r1.kind) ∧ w'.cell? ⟨b, o + i * 8 + 3, none⟩ = some (.slice h1.A h1.n h1.c) ∧ w'.cell? ⟨b, o + i * 8 + 4, none⟩ = some (.slice h1.B h1.m h1.d) ∧ w'.cell? ⟨b, o + i * 8 + 5, none⟩ = some (.slice h1.C h1.o h1.p) ∧ w'.cell? ⟨b, o + i * 8 + 6, none⟩ = some (.slice h1.D h1.q h1.s) ∧ w'.cell? ⟨b, o + i * 8 + 7, none⟩ = some (.int .i64 r1.limit) ∧
                w'.cell? ⟨b, o + x * 8, none⟩ = some (.int .i64 r2.cl) ∧ w'.cell? ⟨b, o + x * 8 + 1, none⟩ = some (.int .i64 r2.sq) ∧ w'.cell? ⟨b, o + x * 8 + 2, none⟩ = some (.int .i64 r2.kind) ∧ w'.cell? ⟨b, o + x * 8 + 3, none⟩ = some (.slice h2.A h2.n h2.c) ∧ w'.cell? ⟨b, o + x * 8 + 4, none⟩ = some (.slice h2.B h2.m h2.d) ∧ w'.cell? ⟨b, o + x * 8 + 5, none⟩ = some (.slice h2.C h2.o h2.p) ∧ w'.cell? ⟨b, o + x * 8 + 6, none⟩ = some (.slice h2.D h2.q h2.s) ∧ w'.cell? ⟨b, o + x * 8 + 7, none⟩ = some (.int .i64 r2.limit)) (go_keep)
              ((go_at_call 55
                (with_reducible refine D.out.mono ?_)
                rintro e w3 ⟨rfl, hb3⟩
                have hb3 : Below wr.heap.size wr w3 := undrew hb3
                have HB3 := Lib.hid (HB2.out.trans (hb3.mono HB2.out.size))
                have co := (hb3.cell (p := ⟨ob, oo + p, none⟩) hob).trans co
                have x0 := (hb3.cell (p := ⟨b, o + i * 8, none⟩) hbl).trans x0
                have x1 := (hb3.cell (p := ⟨b, o + i * 8 + 1, none⟩) hbl).trans x1
                have x2 := (hb3.cell (p := ⟨b, o + i * 8 + 2, none⟩) hbl).trans x2
                have x3 := (hb3.cell (p := ⟨b, o + i * 8 + 3, none⟩) hbl).trans x3
                have x4 := (hb3.cell (p := ⟨b, o + i * 8 + 4, none⟩) hbl).trans x4
                have x5 := (hb3.cell (p := ⟨b, o + i * 8 + 5, none⟩) hbl).trans x5
                have x6 := (hb3.cell (p := ⟨b, o + i * 8 + 6, none⟩) hbl).trans x6
                have x7 := (hb3.cell (p := ⟨b, o + i * 8 + 7, none⟩) hbl).trans x7
                have y0 := (hb3.cell (p := ⟨b, o + x * 8, none⟩) hbl).trans y0
                have y1 := (hb3.cell (p := ⟨b, o + x * 8 + 1, none⟩) hbl).trans y1
                have y2 := (hb3.cell (p := ⟨b, o + x * 8 + 2, none⟩) hbl).trans y2
                have y3 := (hb3.cell (p := ⟨b, o + x * 8 + 3, none⟩) hbl).trans y3
                have y4 := (hb3.cell (p := ⟨b, o + x * 8 + 4, none⟩) hbl).trans y4
                have y5 := (hb3.cell (p := ⟨b, o + x * 8 + 5, none⟩) hbl).trans y5
                have y6 := (hb3.cell (p := ⟨b, o + x * 8 + 6, none⟩) hbl).trans y6
                have y7 := (hb3.cell (p := ⟨b, o + x * 8 + 7, none⟩) hbl).trans y7
                clear hb3))
            clear D co x0 x1 x2 x3 x4 x5 x6 x7 y0 y1 y2 y3 y4 y5 y6 y7
          · go_wp2
            go_roundw
            case rel => exact ⟨at_, p, rfl, by go_num, by omega, hat, Lib.hid (HNY.out (by trivial)), HB3.out⟩
            case measure => simp [intOf]; try omega
          · go_wp2
            go_roundw
            case rel => exact ⟨p, p, rfl, by go_num, by omega, by omega, Lib.hid (HNX.out (by trivial)), HB3.out⟩
            case measure => simp [intOf]; try omega
        · obtain rfl : q = 0 := by omega
          have HST := Lib.hid (ordl_step HO.out hat (fun p hp => HK.out.no p (Nat.zero_le _) hp) HK.out.yes)
          have hc1 : i ≤ c' := HL2.out.2.1
          have hac : at_ ≤ c' := by omega
          have hiL := Lib.hid HO.out.len
          clear HK HL HB HO hq hq0
          have B1 : Below wr.heap.size wr (wr.alloc (.cells #[] 3)) := (Below.refl _ _).alloc (Nat.le_refl _) _
          have O1 : (wr.alloc (.cells #[] 3)).ownsRow wr.heap.size 3 1 (.slice (some ⟨wr.heap.size, 0, none⟩) 0 0) 0 (([] : List Nat).map natV) := World.ownsRow_made wr #[] 0 (Nat.le_refl _) (Nat.zero_le _) rfl
          have B1 := Lib.hid B1
          have O1 := Lib.hid O1
          go_wp2_with (at_builtin; refine wpList_append_nls rfl _ _ rfl wr.heap.size _ 0 [] rfl O1.out B at_ c' (L.take at_) rfl (HL2.out.upto hat) B1.out (by omega) B1.out.size ?_)
          intro v1 w3 hown1 hg1
          have B2 := Lib.hid (own_below B1.out O1.out hg1)
          have O2 := Lib.hid (show OwnN w3 wr.heap.size v1 at_ (L.take at_) by simpa using hown1)
          clear hown1 hg1 B1 O1
          have B3 := Lib.hid (B2.out.alloc B2.out.size (.cells #[.int .i64 i] 3))
          have O3 := Lib.hid (show OwnN _ wr.heap.size v1 at_ (L.take at_) from World.ownsRow.alloc O2.out (.cells #[.int .i64 i] 3))
          have N3 := Lib.hid (nls_one w3 i 3)
          clear B2 O2
          go_wp2_with (at_builtin; refine wpList_append_nls rfl _ _ rfl wr.heap.size v1 at_ (L.take at_) rfl O3.out (some ⟨w3.heap.size, 0, none⟩) 1 1 [i] rfl N3.out (Below.refl _ _) (by omega) B3.out.size ?_)
          intro v2 w4 hown2 hg2
          have B4 := Lib.hid (own_below B3.out O3.out hg2)
          have O4 := Lib.hid (show OwnN w4 wr.heap.size v2 (at_ + 1) (L.take at_ ++ [i]) by simpa using hown2)
          clear hown2 hg2 B3 O3 N3
          have HL5 := Lib.hid (HL2.out.from hat)
          have hX : (if c' = at_ then B else B.map (fun x => x.add at_)) = cutI B at_ c' := rfl
          have hX1 : (if c' = at_ then B else B.map (fun x => x.add (at_ * 1))) = cutI B at_ c' := by simp only [Nat.mul_one]; rfl
          go_wp2_with (at_builtin; refine wpList_append_nls rfl _ _ rfl wr.heap.size v2 (at_ + 1) (L.take at_ ++ [i]) rfl O4.out (cutI B at_ c') (i - at_) (c' - at_) (L.drop at_) rfl HL5.out B4.out (by omega) B4.out.size ?_)
          all_goals
            intro v3 w5 hown3 hg3
            have B5 := Lib.hid (own_below B4.out O4.out hg3)
            have O5 := Lib.hid (show OwnN w5 wr.heap.size v3 (i + 1) (L.take at_ ++ [i] ++ L.drop at_) by
              rw [show i + 1 = at_ + 1 + (i - at_) by omega]
              simpa using hown3)
            clear hown3 hg3 B4 O4 HL5 hX hX1
            go_wp2
            obtain ⟨A6, c6, rfl, hp6⟩ := own_nls (L := L.take at_ ++ [i] ++ L.drop at_) O5.out
            have HP6 := Lib.hid hp6
            clear hp6
            go_roundw
            case rel => exact ⟨i + 1, A6, c6, _, by omega, rfl, by go_num, HP6.out, HST, HBN.out.trans (B5.out.mono HBN.out.size)⟩
            case measure => simp [intOf]; omega
    · obtain rfl : i = n := by omega
      go_wp2
      go_ret
      exact ⟨B, c', nat L, rfl, HL.out.nts, HO.out.is, HB.out⟩
end Go.Proofs.Ythcchaglloggjaa
