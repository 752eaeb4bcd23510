/- The walk of KeyCuts: it returns true, and nothing that was there before the call is changed. Condition: what came in can be read. -/
import Derived.Test.YtmpbipeoafepaaaKu
import Derived.Deep.DeepCutAuto
namespace Go.Proofs.Ytmpbipeoafepaaa
open Go.RowKit
set_option linter.unusedVariables false

/-- The law's two ranges in blocks of their own, and what was there. -/
structure Duo (w w1 : World) (x y x' y' : Value) : Prop where
  b0 : Box w1 w.heap.size x y
  b1 : Box w1 (w.heap.size + 1) x' y'
  bel : Below w.heap.size w w1

theorem Duo.start (w : World) (x y x' y' : Value) : Duo w ((w.alloc (.cells #[x, y] 24)).alloc (.cells #[x', y'] 24)) x y x' y' := by
  refine ⟨(Box.new w x y).alloc _, ?_, ((Below.refl _ _).alloc (Nat.le_refl _) _).alloc (by simp) _⟩
  have := Box.new (w.alloc (.cells #[x, y] 24)) x' y'
  simpa using this
theorem Duo.below {w w1 w2 : World} {x y x' y' : Value} (h : Duo w w1 x y x' y') (hb : Below w1.heap.size w1 w2) : Duo w w2 x y x' y' :=
  ⟨h.b0.below hb h.b0.lt, h.b1.below hb h.b1.lt, h.bel.trans (hb.mono h.bel.size)⟩
theorem Duo.alloc {w w1 : World} {x y x' y' : Value} (h : Duo w w1 x y x' y') (o : Obj) : Duo w (w1.alloc o) x y x' y' :=
  h.below ((Below.refl _ _).alloc (Nat.le_refl _) _)

def b6 (l k x : List UInt8) : Bool := !inB l k x || sameB l x
def b1 (l k x : List UInt8) : Bool := !soundB l k || !mayB x
def k6 (l k x : List UInt8) : Int := if b6 l k x then 6 else 0
def k1 (l k x : List UInt8) : Int := if b1 l k x then 1 else k6 l k x
theorem sameB_swap (l k : List UInt8) : sameB l k = sameB k l := by
  unfold sameB
  rw [Bool.eq_iff_iff]
  simp
  exact ⟨fun h => h.symm, fun h => h.symm⟩
theorem k1_eq (l k x : List UInt8) : k1 l k x = cutK l k x := by
  unfold k1 k6 b1 b6 cutK
  rw [sameB_swap l x]
  cases soundB l k <;> cases mayB x <;> cases inB l k x <;> cases sameB x l <;> rfl

def d6 (k l' : List UInt8) : Bool := decide (k.length = 0) || !sameB k l'
def d1 (l k l' k' : List UInt8) : Bool := !soundB l k || !soundB l' k'
def j6 (k l' : List UInt8) : Int := if d6 k l' then 6 else 0
def j1 (l k l' k' : List UInt8) : Int := if d1 l k l' k' then 1 else j6 k l'
theorem j1_eq (l k l' k' : List UInt8) : j1 l k l' k' = joinK l k l' k' := by
  unfold j1 j6 d1 d6 joinK followsB
  have e : decide (0 < k.length) = !decide (k.length = 0) := by
    rw [Bool.eq_iff_iff]
    simp
    constructor
    · intro h e
      simp [e] at h
    · intro h
      exact List.length_pos_iff.2 h
  rw [e]
  cases soundB l k <;> cases soundB l' k' <;> cases decide (k.length = 0) <;> cases sameB k l' <;> rfl

theorem cutK_le (l k x : List UInt8) : 0 ≤ cutK l k x ∧ cutK l k x ≤ 11 := by unfold cutK; split <;> (try split) <;> omega
theorem joinK_le (l k l' k' : List UInt8) : 0 ≤ joinK l k l' k' ∧ joinK l k l' k' ≤ 11 := by unfold joinK; split <;> (try split) <;> omega
theorem ranges_same {w : World} {A B C D : Option Addr} {n m o p : Nat} (c d q s : Nat) {l k : List UInt8} (h1 : Byt w A n l) (h2 : Byt w B m k) (h3 : Byt w C o l) (h4 : Byt w D p k) :
    Calls Try.prog 11 #[.agg #[.slice A n c, .slice B m d], .agg #[.slice C o q, .slice D p s]] w fun e w' => e = .returned (.bool true) ∧ Below w.heap.size w w' := by
  have := ranges_any c d q s h1 h2 h3 h4
  rw [show (sameB l l && sameB k k) = true by simp [sameB]] at this
  exact this

set_option maxRecDepth 100000 in
set_option maxHeartbeats 4000000 in
theorem cuts_short {w : World} {A B C D E : Option Addr} {n m o p v : Nat} (c d q u t : Nat) {l k x l' k' : List UInt8} (h1 : Byt w A n l) (h2 : Byt w B m k) (h3 : Byt w C o x) (h4 : Byt w D p l') (h5 : Byt w E v k')
    (hn : n ≤ 1000) (hm : m ≤ 1000) (ho : o ≤ 1000) (hp : p ≤ 1000) (hv : v ≤ 1000) :
    Calls Try.prog 3 #[.agg #[.slice A n c, .slice B m d], .slice C o q, .agg #[.slice D p u, .slice E v t]] w fun e w' => e = .returned (.bool true) ∧ Below w.heap.size w w' := by
  have H1 := Lib.hid h1
  have H2 := Lib.hid h2
  have H3 := Lib.hid h3
  have H4 := Lib.hid h4
  have H5 := Lib.hid h5
  clear h1 h2 h3 h4 h5
  have hmax : Hid (1000 ≤ maxLen) := Lib.hid (by unfold maxLen; omega)
  have D0 := Lib.hid (Duo.start w (.slice A n c) (.slice B m d) (.slice D p u) (.slice E v t))
  have g1 : decide (1000 < (o : Int)) = false := by simp; omega
  have g2 : decide (1000 < (n : Int)) = false := by simp; omega
  have g3 : decide (1000 < (m : Int)) = false := by simp; omega
  have g4 : decide (1000 < (p : Int)) = false := by simp; omega
  have g5 : decide (1000 < (v : Int)) = false := by simp; omega
  go_enter Try.func3, Try.ntmps3
  go_wp2_with fail
  refine (up_any _).mono ?_
  rintro e w1 ⟨rfl, hb1⟩
  have D1 := Lib.hid (D0.out.below hb1)
  clear D0 hb1
  have c0 := D1.out.b0.c0
  have c1 := D1.out.b0.c1
  have c2 := D1.out.b1.c0
  have c3 := D1.out.b1.c1
  go_wp2_with fail
  refine (rsound_any c d (H1.out.below D1.out.bel) (H2.out.below D1.out.bel) (Nat.le_trans hn hmax.out) (Nat.le_trans hm hmax.out)).mono ?_
  rintro e w2 ⟨rfl, hb2⟩
  have D2 := Lib.hid (D1.out.below hb2)
  clear D1 hb2 c0 c1 c2 c3 g1 g2 g3 g4 g5
  have c0 := D2.out.b0.c0
  have c1 := D2.out.b0.c1
  go_wp2_with fail
  refine (rmay_any q (H3.out.below D2.out.bel) (Nat.le_trans ho hmax.out)).mono ?_
  rintro e w2 ⟨rfl, rfl⟩
  go_wp2_with fail
  refine (rin_any c d q (H1.out.below D2.out.bel) (H2.out.below D2.out.bel) (H3.out.below D2.out.bel) (Nat.le_trans hn hmax.out) (Nat.le_trans hm hmax.out) (Nat.le_trans ho hmax.out)).mono ?_
  rintro e w3 ⟨rfl, hb3⟩
  have D3 := Lib.hid (D2.out.below hb3)
  clear D2 hb3 c0 c1
  have c0 := D3.out.b0.c0
  have c1 := D3.out.b0.c1
  go_wp2_with fail
  refine (same_any c q (H1.out.below D3.out.bel) (H3.out.below D3.out.bel)).mono ?_
  rintro e w3 ⟨rfl, rfl⟩
  go_upto_region 9 with fail
  go_cut [10, 11, 64] (fun _ _ s64 wx => s64 = .bool (b6 l k x) ∧ w3 = wx)
  case first =>
    cases hi : inB l k x
    all_goals
      go_wp2_with fail
      go_meet
      exact ⟨by simp [b6, hi], rfl⟩
  case rest =>
    obtain ⟨rfl, rfl⟩ := hcut
    go_upto_if 64 with fail
    go_cut [12] (fun s12 wx => s12 = .int .i64 (k6 l k x) ∧ w3 = wx)
    case first =>
      cases hi : b6 l k x
      all_goals
        go_wp2_with fail
        go_meet
        exact ⟨by simp [k6, hi], rfl⟩
    case rest =>
      obtain ⟨rfl, rfl⟩ := hcut
      go_upto_region 11 with fail
      go_cut [8, 9, 70] (fun s8 _ s70 wx => s8 = .bool (soundB l k) ∧ s70 = .bool (b1 l k x) ∧ w3 = wx)
      case first =>
        cases hi : soundB l k
        all_goals
          go_wp2_with fail
          go_meet
          exact ⟨by rw [hi], by simp [b1, hi], rfl⟩
      case rest =>
        obtain ⟨rfl, rfl, rfl⟩ := hcut
        go_upto_if 70 with fail
        go_cut [12] (fun s12 wx => s12 = .int .i64 (cutK l k x) ∧ w3 = wx)
        case first =>
          cases hi : b1 l k x
          all_goals
            go_wp2_with fail
            go_meet
            exact ⟨by rw [← k1_eq]; simp [k1, hi], rfl⟩
        case rest =>
          obtain ⟨rfl, rfl⟩ := hcut
          go_wp2_with fail
          refine (cut_any c d q (H1.out.below D3.out.bel) (H2.out.below D3.out.bel) (H3.out.below D3.out.bel) hn hm ho).mono ?_
          rintro e w4 ⟨A1, n1, x1, B1, m1, y1, A2, n2, x2, B2, m2, y2, rfl, hk, hb4⟩
          have KK := Lib.hid hk
          have D4 := Lib.hid (((D3.out.below hb4).alloc (.cells #[.slice A1 n1 x1, .slice B1 m1 y1] 24)).alloc (.cells #[.slice A2 n2 x2, .slice B2 m2 y2] 24))
          clear hk hb4 D3 c0 c1
          go_wp2_with fail
          refine (code_any (cutK l k x) _ (cutK_le l k x).1 (cutK_le l k x).2).mono ?_
          rintro e w5 ⟨rfl, rfl⟩
          have c0 := D4.out.b0.c0
          have c1 := D4.out.b0.c1
          go_upto_region 16 with fail
          go_cut [12, 101] (fun _ s101 wx => s101 = .bool false ∧ Duo w wx (.slice A n c) (.slice B m d) (.slice D p u) (.slice E v t))
          case first =>
            by_cases hk0 : cutK l k x = 0
            · obtain ⟨⟨p1, p2⟩, p3, p4⟩ := KK.out hk0
              have R1 := Lib.hid (ranges_same x1 y1 c q ((p1.alloc (.cells #[.slice A1 n1 x1, .slice B1 m1 y1] 24)).alloc (.cells #[.slice A2 n2 x2, .slice B2 m2 y2] 24)) ((p2.alloc (.cells #[.slice A1 n1 x1, .slice B1 m1 y1] 24)).alloc (.cells #[.slice A2 n2 x2, .slice B2 m2 y2] 24)) (H1.out.below D4.out.bel) (H3.out.below D4.out.bel))
              have P3 := Lib.hid ((p3.alloc (.cells #[.slice A1 n1 x1, .slice B1 m1 y1] 24)).alloc (.cells #[.slice A2 n2 x2, .slice B2 m2 y2] 24))
              have P4 := Lib.hid ((p4.alloc (.cells #[.slice A1 n1 x1, .slice B1 m1 y1] 24)).alloc (.cells #[.slice A2 n2 x2, .slice B2 m2 y2] 24))
              have hz : (cutK l k x == 0) = true := by simp [hk0]
              clear hk0 p1 p2 p3 p4
              go_wp2_with fail
              refine R1.out.mono ?_
              rintro e w6 ⟨rfl, hb6⟩
              have D6 := D4.out.below hb6
              have R2 := Lib.hid (ranges_same x2 y2 q d (P3.out.below hb6) (P4.out.below hb6) (H3.out.below D6.bel) (H2.out.below D6.bel))
              have x0 : Box ((w4.alloc (.cells #[.slice A1 n1 x1, .slice B1 m1 y1] 24)).alloc (.cells #[.slice A2 n2 x2, .slice B2 m2 y2] 24)) (w4.heap.size + 1) (.slice A2 n2 x2) (.slice B2 m2 y2) := by
                have := Box.new (w4.alloc (.cells #[.slice A1 n1 x1, .slice B1 m1 y1] 24)) (.slice A2 n2 x2) (.slice B2 m2 y2)
                simpa using this
              have z0 := (x0.below hb6 x0.lt).c0
              have z1 := (x0.below hb6 x0.lt).c1
              have e0 := D6.b0.c0
              have e1 := D6.b0.c1
              have D6 := Lib.hid D6
              clear x0 hb6 c0 c1
              go_wp2_with fail
              refine R2.out.mono ?_
              rintro e w7 ⟨rfl, hb7⟩
              have D7 := Lib.hid (D6.out.below hb7)
              clear hb7 z0 z1 e0 e1
              go_wp2_with fail
              go_meet
              exact ⟨rfl, D7.out⟩
            · have hz : (cutK l k x == 0) = false := by simp [hk0]
              clear hk0
              go_wp2_with fail
              go_meet
              exact ⟨rfl, D4.out⟩
          case rest =>
            obtain ⟨rfl, D5⟩ := hcut
            clear D4 KK c0 c1
            have c2 := D5.b1.c0
            have c3 := D5.b1.c1
            have c0 := D5.b0.c0
            have c1 := D5.b0.c1
            have D5 := Lib.hid D5
            go_wp2_with fail
            refine (rsound_any u t (H4.out.below D5.out.bel) (H5.out.below D5.out.bel) (Nat.le_trans hp hmax.out) (Nat.le_trans hv hmax.out)).mono ?_
            rintro e w6 ⟨rfl, hb6⟩
            have D6 := Lib.hid (D5.out.below hb6)
            clear D5 hb6 c0 c1 c2 c3
            have c0 := D6.out.b0.c0
            have c1 := D6.out.b0.c1
            have c2 := D6.out.b1.c0
            have c3 := D6.out.b1.c1
            go_wp2_with fail
            refine (same_any d u (H2.out.below D6.out.bel) (H4.out.below D6.out.bel)).mono ?_
            rintro e w6 ⟨rfl, rfl⟩
            go_upto_region 21 with fail
            go_cut [17, 116] (fun _ s116 wx => s116 = .bool (d6 k l') ∧ w6 = wx)
            case first =>
              have hd : d6 k l' = (decide (m = 0) || !sameB k l') := by rw [← H2.out.1]; rfl
              have HD := Lib.hid hd
              clear hd
              have h0 : m = 0 ∨ (((m : Int) == 0) = false ∧ 0 < m) := by
                by_cases h : m = 0
                · exact .inl h
                · exact .inr ⟨by simp; omega, by omega⟩
              rcases h0 with rfl | ⟨h0, h00⟩
              · go_wp2_with fail
                go_meet
                exact ⟨by rw [HD.out]; simp, rfl⟩
              · have hne : decide (m = 0) = false := by simp; omega
                have HN := Lib.hid hne
                clear hne
                go_wp2_with fail
                go_meet
                exact ⟨by rw [HD.out, HN.out]; simp, rfl⟩
            case rest =>
              obtain ⟨rfl, rfl⟩ := hcut
              go_upto_if 116 with fail
              go_cut [12] (fun s12 wx => s12 = .int .i64 (j6 k l') ∧ w6 = wx)
              case first =>
                cases hi : d6 k l'
                all_goals
                  go_wp2_with fail
                  go_meet
                  exact ⟨by simp [j6, hi], rfl⟩
              case rest =>
                obtain ⟨rfl, rfl⟩ := hcut
                go_upto_region 23 with fail
                go_cut [8, 16, 122] (fun _ _ s122 wx => s122 = .bool (d1 l k l' k') ∧ w6 = wx)
                case first =>
                  cases hi : soundB l k
                  all_goals
                    go_wp2_with fail
                    go_meet
                    exact ⟨by simp [d1, hi], rfl⟩
                case rest =>
                  obtain ⟨rfl, rfl⟩ := hcut
                  go_upto_if 122 with fail
                  go_cut [12] (fun s12 wx => s12 = .int .i64 (joinK l k l' k') ∧ w6 = wx)
                  case first =>
                    cases hi : d1 l k l' k'
                    all_goals
                      go_wp2_with fail
                      go_meet
                      exact ⟨by rw [← j1_eq]; simp [j1, hi], rfl⟩
                  case rest =>
                    obtain ⟨rfl, rfl⟩ := hcut
                    go_wp2_with fail
                    refine (join_any c d u t (H1.out.below D6.out.bel) (H2.out.below D6.out.bel) (H4.out.below D6.out.bel) (H5.out.below D6.out.bel) hn hm hp hv).mono ?_
                    rintro e w7 ⟨A1, n1, x1, B1, m1, y1, rfl, hk, hb7⟩
                    have KK := Lib.hid hk
                    have D7 := Lib.hid ((D6.out.below hb7).alloc (.cells #[.slice A1 n1 x1, .slice B1 m1 y1] 24))
                    clear hk hb7 D6 c0 c1 c2 c3
                    go_wp2_with fail
                    refine (code_any (joinK l k l' k') _ (joinK_le l k l' k').1 (joinK_le l k l' k').2).mono ?_
                    rintro e w8 ⟨rfl, rfl⟩
                    by_cases hk0 : joinK l k l' k' = 0
                    · obtain ⟨p1, p2⟩ := KK.out hk0
                      have R1 := Lib.hid (ranges_same x1 y1 c t (p1.alloc (.cells #[.slice A1 n1 x1, .slice B1 m1 y1] 24)) (p2.alloc (.cells #[.slice A1 n1 x1, .slice B1 m1 y1] 24)) (H1.out.below D7.out.bel) (H5.out.below D7.out.bel))
                      have hz : (joinK l k l' k' != 0) = false := by simp [hk0]
                      have c0 := D7.out.b0.c0
                      have c3 := D7.out.b1.c1
                      clear hk0 p1 p2
                      go_wp2_with fail
                      refine R1.out.mono ?_
                      rintro e w9 ⟨rfl, hb9⟩
                      have D9 := Lib.hid (D7.out.below hb9)
                      clear hb9 c0 c3
                      go_wp2
                      go_ret
                      exact ⟨rfl, D9.out.bel⟩
                    · have hz : (joinK l k l' k' != 0) = true := by simp [hk0]
                      clear hk0
                      go_wp2
                      go_ret
                      exact ⟨rfl, D7.out.bel⟩
end Go.Proofs.Ytmpbipeoafepaaa
