/- The law's closures over goes, and package trap's Get, by contracts. No condition but that integers and texts are ones of their kinds. -/
import Derived.Test.YthijiomaaiefaaaDoorTc
namespace Go.Proofs.YthijiomaaiefaaaDoor
open Go.RowKit

/-- A way that lies in a block of its own. -/
structure WayAt (w : World) (pb : Nat) (wh cd : Int) (tx : ByteArray) : Prop where
  c0 : w.cell? ⟨pb, 0, none⟩ = some (.int .i64 wh)
  c1 : w.cell? ⟨pb, 0 + 1, none⟩ = some (.int .i64 cd)
  c2 : w.cell? ⟨pb, 0 + 1 + 1, none⟩ = some (.string tx)
  h1 : -9223372036854775808 ≤ wh
  h2 : wh ≤ 9223372036854775807
  h3 : -9223372036854775808 ≤ cd
  h4 : cd ≤ 9223372036854775807
  ht : tx.size ≤ 140737488351232

set_option maxHeartbeats 800000 in
theorem clo_back (pb nb : Nat) (wh cd : Int) (tx : ByteArray) (k : Int) (w : World) (hw : WayAt w pb wh cd tx) (hk : pk wh 5 < 2)
    (hk0 : 0 ≤ k) (hk1 : k ≤ 1000) (hc : w.cell? ⟨nb, 0, none⟩ = some (.int .i64 k)) (hf : w.frozen? ⟨nb, 0, none⟩ = false) (hb : nb < w.heap.size) :
    Calls Tryd.prog 7 #[.pointer (some ⟨pb, 0, none⟩), .pointer (some ⟨nb, 0, none⟩)] w fun e w' => e = .returned (.tuple #[]) ∧ w' = (w.setCell ⟨nb, 0, none⟩ (.int .i64 (k + 1))).alloc (wayB wh cd tx) := by
  obtain ⟨c0, c1, c2, h1, h2, _, _, ht⟩ := hw
  go_enter Tryd.func7, Tryd.ntmps7
  go_wp2_with (go_at_call 8; refine (goes_back _ _ _ nb k _ h1 h2 hk hk0 hk1 hc hf hb).mono ?_; rintro e w' ⟨rfl, rfl⟩)
  go_end0
  exact ⟨rfl, rfl⟩

set_option maxHeartbeats 800000 in
theorem clo_dies (pb nb : Nat) (wh cd : Int) (tx : ByteArray) (w : World) (hw : WayAt w pb wh cd tx) (hk : 2 ≤ pk wh 5) :
    Calls Tryd.prog 7 #[.pointer (some ⟨pb, 0, none⟩), .pointer (some ⟨nb, 0, none⟩)] w (Dies w.heap.size wh cd tx w) := by
  obtain ⟨c0, c1, c2, h1, h2, _, _, ht⟩ := hw
  go_enter Tryd.func7, Tryd.ntmps7
  go_wp2_with (go_at_call 8; refine (goes_dies _ _ _ _ _ h1 h2 (by unfold maxLen; omega) hk).mono ?_; rintro e w' ⟨v, hv, rfl, hbel⟩)
  exact ⟨rfl, _, hv, rfl, hbel⟩

set_option maxHeartbeats 800000 in
theorem clo2_back (pb nb : Nat) (wh cd : Int) (tx : ByteArray) (k : Int) (w : World) (hw : WayAt w pb wh cd tx) (hk : pk wh 5 < 2)
    (hk0 : 0 ≤ k) (hk1 : k ≤ 1000) (hc : w.cell? ⟨nb, 0, none⟩ = some (.int .i64 k)) (hf : w.frozen? ⟨nb, 0, none⟩ = false) (hb : nb < w.heap.size) :
    Calls Tryd.prog 10 #[.pointer (some ⟨pb, 0, none⟩), .pointer (some ⟨nb, 0, none⟩)] w fun e w' => e = .returned (.int .i64 7) ∧ w' = (w.setCell ⟨nb, 0, none⟩ (.int .i64 (k + 1))).alloc (wayB wh cd tx) := by
  obtain ⟨c0, c1, c2, h1, h2, _, _, ht⟩ := hw
  go_enter Tryd.func10, Tryd.ntmps10
  go_wp2_with (go_at_call 8; refine (goes_back _ _ _ nb k _ h1 h2 hk hk0 hk1 hc hf hb).mono ?_; rintro e w' ⟨rfl, rfl⟩)
  go_ret
  exact ⟨rfl, rfl⟩

set_option maxHeartbeats 800000 in
theorem clo2_dies (pb nb : Nat) (wh cd : Int) (tx : ByteArray) (w : World) (hw : WayAt w pb wh cd tx) (hk : 2 ≤ pk wh 5) :
    Calls Tryd.prog 10 #[.pointer (some ⟨pb, 0, none⟩), .pointer (some ⟨nb, 0, none⟩)] w (Dies w.heap.size wh cd tx w) := by
  obtain ⟨c0, c1, c2, h1, h2, _, _, ht⟩ := hw
  go_enter Tryd.func10, Tryd.ntmps10
  go_wp2_with (go_at_call 8; refine (goes_dies _ _ _ _ _ h1 h2 (by unfold maxLen; omega) hk).mono ?_; rintro e w' ⟨v, hv, rfl, hbel⟩)
  exact ⟨rfl, _, hv, rfl, hbel⟩

set_option maxHeartbeats 800000 in
theorem clo3_back (pb nb : Nat) (wh cd : Int) (tx : ByteArray) (k : Int) (w : World) (hw : WayAt w pb wh cd tx) (hk : pk wh 5 < 2)
    (hk0 : 0 ≤ k) (hk1 : k ≤ 1000) (hc : w.cell? ⟨nb, 0, none⟩ = some (.int .i64 k)) (hf : w.frozen? ⟨nb, 0, none⟩ = false) (hb : nb < w.heap.size) :
    Calls Tryd.prog 13 #[.pointer (some ⟨pb, 0, none⟩), .pointer (some ⟨nb, 0, none⟩)] w fun e w' => e = .returned (.tuple #[]) ∧ w' = (w.setCell ⟨nb, 0, none⟩ (.int .i64 (k + 1))).alloc (wayB wh cd tx) := by
  obtain ⟨c0, c1, c2, h1, h2, _, _, ht⟩ := hw
  go_enter Tryd.func13, Tryd.ntmps13
  go_wp2_with (go_at_call 8; refine (goes_back _ _ _ nb k _ h1 h2 hk hk0 hk1 hc hf hb).mono ?_; rintro e w' ⟨rfl, rfl⟩)
  go_end0
  exact ⟨rfl, rfl⟩

set_option maxHeartbeats 800000 in
theorem clo3_dies (pb nb : Nat) (wh cd : Int) (tx : ByteArray) (w : World) (hw : WayAt w pb wh cd tx) (hk : 2 ≤ pk wh 5) :
    Calls Tryd.prog 13 #[.pointer (some ⟨pb, 0, none⟩), .pointer (some ⟨nb, 0, none⟩)] w (Dies w.heap.size wh cd tx w) := by
  obtain ⟨c0, c1, c2, h1, h2, _, _, ht⟩ := hw
  go_enter Tryd.func13, Tryd.ntmps13
  go_wp2_with (go_at_call 8; refine (goes_dies _ _ _ _ _ h1 h2 (by unfold maxLen; omega) hk).mono ?_; rintro e w' ⟨v, hv, rfl, hbel⟩)
  exact ⟨rfl, _, hv, rfl, hbel⟩
end Go.Proofs.YthijiomaaiefaaaDoor
