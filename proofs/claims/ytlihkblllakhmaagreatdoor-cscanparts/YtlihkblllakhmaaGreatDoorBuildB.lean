/- A byte written to a builder. -/
import Derived.Test.YtlihkblllakhmaaGreatDoorBuild
namespace Go.Proofs.YtlihkblllakhmaaGreatDoor
open Go.RowKit Go.Shelf
set_option maxHeartbeats 2000000 in
set_option maxRecDepth 100000 in
theorem writeByte_bld (B b : Nat) (l : List UInt8) (c : UInt8) (w : World) (h : Bld w B b l) (hl : l.length < 70368744177664) (hBw : B ≤ w.heap.size) :
    Calls Tryz.prog 105 #[.pointer (some ⟨b, 0, none⟩), .int .u8 c.toNat] w fun e w' => e = .returned .nilIface ∧ Bld w' B b (l ++ [c]) ∧ Bk B b w w' := by
  obtain ⟨i0, hi, hz0, hz1, hz2⟩ := info_parts info5
  have hB := h.1
  go_enter Tryz.func105, Tryz.ntmps105
  go_wp2_with (go_at_call 117; refine (copyCheck_bld B b l _ h).mono ?_)
  rintro e w1 ⟨rfl, ⟨v, hc, ho⟩, hk⟩
  have hBw1 : B ≤ w1.heap.size := Nat.le_trans hBw hk.1.size
  have c0 : w1.cell? ⟨b, 0, none⟩ = some (.pointer (some ⟨b, 0, none⟩)) := hc.cell 0
  have c1 : w1.cell? ⟨b, 1, none⟩ = some v := hc.cell 1
  go_wp2_with (at_builtin; refine wpList_append_own _ rfl _ _ 146 rfl B 5 i0 (.int .u8 0) 1 1 Tryz.underlying146 hi hz0 hz1 hz2 rfl (by decide) _ _ _ rfl (ho.alloc _) ⟨w1.heap.size, 0, none⟩ 1 1 [.int .u8 c.toNat] rfl rfl (cells_new _ [.int .u8 c.toNat] _) (by simp [Value.oneCell']) (by have := maxLen_big; omega) (by omega) (by simp; omega) ?_)
  intro v' w2 hown' hgrow _
  obtain ⟨g', cap', rfl⟩ := ownsRow_succ hown'
  obtain ⟨r1, r2, r3, r4, r5, r6⟩ := hc.appended (j := 1) (by decide) ho hBw1 hB hown' hgrow
  have d0 : w2.cell? ⟨b, 0, none⟩ = some (.pointer (some ⟨b, 0, none⟩)) := r1.cell 0
  have d1 : w2.cell? ⟨b, 1, none⟩ = some v := r1.cell 1
  have f1 := r1.frozen 1
  go_wp2
  go_ret
  refine ⟨rfl, ⟨hB, _, _, .inr rfl, r2, ?_⟩, hk.trans ⟨r5, r4, r6⟩⟩
  simpa [Lib.byteCells] using r3

end Go.Proofs.YtlihkblllakhmaaGreatDoor
