/- A text between braces. -/
import Derived.Test.YtlihkblllakhmaaGreatDoorRdE
namespace Go.Proofs.YtlihkblllakhmaaGreatDoor
open Go.RowKit
attribute [local go_sem] Oper.semAt_some

def bracedL (l : List UInt8) : List UInt8 := 123 :: (l ++ [125])
def braceB (l : List UInt8) : Option (List UInt8) := if readsB (bracedL l) l then some (bracedL l) else none
theorem braced_bytes (s : ByteArray) : (⟨#[123]⟩ ++ s ++ ⟨#[125]⟩ : ByteArray) = ⟨(bracedL s.data.toList).toArray⟩ := by
  apply ByteArray.ext
  simp [bracedL]
set_option maxRecDepth 100000 in
set_option maxHeartbeats 4000000 in
theorem brace_any (s : ByteArray) (W : World) (ea : Nat → Addr) (hE : Env W ea) (hW : (ea 64).block ≤ W.heap.size) (hs : s.size < 4611686018427387904) :
    Calls Tryz.prog 16 #[.string s] W fun e w' => e = .returned (.tuple (txtV (braceB s.data.toList))) ∧ Below W.heap.size W w' := by
  obtain ⟨B, HBB⟩ : ∃ B, Hid ((⟨#[123]⟩ ++ s ++ ⟨#[125]⟩ : ByteArray) = B) := ⟨_, rfl⟩
  have HBL : Hid (B = ⟨(bracedL s.data.toList).toArray⟩) := by unfold Hid; rw [← HBB.out, braced_bytes]
  have HR : Hid _ := reads_any B s W ea hE hW
  have HD : Hid (B.data.toList = bracedL s.data.toList) := by unfold Hid; rw [HBL.out]
  have hb1 : ¬ 9223372036854775807 < 1 + s.size := by omega
  have hb2 : ¬ 9223372036854775807 < 1 + s.size + 1 := by omega
  unfold braceB
  clear hE
  cases hr : readsB (bracedL s.data.toList) s.data.toList with
  | true =>
    rw [HD.out, hr] at HR
    rw [if_pos rfl]
    have HS : Hid (txtV (some (bracedL s.data.toList)) = #[.string B, .bool true]) := by unfold Hid; rw [HBL.out]; rfl
    rw [HS.out]
    clear hr HD HBL HS
    go_enter Tryz.func16, Tryz.ntmps16
    go_wp2_with fail
    rw [HBB.out]
    refine Calls.mono HR.out ?_
    rintro e w1 ⟨rfl, hb⟩
    have HB : Hid (Below W.heap.size W w1) := hb
    clear hb HR
    go_wp2_with fail
    go_ret2
    exact ⟨rfl, HB.out⟩
  | false =>
    rw [HD.out, hr] at HR
    rw [if_neg (by simp)]
    unfold txtV
    clear hr HD HBL
    go_enter Tryz.func16, Tryz.ntmps16
    go_wp2_with fail
    rw [HBB.out]
    refine Calls.mono HR.out ?_
    rintro e w1 ⟨rfl, hb⟩
    have HB : Hid (Below W.heap.size W w1) := hb
    clear hb HR
    go_wp2_with fail
    go_ret2
    exact ⟨rfl, HB.out⟩
end Go.Proofs.YtlihkblllakhmaaGreatDoor
