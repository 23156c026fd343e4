/- The law: a source's commands, or its error and its place, are what the document says. -/
import Derived.Test.YtlihkblllakhmaaGreatDoorRh1
import Derived.Test.YtlihkblllakhmaaGreatDoorRh2
import Derived.Test.YtlihkblllakhmaaGreatDoorScA
import Derived.Test.YtlihkblllakhmaaGreatDoorFw
import Derived.Test.YtlihkblllakhmaaGreatDoorFirst
namespace Go.Proofs.YtlihkblllakhmaaGreatDoor
open Go.RowKit
attribute [local go_sem] Oper.semAt_some

theorem few_of {N : Nat} {l : List UInt8} {ms : List Cm} (hN : l.length = N) (hN' : N ≤ 9000) (h : scanL l = .ok ms) {K : List Mc} (hK : K.map toCm = ms) : Few K ∧ ∀ q ∈ K, FewC N (toCm q) := by
  rw [scanL, hN] at h
  obtain ⟨h1, h2⟩ := scan_few N N l ms (by omega) h
  have hl : K.length = ms.length := by rw [← hK, List.length_map]
  have hm : ∀ q ∈ K, FewC N (toCm q) := fun q hq => h2 _ (by rw [← hK]; exact List.mem_map_of_mem hq)
  refine ⟨⟨by omega, fun q hq => ?_⟩, hm⟩
  obtain ⟨_, a2, a3⟩ := hm q hq
  refine ⟨by simp [toCm] at a2; omega, fun p hp => ?_⟩
  have := (a3 p.2 (by simp only [toCm]; exact List.mem_map_of_mem hp)).2.1
  omega
/-- An error's number among the seventeen, and the document's own. -/
theorem gOf_cod (c : Nat) : ∃ j, j < 17 ∧ gOf c = ordE j ∧ codE c = 101 + (j : Int) := by
  match c with
  | 0 => exact ⟨5, by decide, rfl, rfl⟩
  | 1 => exact ⟨3, by decide, rfl, rfl⟩
  | 2 => exact ⟨2, by decide, rfl, rfl⟩
  | 3 => exact ⟨6, by decide, rfl, rfl⟩
  | n + 4 => exact ⟨4, by decide, rfl, rfl⟩
theorem few_nil : Few [] := ⟨by simp, fun q h => by cases h⟩
theorem cms_nil (W : World) : CmsAt W (.slice none 0 0) [] := CmsAt.own (CmOwn.nil W 0)
set_option maxRecDepth 100000 in
set_option maxHeartbeats 4000000 in
theorem dscan_long (s : ByteArray) (W : World) (hs : 8192 < s.size) :
    Calls Tryz.prog 9 #[.string s] W fun e w' => e = .returned (.tuple #[.slice none 0 0, .agg #[.int .i64 101, .slice none 0 0]]) ∧ Below W.heap.size W w' := by
  have hs' : (8192 : Int) < (s.size : Int) := by omega
  obtain ⟨W0, hW0⟩ : ∃ W0, W0 = W.alloc (.cells #[.int .i64 0, .slice none 0 0] 31) := ⟨_, rfl⟩
  have HW0 : Hid (W.alloc (.cells #[.int .i64 0, .slice none 0 0] 31) = W0) := hW0.symm
  have HB : Hid _ := bareE_any 101 W0
  have HC0 : Hid (Cel W0 W.heap.size 31 #[.int .i64 0, .slice none 0 0]) := by rw [hW0]; exact Cel.new W _ _
  have HB0 : Hid (Below W.heap.size W W0) := by rw [hW0]; exact below_new W _
  clear hW0
  go_enter Tryz.func9, Tryz.ntmps9
  go_wp2_with fail
  rw [HW0.out]
  refine Calls.mono HB.out ?_
  rintro e w1 ⟨rfl, hb1⟩
  have HC1 : Hid (Cel w1 W.heap.size 31 #[.int .i64 0, .slice none 0 0]) := HC0.out.below hb1 HC0.out.lt
  have HB1 : Hid (Below W.heap.size W w1) := HB0.out.trans (hb1.mono HB0.out.size)
  have r0 : w1.cell? ⟨W.heap.size, 0, none⟩ = some (.int .i64 0) := HC1.out.cell 0
  have r1 : w1.cell? ⟨W.heap.size, 1, none⟩ = some (.slice none 0 0) := HC1.out.cell 1
  have rf0 := HC1.out.frozen 0
  have rf1 := HC1.out.frozen 1
  clear hb1 HB HC0 HB0 HW0
  go_wp2_with fail
  refine bodyPost_ret (results_flt (p := 3) (u := 2) rfl _ _ W.heap.size _ rfl ((HC1.out.set (j := 0) (.int .i64 101)).set (j := 1) (.slice none 0 0)) rfl) rfl ?_
  exact ⟨rfl, (HB1.out.setCell (p := ⟨W.heap.size, 0, none⟩) (Nat.le_refl _) _).setCell (p := ⟨W.heap.size, 1, none⟩) (Nat.le_refl _) _⟩
set_option maxRecDepth 100000 in
set_option maxHeartbeats 4000000 in
theorem says_mid (s : ByteArray) (W : World) (ea : Nat → Addr) (hE : Env W ea) (hW : (ea 64).block ≤ W.heap.size) (hs : 1500 < s.size) (hs2 : s.size ≤ 8192) :
    Calls Tryz.prog 3 #[.string s] W fun e w' => e = .returned (.bool true) ∧ Below W.heap.size W w' := by
  have HF : Hid _ := first_any W ea hE hW
  have hs' : (1500 : Int) < (s.size : Int) := by omega
  have hs2' : (s.size : Int) ≤ 8192 := by omega
  clear hE
  go_enter Tryz.func3, Tryz.ntmps3
  go_wp2_with fail
  refine Calls.mono HF.out ?_
  rintro e w1 ⟨rfl, hb1⟩
  have HB1 : Hid (Below W.heap.size W w1) := hb1
  clear hb1 HF
  go_wp2_with fail
  go_ret
  exact ⟨rfl, HB1.out⟩
set_option maxRecDepth 100000 in
set_option maxHeartbeats 4000000 in
theorem says_great (s : ByteArray) (W : World) (ea : Nat → Addr) (hE : Env W ea) (hW : (ea 64).block ≤ W.heap.size) (hs : 8192 < s.size) :
    Calls Tryz.prog 3 #[.string s] W fun e w' => e = .returned (.bool true) ∧ Below W.heap.size W w' := by
  have HF : Hid _ := first_any W ea hE hW
  have hs' : (1500 : Int) < (s.size : Int) := by omega
  have hs2' : ¬ (s.size : Int) ≤ 8192 := by omega
  have HE : Hid (∀ w, Below W.heap.size W w → Env w ea) := fun w hb => hE.below hb
  clear hE
  go_enter Tryz.func3, Tryz.ntmps3
  go_wp2_with fail
  refine Calls.mono HF.out ?_
  rintro e w1 ⟨rfl, hb1⟩
  have HB1 : Hid (Below W.heap.size W w1) := hb1
  have HLX : Hid _ := scan_long s w1 ea (HE.out _ hb1) hs
  clear hb1 HF
  go_wp2_with fail
  refine Calls.mono HLX.out ?_
  rintro e w2 ⟨rfl, m, hw2⟩
  have HB2 : Hid (Below W.heap.size W w2) := by rw [hw2]; exact HB1.out.trans ⟨rfl, rfl, rfl, Nat.le_refl _, fun _ _ => rfl⟩
  have HLR : Hid _ := dscan_long s w2 hs
  clear hw2 HLX HB1
  go_wp2_with fail
  refine Calls.mono HLR.out ?_
  rintro e w3 ⟨rfl, hb3⟩
  have HB3 : Hid (Below W.heap.size W w3) := HB2.out.trans (hb3.mono HB2.out.size)
  have HB3' : Hid (Below W.heap.size W (w3.alloc (.cells #[.int .i64 101, .slice none 0 0] 31))) := HB3.out.alloc HB3.out.size _
  have HSA : Hid _ := same_sent (w3.alloc (.cells #[.int .i64 101, .slice none 0 0] 31)) ea (HE.out _ HB3'.out) 0 (by decide) _ rfl 101 (by decide)
  clear hb3 HLR HB2
  go_wp2_with fail
  refine Calls.mono HSA.out ?_
  rintro e w4 ⟨rfl, hb4⟩
  have HB4 : Hid (Below W.heap.size W w4) := HB3'.out.trans (hb4.mono HB3'.out.size)
  have HMA : Hid _ := made_any w4 (.slice none 0 0) [] (cms_nil w4) few_nil
  clear hb4 HSA HB3 HB3'
  go_wp2_with fail
  refine Calls.mono HMA.out ?_
  rintro e w5 ⟨v5, K5, rfl, hK5, hr5, hb5⟩
  have HB5 : Hid (Below W.heap.size W w5) := HB4.out.trans (hb5.mono HB4.out.size)
  obtain rfl : K5 = [] := by simpa using hK5
  have HST : Hid _ := sameCommands_any w5 v5 (.slice none 0 0) [] [] hr5.at_ (QmOwn.nil w5 0).at_ rfl few_nil
  clear hb5 HMA hK5 hr5 HB4
  go_wp2_with fail
  refine Calls.mono HST.out ?_
  rintro e w6 ⟨rfl, hb6⟩
  have HB6 : Hid (Below W.heap.size W w6) := HB5.out.trans (hb6.mono HB5.out.size)
  clear hb6 HST HB5
  go_wp2_with fail
  go_loopw [8] (fun v8 wr => v8 = .int .i64 0 ∧ wr = w6) (fun _ _ => 0)
  case atStart => exact ⟨rfl, rfl⟩
  case round =>
    obtain ⟨rfl, rfl⟩ := hrel
    go_wp2_with fail
    go_ret
    exact ⟨rfl, HB6.out⟩
set_option maxRecDepth 100000 in
set_option maxHeartbeats 4000000 in
theorem says_err (s : ByteArray) (W : World) (ea : Nat → Addr) (hE : Env W ea) (hW : (ea 64).block ≤ W.heap.size) (hs : s.size ≤ 1500) (x : Er) (hx : scanL s.data.toList = .error x) :
    Calls Tryz.prog 3 #[.string s] W fun e w' => e = .returned (.bool true) ∧ Below W.heap.size W w' := by
  have HF : Hid _ := first_any W ea hE hW
  have hs' : ¬ (1500 : Int) < (s.size : Int) := by omega
  have hd' : decide ((1500 : Int) < (s.size : Int)) = false := by simp; omega
  have HE : Hid (∀ w, Below W.heap.size W w → Env w ea) := fun w hb => hE.below hb
  obtain ⟨xj, hj, hgj, hcj⟩ := gOf_cod x.code
  have HGJ : Hid (gOf x.code = ordE xj) := hgj
  have HCJ : Hid (codE x.code = 101 + (xj : Int)) := hcj
  have HX : Hid (scanL s.data.toList = .error x) := hx
  clear hE hgj hcj hx
  go_enter Tryz.func3, Tryz.ntmps3
  go_wp2_with fail
  refine Calls.mono HF.out ?_
  rintro e w1 ⟨rfl, hb1⟩
  have HB1 : Hid (Below W.heap.size W w1) := hb1
  have HL := scan_any s w1 ea (HE.out _ hb1) (Nat.le_trans hW hb1.size) (by omega)
  rw [HX.out] at HL
  have HLX : Hid _ := HL
  clear HL hb1 HF
  go_wp2_with fail
  refine Calls.mono HLX.out ?_
  rintro e w2 ⟨v, ev, rfl, ⟨rfl, q, rfl, hq⟩, hb2⟩
  have HB2 : Hid (Below W.heap.size W w2) := HB1.out.trans (Below.mono hb2 HB1.out.size)
  have HQ2 : Hid (Cel w2 q 121 #[.int .i64 (x.pos : Nat), errV (ea (gOf x.code))]) := hq
  have HL := dscan_any s w2 (by omega)
  rw [HX.out] at HL
  have HLR : Hid _ := HL
  clear HL hb2 HLX hq HB1
  go_wp2_with fail
  refine Calls.mono HLR.out ?_
  rintro e w3 ⟨v3, fv3, rfl, hb3, rfl, fb, rfl, hfb⟩
  have HB3 : Hid (Below W.heap.size W w3) := HB2.out.trans (hb3.mono HB2.out.size)
  obtain ⟨W4, hW4⟩ : ∃ W4, W4 = w3.alloc (.cells #[.int .i64 (codE x.code), .slice (some ⟨fb, 0, none⟩) 1 1] 31) := ⟨_, rfl⟩
  have HB4 : Hid (Below W.heap.size W W4) := by rw [hW4]; exact HB3.out.alloc HB3.out.size _
  have hq4 : Cel W4 q 121 #[.int .i64 (x.pos : Nat), errV (ea (gOf x.code))] := by
    have h3 : Cel w3 q 121 #[.int .i64 (x.pos : Nat), errV (ea (gOf x.code))] := HQ2.out.below hb3 HQ2.out.lt
    rw [hW4]; exact h3.below (below_new _ _) h3.lt
  have hf4 : Cel W4 fb 3 #[.int .i64 (x.pos : Nat)] := by rw [hW4]; exact hfb.below (below_new _ _) hfb.lt
  have HSA : Hid _ := same_any W4 ea (HE.out _ HB4.out) xj hj _ (by rw [HGJ.out]) q x.pos hq4 fb hf4 (codE x.code) HCJ.out
  have HW4 : Hid (w3.alloc (.cells #[.int .i64 (codE x.code), .slice (some ⟨fb, 0, none⟩) 1 1] 31) = W4) := hW4.symm
  have q0 : W4.cell? ⟨w3.heap.size, 0, none⟩ = some (.int .i64 (codE x.code)) := by rw [hW4]; exact (Cel.new w3 _ _).cell 0
  have q1 : W4.cell? ⟨w3.heap.size, 1, none⟩ = some (.slice (some ⟨fb, 0, none⟩) 1 1) := by rw [hW4]; exact (Cel.new w3 _ _).cell 1
  clear hb3 HLR HB2 HQ2 hfb hq4 hf4 hW4
  go_upto_region 6 with fail
  rw [HW4.out]
  go_wp2_with fail
  refine Calls.mono HSA.out ?_
  rintro e w4 ⟨rfl, hb4⟩
  have HB5 : Hid (Below W.heap.size W w4) := HB4.out.trans (hb4.mono HB4.out.size)
  have HMA : Hid _ := made_any w4 (.slice none 0 0) [] (cms_nil w4) few_nil
  clear hb4 HSA HB3 HB4 q0 q1
  go_wp2_with fail
  refine Calls.mono HMA.out ?_
  rintro e w5 ⟨v5, K5, rfl, hK5, hr5, hb5⟩
  have HB6 : Hid (Below W.heap.size W w5) := HB5.out.trans (hb5.mono HB5.out.size)
  obtain rfl : K5 = [] := by simpa using hK5
  have HST : Hid _ := sameCommands_any w5 v5 (.slice none 0 0) [] [] hr5.at_ (QmOwn.nil w5 0).at_ rfl few_nil
  clear hb5 HMA hK5 hr5 HB5
  go_wp2_with fail
  refine Calls.mono HST.out ?_
  rintro e w6 ⟨rfl, hb6⟩
  have HB7 : Hid (Below W.heap.size W w6) := HB6.out.trans (hb6.mono HB6.out.size)
  clear hb6 HST HB6
  go_wp2_with fail
  go_loopw [8] (fun v8 wr => v8 = .int .i64 0 ∧ wr = w6) (fun _ _ => 0)
  case atStart => exact ⟨rfl, rfl⟩
  case round =>
    obtain ⟨rfl, rfl⟩ := hrel
    go_wp2_with fail
    go_ret
    exact ⟨rfl, HB7.out⟩
end Go.Proofs.YtlihkblllakhmaaGreatDoor
