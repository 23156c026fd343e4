/- The law: a source's tokens are what the document says. -/
import Derived.Test.YtddekcohfbnmbaaDoorRb14
import Derived.Test.YtddekcohfbnmbaaDoorRb15
import Derived.Test.YtddekcohfbnmbaaDoorPureP
namespace Go.Proofs.YtddekcohfbnmbaaDoor
open Go.RowKit
attribute [local go_sem] Oper.semAt_some

/-- An error's number among the seventeen, and the document's own. -/
theorem gOf_cod (c : Nat) : ∃ j, j < 17 ∧ gOf c = ordE j ∧ codE c = 101 + (j : Int) := by
  match c with
  | 0 => exact ⟨5, by decide, rfl, rfl⟩
  | 1 => exact ⟨3, by decide, rfl, rfl⟩
  | 2 => exact ⟨2, by decide, rfl, rfl⟩
  | n + 3 => exact ⟨6, by decide, rfl, rfl⟩
set_option maxRecDepth 100000 in
set_option maxHeartbeats 4000000 in
theorem lexB_long (s : ByteArray) (W : World) (hs : 8192 < s.size) :
    Calls Tryd.prog 9 #[.string s] W fun e w' => e = .returned (.tuple #[.slice none 0 0, .agg #[.int .i64 101, .slice none 0 0]]) ∧ Below W.heap.size W w' := by
  have hs' : (8192 : Int) < (s.size : Int) := by omega
  obtain ⟨W0, hW0⟩ : ∃ W0, W0 = W.alloc (.cells #[.int .i64 0, .slice none 0 0] 31) := ⟨_, rfl⟩
  have HW0 : Hid (W.alloc (.cells #[.int .i64 0, .slice none 0 0] 31) = W0) := hW0.symm
  have HB : Hid _ := bare_any 101 W0
  have HC0 : Hid (Cel W0 W.heap.size 31 #[.int .i64 0, .slice none 0 0]) := by rw [hW0]; exact Cel.new W _ _
  have HB0 : Hid (Below W.heap.size W W0) := by rw [hW0]; exact below_new W _
  clear hW0
  go_enter Tryd.func9, Tryd.ntmps9
  go_wp2_with fail
  rw [HW0.out]
  refine Calls.mono HB.out ?_
  rintro e w1 ⟨rfl, hb1⟩
  have HC1 : Hid (Cel w1 W.heap.size 31 #[.int .i64 0, .slice none 0 0]) := HC0.out.below hb1 HC0.out.lt
  have HB1 : Hid (Below W.heap.size W w1) := HB0.out.trans (hb1.mono HB0.out.size)
  have r0 : w1.cell? ⟨W.heap.size, 0, none⟩ = some (.int .i64 0) := HC1.out.cell 0
  have r1 : w1.cell? ⟨W.heap.size, 1, none⟩ = some (.slice none 0 0) := HC1.out.cell 1
  have rf0 := HC1.out.frozen 0
  have rf1 := HC1.out.frozen 1
  clear hb1 HB HC0 HB0 HW0
  go_wp2_with fail
  refine bodyPost_ret (results_flt (p := 3) (u := 2) rfl _ _ W.heap.size _ rfl ((HC1.out.set (j := 0) (.int .i64 101)).set (j := 1) (.slice none 0 0)) rfl) rfl ?_
  exact ⟨rfl, (HB1.out.setCell (p := ⟨W.heap.size, 0, none⟩) (Nat.le_refl _) _).setCell (p := ⟨W.heap.size, 1, none⟩) (Nat.le_refl _) _⟩
set_option maxRecDepth 100000 in
set_option maxHeartbeats 4000000 in
theorem says_mid (s : ByteArray) (W : World) (ea : Nat → Addr) (hE : Env W ea) (hW : (ea 64).block ≤ W.heap.size) (hs : 1500 < s.size) (hs2 : s.size ≤ 8192) :
    Calls Tryd.prog 3 #[.string s] W fun e w' => e = .returned (.bool true) ∧ Below W.heap.size W w' := by
  have HF : Hid _ := first_any W ea hE hW
  have hs' : (1500 : Int) < (s.size : Int) := by omega
  have hs2' : (s.size : Int) ≤ 8192 := by omega
  clear hE
  go_enter Tryd.func3, Tryd.ntmps3
  go_wp2_with fail
  refine Calls.mono HF.out ?_
  rintro e w1 ⟨rfl, hb1⟩
  have HB1 : Hid (Below W.heap.size W w1) := hb1
  clear hb1 HF
  go_wp2_with fail
  go_ret
  exact ⟨rfl, HB1.out⟩
set_option maxRecDepth 100000 in
set_option maxHeartbeats 4000000 in
theorem says_great (s : ByteArray) (W : World) (ea : Nat → Addr) (hE : Env W ea) (hW : (ea 64).block ≤ W.heap.size) (hs : 8192 < s.size) :
    Calls Tryd.prog 3 #[.string s] W fun e w' => e = .returned (.bool true) ∧ Below W.heap.size W w' := by
  have HF : Hid _ := first_any W ea hE hW
  have hs' : (1500 : Int) < (s.size : Int) := by omega
  have hs2' : ¬ (s.size : Int) ≤ 8192 := by omega
  have HE : Hid (∀ w, Below W.heap.size W w → Env w ea) := fun w hb => hE.below hb
  clear hE
  go_enter Tryd.func3, Tryd.ntmps3
  go_wp2_with fail
  refine Calls.mono HF.out ?_
  rintro e w1 ⟨rfl, hb1⟩
  have HB1 : Hid (Below W.heap.size W w1) := hb1
  have HLX : Hid _ := lex_long s w1 ea (HE.out _ hb1) hs
  clear hb1 HF
  go_wp2_with fail
  refine Calls.mono HLX.out ?_
  rintro e w2 ⟨rfl, m, hw2⟩
  have HB2 : Hid (Below W.heap.size W w2) := by rw [hw2]; exact HB1.out.trans ⟨rfl, rfl, rfl, Nat.le_refl _, fun _ _ => rfl⟩
  have HLR : Hid _ := lexB_long s w2 hs
  clear hw2 HLX HB1
  go_wp2_with fail
  refine Calls.mono HLR.out ?_
  rintro e w3 ⟨rfl, hb3⟩
  have HB3 : Hid (Below W.heap.size W w3) := HB2.out.trans (hb3.mono HB2.out.size)
  have HB3' : Hid (Below W.heap.size W (w3.alloc (.cells #[.int .i64 101, .slice none 0 0] 31))) := HB3.out.alloc HB3.out.size _
  have HSA : Hid _ := same_sent (w3.alloc (.cells #[.int .i64 101, .slice none 0 0] 31)) ea (HE.out _ HB3'.out) 0 (by decide) _ rfl 101 (by decide)
  clear hb3 HLR HB2
  go_wp2_with fail
  refine Calls.mono HSA.out ?_
  rintro e w4 ⟨rfl, hb4⟩
  have HB4 : Hid (Below W.heap.size W w4) := HB3'.out.trans (hb4.mono HB3'.out.size)
  have HMA : Hid _ := made_any (TbOwn.nil w4 0) (by simp)
  clear hb4 HSA HB3 HB3'
  go_wp2_with fail
  refine Calls.mono HMA.out ?_
  rintro e w5 ⟨v5, rfl, hr5, hb5⟩
  have HB5 : Hid (Below W.heap.size W w5) := HB4.out.trans (hb5.mono HB4.out.size)
  have HST : Hid _ := sameTokens_any hr5 (RbOwn.nil w5 0) (by simp)
  clear hb5 HMA hr5 HB4
  go_wp2_with fail
  refine Calls.mono HST.out ?_
  rintro e w6 ⟨rfl, m6, hw6⟩
  have HB6 : Hid (Below W.heap.size W w6) := by rw [hw6]; exact HB5.out.trans ⟨rfl, rfl, rfl, Nat.le_refl _, fun _ _ => rfl⟩
  clear hw6 HST HB5
  go_wp2_with fail
  go_ret
  exact ⟨rfl, HB6.out⟩
set_option maxRecDepth 100000 in
set_option maxHeartbeats 4000000 in
theorem says_err (s : ByteArray) (W : World) (ea : Nat → Addr) (hE : Env W ea) (hW : (ea 64).block ≤ W.heap.size) (hs : s.size ≤ 1500) (x : Er) (hx : lexL s.data.toList = .error x) :
    Calls Tryd.prog 3 #[.string s] W fun e w' => e = .returned (.bool true) ∧ Below W.heap.size W w' := by
  have HF : Hid _ := first_any W ea hE hW
  have hs' : ¬ (1500 : Int) < (s.size : Int) := by omega
  have hd' : decide ((1500 : Int) < (s.size : Int)) = false := by simp; omega
  have HE : Hid (∀ w, Below W.heap.size W w → Env w ea) := fun w hb => hE.below hb
  obtain ⟨xj, hj, hgj, hcj⟩ := gOf_cod x.code
  have HGJ : Hid (gOf x.code = ordE xj) := hgj
  have HCJ : Hid (codE x.code = 101 + (xj : Int)) := hcj
  have HX : Hid (lexL s.data.toList = .error x) := hx
  clear hE hgj hcj hx
  go_enter Tryd.func3, Tryd.ntmps3
  go_wp2_with fail
  refine Calls.mono HF.out ?_
  rintro e w1 ⟨rfl, hb1⟩
  have HB1 : Hid (Below W.heap.size W w1) := hb1
  have HL := lex_any s w1 ea (HE.out _ hb1) (Nat.le_trans hW hb1.size) (by omega)
  rw [HX.out] at HL
  have HLX : Hid _ := HL
  clear HL hb1 HF
  go_wp2_with fail
  refine Calls.mono HLX.out ?_
  rintro e w2 ⟨v, ev, rfl, ⟨rfl, q, rfl, hq⟩, hb2⟩
  have HB2 : Hid (Below W.heap.size W w2) := HB1.out.trans (Below.mono hb2 HB1.out.size)
  have HQ2 : Hid (Cel w2 q 83 #[.int .i64 (x.pos : Nat), errV (ea (gOf x.code))]) := hq
  have HL := lexB_any s w2 (by omega)
  rw [HX.out] at HL
  have HLR : Hid _ := HL
  clear HL hb2 HLX hq HB1
  go_wp2_with fail
  refine Calls.mono HLR.out ?_
  rintro e w3 ⟨v3, c3, av3, rfl, ⟨rfl, hc3, fb, rfl, hfb⟩, hb3⟩
  have HB3 : Hid (Below W.heap.size W w3) := HB2.out.trans (hb3.mono HB2.out.size)
  obtain ⟨W4, hW4⟩ : ∃ W4, W4 = w3.alloc (.cells #[.int .i64 c3, .slice (some ⟨fb, 0, none⟩) 1 1] 31) := ⟨_, rfl⟩
  have HB4 : Hid (Below W.heap.size W W4) := by rw [hW4]; exact HB3.out.alloc HB3.out.size _
  have hq4 : Cel W4 q 83 #[.int .i64 (x.pos : Nat), errV (ea (gOf x.code))] := by
    have h3 : Cel w3 q 83 #[.int .i64 (x.pos : Nat), errV (ea (gOf x.code))] := HQ2.out.below hb3 HQ2.out.lt
    rw [hW4]; exact h3.below (below_new _ _) h3.lt
  have hf4 : Cel W4 fb 3 #[.int .i64 (x.pos : Nat)] := by rw [hW4]; exact hfb.below (below_new _ _) hfb.lt
  have HSA : Hid _ := same_any W4 ea (HE.out _ HB4.out) xj hj _ (by rw [HGJ.out]) q x.pos hq4 fb hf4 c3 (by rw [hc3]; exact HCJ.out)
  have HW4 : Hid (w3.alloc (.cells #[.int .i64 c3, .slice (some ⟨fb, 0, none⟩) 1 1] 31) = W4) := hW4.symm
  have q0 : W4.cell? ⟨w3.heap.size, 0, none⟩ = some (.int .i64 c3) := by rw [hW4]; exact (Cel.new w3 _ _).cell 0
  have q1 : W4.cell? ⟨w3.heap.size, 1, none⟩ = some (.slice (some ⟨fb, 0, none⟩) 1 1) := by rw [hW4]; exact (Cel.new w3 _ _).cell 1
  clear hb3 HLR HB2 HQ2 hfb hc3 hq4 hf4 hW4
  go_upto_region 6 with fail
  rw [HW4.out]
  go_wp2_with fail
  refine Calls.mono HSA.out ?_
  rintro e w4 ⟨rfl, hb4⟩
  have HB5 : Hid (Below W.heap.size W w4) := HB4.out.trans (hb4.mono HB4.out.size)
  have HMA : Hid _ := made_any (TbOwn.nil w4 0) (by simp)
  clear hb4 HSA HB3 HB4 q0 q1
  go_wp2_with fail
  refine Calls.mono HMA.out ?_
  rintro e w5 ⟨v5, rfl, hr5, hb5⟩
  have HB6 : Hid (Below W.heap.size W w5) := HB5.out.trans (hb5.mono HB5.out.size)
  have HST : Hid _ := sameTokens_any hr5 (RbOwn.nil w5 0) (by simp)
  clear hb5 HMA hr5 HB5
  go_wp2_with fail
  refine Calls.mono HST.out ?_
  rintro e w6 ⟨rfl, m6, hw6⟩
  have HB7 : Hid (Below W.heap.size W w6) := by rw [hw6]; exact HB6.out.trans ⟨rfl, rfl, rfl, Nat.le_refl _, fun _ _ => rfl⟩
  clear hw6 HST HB6
  go_wp2_with fail
  go_ret
  exact ⟨rfl, HB7.out⟩
set_option maxRecDepth 100000 in
set_option maxHeartbeats 8000000 in
theorem says_ok (s : ByteArray) (W : World) (ea : Nat → Addr) (hE : Env W ea) (hW : (ea 64).block ≤ W.heap.size) (hs : s.size ≤ 1500) (ts : List Tb) (hx : lexL s.data.toList = .ok ts) :
    Calls Tryd.prog 3 #[.string s] W fun e w' => e = .returned (.bool true) ∧ Below W.heap.size W w' := by
  have HF : Hid _ := first_any W ea hE hW
  have hs' : ¬ (1500 : Int) < (s.size : Int) := by omega
  have hd' : decide ((1500 : Int) < (s.size : Int)) = false := by simp; omega
  have HE : Hid (∀ w, Below W.heap.size W w → Env w ea) := fun w hb => hE.below hb
  have hlen : ts.length ≤ 1501 := by
    have hz : s.data.toList.length = s.size := by simp
    obtain ⟨t, r, rfl, _, ⟨_, _, rfl⟩ | ⟨_, _, hc⟩⟩ := lex_chain hx
    · simp
    · have := hc.len
      simp only [List.length_cons]
      omega
  have HX : Hid (lexL s.data.toList = .ok ts) := hx
  clear hE hx
  go_enter Tryd.func3, Tryd.ntmps3
  go_wp2_with fail
  refine Calls.mono HF.out ?_
  rintro e w1 ⟨rfl, hb1⟩
  have HB1 : Hid (Below W.heap.size W w1) := hb1
  have HL := lex_any s w1 ea (HE.out _ hb1) (Nat.le_trans hW hb1.size) (by omega)
  rw [HX.out] at HL
  have HLX : Hid _ := HL
  clear HL hb1 HF
  go_wp2_with fail
  refine Calls.mono HLX.out ?_
  rintro e w2 ⟨v, ev, rfl, ⟨rfl, hO⟩, hb2⟩
  have HB2 : Hid (Below W.heap.size W w2) := HB1.out.trans (Below.mono hb2 HB1.out.size)
  have HO2 : Hid (TbOwn w2 w1.heap.size v ts) := hO
  have HL := lexB_any s w2 (by omega)
  rw [HX.out] at HL
  have HLR : Hid _ := HL
  clear HL hb2 HLX hO HB1
  go_wp2_with fail
  refine Calls.mono HLR.out ?_
  rintro e w3 ⟨v3, c3, av3, rfl, ⟨rfl, rfl, hR⟩, hb3⟩
  have HB3 : Hid (Below W.heap.size W w3) := HB2.out.trans (hb3.mono HB2.out.size)
  obtain ⟨W4, hW4⟩ : ∃ W4, W4 = w3.alloc (.cells #[.int .i64 0, .slice none 0 0] 31) := ⟨_, rfl⟩
  have HB4 : Hid (Below W.heap.size W W4) := by rw [hW4]; exact HB3.out.alloc HB3.out.size _
  have HW4 : Hid (w3.alloc (.cells #[.int .i64 0, .slice none 0 0] 31) = W4) := hW4.symm
  have q0 : W4.cell? ⟨w3.heap.size, 0, none⟩ = some (.int .i64 0) := by rw [hW4]; exact (Cel.new w3 _ _).cell 0
  have q1 : W4.cell? ⟨w3.heap.size, 1, none⟩ = some (.slice none 0 0) := by rw [hW4]; exact (Cel.new w3 _ _).cell 1
  have HO4 : Hid (TbOwn W4 w1.heap.size v ts) := by rw [hW4]; exact (HO2.out.below hb3).below (below_new _ _)
  have HR4 : Hid (RbOwn W4 w2.heap.size v3 ts) := by rw [hW4]; exact hR.below (below_new _ _)
  have HSA : Hid _ := same_nil W4
  obtain ⟨ad, cap, rfl⟩ := HO2.out.form
  obtain ⟨am, cm, rfl⟩ := HR4.out.form
  clear hb3 HLR HB2 HO2 hR hW4
  go_upto_region 6 with fail
  rw [HW4.out]
  go_wp2_with fail
  refine Calls.mono HSA.out ?_
  rintro e w4 ⟨rfl, hb4⟩
  have HB5 : Hid (Below W.heap.size W w4) := HB4.out.trans (hb4.mono HB4.out.size)
  have HO5 : Hid (TbOwn w4 w1.heap.size (.slice ad ts.length cap) ts) := HO4.out.below hb4
  have HR5 : Hid (RbOwn w4 w2.heap.size (.slice am ts.length cm) ts) := HR4.out.below hb4
  have HMA : Hid _ := made_any HO5.out (by omega)
  clear hb4 HSA HB3 HB4 q0 q1 HO4 HR4
  go_wp2_with fail
  refine Calls.mono HMA.out ?_
  rintro e w5 ⟨v5, rfl, hr5, hb5⟩
  have HB6 : Hid (Below W.heap.size W w5) := HB5.out.trans (hb5.mono HB5.out.size)
  have HR6 : Hid (RbOwn w5 w2.heap.size (.slice am ts.length cm) ts) := HR5.out.below hb5
  have HST : Hid _ := sameTokens_any hr5 HR6.out (by omega)
  clear hb5 HMA hr5 HB5 HO5 HR5
  go_wp2_with fail
  refine Calls.mono HST.out ?_
  rintro e w6 ⟨rfl, m6, hw6⟩
  have HB7 : Hid (Below W.heap.size W w6) := by rw [hw6]; exact HB6.out.trans ⟨rfl, rfl, rfl, Nat.le_refl _, fun _ _ => rfl⟩
  clear hw6 HST HB6
  go_wp2_with fail
  go_ret
  exact ⟨rfl, HB7.out⟩
/-- THE LAW BlexSays. -/
theorem says_any (s : ByteArray) (W : World) (ea : Nat → Addr) (hE : Env W ea) (hW : (ea 64).block ≤ W.heap.size) :
    Calls Tryd.prog 3 #[.string s] W fun e w' => e = .returned (.bool true) ∧ Below W.heap.size W w' := by
  by_cases h1 : s.size ≤ 1500
  · cases hx : lexL s.data.toList with
    | error x => exact says_err s W ea hE hW h1 x hx
    | ok ts => exact says_ok s W ea hE hW h1 ts hx
  · by_cases h2 : s.size ≤ 8192
    · exact says_mid s W ea hE hW (by omega) h2
    · exact says_great s W ea hE hW (by omega)
end Go.Proofs.YtddekcohfbnmbaaDoor
