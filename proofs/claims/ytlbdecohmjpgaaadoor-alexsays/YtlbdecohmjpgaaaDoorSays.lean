/- The law: a source's tokens are what the document says. -/
import Derived.Test.YtlbdecohmjpgaaaDoorRf13
import Derived.Test.YtlbdecohmjpgaaaDoorRf15
import Derived.Test.YtlbdecohmjpgaaaDoorRf16
import Derived.Test.YtlbdecohmjpgaaaDoorPl
namespace Go.Proofs.YtlbdecohmjpgaaaDoor
open Go.RowKit
attribute [local go_sem] Oper.semAt_some

/-- An error's number among the seventeen, and the document's own. -/
theorem gOf_cod (c : Nat) : ∃ j, j < 17 ∧ gOf c = ordE j ∧ codE c = 101 + (j : Int) := by
  match c with
  | 0 => exact ⟨5, by decide, rfl, rfl⟩
  | 1 => exact ⟨3, by decide, rfl, rfl⟩
  | 2 => exact ⟨2, by decide, rfl, rfl⟩
  | n + 3 => exact ⟨6, by decide, rfl, rfl⟩
set_option maxRecDepth 100000 in
set_option maxHeartbeats 4000000 in
theorem lexR_long (s : ByteArray) (W : World) (hs : 8192 < s.size) :
    Calls Tryd.prog 10 #[.string s] W fun e w' => e = .returned (.tuple #[.slice none 0 0, .agg #[.int .i64 101, .slice none 0 0]]) ∧ Below W.heap.size W w' := by
  have hs' : (8192 : Int) < (s.size : Int) := by omega
  obtain ⟨W0, hW0⟩ : ∃ W0, W0 = W.alloc (.cells #[.int .i64 0, .slice none 0 0] 31) := ⟨_, rfl⟩
  have HW0 : Hid (W.alloc (.cells #[.int .i64 0, .slice none 0 0] 31) = W0) := hW0.symm
  have HB : Hid _ := bare_any 101 W0
  have HC0 : Hid (Cel W0 W.heap.size 31 #[.int .i64 0, .slice none 0 0]) := by rw [hW0]; exact Cel.new W _ _
  have HB0 : Hid (Below W.heap.size W W0) := by rw [hW0]; exact below_new W _
  clear hW0
  go_enter Tryd.func10, Tryd.ntmps10
  go_wp2_with fail
  rw [HW0.out]
  refine Calls.mono HB.out ?_
  rintro e w1 ⟨rfl, hb1⟩
  have HC1 : Hid (Cel w1 W.heap.size 31 #[.int .i64 0, .slice none 0 0]) := HC0.out.below hb1 HC0.out.lt
  have HB1 : Hid (Below W.heap.size W w1) := HB0.out.trans (hb1.mono HB0.out.size)
  have r0 : w1.cell? ⟨W.heap.size, 0, none⟩ = some (.int .i64 0) := HC1.out.cell 0
  have r1 : w1.cell? ⟨W.heap.size, 1, none⟩ = some (.slice none 0 0) := HC1.out.cell 1
  have rf0 := HC1.out.frozen 0
  have rf1 := HC1.out.frozen 1
  clear hb1 HB HC0 HB0 HW0
  go_wp2_with fail
  refine bodyPost_ret (results_flt (p := 3) (u := 2) rfl _ _ W.heap.size _ rfl ((HC1.out.set (j := 0) (.int .i64 101)).set (j := 1) (.slice none 0 0)) rfl) rfl ?_
  exact ⟨rfl, (HB1.out.setCell (p := ⟨W.heap.size, 0, none⟩) (Nat.le_refl _) _).setCell (p := ⟨W.heap.size, 1, none⟩) (Nat.le_refl _) _⟩
set_option maxRecDepth 100000 in
set_option maxHeartbeats 4000000 in
theorem says_mid (s : ByteArray) (W : World) (ea : Nat → Addr) (hE : Env W ea) (hW : (ea 64).block ≤ W.heap.size) (hs : 1500 < s.size) (hs2 : s.size ≤ 8192) :
    Calls Tryd.prog 3 #[.string s] W fun e w' => e = .returned (.bool true) ∧ Below W.heap.size W w' := by
  have HF : Hid _ := first_any W ea hE hW
  have hs' : (1500 : Int) < (s.size : Int) := by omega
  have hs2' : (s.size : Int) ≤ 8192 := by omega
  clear hE
  go_enter Tryd.func3, Tryd.ntmps3
  go_wp2_with fail
  refine Calls.mono HF.out ?_
  rintro e w1 ⟨rfl, hb1⟩
  have HB1 : Hid (Below W.heap.size W w1) := hb1
  clear hb1 HF
  go_wp2_with fail
  go_ret
  exact ⟨rfl, HB1.out⟩
set_option maxRecDepth 100000 in
set_option maxHeartbeats 4000000 in
theorem says_great (s : ByteArray) (W : World) (ea : Nat → Addr) (hE : Env W ea) (hW : (ea 64).block ≤ W.heap.size) (hs : 8192 < s.size) :
    Calls Tryd.prog 3 #[.string s] W fun e w' => e = .returned (.bool true) ∧ Below W.heap.size W w' := by
  have HF : Hid _ := first_any W ea hE hW
  have hs' : (1500 : Int) < (s.size : Int) := by omega
  have hs2' : ¬ (s.size : Int) ≤ 8192 := by omega
  have HE : Hid (∀ w, Below W.heap.size W w → Env w ea) := fun w hb => hE.below hb
  clear hE
  go_enter Tryd.func3, Tryd.ntmps3
  go_wp2_with fail
  refine Calls.mono HF.out ?_
  rintro e w1 ⟨rfl, hb1⟩
  have HB1 : Hid (Below W.heap.size W w1) := hb1
  have HLX : Hid _ := lex_long s w1 ea (HE.out _ hb1) hs
  clear hb1 HF
  go_wp2_with fail
  refine Calls.mono HLX.out ?_
  rintro e w2 ⟨rfl, m, hw2⟩
  have HB2 : Hid (Below W.heap.size W w2) := by rw [hw2]; exact HB1.out.trans ⟨rfl, rfl, rfl, Nat.le_refl _, fun _ _ => rfl⟩
  have HLR : Hid _ := lexR_long s w2 hs
  clear hw2 HLX HB1
  go_wp2_with fail
  refine Calls.mono HLR.out ?_
  rintro e w3 ⟨rfl, hb3⟩
  have HB3 : Hid (Below W.heap.size W w3) := HB2.out.trans (hb3.mono HB2.out.size)
  have HB3' : Hid (Below W.heap.size W (w3.alloc (.cells #[.int .i64 101, .slice none 0 0] 31))) := HB3.out.alloc HB3.out.size _
  have HSA : Hid _ := same_sent (w3.alloc (.cells #[.int .i64 101, .slice none 0 0] 31)) ea (HE.out _ HB3'.out) 0 (by decide) _ rfl 101 (by decide)
  clear hb3 HLR HB2
  go_wp2_with fail
  refine Calls.mono HSA.out ?_
  rintro e w4 ⟨rfl, hb4⟩
  have HB4 : Hid (Below W.heap.size W w4) := HB3'.out.trans (hb4.mono HB3'.out.size)
  have HMA : Hid _ := made_any (TkOwn.nil w4 0) (by simp) (by simp)
  clear hb4 HSA HB3 HB3'
  go_wp2_with fail
  refine Calls.mono HMA.out ?_
  rintro e w5 ⟨v5, K5, rfl, hK5, hr5, hb5⟩
  have HB5 : Hid (Below W.heap.size W w5) := HB4.out.trans (hb5.mono HB4.out.size)
  obtain rfl : K5 = [] := by simpa using hK5
  have HST : Hid _ := sameTokens_any hr5 (RTk.nil w5 0) rfl (by simp) (by simp)
  clear hb5 HMA hK5 hr5 HB4
  go_wp2_with fail
  refine Calls.mono HST.out ?_
  rintro e w6 ⟨rfl, m6, hw6⟩
  have HB6 : Hid (Below W.heap.size W w6) := by rw [hw6]; exact HB5.out.trans ⟨rfl, rfl, rfl, Nat.le_refl _, fun _ _ => rfl⟩
  clear hw6 HST HB5
  go_wp2_with fail
  go_loopw [2, 8, 9, 10, 11, 12] (fun v2 v8 _ _ _ _ wr => v2 = .bool false ∧ v8 = .int .i64 0 ∧ wr = w6) (fun _ _ _ _ _ _ _ => 0)
  case atStart => exact ⟨rfl, rfl, rfl⟩
  case round =>
    obtain ⟨rfl, rfl, rfl⟩ := hrel
    go_wp2_with fail
    go_ret
    exact ⟨rfl, HB6.out⟩
set_option maxRecDepth 100000 in
set_option maxHeartbeats 4000000 in
theorem says_err (s : ByteArray) (W : World) (ea : Nat → Addr) (hE : Env W ea) (hW : (ea 64).block ≤ W.heap.size) (hs : s.size ≤ 1500) (x : Er) (hx : lexL s.data.toList = .error x) :
    Calls Tryd.prog 3 #[.string s] W fun e w' => e = .returned (.bool true) ∧ Below W.heap.size W w' := by
  have HF : Hid _ := first_any W ea hE hW
  have hs' : ¬ (1500 : Int) < (s.size : Int) := by omega
  have hd' : decide ((1500 : Int) < (s.size : Int)) = false := by simp; omega
  have HE : Hid (∀ w, Below W.heap.size W w → Env w ea) := fun w hb => hE.below hb
  obtain ⟨xj, hj, hgj, hcj⟩ := gOf_cod x.code
  have HGJ : Hid (gOf x.code = ordE xj) := hgj
  have HCJ : Hid (codE x.code = 101 + (xj : Int)) := hcj
  have HX : Hid (lexL s.data.toList = .error x) := hx
  clear hE hgj hcj hx
  go_enter Tryd.func3, Tryd.ntmps3
  go_wp2_with fail
  refine Calls.mono HF.out ?_
  rintro e w1 ⟨rfl, hb1⟩
  have HB1 : Hid (Below W.heap.size W w1) := hb1
  have HL := lex_any s w1 ea (HE.out _ hb1) (Nat.le_trans hW hb1.size) (by omega)
  rw [HX.out] at HL
  have HLX : Hid _ := HL
  clear HL hb1 HF
  go_wp2_with fail
  refine Calls.mono HLX.out ?_
  rintro e w2 ⟨v, ev, rfl, ⟨rfl, q, rfl, hq⟩, hb2⟩
  have HB2 : Hid (Below W.heap.size W w2) := HB1.out.trans (Below.mono hb2 HB1.out.size)
  have HQ2 : Hid (Cel w2 q 92 #[.int .i64 (x.pos : Nat), errV (ea (gOf x.code))]) := hq
  have HL := lexR_any s w2 (by omega)
  rw [HX.out] at HL
  have HLR : Hid _ := HL
  clear HL hb2 HLX hq HB1
  go_wp2_with fail
  refine Calls.mono HLR.out ?_
  rintro e w3 ⟨v3, c3, av3, rfl, ⟨rfl, hc3, fb, rfl, hfb⟩, hb3⟩
  have HB3 : Hid (Below W.heap.size W w3) := HB2.out.trans (hb3.mono HB2.out.size)
  obtain ⟨W4, hW4⟩ : ∃ W4, W4 = w3.alloc (.cells #[.int .i64 c3, .slice (some ⟨fb, 0, none⟩) 1 1] 31) := ⟨_, rfl⟩
  have HB4 : Hid (Below W.heap.size W W4) := by rw [hW4]; exact HB3.out.alloc HB3.out.size _
  have hq4 : Cel W4 q 92 #[.int .i64 (x.pos : Nat), errV (ea (gOf x.code))] := by
    have h3 : Cel w3 q 92 #[.int .i64 (x.pos : Nat), errV (ea (gOf x.code))] := HQ2.out.below hb3 HQ2.out.lt
    rw [hW4]; exact h3.below (below_new _ _) h3.lt
  have hf4 : Cel W4 fb 3 #[.int .i64 (x.pos : Nat)] := by rw [hW4]; exact hfb.below (below_new _ _) hfb.lt
  have HSA : Hid _ := same_any W4 ea (HE.out _ HB4.out) xj hj _ (by rw [HGJ.out]) q x.pos hq4 fb hf4 c3 (by rw [hc3]; exact HCJ.out)
  have HW4 : Hid (w3.alloc (.cells #[.int .i64 c3, .slice (some ⟨fb, 0, none⟩) 1 1] 31) = W4) := hW4.symm
  have q0 : W4.cell? ⟨w3.heap.size, 0, none⟩ = some (.int .i64 c3) := by rw [hW4]; exact (Cel.new w3 _ _).cell 0
  have q1 : W4.cell? ⟨w3.heap.size, 1, none⟩ = some (.slice (some ⟨fb, 0, none⟩) 1 1) := by rw [hW4]; exact (Cel.new w3 _ _).cell 1
  clear hb3 HLR HB2 HQ2 hfb hc3 hq4 hf4 hW4
  go_upto_region 6 with fail
  rw [HW4.out]
  go_wp2_with fail
  refine Calls.mono HSA.out ?_
  rintro e w4 ⟨rfl, hb4⟩
  have HB5 : Hid (Below W.heap.size W w4) := HB4.out.trans (hb4.mono HB4.out.size)
  have HMA : Hid _ := made_any (TkOwn.nil w4 0) (by simp) (by simp)
  clear hb4 HSA HB3 HB4 q0 q1
  go_wp2_with fail
  refine Calls.mono HMA.out ?_
  rintro e w5 ⟨v5, K5, rfl, hK5, hr5, hb5⟩
  have HB6 : Hid (Below W.heap.size W w5) := HB5.out.trans (hb5.mono HB5.out.size)
  obtain rfl : K5 = [] := by simpa using hK5
  have HST : Hid _ := sameTokens_any hr5 (RTk.nil w5 0) rfl (by simp) (by simp)
  clear hb5 HMA hK5 hr5 HB5
  go_wp2_with fail
  refine Calls.mono HST.out ?_
  rintro e w6 ⟨rfl, m6, hw6⟩
  have HB7 : Hid (Below W.heap.size W w6) := by rw [hw6]; exact HB6.out.trans ⟨rfl, rfl, rfl, Nat.le_refl _, fun _ _ => rfl⟩
  clear hw6 HST HB6
  go_wp2_with fail
  go_loopw [2, 8, 9, 10, 11, 12] (fun v2 v8 _ _ _ _ wr => v2 = .bool false ∧ v8 = .int .i64 0 ∧ wr = w6) (fun _ _ _ _ _ _ _ => 0)
  case atStart => exact ⟨rfl, rfl, rfl⟩
  case round =>
    obtain ⟨rfl, rfl, rfl⟩ := hrel
    go_wp2_with fail
    go_ret
    exact ⟨rfl, HB7.out⟩
set_option maxRecDepth 100000 in
set_option maxHeartbeats 8000000 in
theorem says_ok (s : ByteArray) (W : World) (ea : Nat → Addr) (hE : Env W ea) (hW : (ea 64).block ≤ W.heap.size) (hs : s.size ≤ 1500) (ts : List Tk) (hx : lexL s.data.toList = .ok ts) :
    Calls Tryd.prog 3 #[.string s] W fun e w' => e = .returned (.bool true) ∧ Below W.heap.size W w' := by
  have HF : Hid _ := first_any W ea hE hW
  have hs' : ¬ (1500 : Int) < (s.size : Int) := by omega
  have hd' : decide ((1500 : Int) < (s.size : Int)) = false := by simp; omega
  have HE : Hid (∀ w, Below W.heap.size W w → Env w ea) := fun w hb => hE.below hb
  have hG : Good s.size 0 ts := by have := lex_good' hx; rw [show s.data.toList.length = s.size by simp] at this; exact this
  have hlen : ts.length ≤ 1501 := by have := hG.len (Nat.zero_le _); omega
  have HPL : Hid (∀ t ∈ ts, t.parts.length ≤ 10000) := fun t ht => by
    obtain ⟨i, hi⟩ := List.getElem?_of_mem ht
    rcases hG.at i t hi with ⟨_, _, h, _⟩ | ⟨_, _, ⟨_, h⟩, _⟩
    · rw [h]; simp
    · rcases h with ⟨_, h⟩ | ⟨_, h, _⟩
      · rw [h]; simp
      · have := h.len; omega
  have HX : Hid (lexL s.data.toList = .ok ts) := hx
  clear hE hx hG
  go_enter Tryd.func3, Tryd.ntmps3
  go_wp2_with fail
  refine Calls.mono HF.out ?_
  rintro e w1 ⟨rfl, hb1⟩
  have HB1 : Hid (Below W.heap.size W w1) := hb1
  have HL := lex_any s w1 ea (HE.out _ hb1) (Nat.le_trans hW hb1.size) (by omega)
  rw [HX.out] at HL
  have HLX : Hid _ := HL
  clear HL hb1 HF
  go_wp2_with fail
  refine Calls.mono HLX.out ?_
  rintro e w2 ⟨v, ev, rfl, ⟨rfl, K, hK, hO⟩, hb2⟩
  have HB2 : Hid (Below W.heap.size W w2) := HB1.out.trans (Below.mono hb2 HB1.out.size)
  have HO2 : Hid (TkOwn w2 w1.heap.size v K) := hO
  have HKT : Hid (K.map Prod.snd = ts) := hK
  have HL := lexR_any s w2 (by omega)
  rw [HX.out] at HL
  have HLR : Hid _ := HL
  have hKl : K.length = ts.length := by rw [← hK, List.length_map]
  have HKP : Hid (∀ q ∈ K, q.2.parts.length ≤ 10000) := fun q hq => HPL.out q.2 (by rw [← hK]; exact List.mem_map_of_mem hq)
  clear HL hb2 HLX hO hK HB1
  go_wp2_with fail
  refine Calls.mono HLR.out ?_
  rintro e w3 ⟨v3, c3, av3, rfl, ⟨rfl, rfl, M, hM, hR⟩, hb3⟩
  have HB3 : Hid (Below W.heap.size W w3) := HB2.out.trans (hb3.mono HB2.out.size)
  obtain ⟨W4, hW4⟩ : ∃ W4, W4 = w3.alloc (.cells #[.int .i64 0, .slice none 0 0] 31) := ⟨_, rfl⟩
  have HB4 : Hid (Below W.heap.size W W4) := by rw [hW4]; exact HB3.out.alloc HB3.out.size _
  have HW4 : Hid (w3.alloc (.cells #[.int .i64 0, .slice none 0 0] 31) = W4) := hW4.symm
  have q0 : W4.cell? ⟨w3.heap.size, 0, none⟩ = some (.int .i64 0) := by rw [hW4]; exact (Cel.new w3 _ _).cell 0
  have q1 : W4.cell? ⟨w3.heap.size, 1, none⟩ = some (.slice none 0 0) := by rw [hW4]; exact (Cel.new w3 _ _).cell 1
  have HO4 : Hid (TkOwn W4 w1.heap.size v K) := by rw [hW4]; exact (HO2.out.below hb3).below (below_new _ _)
  have HR4 : Hid (RTk W4 w2.heap.size v3 M) := by rw [hW4]; exact hR.below (below_new _ _)
  have HMT : Hid (M.map Prod.snd = ts) := hM
  have hMl : M.length = ts.length := by rw [← hM, List.length_map]
  have HSA : Hid _ := same_nil W4
  obtain ⟨ad, cap, rfl⟩ := HO2.out.form
  obtain ⟨am, cm, rfl⟩ := HR4.out.form
  rw [hKl] at HO4 ⊢
  rw [hMl] at HR4 ⊢
  clear hb3 HLR HB2 HO2 hR hM hW4
  go_upto_region 6 with fail
  rw [HW4.out]
  go_wp2_with fail
  refine Calls.mono HSA.out ?_
  rintro e w4 ⟨rfl, hb4⟩
  have HB5 : Hid (Below W.heap.size W w4) := HB4.out.trans (hb4.mono HB4.out.size)
  have HO5 : Hid (TkOwn w4 w1.heap.size (.slice ad ts.length cap) K) := HO4.out.below hb4
  have HR5 : Hid (RTk w4 w2.heap.size (.slice am ts.length cm) M) := HR4.out.below hb4
  have HMA : Hid _ := made_any HO5.out (by omega) HKP.out
  clear hb4 HSA HB3 HB4 q0 q1 HO4 HR4
  go_wp2_with fail
  refine Calls.mono HMA.out ?_
  rintro e w5 ⟨v5, K5, rfl, hK5, hr5, hb5⟩
  have HB6 : Hid (Below W.heap.size W w5) := HB5.out.trans (hb5.mono HB5.out.size)
  have HO6 : Hid (TkOwn w5 w1.heap.size (.slice ad ts.length cap) K) := HO5.out.below hb5
  have HR6 : Hid (RTk w5 w2.heap.size (.slice am ts.length cm) M) := HR5.out.below hb5
  have hK5l : K5.length = ts.length := by have := congrArg List.length hK5; simp at this; omega
  have HST : Hid _ := sameTokens_any hr5 HR6.out (by rw [hK5, HKT.out, HMT.out]) (by omega) (fun q hq => HPL.out q.2 (by rw [← HKT.out, ← hK5]; exact List.mem_map_of_mem hq))
  clear hb5 HMA hK5 hr5 HB5 HO5 HR5 hK5l
  go_wp2_with fail
  refine Calls.mono HST.out ?_
  rintro e w6 ⟨rfl, m6, hw6⟩
  have hbd : Below w5.heap.size w5 w6 := by rw [hw6]; exact ⟨rfl, rfl, rfl, Nat.le_refl _, fun _ _ => rfl⟩
  have HB7 : Hid (Below W.heap.size W w6) := HB6.out.trans (hbd.mono HB6.out.size)
  have HO7 : Hid (∀ w, Below w6.heap.size w6 w → TkOwn w w1.heap.size (.slice ad ts.length cap) K) := fun w hb => (HO6.out.below hbd).below hb
  have HR7 : Hid (∀ w, Below w6.heap.size w6 w → RTk w w2.heap.size (.slice am ts.length cm) M) := fun w hb => (HR6.out.below hbd).below hb
  have HEQ : Hid (∀ (i : Nat) (t u : Value × Tk), K[i]? = some t → M[i]? = some u → t.2 = u.2) := fun i t u ht hu => by
    have h1 : ts[i]? = some t.2 := by rw [← HKT.out, List.getElem?_map, ht]; rfl
    have h2 : ts[i]? = some u.2 := by rw [← HMT.out, List.getElem?_map, hu]; rfl
    exact Option.some.inj (h1.symm.trans h2)
  clear hw6 HST HB6 HO6 HR6 hbd
  go_wp2_with fail
  go_loopw [2, 8, 9, 10, 11, 12] (fun v2 v8 _ _ _ _ wr => ∃ i : Nat, v2 = .bool false ∧ v8 = .int .i64 (i : Nat) ∧ i ≤ ts.length ∧ Hid (Below w6.heap.size w6 wr)) (fun _ v8 _ _ _ _ _ => ts.length - (intOf v8).toNat)
  case atStart => exact ⟨0, rfl, rfl, Nat.zero_le _, Below.refl _ _⟩
  case round =>
    obtain ⟨i, rfl, rfl, hi, HBr⟩ := hrel
    by_cases hlt : i < ts.length
    · have hlt' : (i : Int) < (ts.length : Int) := by omega
      obtain ⟨t, ht⟩ : ∃ t, K[i]? = some t := ⟨K[i]'(by omega), List.getElem?_eq_getElem _⟩
      obtain ⟨u, hu⟩ : ∃ u, M[i]? = some u := ⟨M[i]'(by omega), List.getElem?_eq_getElem _⟩
      have htu := HEQ.out i t u ht hu
      obtain ⟨g1, c1', e1, r1⟩ := (HO7.out wr HBr.out).get (fun e => by rw [e] at ht; cases ht)
      obtain ⟨rfl, -, -⟩ := Value.slice.inj e1
      have HU : Hid (∀ w, Below w6.heap.size w6 w → ∃ g2, am = some ⟨g2, 0, none⟩ ∧ ∀ j x, (tkC u)[j]? = some x → w.cell? ⟨g2, i * 3 + j, none⟩ = some x) := fun w hb => by
        have hrow := (HR7.out w hb).row
        obtain ⟨g2, c2', e2, r2⟩ := row3 hrow (fun e => by rw [e] at hu; cases hu)
        obtain ⟨rfl, _, _⟩ := Value.slice.inj e2
        exact ⟨g2, rfl, fun j x hx => r2 i u hu j x hx⟩
      have HPU : Hid (∀ w, Below w6.heap.size w6 w → RPt w w2.heap.size u.1 u.2.parts) := fun w hb => (HR7.out w hb).parts u (List.mem_of_getElem? hu)
      have hPT := (HO7.out wr HBr.out).parts t (List.mem_of_getElem? ht)
      have a0 : wr.cell? ⟨g1, i * 3, none⟩ = some (.int .i64 (t.2.kind : Nat)) := r1 i t ht 0 _ rfl
      have a1 : wr.cell? ⟨g1, i * 3 + 1, none⟩ = some (.int .i64 (t.2.pos : Nat)) := r1 i t ht 1 _ rfl
      have a2 : wr.cell? ⟨g1, i * 3 + 2, none⟩ = some t.1 := r1 i t ht 2 _ rfl
      have HBA : Hid (Calls Tryd.prog 14 #[.agg #[.int .i64 (t.2.kind : Nat), .int .i64 (t.2.pos : Nat), t.1]] wr fun e w' => e = .returned (.tuple #[str (bareS t.2), .bool (bareB t.2)]) ∧ Below wr.heap.size wr w') := bareA_any hPT
      have HBU : Hid (∀ w, Below w6.heap.size w6 w → Calls Tryd.prog 15 #[.agg #[.int .i64 (u.2.kind : Nat), .int .i64 (u.2.pos : Nat), u.1]] w fun e w' => e = .returned (.tuple #[str (bareS u.2), .bool (bareB u.2)]) ∧ Below w.heap.size w w') := fun w hb => bareR_any (HPU.out w hb)
      obtain ⟨pa, pc, hp1⟩ := hPT.form
      rw [hp1] at a2 HBA
      rw [htu] at a0 a1 HBA
      obtain ⟨qa, qc, hq1⟩ := (HPU.out wr HBr.out).form
      obtain ⟨g2, rfl, -⟩ := HU.out wr HBr.out
      have HU2 : Hid (∀ w, Below w6.heap.size w6 w → w.cell? ⟨g2, i * 3, none⟩ = some (.int .i64 (u.2.kind : Nat)) ∧ w.cell? ⟨g2, i * 3 + 1, none⟩ = some (.int .i64 (u.2.pos : Nat)) ∧ w.cell? ⟨g2, i * 3 + 2, none⟩ = some (.slice qa u.2.parts.length qc)) := fun w hb => by
        obtain ⟨g', e', r'⟩ := HU.out w hb
        cases e'
        exact ⟨r' 0 _ rfl, r' 1 _ rfl, by rw [← hq1]; exact r' 2 _ rfl⟩
      rw [hq1] at HBU
      clear HU HPU hPT r1 e1 ht hu hp1 hq1
      rw [htu] at a2
      clear htu
      clear hKl hMl HKP HPL HO7 HR7 HEQ
      generalize bareS u.2 = bs at HBA HBU
      generalize bareB u.2 = bb at HBA HBU
      generalize u.2.parts.length = un at HBA HBU HU2 a2
      generalize u.2.kind = uk at HBA HBU HU2 a0
      generalize u.2.pos = up at HBA HBU HU2 a1
      go_wp2_with fail
      refine Calls.mono HBA.out ?_
      rintro e w7 ⟨rfl, hb7⟩
      have HB8 : Hid (Below w6.heap.size w6 w7) := HBr.out.trans (hb7.mono HBr.out.size)
      obtain ⟨b0', b1', b2'⟩ := HU2.out w7 HB8.out
      have HBU7 : Hid _ := HBU.out w7 HB8.out
      clear hb7 HBA a0 a1 a2 HU2 HBU
      go_wp2_with fail
      refine Calls.mono HBU7.out ?_
      rintro e w8 ⟨rfl, hb8⟩
      have HB9 : Hid (Below w6.heap.size w6 w8) := HB8.out.trans (hb8.mono HB8.out.size)
      clear hb8 HBU7 b0' b1' b2' HB8
      go_wp2_with fail
      exact ⟨⟨i + 1, rfl, by simp, by omega, HB9.out⟩, by simp [intOf]; omega⟩
    · have hlt' : ¬ (i : Int) < (ts.length : Int) := by omega
      go_wp2_with fail
      go_ret
      exact ⟨rfl, HB7.out.trans (HBr.out.mono HB7.out.size)⟩
/-- THE LAW AlexSays. -/
theorem says_any (s : ByteArray) (W : World) (ea : Nat → Addr) (hE : Env W ea) (hW : (ea 64).block ≤ W.heap.size) :
    Calls Tryd.prog 3 #[.string s] W fun e w' => e = .returned (.bool true) ∧ Below W.heap.size W w' := by
  by_cases h1 : s.size ≤ 1500
  · cases hx : lexL s.data.toList with
    | error x => exact says_err s W ea hE hW h1 x hx
    | ok ts => exact says_ok s W ea hE hW h1 ts hx
  · by_cases h2 : s.size ≤ 8192
    · exact says_mid s W ea hE hW (by omega) h2
    · exact says_great s W ea hE hW (by omega)
end Go.Proofs.YtlbdecohmjpgaaaDoor
