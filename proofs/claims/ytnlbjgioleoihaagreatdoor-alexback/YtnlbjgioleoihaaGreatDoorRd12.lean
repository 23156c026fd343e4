/- A part behind a backslash; living text; what stands between single quotes. -/
import Derived.Test.YtnlbjgioleoihaaGreatDoorRd11
namespace Go.Proofs.YtnlbjgioleoihaaGreatDoor
open Go.RowKit
attribute [local go_sem] Oper.semAt_some

theorem results_one {fn : Func} {p : Tmp} (h : fn.results = #[.cell p 36]) (tmps : Array Value) (w : World) (g : Nat) (cs : Array Value) (hp : tmps.getD p undef = .pointer (some ⟨g, 0, none⟩)) (hc : Cel w g 36 cs) (hz : cs.size = 5) :
    (results fn tmps).run Tryz.prog w = .ok (.agg cs) w := results_cell_row h tmps w g 36 cs (0, 0) _ hp hc Tryz.underlying36 rfl (by rw [hz]; exact size49)
theorem Cel.drew {W : World} {g : Nat} {t : TypeId} {cs : Array Value} (h : Cel W g t cs) : Cel W.drew g t cs := h
/-- What a backslash takes the life of. -/
def escT (t : List UInt8) : List UInt8 := match t with
  | [] => [92]
  | d :: _ => [d]
set_option maxRecDepth 100000 in
set_option maxHeartbeats 2000000 in
theorem escaped_two {W : World} {b sb k : Nat} {s : ByteArray} (h : Rd W b sb s k) (hs : s.size < 1099511627776) (_hk : k < s.size) (h2 : k + 1 < s.size) :
    Calls Tryz.prog 42 #[.pointer (some ⟨b, 0, none⟩)] W fun e w' => e = .returned (.agg #[.int .i64 2, .int .i64 (k : Nat), .int .i64 0, .bool false, .string (s.extract (k + 1) (k + 2))]) ∧ Stp W b sb s (k + 2) w' := by
  have hlb := h.rd.lt
  have hlsb := h.src.lt
  have cW := h.c1
  have cW0 := h.c0
  have fW := h.f1
  have hmin : min ((k : Int) + 2) (s.size : Int) = ((k : Int) + 2) := by omega
  obtain ⟨W0, hW0⟩ : ∃ W0, W0 = W.alloc (.cells zC 36) := ⟨_, rfl⟩
  have HS0 : Hid (Stp W b sb s k W0) := by rw [hW0]; exact (Stp.refl h).alloc _
  have HQ0 : Hid (Cel W0 W.heap.size 36 zC) := by rw [hW0]; exact Cel.new W _ _
  have HW0 : Hid (W.alloc (.cells zC 36) = W0) := hW0.symm
  have HL : Hid (Calls Tryz.prog 40 #[.pointer (some ⟨sb, 0, none⟩)] W0 fun e w' => e = .returned (.int .i64 s.size) ∧ w' = W0) := len_any sb s W0 HS0.out.at_.t0
  have c0 := HS0.out.at_.c0
  have c1 := HS0.out.at_.c1
  have f1 := HS0.out.at_.f1
  clear h hW0
  go_enter Tryz.func42, Tryz.ntmps42
  go_wp2_with fail
  rw [HW0.out]
  refine Calls.mono HL.out ?_
  rintro e w1 ⟨rfl, hw⟩
  obtain rfl := hw.symm
  clear hw
  go_wp2_with fail
  obtain ⟨W1, hW1⟩ : ∃ W1, W1 = W0.setCell ⟨b, 1, none⟩ (.int .i64 ((k : Int) + 2)) := ⟨_, rfl⟩
  have HS1 : Hid (Stp W b sb s (k + 2) W1) := by rw [hW1]; exact set_step HS0.out _ _ (by omega)
  have HQ1 : Hid (Cel W1 W.heap.size 36 zC) := by rw [hW1]; exact HQ0.out.other (by omega) _
  rw [← hW1]
  clear hW1 c0 c1 f1 HS0 HQ0 HL HW0 cW cW0 fW
  have d0 := HS1.out.at_.c0
  have d1 : W1.cell? ⟨b, 1, none⟩ = some (.int .i64 ((k : Int) + 2)) := HS1.out.at_.c1
  have t0 := HS1.out.at_.t0
  have z0 : W1.cell? ⟨W.heap.size, 0, none⟩ = some (.int .i64 0) := HQ1.out.cell 0
  have z1 : W1.cell? ⟨W.heap.size, 1, none⟩ = some (.int .i64 0) := HQ1.out.cell 1
  have z2 : W1.cell? ⟨W.heap.size, 2, none⟩ = some (.int .i64 0) := HQ1.out.cell 2
  have z3 : W1.cell? ⟨W.heap.size, 3, none⟩ = some (.bool false) := HQ1.out.cell 3
  have z4 : W1.cell? ⟨W.heap.size, 4, none⟩ = some (.string ⟨#[]⟩) := HQ1.out.cell 4
  have zf0 := HQ1.out.frozen 0
  have zf1 := HQ1.out.frozen 1
  have zf2 := HQ1.out.frozen 2
  have zf3 := HQ1.out.frozen 3
  have zf4 := HQ1.out.frozen 4
  have hwr : IntKind.i64.wrap (((k : Int) + 2) - 1) = ((k : Int) + 1) := by rw [IntKind.wrap_i64]; omega
  have hwr2 : IntKind.i64.wrap (((k : Int) + 1)) = ((k : Int) + 1) := by rw [IntKind.wrap_i64]; omega
  have hwr3 : ((k : Int) + 2) - 1 = ((k : Int) + 1) := by omega
  have HSL : Hid (Calls Tryz.prog 54 #[.pointer (some ⟨sb, 0, none⟩), .int .i64 ((k : Int) + 1), .int .i64 ((k : Int) + 2)] W1.drew fun e w' => e = .returned (.string (s.extract (k + 1) (k + 2))) ∧ w' = W1.drew) := slice_any sb s (k + 1) (k + 2) W1.drew t0 (by omega) (by omega)
  have hbn : ¬ b = W.heap.size := by omega
  have hnb : ¬ W.heap.size = b := by omega
  have hsn : ¬ sb = W.heap.size := by omega
  have hns : ¬ W.heap.size = sb := by omega
  go_region_held3 (fun w' => w'.cell? ⟨b, 0, none⟩ = some (.pointer (some ⟨sb, 0, none⟩)) ∧ w'.cell? ⟨b, 1, none⟩ = some (.int .i64 ((k : Int) + 2)) ∧ w'.cell? ⟨sb, 0, none⟩ = some (.string s)) (go_keep) (first | (go_at_call 54; refine Calls.mono HSL.out ?_; rintro e w2 ⟨rfl, rfl⟩))
  obtain ⟨W2, hW2⟩ : ∃ W2, W2 = (((((W1.setCell ⟨W.heap.size, 0, none⟩ (.int .i64 2)).setCell ⟨W.heap.size, 1, none⟩ (.int .i64 (k : Nat))).setCell ⟨W.heap.size, 2, none⟩ (.int .i64 0)).setCell ⟨W.heap.size, 3, none⟩ (.bool false)).setCell ⟨W.heap.size, 4, none⟩ (.string (s.extract (k + 1) (k + 2)))).drew := ⟨_, rfl⟩
  have HQ2 : Hid (Cel W2 W.heap.size 36 #[.int .i64 2, .int .i64 (k : Nat), .int .i64 0, .bool false, .string (s.extract (k + 1) (k + 2))]) := by rw [hW2]; exact Cel.drew (HQ1.out.put5 (.int .i64 2) (.int .i64 (k : Nat)) (.int .i64 0) (.bool false) (.string (s.extract (k + 1) (k + 2))))
  have HS2 : Hid (Stp W b sb s (k + 2) W2) := by rw [hW2]; exact (HS1.out.put5 hlb hlsb (Nat.le_refl _) (.int .i64 2) (.int .i64 (k : Nat)) (.int .i64 0) (.bool false) (.string (s.extract (k + 1) (k + 2)))).drew
  rw [← hW2]
  clear hW2 HS1 HQ1
  go_wp2_with fail
  refine bodyPost_ret (results_one (p := 2) rfl _ _ W.heap.size _ rfl HQ2.out rfl) rfl ?_
  exact ⟨rfl, HS2.out⟩
set_option maxRecDepth 100000 in
set_option maxHeartbeats 2000000 in
theorem escaped_end {W : World} {b sb k : Nat} {s : ByteArray} (h : Rd W b sb s k) (hs : s.size < 1099511627776) (hk : k < s.size) (h2 : ¬ k + 1 < s.size) :
    Calls Tryz.prog 42 #[.pointer (some ⟨b, 0, none⟩)] W fun e w' => e = .returned (.agg #[.int .i64 2, .int .i64 (k : Nat), .int .i64 0, .bool false, .string (s.extract (k) (k + 1))]) ∧ Stp W b sb s (k + 1) w' := by
  have hlb := h.rd.lt
  have hlsb := h.src.lt
  have cW := h.c1
  have cW0 := h.c0
  have fW := h.f1
  have hmin : min ((k : Int) + 2) (s.size : Int) = ((k : Int) + 1) := by omega
  obtain ⟨W0, hW0⟩ : ∃ W0, W0 = W.alloc (.cells zC 36) := ⟨_, rfl⟩
  have HS0 : Hid (Stp W b sb s k W0) := by rw [hW0]; exact (Stp.refl h).alloc _
  have HQ0 : Hid (Cel W0 W.heap.size 36 zC) := by rw [hW0]; exact Cel.new W _ _
  have HW0 : Hid (W.alloc (.cells zC 36) = W0) := hW0.symm
  have HL : Hid (Calls Tryz.prog 40 #[.pointer (some ⟨sb, 0, none⟩)] W0 fun e w' => e = .returned (.int .i64 s.size) ∧ w' = W0) := len_any sb s W0 HS0.out.at_.t0
  have c0 := HS0.out.at_.c0
  have c1 := HS0.out.at_.c1
  have f1 := HS0.out.at_.f1
  clear h hW0
  go_enter Tryz.func42, Tryz.ntmps42
  go_wp2_with fail
  rw [HW0.out]
  refine Calls.mono HL.out ?_
  rintro e w1 ⟨rfl, hw⟩
  obtain rfl := hw.symm
  clear hw
  go_wp2_with fail
  obtain ⟨W1, hW1⟩ : ∃ W1, W1 = W0.setCell ⟨b, 1, none⟩ (.int .i64 ((k : Int) + 1)) := ⟨_, rfl⟩
  have HS1 : Hid (Stp W b sb s (k + 1) W1) := by rw [hW1]; exact set_step HS0.out _ _ (by omega)
  have HQ1 : Hid (Cel W1 W.heap.size 36 zC) := by rw [hW1]; exact HQ0.out.other (by omega) _
  rw [← hW1]
  clear hW1 c0 c1 f1 HS0 HQ0 HL HW0 cW cW0 fW
  have d0 := HS1.out.at_.c0
  have d1 : W1.cell? ⟨b, 1, none⟩ = some (.int .i64 ((k : Int) + 1)) := HS1.out.at_.c1
  have t0 := HS1.out.at_.t0
  have z0 : W1.cell? ⟨W.heap.size, 0, none⟩ = some (.int .i64 0) := HQ1.out.cell 0
  have z1 : W1.cell? ⟨W.heap.size, 1, none⟩ = some (.int .i64 0) := HQ1.out.cell 1
  have z2 : W1.cell? ⟨W.heap.size, 2, none⟩ = some (.int .i64 0) := HQ1.out.cell 2
  have z3 : W1.cell? ⟨W.heap.size, 3, none⟩ = some (.bool false) := HQ1.out.cell 3
  have z4 : W1.cell? ⟨W.heap.size, 4, none⟩ = some (.string ⟨#[]⟩) := HQ1.out.cell 4
  have zf0 := HQ1.out.frozen 0
  have zf1 := HQ1.out.frozen 1
  have zf2 := HQ1.out.frozen 2
  have zf3 := HQ1.out.frozen 3
  have zf4 := HQ1.out.frozen 4
  have hwr : IntKind.i64.wrap (((k : Int) + 1) - 1) = (k : Int) := by rw [IntKind.wrap_i64]; omega
  have hwr2 : IntKind.i64.wrap ((k : Int)) = (k : Int) := by rw [IntKind.wrap_i64]; omega
  have hwr3 : ((k : Int) + 1) - 1 = (k : Int) := by omega
  have HSL : Hid (Calls Tryz.prog 54 #[.pointer (some ⟨sb, 0, none⟩), .int .i64 (k : Int), .int .i64 ((k : Int) + 1)] W1.drew fun e w' => e = .returned (.string (s.extract (k) (k + 1))) ∧ w' = W1.drew) := slice_any sb s (k) (k + 1) W1.drew t0 (by omega) (by omega)
  have hbn : ¬ b = W.heap.size := by omega
  have hnb : ¬ W.heap.size = b := by omega
  have hsn : ¬ sb = W.heap.size := by omega
  have hns : ¬ W.heap.size = sb := by omega
  go_region_held3 (fun w' => w'.cell? ⟨b, 0, none⟩ = some (.pointer (some ⟨sb, 0, none⟩)) ∧ w'.cell? ⟨b, 1, none⟩ = some (.int .i64 ((k : Int) + 1)) ∧ w'.cell? ⟨sb, 0, none⟩ = some (.string s)) (go_keep) (first | (go_at_call 54; refine Calls.mono HSL.out ?_; rintro e w2 ⟨rfl, rfl⟩))
  obtain ⟨W2, hW2⟩ : ∃ W2, W2 = (((((W1.setCell ⟨W.heap.size, 0, none⟩ (.int .i64 2)).setCell ⟨W.heap.size, 1, none⟩ (.int .i64 (k : Nat))).setCell ⟨W.heap.size, 2, none⟩ (.int .i64 0)).setCell ⟨W.heap.size, 3, none⟩ (.bool false)).setCell ⟨W.heap.size, 4, none⟩ (.string (s.extract (k) (k + 1)))).drew := ⟨_, rfl⟩
  have HQ2 : Hid (Cel W2 W.heap.size 36 #[.int .i64 2, .int .i64 (k : Nat), .int .i64 0, .bool false, .string (s.extract (k) (k + 1))]) := by rw [hW2]; exact Cel.drew (HQ1.out.put5 (.int .i64 2) (.int .i64 (k : Nat)) (.int .i64 0) (.bool false) (.string (s.extract (k) (k + 1))))
  have HS2 : Hid (Stp W b sb s (k + 1) W2) := by rw [hW2]; exact (HS1.out.put5 hlb hlsb (Nat.le_refl _) (.int .i64 2) (.int .i64 (k : Nat)) (.int .i64 0) (.bool false) (.string (s.extract (k) (k + 1)))).drew
  rw [← hW2]
  clear hW2 HS1 HQ1
  go_wp2_with fail
  refine bodyPost_ret (results_one (p := 2) rfl _ _ W.heap.size _ rfl HQ2.out rfl) rfl ?_
  exact ⟨rfl, HS2.out⟩
end Go.Proofs.YtnlbjgioleoihaaGreatDoor
