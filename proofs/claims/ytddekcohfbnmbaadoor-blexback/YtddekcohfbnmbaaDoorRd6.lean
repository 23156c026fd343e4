/- What is between quotes. -/
import Derived.Test.YtddekcohfbnmbaaDoorRd3
import Derived.Test.YtddekcohfbnmbaaDoorPureA
import Derived.Test.YtddekcohfbnmbaaDoorShelf2
namespace Go.Proofs.YtddekcohfbnmbaaDoor
open Go.RowKit
attribute [local go_sem] Oper.semAt_some

/-- Does the quote that ends another one stand here? -/
def qEnd : List UInt8 → Bool
  | [] => false
  | [c] => c == 39
  | c :: d :: _ => c == 39 && !(d == 39)
theorem qEnd_eq (l : List UInt8) : qEnd l = (([39] : List UInt8).isPrefixOf l && !(([39, 39] : List UInt8).isPrefixOf l)) := by
  match l with
  | [] => rfl
  | [c] => simp [qEnd, List.isPrefixOf, Bool.beq_comm]
  | c :: d :: t =>
    simp only [qEnd, List.isPrefixOf, Bool.and_true]
    rw [show ((39 : UInt8) == c) = (c == 39) from Bool.beq_comm, show ((39 : UInt8) == d) = (d == 39) from Bool.beq_comm]
    cases c == 39 <;> simp
def qpre (x : List UInt8) (o : Option (List UInt8 × List UInt8)) : Option (List UInt8 × List UInt8) := o.map (fun q => (x ++ q.1, q.2))
theorem qpre_nil (o : Option (List UInt8 × List UInt8)) : qpre [] o = o := by cases o <;> simp [qpre]
theorem qpre_pre (x y : List UInt8) (o : Option (List UInt8 × List UInt8)) : qpre x (qpre y o) = qpre (x ++ y) o := by cases o <;> simp [qpre]
theorem qraw_end {l : List UInt8} (h : qEnd l = true) : qraw l = some ([], l.tail) := by
  match l, h with
  | [c], h => simp [qEnd] at h; simp [qraw, h]
  | c :: d :: t, h => simp [qEnd] at h; rw [qraw, if_pos h.1, if_neg h.2]; rfl
theorem qraw_two (t : List UInt8) : qraw (39 :: 39 :: t) = qpre [39, 39] (qraw t) := by rw [qraw, if_pos rfl, if_pos rfl]; rfl
theorem qraw_one {c : UInt8} (t : List UInt8) (h : c ≠ 39) : qraw (c :: t) = qpre [c] (qraw t) := by
  cases t with
  | nil => simp [qraw, h, qpre]
  | cons d t => rw [qraw, if_neg h]; rfl
theorem two_pre (c : UInt8) (t : List UInt8) (h : ([39, 39] : List UInt8).isPrefixOf (c :: t) = true) : ∃ u, c = 39 ∧ t = 39 :: u := by
  cases t with
  | nil => simp [List.isPrefixOf] at h
  | cons d u =>
    simp [List.isPrefixOf] at h
    exact ⟨u, h.1.symm, by rw [h.2]⟩
set_option maxRecDepth 100000 in
set_option maxHeartbeats 2000000 in
theorem quoteEnds_any {W : World} {b sb k : Nat} {s : ByteArray} (h : Rd W b sb s k) :
    Calls Tryd.prog 55 #[.pointer (some ⟨b, 0, none⟩)] W fun e w' => e = .returned (.bool (qEnd (s.data.toList.drop k))) ∧ ∃ m, w' = W.drewN m := by
  have c0 := h.c0
  have c1 := h.c1
  have HH1 : Hid (∀ m, Calls Tryd.prog 42 #[.pointer (some ⟨sb, 0, none⟩), .int .i64 (k : Nat), .string ⟨#[39]⟩] (W.drewN m) fun e w' => e = .returned (.bool (([39] : List UInt8).isPrefixOf (s.data.toList.drop k))) ∧ w' = W.drewN m) := fun m => has_any sb s ⟨#[39]⟩ k (W.drewN m) h.t0 (by show 0 < 1; omega)
  have HH2 : Hid (∀ m, Calls Tryd.prog 42 #[.pointer (some ⟨sb, 0, none⟩), .int .i64 (k : Nat), .string ⟨#[39, 39]⟩] (W.drewN m) fun e w' => e = .returned (.bool (([39, 39] : List UInt8).isPrefixOf (s.data.toList.drop k))) ∧ w' = W.drewN m) := fun m => has_any sb s ⟨#[39, 39]⟩ k (W.drewN m) h.t0 (by show 0 < 2; omega)
  rw [qEnd_eq]
  clear h
  generalize ([39] : List UInt8).isPrefixOf (s.data.toList.drop k) = b1 at HH1 ⊢
  generalize ([39, 39] : List UInt8).isPrefixOf (s.data.toList.drop k) = b2 at HH2 ⊢
  cases b1 with
  | true =>
    go_enter Tryd.func55, Tryd.ntmps55
    go_wp2_with fail
    go_quiet (first | (go_at_call 42; first | with_reducible exact Calls.quiet_of_same (HH1.out _) | with_reducible exact Calls.quiet_of_same (HH2.out _)))
    go_wp2_with fail
    go_ret
    exact ⟨ret_bool (by simp), _, rfl⟩
  | false =>
    go_enter Tryd.func55, Tryd.ntmps55
    go_wp2_with fail
    go_quiet (first | (go_at_call 42; first | with_reducible exact Calls.quiet_of_same (HH1.out _) | with_reducible exact Calls.quiet_of_same (HH2.out _)))
    go_wp2_with fail
    go_ret
    exact ⟨ret_bool (by simp), _, rfl⟩
theorem ba_length (x : ByteArray) : x.data.toList.length = x.size := by rw [Array.length_toList]; rfl
theorem ext_list (s : ByteArray) (a j : Nat) : (s.extract a j).data.toList = (s.data.toList.drop a).take (j - a) := by rw [Lib.extract_eq]
theorem take_more (s : ByteArray) (a j : Nat) (haj : a ≤ j) (hj : j < s.size) : (s.data.toList.drop a).take (j + 1 - a) = (s.data.toList.drop a).take (j - a) ++ [s[j]] := by
  rw [show j + 1 - a = (j - a) + 1 by omega, List.take_add_one, List.getElem?_drop, show a + (j - a) = j by omega, text_at s j hj]
  rfl
set_option maxRecDepth 100000 in
set_option maxHeartbeats 8000000 in
theorem dead_any {W : World} {b sb p : Nat} {s : ByteArray} {ea : Nat → Addr} (h : Rd W b sb s p) (hE : Env W ea) (hb64 : (ea 64).block ≤ b) (g : Bool) (hs : s.size ≤ 8192) (hp : p < s.size) :
    Calls Tryd.prog 44 #[.pointer (some ⟨b, 0, none⟩), .agg (tbC ⟨0, p, 0, [], g⟩).toArray] W fun e w' => ∃ v ev, e = .returned (.tuple #[v, ev]) ∧ TokV W b sb s ea (match qraw (s.data.toList.drop (p + 1)) with | none => .error ⟨2, p⟩ | some q => .ok (⟨19, p, 0, unq q.1, g⟩, q.2)) v ev w' := by
  have hlb := h.rd.lt
  have hlsb := h.src.lt
  obtain ⟨W0, hW0⟩ : ∃ W0, W0 = (W.alloc (.cells (tbC ⟨0, p, 0, [], g⟩).toArray 40)).alloc (.cells zT 40) := ⟨_, rfl⟩
  have HS0 : Hid (Stp W b sb s p W0) := by rw [hW0]; exact ((Stp.refl h).alloc _).alloc _
  have HT0 : Hid (Cel W0 W.heap.size 40 (tbC ⟨0, p, 0, [], g⟩).toArray) := by rw [hW0]; exact (Cel.new W _ _).below (below_new _ _) (by simp)
  have HQ0 : Hid (Cel W0 (W.heap.size + 1) 40 zT) := by rw [hW0]; exact Cel.new2 W _ _ _
  have HW0 : Hid ((W.alloc (.cells (tbC ⟨0, p, 0, [], g⟩).toArray 40)).alloc (.cells zT 40) = W0) := hW0.symm
  have HE : Hid (∀ w j, Stp W b sb s j w → Env w ea) := fun w j hw => hE.stp hw hb64
  have hgl := hE.glob
  have hbn : ¬ b = W.heap.size := by omega
  have hnb : ¬ W.heap.size = b := by omega
  have hbn1 : ¬ b = W.heap.size + 1 := by omega
  have hnb1 : ¬ W.heap.size + 1 = b := by omega
  obtain ⟨Q, HQR⟩ : ∃ Q, Hid (qraw (s.data.toList.drop (p + 1)) = Q) := ⟨_, rfl⟩
  rw [HQR.out]
  have c1 := HS0.out.at_.c1
  have f1 := HS0.out.at_.f1
  clear h hE hW0
  go_enter Tryd.func44, Tryd.ntmps44
  go_upto_region 1 with fail
  rw [HW0.out]
  go_wp2_with fail
  obtain ⟨W1, hW1⟩ : ∃ W1, W1 = W0.setCell ⟨b, 1, none⟩ (.int .i64 ((p : Int) + 1)) := ⟨_, rfl⟩
  have HS1 : Hid (Stp W b sb s (p + 1) W1) := by rw [hW1]; exact set_step HS0.out _ _ (by omega)
  have HT1 : Hid (Cel W1 W.heap.size 40 (tbC ⟨0, p, 0, [], g⟩).toArray) := by rw [hW1]; exact HT0.out.other (by omega) _
  have HQ1 : Hid (Cel W1 (W.heap.size + 1) 40 zT) := by rw [hW1]; exact HQ0.out.other (by omega) _
  rw [← hW1]
  clear hW1 HS0 HT0 HQ0 HW0 c1 f1
  go_loopw [5] (fun v5 wr => ∃ j : Nat, v5 = .nilIface ∧ p + 1 ≤ j ∧ j ≤ s.size ∧ Hid (Q = qpre ((s.data.toList.drop (p + 1)).take (j - (p + 1))) (qraw (s.data.toList.drop j))) ∧ Hid (Stp W b sb s j wr) ∧ Hid (Cel wr W.heap.size 40 (tbC ⟨0, p, 0, [], g⟩).toArray) ∧ Hid (Cel wr (W.heap.size + 1) 40 zT)) (fun _ wr => s.size + 2 - posOf wr b)
  case atStart => exact ⟨p + 1, rfl, Nat.le_refl _, by omega, by unfold Hid; rw [Nat.sub_self, List.take_zero, qpre_nil, HQR.out], HS1.out, HT1.out, HQ1.out⟩
  case round =>
    obtain ⟨j, rfl, hpj, hj, HQE, HS, HT, HQ⟩ := hrel
    clear HS1 HT1 HQ1 HQR
    have HPO : Hid (posOf wr b = j) := HS.out.at_.pos
    have HI : Hid _ := quoteEnds_any HS.out.at_
    cases hqe : qEnd (s.data.toList.drop j) with
    | true =>
      rw [hqe] at HI
      have hlt : j < s.size := by
        rcases Nat.lt_or_ge j s.size with h | h
        · exact h
        · rw [drop_none s j (by omega)] at hqe; cases hqe
      have HQS : Hid (Q = some ((s.extract (p + 1) j).data.toList, s.data.toList.drop (j + 1))) := by
        unfold Hid
        rw [HQE.out, qraw_end hqe, List.tail_drop, ext_list]
        simp [qpre]
      clear hqe HQE HPO
      go_wp2_with fail
      refine Calls.mono HI.out ?_
      rintro e w1 ⟨rfl, m, hw1⟩
      have HS1 : Hid (Stp W b sb s j w1) := by rw [hw1]; exact HS.out.drewN m
      have HT1 : Hid (Cel w1 W.heap.size 40 (tbC ⟨0, p, 0, [], g⟩).toArray) := by rw [hw1]; exact HT.out
      have HQ1 : Hid (Cel w1 (W.heap.size + 1) 40 zT) := by rw [hw1]; exact HQ.out
      clear hw1 HS HT HQ HI
      obtain ⟨x, HX⟩ : ∃ x, Hid (s.extract (p + 1) j = x) := ⟨_, rfl⟩
      have hxs : x.size ≤ 8192 := by
        rw [← HX.out]
        have := congrArg List.length (ext_list s (p + 1) j)
        rw [List.length_take, len_drop] at this
        have h2 := ba_length (s.extract (p + 1) j)
        omega
      rw [HX.out] at HQS
      obtain rfl := HQS.out
      clear HQS
      have d0 := HS1.out.at_.c0
      have d1 := HS1.out.at_.c1
      have t0 := HS1.out.at_.t0
      have u0 : w1.cell? ⟨W.heap.size, 0, none⟩ = some (.int .i64 0) := HT1.out.cell 0
      have u1 : w1.cell? ⟨W.heap.size, 1, none⟩ = some (.int .i64 (p : Nat)) := HT1.out.cell 1
      have u3 : w1.cell? ⟨W.heap.size, 3, none⟩ = some (.string ⟨#[]⟩) := HT1.out.cell 3
      have HSL : Hid (Calls Tryd.prog 56 #[.pointer (some ⟨sb, 0, none⟩), .int .i64 ((p : Int) + 1), .int .i64 (j : Nat)] w1.drew fun e w' => e = .returned (.string x) ∧ w' = w1.drew) := by
        have := slice_any sb s (p + 1) j w1.drew t0 (by omega) (by omega)
        rw [HX.out] at this
        exact this
      have HRA : Hid (Calls Tryd.prog 38 #[.string x, .string ⟨#[39, 39]⟩, .string ⟨#[39]⟩] w1.drew fun e w' => e = .returned (str (unq x.data.toList)) ∧ (w'.cell? ⟨b, 0, none⟩ = some (.pointer (some ⟨sb, 0, none⟩)) ∧ w'.cell? ⟨b, 1, none⟩ = some (.int .i64 (j : Nat)) ∧ w'.cell? ⟨W.heap.size, 1, none⟩ = some (.int .i64 (p : Nat))) ∧ Stp W b sb s j w' ∧ Cel w' W.heap.size 40 (tbC ⟨0, p, 0, [], g⟩).toArray ∧ Cel w' (W.heap.size + 1) 40 zT) := by
        obtain ⟨ml, hml⟩ := (HE.out w1 j HS1.out).ml
        have hcl : Lib.countB x ⟨#[39, 39]⟩ ≤ x.size + 1 := by
          have := count_le x.data.toList [39, 39]
          have h2 := ba_length x
          rw [h2] at this
          exact this
        refine (Tryd.strings_ReplaceAll x ⟨#[39, 39]⟩ ⟨#[39]⟩ ml w1.drew (by omega) hml (by show 1 ≤ 2; omega) (by show x.size + Lib.countB x ⟨#[39, 39]⟩ * 1 ≤ _; omega)).mono ?_
        rintro e w' ⟨rfl, hb'⟩
        have hst : Stp W b sb s j w' := HS1.out.drew.below hb'
        have ht' : Cel w' W.heap.size 40 (tbC ⟨0, p, 0, [], g⟩).toArray := (Cel.drew HT1.out).below hb' HT1.out.lt
        refine ⟨?_, ⟨hst.at_.c0, hst.at_.c1, ht'.cell 1⟩, hst, ht', (Cel.drew HQ1.out).below hb' HQ1.out.lt⟩
        show Ending.returned (.string ⟨(Lib.replaceAll x.data.toList [39, 39] [39]).toArray⟩) = _
        rw [rep_all]
      obtain ⟨U, HU⟩ : ∃ U, Hid (unq x.data.toList = U) := ⟨_, rfl⟩
      rw [HU.out] at HRA
      have hsn : ¬ sb = W.heap.size := by omega
      have hns : ¬ W.heap.size = sb := by omega
      have hpw : IntKind.i64.wrap ((p : Int) + 1) = (p : Int) + 1 := by rw [IntKind.wrap_i64]; omega
      go_wp2_with fail
      go_region_held3 (fun w' => w'.cell? ⟨b, 0, none⟩ = some (.pointer (some ⟨sb, 0, none⟩)) ∧ w'.cell? ⟨b, 1, none⟩ = some (.int .i64 (j : Nat)) ∧ w'.cell? ⟨W.heap.size, 1, none⟩ = some (.int .i64 (p : Nat))) (refine ⟨?_, ?_, ?_⟩ <;> first | with_reducible assumption | with_reducible exact HK1.out | with_reducible exact HK2.out | (go_keep; done)) (first | (go_at_call 56; refine Calls.mono HSL.out ?_; rintro e w2 ⟨rfl, rfl⟩) | (go_at_call 38; refine Calls.mono HRA.out ?_; rintro e w3 ⟨rfl, ⟨m0, m1, m2⟩, hst3, ht3, hq3⟩; have HS3 : Hid (Stp W b sb s j w3) := hst3; have HT3 : Hid (Cel w3 W.heap.size 40 (tbC ⟨0, p, 0, [], g⟩).toArray) := ht3; have HQ3 : Hid (Cel w3 (W.heap.size + 1) 40 zT) := hq3; have y0 : w3.cell? ⟨W.heap.size, 0, none⟩ = some (.int .i64 0) := ht3.cell 0; have y3 : w3.cell? ⟨W.heap.size, 3, none⟩ = some (.string ⟨#[]⟩) := ht3.cell 3; have yf0 := ht3.frozen 0; have yf3 := ht3.frozen 3; have HK1 : Hid ((w3.setCell ⟨W.heap.size, 0, none⟩ (.int .i64 19)).cell? ⟨W.heap.size, 1, none⟩ = some (.int .i64 (p : Nat))) := (ht3.set (j := 0) (.int .i64 19)).cell 1; have HK2 : Hid (((w3.setCell ⟨W.heap.size, 0, none⟩ (.int .i64 19)).setCell ⟨W.heap.size, 3, none⟩ (str U)).cell? ⟨W.heap.size, 1, none⟩ = some (.int .i64 (p : Nat))) := ((ht3.set (j := 0) (.int .i64 19)).set (j := 3) (str U)).cell 1; clear hst3 ht3 hq3))
      obtain ⟨X, hX⟩ : ∃ X, X = (w3.setCell ⟨W.heap.size, 0, none⟩ (.int .i64 19)).setCell ⟨W.heap.size, 3, none⟩ (str U) := ⟨_, rfl⟩
      have HSX : Hid (Stp W b sb s j X) := by rw [hX]; exact (HS3.out.other hlb hlsb (Nat.le_refl _) 0 _).other hlb hlsb (Nat.le_refl _) 3 _
      have HTX : Hid (Cel X W.heap.size 40 #[.int .i64 19, .int .i64 (p : Nat), .int .i64 0, str U, .bool g]) := by rw [hX]; exact (HT3.out.set (j := 0) (.int .i64 19)).set (j := 3) (str U)
      have HQX : Hid (Cel X (W.heap.size + 1) 40 zT) := by rw [hX]; exact (HQ3.out.other (by omega) _).other (by omega) _
      rw [← hX]
      clear hX HS1 HT1 HQ1 d0 d1 t0 u0 u1 u3 HSL HRA HS3 HT3 HQ3 y0 y3 yf0 yf3 HK1 HK2 m0 m1 m2
      have e1 := HSX.out.at_.c1
      have ef := HSX.out.at_.f1
      have v0 : X.cell? ⟨W.heap.size, 0, none⟩ = some (.int .i64 19) := HTX.out.cell 0
      have v1 : X.cell? ⟨W.heap.size, 1, none⟩ = some (.int .i64 (p : Nat)) := HTX.out.cell 1
      have v2 : X.cell? ⟨W.heap.size, 2, none⟩ = some (.int .i64 0) := HTX.out.cell 2
      have v3 : X.cell? ⟨W.heap.size, 3, none⟩ = some (str U) := HTX.out.cell 3
      have v4 : X.cell? ⟨W.heap.size, 4, none⟩ = some (.bool g) := HTX.out.cell 4
      have z0 : X.cell? ⟨W.heap.size + 1, 0, none⟩ = some (.int .i64 0) := HQX.out.cell 0
      have z1 : X.cell? ⟨W.heap.size + 1, 1, none⟩ = some (.int .i64 0) := HQX.out.cell 1
      have z2 : X.cell? ⟨W.heap.size + 1, 2, none⟩ = some (.int .i64 0) := HQX.out.cell 2
      have z3 : X.cell? ⟨W.heap.size + 1, 3, none⟩ = some (.string ⟨#[]⟩) := HQX.out.cell 3
      have z4 : X.cell? ⟨W.heap.size + 1, 4, none⟩ = some (.bool false) := HQX.out.cell 4
      have zf0 := HQX.out.frozen 0
      have zf1 := HQX.out.frozen 1
      have zf2 := HQX.out.frozen 2
      have zf3 := HQX.out.frozen 3
      have zf4 := HQX.out.frozen 4
      go_wp2_with fail
      have hS5 : Stp W b sb s (j + 1) (X.setCell ⟨b, 1, none⟩ (.int .i64 ((j : Int) + 1))) := set_step HSX.out _ _ (by omega)
      have hQ5 : Cel (X.setCell ⟨b, 1, none⟩ (.int .i64 ((j : Int) + 1))) (W.heap.size + 1) 40 zT := HQX.out.other (by omega) _
      refine bodyPost_ret (results_tok (p := 4) (u := 5) rfl _ _ (W.heap.size + 1) _ rfl (hQ5.put5 (.int .i64 19) (.int .i64 (p : Nat)) (.int .i64 0) (str U) (.bool g)) rfl) rfl ?_
      refine ⟨_, _, rfl, ?_, rfl, j + 1, hS5.put5 hlb hlsb (by omega) _ _ _ _ _, by omega, rfl⟩
      simp only [HU.out]
      rfl
    | false =>
      rw [hqe] at HI
      go_wp2_with fail
      refine Calls.mono HI.out ?_
      rintro e w1 ⟨rfl, m, hw1⟩
      have HS1 : Hid (Stp W b sb s j w1) := by rw [hw1]; exact HS.out.drewN m
      have HT1 : Hid (Cel w1 W.heap.size 40 (tbC ⟨0, p, 0, [], g⟩).toArray) := by rw [hw1]; exact HT.out
      have HQ1 : Hid (Cel w1 (W.heap.size + 1) 40 zT) := by rw [hw1]; exact HQ.out
      clear hw1 HS HT HQ HI
      have HEN : Hid (∀ m, Calls Tryd.prog 32 #[.pointer (some ⟨sb, 0, none⟩)] (w1.drewN m) fun e w' => e = .returned (.int .i64 s.size) ∧ w' = w1.drewN m) := fun m => len_any sb s (w1.drewN m) HS1.out.at_.t0
      have c0 := HS1.out.at_.c0
      have c1 := HS1.out.at_.c1
      by_cases hlt : j < s.size
      · have hlt' : ¬ (s.size : Int) ≤ (j : Int) := by omega
        have hlt2 : decide (s.size ≤ j) = false := decide_eq_false (by omega)
        have hd := drop_cons s j hlt
        go_wp2_with fail
        go_quiet (first | (go_at_call 32; exact Calls.quiet_of_same (HEN.out _)))
        obtain ⟨W2, hW2⟩ : ∃ W2, W2 = w1.drewN nq := ⟨_, rfl⟩
        have HS2 : Hid (Stp W b sb s j W2) := by rw [hW2]; exact HS1.out.drewN nq
        have HT2 : Hid (Cel W2 W.heap.size 40 (tbC ⟨0, p, 0, [], g⟩).toArray) := by rw [hW2]; exact HT1.out
        have HQ2 : Hid (Cel W2 (W.heap.size + 1) 40 zT) := by rw [hW2]; exact HQ1.out
        rw [← hW2]
        clear hW2 HS1 HT1 HQ1 c0 c1 HEN
        have c0 := HS2.out.at_.c0
        have c1 := HS2.out.at_.c1
        have HH2 : Hid (∀ m, Calls Tryd.prog 42 #[.pointer (some ⟨sb, 0, none⟩), .int .i64 (j : Nat), .string ⟨#[39, 39]⟩] (W2.drewN m) fun e w' => e = .returned (.bool (([39, 39] : List UInt8).isPrefixOf (s.data.toList.drop j))) ∧ w' = W2.drewN m) := fun m => has_any sb s ⟨#[39, 39]⟩ j (W2.drewN m) HS2.out.at_.t0 (by show 0 < 2; omega)
        cases h2 : ([39, 39] : List UInt8).isPrefixOf (s.data.toList.drop j) with
        | true =>
          rw [h2] at HH2
          have h2' := h2
          rw [hd] at h2'
          obtain ⟨u, hc, hu⟩ := two_pre _ _ h2'
          have hj1 : j + 1 < s.size := by
            rcases Nat.lt_or_ge (j + 1) s.size with h | h
            · exact h
            · rw [drop_none s (j + 1) (by omega)] at hu; cases hu
          have hd1 := drop_cons s (j + 1) hj1
          have hc1 : s[j + 1] = 39 ∧ s.data.toList.drop (j + 2) = u := by rw [hd1] at hu; exact List.cons.inj hu
          have HQE2 : Hid (Q = qpre ((s.data.toList.drop (p + 1)).take (j + 2 - (p + 1))) (qraw (s.data.toList.drop (j + 2)))) := by
            unfold Hid
            rw [HQE.out, hd, hc, hu, qraw_two, qpre_pre, hc1.2, take_more s (p + 1) (j + 1) (by omega) hj1, take_more s (p + 1) j (by omega) hlt, hc, hc1.1, List.append_assoc]
            rfl
          clear h2 h2' hu hc hc1 hd hd1 HQE hqe
          go_wp2_with fail
          go_quiet (first | (go_at_call 42; exact Calls.quiet_of_same (HH2.out _)))
          obtain ⟨W3, hW3⟩ : ∃ W3, W3 = W2.drewN nq := ⟨_, rfl⟩
          have HS3 : Hid (Stp W b sb s j W3) := by rw [hW3]; exact HS2.out.drewN nq
          have HT3 : Hid (Cel W3 W.heap.size 40 (tbC ⟨0, p, 0, [], g⟩).toArray) := by rw [hW3]; exact HT2.out
          have HQ3 : Hid (Cel W3 (W.heap.size + 1) 40 zT) := by rw [hW3]; exact HQ2.out
          rw [← hW3]
          clear hW3 HS2 HT2 HQ2 c0 c1 HH2
          have c1 := HS3.out.at_.c1
          have f1 := HS3.out.at_.f1
          go_wp2_with fail
          have hS4 : Stp W b sb s (j + 2) ((W3.setCell ⟨b, 1, none⟩ (.int .i64 ((j : Int) + 1))).setCell ⟨b, 1, none⟩ (.int .i64 ((j : Int) + 1 + 1))) := set_step (set_step HS3.out ((j : Int) + 1) (j + 1) (by omega)) ((j : Int) + 1 + 1) (j + 2) (by omega)
          refine ⟨⟨j + 2, rfl, by omega, by omega, HQE2.out, hS4, (HT3.out.other (by omega) _).other (by omega) _, (HQ3.out.other (by omega) _).other (by omega) _⟩, ?_⟩
          rw [hS4.at_.pos, HPO.out]
          omega
        | false =>
          rw [h2] at HH2
          have hc39 : s[j] ≠ 39 := fun e => by
            rw [hd, e] at h2 hqe
            rw [qEnd_eq, h2] at hqe
            simp [List.isPrefixOf] at hqe
          have HQE2 : Hid (Q = qpre ((s.data.toList.drop (p + 1)).take (j + 1 - (p + 1))) (qraw (s.data.toList.drop (j + 1)))) := by
            unfold Hid
            rw [HQE.out, hd, qraw_one _ hc39, qpre_pre, take_more s (p + 1) j (by omega) hlt]
          clear h2 hc39 hd HQE hqe
          go_wp2_with fail
          go_quiet (first | (go_at_call 42; exact Calls.quiet_of_same (HH2.out _)))
          obtain ⟨W3, hW3⟩ : ∃ W3, W3 = W2.drewN nq := ⟨_, rfl⟩
          have HS3 : Hid (Stp W b sb s j W3) := by rw [hW3]; exact HS2.out.drewN nq
          have HT3 : Hid (Cel W3 W.heap.size 40 (tbC ⟨0, p, 0, [], g⟩).toArray) := by rw [hW3]; exact HT2.out
          have HQ3 : Hid (Cel W3 (W.heap.size + 1) 40 zT) := by rw [hW3]; exact HQ2.out
          rw [← hW3]
          clear hW3 HS2 HT2 HQ2 c0 c1 HH2
          have c1 := HS3.out.at_.c1
          have f1 := HS3.out.at_.f1
          go_wp2_with fail
          have hS4 : Stp W b sb s (j + 1) (W3.setCell ⟨b, 1, none⟩ (.int .i64 ((j : Int) + 1))) := set_step HS3.out ((j : Int) + 1) (j + 1) (by omega)
          refine ⟨⟨j + 1, rfl, by omega, by omega, HQE2.out, hS4, HT3.out.other (by omega) _, HQ3.out.other (by omega) _⟩, ?_⟩
          rw [hS4.at_.pos, HPO.out]
          omega
      · have hlt' : (s.size : Int) ≤ (j : Int) := by omega
        have hlt2 : decide (s.size ≤ j) = true := decide_eq_true (by omega)
        have HQN : Hid (Q = none) := by
          unfold Hid
          rw [HQE.out, drop_none s j hlt]
          rfl
        have g0 := (HE.out w1 j HS1.out).cell 3 (by omega) (by omega)
        clear HQE hqe
        obtain rfl := HQN.out
        clear HQN
        go_wp2_with fail
        go_quiet (first | (go_at_call 32; exact Calls.quiet_of_same (HEN.out _)))
        obtain ⟨W2, hW2⟩ : ∃ W2, W2 = w1.drewN nq := ⟨_, rfl⟩
        have HS2 : Hid (Stp W b sb s j W2) := by rw [hW2]; exact HS1.out.drewN nq
        have HT2 : Hid (Cel W2 W.heap.size 40 (tbC ⟨0, p, 0, [], g⟩).toArray) := by rw [hW2]; exact HT1.out
        have HQ2 : Hid (Cel W2 (W.heap.size + 1) 40 zT) := by rw [hW2]; exact HQ1.out
        have g0' : W2.cell? ⟨3, 0, none⟩ = some (errV (ea 3)) := by rw [hW2]; exact g0
        rw [← hW2]
        clear hW2 HS1 HT1 HQ1 c0 c1 HEN g0
        have u0 : W2.cell? ⟨W.heap.size, 0, none⟩ = some (.int .i64 0) := HT2.out.cell 0
        have u1 : W2.cell? ⟨W.heap.size, 1, none⟩ = some (.int .i64 (p : Nat)) := HT2.out.cell 1
        have u2 : W2.cell? ⟨W.heap.size, 2, none⟩ = some (.int .i64 0) := HT2.out.cell 2
        have u3 : W2.cell? ⟨W.heap.size, 3, none⟩ = some (.string ⟨#[]⟩) := HT2.out.cell 3
        have u4 : W2.cell? ⟨W.heap.size, 4, none⟩ = some (.bool g) := HT2.out.cell 4
        have HFA : Hid _ := fails_any ⟨0, p, 0, [], g⟩ (ea 3) W2
        go_wp2_with fail
        refine Calls.mono HFA.out ?_
        rintro e w3 ⟨q, rfl, hq, hb3⟩
        have HS3 : Hid (Stp W b sb s j w3) := HS2.out.below hb3
        have HQ3 : Hid (Cel w3 (W.heap.size + 1) 40 zT) := HQ2.out.below hb3 HQ2.out.lt
        have HA3 : Hid (AtEr w3 ea (.iface 81 (.pointer (some ⟨q, 0, none⟩))) ⟨2, p⟩) := ⟨q, rfl, hq⟩
        clear hq hb3 HFA HS2 HT2 HQ2 u0 u1 u2 u3 u4 g0'
        have z0 : w3.cell? ⟨W.heap.size + 1, 0, none⟩ = some (.int .i64 0) := HQ3.out.cell 0
        have z1 : w3.cell? ⟨W.heap.size + 1, 1, none⟩ = some (.int .i64 0) := HQ3.out.cell 1
        have z2 : w3.cell? ⟨W.heap.size + 1, 2, none⟩ = some (.int .i64 0) := HQ3.out.cell 2
        have z3 : w3.cell? ⟨W.heap.size + 1, 3, none⟩ = some (.string ⟨#[]⟩) := HQ3.out.cell 3
        have z4 : w3.cell? ⟨W.heap.size + 1, 4, none⟩ = some (.bool false) := HQ3.out.cell 4
        have zf0 := HQ3.out.frozen 0
        have zf1 := HQ3.out.frozen 1
        have zf2 := HQ3.out.frozen 2
        have zf3 := HQ3.out.frozen 3
        have zf4 := HQ3.out.frozen 4
        go_wp2_with fail
        refine bodyPost_ret (results_tok (p := 4) (u := 5) rfl _ _ (W.heap.size + 1) _ rfl (HQ3.out.put5 (.int .i64 0) (.int .i64 0) (.int .i64 0) (.string ⟨#[]⟩) (.bool false)) rfl) rfl ?_
        exact ⟨_, _, rfl, ⟨⟨0, 0, 0, [], false⟩, rfl⟩, HA3.out.put HQ3.out _ _ _ _ _, j, HS3.out.put5 hlb hlsb (by omega) _ _ _ _ _⟩
end Go.Proofs.YtddekcohfbnmbaaDoor
