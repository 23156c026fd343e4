/- Print: its loop over a program's nodes. -/
import Derived.Test.YtaildeglikhkaaaGreatDoorPrMem
namespace Go.Proofs.YtaildeglikhkaaaGreatDoor
open Go.RowKit
attribute [local go_sem] Oper.semAt_some
theorem owns_below {W W' : World} {B e k n : Nat} {v : Value} {xs : List Value} (h : W.ownsRow B e k v n xs) (hb : Below W.heap.size W W') : W'.ownsRow B e k v n xs := by
  refine ⟨h.1, ?_⟩
  rcases h.2 with hn | ⟨g, cap, cur, rfl, hB, hc, rest⟩
  · exact .inl hn
  · exact .inr ⟨g, cap, cur, rfl, hB, (hb.block g (Array.getElem?_eq_some_iff.1 hc).1).trans hc, rest⟩
theorem Bld.fresh {W W' : World} {B b : Nat} {l : List UInt8} (h : Bld W B b l) (hb : Below W.heap.size W W') : Bld W' B b l := by
  obtain ⟨hB, p, v, hp, hc, ho⟩ := h
  exact ⟨hB, p, v, hp, Cel.below hc hb hc.lt, owns_below ho hb⟩
theorem Bld.cel {W : World} {B b : Nat} {l : List UInt8} (h : Bld W B b l) : ∃ cs, Cel W b 65 cs := by
  obtain ⟨_, p, v, _, hc, _⟩ := h
  exact ⟨_, hc⟩
theorem info3 : (Tryz.prog.info? 3).map (fun i => (i.zero, i.size, i.bytes)) = some (some (.int .i64 0), 1, 8) := by kernel_rfl
/-- What Print holds between two writes: the builder, the ends, the node it is at. -/
def Prt (W : World) (B b n6 : Nat) (out : List UInt8) (v : Value) (E : List Int) (x : Nd) (w : World) : Prop := Bld w B b out ∧ Ends w B v E ∧ Cel w n6 50 (ndC x).toArray ∧ Below B W w ∧ B ≤ w.heap.size ∧ n6 ≠ b
theorem Prt.wrote {W : World} {B b n6 : Nat} {out out' : List UInt8} {v : Value} {E : List Int} {x : Nd} {w w' : World} (h : Prt W B b n6 out v E x w) (hb : Bld w' B b out') (hk : Bk B b w w') : Prt W B b n6 out' v E x w' :=
  ⟨hb, h.2.1.bk h.1.cel hk, hk.2.2 n6 50 _ h.2.2.1 (by decide) h.2.2.2.2.2, h.2.2.2.1.trans hk.1, Nat.le_trans h.2.2.2.2.1 hk.1.size, h.2.2.2.2.2⟩
theorem Prt.fresh {W : World} {B b n6 : Nat} {out : List UInt8} {v : Value} {E : List Int} {x : Nd} {w w' : World} (h : Prt W B b n6 out v E x w) (hb : Below w.heap.size w w') : Prt W B b n6 out v E x w' :=
  ⟨h.1.fresh hb, h.2.1.below hb, Cel.below h.2.2.1 hb h.2.2.1.lt, h.2.2.2.1.trans (hb.mono h.2.2.2.2.1), Nat.le_trans h.2.2.2.2.1 hb.size, h.2.2.2.2.2⟩
theorem err_some {W : World} {ea : Nat → Addr} {u : Value} {r : Rs} (h : ErrIs W ea u r) (hr : r ≠ .fine) : ∃ t p, u = .iface t p := by
  cases r with
  | fine => exact absurd rfl hr
  | many => exact ⟨_, _, h⟩
  | node i => obtain ⟨q, rfl, _⟩ := h; exact ⟨_, _, rfl⟩
  | nest i => obtain ⟨q, rfl, _⟩ := h; exact ⟨_, _, rfl⟩
set_option maxHeartbeats 2000000 in
set_option maxRecDepth 100000 in
theorem print_fine (v : Value) (X : List Nd) (W : World) (ea : Nat → Addr) (hE : Ers W ea) (hK : KnAt W) (hP : ∀ w', Below W.heap.size W w' → Pow w') (hN : NdAt W v X) (hl : X.length ≤ 3000) (hok : ∀ x ∈ X, NdOk x ∧ x.s.length < 8796093022208 ∧ 0 ≤ x.n ∧ x.n ≤ 999999999 ∧ 0 ≤ x.size ∧ x.size ≤ 3000) (hw : (printG beginL X 0 []).length < 70368744177664) (hf : checkL X = .fine) :
    Calls Tryz.prog 15 #[v] W fun e w' => e = .returned (str (printG beginL X 0 [])) ∧ Below W.heap.size W w' := by
  obtain ⟨ad, cap, rfl⟩ := hN.form
  have HC : Hid (Calls Tryz.prog 17 #[.slice ad X.length cap] W fun e w' => e = .returned .nilIface ∧ Below W.heap.size W w') := (check_any _ X W ea hE hN (by omega) (fun x hx => (hok x hx).1)).mono (by
    rintro e w' ⟨u, rfl, hu, hb⟩
    rw [hf] at hu
    obtain rfl : u = .nilIface := hu
    exact ⟨rfl, hb⟩)
  have HN : Hid (∀ W', Below W.heap.size W W' → NdAt W' (.slice ad X.length cap) X ∧ KnAt W' ∧ ∀ w', Below W'.heap.size W' w' → Pow w') := fun W' hb => ⟨hN.below hb (Nat.le_refl _), KnAt.below hK hb, fun w' hb' => hP w' (hb.trans (hb'.mono hb.size))⟩
  clear hE hK hP hN hf
  generalize hR : printG beginL X 0 [] = R at hw ⊢
  go_enter Tryz.func15, Tryz.ntmps15
  go_wp2_with fail
  refine Calls.mono HC.out ?_
  rintro e w1 ⟨rfl, hb1⟩
  have HN0 : Hid (Bld (w1.alloc (.cells #[.pointer none, .slice none 0 0] 65)) W.heap.size w1.heap.size []) := ⟨hb1.size, _, _, .inl rfl, Cel.new w1 65 _, World.ownsRow_nil _ _ _ _⟩
  have HB0 : Hid (Below W.heap.size W (w1.alloc (.cells #[.pointer none, .slice none 0 0] 65))) := hb1.trans ((Below.refl _ w1).alloc hb1.size _)
  generalize hb' : w1.heap.size = b at *
  clear HC hb1
  go_wp2_with fail
  clear hb'
  generalize (w1.alloc (Obj.cells #[Value.pointer none, Value.slice none 0 0] 65)) = W0 at HB0 HN0 ⊢
  go_loopw [4, 5, 6, 7, 18] (fun v4 _ _ _ v18 wr => ∃ (k : Nat) (E : List Int) (out : List UInt8), v18 = .int .i64 k ∧ k ≤ X.length ∧ E.length ≤ k ∧ Hid (Bld wr W.heap.size b out) ∧ Hid (Ends wr W.heap.size v4 E) ∧ Hid (out ++ printG beginL (X.drop k) k E.reverse = R) ∧ Hid (Below W.heap.size W wr)) (fun _ _ _ _ v18 _ => X.length - (intOf v18).toNat)
  case atStart => exact ⟨0, [], [], rfl, by omega, by simp, HN0.out, Ends.nil _ _, by unfold Hid; simpa using hR, HB0.out⟩
  case round => as_aux_lemma =>
    obtain ⟨k, E, out, rfl, hk, hEk, HB, HE, HO, HW⟩ := hrel
    obtain ⟨ade, cape, rfl⟩ := HE.out.form
    by_cases hlt : k < X.length
    · obtain ⟨hN, hK, hP⟩ := HN.out _ HW.out
      obtain ⟨x, hx⟩ : ∃ x, X[k]? = some x := ⟨_, List.getElem?_eq_getElem hlt⟩
      have hxm : x ∈ X := List.mem_of_getElem? hx
      obtain ⟨_, hs, hn0, hn1, hz0, hz1⟩ := hok x hxm
      obtain ⟨g, o, cap', hv, hg, c0, c1, c2, c3, c4⟩ := hN.at hx
      by_cases hk0 : 0 < k
      · go_wp2_with fail
        have HP0 : Hid (Prt W W.heap.size b wr.heap.size out (.slice ade E.length cape) E x (wr.alloc (.cells (ndC x).toArray 50))) := ⟨HB.out.fresh ((Below.refl _ wr).alloc (Nat.le_refl _) _), HE.out.below ((Below.refl _ wr).alloc (Nat.le_refl _) _), Cel.new wr 50 _, HW.out.trans ((Below.refl _ wr).alloc HW.out.size _), by have := HW.out.size; simp; omega, by obtain ⟨cs, hcs⟩ := HB.out.cel; have := hcs.lt; omega⟩
        have hol : out.length ≤ R.length := by rw [← HO.out]; simp
        refine Calls.mono (writeByte_bld W.heap.size b out 32 _ HP0.out.1 (by omega) HP0.out.2.2.2.2.1) ?_
        rintro e w2 ⟨rfl, hB2, hk2⟩
        have HP : Hid (Prt W W.heap.size b wr.heap.size (out ++ [32]) (.slice ade E.length cape) E x w2) := HP0.out.wrote hB2 hk2
        clear HP0 hB2 hk2
        generalize wr.heap.size = n6 at HP ⊢
        have d0 : w2.cell? ⟨n6, 0, none⟩ = some (.int .i64 x.kind) := HP.out.2.2.1.cell 0
        have d1 : w2.cell? ⟨n6, 1, none⟩ = some (.int .i64 x.n) := HP.out.2.2.1.cell 1
        have d2 : w2.cell? ⟨n6, 2, none⟩ = some (.int .i64 x.k) := HP.out.2.2.1.cell 2
        have d3 : w2.cell? ⟨n6, 3, none⟩ = some (.int .i64 x.size) := HP.out.2.2.1.cell 3
        have d4 : w2.cell? ⟨n6, 4, none⟩ = some (str x.s) := HP.out.2.2.1.cell 4
        go_wp2_with fail
        refine Calls.mono (begin_any x w2 (HN.out _ HP.out.2.2.2.1).2.1 (HN.out _ HP.out.2.2.2.1).2.2 (by omega) (by omega) hs) ?_
        rintro e w3 ⟨rfl, hb3⟩
        have HP3 : Hid (Prt W W.heap.size b n6 (out ++ [32]) (.slice ade E.length cape) E x w3) := HP.out.fresh hb3
        clear HP hb3 d0 d1 d2 d3 d4
        have HO2 : Hid ((out ++ [32]) ++ beginL x ++ (closeG ((k : Int) + 1) (((k : Int) + x.size) :: E.reverse)).1 ++ printG beginL (X.drop (k + 1)) (k + 1) (closeG ((k : Int) + 1) (((k : Int) + x.size) :: E.reverse)).2 = R) := by
          unfold Hid
          rw [← HO.out, drop_at hx, printG, if_pos hk0]
          simp only [List.append_assoc]
        generalize hout1 : out ++ [32] = out1 at HP3 HO2
        go_wp2_with fail
        have hol2 : out1.length + (beginL x).length ≤ R.length := by rw [← HO2.out]; simp only [List.length_append]; omega
        refine Calls.mono (writeString_bld W.heap.size b out1 ⟨(beginL x).toArray⟩ w3 HP3.out.1 (by simp only [ByteArray.size, List.size_toArray]; omega) HP3.out.2.2.2.2.1) ?_
        rintro e w4 ⟨rfl, hB4, hk4⟩
        have HP4 : Hid (Prt W W.heap.size b n6 (out1 ++ beginL x) (.slice ade E.length cape) E x w4) := HP3.out.wrote hB4 hk4
        clear HP3 hB4 hk4
        have d3 : w4.cell? ⟨n6, 3, none⟩ = some (.int .i64 x.size) := HP4.out.2.2.1.cell 3
        obtain ⟨i0, hi, hzz0, hzz1, hzz2⟩ := info_parts info3
        have HW4 : Hid (W.heap.size ≤ w4.heap.size) := HP4.out.2.2.2.2.1
        go_wp2_with (at_builtin; refine wpList_append_own_at _ rfl _ _ 29 rfl W.heap.size 3 i0 _ 1 8 Tryz.underlying29 hi hzz0 hzz1 hzz2 rfl (by decide) _ _ _ rfl (World.ownsRow.alloc HP4.out.2.1 _) ⟨w4.heap.size, 0, none⟩ 1 1 [.int .i64 ((k : Int) + x.size)] rfl rfl (cells_new _ [.int .i64 ((k : Int) + x.size)] _) (by simp [Value.oneCell']) (by have := maxLen_big; omega) (by omega) (by have := HW4.out; simp; omega) ?_; intro v5 w5 hown5 hgrow5 _ _; obtain ⟨g5, cap5, rfl⟩ := ownsRow_succ hown5)
        have HP5 : Hid (Prt W W.heap.size b n6 (out1 ++ beginL x) (.slice (some ⟨g5, 0, none⟩) (E.length + 1) cap5) (E ++ [(k : Int) + x.size]) x w5) := by
          refine ⟨HP4.out.1.grown HP4.out.2.1 hgrow5, ?_, (HP4.out.2.2.1.alloc _).kept hgrow5 (HP4.out.2.2.1.not_row (by decide) HP4.out.2.1), ?_, ?_, HP4.out.2.2.2.2.2⟩
          · unfold Ends
            rw [List.length_append, List.map_append]
            exact hown5
          · exact grown_own (by have := HW4.out; simp; omega) (HP4.out.2.2.2.1.alloc HW4.out _) (World.ownsRow.alloc HP4.out.2.1 _) hgrow5
          · have h1 := hgrow5.size
            have h2 := HW4.out
            simp at h1
            omega
        clear HP4 hown5 hgrow5 d3 HW4 hi hzz0 hzz1 hzz2
        go_loopw [4, 7] (fun v4 v7 wx => ∃ (F : List Int) (o2 : List UInt8), v7 = .int .i64 ((F.length : Int) - 1) ∧ F.length ≤ k + 1 ∧ Hid (Prt W W.heap.size b n6 o2 v4 F x wx) ∧ Hid (o2 ++ (closeG ((k : Int) + 1) F.reverse).1 ++ printG beginL (X.drop (k + 1)) (k + 1) (closeG ((k : Int) + 1) F.reverse).2 = R)) (fun _ v7 _ => (intOf v7 + 1).toNat)
        case atStart => exact ⟨E ++ [(k : Int) + x.size], out1 ++ beginL x, by simp, by simp; omega, HP5.out, by unfold Hid; rw [List.reverse_append]; exact HO2.out⟩
        case round => as_aux_lemma =>
          obtain ⟨F, o2, rfl, hF, HQ, HR⟩ := hrel
          rcases List.eq_nil_or_concat F with rfl | ⟨F, e, rfl⟩
          · obtain ⟨ad4, cap4, rfl⟩ := HQ.out.2.1.form
            go_wp2_with fail
            refine ⟨⟨k + 1, [], o2, by simp, hlt, by simp, HQ.out.1, HQ.out.2.1, ?_, HQ.out.2.2.2.1⟩, by simp [intOf]; omega⟩
            have hr := HR.out
            rw [List.reverse_nil, closeG] at hr
            unfold Hid
            simpa using hr
          · rw [List.concat_eq_append] at *
            obtain ⟨g4, cap4, rfl, hcell, hcap, HEn⟩ := HQ.out.2.1.last
            have hFl : (((F ++ [e]).length : Nat) : Int) - 1 = F.length := by simp
            rw [hFl]
            by_cases he : e = (k : Int) + 1
            · subst he
              have HR2 : Hid ((o2 ++ [41]) ++ (closeG ((k : Int) + 1) F.reverse).1 ++ printG beginL (X.drop (k + 1)) (k + 1) (closeG ((k : Int) + 1) F.reverse).2 = R) := by
                unfold Hid
                rw [← HR.out, List.reverse_append, List.reverse_singleton, List.singleton_append, closeG_same]
                simp
              have ho2 : o2.length ≤ R.length := by rw [← HR.out]; simp only [List.length_append]; omega
              simp only [List.length_append, List.length_cons, List.length_nil] at hF
              go_wp2_with fail
              refine Calls.mono (writeByte_bld W.heap.size b o2 41 _ HQ.out.1 (by omega) HQ.out.2.2.2.2.1) ?_
              rintro e w6 ⟨rfl, hB6, hk6⟩
              have HP6 : Hid (Prt W W.heap.size b n6 (o2 ++ [41]) (.slice (some ⟨g4, 0, none⟩) F.length cap4) F x w6) :=
                Prt.wrote ⟨HQ.out.1, HEn, HQ.out.2.2⟩ hB6 hk6
              clear hB6 hk6
              go_wp2_with fail
              exact ⟨⟨F, o2 ++ [41], rfl, by omega, HP6.out, HR2.out⟩, by simp only [intOf]; omega⟩
            · go_wp2_with fail
              simp only [List.length_append, List.length_cons, List.length_nil] at hF
              refine ⟨⟨k + 1, F ++ [e], o2, by simp, hlt, by simpa using hF, HQ.out.1, HQ.out.2.1, ?_, HQ.out.2.2.2.1⟩, by simp [intOf]; omega⟩
              have hr := HR.out
              rw [List.reverse_append, List.reverse_singleton, List.singleton_append, closeG_other _ _ _ he] at hr
              rw [List.reverse_append, List.reverse_singleton, List.singleton_append]
              unfold Hid
              simpa using hr
      · go_wp2_with fail
        have HP0 : Hid (Prt W W.heap.size b wr.heap.size out (.slice ade E.length cape) E x (wr.alloc (.cells (ndC x).toArray 50))) := ⟨HB.out.fresh ((Below.refl _ wr).alloc (Nat.le_refl _) _), HE.out.below ((Below.refl _ wr).alloc (Nat.le_refl _) _), Cel.new wr 50 _, HW.out.trans ((Below.refl _ wr).alloc HW.out.size _), by have := HW.out.size; simp; omega, by obtain ⟨cs, hcs⟩ := HB.out.cel; have := hcs.lt; omega⟩
        refine Calls.mono (begin_any x _ (HN.out _ HP0.out.2.2.2.1).2.1 (HN.out _ HP0.out.2.2.2.1).2.2 (by omega) (by omega) hs) ?_
        rintro e w3 ⟨rfl, hb3⟩
        have HP3 : Hid (Prt W W.heap.size b wr.heap.size out (.slice ade E.length cape) E x w3) := HP0.out.fresh hb3
        clear HP0 hb3
        generalize wr.heap.size = n6 at HP3 ⊢
        have HO2 : Hid (out ++ beginL x ++ (closeG ((k : Int) + 1) (((k : Int) + x.size) :: E.reverse)).1 ++ printG beginL (X.drop (k + 1)) (k + 1) (closeG ((k : Int) + 1) (((k : Int) + x.size) :: E.reverse)).2 = R) := by
          unfold Hid
          rw [← HO.out, drop_at hx, printG, if_neg hk0, List.nil_append]
          simp only [List.append_assoc]
        generalize hout1 : out = out1 at HP3 HO2
        go_wp2_with fail
        have hol2 : out1.length + (beginL x).length ≤ R.length := by rw [← HO2.out]; simp only [List.length_append]; omega
        refine Calls.mono (writeString_bld W.heap.size b out1 ⟨(beginL x).toArray⟩ w3 HP3.out.1 (by simp only [ByteArray.size, List.size_toArray]; omega) HP3.out.2.2.2.2.1) ?_
        rintro e w4 ⟨rfl, hB4, hk4⟩
        have HP4 : Hid (Prt W W.heap.size b n6 (out1 ++ beginL x) (.slice ade E.length cape) E x w4) := HP3.out.wrote hB4 hk4
        clear HP3 hB4 hk4
        have d3 : w4.cell? ⟨n6, 3, none⟩ = some (.int .i64 x.size) := HP4.out.2.2.1.cell 3
        obtain ⟨i0, hi, hzz0, hzz1, hzz2⟩ := info_parts info3
        have HW4 : Hid (W.heap.size ≤ w4.heap.size) := HP4.out.2.2.2.2.1
        go_wp2_with (at_builtin; refine wpList_append_own_at _ rfl _ _ 29 rfl W.heap.size 3 i0 _ 1 8 Tryz.underlying29 hi hzz0 hzz1 hzz2 rfl (by decide) _ _ _ rfl (World.ownsRow.alloc HP4.out.2.1 _) ⟨w4.heap.size, 0, none⟩ 1 1 [.int .i64 ((k : Int) + x.size)] rfl rfl (cells_new _ [.int .i64 ((k : Int) + x.size)] _) (by simp [Value.oneCell']) (by have := maxLen_big; omega) (by omega) (by have := HW4.out; simp; omega) ?_; intro v5 w5 hown5 hgrow5 _ _; obtain ⟨g5, cap5, rfl⟩ := ownsRow_succ hown5)
        have HP5 : Hid (Prt W W.heap.size b n6 (out1 ++ beginL x) (.slice (some ⟨g5, 0, none⟩) (E.length + 1) cap5) (E ++ [(k : Int) + x.size]) x w5) := by
          refine ⟨HP4.out.1.grown HP4.out.2.1 hgrow5, ?_, (HP4.out.2.2.1.alloc _).kept hgrow5 (HP4.out.2.2.1.not_row (by decide) HP4.out.2.1), ?_, ?_, HP4.out.2.2.2.2.2⟩
          · unfold Ends
            rw [List.length_append, List.map_append]
            exact hown5
          · exact grown_own (by have := HW4.out; simp; omega) (HP4.out.2.2.2.1.alloc HW4.out _) (World.ownsRow.alloc HP4.out.2.1 _) hgrow5
          · have h1 := hgrow5.size
            have h2 := HW4.out
            simp at h1
            omega
        clear HP4 hown5 hgrow5 d3 HW4 hi hzz0 hzz1 hzz2
        go_loopw [4, 7] (fun v4 v7 wx => ∃ (F : List Int) (o2 : List UInt8), v7 = .int .i64 ((F.length : Int) - 1) ∧ F.length ≤ k + 1 ∧ Hid (Prt W W.heap.size b n6 o2 v4 F x wx) ∧ Hid (o2 ++ (closeG ((k : Int) + 1) F.reverse).1 ++ printG beginL (X.drop (k + 1)) (k + 1) (closeG ((k : Int) + 1) F.reverse).2 = R)) (fun _ v7 _ => (intOf v7 + 1).toNat)
        case atStart => exact ⟨E ++ [(k : Int) + x.size], out1 ++ beginL x, by simp, by simp; omega, HP5.out, by unfold Hid; rw [List.reverse_append]; exact HO2.out⟩
        case round => as_aux_lemma =>
          obtain ⟨F, o2, rfl, hF, HQ, HR⟩ := hrel
          rcases List.eq_nil_or_concat F with rfl | ⟨F, e, rfl⟩
          · obtain ⟨ad4, cap4, rfl⟩ := HQ.out.2.1.form
            go_wp2_with fail
            refine ⟨⟨k + 1, [], o2, by simp, hlt, by simp, HQ.out.1, HQ.out.2.1, ?_, HQ.out.2.2.2.1⟩, by simp [intOf]; omega⟩
            have hr := HR.out
            rw [List.reverse_nil, closeG] at hr
            unfold Hid
            simpa using hr
          · rw [List.concat_eq_append] at *
            obtain ⟨g4, cap4, rfl, hcell, hcap, HEn⟩ := HQ.out.2.1.last
            have hFl : (((F ++ [e]).length : Nat) : Int) - 1 = F.length := by simp
            rw [hFl]
            by_cases he : e = (k : Int) + 1
            · subst he
              have HR2 : Hid ((o2 ++ [41]) ++ (closeG ((k : Int) + 1) F.reverse).1 ++ printG beginL (X.drop (k + 1)) (k + 1) (closeG ((k : Int) + 1) F.reverse).2 = R) := by
                unfold Hid
                rw [← HR.out, List.reverse_append, List.reverse_singleton, List.singleton_append, closeG_same]
                simp
              have ho2 : o2.length ≤ R.length := by rw [← HR.out]; simp only [List.length_append]; omega
              simp only [List.length_append, List.length_cons, List.length_nil] at hF
              go_wp2_with fail
              refine Calls.mono (writeByte_bld W.heap.size b o2 41 _ HQ.out.1 (by omega) HQ.out.2.2.2.2.1) ?_
              rintro e w6 ⟨rfl, hB6, hk6⟩
              have HP6 : Hid (Prt W W.heap.size b n6 (o2 ++ [41]) (.slice (some ⟨g4, 0, none⟩) F.length cap4) F x w6) :=
                Prt.wrote ⟨HQ.out.1, HEn, HQ.out.2.2⟩ hB6 hk6
              clear hB6 hk6
              go_wp2_with fail
              exact ⟨⟨F, o2 ++ [41], rfl, by omega, HP6.out, HR2.out⟩, by simp only [intOf]; omega⟩
            · go_wp2_with fail
              simp only [List.length_append, List.length_cons, List.length_nil] at hF
              refine ⟨⟨k + 1, F ++ [e], o2, by simp, hlt, by simpa using hF, HQ.out.1, HQ.out.2.1, ?_, HQ.out.2.2.2.1⟩, by simp [intOf]; omega⟩
              have hr := HR.out
              rw [List.reverse_append, List.reverse_singleton, List.singleton_append, closeG_other _ _ _ he] at hr
              rw [List.reverse_append, List.reverse_singleton, List.singleton_append]
              unfold Hid
              simpa using hr
    · have hkz : k = X.length := by omega
      have HR : Hid (out = R) := by
        have := HO.out
        rw [hkz, List.drop_length, printG] at this
        unfold Hid
        simpa using this
      go_wp2_with fail
      refine Calls.mono (string_bld W.heap.size b out wr HB.out HW.out.size) ?_
      rintro e w9 ⟨rfl, hb9, _⟩
      go_wp2_with fail
      go_ret
      exact ⟨by rw [HR.out]; rfl, HW.out.trans hb9⟩
set_option maxHeartbeats 2000000 in
set_option maxRecDepth 100000 in
theorem print_word (v : Value) (X : List Nd) (W : World) (ea : Nat → Addr) (hE : Ers W ea) (hK : KnAt W) (hP : ∀ w', Below W.heap.size W w' → Pow w') (hN : NdAt W v X) (hl : X.length ≤ 3000) (hok : ∀ x ∈ X, NdOk x ∧ x.s.length < 8796093022208 ∧ 0 ≤ x.n ∧ x.n ≤ 999999999 ∧ 0 ≤ x.size ∧ x.size ≤ 3000) (hw : (printG beginL X 0 []).length < 70368744177664) (hf : checkL X ≠ .fine) (hd : isWordL X = true) :
    Calls Tryz.prog 15 #[v] W fun e w' => e = .returned (str (printG beginL X 0 [])) ∧ Below W.heap.size W w' := by
  obtain ⟨ad, cap, rfl⟩ := hN.form
  have HC : Hid (Calls Tryz.prog 17 #[.slice ad X.length cap] W fun e w' => ∃ t p, e = .returned (.iface t p) ∧ Below W.heap.size W w') := (check_any _ X W ea hE hN (by omega) (fun x hx => (hok x hx).1)).mono (by
    rintro e w' ⟨u, rfl, hu, hb⟩
    obtain ⟨t, p, rfl⟩ := err_some hu hf
    exact ⟨t, p, rfl, hb⟩)
  have HD : Hid (∀ W', Below W.heap.size W W' → Calls Tryz.prog 38 #[.slice ad X.length cap] W' fun e w' => e = .returned (.bool true) ∧ Below W.heap.size W w') := fun W' hb => (isWord_any _ X W' ea (hE.below hb) (hN.below hb (Nat.le_refl _)) (by omega) (fun x hx => (hok x hx).1)).mono (by
    rintro e w' ⟨rfl, hb'⟩
    rw [hd]
    exact ⟨rfl, hb.trans (hb'.mono hb.size)⟩)
  have HN : Hid (∀ W', Below W.heap.size W W' → NdAt W' (.slice ad X.length cap) X ∧ KnAt W' ∧ ∀ w', Below W'.heap.size W' w' → Pow w') := fun W' hb => ⟨hN.below hb (Nat.le_refl _), KnAt.below hK hb, fun w' hb' => hP w' (hb.trans (hb'.mono hb.size))⟩
  clear hE hK hP hN hf hd
  generalize hR : printG beginL X 0 [] = R at hw ⊢
  go_enter Tryz.func15, Tryz.ntmps15
  go_wp2_with fail
  refine Calls.mono HC.out ?_
  rintro e w0 ⟨t0, p0, rfl, hb0⟩
  go_wp2_with fail
  refine Calls.mono (HD.out _ hb0) ?_
  rintro e w1 ⟨rfl, hb1⟩
  have HN0 : Hid (Bld (w1.alloc (.cells #[.pointer none, .slice none 0 0] 65)) W.heap.size w1.heap.size []) := ⟨hb1.size, _, _, .inl rfl, Cel.new w1 65 _, World.ownsRow_nil _ _ _ _⟩
  have HB0 : Hid (Below W.heap.size W (w1.alloc (.cells #[.pointer none, .slice none 0 0] 65))) := hb1.trans ((Below.refl _ w1).alloc hb1.size _)
  generalize hb' : w1.heap.size = b at *
  clear HC HD hb0 hb1
  go_wp2_with fail
  clear hb'
  generalize (w1.alloc (Obj.cells #[Value.pointer none, Value.slice none 0 0] 65)) = W0 at HB0 HN0 ⊢
  go_loopw [4, 5, 6, 7, 18] (fun v4 _ _ _ v18 wr => ∃ (k : Nat) (E : List Int) (out : List UInt8), v18 = .int .i64 k ∧ k ≤ X.length ∧ E.length ≤ k ∧ Hid (Bld wr W.heap.size b out) ∧ Hid (Ends wr W.heap.size v4 E) ∧ Hid (out ++ printG beginL (X.drop k) k E.reverse = R) ∧ Hid (Below W.heap.size W wr)) (fun _ _ _ _ v18 _ => X.length - (intOf v18).toNat)
  case atStart => exact ⟨0, [], [], rfl, by omega, by simp, HN0.out, Ends.nil _ _, by unfold Hid; simpa using hR, HB0.out⟩
  case round => as_aux_lemma =>
    obtain ⟨k, E, out, rfl, hk, hEk, HB, HE, HO, HW⟩ := hrel
    obtain ⟨ade, cape, rfl⟩ := HE.out.form
    by_cases hlt : k < X.length
    · obtain ⟨hN, hK, hP⟩ := HN.out _ HW.out
      obtain ⟨x, hx⟩ : ∃ x, X[k]? = some x := ⟨_, List.getElem?_eq_getElem hlt⟩
      have hxm : x ∈ X := List.mem_of_getElem? hx
      obtain ⟨_, hs, hn0, hn1, hz0, hz1⟩ := hok x hxm
      obtain ⟨g, o, cap', hv, hg, c0, c1, c2, c3, c4⟩ := hN.at hx
      by_cases hk0 : 0 < k
      · go_wp2_with fail
        have HP0 : Hid (Prt W W.heap.size b wr.heap.size out (.slice ade E.length cape) E x (wr.alloc (.cells (ndC x).toArray 50))) := ⟨HB.out.fresh ((Below.refl _ wr).alloc (Nat.le_refl _) _), HE.out.below ((Below.refl _ wr).alloc (Nat.le_refl _) _), Cel.new wr 50 _, HW.out.trans ((Below.refl _ wr).alloc HW.out.size _), by have := HW.out.size; simp; omega, by obtain ⟨cs, hcs⟩ := HB.out.cel; have := hcs.lt; omega⟩
        have hol : out.length ≤ R.length := by rw [← HO.out]; simp
        refine Calls.mono (writeByte_bld W.heap.size b out 32 _ HP0.out.1 (by omega) HP0.out.2.2.2.2.1) ?_
        rintro e w2 ⟨rfl, hB2, hk2⟩
        have HP : Hid (Prt W W.heap.size b wr.heap.size (out ++ [32]) (.slice ade E.length cape) E x w2) := HP0.out.wrote hB2 hk2
        clear HP0 hB2 hk2
        generalize wr.heap.size = n6 at HP ⊢
        have d0 : w2.cell? ⟨n6, 0, none⟩ = some (.int .i64 x.kind) := HP.out.2.2.1.cell 0
        have d1 : w2.cell? ⟨n6, 1, none⟩ = some (.int .i64 x.n) := HP.out.2.2.1.cell 1
        have d2 : w2.cell? ⟨n6, 2, none⟩ = some (.int .i64 x.k) := HP.out.2.2.1.cell 2
        have d3 : w2.cell? ⟨n6, 3, none⟩ = some (.int .i64 x.size) := HP.out.2.2.1.cell 3
        have d4 : w2.cell? ⟨n6, 4, none⟩ = some (str x.s) := HP.out.2.2.1.cell 4
        go_wp2_with fail
        refine Calls.mono (begin_any x w2 (HN.out _ HP.out.2.2.2.1).2.1 (HN.out _ HP.out.2.2.2.1).2.2 (by omega) (by omega) hs) ?_
        rintro e w3 ⟨rfl, hb3⟩
        have HP3 : Hid (Prt W W.heap.size b n6 (out ++ [32]) (.slice ade E.length cape) E x w3) := HP.out.fresh hb3
        clear HP hb3 d0 d1 d2 d3 d4
        have HO2 : Hid ((out ++ [32]) ++ beginL x ++ (closeG ((k : Int) + 1) (((k : Int) + x.size) :: E.reverse)).1 ++ printG beginL (X.drop (k + 1)) (k + 1) (closeG ((k : Int) + 1) (((k : Int) + x.size) :: E.reverse)).2 = R) := by
          unfold Hid
          rw [← HO.out, drop_at hx, printG, if_pos hk0]
          simp only [List.append_assoc]
        generalize hout1 : out ++ [32] = out1 at HP3 HO2
        go_wp2_with fail
        have hol2 : out1.length + (beginL x).length ≤ R.length := by rw [← HO2.out]; simp only [List.length_append]; omega
        refine Calls.mono (writeString_bld W.heap.size b out1 ⟨(beginL x).toArray⟩ w3 HP3.out.1 (by simp only [ByteArray.size, List.size_toArray]; omega) HP3.out.2.2.2.2.1) ?_
        rintro e w4 ⟨rfl, hB4, hk4⟩
        have HP4 : Hid (Prt W W.heap.size b n6 (out1 ++ beginL x) (.slice ade E.length cape) E x w4) := HP3.out.wrote hB4 hk4
        clear HP3 hB4 hk4
        have d3 : w4.cell? ⟨n6, 3, none⟩ = some (.int .i64 x.size) := HP4.out.2.2.1.cell 3
        obtain ⟨i0, hi, hzz0, hzz1, hzz2⟩ := info_parts info3
        have HW4 : Hid (W.heap.size ≤ w4.heap.size) := HP4.out.2.2.2.2.1
        go_wp2_with (at_builtin; refine wpList_append_own_at _ rfl _ _ 29 rfl W.heap.size 3 i0 _ 1 8 Tryz.underlying29 hi hzz0 hzz1 hzz2 rfl (by decide) _ _ _ rfl (World.ownsRow.alloc HP4.out.2.1 _) ⟨w4.heap.size, 0, none⟩ 1 1 [.int .i64 ((k : Int) + x.size)] rfl rfl (cells_new _ [.int .i64 ((k : Int) + x.size)] _) (by simp [Value.oneCell']) (by have := maxLen_big; omega) (by omega) (by have := HW4.out; simp; omega) ?_; intro v5 w5 hown5 hgrow5 _ _; obtain ⟨g5, cap5, rfl⟩ := ownsRow_succ hown5)
        have HP5 : Hid (Prt W W.heap.size b n6 (out1 ++ beginL x) (.slice (some ⟨g5, 0, none⟩) (E.length + 1) cap5) (E ++ [(k : Int) + x.size]) x w5) := by
          refine ⟨HP4.out.1.grown HP4.out.2.1 hgrow5, ?_, (HP4.out.2.2.1.alloc _).kept hgrow5 (HP4.out.2.2.1.not_row (by decide) HP4.out.2.1), ?_, ?_, HP4.out.2.2.2.2.2⟩
          · unfold Ends
            rw [List.length_append, List.map_append]
            exact hown5
          · exact grown_own (by have := HW4.out; simp; omega) (HP4.out.2.2.2.1.alloc HW4.out _) (World.ownsRow.alloc HP4.out.2.1 _) hgrow5
          · have h1 := hgrow5.size
            have h2 := HW4.out
            simp at h1
            omega
        clear HP4 hown5 hgrow5 d3 HW4 hi hzz0 hzz1 hzz2
        go_loopw [4, 7] (fun v4 v7 wx => ∃ (F : List Int) (o2 : List UInt8), v7 = .int .i64 ((F.length : Int) - 1) ∧ F.length ≤ k + 1 ∧ Hid (Prt W W.heap.size b n6 o2 v4 F x wx) ∧ Hid (o2 ++ (closeG ((k : Int) + 1) F.reverse).1 ++ printG beginL (X.drop (k + 1)) (k + 1) (closeG ((k : Int) + 1) F.reverse).2 = R)) (fun _ v7 _ => (intOf v7 + 1).toNat)
        case atStart => exact ⟨E ++ [(k : Int) + x.size], out1 ++ beginL x, by simp, by simp; omega, HP5.out, by unfold Hid; rw [List.reverse_append]; exact HO2.out⟩
        case round => as_aux_lemma =>
          obtain ⟨F, o2, rfl, hF, HQ, HR⟩ := hrel
          rcases List.eq_nil_or_concat F with rfl | ⟨F, e, rfl⟩
          · obtain ⟨ad4, cap4, rfl⟩ := HQ.out.2.1.form
            go_wp2_with fail
            refine ⟨⟨k + 1, [], o2, by simp, hlt, by simp, HQ.out.1, HQ.out.2.1, ?_, HQ.out.2.2.2.1⟩, by simp [intOf]; omega⟩
            have hr := HR.out
            rw [List.reverse_nil, closeG] at hr
            unfold Hid
            simpa using hr
          · rw [List.concat_eq_append] at *
            obtain ⟨g4, cap4, rfl, hcell, hcap, HEn⟩ := HQ.out.2.1.last
            have hFl : (((F ++ [e]).length : Nat) : Int) - 1 = F.length := by simp
            rw [hFl]
            by_cases he : e = (k : Int) + 1
            · subst he
              have HR2 : Hid ((o2 ++ [41]) ++ (closeG ((k : Int) + 1) F.reverse).1 ++ printG beginL (X.drop (k + 1)) (k + 1) (closeG ((k : Int) + 1) F.reverse).2 = R) := by
                unfold Hid
                rw [← HR.out, List.reverse_append, List.reverse_singleton, List.singleton_append, closeG_same]
                simp
              have ho2 : o2.length ≤ R.length := by rw [← HR.out]; simp only [List.length_append]; omega
              simp only [List.length_append, List.length_cons, List.length_nil] at hF
              go_wp2_with fail
              refine Calls.mono (writeByte_bld W.heap.size b o2 41 _ HQ.out.1 (by omega) HQ.out.2.2.2.2.1) ?_
              rintro e w6 ⟨rfl, hB6, hk6⟩
              have HP6 : Hid (Prt W W.heap.size b n6 (o2 ++ [41]) (.slice (some ⟨g4, 0, none⟩) F.length cap4) F x w6) :=
                Prt.wrote ⟨HQ.out.1, HEn, HQ.out.2.2⟩ hB6 hk6
              clear hB6 hk6
              go_wp2_with fail
              exact ⟨⟨F, o2 ++ [41], rfl, by omega, HP6.out, HR2.out⟩, by simp only [intOf]; omega⟩
            · go_wp2_with fail
              simp only [List.length_append, List.length_cons, List.length_nil] at hF
              refine ⟨⟨k + 1, F ++ [e], o2, by simp, hlt, by simpa using hF, HQ.out.1, HQ.out.2.1, ?_, HQ.out.2.2.2.1⟩, by simp [intOf]; omega⟩
              have hr := HR.out
              rw [List.reverse_append, List.reverse_singleton, List.singleton_append, closeG_other _ _ _ he] at hr
              rw [List.reverse_append, List.reverse_singleton, List.singleton_append]
              unfold Hid
              simpa using hr
      · go_wp2_with fail
        have HP0 : Hid (Prt W W.heap.size b wr.heap.size out (.slice ade E.length cape) E x (wr.alloc (.cells (ndC x).toArray 50))) := ⟨HB.out.fresh ((Below.refl _ wr).alloc (Nat.le_refl _) _), HE.out.below ((Below.refl _ wr).alloc (Nat.le_refl _) _), Cel.new wr 50 _, HW.out.trans ((Below.refl _ wr).alloc HW.out.size _), by have := HW.out.size; simp; omega, by obtain ⟨cs, hcs⟩ := HB.out.cel; have := hcs.lt; omega⟩
        refine Calls.mono (begin_any x _ (HN.out _ HP0.out.2.2.2.1).2.1 (HN.out _ HP0.out.2.2.2.1).2.2 (by omega) (by omega) hs) ?_
        rintro e w3 ⟨rfl, hb3⟩
        have HP3 : Hid (Prt W W.heap.size b wr.heap.size out (.slice ade E.length cape) E x w3) := HP0.out.fresh hb3
        clear HP0 hb3
        generalize wr.heap.size = n6 at HP3 ⊢
        have HO2 : Hid (out ++ beginL x ++ (closeG ((k : Int) + 1) (((k : Int) + x.size) :: E.reverse)).1 ++ printG beginL (X.drop (k + 1)) (k + 1) (closeG ((k : Int) + 1) (((k : Int) + x.size) :: E.reverse)).2 = R) := by
          unfold Hid
          rw [← HO.out, drop_at hx, printG, if_neg hk0, List.nil_append]
          simp only [List.append_assoc]
        generalize hout1 : out = out1 at HP3 HO2
        go_wp2_with fail
        have hol2 : out1.length + (beginL x).length ≤ R.length := by rw [← HO2.out]; simp only [List.length_append]; omega
        refine Calls.mono (writeString_bld W.heap.size b out1 ⟨(beginL x).toArray⟩ w3 HP3.out.1 (by simp only [ByteArray.size, List.size_toArray]; omega) HP3.out.2.2.2.2.1) ?_
        rintro e w4 ⟨rfl, hB4, hk4⟩
        have HP4 : Hid (Prt W W.heap.size b n6 (out1 ++ beginL x) (.slice ade E.length cape) E x w4) := HP3.out.wrote hB4 hk4
        clear HP3 hB4 hk4
        have d3 : w4.cell? ⟨n6, 3, none⟩ = some (.int .i64 x.size) := HP4.out.2.2.1.cell 3
        obtain ⟨i0, hi, hzz0, hzz1, hzz2⟩ := info_parts info3
        have HW4 : Hid (W.heap.size ≤ w4.heap.size) := HP4.out.2.2.2.2.1
        go_wp2_with (at_builtin; refine wpList_append_own_at _ rfl _ _ 29 rfl W.heap.size 3 i0 _ 1 8 Tryz.underlying29 hi hzz0 hzz1 hzz2 rfl (by decide) _ _ _ rfl (World.ownsRow.alloc HP4.out.2.1 _) ⟨w4.heap.size, 0, none⟩ 1 1 [.int .i64 ((k : Int) + x.size)] rfl rfl (cells_new _ [.int .i64 ((k : Int) + x.size)] _) (by simp [Value.oneCell']) (by have := maxLen_big; omega) (by omega) (by have := HW4.out; simp; omega) ?_; intro v5 w5 hown5 hgrow5 _ _; obtain ⟨g5, cap5, rfl⟩ := ownsRow_succ hown5)
        have HP5 : Hid (Prt W W.heap.size b n6 (out1 ++ beginL x) (.slice (some ⟨g5, 0, none⟩) (E.length + 1) cap5) (E ++ [(k : Int) + x.size]) x w5) := by
          refine ⟨HP4.out.1.grown HP4.out.2.1 hgrow5, ?_, (HP4.out.2.2.1.alloc _).kept hgrow5 (HP4.out.2.2.1.not_row (by decide) HP4.out.2.1), ?_, ?_, HP4.out.2.2.2.2.2⟩
          · unfold Ends
            rw [List.length_append, List.map_append]
            exact hown5
          · exact grown_own (by have := HW4.out; simp; omega) (HP4.out.2.2.2.1.alloc HW4.out _) (World.ownsRow.alloc HP4.out.2.1 _) hgrow5
          · have h1 := hgrow5.size
            have h2 := HW4.out
            simp at h1
            omega
        clear HP4 hown5 hgrow5 d3 HW4 hi hzz0 hzz1 hzz2
        go_loopw [4, 7] (fun v4 v7 wx => ∃ (F : List Int) (o2 : List UInt8), v7 = .int .i64 ((F.length : Int) - 1) ∧ F.length ≤ k + 1 ∧ Hid (Prt W W.heap.size b n6 o2 v4 F x wx) ∧ Hid (o2 ++ (closeG ((k : Int) + 1) F.reverse).1 ++ printG beginL (X.drop (k + 1)) (k + 1) (closeG ((k : Int) + 1) F.reverse).2 = R)) (fun _ v7 _ => (intOf v7 + 1).toNat)
        case atStart => exact ⟨E ++ [(k : Int) + x.size], out1 ++ beginL x, by simp, by simp; omega, HP5.out, by unfold Hid; rw [List.reverse_append]; exact HO2.out⟩
        case round => as_aux_lemma =>
          obtain ⟨F, o2, rfl, hF, HQ, HR⟩ := hrel
          rcases List.eq_nil_or_concat F with rfl | ⟨F, e, rfl⟩
          · obtain ⟨ad4, cap4, rfl⟩ := HQ.out.2.1.form
            go_wp2_with fail
            refine ⟨⟨k + 1, [], o2, by simp, hlt, by simp, HQ.out.1, HQ.out.2.1, ?_, HQ.out.2.2.2.1⟩, by simp [intOf]; omega⟩
            have hr := HR.out
            rw [List.reverse_nil, closeG] at hr
            unfold Hid
            simpa using hr
          · rw [List.concat_eq_append] at *
            obtain ⟨g4, cap4, rfl, hcell, hcap, HEn⟩ := HQ.out.2.1.last
            have hFl : (((F ++ [e]).length : Nat) : Int) - 1 = F.length := by simp
            rw [hFl]
            by_cases he : e = (k : Int) + 1
            · subst he
              have HR2 : Hid ((o2 ++ [41]) ++ (closeG ((k : Int) + 1) F.reverse).1 ++ printG beginL (X.drop (k + 1)) (k + 1) (closeG ((k : Int) + 1) F.reverse).2 = R) := by
                unfold Hid
                rw [← HR.out, List.reverse_append, List.reverse_singleton, List.singleton_append, closeG_same]
                simp
              have ho2 : o2.length ≤ R.length := by rw [← HR.out]; simp only [List.length_append]; omega
              simp only [List.length_append, List.length_cons, List.length_nil] at hF
              go_wp2_with fail
              refine Calls.mono (writeByte_bld W.heap.size b o2 41 _ HQ.out.1 (by omega) HQ.out.2.2.2.2.1) ?_
              rintro e w6 ⟨rfl, hB6, hk6⟩
              have HP6 : Hid (Prt W W.heap.size b n6 (o2 ++ [41]) (.slice (some ⟨g4, 0, none⟩) F.length cap4) F x w6) :=
                Prt.wrote ⟨HQ.out.1, HEn, HQ.out.2.2⟩ hB6 hk6
              clear hB6 hk6
              go_wp2_with fail
              exact ⟨⟨F, o2 ++ [41], rfl, by omega, HP6.out, HR2.out⟩, by simp only [intOf]; omega⟩
            · go_wp2_with fail
              simp only [List.length_append, List.length_cons, List.length_nil] at hF
              refine ⟨⟨k + 1, F ++ [e], o2, by simp, hlt, by simpa using hF, HQ.out.1, HQ.out.2.1, ?_, HQ.out.2.2.2.1⟩, by simp [intOf]; omega⟩
              have hr := HR.out
              rw [List.reverse_append, List.reverse_singleton, List.singleton_append, closeG_other _ _ _ he] at hr
              rw [List.reverse_append, List.reverse_singleton, List.singleton_append]
              unfold Hid
              simpa using hr
    · have hkz : k = X.length := by omega
      have HR : Hid (out = R) := by
        have := HO.out
        rw [hkz, List.drop_length, printG] at this
        unfold Hid
        simpa using this
      go_wp2_with fail
      refine Calls.mono (string_bld W.heap.size b out wr HB.out HW.out.size) ?_
      rintro e w9 ⟨rfl, hb9, _⟩
      go_wp2_with fail
      go_ret
      exact ⟨by rw [HR.out]; rfl, HW.out.trans hb9⟩
set_option maxHeartbeats 2000000 in
theorem print_no (v : Value) (X : List Nd) (W : World) (ea : Nat → Addr) (hE : Ers W ea) (hN : NdAt W v X) (hl : X.length < 2147483648) (hok : ∀ x ∈ X, NdOk x) (hf : checkL X ≠ .fine) (hd : isWordL X = false) :
    Calls Tryz.prog 15 #[v] W fun e w' => e = .returned (str []) ∧ Below W.heap.size W w' := by
  obtain ⟨ad, cap, rfl⟩ := hN.form
  have HC : Hid (Calls Tryz.prog 17 #[.slice ad X.length cap] W fun e w' => ∃ t p, e = .returned (.iface t p) ∧ Below W.heap.size W w') := (check_any _ X W ea hE hN (by omega) (fun x hx => hok x hx)).mono (by
    rintro e w' ⟨u, rfl, hu, hb⟩
    obtain ⟨t, p, rfl⟩ := err_some hu hf
    exact ⟨t, p, rfl, hb⟩)
  have HD : Hid (∀ W', Below W.heap.size W W' → Calls Tryz.prog 38 #[.slice ad X.length cap] W' fun e w' => e = .returned (.bool false) ∧ Below W.heap.size W w') := fun W' hb => (isWord_any _ X W' ea (hE.below hb) (hN.below hb (Nat.le_refl _)) (by omega) (fun x hx => hok x hx)).mono (by
    rintro e w' ⟨rfl, hb'⟩
    rw [hd]
    exact ⟨rfl, hb.trans (hb'.mono hb.size)⟩)
  clear hE hN hf hd
  go_enter Tryz.func15, Tryz.ntmps15
  go_wp2_with fail
  refine Calls.mono HC.out ?_
  rintro e w0 ⟨t0, p0, rfl, hb0⟩
  go_wp2_with fail
  refine Calls.mono (HD.out _ hb0) ?_
  rintro e w1 ⟨rfl, hb1⟩
  clear HC HD
  go_wp2_with fail
  go_ret
  exact ⟨rfl, hb1⟩
end Go.Proofs.YtaildeglikhkaaaGreatDoor
