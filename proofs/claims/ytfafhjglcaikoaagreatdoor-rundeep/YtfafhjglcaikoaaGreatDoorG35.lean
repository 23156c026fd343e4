/- The options that are taken where none are given; a call of texts. -/
import Derived.Test.YtfafhjglcaikoaaGreatDoorG34
import Derived.Test.YtfafhjglcaikoaaGreatDoorG12
/-! What the first programs come to: plain. -/
namespace Go.Proofs.YtfafhjglcaikoaaGreatDoor
open Go.RowKit

abbrev lN9 (t : Txt) : List Nd := newN 1 0 t []
abbrev callN (l : List Txt) : List Nd := newN 21 0 [] (l.map lN9)
abbrev tEcho : Txt := [101, 99, 104, 111]
abbrev tCat : Txt := [99, 97, 116]
abbrev tTrue : Txt := [116, 114, 117, 101]
def progA : List Nd := callN [tEcho, [97]]
def progB : List Nd := newN 32 0 [] [callN [tEcho, [97]], callN [tCat]]
def progC : List Nd := newN 28 0 [] [callN [tTrue], newN 20 0 [] []]
def progD : List Nd := newN 23 0 [] [newN 31 0 [102] [callN [[102]]], callN [[102]]]
theorem chkA : checkL progA = .fine := by kernel_rfl
theorem chkB : checkL progB = .fine := by kernel_rfl
theorem chkC : checkL progC = .fine := by kernel_rfl
theorem chkD : checkL progD = .fine := by kernel_rfl
abbrev st0 : Sh := start [] 1500 25 []
theorem runA : (ev 6).1 progA st0 = some ({ st0 with st := 1, E := [⟨3, 0, [], [97, 10], []⟩] }, 0, .ok) := by kernel_rfl
theorem runB : (ev 8).1 progB st0 = some ({ st0 with st := 3, E := [⟨4, 2, [], [], []⟩, ⟨3, 0, [], [97, 10], []⟩, ⟨6, 2, [], [], []⟩] }, 0, .ok) := by kernel_rfl
theorem runD : (ev 120).1 progD st0 = some ({ st0 with st := 27, dp := 25, H := [([102], callN [[102]])] }, 0, .deep) := by kernel_rfl
set_option maxRecDepth 1000000 in
theorem runC : (ev 800).1 progC st0 = some ({ st0 with st := 1500 }, 0, .fuel) := by kernel_rfl
end Go.Proofs.YtfafhjglcaikoaaGreatDoor
namespace Go.Proofs.YtfafhjglcaikoaaGreatDoor
open Go.RowKit
attribute [local go_sem] Oper.semAt_some

variable {W W' : World}
theorem run_store_nilFunc (P : Program) (w : World) (a : Addr) (m : Mode) : (store a .nilFunc m).run P w = stored P w a .nilFunc m := run_store P w a _ m rfl
attribute [local go_sem] run_store_nilFunc
theorem defaults_any (W : World) : Calls Tryz.prog 23 #[] W fun e w' => e = .returned (oV 1500 25 []) ∧ Below W.heap.size W w' := by
  have hb := below_new W (.cells #[.nilFunc, .int .i64 1500, .int .i64 25, .slice none 0 0, .slice none 0 0, .string ⟨#[]⟩] 44)
  have HB : Hid _ := hb
  clear hb
  go_enter Tryz.func23, Tryz.ntmps23
  go_wp2_with fail
  refine bodyPost_ret (v := oV 1500 25 []) ?_ rfl ?_
  · simp [results, Tryz.results23, go_sem]
  · exact ⟨rfl, HB.out⟩
theorem lits_len : ∀ l : List Txt, ((l.map lN9).flatten).length = l.length
  | [] => rfl
  | t :: l => by
    have h1 : (lN9 t).length = 1 := rfl
    rw [List.map_cons, List.flatten_cons, List.length_append, lits_len l, h1, List.length_cons]
    omega
set_option maxRecDepth 100000 in
set_option maxHeartbeats 8000000 in
theorem callL_any (v : Value) (l : List Txt) (W : World) (h : Tx W v l) (hl : l.length < 100000) :
    Calls Tryz.prog 22 #[v] W fun e w' => ∃ v', e = .returned v' ∧ NdOwn w' W.heap.size v' (callN l) ∧ Below W.heap.size W w' := by
  obtain ⟨i0, hi0, hz0, hz1, hz2⟩ := info_parts info25
  have HT : Hid (∀ wr, Below W.heap.size W wr → Tx wr v l) := fun wr hb => h.below hb (Nat.le_refl _)
  obtain ⟨ad, cap, rfl⟩ := h.form
  clear h
  go_enter Tryz.func22, Tryz.ntmps22
  go_wp2_with fail
  go_loopw [3, 4] (fun v3 v4 wr => ∃ (k : Nat) (L : List (Value × List Nd)), v4 = .int .i64 k ∧ k ≤ l.length ∧ L.length = k ∧ Hid (L.map Prod.snd = (l.take k).map lN9) ∧ Hid (KdOwn wr W.heap.size v3 L) ∧ Below W.heap.size W wr) (fun _ v4 _ => l.length - (intOf v4).toNat)
  case atStart => exact ⟨0, [], rfl, by omega, rfl, by simp [Hid], KdOwn.nil _ _, Below.refl _ _⟩
  case round =>
    obtain ⟨k, L, rfl, hk, hL, HM, HO, hbr⟩ := hrel
    by_cases hkl : k < l.length
    · obtain ⟨x, hx⟩ : ∃ x, l[k]? = some x := ⟨_, List.getElem?_eq_getElem hkl⟩
      obtain ⟨g9, o9, cap9, hv9, _, _, hcl⟩ := (HT.out _ hbr).inRow (fun e => by rw [e] at hkl; simp at hkl)
      cases hv9
      have c9 := hcl k x hx
      have HLI : Hid _ := lit_any ⟨x.toArray⟩ wr
      have HSN : Hid ((l.take (k + 1)).map lN9 = (l.take k).map lN9 ++ [lN9 x]) := by
        unfold Hid
        rw [List.take_add_one, hx]
        simp
      have hws := hbr.size
      clear hcl hx
      go_wp2_with fail
      refine Calls.mono HLI.out ?_
      rintro e w2 ⟨pv, rfl, hnd, hb2⟩
      obtain ⟨pa, pc, rfl⟩ : ∃ pa pc, pv = .slice pa 1 pc := hnd.at.form
      have ho2 := (HO.out.below hb2).1.alloc (.cells #[.slice pa 1 pc] 22)
      rw [hL] at ho2
      have hw2 := hb2.size
      have HND : Hid (NdOwn w2 wr.heap.size (.slice pa 1 pc) [litN x]) := hnd
      have HB2 : Hid (Below wr.heap.size wr w2) := hb2
      clear hnd hb2 HLI
      go_wp2_with (at_builtin; refine wpList_append_own _ rfl _ _ 46 rfl W.heap.size 22 i0 _ 1 24 Tryz.underlying46 hi0 hz0 hz1 hz2 rfl (by decide) _ _ _ rfl ho2 ⟨w2.heap.size, 0, none⟩ 1 1 [.slice pa 1 pc] rfl rfl (cells_new _ [.slice pa 1 pc] _) (by simp [Value.oneCell']) (by have := maxLen_big; omega) (by omega) (by simp; omega) ?_; intro v4 w4 hown hgrow _)
      obtain ⟨f1, f2⟩ := KdOwn.snoc HO.out HB2.out hws hws HND.out (by rw [hL]; exact hown) hgrow
      have HF1 : Hid (KdOwn w4 W.heap.size v4 (L ++ [(.slice pa 1 pc, [litN x])])) := f1
      refine ⟨⟨k + 1, L ++ [(.slice pa 1 pc, [litN x])], by simp, by omega, by simp [hL], ?_, HF1, hbr.trans f2⟩, by simp [intOf]; omega⟩
      unfold Hid
      rw [HSN.out, List.map_append, HM.out]
      rfl
    · have hkz : k = l.length := by omega
      subst hkz
      have hm := HM.out
      rw [List.take_length] at hm
      have hkl2 : (kidL L).length < 4294967296 := by
        unfold kidL
        rw [hm]
        have := lits_len l
        omega
      have HNW : Hid (Calls Tryz.prog 16 #[.int .i64 21, .int .i64 0, str [], u3] wr fun e w' => ∃ v', e = .returned v' ∧ Hid (NdOwn w' W.heap.size v' (callN l)) ∧ Hid (Below W.heap.size W w')) := by
        refine Calls.mono (new_own 21 0 [] u3 L wr HO.out.at (by omega) hkl2) ?_
        rintro e w' ⟨v', p1, p2, p3⟩
        rw [hm] at p2
        exact ⟨v', p1, owns_lower p2 hbr.size, hbr.trans (p3.mono hbr.size)⟩
      obtain ⟨la, lc, rfl⟩ := owns_slice HO.out.1
      rw [hL] at HNW
      clear hm hkl2 HM HO hbr HT
      go_wp2_with fail
      refine Calls.mono HNW.out ?_
      rintro e w2 ⟨v', rfl, HND, HB2⟩
      clear HNW
      go_wp2_with fail
      go_ret
      exact ⟨v', rfl, HND.out, HB2.out⟩
end Go.Proofs.YtfafhjglcaikoaaGreatDoor
