/- gather over texts, files, Glob, Pick. -/
import Derived.Test.YtdajacodfnidfaaGreatDoorLstB
import Derived.Test.YtdajacodfnidfaaGreatDoorFilesPlain
namespace Go.Proofs.YtdajacodfnidfaaGreatDoor
open Go.RowKit Go.Shelf

/-- What is asked of a function that makes a list of a text. -/
def Makes (g : Nat) (lb : Array Value) (f : List UInt8 → List (List UInt8)) (l : List (List UInt8)) (w : World) : Prop :=
  ∀ (W : World) (x : List UInt8), x ∈ l → Below w.heap.size w W → Calls Tryz.prog g (#[.string ⟨x.toArray⟩] ++ lb) W fun e w' => ∃ v', e = .returned v' ∧ Tx w' v' (f x) ∧ Below W.heap.size W w'

set_option maxRecDepth 100000 in
set_option maxHeartbeats 4000000 in
theorem gatherS_any (v : Value) (l : List (List UInt8)) (gi : Nat) (lb : Array Value) (f : List UInt8 → List (List UInt8)) (w : World) (a : Addr) (eg : ∀ args w, (callFunc gi args).run Tryz.prog w = .ok (.enter gi args) w)
    (h : Tx w v l) (hls : l.length < 4294967296) (hM : Makes gi lb f l w) (hz : ∀ x ∈ l, (f x).length < 4294967296) (hE : Eb w a) :
    Calls Tryz.prog 37 #[v, .func (.func gi) #[] lb] w fun e w' => GotL w.heap.size a (bound (gatAll f l)) e w' ∧ Below w.heap.size w w' := by
  have HE : Hid (Eb w a) := hE
  have HZ : Hid (∀ x ∈ l, (f x).length < 4294967296) := hz
  have HM : Hid (Makes gi lb f l w) := hM
  have HT : Hid (Tx w v l) := h
  obtain ⟨ad, cap, rfl⟩ := h.form
  clear hM hz hE h
  go_enter Tryz.func37, Tryz.ntmps37
  go_wp2_with fail
  go_loopw [6, 12] (fun v6 v12 wr => ∃ k : Nat, v12 = .int .i64 k ∧ k ≤ l.length ∧ Hid (fitsB (gat f l k) = true) ∧ Hid (wr.ownsRow w.heap.size 9 1 v6 (gat f l k).length (txV (gat f l k))) ∧ Below w.heap.size w wr) (fun _ v12 _ => l.length - (intOf v12).toNat)
  case atStart => exact ⟨0, rfl, by omega, by rw [gat_zero]; exact fits_nil, by rw [gat_zero]; exact ⟨rfl, .inl ⟨rfl, rfl⟩⟩, Below.refl _ _⟩
  case round =>
    obtain ⟨k, rfl, hk, HF, HO, hbr⟩ := hrel
    by_cases hkl : k < l.length
    · obtain ⟨x, hx⟩ : ∃ x, l[k]? = some x := ⟨_, List.getElem?_eq_getElem hkl⟩
      obtain ⟨g, o, cap', hv, hcc, hg, hce⟩ := HT.out.inRow (fun e => by rw [e] at hkl; simp at hkl)
      cases hv
      have c0 := (hbr.cell (p := ⟨g, o + k, none⟩) hg).trans (hce k x hx)
      have hxm := List.mem_of_getElem? hx
      have hcall := HM.out wr x hxm hbr
      have HLL : Hid ((f x).length < 4294967296) := HZ.out x hxm
      have HS : Hid (gat f l (k + 1) = gat f l k ++ f x) := gat_succ f l k x hx
      clear hce hx hxm
      go_wp2_with (go_at_fn gi; refine hcall.mono ?_; rintro e w1 ⟨v1, rfl, htx, hb1⟩)
      have HTX : Hid (Tx w1 v1 (f x)) := htx
      have ho1 := owns_after HO.out hb1
      have hbb := hbr.trans (hb1.mono hbr.size)
      cases hq : fitsB (gat f l k ++ f x)
      · refine (add_no _ _ (gat f l k) (f x) _ a (own_form HO.out) HTX.out HLL.out HF.out hq (Eb.below HE.out hbb (Eb.pos HE.out))).mono ?_
        rintro e w2 ⟨rfl, hb2⟩
        go_wp2_with fail
        go_ret2
        have hno : bound (gatAll f l) = none := by
          unfold bound
          rw [gat_fits f l (k + 1) (by rw [HS.out]; exact hq)]
          rfl
        rw [hno]
        exact ⟨rfl, hbb.trans (hb2.mono hbb.size)⟩
      · refine (add_yes w.heap.size _ _ (gat f l k) (f x) _ hbb.size ho1 HTX.out HF.out hq).mono ?_
        rintro e w2 ⟨v2, rfl, ho2, hb2⟩
        have HO2 : Hid _ := ho2
        have HQ : Hid _ := hq
        clear ho2 hq ho1 htx hcall
        go_wp2_with fail
        exact ⟨⟨k + 1, by simp, by omega, by rw [HS.out]; exact HQ.out, by rw [HS.out]; exact HO2.out, hbb.trans hb2⟩, by simp [intOf]; omega⟩
    · have hkz : k = l.length := by omega
      subst hkz
      go_wp2_with fail
      go_ret2
      have hyes : bound (gatAll f l) = some (gatAll f l) := by
        unfold bound
        rw [← gat_all, HF.out]
        rfl
      rw [hyes]
      refine ⟨⟨_, rfl, ?_⟩, hbr⟩
      rw [← gat_all]
      exact HO.out

/-- The files that an item matches, or its bytes. -/
def filesR (ns : List (List UInt8)) (x : List UInt8) : List (List UInt8) :=
  if liveR (letts x) then (if (filesB (dotL x) (pcs (letts x)) ns).length = 0 then [(letts x).map Prod.fst] else filesB (dotL x) (pcs (letts x)) ns) else [(letts x).map Prod.fst]

set_option maxRecDepth 100000 in
set_option maxHeartbeats 4000000 in
theorem filesR_any (x : List UInt8) (hx : x.length < 4294967296) (v : Value) (ns : List (List UInt8)) (hl : ns.length < 4294967296) (hz : ∀ s ∈ ns, s.length < 4294967296) (w : World) (h : Tx w v ns) :
    Calls Tryz.prog 47 #[.string ⟨x.toArray⟩, v] w fun e w' => ∃ v', e = .returned v' ∧ Tx w' v' (filesR ns x) ∧ Below w.heap.size w w' := by
  have HT : Hid (Tx w v ns) := h
  have HZ : Hid (∀ s ∈ ns, s.length < 4294967296) := hz
  have HX : Hid ((⟨x.toArray⟩ : ByteArray).size < 4294967296) := by unfold Hid; rw [str_size']; exact hx
  have HX2 : Hid ((⟨x.toArray⟩ : ByteArray).size < 35184372088832) := by unfold Hid; have := HX.out; omega
  obtain ⟨ad, cap, rfl⟩ := h.form
  clear h hz
  obtain ⟨P, HP⟩ : ∃ P, Hid ((letts x).map Prod.fst = P) := ⟨_, rfl⟩
  obtain ⟨lv, HL⟩ : ∃ lv, Hid (liveR (letts x) = lv) := ⟨_, rfl⟩
  obtain ⟨F, HF⟩ : ∃ F, Hid (filesB (dotL x) (pcs (letts x)) ns = F) := ⟨_, rfl⟩
  cases lv
  · go_enter Tryz.func47, Tryz.ntmps47
    go_wp2_with fail
    refine (live_any _ HX.out _).mono ?_
    rintro e w1 ⟨rfl, hb1⟩
    rw [str_data', HL.out]
    go_wp2_with fail
    refine (plain_any _ HX2.out _).mono ?_
    rintro e w2 ⟨rfl, hb2⟩
    rw [str_data', HP.out]
    go_wp2_with fail
    go_ret
    have hbb := hb1.trans (hb2.mono hb1.size)
    have hR : filesR ns x = [P] := by unfold filesR; rw [HL.out, HP.out]; rfl
    rw [hR]
    exact ⟨_, rfl, Tx.one w2 P, hbb.alloc hbb.size _⟩
  · go_enter Tryz.func47, Tryz.ntmps47
    go_wp2_with fail
    refine (live_any _ HX.out _).mono ?_
    rintro e w1 ⟨rfl, hb1⟩
    rw [str_data', HL.out]
    go_wp2_with fail
    refine (files_any _ HX.out _ ns hl HZ.out _ (HT.out.below hb1 (Nat.le_refl _)).texts).mono ?_
    rintro e w2 ⟨v2, rfl, ht2, hb2⟩
    rw [str_data', HF.out] at ht2
    have hbb := hb1.trans (hb2.mono hb1.size)
    have HT2 : Hid (Tx w2 v2 F) := ht2
    obtain ⟨ad2, cap2, rfl⟩ := ht2.form
    clear ht2
    by_cases h0 : F.length = 0
    · have e0 : F = [] := List.eq_nil_of_length_eq_zero h0
      subst e0
      go_wp2_with fail
      refine (plain_any _ HX2.out _).mono ?_
      rintro e w3 ⟨rfl, hb3⟩
      rw [str_data', HP.out]
      go_wp2_with fail
      go_ret
      have hbc := hbb.trans (hb3.mono hbb.size)
      have hR : filesR ns x = [P] := by unfold filesR; rw [HL.out, HP.out, HF.out]; rfl
      rw [hR]
      exact ⟨_, rfl, Tx.one w3 P, hbc.alloc hbc.size _⟩
    · have h1 : 0 < F.length := by omega
      go_wp2_with fail
      go_ret
      have hR : filesR ns x = F := by unfold filesR; rw [HL.out, HF.out, if_pos rfl, if_neg h0]
      rw [hR]
      exact ⟨_, rfl, HT2.out, hbb⟩

theorem filesR_length (ns : List (List UInt8)) (x : List UInt8) (hl : ns.length < 4294967296) : (filesR ns x).length < 4294967296 := by
  unfold filesR
  have := filesB_length (dotL x) (pcs (letts x)) ns
  split
  · split
    · simp
    · omega
  · simp

set_option maxRecDepth 100000 in
set_option maxHeartbeats 2000000 in
theorem glob1_makes (vn : Value) (ns l : List (List UInt8)) (b : Nat) (hl : ns.length < 4294967296) (hz : ∀ s ∈ ns, s.length < 4294967296) (hlz : ∀ s ∈ l, s.length < 4294967296) (w : World) (hb : b < w.heap.size) (hc : w.cell? ⟨b, 0, none⟩ = some vn) (h : Tx w vn ns) :
    Makes 46 #[.pointer (some ⟨b, 0, none⟩)] (filesR ns) l w := by
  intro W x hx hbW
  have c0 := (hbW.cell (p := ⟨b, 0, none⟩) hb).trans hc
  have HT : Hid (Tx W vn ns) := h.below hbW (Nat.le_refl _)
  have HZ : Hid (∀ s ∈ ns, s.length < 4294967296) := hz
  have HX : Hid (x.length < 4294967296) := hlz x hx
  obtain ⟨ad, cap, rfl⟩ := h.form
  clear h hz hlz hc hx
  show Calls Tryz.prog 46 #[.string ⟨x.toArray⟩, .pointer (some ⟨b, 0, none⟩)] W _
  go_enter Tryz.func46, Tryz.ntmps46
  go_wp2_with fail
  refine (filesR_any x HX.out _ ns hl HZ.out _ HT.out).mono ?_
  rintro e w1 ⟨v1, rfl, ht, hb1⟩
  have HT1 : Hid (Tx w1 v1 (filesR ns x)) := ht
  clear ht
  go_wp2_with fail
  go_ret
  exact ⟨_, rfl, HT1.out, hb1⟩

set_option maxRecDepth 100000 in
set_option maxHeartbeats 2000000 in
theorem glob_any (v vn : Value) (l ns : List (List UInt8)) (w : World) (a : Addr) (h : Tx w v l) (hn : Tx w vn ns) (hls : l.length < 4294967296) (hl : ns.length < 4294967296) (hz : ∀ s ∈ ns, s.length < 4294967296) (hlz : ∀ s ∈ l, s.length < 4294967296) (hE : Eb w a) :
    Calls Tryz.prog 18 #[v, vn] w fun e w' => GotL w.heap.size a (bound (gatAll (filesR ns) l)) e w' ∧ Below w.heap.size w w' := by
  have hba : Below w.heap.size w (w.alloc (.cells #[vn] 23)) := (Below.refl _ w).alloc (Nat.le_refl _) _
  have HG : Hid _ := gatherS_any v l 46 #[.pointer (some ⟨w.heap.size, 0, none⟩)] (filesR ns) (w.alloc (.cells #[vn] 23)) a (enters_of Tryz.func46 (by kernel_rfl) rfl) (h.below hba (Nat.le_refl _)) hls
    (glob1_makes vn ns l w.heap.size hl hz hlz _ (by simp) ((Cel.new w 23 #[vn]).cell 0) (hn.below hba (Nat.le_refl _))) (fun x _ => filesR_length ns x hl) (hE.below hba hE.pos)
  obtain ⟨adn, capn, rfl⟩ := hn.form
  obtain ⟨ad, cap, rfl⟩ := h.form
  clear h hn hz hlz hE
  cases hb : bound (gatAll (filesR ns) l) with
  | none =>
    rw [hb] at HG
    go_enter Tryz.func18, Tryz.ntmps18
    go_wp2_with fail
    refine Calls.mono HG.out ?_
    rintro e w1 ⟨rfl, hb1⟩
    go_wp2_with fail
    go_ret2
    exact ⟨rfl, hba.trans (hb1.mono hba.size)⟩
  | some m =>
    rw [hb] at HG
    go_enter Tryz.func18, Tryz.ntmps18
    go_wp2_with fail
    refine Calls.mono HG.out ?_
    rintro e w1 ⟨⟨v1, rfl, ho⟩, hb1⟩
    have HO : Hid _ := ho
    clear ho
    go_wp2_with fail
    go_ret2
    exact ⟨⟨_, rfl, owns_lower HO.out hba.size⟩, hba.trans (hb1.mono hba.size)⟩

/-- The n-th alone, or nothing. -/
def pickB (l : List (List UInt8)) (n : Int) : List (List UInt8) := if n < 1 ∨ n > l.length then [] else [l.getD (n - 1).toNat []]

set_option maxRecDepth 100000 in
set_option maxHeartbeats 2000000 in
theorem pick_no (v : Value) (l : List (List UInt8)) (n : Int) (w : World) (h : Tx w v l) (hn : n < 1 ∨ n > l.length) (h0 : -9223372036854775808 ≤ n) (h1 : n ≤ 9223372036854775807) :
    Calls Tryz.prog 23 #[v, .int .i64 n] w fun e w' => e = .returned (.slice none 0 0) ∧ w' = w := by
  obtain ⟨ad, cap, rfl⟩ := h.form
  clear h
  by_cases h2 : n < 1
  · clear hn
    go_enter Tryz.func23, Tryz.ntmps23
    go_wp2_with fail
    go_ret
    exact ⟨rfl, rfl⟩
  · have h3 : n > l.length := by omega
    clear hn
    go_enter Tryz.func23, Tryz.ntmps23
    go_wp2_with fail
    go_ret
    exact ⟨rfl, rfl⟩

set_option maxRecDepth 100000 in
set_option maxHeartbeats 2000000 in
theorem pick_yes (v : Value) (l : List (List UInt8)) (i : Nat) (x : List UInt8) (w : World) (h : Tx w v l) (hx : l[i]? = some x) (hl : l.length < 4294967296) :
    Calls Tryz.prog 23 #[v, .int .i64 ((i : Int) + 1)] w fun e w' => e = .returned (.slice (some ⟨w.heap.size, 0, none⟩) 1 1) ∧ w' = w.alloc (.cells #[.string ⟨x.toArray⟩] 9) := by
  have hil := (List.getElem?_eq_some_iff.1 hx).1
  obtain ⟨g, o, cap, rfl, hc, hg, hce⟩ := h.inRow (fun e => by rw [e] at hil; simp at hil)
  have c0 := hce i x hx
  clear h hce hx
  go_enter Tryz.func23, Tryz.ntmps23
  go_wp2_with fail
  go_ret
  exact ⟨rfl, rfl⟩
end Go.Proofs.YtdajacodfnidfaaGreatDoor
