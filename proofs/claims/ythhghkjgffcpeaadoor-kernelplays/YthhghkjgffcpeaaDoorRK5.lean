/- The document's kernel: Write. -/
import Derived.Test.YthhghkjgffcpeaaDoorRK4
namespace Go.Proofs.YthhghkjgffcpeaaDoor
open Go.RowKit

variable {W W' : World} {K K' S : Nat → Prop} {xb : Nat} {fv rv tv : Value} {F : Fls} {X : List (Ev × Value)} {Y : List (Rw × Value)}
theorem idxF_some {F : Fls} {f : Txt} {i : Nat} (h : idxF F f = some i) : ∃ p, F[i]? = some p ∧ p.1 = f ∧ datF F f = p.2 ∧ hasF F f = true := by
  unfold idxF at h
  obtain ⟨hil, hf, hn⟩ := List.findIdx?_eq_some_iff_getElem.1 h
  have hfind : F.find? (fun p => p.1 == f) = some F[i] := by
    rw [List.find?_eq_some_iff_getElem]
    refine ⟨hf, i, hil, rfl, fun j hj => ?_⟩
    have := hn j hj
    simpa using this
  refine ⟨F[i], List.getElem?_eq_getElem hil, by simpa using hf, ?_, ?_⟩
  · unfold datF
    rw [hfind]
  · unfold hasF
    rw [List.any_eq_true]
    exact ⟨F[i], List.getElem_mem hil, hf⟩
theorem idxF_none {F : Fls} {f : Txt} (h : idxF F f = none) : datF F f = [] ∧ hasF F f = false := by
  unfold idxF at h
  rw [List.findIdx?_eq_none_iff] at h
  refine ⟨?_, ?_⟩
  · unfold datF
    rw [List.find?_eq_none.2 fun p hp => by rw [h p hp]; exact Bool.false_ne_true]
  · unfold hasF
    rw [List.any_eq_false]
    exact fun p hp => by rw [h p hp]; exact Bool.false_ne_true
theorem str_app (x y : Txt) : (⟨x.toArray⟩ : ByteArray) ++ ⟨y.toArray⟩ = ⟨(x ++ y).toArray⟩ := by
  apply ByteArray.ext
  rw [ByteArray.data_append]
  simp
/-- The last lines of a call that notes an event which it has made on the spot. -/
def Fin (W : World) (K : Nat → Prop) (xb : Nat) (rv : Value) (F : Fls) (X : List (Ev × Value)) (E : List Ev) (w' : World) : Prop := ∃ fv' tv' X' K', Rk w' K' xb fv' rv tv' F (X ++ X') ∧ X'.map Prod.fst = E ∧ Stp W K w' K'
theorem note_fin {W0 : World} {K0 : Nat → Prop} (h : Rk W K xb fv rv tv F X) (hs : Stp W0 K0 W K) (e : Ev) (hl : e.l = []) {w5 : World} {tv' : Value}
    (ho : w5.ownsRow 0 70 5 tv' (X.length + 1) (evCs X ++ evC e (.slice none 0 0))) (hg : (W.alloc (.cells (evC e (.slice none 0 0)).toArray 70)).grownBy w5 tv.ownBlock) (hat : tv'.ownBlock = tv.ownBlock ∨ tv'.ownBlock = some (W.alloc (.cells (evC e (.slice none 0 0)).toArray 70)).heap.size) :
    Fin W0 K0 xb rv F X [e] (w5.setCell ⟨xb, 2, none⟩ tv') ∧ w5.cell? ⟨xb, 2, none⟩ = some tv ∧ w5.frozen? ⟨xb, 2, none⟩ = false := by
  have hb1 : Below W.heap.size W (W.alloc (.cells (evC e (.slice none 0 0)).toArray 70)) := below_new W _
  obtain ⟨K5, N1, N2, N3, c5, f5⟩ := (h.below hb1).noted (e := e) (lv := .slice none 0 0) (Kl := fun _ => False) (by rw [hl]; exact Ot.none _) ho hg hat
  refine ⟨⟨_, _, [(e, .slice none 0 0)], K5, N1, rfl, hs.trans ⟨(Turn.ofBelow hb1).trans N2 (fun _ h _ => h), fun i hi => (N3 i hi).elim .inl (fun h => h.elim (fun h => by simp [Value.ownBlock] at h) (fun h => .inr (Nat.le_trans hb1.size h)))⟩⟩, c5, f5⟩

set_option maxRecDepth 100000 in
set_option maxHeartbeats 4000000 in
theorem rwrite_any (h : Rk W K xb fv rv tv F X) (f d : Txt) (hF : F.length < 60000) (hX : X.length < 60000) (hR : Ris F) (hd : d.length < 4294967296) (hdat : (datF F f).length < 4294967296) :
    Calls Tryd.prog 23 #[xP xb, str f, str d] W fun r w' => r = .returned (.bool (writeB F f d)) ∧ Fin W K xb rv (writeF F f d) X (writeE F f d) w' := by
  obtain ⟨i0, hi0, hz0, hz1, hz2⟩ := info_parts info70
  have HH : Hid (Rk W K xb fv rv tv F X) := h
  have HRI : Hid (Ris F) := hR
  obtain ⟨adt, capt, rfl⟩ := owns_slice h.er
  clear h hR
  cases d with
  | nil =>
    go_enter Tryd.func23, Tryd.ntmps23
    go_wp2_with fail
    go_ret
    exact ⟨rfl, _, _, [], K, by rw [List.append_nil]; exact HH.out, rfl, Stp.refl _ _⟩
  | cons x d =>
    obtain ⟨D, hD⟩ : ∃ D, D = x :: d := ⟨_, rfl⟩
    have hDe : D.isEmpty = false := by rw [hD]; rfl
    have hDn : (D == []) = false := by rw [hD]; rfl
    rw [← hD] at hd ⊢
    clear hD
    have HFIN : Hid (∀ (f' : Txt) (F' : Fls) (fv' : Value) (K' : Nat → Prop) (w2 : World), Rk w2 K' xb fv' rv (.slice adt X.length capt) F' X → Stp W K w2 K' → (w2.alloc (.cells #[.int .i64 3, .int .i64 0, str f', str D, .slice none 0 0] 70)).ownsRow 0 70 5 (.slice adt X.length capt) X.length (evCs X) ∧ ∀ (ad5 : Option Addr) (n5 cap5 : Nat) (w5 : World), w5.ownsRow 0 70 5 (.slice ad5 n5 cap5) (X.length + 1) (evCs X ++ evC ⟨3, 0, f', D, []⟩ (.slice none 0 0)) → (w2.alloc (.cells #[.int .i64 3, .int .i64 0, str f', str D, .slice none 0 0] 70)).grownBy w5 (Value.slice adt X.length capt).ownBlock → ((Value.slice ad5 n5 cap5).ownBlock = (Value.slice adt X.length capt).ownBlock ∨ (Value.slice ad5 n5 cap5).ownBlock = some (w2.alloc (.cells #[.int .i64 3, .int .i64 0, str f', str D, .slice none 0 0] 70)).heap.size) → Fin W K xb rv F' X [⟨3, 0, f', D, []⟩] (w5.setCell ⟨xb, 2, none⟩ (.slice ad5 n5 cap5)) ∧ w5.cell? ⟨xb, 2, none⟩ = some (.slice adt X.length capt) ∧ w5.frozen? ⟨xb, 2, none⟩ = false) := fun f' F' fv' K' w2 hR hS => ⟨(hR.below (below_new w2 _)).er, fun ad5 n5 cap5 w5 q1 q2 q3 => note_fin hR hS ⟨3, 0, f', D, []⟩ rfl q1 q2 q3⟩
    cases f with
    | nil =>
      have e1 : writeB F [] D = true := by simp [writeB]
      have e2 : writeF F [] D = F := by simp [writeF]
      have e3 : writeE F [] D = [⟨3, 0, [], D, []⟩] := by simp [writeE, hDe, e1]
      rw [e1, e2, e3]
      clear e1 e2 e3
      have c2 := HH.out.xc.cell 2
      obtain ⟨hoA, HF2⟩ := HFIN.out [] F fv K W HH.out (Stp.refl _ _)
      have HF2H : Hid _ := HF2
      clear HF2 HFIN
      go_enter Tryd.func23, Tryd.ntmps23
      go_wp2_with (at_builtin; refine wpList_append_own_at _ rfl _ _ 52 rfl 0 70 i0 _ 5 72 Tryd.underlying52 hi0 hz0 hz1 hz2 rfl (by decide) _ _ _ rfl hoA ⟨W.heap.size, 0, none⟩ 1 1 (evC ⟨3, 0, [], D, []⟩ (.slice none 0 0)) rfl rfl (cells_new W _ 70) (evC_one _ _ _) (by have := maxLen_big; omega) (by omega) (Nat.zero_le _) ?_; intro v5 w5 hown5 hgrow5 _ hat5; obtain ⟨ad5, n5, cap5, rfl⟩ := owns_form hown5; obtain ⟨NT, c5, f5⟩ := HF2H.out ad5 n5 cap5 w5 hown5 hgrow5 hat5; have HNT : Hid _ := NT; clear NT hown5 hgrow5 hat5)
      go_ret
      exact ⟨rfl, HNT.out⟩
    | cons y f =>
      obtain ⟨G, hG⟩ : ∃ G, G = y :: f := ⟨_, rfl⟩
      have hGe : G.isEmpty = false := by rw [hG]; rfl
      have hGn : (G == []) = false := by rw [hG]; rfl
      rw [← hG] at hdat ⊢
      clear hG
      have HFI : Hid (Calls Tryd.prog 52 #[xP xb, str G] W fun e w' => e = .returned (.int .i64 (idxV (idxF F G))) ∧ w' = W) := rfind_any HH.out G hF
      have HPU : Hid (∀ d', Calls Tryd.prog 48 #[xP xb, .agg #[str G, str d']] W fun e w' => e = .returned (.tuple #[]) ∧ ∃ fv' K', Rk w' K' xb fv' rv (.slice adt X.length capt) (putF F G d') X ∧ Stp W K w' K') := fun d' => rput_any HH.out G d' hF HRI.out
      have c0 := HH.out.xc.cell 0
      have hcase : (idxF F G = none ∧ datF F G = []) ∨ ∃ i p, idxF F G = some i ∧ F[i]? = some p ∧ datF F G = p.2 := by
        cases hix : idxF F G with
        | none => exact .inl ⟨rfl, (idxF_none hix).1⟩
        | some i =>
          obtain ⟨p, h1, _, h3, _⟩ := idxF_some hix
          exact .inr ⟨i, p, rfl, h1, h3⟩
      by_cases hb : D.length + (datF F G).length ≤ 16384
      · have e1 : writeB F G D = true := by simp [writeB, hb]
        have e2 : writeF F G D = putF F G (datF F G ++ D) := by simp [writeF, hDe, hGe, e1]
        have e3 : writeE F G D = [⟨3, 0, G, D, []⟩] := by simp [writeE, hDe, e1]
        rw [e1, e2, e3]
        clear e1 e2 e3
        rcases hcase with ⟨hix, hdz⟩ | ⟨i, p, hix, hp, hdz⟩
        · rw [hdz] at hb hdat ⊢
          rw [hix] at HFI
          have HPH : Hid (Calls Tryd.prog 48 #[xP xb, .agg #[str G, str ([] ++ D)]] W fun e w' => e = .returned (.tuple #[]) ∧ ∃ fv' K', Rk w' K' xb fv' rv (.slice adt X.length capt) (putF F G ([] ++ D)) X ∧ Stp W K w' K') := HPU.out ([] ++ D)
          clear hix hdz HPU
          have hap : (⟨#[]⟩ : ByteArray) ++ ⟨D.toArray⟩ = ⟨([] ++ D).toArray⟩ := str_app [] D
          have hle : ¬ ((16384 : Int) < D.length) := by simp at hb; omega
          go_enter Tryd.func23, Tryd.ntmps23
          go_wp2_with fail
          refine HFI.out.mono ?_
          rintro e w2 ⟨rfl, hw2⟩
          obtain rfl := hw2.symm
          simp only [idxV]
          go_wp2_with fail
          refine HPH.out.mono ?_
          rintro e w3 ⟨rfl, fv', K', k1, k2⟩
          have c2 := k1.xc.cell 2
          obtain ⟨hoA, HF2⟩ := HFIN.out G _ fv' K' w3 k1 k2
          have HF2H : Hid _ := HF2
          clear HF2 HFIN k1 k2 HPH HFI c0
          go_wp2_with (at_builtin; refine wpList_append_own_at _ rfl _ _ 52 rfl 0 70 i0 _ 5 72 Tryd.underlying52 hi0 hz0 hz1 hz2 rfl (by decide) _ _ _ rfl hoA ⟨w3.heap.size, 0, none⟩ 1 1 (evC ⟨3, 0, G, D, []⟩ (.slice none 0 0)) rfl rfl (cells_new w3 _ 70) (evC_one _ _ _) (by have := maxLen_big; omega) (by omega) (Nat.zero_le _) ?_; intro v5 w5 hown5 hgrow5 _ hat5; obtain ⟨ad5, n5, cap5, rfl⟩ := owns_form hown5; obtain ⟨NT, c5, f5⟩ := HF2H.out ad5 n5 cap5 w5 hown5 hgrow5 hat5; have HNT : Hid _ := NT; clear NT hown5 hgrow5 hat5)
          go_ret
          exact ⟨rfl, HNT.out⟩
        · have hil := (List.getElem?_eq_some_iff.1 hp).1
          obtain ⟨g, cap, hv, hcap, d0, d1⟩ := fl_at HH.out.fr hp
          rw [hdz] at hb hdat ⊢
          rw [hix] at HFI
          have HPH : Hid (Calls Tryd.prog 48 #[xP xb, .agg #[str G, str (p.2 ++ D)]] W fun e w' => e = .returned (.tuple #[]) ∧ ∃ fv' K', Rk w' K' xb fv' rv (.slice adt X.length capt) (putF F G (p.2 ++ D)) X ∧ Stp W K w' K') := HPU.out (p.2 ++ D)
          clear hix hdz HPU hp d0
          subst hv
          have hap : (⟨p.2.toArray⟩ : ByteArray) ++ ⟨D.toArray⟩ = ⟨(p.2 ++ D).toArray⟩ := str_app p.2 D
          have hle : ¬ ((16384 : Int) - p.2.length < D.length) := by omega
          go_enter Tryd.func23, Tryd.ntmps23
          go_wp2_with fail
          refine HFI.out.mono ?_
          rintro e w2 ⟨rfl, hw2⟩
          obtain rfl := hw2.symm
          simp only [idxV]
          go_wp2_with fail
          refine HPH.out.mono ?_
          rintro e w3 ⟨rfl, fv', K', k1, k2⟩
          have c2 := k1.xc.cell 2
          obtain ⟨hoA, HF2⟩ := HFIN.out G _ fv' K' w3 k1 k2
          have HF2H : Hid _ := HF2
          clear HF2 HFIN k1 k2 HPH HFI c0 d1
          go_wp2_with (at_builtin; refine wpList_append_own_at _ rfl _ _ 52 rfl 0 70 i0 _ 5 72 Tryd.underlying52 hi0 hz0 hz1 hz2 rfl (by decide) _ _ _ rfl hoA ⟨w3.heap.size, 0, none⟩ 1 1 (evC ⟨3, 0, G, D, []⟩ (.slice none 0 0)) rfl rfl (cells_new w3 _ 70) (evC_one _ _ _) (by have := maxLen_big; omega) (by omega) (Nat.zero_le _) ?_; intro v5 w5 hown5 hgrow5 _ hat5; obtain ⟨ad5, n5, cap5, rfl⟩ := owns_form hown5; obtain ⟨NT, c5, f5⟩ := HF2H.out ad5 n5 cap5 w5 hown5 hgrow5 hat5; have HNT : Hid _ := NT; clear NT hown5 hgrow5 hat5)
          go_ret
          exact ⟨rfl, HNT.out⟩
      · have e1 : writeB F G D = false := by simp [writeB, hb, hDe, hGe]
        have e2 : writeF F G D = F := by simp [writeF, e1]
        have e3 : writeE F G D = [] := by simp [writeE, e1]
        rw [e1, e2, e3]
        clear e1 e2 e3 HPU HFIN
        rcases hcase with ⟨hix, hdz⟩ | ⟨i, p, hix, hp, hdz⟩
        · rw [hdz] at hb hdat
          rw [hix] at HFI
          clear hix hdz
          have hle : (16384 : Int) < D.length := by simp at hb; omega
          go_enter Tryd.func23, Tryd.ntmps23
          go_wp2_with fail
          refine HFI.out.mono ?_
          rintro e w2 ⟨rfl, hw2⟩
          obtain rfl := hw2.symm
          simp only [idxV]
          go_wp2_with fail
          go_ret
          exact ⟨rfl, _, _, [], K, by rw [List.append_nil]; exact HH.out, rfl, Stp.refl _ _⟩
        · have hil := (List.getElem?_eq_some_iff.1 hp).1
          obtain ⟨g, cap, hv, hcap, d0, d1⟩ := fl_at HH.out.fr hp
          rw [hdz] at hb hdat
          rw [hix] at HFI
          clear hix hdz hp d0
          subst hv
          have hle : (16384 : Int) - p.2.length < D.length := by omega
          go_enter Tryd.func23, Tryd.ntmps23
          go_wp2_with fail
          refine HFI.out.mono ?_
          rintro e w2 ⟨rfl, hw2⟩
          obtain rfl := hw2.symm
          simp only [idxV]
          go_wp2_with fail
          go_ret
          exact ⟨rfl, _, _, [], K, by rw [List.append_nil]; exact HH.out, rfl, Stp.refl _ _⟩
end Go.Proofs.YthhghkjgffcpeaaDoor
