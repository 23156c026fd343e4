/- The document's own answers: Sorted. -/
import Derived.Test.YtdajacodfnidfaaGreatDoorFilesPlain
import Derived.Test.YtdajacodfnidfaaGreatDoorRefB
import Derived.OrdersHeld
import Derived.Deep.RegionHeld
import Derived.BigQuiet
import Derived.Laws.AppendOwnNone
/-! Plain facts on rising lists of texts. -/
namespace Go.Proofs.YtdajacodfnidfaaGreatDoor

theorem bl_lt : ∀ a b : List UInt8, Op.bytesLess a b = decide (a < b)
  | [], [] => by simp [Op.bytesLess]
  | [], _ :: _ => by simp [Op.bytesLess]
  | _ :: _, [] => by simp [Op.bytesLess]
  | a :: r, b :: s => by
    rw [Op.bytesLess, bl_lt r s, Bool.eq_iff_iff]
    simp [List.cons_lt_cons_iff]
theorem rising_unique : ∀ R S : List (List UInt8), R.Pairwise (fun x y => x < y) → S.Pairwise (fun x y => x < y) → (∀ x, x ∈ R ↔ x ∈ S) → R = S
  | [], [], _, _, _ => rfl
  | [], y :: S, _, _, h => absurd ((h y).2 List.mem_cons_self) (by simp)
  | x :: R, [], _, _, h => absurd ((h x).1 List.mem_cons_self) (by simp)
  | x :: R, y :: S, h1, h2, h => by
    obtain ⟨h3, h4⟩ := List.pairwise_cons.1 h1
    obtain ⟨h5, h6⟩ := List.pairwise_cons.1 h2
    have hxy : x = y := by
      rcases List.mem_cons.1 ((h x).1 List.mem_cons_self) with e | e
      · exact e
      · rcases List.mem_cons.1 ((h y).2 List.mem_cons_self) with e2 | e2
        · exact e2.symm
        · exact absurd (List.lt_trans (h5 x e) (h3 y e2)) (List.lt_irrefl _)
    subst hxy
    rw [rising_unique R S h4 h6 fun z => ?_]
    constructor
    · intro hz
      rcases List.mem_cons.1 ((h z).1 (List.mem_cons_of_mem _ hz)) with e | e
      · exact absurd (h3 z hz) (by rw [e]; exact List.lt_irrefl _)
      · exact e
    · intro hz
      rcases List.mem_cons.1 ((h z).2 (List.mem_cons_of_mem _ hz)) with e | e
      · exact absurd (h5 z hz) (by rw [e]; exact List.lt_irrefl _)
      · exact e
theorem rising_put (R : List (List UInt8)) (x : List UInt8) (k : Nat) (h : R.Pairwise fun x y => x < y) (h1 : ∀ j y, j < k → R[j]? = some y → y < x) (h2 : ∀ y, R[k]? = some y → x < y) : ((R.take k ++ [x]) ++ R.drop k).Pairwise fun x y => x < y := by
  have hd : ∀ y ∈ R.drop k, x < y := by
    intro y hy
    obtain ⟨j, hj⟩ := List.mem_iff_getElem?.1 hy
    rw [List.getElem?_drop] at hj
    have hjl := (List.getElem?_eq_some_iff.1 hj).1
    obtain ⟨z, hz⟩ : ∃ z, R[k]? = some z := ⟨_, List.getElem?_eq_getElem (by omega)⟩
    rcases Nat.eq_zero_or_pos j with e | e
    · subst e
      exact h2 y (by simpa using hj)
    · have h5 := (List.pairwise_iff_getElem.1 h) k (k + j) (by omega) hjl (by omega)
      rw [(List.getElem?_eq_some_iff.1 hz).2, (List.getElem?_eq_some_iff.1 hj).2] at h5
      exact List.lt_trans (h2 z hz) h5
  have ht : ∀ y ∈ R.take k, y < x := by
    intro y hy
    obtain ⟨j, hj⟩ := List.mem_iff_getElem?.1 hy
    have hjl := (List.getElem?_eq_some_iff.1 hj).1
    rw [List.length_take] at hjl
    rw [List.getElem?_take_of_lt (by omega)] at hj
    exact h1 j y (by omega) hj
  rw [List.append_assoc, List.pairwise_append]
  refine ⟨h.sublist (List.take_sublist _ _), ?_, ?_⟩
  · rw [List.singleton_append, List.pairwise_cons]
    exact ⟨hd, h.sublist (List.drop_sublist _ _)⟩
  · intro a ha b hb
    rcases List.mem_append.1 hb with e | e
    · rw [List.mem_singleton.1 e]; exact ht a ha
    · exact List.lt_trans (ht a ha) (hd b e)
theorem mem_put (R : List (List UInt8)) (x y : List UInt8) (k : Nat) : y ∈ (R.take k ++ [x]) ++ R.drop k ↔ y ∈ R ∨ y = x := by
  rw [List.mem_append, List.mem_append, List.mem_singleton]
  have : y ∈ R ↔ y ∈ R.take k ∨ y ∈ R.drop k := by rw [← List.mem_append, List.take_append_drop]
  rw [this]
  constructor
  · rintro ((h | h) | h)
    · exact .inl (.inl h)
    · exact .inr h
    · exact .inl (.inr h)
  · rintro ((h | h) | h)
    · exact .inl (.inl h)
    · exact .inr h
    · exact .inl (.inr h)
theorem put_length (R : List (List UInt8)) (x : List UInt8) (k : Nat) : ((R.take k ++ [x]) ++ R.drop k).length = R.length + 1 := by
  simp only [List.length_append, List.length_take, List.length_drop, List.length_cons, List.length_nil]
  omega
/-- A part that is not split goes on. -/
theorem split_dead (acc : List UInt8) (d : UInt8) (r : List UInt8) : splitR acc (chunks (92 :: d :: r)) = splitR (acc ++ [92, d]) (chunks r) := by
  rw [chunks_take]; simp [splitR]
theorem split_one (acc : List UInt8) (c : UInt8) (r : List UInt8) (h : c ≠ 92 ∨ r = []) : splitR acc (chunks (c :: r)) = if blankC c then one acc ++ splitR [] (chunks r) else splitR (acc ++ [c]) (chunks r) := by
  by_cases hc : c = 92
  · subst hc
    rcases h with h | h
    · exact absurd rfl h
    · subst h
      have : blankC 92 = false := by decide
      simp [chunks, splitR, this]
  · rw [chunks_cons c r hc]
    simp [splitR]
end Go.Proofs.YtdajacodfnidfaaGreatDoor
/-! The document's own answers: Split. -/
namespace Go.Proofs.YtdajacodfnidfaaGreatDoor
open Go.RowKit Go.Shelf

theorem txV_snoc (ps : List (List UInt8)) (a : ByteArray) : txV (ps ++ [a.data.toList]) = txV ps ++ [.string a] := by
  simp only [txV, List.map_append, List.map_cons, List.map_nil]
theorem cat_data (a s : ByteArray) (i k : Nat) : (a ++ s.extract i (i + k)).data.toList = a.data.toList ++ (s.data.toList.drop i).take k := by
  rw [ByteArray.data_append, Array.toList_append, Lib.extract_data, Nat.add_sub_cancel_left]
theorem cat_size (a s : ByteArray) (i k : Nat) (h : i + k ≤ s.size) : (a ++ s.extract i (i + k)).size = a.size + k := by
  have e : ∀ x : ByteArray, x.size = x.data.toList.length := fun x => by simp
  rw [e, cat_data, List.length_append, List.length_take, List.length_drop, ← e, ← e]
  omega
theorem empty_of (a : ByteArray) (h : a.toList.isEmpty = true) : one a.data.toList = [] := by
  rw [Lib.toList_data, List.isEmpty_iff] at h
  simp [one, h]
theorem full_of (a : ByteArray) (h : a.toList.isEmpty = false) : one a.data.toList = [a.data.toList] := by
  rw [Lib.toList_data] at h
  unfold one
  rw [if_neg]
  intro e
  rw [e] at h
  cases h

set_option maxRecDepth 100000 in
set_option maxHeartbeats 4000000 in
theorem rsplit_any (s : ByteArray) (hs : s.size < 4294967296) (w : World) :
    Calls Tryz.prog 39 #[.string s] w fun e w' => ∃ v, e = .returned v ∧ w'.ownsRow w.heap.size 9 1 v (splitL s.data.toList).length (txV (splitL s.data.toList)) ∧ Below w.heap.size w w' := by
  obtain ⟨i0, hi0, hz0, hz1, hz2⟩ := info_parts info9
  obtain ⟨SP, HSP⟩ : ∃ SP, Hid (splitL s.data.toList = SP) := ⟨_, rfl⟩
  rw [HSP.out]
  go_enter Tryz.func39, Tryz.ntmps39
  go_wp2_with fail
  go_loopw [3, 4, 5] (fun v3 v4 v5 wr => ∃ (i : Nat) (a : ByteArray) (ps : List (List UInt8)), v5 = .int .i64 i ∧ i ≤ s.size ∧ v4 = .string a ∧ a.size ≤ i ∧ ps.length ≤ i ∧ Hid (SP = ps ++ splitR a.data.toList (chunks (s.data.toList.drop i))) ∧ Hid (wr.ownsRow w.heap.size 9 1 v3 ps.length (txV ps)) ∧ Below w.heap.size w wr) (fun _ _ v5 _ => s.size - (intOf v5).toNat)
  case atStart => exact ⟨0, ⟨#[]⟩, [], rfl, by omega, rfl, Nat.le_refl _, Nat.le_refl _, by unfold Hid; rw [← HSP.out]; rfl, ⟨rfl, .inl ⟨rfl, rfl⟩⟩, Below.refl _ _⟩
  case round =>
    obtain ⟨i, a, ps, rfl, hi, rfl, ha, hps, HS, HO, hbr⟩ := hrel
    by_cases hil : i < s.size
    · have hdr : s.data.toList.drop i = s[i] :: s.data.toList.drop (i + 1) := drop_cons (s_get s i hil)
      generalize hcc : s[i] = c at hdr
      have HCC : Hid (s[i] = c) := hcc
      clear hcc
      have hidx : ∀ h, s[i]'h = c := fun _ => HCC.out
      have HDR : Hid (s.data.toList.drop i = c :: s.data.toList.drop (i + 1)) := hdr
      clear hdr
      have e5 : ((c.toNat : Int) == 92) = (c == 92) := beq_u8 c 92
      by_cases hdead : c = 92 ∧ i + 1 < s.size
      · obtain ⟨hc92, hi1⟩ := hdead
        have e6 : (c == 92) = true := by simpa using hc92
        rw [e6] at e5
        clear e6
        have HN : Hid (SP = ps ++ splitR (a ++ s.extract i (i + 2)).data.toList (chunks (s.data.toList.drop (i + 2)))) := by
          unfold Hid
          rw [HS.out, cat_data, HDR.out, drop_cons (s_get s (i + 1) hi1), hc92, split_dead]
          rfl
        have hsz := cat_size a s i 2 (by omega)
        have hps2 : ps.length ≤ i + 2 := by omega
        clear hc92
        go_wp2_with fail
        refine ⟨⟨i + 2, a ++ s.extract i (i + 2), ps, by rw [show ((i + 2 : Nat) : Int) = (i : Int) + 1 + 1 by omega], by omega, rfl, by omega, hps2, HN, HO, hbr⟩, by simp [intOf]; omega⟩
      · have h92 : c ≠ 92 ∨ s.data.toList.drop (i + 1) = [] := by
          by_cases h : c = 92
          · have h2 : ¬ (i + 1 < s.size) := fun h2 => hdead ⟨h, h2⟩
            exact .inr (List.drop_eq_nil_of_le (by simp; omega))
          · exact .inl h
        have HN : Hid (SP = ps ++ if blankC c then one a.data.toList ++ splitR [] (chunks (s.data.toList.drop (i + 1))) else splitR (a.data.toList ++ [c]) (chunks (s.data.toList.drop (i + 1)))) := by
          unfold Hid
          rw [HS.out, HDR.out, split_one _ _ _ h92]
        clear h92
        have hD : ((c.toNat : Int) == 92) = false ∨ (((c.toNat : Int) == 92) = true ∧ ¬ (i + 1 < s.size)) := by
          rw [e5]
          by_cases h : c = 92
          · exact .inr ⟨by simpa using h, fun h2 => hdead ⟨h, h2⟩⟩
          · exact .inl (by simpa using h)
        clear hdead e5
        cases hb : blankC c
        · rw [hb] at HN
          have hcd := cat_data a s i 1
          rw [HDR.out] at hcd
          have HN2 : Hid (SP = ps ++ splitR (a ++ s.extract i (i + 1)).data.toList (chunks (s.data.toList.drop (i + 1)))) := by
            unfold Hid
            rw [hcd]
            simpa using HN.out
          have hsz := cat_size a s i 1 (by omega)
          clear hcd HN
          rcases hD with hD | ⟨hD, hD2⟩
          · go_wp2_with (go_at_call 63; refine (rblank_any c _).mono ?_; rintro e w1 ⟨rfl, hw1⟩; obtain rfl := hw1.symm; rw [hb])
            refine ⟨⟨i + 1, a ++ s.extract i (i + 1), ps, by simp, by omega, rfl, by omega, by omega, HN2, HO, hbr⟩, by simp [intOf]; omega⟩
          · go_wp2_with (go_at_call 63; refine (rblank_any c _).mono ?_; rintro e w1 ⟨rfl, hw1⟩; obtain rfl := hw1.symm; rw [hb])
            refine ⟨⟨i + 1, a ++ s.extract i (i + 1), ps, by simp, by omega, rfl, by omega, by omega, HN2, HO, hbr⟩, by simp [intOf]; omega⟩
        · rw [hb] at HN
          have hD' : ((c.toNat : Int) == 92) = false := by
            rcases hD with h | ⟨h, _⟩
            · exact h
            · exfalso
              rw [show ((c.toNat : Int) == 92) = (c == 92) from beq_u8 c 92] at h
              have : c = 92 := by simpa using h
              subst this
              revert hb; decide
          clear hD
          have ho := HO.out
          have hba : Below w.heap.size w (wr.alloc (.cells #[.string a] 9)) := hbr.alloc hbr.size _
          cases hem : a.toList.isEmpty
          · have HN2 : Hid (SP = (ps ++ [a.data.toList]) ++ splitR (⟨#[]⟩ : ByteArray).data.toList (chunks (s.data.toList.drop (i + 1)))) := by
              unfold Hid
              have := HN.out
              rw [if_pos rfl, full_of a hem, ← List.append_assoc] at this
              exact this
            clear HN
            go_wp2_with (first | (go_at_call 63; refine (rblank_any c _).mono ?_; rintro e w1 ⟨rfl, hw1⟩; obtain rfl := hw1.symm; rw [hb]) | (at_builtin; refine wpList_append_own _ rfl _ _ 23 rfl w.heap.size 9 i0 (.string ⟨#[]⟩) 1 16 Tryz.underlying23 hi0 hz0 hz1 hz2 rfl (by decide) _ _ _ rfl (ho.alloc _) ⟨wr.heap.size, 0, none⟩ 1 1 [.string a] rfl rfl (cells_new _ [.string a] _) (by simp [Value.oneCell']) (by have := maxLen_big; omega) (by omega) hba.size ?_; intro v' w5 hown' hgrow _))
            refine ⟨⟨i + 1, ⟨#[]⟩, ps ++ [a.data.toList], by simp, by omega, rfl, Nat.zero_le _, by simp; omega, HN2, ?_, grown_any hba.size hba (ho.alloc _) hgrow⟩, by simp [intOf]; omega⟩
            unfold Hid
            rw [txV_snoc, List.length_append]
            exact hown'
          · have HN2 : Hid (SP = ps ++ splitR (⟨#[]⟩ : ByteArray).data.toList (chunks (s.data.toList.drop (i + 1)))) := by
              unfold Hid
              have := HN.out
              rw [if_pos rfl, empty_of a hem] at this
              exact this
            clear HN
            go_wp2_with (go_at_call 63; refine (rblank_any c _).mono ?_; rintro e w1 ⟨rfl, hw1⟩; obtain rfl := hw1.symm; rw [hb])
            refine ⟨⟨i + 1, ⟨#[]⟩, ps, by simp, by omega, rfl, Nat.zero_le _, by omega, HN2, HO, hbr⟩, by simp [intOf]; omega⟩
    · have hiz : i = s.size := by omega
      subst hiz
      have hE := HS.out
      rw [List.drop_eq_nil_of_le (by simp)] at hE
      have HE : Hid (SP = ps ++ one a.data.toList) := hE
      clear hE HS
      have ho := HO.out
      have hba : Below w.heap.size w (wr.alloc (.cells #[.string a] 9)) := hbr.alloc hbr.size _
      cases hem : a.toList.isEmpty
      · go_wp2_with (at_builtin; refine wpList_append_own _ rfl _ _ 23 rfl w.heap.size 9 i0 (.string ⟨#[]⟩) 1 16 Tryz.underlying23 hi0 hz0 hz1 hz2 rfl (by decide) _ _ _ rfl (ho.alloc _) ⟨wr.heap.size, 0, none⟩ 1 1 [.string a] rfl rfl (cells_new _ [.string a] _) (by simp [Value.oneCell']) (by have := maxLen_big; omega) (by omega) hba.size ?_; intro v' w5 hown' hgrow _)
        go_ret
        refine ⟨_, rfl, ?_, grown_any hba.size hba (ho.alloc _) hgrow⟩
        rw [HE.out, full_of a hem, txV_snoc, List.length_append]
        exact hown'
      · go_wp2_with fail
        go_ret
        refine ⟨_, rfl, ?_, hbr⟩
        rw [HE.out, empty_of a hem, List.append_nil]
        exact ho
end Go.Proofs.YtdajacodfnidfaaGreatDoor
namespace Go.Proofs.YtdajacodfnidfaaGreatDoor
open Go.RowKit Go.Shelf

/-- What an append of texts takes. -/
def SrcT (W : World) (xv : Value) (L : List (List UInt8)) : Prop := (xv = .slice none 0 0 ∧ L = []) ∨ ∃ ad c, xv = .slice (some ad) L.length c ∧ ∀ j u, (txV L)[j]? = some u → W.cell? (ad.add j) = some u
theorem txV_len (L : List (List UInt8)) : (txV L).length = L.length := by simp [txV]
theorem txV_app (A B : List (List UInt8)) : txV (A ++ B) = txV A ++ txV B := by simp [txV]
theorem txV_one (L : List (List UInt8)) : ∀ u ∈ txV L, u.oneCell' = true := by
  intro u hu
  obtain ⟨p, _, rfl⟩ := List.mem_map.1 hu
  rfl
variable {W : World} {P : List (List UInt8)}
theorem rowT_cases {B : Nat} {vv : Value} (h : W.ownsRow B 9 1 vv P.length (txV P)) : (vv = .slice none 0 0 ∧ P = []) ∨ ∃ g cap, vv = .slice (some ⟨g, 0, none⟩) P.length cap ∧ P.length ≤ cap ∧ g < W.heap.size ∧ ∀ j u, (txV P)[j]? = some u → W.cell? ⟨g, j, none⟩ = some u := by
  rcases h.2 with ⟨hv, h0⟩ | ⟨g, cap, cur, hv, hb, hc, h1, h1', h2, h3⟩
  · exact .inl ⟨hv, List.eq_nil_of_length_eq_zero h0⟩
  · refine .inr ⟨g, cap, hv, h1, (Array.getElem?_eq_some_iff.1 hc).1, fun j u hu => ?_⟩
    have hlt := (List.getElem?_eq_some_iff.1 hu).1
    rw [txV_len] at hlt
    have e1 : W.cell? ⟨g, j, none⟩ = cur[j]? := by simp [World.cell?, hc]
    rw [e1, ← Array.getElem?_toList, ← List.getElem?_take_of_lt (show j < P.length * 1 by omega), h3]
    exact hu
theorem cutT_ahead {B : Nat} {vv : Value} (h : W.ownsRow B 9 1 vv P.length (txV P)) (i : Nat) (hi : i ≤ P.length) (hP : P.length < 65536) :
    ∃ xv, (∀ W', (Instr.slice 23 vv none (some (.int .i64 (i : Int))) none).run Tryz.prog W' = .ok xv W') ∧ ∀ W', W'.ownsRow B 9 1 vv P.length (txV P) → SrcT W' xv (P.take i) := by
  rcases rowT_cases h with ⟨rfl, rfl⟩ | ⟨g, cap, rfl, hc, _, _⟩
  · obtain rfl : i = 0 := by simpa using hi
    exact ⟨.slice none 0 0, fun W' => by go_simp, fun W' _ => .inl ⟨rfl, rfl⟩⟩
  · refine ⟨.slice (some ⟨g, 0, none⟩) i cap, fun W' => ?_, fun W' ho => .inr ⟨⟨g, 0, none⟩, cap, by rw [List.length_take, Nat.min_eq_left hi], fun j u hu => ?_⟩⟩
    · go_simp
      intro h9
      omega
    · rcases rowT_cases ho with ⟨hv, _⟩ | ⟨g', cap', hv, _, _, hce⟩
      · cases hv
      · cases hv
        rw [Addr.add_lit, Nat.zero_add]
        refine hce j u ?_
        rw [← List.take_append_drop i P, txV_app, List.getElem?_append_left (List.getElem?_eq_some_iff.1 hu).1]
        exact hu
theorem cutT_behind {B : Nat} {vv : Value} (h : W.ownsRow B 9 1 vv P.length (txV P)) (i : Nat) (hi : i ≤ P.length) (hP : P.length < 65536) :
    ∃ xv, (∀ W', (Instr.slice 23 vv (some (.int .i64 (i : Int))) none none).run Tryz.prog W' = .ok xv W') ∧ ∀ W', W'.ownsRow B 9 1 vv P.length (txV P) → SrcT W' xv (P.drop i) := by
  rcases rowT_cases h with ⟨rfl, rfl⟩ | ⟨g, cap, rfl, hc, _, _⟩
  · obtain rfl : i = 0 := by simpa using hi
    exact ⟨.slice none 0 0, fun W' => by go_simp, fun W' _ => .inl ⟨rfl, rfl⟩⟩
  · refine ⟨.slice (some (if cap = i then ⟨g, 0, none⟩ else ⟨g, i, none⟩)) (P.length - i) (cap - i), fun W' => ?_, fun W' ho => .inr ⟨(if cap = i then ⟨g, 0, none⟩ else ⟨g, i, none⟩), cap - i, by rw [List.length_drop], fun j u hu => ?_⟩⟩
    · by_cases hci : cap = i
      · subst hci
        go_simp
      · rw [if_neg hci]
        go_simp
    · have hj := (List.getElem?_eq_some_iff.1 hu).1
      rw [txV_len, List.length_drop] at hj
      rw [if_neg (by omega), Addr.add_lit]
      rcases rowT_cases ho with ⟨hv, _⟩ | ⟨g', cap', hv, _, _, hce⟩
      · cases hv
      · cases hv
        refine hce (i + j) u ?_
        have hl : (txV (P.take i)).length = i := by rw [txV_len, List.length_take, Nat.min_eq_left hi]
        rw [← List.take_append_drop i P, txV_app, List.getElem?_append_right (by rw [hl]; omega), hl, Nat.add_sub_cancel_left]
        exact hu
theorem run_srcT {w : World} {base ty : Nat} {v xv : Value} {O L : List (List UInt8)} (hown : w.ownsRow base 9 1 v O.length (txV O)) (hs : SrcT w xv L) (hn : O.length + L.length < 4294967296) (hbase : base ≤ w.heap.size) :
    ∃ v' w', (Builtin.append_ #[23, 23] ty #[v, xv]).run Tryz.prog w = .ok v' w' ∧ w'.ownsRow base 9 1 v' (O ++ L).length (txV (O ++ L)) ∧ w.grownBy w' v.ownBlock := by
  obtain ⟨i0, hi0, hz0, hz1, hz2⟩ := info_parts info9
  rcases hs with ⟨rfl, rfl⟩ | ⟨ad, c, rfl, hc⟩
  · refine ⟨v, w, run_append_owned_none w base 23 ty 9 i0 1 Tryz.underlying23 hi0 v _ _ hown, ?_, ⟨rfl, rfl, rfl, Nat.le_refl _, fun _ _ _ => rfl⟩⟩
    rw [List.append_nil]
    exact hown
  · obtain ⟨v', w', hr, h2, h3, _, _⟩ := run_append_own_at (P := Tryz.prog) w base 23 ty 9 i0 _ 1 16 Tryz.underlying23 hi0 hz0 hz1 hz2 rfl (by decide) v O.length (txV O) hown ad L.length c (txV L) (by rw [txV_len, Nat.mul_one]) hc (txV_one L) (by have := maxLen_big; omega) (by omega) hbase
    refine ⟨v', w', hr, ?_, h3⟩
    rw [txV_app, List.length_append]
    exact h2
theorem step_srcT {o : Oper} {a : Act} {w : World} {K : Act → World → Prop} {Q : Exit → Act → World → Prop} (s x : Operand) (ho : o.op = .call { callee := .builtin .append, args := #[s, x], argTypes := #[23, 23] })
    {base : Nat} {v xv : Value} {O L : List (List UInt8)} (hv : a.eval s = v) (hx : a.eval x = xv) (hown : w.ownsRow base 9 1 v O.length (txV O)) (hs : SrcT w xv L) (hn : O.length + L.length < 4294967296) (hbase : base ≤ w.heap.size)
    (h : ∀ v' w', w'.ownsRow base 9 1 v' (O ++ L).length (txV (O ++ L)) → w.grownBy w' v.ownBlock → K (a.put o.dst v') w') : Oper.wp Tryz.prog o a w K Q := by
  obtain ⟨v', w', hr, h2, h3⟩ := run_srcT (ty := o.type) hown hs hn hbase
  unfold Oper.wp execOp
  simp only [ho, resolve, invoke, builtin, Sem.run_bind, Sem.run_pure, Result.andThen_ok, List.map_toArray, List.map_cons, List.map_nil, hv, hx, hr]
  exact h v' w' h2 h3
theorem wpList_srcT {ops : Array Oper} {rest : List Oper} {o : Oper} {a : Act} {w : World} {Q : Exit → Act → World → Prop} (hgd : o.guard = none) (s x : Operand) (ho : o.op = .call { callee := .builtin .append, args := #[s, x], argTypes := #[23, 23] })
    {base : Nat} {v xv : Value} {O L : List (List UInt8)} (hv : a.eval s = v) (hx : a.eval x = xv) (hown : w.ownsRow base 9 1 v O.length (txV O)) (hs : SrcT w xv L) (hn : O.length + L.length < 4294967296) (hbase : base ≤ w.heap.size)
    (h : ∀ v' w', w'.ownsRow base 9 1 v' (O ++ L).length (txV (O ++ L)) → w.grownBy w' v.ownBlock → wpList Tryz.prog ops Q rest (a.put o.dst v') w') : wpList Tryz.prog ops Q (o :: rest) a w := by
  refine wpList_plain hgd fun K hK => ?_
  exact step_srcT s x ho hv hx hown hs hn hbase fun v' w' h2 h3 => hK _ _ (h v' w' h2 h3)
theorem owns_form {w : World} {B e k n : Nat} {v : Value} {xs : List Value} (h : w.ownsRow B e k v n xs) : ∃ ad m cap, v = .slice ad m cap := by
  obtain ⟨ad, cap, rfl⟩ := owns_slice h
  exact ⟨ad, n, cap, rfl⟩
theorem mem_take_succ {l : List (List UInt8)} {i : Nat} {x : List UInt8} (h : l[i]? = some x) (y : List UInt8) : y ∈ l.take (i + 1) ↔ y ∈ l.take i ∨ y = x := by
  rw [take_snoc h, List.mem_append, List.mem_singleton]

set_option maxRecDepth 100000 in
set_option maxHeartbeats 4000000 in
theorem sorted_any (v : Value) (zs : List (List UInt8)) (hl : zs.length < 60000) (w : World) (h : TxAt w v zs) (R : List (List UInt8)) (hR : R.Pairwise fun x y => x < y) (hm : ∀ x, x ∈ R ↔ x ∈ zs) :
    Calls Tryz.prog 76 #[v] w fun e w' => ∃ v', e = .returned v' ∧ w'.ownsRow w.heap.size 9 1 v' R.length (txV R) ∧ Below w.heap.size w w' := by
  obtain ⟨i0, hi0, hz0, hz1, hz2⟩ := info_parts info9
  have HR : Hid (R.Pairwise fun x y => x < y) := hR
  have HM : Hid (∀ x, x ∈ R ↔ x ∈ zs) := hm
  clear hR hm
  obtain ⟨gz, oz, adz, capz, rfl, hcz, hnz, hez⟩ := h
  have HN : Hid (zs ≠ [] → adz = some ⟨gz, oz, none⟩ ∧ gz < w.heap.size) := hnz
  have HE : Hid (∀ k p, zs[k]? = some p → w.cell? ⟨gz, oz + k, none⟩ = some (.string ⟨p.toArray⟩)) := hez
  clear hnz hez
  go_enter Tryz.func76, Tryz.ntmps76
  go_wp2_with fail
  go_loopw [3, 4, 5, 6] (fun v3 v4 _ _ wr => ∃ (i : Nat) (O : List (List UInt8)), v4 = .int .i64 i ∧ i ≤ zs.length ∧ O.length ≤ i ∧ Hid (O.Pairwise fun x y => x < y) ∧ Hid (∀ x, x ∈ O ↔ x ∈ zs.take i) ∧ Hid (wr.ownsRow w.heap.size 9 1 v3 O.length (txV O)) ∧ Below w.heap.size w wr) (fun _ v4 _ _ _ => zs.length - (intOf v4).toNat)
  case atStart => exact ⟨0, [], rfl, Nat.zero_le _, Nat.le_refl _, List.Pairwise.nil, fun x => by simp, ⟨rfl, .inl ⟨rfl, rfl⟩⟩, Below.refl _ _⟩
  case round =>
    obtain ⟨i, O, rfl, hi, hOi, HOR, HOM, HO, hbr⟩ := hrel
    by_cases hil : i < zs.length
    · obtain ⟨x, hx⟩ : ∃ x, zs[i]? = some x := ⟨_, List.getElem?_eq_getElem hil⟩
      obtain ⟨rfl, hgz⟩ := HN.out (fun e => by rw [e] at hil; simp at hil)
      have cx0 : ∀ W', Below w.heap.size w W' → W'.cell? ⟨gz, oz + i, none⟩ = some (.string ⟨x.toArray⟩) := fun W' hb => (hb.cell (p := ⟨gz, oz + i, none⟩) hgz).trans (HE.out i x hx)
      have CX : Hid (∀ W', Below w.heap.size w W' → W'.cell? ⟨gz, oz + i, none⟩ = some (.string ⟨x.toArray⟩)) := cx0
      have HMX : Hid (∀ y, y ∈ zs.take (i + 1) ↔ y ∈ zs.take i ∨ y = x) := fun y => mem_take_succ hx y
      clear cx0 hx
      obtain ⟨wo, hwo⟩ : ∃ wo, wo = wr := ⟨_, rfl⟩
      subst hwo
      obtain ⟨adv, capv, rfl⟩ := owns_slice HO.out
      go_wp2_with fail
      go_loopw [5] (fun v5 wr => ∃ k : Nat, v5 = .int .i64 k ∧ k ≤ O.length ∧ Hid (∀ j y, j < k → O[j]? = some y → y < x) ∧ Below wo.heap.size wo wr) (fun v5 _ => O.length - (intOf v5).toNat)
      case atStart => exact ⟨0, rfl, Nat.zero_le _, fun j y hj => absurd hj (Nat.not_lt_zero _), Below.refl _ _⟩
      case round =>
        obtain ⟨k, rfl, hk, HK, hb2⟩ := hrel
        have hbw : Below w.heap.size w wr := hbr.trans (hb2.mono hbr.size)
        have ho2 := owns_after HO.out hb2
        have cx := CX.out _ hbw
        have HBD : Hid (∀ m, Below wo.heap.size wo (wr.drewN m)) := fun m => hb2.trans ⟨rfl, rfl, rfl, Nat.le_refl _, fun _ _ => rfl⟩
        by_cases hkl : k < O.length
        · obtain ⟨y, hy⟩ : ∃ y, O[k]? = some y := ⟨_, List.getElem?_eq_getElem hkl⟩
          rcases rowT_cases ho2 with ⟨_, h0⟩ | ⟨g, cap, hv, hcap, hgl, hce⟩
          · rw [h0] at hkl; cases hkl
          cases hv
          have cy : wr.cell? ⟨g, k, none⟩ = some (.string ⟨y.toArray⟩) := hce k _ (by rw [txV, List.getElem?_map, hy]; rfl)
          have HY : Hid (O[k]? = some y) := hy
          clear hce hy ho2
          cases hlt : Op.bytesLess y x
          · have HNL : Hid (¬ (y < x)) := by rw [bl_lt] at hlt; unfold Hid; simpa using hlt
            go_wp2_with fail
            go_quiet (fail)
            obtain ⟨w3, hw3⟩ : ∃ w3, w3 = wr.drewN nq := ⟨_, rfl⟩
            have hb3 : Below wo.heap.size wo w3 := by rw [hw3]; exact HBD.out _
            have cx3 : w3.cell? ⟨gz, oz + i, none⟩ = some (.string ⟨x.toArray⟩) := by rw [hw3]; exact cx
            have cy3 : w3.cell? ⟨g, k, none⟩ = some (.string ⟨y.toArray⟩) := by rw [hw3]; exact cy
            rw [← hw3]
            clear hw3 cx cy HBD hb2 hbw hlt
            have HBD : Hid (∀ m, Below wo.heap.size wo (w3.drewN m)) := fun m => hb3.trans ⟨rfl, rfl, rfl, Nat.le_refl _, fun _ _ => rfl⟩
            cases heq : (y == x)
            · have HXY : Hid (x < y) := by
                rcases List.le_iff_lt_or_eq.1 (List.not_lt.1 HNL.out) with h | h
                · exact h
                · rw [h] at heq; simp at heq
              go_wp2_with fail
              go_quiet (fail)
              obtain ⟨w4, hw4⟩ : ∃ w4, w4 = w3.drewN nq := ⟨_, rfl⟩
              have hb4 : Below wo.heap.size wo w4 := by rw [hw4]; exact HBD.out _
              rw [← hw4]
              clear hw4 cx3 cy3 HBD hb3 heq
              have HOW : Hid (w4.ownsRow w.heap.size 9 1 (.slice (some ⟨g, 0, none⟩) O.length capv) O.length (txV O)) := owns_after HO.out hb4
              have HIN : Hid (∀ y, O[k]? = some y → x < y) := fun z hz => by rw [HY.out] at hz; cases hz; exact HXY.out
              have hbw4 : Below w.heap.size w w4 := hbr.trans (hb4.mono hbr.size)
              have CX4 : Hid (∀ W', Below w4.heap.size w4 W' → W'.cell? ⟨gz, oz + i, none⟩ = some (.string ⟨x.toArray⟩)) := fun W' hb => CX.out W' (hbw4.trans (hb.mono hbw4.size))
              obtain ⟨xv1, hx1, HX1⟩ := cutT_ahead HOW.out k hk (by omega)
              obtain ⟨xv2, hx2, HX2⟩ := cutT_behind HOW.out k hk (by omega)
              obtain ⟨w5, hmk, ho5, hg5⟩ := run_make_own (P := Tryz.prog) w4.drew w4.heap.size 23 9 i0 _ 1 Tryz.underlying23 hi0 hz0 hz1 .i64 .i64 (O.length + 1) (by rw [hz2]; omega) (by have := maxLen_big; omega) (Nat.le_refl _)
              rw [show (((O.length + 1 : Nat)) : Int) = (O.length : Int) + 1 by omega] at hmk
              have hb2 : Below w4.heap.size w4 w5 := ((Below.refl _ w4).drew).grown hg5 (Nat.le_refl _) (fun q e => by cases e)
              have HO2 : Hid (w5.ownsRow w4.heap.size 9 1 (.slice (some ⟨w4.heap.size, 0, none⟩) 0 (O.length + 1)) 0 []) := ho5
              obtain ⟨O1, HE1⟩ : ∃ O1, Hid (O.take k = O1) := ⟨_, rfl⟩
              have hO1 : O1.length ≤ k := by rw [← HE1.out, List.length_take]; omega
              have HXX1 : Hid (∀ W', Below w4.heap.size w4 W' → SrcT W' xv1 O1) := fun W' hb => by rw [← HE1.out]; exact HX1 W' (owns_after HOW.out hb)
              have HXX2 : Hid (∀ W', Below w4.heap.size w4 W' → SrcT W' xv2 (O.drop k)) := fun W' hb => HX2 W' (owns_after HOW.out hb)
              clear HX1 HX2 ho5 hg5
              go_upto_region 9 with fail
              refine wp_region_held (S := fun _ => True) (by kernel_rfl) ?_
              change wpAnyH _ _ _ _ _ _ _ _ (World.drew _)
              have hS0 : True := trivial
              refine wpAnyH_take (i := 0) (v := .slice (some ⟨g, 0, none⟩) O.length capv) rfl (by kernel_rfl) (by kernel_rfl) (by kernel_rfl) (fun _ _ _ h => h) (Yields.yieldsIf (Or.inl ⟨by rfl, by intro wz; go_simp⟩)) hS0 ?_
              try simp only [Act.put, List.getElem_toArray, List.getElem_cons_zero, List.setIfInBounds_toArray, List.set_cons_zero, List.set_cons_succ]
              refine wpAnyH_take (i := 1) (v := .int .i64 (O.length : Nat)) rfl (by kernel_rfl) (by kernel_rfl) (by kernel_rfl) (fun _ _ _ h => h) (Yields.yieldsIf (Or.inl ⟨by rfl, by intro wz; go_simp⟩)) hS0 ?_
              try simp only [Act.put, List.getElem_toArray, List.getElem_cons_succ, List.getElem_cons_zero, List.setIfInBounds_toArray, List.set_cons_zero, List.set_cons_succ]
              refine wpAnyH_take (i := 2) (v := .int .i64 ((O.length : Int) + 1)) rfl (by kernel_rfl) (by kernel_rfl) (by kernel_rfl) (fun _ _ _ h => h) (Yields.yieldsIf (Or.inl ⟨by rfl, by intro wz; go_simp; rw [IntKind.wrap_i64]; omega⟩)) hS0 ?_
              try simp only [Act.put, List.getElem_toArray, List.getElem_cons_succ, List.getElem_cons_zero, List.setIfInBounds_toArray, List.set_cons_zero, List.set_cons_succ]
              refine wpAnyH_take (i := 4) (v := .slice (some ⟨g, 0, none⟩) O.length capv) rfl (by kernel_rfl) (by kernel_rfl) (by kernel_rfl) (fun _ _ _ h => h) (Yields.yieldsIf (Or.inl ⟨by rfl, by intro wz; go_simp⟩)) hS0 ?_
              try simp only [Act.put, List.getElem_toArray, List.getElem_cons_succ, List.getElem_cons_zero, List.setIfInBounds_toArray, List.set_cons_zero, List.set_cons_succ]
              refine wpAnyH_take (i := 5) (v := .int .i64 (k : Nat)) rfl (by kernel_rfl) (by kernel_rfl) (by kernel_rfl) (fun _ _ _ h => h) (Yields.yieldsIf (Or.inl ⟨by rfl, by intro wz; go_simp⟩)) hS0 ?_
              try simp only [Act.put, List.getElem_toArray, List.getElem_cons_succ, List.getElem_cons_zero, List.setIfInBounds_toArray, List.set_cons_zero, List.set_cons_succ]
              refine wpAnyH_take (i := 6) (v := xv1) rfl (by kernel_rfl) (by kernel_rfl) (by kernel_rfl) (fun _ _ _ h => h) (Yields.yieldsIf (Or.inl ⟨by rfl, by intro wz; go_simp⟩)) hS0 ?_
              try simp only [Act.put, List.getElem_toArray, List.getElem_cons_succ, List.getElem_cons_zero, List.setIfInBounds_toArray, List.set_cons_zero, List.set_cons_succ]
              refine wpAnyH_ready (rs := [3]) (by kernel_rfl) (by simp) ?_
              refine AllReadyH.cons rfl (fun K' hK => ?_) AllReadyH.nil
              go_simp
              refine hK.out _ _ trivial (fun _ => ?_)
              clear hK K'
              try simp only [Act.put, List.getElem_toArray, List.getElem_cons_succ, List.getElem_cons_zero, List.setIfInBounds_toArray, List.set_cons_zero, List.set_cons_succ]
              refine wpAnyH_ready (rs := [7]) (by kernel_rfl) (by simp) ?_
              refine AllReadyH.cons rfl (fun K' hK => ?_) AllReadyH.nil
              refine step_srcT (O := []) (L := O1) _ _ rfl rfl rfl HO2.out (HXX1.out _ hb2) (by simp only [List.length_nil]; omega) hb2.size ?_
              intro v3 w3 ho3 hg3
              have hb3 : Below w4.heap.size w4 w3 := grown_any hb2.size hb2 HO2.out hg3
              rw [List.nil_append] at ho3
              refine hK.out _ _ trivial (fun _ => ?_)
              clear hK K'
              try simp only [Act.put, List.getElem_toArray, List.getElem_cons_succ, List.getElem_cons_zero, List.setIfInBounds_toArray, List.set_cons_zero, List.set_cons_succ]
              obtain ⟨ad3, cap3, rfl⟩ := owns_slice ho3
              have HO3 : Hid (w3.ownsRow w4.heap.size 9 1 (.slice ad3 O1.length cap3) O1.length (txV O1)) := ho3
              clear ho3 hg3
              refine wpAnyH_take (i := 8) (v := .slice ad3 O1.length cap3) rfl (by kernel_rfl) (by kernel_rfl) (by kernel_rfl) (fun _ _ _ h => h) (Yields.yieldsIf (Or.inl ⟨by rfl, by intro wz; go_simp⟩)) hS0 ?_
              try simp only [Act.put, List.getElem_toArray, List.getElem_cons_succ, List.getElem_cons_zero, List.setIfInBounds_toArray, List.set_cons_zero, List.set_cons_succ]
              refine wpAnyH_done (by kernel_rfl) ?_ _
              clear hS0 hx1 hmk
              have cx3 := CX4.out _ hb3
              have hbA : Below w4.heap.size w4 (w3.alloc (.cells #[.string ⟨x.toArray⟩] 9)) := hb3.alloc hb3.size _
              have hoA : (w3.alloc (.cells #[.string ⟨x.toArray⟩] 9)).ownsRow w4.heap.size 9 1 (.slice ad3 O1.length cap3) O1.length (txV O1) := HO3.out.alloc _
              have hz3 := hb3.size
              go_wp2_with (first | (at_builtin; refine wpList_append_own _ rfl _ _ 23 rfl w4.heap.size 9 i0 (.string ⟨#[]⟩) 1 16 Tryz.underlying23 hi0 hz0 hz1 hz2 rfl (by decide) _ _ _ rfl hoA ⟨w3.heap.size, 0, none⟩ 1 1 [.string ⟨x.toArray⟩] rfl rfl (cells_new w3 _ 9) (by simp [Value.oneCell']) (by have := maxLen_big; omega) (by omega) hbA.size ?_; intro v6 w6 hown6 hgrow6 _; obtain ⟨ad6, cap6, rfl⟩ := owns_slice hown6; have hb6 : Below w4.heap.size w4 w6 := grown_any hbA.size hbA hoA hgrow6; have HO6 : Hid (w6.ownsRow w4.heap.size 9 1 (.slice ad6 (O1.length + 1) cap6) (O1 ++ [x]).length (txV (O1 ++ [x]))) := (by unfold Hid; rw [txV_app, List.length_append]; exact hown6); have hz6 := hb6.size; clear hown6 hgrow6 hoA hbA) | (at_builtin; refine wpList_srcT rfl _ _ rfl rfl rfl HO6.out (HXX2.out _ hb6) (by simp only [List.length_append, List.length_drop, List.length_singleton]; omega) hz6 ?_; intro v7 w7 ho7 hg7; obtain ⟨ad7, n7, cap7, rfl⟩ := owns_form ho7; have hb7 : Below w4.heap.size w4 w7 := grown_any hb6.size hb6 HO6.out hg7; have HO7 : Hid (w7.ownsRow w4.heap.size 9 1 (.slice ad7 n7 cap7) (O1 ++ [x] ++ O.drop k).length (txV (O1 ++ [x] ++ O.drop k))) := ho7; clear ho7 hg7))
              have hlen : (O1 ++ [x] ++ O.drop k).length = O.length + 1 := by rw [← HE1.out]; exact put_length O x k
              go_roundw
              case rel =>
                refine ⟨i + 1, O1 ++ [x] ++ O.drop k, by simp, by omega, by omega, ?_, ?_, ?_, hbw4.trans (hb7.mono hbw4.size)⟩
                · unfold Hid; rw [← HE1.out]; exact rising_put O x k HOR.out HK.out HIN.out
                · intro z
                  rw [← HE1.out, mem_put, HMX.out z, HOM.out z]
                · exact owns_base HO7.out hbw4.size
              case measure => simp [intOf]; omega
            · have hxy : y = x := by simpa using heq
              have HMEM : Hid (x ∈ O) := by rw [← hxy]; exact List.mem_of_getElem? HY.out
              clear hxy
              go_wp2_with fail
              go_quiet (fail)
              have hb4 := HBD.out nq
              have HOW : Hid ((w3.drewN nq).ownsRow w.heap.size 9 1 (.slice (some ⟨g, 0, none⟩) O.length capv) O.length (txV O)) := owns_after HO.out hb4
              have hbw4 : Below w.heap.size w (w3.drewN nq) := hbr.trans (hb4.mono hbr.size)
              go_wp2_with fail
              go_roundw
              case rel =>
                refine ⟨i + 1, O, by simp, by omega, by omega, HOR, ?_, HOW, hbw4⟩
                intro z
                rw [HMX.out z, HOM.out z]
                constructor
                · exact fun h => .inl h
                · rintro (h | h)
                  · exact h
                  · rw [h]; exact (HOM.out x).1 HMEM.out
              case measure => simp [intOf]; omega
          · have HLT : Hid (y < x) := by rw [bl_lt] at hlt; unfold Hid; simpa using hlt
            have HK2 : Hid (∀ j y, j < k + 1 → O[j]? = some y → y < x) := fun j z hj hz => by
              rcases Nat.lt_or_ge j k with h1 | h1
              · exact HK.out j z h1 hz
              · rw [show j = k by omega, HY.out] at hz
                cases hz
                exact HLT.out
            go_wp2_with fail
            go_quiet (fail)
            have hb3 := HBD.out nq
            go_wp2_with fail
            exact ⟨⟨k + 1, by simp, by omega, HK2, hb3⟩, by simp [intOf]; omega⟩
        · have hkz : k = O.length := by omega
          have HKZ : Hid (k = O.length) := hkz
          have HIN : Hid (∀ y, O[k]? = some y → x < y) := fun z hz => by
            have := (List.getElem?_eq_some_iff.1 hz).1
            omega
          clear hkz ho2
          go_wp2_with fail
          go_quiet (fail)
          obtain ⟨w3, hw3⟩ : ∃ w3, w3 = wr.drewN nq := ⟨_, rfl⟩
          have hb3 : Below wo.heap.size wo w3 := by rw [hw3]; exact HBD.out _
          rw [← hw3]
          clear hw3 cx HBD hb2 hbw
          have HBD : Hid (∀ m, Below wo.heap.size wo (w3.drewN m)) := fun m => hb3.trans ⟨rfl, rfl, rfl, Nat.le_refl _, fun _ _ => rfl⟩
          go_wp2_with fail
          go_quiet (fail)
          obtain ⟨w4, hw4⟩ : ∃ w4, w4 = w3.drewN nq := ⟨_, rfl⟩
          have hb4 : Below wo.heap.size wo w4 := by rw [hw4]; exact HBD.out _
          rw [← hw4]
          clear hw4 HBD hb3
          have HOW : Hid (w4.ownsRow w.heap.size 9 1 (.slice adv O.length capv) O.length (txV O)) := owns_after HO.out hb4
          have hbw4 : Below w.heap.size w w4 := hbr.trans (hb4.mono hbr.size)
          have CX4 : Hid (∀ W', Below w4.heap.size w4 W' → W'.cell? ⟨gz, oz + i, none⟩ = some (.string ⟨x.toArray⟩)) := fun W' hb => CX.out W' (hbw4.trans (hb.mono hbw4.size))
          obtain ⟨xv1, hx1, HX1⟩ := cutT_ahead HOW.out k hk (by omega)
          obtain ⟨xv2, hx2, HX2⟩ := cutT_behind HOW.out k hk (by omega)
          obtain ⟨w5, hmk, ho5, hg5⟩ := run_make_own (P := Tryz.prog) w4.drew w4.heap.size 23 9 i0 _ 1 Tryz.underlying23 hi0 hz0 hz1 .i64 .i64 (O.length + 1) (by rw [hz2]; omega) (by have := maxLen_big; omega) (Nat.le_refl _)
          rw [show (((O.length + 1 : Nat)) : Int) = (O.length : Int) + 1 by omega] at hmk
          have hb2 : Below w4.heap.size w4 w5 := ((Below.refl _ w4).drew).grown hg5 (Nat.le_refl _) (fun q e => by cases e)
          have HO2 : Hid (w5.ownsRow w4.heap.size 9 1 (.slice (some ⟨w4.heap.size, 0, none⟩) 0 (O.length + 1)) 0 []) := ho5
          obtain ⟨O1, HE1⟩ : ∃ O1, Hid (O.take k = O1) := ⟨_, rfl⟩
          have hO1 : O1.length ≤ k := by rw [← HE1.out, List.length_take]; omega
          have HXX1 : Hid (∀ W', Below w4.heap.size w4 W' → SrcT W' xv1 O1) := fun W' hb => by rw [← HE1.out]; exact HX1 W' (owns_after HOW.out hb)
          have HXX2 : Hid (∀ W', Below w4.heap.size w4 W' → SrcT W' xv2 (O.drop k)) := fun W' hb => HX2 W' (owns_after HOW.out hb)
          clear HX1 HX2 ho5 hg5
          go_upto_region 9 with fail
          refine wp_region_held (S := fun _ => True) (by kernel_rfl) ?_
          change wpAnyH _ _ _ _ _ _ _ _ (World.drew _)
          have hS0 : True := trivial
          refine wpAnyH_take (i := 0) (v := .slice adv O.length capv) rfl (by kernel_rfl) (by kernel_rfl) (by kernel_rfl) (fun _ _ _ h => h) (Yields.yieldsIf (Or.inl ⟨by rfl, by intro wz; go_simp⟩)) hS0 ?_
          try simp only [Act.put, List.getElem_toArray, List.getElem_cons_zero, List.setIfInBounds_toArray, List.set_cons_zero, List.set_cons_succ]
          refine wpAnyH_take (i := 1) (v := .int .i64 (O.length : Nat)) rfl (by kernel_rfl) (by kernel_rfl) (by kernel_rfl) (fun _ _ _ h => h) (Yields.yieldsIf (Or.inl ⟨by rfl, by intro wz; go_simp⟩)) hS0 ?_
          try simp only [Act.put, List.getElem_toArray, List.getElem_cons_succ, List.getElem_cons_zero, List.setIfInBounds_toArray, List.set_cons_zero, List.set_cons_succ]
          refine wpAnyH_take (i := 2) (v := .int .i64 ((O.length : Int) + 1)) rfl (by kernel_rfl) (by kernel_rfl) (by kernel_rfl) (fun _ _ _ h => h) (Yields.yieldsIf (Or.inl ⟨by rfl, by intro wz; go_simp; rw [IntKind.wrap_i64]; omega⟩)) hS0 ?_
          try simp only [Act.put, List.getElem_toArray, List.getElem_cons_succ, List.getElem_cons_zero, List.setIfInBounds_toArray, List.set_cons_zero, List.set_cons_succ]
          refine wpAnyH_take (i := 4) (v := .slice adv O.length capv) rfl (by kernel_rfl) (by kernel_rfl) (by kernel_rfl) (fun _ _ _ h => h) (Yields.yieldsIf (Or.inl ⟨by rfl, by intro wz; go_simp⟩)) hS0 ?_
          try simp only [Act.put, List.getElem_toArray, List.getElem_cons_succ, List.getElem_cons_zero, List.setIfInBounds_toArray, List.set_cons_zero, List.set_cons_succ]
          refine wpAnyH_take (i := 5) (v := .int .i64 (k : Nat)) rfl (by kernel_rfl) (by kernel_rfl) (by kernel_rfl) (fun _ _ _ h => h) (Yields.yieldsIf (Or.inl ⟨by rfl, by intro wz; go_simp⟩)) hS0 ?_
          try simp only [Act.put, List.getElem_toArray, List.getElem_cons_succ, List.getElem_cons_zero, List.setIfInBounds_toArray, List.set_cons_zero, List.set_cons_succ]
          refine wpAnyH_take (i := 6) (v := xv1) rfl (by kernel_rfl) (by kernel_rfl) (by kernel_rfl) (fun _ _ _ h => h) (Yields.yieldsIf (Or.inl ⟨by rfl, by intro wz; go_simp⟩)) hS0 ?_
          try simp only [Act.put, List.getElem_toArray, List.getElem_cons_succ, List.getElem_cons_zero, List.setIfInBounds_toArray, List.set_cons_zero, List.set_cons_succ]
          refine wpAnyH_ready (rs := [3]) (by kernel_rfl) (by simp) ?_
          refine AllReadyH.cons rfl (fun K' hK => ?_) AllReadyH.nil
          go_simp
          refine hK.out _ _ trivial (fun _ => ?_)
          clear hK K'
          try simp only [Act.put, List.getElem_toArray, List.getElem_cons_succ, List.getElem_cons_zero, List.setIfInBounds_toArray, List.set_cons_zero, List.set_cons_succ]
          refine wpAnyH_ready (rs := [7]) (by kernel_rfl) (by simp) ?_
          refine AllReadyH.cons rfl (fun K' hK => ?_) AllReadyH.nil
          refine step_srcT (O := []) (L := O1) _ _ rfl rfl rfl HO2.out (HXX1.out _ hb2) (by simp only [List.length_nil]; omega) hb2.size ?_
          intro v3 w3 ho3 hg3
          have hb3 : Below w4.heap.size w4 w3 := grown_any hb2.size hb2 HO2.out hg3
          rw [List.nil_append] at ho3
          refine hK.out _ _ trivial (fun _ => ?_)
          clear hK K'
          try simp only [Act.put, List.getElem_toArray, List.getElem_cons_succ, List.getElem_cons_zero, List.setIfInBounds_toArray, List.set_cons_zero, List.set_cons_succ]
          obtain ⟨ad3, cap3, rfl⟩ := owns_slice ho3
          have HO3 : Hid (w3.ownsRow w4.heap.size 9 1 (.slice ad3 O1.length cap3) O1.length (txV O1)) := ho3
          clear ho3 hg3
          refine wpAnyH_take (i := 8) (v := .slice ad3 O1.length cap3) rfl (by kernel_rfl) (by kernel_rfl) (by kernel_rfl) (fun _ _ _ h => h) (Yields.yieldsIf (Or.inl ⟨by rfl, by intro wz; go_simp⟩)) hS0 ?_
          try simp only [Act.put, List.getElem_toArray, List.getElem_cons_succ, List.getElem_cons_zero, List.setIfInBounds_toArray, List.set_cons_zero, List.set_cons_succ]
          refine wpAnyH_done (by kernel_rfl) ?_ _
          clear hS0 hx1 hmk
          have cx3 := CX4.out _ hb3
          have hbA : Below w4.heap.size w4 (w3.alloc (.cells #[.string ⟨x.toArray⟩] 9)) := hb3.alloc hb3.size _
          have hoA : (w3.alloc (.cells #[.string ⟨x.toArray⟩] 9)).ownsRow w4.heap.size 9 1 (.slice ad3 O1.length cap3) O1.length (txV O1) := HO3.out.alloc _
          have hz3 := hb3.size
          go_wp2_with (first | (at_builtin; refine wpList_append_own _ rfl _ _ 23 rfl w4.heap.size 9 i0 (.string ⟨#[]⟩) 1 16 Tryz.underlying23 hi0 hz0 hz1 hz2 rfl (by decide) _ _ _ rfl hoA ⟨w3.heap.size, 0, none⟩ 1 1 [.string ⟨x.toArray⟩] rfl rfl (cells_new w3 _ 9) (by simp [Value.oneCell']) (by have := maxLen_big; omega) (by omega) hbA.size ?_; intro v6 w6 hown6 hgrow6 _; obtain ⟨ad6, cap6, rfl⟩ := owns_slice hown6; have hb6 : Below w4.heap.size w4 w6 := grown_any hbA.size hbA hoA hgrow6; have HO6 : Hid (w6.ownsRow w4.heap.size 9 1 (.slice ad6 (O1.length + 1) cap6) (O1 ++ [x]).length (txV (O1 ++ [x]))) := (by unfold Hid; rw [txV_app, List.length_append]; exact hown6); have hz6 := hb6.size; clear hown6 hgrow6 hoA hbA) | (at_builtin; refine wpList_srcT rfl _ _ rfl rfl rfl HO6.out (HXX2.out _ hb6) (by simp only [List.length_append, List.length_drop, List.length_singleton]; omega) hz6 ?_; intro v7 w7 ho7 hg7; obtain ⟨ad7, n7, cap7, rfl⟩ := owns_form ho7; have hb7 : Below w4.heap.size w4 w7 := grown_any hb6.size hb6 HO6.out hg7; have HO7 : Hid (w7.ownsRow w4.heap.size 9 1 (.slice ad7 n7 cap7) (O1 ++ [x] ++ O.drop k).length (txV (O1 ++ [x] ++ O.drop k))) := ho7; clear ho7 hg7))
          have hlen : (O1 ++ [x] ++ O.drop k).length = O.length + 1 := by rw [← HE1.out]; exact put_length O x k
          go_roundw
          case rel =>
            refine ⟨i + 1, O1 ++ [x] ++ O.drop k, by simp, by omega, by omega, ?_, ?_, ?_, hbw4.trans (hb7.mono hbw4.size)⟩
            · unfold Hid; rw [← HE1.out]; exact rising_put O x k HOR.out HK.out HIN.out
            · intro z
              rw [← HE1.out, mem_put, HMX.out z, HOM.out z]
            · exact owns_base HO7.out hbw4.size
          case measure => simp [intOf]; omega
    · have hiz : i = zs.length := by omega
      subst hiz
      have hRO : R = O := rising_unique R O HR.out HOR.out fun x => by rw [HM.out, HOM.out, List.take_length]
      have ho := HO.out
      rw [← hRO] at ho
      have HOO : Hid (wr.ownsRow w.heap.size 9 1 u3 R.length (txV R)) := ho
      go_wp2_with fail
      go_ret
      exact ⟨_, rfl, HOO.out, hbr⟩
end Go.Proofs.YtdajacodfnidfaaGreatDoor
