/- The document's own answers: Files; Any. -/
import Derived.Test.YtdajacodfnidfaaGreatDoorRefST
import Derived.Test.YtdajacodfnidfaaGreatDoorRefH
import Derived.Deep.Cut
namespace Go.Proofs.YtdajacodfnidfaaGreatDoor
open Go.RowKit Go.Shelf

theorem dotL_cons (c : UInt8) (r : List UInt8) : dotL (c :: r) = (c == 46) := by
  rw [Bool.eq_iff_iff]
  simp only [dotL, Lib.hasPrefix, List.isPrefixOf, Bool.and_true, beq_iff_eq]
  exact eq_comm
theorem dotL_nil : dotL [] = false := by decide
theorem idx0 (c : UInt8) (r : List UInt8) : ∀ h, (⟨(c :: r).toArray⟩ : ByteArray)[0]'h = c := fun _ => rfl

set_option maxRecDepth 100000 in
set_option maxHeartbeats 4000000 in
theorem rfiles_any (p : List UInt8) (hp : p.length < 4294967296) (v : Value) (ns : List (List UInt8)) (hl : ns.length < 60000) (hz : ∀ s ∈ ns, s.length < 4294967296) (w : World) (h : TxAt w v ns) :
    Calls Tryz.prog 49 #[.string ⟨p.toArray⟩, v] w fun e w' => ∃ v', e = .returned v' ∧ TxAt w' v' (filesB (dotL p) (pcs (letts p)) ns) ∧ Below w.heap.size w w' := by
  obtain ⟨i0, hi0, hz0, hz1, hz2⟩ := info_parts info9
  obtain ⟨d, HD⟩ : ∃ d, Hid (dotL p = d) := ⟨_, rfl⟩
  obtain ⟨l, HL⟩ : ∃ l, Hid (pcs (letts p) = l) := ⟨_, rfl⟩
  have HMP : Hid (∀ (n : List UInt8) (W : World), n.length < 4294967296 → Calls Tryz.prog 75 #[.string ⟨p.toArray⟩, .string ⟨n.toArray⟩] W fun e w' => e = .returned (.bool (mt l n)) ∧ Below W.heap.size W w') := fun n W hn => by
    have := rmatch_any ⟨p.toArray⟩ ⟨n.toArray⟩ (by rw [str_size']; exact hp) (by rw [str_size']; exact hn) W
    unfold matchL at this
    rw [str_data', str_data', HL.out] at this
    exact this
  rw [HD.out, HL.out]
  have HZ : Hid (∀ s ∈ ns, s.length < 4294967296) := hz
  clear hz
  obtain ⟨gz, oz, adz, capz, rfl, hcz, hnz, hez⟩ := h
  have HN : Hid (ns ≠ [] → adz = some ⟨gz, oz, none⟩ ∧ gz < w.heap.size) := hnz
  have HE : Hid (∀ k p, ns[k]? = some p → w.cell? ⟨gz, oz + k, none⟩ = some (.string ⟨p.toArray⟩)) := hez
  clear hnz hez
  go_enter Tryz.func49, Tryz.ntmps49
  go_wp2_with fail
  go_loopw [5, 6, 7] (fun v5 v6 _ wr => ∃ k : Nat, v6 = .int .i64 k ∧ k ≤ ns.length ∧ Hid (wr.ownsRow w.heap.size 9 1 v5 (upto d l ns k).length (txV (upto d l ns k))) ∧ Below w.heap.size w wr) (fun _ v6 _ _ => ns.length - (intOf v6).toNat)
  case atStart => exact ⟨0, rfl, Nat.zero_le _, by rw [upto_zero]; exact ⟨rfl, .inl ⟨rfl, rfl⟩⟩, Below.refl _ _⟩
  case round =>
    obtain ⟨k, rfl, hk, HO, hbr⟩ := hrel
    by_cases hkl : k < ns.length
    · obtain ⟨n, hn⟩ : ∃ n, ns[k]? = some n := ⟨_, List.getElem?_eq_getElem hkl⟩
      have hn32 := HZ.out n (List.mem_of_getElem? hn)
      obtain ⟨rfl, hgz⟩ := HN.out (fun e => by rw [e] at hkl; simp at hkl)
      have c0 := (hbr.cell (p := ⟨gz, oz + k, none⟩) hgz).trans (HE.out k n hn)
      have HUS : Hid (upto d l ns (k + 1) = upto d l ns k ++ (if wantB d l n then [n] else [])) := upto_succ d l ns k n hn
      have hul := upto_length d l ns k
      clear hn
      generalize upto d l ns k = U at HO HUS hul
      obtain ⟨dn, HDN⟩ : ∃ dn, Hid (dotL n = dn) := ⟨_, rfl⟩
      go_upto_region 5 with fail
      go_cut [7] from 14 to 38 (fun v wx => v = .bool (dn && !d) ∧ wx = wr)
      case first => as_aux_lemma =>
        clear HMP HZ HE HN HO HUS
        cases n with
        | nil =>
          obtain rfl : dn = false := by rw [← HDN.out, dotL_nil]
          go_wp2_with fail
          go_meet
          case rel => exact ⟨by simp, rfl⟩
        | cons c r =>
          have hc : ((c.toNat : Int) == 46) = dn := by rw [← HDN.out, dotL_cons]; exact beq_u8 c 46
          have hix := idx0 c r
          clear HDN
          cases dn
          · go_wp2_with fail
            go_meet
            case rel => exact ⟨by simp, rfl⟩
          · cases p with
            | nil =>
              obtain rfl : d = false := by rw [← HD.out, dotL_nil]
              go_wp2_with fail
              go_meet
              case rel => exact ⟨by simp, rfl⟩
            | cons a q =>
              have ha : ((a.toNat : Int) == 46) = d := by rw [← HD.out, dotL_cons]; exact beq_u8 a 46
              have hia := idx0 a q
              clear HD
              cases d
              · go_wp2_with fail
                go_meet
                case rel => exact ⟨by simp, rfl⟩
              · go_wp2_with fail
                go_meet
                case rel => exact ⟨by simp, rfl⟩
      case rest =>
        obtain ⟨rfl, hwc⟩ := hcut
        subst hwc
        cases hh : (dn && !d)
        · have HW : Hid (wantB d l n = mt l n) := by
            unfold Hid wantB
            rw [HDN.out]
            cases dn <;> cases d <;> simp_all
          clear hh
          go_wp2_with fail
          refine (HMP.out n _ hn32).mono ?_
          rintro e w2 ⟨rfl, hb2⟩
          rw [← HW.out]
          have c2 := (hb2.cell (p := ⟨gz, oz + k, none⟩) (Nat.lt_of_lt_of_le hgz hbr.size)).trans c0
          have hoc := owns_after HO.out hb2
          have b1c : Below w.heap.size w w2 := hbr.trans (hb2.mono hbr.size)
          cases hwn : wantB d l n
          · go_wp2_with fail
            exact ⟨⟨k + 1, by simp, by omega, by unfold Hid; rw [HUS.out, hwn]; simpa using hoc, b1c⟩, by simp [intOf]; omega⟩
          · have hba : Below w.heap.size w (w2.alloc (.cells #[.string ⟨n.toArray⟩] 9)) := b1c.alloc b1c.size _
            go_wp2_with (at_builtin; refine wpList_append_own _ rfl _ _ 23 rfl w.heap.size 9 i0 (.string ⟨#[]⟩) 1 16 Tryz.underlying23 hi0 hz0 hz1 hz2 rfl (by decide) _ _ _ rfl (hoc.alloc _) ⟨w2.heap.size, 0, none⟩ 1 1 [.string ⟨n.toArray⟩] rfl rfl (cells_new _ [.string ⟨n.toArray⟩] _) (by simp [Value.oneCell']) (by have := maxLen_big; omega) (by omega) hba.size ?_; intro v' w5 hown' hgrow _)
            refine ⟨⟨k + 1, by simp, by omega, ?_, grown_any hba.size hba (hoc.alloc _) hgrow⟩, by simp [intOf]; omega⟩
            unfold Hid
            rw [HUS.out, hwn, if_pos rfl, txV_app, List.length_append]
            exact hown'
        · have HW : Hid (wantB d l n = false) := by
            unfold Hid wantB
            rw [HDN.out]
            cases dn <;> cases d <;> simp_all
          go_wp2_with fail
          refine ⟨⟨k + 1, by simp, by omega, ?_, hbr⟩, by simp [intOf]; omega⟩
          unfold Hid
          rw [HUS.out, HW.out]
          simpa using HO.out
    · have hkz : k = ns.length := by omega
      subst hkz
      have hfu : upto d l ns ns.length = ns.filter (wantB d l) := by simp [upto]
      rw [hfu] at HO
      have hfl : (ns.filter (wantB d l)).length < 60000 := Nat.lt_of_le_of_lt (List.length_filter_le _ _) hl
      have HS := fun W v (h : TxAt W v (ns.filter (wantB d l))) => sorted_any v (ns.filter (wantB d l)) hfl W h (filesB d l ns) (filesB_rising d l ns) (fun x => by rw [filesB_mem, List.mem_filter])
      have HSS : Hid (∀ W v, TxAt W v (ns.filter (wantB d l)) → Calls Tryz.prog 76 #[v] W fun e w' => ∃ v', e = .returned v' ∧ w'.ownsRow W.heap.size 9 1 v' (filesB d l ns).length (txV (filesB d l ns)) ∧ Below W.heap.size W w') := HS
      clear HS hfu
      go_wp2_with fail
      refine (HSS.out _ _ (TxAt.owned HO.out)).mono ?_
      rintro e w2 ⟨v', rfl, ho2, hb2⟩
      go_wp2_with fail
      go_ret
      exact ⟨_, rfl, TxAt.owned ho2, hbr.trans (hb2.mono hbr.size)⟩

/-- Does any of the patterns match? -/
def anyM (s : List UInt8) (ps : List (List UInt8)) : Bool := ps.any fun p => matchL p s

end Go.Proofs.YtdajacodfnidfaaGreatDoor
