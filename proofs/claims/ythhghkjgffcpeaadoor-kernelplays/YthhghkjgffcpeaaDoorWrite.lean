/- Files are written. -/
import Derived.Test.YthhghkjgffcpeaaDoorOpen
namespace Go.Proofs.YthhghkjgffcpeaaDoor
open Go.RowKit

variable {W : World} {K : Nat → Prop} {kb mb : Nat} {ev rv : Value} {F : Fls} {Y : List (Rw × Value)} {X : List (Ev × Value)}

/-- The error, and that it lies where it should. -/
abbrev errV (a : Addr) : Value := .iface 153 (.pointer (some a))
def Er (w : World) (i : Nat) (a : Addr) : Prop := w.cell? ⟨i, 0, none⟩ = some (errV a) ∧ i < w.heap.size
theorem Er.below {w w' : World} {i : Nat} {a : Addr} {B : Nat} (h : Er w i a) (hb : Below B w w') (hB : i < B) : Er w' i a :=
  ⟨(hb.cell (p := ⟨i, 0, none⟩) hB).trans h.1, Nat.lt_of_lt_of_le h.2 hb.size⟩
theorem bytes_app (a b : Txt) : ((⟨a.toArray⟩ : ByteArray) ++ (⟨b.toArray⟩ : ByteArray)) = ⟨(a ++ b).toArray⟩ := by
  apply ByteArray.ext
  rw [ByteArray.data_append]
  simp

theorem fld73 (a b : Txt) (w : World) : (Instr.field 73 (.agg #[str a, str b]) 1).run Tryd.prog w = .ok (str b) w := by kernel_rfl
def writeB (F : Fls) (f d : Txt) : Bool := d.isEmpty || f.isEmpty || decide (d.length + (datF F f).length ≤ 16384)
def writeF (F : Fls) (f d : Txt) : Fls := if d.isEmpty || f.isEmpty || !writeB F f d then F else putF F f (datF F f ++ d)
def writeE (F : Fls) (f d : Txt) : List Ev := if d.isEmpty || !writeB F f d then [] else [⟨3, 0, f, d, []⟩]
def errR (b : Bool) (a : Addr) : Value := if b then .nilIface else errV a

set_option maxRecDepth 100000 in
set_option maxHeartbeats 2000000 in
theorem write_any (f d : Txt) (ea : Addr) (h : Kern W K kb mb ev rv F Y X) (hX : X.length < 4294967296) (hF : F.length < 4294967296) (hf : f.length < 4294967296) (hd : d.length < 4294967296) (hdat : (datF F f).length < 4294967296) (hE : Er W 0 ea) :
    Calls Tryd.prog 22 #[kP kb, str f, str d] W fun r w' => r = .returned (errR (writeB F f d) ea) ∧ ∃ ev' X' K', Kern w' K' kb mb ev' rv (writeF F f d) Y (X ++ X') ∧ X'.map Prod.fst = writeE F f d ∧ Stp W K w' K' := by
  have HH : Hid (Kern W K kb mb ev rv F Y X) := h
  have hlk := look_no h.fm f hf
  have c1 := h.kc.cell 1
  have ce := hE.1
  have hfd := fld73
  have HF : Hid (F.length < 4294967296) := hF
  clear h hF hE
  cases d with
  | nil =>
    go_enter Tryd.func22, Tryd.ntmps22
    go_wp2_with fail
    go_ret
    exact ⟨rfl, ev, [], K, by rw [List.append_nil]; exact HH.out, rfl, Stp.refl _ _⟩
  | cons x d =>
    obtain ⟨D, hD⟩ : ∃ D, D = x :: d := ⟨_, rfl⟩
    have hDe : D.isEmpty = false := by rw [hD]; rfl
    have hDn : (D == []) = false := by rw [hD]; rfl
    have hDD : D ≠ [] := by rw [hD]; simp
    rw [← hD] at hd ⊢
    clear hD
    cases f with
    | nil =>
      have e1 : writeB F [] D = true := by simp [writeB]
      have e2 : writeF F [] D = F := by simp [writeF]
      have e3 : writeE F [] D = [⟨3, 0, [], D, []⟩] := by simp [writeE, hDe, e1]
      rw [e1, e2, e3]
      clear e1 e2 e3
      go_enter Tryd.func22, Tryd.ntmps22
      go_wp2_with fail
      refine (note_any ⟨3, 0, [], D, []⟩ (.slice none 0 0) HH.out hX (Tx.nil _) (Nat.zero_lt_succ _)).mono ?_
      rintro e w2 ⟨rfl, ev', lv', K', k1, k2⟩
      go_wp2_with fail
      go_ret
      exact ⟨rfl, ev', [(_, lv')], K', k1, rfl, k2⟩
    | cons y f =>
      obtain ⟨G, hG⟩ : ∃ G, G = y :: f := ⟨_, rfl⟩
      have hGe : G.isEmpty = false := by rw [hG]; rfl
      have hGn : (G == []) = false := by rw [hG]; rfl
      have hGG : G ≠ [] := by rw [hG]; simp
      rw [← hG] at hf hdat hlk ⊢
      clear hG
      by_cases hbig : D.length + (datF F G).length ≤ 16384
      · have e1 : writeB F G D = true := by simp [writeB, hDe, hGe, hbig]
        have e2 : writeF F G D = putF F G (datF F G ++ D) := by simp [writeF, hDe, hGe, e1]
        have e3 : writeE F G D = [⟨3, 0, G, D, []⟩] := by simp [writeE, hDe, e1]
        rw [e1, e2, e3]
        clear e1 e2 e3
        have hle : ¬ (D.length : Int) > 16384 - ((datF F G).length : Int) := by omega
        go_enter Tryd.func22, Tryd.ntmps22
        go_wp2_with fail
        rw [bytes_app]
        refine (keep_any G (datF F G ++ D) hf HH.out HF.out).mono ?_
        rintro e w2 ⟨rfl, k1, k2⟩
        go_wp2_with fail
        refine (note_any ⟨3, 0, G, D, []⟩ (.slice none 0 0) k1 hX (Tx.nil _) (Nat.zero_lt_succ _)).mono ?_
        rintro e w3 ⟨rfl, ev', lv', K', k3, k4⟩
        go_wp2_with fail
        go_ret
        exact ⟨rfl, ev', [(_, lv')], K', k3, rfl, k2.trans k4⟩
      · have e1 : writeB F G D = false := by simp [writeB, hDe, hGe, hbig]
        have e2 : writeF F G D = F := by simp [writeF, e1]
        have e3 : writeE F G D = [] := by simp [writeE, e1]
        rw [e1, e2, e3]
        clear e1 e2 e3
        have hle : (D.length : Int) > 16384 - ((datF F G).length : Int) := by omega
        go_enter Tryd.func22, Tryd.ntmps22
        go_wp2_with fail
        go_ret
        exact ⟨rfl, ev, [], K, by rw [List.append_nil]; exact HH.out, rfl, Stp.refl _ _⟩
end Go.Proofs.YthhghkjgffcpeaaDoor
