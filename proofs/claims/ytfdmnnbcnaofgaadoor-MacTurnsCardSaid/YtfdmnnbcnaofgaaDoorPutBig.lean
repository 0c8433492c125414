import Derived.Test.YtfdmnnbcnaofgaaDoorWrite
import Derived.Lib.SliceRun
namespace Go.Proofs.YtfdmnnbcnaofgaaDoor
set_option linter.unusedVariables false
open Go.RowKit
open Sh

theorem big_cons (t v : Nat) : big (t + 1) v = UInt8.ofNat (v / 256 ^ t) :: big t v := by
  induction t generalizing v with
  | zero => simp [big]
  | succ t ih =>
    rw [show big (t + 1 + 1) v = big (t + 1) (v / 256) ++ [UInt8.ofNat v] from rfl, ih (v / 256), show big (t + 1) v = big t (v / 256) ++ [UInt8.ofNat v] from rfl, Nat.div_div_eq_div_mul, Nat.pow_succ, Nat.mul_comm (256 ^ t) 256]
    rfl
theorem byte_low (x : Nat) : bv (UInt8.ofNat x) = .int .u8 ((x : Int) % 256) := by
  unfold bv
  congr 1

def PutBig (g : Nat) (t : TypeId) (cs : List Value) (w : World) (e : Ending) (w' : World) : Prop := e = .returned (.tuple #[]) ∧ Bk w' g t cs ∧ w.grownBy w' (some g)

/-- the row with the lowest bytes of v laid in, t of them -/
def layBig (cs : List Value) (o k t v : Nat) : List Value := cs.take (o + (k - t)) ++ (big t v).map bv ++ cs.drop (o + k)
theorem layBig_0 (cs : List Value) (o k v : Nat) (h : o + k ≤ cs.length) : layBig cs o k 0 v = cs := by simp [layBig, big]
theorem layBig_len (cs : List Value) (o k t v : Nat) (h : o + k ≤ cs.length) (ht : t ≤ k) : (layBig cs o k t v).length = cs.length := by
  simp only [layBig, List.length_append, List.length_take, List.length_drop, List.length_map, big_len]; omega
theorem layBig_set (cs : List Value) (o k t v : Nat) (h : o + k ≤ cs.length) (ht : t < k) : (layBig cs o k t v).set (o + (k - (t + 1))) (bv (UInt8.ofNat (v / 256 ^ t))) = layBig cs o k (t + 1) v := by
  unfold layBig
  have e1 : cs.take (o + (k - t)) = cs.take (o + (k - (t + 1))) ++ [cs[o + (k - (t + 1))]'(by omega)] := by
    rw [show o + (k - t) = o + (k - (t + 1)) + 1 by omega, List.take_succ_eq_append_getElem]
  rw [e1, big_cons, List.append_assoc, List.append_assoc, List.set_append_right _ _ (by rw [List.length_take]; omega)]
  rw [show o + (k - (t + 1)) - (cs.take (o + (k - (t + 1)))).length = 0 by rw [List.length_take]; omega]
  simp

set_option maxHeartbeats 1000000 in
set_option maxRecDepth 100000 in
theorem putBig_any (g o k c : Nat) (t : TypeId) (cs : List Value) (v : Nat) (w : World) (h : Bk w g t cs) (hl : o + k ≤ cs.length) (hk : k ≤ 64) (hv : v < 18446744073709551616) :
    Calls Tryd.prog 62 #[.slice (some ⟨g, o, none⟩) k c, .int .u64 (v : Int)] w (PutBig g t (layBig cs o k k v) w) := by
  have HB := Lib.hid h
  have HL := Lib.hid hl
  have HV := Lib.hid hv
  clear h hl hv
  go_enter Tryd.func62, Tryd.ntmps62
  go_wp2_with fail
  go_loopw [1, 4] (fun x i wr => ∃ j : Nat, j ≤ k ∧ i = .int .i64 ((j : Int) - 1) ∧ x = .int .u64 ((v / 256 ^ (k - j) : Nat) : Int) ∧ Bk wr g t (layBig cs o k (k - j) v) ∧ w.grownBy wr (some g)) (fun _ i _ => (intOf i + 1).toNat)
  case atStart => exact ⟨k, Nat.le_refl _, rfl, by simp, by rw [Nat.sub_self, layBig_0 _ _ _ _ HL.out]; exact HB.out, grown_refl _ _⟩
  case round =>
    obtain ⟨j, hj, rfl, rfl, hb, hg⟩ := hrel
    by_cases hlt : 0 < j
    · have HX := Lib.hid (show v / 256 ^ (k - j) / 256 = v / 256 ^ (k - (j - 1)) by
        rw [Nat.div_div_eq_div_mul, ← Nat.pow_succ]; congr 2; omega)
      have hcl : (layBig cs o k (k - j) v).length = cs.length := layBig_len _ _ _ _ _ HL.out (by omega)
      have hat : o + (j - 1) < (layBig cs o k (k - j) v).length := by rw [hcl]; have := HL.out; omega
      obtain ⟨old, hold⟩ : ∃ old, (layBig cs o k (k - j) v)[o + (j - 1)]? = some old := ⟨_, List.getElem?_eq_getElem hat⟩
      have hc : wr.cell? ⟨g, o + (j - 1), none⟩ = some old := hb.at_ hold
      have hf := hb.frozen (o + (j - 1))
      have hset := layBig_set cs o k (k - j) v HL.out (by omega)
      rw [show k - (k - j + 1) = j - 1 by omega, show k - j + 1 = k - (j - 1) by omega] at hset
      have HS := Lib.hid hset
      have HB2 := Lib.hid hb
      have HG2 := Lib.hid hg
      have hx64 : v / 256 ^ (k - j) < 18446744073709551616 := Nat.lt_of_le_of_lt (Nat.div_le_self _ _) HV.out
      clear hset hb hg hold hat hcl
      generalize v / 256 ^ (k - j) = x at HX HS hx64 ⊢
      go_wp2_with fail
      refine ⟨⟨j - 1, by omega, ?_, ?_, ?_, grown_set HG2.out _ _⟩, ?_⟩
      · congr 1; omega
      · rw [← HX.out]; simp
      · have e := HB2.out.set (o + (j - 1)) (bv (UInt8.ofNat x))
        rw [HS.out, byte_low] at e
        exact e
      · simp [intOf]; omega
    · have e0 : j = 0 := by omega
      subst e0
      go_wp2_with fail
      refine bodyPost_end (results_none rfl _ _ _) rfl ?_
      exact ⟨rfl, hb, hg⟩
end Go.Proofs.YtfdmnnbcnaofgaaDoor
