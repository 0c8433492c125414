import Derived.Test.YtfdmnnbcnaofgaaDoorHex
import Derived.Test.YtfdmnnbcnaofgaaDoorShelf
import Derived.Laws.BitsAllLaws
namespace Go.Proofs.YtfdmnnbcnaofgaaDoor
open Go.RowKit
set_option linter.unusedVariables false

def digs : List UInt8 := [48, 49, 50, 51, 52, 53, 54, 55, 56, 57, 97, 98, 99, 100, 101, 102]
def dig (i : Nat) : UInt8 := digs.getD i 0
/-- bytes in digits -/
def hexL (l : List UInt8) : List UInt8 := l.flatMap fun c => [dig (c.toNat / 16), dig (c.toNat % 16)]
theorem hexL_snoc (l : List UInt8) (c : UInt8) : hexL (l ++ [c]) = hexL l ++ [dig (c.toNat / 16)] ++ [dig (c.toNat % 16)] := by simp [hexL]
theorem hexL_len (l : List UInt8) : (hexL l).length = 2 * l.length := by
  induction l with
  | nil => rfl
  | cons c r ih => simp only [hexL, List.flatMap_cons, List.length_append, List.length_cons, List.length_nil] at ih ⊢; omega
theorem dig_index (i : Nat) (h : i < 16) (w : World) : (Instr.index 9 (.string ⟨#[48, 49, 50, 51, 52, 53, 54, 55, 56, 57, 97, 98, 99, 100, 101, 102]⟩) (.int .u8 (i : Int))).run Tryd.prog w = .ok (.int .u8 ((dig i).toNat : Int)) w := by
  have hs : (⟨#[48, 49, 50, 51, 52, 53, 54, 55, 56, 57, 97, 98, 99, 100, 101, 102]⟩ : ByteArray)[i]? = some (dig i) := by
    have h2 : i = 0 ∨ i = 1 ∨ i = 2 ∨ i = 3 ∨ i = 4 ∨ i = 5 ∨ i = 6 ∨ i = 7 ∨ i = 8 ∨ i = 9 ∨ i = 10 ∨ i = 11 ∨ i = 12 ∨ i = 13 ∨ i = 14 ∨ i = 15 := by omega
    rcases h2 with rfl | rfl | rfl | rfl | rfl | rfl | rfl | rfl | rfl | rfl | rfl | rfl | rfl | rfl | rfl | rfl <;> rfl
  simp only [Instr.index, asIntOf, Sem.run_bind, Sem.run_pure, Result.andThen_ok, run_underlying Tryd.underlying9]
  rw [if_pos (by omega), Int.toNat_natCast, hs]
  rfl
theorem dig_get (i : Nat) (h : i < (⟨#[48, 49, 50, 51, 52, 53, 54, 55, 56, 57, 97, 98, 99, 100, 101, 102]⟩ : ByteArray).size) : (⟨#[48, 49, 50, 51, 52, 53, 54, 55, 56, 57, 97, 98, 99, 100, 101, 102]⟩ : ByteArray)[i]'h = dig i := by
  have h16 : i < 16 := h
  have h2 : i = 0 ∨ i = 1 ∨ i = 2 ∨ i = 3 ∨ i = 4 ∨ i = 5 ∨ i = 6 ∨ i = 7 ∨ i = 8 ∨ i = 9 ∨ i = 10 ∨ i = 11 ∨ i = 12 ∨ i = 13 ∨ i = 14 ∨ i = 15 := by omega
  rcases h2 with rfl | rfl | rfl | rfl | rfl | rfl | rfl | rfl | rfl | rfl | rfl | rfl | rfl | rfl | rfl | rfl <;> rfl
theorem and15 (c : UInt8) : bits .and .u8 (c.toNat : Int) 15 = ((c.toNat % 16 : Nat) : Int) := by
  rw [show (15 : Int) = ((15 : Nat) : Int) from rfl, u8_and_nat _ _ (u8_lt c) (by decide), nat_mask4]

def HexPost (l : List UInt8) (w : World) (e : Ending) (w' : World) : Prop := e = .returned (.string ⟨(hexL l).toArray⟩) ∧ Below w.heap.size w w'

set_option maxHeartbeats 1000000 in
set_option maxRecDepth 100000 in
theorem hex_any (A : Option Addr) (n c : Nat) (l : List UInt8) (w : World) (h : Rd w A n (l.map bv)) (hn : n ≤ 274877906944) :
    Calls Tryd.prog 29 #[.slice A n c] w (HexPost l w) := by
  have hx : l.length = n := by simpa using h.1
  have HR := Lib.hid h
  have HX := Lib.hid hx
  clear h hx
  go_enter Tryd.func29, Tryd.ntmps29
  go_wp2_with fail
  have HG : Calls Tryd.prog 46 #[.pointer (some ⟨w.heap.size, 0, none⟩), .int .i64 (2 * (n : Int))] (w.alloc (.cells #[.pointer none, .slice none 0 0] 63))
      (fun e w' => e = .returned (.tuple #[]) ∧ (Lib.BuilderAt 63 5 w.heap.size w.heap.size (.pointer (some ⟨w.heap.size, 0, none⟩)) [] w' ∧ Below w.heap.size (w.alloc (.cells #[.pointer none, .slice none 0 0] 63)) w')) := by
    have e := Tryd.Builder_Grow_fresh w.heap.size w.heap.size (2 * n) (w.alloc (.cells #[.pointer none, .slice none 0 0] 63)) (Nat.le_refl _) (heap_alloc_new w _) (by simp) (by omega)
    rw [show ((2 * n : Nat) : Int) = 2 * (n : Int) by omega] at e
    exact e
  refine HG.mono ?_
  rintro e w1 ⟨rfl, hbd, hb1⟩
  have HB1 := Lib.hid (show Bld w1 w.heap.size w.heap.size (hexL (l.take 0)) from hbd)
  have HL1 := Lib.hid (((Below.refl w.heap.size w).alloc (Nat.le_refl _) (.cells #[.pointer none, .slice none 0 0] 63)).trans hb1)
  clear HG hbd hb1
  go_wp2_with fail
  go_loopw [12] (fun i wr => ∃ k : Nat, k ≤ n ∧ i = .int .i64 k ∧ Bld wr w.heap.size w.heap.size (hexL (l.take k)) ∧ Below w.heap.size w wr) (fun i _ => n - (intOf i).toNat)
  case atStart => exact ⟨0, by omega, rfl, HB1.out, HL1.out⟩
  case round =>
    obtain ⟨k, hk, rfl, hbd, hb⟩ := hrel
    by_cases hlt : k < n
    · obtain ⟨a, rfl, _, hc⟩ := (HR.out.below hb).at_ hlt
      have hkl : k < l.length := by rw [HX.out]; exact hlt
      have HN := Lib.hid (show hexL (l.take (k + 1)) = hexL (l.take k) ++ [dig ((l.getD k 0).toNat / 16)] ++ [dig ((l.getD k 0).toNat % 16)] by rw [take_snocD l 0 k hkl, hexL_snoc])
      have hc2 : wr.cell? (a.add k) = some (.int .u8 ((l.getD k 0).toNat : Int)) := by rw [hc]; simp [bv, hkl]
      have HLN := Lib.hid (show (hexL (l.take k)).length ≤ 549755813888 by rw [hexL_len, List.length_take]; omega)
      generalize l.getD k 0 = x at hc2 HN
      have hx := u8_lt x
      have e1 : (0 : Int) ≤ (k : Int) := by omega
      have e2 : (k : Int) < (n : Int) := by omega
      have h15 := and15 x
      have hd : ((x.toNat : Int) / 16) = ((x.toNat / 16 : Nat) : Int) := by omega
      have d1 := dig_index (x.toNat / 16) (by omega)
      have d2 := dig_index (x.toNat % 16) (by omega)
      rw [← hd] at d1
      rw [← h15] at d2
      have W1 := Lib.hid (writeByte_any w.heap.size w.heap.size (hexL (l.take k)) (dig (x.toNat / 16)) wr hbd hb.size (by have := HLN.out; omega))
      have HB := Lib.hid hb
      have e15 : bits .and .u8 (x.toNat : Int) 15 = bits .and .u8 (x.toNat : Int) 15 := rfl
      clear hc hbd hb h15 hd e15
      go_wp2_with fail
      try simp only [dig_get]
      refine W1.out.mono ?_
      rintro e w2 ⟨⟨v2, rfl⟩, hbd2, hb2⟩
      have HB2 := Lib.hid (HB.out.trans hb2)
      have W2 := Lib.hid (writeByte_any w.heap.size w.heap.size (hexL (l.take k) ++ [dig (x.toNat / 16)]) (dig (x.toNat % 16)) w2 hbd2 (HB.out.trans hb2).size (by have := HLN.out; simp only [List.length_append, List.length_cons, List.length_nil]; omega))
      clear hbd2 hb2
      go_wp2_with fail
      simp only [dig_get]
      refine W2.out.mono ?_
      rintro e w3 ⟨⟨v3, rfl⟩, hbd3, hb3⟩
      have HB3 := Lib.hid (HB2.out.trans hb3)
      have HD3 := Lib.hid hbd3
      clear hbd3 hb3
      go_wp2_with fail
      refine ⟨⟨k + 1, by omega, by go_num, by rw [HN.out]; exact HD3.out, HB3.out⟩, by simp [intOf]; omega⟩
    · have ek : k = n := by omega
      have hall : l.take k = l := List.take_of_length_le (by rw [HX.out]; omega)
      rw [hall] at hbd
      have HS := Lib.hid (Tryd.Builder_String_any w.heap.size w.heap.size (hexL l) wr (.inr hbd) hb.size)
      have HB := Lib.hid hb
      clear hbd hb hall
      go_wp2_with fail
      refine HS.out.mono ?_
      rintro e w3 ⟨rfl, hb3⟩
      have HB3 := Lib.hid (HB.out.trans hb3)
      clear hb3
      go_wp2_with fail
      go_ret
      exact ⟨rfl, HB3.out⟩
end Go.Proofs.YtfdmnnbcnaofgaaDoor
