import Derived.Test.YtfdmnnbcnaofgaaDoorOwn
import Derived.Test.YtfdmnnbcnaofgaaDoorPackPlain
namespace Go.Proofs.YtfdmnnbcnaofgaaDoor
open Go.RowKit
open Pk

/-- the row (A, n, c) of the call's own, or a new block -/
def RowOf (w : World) (r : Option Nat) (v : Value) : Prop := v.ownBlock = r ∨ ∃ g, v.ownBlock = some g ∧ w.heap.size ≤ g

/-- a slice that grew by bytes is what came back, beside no error -/
def Grew (base : Nat) (r : Option Nat) (l : List UInt8) (w : World) (e : Ending) (w' : World) : Prop :=
  ∃ A n c, e = .returned (.tuple #[.slice A n c, .int .i64 0]) ∧ OwnB w' base A n c l ∧ w.grownBy w' r ∧ RowOf w r (.slice A n c)
/-- nothing but an error came back -/
def Err2 (k : Int) (w : World) (e : Ending) (w' : World) : Prop := e = .returned (.tuple #[.slice none 0 0, .int .i64 k]) ∧ w = w'

theorem appendNum_low (A : Option Addr) (n c : Nat) (v : Int) (w : World) (hv : v < 0) :
    Calls Tryd.prog 56 #[.slice A n c, .int .i64 v] w (Err2 10 w) := by
  go_enter Tryd.func56, Tryd.ntmps56
  go_wp2
  go_ret2
  exact ⟨rfl, rfl⟩
theorem appendNum_high (A : Option Addr) (n c : Nat) (v : Int) (w : World) (hv : 4611686018427387904 ≤ v) :
    Calls Tryd.prog 56 #[.slice A n c, .int .i64 v] w (Err2 10 w) := by
  have h0 : ¬ v < 0 := by omega
  go_enter Tryd.func56, Tryd.ntmps56
  go_wp2
  go_ret2
  exact ⟨rfl, rfl⟩

theorem byte_more (u : Nat) : bv (UInt8.ofNat (u % 128 + 128)) = .int .u8 ((u : Int) % 128 + 128) := by
  unfold bv
  congr 1
  have : (UInt8.ofNat (u % 128 + 128)).toNat = u % 128 + 128 := by simp; omega
  rw [this]; omega

theorem byte_small {u : Nat} (h : u < 128) : bv (UInt8.ofNat u) = .int .u8 (u : Int) := by
  unfold bv
  congr 1
  have : (UInt8.ofNat u).toNat = u := by simp; omega
  rw [this]

set_option maxHeartbeats 800000 in
set_option maxRecDepth 100000 in
theorem appendNum_ok (A : Option Addr) (n c : Nat) (l : List UInt8) (base : Nat) (v : Nat) (w : World) (hv : v < 4611686018427387904) (hown : OwnB w base A n c l) (hn : n ≤ 1099511627776) (hbase : base ≤ w.heap.size) :
    Calls Tryd.prog 56 #[.slice A n c, .int .i64 v] w (Grew base (Value.slice A n c).ownBlock (l ++ encN v) w) := by
  obtain ⟨i0, hi, hz0, hz1, hz2⟩ := info_parts info_u8
  have h0 : ¬ (v : Int) < 0 := by omega
  have h1 : ¬ (4611686018427387904 : Int) ≤ v := by omega
  have hlen := encN_len9 hv
  go_enter Tryd.func56, Tryd.ntmps56
  go_wp2
  go_loopw [0, 1] (fun b u wr => ∃ (A' : Option Addr) (n' c' q : Nat) (l' : List UInt8), b = .slice A' n' c' ∧ u = .int .i64 q ∧ q < 4611686018427387904 ∧ OwnB wr base A' n' c' l' ∧ l' ++ encN q = l ++ encN v ∧
      w.grownBy wr (Value.slice A n c).ownBlock ∧ RowOf w (Value.slice A n c).ownBlock (.slice A' n' c')) (fun _ u _ => (intOf u).toNat)
  case atStart => exact ⟨A, n, c, v, l, rfl, rfl, hv, hown, rfl, grown_refl _ _, .inl rfl⟩
  case round =>
    obtain ⟨A', n', c', q, l', rfl, rfl, hq, ho, hll, hg, hrow⟩ := hrel
    have hnn : n' + (encN q).length = n + (encN v).length := by
      have e1 := congrArg List.length hll
      simp only [List.length_append] at e1
      have e2 := OwnB.len ho
      have e3 := OwnB.len hown
      omega
    have hqp := encN_pos q
    have hlt := OwnB.len ho
    by_cases hb : 128 ≤ q
    · have hsize := (World.grownBy.size hg)
      have HL := Lib.hid (show (l' ++ [UInt8.ofNat (q % 128 + 128)]) ++ encN (q / 128) = l ++ encN v by
        rw [← hll, encN_big hb]; simp)
      have HM := Lib.hid (show [Value.int .u8 ((q : Int) % 128 + 128)] = [UInt8.ofNat (q % 128 + 128)].map bv by rw [List.map_cons, byte_more]; rfl)
      have HV := Lib.hid hv
      have hn2 : n' ≤ 1099511627800 := by omega
      have HB := Lib.hid hn2
      clear hll hv h1 hnn hlt hlen hqp hn hn2
      go_wp2_with (at_builtin
                   refine wpList_append_rd _ rfl _ _ 22 rfl base 5 i0 _ 1 Tryd.underlying22 hi hz0 hz1 hz2 rfl A' n' c' (l'.map bv) rfl (World.ownsRow.alloc ho _) (some ⟨wr.heap.size, 0, none⟩) 1 1 [.int .u8 ((q : Int) % 128 + 128)] rfl
                     (Rd.new wr [Value.int .u8 ((q : Int) % 128 + 128)] 5) (by simp [Value.oneCell']) (by have := HB.out; simp only [maxLen]; omega) (by have := HB.out; omega) (by simp; omega) ?_
                   intro A2 c2 w2 hown2 hg2 hrow2)
      go_roundw
      case rel =>
        refine ⟨A2, n' + 1, c2, q / 128, l' ++ [UInt8.ofNat (q % 128 + 128)], rfl, by go_num, by omega, ?_, HL.out, grown_trans hg (grown_trans (World.grownBy_alloc wr _ _) hg2 (.inl rfl)) ?_, ?_⟩
        · unfold OwnB; rw [List.map_append, ← HM.out]; exact hown2
        · rcases hrow with e | ⟨g, e, hge⟩
          · exact .inl e
          · right; intro g' e'; rw [e] at e'; injection e' with e'; omega
        · rcases hrow2 with e | e
          · rcases hrow with e' | ⟨g, e', hge⟩
            · exact .inl (e.trans e')
            · exact .inr ⟨g, e.trans e', hge⟩
          · exact .inr ⟨_, e, by simp; omega⟩
      case measure => simp [intOf]; omega
    · have hsize := (World.grownBy.size hg)
      have HL := Lib.hid (show l' ++ [UInt8.ofNat q] = l ++ encN v by rw [← hll, encN_small (by omega)])
      have HM := Lib.hid (show [Value.int .u8 (q : Int)] = [UInt8.ofNat q].map bv by rw [List.map_cons, byte_small (by omega)]; rfl)
      have hn2 : n' ≤ 1099511627800 := by omega
      have HB := Lib.hid hn2
      clear hll hv h1 hnn hlt hlen hqp hn hn2
      go_wp2_with (at_builtin
                   refine wpList_append_rd _ rfl _ _ 22 rfl base 5 i0 _ 1 Tryd.underlying22 hi hz0 hz1 hz2 rfl A' n' c' (l'.map bv) rfl (World.ownsRow.alloc ho _) (some ⟨wr.heap.size, 0, none⟩) 1 1 [.int .u8 (q : Int)] rfl
                     (Rd.new wr [Value.int .u8 (q : Int)] 5) (by simp [Value.oneCell']) (by have := HB.out; simp only [maxLen]; omega) (by have := HB.out; omega) (by simp; omega) ?_
                   intro A2 c2 w2 hown2 hg2 hrow2)
      go_ret2
      refine ⟨A2, n' + 1, c2, rfl, ?_, grown_trans hg (grown_trans (World.grownBy_alloc wr _ _) hg2 (.inl rfl)) ?_, ?_⟩
      · unfold OwnB; rw [← HL.out, List.map_append, ← HM.out]; exact hown2
      · rcases hrow with e | ⟨g, e, hge⟩
        · exact .inl e
        · right; intro g' e'; rw [e] at e'; injection e' with e'; omega
      · rcases hrow2 with e | e
        · rcases hrow with e' | ⟨g, e', hge⟩
          · exact .inl (e.trans e')
          · exact .inr ⟨g, e.trans e', hge⟩
        · exact .inr ⟨_, e, by simp; omega⟩


/-- new bytes and no error: all else is as it was -/
def Fresh2 (base : Nat) (l : List UInt8) (w : World) (e : Ending) (w' : World) : Prop :=
  ∃ A n c, e = .returned (.tuple #[.slice A n c, .int .i64 0]) ∧ OwnB w' base A n c l ∧ Below w.heap.size w w'

end Go.Proofs.YtfdmnnbcnaofgaaDoor
