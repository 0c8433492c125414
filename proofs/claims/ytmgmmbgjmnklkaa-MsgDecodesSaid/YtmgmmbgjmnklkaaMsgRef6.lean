/-
  The reference's bytes of lists of letters. A walk; no statement.
-/
import Derived.Test.YtmgmmbgjmnklkaaMsgRef2
namespace Go.Proofs.Ytmgmmbgjmnklkaa
set_option maxRecDepth 100000
open Go.RowKit
open Pk
set_option linter.unusedVariables false

/-- an answer of bytes or ErrFull -/
def encX (r : Option (List UInt8)) : Nat × List UInt8 := match r with
  | none => (13, [])
  | some b => (0, b)
theorem lt_enc {l : Lt} (h : l.ok = true) : l.encode = encX l.pack := by
  unfold Lt.encode encX
  rw [if_neg (by rw [h]; decide)]
  cases l.pack <;> rfl
set_option maxHeartbeats 1600000 in
theorem refPacks_any (A : Option Addr) (c : Nat) (ls : List Lt) (F : Nat → Prop) (w : World) (h : RdS RLt F w A c ls) (hok : ls.length ≤ 64 ∧ ∀ l ∈ ls, l.ok = true) :
    Calls Try.prog 42 #[.slice A ls.length c] w (EncP (encX (ltsPack ls)) w) := by
  obtain ⟨i0, hi, hz0, hz1, hz2⟩ := info_parts info_bytes
  have HR := Lib.hid h
  have HOK := Lib.hid hok.2
  have hn := hok.1
  have HE := Lib.hid (OwnRs.empty w)
  clear h hok
  go_enter Try.func42, Try.ntmps42
  go_wp2_with fail
  go_loopw [4, 5] (fun s i wr => ∃ (A' : Option Addr) (n' c' k : Nat) (acc : List (List UInt8)), k ≤ ls.length ∧ s = .slice A' n' c' ∧ i = .int .i64 k ∧ OwnRs wr w.heap.size A' n' c' acc ∧ allX Lt.pack (ls.take k) = some acc ∧ Below w.heap.size w wr) (fun _ i _ => ls.length - (intOf i).toNat)
  case atStart => exact ⟨_, 0, 0, 0, [], by omega, rfl, rfl, HE.out, rfl, (Below.refl _ _).alloc (Nat.le_refl _) _⟩
  case round =>
    obtain ⟨A', n', c', k, acc, hk, rfl, rfl, ho, ha, hb⟩ := hrel
    have hal := allX_len ha
    have hol := ho.1
    rw [List.length_take] at hal
    obtain rfl : n' = k := by omega
    by_cases hlt : n' < ls.length
    · obtain ⟨l, hl⟩ : ∃ l, ls[n']? = some l := ⟨_, List.getElem?_eq_getElem hlt⟩
      obtain ⟨x, B, d, C, q, rfl, hxb, c0, c1, c2, c3, c4, hr⟩ := (HR.out.below hb).lt5 hl
      have hmem : l ∈ ls := by obtain ⟨hh, rfl⟩ := List.getElem?_eq_some_iff.1 hl; exact List.getElem_mem hh
      have HSN := Lib.hid (show ls.take (n' + 1) = ls.take n' ++ [l] by obtain ⟨hh, rfl⟩ := List.getElem?_eq_some_iff.1 hl; exact List.take_succ_eq_append_getElem hh)
      have HM := Lib.hid hmem
      have HB1 := Lib.hid hb
      have HO1 := Lib.hid ho
      have HA := Lib.hid ha
      have HC := Lib.hid (refPackLetter_any l B d C q F _ hr)
      have HEN := Lib.hid (lt_enc (HOK.out l hmem))
      have y1 : (0 : Int) ≤ (n' : Int) := by omega
      have y2 : (n' : Int) < (ls.length : Int) := by omega
      clear hl hb hr ho ha hmem hal hol hxb
      go_wp2_with fail
      refine HC.out.mono ?_
      rw [HEN.out]
      rintro e w1 ⟨hb1, A1, n1, c1, rfl, ho1⟩
      cases hbk : l.pack with
      | none =>
        have HB2 := Lib.hid (below_next HB1.out hb1 HB1.out.size)
        have HF := Lib.hid (show encX (ltsPack ls) = (13, []) by
          show encX (packList Lt.pack ls) = _
          unfold packList
          rw [allX_none HM.out hbk]
          rfl)
        clear hb1 ho1 hbk
        simp only [encX]
        go_wp2_with fail
        go_ret2
        exact ⟨HB2.out, none, 0, 0, by rw [HF.out]; rfl, by rw [HF.out]; exact OwnB.nil_ _ _⟩
      | some b =>
        have ho1 : OwnB w1 wr.heap.size A1 n1 c1 b := by rw [hbk] at ho1; exact ho1
        have hn1 : b.length = n1 := OwnB.len ho1
        subst hn1
        have HB2 := Lib.hid (below_next HB1.out hb1 HB1.out.size)
        have hs2 := HB2.out.size
        have hs1 := HB1.out.size
        obtain ⟨hl0, us, hou, hin⟩ := HO1.out.below hb1
        have HL := Lib.hid hl0
        have HIN := Lib.hid hin
        have HBK := Lib.hid hbk
        have HOB := Lib.hid (own_base ho1 hs1)
        clear hl0 hin hb1 hbk ho1
        simp only [encX]
        go_wp2_with (at_builtin
                     refine wpList_append_rd _ rfl _ _ 44 rfl w.heap.size 22 i0 _ 24 Try.underlying44 hi hz0 hz1 hz2 rfl A' n' c' us rfl (World.ownsRow.alloc hou _) (some ⟨w1.heap.size, 0, none⟩) 1 1 [.slice A1 b.length c1] rfl
                       (Rd.new w1 [Value.slice A1 b.length c1] 22) (by simp [Value.oneCell']) (by simp only [maxLen]; omega) (by omega) (by simp; omega) ?_
                     intro A2 c2 w2 hown2 hg2 hrow2)
        go_roundw
        case rel =>
          refine ⟨A2, n' + 1, c2, n' + 1, acc ++ [b], by omega, rfl, by go_num, ?_, by rw [HSN.out]; exact allX_snoc HA.out HBK.out, ?_⟩
          · exact OwnRs.push (w := w1.alloc (.cells #[.slice A1 b.length c1] 22)) HL.out (World.ownsRow.alloc hou _) (fun k u l hu hl => by
              obtain ⟨A3, c3, e3, h3⟩ := HIN.out k u l hu hl
              exact ⟨A3, c3, e3, h3.alloc _⟩) (HOB.out.alloc _) hg2 hown2
          · have b2 := HB2.out.alloc HB2.out.size (.cells #[.slice A1 b.length c1] 22)
            exact b2.grown hg2 b2.size (fun g hg => (World.ownsRow.lt hou g hg).1)
        case measure => simp [intOf]; omega
    · have e : ls.take n' = ls := List.take_of_length_le (by omega)
      rw [e] at ha
      have HP := Lib.hid (show ltsPack ls = joinX acc by show packList Lt.pack ls = _; unfold packList; rw [ha])
      have HT := Lib.hid (show total acc ≤ 68719476736 by
        have h1 := total_bound (N := 196635) (fun b hb => by obtain ⟨x, _, hx⟩ := allX_mem ha b hb; exact lt_pack_len hx)
        have h2 := allX_len ha
        omega)
      have HB := Lib.hid hb
      have HRR := Lib.hid ho.rd
      clear e ha hb ho hal hol
      go_wp2_with fail
      refine (refJoinX_any _ _ _ _ _ HRR.out HT.out).mono ?_
      rw [← HP.out]
      rintro e w1 ⟨hb1, ⟨b, hbk, A1, n1, c1, rfl, ho1⟩ | ⟨hbk, rfl⟩⟩
      · have HB2 := Lib.hid (below_next HB.out hb1 HB.out.size)
        have HBK := Lib.hid hbk
        have HO := Lib.hid (ho1.more HB.out.size)
        clear hb1 hbk ho1
        go_wp2_with fail
        go_ret2
        exact ⟨HB2.out, A1, n1, c1, by rw [HBK.out]; rfl, by rw [HBK.out]; exact HO.out⟩
      · have HB2 := Lib.hid (below_next HB.out hb1 HB.out.size)
        have HBK := Lib.hid hbk
        clear hb1 hbk
        go_wp2_with fail
        go_ret2
        exact ⟨HB2.out, none, 0, 0, by rw [HBK.out]; rfl, by rw [HBK.out]; exact OwnB.nil_ _ _⟩
end Go.Proofs.Ytmgmmbgjmnklkaa
