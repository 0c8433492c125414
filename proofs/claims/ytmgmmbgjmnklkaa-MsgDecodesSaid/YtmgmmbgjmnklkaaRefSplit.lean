import Derived.Test.YtmgmmbgjmnklkaaSplit
import Derived.Test.YtmgmmbgjmnklkaaMCut
namespace Go.Proofs.Ytmgmmbgjmnklkaa
set_option maxRecDepth 100000
open Go.RowKit
open Pk
set_option linter.unusedVariables false

/-- the slice's block is older than w, or one of bytes -/
def Apart (w wr : World) (A : Option Addr) : Prop := ∀ a, A = some a → a.block < w.heap.size ∨ ∃ cur fr, wr.heap[a.block]? = some (.cells cur 5 fr)
theorem Apart.below {w wr w' : World} {A : Option Addr} (h : Apart w wr A) (hb : Below wr.heap.size wr w') : Apart w w' A := by
  intro a ha
  rcases h a ha with h1 | ⟨cur, fr, h1⟩
  · exact .inl h1
  · exact .inr ⟨cur, fr, by rw [hb.block _ (by rcases Nat.lt_or_ge a.block wr.heap.size with h2 | h2; exact h2; rw [Array.getElem?_eq_none h2] at h1; cases h1)]; exact h1⟩
theorem Apart.own {w wr : World} {b : Nat} {A : Option Addr} {n c : Nat} {l : List UInt8} (h : OwnB wr b A n c l) : Apart w wr A := by
  intro a ha
  right
  rcases h.2 with ⟨e1, _⟩ | ⟨g, cap, cur, e1, _, hg, _⟩
  · injection e1 with e2; rw [e2] at ha; cases ha
  · injection e1 with e2
    rw [e2] at ha
    injection ha with ha
    subst ha
    exact ⟨cur, _, hg⟩
theorem Apart.add {w wr : World} {A : Option Addr} (h : Apart w wr A) (k : Nat) : Apart w wr (A.map (·.add k)) := by
  intro a ha
  cases A with
  | none => cases ha
  | some b =>
    simp only [Option.map_some, Option.some.injEq] at ha
    subst ha
    have := h b rfl
    rwa [add_block]
theorem Apart.ne {w wr : World} {A : Option Addr} (h : Apart w wr A) {base : Nat} {B : Option Addr} {n c : Nat} {us : List Value} (ho : wr.ownsRow base 22 1 (.slice B n c) n us) (hbase : w.heap.size ≤ base) :
    ∀ a, A = some a → (Value.slice B n c).ownBlock ≠ some a.block := by
  intro a ha e
  have h1 := (World.ownsRow.lt ho _ e).1
  rcases ho.2 with ⟨e1, _⟩ | ⟨g, cap, cur, e1, _, hg, _⟩
  · rw [e1] at e; simp [Value.ownBlock] at e
  · rw [e1] at e
    simp only [Value.ownBlock, Option.some.injEq] at e
    rcases h a ha with h2 | ⟨cur', fr, h2⟩
    · omega
    · rw [← e, hg] at h2
      injection h2 with h2
      injection h2 with _ h3
      cases h3
theorem Apart.grown {w wr w' : World} {A : Option Addr} (h : Apart w wr A) {r : Option Nat} (hg : wr.grownBy w' r) (hne : ∀ a, A = some a → r ≠ some a.block) : Apart w w' A := by
  intro a ha
  rcases h a ha with h1 | ⟨cur, fr, h1⟩
  · exact .inl h1
  · exact .inr ⟨cur, fr, by rw [hg.block _ (by rcases Nat.lt_or_ge a.block wr.heap.size with h2 | h2; exact h2; rw [Array.getElem?_eq_none h2] at h1; cases h1) (fun e => hne a ha e.symm)]; exact h1⟩

/-- where the loop over the fields stands, the bytes being new ones -/
def RefSplitAt (l : List UInt8) (w : World) (b fs : Value) (acc : List (List UInt8)) (wr : World) : Prop :=
  ∃ (A0 : Option Addr) (n0 c0 : Nat) (l' : List UInt8) (A' : Option Addr) (n' c' f : Nat), b = .slice A0 n0 c0 ∧ Rd wr A0 n0 (l'.map bv) ∧ n0 ≤ c0 ∧ c0 ≤ maxLen ∧ n0 ≤ l.length ∧ l'.length < f ∧
    fs = .slice A' n' c' ∧ OwnRs wr w.heap.size A' n' c' acc ∧ n' ≤ 1024 ∧ glue acc (splitF f acc.length l') = splitN l ∧ Below w.heap.size w wr

set_option maxHeartbeats 3200000 in
set_option maxRecDepth 100000 in
theorem refSplit_any (A : Option Addr) (n c : Nat) (l : List UInt8) (w : World) (h : Rd w A n (l.map bv)) (hc : n ≤ c) (hm : c ≤ maxLen) (hn : n ≤ 1099511627776) :
    Calls Try.prog 49 #[.slice A n c] w (SplitPost l w) := by
  obtain ⟨i0, hi, hz0, hz1, hz2⟩ := info_parts info_bytes
  have hl : l.length = n := by simpa using h.1
  have HS := Lib.hid (split_start l)
  have HE := Lib.hid (OwnRs.empty w)
  go_enter Try.func49, Try.ntmps49
  go_wp2
  go_loopw [0, 4] (fun b s wr => ∃ acc, RefSplitAt l w b s acc wr) (fun b _ _ => match b with | .slice _ n _ => n | _ => 0)
  case atStart =>
    have hb := (Below.refl w.heap.size w).alloc (Nat.le_refl _) (.cells #[] 22)
    exact ⟨[], A, n, c, l, _, 0, 0, l.length + 1, rfl, h.below hb, hc, hm, by omega, by omega, rfl, HE.out, by omega, HS.out.symm, hb⟩
  case round =>
    obtain ⟨acc, A0, n0, c0, l', A', n', c', f, rfl, hr, hc0, hm0, hnl, hf, rfl, ho, hn', hg, hb⟩ := hrel
    have hl' : l'.length = n0 := by simpa using hr.1
    have hacc : acc.length = n' := ho.1
    obtain ⟨f, rfl⟩ : ∃ g, f = g + 1 := ⟨f - 1, by omega⟩
    clear h hc hm
    by_cases h0 : 0 < n0
    · have hne : l' ≠ [] := by rintro rfl; simp at hl'; omega
      by_cases hk : n' = 1024
      · have hres := Lib.hid (show splitN l = (13, []) by rw [← hg, glue_many hne (by omega)])
        have hk2 : ((n' : Int) == 1024) = true := by rw [beq_iff_eq]; omega
        clear hg hl hl' hacc hr
        go_wp2
        go_ret2
        exact split_bad (k := 13) hres (by decide) hb
      · have HC := Lib.hid (refRead_any A0 n0 c0 l' wr hr hc0 (by omega))
        have hk2 : ((n' : Int) == 1024) = false := by rw [beq_eq_false_iff_ne]; omega
        have hs := hb.size
        have HG := Lib.hid hg
        have HL := Lib.hid hl
        have HL2 := Lib.hid hl'
        have HA := Lib.hid hacc
        have HFE := Lib.hid (show fld l' = if (rdN l').2.2 ≠ 0 then ((rdN l').2.2, [], []) else if 65536 < (rdN l').1 then (13, [], []) else if (restN l').length < (rdN l').1 then (11, [], []) else (0, (restN l').take (rdN l').1, (restN l').drop (rdN l').1) by
          unfold fld restN
          by_cases hz : (rdN l').2.2 = 0
          · simp only [hz, if_true]
          · simp only [hz, ne_eq, not_false_eq_true, if_true])
        clear hg hl hl' hacc hr
        go_wp2_with fail
        refine HC.out.mono ?_
        rintro e w1 ⟨A1, n1, c1, rfl, ho1, hb1⟩
        have hs1 := hb1.size
        have hlt := rdN_lt l'
        have hcap := own_cap ho1
        have hln := OwnB.len ho1
        by_cases hz : (rdN l').2.2 = 0
        · rw [hz]
          have HZ := Lib.hid hz
          by_cases hsz : 65536 < (rdN l').1
          · have hfl : fld l' = (13, [], []) := by rw [HFE.out, if_neg (by omega), if_pos hsz]
            have hres := Lib.hid (show splitN l = (13, []) by rw [← HG.out, glue_bad hne (by have := HA.out; omega) (by rw [hfl]; simp), hfl])
            clear hz hln hfl HFE hne
            go_wp2_with fail
            go_ret2
            exact split_bad (k := 13) hres (by decide) (hb.trans (hb1.mono hs))
          · by_cases hsh : n1 < (rdN l').1
            · have hfl : fld l' = (11, [], []) := by rw [HFE.out, if_neg (by omega), if_neg hsz, if_pos (by omega)]
              have hres := Lib.hid (show splitN l = (11, []) by rw [← HG.out, glue_bad hne (by have := HA.out; omega) (by rw [hfl]; simp), hfl])
              clear hz hln hfl HFE hne
              go_wp2_with fail
              go_ret2
              exact split_bad (k := 11) hres (by decide) (hb.trans (hb1.mono hs))
            · have hfl : fld l' = (0, (restN l').take (rdN l').1, (restN l').drop (rdN l').1) := by rw [HFE.out, if_neg (by omega), if_neg hsz, if_neg (by omega)]
              have hz' : (fld l').1 = 0 := by rw [hfl]
              obtain ⟨q1, q2, q3⟩ := fld_ok hz'
              have hst := glue_step (f := f) (acc := acc) hne (show acc.length ≠ 1024 by have := HA.out; omega) hz'
              rw [hfl] at hst q3
              simp only at hst q3
              have HGL := Lib.hid (show glue (acc ++ [(restN l').take (rdN l').1]) (splitF f (acc ++ [(restN l').take (rdN l').1]).length ((restN l').drop (rdN l').1)) = splitN l by
                rw [← HG.out, hst]; simp)
              have HQ3 := Lib.hid q3
              have HRL := Lib.hid hln
              generalize (rdN l').1 = s at *
              generalize restN l' = r at *
              have e0 : (0 : Int) ≤ (s : Int) := by omega
              have e1 : (s : Int) ≤ (n1 : Int) := by omega
              have hcap1 := hcap.1
              have hcap2 : c1 ≤ 9223372036854775807 := by have := hcap.2; simp only [maxLen] at this; omega
              have e2 : (s : Int) ≤ (c1 : Int) := by omega
              have HFR := Lib.hid (show Rd w1 A1 s ((r.take s).map bv) by
                have := ho1.rd.front (k := s) (by omega)
                rwa [← List.map_take] at this)
              have HCUT := Lib.hid (show Rd w1 (if c1 = s then A1 else A1.map (·.add s)) (n1 - s) ((r.drop s).map bv) by
                have := ho1.rd.cut (k := s) (cap := c1) (by omega) hcap.1
                rwa [← List.map_drop] at this)
              have HTL := Lib.hid (show (r.take s).length = s by rw [List.length_take]; omega)
              have HDL := Lib.hid (show (r.drop s).length = n1 - s by rw [List.length_drop]; omega)
              have HAP := Lib.hid (Apart.own (w := w) ho1)
              have HF := Lib.hid hf
              clear hz hln hfl HFE hne q1 q2 q3 hst hz' hcap hlt hf
              go_wp2_with fail
              refine (copyBytes_any A1 s c1 (r.take s) w1 HFR.out (by omega)).mono ?_
              rintro e w2 ⟨A3, n3, c3, rfl, ho3, hb3⟩
              have hn3 : n3 = s := by have := OwnB.len ho3; have := HTL.out; omega
              subst hn3
              have hs3 := hb3.size
              have hb12 : Below wr.heap.size wr w2 := hb1.trans (hb3.mono hs1)
              obtain ⟨hl0, us, hou, hin⟩ := ho.below hb12
              have HIN := Lib.hid hin
              have HL0 := Lib.hid hl0
              clear hin hl0
              by_cases hcs : c1 = n3
              · have HCUT2 := Lib.hid (show Rd w1 A1 (n1 - n3) ((r.drop n3).map bv) by have := HCUT.out; rwa [if_pos hcs] at this)
                have HCAP := HAP
                clear HCUT
                go_wp2_with (at_builtin
                             refine wpList_append_rd _ rfl _ _ 44 rfl w.heap.size 22 i0 _ 24 Try.underlying44 hi hz0 hz1 hz2 rfl A' n' c' us rfl (World.ownsRow.alloc hou _) (some ⟨w2.heap.size, 0, none⟩) 1 1 [.slice A3 n3 c3] rfl
                               (Rd.new w2 [Value.slice A3 n3 c3] 22) (by simp [Value.oneCell']) (by simp only [maxLen]; omega) (by omega) (by simp; omega) ?_
                             intro A4 c4 w4 hown4 hg4 hrow4)
                have hpush : OwnRs w4 w.heap.size A4 (n' + 1) c4 (acc ++ [r.take n3]) :=
                  OwnRs.push (w := w2.alloc (.cells #[.slice A3 n3 c3] 22)) HL0.out (World.ownsRow.alloc hou _) (fun k u l hu hl => by
                    obtain ⟨A5, c5, e5, h5⟩ := HIN.out k u l hu hl
                    exact ⟨A5, c5, e5, h5.alloc _⟩) (show OwnB _ _ A3 (r.take n3).length c3 _ by rw [HTL.out]; exact (own_base ho3 (Nat.le_trans hs hs1)).alloc _) hg4 (by rw [HTL.out]; exact hown4)
                have b1 := hb.trans (hb12.mono hs)
                have b2 := b1.alloc b1.size (.cells #[.slice A3 n3 c3] 22)
                have b4 : Below w.heap.size w w4 := b2.grown hg4 b2.size (OwnRs.block ho)
                have hne4 := Apart.ne (HCAP.out.below (hb3.alloc hb3.size (.cells #[.slice A3 n3 c3] 22))) (World.ownsRow.alloc hou (.cells #[.slice A3 n3 c3] 22)) (Nat.le_refl _)
                have hrd4 := ((HCUT2.out.below hb3).alloc (.cells #[.slice A3 n3 c3] 22)).grown hg4 hne4
                go_roundw
                case rel => exact ⟨acc ++ [r.take n3], _, n1 - n3, 0, r.drop n3, A4, n' + 1, c4, f, rfl, hrd4, by omega, by simp only [maxLen]; omega, by have := HQ3.out; have := HDL.out; have := HL.out; have := HL2.out; omega, by have := HQ3.out; have := HDL.out; have := HF.out; omega, rfl, hpush, by omega, HGL.out, b4⟩
                case measure => show n1 - n3 < n0; have := HQ3.out; have := HDL.out; have := HL2.out; omega
              · have HCUT2 := Lib.hid (show Rd w1 (A1.map (·.add n3)) (n1 - n3) ((r.drop n3).map bv) by have := HCUT.out; rwa [if_neg hcs] at this)
                have HCAP := Lib.hid (HAP.out.add n3)
                clear HCUT
                go_wp2_with (at_builtin
                             refine wpList_append_rd _ rfl _ _ 44 rfl w.heap.size 22 i0 _ 24 Try.underlying44 hi hz0 hz1 hz2 rfl A' n' c' us rfl (World.ownsRow.alloc hou _) (some ⟨w2.heap.size, 0, none⟩) 1 1 [.slice A3 n3 c3] rfl
                               (Rd.new w2 [Value.slice A3 n3 c3] 22) (by simp [Value.oneCell']) (by simp only [maxLen]; omega) (by omega) (by simp; omega) ?_
                             intro A4 c4 w4 hown4 hg4 hrow4)
                have hpush : OwnRs w4 w.heap.size A4 (n' + 1) c4 (acc ++ [r.take n3]) :=
                  OwnRs.push (w := w2.alloc (.cells #[.slice A3 n3 c3] 22)) HL0.out (World.ownsRow.alloc hou _) (fun k u l hu hl => by
                    obtain ⟨A5, c5, e5, h5⟩ := HIN.out k u l hu hl
                    exact ⟨A5, c5, e5, h5.alloc _⟩) (show OwnB _ _ A3 (r.take n3).length c3 _ by rw [HTL.out]; exact (own_base ho3 (Nat.le_trans hs hs1)).alloc _) hg4 (by rw [HTL.out]; exact hown4)
                have b1 := hb.trans (hb12.mono hs)
                have b2 := b1.alloc b1.size (.cells #[.slice A3 n3 c3] 22)
                have b4 : Below w.heap.size w w4 := b2.grown hg4 b2.size (OwnRs.block ho)
                have hne4 := Apart.ne (HCAP.out.below (hb3.alloc hb3.size (.cells #[.slice A3 n3 c3] 22))) (World.ownsRow.alloc hou (.cells #[.slice A3 n3 c3] 22)) (Nat.le_refl _)
                have hrd4 := ((HCUT2.out.below hb3).alloc (.cells #[.slice A3 n3 c3] 22)).grown hg4 hne4
                go_roundw
                case rel => exact ⟨acc ++ [r.take n3], _, n1 - n3, c1 - n3, r.drop n3, A4, n' + 1, c4, f, rfl, hrd4, by omega, by simp only [maxLen]; omega, by have := HQ3.out; have := HDL.out; have := HL.out; have := HL2.out; omega, by have := HQ3.out; have := HDL.out; have := HF.out; omega, rfl, hpush, by omega, HGL.out, b4⟩
                case measure => show n1 - n3 < n0; have := HQ3.out; have := HDL.out; have := HL2.out; omega
        · have hfl : fld l' = ((rdN l').2.2, [], []) := by rw [HFE.out, if_pos hz]
          have hres := Lib.hid (show splitN l = ((rdN l').2.2, []) by rw [← HG.out, glue_bad hne (by have := HA.out; omega) (by rw [hfl]; exact hz), hfl])
          have hz2 : ((((rdN l').2.2 : Nat) : Int) != 0) = true := by rw [bne_iff_ne]; omega
          have HZ := Lib.hid hz
          clear hz hfl hne HFE hln
          go_wp2_with fail
          go_ret2
          exact split_bad hres HZ.out (hb.trans (hb1.mono hs))
    · have e0 : n0 = 0 := by omega
      subst e0
      have e1 : l' = [] := List.eq_nil_of_length_eq_zero hl'
      subst e1
      have HG := Lib.hid hg
      clear hg hl hl' hacc hr
      go_wp2
      go_ret2
      exact split_end HG.out ho hb
end Go.Proofs.Ytmgmmbgjmnklkaa
