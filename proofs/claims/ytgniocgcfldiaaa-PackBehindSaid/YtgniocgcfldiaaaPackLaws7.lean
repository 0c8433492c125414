import Derived.Test.YtgniocgcfldiaaaPackLaws6
namespace Go.Proofs.Ytgniocgcfldiaaa
open Go.RowKit
open Pk
set_option linter.unusedVariables false

/-- rows of the call's own behind rows of the call's own -/
theorem OwnRs.append {w w' : World} {base b2 : Nat} {A : Option Addr} {n c : Nat} {ls ls2 : List (List UInt8)} {us us2 : List Value} {n2 : Nat} {A' : Option Addr} {c' : Nat}
    (hlen : ls.length = n) (ho : w.ownsRow base 22 1 (.slice A n c) n us)
    (hin : ∀ (k : Nat) (u : Value) (l : List UInt8), us[k]? = some u → ls[k]? = some l → ∃ A' c', u = .slice A' l.length c' ∧ OwnB w base A' l.length c' l)
    (hlen2 : ls2.length = n2) (hus2 : us2.length = n2) (hb : base ≤ b2)
    (hin2 : ∀ (k : Nat) (u : Value) (l : List UInt8), us2[k]? = some u → ls2[k]? = some l → ∃ A' c', u = .slice A' l.length c' ∧ OwnB w b2 A' l.length c' l)
    (hg : w.grownBy w' (Value.slice A n c).ownBlock) (ho' : w'.ownsRow base 22 1 (.slice A' (n + n2) c') (n + n2) (us ++ us2)) : OwnRs w' base A' (n + n2) c' (ls ++ ls2) := by
  have keep : ∀ {B : Option Addr} {d b : Nat} {l : List UInt8}, OwnB w b B l.length d l → OwnB w' b B l.length d l := by
    intro B d b l h
    exact World.ownsRow.kept h hg (rows_apart h ho (by decide))
  have hus : us.length = n := by simpa using ho.1
  refine ⟨by simp [hlen, hlen2], _, ho', fun k u x hu hx => ?_⟩
  rcases Nat.lt_or_ge k n with hk | hk
  · rw [List.getElem?_append_left (by omega)] at hu hx
    obtain ⟨A2, c2, e, h2⟩ := hin k u x hu hx
    exact ⟨A2, c2, e, keep h2⟩
  · rw [List.getElem?_append_right (by omega)] at hu hx
    rw [hus] at hu
    rw [hlen] at hx
    obtain ⟨A2, c2, e, h2⟩ := hin2 _ u x hu hx
    exact ⟨A2, c2, e, own_base (keep h2) hb⟩

theorem one_of_rows {us : List Value} {ls : List (List UInt8)} {w : World} {b : Nat} (hl : us.length = ls.length)
    (h : ∀ (k : Nat) (u : Value) (l : List UInt8), us[k]? = some u → ls[k]? = some l → ∃ A' c', u = .slice A' l.length c' ∧ OwnB w b A' l.length c' l) : ∀ u ∈ us, u.oneCell' = true := by
  intro u hu
  obtain ⟨k, hk, e⟩ := List.getElem_of_mem hu
  obtain ⟨A', c', e2, _⟩ := h k u (ls[k]'(by omega)) (by rw [← e]; exact List.getElem?_eq_getElem hk) (List.getElem?_eq_getElem (by omega))
  rw [e2]; rfl

theorem longField_append (a b : List (List UInt8)) : longField (a ++ b) = (longField a || longField b) := by unfold longField; exact List.any_append

theorem joinBad_append {a b : List (List UInt8)} (ha : joinBad a = false) (hb : joinBad b = false) (h : a.length + b.length ≤ 1024) : joinBad (a ++ b) = false := by
  unfold joinBad at *
  rw [Bool.or_eq_false_iff] at *
  refine ⟨by simp; omega, ?_⟩
  rw [longField_append, ha.2, hb.2]; rfl

/-- a list and an error number came back -/
def JoinAny (k : Int) (w : World) (e : Ending) (w' : World) : Prop :=
  Below w.heap.size w w' ∧ ∃ A n c, e = .returned (.tuple #[.slice A n c, .int .i64 k])
theorem join_kind (A : Option Addr) (n c : Nat) (ls : List (List UInt8)) (w : World) (h : RdRows w A n ls) (ht : total ls ≤ 68719476736) : Calls Try.prog 25 #[.slice A n c] w (JoinAny (if joinBad ls then 13 else 0) w) := by
  refine (join_any A n c ls w h ht).mono ?_
  rintro e w' ⟨hb, ⟨h0, rfl⟩ | ⟨h0, A', n', c', rfl, _⟩⟩
  · rw [h0]; exact ⟨hb, _, _, _, rfl⟩
  · rw [h0]; exact ⟨hb, _, _, _, rfl⟩

set_option maxHeartbeats 1600000 in
/-- the beginning: both lists are joined, and both are copied behind one another -/
theorem packBehind_many (w : World) (A B : Option Addr) (n c m d : Nat) (ls ms : List (List UInt8)) (h : RdRows w A n ls) (h' : RdRows w B m ms) (hn : n ≤ maxLen) (hm : m ≤ maxLen) (hsz : ∀ l ∈ ls, l.length ≤ 140737488355328) (hsz' : ∀ l ∈ ms, l.length ≤ 140737488355328)
    (hbig : 50000 < total ls ∨ 50000 < total ms) :
    Calls Try.prog 11 #[.slice A n c, .slice B m d] w (Tr w) := by
  have HR := Lib.hid h
  have HR' := Lib.hid h'
  have HROWS := Lib.hid (fun W hW => rows_any A n c ls 50000 W hW hn (by omega) hsz)
  have HROWS' := Lib.hid (fun W hW => rows_any B m d ms 50000 W hW hm (by omega) hsz')
  clear h h' hsz hsz' hn hm
  by_cases ht : 50000 < total ls
  · have hd := Lib.hid (show decide (50000 < total ls) = true by simp [ht])
    clear ht hbig
    go_enter Try.func11, Try.ntmps11
    go_wp2_with fail
    refine (aliveJoin_ok _).mono ?_
    rintro e w1 ⟨rfl, hb1⟩
    go_wp2_with fail
    refine (aliveSplit_ok _).mono ?_
    rintro e w2 ⟨rfl, hb2⟩
    go_wp2_with fail
    refine (HROWS.out w2 ((HR.out.below hb1).below hb2)).mono ?_
    rintro e w3 ⟨rfl, rfl⟩
    rw [hd.out]
    go_wp2_with fail
    go_ret
    exact ⟨rfl, hb1.trans (hb2.mono hb1.size)⟩
  · have hd := Lib.hid (show decide (50000 < total ls) = false by simp; omega)
    have hd' := Lib.hid (show decide (50000 < total ms) = true by simp; omega)
    clear ht hbig
    go_enter Try.func11, Try.ntmps11
    go_wp2_with fail
    refine (aliveJoin_ok _).mono ?_
    rintro e w1 ⟨rfl, hb1⟩
    go_wp2_with fail
    refine (aliveSplit_ok _).mono ?_
    rintro e w2 ⟨rfl, hb2⟩
    go_wp2_with fail
    refine (HROWS.out w2 ((HR.out.below hb1).below hb2)).mono ?_
    rintro e w3 ⟨rfl, rfl⟩
    rw [hd.out]
    go_wp2_with fail
    refine (HROWS'.out w2 ((HR'.out.below hb1).below hb2)).mono ?_
    rintro e w3 ⟨rfl, rfl⟩
    rw [hd'.out]
    go_wp2_with fail
    go_ret
    exact ⟨rfl, hb1.trans (hb2.mono hb1.size)⟩

set_option maxHeartbeats 3200000 in
set_option maxRecDepth 100000 in
theorem packBehind_few (w : World) (A B : Option Addr) (n c m d : Nat) (ls ms : List (List UInt8)) (h : RdRows w A n ls) (h' : RdRows w B m ms) (hn : n ≤ maxLen) (hm : m ≤ maxLen) (hsz : ∀ l ∈ ls, l.length ≤ 140737488355328) (hsz' : ∀ l ∈ ms, l.length ≤ 140737488355328)
    (ht : total ls ≤ 50000) (ht' : total ms ≤ 50000) :
    Calls Try.prog 11 #[.slice A n c, .slice B m d] w (Tr w) := by
  obtain ⟨i0, hi, hz0, hz1, hz2⟩ := info_parts info_bytes
  obtain ⟨i1, hj, hy0, hy1, hy2⟩ := info_parts info_u8
  have HR := Lib.hid h
  have HR' := Lib.hid h'
  have HROWS := Lib.hid (fun W hW => rows_any A n c ls 50000 W hW hn (by omega) hsz)
  have HROWS' := Lib.hid (fun W hW => rows_any B m d ms 50000 W hW hm (by omega) hsz')
  have hd := Lib.hid (show decide (50000 < total ls) = false by simp; omega)
  have hd' := Lib.hid (show decide (50000 < total ms) = false by simp; omega)
  have HT := Lib.hid ht
  have HT' := Lib.hid ht'
  have HN := Lib.hid (show n ≤ 50000 by have := total_len ls; have := h.1; omega)
  have HM := Lib.hid (show m ≤ 50000 by have := total_len ms; have := h'.1; omega)
  clear h h' hsz hsz' hn hm ht ht'
  by_cases h1 : joinBad ls = true ∧ joinBad ms = true
  · have HJ1 := Lib.hid (show (if joinBad ls = true then (13 : Int) else 0) = 13 by rw [if_pos h1.1])
    have HJ2 := Lib.hid (show (if joinBad ms = true then (13 : Int) else 0) = 13 by rw [if_pos h1.2])
    clear h1
    go_enter Try.func11, Try.ntmps11
    go_wp2_with fail
    refine (aliveJoin_ok _).mono ?_
    rintro e w1 ⟨rfl, hb1⟩
    go_wp2_with fail
    refine (aliveSplit_ok _).mono ?_
    rintro e w2 ⟨rfl, hb2⟩
    have HB2 := Lib.hid (hb1.trans (hb2.mono hb1.size))
    clear hb1 hb2
    go_wp2_with fail
    refine (HROWS.out w2 (HR.out.below HB2.out)).mono ?_
    rintro e w3 ⟨rfl, rfl⟩
    rw [hd.out]
    go_wp2_with fail
    refine (HROWS'.out w2 (HR'.out.below HB2.out)).mono ?_
    rintro e w3 ⟨rfl, rfl⟩
    rw [hd'.out]
    go_wp2_with fail
    refine (copyRows_any A n c ls w2 (HR.out.below HB2.out) (by have := HT.out; omega)).mono ?_
    rintro e w3 ⟨A3, n3, c3, rfl, ho3, hb3⟩
    have HB3 := Lib.hid (HB2.out.trans (hb3.mono HB2.out.size))
    clear hb3
    go_wp2_with fail
    refine (join_kind A3 n3 c3 ls w3 ho3.rd (by have := HT.out; omega)).mono ?_
    rintro e w4 ⟨hb, A4, n4, c4, rfl⟩
    rw [HJ1.out]
    have HB4 := Lib.hid (HB3.out.trans (hb.mono HB3.out.size))
    clear hb
    go_wp2_with fail
    refine (copyRows_any B m d ms w4 (HR'.out.below HB4.out) (by have := HT'.out; omega)).mono ?_
    rintro e w5 ⟨A5, n5, c5, rfl, ho5, hb5⟩
    have HB5 := Lib.hid (HB4.out.trans (hb5.mono HB4.out.size))
    have HB45 := Lib.hid hb5
    clear hb5
    go_wp2_with fail
    refine (join_kind A5 n5 c5 ms w5 ho5.rd (by have := HT'.out; omega)).mono ?_
    rintro e w6 ⟨hb, A6, n6, c6, rfl⟩
    rw [HJ2.out]
    have HB6 := Lib.hid (HB5.out.trans (hb.mono HB5.out.size))
    clear hb
    go_wp2_with fail
    refine (copyRows_any A n c ls w6 (HR.out.below HB6.out) (by have := HT.out; omega)).mono ?_
    rintro e w7 ⟨A7, n7, c7, rfl, ho7, hb7⟩
    have HB7 := Lib.hid (HB6.out.trans (hb7.mono HB6.out.size))
    go_wp2_with fail
    refine (copyRows_any B m d ms w7 (HR'.out.below HB7.out) (by have := HT'.out; omega)).mono ?_
    rintro e w8 ⟨A8, n8, c8, rfl, ho8, hb8⟩
    have HB8 := Lib.hid (HB7.out.trans (hb8.mono HB7.out.size))
    have HB68 := Lib.hid (hb7.trans (hb8.mono hb7.size))
    obtain ⟨hl7, us7, hu7, hin7⟩ := ho7.below hb8
    obtain ⟨hl8, us8, hu8, hin8⟩ := ho8
    have en7 : n7 = n := by have := HR.out.1; omega
    have en8 : n8 = m := by have := HR'.out.1; omega
    subst en7 en8
    have HU8 := Lib.hid (show us8.length = n8 by simpa using hu8.1)
    have H1 := Lib.hid (one_of_rows (by rw [HU8.out, hl8]) hin8)
    have hs := Nat.le_trans hb7.size hb8.size
    have hn50 := HN.out
    have hm50 := HM.out
    have HS7 := Lib.hid (show ∀ g, (Value.slice A7 n7 c7).ownBlock = some g → w.heap.size ≤ g from fun g e => Nat.le_trans HB6.out.size (World.ownsRow.lt hu7 g e).1)
    have HIN7 := Lib.hid hin7
    have HIN8 := Lib.hid hin8
    have HL7 := Lib.hid hl7
    have HL8 := Lib.hid hl8
    have HB67 := Lib.hid hb7.size
    clear hl7 hin7 hl8 hin8 hb7 hb8 ho7
    go_wp2_with (at_builtin
                 refine wpList_append_rd _ rfl (.tmp 39) (.tmp 41) 35 rfl w6.heap.size 22 i0 _ 24 Try.underlying35 hi hz0 hz1 hz2 rfl A7 n7 c7 us7 rfl hu7 A8 n8 c8 us8 rfl
                   (Rd.own hu8) H1.out (by simp only [maxLen]; omega) (by omega) hs ?_
                 intro A9 c9 w9 hown9 hg9 hrow9
                 have HB9 := Lib.hid (HB8.out.grown hg9 HB8.out.size HS7.out)
                 have HO9 := Lib.hid (OwnRs.append HL7.out hu7 HIN7.out HL8.out HU8.out HB67.out HIN8.out hg9 hown9)
                 have HG9 := Lib.hid hg9
                 have HW9 := Lib.hid (show ∀ g, (Value.slice A7 n7 c7).ownBlock = some g → w6.heap.size ≤ g from fun g e => (World.ownsRow.lt hu7 g e).1)
                 clear hown9 hg9 hrow9)
    go_ret
    exact ⟨rfl, HB9.out⟩
  by_cases h2 : joinBad ls = true
  · have HJ1 := Lib.hid (show (if joinBad ls = true then (13 : Int) else 0) = 13 by rw [if_pos h2])
    have HJ2 := Lib.hid (show (if joinBad ms = true then (13 : Int) else 0) = 0 by rw [if_neg (fun e => h1 ⟨h2, e⟩)])
    clear h1 h2
    go_enter Try.func11, Try.ntmps11
    go_wp2_with fail
    refine (aliveJoin_ok _).mono ?_
    rintro e w1 ⟨rfl, hb1⟩
    go_wp2_with fail
    refine (aliveSplit_ok _).mono ?_
    rintro e w2 ⟨rfl, hb2⟩
    have HB2 := Lib.hid (hb1.trans (hb2.mono hb1.size))
    clear hb1 hb2
    go_wp2_with fail
    refine (HROWS.out w2 (HR.out.below HB2.out)).mono ?_
    rintro e w3 ⟨rfl, rfl⟩
    rw [hd.out]
    go_wp2_with fail
    refine (HROWS'.out w2 (HR'.out.below HB2.out)).mono ?_
    rintro e w3 ⟨rfl, rfl⟩
    rw [hd'.out]
    go_wp2_with fail
    refine (copyRows_any A n c ls w2 (HR.out.below HB2.out) (by have := HT.out; omega)).mono ?_
    rintro e w3 ⟨A3, n3, c3, rfl, ho3, hb3⟩
    have HB3 := Lib.hid (HB2.out.trans (hb3.mono HB2.out.size))
    clear hb3
    go_wp2_with fail
    refine (join_kind A3 n3 c3 ls w3 ho3.rd (by have := HT.out; omega)).mono ?_
    rintro e w4 ⟨hb, A4, n4, c4, rfl⟩
    rw [HJ1.out]
    have HB4 := Lib.hid (HB3.out.trans (hb.mono HB3.out.size))
    clear hb
    go_wp2_with fail
    refine (copyRows_any B m d ms w4 (HR'.out.below HB4.out) (by have := HT'.out; omega)).mono ?_
    rintro e w5 ⟨A5, n5, c5, rfl, ho5, hb5⟩
    have HB5 := Lib.hid (HB4.out.trans (hb5.mono HB4.out.size))
    have HB45 := Lib.hid hb5
    clear hb5
    go_wp2_with fail
    refine (join_kind A5 n5 c5 ms w5 ho5.rd (by have := HT'.out; omega)).mono ?_
    rintro e w6 ⟨hb, A6, n6, c6, rfl⟩
    rw [HJ2.out]
    have HB6 := Lib.hid (HB5.out.trans (hb.mono HB5.out.size))
    clear hb
    go_wp2_with fail
    refine (copyRows_any A n c ls w6 (HR.out.below HB6.out) (by have := HT.out; omega)).mono ?_
    rintro e w7 ⟨A7, n7, c7, rfl, ho7, hb7⟩
    have HB7 := Lib.hid (HB6.out.trans (hb7.mono HB6.out.size))
    go_wp2_with fail
    refine (copyRows_any B m d ms w7 (HR'.out.below HB7.out) (by have := HT'.out; omega)).mono ?_
    rintro e w8 ⟨A8, n8, c8, rfl, ho8, hb8⟩
    have HB8 := Lib.hid (HB7.out.trans (hb8.mono HB7.out.size))
    have HB68 := Lib.hid (hb7.trans (hb8.mono hb7.size))
    obtain ⟨hl7, us7, hu7, hin7⟩ := ho7.below hb8
    obtain ⟨hl8, us8, hu8, hin8⟩ := ho8
    have en7 : n7 = n := by have := HR.out.1; omega
    have en8 : n8 = m := by have := HR'.out.1; omega
    subst en7 en8
    have HU8 := Lib.hid (show us8.length = n8 by simpa using hu8.1)
    have H1 := Lib.hid (one_of_rows (by rw [HU8.out, hl8]) hin8)
    have hs := Nat.le_trans hb7.size hb8.size
    have hn50 := HN.out
    have hm50 := HM.out
    have HS7 := Lib.hid (show ∀ g, (Value.slice A7 n7 c7).ownBlock = some g → w.heap.size ≤ g from fun g e => Nat.le_trans HB6.out.size (World.ownsRow.lt hu7 g e).1)
    have HIN7 := Lib.hid hin7
    have HIN8 := Lib.hid hin8
    have HL7 := Lib.hid hl7
    have HL8 := Lib.hid hl8
    have HB67 := Lib.hid hb7.size
    clear hl7 hin7 hl8 hin8 hb7 hb8 ho7
    go_wp2_with (at_builtin
                 refine wpList_append_rd _ rfl (.tmp 39) (.tmp 41) 35 rfl w6.heap.size 22 i0 _ 24 Try.underlying35 hi hz0 hz1 hz2 rfl A7 n7 c7 us7 rfl hu7 A8 n8 c8 us8 rfl
                   (Rd.own hu8) H1.out (by simp only [maxLen]; omega) (by omega) hs ?_
                 intro A9 c9 w9 hown9 hg9 hrow9
                 have HB9 := Lib.hid (HB8.out.grown hg9 HB8.out.size HS7.out)
                 have HO9 := Lib.hid (OwnRs.append HL7.out hu7 HIN7.out HL8.out HU8.out HB67.out HIN8.out hg9 hown9)
                 have HG9 := Lib.hid hg9
                 have HW9 := Lib.hid (show ∀ g, (Value.slice A7 n7 c7).ownBlock = some g → w6.heap.size ≤ g from fun g e => (World.ownsRow.lt hu7 g e).1)
                 clear hown9 hg9 hrow9)
    go_ret
    exact ⟨rfl, HB9.out⟩
  have h1 := h2
  clear h2
  by_cases h2 : joinBad ms = true
  · have HJ1 := Lib.hid (show (if joinBad ls = true then (13 : Int) else 0) = 0 by rw [if_neg h1])
    have HJ2 := Lib.hid (show (if joinBad ms = true then (13 : Int) else 0) = 13 by rw [if_pos h2])
    clear h1 h2
    go_enter Try.func11, Try.ntmps11
    go_wp2_with fail
    refine (aliveJoin_ok _).mono ?_
    rintro e w1 ⟨rfl, hb1⟩
    go_wp2_with fail
    refine (aliveSplit_ok _).mono ?_
    rintro e w2 ⟨rfl, hb2⟩
    have HB2 := Lib.hid (hb1.trans (hb2.mono hb1.size))
    clear hb1 hb2
    go_wp2_with fail
    refine (HROWS.out w2 (HR.out.below HB2.out)).mono ?_
    rintro e w3 ⟨rfl, rfl⟩
    rw [hd.out]
    go_wp2_with fail
    refine (HROWS'.out w2 (HR'.out.below HB2.out)).mono ?_
    rintro e w3 ⟨rfl, rfl⟩
    rw [hd'.out]
    go_wp2_with fail
    refine (copyRows_any A n c ls w2 (HR.out.below HB2.out) (by have := HT.out; omega)).mono ?_
    rintro e w3 ⟨A3, n3, c3, rfl, ho3, hb3⟩
    have HB3 := Lib.hid (HB2.out.trans (hb3.mono HB2.out.size))
    clear hb3
    go_wp2_with fail
    refine (join_kind A3 n3 c3 ls w3 ho3.rd (by have := HT.out; omega)).mono ?_
    rintro e w4 ⟨hb, A4, n4, c4, rfl⟩
    rw [HJ1.out]
    have HB4 := Lib.hid (HB3.out.trans (hb.mono HB3.out.size))
    clear hb
    go_wp2_with fail
    refine (copyRows_any B m d ms w4 (HR'.out.below HB4.out) (by have := HT'.out; omega)).mono ?_
    rintro e w5 ⟨A5, n5, c5, rfl, ho5, hb5⟩
    have HB5 := Lib.hid (HB4.out.trans (hb5.mono HB4.out.size))
    have HB45 := Lib.hid hb5
    clear hb5
    go_wp2_with fail
    refine (join_kind A5 n5 c5 ms w5 ho5.rd (by have := HT'.out; omega)).mono ?_
    rintro e w6 ⟨hb, A6, n6, c6, rfl⟩
    rw [HJ2.out]
    have HB6 := Lib.hid (HB5.out.trans (hb.mono HB5.out.size))
    clear hb
    go_wp2_with fail
    refine (copyRows_any A n c ls w6 (HR.out.below HB6.out) (by have := HT.out; omega)).mono ?_
    rintro e w7 ⟨A7, n7, c7, rfl, ho7, hb7⟩
    have HB7 := Lib.hid (HB6.out.trans (hb7.mono HB6.out.size))
    go_wp2_with fail
    refine (copyRows_any B m d ms w7 (HR'.out.below HB7.out) (by have := HT'.out; omega)).mono ?_
    rintro e w8 ⟨A8, n8, c8, rfl, ho8, hb8⟩
    have HB8 := Lib.hid (HB7.out.trans (hb8.mono HB7.out.size))
    have HB68 := Lib.hid (hb7.trans (hb8.mono hb7.size))
    obtain ⟨hl7, us7, hu7, hin7⟩ := ho7.below hb8
    obtain ⟨hl8, us8, hu8, hin8⟩ := ho8
    have en7 : n7 = n := by have := HR.out.1; omega
    have en8 : n8 = m := by have := HR'.out.1; omega
    subst en7 en8
    have HU8 := Lib.hid (show us8.length = n8 by simpa using hu8.1)
    have H1 := Lib.hid (one_of_rows (by rw [HU8.out, hl8]) hin8)
    have hs := Nat.le_trans hb7.size hb8.size
    have hn50 := HN.out
    have hm50 := HM.out
    have HS7 := Lib.hid (show ∀ g, (Value.slice A7 n7 c7).ownBlock = some g → w.heap.size ≤ g from fun g e => Nat.le_trans HB6.out.size (World.ownsRow.lt hu7 g e).1)
    have HIN7 := Lib.hid hin7
    have HIN8 := Lib.hid hin8
    have HL7 := Lib.hid hl7
    have HL8 := Lib.hid hl8
    have HB67 := Lib.hid hb7.size
    clear hl7 hin7 hl8 hin8 hb7 hb8 ho7
    go_wp2_with (at_builtin
                 refine wpList_append_rd _ rfl (.tmp 39) (.tmp 41) 35 rfl w6.heap.size 22 i0 _ 24 Try.underlying35 hi hz0 hz1 hz2 rfl A7 n7 c7 us7 rfl hu7 A8 n8 c8 us8 rfl
                   (Rd.own hu8) H1.out (by simp only [maxLen]; omega) (by omega) hs ?_
                 intro A9 c9 w9 hown9 hg9 hrow9
                 have HB9 := Lib.hid (HB8.out.grown hg9 HB8.out.size HS7.out)
                 have HO9 := Lib.hid (OwnRs.append HL7.out hu7 HIN7.out HL8.out HU8.out HB67.out HIN8.out hg9 hown9)
                 have HG9 := Lib.hid hg9
                 have HW9 := Lib.hid (show ∀ g, (Value.slice A7 n7 c7).ownBlock = some g → w6.heap.size ≤ g from fun g e => (World.ownsRow.lt hu7 g e).1)
                 clear hown9 hg9 hrow9)
    go_ret
    exact ⟨rfl, HB9.out⟩
  by_cases h3 : 1024 < n + m
  · have HJ1 := Lib.hid (show (if joinBad ls = true then (13 : Int) else 0) = 0 by rw [if_neg h1])
    have HJ2 := Lib.hid (show (if joinBad ms = true then (13 : Int) else 0) = 0 by rw [if_neg h2])
    clear h1 h2
    go_enter Try.func11, Try.ntmps11
    go_wp2_with fail
    refine (aliveJoin_ok _).mono ?_
    rintro e w1 ⟨rfl, hb1⟩
    go_wp2_with fail
    refine (aliveSplit_ok _).mono ?_
    rintro e w2 ⟨rfl, hb2⟩
    have HB2 := Lib.hid (hb1.trans (hb2.mono hb1.size))
    clear hb1 hb2
    go_wp2_with fail
    refine (HROWS.out w2 (HR.out.below HB2.out)).mono ?_
    rintro e w3 ⟨rfl, rfl⟩
    rw [hd.out]
    go_wp2_with fail
    refine (HROWS'.out w2 (HR'.out.below HB2.out)).mono ?_
    rintro e w3 ⟨rfl, rfl⟩
    rw [hd'.out]
    go_wp2_with fail
    refine (copyRows_any A n c ls w2 (HR.out.below HB2.out) (by have := HT.out; omega)).mono ?_
    rintro e w3 ⟨A3, n3, c3, rfl, ho3, hb3⟩
    have HB3 := Lib.hid (HB2.out.trans (hb3.mono HB2.out.size))
    clear hb3
    go_wp2_with fail
    refine (join_kind A3 n3 c3 ls w3 ho3.rd (by have := HT.out; omega)).mono ?_
    rintro e w4 ⟨hb, A4, n4, c4, rfl⟩
    rw [HJ1.out]
    have HB4 := Lib.hid (HB3.out.trans (hb.mono HB3.out.size))
    clear hb
    go_wp2_with fail
    refine (copyRows_any B m d ms w4 (HR'.out.below HB4.out) (by have := HT'.out; omega)).mono ?_
    rintro e w5 ⟨A5, n5, c5, rfl, ho5, hb5⟩
    have HB5 := Lib.hid (HB4.out.trans (hb5.mono HB4.out.size))
    have HB45 := Lib.hid hb5
    clear hb5
    go_wp2_with fail
    refine (join_kind A5 n5 c5 ms w5 ho5.rd (by have := HT'.out; omega)).mono ?_
    rintro e w6 ⟨hb, A6, n6, c6, rfl⟩
    rw [HJ2.out]
    have HB6 := Lib.hid (HB5.out.trans (hb.mono HB5.out.size))
    clear hb
    go_wp2_with fail
    refine (copyRows_any A n c ls w6 (HR.out.below HB6.out) (by have := HT.out; omega)).mono ?_
    rintro e w7 ⟨A7, n7, c7, rfl, ho7, hb7⟩
    have HB7 := Lib.hid (HB6.out.trans (hb7.mono HB6.out.size))
    go_wp2_with fail
    refine (copyRows_any B m d ms w7 (HR'.out.below HB7.out) (by have := HT'.out; omega)).mono ?_
    rintro e w8 ⟨A8, n8, c8, rfl, ho8, hb8⟩
    have HB8 := Lib.hid (HB7.out.trans (hb8.mono HB7.out.size))
    have HB68 := Lib.hid (hb7.trans (hb8.mono hb7.size))
    obtain ⟨hl7, us7, hu7, hin7⟩ := ho7.below hb8
    obtain ⟨hl8, us8, hu8, hin8⟩ := ho8
    have en7 : n7 = n := by have := HR.out.1; omega
    have en8 : n8 = m := by have := HR'.out.1; omega
    subst en7 en8
    have HU8 := Lib.hid (show us8.length = n8 by simpa using hu8.1)
    have H1 := Lib.hid (one_of_rows (by rw [HU8.out, hl8]) hin8)
    have hs := Nat.le_trans hb7.size hb8.size
    have hn50 := HN.out
    have hm50 := HM.out
    have HS7 := Lib.hid (show ∀ g, (Value.slice A7 n7 c7).ownBlock = some g → w.heap.size ≤ g from fun g e => Nat.le_trans HB6.out.size (World.ownsRow.lt hu7 g e).1)
    have HIN7 := Lib.hid hin7
    have HIN8 := Lib.hid hin8
    have HL7 := Lib.hid hl7
    have HL8 := Lib.hid hl8
    have HB67 := Lib.hid hb7.size
    clear hl7 hin7 hl8 hin8 hb7 hb8 ho7
    go_wp2_with (at_builtin
                 refine wpList_append_rd _ rfl (.tmp 39) (.tmp 41) 35 rfl w6.heap.size 22 i0 _ 24 Try.underlying35 hi hz0 hz1 hz2 rfl A7 n7 c7 us7 rfl hu7 A8 n8 c8 us8 rfl
                   (Rd.own hu8) H1.out (by simp only [maxLen]; omega) (by omega) hs ?_
                 intro A9 c9 w9 hown9 hg9 hrow9
                 have HB9 := Lib.hid (HB8.out.grown hg9 HB8.out.size HS7.out)
                 have HO9 := Lib.hid (OwnRs.append HL7.out hu7 HIN7.out HL8.out HU8.out HB67.out HIN8.out hg9 hown9)
                 have HG9 := Lib.hid hg9
                 have HW9 := Lib.hid (show ∀ g, (Value.slice A7 n7 c7).ownBlock = some g → w6.heap.size ≤ g from fun g e => (World.ownsRow.lt hu7 g e).1)
                 clear hown9 hg9 hrow9)
    go_ret
    exact ⟨rfl, HB9.out⟩
  · have HJ1 := Lib.hid (show joinBad ls = false by simpa using h1)
    have HJ2 := Lib.hid (show joinBad ms = false by simpa using h2)
    have HJA := Lib.hid (joinBad_append HJ1.out HJ2.out (by have := HR.out.1; have := HR'.out.1; omega))
    clear h1 h2
    go_enter Try.func11, Try.ntmps11
    go_wp2_with fail
    refine (aliveJoin_ok _).mono ?_
    rintro e w1 ⟨rfl, hb1⟩
    go_wp2_with fail
    refine (aliveSplit_ok _).mono ?_
    rintro e w2 ⟨rfl, hb2⟩
    have HB2 := Lib.hid (hb1.trans (hb2.mono hb1.size))
    clear hb1 hb2
    go_wp2_with fail
    refine (HROWS.out w2 (HR.out.below HB2.out)).mono ?_
    rintro e w3 ⟨rfl, rfl⟩
    rw [hd.out]
    go_wp2_with fail
    refine (HROWS'.out w2 (HR'.out.below HB2.out)).mono ?_
    rintro e w3 ⟨rfl, rfl⟩
    rw [hd'.out]
    go_wp2_with fail
    refine (copyRows_any A n c ls w2 (HR.out.below HB2.out) (by have := HT.out; omega)).mono ?_
    rintro e w3 ⟨A3, n3, c3, rfl, ho3, hb3⟩
    have HB3 := Lib.hid (HB2.out.trans (hb3.mono HB2.out.size))
    clear hb3
    go_wp2_with fail
    refine (join_any A3 n3 c3 ls w3 ho3.rd (by have := HT.out; omega)).mono ?_
    rintro e w4 ⟨hb4, ⟨h0, _⟩ | ⟨_, A4, n4, c4, rfl, ho4⟩⟩
    · rw [HJ1.out] at h0; cases h0
    have HB4 := Lib.hid (HB3.out.trans (hb4.mono HB3.out.size))
    have HO4 := Lib.hid ho4
    have HS34 := Lib.hid hb4.size
    clear hb4 ho4
    go_wp2_with fail
    refine (copyRows_any B m d ms w4 (HR'.out.below HB4.out) (by have := HT'.out; omega)).mono ?_
    rintro e w5 ⟨A5, n5, c5, rfl, ho5, hb5⟩
    have HB5 := Lib.hid (HB4.out.trans (hb5.mono HB4.out.size))
    have HB45 := Lib.hid hb5
    clear hb5
    go_wp2_with fail
    refine (join_any A5 n5 c5 ms w5 ho5.rd (by have := HT'.out; omega)).mono ?_
    rintro e w6 ⟨hb6, ⟨h0, _⟩ | ⟨_, A6, n6, c6, rfl, ho6⟩⟩
    · rw [HJ2.out] at h0; cases h0
    have HB6 := Lib.hid (HB5.out.trans (hb6.mono HB5.out.size))
    have HB46 := Lib.hid (HB45.out.trans (hb6.mono HB45.out.size))
    have HO6 := Lib.hid ho6
    have HS56 := Lib.hid hb6.size
    clear hb6 ho6
    go_wp2_with fail
    refine (copyRows_any A n c ls w6 (HR.out.below HB6.out) (by have := HT.out; omega)).mono ?_
    rintro e w7 ⟨A7, n7, c7, rfl, ho7, hb7⟩
    have HB7 := Lib.hid (HB6.out.trans (hb7.mono HB6.out.size))
    go_wp2_with fail
    refine (copyRows_any B m d ms w7 (HR'.out.below HB7.out) (by have := HT'.out; omega)).mono ?_
    rintro e w8 ⟨A8, n8, c8, rfl, ho8, hb8⟩
    have HB8 := Lib.hid (HB7.out.trans (hb8.mono HB7.out.size))
    have HB68 := Lib.hid (hb7.trans (hb8.mono hb7.size))
    obtain ⟨hl7, us7, hu7, hin7⟩ := ho7.below hb8
    obtain ⟨hl8, us8, hu8, hin8⟩ := ho8
    have en7 : n7 = n := by have := HR.out.1; omega
    have en8 : n8 = m := by have := HR'.out.1; omega
    subst en7 en8
    have HU8 := Lib.hid (show us8.length = n8 by simpa using hu8.1)
    have H1 := Lib.hid (one_of_rows (by rw [HU8.out, hl8]) hin8)
    have hs := Nat.le_trans hb7.size hb8.size
    have hn50 := HN.out
    have hm50 := HM.out
    have HS7 := Lib.hid (show ∀ g, (Value.slice A7 n7 c7).ownBlock = some g → w.heap.size ≤ g from fun g e => Nat.le_trans HB6.out.size (World.ownsRow.lt hu7 g e).1)
    have HIN7 := Lib.hid hin7
    have HIN8 := Lib.hid hin8
    have HL7 := Lib.hid hl7
    have HL8 := Lib.hid hl8
    have HB67 := Lib.hid hb7.size
    clear hl7 hin7 hl8 hin8 hb7 hb8 ho7
    go_wp2_with (at_builtin
                 refine wpList_append_rd _ rfl (.tmp 39) (.tmp 41) 35 rfl w6.heap.size 22 i0 _ 24 Try.underlying35 hi hz0 hz1 hz2 rfl A7 n7 c7 us7 rfl hu7 A8 n8 c8 us8 rfl
                   (Rd.own hu8) H1.out (by simp only [maxLen]; omega) (by omega) hs ?_
                 intro A9 c9 w9 hown9 hg9 hrow9
                 have HB9 := Lib.hid (HB8.out.grown hg9 HB8.out.size HS7.out)
                 have HO9 := Lib.hid (OwnRs.append HL7.out hu7 HIN7.out HL8.out HU8.out HB67.out HIN8.out hg9 hown9)
                 have HG9 := Lib.hid hg9
                 have HW9 := Lib.hid (show ∀ g, (Value.slice A7 n7 c7).ownBlock = some g → w6.heap.size ≤ g from fun g e => (World.ownsRow.lt hu7 g e).1)
                 clear hown9 hg9 hrow9)
    have HTA := Lib.hid (show total (ls ++ ms) ≤ 100000 by rw [total_append]; have := HT.out; have := HT'.out; omega)
    refine (join_any A9 (n7 + n8) c9 (ls ++ ms) w9 HO9.out.rd (by have := HTA.out; omega)).mono ?_
    rintro e w10 ⟨hb10, ⟨h0, _⟩ | ⟨_, A10, n10, c10, rfl, ho10⟩⟩
    · rw [HJA.out] at h0; cases h0
    have HS9 := Lib.hid HB9.out.size
    have hx9 : OwnB w9 w3.heap.size A4 n4 c4 (joinN ls) := World.ownsRow.kept ((HO4.out.below HB46.out).below HB68.out) HG9.out (rows_apart ((HO4.out.below HB46.out).below HB68.out) hu7 (by decide))
    have hy9 : OwnB w9 w5.heap.size A6 n6 c6 (joinN ms) := World.ownsRow.kept (HO6.out.below HB68.out) HG9.out (rows_apart (HO6.out.below HB68.out) hu7 (by decide))
    have HX10 := Lib.hid (hx9.below hb10)
    have HY10 := Lib.hid (hy9.below hb10)
    have HXN := Lib.hid (show n4 ≤ 500000 by have := OwnB.len hx9; have := joinN_len (ls := ls) (by have := HT.out; omega); have := HT.out; omega)
    have HYN := Lib.hid (show n6 ≤ 500000 by have := OwnB.len hy9; have := joinN_len (ls := ms) (by have := HT'.out; omega); have := HT'.out; omega)
    have HZN := Lib.hid (show n10 = n4 + n6 by have e1 := OwnB.len hx9; have e2 := OwnB.len hy9; have e3 := OwnB.len ho10; rw [joinN_append, List.length_append] at e3; omega)
    have hzn := HZN.out
    have hxn := HXN.out
    have hyn := HYN.out
    have HB10 := Lib.hid (HB9.out.trans (hb10.mono HB9.out.size))
    have HS10 := Lib.hid (show w3.heap.size ≤ w10.heap.size from by
      have e1 := HS34.out
      have e2 := HB46.out.size
      have e3 := HB68.out.size
      have e4 := (HG9.out).size
      have e5 := hb10.size
      omega)
    have HO10 := Lib.hid (HO9.out.below hb10)
    have HS3 := Lib.hid HB3.out.size
    clear hx9 hy9 ho10 hb10
    subst hzn
    go_wp2_with (at_builtin
                 refine wpList_append_rd _ rfl (.tmp 60) (.tmp 61) 22 rfl w3.heap.size 5 i1 _ 1 Try.underlying22 hj hy0 hy1 hy2 rfl A4 n4 c4 ((joinN ls).map bv) rfl HX10.out A6 n6 c6 ((joinN ms).map bv) rfl
                   HY10.out.rd (oneCell_bytes _) (by simp only [maxLen]; omega) (by omega) HS10.out ?_
                 intro A11 c11 w11 hown11 hg11 hrow11)
    have ho11 : OwnB w11 w3.heap.size A11 (n4 + n6) c11 (joinN (ls ++ ms)) := by unfold OwnB; rw [joinN_append, List.map_append]; exact hown11
    have HB11 := Lib.hid (HB10.out.grown hg11 HB10.out.size (fun g e => Nat.le_trans HS3.out (OwnB.block HX10.out g e)))
    have HO11 : Hid (RdRows w11 A9 (n7 + n8) (ls ++ ms)) := by
      obtain ⟨q1, us, q2, q3⟩ := HO10.out
      have hne := rows_apart q2 HX10.out (by decide)
      refine OwnRs.rd (base := w6.heap.size) (c := c9) ⟨q1, us, World.ownsRow.kept q2 hg11 hne, fun k u l hu hl => ?_⟩
      obtain ⟨A12, c12, e12, h12⟩ := q3 k u l hu hl
      refine ⟨A12, c12, e12, World.ownsRow.kept h12 hg11 ?_⟩
      rcases hb12 : (Value.slice A12 l.length c12).ownBlock with _ | g
      · exact .inl rfl
      · right
        intro e
        have g1 := OwnB.block h12 g hb12
        have g2 := (World.ownsRow.lt HO4.out g e.symm).2
        have g3 := HB46.out.size
        omega
    clear hown11 hg11 hrow11
    refine (split_any A11 (n4 + n6) c11 (joinN (ls ++ ms)) w11 ho11.rd (own_cap ho11).1 (own_cap ho11).2 (by omega)).mono ?_
    have HSJ := Lib.hid (splitN_joinN HJA.out)
    rintro e w12 ⟨hb12, ⟨h0, _⟩ | ⟨_, A12, n12, c12, rfl, ho12⟩⟩
    · rw [HSJ.out] at h0; exact absurd rfl h0
    have ho12' : OwnRs w12 w11.heap.size A12 n12 c12 (ls ++ ms) := by rw [HSJ.out] at ho12; exact ho12
    have HB12 := Lib.hid (HB11.out.trans (hb12.mono HB11.out.size))
    have HR12 := Lib.hid (HO11.out.below hb12)
    clear ho12 hb12
    go_wp2_with fail
    refine (sameRows_self A12 A9 n12 (n7 + n8) c12 c9 _ (ls ++ ms) ho12'.rd HR12.out (own_len_cap ho12')).mono ?_
    rintro e w13 ⟨rfl, k, rfl⟩
    go_wp2_with fail
    go_ret
    exact ⟨rfl, below_drewN HB12.out k⟩

theorem packBehind_walk (w : World) (v : Value) (ls : List (List UInt8)) (h : InR w v ls) (x : Value) (ms : List (List UInt8)) (hx : InR w x ms) : Calls Try.prog 11 #[v, x] w (Tr w) := by
  obtain ⟨A, n, c, rfl, hc, hm, hr, _, hsz⟩ := h
  obtain ⟨B, m, d, rfl, hd, hmd, hb, _, hsz'⟩ := hx
  by_cases hbig : 50000 < total ls ∨ 50000 < total ms
  · exact packBehind_many w A B n c m d ls ms hr hb (by omega) (by omega) hsz hsz' hbig
  · exact packBehind_few w A B n c m d ls ms hr hb (by omega) (by omega) hsz hsz' (by omega) (by omega)
end Go.Proofs.Ytgniocgcfldiaaa
