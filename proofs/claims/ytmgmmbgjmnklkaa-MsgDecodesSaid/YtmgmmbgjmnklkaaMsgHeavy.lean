/-
  The reference's Weight and Heavy: some number, some answer. Walks; no statement.
-/
import Derived.Test.YtmgmmbgjmnklkaaMsgSame2
namespace Go.Proofs.Ytmgmmbgjmnklkaa
set_option maxRecDepth 100000
open Go.RowKit
open Pk
set_option linter.unusedVariables false

def SomeInt (w : World) (e : Ending) (w' : World) : Prop := ∃ v : Int, e = .returned (.int .i64 v) ∧ Below w.heap.size w w'
def SomeBool (w : World) (e : Ending) (w' : World) : Prop := ∃ b : Bool, e = .returned (.bool b) ∧ Below w.heap.size w w'
theorem weight_any (l : Lt) (A : Option Addr) (c : Nat) (B : Option Addr) (d : Nat) (F : Nat → Prop) (w : World) (h : LtR F w l A c B d) :
    Calls Try.prog 20 #[.agg #[.int .i64 l.f1, .int .i64 l.f2, .int .i64 l.r, .slice A l.body.length c, .slice B l.tags.length d]] w (SomeInt w) := by
  have hB := (Below.refl w.heap.size w).alloc (Nat.le_refl _) (.cells #[.int .i64 l.f1, .int .i64 l.f2, .int .i64 l.r, .slice A l.body.length c, .slice B l.tags.length d] 46)
  have HB := Lib.hid hB
  have HK := Lib.hid (Bk.new w 46 [.int .i64 l.f1, .int .i64 l.f2, .int .i64 l.r, .slice A l.body.length c, .slice B l.tags.length d])
  have HR := Lib.hid (h.2.below hB)
  have hml : l.tags.length ≤ maxLen := Nat.le_trans h.2.1 h.2.2.1
  simp only [maxLen] at hml
  clear h hB
  go_enter Try.func20, Try.ntmps20
  go_wp2_with fail
  obtain ⟨X, hX⟩ : ∃ X, X = w.alloc (.cells #[.int .i64 l.f1, .int .i64 l.f2, .int .i64 l.r, .slice A l.body.length c, .slice B l.tags.length d] 46) := ⟨_, rfl⟩
  rw [← hX] at HB HK HR ⊢
  clear hX
  have k4 := HK.out.at_ (i := 4) rfl
  go_loop [3, 4] (fun s i => ∃ (v : Int) (k : Nat), k ≤ l.tags.length ∧ s = .int .i64 v ∧ i = .int .i64 k) (fun _ i => l.tags.length - (intOf i).toNat)
  case atStart => exact ⟨_, 0, by omega, rfl, rfl⟩
  case round =>
    obtain ⟨v, k, hk, rfl, rfl⟩ := hrel
    by_cases hlt : k < l.tags.length
    · obtain ⟨t, ht⟩ : ∃ t, l.tags[k]? = some t := ⟨_, List.getElem?_eq_getElem hlt⟩
      obtain ⟨x, E, f, rfl, hxb, c0, hb0⟩ := HR.out.b1 ht
      have y1 : (0 : Int) ≤ (k : Int) := by omega
      have y2 : (k : Int) < (l.tags.length : Int) := by omega
      clear ht hb0 hxb
      go_wp2_with fail
      go_round
      case rel => exact ⟨_, k + 1, by omega, rfl, by go_num⟩
      case measure => simp [intOf]; omega
    · obtain rfl : k = l.tags.length := by omega
      go_wp2_with fail
      go_ret
      exact ⟨_, rfl, HB.out⟩

set_option maxHeartbeats 1600000 in
theorem heavy_any (m : Mg) (q : Mad) (most : Int) (F : Nat → Prop) (w : World) (h : MgR F w m q) :
    Calls Try.prog 11 #[.agg #[.int .i64 m.kind, .int .i64 m.view, .int .i64 m.seq, .int .i64 m.client, .int .i64 m.stamp, .int .i64 m.e.c, .int .i64 m.e.s, .int .i64 m.e.t, .slice q.ea m.e.dig.length q.ec, .slice q.ga m.dig.length q.gc, .slice q.da m.data.length q.dc, .slice q.pa m.proof.length q.pc, .slice q.va m.proven.length q.vc], .int .i64 most] w (SomeBool w) := by
  obtain ⟨ea, ec, ga, gc, da, dc, pa, pc, va, vc⟩ := q
  have hB := (Below.refl w.heap.size w).alloc (Nat.le_refl _) (.cells #[.int .i64 m.kind, .int .i64 m.view, .int .i64 m.seq, .int .i64 m.client, .int .i64 m.stamp, .int .i64 m.e.c, .int .i64 m.e.s, .int .i64 m.e.t, .slice ea m.e.dig.length ec, .slice ga m.dig.length gc, .slice da m.data.length dc, .slice pa m.proof.length pc, .slice va m.proven.length vc] 28)
  have HB := Lib.hid hB
  have HK := Lib.hid (Bk.new w 28 [.int .i64 m.kind, .int .i64 m.view, .int .i64 m.seq, .int .i64 m.client, .int .i64 m.stamp, .int .i64 m.e.c, .int .i64 m.e.s, .int .i64 m.e.t, .slice ea m.e.dig.length ec, .slice ga m.dig.length gc, .slice da m.data.length dc, .slice pa m.proof.length pc, .slice va m.proven.length vc])
  have HP := Lib.hid (h.p.below hB)
  have HV := Lib.hid (h.v.below hB)
  have hml : m.proof.length ≤ maxLen := Nat.le_trans h.p.1 h.p.2.1
  have hmv : m.proven.length ≤ maxLen := Nat.le_trans h.v.1 h.v.2.1
  simp only [maxLen] at hml hmv
  clear h hB
  go_enter Try.func11, Try.ntmps11
  go_wp2_with fail
  obtain ⟨X, hX⟩ : ∃ X, X = w.alloc (.cells #[.int .i64 m.kind, .int .i64 m.view, .int .i64 m.seq, .int .i64 m.client, .int .i64 m.stamp, .int .i64 m.e.c, .int .i64 m.e.s, .int .i64 m.e.t, .slice ea m.e.dig.length ec, .slice ga m.dig.length gc, .slice da m.data.length dc, .slice pa m.proof.length pc, .slice va m.proven.length vc] 28) := ⟨_, rfl⟩
  rw [← hX] at HB HK HP HV ⊢
  clear hX
  go_loopw [5, 6] (fun s i wr => ∃ (v : Int) (k : Nat), k ≤ m.proof.length ∧ s = .int .i64 v ∧ i = .int .i64 k ∧ Below X.heap.size X wr) (fun _ i _ => m.proof.length - (intOf i).toNat)
  case atStart => exact ⟨_, 0, by omega, rfl, rfl, Below.refl _ _⟩
  case round =>
    obtain ⟨v, k, hk, rfl, rfl, hb⟩ := hrel
    have HBX := Lib.hid hb
    have k11 := (HK.out.kept hb).at_ (i := 11) rfl
    by_cases hgo : k < m.proof.length ∧ v ≤ most
    · obtain ⟨hlt, hv⟩ := hgo
      obtain ⟨l, hl⟩ : ∃ l, m.proof[k]? = some l := ⟨_, List.getElem?_eq_getElem hlt⟩
      obtain ⟨x, A, c, B, d, rfl, hxb, c0, c1, c2, c3, c4, hr⟩ := (HP.out.below hb).lt5 hl
      have HR := Lib.hid hr
      have y1 : (0 : Int) ≤ (k : Int) := by omega
      have y2 : (k : Int) < (m.proof.length : Int) := by omega
      clear hl hb hr hxb
      go_wp2_with fail
      refine (weight_any l A c B d _ _ HR.out).mono ?_
      rintro e w3 ⟨u, rfl, hb3⟩
      have HB3 := Lib.hid (below_next HBX.out hb3 HBX.out.size)
      clear hb3 k11 c0 c1 c2 c3 c4
      go_wp2_with fail
      go_roundw
      case rel => exact ⟨_, k + 1, by omega, rfl, by go_num, HB3.out⟩
      case measure => simp [intOf]; omega
    · have hex : (¬ k < m.proof.length) ∨ (k < m.proof.length ∧ ¬ v ≤ most) := by
        by_cases h1 : k < m.proof.length
        · exact .inr ⟨h1, fun h2 => hgo ⟨h1, h2⟩⟩
        · exact .inl h1
      have HKX := Lib.hid (HK.out.kept hb)
      clear hgo hb
      rcases hex with h1 | ⟨h1, h2⟩
      · go_wp2_with fail
        clear k11
        go_loopw [5, 7] (fun s i wq => ∃ (v : Int) (k : Nat), k ≤ m.proven.length ∧ s = .int .i64 v ∧ i = .int .i64 k ∧ Below X.heap.size X wq) (fun _ i _ => m.proven.length - (intOf i).toNat)
        case atStart => exact ⟨_, 0, by omega, rfl, rfl, HBX.out⟩
        case round =>
          obtain ⟨v2, k2, hk2, rfl, rfl, hb1⟩ := hrel
          have HB1 := Lib.hid hb1
          have k12 := (HK.out.kept hb1).at_ (i := 12) rfl
          by_cases hgo : k2 < m.proven.length ∧ v2 ≤ most
          · obtain ⟨hlt2, hv2⟩ := hgo
            obtain ⟨p, hp⟩ : ∃ p, m.proven[k2]? = some p := ⟨_, List.getElem?_eq_getElem hlt2⟩
            obtain ⟨x, B, d, C, q, rfl, hxb, c0, c1, c2, c3, c4, c5, c6, hr, hv⟩ := (HV.out.below hb1).pv7 hp
            have HPP := Lib.hid hp
            have hmq : p.votes.length ≤ maxLen := Nat.le_trans hv.1 hv.2.1
            simp only [maxLen] at hmq
            have z1 : (0 : Int) ≤ (k2 : Int) := by omega
            have z2 : (k2 : Int) < (m.proven.length : Int) := by omega
            clear hp hb1 hr hv hxb c0 c1 c2 c3 c4
            go_wp2_with fail
            clear c5 c6 k12
            go_loopw [5, 8] (fun s i wr => ∃ (v : Int) (k : Nat), k ≤ p.votes.length ∧ s = .int .i64 v ∧ i = .int .i64 k ∧ Below X.heap.size X wr) (fun _ i _ => p.votes.length - (intOf i).toNat)
            case atStart => exact ⟨_, 0, by omega, rfl, rfl, HB1.out⟩
            case round =>
              obtain ⟨v3, j, hj, rfl, rfl, hb2⟩ := hrel
              have HB2 := Lib.hid hb2
              have k12 := (HK.out.kept hb2).at_ (i := 12) rfl
              obtain ⟨x', B', d', C', q', hx', hxb, c0, c1, c2, c3, c4, c5, c6, hr, hv⟩ := (HV.out.below hb2).pv7 HPP.out
              injection hx' with hx'
              subst hx'
              by_cases hgo : j < p.votes.length ∧ v3 ≤ most
              · obtain ⟨hlt3, hv3⟩ := hgo
                obtain ⟨l, hl⟩ : ∃ l, p.votes[j]? = some l := ⟨_, List.getElem?_eq_getElem hlt3⟩
                obtain ⟨x2, A2, e2, B2, d2, rfl, hxb2, t0, t1, t2, t3, t4, hr2⟩ := hv.lt5 hl
                have HR2 := Lib.hid hr2
                have z3 : (0 : Int) ≤ (j : Int) := by omega
                have z4 : (j : Int) < (p.votes.length : Int) := by omega
                clear hl hb2 hr hv hr2 hxb hxb2 c0 c1 c2 c3 c4 c5
                go_wp2_with fail
                refine (weight_any l A2 e2 B2 d2 _ _ HR2.out).mono ?_
                rintro e w3 ⟨u, rfl, hb3⟩
                have HB3 := Lib.hid (below_next HB2.out hb3 HB2.out.size)
                clear hb3 k12 c6 t0 t1 t2 t3 t4
                go_wp2_with fail
                go_roundw
                case rel => exact ⟨_, j + 1, by omega, rfl, by go_num, HB3.out⟩
                case measure => simp [intOf]; omega
              · have hex : (¬ j < p.votes.length) ∨ (j < p.votes.length ∧ ¬ v3 ≤ most) := by
                  by_cases h1 : j < p.votes.length
                  · exact .inr ⟨h1, fun h2 => hgo ⟨h1, h2⟩⟩
                  · exact .inl h1
                clear hgo
                clear hb2 hr hv hxb c0 c1 c2 c3 c4 c5
                rcases hex with h1 | ⟨h1, h2⟩
                · go_wp2_with fail
                  go_roundw
                  case rel => exact ⟨v3, k2 + 1, by omega, rfl, by go_num, HB2.out⟩
                  case measure => simp [intOf]; omega
                · go_wp2_with fail
                  go_roundw
                  case rel => exact ⟨v3, k2 + 1, by omega, rfl, by go_num, HB2.out⟩
                  case measure => simp [intOf]; omega
          · have hex : (¬ k2 < m.proven.length) ∨ (k2 < m.proven.length ∧ ¬ v2 ≤ most) := by
              by_cases h1 : k2 < m.proven.length
              · exact .inr ⟨h1, fun h2 => hgo ⟨h1, h2⟩⟩
              · exact .inl h1
            clear hgo
            clear hb1
            rcases hex with h1 | ⟨h1, h2⟩
            · go_wp2_with fail
              go_ret
              exact ⟨_, rfl, below_next HB.out HB1.out HB.out.size⟩
            · go_wp2_with fail
              go_ret
              exact ⟨_, rfl, below_next HB.out HB1.out HB.out.size⟩
      · go_wp2_with fail
        clear k11
        go_loopw [5, 7] (fun s i wq => ∃ (v : Int) (k : Nat), k ≤ m.proven.length ∧ s = .int .i64 v ∧ i = .int .i64 k ∧ Below X.heap.size X wq) (fun _ i _ => m.proven.length - (intOf i).toNat)
        case atStart => exact ⟨_, 0, by omega, rfl, rfl, HBX.out⟩
        case round =>
          obtain ⟨v2, k2, hk2, rfl, rfl, hb1⟩ := hrel
          have HB1 := Lib.hid hb1
          have k12 := (HK.out.kept hb1).at_ (i := 12) rfl
          by_cases hgo : k2 < m.proven.length ∧ v2 ≤ most
          · obtain ⟨hlt2, hv2⟩ := hgo
            obtain ⟨p, hp⟩ : ∃ p, m.proven[k2]? = some p := ⟨_, List.getElem?_eq_getElem hlt2⟩
            obtain ⟨x, B, d, C, q, rfl, hxb, c0, c1, c2, c3, c4, c5, c6, hr, hv⟩ := (HV.out.below hb1).pv7 hp
            have HPP := Lib.hid hp
            have hmq : p.votes.length ≤ maxLen := Nat.le_trans hv.1 hv.2.1
            simp only [maxLen] at hmq
            have z1 : (0 : Int) ≤ (k2 : Int) := by omega
            have z2 : (k2 : Int) < (m.proven.length : Int) := by omega
            clear hp hb1 hr hv hxb c0 c1 c2 c3 c4
            go_wp2_with fail
            clear c5 c6 k12
            go_loopw [5, 8] (fun s i wr => ∃ (v : Int) (k : Nat), k ≤ p.votes.length ∧ s = .int .i64 v ∧ i = .int .i64 k ∧ Below X.heap.size X wr) (fun _ i _ => p.votes.length - (intOf i).toNat)
            case atStart => exact ⟨_, 0, by omega, rfl, rfl, HB1.out⟩
            case round =>
              obtain ⟨v3, j, hj, rfl, rfl, hb2⟩ := hrel
              have HB2 := Lib.hid hb2
              have k12 := (HK.out.kept hb2).at_ (i := 12) rfl
              obtain ⟨x', B', d', C', q', hx', hxb, c0, c1, c2, c3, c4, c5, c6, hr, hv⟩ := (HV.out.below hb2).pv7 HPP.out
              injection hx' with hx'
              subst hx'
              by_cases hgo : j < p.votes.length ∧ v3 ≤ most
              · obtain ⟨hlt3, hv3⟩ := hgo
                obtain ⟨l, hl⟩ : ∃ l, p.votes[j]? = some l := ⟨_, List.getElem?_eq_getElem hlt3⟩
                obtain ⟨x2, A2, e2, B2, d2, rfl, hxb2, t0, t1, t2, t3, t4, hr2⟩ := hv.lt5 hl
                have HR2 := Lib.hid hr2
                have z3 : (0 : Int) ≤ (j : Int) := by omega
                have z4 : (j : Int) < (p.votes.length : Int) := by omega
                clear hl hb2 hr hv hr2 hxb hxb2 c0 c1 c2 c3 c4 c5
                go_wp2_with fail
                refine (weight_any l A2 e2 B2 d2 _ _ HR2.out).mono ?_
                rintro e w3 ⟨u, rfl, hb3⟩
                have HB3 := Lib.hid (below_next HB2.out hb3 HB2.out.size)
                clear hb3 k12 c6 t0 t1 t2 t3 t4
                go_wp2_with fail
                go_roundw
                case rel => exact ⟨_, j + 1, by omega, rfl, by go_num, HB3.out⟩
                case measure => simp [intOf]; omega
              · have hex : (¬ j < p.votes.length) ∨ (j < p.votes.length ∧ ¬ v3 ≤ most) := by
                  by_cases h1 : j < p.votes.length
                  · exact .inr ⟨h1, fun h2 => hgo ⟨h1, h2⟩⟩
                  · exact .inl h1
                clear hgo
                clear hb2 hr hv hxb c0 c1 c2 c3 c4 c5
                rcases hex with h1 | ⟨h1, h2⟩
                · go_wp2_with fail
                  go_roundw
                  case rel => exact ⟨v3, k2 + 1, by omega, rfl, by go_num, HB2.out⟩
                  case measure => simp [intOf]; omega
                · go_wp2_with fail
                  go_roundw
                  case rel => exact ⟨v3, k2 + 1, by omega, rfl, by go_num, HB2.out⟩
                  case measure => simp [intOf]; omega
          · have hex : (¬ k2 < m.proven.length) ∨ (k2 < m.proven.length ∧ ¬ v2 ≤ most) := by
              by_cases h1 : k2 < m.proven.length
              · exact .inr ⟨h1, fun h2 => hgo ⟨h1, h2⟩⟩
              · exact .inl h1
            clear hgo
            clear hb1
            rcases hex with h1 | ⟨h1, h2⟩
            · go_wp2_with fail
              go_ret
              exact ⟨_, rfl, below_next HB.out HB1.out HB.out.size⟩
            · go_wp2_with fail
              go_ret
              exact ⟨_, rfl, below_next HB.out HB1.out HB.out.size⟩
end Go.Proofs.Ytmgmmbgjmnklkaa
