/- Of Ins: CmdW7, RcW1. -/
import Derived.Test.YtgdmgmklncmanaaGreatDoorIns19
import Derived.Test.YtgdmgmklncmanaaGreatDoorIns18
/- The walk over commands, whole. (Written by tools/gen_cmdw7.py.) -/
namespace Go.Proofs.YtgdmgmklncmanaaGreatDoor
open Go.RowKit

def cmdR (x : Arc.Cmd × Bool) : Value := .tuple #[.agg #[.int .i64 x.1.verb, .string ⟨x.1.path.toArray⟩, .string ⟨x.1.word.toArray⟩, .string ⟨x.1.frm.toArray⟩], .bool x.2]
theorem vb_cases (v : List UInt8) : Arc.vb v = 0 ∨ v = [112, 117, 116] ∨ v = [97, 100, 100] ∨ v = [99, 111, 112, 121] ∨ v = [100, 114, 111, 112] ∨ v = [108, 105, 115, 116] := by
  unfold Arc.vb
  by_cases h1 : v = [112, 117, 116]
  · exact .inr (.inl h1)
  by_cases h2 : v = [97, 100, 100]
  · exact .inr (.inr (.inl h2))
  by_cases h3 : v = [99, 111, 112, 121]
  · exact .inr (.inr (.inr (.inl h3)))
  by_cases h4 : v = [100, 114, 111, 112]
  · exact .inr (.inr (.inr (.inr (.inl h4))))
  by_cases h5 : v = [108, 105, 115, 116]
  · exact .inr (.inr (.inr (.inr (.inr h5))))
  left; simp [h1, h2, h3, h4, h5]
theorem command_any (ao : Option Addr) (g o c : Nat) (ws : List (List UInt8)) (hw : ∀ x ∈ ws, x.length ≤ 2000) (mx : Int) (w : World) (hg0 : 0 < w.heap.size) (hm : w.cell? ⟨0, 0, none⟩ = some (.int .i64 mx))
    (hs : 2 ≤ ws.length → ao = some ⟨g, o, none⟩ ∧ g < w.heap.size) (hc : ∀ j x, ws[j]? = some x → w.cell? ⟨g, o + j, none⟩ = some (.string ⟨x.toArray⟩)) :
    Calls Tryz.prog 95 #[.slice ao ws.length c] w fun e w' => e = .returned (cmdR (Arc.pcmd ws)) ∧ Below w.heap.size w w' := by
  match ws, hw, hs, hc with
  | [], _, _, _ => exact command_few ao 0 c (by omega) w
  | [v], _, _, _ => exact command_few ao 1 c (by omega) w
  | v :: p :: rest, hw, hs, hc =>
    obtain ⟨rfl, hg⟩ := hs (by simp)
    have c0 := hc 0 v rfl
    have c1 := hc 1 p rfl
    have hp := hw p (by simp)
    have hn : 2 ≤ (v :: p :: rest).length := by simp
    rcases vb_cases v with hv | rfl | rfl | rfl | rfl | rfl
    · have e : Arc.pcmd (v :: p :: rest) = (.zero, false) := by simp [Arc.pcmd, hv]
      rw [e]; exact command_no g o _ c v p hn hv w hg c0 c1
    · match rest, hw, hc, hn with
      | [q], hw, hc, _ =>
        have c2 := hc 2 q rfl
        have hq := hw q (by simp)
        cases ha : Wd.isWord q with
        | false =>
          have e : Arc.pcmd [[112, 117, 116], p, q] = (.zero, false) := by simp [Arc.pcmd, Arc.vb, ha]
          rw [e]; exact command_put_w g o c p q hq w hg c0 c1 c2 ha
        | true => cases hb : Wd.isVar p with
          | false =>
            have e : Arc.pcmd [[112, 117, 116], p, q] = (.zero, false) := by simp [Arc.pcmd, Arc.vb, hb]
            rw [e]; exact command_put_p g o c p q hq hp mx w hg0 hm hg c0 c1 c2 ha hb
          | true =>
            have e : Arc.pcmd [[112, 117, 116], p, q] = (⟨1, p, q, []⟩, true) := by simp [Arc.pcmd, Arc.vb, ha, hb]
            rw [e]; exact command_put_y g o c p q hq hp mx w hg0 hm hg c0 c1 c2 ha hb
      | [], _, _, hn =>
        have e : Arc.pcmd [[112, 117, 116], p] = (.zero, false) := by simp [Arc.pcmd, Arc.vb]
        rw [e]; exact command_put_count g o _ c p hn (by simp) w hg c0 c1
      | x :: y :: l, _, _, hn =>
        have e : Arc.pcmd ([112, 117, 116] :: p :: x :: y :: l) = (.zero, false) := by simp [Arc.pcmd, Arc.vb]
        rw [e]; exact command_put_count g o _ c p hn (by simp) w hg c0 c1
    · match rest, hw, hc, hn with
      | [q], hw, hc, _ =>
        have c2 := hc 2 q rfl
        have hq := hw q (by simp)
        cases ha : Wd.isWord q with
        | false =>
          have e : Arc.pcmd [[97, 100, 100], p, q] = (.zero, false) := by simp [Arc.pcmd, Arc.vb, ha]
          rw [e]; exact command_add_w g o c p q hq w hg c0 c1 c2 ha
        | true => cases hb : Wd.isVar p with
          | false =>
            have e : Arc.pcmd [[97, 100, 100], p, q] = (.zero, false) := by simp [Arc.pcmd, Arc.vb, hb]
            rw [e]; exact command_add_p g o c p q hq hp mx w hg0 hm hg c0 c1 c2 ha hb
          | true =>
            have e : Arc.pcmd [[97, 100, 100], p, q] = (⟨2, p, q, []⟩, true) := by simp [Arc.pcmd, Arc.vb, ha, hb]
            rw [e]; exact command_add_y g o c p q hq hp mx w hg0 hm hg c0 c1 c2 ha hb
      | [], _, _, hn =>
        have e : Arc.pcmd [[97, 100, 100], p] = (.zero, false) := by simp [Arc.pcmd, Arc.vb]
        rw [e]; exact command_add_count g o _ c p hn (by simp) w hg c0 c1
      | x :: y :: l, _, _, hn =>
        have e : Arc.pcmd ([97, 100, 100] :: p :: x :: y :: l) = (.zero, false) := by simp [Arc.pcmd, Arc.vb]
        rw [e]; exact command_add_count g o _ c p hn (by simp) w hg c0 c1
    · match rest, hw, hc, hn with
      | [q], hw, hc, _ =>
        have c2 := hc 2 q rfl
        have hq := hw q (by simp)
        cases ha : Wd.isPath p with
        | false =>
          have e : Arc.pcmd [[99, 111, 112, 121], p, q] = (.zero, false) := by simp [Arc.pcmd, Arc.vb, ha]
          rw [e]; exact command_copy_w g o c p q hp mx w hg0 hm hg c0 c1 c2 ha
        | true => cases hb : Wd.isVar q with
          | false =>
            have e : Arc.pcmd [[99, 111, 112, 121], p, q] = (.zero, false) := by simp [Arc.pcmd, Arc.vb, hb]
            rw [e]; exact command_copy_p g o c p q hq hp mx w hg0 hm hg c0 c1 c2 ha hb
          | true =>
            have e : Arc.pcmd [[99, 111, 112, 121], p, q] = (⟨3, q, [], p⟩, true) := by simp [Arc.pcmd, Arc.vb, ha, hb]
            rw [e]; exact command_copy_y g o c p q hq hp mx w hg0 hm hg c0 c1 c2 ha hb
      | [], _, _, hn =>
        have e : Arc.pcmd [[99, 111, 112, 121], p] = (.zero, false) := by simp [Arc.pcmd, Arc.vb]
        rw [e]; exact command_copy_count g o _ c p hn (by simp) w hg c0 c1
      | x :: y :: l, _, _, hn =>
        have e : Arc.pcmd ([99, 111, 112, 121] :: p :: x :: y :: l) = (.zero, false) := by simp [Arc.pcmd, Arc.vb]
        rw [e]; exact command_copy_count g o _ c p hn (by simp) w hg c0 c1
    · match rest, hw, hc, hn with
      | [], hw, hc, _ =>
        cases hb : Wd.isVar p with
        | false =>
          have e : Arc.pcmd [[100, 114, 111, 112], p] = (.zero, false) := by simp [Arc.pcmd, Arc.vb, hb]
          rw [e]; exact command_drop_p g o c p hp mx w hg0 hm hg c0 c1 hb
        | true =>
          have e : Arc.pcmd [[100, 114, 111, 112], p] = (⟨4, p, [], []⟩, true) := by simp [Arc.pcmd, Arc.vb, hb]
          rw [e]; exact command_drop_y g o c p hp mx w hg0 hm hg c0 c1 hb
      | x :: l, _, _, hn =>
        have e : Arc.pcmd ([100, 114, 111, 112] :: p :: x :: l) = (.zero, false) := by simp [Arc.pcmd, Arc.vb]
        rw [e]; exact command_drop_count g o _ c p hn (by simp) w hg c0 c1
    · match rest, hw, hc, hn with
      | [], hw, hc, _ =>
        cases hb : Wd.isVar p with
        | false =>
          have e : Arc.pcmd [[108, 105, 115, 116], p] = (.zero, false) := by simp [Arc.pcmd, Arc.vb, hb]
          rw [e]; exact command_list_p g o c p hp mx w hg0 hm hg c0 c1 hb
        | true =>
          have e : Arc.pcmd [[108, 105, 115, 116], p] = (⟨5, p, [], []⟩, true) := by simp [Arc.pcmd, Arc.vb, hb]
          rw [e]; exact command_list_y g o c p hp mx w hg0 hm hg c0 c1 hb
      | x :: l, _, _, hn =>
        have e : Arc.pcmd ([108, 105, 115, 116] :: p :: x :: l) = (.zero, false) := by simp [Arc.pcmd, Arc.vb]
        rw [e]; exact command_list_count g o _ c p hn (by simp) w hg c0 c1
end Go.Proofs.YtgdmgmklncmanaaGreatDoor
/- The walks over the document's own answer on commands. (Written by tools/gen_rcw1.py.) -/
namespace Go.Proofs.YtgdmgmklncmanaaGreatDoor
open Go.RowKit

def rcmdV (c : Arc.RCmd) : List Value := [.string ⟨c.verb.toArray⟩, .string ⟨c.path.toArray⟩, .string ⟨c.to.toArray⟩, .string ⟨c.word.toArray⟩]
def rcmdR (x : Arc.RCmd × Bool) : Value := .tuple #[.agg #[.string ⟨x.1.verb.toArray⟩, .string ⟨x.1.path.toArray⟩, .string ⟨x.1.to.toArray⟩, .string ⟨x.1.word.toArray⟩], .bool x.2]

theorem rcommand_few (ao : Option Addr) (n c : Nat) (hn : n < 2) (woken : Bool) (w : World) :
    Calls Tryz.prog 49 #[.slice ao n c, .bool woken] w fun e w' => e = .returned (rcmdR (.zero, false)) ∧ Below w.heap.size w w' := by
  have hb : (n : Int) < 2 := by omega
  go_enter Tryz.func49, Tryz.ntmps49
  go_wp2_with fail
  exact bodyPost_ret (v := .tuple #[.agg #[.string ⟨#[]⟩, .string ⟨#[]⟩, .string ⟨#[]⟩, .string ⟨#[]⟩], .bool false]) (by simp [results, Tryz.results49, go_sem]) rfl ⟨rfl, (Below.refl _ w).alloc (Nat.le_refl _) _⟩

set_option maxRecDepth 100000 in
set_option maxHeartbeats 1000000 in
theorem rcommand_put (g o c : Nat) (p q : List UInt8) (hp : p.length ≤ 2000) (hq : q.length ≤ 2000) (woken : Bool) (w : World)
    (hg : g < w.heap.size) (c0 : w.cell? ⟨g, o, none⟩ = some (.string ⟨#[112, 117, 116]⟩)) (c1 : w.cell? ⟨g, o + 1, none⟩ = some (.string ⟨p.toArray⟩)) (c2 : w.cell? ⟨g, o + 2, none⟩ = some (.string ⟨q.toArray⟩)) :
    Calls Tryz.prog 49 #[.slice (some ⟨g, o, none⟩) 3 c, .bool woken] w fun e w' => e = .returned (rcmdR (⟨[112, 117, 116], p, [], q⟩, Wd.isPath p && Wd.isWord q && Wd.under p)) ∧ Below w.heap.size w w' := by
  cases h1 : Wd.isPath p <;> cases h2 : Wd.isWord q
  all_goals
    have hgn : ¬ g = w.heap.size := by omega
    have hgn1 : ¬ g = w.heap.size + 1 := by omega
    go_enter Tryz.func49, Tryz.ntmps49
    go_wp2_with fail
    go_region
    all_goals
      go_wp2_with (first
        | (go_at_call_of 46 (Value.string ⟨p.toArray⟩); refine (rIsPath_any p hp _).mono ?_; rintro e w' ⟨he, rfl⟩; rw [h1] at he; subst he)
        | (go_at_call 72; refine (risWord_any q hq _).mono ?_; rintro e w' ⟨he, rfl⟩; rw [h2] at he; subst he))
      first
        | go_region
        | go_region_with (first | (go_at_call 48; refine (rbegins_any p _).mono ?_; rintro e w' ⟨rfl, rfl⟩))
      all_goals go_wp2_with fail
      all_goals first
        | exact bodyPost_ret (v := .tuple #[.agg #[.string ⟨#[112, 117, 116]⟩, .string ⟨p.toArray⟩, .string ⟨#[]⟩, .string ⟨q.toArray⟩], .bool (false)]) (by simp [results, Tryz.results49, go_sem]) rfl ⟨rfl, (((Below.refl _ w).alloc (Nat.le_refl _) _).alloc (by simp) _).drew.drew⟩
        | exact bodyPost_ret (v := .tuple #[.agg #[.string ⟨#[112, 117, 116]⟩, .string ⟨p.toArray⟩, .string ⟨#[]⟩, .string ⟨q.toArray⟩], .bool (Wd.under p)]) (by simp [results, Tryz.results49, go_sem]) rfl ⟨rfl, (((Below.refl _ w).alloc (Nat.le_refl _) _).alloc (by simp) _).drew.drew⟩

set_option maxRecDepth 100000 in
set_option maxHeartbeats 1000000 in
theorem rcommand_add (g o c : Nat) (p q : List UInt8) (hp : p.length ≤ 2000) (hq : q.length ≤ 2000) (woken : Bool) (w : World)
    (hg : g < w.heap.size) (c0 : w.cell? ⟨g, o, none⟩ = some (.string ⟨#[97, 100, 100]⟩)) (c1 : w.cell? ⟨g, o + 1, none⟩ = some (.string ⟨p.toArray⟩)) (c2 : w.cell? ⟨g, o + 2, none⟩ = some (.string ⟨q.toArray⟩)) :
    Calls Tryz.prog 49 #[.slice (some ⟨g, o, none⟩) 3 c, .bool woken] w fun e w' => e = .returned (rcmdR (⟨[97, 100, 100], p, [], q⟩, Wd.isPath p && Wd.isWord q && Wd.under p)) ∧ Below w.heap.size w w' := by
  cases h1 : Wd.isPath p <;> cases h2 : Wd.isWord q
  all_goals
    have hgn : ¬ g = w.heap.size := by omega
    have hgn1 : ¬ g = w.heap.size + 1 := by omega
    go_enter Tryz.func49, Tryz.ntmps49
    go_wp2_with fail
    go_region
    all_goals
      go_wp2_with (first
        | (go_at_call_of 46 (Value.string ⟨p.toArray⟩); refine (rIsPath_any p hp _).mono ?_; rintro e w' ⟨he, rfl⟩; rw [h1] at he; subst he)
        | (go_at_call 72; refine (risWord_any q hq _).mono ?_; rintro e w' ⟨he, rfl⟩; rw [h2] at he; subst he))
      first
        | go_region
        | go_region_with (first | (go_at_call 48; refine (rbegins_any p _).mono ?_; rintro e w' ⟨rfl, rfl⟩))
      all_goals go_wp2_with fail
      all_goals first
        | exact bodyPost_ret (v := .tuple #[.agg #[.string ⟨#[97, 100, 100]⟩, .string ⟨p.toArray⟩, .string ⟨#[]⟩, .string ⟨q.toArray⟩], .bool (false)]) (by simp [results, Tryz.results49, go_sem]) rfl ⟨rfl, (((Below.refl _ w).alloc (Nat.le_refl _) _).alloc (by simp) _).drew.drew⟩
        | exact bodyPost_ret (v := .tuple #[.agg #[.string ⟨#[97, 100, 100]⟩, .string ⟨p.toArray⟩, .string ⟨#[]⟩, .string ⟨q.toArray⟩], .bool (Wd.under p)]) (by simp [results, Tryz.results49, go_sem]) rfl ⟨rfl, (((Below.refl _ w).alloc (Nat.le_refl _) _).alloc (by simp) _).drew.drew⟩

set_option maxRecDepth 100000 in
set_option maxHeartbeats 1000000 in
theorem rcommand_copy (g o c : Nat) (p q : List UInt8) (hp : p.length ≤ 2000) (hq : q.length ≤ 2000) (woken : Bool) (w : World)
    (hg : g < w.heap.size) (c0 : w.cell? ⟨g, o, none⟩ = some (.string ⟨#[99, 111, 112, 121]⟩)) (c1 : w.cell? ⟨g, o + 1, none⟩ = some (.string ⟨p.toArray⟩)) (c2 : w.cell? ⟨g, o + 2, none⟩ = some (.string ⟨q.toArray⟩)) :
    Calls Tryz.prog 49 #[.slice (some ⟨g, o, none⟩) 3 c, .bool woken] w fun e w' => e = .returned (rcmdR (⟨[99, 111, 112, 121], p, q, []⟩, Wd.isPath p && Wd.isPath q && Wd.under q)) ∧ Below w.heap.size w w' := by
  cases h1 : Wd.isPath p <;> cases h2 : Wd.isPath q
  all_goals
    have hgn : ¬ g = w.heap.size := by omega
    have hgn1 : ¬ g = w.heap.size + 1 := by omega
    go_enter Tryz.func49, Tryz.ntmps49
    go_wp2_with fail
    go_region
    all_goals
      go_wp2_with (first
        | (go_at_call_of 46 (Value.string ⟨p.toArray⟩); refine (rIsPath_any p hp _).mono ?_; rintro e w' ⟨he, rfl⟩; rw [h1] at he; subst he)
        | (go_at_call_of 46 (Value.string ⟨q.toArray⟩); refine (rIsPath_any q hq _).mono ?_; rintro e w' ⟨he, rfl⟩; rw [h2] at he; subst he))
      first
        | go_region
        | go_region_with (first | (go_at_call 48; refine (rbegins_any q _).mono ?_; rintro e w' ⟨rfl, rfl⟩))
      all_goals go_wp2_with fail
      all_goals first
        | exact bodyPost_ret (v := .tuple #[.agg #[.string ⟨#[99, 111, 112, 121]⟩, .string ⟨p.toArray⟩, .string ⟨q.toArray⟩, .string ⟨#[]⟩], .bool (false)]) (by simp [results, Tryz.results49, go_sem]) rfl ⟨rfl, (((Below.refl _ w).alloc (Nat.le_refl _) _).alloc (by simp) _).drew.drew⟩
        | exact bodyPost_ret (v := .tuple #[.agg #[.string ⟨#[99, 111, 112, 121]⟩, .string ⟨p.toArray⟩, .string ⟨q.toArray⟩, .string ⟨#[]⟩], .bool (Wd.under q)]) (by simp [results, Tryz.results49, go_sem]) rfl ⟨rfl, (((Below.refl _ w).alloc (Nat.le_refl _) _).alloc (by simp) _).drew.drew⟩

set_option maxRecDepth 100000 in
set_option maxHeartbeats 1000000 in
theorem rcommand_drop (g o c : Nat) (p : List UInt8) (hp : p.length ≤ 2000) (woken : Bool) (w : World)
    (hg : g < w.heap.size) (c0 : w.cell? ⟨g, o, none⟩ = some (.string ⟨#[100, 114, 111, 112]⟩)) (c1 : w.cell? ⟨g, o + 1, none⟩ = some (.string ⟨p.toArray⟩)) :
    Calls Tryz.prog 49 #[.slice (some ⟨g, o, none⟩) 2 c, .bool woken] w fun e w' => e = .returned (rcmdR (⟨[100, 114, 111, 112], p, [], []⟩, Wd.isPath p && Wd.under p)) ∧ Below w.heap.size w w' := by
  cases h1 : Wd.isPath p
  all_goals
    have hgn : ¬ g = w.heap.size := by omega
    have hgn1 : ¬ g = w.heap.size + 1 := by omega
    go_enter Tryz.func49, Tryz.ntmps49
    go_wp2_with fail
    go_region
    all_goals
      go_wp2_with (first
        | (go_at_call_of 46 (Value.string ⟨p.toArray⟩); refine (rIsPath_any p hp _).mono ?_; rintro e w' ⟨he, rfl⟩; rw [h1] at he; subst he))
      first
        | go_region
        | go_region_with (first | (go_at_call 48; refine (rbegins_any p _).mono ?_; rintro e w' ⟨rfl, rfl⟩))
      all_goals go_wp2_with fail
      all_goals first
        | exact bodyPost_ret (v := .tuple #[.agg #[.string ⟨#[100, 114, 111, 112]⟩, .string ⟨p.toArray⟩, .string ⟨#[]⟩, .string ⟨#[]⟩], .bool (false)]) (by simp [results, Tryz.results49, go_sem]) rfl ⟨rfl, (((Below.refl _ w).alloc (Nat.le_refl _) _).alloc (by simp) _).drew.drew⟩
        | exact bodyPost_ret (v := .tuple #[.agg #[.string ⟨#[100, 114, 111, 112]⟩, .string ⟨p.toArray⟩, .string ⟨#[]⟩, .string ⟨#[]⟩], .bool (Wd.under p)]) (by simp [results, Tryz.results49, go_sem]) rfl ⟨rfl, (((Below.refl _ w).alloc (Nat.le_refl _) _).alloc (by simp) _).drew.drew⟩

set_option maxRecDepth 100000 in
set_option maxHeartbeats 1000000 in
theorem rcommand_list (g o c : Nat) (p : List UInt8) (hp : p.length ≤ 2000) (w : World)
    (hg : g < w.heap.size) (c0 : w.cell? ⟨g, o, none⟩ = some (.string ⟨#[108, 105, 115, 116]⟩)) (c1 : w.cell? ⟨g, o + 1, none⟩ = some (.string ⟨p.toArray⟩)) :
    Calls Tryz.prog 49 #[.slice (some ⟨g, o, none⟩) 2 c, .bool true] w fun e w' => e = .returned (rcmdR (⟨[108, 105, 115, 116], p, [], []⟩, Wd.isPath p && Wd.under p)) ∧ Below w.heap.size w w' := by
  cases h1 : Wd.isPath p
  all_goals
    have hgn : ¬ g = w.heap.size := by omega
    have hgn1 : ¬ g = w.heap.size + 1 := by omega
    go_enter Tryz.func49, Tryz.ntmps49
    go_wp2_with fail
    go_region
    all_goals
      go_wp2_with (first
        | (go_at_call_of 46 (Value.string ⟨p.toArray⟩); refine (rIsPath_any p hp _).mono ?_; rintro e w' ⟨he, rfl⟩; rw [h1] at he; subst he))
      first
        | go_region
        | go_region_with (first | (go_at_call 48; refine (rbegins_any p _).mono ?_; rintro e w' ⟨rfl, rfl⟩))
      all_goals go_wp2_with fail
      all_goals first
        | exact bodyPost_ret (v := .tuple #[.agg #[.string ⟨#[108, 105, 115, 116]⟩, .string ⟨p.toArray⟩, .string ⟨#[]⟩, .string ⟨#[]⟩], .bool (false)]) (by simp [results, Tryz.results49, go_sem]) rfl ⟨rfl, (((Below.refl _ w).alloc (Nat.le_refl _) _).alloc (by simp) _).drew.drew⟩
        | exact bodyPost_ret (v := .tuple #[.agg #[.string ⟨#[108, 105, 115, 116]⟩, .string ⟨p.toArray⟩, .string ⟨#[]⟩, .string ⟨#[]⟩], .bool (Wd.under p)]) (by simp [results, Tryz.results49, go_sem]) rfl ⟨rfl, (((Below.refl _ w).alloc (Nat.le_refl _) _).alloc (by simp) _).drew.drew⟩

set_option maxRecDepth 100000 in
set_option maxHeartbeats 1000000 in
theorem rcommand_no (g o c n : Nat) (v p : List UInt8) (hp : p.length ≤ 2000) (woken : Bool) (w : World) (hn : 2 ≤ n) (hv : Arc.vb v = 0)
    (hg : g < w.heap.size) (c0 : w.cell? ⟨g, o, none⟩ = some (.string ⟨v.toArray⟩)) (c1 : w.cell? ⟨g, o + 1, none⟩ = some (.string ⟨p.toArray⟩)) :
    Calls Tryz.prog 49 #[.slice (some ⟨g, o, none⟩) n c, .bool woken] w fun e w' => e = .returned (rcmdR (⟨v, p, [], []⟩, false)) ∧ Below w.heap.size w w' := by
  have hb : ¬ (n : Int) < 2 := by omega
  have hi1 : (1 : Int) < n := by omega
  have hi0 : (0 : Int) < n := by omega
  obtain ⟨v1, v2, v3, v4, v5⟩ : (v == [112, 117, 116]) = false ∧ (v == [97, 100, 100]) = false ∧ (v == [99, 111, 112, 121]) = false ∧ (v == [100, 114, 111, 112]) = false ∧ (v == [108, 105, 115, 116]) = false := by
    unfold Arc.vb at hv
    refine ⟨?_, ?_, ?_, ?_, ?_⟩ <;> (apply Bool.eq_false_iff.2; intro e; rw [beq_iff_eq] at e; subst e; simp at hv)
  clear hv
  cases h1 : Wd.isPath p
  all_goals
    have hgn : ¬ g = w.heap.size := by omega
    have hgn1 : ¬ g = w.heap.size + 1 := by omega
    go_enter Tryz.func49, Tryz.ntmps49
    go_wp2_with fail
    go_region
    all_goals
      go_wp2_with (first
        | (go_at_call_of 46 (Value.string ⟨p.toArray⟩); refine (rIsPath_any p hp _).mono ?_; rintro e w' ⟨he, rfl⟩; rw [h1] at he; subst he))
      all_goals first
        | exact bodyPost_ret (v := .tuple #[.agg #[.string ⟨v.toArray⟩, .string ⟨p.toArray⟩, .string ⟨#[]⟩, .string ⟨#[]⟩], .bool false]) (by simp [results, Tryz.results49, go_sem]) rfl ⟨rfl, (((Below.refl _ w).alloc (Nat.le_refl _) _).alloc (by simp) _).drew⟩
        | exact bodyPost_ret (v := .tuple #[.agg #[.string ⟨v.toArray⟩, .string ⟨p.toArray⟩, .string ⟨#[]⟩, .string ⟨#[]⟩], .bool false]) (by simp [results, Tryz.results49, go_sem]) rfl ⟨rfl, (((Below.refl _ w).alloc (Nat.le_refl _) _).alloc (by simp) _)⟩

set_option maxRecDepth 100000 in
set_option maxHeartbeats 1000000 in
theorem rcommand_put_count (g o c n : Nat) (p : List UInt8) (hp : p.length ≤ 2000) (woken : Bool) (w : World) (hn : 2 ≤ n) (h3 : n ≠ 3)
    (hg : g < w.heap.size) (c0 : w.cell? ⟨g, o, none⟩ = some (.string ⟨#[112, 117, 116]⟩)) (c1 : w.cell? ⟨g, o + 1, none⟩ = some (.string ⟨p.toArray⟩)) :
    Calls Tryz.prog 49 #[.slice (some ⟨g, o, none⟩) n c, .bool woken] w fun e w' => e = .returned (rcmdR (⟨[112, 117, 116], p, [], []⟩, false)) ∧ Below w.heap.size w w' := by
  have hb : ¬ (n : Int) < 2 := by omega
  have hi1 : (1 : Int) < n := by omega
  have hi0 : (0 : Int) < n := by omega
  have hi3 : ((n : Int) == 3) = false := by simp; omega
  cases h1 : Wd.isPath p
  all_goals
    have hgn : ¬ g = w.heap.size := by omega
    have hgn1 : ¬ g = w.heap.size + 1 := by omega
    go_enter Tryz.func49, Tryz.ntmps49
    go_wp2_with fail
    go_region
    all_goals
      go_wp2_with (first
        | (go_at_call_of 46 (Value.string ⟨p.toArray⟩); refine (rIsPath_any p hp _).mono ?_; rintro e w' ⟨he, rfl⟩; rw [h1] at he; subst he))
      all_goals first
        | exact bodyPost_ret (v := .tuple #[.agg #[.string ⟨#[112, 117, 116]⟩, .string ⟨p.toArray⟩, .string ⟨#[]⟩, .string ⟨#[]⟩], .bool false]) (by simp [results, Tryz.results49, go_sem]) rfl ⟨rfl, (((Below.refl _ w).alloc (Nat.le_refl _) _).alloc (by simp) _).drew⟩
        | exact bodyPost_ret (v := .tuple #[.agg #[.string ⟨#[112, 117, 116]⟩, .string ⟨p.toArray⟩, .string ⟨#[]⟩, .string ⟨#[]⟩], .bool false]) (by simp [results, Tryz.results49, go_sem]) rfl ⟨rfl, (((Below.refl _ w).alloc (Nat.le_refl _) _).alloc (by simp) _)⟩

set_option maxRecDepth 100000 in
set_option maxHeartbeats 1000000 in
theorem rcommand_add_count (g o c n : Nat) (p : List UInt8) (hp : p.length ≤ 2000) (woken : Bool) (w : World) (hn : 2 ≤ n) (h3 : n ≠ 3)
    (hg : g < w.heap.size) (c0 : w.cell? ⟨g, o, none⟩ = some (.string ⟨#[97, 100, 100]⟩)) (c1 : w.cell? ⟨g, o + 1, none⟩ = some (.string ⟨p.toArray⟩)) :
    Calls Tryz.prog 49 #[.slice (some ⟨g, o, none⟩) n c, .bool woken] w fun e w' => e = .returned (rcmdR (⟨[97, 100, 100], p, [], []⟩, false)) ∧ Below w.heap.size w w' := by
  have hb : ¬ (n : Int) < 2 := by omega
  have hi1 : (1 : Int) < n := by omega
  have hi0 : (0 : Int) < n := by omega
  have hi3 : ((n : Int) == 3) = false := by simp; omega
  cases h1 : Wd.isPath p
  all_goals
    have hgn : ¬ g = w.heap.size := by omega
    have hgn1 : ¬ g = w.heap.size + 1 := by omega
    go_enter Tryz.func49, Tryz.ntmps49
    go_wp2_with fail
    go_region
    all_goals
      go_wp2_with (first
        | (go_at_call_of 46 (Value.string ⟨p.toArray⟩); refine (rIsPath_any p hp _).mono ?_; rintro e w' ⟨he, rfl⟩; rw [h1] at he; subst he))
      all_goals first
        | exact bodyPost_ret (v := .tuple #[.agg #[.string ⟨#[97, 100, 100]⟩, .string ⟨p.toArray⟩, .string ⟨#[]⟩, .string ⟨#[]⟩], .bool false]) (by simp [results, Tryz.results49, go_sem]) rfl ⟨rfl, (((Below.refl _ w).alloc (Nat.le_refl _) _).alloc (by simp) _).drew⟩
        | exact bodyPost_ret (v := .tuple #[.agg #[.string ⟨#[97, 100, 100]⟩, .string ⟨p.toArray⟩, .string ⟨#[]⟩, .string ⟨#[]⟩], .bool false]) (by simp [results, Tryz.results49, go_sem]) rfl ⟨rfl, (((Below.refl _ w).alloc (Nat.le_refl _) _).alloc (by simp) _)⟩

set_option maxRecDepth 100000 in
set_option maxHeartbeats 1000000 in
theorem rcommand_copy_count (g o c n : Nat) (p : List UInt8) (hp : p.length ≤ 2000) (woken : Bool) (w : World) (hn : 2 ≤ n) (h3 : n ≠ 3)
    (hg : g < w.heap.size) (c0 : w.cell? ⟨g, o, none⟩ = some (.string ⟨#[99, 111, 112, 121]⟩)) (c1 : w.cell? ⟨g, o + 1, none⟩ = some (.string ⟨p.toArray⟩)) :
    Calls Tryz.prog 49 #[.slice (some ⟨g, o, none⟩) n c, .bool woken] w fun e w' => e = .returned (rcmdR (⟨[99, 111, 112, 121], p, [], []⟩, false)) ∧ Below w.heap.size w w' := by
  have hb : ¬ (n : Int) < 2 := by omega
  have hi1 : (1 : Int) < n := by omega
  have hi0 : (0 : Int) < n := by omega
  have hi3 : ((n : Int) == 3) = false := by simp; omega
  cases h1 : Wd.isPath p
  all_goals
    have hgn : ¬ g = w.heap.size := by omega
    have hgn1 : ¬ g = w.heap.size + 1 := by omega
    go_enter Tryz.func49, Tryz.ntmps49
    go_wp2_with fail
    go_region
    all_goals
      go_wp2_with (first
        | (go_at_call_of 46 (Value.string ⟨p.toArray⟩); refine (rIsPath_any p hp _).mono ?_; rintro e w' ⟨he, rfl⟩; rw [h1] at he; subst he))
      all_goals first
        | exact bodyPost_ret (v := .tuple #[.agg #[.string ⟨#[99, 111, 112, 121]⟩, .string ⟨p.toArray⟩, .string ⟨#[]⟩, .string ⟨#[]⟩], .bool false]) (by simp [results, Tryz.results49, go_sem]) rfl ⟨rfl, (((Below.refl _ w).alloc (Nat.le_refl _) _).alloc (by simp) _).drew⟩
        | exact bodyPost_ret (v := .tuple #[.agg #[.string ⟨#[99, 111, 112, 121]⟩, .string ⟨p.toArray⟩, .string ⟨#[]⟩, .string ⟨#[]⟩], .bool false]) (by simp [results, Tryz.results49, go_sem]) rfl ⟨rfl, (((Below.refl _ w).alloc (Nat.le_refl _) _).alloc (by simp) _)⟩

set_option maxRecDepth 100000 in
set_option maxHeartbeats 1000000 in
theorem rcommand_drop_count (g o c n : Nat) (p : List UInt8) (hp : p.length ≤ 2000) (woken : Bool) (w : World) (hn : 2 ≤ n) (h3 : n ≠ 2)
    (hg : g < w.heap.size) (c0 : w.cell? ⟨g, o, none⟩ = some (.string ⟨#[100, 114, 111, 112]⟩)) (c1 : w.cell? ⟨g, o + 1, none⟩ = some (.string ⟨p.toArray⟩)) :
    Calls Tryz.prog 49 #[.slice (some ⟨g, o, none⟩) n c, .bool woken] w fun e w' => e = .returned (rcmdR (⟨[100, 114, 111, 112], p, [], []⟩, false)) ∧ Below w.heap.size w w' := by
  have hb : ¬ (n : Int) < 2 := by omega
  have hi1 : (1 : Int) < n := by omega
  have hi0 : (0 : Int) < n := by omega
  have hi3 : ((n : Int) == 2) = false := by simp; omega
  cases h1 : Wd.isPath p
  all_goals
    have hgn : ¬ g = w.heap.size := by omega
    have hgn1 : ¬ g = w.heap.size + 1 := by omega
    go_enter Tryz.func49, Tryz.ntmps49
    go_wp2_with fail
    go_region
    all_goals
      go_wp2_with (first
        | (go_at_call_of 46 (Value.string ⟨p.toArray⟩); refine (rIsPath_any p hp _).mono ?_; rintro e w' ⟨he, rfl⟩; rw [h1] at he; subst he))
      all_goals first
        | exact bodyPost_ret (v := .tuple #[.agg #[.string ⟨#[100, 114, 111, 112]⟩, .string ⟨p.toArray⟩, .string ⟨#[]⟩, .string ⟨#[]⟩], .bool false]) (by simp [results, Tryz.results49, go_sem]) rfl ⟨rfl, (((Below.refl _ w).alloc (Nat.le_refl _) _).alloc (by simp) _).drew⟩
        | exact bodyPost_ret (v := .tuple #[.agg #[.string ⟨#[100, 114, 111, 112]⟩, .string ⟨p.toArray⟩, .string ⟨#[]⟩, .string ⟨#[]⟩], .bool false]) (by simp [results, Tryz.results49, go_sem]) rfl ⟨rfl, (((Below.refl _ w).alloc (Nat.le_refl _) _).alloc (by simp) _)⟩

set_option maxRecDepth 100000 in
set_option maxHeartbeats 1000000 in
theorem rcommand_list_count (g o c n : Nat) (p : List UInt8) (hp : p.length ≤ 2000) (woken : Bool) (w : World) (hn : 2 ≤ n) (h3 : n ≠ 2)
    (hg : g < w.heap.size) (c0 : w.cell? ⟨g, o, none⟩ = some (.string ⟨#[108, 105, 115, 116]⟩)) (c1 : w.cell? ⟨g, o + 1, none⟩ = some (.string ⟨p.toArray⟩)) :
    Calls Tryz.prog 49 #[.slice (some ⟨g, o, none⟩) n c, .bool woken] w fun e w' => e = .returned (rcmdR (⟨[108, 105, 115, 116], p, [], []⟩, false)) ∧ Below w.heap.size w w' := by
  have hb : ¬ (n : Int) < 2 := by omega
  have hi1 : (1 : Int) < n := by omega
  have hi0 : (0 : Int) < n := by omega
  have hi3 : ((n : Int) == 2) = false := by simp; omega
  cases h1 : Wd.isPath p
  all_goals
    have hgn : ¬ g = w.heap.size := by omega
    have hgn1 : ¬ g = w.heap.size + 1 := by omega
    go_enter Tryz.func49, Tryz.ntmps49
    go_wp2_with fail
    go_region
    all_goals
      go_wp2_with (first
        | (go_at_call_of 46 (Value.string ⟨p.toArray⟩); refine (rIsPath_any p hp _).mono ?_; rintro e w' ⟨he, rfl⟩; rw [h1] at he; subst he))
      all_goals first
        | exact bodyPost_ret (v := .tuple #[.agg #[.string ⟨#[108, 105, 115, 116]⟩, .string ⟨p.toArray⟩, .string ⟨#[]⟩, .string ⟨#[]⟩], .bool false]) (by simp [results, Tryz.results49, go_sem]) rfl ⟨rfl, (((Below.refl _ w).alloc (Nat.le_refl _) _).alloc (by simp) _).drew⟩
        | exact bodyPost_ret (v := .tuple #[.agg #[.string ⟨#[108, 105, 115, 116]⟩, .string ⟨p.toArray⟩, .string ⟨#[]⟩, .string ⟨#[]⟩], .bool false]) (by simp [results, Tryz.results49, go_sem]) rfl ⟨rfl, (((Below.refl _ w).alloc (Nat.le_refl _) _).alloc (by simp) _)⟩

set_option maxRecDepth 100000 in
set_option maxHeartbeats 1000000 in
theorem rcommand_list_sleep (g o c : Nat) (p : List UInt8) (hp : p.length ≤ 2000) (w : World)
    (hg : g < w.heap.size) (c0 : w.cell? ⟨g, o, none⟩ = some (.string ⟨#[108, 105, 115, 116]⟩)) (c1 : w.cell? ⟨g, o + 1, none⟩ = some (.string ⟨p.toArray⟩)) :
    Calls Tryz.prog 49 #[.slice (some ⟨g, o, none⟩) 2 c, .bool false] w fun e w' => e = .returned (rcmdR (⟨[108, 105, 115, 116], p, [], []⟩, false)) ∧ Below w.heap.size w w' := by
  cases h1 : Wd.isPath p
  all_goals
    have hgn : ¬ g = w.heap.size := by omega
    have hgn1 : ¬ g = w.heap.size + 1 := by omega
    go_enter Tryz.func49, Tryz.ntmps49
    go_wp2_with fail
    go_region
    all_goals
      go_wp2_with (first
        | (go_at_call_of 46 (Value.string ⟨p.toArray⟩); refine (rIsPath_any p hp _).mono ?_; rintro e w' ⟨he, rfl⟩; rw [h1] at he; subst he))
      all_goals first
        | exact bodyPost_ret (v := .tuple #[.agg #[.string ⟨#[108, 105, 115, 116]⟩, .string ⟨p.toArray⟩, .string ⟨#[]⟩, .string ⟨#[]⟩], .bool false]) (by simp [results, Tryz.results49, go_sem]) rfl ⟨rfl, (((Below.refl _ w).alloc (Nat.le_refl _) _).alloc (by simp) _).drew⟩
        | exact bodyPost_ret (v := .tuple #[.agg #[.string ⟨#[108, 105, 115, 116]⟩, .string ⟨p.toArray⟩, .string ⟨#[]⟩, .string ⟨#[]⟩], .bool false]) (by simp [results, Tryz.results49, go_sem]) rfl ⟨rfl, (((Below.refl _ w).alloc (Nat.le_refl _) _).alloc (by simp) _)⟩
end Go.Proofs.YtgdmgmklncmanaaGreatDoor
