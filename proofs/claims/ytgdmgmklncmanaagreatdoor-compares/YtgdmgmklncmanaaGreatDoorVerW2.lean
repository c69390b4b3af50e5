/- The walks over words.All and cutRow: a function value handed in, by its contract. -/
import Derived.Test.YtgdmgmklncmanaaGreatDoorVerW1
import Derived.Lib.ConvBytes
namespace Go.Proofs.YtgdmgmklncmanaaGreatDoor
open Go.RowKit

theorem below_bytesWorld (w : World) (e : TypeId) (s : ByteArray) : Below w.heap.size w (Lib.bytesWorld w e s) := by
  refine ⟨rfl, rfl, rfl, ?_, fun k hk => Lib.bytesWorld_at_old w e s k hk⟩
  rw [Lib.bytesWorld_size]; omega

/-- What turning a text into bytes makes: a new row with the bytes. -/
theorem bytes_made (s : ByteArray) (w : World) : ∃ (w1 : World) (cap : Nat), (convert 9 113 (.string s)).run Tryz.prog w = .ok (.slice (some ⟨w.heap.size, 0, none⟩) s.size cap) w1
    ∧ (∀ j, j < s.size → w1.cell? ⟨w.heap.size, j, none⟩ = some (.int .u8 (s.data.toList.getD j 0).toNat)) ∧ Below w.heap.size w w1 :=
  ⟨_, _, Lib.run_convert_string_bytes w 9 113 5 s Tryz.underlying9 Tryz.underlying113 Tryz.underlying5,
    fun j hj => Lib.bytesWorld_cell w 5 s j hj, below_bytesWorld w 5 s⟩

theorem all_step {f : UInt8 → Bool} {s : ByteArray} {k : Nat} (h : k < s.size) (ha : (s.data.toList.take k).all f = true) (hf : f (s.data[k]'h) = true) : (s.data.toList.take (k + 1)).all f = true := by
  rw [List.take_succ_eq_append_getElem (by simpa using h), List.all_append, ha]; simpa using hf
theorem all_fails {f : UInt8 → Bool} {s : ByteArray} {k : Nat} (h : k < s.size) (hf : f (s.data[k]'h) = false) : Ver.allL f s.data.toList = false := by
  rw [Ver.allL, List.all_eq_false]
  exact ⟨s.data[k]'h, by simp, by simp [hf]⟩
theorem all_whole {f : UInt8 → Bool} {s : ByteArray} {k : Nat} (h : ¬ k < s.size) (ha : (s.data.toList.take k).all f = true) : Ver.allL f s.data.toList = true := by
  rwa [List.take_of_length_le (by simpa using h)] at ha

set_option maxHeartbeats 400000 in
theorem all_any (g : Nat) (f : UInt8 → Bool) (he : ∀ args w, (callFunc g args).run Tryz.prog w = .ok (.enter g args) w)
    (hg : ∀ (c : UInt8) (w : World), Calls Tryz.prog g #[.int .u8 c.toNat] w fun e w' => e = .returned (.bool (f c)) ∧ w' = w)
    (s : ByteArray) (hs : s.size ≤ 140737488355328) (w : World) :
    Calls Tryz.prog 55 #[.string s, .func (.func g) #[] #[]] w fun e w' => e = .returned (.bool (Ver.allL f s.data.toList)) ∧ Below w.heap.size w w' := by
  obtain ⟨w1, cap, hrun, hcell, hb⟩ := bytes_made s w
  have HB := hide hb; clear hb
  go_enter Tryz.func55, Tryz.ntmps55
  go_wp2_with fail
  go_loop [10] (fun i => ∃ k : Nat, k ≤ s.size ∧ i = .int .i64 k ∧ (s.data.toList.take k).all f = true) (fun i => s.size - (intOf i).toNat)
  case atStart => exact ⟨0, Nat.zero_le _, rfl, rfl⟩
  case round =>
    obtain ⟨k, hk, rfl, hall⟩ := hrel
    have HA := hide hall; clear hall
    by_cases hlt : k < s.size
    · have hck := hcell k hlt
      cases hf : f (s.data[k]'hlt)
      · go_wp2_with (refine (hg _ _).mono ?_; rintro e w' ⟨rfl, rfl⟩)
        go_ret
        exact ⟨ret_bool (all_fails hlt hf).symm, HB.out⟩
      · go_wp2_with (refine (hg _ _).mono ?_; rintro e w' ⟨rfl, rfl⟩)
        go_round
        case rel => exact ⟨k + 1, by omega, by go_num, all_step hlt HA.out hf⟩
        case measure => simp [intOf]; omega
    · go_wp2_with fail
      go_ret
      exact ⟨ret_bool (all_whole hlt HA.out).symm, HB.out⟩
theorem enters {f : Func} {K : Nat} {c : Code} (hf : Tryz.prog.funcs[K]? = some f) (hn : (f.name == "runtime.NumGoroutine") = false) (hb : f.body = some c) (args : Array Value) (w : World) : (callFunc K args).run Tryz.prog w = .ok (.enter K args) w := by
  have h1 : f.name ≠ "runtime.NumGoroutine" := by simpa using hn
  simp [callFunc, hf, h1, hb, mark]

theorem row_step {f : UInt8 → Bool} {s : ByteArray} {k : Nat} (h : k < s.size) (ha : (s.data.toList.take k).all f = true) (hf : f s[k] = true) : (s.data.toList.take (k + 1)).all f = true :=
  all_step h ha hf
theorem take_row {f : UInt8 → Bool} {l : List UInt8} {k : Nat} (ha : (l.take k).all f = true) (hf : ∀ h : k < l.length, f l[k] = false) : l.takeWhile f = l.take k ∧ l.dropWhile f = l.drop k := by
  induction l generalizing k with
  | nil => simp
  | cons c l ih =>
    cases k with
    | zero => have := hf (by simp); simp at this; simp [this]
    | succ k =>
      simp only [List.take_succ_cons, List.all_cons, Bool.and_eq_true] at ha
      have := ih ha.2 (fun h => by have := hf (by simpa using h); simpa using this)
      simp [ha.1, this.1, this.2]
theorem row_ends {f : UInt8 → Bool} {s : ByteArray} {k : Nat} (ha : (s.data.toList.take k).all f = true) (hf : ∀ h : k < s.size, f s[k] = false) :
    Ver.pre f s.data.toList = s.data.toList.take k ∧ Ver.suf f s.data.toList = s.data.toList.drop k :=
  take_row ha (fun h => hf (by simpa using h))

set_option maxHeartbeats 400000 in
theorem cutRow_any (g : Nat) (f : UInt8 → Bool) (he : ∀ args w, (callFunc g args).run Tryz.prog w = .ok (.enter g args) w)
    (hg : ∀ (c : UInt8) (w : World), Calls Tryz.prog g #[.int .u8 c.toNat] w fun e w' => e = .returned (.bool (f c)) ∧ w' = w)
    (s : ByteArray) (hs : s.size ≤ 140737488355328) (w : World) :
    Calls Tryz.prog 62 #[.string s, .func (.func g) #[] #[]] w fun e w' =>
      e = .returned (.tuple #[.string ⟨(Ver.pre f s.data.toList).toArray⟩, .string ⟨(Ver.suf f s.data.toList).toArray⟩]) ∧ Below w.heap.size w w' := by
  go_enter Tryz.func62, Tryz.ntmps62
  go_wp2_with fail
  go_loop [6] (fun i => ∃ k : Nat, k ≤ s.size ∧ i = .int .i64 k ∧ (s.data.toList.take k).all f = true) (fun i => s.size - (intOf i).toNat)
  case atStart => exact ⟨0, Nat.zero_le _, rfl, rfl⟩
  case round =>
    obtain ⟨k, hk, rfl, hall⟩ := hrel
    have HA := hide hall; clear hall
    have hk1 : (0 : Int) ≤ k := by omega
    have hk2 : (k : Int) ≤ s.size := by omega
    by_cases hlt : k < s.size
    · cases hf : f s[k]
      · have HE := hide (row_ends HA.out (fun _ => hf))
        go_wp2_with (refine (hg _ _).mono ?_; rintro e w' ⟨rfl, rfl⟩)
        go_region
        all_goals (go_wp2; go_ret2; exact ⟨ret_str2 (by rw [ext_take, HE.out.1]) (by rw [ext_drop, HE.out.2]), (Below.refl _ _).drew⟩)
      · go_wp2_with (refine (hg _ _).mono ?_; rintro e w' ⟨rfl, rfl⟩)
        go_round
        case rel => exact ⟨k + 1, by omega, by go_num, row_step hlt HA.out hf⟩
        case measure => simp [intOf]; omega
    · have HE := hide (row_ends HA.out (fun h => absurd h hlt))
      go_wp2_with fail
      go_region
      all_goals (go_wp2; go_ret2; exact ⟨ret_str2 (by rw [ext_take, HE.out.1]) (by rw [ext_drop, HE.out.2]), (Below.refl _ _).drew⟩)
end Go.Proofs.YtgdmgmklncmanaaGreatDoor
