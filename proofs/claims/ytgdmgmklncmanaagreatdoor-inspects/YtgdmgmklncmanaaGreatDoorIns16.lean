/- Of Ins: RefW5. -/
import Derived.Test.YtgdmgmklncmanaaGreatDoorIns6
import Derived.Deep.RegionHeld3
import Derived.BigRegion
import Derived.Test.YtgdmgmklncmanaaGreatDoorIns15
/- The walk over the document's own answer on versions: a text of fit length. -/
namespace Go.Proofs.YtgdmgmklncmanaaGreatDoor
open Go.RowKit

theorem head_is (M : List UInt8) (h : M ≠ []) (hp : 0 < M.length) : (⟨M.toArray⟩ : ByteArray)[0]'hp = M.head h := by
  cases M with
  | nil => exact absurd rfl h
  | cons c l => rfl
theorem drop_on {s : List UInt8} {j : Nat} (hj : j < s.length) (h : (s.drop ((j : Int) + 1).toNat).all (fun c => c != 45) = true) (hd : s[j] ≠ 45) : (s.drop ((j : Int) - 1 + 1).toNat).all (fun c => c != 45) = true := by
  rw [show ((j : Int) + 1).toNat = j + 1 from by omega] at h
  rw [show ((j : Int) - 1 + 1).toNat = j from by omega, List.drop_eq_getElem_cons hj, List.all_cons, h]
  simpa using hd
theorem fin_0 {x El s M R : List UInt8} (h0 : 1 ≤ x.length) (h1 : x.length ≤ 24) (hC : Ver.cutC x = (El, s)) (hE : Ver.okE El = true) (hM : Ver.cutM s = (M, R)) :
    Ver.fine x = (Ver.okM M && Ver.okR R) ∧ M = (Ver.split3 x).m ∧ R = (Ver.split3 x).r := by
  obtain ⟨a, b⟩ := fine_of h0 h1 hC hE hM
  exact ⟨a, by rw [b], by rw [b]⟩
theorem fin_1 {M R : List UInt8} {b : Bool} (h : b = (Ver.okM M && Ver.okR R)) (hA : sgnAll true M = false) : b = false := by
  by_cases hn : M = []
  · subst hn; rw [h]; rfl
  · rw [h, okM_of M hn, hA]; simp
theorem fin_2 {M R : List UInt8} {b : Bool} (h : b = (Ver.okM M && Ver.okR R)) (hB : sgnAll false R = false) : b = false := by
  rw [h, okR_of, hB]; simp
theorem fin_3 {M R : List UInt8} {b : Bool} (h : b = (Ver.okM M && Ver.okR R)) (hn : M ≠ []) (hD : Ver.isD (M.head hn) = false) : b = false := by
  rw [h, okM_of M hn, hD]; simp
theorem fin_4 {M R : List UInt8} {b : Bool} (h : b = (Ver.okM M && Ver.okR R)) (hn : M ≠ []) (hA : sgnAll true M = true) (hB : sgnAll false R = true) (hD : Ver.isD (M.head hn) = true) : b = true := by
  rw [h, okM_of M hn, okR_of, hA, hB, hD]; rfl
theorem ep_ok {x : List UInt8} {k : Nat} (h1 : 1 ≤ k) (h4 : k ≤ 4) (hk : k < x.length) (h : (x.take k).all Ver.isD = true) : Ver.okE (x.take k) = true := by
  have e : (x.take k).length = k := by rw [List.length_take]; omega
  simp [Ver.okE, e, h1, h4, Ver.allL, h]
theorem ep_bad {x : List UInt8} {k m : Nat} (hm : m < k) (hk : k < x.length) (h : Ver.isD (x[m]'(by omega)) = false) : Ver.okE (x.take k) = false := by
  have hl : m < (x.take k).length := by rw [List.length_take]; omega
  have : (x.take k).all Ver.isD = false := by
    rw [List.all_eq_false]; exact ⟨(x.take k)[m], List.getElem_mem hl, by rw [List.getElem_take]; simp [h]⟩
  simp [Ver.okE, Ver.allL, this]
theorem ep_le {x : List UInt8} {m : Nat} (hm : m ≤ 3) (h : (x.take m).all Ver.isD = true) : 0 ≤ Ver.val (x.take m) ∧ Ver.val (x.take m) ≤ 999 := by
  have hb := Ver.vr_bd (x.take m) (List.all_eq_true.1 h)
  rw [← Ver.val_vr] at hb
  have hp := Ver.pow_mono' (a := (x.take m).length) (b := 3) (by rw [List.length_take]; omega)
  have : (10 : Int) ^ 3 = 1000 := by decide
  omega
theorem vat_drew1 {w W : World} {E : Int} {M R : List UInt8} (h : VAt w W E M R) : VAt w W.drew E M R := vat_drew h 1

set_option maxRecDepth 100000 in
set_option maxHeartbeats 8000000 in
theorem rver_long (x : List UInt8) (h0 : 1 ≤ x.length) (h1 : x.length ≤ 24) (w : World) :
    Calls Tryz.prog 15 #[.string ⟨x.toArray⟩] w (VPost x w) := by
  have hs : ¬ (x.length : Int) < 1 := by omega
  have hs' : ¬ (24 : Int) < x.length := by omega
  go_enter Tryz.func15, Tryz.ntmps15
  go_wp2_with fail
  have V0 := hide (vat_start w 57)
  generalize ((w.alloc (.cells #[.int .i64 0, .string ⟨#[]⟩, .string ⟨#[]⟩] 57)).alloc (.cells #[.int .i64 0, .string ⟨#[]⟩, .string ⟨#[48]⟩] 57)) = W at V0 ⊢
  clear hs hs'
  go_loop [0, 5] (fun s i => ∃ k : Nat, k ≤ x.length ∧ s = .string ⟨x.toArray⟩ ∧ i = .int .i64 k ∧ (x.take k).all (fun c => c != 58) = true) (fun _ i => x.length - (intOf i).toNat)
  case atStart => exact ⟨0, Nat.zero_le _, rfl, rfl, rfl⟩
  case round =>
    obtain ⟨k, hk, rfl, rfl, ha⟩ := hrel
    have HA := hide ha; clear ha
    obtain ⟨a1, a2, a3, a4, a5, a6, a7, a8, a9, b1, b2, b3, b4⟩ := V0.out
    have B4 := hide b4; clear b4
    by_cases hlt : k < x.length
    · obtain ⟨c, hc, hcx⟩ : ∃ c, (⟨x.toArray⟩ : ByteArray)[k]'hlt = c ∧ x[k] = c := ⟨_, rfl, rfl⟩
      have HX := hide hcx; clear hcx
      by_cases h58 : c.toNat = 58
      · have hb : ((c.toNat : Int) != 58) = false := by simp; omega
        have hC := cutC_at hlt HA.out (HX.out.trans (UInt8.toNat_inj.1 h58))
        have HC := hide hC; clear hC h58
        by_cases hk4 : 1 ≤ k ∧ k ≤ 4
        · obtain ⟨k1, k4⟩ := hk4
          have k1' : ¬ (k : Int) < 1 := by omega
          have k4' : ¬ (4 : Int) < k := by omega
          go_wp2_with fail
          clear a1 a2 a3 a4 a5 a6 a7 a8 a9 b1 b2 b3 B4 hc
          go_loopw [6] (fun q wr => ∃ m : Nat, m ≤ k ∧ q = .int .i64 m ∧ Hid ((x.take m).all Ver.isD = true) ∧ Hid (VAt w wr (Ver.val (x.take m)) [] [48])) (fun q _ => k - (intOf q).toNat)
          case atStart => exact ⟨0, Nat.zero_le _, rfl, hide rfl, V0⟩
          case round =>
            obtain ⟨m, hm, rfl, had, VM⟩ := hrel
            by_cases hmk : m < k
            · have hmx : m < x.length := by omega
              obtain ⟨d, hd, hdx⟩ : ∃ d, (⟨x.toArray⟩ : ByteArray)[m]'hmx = d ∧ x[m] = d := ⟨_, rfl, rfl⟩
              have HDX := hide hdx; clear hdx
              obtain ⟨e1, e2⟩ := ep_le (by omega) had.out
              have hnext := Ver.val_take hmx
              rw [HDX.out] at hnext
              have HNX := hide hnext; clear hnext
              obtain ⟨E, hE⟩ : ∃ E, Ver.val (x.take m) = E := ⟨_, rfl⟩
              rw [hE] at e1 e2 HNX VM
              clear hE
              cases hD : Ver.isD d
              · have HN := hide (fine_not HC.out (ep_bad hmk hlt (by rw [HDX.out]; exact hD)))
                obtain ⟨a1, a2, a3, a4, a5, a6, a7, a8, a9, b1, b2, b3, b4⟩ := VM.out
                have B4 := hide b4; clear b4
                go_wp2_with (go_at_call 35; refine (rdigit_any _ _).mono ?_; rintro e w' ⟨rfl, rfl⟩)
                obtain ⟨q0, q1, q2⟩ := three_sets a4 a5 a6 (.int .i64 E) (.string ⟨#[]⟩) (.string ⟨#[48]⟩)
                exact bodyPost_ret (v := .tuple #[.agg #[.int .i64 E, .string ⟨#[]⟩, .string ⟨#[48]⟩], .bool false]) (by simp [results, Tryz.results15, go_sem, q0, q1, q2]) rfl
                  ⟨E, [], [48], false, rfl, HN.out.symm, ((B4.out.setCell (Nat.le_refl _) _).setCell (Nat.le_refl _) _).setCell (Nat.le_refl _) _, fun h => by cases h⟩
              · obtain ⟨d1, d2⟩ := Ver.isD_bd hD
                obtain ⟨a1, a2, a3, a4, a5, a6, a7, a8, a9, b1, b2, b3, b4⟩ := VM.out
                have B4 := hide b4; clear b4
                go_wp2_with (go_at_call 35; refine (rdigit_any _ _).mono ?_; rintro e w' ⟨rfl, rfl⟩)
                go_region
                all_goals
                  go_wp2_with fail
                  refine ⟨⟨m + 1, by omega, by go_num, hide (take_on hmx had.out (by rw [HDX.out]; exact hD)), ?_⟩, by simp [intOf]; omega⟩
                  rw [HNX.out]
                  first
                    | exact hide (vat_drew1 (vat_E VM.out _))
                    | exact hide (vat_E (vat_drew1 VM.out) _)
            · have hmk' : m = k := by omega
              subst hmk'
              have HE := hide (ep_ok k1 k4 hlt had.out)
              obtain ⟨s, hse⟩ : ∃ s, x.drop (m + 1) = s := ⟨_, rfl⟩
              obtain ⟨El, hEl⟩ : ∃ El, x.take m = El := ⟨_, rfl⟩
              rw [hse, hEl] at HC
              rw [hEl] at HE VM
              have e4 : (⟨x.toArray⟩ : ByteArray).extract (m + 1) x.length = ⟨s.toArray⟩ := by rw [list_ext_drop, hse]
              have hls : s.length ≤ 24 := by rw [← hse, List.length_drop]; omega
              obtain ⟨Ev, hEv, HV⟩ : ∃ Ev, Ver.val El = Ev ∧ Hid (Ev = Ver.val (Ver.split3 x).e) := ⟨_, rfl, by simp only [Hid, Ver.split3, HC.out]⟩
              rw [hEv] at VM
              clear hse hEl hEv hmk
              have c4 : (↑m : Int) + 1 ≤ ↑x.length := by omega
              have VT := VM
              obtain ⟨a1, a2, a3, a4, a5, a6, a7, a8, a9, b1, b2, b3, b4⟩ := VM.out
              have B4 := hide b4; clear b4
              go_wp2_with fail
              have V2 := hide (vat_M VT.out s)
              generalize wr.setCell ⟨w.heap.size + 1, 1, none⟩ (.string ⟨s.toArray⟩) = W2 at V2 ⊢
              clear a1 a2 a3 a4 a5 a6 a7 a8 a9 b1 b2 b3 B4
              go_loop [8] (fun i => ∃ z : Int, -1 ≤ z ∧ z < (s.length : Int) ∧ i = .int .i64 z ∧ Hid ((s.drop (z + 1).toNat).all (fun c => c != 45) = true)) (fun i => (intOf i + 1).toNat)
              case atStart => exact ⟨(s.length : Int) - 1, by omega, by omega, rfl, hide (by rw [List.drop_of_length_le (by omega)]; rfl)⟩
              case round =>
                obtain ⟨z, z0, z1, rfl, hz⟩ := hrel
                obtain ⟨a1, a2, a3, a4, a5, a6, a7, a8, a9, b1, b2, b3, b4⟩ := V2.out
                have B4 := hide b4; clear b4
                by_cases hz0 : 0 ≤ z
                · obtain ⟨j, rfl⟩ := Int.eq_ofNat_of_zero_le hz0
                  have hj : j < s.length := by omega
                  obtain ⟨d, hd, hdx⟩ : ∃ d, (⟨s.toArray⟩ : ByteArray)[j]'hj = d ∧ s[j] = d := ⟨_, rfl, rfl⟩
                  have HDX := hide hdx; clear hdx
                  by_cases h45 : d.toNat = 45
                  · have hb : ((d.toNat : Int) == 45) = true := by simp; omega
                    have hM' := cutM_at hj hz.out (HDX.out.trans (UInt8.toNat_inj.1 h45))
                    obtain ⟨M, hMe⟩ : ∃ M, s.take j = M := ⟨_, rfl⟩
                    obtain ⟨R, hRe⟩ : ∃ R, s.drop (j + 1) = R := ⟨_, rfl⟩
                    rw [hMe, hRe] at hM'
                    have HM := hide hM'; clear hM' h45
                    have e2 : (⟨s.toArray⟩ : ByteArray).extract 0 j = ⟨M.toArray⟩ := by rw [list_ext_take, hMe]
                    have e3 : (⟨s.toArray⟩ : ByteArray).extract (j + 1) s.length = ⟨R.toArray⟩ := by rw [list_ext_drop, hRe]
                    have hlM : M.length ≤ 24 := by rw [← hMe, List.length_take]; omega
                    have hlR : R.length ≤ 24 := by rw [← hRe, List.length_drop]; omega
                    clear hMe hRe
                    have c1 : (0 : Int) ≤ ↑j := by omega
                    have c2 : (↑j : Int) ≤ ↑s.length := by omega
                    have c3 : (↑j : Int) + 1 ≤ ↑s.length := by omega
                    have HF := hide (fin_0 h0 h1 HC.out HE.out HM.out)
                    have V3 := hide (vat_R (vat_M V2.out M) R)
                    have r1 : ((W2.setCell ⟨w.heap.size + 1, 1, none⟩ (.string ⟨M.toArray⟩)).setCell ⟨w.heap.size + 1, 2, none⟩ (.string ⟨R.toArray⟩)).cell? ⟨w.heap.size + 1, 1, none⟩ = some (.string ⟨M.toArray⟩) := V3.out.2.1
                    go_wp2_with fail
                    clear r1
                    generalize (W2.setCell ⟨w.heap.size + 1, 1, none⟩ (.string ⟨M.toArray⟩)).setCell ⟨w.heap.size + 1, 2, none⟩ (.string ⟨R.toArray⟩) = W3 at V3 ⊢
                    clear a1 a2 a3 a4 a5 a6 a7 a8 a9 b1 b2 b3 B4 c1 c2 c3 e2 e3
                    obtain ⟨a1, a2, a3, a4, a5, a6, a7, a8, a9, b1, b2, b3, b4⟩ := V3.out
                    have B4 := hide b4; clear b4
                    refine (rsigns_any M hlM true _).mono ?_
                    rintro e w' ⟨rfl, rfl⟩
                    go_wp2_with fail
                    refine (rsigns_any R hlR false _).mono ?_
                    rintro e w' ⟨rfl, rfl⟩
                    cases hA : sgnAll true M
                    · have HN := hide (fin_1 HF.out.1 hA)
                      go_wp2_with fail
                      go_region
                      all_goals (go_wp2_with fail)
                      obtain ⟨q0, q1, q2⟩ := three_sets a4 a5 a6 (.int .i64 Ev) (.string ⟨M.toArray⟩) (.string ⟨R.toArray⟩)
                      exact bodyPost_ret (v := .tuple #[.agg #[.int .i64 Ev, .string ⟨M.toArray⟩, .string ⟨R.toArray⟩], .bool false]) (by simp [results, Tryz.results15, go_sem, q0, q1, q2]) rfl
                        ⟨Ev, M, R, false, rfl, HN.out.symm, ((B4.out.drew.setCell (Nat.le_refl _) _).setCell (Nat.le_refl _) _).setCell (Nat.le_refl _) _, fun h => by cases h⟩
                    · cases hB : sgnAll false R
                      · have HN := hide (fin_2 HF.out.1 hB)
                        go_wp2_with fail
                        go_region
                        all_goals (go_wp2_with fail)
                        obtain ⟨q0, q1, q2⟩ := three_sets a4 a5 a6 (.int .i64 Ev) (.string ⟨M.toArray⟩) (.string ⟨R.toArray⟩)
                        exact bodyPost_ret (v := .tuple #[.agg #[.int .i64 Ev, .string ⟨M.toArray⟩, .string ⟨R.toArray⟩], .bool false]) (by simp [results, Tryz.results15, go_sem, q0, q1, q2]) rfl
                          ⟨Ev, M, R, false, rfl, HN.out.symm, ((B4.out.drew.setCell (Nat.le_refl _) _).setCell (Nat.le_refl _) _).setCell (Nat.le_refl _) _, fun h => by cases h⟩
                      · have hMn : M ≠ [] := sgn_pos hA
                        have hpos : 0 < M.length := List.length_pos_iff.2 hMn
                        obtain ⟨c0, hc0, hc0x⟩ : ∃ c0, (⟨M.toArray⟩ : ByteArray)[0]'hpos = c0 ∧ M.head hMn = c0 := ⟨_, head_is _ hMn hpos, rfl⟩
                        have HX0 := hide hc0x; clear hc0x
                        have HMN := hide hMn
                        cases hD : Ver.isD c0
                        · have HN := hide (fin_3 HF.out.1 HMN.out (by rw [HX0.out]; exact hD))
                          go_wp2_with fail
                          go_region_held3 (fun w' => w'.cell? ⟨w.heap.size + 1, 0, none⟩ = some (.int .i64 Ev) ∧ w'.cell? ⟨w.heap.size + 1, 1, none⟩ = some (.string ⟨M.toArray⟩) ∧ w'.cell? ⟨w.heap.size + 1, 2, none⟩ = some (.string ⟨R.toArray⟩))
                            (first | assumption | simp [go_sem, *])
                            (first | (go_at_call 35; refine (rdigit_any c0 _).mono ?_; rintro e w' ⟨rfl, rfl⟩))
                          go_wp2_with fail
                          obtain ⟨q0, q1, q2⟩ := three_sets a4 a5 a6 (.int .i64 Ev) (.string ⟨M.toArray⟩) (.string ⟨R.toArray⟩)
                          exact bodyPost_ret (v := .tuple #[.agg #[.int .i64 Ev, .string ⟨M.toArray⟩, .string ⟨R.toArray⟩], .bool false]) (by simp [results, Tryz.results15, go_sem, q0, q1, q2]) rfl
                            ⟨Ev, M, R, false, rfl, HN.out.symm, ((B4.out.drew.setCell (Nat.le_refl _) _).setCell (Nat.le_refl _) _).setCell (Nat.le_refl _) _, fun h => by cases h⟩
                        · have HN := hide (fin_4 HF.out.1 HMN.out hA hB (by rw [HX0.out]; exact hD))
                          go_wp2_with fail
                          go_region_held3 (fun w' => w'.cell? ⟨w.heap.size + 1, 0, none⟩ = some (.int .i64 Ev) ∧ w'.cell? ⟨w.heap.size + 1, 1, none⟩ = some (.string ⟨M.toArray⟩) ∧ w'.cell? ⟨w.heap.size + 1, 2, none⟩ = some (.string ⟨R.toArray⟩))
                            (first | assumption | simp [go_sem, *])
                            (first | (go_at_call 35; refine (rdigit_any c0 _).mono ?_; rintro e w' ⟨rfl, rfl⟩))
                          go_wp2_with fail
                          obtain ⟨q0, q1, q2⟩ := three_sets a4 a5 a6 (.int .i64 Ev) (.string ⟨M.toArray⟩) (.string ⟨R.toArray⟩)
                          exact bodyPost_ret (v := .tuple #[.agg #[.int .i64 Ev, .string ⟨M.toArray⟩, .string ⟨R.toArray⟩], .bool true]) (by simp [results, Tryz.results15, go_sem, q0, q1, q2]) rfl
                            ⟨Ev, M, R, true, rfl, HN.out.symm, ((B4.out.drew.setCell (Nat.le_refl _) _).setCell (Nat.le_refl _) _).setCell (Nat.le_refl _) _, fun _ => ⟨HV.out, HF.out.2.1, HF.out.2.2⟩⟩
                  · have hb : ((d.toNat : Int) == 45) = false := by simp; omega
                    have hne : d ≠ 45 := fun e => h45 (by rw [e]; rfl)
                    have HN := hide hne; clear hne h45
                    go_wp2_with fail
                    exact ⟨⟨(j : Int) - 1, by omega, by omega, rfl, hide (drop_on hj hz.out (by rw [HDX.out]; exact HN.out))⟩, by simp only [intOf]; omega⟩
                · have hz1 : z = -1 := by omega
                  subst hz1
                  have HM := hide (cutM_no (m := s) (by simpa using hz.out))
                  have HF := hide (fin_0 h0 h1 HC.out HE.out HM.out)
                  have hlM : s.length ≤ 24 := hls
                  have hlR : ([48] : List UInt8).length ≤ 24 := by decide
                  go_wp2_with fail
                  refine (rsigns_any s hlM true _).mono ?_
                  rintro e w' ⟨rfl, rfl⟩
                  go_wp2_with fail
                  refine (rsigns_any [48] hlR false _).mono ?_
                  rintro e w' ⟨rfl, rfl⟩
                  cases hA : sgnAll true s
                  · have HN := hide (fin_1 HF.out.1 hA)
                    go_wp2_with fail
                    go_region
                    all_goals (go_wp2_with fail)
                    obtain ⟨q0, q1, q2⟩ := three_sets a4 a5 a6 (.int .i64 Ev) (.string ⟨s.toArray⟩) (.string ⟨#[48]⟩)
                    exact bodyPost_ret (v := .tuple #[.agg #[.int .i64 Ev, .string ⟨s.toArray⟩, .string ⟨#[48]⟩], .bool false]) (by simp [results, Tryz.results15, go_sem, q0, q1, q2]) rfl
                      ⟨Ev, s, [48], false, rfl, HN.out.symm, ((B4.out.drew.setCell (Nat.le_refl _) _).setCell (Nat.le_refl _) _).setCell (Nat.le_refl _) _, fun h => by cases h⟩
                  · cases hB : sgnAll false [48]
                    · have HN := hide (fin_2 HF.out.1 hB)
                      go_wp2_with fail
                      go_region
                      all_goals (go_wp2_with fail)
                      obtain ⟨q0, q1, q2⟩ := three_sets a4 a5 a6 (.int .i64 Ev) (.string ⟨s.toArray⟩) (.string ⟨#[48]⟩)
                      exact bodyPost_ret (v := .tuple #[.agg #[.int .i64 Ev, .string ⟨s.toArray⟩, .string ⟨#[48]⟩], .bool false]) (by simp [results, Tryz.results15, go_sem, q0, q1, q2]) rfl
                        ⟨Ev, s, [48], false, rfl, HN.out.symm, ((B4.out.drew.setCell (Nat.le_refl _) _).setCell (Nat.le_refl _) _).setCell (Nat.le_refl _) _, fun h => by cases h⟩
                    · have hMn : s ≠ [] := sgn_pos hA
                      have hpos : 0 < s.length := List.length_pos_iff.2 hMn
                      obtain ⟨c0, hc0, hc0x⟩ : ∃ c0, (⟨s.toArray⟩ : ByteArray)[0]'hpos = c0 ∧ s.head hMn = c0 := ⟨_, head_is _ hMn hpos, rfl⟩
                      have HX0 := hide hc0x; clear hc0x
                      have HMN := hide hMn
                      cases hD : Ver.isD c0
                      · have HN := hide (fin_3 HF.out.1 HMN.out (by rw [HX0.out]; exact hD))
                        go_wp2_with fail
                        go_region_held3 (fun w' => w'.cell? ⟨w.heap.size + 1, 0, none⟩ = some (.int .i64 Ev) ∧ w'.cell? ⟨w.heap.size + 1, 1, none⟩ = some (.string ⟨s.toArray⟩) ∧ w'.cell? ⟨w.heap.size + 1, 2, none⟩ = some (.string ⟨#[48]⟩))
                          (first | assumption | simp [go_sem, *])
                          (first | (go_at_call 35; refine (rdigit_any c0 _).mono ?_; rintro e w' ⟨rfl, rfl⟩))
                        go_wp2_with fail
                        obtain ⟨q0, q1, q2⟩ := three_sets a4 a5 a6 (.int .i64 Ev) (.string ⟨s.toArray⟩) (.string ⟨#[48]⟩)
                        exact bodyPost_ret (v := .tuple #[.agg #[.int .i64 Ev, .string ⟨s.toArray⟩, .string ⟨#[48]⟩], .bool false]) (by simp [results, Tryz.results15, go_sem, q0, q1, q2]) rfl
                          ⟨Ev, s, [48], false, rfl, HN.out.symm, ((B4.out.drew.setCell (Nat.le_refl _) _).setCell (Nat.le_refl _) _).setCell (Nat.le_refl _) _, fun h => by cases h⟩
                      · have HN := hide (fin_4 HF.out.1 HMN.out hA hB (by rw [HX0.out]; exact hD))
                        go_wp2_with fail
                        go_region_held3 (fun w' => w'.cell? ⟨w.heap.size + 1, 0, none⟩ = some (.int .i64 Ev) ∧ w'.cell? ⟨w.heap.size + 1, 1, none⟩ = some (.string ⟨s.toArray⟩) ∧ w'.cell? ⟨w.heap.size + 1, 2, none⟩ = some (.string ⟨#[48]⟩))
                          (first | assumption | simp [go_sem, *])
                          (first | (go_at_call 35; refine (rdigit_any c0 _).mono ?_; rintro e w' ⟨rfl, rfl⟩))
                        go_wp2_with fail
                        obtain ⟨q0, q1, q2⟩ := three_sets a4 a5 a6 (.int .i64 Ev) (.string ⟨s.toArray⟩) (.string ⟨#[48]⟩)
                        exact bodyPost_ret (v := .tuple #[.agg #[.int .i64 Ev, .string ⟨s.toArray⟩, .string ⟨#[48]⟩], .bool true]) (by simp [results, Tryz.results15, go_sem, q0, q1, q2]) rfl
                          ⟨Ev, s, [48], true, rfl, HN.out.symm, ((B4.out.drew.setCell (Nat.le_refl _) _).setCell (Nat.le_refl _) _).setCell (Nat.le_refl _) _, fun _ => ⟨HV.out, HF.out.2.1, HF.out.2.2⟩⟩
        · have hbad : Ver.okE (x.take k) = false := by
            have : (x.take k).length = k := by rw [List.length_take]; omega
            by_cases h : 1 ≤ k
            · have h' : ¬ k ≤ 4 := by omega
              simp [Ver.okE, this, h']
            · simp [Ver.okE, this, h]
          have HN := hide (fine_not HC.out hbad)
          clear hbad
          have hk' : (k : Int) < 1 ∨ (¬ (k : Int) < 1 ∧ (4 : Int) < k) := by omega
          clear hk4
          rcases hk' with h | ⟨h, h'⟩
          all_goals
            go_wp2_with fail
            obtain ⟨q0, q1, q2⟩ := three_sets a4 a5 a6 (.int .i64 0) (.string ⟨#[]⟩) (.string ⟨#[48]⟩)
            exact bodyPost_ret (v := .tuple #[.agg #[.int .i64 0, .string ⟨#[]⟩, .string ⟨#[48]⟩], .bool false]) (by simp [results, Tryz.results15, go_sem, q0, q1, q2]) rfl
              ⟨0, [], [48], false, rfl, HN.out.symm, ((B4.out.setCell (Nat.le_refl _) _).setCell (Nat.le_refl _) _).setCell (Nat.le_refl _) _, fun h => by cases h⟩
      · have hb : ((c.toNat : Int) != 58) = true := by simp; omega
        have hne : c ≠ 58 := fun e => h58 (by rw [e]; rfl)
        have HN := hide hne; clear hne h58
        go_wp2_with fail
        go_round
        case rel => exact ⟨k + 1, by omega, rfl, by go_num, take_on hlt HA.out (by rw [HX.out]; simpa using HN.out)⟩
        case measure => simp [intOf]; omega
    · have hall : x.all (fun c => c != 58) = true := by
        have := HA.out
        rwa [List.take_of_length_le (by omega)] at this
      have HC := hide (cutC_no hall)
      have HE : Hid (Ver.okE [48] = true) := hide (by decide)
      have HV : Hid ((0 : Int) = Ver.val (Ver.split3 x).e) := hide (by simp only [Ver.split3, HC.out]; decide)
      clear hall
      have VT := V0
      go_wp2_with fail
      have V2 := hide (vat_M VT.out x)
      generalize W.setCell ⟨w.heap.size + 1, 1, none⟩ (.string ⟨x.toArray⟩) = W2 at V2 ⊢
      clear a1 a2 a3 a4 a5 a6 a7 a8 a9 b1 b2 b3 B4
      go_loop [8] (fun i => ∃ z : Int, -1 ≤ z ∧ z < (x.length : Int) ∧ i = .int .i64 z ∧ Hid ((x.drop (z + 1).toNat).all (fun c => c != 45) = true)) (fun i => (intOf i + 1).toNat)
      case atStart => exact ⟨(x.length : Int) - 1, by omega, by omega, rfl, hide (by rw [List.drop_of_length_le (by omega)]; rfl)⟩
      case round =>
        obtain ⟨z, z0, z1, rfl, hz⟩ := hrel
        obtain ⟨a1, a2, a3, a4, a5, a6, a7, a8, a9, b1, b2, b3, b4⟩ := V2.out
        have B4 := hide b4; clear b4
        by_cases hz0 : 0 ≤ z
        · obtain ⟨j, rfl⟩ := Int.eq_ofNat_of_zero_le hz0
          have hj : j < x.length := by omega
          obtain ⟨d, hd, hdx⟩ : ∃ d, (⟨x.toArray⟩ : ByteArray)[j]'hj = d ∧ x[j] = d := ⟨_, rfl, rfl⟩
          have HDX := hide hdx; clear hdx
          by_cases h45 : d.toNat = 45
          · have hb : ((d.toNat : Int) == 45) = true := by simp; omega
            have hM' := cutM_at hj hz.out (HDX.out.trans (UInt8.toNat_inj.1 h45))
            obtain ⟨M, hMe⟩ : ∃ M, x.take j = M := ⟨_, rfl⟩
            obtain ⟨R, hRe⟩ : ∃ R, x.drop (j + 1) = R := ⟨_, rfl⟩
            rw [hMe, hRe] at hM'
            have HM := hide hM'; clear hM' h45
            have e2 : (⟨x.toArray⟩ : ByteArray).extract 0 j = ⟨M.toArray⟩ := by rw [list_ext_take, hMe]
            have e3 : (⟨x.toArray⟩ : ByteArray).extract (j + 1) x.length = ⟨R.toArray⟩ := by rw [list_ext_drop, hRe]
            have hlM : M.length ≤ 24 := by rw [← hMe, List.length_take]; omega
            have hlR : R.length ≤ 24 := by rw [← hRe, List.length_drop]; omega
            clear hMe hRe
            have c1 : (0 : Int) ≤ ↑j := by omega
            have c2 : (↑j : Int) ≤ ↑x.length := by omega
            have c3 : (↑j : Int) + 1 ≤ ↑x.length := by omega
            have HF := hide (fin_0 h0 h1 HC.out HE.out HM.out)
            have V3 := hide (vat_R (vat_M V2.out M) R)
            have r1 : ((W2.setCell ⟨w.heap.size + 1, 1, none⟩ (.string ⟨M.toArray⟩)).setCell ⟨w.heap.size + 1, 2, none⟩ (.string ⟨R.toArray⟩)).cell? ⟨w.heap.size + 1, 1, none⟩ = some (.string ⟨M.toArray⟩) := V3.out.2.1
            go_wp2_with fail
            clear r1
            generalize (W2.setCell ⟨w.heap.size + 1, 1, none⟩ (.string ⟨M.toArray⟩)).setCell ⟨w.heap.size + 1, 2, none⟩ (.string ⟨R.toArray⟩) = W3 at V3 ⊢
            clear a1 a2 a3 a4 a5 a6 a7 a8 a9 b1 b2 b3 B4 c1 c2 c3 e2 e3
            obtain ⟨a1, a2, a3, a4, a5, a6, a7, a8, a9, b1, b2, b3, b4⟩ := V3.out
            have B4 := hide b4; clear b4
            refine (rsigns_any M hlM true _).mono ?_
            rintro e w' ⟨rfl, rfl⟩
            go_wp2_with fail
            refine (rsigns_any R hlR false _).mono ?_
            rintro e w' ⟨rfl, rfl⟩
            cases hA : sgnAll true M
            · have HN := hide (fin_1 HF.out.1 hA)
              go_wp2_with fail
              go_region
              all_goals (go_wp2_with fail)
              obtain ⟨q0, q1, q2⟩ := three_sets a4 a5 a6 (.int .i64 0) (.string ⟨M.toArray⟩) (.string ⟨R.toArray⟩)
              exact bodyPost_ret (v := .tuple #[.agg #[.int .i64 0, .string ⟨M.toArray⟩, .string ⟨R.toArray⟩], .bool false]) (by simp [results, Tryz.results15, go_sem, q0, q1, q2]) rfl
                ⟨0, M, R, false, rfl, HN.out.symm, ((B4.out.drew.setCell (Nat.le_refl _) _).setCell (Nat.le_refl _) _).setCell (Nat.le_refl _) _, fun h => by cases h⟩
            · cases hB : sgnAll false R
              · have HN := hide (fin_2 HF.out.1 hB)
                go_wp2_with fail
                go_region
                all_goals (go_wp2_with fail)
                obtain ⟨q0, q1, q2⟩ := three_sets a4 a5 a6 (.int .i64 0) (.string ⟨M.toArray⟩) (.string ⟨R.toArray⟩)
                exact bodyPost_ret (v := .tuple #[.agg #[.int .i64 0, .string ⟨M.toArray⟩, .string ⟨R.toArray⟩], .bool false]) (by simp [results, Tryz.results15, go_sem, q0, q1, q2]) rfl
                  ⟨0, M, R, false, rfl, HN.out.symm, ((B4.out.drew.setCell (Nat.le_refl _) _).setCell (Nat.le_refl _) _).setCell (Nat.le_refl _) _, fun h => by cases h⟩
              · have hMn : M ≠ [] := sgn_pos hA
                have hpos : 0 < M.length := List.length_pos_iff.2 hMn
                obtain ⟨c0, hc0, hc0x⟩ : ∃ c0, (⟨M.toArray⟩ : ByteArray)[0]'hpos = c0 ∧ M.head hMn = c0 := ⟨_, head_is _ hMn hpos, rfl⟩
                have HX0 := hide hc0x; clear hc0x
                have HMN := hide hMn
                cases hD : Ver.isD c0
                · have HN := hide (fin_3 HF.out.1 HMN.out (by rw [HX0.out]; exact hD))
                  go_wp2_with fail
                  go_region_held3 (fun w' => w'.cell? ⟨w.heap.size + 1, 0, none⟩ = some (.int .i64 0) ∧ w'.cell? ⟨w.heap.size + 1, 1, none⟩ = some (.string ⟨M.toArray⟩) ∧ w'.cell? ⟨w.heap.size + 1, 2, none⟩ = some (.string ⟨R.toArray⟩))
                    (first | assumption | simp [go_sem, *])
                    (first | (go_at_call 35; refine (rdigit_any c0 _).mono ?_; rintro e w' ⟨rfl, rfl⟩))
                  go_wp2_with fail
                  obtain ⟨q0, q1, q2⟩ := three_sets a4 a5 a6 (.int .i64 0) (.string ⟨M.toArray⟩) (.string ⟨R.toArray⟩)
                  exact bodyPost_ret (v := .tuple #[.agg #[.int .i64 0, .string ⟨M.toArray⟩, .string ⟨R.toArray⟩], .bool false]) (by simp [results, Tryz.results15, go_sem, q0, q1, q2]) rfl
                    ⟨0, M, R, false, rfl, HN.out.symm, ((B4.out.drew.setCell (Nat.le_refl _) _).setCell (Nat.le_refl _) _).setCell (Nat.le_refl _) _, fun h => by cases h⟩
                · have HN := hide (fin_4 HF.out.1 HMN.out hA hB (by rw [HX0.out]; exact hD))
                  go_wp2_with fail
                  go_region_held3 (fun w' => w'.cell? ⟨w.heap.size + 1, 0, none⟩ = some (.int .i64 0) ∧ w'.cell? ⟨w.heap.size + 1, 1, none⟩ = some (.string ⟨M.toArray⟩) ∧ w'.cell? ⟨w.heap.size + 1, 2, none⟩ = some (.string ⟨R.toArray⟩))
                    (first | assumption | simp [go_sem, *])
                    (first | (go_at_call 35; refine (rdigit_any c0 _).mono ?_; rintro e w' ⟨rfl, rfl⟩))
                  go_wp2_with fail
                  obtain ⟨q0, q1, q2⟩ := three_sets a4 a5 a6 (.int .i64 0) (.string ⟨M.toArray⟩) (.string ⟨R.toArray⟩)
                  exact bodyPost_ret (v := .tuple #[.agg #[.int .i64 0, .string ⟨M.toArray⟩, .string ⟨R.toArray⟩], .bool true]) (by simp [results, Tryz.results15, go_sem, q0, q1, q2]) rfl
                    ⟨0, M, R, true, rfl, HN.out.symm, ((B4.out.drew.setCell (Nat.le_refl _) _).setCell (Nat.le_refl _) _).setCell (Nat.le_refl _) _, fun _ => ⟨HV.out, HF.out.2.1, HF.out.2.2⟩⟩
          · have hb : ((d.toNat : Int) == 45) = false := by simp; omega
            have hne : d ≠ 45 := fun e => h45 (by rw [e]; rfl)
            have HN := hide hne; clear hne h45
            go_wp2_with fail
            exact ⟨⟨(j : Int) - 1, by omega, by omega, rfl, hide (drop_on hj hz.out (by rw [HDX.out]; exact HN.out))⟩, by simp only [intOf]; omega⟩
        · have hz1 : z = -1 := by omega
          subst hz1
          have HM := hide (cutM_no (m := x) (by simpa using hz.out))
          have HF := hide (fin_0 h0 h1 HC.out HE.out HM.out)
          have hlM : x.length ≤ 24 := h1
          have hlR : ([48] : List UInt8).length ≤ 24 := by decide
          go_wp2_with fail
          refine (rsigns_any x hlM true _).mono ?_
          rintro e w' ⟨rfl, rfl⟩
          go_wp2_with fail
          refine (rsigns_any [48] hlR false _).mono ?_
          rintro e w' ⟨rfl, rfl⟩
          cases hA : sgnAll true x
          · have HN := hide (fin_1 HF.out.1 hA)
            go_wp2_with fail
            go_region
            all_goals (go_wp2_with fail)
            obtain ⟨q0, q1, q2⟩ := three_sets a4 a5 a6 (.int .i64 0) (.string ⟨x.toArray⟩) (.string ⟨#[48]⟩)
            exact bodyPost_ret (v := .tuple #[.agg #[.int .i64 0, .string ⟨x.toArray⟩, .string ⟨#[48]⟩], .bool false]) (by simp [results, Tryz.results15, go_sem, q0, q1, q2]) rfl
              ⟨0, x, [48], false, rfl, HN.out.symm, ((B4.out.drew.setCell (Nat.le_refl _) _).setCell (Nat.le_refl _) _).setCell (Nat.le_refl _) _, fun h => by cases h⟩
          · cases hB : sgnAll false [48]
            · have HN := hide (fin_2 HF.out.1 hB)
              go_wp2_with fail
              go_region
              all_goals (go_wp2_with fail)
              obtain ⟨q0, q1, q2⟩ := three_sets a4 a5 a6 (.int .i64 0) (.string ⟨x.toArray⟩) (.string ⟨#[48]⟩)
              exact bodyPost_ret (v := .tuple #[.agg #[.int .i64 0, .string ⟨x.toArray⟩, .string ⟨#[48]⟩], .bool false]) (by simp [results, Tryz.results15, go_sem, q0, q1, q2]) rfl
                ⟨0, x, [48], false, rfl, HN.out.symm, ((B4.out.drew.setCell (Nat.le_refl _) _).setCell (Nat.le_refl _) _).setCell (Nat.le_refl _) _, fun h => by cases h⟩
            · have hMn : x ≠ [] := sgn_pos hA
              have hpos : 0 < x.length := List.length_pos_iff.2 hMn
              obtain ⟨c0, hc0, hc0x⟩ : ∃ c0, (⟨x.toArray⟩ : ByteArray)[0]'hpos = c0 ∧ x.head hMn = c0 := ⟨_, head_is _ hMn hpos, rfl⟩
              have HX0 := hide hc0x; clear hc0x
              have HMN := hide hMn
              cases hD : Ver.isD c0
              · have HN := hide (fin_3 HF.out.1 HMN.out (by rw [HX0.out]; exact hD))
                go_wp2_with fail
                go_region_held3 (fun w' => w'.cell? ⟨w.heap.size + 1, 0, none⟩ = some (.int .i64 0) ∧ w'.cell? ⟨w.heap.size + 1, 1, none⟩ = some (.string ⟨x.toArray⟩) ∧ w'.cell? ⟨w.heap.size + 1, 2, none⟩ = some (.string ⟨#[48]⟩))
                  (first | assumption | simp [go_sem, *])
                  (first | (go_at_call 35; refine (rdigit_any c0 _).mono ?_; rintro e w' ⟨rfl, rfl⟩))
                go_wp2_with fail
                obtain ⟨q0, q1, q2⟩ := three_sets a4 a5 a6 (.int .i64 0) (.string ⟨x.toArray⟩) (.string ⟨#[48]⟩)
                exact bodyPost_ret (v := .tuple #[.agg #[.int .i64 0, .string ⟨x.toArray⟩, .string ⟨#[48]⟩], .bool false]) (by simp [results, Tryz.results15, go_sem, q0, q1, q2]) rfl
                  ⟨0, x, [48], false, rfl, HN.out.symm, ((B4.out.drew.setCell (Nat.le_refl _) _).setCell (Nat.le_refl _) _).setCell (Nat.le_refl _) _, fun h => by cases h⟩
              · have HN := hide (fin_4 HF.out.1 HMN.out hA hB (by rw [HX0.out]; exact hD))
                go_wp2_with fail
                go_region_held3 (fun w' => w'.cell? ⟨w.heap.size + 1, 0, none⟩ = some (.int .i64 0) ∧ w'.cell? ⟨w.heap.size + 1, 1, none⟩ = some (.string ⟨x.toArray⟩) ∧ w'.cell? ⟨w.heap.size + 1, 2, none⟩ = some (.string ⟨#[48]⟩))
                  (first | assumption | simp [go_sem, *])
                  (first | (go_at_call 35; refine (rdigit_any c0 _).mono ?_; rintro e w' ⟨rfl, rfl⟩))
                go_wp2_with fail
                obtain ⟨q0, q1, q2⟩ := three_sets a4 a5 a6 (.int .i64 0) (.string ⟨x.toArray⟩) (.string ⟨#[48]⟩)
                exact bodyPost_ret (v := .tuple #[.agg #[.int .i64 0, .string ⟨x.toArray⟩, .string ⟨#[48]⟩], .bool true]) (by simp [results, Tryz.results15, go_sem, q0, q1, q2]) rfl
                  ⟨0, x, [48], true, rfl, HN.out.symm, ((B4.out.drew.setCell (Nat.le_refl _) _).setCell (Nat.le_refl _) _).setCell (Nat.le_refl _) _, fun _ => ⟨HV.out, HF.out.2.1, HF.out.2.2⟩⟩
end Go.Proofs.YtgdmgmklncmanaaGreatDoor
