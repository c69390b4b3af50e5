/- Shelf4, Shelf5, SplMath, VerMath, VerW1, VerW2, VerW3, VerW4 -/
import Derived.Shelf.SlIter.Nil
import Derived.Shelf.SortM.Plain
import Derived.Shelf.SortM.SortNone
import Derived.Ground.GgzProg
import Derived.Ground.SlgmProg
import Derived.Test.YtialenebfcnkkaaGreatDoorProg
import Derived.Shelf.SlMaps.Clone
import Derived.Ground.SlmcProg
import Derived.Lib.SplitLaws
import Derived.Lib.CountLaws
import Derived.Lib.CutLaws
import Derived.WalkKit
import Derived.WalkSpells
import Derived.WalkLawsBesides
import Derived.Lib.ConvBytes
import Derived.Test.YtialenebfcnkkaaGreatDoorOrdJ1
import Derived.Deep.RegionWith
set_option maxHeartbeats 1000000
namespace Go.Proofs
open Go.Shelf
def Tryz.keys73_ren:Go.Shelf.Ren:=⟨fun | 7=>73 | 10=>138 | n=>n,fun | 23=>139 | 26=>9 | 3=>162 | 28=>159 | 0=>0 | 27=>158 | 33=>123 | 4=>4 | n=>n,fun | n=>n⟩
theorem Tryz.keys73:Go.Proofs.SlLaysZ.n7 Tryz.prog Tryz.keys73_ren:={
 mixed:=by kernel_rfl
 f7:=⟨Tryz.f73.name,by decide,Tryz.func73.trans (congrArg some (by kernel_rfl))⟩
 f10:=⟨Tryz.f138.name,by decide,Tryz.func138.trans (congrArg some (by kernel_rfl))⟩
 t0:=Tryz.underlying0
 a0:=Tryz.isAgg0
 z0:=Tryz.sizeOf0
 v0:=Tryz.zeroValue0
 t4:=Tryz.underlying4
 a4:=Tryz.isAgg4
 z4:=Tryz.sizeOf4
 v4:=Tryz.zeroValue4
 t23:=Tryz.underlying139
 a23:=Tryz.isAgg139
 z23:=Tryz.sizeOf139
 v23:=Tryz.zeroValue139
 t26:=Tryz.underlying9
 a26:=Tryz.isAgg9
 z26:=Tryz.sizeOf9
 v26:=Tryz.zeroValue9
 t27:=Tryz.underlying158
 a27:=Tryz.isAgg158
 z27:=Tryz.sizeOf158
 v27:=Tryz.zeroValue158
 t28:=Tryz.underlying159
 a28:=Tryz.isAgg159
 z28:=Tryz.sizeOf159
 v28:=Tryz.zeroValue159
 t33:=Tryz.underlying123
 a33:=Tryz.isAgg123
 z33:=Tryz.sizeOf123
 v33:=Tryz.zeroValue123 }
def Tryz.sorted72_ren:Go.Shelf.Ren:=⟨fun | 6=>72 | 8=>136 | 9=>137 | 11=>190 | 13=>192 | 12=>191 | 23=>238 | 24=>239 | 14=>229 | 15=>230 | 16=>231 | 17=>232 | 18=>233 | 19=>234 | 20=>235 | 21=>236 | 22=>237 | 25=>277 | 26=>278 | 27=>279 | 28=>280 | 29=>281 | 30=>170 | 31=>301 | n=>n,fun | 26=>9 | 28=>159 | 24=>28 | 0=>0 | 3=>3 | 37=>203 | 48=>55 | 50=>330 | 4=>4 | 40=>322 | 39=>321 | 45=>326 | 5=>5 | 9=>9 | 51=>356 | 55=>241 | 57=>382 | 58=>222 | 33=>123 | n=>n,fun | n=>n⟩
theorem Tryz.sorted72:Go.Proofs.SlLaysZ.n6 Tryz.prog Tryz.sorted72_ren:={
 mixed:=by kernel_rfl
 f6:=⟨Tryz.f72.name,by decide,Tryz.func72.trans (congrArg some (by kernel_rfl))⟩
 f8:=⟨Tryz.f136.name,by decide,Tryz.func136.trans (congrArg some (by kernel_rfl))⟩
 f11:=⟨Tryz.f190.name,by decide,Tryz.func190.trans (congrArg some (by kernel_rfl))⟩
 t0:=Tryz.underlying0
 a0:=Tryz.isAgg0
 z0:=Tryz.sizeOf0
 v0:=Tryz.zeroValue0
 t24:=Tryz.underlying28
 a24:=Tryz.isAgg28
 z24:=Tryz.sizeOf28
 v24:=Tryz.zeroValue28
 t26:=Tryz.underlying9
 a26:=Tryz.isAgg9
 z26:=Tryz.sizeOf9
 v26:=Tryz.zeroValue9
 t28:=Tryz.underlying159
 a28:=Tryz.isAgg159
 z28:=Tryz.sizeOf159
 v28:=Tryz.zeroValue159
 i26:=by kernel_rfl }
def Tryz.sort137_ren:Go.Shelf.Ren:=⟨fun | 6=>137 | 8=>192 | 9=>191 | 19=>238 | 20=>239 | 21=>229 | 22=>230 | 23=>231 | 24=>232 | 25=>233 | 26=>234 | 27=>235 | 28=>236 | 29=>237 | 36=>277 | 31=>278 | 32=>279 | 37=>280 | 38=>281 | 39=>170 | 41=>301 | n=>n,fun | 27=>28 | 29=>9 | 3=>3 | 32=>203 | 26=>28 | 0=>0 | 44=>55 | 46=>330 | 4=>4 | 36=>322 | 35=>321 | 41=>326 | 5=>5 | 9=>9 | 53=>356 | 57=>241 | 63=>382 | 64=>222 | n=>n,fun | n=>n⟩
theorem Tryz.sort137:Go.Proofs.SlLaysM.n6 Tryz.prog Tryz.sort137_ren:={
 mixed:=by kernel_rfl
 f6:=⟨Tryz.f137.name,by decide,Tryz.func137.trans (congrArg some (by kernel_rfl))⟩
 f8:=Tryz.func192.trans (congrArg some (by kernel_rfl))
 f9:=⟨Tryz.f191.name,by decide,Tryz.func191.trans (congrArg some (by kernel_rfl))⟩
 f19:=Tryz.func238.trans (congrArg some (by kernel_rfl))
 f20:=Tryz.func239.trans (congrArg some (by kernel_rfl))
 f21:=⟨Tryz.f229.name,by decide,Tryz.func229.trans (congrArg some (by kernel_rfl))⟩
 f22:=⟨Tryz.f230.name,by decide,Tryz.func230.trans (congrArg some (by kernel_rfl))⟩
 f23:=⟨Tryz.f231.name,by decide,Tryz.func231.trans (congrArg some (by kernel_rfl))⟩
 f24:=⟨Tryz.f232.name,by decide,Tryz.func232.trans (congrArg some (by kernel_rfl))⟩
 f25:=⟨Tryz.f233.name,by decide,Tryz.func233.trans (congrArg some (by kernel_rfl))⟩
 f26:=⟨Tryz.f234.name,by decide,Tryz.func234.trans (congrArg some (by kernel_rfl))⟩
 f27:=⟨Tryz.f235.name,by decide,Tryz.func235.trans (congrArg some (by kernel_rfl))⟩
 f28:=⟨Tryz.f236.name,by decide,Tryz.func236.trans (congrArg some (by kernel_rfl))⟩
 f29:=⟨Tryz.f237.name,by decide,Tryz.func237.trans (congrArg some (by kernel_rfl))⟩
 f31:=Tryz.func278.trans (congrArg some (by kernel_rfl))
 f32:=Tryz.func279.trans (congrArg some (by kernel_rfl))
 f36:=⟨Tryz.f277.name,by decide,Tryz.func277.trans (congrArg some (by kernel_rfl))⟩
 f37:=⟨Tryz.f280.name,by decide,Tryz.func280.trans (congrArg some (by kernel_rfl))⟩
 f38:=⟨Tryz.f281.name,by decide,Tryz.func281.trans (congrArg some (by kernel_rfl))⟩
 f39:=⟨Tryz.f170.name,by decide,Tryz.func170.trans (congrArg some (by kernel_rfl))⟩
 f41:=⟨Tryz.f301.name,by decide,Tryz.func301.trans (congrArg some (by kernel_rfl))⟩
 t0:=Tryz.underlying0
 a0:=Tryz.isAgg0
 z0:=Tryz.sizeOf0
 v0:=Tryz.zeroValue0
 t3:=Tryz.underlying3
 a3:=Tryz.isAgg3
 z3:=Tryz.sizeOf3
 v3:=Tryz.zeroValue3
 t4:=Tryz.underlying4
 a4:=Tryz.isAgg4
 z4:=Tryz.sizeOf4
 v4:=Tryz.zeroValue4
 t5:=Tryz.underlying5
 a5:=Tryz.isAgg5
 z5:=Tryz.sizeOf5
 v5:=Tryz.zeroValue5
 t9:=Tryz.underlying9
 a9:=Tryz.isAgg9
 z9:=Tryz.sizeOf9
 v9:=Tryz.zeroValue9
 t26:=Tryz.underlying28
 a26:=Tryz.isAgg28
 z26:=Tryz.sizeOf28
 v26:=Tryz.zeroValue28
 t27:=Tryz.underlying28
 a27:=Tryz.isAgg28
 z27:=Tryz.sizeOf28
 v27:=Tryz.zeroValue28
 t29:=Tryz.underlying9
 a29:=Tryz.isAgg9
 z29:=Tryz.sizeOf9
 v29:=Tryz.zeroValue9
 t32:=Tryz.underlying203
 a32:=Tryz.isAgg203
 z32:=Tryz.sizeOf203
 v32:=Tryz.zeroValue203
 t35:=Tryz.underlying321
 a35:=Tryz.isAgg321
 z35:=Tryz.sizeOf321
 v35:=Tryz.zeroValue321
 t36:=Tryz.underlying322
 a36:=Tryz.isAgg322
 z36:=Tryz.sizeOf322
 v36:=Tryz.zeroValue322
 t41:=Tryz.underlying326
 a41:=Tryz.isAgg326
 z41:=Tryz.sizeOf326
 v41:=Tryz.zeroValue326
 t44:=Tryz.underlying55
 a44:=Tryz.isAgg55
 z44:=Tryz.sizeOf55
 v44:=Tryz.zeroValue55
 t46:=Tryz.underlying330
 a46:=Tryz.isAgg330
 z46:=Tryz.sizeOf330
 v46:=Tryz.zeroValue330
 t53:=Tryz.underlying356
 a53:=Tryz.isAgg356
 z53:=Tryz.sizeOf356
 v53:=Tryz.zeroValue356
 t57:=Tryz.underlying241
 a57:=Tryz.isAgg241
 z57:=Tryz.sizeOf241
 v57:=Tryz.zeroValue241
 t63:=Tryz.underlying382
 a63:=Tryz.isAgg382
 z63:=Tryz.sizeOf382
 v63:=Tryz.zeroValue382
 t64:=Tryz.underlying222
 a64:=Tryz.isAgg222
 z64:=Tryz.sizeOf222
 v64:=Tryz.zeroValue222 }
def Tryz.keys130_ren:Go.Shelf.Ren:=⟨fun | 7=>130 | 10=>186 | n=>n,fun | 23=>87 | 26=>9 | 3=>28 | 28=>159 | 0=>0 | 27=>158 | 33=>123 | 4=>4 | n=>n,fun | n=>n⟩
theorem Tryz.keys130:Go.Proofs.SlLaysZ.n7 Tryz.prog Tryz.keys130_ren:={
 mixed:=by kernel_rfl
 f7:=⟨Tryz.f130.name,by decide,Tryz.func130.trans (congrArg some (by kernel_rfl))⟩
 f10:=⟨Tryz.f186.name,by decide,Tryz.func186.trans (congrArg some (by kernel_rfl))⟩
 t0:=Tryz.underlying0
 a0:=Tryz.isAgg0
 z0:=Tryz.sizeOf0
 v0:=Tryz.zeroValue0
 t4:=Tryz.underlying4
 a4:=Tryz.isAgg4
 z4:=Tryz.sizeOf4
 v4:=Tryz.zeroValue4
 t23:=Tryz.underlying87
 a23:=Tryz.isAgg87
 z23:=Tryz.sizeOf87
 v23:=Tryz.zeroValue87
 t26:=Tryz.underlying9
 a26:=Tryz.isAgg9
 z26:=Tryz.sizeOf9
 v26:=Tryz.zeroValue9
 t27:=Tryz.underlying158
 a27:=Tryz.isAgg158
 z27:=Tryz.sizeOf158
 v27:=Tryz.zeroValue158
 t28:=Tryz.underlying159
 a28:=Tryz.isAgg159
 z28:=Tryz.sizeOf159
 v28:=Tryz.zeroValue159
 t33:=Tryz.underlying123
 a33:=Tryz.isAgg123
 z33:=Tryz.sizeOf123
 v33:=Tryz.zeroValue123 }
def Tryz.keys135_ren:Go.Shelf.Ren:=⟨fun | 7=>135 | 10=>189 | n=>n,fun | 23=>86 | 26=>9 | 3=>156 | 28=>159 | 0=>0 | 27=>158 | 33=>123 | 4=>4 | n=>n,fun | n=>n⟩
theorem Tryz.keys135:Go.Proofs.SlLaysZ.n7 Tryz.prog Tryz.keys135_ren:={
 mixed:=by kernel_rfl
 f7:=⟨Tryz.f135.name,by decide,Tryz.func135.trans (congrArg some (by kernel_rfl))⟩
 f10:=⟨Tryz.f189.name,by decide,Tryz.func189.trans (congrArg some (by kernel_rfl))⟩
 t0:=Tryz.underlying0
 a0:=Tryz.isAgg0
 z0:=Tryz.sizeOf0
 v0:=Tryz.zeroValue0
 t4:=Tryz.underlying4
 a4:=Tryz.isAgg4
 z4:=Tryz.sizeOf4
 v4:=Tryz.zeroValue4
 t23:=Tryz.underlying86
 a23:=Tryz.isAgg86
 z23:=Tryz.sizeOf86
 v23:=Tryz.zeroValue86
 t26:=Tryz.underlying9
 a26:=Tryz.isAgg9
 z26:=Tryz.sizeOf9
 v26:=Tryz.zeroValue9
 t27:=Tryz.underlying158
 a27:=Tryz.isAgg158
 z27:=Tryz.sizeOf158
 v27:=Tryz.zeroValue158
 t28:=Tryz.underlying159
 a28:=Tryz.isAgg159
 z28:=Tryz.sizeOf159
 v28:=Tryz.zeroValue159
 t33:=Tryz.underlying123
 a33:=Tryz.isAgg123
 z33:=Tryz.sizeOf123
 v33:=Tryz.zeroValue123 }
def Tryz.keys182_ren:Go.Shelf.Ren:=⟨fun | 7=>182 | 10=>225 | n=>n,fun | 23=>133 | 26=>9 | 3=>53 | 28=>159 | 0=>0 | 27=>158 | 33=>123 | 4=>4 | n=>n,fun | n=>n⟩
theorem Tryz.keys182:Go.Proofs.SlLaysZ.n7 Tryz.prog Tryz.keys182_ren:={
 mixed:=by kernel_rfl
 f7:=⟨Tryz.f182.name,by decide,Tryz.func182.trans (congrArg some (by kernel_rfl))⟩
 f10:=⟨Tryz.f225.name,by decide,Tryz.func225.trans (congrArg some (by kernel_rfl))⟩
 t0:=Tryz.underlying0
 a0:=Tryz.isAgg0
 z0:=Tryz.sizeOf0
 v0:=Tryz.zeroValue0
 t4:=Tryz.underlying4
 a4:=Tryz.isAgg4
 z4:=Tryz.sizeOf4
 v4:=Tryz.zeroValue4
 t23:=Tryz.underlying133
 a23:=Tryz.isAgg133
 z23:=Tryz.sizeOf133
 v23:=Tryz.zeroValue133
 t26:=Tryz.underlying9
 a26:=Tryz.isAgg9
 z26:=Tryz.sizeOf9
 v26:=Tryz.zeroValue9
 t27:=Tryz.underlying158
 a27:=Tryz.isAgg158
 z27:=Tryz.sizeOf158
 v27:=Tryz.zeroValue158
 t28:=Tryz.underlying159
 a28:=Tryz.isAgg159
 z28:=Tryz.sizeOf159
 v28:=Tryz.zeroValue159
 t33:=Tryz.underlying123
 a33:=Tryz.isAgg123
 z33:=Tryz.sizeOf123
 v33:=Tryz.zeroValue123 }
open Go.RowKit Go.Maps Go.Sort in
theorem Tryz.sorts72 (m:Nat):AnyZ.SortsIn Tryz.prog Tryz.sorted72_ren Fence.wide m :=
 ⟨fun blk off cap ss W hH hblk hsz=>callsIn_wide.2 (AnyM.slices_Sort_string Tryz.sort137 blk off cap ss W hH hblk hsz),
  fun p cap W=>callsIn_wide.2 (AnyM.slices_Sort_string_none Tryz.sort137 p cap W)⟩
open Go.RowKit Go.Maps Go.Sort in
theorem Tryz.maps_Keys_73 (mb:Option Nat) (W:World):CallsIn Fence.wide 5 Tryz.prog 73 #[.map mb] W fun e w'=>e = .returned (.func (.func 138) #[] #[.pointer (some ⟨W.heap.size,0,none⟩)])∧w'=W.alloc (.cells #[.map mb] 139) :=
 AnyZ.keys_in Tryz.keys73 Fence.wide 5 trivial rfl mb W
open Go.RowKit Go.Maps Go.Sort in
theorem Tryz.slices_Sorted_keys_72_73 {H:Type} (b nn:Nat) (D0:DataW H) (R:Value→Option (DataW H × List MemPlace)) (w:World) (hown:w.ownsMap Tryz.prog 9 R b nn D0) (hmax:Maps.size D0≤maxLen) (hbytes:Maps.size D0*16≤140737488355328) :
   CallsIn Fence.wide 5 Tryz.prog 72 #[.func (.func 138) #[] #[.pointer (some ⟨w.heap.size,0,none⟩)]] (w.alloc (.cells #[.map (some b)] 139)) fun e w'=>∃ (v:Value) (ss:List (List UInt8)),e = .returned v∧ss.Perm (strKeys D0) ∧
     w'.ownsRow (w.alloc (.cells #[.map (some b)] 139)).heap.size 9 1 v ss.length ((ss.mergeSort (fun x y=>decide (x≤y))).map encStr)∧(v = .slice none 0 0 ↔ ss=[])∧Below (w.alloc (.cells #[.map (some b)] 139)).heap.size (w.alloc (.cells #[.map (some b)] 139)) w':=by
 have hbl:=hown.lt
 have hseq:SeqGives Fence.wide 2 Tryz.prog 138 #[.pointer (some ⟨w.heap.size,0,none⟩)] encStr (fun ss=>ss.Perm (strKeys D0)) (Maps.size D0) (w.alloc (.cells #[.map (some b)] 139)) :=
   AnyZ.keys_gives (ρ:=Tryz.keys73_ren) { Tryz.keys73 with } Fence.wide _ trivial rfl (by omega) w.heap.size b nn D0 _ (by simp) (by simp) (by
     obtain ⟨es,clock,hb,Ft,hs,hD⟩:=hown
     exact ⟨es,clock,(Below.heap_alloc _ _ b hbl).trans hb,Ft,hs,hD⟩)
 exact AnyZ.sorted_in Tryz.sorted72 Fence.wide 5 trivial trivial trivial trivial rfl (by omega) (Tryz.sorts72 _) (enters_of Tryz.func137 (by kernel_rfl) rfl) 138 #[.pointer (some ⟨w.heap.size,0,none⟩)] trivial (enters_of Tryz.func138 (by kernel_rfl) rfl) _ _ hmax hbytes _ hseq
open Go.RowKit Go.Maps Go.Sort in
theorem Tryz.maps_Keys_130 (mb:Option Nat) (W:World):CallsIn Fence.wide 5 Tryz.prog 130 #[.map mb] W fun e w'=>e = .returned (.func (.func 186) #[] #[.pointer (some ⟨W.heap.size,0,none⟩)])∧w'=W.alloc (.cells #[.map mb] 87) :=
 AnyZ.keys_in Tryz.keys130 Fence.wide 5 trivial rfl mb W
open Go.RowKit Go.Maps Go.Sort in
theorem Tryz.slices_Sorted_keys_72_130 {H:Type} (b nn:Nat) (D0:DataW H) (R:Value→Option (DataW H × List MemPlace)) (w:World) (hown:w.ownsMap Tryz.prog 9 R b nn D0) (hmax:Maps.size D0≤maxLen) (hbytes:Maps.size D0*16≤140737488355328) :
   CallsIn Fence.wide 5 Tryz.prog 72 #[.func (.func 186) #[] #[.pointer (some ⟨w.heap.size,0,none⟩)]] (w.alloc (.cells #[.map (some b)] 87)) fun e w'=>∃ (v:Value) (ss:List (List UInt8)),e = .returned v∧ss.Perm (strKeys D0) ∧
     w'.ownsRow (w.alloc (.cells #[.map (some b)] 87)).heap.size 9 1 v ss.length ((ss.mergeSort (fun x y=>decide (x≤y))).map encStr)∧(v = .slice none 0 0 ↔ ss=[])∧Below (w.alloc (.cells #[.map (some b)] 87)).heap.size (w.alloc (.cells #[.map (some b)] 87)) w':=by
 have hbl:=hown.lt
 have hseq:SeqGives Fence.wide 2 Tryz.prog 186 #[.pointer (some ⟨w.heap.size,0,none⟩)] encStr (fun ss=>ss.Perm (strKeys D0)) (Maps.size D0) (w.alloc (.cells #[.map (some b)] 87)) :=
   AnyZ.keys_gives (ρ:=Tryz.keys130_ren) { Tryz.keys130 with } Fence.wide _ trivial rfl (by omega) w.heap.size b nn D0 _ (by simp) (by simp) (by
     obtain ⟨es,clock,hb,Ft,hs,hD⟩:=hown
     exact ⟨es,clock,(Below.heap_alloc _ _ b hbl).trans hb,Ft,hs,hD⟩)
 exact AnyZ.sorted_in Tryz.sorted72 Fence.wide 5 trivial trivial trivial trivial rfl (by omega) (Tryz.sorts72 _) (enters_of Tryz.func137 (by kernel_rfl) rfl) 186 #[.pointer (some ⟨w.heap.size,0,none⟩)] trivial (enters_of Tryz.func186 (by kernel_rfl) rfl) _ _ hmax hbytes _ hseq
open Go.RowKit Go.Maps Go.Sort in
theorem Tryz.maps_Keys_135 (mb:Option Nat) (W:World):CallsIn Fence.wide 5 Tryz.prog 135 #[.map mb] W fun e w'=>e = .returned (.func (.func 189) #[] #[.pointer (some ⟨W.heap.size,0,none⟩)])∧w'=W.alloc (.cells #[.map mb] 86) :=
 AnyZ.keys_in Tryz.keys135 Fence.wide 5 trivial rfl mb W
open Go.RowKit Go.Maps Go.Sort in
theorem Tryz.slices_Sorted_keys_72_135 {H:Type} (b nn:Nat) (D0:DataW H) (R:Value→Option (DataW H × List MemPlace)) (w:World) (hown:w.ownsMap Tryz.prog 9 R b nn D0) (hmax:Maps.size D0≤maxLen) (hbytes:Maps.size D0*16≤140737488355328) :
   CallsIn Fence.wide 5 Tryz.prog 72 #[.func (.func 189) #[] #[.pointer (some ⟨w.heap.size,0,none⟩)]] (w.alloc (.cells #[.map (some b)] 86)) fun e w'=>∃ (v:Value) (ss:List (List UInt8)),e = .returned v∧ss.Perm (strKeys D0) ∧
     w'.ownsRow (w.alloc (.cells #[.map (some b)] 86)).heap.size 9 1 v ss.length ((ss.mergeSort (fun x y=>decide (x≤y))).map encStr)∧(v = .slice none 0 0 ↔ ss=[])∧Below (w.alloc (.cells #[.map (some b)] 86)).heap.size (w.alloc (.cells #[.map (some b)] 86)) w':=by
 have hbl:=hown.lt
 have hseq:SeqGives Fence.wide 2 Tryz.prog 189 #[.pointer (some ⟨w.heap.size,0,none⟩)] encStr (fun ss=>ss.Perm (strKeys D0)) (Maps.size D0) (w.alloc (.cells #[.map (some b)] 86)) :=
   AnyZ.keys_gives (ρ:=Tryz.keys135_ren) { Tryz.keys135 with } Fence.wide _ trivial rfl (by omega) w.heap.size b nn D0 _ (by simp) (by simp) (by
     obtain ⟨es,clock,hb,Ft,hs,hD⟩:=hown
     exact ⟨es,clock,(Below.heap_alloc _ _ b hbl).trans hb,Ft,hs,hD⟩)
 exact AnyZ.sorted_in Tryz.sorted72 Fence.wide 5 trivial trivial trivial trivial rfl (by omega) (Tryz.sorts72 _) (enters_of Tryz.func137 (by kernel_rfl) rfl) 189 #[.pointer (some ⟨w.heap.size,0,none⟩)] trivial (enters_of Tryz.func189 (by kernel_rfl) rfl) _ _ hmax hbytes _ hseq
open Go.RowKit Go.Maps Go.Sort in
theorem Tryz.maps_Keys_182 (mb:Option Nat) (W:World):CallsIn Fence.wide 5 Tryz.prog 182 #[.map mb] W fun e w'=>e = .returned (.func (.func 225) #[] #[.pointer (some ⟨W.heap.size,0,none⟩)])∧w'=W.alloc (.cells #[.map mb] 133) :=
 AnyZ.keys_in Tryz.keys182 Fence.wide 5 trivial rfl mb W
open Go.RowKit Go.Maps Go.Sort in
theorem Tryz.slices_Sorted_keys_72_182 {H:Type} (b nn:Nat) (D0:DataW H) (R:Value→Option (DataW H × List MemPlace)) (w:World) (hown:w.ownsMap Tryz.prog 9 R b nn D0) (hmax:Maps.size D0≤maxLen) (hbytes:Maps.size D0*16≤140737488355328) :
   CallsIn Fence.wide 5 Tryz.prog 72 #[.func (.func 225) #[] #[.pointer (some ⟨w.heap.size,0,none⟩)]] (w.alloc (.cells #[.map (some b)] 133)) fun e w'=>∃ (v:Value) (ss:List (List UInt8)),e = .returned v∧ss.Perm (strKeys D0) ∧
     w'.ownsRow (w.alloc (.cells #[.map (some b)] 133)).heap.size 9 1 v ss.length ((ss.mergeSort (fun x y=>decide (x≤y))).map encStr)∧(v = .slice none 0 0 ↔ ss=[])∧Below (w.alloc (.cells #[.map (some b)] 133)).heap.size (w.alloc (.cells #[.map (some b)] 133)) w':=by
 have hbl:=hown.lt
 have hseq:SeqGives Fence.wide 2 Tryz.prog 225 #[.pointer (some ⟨w.heap.size,0,none⟩)] encStr (fun ss=>ss.Perm (strKeys D0)) (Maps.size D0) (w.alloc (.cells #[.map (some b)] 133)) :=
   AnyZ.keys_gives (ρ:=Tryz.keys182_ren) { Tryz.keys182 with } Fence.wide _ trivial rfl (by omega) w.heap.size b nn D0 _ (by simp) (by simp) (by
     obtain ⟨es,clock,hb,Ft,hs,hD⟩:=hown
     exact ⟨es,clock,(Below.heap_alloc _ _ b hbl).trans hb,Ft,hs,hD⟩)
 exact AnyZ.sorted_in Tryz.sorted72 Fence.wide 5 trivial trivial trivial trivial rfl (by omega) (Tryz.sorts72 _) (enters_of Tryz.func137 (by kernel_rfl) rfl) 225 #[.pointer (some ⟨w.heap.size,0,none⟩)] trivial (enters_of Tryz.func225 (by kernel_rfl) rfl) _ _ hmax hbytes _ hseq
end Go.Proofs
namespace Go.Proofs
open Go.Shelf
def Tryz.clone174_ren:Go.Shelf.Ren:=⟨fun | 5=>174 | 7=>198 | n=>n,fun | 23=>86 | 25=>9 | 3=>156 | 4=>4 | 20=>20 | n=>n,fun | n=>n⟩
theorem Tryz.clone174:Go.Proofs.SlLaysW.n5 Tryz.prog Tryz.clone174_ren:={
 mixed:=by kernel_rfl
 f5:=⟨Tryz.f174.name,by decide,Tryz.func174.trans (congrArg some (by kernel_rfl))⟩
 f7:=Tryz.func198.trans (congrArg some (by kernel_rfl))
 t4:=Tryz.underlying4
 a4:=Tryz.isAgg4
 z4:=Tryz.sizeOf4
 v4:=Tryz.zeroValue4
 t20:=Tryz.underlying20
 a20:=Tryz.isAgg20
 z20:=Tryz.sizeOf20
 v20:=Tryz.zeroValue20
 t23:=Tryz.underlying86
 a23:=Tryz.isAgg86
 z23:=Tryz.sizeOf86
 v23:=Tryz.zeroValue86 }
def Tryz.clone146_ren:Go.Shelf.Ren:=⟨fun | 5=>146 | 7=>198 | n=>n,fun | 23=>139 | 25=>9 | 3=>162 | 4=>4 | 20=>20 | n=>n,fun | n=>n⟩
theorem Tryz.clone146:Go.Proofs.SlLaysW.n5 Tryz.prog Tryz.clone146_ren:={
 mixed:=by kernel_rfl
 f5:=⟨Tryz.f146.name,by decide,Tryz.func146.trans (congrArg some (by kernel_rfl))⟩
 f7:=Tryz.func198.trans (congrArg some (by kernel_rfl))
 t4:=Tryz.underlying4
 a4:=Tryz.isAgg4
 z4:=Tryz.sizeOf4
 v4:=Tryz.zeroValue4
 t20:=Tryz.underlying20
 a20:=Tryz.isAgg20
 z20:=Tryz.sizeOf20
 v20:=Tryz.zeroValue20
 t23:=Tryz.underlying139
 a23:=Tryz.isAgg139
 z23:=Tryz.sizeOf139
 v23:=Tryz.zeroValue139 }
end Go.Proofs
namespace Go.Proofs.YtialenebfcnkkaaGreatDoor
def sp (d:UInt8):List UInt8→List (List UInt8)
 | []=>[[]]
 | c::l=>if c=d then []::sp d l else match sp d l with
   | []=>[[c]]
   | h::t=>(c::h)::t
theorem Yr (d:UInt8) (x:List UInt8):sp d x≠[]:=by
 cases x with
 | nil=>simp[sp]
 | cons c l => rw[sp];split; · simp
               split<;>simp
theorem Ab (d:UInt8):∀ u:List UInt8,(∀ c∈u,c≠d)→sp d u=[u]
 | [],_=>rfl
 | c::l,h=>by
   have ih:=Ab d l fun e he=>h e (by simp[he])
   have hc:c≠d:=h c (by simp)
   simp[sp,hc,ih]
theorem xR (d:UInt8):∀ (u v:List UInt8),(∀ c∈u,c≠d)→sp d (u++d::v)=u::sp d v
 | [],v,_=>by simp[sp]
 | c::l,v,h=>by
   have ih:=xR d l v fun e he=>h e (by simp[he])
   have hc:c≠d:=h c (by simp)
   simp[sp,hc,ih]
theorem aas (d:UInt8) (x:List UInt8):(sp d x).length≤x.length+1:=by
 induction x with
 | nil=>simp[sp]
 | cons c l ih =>
   rw[sp]
   split
   · simp;omega
   · split
     · simp
     · rename_i h t e
       rw[e] at ih;simp at ih ⊢;omega
theorem zm (d:UInt8):∀ (x:List UInt8),∀ y∈sp d x,y.length≤x.length
 | [],y,h=>by simp[sp] at h;simp[h]
 | c::l,y,h=>by
   have ih:=zm d l
   rw[sp] at h
   split at h
   · rcases List.mem_cons.1 h with rfl | h
     · simp
     · have:=ih y h;simp;omega
   · split at h
     · simp at h;subst h;simp
     · rename_i u t e
       rcases List.mem_cons.1 h with rfl | h
       · have:=ih u (by rw[e];simp);simp;omega
       · have:=ih y (by rw[e];simp[h]);simp;omega
theorem index_one (d:UInt8) (s:List UInt8):(Lib.index s [d] = -1∧∀ c∈s,c≠d) ∨ ∃ (u v:List UInt8),Lib.index s [d]=u.length∧s=u++d::v∧∀ c∈u,c≠d:=by
 rcases Lib.index_spec s [d] with ⟨h1,h2⟩ | ⟨i,h1,h2,h3,h4⟩
 · refine .inl ⟨h1,fun c hc e => ?_⟩
   obtain ⟨k,hk,rfl⟩:=List.getElem_of_mem hc
   have:=h2 k (by omega)
   rw[Lib.occAt,List.drop_eq_getElem_cons hk] at this
   simp[List.isPrefixOf,e] at this
 · have hk:i<s.length:=by
     rcases Lib.occAt_room h3 with h | h
     · simp at h;omega
     · simp at h
   have hd:s[i]=d:=by
     have h3':=h3
     rw[Lib.occAt,List.drop_eq_getElem_cons hk] at h3'
     simp[List.isPrefixOf] at h3'
     exact h3'.symm
   refine .inr ⟨s.take i,s.drop (i+1),by rw[h1,List.length_take,Nat.min_eq_left (by omega)],?_,fun c hc e => ?_⟩
   · conv=>lhs;rw[← List.take_append_drop i s,List.drop_eq_getElem_cons hk,hd]
   · obtain ⟨k,hk2,rfl⟩:=List.getElem_of_mem hc
     rw[List.length_take] at hk2
     have:=h4 k (by omega)
     rw[Lib.occAt,List.drop_eq_getElem_cons (by omega)] at this
     rw[List.getElem_take] at e
     simp[List.isPrefixOf,e] at this
theorem Qu (d:UInt8):∀ (n:Nat) (s:List UInt8),s.length≤n→Lib.splitK [d] 0 (Lib.count s [d]) s=sp d s:=by
 intro n
 induction n with
 | zero =>
   intro s h
   have:s=[]:=List.eq_nil_of_length_eq_zero (by omega)
   subst this
   rw[Lib.count_miss (by rfl)];rfl
 | succ n ih =>
   intro s h
   rcases index_one d s with ⟨h1,h2⟩ | ⟨u,v,h1,h2,h3⟩
   · rw[Lib.count_miss h1,Ab d s h2];rfl
   · rw[Lib.count_hit (by simp) h1,Nat.add_comm,Lib.splitK,if_neg (by rw[h1];simp),h1]
     subst h2
     have hl:v.length≤n:=by simp at h;omega
     have e1:(u++d::v).drop (u.length+[d].length)=v:=by
       rw[show u.length+[d].length=(u++[d]).length from by simp,show u++d::v=(u++[d])++v from by simp,List.drop_left]
     have e2:((u.length:Int)).toNat=u.length:=by omega
     rw[e2,e1,ih v hl,xR d u v h3]
     congr 1
     simp
theorem xS (d:UInt8) (x:List UInt8):(Lib.splitB ⟨#[d]⟩ 0 (Lib.countB ⟨x.toArray⟩ ⟨#[d]⟩) ⟨x.toArray⟩)=(sp d x).map fun y=>⟨y.toArray⟩:=by
 have h:=Lib.splitB_data ⟨#[d]⟩ 0 (Lib.countB ⟨x.toArray⟩ ⟨#[d]⟩) ⟨x.toArray⟩
 have e:Lib.splitK [d] 0 (Lib.countB ⟨x.toArray⟩ ⟨#[d]⟩) x=sp d x:=Qu d x.length x (Nat.le_refl _)
 have h':(Lib.splitB ⟨#[d]⟩ 0 (Lib.countB ⟨x.toArray⟩ ⟨#[d]⟩) ⟨x.toArray⟩).map (·.data.toList)=sp d x:=h.trans e
 rw[← h',List.map_map]
 conv=>lhs;rw[← List.map_id (Lib.splitB _ _ _ _)]
 apply List.map_congr_left
 intro b _
 cases b;simp
theorem D5 (d:UInt8) (x:List UInt8):Lib.countB ⟨x.toArray⟩ ⟨#[d]⟩+1=(sp d x).length:=by
 have h1:=Lib.splitB_all ⟨#[d]⟩ (Nat.le_refl 1) 0 _ ⟨x.toArray⟩ rfl
 rw[xS,List.length_map] at h1
 omega
def aZ:List UInt8→Option (List UInt8 × List UInt8)
 | []=>none
 | c::l=>match c,l with
   | 10,10::v=>some ([],v)
   | c,l=>match aZ l with
     | none=>none
     | some (u,v)=>some (c::u,v)
theorem AY:∀ (s:List UInt8),Lib.cut s [10,10]=match aZ s with
   | none=>(s,[],false)
   | some (u,v)=>(u,v,true):=by
 intro s
 induction s with
 | nil=>rfl
 | cons c l ih =>
   by_cases h:[10,10].isPrefixOf (c::l)=true
   · obtain ⟨v,hv⟩:=List.isPrefixOf_iff_prefix.1 h
     have e1:c=10:=by simp at hv;exact hv.1.symm
     have e2:l=10::v:=by simp at hv;exact hv.2.symm
     subst e1 e2
     have hi:Lib.index (10::10::v) [10,10]=0:=by unfold Lib.index;rw[if_pos h]
     simp[Lib.cut,hi,aZ]
   · have hc:aZ (c::l)=match aZ l with | none=>none | some (u,v)=>some (c::u,v):=by
       conv=>lhs;unfold aZ
       split
       · exact absurd rfl h
       · rfl
     have hi:Lib.index (c::l) [10,10]=if Lib.index l [10,10] == -1 then -1 else Lib.index l [10,10]+1:=by
       conv=>lhs;unfold Lib.index
       rw[if_neg h]
     rw[hc]
     have hg:=Lib.index_ge l [10,10]
     rw[Lib.cut] at ih
     by_cases hn:Lib.index l [10,10] = -1
     · rw[if_neg (by omega)] at ih
       have hi':Lib.index (c::l) [10,10] = -1:=by rw[hi,if_pos (by simp[hn])]
       rw[Lib.cut,hi',if_neg (by omega)]
       cases hct:aZ l with
       | none=>simp
       | some p=>obtain ⟨u,v⟩:=p;rw[hct] at ih;simp at ih
     · rw[if_pos (by omega)] at ih
       have hi':Lib.index (c::l) [10,10]=Lib.index l [10,10]+1:=by rw[hi,if_neg (by simp[hn])]
       rw[Lib.cut,hi',if_pos (by omega)]
       cases hct:aZ l with
       | none=>rw[hct] at ih;simp at ih
       | some p =>
         obtain ⟨u,v⟩:=p
         rw[hct] at ih
         simp only[Prod.mk.injEq,and_true] at ih
         obtain ⟨i1,i2⟩:=ih
         have e:(Lib.index l [10,10]+1).toNat=(Lib.index l [10,10]).toNat+1:=by omega
         simp only[e,List.take_succ_cons,i1]
         rw[show (Lib.index l [10,10]).toNat+1+[(10:UInt8),10].length=((Lib.index l [10,10]).toNat+[(10:UInt8),10].length)+1 from by omega,List.drop_succ_cons,i2]
namespace aC
def oJ (x y:Int):Int:=if x<y then -1 else if y<x then 1 else 0
def rX (c d:Int):Int:=if c=0 then d else c
structure aa8 {α:Type} (f:α→α→Int):Prop where
 r:∀ a b,f a b = -1∨f a b=0∨f a b=1
 anti:∀ a b,f b a = - f a b
 tr:∀ a b c,f a b≤0→f b c≤0→f a c≤0
theorem aa8.zero {α:Type} {f:α→α→Int} (h:aa8 f) {a b:α} (c:α) (e:f a b=0):f a c=f b c:=by
 have h1:=h.anti a b
 have h2:=h.anti a c
 have h3:=h.anti b c
 have r1:=h.r a c
 have r2:=h.r b c
 have t1:f b c≤0→f a c≤0:=h.tr a b c (by omega)
 have t2:f a c≤0→f b c≤0:=h.tr b a c (by omega)
 have t3:f c a≤0→f c b≤0:=fun x=>h.tr c a b x (by omega)
 have t4:f c b≤0→f c a≤0:=fun x=>h.tr c b a x (by omega)
 omega
theorem DZ (x:Int):oJ x x=0:=by simp[oJ]
def p8 (f:UInt8→Bool) (l:List UInt8):Bool:=l.all f
def j5 (c:UInt8):Bool:=decide (48≤(c.toNat:Int))&&decide ((c.toNat:Int)≤57)
def eY (c:UInt8):Bool := !j5 c
def isL (c:UInt8):Bool:=(decide (97≤(c.toNat:Int))&&decide ((c.toNat:Int)≤122))||(decide (65≤(c.toNat:Int))&&decide ((c.toNat:Int)≤90))
def isR (c:UInt8):Bool:=j5 c||isL c||(c.toNat:Int)==46||(c.toNat:Int)==43||(c.toNat:Int)==126
def isM (c:UInt8):Bool:=isR c||(c.toNat:Int)==45
def Xm (c:UInt8):Int:=if (c.toNat:Int)=126 then -1 else if isL c=true then c.toNat else 256+(c.toNat:Int)
theorem ab8 {c:UInt8} (h:((c.toNat:Int)==126)=true) : -1=Xm c:=by simp at h;simp[Xm,h]
theorem ab9 {c:UInt8} (h:((c.toNat:Int)==126)=false) (h2:isL c=true):(c.toNat:Int)=Xm c:=by simp at h;simp[Xm,h,h2]
theorem acd {c:UInt8} (h:((c.toNat:Int)==126)=false) (h2:isL c=false):256+(c.toNat:Int)=Xm c:=by simp at h;simp[Xm,h,h2]
def rk:List UInt8→Int
 | []=>0
 | c::_=>Xm c
def signs:Nat→List UInt8→List UInt8→Int
 | 0,_,_=>0
 | n+1,a,b=>rX (oJ (rk a) (rk b)) (signs n a.tail b.tail)
theorem xQ:∀ n,signs n [] []=0
 | 0=>rfl
 | n+1=>by rw[signs];simp[DZ,rX,xQ n]
def kb:List UInt8→Int
 | [] => -1
 | c::_=>c.toNat
def Dt:Nat→List UInt8→List UInt8→Int
 | 0,_,_=>0
 | n+1,a,b=>rX (oJ (kb a) (kb b)) (Dt n a.tail b.tail)
theorem IC:∀ n,Dt n [] []=0
 | 0=>rfl
 | n+1=>by rw[Dt];simp[DZ,rX,IC n]
def trim (l:List UInt8):List UInt8:=l.dropWhile fun c=>c==48
def nums (a b:List UInt8):Int:=rX (oJ (trim a).length (trim b).length) (Dt 25 (trim a) (trim b))
theorem Tv:nums [] []=0:=by decide
def pre (f:UInt8→Bool) (l:List UInt8):List UInt8:=l.takeWhile f
def suf (f:UInt8→Bool) (l:List UInt8):List UInt8:=l.dropWhile f
def parts:Nat→List UInt8→List UInt8→Int
 | 0,_,_=>0
 | n+1,a,b=>rX (signs 25 (pre eY a) (pre eY b)) (rX (nums (pre j5 (suf eY a)) (pre j5 (suf eY b))) (parts n (suf j5 (suf eY a)) (suf j5 (suf eY b))))
theorem Et:∀ n,parts n [] []=0
 | 0=>rfl
 | n+1=>by rw[parts];simp[pre,suf,xQ,Tv,rX,Et n]
structure V where
 e:List UInt8
 m:List UInt8
 r:List UInt8
def AX (l:List UInt8):List UInt8 × List UInt8 :=
 if l.contains 58 then (l.takeWhile (fun c=>c != 58),(l.dropWhile fun c=>c != 58).drop 1) else ([48],l)
def Dh (l:List UInt8):List UInt8 × List UInt8 :=
 if l.contains 45 then
   (((l.reverse.dropWhile fun c=>c != 45).drop 1).reverse,(l.reverse.takeWhile fun c=>c != 45).reverse)
 else (l,[48])
def PI (l:List UInt8):Bool:=decide (1≤l.length)&&decide (l.length≤4)&&p8 j5 l
def TD:List UInt8→Bool
 | []=>false
 | c::l=>j5 c&&p8 isM (c::l)
def okR:List UInt8→Bool
 | []=>false
 | l=>p8 isR l
def eG (l:List UInt8):V:=⟨(AX l).1,(Dh (AX l).2).1,(Dh (AX l).2).2⟩
def fine (l:List UInt8):Bool :=
 decide (1≤l.length)&&decide (l.length≤24)&&PI (eG l).e&&TD (eG l).m&&okR (eG l).r
def Za (a b:V):Int:=rX (nums a.e b.e) (rX (parts 25 a.m b.m) (parts 25 a.r b.r))
def compare (a b:List UInt8):Int × Int:=if fine a&&fine b then (Za (eG a) (eG b),0) else (0,2)
end aC
section
open Go.RowKit
theorem hide {p:Prop} (h:p):Hid p:=h
theorem nT {a b:ByteArray} (h:a.data.toList=b.data.toList):a=b:=by
 cases a;cases b;simpa [← Array.toList_inj] using h
theorem vL (s:ByteArray) (k:Nat):s.extract 0 k=⟨(s.data.toList.take k).toArray⟩:=by
 apply nT;simp[ByteArray.data_extract,Array.toList_extract,List.extract]
theorem vK (s:ByteArray) (k:Nat):s.extract k s.size=⟨(s.data.toList.drop k).toArray⟩:=by
 apply nT;simp[ByteArray.data_extract,Array.toList_extract,List.extract]
 exact List.take_of_length_le (by simp)
theorem Nq {a b:ByteArray} (h:a=b):Ending.returned (.string a) = .returned (.string b):=by rw[h]
theorem Js {a b c d:ByteArray} (h:a=b) (k:c=d):Ending.returned (.tuple #[.string a, .string c]) = .returned (.tuple #[.string b, .string d]):=by rw[h,k]
theorem fq {a b:Bool} (h:a=b):Ending.returned (.bool a) = .returned (.bool b):=by rw[h]
theorem iP {k:IntKind} {a b:Int} (h:a=b):Ending.returned (.int k a) = .returned (.int k b):=by rw[h]
theorem jr (c:UInt8) (w:World) :
   Calls Tryz.prog 101 #[.int .u8 c.toNat] w fun e w'=>e = .returned (.bool (aC.j5 c))∧w'=w:=by
 go_enter Tryz.func101,Tryz.ntmps101
 go_wp2
 all_goals (go_ret;exact ⟨fq (by simp[aC.j5];try omega),rfl⟩)
theorem Dp (c:UInt8) (w:World) :
   Calls Tryz.prog 108 #[.int .u8 c.toNat] w fun e w'=>e = .returned (.bool (aC.eY c))∧w'=w:=by
 go_enter Tryz.func108,Tryz.ntmps108
 go_wp2_with (go_at_call 101;refine (jr c _).mono ?_;rintro e w' ⟨rfl,rfl⟩)
 go_ret
 exact ⟨fq (by simp[aC.eY]),rfl⟩
theorem vQ (c:UInt8) (w:World) :
   Calls Tryz.prog 164 #[.int .u8 c.toNat] w fun e w'=>e = .returned (.bool (aC.isL c))∧w'=w:=by
 go_enter Tryz.func164,Tryz.ntmps164
 go_wp2
 all_goals (go_ret;exact ⟨fq (by simp[aC.isL, *];try omega),rfl⟩)
theorem lV (c:UInt8) (w:World) :
   Calls Tryz.prog 103 #[.int .u8 c.toNat] w fun e w'=>e = .returned (.bool (aC.isR c))∧w'=w:=by
 go_enter Tryz.func103,Tryz.ntmps103
 go_wp2_with (first
   | (go_at_call 101;refine (jr c _).mono ?_;rintro e w' ⟨rfl,rfl⟩)
   | (go_at_call 164;refine (vQ c _).mono ?_;rintro e w' ⟨rfl,rfl⟩))
 all_goals (go_ret;exact ⟨fq (by simp[aC.isR, *];try omega),rfl⟩)
theorem Bv (c:UInt8) (w:World) :
   Calls Tryz.prog 102 #[.int .u8 c.toNat] w fun e w'=>e = .returned (.bool (aC.isM c))∧w'=w:=by
 go_enter Tryz.func102,Tryz.ntmps102
 go_wp2_with (go_at_call 103;refine (lV c _).mono ?_;rintro e w' ⟨rfl,rfl⟩)
 all_goals (go_ret;exact ⟨fq (by simp[aC.isM, *]),rfl⟩)
theorem TQ (s:ByteArray) (i:Nat) (hi:s.size≤i) (w:World) :
   Calls Tryz.prog 171 #[.string s, .int .i64 i] w fun e w'=>e = .returned (.int .i64 0)∧w'=w:=by
 go_enter Tryz.func171,Tryz.ntmps171
 go_wp2
 go_ret
 exact ⟨rfl,rfl⟩
theorem Xi (s:ByteArray) (i:Nat) (hi:i<s.size) (w:World) :
   Calls Tryz.prog 171 #[.string s, .int .i64 i] w fun e w'=>e = .returned (.int .i64 (aC.Xm s[i]))∧w'=w:=by
 have hb:s[i].toNat<256:=s[i].toNat_lt
 go_enter Tryz.func171,Tryz.ntmps171
 go_wp2_with (go_at_call 164;refine (vQ s[i] _).mono ?_;rintro e w' ⟨rfl,rfl⟩)
 all_goals (go_ret;exact ⟨iP (by first | exact aC.ab8 ‹_› | exact aC.ab9 ‹_› ‹_› | exact aC.acd ‹_› ‹_›),rfl⟩)
theorem Mj {s:ByteArray} {i:Nat} (hi:i<s.size):aC.rk (s.data.toList.drop i)=aC.Xm s[i]:=by
 rw[List.drop_eq_getElem_cons (by simpa using hi)];rfl
theorem Jt {s:ByteArray} {i:Nat} (hi:s.size≤i):aC.rk (s.data.toList.drop i)=0:=by
 rw[List.drop_of_length_le (by simpa using hi)];rfl
theorem wu (s:ByteArray) (i:Nat) (w:World) :
   Calls Tryz.prog 171 #[.string s, .int .i64 i] w fun e w'=>e = .returned (.int .i64 (aC.rk (s.data.toList.drop i)))∧w'=w:=by
 by_cases h:i<s.size
 · rw[Mj h];exact Xi s i h w
 · rw[Jt (by omega)];exact TQ s i (by omega) w
theorem below_bytesWorld (w:World) (e:TypeId) (s:ByteArray):Below w.heap.size w (Lib.bytesWorld w e s):=by
 refine ⟨rfl,rfl,rfl,?_,fun k hk=>Lib.bytesWorld_at_old w e s k hk⟩
 rw[Lib.bytesWorld_size];omega
theorem Ky (s:ByteArray) (w:World):∃ (w1:World) (cap:Nat),(convert 9 47 (.string s)).run Tryz.prog w = .ok (.slice (some ⟨w.heap.size,0,none⟩) s.size cap) w1
   ∧ (∀ j,j<s.size→w1.cell? ⟨w.heap.size,j,none⟩=some (.int .u8 (s.data.toList.getD j 0).toNat))∧Below w.heap.size w w1 :=
 ⟨_,_,Lib.run_convert_string_bytes w 9 47 5 s Tryz.underlying9 Tryz.underlying47 Tryz.underlying5,
   fun j hj=>Lib.bytesWorld_cell w 5 s j hj,below_bytesWorld w 5 s⟩
theorem GH {f:UInt8→Bool} {s:ByteArray} {k:Nat} (h:k<s.size) (ha:(s.data.toList.take k).all f=true) (hf:f (s.data[k]'h)=true):(s.data.toList.take (k+1)).all f=true:=by
 rw[List.take_succ_eq_append_getElem (by simpa using h),List.all_append,ha];simpa using hf
theorem Oe {f:UInt8→Bool} {s:ByteArray} {k:Nat} (h:k<s.size) (hf:f (s.data[k]'h)=false):aC.p8 f s.data.toList=false:=by
 rw[aC.p8,List.all_eq_false]
 exact ⟨s.data[k]'h,by simp,by simp[hf]⟩
theorem Og {f:UInt8→Bool} {s:ByteArray} {k:Nat} (h : ¬ k<s.size) (ha:(s.data.toList.take k).all f=true):aC.p8 f s.data.toList=true:=by
 rwa [List.take_of_length_le (by simpa using h)] at ha
theorem MZ (g:Nat) (f:UInt8→Bool) (he:∀ args w,(callFunc g args).run Tryz.prog w = .ok (.enter g args) w)
   (hg:∀ (c:UInt8) (w:World),Calls Tryz.prog g #[.int .u8 c.toNat] w fun e w'=>e = .returned (.bool (f c))∧w'=w)
   (s:ByteArray) (hs:s.size≤140737488355328) (w:World) :
   Calls Tryz.prog 100 #[.string s, .func (.func g) #[] #[]] w fun e w'=>e = .returned (.bool (aC.p8 f s.data.toList))∧Below w.heap.size w w':=by
 obtain ⟨w1,cap,hrun,hcell,hb⟩:=Ky s w
 have HB:=hide hb;clear hb
 go_enter Tryz.func100,Tryz.ntmps100
 go_wp2_with fail
 go_loop [10] (fun i=>∃ k:Nat,k≤s.size∧i = .int .i64 k∧(s.data.toList.take k).all f=true) (fun i=>s.size-(intOf i).toNat)
 case atStart=>exact ⟨0,Nat.zero_le _,rfl,rfl⟩
 case round =>
   obtain ⟨k,hk,rfl,hall⟩:=hrel
   have HA:=hide hall;clear hall
   by_cases hlt:k<s.size
   · have hck:=hcell k hlt
     cases hf:f (s.data[k]'hlt)
     · go_wp2_with (refine (hg _ _).mono ?_;rintro e w' ⟨rfl,rfl⟩)
       go_ret
       exact ⟨fq (Oe hlt hf).symm,HB.out⟩
     · go_wp2_with (refine (hg _ _).mono ?_;rintro e w' ⟨rfl,rfl⟩)
       go_round
       case rel=>exact ⟨k+1,by omega,by go_num,GH hlt HA.out hf⟩
       case measure=>simp[intOf];omega
   · go_wp2_with fail
     go_ret
     exact ⟨fq (Og hlt HA.out).symm,HB.out⟩
theorem enters {f:Func} {K:Nat} {c:Code} (hf:Tryz.prog.funcs[K]? = some f) (hn:(f.name == "runtime.NumGoroutine")=false) (hb:f.body=some c) (args:Array Value) (w:World):(callFunc K args).run Tryz.prog w = .ok (.enter K args) w:=by
 have h1:f.name ≠ "runtime.NumGoroutine" := by simpa using hn
 simp[callFunc,hf,h1,hb,mark]
theorem row_step {f:UInt8→Bool} {s:ByteArray} {k:Nat} (h:k<s.size) (ha:(s.data.toList.take k).all f=true) (hf:f s[k]=true):(s.data.toList.take (k+1)).all f=true :=
 GH h ha hf
theorem Uj {f:UInt8→Bool} {l:List UInt8} {k:Nat} (ha:(l.take k).all f=true) (hf:∀ h:k<l.length,f l[k]=false):l.takeWhile f=l.take k∧l.dropWhile f=l.drop k:=by
 induction l generalizing k with
 | nil=>simp
 | cons c l ih =>
   cases k with
   | zero=>have:=hf (by simp);simp at this;simp[this]
   | succ k =>
     simp only[List.take_succ_cons,List.all_cons,Bool.and_eq_true] at ha
     have:=ih ha.2 (fun h=>by have:=hf (by simpa using h);simpa using this)
     simp[ha.1,this.1,this.2]
theorem Ju {f:UInt8→Bool} {s:ByteArray} {k:Nat} (ha:(s.data.toList.take k).all f=true) (hf:∀ h:k<s.size,f s[k]=false) :
   aC.pre f s.data.toList=s.data.toList.take k∧aC.suf f s.data.toList=s.data.toList.drop k :=
 Uj ha (fun h=>hf (by simpa using h))
theorem KH (g:Nat) (f:UInt8→Bool) (he:∀ args w,(callFunc g args).run Tryz.prog w = .ok (.enter g args) w)
   (hg:∀ (c:UInt8) (w:World),Calls Tryz.prog g #[.int .u8 c.toNat] w fun e w'=>e = .returned (.bool (f c))∧w'=w)
   (s:ByteArray) (hs:s.size≤140737488355328) (w:World) :
   Calls Tryz.prog 107 #[.string s, .func (.func g) #[] #[]] w fun e w' =>
     e = .returned (.tuple #[.string ⟨(aC.pre f s.data.toList).toArray⟩, .string ⟨(aC.suf f s.data.toList).toArray⟩])∧Below w.heap.size w w':=by
 go_enter Tryz.func107,Tryz.ntmps107
 go_wp2_with fail
 go_loop [6] (fun i=>∃ k:Nat,k≤s.size∧i = .int .i64 k∧(s.data.toList.take k).all f=true) (fun i=>s.size-(intOf i).toNat)
 case atStart=>exact ⟨0,Nat.zero_le _,rfl,rfl⟩
 case round =>
   obtain ⟨k,hk,rfl,hall⟩:=hrel
   have HA:=hide hall;clear hall
   have hk1:(0:Int)≤k:=by omega
   have hk2:(k:Int)≤s.size:=by omega
   by_cases hlt:k<s.size
   · cases hf:f s[k]
     · have HE:=hide (Ju HA.out (fun _=>hf))
       go_wp2_with (refine (hg _ _).mono ?_;rintro e w' ⟨rfl,rfl⟩)
       go_region
       all_goals (go_wp2;go_ret2;exact ⟨Js (by rw[vL,HE.out.1]) (by rw[vK,HE.out.2]),(Below.refl _ _).drew⟩)
     · go_wp2_with (refine (hg _ _).mono ?_;rintro e w' ⟨rfl,rfl⟩)
       go_round
       case rel=>exact ⟨k+1,by omega,by go_num,row_step hlt HA.out hf⟩
       case measure=>simp[intOf];omega
   · have HE:=hide (Ju HA.out (fun h=>absurd h hlt))
     go_wp2_with fail
     go_region
     all_goals (go_wp2;go_ret2;exact ⟨Js (by rw[vL,HE.out.1]) (by rw[vK,HE.out.2]),(Below.refl _ _).drew⟩)
theorem Ay (x y:Int) (w:World):Calls Tryz.prog 105 #[.int .i64 x, .int .i64 y] w fun e w'=>e = .returned (.int .i64 (aC.oJ x y))∧w'=w :=
 Tryz.cmp_Compare_int x y w
theorem TY {a b:List UInt8} {k:Nat} (hk:k<25) (h:aC.oJ (aC.rk (a.drop k)) (aC.rk (b.drop k))=0) :
   aC.signs (25-k) (a.drop k) (b.drop k)=aC.signs (25-(k+1)) (a.drop (k+1)) (b.drop (k+1)):=by
 rw[show 25-k=(25-(k+1))+1 from by omega,aC.signs,h];simp[aC.rX]
theorem Qn {a b:List UInt8} {k:Nat} (hk:k<25) (h:aC.oJ (aC.rk (a.drop k)) (aC.rk (b.drop k))≠0) :
   aC.signs (25-k) (a.drop k) (b.drop k)=aC.oJ (aC.rk (a.drop k)) (aC.rk (b.drop k)):=by
 rw[show 25-k=(25-(k+1))+1 from by omega,aC.signs];simp[aC.rX,h]
theorem Qm {a b:ByteArray} {k:Nat} (ha:a.size≤k) (hb:b.size≤k):aC.signs (25-k) (a.data.toList.drop k) (b.data.toList.drop k)=0:=by
 rw[List.drop_of_length_le (by simpa using ha),List.drop_of_length_le (by simpa using hb),aC.xQ]
theorem Ql (a b:ByteArray) (ha:a.size≤24) (hb:b.size≤24) (w:World) :
   Calls Tryz.prog 109 #[.string a, .string b] w fun e w'=>e = .returned (.int .i64 (aC.signs 25 a.data.toList b.data.toList))∧w'=w:=by
 go_enter Tryz.func109,Tryz.ntmps109
 go_wp2_with fail
 go_loop [12] (fun i=>∃ k:Nat,k≤24∧i = .int .i64 k∧aC.signs 25 a.data.toList b.data.toList=aC.signs (25-k) (a.data.toList.drop k) (b.data.toList.drop k)) (fun i=>25-(intOf i).toNat)
 case atStart=>exact ⟨0,Nat.zero_le _,rfl,rfl⟩
 case round =>
   obtain ⟨k,hk,rfl,hs⟩:=hrel
   have HS:=hide hs;clear hs
   by_cases hlt:(k:Int)<max (a.size:Int) (b.size:Int)
   · have HL:=hide hlt
     by_cases hc:aC.oJ (aC.rk (a.data.toList.drop k)) (aC.rk (b.data.toList.drop k))=0
     · have HC:=hide hc
       have hc':(aC.oJ (aC.rk (a.data.toList.drop k)) (aC.rk (b.data.toList.drop k)) != 0)=false:=by simp[hc]
       clear hc
       go_wp2_with (first
         | (go_at_call_of 171 (Value.string a);refine (wu a k _).mono ?_;rintro e w' ⟨rfl,rfl⟩)
         | (go_at_call_of 171 (Value.string b);refine (wu b k _).mono ?_;rintro e w' ⟨rfl,rfl⟩)
         | (go_at_call 105;refine (Ay _ _ _).mono ?_;rintro e w' ⟨rfl,rfl⟩))
       go_round
       case rel=>exact ⟨k+1,by omega,by go_num,by rw[HS.out,TY (by omega) HC.out]⟩
       case measure=>simp[intOf];omega
     · have HC:=hide hc
       have hc':(aC.oJ (aC.rk (a.data.toList.drop k)) (aC.rk (b.data.toList.drop k)) != 0)=true:=by simp[hc]
       clear hc
       go_wp2_with (first
         | (go_at_call_of 171 (Value.string a);refine (wu a k _).mono ?_;rintro e w' ⟨rfl,rfl⟩)
         | (go_at_call_of 171 (Value.string b);refine (wu b k _).mono ?_;rintro e w' ⟨rfl,rfl⟩)
         | (go_at_call 105;refine (Ay _ _ _).mono ?_;rintro e w' ⟨rfl,rfl⟩))
       go_ret
       exact ⟨iP (by rw[HS.out,Qn (by omega) HC.out]),rfl⟩
   · go_wp2_with fail
     go_ret
     exact ⟨iP (by rw[HS.out,Qm (by omega) (by omega)]),rfl⟩
def gX:List Int→Int
 | []=>0
 | c::l=>aC.rX c (gX l)
theorem ab3 {xs:List Int} {k:Nat} (h:k<xs.length) (h0:xs[k]=0):gX (xs.drop k)=gX (xs.drop (k+1)):=by
 rw[List.drop_eq_getElem_cons h,gX]
 simp[aC.rX,h0]
theorem aag {xs:List Int} {k:Nat} (h:k<xs.length) (h0:xs[k]≠0):gX (xs.drop k)=xs[k]:=by
 rw[List.drop_eq_getElem_cons h,gX]
 simp[aC.rX,h0]
theorem aaf {xs:List Int} {k:Nat} (h : ¬ k<xs.length):gX (xs.drop k)=0:=by
 rw[List.drop_of_length_le (by omega)];rfl
theorem TG (b:Nat) (n cap:Nat) (xs:List Int) (hn:n=xs.length) (hm:n≤1000) (w:World)
   (hc:∀ j,j<xs.length→w.cell? ⟨b,j,none⟩=some (.int .i64 (xs.getD j 0))) :
   Calls Tryz.prog 53 #[.slice (some ⟨b,0,none⟩) n cap] w fun e w'=>e = .returned (.int .i64 (gX xs))∧w'=w:=by
 subst hn
 go_enter Tryz.func53,Tryz.ntmps53
 go_wp2_with fail
 go_loop [8] (fun i=>∃ k:Nat,k≤xs.length∧i = .int .i64 k∧gX xs=gX (xs.drop k)) (fun i=>xs.length-(intOf i).toNat)
 case atStart=>exact ⟨0,Nat.zero_le _,rfl,rfl⟩
 case round =>
   obtain ⟨k,hk,rfl,hs⟩:=hrel
   have HS:=hide hs;clear hs
   by_cases hlt:k<xs.length
   · have hck:w.cell? ⟨b,k,none⟩=some (.int .i64 xs[k]):=by rw[hc k hlt];simp[List.getD,hlt]
     clear hc
     by_cases h0:xs[k]=0
     · have H0:=hide h0
       have h0':(xs[k] != 0)=false:=bne_eq_false_iff_eq.2 h0
       clear h0
       go_wp2_with fail
       go_round
       case rel=>exact ⟨k+1,by omega,by go_num,by rw[HS.out];exact ab3 hlt H0.out⟩
       case measure=>simp[intOf];omega
     · have H0:=hide h0
       have h0':(xs[k] != 0)=true:=bne_iff_ne.2 h0
       clear h0
       go_wp2_with fail
       go_ret
       exact ⟨iP (by rw[HS.out,aag hlt H0.out]),rfl⟩
   · go_wp2_with fail
     go_ret
     exact ⟨iP (by rw[HS.out,aaf hlt]),rfl⟩
theorem Ni:∀ (n:Nat) (x y:List UInt8),x.length<n→y.length<n→aC.Dt n x y=if Op.bytesLess x y=true then -1 else if (x==y)=true then 0 else 1
 | 0,_,_,h,_=>absurd h (by omega)
 | n+1,[],[],_,_=>by rw[aC.IC];simp[Op.bytesLess]
 | n+1,[],b::y,_,_=>by
   have:aC.kb (b::y)=b.toNat:=rfl
   have h2:aC.oJ (-1) (b.toNat:Int) = -1:=by simp only[aC.oJ];rw[if_pos (by omega)]
   rw[aC.Dt,show aC.kb [] = -1 from rfl,this,h2];simp[Op.bytesLess,aC.rX]
 | n+1,a::x,[],_,_=>by
   have:aC.kb (a::x)=a.toNat:=rfl
   have h2:aC.oJ (a.toNat:Int) (-1)=1:=by simp only[aC.oJ];rw[if_neg (by omega),if_pos (by omega)]
   rw[aC.Dt,show aC.kb [] = -1 from rfl,this,h2];simp[Op.bytesLess,aC.rX]
 | n+1,a::x,b::y,hx,hy=>by
   have ih:=Ni n x y (by simpa using hx) (by simpa using hy)
   rw[aC.Dt,show aC.kb (a::x)=a.toNat from rfl,show aC.kb (b::y)=b.toNat from rfl,show (a::x).tail=x from rfl,show (b::y).tail=y from rfl,ih]
   have hlt:(a<b) ↔ (a.toNat:Int)<b.toNat:=by rw[UInt8.lt_iff_toNat_lt];omega
   have heq:(a=b) ↔ (a.toNat:Int)=b.toNat:=by rw[← UInt8.toNat_inj];omega
   by_cases h1:a<b
   · have h1':=hlt.1 h1
     simp[Op.bytesLess,aC.rX,aC.oJ,h1,h1']
   · have h1' : ¬ (a.toNat:Int)<b.toNat:=fun h=>h1 (hlt.2 h)
     by_cases h2:a=b
     · have h2':=heq.1 h2
       simp[Op.bytesLess,aC.rX,aC.oJ,h2]
     · have h2' : ¬ (a.toNat:Int)=b.toNat:=fun h=>h2 (heq.2 h)
       have h3':(b.toNat:Int)<a.toNat:=by omega
       simp[Op.bytesLess,aC.rX,aC.oJ,h1,h2,h1',h3']
theorem Z5 {x y:List UInt8} {r:Int} (h:r=if Op.bytesLess x y=true then -1 else if (x==y)=true then 0 else 1) (h1:Op.bytesLess x y=true) : -1=r:=by simp[h,h1]
theorem Z6 {x y:List UInt8} {r:Int} (h:r=if Op.bytesLess x y=true then -1 else if (x==y)=true then 0 else 1) (h1:Op.bytesLess x y=false) (h2:(!x==y)=true):1=r:=by
 simp at h2;simp[h,h1,h2]
theorem Z7 {x y:List UInt8} {r:Int} (h:r=if Op.bytesLess x y=true then -1 else if (x==y)=true then 0 else 1) (h1:Op.bytesLess x y=false) (h2:(!x==y)=false):0=r:=by
 simp at h2;subst h2;simp[h,h1]
theorem RU (a b:ByteArray) (ha:a.size≤24) (hb:b.size≤24) (w:World) :
   Calls Tryz.prog 106 #[.string a, .string b] w fun e w'=>e = .returned (.int .i64 (aC.Dt 25 a.data.toList b.data.toList))∧w'=w:=by
 have he:=Ni 25 a.data.toList b.data.toList (by simp;omega) (by simp;omega)
 rw[← Lib.toList_data,← Lib.toList_data] at he ⊢
 have HE:=hide he;clear he
 go_enter Tryz.func106,Tryz.ntmps106
 go_wp2
 all_goals (go_ret;exact ⟨iP (by first | exact Z5 HE.out ‹_› | exact Z6 HE.out ‹_› ‹_› | exact Z7 HE.out ‹_› ‹_›),rfl⟩)
theorem Um (s:ByteArray) (w:World) :
   Calls Tryz.prog 104 #[.string s, .string ⟨#[48]⟩] w fun e w'=>e = .returned (.string ⟨(aC.trim s.data.toList).toArray⟩)∧w'=w :=
 Tryz.strings_TrimLeft_one s 48 (by decide) w
theorem ND (l:List UInt8):(aC.trim l).length≤l.length:=(List.dropWhile_suffix _).length_le
theorem RS (x y:List UInt8) (hx:x.length≤24) (hy:y.length≤24) (w:World) :
   Calls Tryz.prog 106 #[.string ⟨x.toArray⟩, .string ⟨y.toArray⟩] w fun e w'=>e = .returned (.int .i64 (aC.Dt 25 x y))∧w'=w :=
 RU ⟨x.toArray⟩ ⟨y.toArray⟩ (by simpa [ByteArray.size] using hx) (by simpa [ByteArray.size] using hy) w
theorem QC {w:World} {b:Nat} {x y:Int} (h0:w.cell? ⟨b,0,none⟩=some (.int .i64 x)) (h1:w.cell? ⟨b,1,none⟩=some (.int .i64 y)) :
   ∀ j,j<[x,y].length→w.cell? ⟨b,j,none⟩=some (.int .i64 ([x,y].getD j 0)):=by
 intro j hj
 match j,hj with
 | 0,_=>exact h0
 | 1,_=>exact h1
theorem aah (x y:Int):gX [x,y]=aC.rX x y:=by
 by_cases h:y=0<;>simp[gX,aC.rX,h]
theorem aak (x y:Int) (w:World) :
   Calls Tryz.prog 53 #[.slice (some ⟨w.heap.size,0,none⟩) 2 2] (w.alloc (.cells #[.int .i64 x, .int .i64 y] 3)) fun e w' =>
     e = .returned (.int .i64 (aC.rX x y))∧w'=w.alloc (.cells #[.int .i64 x, .int .i64 y] 3):=by
 rw[← aah]
 exact TG w.heap.size 2 2 [x,y] rfl (by decide) _ (QC (by simp[go_sem]) (by simp[go_sem]))
theorem Tt (a b:ByteArray) (ha:a.size≤24) (hb:b.size≤24) (w:World) :
   Calls Tryz.prog 54 #[.string a, .string b] w fun e w'=>e = .returned (.int .i64 (aC.nums a.data.toList b.data.toList))∧Below w.heap.size w w':=by
 have hx:(aC.trim a.data.toList).length≤24:=Nat.le_trans (ND _) (by simpa using ha)
 have hy:(aC.trim b.data.toList).length≤24:=Nat.le_trans (ND _) (by simpa using hb)
 go_enter Tryz.func54,Tryz.ntmps54
 go_wp2_with (first
   | (go_at_call 104;refine (Um _ _).mono ?_;rintro e w' ⟨rfl,rfl⟩)
   | (go_at_call 105;refine (Ay _ _ _).mono ?_;rintro e w' ⟨rfl,rfl⟩)
   | (go_at_call 106;refine (RS _ _ hx hy _).mono ?_;rintro e w' ⟨rfl,rfl⟩)
   | (go_at_call 53;refine (aak _ _ _).mono ?_;rintro e w' ⟨rfl,rfl⟩))
 go_ret
 exact ⟨rfl,(Below.refl _ _).alloc (Nat.le_refl _) _⟩
end
end Go.Proofs.YtialenebfcnkkaaGreatDoor
