import Derived.Shelf.SlIter.Nil
import Derived.Shelf.SlMaps.Clone
import Derived.WalkSpells
import Derived.WalkLawsBesides
import Derived.Test.YtfhmaiicimdldaaGreatDoorFinJ1
set_option maxHeartbeats 1000000
namespace Go.Proofs
open Go.Shelf
def Tryz.keys78_ren:Go.Shelf.Ren:=⟨fun | 7=>78 | 10=>143 | n=>n,fun | 23=>152 | 26=>9 | 3=>175 | 28=>172 | 0=>0 | 27=>171 | 33=>136 | 4=>4 | n=>n,fun | n=>n⟩
theorem Tryz.keys78:Go.Proofs.SlLaysZ.n7 Tryz.prog Tryz.keys78_ren:={
 mixed:=by kernel_rfl
 f7:=⟨Tryz.f78.name,by decide,Tryz.func78.trans (IN some (by kernel_rfl))⟩
 f10:=⟨Tryz.f143.name,by decide,Tryz.func143.trans (IN some (by kernel_rfl))⟩
 t0:=Tryz.underlying0
 a0:=Tryz.isAgg0
 z0:=Tryz.sizeOf0
 v0:=Tryz.zeroValue0
 t4:=I2
 a4:=Tryz.isAgg4
 z4:=Tryz.sizeOf4
 v4:=Tryz.zeroValue4
 t23:=Tryz.underlying152
 a23:=Tryz.isAgg152
 z23:=Tryz.sizeOf152
 v23:=Tryz.zeroValue152
 t26:=IT
 a26:=Tryz.isAgg9
 z26:=Tryz.sizeOf9
 v26:=If
 t27:=Tryz.underlying171
 a27:=Tryz.isAgg171
 z27:=Tryz.sizeOf171
 v27:=Tryz.zeroValue171
 t28:=Tryz.underlying172
 a28:=Tryz.isAgg172
 z28:=Tryz.sizeOf172
 v28:=Tryz.zeroValue172
 t33:=Tryz.underlying136
 a33:=Tryz.isAgg136
 z33:=Tryz.sizeOf136
 v33:=Tryz.zeroValue136 }
def Tryz.sorted77_ren:Go.Shelf.Ren:=⟨fun | 6=>77 | 8=>141 | 9=>142 | 11=>195 | 13=>197 | 12=>196 | 23=>243 | 24=>244 | 14=>234 | 15=>235 | 16=>236 | 17=>237 | 18=>238 | 19=>239 | 20=>240 | 21=>241 | 22=>242 | 25=>282 | 26=>283 | 27=>284 | 28=>285 | 29=>286 | 30=>175 | 31=>306 | n=>n,fun | 26=>9 | 28=>172 | 24=>31 | 0=>0 | 3=>3 | 37=>216 | 48=>65 | 50=>342 | 4=>4 | 40=>334 | 39=>333 | 45=>338 | 5=>5 | 9=>9 | 51=>368 | 55=>253 | 57=>394 | 58=>235 | 33=>136 | n=>n,fun | n=>n⟩
theorem Tryz.sorted77:Go.Proofs.SlLaysZ.n6 Tryz.prog Tryz.sorted77_ren:={
 mixed:=by kernel_rfl
 f6:=⟨Tryz.f77.name,by decide,Tryz.func77.trans (IN some (by kernel_rfl))⟩
 f8:=⟨Tryz.f141.name,by decide,Tryz.func141.trans (IN some (by kernel_rfl))⟩
 f11:=⟨Tryz.f195.name,by decide,Tryz.func195.trans (IN some (by kernel_rfl))⟩
 t0:=Tryz.underlying0
 a0:=Tryz.isAgg0
 z0:=Tryz.sizeOf0
 v0:=Tryz.zeroValue0
 t24:=Tryz.underlying31
 a24:=Tryz.isAgg31
 z24:=Tryz.sizeOf31
 v24:=Tryz.zeroValue31
 t26:=IT
 a26:=Tryz.isAgg9
 z26:=Tryz.sizeOf9
 v26:=If
 t28:=Tryz.underlying172
 a28:=Tryz.isAgg172
 z28:=Tryz.sizeOf172
 v28:=Tryz.zeroValue172
 i26:=by kernel_rfl }
def Tryz.sort142_ren:Go.Shelf.Ren:=⟨fun | 6=>142 | 8=>197 | 9=>196 | 19=>243 | 20=>244 | 21=>234 | 22=>235 | 23=>236 | 24=>237 | 25=>238 | 26=>239 | 27=>240 | 28=>241 | 29=>242 | 36=>282 | 31=>283 | 32=>284 | 37=>285 | 38=>286 | 39=>175 | 41=>306 | n=>n,fun | 27=>31 | 29=>9 | 3=>3 | 32=>216 | 26=>31 | 0=>0 | 44=>65 | 46=>342 | 4=>4 | 36=>334 | 35=>333 | 41=>338 | 5=>5 | 9=>9 | 53=>368 | 57=>253 | 63=>394 | 64=>235 | n=>n,fun | n=>n⟩
theorem Tryz.sort142:Go.Proofs.SlLaysM.n6 Tryz.prog Tryz.sort142_ren:={
 mixed:=by kernel_rfl
 f6:=⟨Tryz.f142.name,by decide,Tryz.func142.trans (IN some (by kernel_rfl))⟩
 f8:=Tryz.func197.trans (IN some (by kernel_rfl))
 f9:=⟨Tryz.f196.name,by decide,Tryz.func196.trans (IN some (by kernel_rfl))⟩
 f19:=Tryz.func243.trans (IN some (by kernel_rfl))
 f20:=Tryz.func244.trans (IN some (by kernel_rfl))
 f21:=⟨Tryz.f234.name,by decide,Tryz.func234.trans (IN some (by kernel_rfl))⟩
 f22:=⟨Tryz.f235.name,by decide,Tryz.func235.trans (IN some (by kernel_rfl))⟩
 f23:=⟨Tryz.f236.name,by decide,Tryz.func236.trans (IN some (by kernel_rfl))⟩
 f24:=⟨Tryz.f237.name,by decide,Tryz.func237.trans (IN some (by kernel_rfl))⟩
 f25:=⟨Tryz.f238.name,by decide,Tryz.func238.trans (IN some (by kernel_rfl))⟩
 f26:=⟨Tryz.f239.name,by decide,Tryz.func239.trans (IN some (by kernel_rfl))⟩
 f27:=⟨Tryz.f240.name,by decide,Tryz.func240.trans (IN some (by kernel_rfl))⟩
 f28:=⟨Tryz.f241.name,by decide,Tryz.func241.trans (IN some (by kernel_rfl))⟩
 f29:=⟨Tryz.f242.name,by decide,Tryz.func242.trans (IN some (by kernel_rfl))⟩
 f31:=Tryz.func283.trans (IN some (by kernel_rfl))
 f32:=Tryz.func284.trans (IN some (by kernel_rfl))
 f36:=⟨Tryz.f282.name,by decide,Tryz.func282.trans (IN some (by kernel_rfl))⟩
 f37:=⟨Tryz.f285.name,by decide,Tryz.func285.trans (IN some (by kernel_rfl))⟩
 f38:=⟨Tryz.f286.name,by decide,Tryz.func286.trans (IN some (by kernel_rfl))⟩
 f39:=⟨Tryz.f175.name,by decide,Tryz.func175.trans (IN some (by kernel_rfl))⟩
 f41:=⟨Tryz.f306.name,by decide,Tryz.func306.trans (IN some (by kernel_rfl))⟩
 t0:=Tryz.underlying0
 a0:=Tryz.isAgg0
 z0:=Tryz.sizeOf0
 v0:=Tryz.zeroValue0
 t3:=I1
 a3:=Tryz.isAgg3
 z3:=Tryz.sizeOf3
 v3:=Tryz.zeroValue3
 t4:=I2
 a4:=Tryz.isAgg4
 z4:=Tryz.sizeOf4
 v4:=Tryz.zeroValue4
 t5:=Tryz.underlying5
 a5:=Tryz.isAgg5
 z5:=Tryz.sizeOf5
 v5:=Tryz.zeroValue5
 t9:=IT
 a9:=Tryz.isAgg9
 z9:=Tryz.sizeOf9
 v9:=If
 t26:=Tryz.underlying31
 a26:=Tryz.isAgg31
 z26:=Tryz.sizeOf31
 v26:=Tryz.zeroValue31
 t27:=Tryz.underlying31
 a27:=Tryz.isAgg31
 z27:=Tryz.sizeOf31
 v27:=Tryz.zeroValue31
 t29:=IT
 a29:=Tryz.isAgg9
 z29:=Tryz.sizeOf9
 v29:=If
 t32:=Tryz.underlying216
 a32:=Tryz.isAgg216
 z32:=Tryz.sizeOf216
 v32:=Tryz.zeroValue216
 t35:=Tryz.underlying333
 a35:=Tryz.isAgg333
 z35:=Tryz.sizeOf333
 v35:=Tryz.zeroValue333
 t36:=Tryz.underlying334
 a36:=Tryz.isAgg334
 z36:=Tryz.sizeOf334
 v36:=Tryz.zeroValue334
 t41:=Tryz.underlying338
 a41:=Tryz.isAgg338
 z41:=Tryz.sizeOf338
 v41:=Tryz.zeroValue338
 t44:=Tryz.underlying65
 a44:=Tryz.isAgg65
 z44:=Tryz.sizeOf65
 v44:=Tryz.zeroValue65
 t46:=Tryz.underlying342
 a46:=Tryz.isAgg342
 z46:=Tryz.sizeOf342
 v46:=Tryz.zeroValue342
 t53:=Tryz.underlying368
 a53:=Tryz.isAgg368
 z53:=Tryz.sizeOf368
 v53:=Tryz.zeroValue368
 t57:=Tryz.underlying253
 a57:=Tryz.isAgg253
 z57:=Tryz.sizeOf253
 v57:=Tryz.zeroValue253
 t63:=Tryz.underlying394
 a63:=Tryz.isAgg394
 z63:=Tryz.sizeOf394
 v63:=Tryz.zeroValue394
 t64:=Tryz.underlying235
 a64:=Tryz.isAgg235
 z64:=Tryz.sizeOf235
 v64:=Tryz.zeroValue235 }
def Tryz.keys135_ren:Go.Shelf.Ren:=⟨fun | 7=>135 | 10=>191 | n=>n,fun | 23=>98 | 26=>9 | 3=>31 | 28=>172 | 0=>0 | 27=>171 | 33=>136 | 4=>4 | n=>n,fun | n=>n⟩
theorem Tryz.keys135:Go.Proofs.SlLaysZ.n7 Tryz.prog Tryz.keys135_ren:={
 mixed:=by kernel_rfl
 f7:=⟨Tryz.f135.name,by decide,Tryz.func135.trans (IN some (by kernel_rfl))⟩
 f10:=⟨Tryz.f191.name,by decide,Tryz.func191.trans (IN some (by kernel_rfl))⟩
 t0:=Tryz.underlying0
 a0:=Tryz.isAgg0
 z0:=Tryz.sizeOf0
 v0:=Tryz.zeroValue0
 t4:=I2
 a4:=Tryz.isAgg4
 z4:=Tryz.sizeOf4
 v4:=Tryz.zeroValue4
 t23:=Tryz.underlying98
 a23:=Tryz.isAgg98
 z23:=Tryz.sizeOf98
 v23:=Tryz.zeroValue98
 t26:=IT
 a26:=Tryz.isAgg9
 z26:=Tryz.sizeOf9
 v26:=If
 t27:=Tryz.underlying171
 a27:=Tryz.isAgg171
 z27:=Tryz.sizeOf171
 v27:=Tryz.zeroValue171
 t28:=Tryz.underlying172
 a28:=Tryz.isAgg172
 z28:=Tryz.sizeOf172
 v28:=Tryz.zeroValue172
 t33:=Tryz.underlying136
 a33:=Tryz.isAgg136
 z33:=Tryz.sizeOf136
 v33:=Tryz.zeroValue136 }
def Tryz.keys140_ren:Go.Shelf.Ren:=⟨fun | 7=>140 | 10=>194 | n=>n,fun | 23=>97 | 26=>9 | 3=>169 | 28=>172 | 0=>0 | 27=>171 | 33=>136 | 4=>4 | n=>n,fun | n=>n⟩
theorem Tryz.keys140:Go.Proofs.SlLaysZ.n7 Tryz.prog Tryz.keys140_ren:={
 mixed:=by kernel_rfl
 f7:=⟨Tryz.f140.name,by decide,Tryz.func140.trans (IN some (by kernel_rfl))⟩
 f10:=⟨Tryz.f194.name,by decide,Tryz.func194.trans (IN some (by kernel_rfl))⟩
 t0:=Tryz.underlying0
 a0:=Tryz.isAgg0
 z0:=Tryz.sizeOf0
 v0:=Tryz.zeroValue0
 t4:=I2
 a4:=Tryz.isAgg4
 z4:=Tryz.sizeOf4
 v4:=Tryz.zeroValue4
 t23:=IS
 a23:=Tryz.isAgg97
 z23:=Tryz.sizeOf97
 v23:=Tryz.zeroValue97
 t26:=IT
 a26:=Tryz.isAgg9
 z26:=Tryz.sizeOf9
 v26:=If
 t27:=Tryz.underlying171
 a27:=Tryz.isAgg171
 z27:=Tryz.sizeOf171
 v27:=Tryz.zeroValue171
 t28:=Tryz.underlying172
 a28:=Tryz.isAgg172
 z28:=Tryz.sizeOf172
 v28:=Tryz.zeroValue172
 t33:=Tryz.underlying136
 a33:=Tryz.isAgg136
 z33:=Tryz.sizeOf136
 v33:=Tryz.zeroValue136 }
def Tryz.keys187_ren:Go.Shelf.Ren:=⟨fun | 7=>187 | 10=>230 | n=>n,fun | 23=>146 | 26=>9 | 3=>63 | 28=>172 | 0=>0 | 27=>171 | 33=>136 | 4=>4 | n=>n,fun | n=>n⟩
theorem Tryz.keys187:Go.Proofs.SlLaysZ.n7 Tryz.prog Tryz.keys187_ren:={
 mixed:=by kernel_rfl
 f7:=⟨Tryz.f187.name,by decide,Tryz.func187.trans (IN some (by kernel_rfl))⟩
 f10:=⟨Tryz.f230.name,by decide,Tryz.func230.trans (IN some (by kernel_rfl))⟩
 t0:=Tryz.underlying0
 a0:=Tryz.isAgg0
 z0:=Tryz.sizeOf0
 v0:=Tryz.zeroValue0
 t4:=I2
 a4:=Tryz.isAgg4
 z4:=Tryz.sizeOf4
 v4:=Tryz.zeroValue4
 t23:=Tryz.underlying146
 a23:=Tryz.isAgg146
 z23:=Tryz.sizeOf146
 v23:=Tryz.zeroValue146
 t26:=IT
 a26:=Tryz.isAgg9
 z26:=Tryz.sizeOf9
 v26:=If
 t27:=Tryz.underlying171
 a27:=Tryz.isAgg171
 z27:=Tryz.sizeOf171
 v27:=Tryz.zeroValue171
 t28:=Tryz.underlying172
 a28:=Tryz.isAgg172
 z28:=Tryz.sizeOf172
 v28:=Tryz.zeroValue172
 t33:=Tryz.underlying136
 a33:=Tryz.isAgg136
 z33:=Tryz.sizeOf136
 v33:=Tryz.zeroValue136 }
open Go.RowKit Go.Maps Go.Sort in
theorem Tryz.sorts77 (m:Nat):AnyZ.SortsIn Tryz.prog Tryz.sorted77_ren Fence.wide m :=
 ⟨fun blk off cap ss W hH hblk hsz=>callsIn_wide.2 (AnyM.slices_Sort_string Tryz.sort142 blk off cap ss W hH hblk hsz),
  fun p cap W=>callsIn_wide.2 (AnyM.slices_Sort_string_none Tryz.sort142 p cap W)⟩
open Go.RowKit Go.Maps Go.Sort in
theorem Tryz.maps_Keys_78 (mb:Option Nat) (W:World):CallsIn Fence.wide 5 Tryz.prog 78 #[.map mb] W fun e w'=>e = .returned (.func (.func 143) #[] #[.pointer (some ⟨W.heap.size,0,none⟩)])/\w'=W.alloc (.cells #[.map mb] 152) :=
 AnyZ.keys_in Tryz.keys78 Fence.wide 5 trivial rfl mb W
open Go.RowKit Go.Maps Go.Sort in
theorem Tryz.slices_Sorted_keys_77_78 {H:Type} (b nn:Nat) (D0:DataW H) (R:Value->Option (DataW H × List MemPlace)) (w:World) (hown:w.ownsMap Tryz.prog 9 R b nn D0) (hmax:Maps.size D0<=maxLen) (hbytes:Maps.size D0*16<=140737488355328) :
 CallsIn Fence.wide 5 Tryz.prog 77 #[.func (.func 143) #[] #[.pointer (some ⟨w.heap.size,0,none⟩)]] (w.alloc (.cells #[.map (some b)] 152)) fun e w'=>∃ (v:Value) (ss:List (List UInt8)),e = .returned v/\ss.Perm (strKeys D0) /\
  w'.ownsRow (w.alloc (.cells #[.map (some b)] 152)).heap.size 9 1 v ss.length ((ss.mergeSort (fun x y=>decide (x<=y))).map encStr)/\(v = .slice none 0 0 ↔ ss=[])/\Below (w.alloc (.cells #[.map (some b)] 152)).heap.size (w.alloc (.cells #[.map (some b)] 152)) w':=by
 have hbl:=hown.lt;have hseq:SeqGives Fence.wide 2 Tryz.prog 143 #[.pointer (some ⟨w.heap.size,0,none⟩)] encStr (fun ss=>ss.Perm (strKeys D0)) (Maps.size D0) (w.alloc (.cells #[.map (some b)] 152)) :=
  AnyZ.keys_gives (ρ:=Tryz.keys78_ren) { Tryz.keys78 with } Fence.wide _ trivial rfl (by omega) w.heap.size b nn D0 _ (by simp) (by simp) (by
   obtain ⟨es,clock,hb,Ft,hs,hD⟩:=hown;exact ⟨es,clock,(AM _ _ b hbl).trans hb,Ft,hs,hD⟩)
 exact AnyZ.sorted_in Tryz.sorted77 Fence.wide 5 trivial trivial trivial trivial rfl (by omega) (Tryz.sorts77 _) (enters_of Tryz.func142 (by kernel_rfl) rfl) 143 #[.pointer (some ⟨w.heap.size,0,none⟩)] trivial (enters_of Tryz.func143 (by kernel_rfl) rfl) _ _ hmax hbytes _ hseq
open Go.RowKit Go.Maps Go.Sort in
theorem Tryz.maps_Keys_135 (mb:Option Nat) (W:World):CallsIn Fence.wide 5 Tryz.prog 135 #[.map mb] W fun e w'=>e = .returned (.func (.func 191) #[] #[.pointer (some ⟨W.heap.size,0,none⟩)])/\w'=W.alloc (.cells #[.map mb] 98) :=
 AnyZ.keys_in Tryz.keys135 Fence.wide 5 trivial rfl mb W
open Go.RowKit Go.Maps Go.Sort in
theorem Tryz.slices_Sorted_keys_77_135 {H:Type} (b nn:Nat) (D0:DataW H) (R:Value->Option (DataW H × List MemPlace)) (w:World) (hown:w.ownsMap Tryz.prog 9 R b nn D0) (hmax:Maps.size D0<=maxLen) (hbytes:Maps.size D0*16<=140737488355328) :
 CallsIn Fence.wide 5 Tryz.prog 77 #[.func (.func 191) #[] #[.pointer (some ⟨w.heap.size,0,none⟩)]] (w.alloc (.cells #[.map (some b)] 98)) fun e w'=>∃ (v:Value) (ss:List (List UInt8)),e = .returned v/\ss.Perm (strKeys D0) /\
  w'.ownsRow (w.alloc (.cells #[.map (some b)] 98)).heap.size 9 1 v ss.length ((ss.mergeSort (fun x y=>decide (x<=y))).map encStr)/\(v = .slice none 0 0 ↔ ss=[])/\Below (w.alloc (.cells #[.map (some b)] 98)).heap.size (w.alloc (.cells #[.map (some b)] 98)) w':=by
 have hbl:=hown.lt;have hseq:SeqGives Fence.wide 2 Tryz.prog 191 #[.pointer (some ⟨w.heap.size,0,none⟩)] encStr (fun ss=>ss.Perm (strKeys D0)) (Maps.size D0) (w.alloc (.cells #[.map (some b)] 98)) :=
  AnyZ.keys_gives (ρ:=Tryz.keys135_ren) { Tryz.keys135 with } Fence.wide _ trivial rfl (by omega) w.heap.size b nn D0 _ (by simp) (by simp) (by
   obtain ⟨es,clock,hb,Ft,hs,hD⟩:=hown;exact ⟨es,clock,(AM _ _ b hbl).trans hb,Ft,hs,hD⟩)
 exact AnyZ.sorted_in Tryz.sorted77 Fence.wide 5 trivial trivial trivial trivial rfl (by omega) (Tryz.sorts77 _) (enters_of Tryz.func142 (by kernel_rfl) rfl) 191 #[.pointer (some ⟨w.heap.size,0,none⟩)] trivial (enters_of Tryz.func191 (by kernel_rfl) rfl) _ _ hmax hbytes _ hseq
open Go.RowKit Go.Maps Go.Sort in
theorem Tryz.maps_Keys_140 (mb:Option Nat) (W:World):CallsIn Fence.wide 5 Tryz.prog 140 #[.map mb] W fun e w'=>e = .returned (.func (.func 194) #[] #[.pointer (some ⟨W.heap.size,0,none⟩)])/\w'=W.alloc (.cells #[.map mb] 97) :=
 AnyZ.keys_in Tryz.keys140 Fence.wide 5 trivial rfl mb W
open Go.RowKit Go.Maps Go.Sort in
theorem Tryz.slices_Sorted_keys_77_140 {H:Type} (b nn:Nat) (D0:DataW H) (R:Value->Option (DataW H × List MemPlace)) (w:World) (hown:w.ownsMap Tryz.prog 9 R b nn D0) (hmax:Maps.size D0<=maxLen) (hbytes:Maps.size D0*16<=140737488355328) :
 CallsIn Fence.wide 5 Tryz.prog 77 #[.func (.func 194) #[] #[.pointer (some ⟨w.heap.size,0,none⟩)]] (w.alloc (.cells #[.map (some b)] 97)) fun e w'=>∃ (v:Value) (ss:List (List UInt8)),e = .returned v/\ss.Perm (strKeys D0) /\
  w'.ownsRow (w.alloc (.cells #[.map (some b)] 97)).heap.size 9 1 v ss.length ((ss.mergeSort (fun x y=>decide (x<=y))).map encStr)/\(v = .slice none 0 0 ↔ ss=[])/\Below (w.alloc (.cells #[.map (some b)] 97)).heap.size (w.alloc (.cells #[.map (some b)] 97)) w':=by
 have hbl:=hown.lt;have hseq:SeqGives Fence.wide 2 Tryz.prog 194 #[.pointer (some ⟨w.heap.size,0,none⟩)] encStr (fun ss=>ss.Perm (strKeys D0)) (Maps.size D0) (w.alloc (.cells #[.map (some b)] 97)) :=
  AnyZ.keys_gives (ρ:=Tryz.keys140_ren) { Tryz.keys140 with } Fence.wide _ trivial rfl (by omega) w.heap.size b nn D0 _ (by simp) (by simp) (by
   obtain ⟨es,clock,hb,Ft,hs,hD⟩:=hown;exact ⟨es,clock,(AM _ _ b hbl).trans hb,Ft,hs,hD⟩)
 exact AnyZ.sorted_in Tryz.sorted77 Fence.wide 5 trivial trivial trivial trivial rfl (by omega) (Tryz.sorts77 _) (enters_of Tryz.func142 (by kernel_rfl) rfl) 194 #[.pointer (some ⟨w.heap.size,0,none⟩)] trivial (enters_of Tryz.func194 (by kernel_rfl) rfl) _ _ hmax hbytes _ hseq
open Go.RowKit Go.Maps Go.Sort in
theorem Tryz.maps_Keys_187 (mb:Option Nat) (W:World):CallsIn Fence.wide 5 Tryz.prog 187 #[.map mb] W fun e w'=>e = .returned (.func (.func 230) #[] #[.pointer (some ⟨W.heap.size,0,none⟩)])/\w'=W.alloc (.cells #[.map mb] 146) :=
 AnyZ.keys_in Tryz.keys187 Fence.wide 5 trivial rfl mb W
open Go.RowKit Go.Maps Go.Sort in
theorem Tryz.slices_Sorted_keys_77_187 {H:Type} (b nn:Nat) (D0:DataW H) (R:Value->Option (DataW H × List MemPlace)) (w:World) (hown:w.ownsMap Tryz.prog 9 R b nn D0) (hmax:Maps.size D0<=maxLen) (hbytes:Maps.size D0*16<=140737488355328) :
 CallsIn Fence.wide 5 Tryz.prog 77 #[.func (.func 230) #[] #[.pointer (some ⟨w.heap.size,0,none⟩)]] (w.alloc (.cells #[.map (some b)] 146)) fun e w'=>∃ (v:Value) (ss:List (List UInt8)),e = .returned v/\ss.Perm (strKeys D0) /\
  w'.ownsRow (w.alloc (.cells #[.map (some b)] 146)).heap.size 9 1 v ss.length ((ss.mergeSort (fun x y=>decide (x<=y))).map encStr)/\(v = .slice none 0 0 ↔ ss=[])/\Below (w.alloc (.cells #[.map (some b)] 146)).heap.size (w.alloc (.cells #[.map (some b)] 146)) w':=by
 have hbl:=hown.lt;have hseq:SeqGives Fence.wide 2 Tryz.prog 230 #[.pointer (some ⟨w.heap.size,0,none⟩)] encStr (fun ss=>ss.Perm (strKeys D0)) (Maps.size D0) (w.alloc (.cells #[.map (some b)] 146)) :=
  AnyZ.keys_gives (ρ:=Tryz.keys187_ren) { Tryz.keys187 with } Fence.wide _ trivial rfl (by omega) w.heap.size b nn D0 _ (by simp) (by simp) (by
   obtain ⟨es,clock,hb,Ft,hs,hD⟩:=hown;exact ⟨es,clock,(AM _ _ b hbl).trans hb,Ft,hs,hD⟩)
 exact AnyZ.sorted_in Tryz.sorted77 Fence.wide 5 trivial trivial trivial trivial rfl (by omega) (Tryz.sorts77 _) (enters_of Tryz.func142 (by kernel_rfl) rfl) 230 #[.pointer (some ⟨w.heap.size,0,none⟩)] trivial (enters_of Tryz.func230 (by kernel_rfl) rfl) _ _ hmax hbytes _ hseq
end Go.Proofs
namespace Go.Proofs
open Go.Shelf
def Tryz.clone179_ren:Go.Shelf.Ren:=⟨fun | 5=>179 | 7=>203 | n=>n,fun | 23=>97 | 25=>9 | 3=>169 | 4=>4 | 20=>20 | n=>n,fun | n=>n⟩
theorem Tryz.clone179:Go.Proofs.SlLaysW.n5 Tryz.prog Tryz.clone179_ren:={
 mixed:=by kernel_rfl
 f5:=⟨Tryz.f179.name,by decide,Tryz.func179.trans (IN some (by kernel_rfl))⟩
 f7:=Tryz.func203.trans (IN some (by kernel_rfl))
 t4:=I2
 a4:=Tryz.isAgg4
 z4:=Tryz.sizeOf4
 v4:=Tryz.zeroValue4
 t20:=Tryz.underlying20
 a20:=Tryz.isAgg20
 z20:=Tryz.sizeOf20
 v20:=Tryz.zeroValue20
 t23:=IS
 a23:=Tryz.isAgg97
 z23:=Tryz.sizeOf97
 v23:=Tryz.zeroValue97 }
def Tryz.clone151_ren:Go.Shelf.Ren:=⟨fun | 5=>151 | 7=>203 | n=>n,fun | 23=>152 | 25=>9 | 3=>175 | 4=>4 | 20=>20 | n=>n,fun | n=>n⟩
theorem Tryz.clone151:Go.Proofs.SlLaysW.n5 Tryz.prog Tryz.clone151_ren:={
 mixed:=by kernel_rfl
 f5:=⟨Tryz.f151.name,by decide,Tryz.func151.trans (IN some (by kernel_rfl))⟩
 f7:=Tryz.func203.trans (IN some (by kernel_rfl))
 t4:=I2
 a4:=Tryz.isAgg4
 z4:=Tryz.sizeOf4
 v4:=Tryz.zeroValue4
 t20:=Tryz.underlying20
 a20:=Tryz.isAgg20
 z20:=Tryz.sizeOf20
 v20:=Tryz.zeroValue20
 t23:=Tryz.underlying152
 a23:=Tryz.isAgg152
 z23:=Tryz.sizeOf152
 v23:=Tryz.zeroValue152 }
end Go.Proofs
namespace Go.Proofs.YtfhmaiicimdldaaGreatDoor
variable {c:UInt8}{a b s:ByteArray}{i k:Nat}{f:UInt8->Bool}{xs:List Int}{x y:List UInt8}{r:Int}
def sp (d:UInt8):List UInt8->List (List UInt8)
 | []=>[[]]
 | c::l=>if c=d then []::sp d l else match sp d l with
   | []=>[[c]]
   | h::t=>(c::h)::t
theorem ane(d:UInt8) (x:List UInt8):sp d x≠[]:=by
 cases x with
 | nil=>simp[sp]
 | cons c l => rw[sp];split; · simp
               split<;>simp
theorem SA(d:UInt8):∀ u:List UInt8,(∀ c∈u,c≠d)->sp d u=[u]
 | [],_=>rfl
 | c::l,h=>by
   have ih:=SA d l fun e he=>h e (by simp[he])
   have hc:c≠d:=h c (by simp);simp[sp,hc,ih]
theorem QY(d:UInt8):∀ (u v:List UInt8),(∀ c∈u,c≠d)->sp d (u++d::v)=u::sp d v
 | [],v,_=>by simp[sp]
 | c::l,v,h=>by
   have ih:=QY d l v fun e he=>h e (by simp[he])
   have hc:c≠d:=h c (by simp);simp[sp,hc,ih]
theorem ada(d:UInt8):∀ (x:List UInt8),∀ y∈sp d x,y.length<=x.length
 | [],y,h=>by simp[sp] at h;simp[h]
 | c::l,y,h=>by
   have ih:=ada d l;rw[sp] at h;split at h
   · rcases List.mem_cons.1 h with rfl | h
     · simp
     · have:=ih y h;simp;omega
   · split at h
     · simp at h;subst h;simp
     · rename_i u t e
       rcases List.mem_cons.1 h with rfl | h
       · have:=ih u (by rw[e];simp);simp;omega
       · have:=ih y (by rw[e];simp[h]);simp;omega
theorem index_one(d:UInt8) (s:List UInt8):(Lib.index s [d] = -1/\∀ c∈s,c≠d) \/ ∃ (u v:List UInt8),Lib.index s [d]=u.length/\s=u++d::v/\∀ c∈u,c≠d:=by
 rcases Lib.index_spec s [d] with ⟨h1,h2⟩ | ⟨i,h1,h2,h3,h4⟩
 · refine .inl ⟨h1,fun c hc e => ?_⟩;obtain ⟨k,hk,rfl⟩:=List.getElem_of_mem hc;have:=h2 k (by omega);rw[Lib.occAt,DO hk] at this;simp[List.isPrefixOf,e] at this
 · have hk:i<s.length:=by
    rcases Lib.occAt_room h3 with h | h
    · simp at h;omega
    · simp at h
   have hd:s[i]=d:=by
    have h3':=h3;rw[Lib.occAt,DO hk] at h3';simp[List.isPrefixOf] at h3';exact h3'.symm
   refine .inr ⟨s.take i,s.drop (i+1),by rw[h1,DD,Nat.min_eq_left (by omega)],?_,fun c hc e => ?_⟩
   · conv=>lhs;rw[<- List.take_append_drop i s,DO hk,hd]
   · obtain ⟨k,hk2,rfl⟩:=List.getElem_of_mem hc;rw[DD] at hk2;have:=h4 k (by omega);rw[Lib.occAt,DO (by omega)] at this;rw[List.getElem_take] at e;simp[List.isPrefixOf,e] at this
theorem ahf(d:UInt8):∀ (n:Nat) (s:List UInt8),s.length<=n->Lib.splitK [d] 0 (Lib.count s [d]) s=sp d s:=by
 intro n
 induction n with
 | zero =>
   intro s h;have:s=[]:=List.eq_nil_of_length_eq_zero (by omega);subst this;rw[Lib.count_miss (by rfl)];rfl
 | succ n ih =>
   intro s h;rcases index_one d s with ⟨h1,h2⟩ | ⟨u,v,h1,h2,h3⟩
   · rw[Lib.count_miss h1,SA d s h2];rfl
   · rw[Lib.count_hit (by simp) h1,Nat.add_comm,Lib.splitK,Bm (by rw[h1];simp),h1];subst h2;have hl:v.length<=n:=by simp at h;omega
     have e1:(u++d::v).drop (u.length+[d].length)=v:=by
      rw[show u.length+[d].length=(u++[d]).length from by simp,show u++d::v=(u++[d])++v from by simp,List.drop_left]
     have e2:((u.length:Int)).toNat=u.length:=by omega
     rw[e2,e1,ih v hl,QY d u v h3]
     congr 1
     simp
theorem VK(d:UInt8) (x:List UInt8):(Lib.splitB ⟨#[d]⟩ 0 (Lib.countB ⟨x.toArray⟩ ⟨#[d]⟩) ⟨x.toArray⟩)=(sp d x).map fun y=>⟨y.toArray⟩:=by
 have h:=Lib.splitB_data ⟨#[d]⟩ 0 (Lib.countB ⟨x.toArray⟩ ⟨#[d]⟩) ⟨x.toArray⟩;have e:Lib.splitK [d] 0 (Lib.countB ⟨x.toArray⟩ ⟨#[d]⟩) x=sp d x:=ahf d x.length x (AC _);have h':(Lib.splitB ⟨#[d]⟩ 0 (Lib.countB ⟨x.toArray⟩ ⟨#[d]⟩) ⟨x.toArray⟩).map (·.data.toList)=sp d x:=h.trans e;rw[<- h',Hb]
 conv=>lhs;rw[<- List.map_id (Lib.splitB _ _ _ _)]
 apply List.map_congr_left;intro b _;cases b;simp
theorem Zz(d:UInt8) (x:List UInt8):Lib.countB ⟨x.toArray⟩ ⟨#[d]⟩+1=(sp d x).length:=by
 have h1:=Lib.splitB_all ⟨#[d]⟩ (AC 1) 0 _ ⟨x.toArray⟩ rfl;rw[VK,DH] at h1;omega
def KI:List UInt8->Option (List UInt8 × List UInt8)
 | []=>none
 | c::l=>match c,l with
   | 10,10::v=>some ([],v)
   | c,l=>match KI l with
     | none=>none
     | some (u,v)=>some (c::u,v)
theorem adO:∀ (s:List UInt8),Lib.cut s [10,10]=match KI s with
 | none=>(s,[],false)
 | some (u,v)=>(u,v,true):=by
 intro s
 induction s with
 | nil=>rfl
 | cons c l ih =>
   by_cases h:[10,10].isPrefixOf (c::l)=true
   · obtain ⟨v,hv⟩:=List.isPrefixOf_iff_prefix.1 h;have e1:c=10:=by simp at hv;exact hv.1.symm
     have e2:l=10::v:=by simp at hv;exact hv.2.symm
     subst e1 e2;have hi:Lib.index (10::10::v) [10,10]=0:=by unfold Lib.index;rw[By h]
     simp[Lib.cut,hi,KI]
   · have hc:KI (c::l)=match KI l with | none=>none | some (u,v)=>some (c::u,v):=by
      conv=>lhs;unfold KI
      split
      · exact absurd rfl h
      · rfl
     have hi:Lib.index (c::l) [10,10]=if Lib.index l [10,10] == -1 then -1 else Lib.index l [10,10]+1:=by
      conv=>lhs;unfold Lib.index
      rw[Bm h]
     rw[hc];have hg:=Lib.index_ge l [10,10];rw[Lib.cut] at ih;by_cases hn:Lib.index l [10,10] = -1
     · rw[Bm (by omega)] at ih;have hi':Lib.index (c::l) [10,10] = -1:=by rw[hi,By (by simp[hn])]
       rw[Lib.cut,hi',Bm (by omega)];cases hct:KI l with
       | none=>simp
       | some p=>obtain ⟨u,v⟩:=p;rw[hct] at ih;simp at ih
     · rw[By (by omega)] at ih;have hi':Lib.index (c::l) [10,10]=Lib.index l [10,10]+1:=by rw[hi,Bm (by simp[hn])]
       rw[Lib.cut,hi',By (by omega)];cases hct:KI l with
       | none=>rw[hct] at ih;simp at ih
       | some p =>
         obtain ⟨u,v⟩:=p;rw[hct] at ih;simp only[Prod.mk.injEq,and_true] at ih;obtain ⟨i1,i2⟩:=ih;have e:(Lib.index l [10,10]+1).toNat=(Lib.index l [10,10]).toNat+1:=by omega
         simp only[e,List.take_succ_cons,i1];rw[show (Lib.index l [10,10]).toNat+1+[(10:UInt8),10].length=((Lib.index l [10,10]).toNat+[(10:UInt8),10].length)+1 from by omega,List.drop_succ_cons,i2]
namespace J8
def QF (x y:Int):Int:=if x<y then -1 else if y<x then 1 else 0
def SV (c d:Int):Int:=if c=0 then d else c
theorem Zx(x:Int):QF x x=0:=by simp[QF]
def Rs (f:UInt8->Bool) (l:List UInt8):Bool:=l.all f
def SS (c:UInt8):Bool:=decide (48<=(c.toNat:Int))&&decide ((c.toNat:Int)<=57)
def Mq (c:UInt8):Bool := !SS c
def isL (c:UInt8):Bool:=(decide (97<=(c.toNat:Int))&&decide ((c.toNat:Int)<=122))||(decide (65<=(c.toNat:Int))&&decide ((c.toNat:Int)<=90))
def isR (c:UInt8):Bool:=SS c||isL c||(c.toNat:Int)==46||(c.toNat:Int)==43||(c.toNat:Int)==126
def isM (c:UInt8):Bool:=isR c||(c.toNat:Int)==45
def rkc (c:UInt8):Int:=if (c.toNat:Int)=126 then -1 else if isL c=true then c.toNat else 256+(c.toNat:Int)
theorem am9(h:((c.toNat:Int)==126)=true) : -1=rkc c:=by simp at h;simp[rkc,h]
theorem ana(h:((c.toNat:Int)==126)=false) (h2:isL c=true):(c.toNat:Int)=rkc c:=by simp at h;simp[rkc,h,h2]
theorem anb(h:((c.toNat:Int)==126)=false) (h2:isL c=false):256+(c.toNat:Int)=rkc c:=by simp at h;simp[rkc,h,h2]
def rk:List UInt8->Int
 | []=>0
 | c::_=>rkc c
def signs:Nat->List UInt8->List UInt8->Int
 | 0,_,_=>0
 | n+1,a,b=>SV (QF (rk a) (rk b)) (signs n a.tail b.tail)
theorem VJ:∀ n,signs n [] []=0
 | 0=>rfl
 | n+1=>by rw[signs];simp[Zx,SV,VJ n]
def kb:List UInt8->Int
 | [] => -1
 | c::_=>c.toNat
def Zc:Nat->List UInt8->List UInt8->Int
 | 0,_,_=>0
 | n+1,a,b=>SV (QF (kb a) (kb b)) (Zc n a.tail b.tail)
theorem acA:∀ n,Zc n [] []=0
 | 0=>rfl
 | n+1=>by rw[Zc];simp[Zx,SV,acA n]
def trim (l:List UInt8):List UInt8:=l.dropWhile fun c=>c==48
def nums (a b:List UInt8):Int:=SV (QF (trim a).length (trim b).length) (Zc 25 (trim a) (trim b))
theorem aiX:nums [] []=0:=by decide
def pre (f:UInt8->Bool) (l:List UInt8):List UInt8:=l.takeWhile f
def suf (f:UInt8->Bool) (l:List UInt8):List UInt8:=l.dropWhile f
def parts:Nat->List UInt8->List UInt8->Int
 | 0,_,_=>0
 | n+1,a,b=>SV (signs 25 (pre Mq a) (pre Mq b)) (SV (nums (pre SS (suf Mq a)) (pre SS (suf Mq b))) (parts n (suf SS (suf Mq a)) (suf SS (suf Mq b))))
theorem ZV:∀ n,parts n [] []=0
 | 0=>rfl
 | n+1=>by rw[parts];simp[pre,suf,VJ,aiX,SV,ZV n]
structure V where
 e:List UInt8
 m:List UInt8
 r:List UInt8
def XE (l:List UInt8):List UInt8 × List UInt8 :=
 if l.contains 58 then (l.takeWhile (fun c=>c != 58),(l.dropWhile fun c=>c != 58).drop 1) else ([48],l)
def Y5 (l:List UInt8):List UInt8 × List UInt8 :=
 if l.contains 45 then
  (((l.reverse.dropWhile fun c=>c != 45).drop 1).reverse,(l.reverse.takeWhile fun c=>c != 45).reverse)
 else (l,[48])
def okE (l:List UInt8):Bool:=decide (1<=l.length)&&decide (l.length<=4)&&Rs SS l
def okM:List UInt8->Bool
 | []=>false
 | c::l=>SS c&&Rs isM (c::l)
def okR:List UInt8->Bool
 | []=>false
 | l=>Rs isR l
def Ma (l:List UInt8):V:=⟨(XE l).1,(Y5 (XE l).2).1,(Y5 (XE l).2).2⟩
def fine (l:List UInt8):Bool :=
 decide (1<=l.length)&&decide (l.length<=24)&&okE (Ma l).e&&okM (Ma l).m&&okR (Ma l).r
def alz (a b:V):Int:=SV (nums a.e b.e) (SV (parts 25 a.m b.m) (parts 25 a.r b.r))
def compare (a b:List UInt8):Int × Int:=if fine a&&fine b then (alz (Ma a) (Ma b),0) else (0,2)
end J8
section
open Go.RowKit
theorem JY{p:Prop} (h:p):Hid p:=h
theorem Qs(h:a.data.toList=b.data.toList):a=b:=by
 cases a;cases b;simpa [<- Array.toList_inj] using h
theorem RA(s:ByteArray) (k:Nat):s.extract 0 k=⟨(s.data.toList.take k).toArray⟩:=by
 apply Qs;simp[ByteArray.data_extract,Array.toList_extract,List.extract]
theorem Uz(s:ByteArray) (k:Nat):s.extract k s.size=⟨(s.data.toList.drop k).toArray⟩:=by
 apply Qs;simp[ByteArray.data_extract,Array.toList_extract,List.extract];exact An (by simp)
theorem afE(h:a=b):Ending.returned (.string a) = .returned (.string b):=by rw[h]
theorem ac0{c d:ByteArray} (h:a=b) (k:c=d):Ending.returned (.tuple #[.string a, .string c]) = .returned (.tuple #[.string b, .string d]):=by rw[h,k]
theorem Ms{a b:Bool} (h:a=b):Ending.returned (.bool a) = .returned (.bool b):=by rw[h]
theorem Ny{k:IntKind} {a b:Int} (h:a=b):Ending.returned (.int k a) = .returned (.int k b):=by rw[h]
theorem NY(c:UInt8) (w:World) :
 Calls Tryz.prog 106 #[.int .u8 c.toNat] w fun e w'=>e = .returned (.bool (J8.SS c))/\w'=w:=by
 go_enter Tryz.func106,Tryz.ntmps106
 go_wp2
 all_goals (go_ret;exact ⟨Ms (by simp[J8.SS];try omega),rfl⟩)
theorem Y8(c:UInt8) (w:World) :
 Calls Tryz.prog 113 #[.int .u8 c.toNat] w fun e w'=>e = .returned (.bool (J8.Mq c))/\w'=w:=by
 go_enter Tryz.func113,Tryz.ntmps113;go_wp2_with (go_at_call 106;refine (NY c _).mono ?_;rintro e w' ⟨rfl,rfl⟩)
 go_ret;exact ⟨Ms (by simp[J8.Mq]),rfl⟩
theorem UF(c:UInt8) (w:World) :
 Calls Tryz.prog 169 #[.int .u8 c.toNat] w fun e w'=>e = .returned (.bool (J8.isL c))/\w'=w:=by
 go_enter Tryz.func169,Tryz.ntmps169
 go_wp2
 all_goals (go_ret;exact ⟨Ms (by simp[J8.isL, *];try omega),rfl⟩)
theorem PU(c:UInt8) (w:World) :
 Calls Tryz.prog 108 #[.int .u8 c.toNat] w fun e w'=>e = .returned (.bool (J8.isR c))/\w'=w:=by
 go_enter Tryz.func108,Tryz.ntmps108;go_wp2_with (first
  | (go_at_call 106;refine (NY c _).mono ?_;rintro e w' ⟨rfl,rfl⟩)
  | (go_at_call 169;refine (UF c _).mono ?_;rintro e w' ⟨rfl,rfl⟩))
 all_goals (go_ret;exact ⟨Ms (by simp[J8.isR, *];try omega),rfl⟩)
theorem XY(c:UInt8) (w:World) :
 Calls Tryz.prog 107 #[.int .u8 c.toNat] w fun e w'=>e = .returned (.bool (J8.isM c))/\w'=w:=by
 go_enter Tryz.func107,Tryz.ntmps107;go_wp2_with (go_at_call 108;refine (PU c _).mono ?_;rintro e w' ⟨rfl,rfl⟩)
 all_goals (go_ret;exact ⟨Ms (by simp[J8.isM, *]),rfl⟩)
theorem ajc(s:ByteArray) (i:Nat) (hi:s.size<=i) (w:World) :
 Calls Tryz.prog 176 #[.string s, .int .i64 i] w fun e w'=>e = .returned (.int .i64 0)/\w'=w:=by
 go_enter Tryz.func176,Tryz.ntmps176
 go_wp2
 go_ret;exact ⟨rfl,rfl⟩
theorem akO(s:ByteArray) (i:Nat) (hi:i<s.size) (w:World) :
 Calls Tryz.prog 176 #[.string s, .int .i64 i] w fun e w'=>e = .returned (.int .i64 (J8.rkc s[i]))/\w'=w:=by
 have hb:s[i].toNat<256:=s[i].toNat_lt;go_enter Tryz.func176,Tryz.ntmps176;go_wp2_with (go_at_call 169;refine (UF s[i] _).mono ?_;rintro e w' ⟨rfl,rfl⟩)
 all_goals (go_ret;exact ⟨Ny (by first | exact J8.am9 ‹_› | exact J8.ana ‹_› ‹_› | exact J8.anb ‹_› ‹_›),rfl⟩)
theorem aeL(hi:i<s.size):J8.rk (s.data.toList.drop i)=J8.rkc s[i]:=by
 rw[DO (by simpa using hi)];rfl
theorem ac1(hi:s.size<=i):J8.rk (s.data.toList.drop i)=0:=by
 rw[Ha (by simpa using hi)];rfl
theorem UU(s:ByteArray) (i:Nat) (w:World) :
 Calls Tryz.prog 176 #[.string s, .int .i64 i] w fun e w'=>e = .returned (.int .i64 (J8.rk (s.data.toList.drop i)))/\w'=w:=by
 by_cases h:i<s.size
 · rw[aeL h];exact akO s i h w
 · rw[ac1 (by omega)];exact ajc s i (by omega) w
theorem below_bytesWorld(w:World) (e:TypeId) (s:ByteArray):Below w.heap.size w (Lib.bytesWorld w e s):=by
 refine ⟨rfl,rfl,rfl,?_,fun k hk=>Lib.bytesWorld_at_old w e s k hk⟩;rw[Lib.bytesWorld_size];omega
theorem adI(s:ByteArray) (w:World):∃ (w1:World) (cap:Nat),(convert 9 53 (.string s)).run Tryz.prog w = .ok (.slice (some ⟨w.heap.size,0,none⟩) s.size cap) w1
 /\ (∀ j,j<s.size->w1.cell? ⟨w.heap.size,j,none⟩=some (.int .u8 (s.data.toList.getD j 0).toNat))/\Below w.heap.size w w1 :=
 ⟨_,_,Lib.run_convert_string_bytes w 9 53 5 s IT Tryz.underlying53 Tryz.underlying5,
  fun j hj=>Lib.bytesWorld_cell w 5 s j hj,below_bytesWorld w 5 s⟩
theorem abI(h:k<s.size) (ha:(s.data.toList.take k).all f=true) (hf:f (s.data[k]'h)=true):(s.data.toList.take (k+1)).all f=true:=by
 rw[AT (by simpa using h),List.all_append,ha];simpa using hf
theorem af6(h:k<s.size) (hf:f (s.data[k]'h)=false):J8.Rs f s.data.toList=false:=by
 rw[J8.Rs,List.all_eq_false];exact ⟨s.data[k]'h,by simp,by simp[hf]⟩
theorem af7(h : ¬ k<s.size) (ha:(s.data.toList.take k).all f=true):J8.Rs f s.data.toList=true:=by
 rwa [An (by simpa using h)] at ha
theorem afi(g:Nat) (f:UInt8->Bool) (he:∀ args w,(callFunc g args).run Tryz.prog w = .ok (.enter g args) w)
 (hg:∀ (c:UInt8) (w:World),Calls Tryz.prog g #[.int .u8 c.toNat] w fun e w'=>e = .returned (.bool (f c))/\w'=w)
 (s:ByteArray) (hs:s.size<=140737488355328) (w:World) :
 Calls Tryz.prog 105 #[.string s, .func (.func g) #[] #[]] w fun e w'=>e = .returned (.bool (J8.Rs f s.data.toList))/\Below w.heap.size w w':=by
 obtain ⟨w1,cap,hrun,hcell,hb⟩:=adI s w;have HB:=JY hb;clear hb;go_enter Tryz.func105,Tryz.ntmps105;go_wp2_with fail
 go_loop [10] (fun i=>∃ k:Nat,k<=s.size/\i = .int .i64 k/\(s.data.toList.take k).all f=true) (fun i=>s.size-(intOf i).toNat)
 case atStart=>exact ⟨0,Bs _,rfl,rfl⟩
 case round =>
  obtain ⟨k,hk,rfl,hall⟩:=hrel;have HA:=JY hall;clear hall;by_cases hlt:k<s.size
  · have eD:=hcell k hlt;cases hf:f (s.data[k]'hlt)
    · go_wp2_with (refine (hg _ _).mono ?_;rintro e w' ⟨rfl,rfl⟩)
      go_ret;exact ⟨Ms (af6 hlt hf).symm,HB.out⟩
    · go_wp2_with (refine (hg _ _).mono ?_;rintro e w' ⟨rfl,rfl⟩)
      go_round
      case rel=>exact ⟨k+1,by omega,by go_num,abI hlt HA.out hf⟩
      case measure=>simp[intOf];omega
  · go_wp2_with fail;go_ret;exact ⟨Ms (af7 hlt HA.out).symm,HB.out⟩
theorem enters{f:Func} {K:Nat} {c:Code} (hf:Tryz.prog.funcs[K]? = some f) (hn:(f.name == "runtime.NumGoroutine")=false) (hb:f.body=some c) (args:Array Value) (w:World):(callFunc K args).run Tryz.prog w = .ok (.enter K args) w:=by
 have h1:f.name ≠ "runtime.NumGoroutine" := by simpa using hn
 simp[callFunc,hf,h1,hb,mark]
theorem row_step(h:k<s.size) (ha:(s.data.toList.take k).all f=true) (hf:f s[k]=true):(s.data.toList.take (k+1)).all f=true :=
 abI h ha hf
theorem ajp{l:List UInt8}  (ha:(l.take k).all f=true) (hf:∀ h:k<l.length,f l[k]=false):l.takeWhile f=l.take k/\l.dropWhile f=l.drop k:=by
 induction l generalizing k with
 | nil=>simp
 | cons c l ih =>
   cases k with
   | zero=>have:=hf (by simp);simp at this;simp[this]
   | succ k =>
     simp only[List.take_succ_cons,List.all_cons,Bool.and_eq_true] at ha;have:=ih ha.2 (fun h=>by have:=hf (by simpa using h);simpa using this);simp[ha.1,this.1,this.2]
theorem ac2(ha:(s.data.toList.take k).all f=true) (hf:∀ h:k<s.size,f s[k]=false) :
 J8.pre f s.data.toList=s.data.toList.take k/\J8.suf f s.data.toList=s.data.toList.drop k :=
 ajp ha (fun h=>hf (by simpa using h))
theorem adN(g:Nat) (f:UInt8->Bool) (he:∀ args w,(callFunc g args).run Tryz.prog w = .ok (.enter g args) w)
 (hg:∀ (c:UInt8) (w:World),Calls Tryz.prog g #[.int .u8 c.toNat] w fun e w'=>e = .returned (.bool (f c))/\w'=w)
 (s:ByteArray) (hs:s.size<=140737488355328) (w:World) :
 Calls Tryz.prog 112 #[.string s, .func (.func g) #[] #[]] w fun e w' =>
  e = .returned (.tuple #[.string ⟨(J8.pre f s.data.toList).toArray⟩, .string ⟨(J8.suf f s.data.toList).toArray⟩])/\Below w.heap.size w w':=by
 go_enter Tryz.func112,Tryz.ntmps112;go_wp2_with fail
 go_loop [6] (fun i=>∃ k:Nat,k<=s.size/\i = .int .i64 k/\(s.data.toList.take k).all f=true) (fun i=>s.size-(intOf i).toNat)
 case atStart=>exact ⟨0,Bs _,rfl,rfl⟩
 case round =>
  obtain ⟨k,hk,rfl,hall⟩:=hrel;have HA:=JY hall;clear hall;have hk1:(0:Int)<=k:=by omega
  have hk2:(k:Int)<=s.size:=by omega
  by_cases hlt:k<s.size
  · cases hf:f s[k]
    · have HE:=JY (ac2 HA.out (fun _=>hf));go_wp2_with (refine (hg _ _).mono ?_;rintro e w' ⟨rfl,rfl⟩)
      go_region
      all_goals (go_wp2;go_ret2;exact ⟨ac0 (by rw[RA,HE.out.1]) (by rw[Uz,HE.out.2]),(AD _ _).drew⟩)
    · go_wp2_with (refine (hg _ _).mono ?_;rintro e w' ⟨rfl,rfl⟩)
      go_round
      case rel=>exact ⟨k+1,by omega,by go_num,row_step hlt HA.out hf⟩
      case measure=>simp[intOf];omega
  · have HE:=JY (ac2 HA.out (fun h=>absurd h hlt));go_wp2_with fail;go_region
    all_goals (go_wp2;go_ret2;exact ⟨ac0 (by rw[RA,HE.out.1]) (by rw[Uz,HE.out.2]),(AD _ _).drew⟩)
theorem Xy(x y:Int) (w:World):Calls Tryz.prog 110 #[.int .i64 x, .int .i64 y] w fun e w'=>e = .returned (.int .i64 (J8.QF x y))/\w'=w :=
 Tryz.cmp_Compare_int x y w
theorem ajh{a b:List UInt8}  (hk:k<25) (h:J8.QF (J8.rk (a.drop k)) (J8.rk (b.drop k))=0) :
 J8.signs (25-k) (a.drop k) (b.drop k)=J8.signs (25-(k+1)) (a.drop (k+1)) (b.drop (k+1)):=by
 rw[show 25-k=(25-(k+1))+1 from by omega,J8.signs,h];simp[J8.SV]
theorem ahb{a b:List UInt8}  (hk:k<25) (h:J8.QF (J8.rk (a.drop k)) (J8.rk (b.drop k))≠0) :
 J8.signs (25-k) (a.drop k) (b.drop k)=J8.QF (J8.rk (a.drop k)) (J8.rk (b.drop k)):=by
 rw[show 25-k=(25-(k+1))+1 from by omega,J8.signs];simp[J8.SV,h]
theorem aha(ha:a.size<=k) (hb:b.size<=k):J8.signs (25-k) (a.data.toList.drop k) (b.data.toList.drop k)=0:=by
 rw[Ha (by simpa using ha),Ha (by simpa using hb),J8.VJ]
theorem ag9(a b:ByteArray) (ha:a.size<=24) (hb:b.size<=24) (w:World) :
 Calls Tryz.prog 114 #[.string a, .string b] w fun e w'=>e = .returned (.int .i64 (J8.signs 25 a.data.toList b.data.toList))/\w'=w:=by
 go_enter Tryz.func114,Tryz.ntmps114;go_wp2_with fail
 go_loop [12] (fun i=>∃ k:Nat,k<=24/\i = .int .i64 k/\J8.signs 25 a.data.toList b.data.toList=J8.signs (25-k) (a.data.toList.drop k) (b.data.toList.drop k)) (fun i=>25-(intOf i).toNat)
 case atStart=>exact ⟨0,Bs _,rfl,rfl⟩
 case round =>
  obtain ⟨k,hk,rfl,hs⟩:=hrel;have HS:=JY hs;clear hs;by_cases hlt:(k:Int)<max (a.size:Int) (b.size:Int)
  · have HL:=JY hlt;by_cases hc:J8.QF (J8.rk (a.data.toList.drop k)) (J8.rk (b.data.toList.drop k))=0
    · have HC:=JY hc;have hc':(J8.QF (J8.rk (a.data.toList.drop k)) (J8.rk (b.data.toList.drop k)) != 0)=false:=by simp[hc]
      clear hc;go_wp2_with (first
       | (go_at_call_of 176 (Value.string a);refine (UU a k _).mono ?_;rintro e w' ⟨rfl,rfl⟩)
       | (go_at_call_of 176 (Value.string b);refine (UU b k _).mono ?_;rintro e w' ⟨rfl,rfl⟩)
       | (go_at_call 110;refine (Xy _ _ _).mono ?_;rintro e w' ⟨rfl,rfl⟩))
      go_round
      case rel=>exact ⟨k+1,by omega,by go_num,by rw[HS.out,ajh (by omega) HC.out]⟩
      case measure=>simp[intOf];omega
    · have HC:=JY hc;have hc':(J8.QF (J8.rk (a.data.toList.drop k)) (J8.rk (b.data.toList.drop k)) != 0)=true:=by simp[hc]
      clear hc;go_wp2_with (first
       | (go_at_call_of 176 (Value.string a);refine (UU a k _).mono ?_;rintro e w' ⟨rfl,rfl⟩)
       | (go_at_call_of 176 (Value.string b);refine (UU b k _).mono ?_;rintro e w' ⟨rfl,rfl⟩)
       | (go_at_call 110;refine (Xy _ _ _).mono ?_;rintro e w' ⟨rfl,rfl⟩))
      go_ret;exact ⟨Ny (by rw[HS.out,ahb (by omega) HC.out]),rfl⟩
  · go_wp2_with fail;go_ret;exact ⟨Ny (by rw[HS.out,aha (by omega) (by omega)]),rfl⟩
def Na:List Int->Int
 | []=>0
 | c::l=>J8.SV c (Na l)
theorem am4(h:k<xs.length) (h0:xs[k]=0):Na (xs.drop k)=Na (xs.drop (k+1)):=by
 rw[DO h,Na];simp[J8.SV,h0]
theorem amc(h:k<xs.length) (h0:xs[k]≠0):Na (xs.drop k)=xs[k]:=by
 rw[DO h,Na];simp[J8.SV,h0]
theorem amb(h : ¬ k<xs.length):Na (xs.drop k)=0:=by
 rw[Ha (by omega)];rfl
theorem ai2(b:Nat) (n cap:Nat) (xs:List Int) (hn:n=xs.length) (hm:n<=1000) (w:World)
 (hc:∀ j,j<xs.length->w.cell? ⟨b,j,none⟩=some (.int .i64 (xs.getD j 0))) :
 Calls Tryz.prog 57 #[.slice (some ⟨b,0,none⟩) n cap] w fun e w'=>e = .returned (.int .i64 (Na xs))/\w'=w:=by
 subst hn;go_enter Tryz.func57,Tryz.ntmps57;go_wp2_with fail
 go_loop [8] (fun i=>∃ k:Nat,k<=xs.length/\i = .int .i64 k/\Na xs=Na (xs.drop k)) (fun i=>xs.length-(intOf i).toNat)
 case atStart=>exact ⟨0,Bs _,rfl,rfl⟩
 case round =>
  obtain ⟨k,hk,rfl,hs⟩:=hrel;have HS:=JY hs;clear hs;by_cases hlt:k<xs.length
  · have eD:w.cell? ⟨b,k,none⟩=some (.int .i64 xs[k]):=by rw[hc k hlt];simp[List.getD,hlt]
    clear hc;by_cases h0:xs[k]=0
    · have H0:=JY h0;have h0':(xs[k] != 0)=false:=bne_eq_false_iff_eq.2 h0;clear h0;go_wp2_with fail
      go_round
      case rel=>exact ⟨k+1,by omega,by go_num,by rw[HS.out];exact am4 hlt H0.out⟩
      case measure=>simp[intOf];omega
    · have H0:=JY h0;have h0':(xs[k] != 0)=true:=bne_iff_ne.2 h0;clear h0;go_wp2_with fail;go_ret;exact ⟨Ny (by rw[HS.out,amc hlt H0.out]),rfl⟩
  · go_wp2_with fail;go_ret;exact ⟨Ny (by rw[HS.out,amb hlt]),rfl⟩
theorem afs:∀ (n:Nat) (x y:List UInt8),x.length<n->y.length<n->J8.Zc n x y=if Op.bytesLess x y=true then -1 else if (x==y)=true then 0 else 1
 | 0,_,_,h,_=>absurd h (by omega)
 | n+1,[],[],_,_=>by rw[J8.acA];simp[Op.bytesLess]
 | n+1,[],b::y,_,_=>by
   have:J8.kb (b::y)=b.toNat:=rfl;have h2:J8.QF (-1) (b.toNat:Int) = -1:=by simp only[J8.QF];rw[By (by omega)]
   rw[J8.Zc,show J8.kb [] = -1 from rfl,this,h2];simp[Op.bytesLess,J8.SV]
 | n+1,a::x,[],_,_=>by
   have:J8.kb (a::x)=a.toNat:=rfl;have h2:J8.QF (a.toNat:Int) (-1)=1:=by simp only[J8.QF];rw[Bm (by omega),By (by omega)]
   rw[J8.Zc,show J8.kb [] = -1 from rfl,this,h2];simp[Op.bytesLess,J8.SV]
 | n+1,a::x,b::y,hx,hy=>by
   have ih:=afs n x y (by simpa using hx) (by simpa using hy);rw[J8.Zc,show J8.kb (a::x)=a.toNat from rfl,show J8.kb (b::y)=b.toNat from rfl,show (a::x).tail=x from rfl,show (b::y).tail=y from rfl,ih];have hlt:(a<b) ↔ (a.toNat:Int)<b.toNat:=by rw[UInt8.lt_iff_toNat_lt];omega
   have heq:(a=b) ↔ (a.toNat:Int)=b.toNat:=by rw[<- UInt8.toNat_inj];omega
   by_cases h1:a<b
   · have h1':=hlt.1 h1;simp[Op.bytesLess,J8.SV,J8.QF,h1,h1']
   · have h1' : ¬ (a.toNat:Int)<b.toNat:=fun h=>h1 (hlt.2 h)
     by_cases h2:a=b
     · have h2':=heq.1 h2;simp[Op.bytesLess,J8.SV,J8.QF,h2]
     · have h2' : ¬ (a.toNat:Int)=b.toNat:=fun h=>h2 (heq.2 h)
       have h3':(b.toNat:Int)<a.toNat:=by omega
       simp[Op.bytesLess,J8.SV,J8.QF,h1,h2,h1',h3']
theorem al3(h:r=if Op.bytesLess x y=true then -1 else if (x==y)=true then 0 else 1) (h1:Op.bytesLess x y=true) : -1=r:=by simp[h,h1]
theorem al4(h:r=if Op.bytesLess x y=true then -1 else if (x==y)=true then 0 else 1) (h1:Op.bytesLess x y=false) (h2:(!x==y)=true):1=r:=by
 simp at h2;simp[h,h1,h2]
theorem al5(h:r=if Op.bytesLess x y=true then -1 else if (x==y)=true then 0 else 1) (h1:Op.bytesLess x y=false) (h2:(!x==y)=false):0=r:=by
 simp at h2;subst h2;simp[h,h1]
theorem ah9(a b:ByteArray) (ha:a.size<=24) (hb:b.size<=24) (w:World) :
 Calls Tryz.prog 111 #[.string a, .string b] w fun e w'=>e = .returned (.int .i64 (J8.Zc 25 a.data.toList b.data.toList))/\w'=w:=by
 have he:=afs 25 a.data.toList b.data.toList (by simp;omega) (by simp;omega);rw[<- Lib.toList_data,<- Lib.toList_data] at he |-;have HE:=JY he;clear he;go_enter Tryz.func111,Tryz.ntmps111
 go_wp2
 all_goals (go_ret;exact ⟨Ny (by first | exact al3 HE.out ‹_› | exact al4 HE.out ‹_› ‹_› | exact al5 HE.out ‹_› ‹_›),rfl⟩)
theorem ajt(s:ByteArray) (w:World) :
 Calls Tryz.prog 109 #[.string s, .string ⟨#[48]⟩] w fun e w'=>e = .returned (.string ⟨(J8.trim s.data.toList).toArray⟩)/\w'=w :=
 Tryz.strings_TrimLeft_one s 48 (by decide) w
theorem afP(l:List UInt8):(J8.trim l).length<=l.length:=(List.dropWhile_suffix _).length_le
theorem ah8(x y:List UInt8) (hx:x.length<=24) (hy:y.length<=24) (w:World) :
 Calls Tryz.prog 111 #[.string ⟨x.toArray⟩, .string ⟨y.toArray⟩] w fun e w'=>e = .returned (.int .i64 (J8.Zc 25 x y))/\w'=w :=
 ah9 ⟨x.toArray⟩ ⟨y.toArray⟩ (by simpa [ByteArray.size] using hx) (by simpa [ByteArray.size] using hy) w
theorem ahr{w:World} {b:Nat} {x y:Int} (h0:w.cell? ⟨b,0,none⟩=some (.int .i64 x)) (h1:w.cell? ⟨b,1,none⟩=some (.int .i64 y)) :
 ∀ j,j<[x,y].length->w.cell? ⟨b,j,none⟩=some (.int .i64 ([x,y].getD j 0)):=by
 intro j hj
 match j,hj with
 | 0,_=>exact h0
 | 1,_=>exact h1
theorem amd(x y:Int):Na [x,y]=J8.SV x y:=by
 by_cases h:y=0<;>simp[Na,J8.SV,h]
theorem amf(x y:Int) (w:World) :
 Calls Tryz.prog 57 #[.slice (some ⟨w.heap.size,0,none⟩) 2 2] (w.alloc (.cells #[.int .i64 x, .int .i64 y] 3)) fun e w' =>
  e = .returned (.int .i64 (J8.SV x y))/\w'=w.alloc (.cells #[.int .i64 x, .int .i64 y] 3):=by
 rw[<- amd];exact ai2 w.heap.size 2 2 [x,y] rfl (by decide) _ (ahr (by simp[go_sem]) (by simp[go_sem]))
theorem aiW(a b:ByteArray) (ha:a.size<=24) (hb:b.size<=24) (w:World) :
 Calls Tryz.prog 58 #[.string a, .string b] w fun e w'=>e = .returned (.int .i64 (J8.nums a.data.toList b.data.toList))/\Below w.heap.size w w':=by
 have hx:(J8.trim a.data.toList).length<=24:=Bi (afP _) (by simpa using ha);have hy:(J8.trim b.data.toList).length<=24:=Bi (afP _) (by simpa using hb);go_enter Tryz.func58,Tryz.ntmps58;go_wp2_with (first
  | (go_at_call 109;refine (ajt _ _).mono ?_;rintro e w' ⟨rfl,rfl⟩)
  | (go_at_call 110;refine (Xy _ _ _).mono ?_;rintro e w' ⟨rfl,rfl⟩)
  | (go_at_call 111;refine (ah8 _ _ hx hy _).mono ?_;rintro e w' ⟨rfl,rfl⟩)
  | (go_at_call 57;refine (amf _ _ _).mono ?_;rintro e w' ⟨rfl,rfl⟩))
 go_ret;exact ⟨rfl,(AD _ _).alloc (AC _) _⟩
end
end Go.Proofs.YtfhmaiicimdldaaGreatDoor
