/- MchW8, EngW14, HavW3, HavW4, RunMath4, ItemMath -/
import Derived.Test.YtialenebfcnkkaaGreatDoorOrdJ29
import Derived.Test.YtialenebfcnkkaaGreatDoorOrdJ28
set_option maxHeartbeats 8000000
set_option maxRecDepth 100000
namespace Go.Proofs.YtialenebfcnkkaaGreatDoor
section
open Go.RowKit
open aH (St gH)
open Hv (S Dk VM)
namespace Hv
def dV (E:VM S) (l:List (S × S)):VM S:=l.foldl (fun E f=>put E f.1 f.2) E
theorem Jk (E:VM S) (l:List (S × S)) (f:S × S):dV E (l++[f])=put (dV E l) f.1 f.2:=by simp[dV]
theorem mF:∀ (l:List (S × S)) {E:VM S},aM E→aM (dV E l)
 | [],_,h=>h
 | f::l,_,h=>mF l (h.put f.1 f.2)
theorem uz:∀ (l:List (S × S)) (E:VM S),(dV E l).length≤E.length+l.length
 | [],E=>by simp[dV]
 | f::l,E=>by
   have h1:=uz l (put E f.1 f.2)
   have h2:=eZ E f.1 f.2
   have e:dV E (f::l)=dV (put E f.1 f.2) l:=rfl
   rw[e,List.length_cons]
   omega
def dM (D:VM PD) (G:VM S):VM S:=D.foldl (fun E p=>dV E p.2.st.files) G
theorem Mw (D:VM PD) (p:S × PD) (G:VM S):dM (D++[p]) G=dV (dM D G) p.2.st.files:=by simp[dM]
theorem rJ:∀ (D:VM PD) {G:VM S},aM G→aM (dM D G)
 | [],_,h=>h
 | p::D,_,h=>rJ D (mF p.2.st.files h)
theorem rH:∀ (D:VM PD) (G:VM S),(∀ p∈D,p.2.st.files.length≤21)→(dM D G).length≤G.length+21*D.length
 | [],G,_=>by simp[dM]
 | p::D,G,h=>by
   have h1:=rH D (dV G p.2.st.files) (fun q hq=>h q (by simp[hq]))
   have h2:=uz p.2.st.files G
   have h3:=h p (by simp)
   have e:dM (p::D) G=dM D (dV G p.2.st.files):=rfl
   rw[e,List.length_cons]
   omega
theorem ze:∀ (l:List (S × S)) {E:VM S},aM E→(∀ p∈E,p.1.length≤24)→(∀ f∈l,f.1.length≤24)→∀ p∈dV E l,p.1.length≤24
 | [],_,_,h,_=>h
 | f::l,E,hs,h,hl=>ze l (hs.put f.1 f.2) (fun p hp=>by
     rcases zY.1 hp with rfl | ⟨q, -⟩
     · exact hl f (by simp)
     · exact h p q) (fun g hg=>hl g (by simp[hg]))
theorem Cw:∀ (D:VM PD) {G:VM S},aM G→(∀ p∈G,p.1.length≤24)→(∀ p∈D,∀ f∈p.2.st.files,f.1.length≤24)→∀ p∈dM D G,p.1.length≤24
 | [],_,_,h,_=>h
 | q::D,G,hs,h,hl=>Cw D (mF q.2.st.files hs) (ze q.2.st.files hs h (hl q (by simp))) (fun p hp=>hl p (by simp[hp]))
end Hv
theorem Ib (p:Pk) (w:World):(Instr.field 154 p.arc 5).run Tryz.prog w = .ok p.files.val w:=by kernel_rfl
theorem jq {C:Nat→Prop} {w w1 wr:World} (h1:Below w.heap.size w w1) (hf:aQ w1.heap.size C w1 wr) (hC:∀ q,q<w.heap.size → ¬ C q):Below w.heap.size w wr :=
 ⟨hf.os.trans h1.os,hf.tape.trans h1.tape,hf.output.trans h1.output,Nat.le_trans h1.size hf.size,fun k hk=>(hf.block k (Nat.lt_of_lt_of_le hk h1.size) (hC k hk)).trans (h1.block k hk)⟩
theorem yP {D:VM Hv.PD} (h:Hv.Named D) (hs:Hv.aM D):∀ p∈D,p.2.st.files.length≤21∧∀ f∈p.2.st.files,f.1.length≤24:=fun p hp=>by
 have hd:=(h p.1 p.2 ((Hv.get_some hs).2 hp)).2
 exact ⟨(bV hd).2.2.1.2.2.2.1,fun f hf=>oh ((bW hd).2.2.files f hf).1⟩
theorem Ul (mb pm fm:Nat) (P:VM Value) (D:VM Hv.PD) (G:VM S) (N:Nat→Prop) (hDl:D.length≤20) (nQ:Hv.Named D) (hG:G.length≤20) (hK:Hv.GK G) (w:World) (h:aK mb pm fm P (Hv.aS G) w) (hP:dA N w D P) :
   Calls Tryz.prog 82 #[.pointer (some ⟨mb,0,none⟩)] w fun e w'=>∃ v,e = .returned v∧w'.ownsRow w.heap.size 71 2 v (Hv.dM D G).length ((Hv.dM D G).flatMap cB)∧Below w.heap.size w w':=by
 have m1:=(ah h.blk 1).trans (show _=some (.map (some fm)) from rfl)
 have HM:=hide h;have eU:=hide hP;have J9:=hide nQ
 have sF:P.length=D.length:=hP.len h.packs.1
 have hml:=blt h.blk
 have Vm:=hide (Hv.bq h.files.1)
 have HGK:=hide (show ∀ p∈G,p.1.length≤24 from fun p hp=>hK p.1 p.2 ((Hv.get_some (Hv.bq h.files.1)).2 hp))
 have YP:=hide (yP nQ hP.dU)
 clear h hP nQ hK
 go_enter Tryz.func82,Tryz.ntmps82
 go_wp2_with fail
 refine (Aw fm (Hv.aS G) w HM.out.files).mono ?_
 rintro e w0 ⟨rfl,hm0,hb0⟩
 have dF:=hide hm0;have HB0:=hide hb0
 have HMM:=hide (HM.out.below hb0)
 obtain ⟨fb,nV⟩:∃ fb,w.heap.size=fb:=⟨_,rfl⟩
 have NU:=hide nV
 rw[nV] at dF ⊢
 clear hm0 hb0 nV m1
 go_wp2_with fail
 refine (xD mb pm fm P (Hv.aS G) (by omega) w0 HMM.out).mono ?_
 rintro e w1 ⟨nv,rfl,gK,hb1⟩
 rw[eU.out.keys HM.out.packs.1] at gK
 have hkl:(keysOf D).length=D.length:=by simp[keysOf]
 obtain ⟨na,nc,rfl⟩:=slice_form gK
 rw[hkl] at gK ⊢
 have YO:=hide gK
 have HU:=hide (HB0.out.trans (hb1.mono HB0.out.size))
 have hfl:fb<w0.heap.size:=dF.out.lt
 have eO:Hid (MapAt w1 fb (Hv.aS G)):=hide (dF.out.below hb1)
 obtain ⟨nd,hnd⟩:∃ nd,D.length=nd:=⟨_,rfl⟩
 have MR:=hide hnd
 rw[hnd] at hDl ⊢
 have aeK:=hb1.size
 clear hb1 gK hnd hkl sF
 go_wp2_with fail
 go_loopw [19] (fun i wr=>∃ (k:Nat),k≤nd∧i = .int .i64 (k:Int)∧Hid (MapAt wr fb (Hv.aS (Hv.dM (D.take k) G)))∧Hid (aQ w1.heap.size (fun q=>q=fb) w1 wr)) (fun i _=>nd-(intOf i).toNat)
 case atStart=>exact ⟨0,Nat.zero_le _,rfl,eO,hide (aQ.refl _ _ _)⟩
 case round =>
   clear eO
   obtain ⟨k,hk,rfl,HI,HB⟩:=hrel
   by_cases hlt:k<nd
   · have b1:(k:Int)<(nd:Int):=by omega
     have WA:k<D.length:=by have:=MR.out;omega
     have hkk:k<(keysOf D).length:=by simp[keysOf];omega
     obtain ⟨g,c',hv2,hg,q1⟩:=gF (l:=keysOf D) (v := .slice na nd nc) (w:=w1) (B:=w0.heap.size) (e:=9) (by have h:=YO.out;rw[show (keysOf D).length=D.length by simp[keysOf]];rw[MR.out] at h ⊢;exact h) hkk
     obtain rfl:na=some ⟨g,0,none⟩:=(Value.slice.inj hv2).1
     have hgB:w0.heap.size≤g:=uo YO.out rfl
     have acR : ¬ g=fb:=by omega
     have d1:=(HB.out.cell (p:=⟨g,k,none⟩) hg acR).trans q1
     have hget:Hv.get D (keysOf D)[k]=some D[k].2:=by
       rw[Hv.get_some eU.out.dU]
       have:(keysOf D)[k]=D[k].1:=by simp[keysOf]
       rw[this]
       exact List.getElem_mem WA
     have hnl:=J9.out.len (k:=(keysOf D)[k]) (by rw[Hv.aB,hget];rfl)
     obtain ⟨v,hv,hr⟩:=eU.out.wZ _ _ hget
     obtain ⟨p,rfl, -, -, -, -,hpk, -⟩:=hr
     have hBW:=jq HU.out HB.out (fun q hq e=>by have e':q=fb:=e;have:=NU.out;omega)
     have FB:=HM.out.below hBW
     have hpm:=FB.packs
     have m0:=(ah FB.blk 0).trans (show _=some (.map (some pm)) from rfl)
     have hxm:(keysOf D)[k].length≤maxLen:=by unfold maxLen;omega
     have hFK:=YP.out _ (List.getElem_mem WA)
     have HT:=hide (show Hv.dM (D.take (k+1)) G=Hv.dV (Hv.dM (D.take k) G) D[k].2.st.files by rw[List.take_succ_eq_append_getElem WA];exact Hv.Mw _ _ _)
     have hEl:(Hv.dM (D.take k) G).length≤500:=by
       have h1:=Hv.rH (D.take k) G (fun p hp=>(YP.out p (List.mem_of_mem_take hp)).1)
       rw[List.length_take] at h1
       omega
     have HES:=hide (Hv.rJ (D.take k) Vm.out)
     obtain ⟨E0,hE0⟩:∃ E0,Hv.dM (D.take k) G=E0:=⟨_,rfl⟩
     rw[hE0] at HT hEl HES HI
     obtain ⟨F,hF⟩:∃ F,D[k].2.st.files=F:=⟨_,rfl⟩
     rw[hF] at HT hFK
     have HR:=hide (show w.ownsRow 0 234 2 p.files.val F.length (F.flatMap cB) by rw[← hF];exact hpk.rows 3)
     have HV:=hide hv
     obtain ⟨x,hx⟩:∃ x,(keysOf D)[k]=x:=⟨_,rfl⟩
     rw[hx] at d1 HV hnl hxm
     have mM:=hide hBW
     obtain ⟨hF1,hF2⟩:=hFK
     have iU:=hide hF2
     have hf1:=fun w=>qZ p w
     have hf2:=fun w=>Ib p w
     obtain ⟨tx,pn,pv,nd2,br,wk,⟨ra,rn,rc⟩,ru,wo,qK⟩:=p
     have HRN:=hide (Qt HR.out)
     simp only[Pk.val,Pk.cells,Pk.arc,Sl.val] at hf1 hf2
     have hfw:fb<wr.heap.size:=by have:=HB.out.size;omega
     clear hv2 q1 hget hv hpk hx hF hE0 FB hBW hF2
     go_wp2_with (first
       | (at_lookup;refine jJ rfl _ _ 86 rfl 156 Tryz.underlying86 (bU _) hpm rfl x hxm rfl ?_;rw[HV.out];simp only[Option.getD_some,Pk.val,Pk.cells]))
     go_loopw [32] (fun i wr2=>∃ j:Nat,j≤rn∧i = .int .i64 (j:Int)∧Hid (MapAt wr2 fb (Hv.aS (Hv.dV E0 (F.take j))))∧Hid (aQ w1.heap.size (fun q=>q=fb) w1 wr2)) (fun i _=>rn-(intOf i).toNat)
     case atStart=>exact ⟨0,Nat.zero_le _,rfl,HI,HB⟩
     case round =>
       obtain ⟨j,hj,rfl,kJ,eO⟩:=hrel
       by_cases hjl:j<rn
       · have b2:(j:Int)<(rn:Int):=by omega
         have hnF:rn=F.length:=HRN.out
         have uS:j<F.length:=by omega
         obtain ⟨gf,cf,hvf,hgf,r1,r2⟩:=mg HR.out uS
         obtain rfl:ra=some ⟨gf,0,none⟩:=(Value.slice.inj hvf).1
         have ZH:=jq HU.out eO.out (fun q hq e=>by have e':q=fb:=e;have:=NU.out;omega)
         have d2:=(ZH.cell (p:=⟨gf,j*2,none⟩) hgf).trans r1
         have d3:=(ZH.cell (p:=⟨gf,j*2+1,none⟩) hgf).trans r2
         have hxl:=iU.out _ (List.getElem_mem uS)
         have HT2:Hid (Hv.dV E0 (F.take (j+1))=Hv.put (Hv.dV E0 (F.take j)) F[j].1 F[j].2):=hide (by rw[List.take_succ_eq_append_getElem uS];exact Hv.Jk _ _ _)
         have WE:(Hv.dV E0 (F.take j)).length≤600:=by
           have:=Hv.uz (F.take j) E0
           rw[List.length_take] at this
           omega
         have aaK:=hide (Hv.mF (F.take j) HES.out)
         obtain ⟨q,hq⟩:∃ q,F[j]=q:=⟨_,rfl⟩
         rw[hq] at d2 d3 hxl HT2
         obtain ⟨y,z⟩:=q
         obtain ⟨EJ,hEJ⟩:∃ EJ,Hv.dV E0 (F.take j)=EJ:=⟨_,rfl⟩
         rw[hEJ] at kJ HT2 WE aaK
         have hyl:y.length≤24:=hxl
         have hym:y.length≤maxLen:=by unfold maxLen;omega
         have hm2:=kJ.out.alloc (.cells #[.string ⟨y.toArray⟩, .string ⟨z.toArray⟩] 234)
         have hz:=eO.out.size
         have mO:=hide (eO.out.alloc eO.out.size (.cells #[.string ⟨y.toArray⟩, .string ⟨z.toArray⟩] 234))
         have hrow2:=heap_alloc_new wr (.cells #[.string ⟨y.toArray⟩, .string ⟨z.toArray⟩] 234)
         have e1:=(ah hrow2 0).trans (show _=some (.string ⟨y.toArray⟩) from rfl)
         have e2:=(ah hrow2 1).trans (show _=some (.string ⟨z.toArray⟩) from rfl)
         have acN:(Hv.aS EJ).length<maxLen:=by rw[Hv.fP];unfold maxLen;omega
         obtain ⟨w5,hrun,FH,Yh⟩:=hm2.store Tryz.underlying139 acN y hym (Hv.gW z)
         have zD:=aX Yh
         have CO:Hid (MapAt w5 fb (Hv.aS (Hv.dV E0 (F.take (j+1))))):=hide (by rw[HT2.out,Hv.lD aaK.out];exact FH)
         have Kj:=hide (mO.out.next zD mO.out.size (fun _ _ q=>q))
         unfold Hv.gW at hrun
         clear hvf r1 r2 hq hEJ FH Yh zD hrow2 ZH hxl
         go_wp2_with fail
         go_roundw
         case rel=>exact ⟨j+1,by omega,by go_num,CO,Kj⟩
         case measure=>simp[intOf];omega
       · obtain rfl:j=rn:=by omega
         have b2 : ¬ (j:Int)<(j:Int):=by omega
         have CO:Hid (MapAt wr fb (Hv.aS (Hv.dM (D.take (k+1)) G))):=hide (by
           have h:=kJ.out
           rw[List.take_of_length_le (by have:=HRN.out;omega)] at h
           rw[HT.out]
           exact h)
         go_wp2_with fail
         go_roundw
         case rel=>exact ⟨k+1,by omega,by go_num,CO,eO⟩
         case measure=>simp[intOf];omega
   · obtain rfl:k=nd:=by omega
     have b1 : ¬ (k:Int)<(k:Int):=by omega
     have Vo:Hid (MapAt wr fb (Hv.aS (Hv.dM D G))):=hide (by
       have h:=HI.out
       rwa [List.take_of_length_le (by have:=MR.out;omega)] at h)
     have hTl:(Hv.dM D G).length≤500:=by
       have h1:=Hv.rH D G (fun p hp=>(YP.out p hp).1)
       have:=MR.out
       omega
     have HTS:=hide (Hv.rJ D Vm.out)
     have Ko:=hide (Hv.Cw D Vm.out HGK.out (fun p hp f hf=>(YP.out p hp).2 f hf))
     have mM:=hide (jq HU.out HB.out (fun q hq e=>by have e':q=fb:=e;have:=NU.out;omega))
     obtain ⟨T,hT⟩:∃ T,Hv.dM D G=T:=⟨_,rfl⟩
     have HTE:=hide hT
     rw[hT] at Vo hTl HTS Ko
     have hfw:fb<wr.heap.size:=by have:=HB.out.size;omega
     clear hT HI
     go_wp2_with fail
     refine (callsIn_wide.1 (Tryz.maps_Keys_73 (some fb) wr)).mono ?_
     rintro e w5 ⟨rfl,rfl⟩
     go_wp2_with fail
     refine (callsIn_wide.1 (Tryz.slices_Sorted_keys_72_73 fb (Hv.aS T).length (Hv.rU (Hv.aS T)) Hv.hR wr Vo.out.2 (by rw[Hv.gZ,Hv.fP];unfold maxLen;omega) (by rw[Hv.gZ,Hv.fP];omega))).mono ?_
     rintro e w6 ⟨kv,ss,rfl,hS,vO, -,hb6⟩
     have Yd:=jW Vo.out.1 hS
     have WB:ss.length=(keysOf (Hv.aS T)).length:=by rw[hS.length_eq,jB]
     have hkf:keysOf (Hv.aS T)=keysOf T:=by simp[keysOf,Hv.aS,List.map_map,Function.comp_def]
     rw[Yd,WB,hkf] at vO
     have zO:=hide (((Below.refl wr.heap.size wr).alloc (Nat.le_refl _) (.cells #[.map (some fb)] 139)).trans (hb6.mono (by simp)))
     have HO6:=hide (bN (B:=wr.heap.size) vO (by simp))
     have HT6:=hide (Vo.out.below zO.out)
     have hs6:=zO.out.size
     obtain ⟨ka,kc,rfl⟩:=slice_form vO
     have hkl:(keysOf T).length=T.length:=by simp[keysOf]
     rw[hkl] at HO6 ⊢
     obtain ⟨ng,ZW⟩:∃ ng,T.length=ng:=⟨_,rfl⟩
     have MS:=hide ZW
     rw[ZW] at hTl ⊢
     have VG:=hide (mM.out.trans (zO.out.mono mM.out.size))
     clear vO hb6 Yd WB hkf hS hkl ZW Vo
     obtain ⟨j0,hj0,hj1,hj2,hj3⟩:∃ j0,Tryz.prog.info? 71=some j0∧j0.zero=some (.agg #[.string ByteArray.empty, .string ByteArray.empty])∧j0.size=2∧j0.bytes=32:=by
       obtain ⟨j0,a,b,c,d⟩:=aW Ir
       exact ⟨j0,a,b,c,d⟩
     go_wp2_with fail
     go_loopw [8,48] (fun l i wr2=>∃ (q:Nat) (lo:Option Addr) (lc:Nat),q≤ng∧l = .slice lo q lc∧i = .int .i64 (q:Int)∧Hid (wr2.ownsRow w6.heap.size 71 2 (.slice lo q lc) q ((T.take q).flatMap cB))∧Hid (Below w6.heap.size w6 wr2)) (fun _ i _=>ng-(intOf i).toNat)
     case atStart=>exact ⟨0,none,0,Nat.zero_le _,rfl,rfl,hide (World.ownsRow_nil _ _ _ _),hide (Below.refl _ _)⟩
     case round =>
       obtain ⟨q,lo,lc,hq,rfl,rfl,HIQ,HBQ⟩:=hrel
       by_cases hlt:q<ng
       · have b3:(q:Int)<(ng:Int):=by omega
         have hqT:q<T.length:=by have:=MS.out;omega
         have hqk:q<(keysOf T).length:=by simp[keysOf];omega
         obtain ⟨g,c',hv2,hg,q1⟩:=gF (l:=keysOf T) (v := .slice ka ng kc) (w:=w6) (e:=9) (by have h:=HO6.out;rw[show (keysOf T).length=T.length by simp[keysOf]];rw[MS.out] at h ⊢;exact h) hqk
         obtain rfl:ka=some ⟨g,0,none⟩:=(Value.slice.inj hv2).1
         have d1:=(HBQ.out.cell (p:=⟨g,q,none⟩) hg).trans q1
         have hkq:(keysOf T)[q]=T[q].1:=by simp[keysOf]
         have hget:Hv.get T T[q].1=some T[q].2:=(Hv.get_some HTS.out).2 (List.getElem_mem hqT)
         have hxk:=Ko.out _ (List.getElem_mem hqT)
         have HTQ:=hide (show (T.take (q+1)).flatMap cB=(T.take q).flatMap cB++cB T[q] by rw[List.take_succ_eq_append_getElem hqT,List.flatMap_append];simp)
         rw[hkq] at d1
         obtain ⟨xy,hxy⟩:∃ xy,T[q]=xy:=⟨_,rfl⟩
         rw[hxy] at d1 hget hxk HTQ
         obtain ⟨x,y⟩:=xy
         simp only at d1 hget hxk
         have hxm:x.length≤maxLen:=by unfold maxLen;omega
         have hM2:=HT6.out.below HBQ.out
         have hlk:=hM2.drew.look Tryz.underlying139 (oz _) x hxm
         have hlk2:=hM2.look Tryz.underlying139 (oz _) x hxm
         rw[Hv.gN,hget] at hlk hlk2
         simp only[Option.map_some,Option.getD_some,Hv.gW] at hlk hlk2
         have hfd:=oN y.toArray
         obtain ⟨ys,hys⟩:∃ ys,(T.take q).flatMap cB=ys:=⟨_,rfl⟩
         have Rq:=hide hys
         have HO:=hide ((show wr.ownsRow w6.heap.size 71 2 (.slice lo q lc) q ys by rw[← hys];exact HIQ.out).alloc (.cells #[.string ⟨x.toArray⟩, .string ⟨y.toArray⟩] 71))
         have YL:=hide (fun z (e:(Value.slice lo q lc).ownBlock=some z)=>(HIQ.out.lt z e).1)
         have hgb:=HBQ.out.size
         clear hv2 q1 hget hxy hkq hys hM2
         go_wp2_with (first
           | (at_builtin;refine wpList_append_own_at _ rfl _ _ 68 rfl w6.heap.size 71 j0 (.agg #[.string ByteArray.empty, .string ByteArray.empty]) 2 32 Tryz.underlying68 hj0 hj1 hj2 hj3 rfl (by decide) _ _ _ rfl HO.out ⟨wr.heap.size,0,none⟩ 1 1 [.string ⟨x.toArray⟩, .string ⟨y.toArray⟩] rfl rfl (cell_two_new _ _ _ _) (fun x hx=>by simp at hx;rcases hx with rfl | rfl<;>rfl) (by unfold maxLen;omega) (by omega) (by simp;omega) ?_;intro v' w8 hown' jG Bo O6;obtain ⟨gv,cv,rfl⟩:=aP hown' (by omega);have O8:=hide hown';have G8:=hide jG;clear hown' jG Bo O6))
         have Gg:Hid (Below w6.heap.size w6 w8):=hide ((HBQ.out.alloc hgb (.cells #[.string ⟨x.toArray⟩, .string ⟨y.toArray⟩] 71)).grown G8.out (by simp;omega) (fun z hz=>YL.out z hz))
         have HO8:Hid (w8.ownsRow w6.heap.size 71 2 (.slice (some ⟨gv,0,none⟩) (q+1) cv) (q+1) ((T.take (q+1)).flatMap cB)):=hide (by rw[HTQ.out,Rq.out];exact O8.out)
         clear O8 G8
         go_roundw
         case rel=>exact ⟨q+1,_,cv,by omega,rfl,by go_num,HO8,Gg⟩
         case measure=>simp[intOf];omega
       · obtain rfl:q=ng:=by omega
         have b3 : ¬ (q:Int)<(q:Int):=by omega
         go_wp2_with fail
         go_ret
         have hs1:=VG.out.size
         refine ⟨_,rfl,?_,VG.out.trans (HBQ.out.mono hs1)⟩
         have h:=bN HIQ.out hs1
         rw[List.take_of_length_le (by have:=MS.out;omega)] at h
         rw[HTE.out,MS.out]
         exact h
theorem KU {C N:Nat→Prop} (eb sb mb pm fm db n a b c:Nat) (h:S) (d:Dk) (P:VM Value) (D:VM Hv.PD) (G:VM S) (sv im km:Value) (dn:Nat) (hDl:D.length≤12) (nQ:bY D) (w:World) (he:dY C N eb sb mb pm fm db n a b c h d P D G sv im km dn w) :
   Calls Tryz.prog 21 #[.pointer (some ⟨eb,0,none⟩)] w fun e w'=>∃ v,e = .returned v∧w'.ownsRow w.heap.size 41 3 v D.length (D.flatMap zK)∧Below w.heap.size w w':=by
 obtain ⟨e0,e1, -⟩:=he.dR.cells
 have HL:=hide (Te mb pm fm P (Hv.aS G) D N (by omega) nQ.named w he.iM he.pk)
 clear he
 go_enter Tryz.func21,Tryz.ntmps21
 go_wp2_with fail
 refine HL.out.mono ?_
 rintro e w1 ⟨v,rfl,hr,hb1⟩
 have HR:=hide hr;have HB1:=hide hb1
 clear hr hb1
 go_wp2_with fail
 go_ret
 exact ⟨v,rfl,HR.out,HB1.out⟩
theorem OQ {C N:Nat→Prop} (eb sb mb pm fm db n a b c:Nat) (h:S) (d:Dk) (P:VM Value) (D:VM Hv.PD) (G:VM S) (sv im km:Value) (dn:Nat) (hDl:D.length≤12) (nQ:bY D) (hG:G.length≤16) (hK:Hv.GK G) (w:World) (he:dY C N eb sb mb pm fm db n a b c h d P D G sv im km dn w) :
   Calls Tryz.prog 41 #[.pointer (some ⟨eb,0,none⟩)] w fun e w'=>∃ v,e = .returned v∧w'.ownsRow w.heap.size 71 2 v (Hv.dM D G).length ((Hv.dM D G).flatMap cB)∧Below w.heap.size w w':=by
 obtain ⟨e0,e1, -⟩:=he.dR.cells
 have HL:=hide (Ul mb pm fm P D G N (by omega) nQ.named (by omega) hK w he.iM he.pk)
 clear he
 go_enter Tryz.func41,Tryz.ntmps41
 go_wp2_with fail
 refine HL.out.mono ?_
 rintro e w1 ⟨v,rfl,hr,hb1⟩
 have HR:=hide hr;have HB1:=hide hb1
 clear hr hb1
 go_wp2_with fail
 go_ret
 exact ⟨v,rfl,HR.out,HB1.out⟩
end
section
open Go.RowKit
open Go.MuLone
open aH (St gH)
open Hv (S Dk VM)
theorem Lg {C N:Nat→Prop} (hb eb sb mb pm fm db n a b c:Nat) (h:S) (d:Dk) (P:VM Value) (D:VM Hv.PD) (G:VM S) (hDl:D.length≤12) (nQ:bY D) (w:World) (he:gV C N hb eb sb mb pm fm db n a b c h d P D G w) :
   Calls Tryz.prog 11 #[.pointer (some ⟨hb,0,none⟩)] w fun e w'=>∃ v,e = .returned v∧w'.ownsRow w.heap.size 41 3 v D.length (D.flatMap zK)∧gV C N hb eb sb mb pm fm db n a b c h d P D G w'∧aQ w.heap.size (fun q=>q=hb) w w':=by
 obtain ⟨l1,l2,l3⟩:=he.locked
 have h0:=(ah he.blk 0).trans (show _=some (.int .i32 0) from rfl)
 have f0:=ak he.blk 0
 have HL2:=hide l2;have NY:=hide l3;have HO:=hide he.off;have VP:=hide he.low;have Vk:=hide (blt he.blk)
 have QO:Hid (∀ w1,w1=w.setCell ⟨hb,0,none⟩ (.int .i32 1)→Calls Tryz.prog 21 #[.pointer (some ⟨eb,0,none⟩)] w1 fun e w'=>∃ v,e = .returned v∧w'.ownsRow w1.heap.size 41 3 v D.length (D.flatMap zK)∧Below w1.heap.size w1 w'):=hide (by
   rintro w1 rfl
   exact KU eb sb mb pm fm db n a b c h d P D G _ _ _ 0 hDl nQ _ l2)
 clear nQ he
 have c2:=(ah l1 2).trans (show _=some (.pointer (some ⟨eb,0,none⟩)) from rfl)
 have Gi:=hide l1
 have hsz:(w.setCell ⟨hb,0,none⟩ (.int .i32 1)).heap.size=w.heap.size:=by simp
 have wQ:=hide hsz
 clear l1 l2 l3 hsz
 go_enter_defers Tryz.func11,Tryz.ntmps11
 go_wp2_with (go_at_call 17;refine (lock_free Tryz.muLib ⟨hb,0,none⟩ _ h0 f0).mono ?_;rintro e w1 ⟨rfl,hw1⟩;have HW1:=hide hw1;rw[← hw1] at c2;clear hw1)
 refine (QO.out w1 HW1.out).mono ?_
 rintro e w2 ⟨v,rfl,hr2,hb2⟩
 have HR:=hide hr2;have HB3:=hide hb2
 clear hr2 hb2 QO
 go_wp2_with fail
 have hw1:=HW1.out
 have hs1:w1.heap.size=w.heap.size:=by rw[hw1];exact wQ.out
 have hblt:=Vk.out
 have r1:w1.heap[hb]? = some (.cells #[.int .i32 1, .int .u32 0, .pointer (some ⟨eb,0,none⟩)] 62 (0,0)):=by rw[hw1];exact Gi.out
 have r3:=(HB3.out.block hb (blt r1)).trans r1
 have hE1:dY C N eb sb mb pm fm db n a b c h d P D G (.slice none 0 0) (.map none) (.map none) 0 w1:=by rw[hw1];exact HL2.out
 have Vu:=hE1.below HB3.out
 have x0:=(ah r3 0).trans (show _=some (.int .i32 1) from rfl)
 have y0:=ak r3 0
 refine leaves_cons (f:=18) (args := #[.pointer (some ⟨hb,0,none⟩)]) (by simp) (by simp[go_sem]) ?_
 refine (unlock_deferred Tryz.muLib ⟨hb,0,none⟩ .returning _ x0 y0).mono ?_
 rintro e u' w'' ⟨rfl,rfl,rfl⟩
 have hR:=HR.out
 rw[hs1] at hR
 refine ⟨_,results_tmp rfl _ _ _,v,rfl,bB hR (fun e=>by have:=(hR.lt hb e).1;omega),gV.free r3 Vu HO.out VP.out,?_⟩
 have hF1:aQ w.heap.size (fun q=>q=hb) w w1:=by rw[hw1];exact NY.out
 exact (hF1.below HB3.out hF1.size).setCell (p:=⟨hb,0,none⟩) (.inr rfl) _
theorem Pf {C N:Nat→Prop} (hb eb sb mb pm fm db n a b c:Nat) (h:S) (d:Dk) (P:VM Value) (D:VM Hv.PD) (G:VM S) (hDl:D.length≤12) (nQ:bY D) (hG:G.length≤16) (hK:Hv.GK G) (w:World) (he:gV C N hb eb sb mb pm fm db n a b c h d P D G w) :
   Calls Tryz.prog 22 #[.pointer (some ⟨hb,0,none⟩)] w fun e w'=>∃ v,e = .returned v∧w'.ownsRow w.heap.size 71 2 v (Hv.dM D G).length ((Hv.dM D G).flatMap cB)∧gV C N hb eb sb mb pm fm db n a b c h d P D G w'∧aQ w.heap.size (fun q=>q=hb) w w':=by
 obtain ⟨l1,l2,l3⟩:=he.locked
 have h0:=(ah he.blk 0).trans (show _=some (.int .i32 0) from rfl)
 have f0:=ak he.blk 0
 have HL2:=hide l2;have NY:=hide l3;have HO:=hide he.off;have VP:=hide he.low;have Vk:=hide (blt he.blk)
 have QO:Hid (∀ w1,w1=w.setCell ⟨hb,0,none⟩ (.int .i32 1)→Calls Tryz.prog 41 #[.pointer (some ⟨eb,0,none⟩)] w1 fun e w'=>∃ v,e = .returned v∧w'.ownsRow w1.heap.size 71 2 v (Hv.dM D G).length ((Hv.dM D G).flatMap cB)∧Below w1.heap.size w1 w'):=hide (by
   rintro w1 rfl
   exact OQ eb sb mb pm fm db n a b c h d P D G _ _ _ 0 hDl nQ hG hK _ l2)
 clear nQ he hK
 have c2:=(ah l1 2).trans (show _=some (.pointer (some ⟨eb,0,none⟩)) from rfl)
 have Gi:=hide l1
 have hsz:(w.setCell ⟨hb,0,none⟩ (.int .i32 1)).heap.size=w.heap.size:=by simp
 have wQ:=hide hsz
 clear l1 l2 l3 hsz
 go_enter_defers Tryz.func22,Tryz.ntmps22
 go_wp2_with (go_at_call 17;refine (lock_free Tryz.muLib ⟨hb,0,none⟩ _ h0 f0).mono ?_;rintro e w1 ⟨rfl,hw1⟩;have HW1:=hide hw1;rw[← hw1] at c2;clear hw1)
 refine (QO.out w1 HW1.out).mono ?_
 rintro e w2 ⟨v,rfl,hr2,hb2⟩
 have HR:=hide hr2;have HB3:=hide hb2
 clear hr2 hb2 QO
 go_wp2_with fail
 have hw1:=HW1.out
 have hs1:w1.heap.size=w.heap.size:=by rw[hw1];exact wQ.out
 have hblt:=Vk.out
 have r1:w1.heap[hb]? = some (.cells #[.int .i32 1, .int .u32 0, .pointer (some ⟨eb,0,none⟩)] 62 (0,0)):=by rw[hw1];exact Gi.out
 have r3:=(HB3.out.block hb (blt r1)).trans r1
 have hE1:dY C N eb sb mb pm fm db n a b c h d P D G (.slice none 0 0) (.map none) (.map none) 0 w1:=by rw[hw1];exact HL2.out
 have Vu:=hE1.below HB3.out
 have x0:=(ah r3 0).trans (show _=some (.int .i32 1) from rfl)
 have y0:=ak r3 0
 refine leaves_cons (f:=18) (args := #[.pointer (some ⟨hb,0,none⟩)]) (by simp) (by simp[go_sem]) ?_
 refine (unlock_deferred Tryz.muLib ⟨hb,0,none⟩ .returning _ x0 y0).mono ?_
 rintro e u' w'' ⟨rfl,rfl,rfl⟩
 have hR:=HR.out
 rw[hs1] at hR
 refine ⟨_,results_tmp rfl _ _ _,v,rfl,bB hR (fun e=>by have:=(hR.lt hb e).1;omega),gV.free r3 Vu HO.out VP.out,?_⟩
 have hF1:aQ w.heap.size (fun q=>q=hb) w w1:=by rw[hw1];exact NY.out
 exact (hF1.below HB3.out hF1.size).setCell (p:=⟨hb,0,none⟩) (.inr rfl) _
end
section
open Go.RowKit
open aH (St gH)
open Hv (S Dk VM)
theorem Hf {C N:Nat→Prop} (hb eb sb mb pm fm db n a b c:Nat) (h:S) (d:Dk) (P:VM Value) (D:VM Hv.PD) (G:VM S) (path:S) (hDl:D.length≤12) (nQ:bY D) (hG:G.length≤16) (hK:Hv.GK G) (w:World) (he:gV C N hb eb sb mb pm fm db n a b c h d P D G w) :
   Calls Tryz.prog 12 #[.pointer (some ⟨hb,0,none⟩), .string ⟨path.toArray⟩] w fun e w'=>e = .returned (.string ⟨((Hv.get (Hv.dM D G) path).getD []).toArray⟩)∧gV C N hb eb sb mb pm fm db n a b c h d P D G w'∧aQ w.heap.size (fun q=>q=hb) w w':=by
 have hsE:Hv.aM (Hv.dM D G):=Hv.rJ D (Hv.bq he.dR.iM.files.1)
 have Sm:(Hv.dM D G).length≤1000:=by
   have:=Hv.rH D G (fun p hp=>(yP nQ.named he.dR.pk.dU p hp).1)
   omega
 have HT:=hide (Pf hb eb sb mb pm fm db n a b c h d P D G hDl nQ hG hK w he)
 obtain ⟨E,hE⟩:∃ E,Hv.dM D G=E:=⟨_,rfl⟩
 rw[hE] at hsE Sm HT ⊢
 have HS:=hide hsE
 clear hE nQ hK he hsE
 go_enter Tryz.func12,Tryz.ntmps12
 go_wp2_with fail
 refine HT.out.mono ?_
 rintro e w1 ⟨v,rfl,hr,hh,hf⟩
 have HR:=hide hr;have HH:=hide hh;have HF:=hide hf
 obtain ⟨va,vc,rfl⟩:=slice_form hr
 obtain ⟨ne,hne⟩:∃ ne,E.length=ne:=⟨_,rfl⟩
 have Kn:=hide hne
 rw[hne] at Sm ⊢
 clear hr hh hf hne HT
 go_wp2_with fail
 go_loopw [6] (fun i wr=>∃ k:Nat,k≤ne∧i = .int .i64 (k:Int)∧wr=w1∧Hid (∀ j (hj:j<E.length),j<k→E[j].1≠path)) (fun i _=>ne-(intOf i).toNat)
 case atStart=>exact ⟨0,Nat.zero_le _,rfl,rfl,hide (fun j _ q=>absurd q (by omega))⟩
 case round =>
   obtain ⟨k,hk,rfl,rfl,HNO⟩:=hrel
   by_cases hlt:k<ne
   · have b1:(k:Int)<(ne:Int):=by omega
     have hkE:k<E.length:=by have:=Kn.out;omega
     obtain ⟨g,c',hv,hg,q1,q2⟩:=mg (l:=E) HR.out hkE
     obtain rfl:va=some ⟨g,0,none⟩:=(Value.slice.inj hv).1
     have HM:=hide (List.getElem_mem hkE)
     have HX:=hide (show E[k]=E[k] from rfl)
     obtain ⟨p,hp⟩:∃ p,E[k]=p:=⟨_,rfl⟩
     have HP:=hide hp
     rw[hp] at q1 q2
     obtain ⟨x,y⟩:=p
     simp only at q1 q2
     clear hv hp HX
     by_cases hx:(x==path)=true
     · go_wp2_with fail
       go_ret
       refine ⟨?_,HH.out,HF.out⟩
       have e1:x=path:=by simpa using hx
       have hm:=HM.out
       rw[HP.out] at hm
       rw[← e1,(Hv.get_some HS.out).2 hm]
       rfl
     · have hx':(x==path)=false:=by simpa using hx
       clear hx
       go_wp2_with fail
       go_roundw
       case rel =>
         refine ⟨k+1,by omega,by go_num,trivial,hide (fun j hj hjk e => ?_)⟩
         by_cases q:j=k
         · subst q
           rw[HP.out] at e
           have:x=path:=e
           rw[this] at hx'
           simp at hx'
         · exact HNO.out j hj (by omega) e
       case measure=>simp[intOf];omega
   · obtain rfl:k=ne:=by omega
     have b1 : ¬ (k:Int)<(k:Int):=by omega
     go_wp2_with fail
     go_ret
     refine ⟨?_,HH.out,HF.out⟩
     have:Hv.get E path=none:=by
       rw[Hv.get_none]
       intro p hp e
       obtain ⟨j,hj,rfl⟩:=List.getElem_of_mem hp
       exact HNO.out j hj (by have:=Kn.out;omega) e
     rw[this]
     rfl
end
section
open aH (St gH)
open Hv (S VM)
namespace Hv
theorem Da (pl:Plan) {m:Mac} (h1:aM m.1) (x k:S):get (aG pl m (3,x)).1 k=if k=x then (get m.1 k).map (fun d=>d.to (if has pl.cO k=true then 3 else 2)) else get m.1 k:=by
 simp only[aG]
 rw[if_neg (by decide),if_neg (by decide)]
 by_cases e:k=x
 · subst e
   rw[if_pos rfl]
   cases q:get m.1 k with
   | none=>simp[q]
   | some d=>simp[aD h1]
 · rw[if_neg e]
   cases q:get m.1 x with
   | none=>rfl
   | some d=>simp[av h1 _ e]
theorem Dz (pl:Plan) {m:Mac} (h1:aM m.1) (x k:S):get (aG pl m (4,x)).1 k=if k=x then (get m.1 k).map (fun d=>d.to 2) else get m.1 k:=by
 simp only[aG]
 rw[if_neg (by decide),if_neg (by decide)]
 by_cases e:k=x
 · subst e
   rw[if_pos rfl]
   cases q:get m.1 k with
   | none=>simp[q]
   | some d=>simp[aD h1]
 · rw[if_neg e]
   cases q:get m.1 x with
   | none=>rfl
   | some d=>simp[av h1 _ e]
theorem He (pl:Plan):∀ (l:List S) {m:Mac},aM m.1→aM m.2→∀ k,get (aJ pl m (l.map fun x=>(3,x))).1 k=if k∈l then (get m.1 k).map (fun d=>d.to (if has pl.cO k=true then 3 else 2)) else get m.1 k
 | [],m,_,_,k=>by simp[aJ]
 | x::l,m,h1,h2,k=>by
   obtain ⟨a,b⟩:=dx pl h1 h2 (3,x)
   have e:aJ pl m ((x::l).map fun x=>(3,x))=aJ pl (aG pl m (3,x)) (l.map fun x=>(3,x)):=rfl
   rw[e,He pl l a b k,Da pl h1]
   by_cases q:k=x
   · subst q
     rw[if_pos rfl,if_pos (show k∈k::l by simp)]
     split
     · cases get m.1 k<;>rfl
     · rfl
   · rw[if_neg q]
     by_cases r:k∈l
     · rw[if_pos r,if_pos (List.mem_cons_of_mem _ r)]
     · rw[if_neg r,if_neg (fun h=>(List.mem_cons.1 h).elim q r)]
theorem JX (pl:Plan):∀ (l:List S) {m:Mac},aM m.1→aM m.2→∀ k,get (aJ pl m (l.map fun x=>(4,x))).1 k=if k∈l then (get m.1 k).map (fun d=>d.to 2) else get m.1 k
 | [],m,_,_,k=>by simp[aJ]
 | x::l,m,h1,h2,k=>by
   obtain ⟨a,b⟩:=dx pl h1 h2 (4,x)
   have e:aJ pl m ((x::l).map fun x=>(4,x))=aJ pl (aG pl m (4,x)) (l.map fun x=>(4,x)):=rfl
   rw[e,JX pl l a b k,Dz pl h1]
   by_cases q:k=x
   · subst q
     rw[if_pos rfl,if_pos (show k∈k::l by simp)]
     split
     · cases get m.1 k<;>rfl
     · rfl
   · rw[if_neg q]
     by_cases r:k∈l
     · rw[if_pos r,if_pos (List.mem_cons_of_mem _ r)]
     · rw[if_neg r,if_neg (fun h=>(List.mem_cons.1 h).elim q r)]
def lT (T:VM PD) (l:List S) (G:VM S):VM S:=l.foldl (fun G x=>match get T x with | none=>G | some d=>fJ T [] G d.st.runs) G
def Cx (T:VM PD) (W:VM (List S)) (l:List S) (G:VM S):VM S:=l.foldl (fun G x=>match get T x with | none=>G | some d=>fJ T ((get W x).getD []) G d.st.aL) G
theorem KT (pl:Plan) (c:Int) (hc:c=1∨c=2) (x:S) (m:Mac):(aG pl m (c,x)).2=m.2:=by
 rcases hc with rfl | rfl
 · rfl
 · simp only[aG]
   rw[if_neg (by decide)]
   cases get pl.ins x<;>rfl
theorem ig (pl:Plan) (c:Int) (hc:c=1∨c=2):∀ (l:List S) (m:Mac),(aJ pl m (l.map fun x=>(c,x))).2=m.2
 | [],_=>rfl
 | x::l,m=>by
   have e:aJ pl m ((x::l).map fun x=>(c,x))=aJ pl (aG pl m (c,x)) (l.map fun x=>(c,x)):=rfl
   rw[e,ig pl c hc l,KT pl c hc]
theorem oK (pl:Plan) (T:VM PD):∀ (l:List S) {m:Mac},aM m.1→aM m.2→kM m.1=kM T→(aJ pl m (l.map fun x=>(3,x))).2=lT T l m.2
 | [],_,_,_,_=>rfl
 | x::l,m,h1,h2,ht=>by
   obtain ⟨a,b⟩:=dx pl h1 h2 (3,x)
   have e:aJ pl m ((x::l).map fun x=>(3,x))=aJ pl (aG pl m (3,x)) (l.map fun x=>(3,x)):=rfl
   rw[e,oK pl T l a b ((BD pl h1 (.inl rfl)).trans ht)]
   have es:(aG pl m (3,x)).2=(match get T x with | none=>m.2 | some d=>fJ T [] m.2 d.st.runs):=by
     rcases rA ht x with ⟨q1,q2⟩ | ⟨d,d',q1,q2,q3⟩
     · simp[aG,q1,q2]
     · have:d.st=d'.st:=by have h:=congrArg PD.st q3;exact h
       simp[aG,q1,q2,this,oW ht]
   rw[es];rfl
theorem uO (pl:Plan) (T:VM PD):∀ (l:List S) {m:Mac},aM m.1→aM m.2→kM m.1=kM T→(aJ pl m (l.map fun x=>(4,x))).2=Cx T pl.cO l m.2
 | [],_,_,_,_=>rfl
 | x::l,m,h1,h2,ht=>by
   obtain ⟨a,b⟩:=dx pl h1 h2 (4,x)
   have e:aJ pl m ((x::l).map fun x=>(4,x))=aJ pl (aG pl m (4,x)) (l.map fun x=>(4,x)):=rfl
   rw[e,uO pl T l a b ((BD pl h1 (.inr rfl)).trans ht)]
   have es:(aG pl m (4,x)).2=(match get T x with | none=>m.2 | some d=>fJ T ((get pl.cO x).getD []) m.2 d.st.aL):=by
     rcases rA ht x with ⟨q1,q2⟩ | ⟨d,d',q1,q2,q3⟩
     · simp[aG,q1,q2]
     · have:d.st=d'.st:=by have h:=congrArg PD.st q3;exact h
       simp[aG,q1,q2,this,oW ht]
   rw[es];rfl
theorem ou (D:VM PD) (R:VM Value) (I:VM PD):(bf D R I).steps=((order bC (leaveD D R)).map (fun x=>(1,x))++(order aI I).map (fun x=>(2,x)))++((order aI I).map (fun x=>(3,x))++(keysOf (dN (aR D R I) (keysOf (aT D R I)))).map (fun x=>(4,x))):=by
 rw[← List.append_assoc];rfl
theorem EL {D:VM PD} {R:VM Value} {I:VM PD} (sD:aM D) (sI:aM I) (k:S):get (aR D R I) k=(get I k).orElse (fun _=>if has R k=true then none else get D k) :=
 (iN I (cut D R) (iK R D sD) sI k).trans (by rw[kZ R D sD])
theorem jX {D:VM PD} (sD:aM D) (R:VM Value) (I:VM PD):aM (aR D R I):=iO I (cut D R) (iK R D sD)
theorem PD.Xu {d:PD} {s:Int} (h:d.status=s):d.to s=d:=by cases d;simp only[PD.to] at h ⊢;rw[h]
theorem rG {D:VM PD} {G:VM S} {R:VM Value} {I:VM PD} (sD:aM D) (sG:aM G) (sI:aM I) (hst:∀ k d,get D k=some d→d.status=2) :
   aJ (bf D R I) (bP D (bf D R I).cO,G) (bf D R I).steps=((aR D R I).map (fun p=>(p.1,p.2.to 2)),Cx (aR D R I) (bf D R I).cO (keysOf (bf D R I).cO) (lT (aR D R I) (order aI I) G)):=by
 have hend:=run_end (R:=R) (G:=G) (I:=I) (D':=bP D (bf D R I).cO) sD (yg sD _) sG sI (JV D _)
 have e:=ou D R I
 have ew:(bf D R I).cO=dN (aR D R I) (keysOf (aT D R I)):=rfl
 have ei:(bf D R I).ins=I:=rfl
 rw[← ew] at e
 obtain ⟨pl,hpl⟩:∃ pl,bf D R I=pl:=⟨_,rfl⟩
 rw[hpl] at hend e ei ⊢
 clear hpl ew
 have e3:∀ A B C E:List Step,∀ m,aJ pl m ((A++B)++(C++E))=aJ pl (aJ pl (aJ pl (aJ pl m A) B) C) E:=fun A B C E m=>by simp only[aJ,List.foldl_append]
 rw[e,e3] at hend ⊢
 have sW:=yg sD pl.cO
 obtain ⟨a1,a2⟩:=eF pl ((order bC (leaveD D R)).map (fun x=>(1,x))) (m:=(bP D pl.cO,G)) sW sG
 obtain ⟨b1,b2⟩:=eF pl ((order aI I).map (fun x=>(2,x))) a1 a2
 obtain ⟨c1,c2⟩:=eF pl ((order aI I).map (fun x=>(3,x))) b1 b2
 obtain ⟨d1,d2⟩:=eF pl ((keysOf pl.cO).map (fun x=>(4,x))) c1 c2
 have tC:=lG pl ((order aI I).map (fun x=>(3,x))) b1 b2 (fun s hs=>by obtain ⟨x,_,rfl⟩:=List.mem_map.1 hs;exact .inl rfl)
 have tE:=lG pl ((keysOf pl.cO).map (fun x=>(4,x))) c1 c2 (fun s hs=>by obtain ⟨x,_,rfl⟩:=List.mem_map.1 hs;exact .inr rfl)
 have tc:=tE.symm.trans hend
 have tb:=tC.symm.trans tc
 refine Prod.ext ?_ ?_
 · refine d1.dD ((jX sD R I).map fun d:PD=>d.to 2) fun k => ?_
   rw[JX pl _ c1 c2,He pl _ b1 b2,uP pl _ a1 a2 (fun x hx=>by rw[ei];exact (dw aI sI x).1 hx),Bg pl _ (m:=(bP D pl.cO,G)) sW sG,ei,get_map (aR D R I) (fun d:PD=>d.to 2),EL sD sI]
   have m1:=dw aI sI k
   have m2:=dw bC (iD sD R) k
   have m3:=uj (E:=pl.cO) (k:=k)
   rw[aB,iC sD] at m2
   rw[aB] at m1
   show (if k∈keysOf pl.cO then Option.map (fun d=>d.to 2) (if k∈order aI I then Option.map _ (if k∈order aI I then get I k else if k∈order bC (leaveD D R) then none else get (bP D pl.cO) k) else (if k∈order aI I then get I k else if k∈order bC (leaveD D R) then none else get (bP D pl.cO) k)) else (if k∈order aI I then Option.map _ (if k∈order aI I then get I k else if k∈order bC (leaveD D R) then none else get (bP D pl.cO) k) else (if k∈order aI I then get I k else if k∈order bC (leaveD D R) then none else get (bP D pl.cO) k)))=_
   cases q:get I k with
   | some d =>
     rw[q] at m1
     rw[if_pos (m1.2 rfl),if_pos (m1.2 rfl)]
     by_cases r:k∈keysOf pl.cO
     · rw[if_pos r];rfl
     · rw[if_neg r]
       have : ¬ has pl.cO k=true:=fun x=>r (m3.2 x)
       simp[this]
   | none =>
     rw[q] at m1
     have hn : ¬ k∈order aI I:=fun x=>by have:=m1.1 x;cases this
     rw[if_neg hn,if_neg hn,EW]
     simp only[Option.orElse_none]
     by_cases r:has R k=true
     · rw[if_pos r] at m2 ⊢
       cases q2:get D k with
       | none=>simp
       | some d=>rw[q2] at m2;rw[if_pos (m2.2 rfl)];simp
     · rw[if_neg r] at m2 ⊢
       have hb : ¬ k∈order bC (leaveD D R):=fun x=>by have:=m2.1 x;cases this
       rw[if_neg hb]
       cases q2:get D k with
       | none=>simp
       | some d =>
         have hs:=hst k d q2
         by_cases w:k∈keysOf pl.cO
         · rw[if_pos w]
           have hw:=m3.1 w
           simp[hw,hs]
           rfl
         · rw[if_neg w]
           have hw : ¬ has pl.cO k=true:=fun x=>w (m3.2 x)
           simp[hw,PD.Xu hs]
 · rw[uO pl _ _ c1 c2 tc,oK pl _ _ b1 b2 tb,ig pl 2 (.inr rfl),ig pl 1 (.inl rfl)]
theorem lq (pl:Plan):∀ (A:List Step) (B:List Step) (m:Mac),dW pl m (A++B)=(dW pl m A||dW pl (aJ pl m A) B)
 | [],_,_=>by simp[dW,aJ]
 | s::A,B,m=>by
   show (!iR (aG pl m s).2||dW pl (aG pl m s) (A++B))=(!iR (aG pl m s).2||dW pl (aG pl m s) A||dW pl (aJ pl (aG pl m s) A) B)
   rw[lq pl A B,Bool.or_assoc]
theorem vZ (pl:Plan):∀ (A:List Step) (m:Mac),(∀ k,k<A.length→iR (aJ pl m (A.take (k+1))).2=true)→dW pl m A=false
 | [],_,_=>rfl
 | s::A,m,h=>by
   have h0:=h 0 (by simp)
   have e0:aJ pl m ((s::A).take 1)=aG pl m s:=by simp[aJ]
   rw[e0] at h0
   show (!iR (aG pl m s).2||dW pl (aG pl m s) A)=false
   rw[h0,vZ pl A (aG pl m s) (fun k hk=>by
     have:=h (k+1) (by simp;omega)
     simpa [aJ] using this)]
   rfl
theorem oU {D:VM PD} {G:VM S} {R:VM Value} {I:VM PD} (sD:aM D) (sG:aM G) (sI:aM I) (h0:iR G=true) (h1:∀ k,k<(order aI I).length→iR (lT (aR D R I) ((order aI I).take (k+1)) G)=true) (h2:∀ k,k<(keysOf (bf D R I).cO).length→iR (Cx (aR D R I) (bf D R I).cO ((keysOf (bf D R I).cO).take (k+1)) (lT (aR D R I) (order aI I) G))=true) :
   dW (bf D R I) (D,G) (bf D R I).steps=false:=by
 have hend:=run_end (R:=R) (G:=G) (I:=I) (D':=D) sD sD sG sI rfl
 have e:=ou D R I
 have ew:(bf D R I).cO=dN (aR D R I) (keysOf (aT D R I)):=rfl
 rw[← ew] at e
 obtain ⟨pl,hpl⟩:∃ pl,bf D R I=pl:=⟨_,rfl⟩
 rw[hpl] at hend e h2 ⊢
 clear hpl ew
 have e3:∀ A B C E:List Step,∀ m,aJ pl m ((A++B)++(C++E))=aJ pl (aJ pl (aJ pl (aJ pl m A) B) C) E:=fun A B C E m=>by simp only[aJ,List.foldl_append]
 rw[e,e3] at hend
 rw[e,lq,lq,lq]
 obtain ⟨a1,a2⟩:=eF pl ((order bC (leaveD D R)).map (fun x=>(1,x))) (m:=(D,G)) sD sG
 obtain ⟨b1,b2⟩:=eF pl ((order aI I).map (fun x=>(2,x))) a1 a2
 obtain ⟨c1,c2⟩:=eF pl ((order aI I).map (fun x=>(3,x))) b1 b2
 have tC:=lG pl ((order aI I).map (fun x=>(3,x))) b1 b2 (fun s hs=>by obtain ⟨x,_,rfl⟩:=List.mem_map.1 hs;exact .inl rfl)
 have tE:=lG pl ((keysOf pl.cO).map (fun x=>(4,x))) c1 c2 (fun s hs=>by obtain ⟨x,_,rfl⟩:=List.mem_map.1 hs;exact .inr rfl)
 have tc:=tE.symm.trans hend
 have tb:=tC.symm.trans tc
 have e2:aJ pl (D,G) ((order bC (leaveD D R)).map (fun x=>(1,x))++(order aI I).map (fun x=>(2,x)))=aJ pl (aJ pl (D,G) ((order bC (leaveD D R)).map (fun x=>(1,x)))) ((order aI I).map (fun x=>(2,x))):=by simp only[aJ,List.foldl_append]
 rw[e2]
 have fA:∀ k,(aJ pl (D,G) (((order bC (leaveD D R)).map (fun x=>((1:Int),x))).take k)).2=G:=fun k=>by
   rw[← List.map_take];exact ig pl 1 (.inl rfl) _ _
 have fA':(aJ pl (D,G) ((order bC (leaveD D R)).map (fun x=>((1:Int),x)))).2=G:=ig pl 1 (.inl rfl) _ _
 rw[vZ pl _ _ (fun k _=>by rw[fA];exact h0),vZ pl _ _ (fun k _=>by rw[← List.map_take,ig pl 2 (.inr rfl),fA'];exact h0)]
 have fB':(aJ pl (aJ pl (D,G) ((order bC (leaveD D R)).map (fun x=>((1:Int),x)))) ((order aI I).map (fun x=>((2:Int),x)))).2=G:=(ig pl 2 (.inr rfl) _ _).trans fA'
 rw[vZ pl _ _ (fun k hk=>by
   rw[← List.map_take,oK pl _ _ b1 b2 tb,fB']
   exact h1 k (by simpa using hk))]
 rw[vZ pl _ _ (fun k hk=>by
   rw[← List.map_take,uO pl _ _ c1 c2 tc,oK pl _ _ b1 b2 tb,fB']
   exact h2 k (by simpa using hk))]
 rfl
theorem vC {n:Int} {D:VM PD} {G:VM S} {xs:List S} {s:WS} (hw:wish xs = .ok s) (hr:dh D s.R s.I=0) (ho:dW (bf D s.R s.I) (D,G) (bf D s.R s.I).steps=false) (hb:jl n D xs=false):check n D G xs = .ok (bf D s.R s.I):=by
 unfold check
 rw[hw]
 simp only[hr,ho,hb]
 simp
theorem GX {n:Int} {D:VM PD} {G:VM S} {xs:List S} {s:WS} (hw:wish xs = .ok s) (hr:dh D s.R s.I≠0):check n D G xs = .error (dh D s.R s.I):=by
 unfold check
 rw[hw]
 simp[hr]
end Hv
namespace Hv
def Item.name:Item→S
 | .inl nm=>nm
 | .inr (_,nm,_,_)=>nm
def au (is:List Item):WS:=is.foldl kW ⟨[],[],[]⟩
theorem yN (is:List Item) (i:Item):au (is++[i])=kW (au is) i:=by simp[au]
theorem zu:∀ (is:List Item) (xs:List S) (s:WS),xs.map fQ=is.map some→kH xs s=some (is.foldl kW s)
 | [],xs,s,h=>by
   cases xs with
   | nil=>rfl
   | cons x xs=>simp at h
 | i::is,xs,s,h=>by
   cases xs with
   | nil=>simp at h
   | cons x xs =>
     simp only[List.map_cons,List.cons.injEq] at h
     rw[kH,h.1]
     exact zu is xs _ h.2
theorem Ua {α:Type} {P:List α→Prop} (h0:P []) (h1:∀ l a,P l→P (l++[a])):∀ l,P l:=fun l=>by
 have key:∀ r:List α,P r.reverse:=fun r=>by
   induction r with
   | nil=>exact h0
   | cons a r ih=>rw[List.reverse_cons];exact h1 _ _ ih
 have:=key l.reverse
 rwa [List.reverse_reverse] at this
theorem KL {α:Type} {E:VM α} {k:S} (h:has E k=false):del E k=E:=by
 unfold del
 rw[List.filter_eq_self]
 intro p hp
 cases e:(p.1==k) with
 | false=>rfl
 | true =>
   have:has E k=true:=List.any_eq_true.2 ⟨p,hp,e⟩
   rw[h] at this;cases this
theorem zf {α:Type} {E:VM α} {k:S} (v:α) (h:has E k=false):(put E k v).length=E.length+1:=by
 unfold put;rw[FM,KL h]
structure VW (is:List Item):Prop where
 sI:aM (au is).I
 sR:aM (au is).R
 sN:aM (au is).N
 Z9:(au is).N.length=is.length
 aad:∀ k,has (au is).N k=true ↔ k∈is.map Item.name
 Bt:∀ k d,get (au is).I k=some d ↔ ∃ t ve st,Item.ins t k ve st∈is∧d=⟨t,k,ve,st,1⟩
 Qg:∀ k,has (au is).R k=true ↔ Item.rem k∈is
theorem FC {α:Type} {E:VM α} (h:aM E) (k:S) (v:α) (n:S):has (put E k v) n=true ↔ n=k∨has E n=true:=by
 rw[z8 h];exact or_comm
theorem iB:∀ (is:List Item),(is.map Item.name).Nodup→VW is:=by
 refine Ua (fun _ => ?_) (fun l i ih hn => ?_)
 · refine ⟨List.Pairwise.nil,List.Pairwise.nil,List.Pairwise.nil,rfl,fun k => ?_,fun k d => ?_,fun k => ?_⟩
   · simp[au,has]
   · simp[au,get]
   · simp[au,has]
 · rw[List.map_append,List.nodup_append] at hn
   obtain ⟨n1, -,n3⟩:=hn
   have h:=ih n1
   have hni:i.name ∉ l.map Item.name:=fun q=>n3 _ q _ (by simp) rfl
   have hN:has (au l).N i.name=false:=by
     cases e:has (au l).N i.name with
     | false=>rfl
     | true=>exact absurd ((h.aad _).1 e) hni
   cases i with
   | inl nm=>
     have e:au (l++[.rem nm])=⟨put (au l).R nm dB,(au l).I,put (au l).N nm dB⟩:=yN l _
     rw[← List.append_eq] at *
     constructor
     · rw[show au (l.append [.rem nm])=_ from e];exact h.sI
     · rw[show au (l.append [.rem nm])=_ from e];exact h.sR.put _ _
     · rw[show au (l.append [.rem nm])=_ from e];exact h.sN.put _ _
     · rw[show au (l.append [.rem nm])=_ from e]
       show (put (au l).N nm dB).length=_
       rw[show (put (au l).N nm dB).length=(au l).N.length+1 from zf dB hN,h.Z9];simp
     · intro k
       rw[show au (l.append [.rem nm])=_ from e]
       show has (put (au l).N nm dB) k=true ↔ _
       rw[FC h.sN,h.aad]
       simp[Item.name,or_comm]
     · intro k d
       rw[show au (l.append [.rem nm])=_ from e]
       show get (au l).I k=some d ↔ _
       rw[h.Bt]
       simp
     · intro k
       rw[show au (l.append [.rem nm])=_ from e]
       show has (put (au l).R nm dB) k=true ↔ _
       rw[FC h.sR,h.Qg]
       simp[or_comm]
   | inr it=>
     obtain ⟨t,nm,ve,st⟩:=it
     have e:au (l++[.ins t nm ve st])=⟨(au l).R,put (au l).I nm ⟨t,nm,ve,st,1⟩,put (au l).N nm dB⟩:=yN l _
     rw[← List.append_eq] at *
     constructor
     · rw[show au (l.append [.ins t nm ve st])=_ from e];exact h.sI.put _ _
     · rw[show au (l.append [.ins t nm ve st])=_ from e];exact h.sR
     · rw[show au (l.append [.ins t nm ve st])=_ from e];exact h.sN.put _ _
     · rw[show au (l.append [.ins t nm ve st])=_ from e]
       show (put (au l).N nm dB).length=_
       rw[show (put (au l).N nm dB).length=(au l).N.length+1 from zf dB hN,h.Z9];simp
     · intro k
       rw[show au (l.append [.ins t nm ve st])=_ from e]
       show has (put (au l).N nm dB) k=true ↔ _
       rw[FC h.sN,h.aad]
       simp[Item.name,or_comm]
     · intro k d
       rw[show au (l.append [.ins t nm ve st])=_ from e]
       show get (put (au l).I nm ⟨t,nm,ve,st,1⟩) k=some d ↔ _
       by_cases q:k=nm
       · subst q
         rw[aD h.sI]
         constructor
         · intro x;cases x;exact ⟨t,ve,st,by simp,rfl⟩
         · rintro ⟨t',ve',st',m,rfl⟩
           simp only[List.append_eq,List.mem_append,List.mem_singleton] at m
           rcases m with m | m
           · exact absurd (List.mem_map.2 ⟨_,m,rfl⟩) hni
           · cases m;rfl
       · rw[av h.sI _ q,h.Bt]
         constructor
         · rintro ⟨t',ve',st',m,rfl⟩;exact ⟨t',ve',st',by simp[m],rfl⟩
         · rintro ⟨t',ve',st',m,rfl⟩
           simp only[List.append_eq,List.mem_append,List.mem_singleton] at m
           rcases m with m | m
           · exact ⟨t',ve',st',m,rfl⟩
           · cases m;exact absurd rfl q
     · intro k
       rw[show au (l.append [.ins t nm ve st])=_ from e]
       show has (au l).R k=true ↔ _
       rw[h.Qg]
       simp
theorem uR {xs:List S} {is:List Item} (h:xs.map fQ=is.map some) (hn:(is.map Item.name).Nodup) (h1:1≤xs.length) (h6:xs.length≤6):wish xs = .ok (au is):=by
 have hl:xs.length=is.length:=by have:=congrArg List.length h;simpa using this
 unfold wish
 rw[if_neg (by omega),zu is xs _ h]
 show (if (au is).N.length<xs.length then _ else _)=_
 rw[if_neg (by rw[(iB is hn).Z9];omega)]
 rfl
theorem pG {D:VM PD} (sD:aM D) {is:List Item} (hn:(is.map Item.name).Nodup) (k:S) (d:PD):get (aR D (au is).R (au is).I) k=some d ↔ (∃ t ve st,Item.ins t k ve st∈is∧d=⟨t,k,ve,st,1⟩)∨(get D k=some d∧k ∉ is.map Item.name):=by
 have h:=iB is hn
 rw[EL sD h.sI]
 cases q:get (au is).I k with
 | some e =>
   obtain ⟨t,ve,st,m,rfl⟩:=(h.Bt k e).1 q
   constructor
   · intro x;cases x;exact .inl ⟨t,ve,st,m,rfl⟩
   · rintro (⟨t',ve',st',m',rfl⟩ | ⟨-,x⟩)
     · have:=(h.Bt k ⟨t',k,ve',st',1⟩).2 ⟨t',ve',st',m',rfl⟩
       rw[q] at this;exact this
     · exact absurd (List.mem_map.2 ⟨_,m,rfl⟩) x
 | none =>
   simp only[Option.orElse_none]
   have hno:∀ t ve st,Item.ins t k ve st ∉ is:=fun t ve st m=>by
     have:=(h.Bt k ⟨t,k,ve,st,1⟩).2 ⟨t,ve,st,m,rfl⟩
     rw[q] at this;cases this
   have hnm:has (au is).R k=true ↔ k∈is.map Item.name:=by
     rw[h.Qg]
     constructor
     · intro m;exact List.mem_map.2 ⟨_,m,rfl⟩
     · intro m
       obtain ⟨i,hi,e⟩:=List.mem_map.1 m
       cases i with
       | inl nm=>have e':nm=k:=e;subst e';exact hi
       | inr it=>obtain ⟨t,nm,ve,st⟩:=it;have e':nm=k:=e;subst e';exact absurd hi (hno t ve st)
   by_cases r:has (au is).R k=true
   · rw[if_pos r]
     constructor
     · intro x;cases x
     · rintro (⟨t',ve',st',m',rfl⟩ | ⟨-,x⟩)
       · exact absurd m' (hno _ _ _)
       · exact absurd (hnm.1 r) x
   · rw[if_neg r]
     constructor
     · intro x;exact .inr ⟨x,fun m=>r (hnm.2 m)⟩
     · rintro (⟨t',ve',st',m',rfl⟩ | ⟨x, -⟩)
       · exact absurd m' (hno _ _ _)
       · exact x
end Hv
end
end Go.Proofs.YtialenebfcnkkaaGreatDoor
