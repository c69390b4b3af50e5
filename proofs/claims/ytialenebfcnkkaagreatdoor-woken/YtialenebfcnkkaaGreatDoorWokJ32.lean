/- KeepW2, HavW6, WokW1, WokW3 -/
import Derived.Test.YtialenebfcnkkaaGreatDoorWokJ7
import Derived.Test.YtialenebfcnkkaaGreatDoorWokJ26
import Derived.Test.YtialenebfcnkkaaGreatDoorWokJ30
import Derived.Test.YtialenebfcnkkaaGreatDoorWokJ31
import Derived.Laws.BitsAllLaws
set_option maxHeartbeats 4000000
set_option maxRecDepth 100000
namespace Go.Proofs.YtialenebfcnkkaaGreatDoor
section
open Go.RowKit
open Hv (S Dk VM)
def zeroS:S:=List.replicate 256 0
structure BkIn (B:Nat) (k:Nat) (no mo:Option Addr) (nc mc:Nat) (w wr:World):Prop where
 blk:wr.heap[B]? = some (.cells #[.slice no k nc, .slice mo k mc, .int .i64 0, .int .i64 (-1), .bool false, .slice none 0 0, .int .i64 0, .slice none 0 0, .int .i64 0] 46 (0,0))
 now:wr.ownsRow (B+1) 9 1 (.slice no k nc) k (List.replicate k (strV zeroS))
 may:wr.ownsRow (B+1) 28 1 (.slice mo k mc) k (List.replicate k (.slice none 0 0))
 bel:Below B w wr
 size:B+1≤wr.heap.size
theorem rep_snoc {α:Type} (k:Nat) (x:α):List.replicate (k+1) x=List.replicate k x++[x]:=List.replicate_succ'
theorem BkIn.putN {B k:Nat} {no mo no':Option Addr} {nc mc nc':Nat} {w wr w4:World} {o:Obj} (h:BkIn B k no mo nc mc w wr) (hg:(wr.alloc o).grownBy w4 (Value.slice no k nc).ownBlock) (hown:w4.ownsRow (B+1) 9 1 (.slice no' (k+1) nc') (k+1) (List.replicate k (strV zeroS)++[strV zeroS])) :
   (w4.setCell ⟨B,0,none⟩ (.slice no' (k+1) nc')).heap[B]? = some (.cells #[.slice no' (k+1) nc', .slice mo k mc, .int .i64 0, .int .i64 (-1), .bool false, .slice none 0 0, .int .i64 0, .slice none 0 0, .int .i64 0] 46 (0,0))∧(w4.setCell ⟨B,0,none⟩ (.slice no' (k+1) nc')).ownsRow (B+1) 9 1 (.slice no' (k+1) nc') (k+1) (List.replicate (k+1) (strV zeroS))∧(w4.setCell ⟨B,0,none⟩ (.slice no' (k+1) nc')).ownsRow (B+1) 28 1 (.slice mo k mc) k (List.replicate k (.slice none 0 0))∧Below B w (w4.setCell ⟨B,0,none⟩ (.slice no' (k+1) nc'))∧B+1≤(w4.setCell ⟨B,0,none⟩ (.slice no' (k+1) nc')).heap.size:=by
 have hs:=h.size
 have hk:∀ q,q<wr.heap.size→(Value.slice no k nc).ownBlock≠some q→w4.heap[q]? = wr.heap[q]? := fun q hq hne=>(hg.block q (by simp;omega) (fun e=>hne e.symm)).trans (Below.heap_alloc _ _ _ hq)
 have hlo:∀ q,q<B+1→(Value.slice no k nc).ownBlock≠some q:=fun q hq e=>by have:=(h.now.lt q e).1;omega
 have hsz:wr.heap.size≤w4.heap.size:=Nat.le_trans (by simp) hg.size
 refine ⟨heap_setCell_same _ _ 0 _ _ _ ((hk B (blt h.blk) (hlo _ (by omega))).trans h.blk),?_,?_,?_,by simp[World.setCell];omega⟩
 · rw[rep_snoc]
   exact own_away hown (fun e=>by have:=(hown.lt _ e).1;omega)
 · refine own_away (ownsRow_kept' h.may fun g hgb=>hk g (h.may.lt g hgb).2 (fun e=>own_apart h.now h.may (by decide) e hgb)) (fun e=>by have:=(h.may.lt _ e).1;omega)
 · refine Below.setCell (p:=⟨B,0,none⟩) ?_ (Nat.le_refl _) _
   exact (h.bel.alloc (by omega) o).grown hg (by simp;omega) (fun q hq=>by have:=(h.now.lt q hq).1;omega)
theorem BkIn.putM {B k j:Nat} {no mo mo':Option Addr} {nc mc mc':Nat} {w wr w4:World} {o:Obj}
   (hblk:wr.heap[B]? = some (.cells #[.slice no j nc, .slice mo k mc, .int .i64 0, .int .i64 (-1), .bool false, .slice none 0 0, .int .i64 0, .slice none 0 0, .int .i64 0] 46 (0,0)))
   (hnow:wr.ownsRow (B+1) 9 1 (.slice no j nc) j (List.replicate j (strV zeroS))) (hmay:wr.ownsRow (B+1) 28 1 (.slice mo k mc) k (List.replicate k (.slice none 0 0))) (hbel:Below B w wr) (hs:B+1≤wr.heap.size) (hj:j=k+1)
   (hg:(wr.alloc o).grownBy w4 (Value.slice mo k mc).ownBlock) (hown:w4.ownsRow (B+1) 28 1 (.slice mo' (k+1) mc') (k+1) (List.replicate k (.slice none 0 0)++[.slice none 0 0])) :
   BkIn B (k+1) no mo' nc mc' w (w4.setCell ⟨B,1,none⟩ (.slice mo' (k+1) mc')):=by
 subst hj
 have hk:∀ q,q<wr.heap.size→(Value.slice mo k mc).ownBlock≠some q→w4.heap[q]? = wr.heap[q]? := fun q hq hne=>(hg.block q (by simp;omega) (fun e=>hne e.symm)).trans (Below.heap_alloc _ _ _ hq)
 have hlo:∀ q,q<B+1→(Value.slice mo k mc).ownBlock≠some q:=fun q hq e=>by have:=(hmay.lt q e).1;omega
 have hsz:wr.heap.size≤w4.heap.size:=Nat.le_trans (by simp) hg.size
 refine ⟨heap_setCell_same _ _ 1 _ _ _ ((hk B (blt hblk) (hlo _ (by omega))).trans hblk),?_,?_,?_,by simp[World.setCell];omega⟩
 · refine own_away (ownsRow_kept' hnow fun g hgb=>hk g (hnow.lt g hgb).2 (fun e=>own_apart hmay hnow (by decide) e hgb)) (fun e=>by have:=(hnow.lt _ e).1;omega)
 · rw[rep_snoc]
   exact own_away hown (fun e=>by have:=(hown.lt _ e).1;omega)
 · refine Below.setCell (p:=⟨B,1,none⟩) ?_ (Nat.le_refl _) _
   exact (hbel.alloc (by omega) o).grown hg (by simp;omega) (fun q hq=>by have:=(hmay.lt q hq).1;omega)
theorem BkIn.disk {B n:Nat} {no mo:Option Addr} {nc mc:Nat} {w wr:World} (h:BkIn B n no mo nc mc w wr) (hn:0<n):DkAt (fun k=>B≤k∧k<wr.heap.size) B ⟨List.replicate n zeroS,List.replicate n [],0⟩ wr:=by
 obtain ⟨nb,c1,e1⟩:=own_form h.now (by omega)
 obtain ⟨mb,c2,e2⟩:=own_form h.may (by omega)
 have hnow:=h.now;have hmay:=h.may;have hblk:=h.blk
 rw[e1] at hnow hblk
 rw[e2] at hmay hblk
 have l1:=hnow.lt nb rfl
 have l2:=hmay.lt mb rfl
 have hne:nb≠mb:=fun e=>own_apart hnow hmay (by decide) (g:=nb) rfl (by rw[e];rfl)
 have hlen:(List.replicate n zeroS).length=n:=by simp
 refine ⟨nb,c1,mb,c2,0,0,List.replicate n (.slice none 0 0),⟨?_,?_,?_,by simp,fun i v hv => ?_,fun i j v u g _ hv _ hg => ?_,⟨⟨Nat.le_refl _,blt h.blk⟩,⟨by omega,l1.2⟩,⟨by omega,l2.2⟩,fun i v g hv hg => ?_⟩,⟨by omega,by omega,hne,fun i v g hv hg => ?_⟩,fun k hk=>hk.2,by show (0:Nat)<_;decide⟩⟩
 · show wr.heap[B]? = some (.cells (dkCells nb c1 mb c2 (List.replicate n zeroS).length 0 0 0) _ _)
   rw[hlen];exact hblk
 · show wr.ownsRow 0 _ 1 (.slice (some ⟨nb,0,none⟩) (List.replicate n zeroS).length c1) (List.replicate n zeroS).length (strs (List.replicate n zeroS))
   rw[hlen]
   have e:strs (List.replicate n zeroS)=List.replicate n (strV zeroS):=by simp[strs,strV]
   rw[e];exact own_base hnow (Nat.zero_le _)
 · show wr.ownsRow 0 _ 1 (.slice (some ⟨mb,0,none⟩) (List.replicate n zeroS).length c2) (List.replicate n zeroS).length _
   rw[hlen];exact own_base hmay (Nat.zero_le _)
 · have:v = .slice none 0 0:=by
     have:=List.mem_of_getElem? hv
     exact (List.mem_replicate.1 this).2
   subst this
   refine .inl ⟨?_,rfl⟩
   simp[List.getD,List.getElem?_replicate]
   split<;>rfl
 · have:v = .slice none 0 0:=(List.mem_replicate.1 (List.mem_of_getElem? hv)).2
   subst this;cases hg
 · have:v = .slice none 0 0:=(List.mem_replicate.1 (List.mem_of_getElem? hv)).2
   subst this;cases hg
 · have:v = .slice none 0 0:=(List.mem_replicate.1 (List.mem_of_getElem? hv)).2
   subst this;cases hg
theorem make256 (w:World):(Instr.makeSlice 47 (.int .i64 256) (.int .i64 256)).run Tryz.prog w = .ok (.slice (some ⟨w.heap.size,0,none⟩) 256 256) (w.alloc (.cells (Array.replicate 256 (.int .u8 0)) 5)):=by kernel_rfl
theorem zero_made (W:World):(convert 47 9 (.slice (some ⟨W.heap.size,0,none⟩) 256 256)).run Tryz.prog (W.alloc (.cells (Array.replicate 256 (.int .u8 0)) 5)) = .ok (.string ⟨zeroS.toArray⟩) (W.alloc (.cells (Array.replicate 256 (.int .u8 0)) 5)):=by
 have h:=run_convert_bytes_back (P:=Tryz.prog) (W.alloc (.cells (Array.replicate 256 (.int .u8 0)) 5)) 47 9 5 ⟨W.heap.size,0,none⟩ 256 zeroS Tryz.underlying47 Tryz.underlying5 Tryz.underlying9 ?_
 · exact h
 intro j hj
 have hadd:(⟨W.heap.size,0,none⟩:Addr).add j=⟨W.heap.size,j,none⟩:=by unfold Addr.add;split<;>simp_all
 have hj':j<256:=by simpa [zeroS] using hj
 have hz:∀ h,(zeroS[j]'h)=0:=fun h=>by simp only[zeroS,List.getElem_replicate]
 rw[hadd,row_cell (heap_alloc_new W _),Array.getElem?_replicate,if_pos hj']
 exact congrArg (fun c:UInt8=>some (Value.int .u8 (c.toNat:Int))) (hz hj).symm
theorem info_rows:(Tryz.prog.info? 28).map (fun i=>(i.zero,i.size,i.bytes))=some (some (.slice none 0 0),1,24):=by kernel_rfl
theorem blank_any (n:Nat) (hn:0<n) (hn2:n≤4096) (w:World) :
   Calls Tryz.prog 5 #[.int .i64 n] w fun e w'=>e = .returned (.pointer (some ⟨w.heap.size,0,none⟩))∧DkAt (fun k=>w.heap.size≤k∧k<w'.heap.size) w.heap.size ⟨List.replicate n zeroS,List.replicate n [],0⟩ w'∧Below w.heap.size w w':=by
 obtain ⟨i0,hi,hz0,hz1,hz2⟩:=info_three info_str
 obtain ⟨j0,ji,jz0,jz1,jz2⟩:=info_three info_rows
 have hmk:=make256
 have hzm:=zero_made (w.alloc (.cells #[.slice none 0 0, .slice none 0 0, .int .i64 0, .int .i64 (-1), .bool false, .slice none 0 0, .int .i64 0, .slice none 0 0, .int .i64 0] 46))
 rw[show (w.alloc (.cells #[.slice none 0 0, .slice none 0 0, .int .i64 0, .int .i64 (-1), .bool false, .slice none 0 0, .int .i64 0, .slice none 0 0, .int .i64 0] 46)).heap.size=w.heap.size+1 by simp] at hzm
 go_enter Tryz.func5,Tryz.ntmps5
 go_wp2_with fail
 have hrow:=heap_alloc_new w (.cells #[.slice none 0 0, .slice none 0 0, .int .i64 0, .int .i64 (-1), .bool false, .slice none 0 0, .int .i64 0, .slice none 0 0, .int .i64 0] 46)
 have hb1:=((Below.refl w.heap.size w).alloc (Nat.le_refl _) (.cells #[.slice none 0 0, .slice none 0 0, .int .i64 0, .int .i64 (-1), .bool false, .slice none 0 0, .int .i64 0, .slice none 0 0, .int .i64 0] 46)).alloc (by simp) (.cells (Array.replicate 256 (.int .u8 0)) 5)
 have hrow2:=(Below.heap_alloc (w.alloc (.cells #[.slice none 0 0, .slice none 0 0, .int .i64 0, .int .i64 (-1), .bool false, .slice none 0 0, .int .i64 0, .slice none 0 0, .int .i64 0] 46)) (.cells (Array.replicate 256 (.int .u8 0)) 5) w.heap.size (by simp)).trans hrow
 have HI0:Hid (BkIn w.heap.size 0 none none 0 0 w ((w.alloc (.cells #[.slice none 0 0, .slice none 0 0, .int .i64 0, .int .i64 (-1), .bool false, .slice none 0 0, .int .i64 0, .slice none 0 0, .int .i64 0] 46)).alloc (.cells (Array.replicate 256 (.int .u8 0)) 5))):=hide ⟨hrow2,World.ownsRow_nil _ _ _ _,World.ownsRow_nil _ _ _ _,hb1,by simp⟩
 obtain ⟨u,hu⟩:∃ u,((w.alloc (.cells #[.slice none 0 0, .slice none 0 0, .int .i64 0, .int .i64 (-1), .bool false, .slice none 0 0, .int .i64 0, .slice none 0 0, .int .i64 0] 46)).alloc (.cells (Array.replicate 256 (.int .u8 0)) 5))=u:=⟨_,rfl⟩
 obtain ⟨B,hB⟩:∃ B,w.heap.size=B:=⟨_,rfl⟩
 have HBE:=hide hB
 rw[hu] at HI0 ⊢
 rw[hB] at HI0 ⊢
 clear hu hrow hb1 hrow2 hmk hzm hB
 obtain ⟨zs,hzs⟩:∃ zs:S,zeroS=zs:=⟨_,rfl⟩
 have HZ:=hide hzs
 rw[hzs]
 clear hzs
 go_loopw [5] (fun i wr=>∃ (k:Nat) (no mo:Option Addr) (nc mc:Nat),k≤n∧i = .int .i64 (k:Int)∧Hid (BkIn B k no mo nc mc w wr)) (fun i _=>n-(intOf i).toNat)
 case atStart=>exact ⟨0,none,none,0,0,Nat.zero_le _,rfl,HI0⟩
 case round =>
   clear HI0
   obtain ⟨k,no,mo,nc,mc,hk,rfl,HI⟩:=hrel
   by_cases hlt:k<n
   · have b1:(k:Int)<(n:Int):=by omega
     have c0:=(row_cell HI.out.blk 0).trans (show _=some (.slice no k nc) from rfl)
     have c1:=(row_cell HI.out.blk 1).trans (show _=some (.slice mo k mc) from rfl)
     have f0:=row_free HI.out.blk 0
     have f1:=row_free HI.out.blk 1
     have hBw:=HI.out.size
     have hne : ¬ B=wr.heap.size:=by omega
     obtain ⟨ys,hys⟩:∃ ys,List.replicate k (strV zeroS)=ys:=⟨_,rfl⟩
     obtain ⟨zy,hzy⟩:∃ zy,List.replicate k (Value.slice none 0 0)=zy:=⟨_,rfl⟩
     have HYS:=hide hys;have HZY:=hide hzy
     have HO:=hide ((show wr.ownsRow (B+1) 9 1 (.slice no k nc) k ys by rw[← hys];exact HI.out.now).alloc (.cells #[.string ⟨zs.toArray⟩] 9))
     have HRB:=hide HI.out.blk
     have HLB:=hide (fun q (e:(Value.slice no k nc).ownBlock=some q)=>(HI.out.now.lt q e).1)
     clear hys hzy
     go_wp2_with (first
       | (at_builtin;refine wpList_append_own_at _ rfl _ _ 28 rfl (B+1) 9 i0 (.string ByteArray.empty) 1 16 Tryz.underlying28 hi hz0 hz1 hz2 rfl (by decide) _ _ _ rfl HO.out ⟨wr.heap.size,0,none⟩ 1 1 [_] rfl rfl (cell_one_new _ _ _) (fun x hx=>by simp at hx;subst hx;rfl) (by unfold maxLen;omega) (by omega) (by simp;omega) ?_;intro v' w4 hown' hgrow4 hnil4 hat4;obtain ⟨gv,cv,rfl⟩:=own_form hown' (by omega);have hP:=HI.out.putN hgrow4 (by rw[HYS.out,HZ.out];exact hown');have HP:=hide hP;have hk4:=(hgrow4.block B (by simp;omega) (fun e=>by have:=HLB.out B e.symm;omega)).trans ((Below.heap_alloc _ _ _ (by show B<wr.heap.size;omega)).trans HRB.out);have q5:=(row_cell hk4 0).trans (show _=some (.slice no k nc) from rfl);have g5:=row_free hk4 0;have g6:=row_free hk4 1;have p1:=(row_cell hP.1 1).trans (show _=some (.slice mo k mc) from rfl);have hs4:=hP.2.2.2.2;have hs4':B+1≤w4.heap.size:=(by have h:=hP.2.2.2.2;simpa using h);clear hP hown' hgrow4 hnil4 hat4)
       | (at_builtin;refine wpList_append_own_at _ rfl _ _ 43 rfl (B+1) 28 j0 (.slice none 0 0) 1 24 Tryz.underlying43 ji jz0 jz1 jz2 rfl (by decide) _ _ _ rfl ((show (w4.setCell ⟨B,0,none⟩ (.slice (some ⟨gv,0,none⟩) (k+1) cv)).ownsRow (B+1) 28 1 (.slice mo k mc) k zy by rw[← HZY.out];exact HP.out.2.2.1).alloc _) ⟨w4.heap.size,0,none⟩ 1 1 [.slice none 0 0] rfl rfl (by have h:=cell_one_new (w4.setCell ⟨B,0,none⟩ (.slice (some ⟨gv,0,none⟩) (k+1) cv)) (.slice none 0 0) 28;rw[show (w4.setCell ⟨B,0,none⟩ (.slice (some ⟨gv,0,none⟩) (k+1) cv)).heap.size=w4.heap.size by simp] at h;exact h) (fun x hx=>by simp at hx;subst hx;rfl) (by unfold maxLen;omega) (by omega) (by simp;omega) ?_;intro v' w8 hown' hgrow8 hnil8 hat8;obtain ⟨gm,cm,rfl⟩:=own_form hown' (by omega);have HM:=hide (BkIn.putM HP.out.1 HP.out.2.1 HP.out.2.2.1 HP.out.2.2.2.1 HP.out.2.2.2.2 rfl hgrow8 (by rw[HZY.out];exact hown'));have hk8:=(hgrow8.block B (by simp;omega) (fun e=>by have:=(HP.out.2.2.1.lt B e.symm).1;omega)).trans ((Below.heap_alloc _ _ _ (by simp;omega)).trans HP.out.1);have q8:=(row_cell hk8 1).trans (show _=some (.slice mo k mc) from rfl);have g8:=row_free hk8 1;clear hk8 hown' hgrow8 hnil8 hat8))
     go_roundw
     case rel=>exact ⟨k+1,_,_,cv,cm,by omega,by go_num,HM⟩
     case measure=>simp[intOf];omega
   · obtain rfl:k=n:=by omega
     have b1 : ¬ (k:Int)<(k:Int):=by omega
     go_wp2_with fail
     go_ret
     rw[HBE.out]
     exact ⟨rfl,HI.out.disk hn,HI.out.bel⟩
end
section
open Go.RowKit
open Arc (St Cmd)
open Hv (S Dk VM Mild)
def blankD:Dk:=⟨List.replicate 300 zeroS,List.replicate 300 [],0⟩
theorem mild_nil:Mild [] []:=⟨DFine.nil,by simp,by simp,fun k x q=>(by cases q),fun k x q=>(by cases q)⟩
theorem host_run {C:Nat→Prop} {hb eb sb mb pm fm db:Nat} {d:Dk} {w:World} (hH:HostAt C hb eb sb mb pm fm db 300 0 0 0 (short kTab []) d [] [] w) (hbs:Base w) (hC:∀ k,C k→12≤k) (g0:12≤hb) (g1:12≤eb) (g2:12≤sb) (g4:12≤pm) (g5:12≤fm) (hd:DRest 300 1000000 0 0 (short kTab []) d):RunS (fun k=>(EFoot C eb sb pm fm k∨k=hb)∨k=mb∨False) 1000000 hb [] [] w:=by
 obtain ⟨h1,he,o1,o2,o3,o4,o5,o6⟩:=hH
 have hE:EngS C (fun _=>False) eb sb mb pm fm db 300 0 0 0 (short kTab []) d [] [] [] (.slice none 0 0) (.map none) (.map none) 0 w :=
   ⟨he.eng,he.st,he.mach,⟨List.Pairwise.nil,fun k v q=>(by cases q),fun k v q=>(by cases q)⟩,he.dk,he.off,he.apart,fun g hg=>hg.elim,hbs,g1,g2,g4,g5,hC⟩
 have hS:HostS C (fun _=>False) hb eb sb mb pm fm db 300 0 0 0 (short kTab []) d [] [] [] w:=⟨h1,hE,⟨o1,fun q=>q,o2,o3,o4,o5,o6⟩,g0⟩
 exact ⟨C,fun _=>False,eb,sb,mb,pm,fm,db,0,0,0,_,d,[],hS,hd,fun k hk=>hk,foot_lt hS⟩
theorem blank_sec:blankD.now[0]? = some (List.replicate 256 0):=by
 unfold blankD
 simp only
 rw[List.getElem?_replicate,if_pos (by omega)]
 rfl
theorem blank_len:blankD.now.length=300:=by unfold blankD;simp only;rw[List.length_replicate]
theorem fresh_len:(swD blankD.flush 0 0 0 (short kTab [])).now.length=300:=by rw[swD_len,flush_len];exact blank_len
theorem fresh_sec:(swD blankD.flush 0 0 0 (short kTab [])).now[0]? = some (padS (rootS 0 0 0 (short kTab []))):=by
 show ((blankD.flush.now.set 0 _))[0]? = _
 rw[List.getElem?_set_self (by rw[flush_len,blank_len];omega)]
theorem fresh_rest:DRest 300 1000000 0 0 (short kTab []) (swD blankD.flush 0 0 0 (short kTab [])).flush :=
 ⟨fresh_len,fun i=>flush_may _ i,by show blankD.wr+1≤1000000;decide,by omega,by omega,short_len _⟩
theorem cmp_two:Ver.compare [50] [49,48]=(-1,0):=by decide
theorem told_one {w:World} {B:Nat} {v:Value} {p:S × Hv.PD} (h:w.ownsRow B 41 3 v 1 ([p].flatMap pkgV)):∃ g c,v = .slice (some ⟨g,0,none⟩) 1 c∧B≤g∧g<w.heap.size∧w.cell? ⟨g,0,none⟩=some (strV p.1)∧w.cell? ⟨g,2,none⟩=some (.int .i64 p.2.status):=by
 obtain ⟨g,cap,rfl⟩:=own_form h (by omega)
 obtain ⟨l1,l2⟩:=h.lt g rfl
 exact ⟨g,cap,rfl,l1,l2,by rw[h.cellAt _ (by omega)];rfl,by rw[h.cellAt _ (by omega)];rfl⟩
theorem reads_one {w:World} (x:S) (t:Nat):Reads (w.alloc (.cells #[.string ⟨x.toArray⟩] t)) (.slice (some ⟨w.heap.size,0,none⟩) 1 1) [x]:=by
 refine .inr ⟨w.heap.size,1,rfl,by simp,fun j y hj => ?_⟩
 have hj0:j=0:=by have:=(List.getElem?_eq_some_iff.1 hj).1;simpa using this
 subst hj0
 have e:x=y:=by simpa using hj
 subst e
 exact (row_cell (heap_alloc_new w _) 0).trans rfl
theorem arc_z:arcS [122] 1 [] []=43::Hv.madeT 122 49 [] false:=arc_made 25 (.inl rfl) [] false
def zPD:Hv.PD:=⟨Hv.madeT 122 49 [] false,[122],[49],Hv.madeSt 122 [] false,2⟩
theorem ltr_z:Hv.Ltr 122:=by unfold Hv.Ltr;decide
theorem z_len:(43::Hv.madeT 122 49 [] false).length≤100:=by
 have:=Hv.madeT_len 122 49 [] false
 rw[List.length_nil] at this
 rw[List.length_cons]
 omega
theorem z_in:∃ pl,Hv.check 300 [] [] [43::Hv.madeT 122 49 [] false] = .ok pl∧0<pl.steps.length∧(∀ s,Hv.wish [43::Hv.madeT 122 49 [] false] = .ok s→∀ k d,Hv.get s.I k=some d→NoCopy d.st.runs∧NoCopy d.st.wokens)∧Hv.runS pl (Hv.wokeW [] pl.wak,[]) pl.steps=([([122],zPD)],[]) :=
 Hv.one_in (Hv.item_made 122 49 ltr_z (.inl rfl) [] (fun n hn=>(by cases hn)) (by simp) false) rfl rfl rfl (.inr rfl) (.inl rfl) (fun c hc=>(by cases hc)) (by have:=z_len;omega)
theorem z_mild:Mild [([122],zPD)] []:=by
 have hs:Hv.Srt ([([122],zPD)]:VM Hv.PD):=by simp[Hv.Srt]
 refine ⟨⟨fun k d q => ?_, .inr fun k d q => ?_⟩,by simp,by simp,fun k x q=>(by cases q),fun k x q=>(by cases q)⟩
 · have:=(Hv.get_some hs).1 q
   simp only[List.mem_singleton,Prod.mk.injEq] at this
   obtain ⟨rfl,rfl⟩:=this
   exact ⟨rfl,Hv.parse_made 122 49 ltr_z (.inl rfl) [] (fun n hn=>(by cases hn)) (by simp) false⟩
 · have:=(Hv.get_some hs).1 q
   simp only[List.mem_singleton,Prod.mk.injEq] at this
   obtain ⟨rfl,rfl⟩:=this
   exact ⟨fun c hc=>(by cases hc),fun c hc=>(by cases hc)⟩
theorem z_out:∃ pl,Hv.check 300 [([122],zPD)] [] [[45,122]] = .ok pl∧0<pl.steps.length∧Hv.runS pl (Hv.wokeW [([122],zPD)] pl.wak,[]) pl.steps=([],[]) :=
 Hv.one_out ltr_z zPD rfl (by have:=z_len;rw[List.length_cons] at this;show (Hv.madeT 122 49 [] false).length≤1000;omega)
theorem rem_nocopy {c:UInt8} (hc:Hv.Ltr c):∀ s,Hv.wish [[45,c]] = .ok s→∀ k d,Hv.get s.I k=some d→NoCopy d.st.runs∧NoCopy d.st.wokens:=fun s hs k d q=>by
 rw[Hv.rem_wish hc] at hs
 cases hs
 cases q
theorem fresh_any {C:Nat→Prop} (db:Nat) (x y:Addr) (w:World) (hd:DkAt C db blankD w) (hbs:Base w) (hE:Errs x y w) (hA:Away x y C) :
   Calls Tryz.prog 6 #[.pointer (some ⟨db,0,none⟩)] w fun e w'=>∃ hb F,e = .returned (.pointer (some ⟨hb,0,none⟩))∧RunS F 7000000 hb [] [] w'∧Far w.heap.size C w w'∧∀ k,F k→C k∨w.heap.size≤k:=by
 have HD:=hide hd;have HBs:=hide hbs;have HE:=hide hE;have HA:=hide hA
 have HCG:=hide (show ∀ k,C k→12≤k from fun k hk=>(hA k hk).1)
 have HG:=hide hbs.size
 have l64:64≤blankD.now.length:=by rw[blank_len];omega
 have l4096:blankD.now.length≤4096:=by rw[blank_len];omega
 have HL:=hide (And.intro l64 l4096)
 clear hd hbs hE hA l64 l4096
 go_enter Tryz.func6,Tryz.ntmps6
 go_wp2_with fail
 refine (mount_blank db x y HL.out.1 HL.out.2 blank_sec w HD.out HBs.out HE.out HA.out).mono ?_
 rintro e w1 ⟨rfl,hd1,hf1⟩
 have HD1:=hide hd1;have HF1:=hide hf1
 have HBs1:=hide (HBs.out.far hf1 HG.out HCG.out)
 clear hd1 hf1
 go_wp2_with fail
 refine (format_any (d:=blankD.flush) (by rw[flush_len];exact HL.out.1) (by rw[flush_len];exact HL.out.2) (flush_may _) (by show blankD.wr+1<_;decide) w1 HD1.out HBs1.out HCG.out).mono ?_
 rintro e w2 ⟨rfl,C2,hd2,hf2,hc2⟩
 have hs1:=HF1.out.size
 have HD2:=hide hd2;have HC2:=hide (show ∀ k,C2 k→C k∨w.heap.size≤k from fun k q=>(hc2 k q).imp id (fun q=>by omega))
 have HF2:=hide (HF1.out.next hf2 hs1 (fun _ _ q=>q))
 have HBs2:=hide (HBs1.out.far hf2 HBs1.out.size HCG.out)
 have HCG2:=hide (show ∀ k,C2 k→12≤k from fun k q=>by
   rcases HC2.out k q with q | q
   · exact HCG.out k q
   · have:=HG.out;omega)
 clear hd2 hf2 hc2
 go_wp2_with fail
 refine (mount_fresh (d:=swD blankD.flush 0 0 0 (short kTab [])) db (by rw[fresh_len];omega) (by rw[fresh_len];omega) fresh_sec w2 HD2.out HBs2.out HCG2.out).mono ?_
 rintro e w3 ⟨hb,eb,sb,mb,pm,fm,rfl,hH,g0,g1,g2,g3,g4,g5,hf3⟩
 rw[fresh_len] at hH
 have hs2:=HF2.out.size
 have HBs3:=hide (HBs2.out.far hf3 HBs2.out.size HCG2.out)
 have hG2:=HBs2.out.size
 have HR3:=hide (host_run hH HBs3.out HCG2.out (by omega) (by omega) (by omega) (by omega) (by omega) fresh_rest)
 have HF3:=hide (HF2.out.next hf3 hs2 (fun k hk q=>by
   rcases HC2.out k q with q | q
   · exact q
   · omega))
 have HK3:=hide (show ∀ k,((EFoot C2 eb sb pm fm k∨k=hb)∨k=mb∨False)→C k∨w.heap.size≤k from fun k q=>by
   rcases q with ((q | q | q | q | q) | q) | q | q
   · exact HC2.out k q
   all_goals first | exact q.elim | (refine .inr ?_;omega))
 obtain ⟨F0,hF0⟩:∃ F0,(fun k=>(EFoot C2 eb sb pm fm k∨k=hb)∨k=mb∨False)=F0:=⟨_,rfl⟩
 have HR3':Hid (RunS F0 1000000 hb [] [] w3):=hide (by rw[← hF0];exact HR3.out)
 have HK3':Hid (∀ k,F0 k→C k∨w.heap.size≤k):=hide (by rw[← hF0];exact HK3.out)
 clear hH g0 g1 g2 g3 g4 g5 hf3 hF0 HR3 HK3 HD1 HD2 hG2
 go_wp2_with fail
 have hcmp:=compare_any [50] [49,48] w3
 rw[cmp_two] at hcmp
 refine hcmp.mono ?_
 clear hcmp
 rintro e w4 ⟨rfl,hb4⟩
 have HR4:=hide (HR3'.out.below hb4)
 have HF4:=hide (HF3.out.below hb4 HF3.out.size)
 clear hb4 HR3'
 go_wp2_with fail
 refine (archive_any [122] [] [] 1 (by omega) (by simp) (by simp) (by simp) w4).mono ?_
 rintro e w5 ⟨rfl,hb5⟩
 rw[arc_z]
 have HR5:=hide (HR4.out.below hb5)
 have HF5:=hide (HF4.out.below hb5 HF4.out.size)
 obtain ⟨zt,hzt⟩:∃ zt,43::Hv.madeT 122 49 [] false=zt:=⟨_,rfl⟩
 have HZT:=hide hzt
 rw[hzt]
 clear hb5 hzt HR4
 go_wp2_with fail
 have hs5:=HF5.out.size
 have hb6:=(Below.refl w5.heap.size w5).alloc (Nat.le_refl _) (.cells #[.string ⟨zt.toArray⟩] 9)
 have HR6:=hide (HR5.out.below hb6)
 have HF6:=hide (HF5.out.below hb6 hs5)
 have HV6:=hide (reads_one (w:=w5) zt 9)
 have hlt5:=HR5.out.lt
 have HVA:=hide (show ∀ g,(Value.slice (some ⟨w5.heap.size,0,none⟩) 1 1).ownBlock=some g → ¬ F0 g from fun g hg q=>by
   have e:w5.heap.size=g:=Option.some.inj hg
   have:=hlt5 g q
   omega)
 obtain ⟨u5,hu5⟩:∃ u,w5.alloc (.cells #[.string ⟨zt.toArray⟩] 9)=u:=⟨_,rfl⟩
 rw[hu5] at HR6 HF6 HV6 ⊢
 obtain ⟨n5,hn5⟩:∃ n,w5.heap.size=n:=⟨_,rfl⟩
 rw[hn5] at HV6 HVA ⊢
 obtain ⟨pl1,k1,k2,k3,k4⟩:=z_in
 rw[HZT.out] at k1 k3
 have hzl:∀ q∈[zt],q.length≤100000:=fun q hq=>by
   have e:q=zt:=by simpa using hq
   have:=z_len
   rw[HZT.out] at this
   rw[e];omega
 have HBG:=hide (run_begin_ok _ [zt] pl1 [([122],zPD)] [] k1 k2 k4 hzl mild_nil k3 (by omega) u5 HR6.out HV6.out HVA.out)
 clear hzl k1 k2 k3 k4 hb6 hlt5 hu5 hn5 HR5 hs5
 refine HBG.out.mono ?_
 rintro e w6 ⟨F1,rfl,q1,q2,q3⟩
 have HR7:=hide q1
 have HK7:=hide (show ∀ k,F1 k→C k∨w.heap.size≤k from fun k q=>by
   rcases q3 k q with q | q
   · exact HK3'.out k q
   · have:=HF6.out.size;exact .inr (by omega))
 have HF7:=hide (HF6.out.next q2 HF6.out.size (fun k hk q=>by
   rcases HK3'.out k q with q | q
   · exact q
   · omega))
 clear q1 q2 q3 HBG HR6 HV6 HVA
 go_wp2_with fail
 refine (run_packs z_mild w6 HR7.out).mono ?_
 rintro e w7 ⟨v,rfl,q0,q1,q2⟩
 obtain ⟨g1,gc,rfl,gl,gh,gx,gy⟩:=told_one q0
 have HR8:=hide q1
 have HF8:=hide (HF7.out.next q2 HF7.out.size (fun k hk q=>by
   rcases HK7.out k q with q | q
   · exact q
   · omega))
 have HGX:=hide (And.intro gx gy)
 have hg1 : ¬ F1 g1:=fun q=>by have:=HR7.out.lt g1 q;omega
 clear q0 q1 q2 gx gy HR7
 go_wp2_with fail
 have hs7:=HF8.out.size
 have hb8:=(Below.refl w7.heap.size w7).alloc (Nat.le_refl _) (.cells #[.string ⟨#[45,122]⟩] 9)
 have HR9:=hide (HR8.out.below hb8)
 have HF9:=hide (HF8.out.below hb8 hs7)
 have HV9:Hid (Reads (w7.alloc (.cells #[.string ⟨#[45,122]⟩] 9)) (.slice (some ⟨w7.heap.size,0,none⟩) 1 1) [[45,122]]):=hide (reads_one (w:=w7) [45,122] 9)
 have HG9:=hide (show (w7.alloc (.cells #[.string ⟨#[45,122]⟩] 9)).cell? ⟨g1,0,none⟩=some (strV [122])∧(w7.alloc (.cells #[.string ⟨#[45,122]⟩] 9)).cell? ⟨g1,2,none⟩=some (.int .i64 2) from ⟨(alloc_cell gh _).trans HGX.out.1,(alloc_cell gh _).trans HGX.out.2⟩)
 have hlt7:=HR8.out.lt
 have HVA:=hide (show ∀ g,(Value.slice (some ⟨w7.heap.size,0,none⟩) 1 1).ownBlock=some g → ¬ F1 g from fun g hg q=>by
   have e:w7.heap.size=g:=Option.some.inj hg
   have:=hlt7 g q
   omega)
 have hu7s:(w7.alloc (.cells #[.string ⟨#[45,122]⟩] 9)).heap.size=w7.heap.size+1:=by simp
 obtain ⟨u7,hu7⟩:∃ u,w7.alloc (.cells #[.string ⟨#[45,122]⟩] 9)=u:=⟨_,rfl⟩
 rw[hu7] at HR9 HF9 HV9 HG9 hu7s ⊢
 obtain ⟨n7,hn7⟩:∃ n,w7.heap.size=n:=⟨_,rfl⟩
 rw[hn7] at HV9 HVA hu7s gh ⊢
 obtain ⟨pl2,k1,k2,k4⟩:=z_out
 have hzl:∀ q∈([[45,122]]:List S),q.length≤100000:=fun q hq=>by
   have e:q=[45,122]:=by simpa using hq
   rw[e];simp
 have HBG:=hide (run_begin_ok _ [[45,122]] pl2 [] [] k1 k2 k4 hzl z_mild (rem_nocopy ltr_z) (by omega) u7 HR9.out HV9.out HVA.out)
 clear hzl k1 k2 k4 hb8 hlt7 hu7 hn7 HR8 hs7 HGX
 refine HBG.out.mono ?_
 rintro e w8 ⟨F2,rfl,q1,q2,q3⟩
 have HR10:=hide q1
 have HK10:=hide (show ∀ k,F2 k→C k∨w.heap.size≤k from fun k q=>by
   rcases q3 k q with q | q
   · exact HK7.out k q
   · have:=HF9.out.size;exact .inr (by omega))
 have HF10:=hide (HF9.out.next q2 HF9.out.size (fun k hk q=>by
   rcases HK7.out k q with q | q
   · exact q
   · omega))
 have HG10:=hide (And.intro ((q2.cell (p:=⟨g1,0,none⟩) (by show g1<u7.heap.size;omega) hg1).trans HG9.out.1) ((q2.cell (p:=⟨g1,2,none⟩) (by show g1<u7.heap.size;omega) hg1).trans HG9.out.2))
 have hg2 : ¬ F2 g1:=fun q=>by
   rcases q3 g1 q with q | q
   · exact hg1 q
   · omega
 have hg8:g1<w8.heap.size:=by have:=q2.size;omega
 clear q1 q2 q3 HBG HR9 HV9 HVA HG9 hu7s
 go_wp2_with fail
 refine (run_packs mild_nil w8 HR10.out).mono ?_
 rintro e w9 ⟨v,rfl,q0,q1,q2⟩
 obtain ⟨va,vc,rfl⟩:=slice_form q0
 have HR11:=hide q1
 have HF11:=hide (HF10.out.next q2 HF10.out.size (fun k hk q=>by
   rcases HK10.out k q with q | q
   · exact q
   · omega))
 have p0:=(q2.cell (p:=⟨g1,0,none⟩) hg8 hg2).trans HG10.out.1
 have p2:=(q2.cell (p:=⟨g1,2,none⟩) hg8 hg2).trans HG10.out.2
 simp only[strV] at p0
 clear q0 q1 q2 HR10 HG10
 go_wp2_with fail
 go_ret
 refine ⟨hb,F2,rfl,?_,HF11.out,HK10.out⟩
 rw[show (7000000:Nat)=1000000+3000000+3000000 from rfl]
 exact HR11.out
end
section
open Go.RowKit
open Arc (St Cmd)
open Hv (S Dk VM Mild ShelfD CountG Ks itemAt nextV risePaths linesOf)
def arr6 (V:Nat→Nat):Array Value := #[.int .i64 (V 0), .int .i64 (V 1), .int .i64 (V 2), .int .i64 (V 3), .int .i64 (V 4), .int .i64 (V 5)]
theorem arr6_at {w:World} {vb:Nat} {V:Nat→Nat} (h:w.heap[vb]? = some (.cells (arr6 V) 39 (0,0))) {j:Nat} (hj:j<6):w.cell? ⟨vb,j,none⟩=some (.int .i64 (V j)):=by
 refine (row_cell h j).trans ?_
 have:j=0∨j=1∨j=2∨j=3∨j=4∨j=5:=by omega
 rcases this with rfl | rfl | rfl | rfl | rfl | rfl<;>rfl
theorem arr6_set {w:World} {vb:Nat} {V V':Nat→Nat} (h:w.heap[vb]? = some (.cells (arr6 V) 39 (0,0))) {j:Nat} (hj:j<6) (hV:∀ i,i<6→V' i=if i=j then V' j else V i):(w.setCell ⟨vb,j,none⟩ (.int .i64 (V' j))).heap[vb]? = some (.cells (arr6 V') 39 (0,0)):=by
 have h2:=heap_setCell_same _ vb j _ _ (.int .i64 (V' j)) h
 refine h2.trans ?_
 have hV':∀ i,i<6→i≠j→V' i=V i:=fun i hi hne=>by rw[hV i hi,if_neg hne]
 have:j=0∨j=1∨j=2∨j=3∨j=4∨j=5:=by omega
 rcases this with rfl | rfl | rfl | rfl | rfl | rfl
 · simp[arr6,hV' 1 (by omega) (by omega),hV' 2 (by omega) (by omega),hV' 3 (by omega) (by omega),hV' 4 (by omega) (by omega),hV' 5 (by omega) (by omega)]
 · simp[arr6,hV' 0 (by omega) (by omega),hV' 2 (by omega) (by omega),hV' 3 (by omega) (by omega),hV' 4 (by omega) (by omega),hV' 5 (by omega) (by omega)]
 · simp[arr6,hV' 0 (by omega) (by omega),hV' 1 (by omega) (by omega),hV' 3 (by omega) (by omega),hV' 4 (by omega) (by omega),hV' 5 (by omega) (by omega)]
 · simp[arr6,hV' 0 (by omega) (by omega),hV' 1 (by omega) (by omega),hV' 2 (by omega) (by omega),hV' 4 (by omega) (by omega),hV' 5 (by omega) (by omega)]
 · simp[arr6,hV' 0 (by omega) (by omega),hV' 1 (by omega) (by omega),hV' 2 (by omega) (by omega),hV' 3 (by omega) (by omega),hV' 5 (by omega) (by omega)]
 · simp[arr6,hV' 0 (by omega) (by omega),hV' 1 (by omega) (by omega),hV' 2 (by omega) (by omega),hV' 3 (by omega) (by omega),hV' 4 (by omega) (by omega)]
def upK (b:Nat→Bool):Nat→List Nat
 | 0=>[]
 | m+1=>upK b m++if b (5-m) then [5-m] else []
theorem upK_ge (b:Nat→Bool):∀ m,m≤6→∀ j∈upK b m,j<6∧6-m≤j
 | 0,_,j,h=>by simp[upK] at h
 | m+1,hm,j,h=>by
   rw[upK,List.mem_append] at h
   rcases h with h | h
   · have:=upK_ge b m (by omega) j h;omega
   · split at h
     · simp at h;omega
     · cases h
theorem upK_ks (b:Nat→Bool):∀ m,m≤6→Ks (upK b m)
 | 0,_=>⟨fun j h=>by simp[upK] at h,List.Pairwise.nil⟩
 | m+1,hm=>by
   refine ⟨fun j h=>(upK_ge b (m+1) hm j h).1,?_⟩
   rw[upK,List.pairwise_append]
   refine ⟨(upK_ks b m (by omega)).fall,?_,fun x hx y hy => ?_⟩
   · split<;>simp
   · have:=upK_ge b m (by omega) x hx
     split at hy
     · simp at hy;omega
     · cases hy
theorem rise_snoc (ks:List Nat) (j:Nat):linesS (risePaths (ks++[j]))=Hv.binP [ltr j]++[10]++linesS (risePaths ks):=by
 simp[risePaths,linesS]
theorem next_snoc {V:Nat→Nat} {r:Nat} {ks:List Nat} {j:Nat}:∀ i,i<6→nextV V r (ks++[j]) i=if i=j then nextV V r (ks++[j]) j else nextV V r ks i:=fun i _=>by
 by_cases e:i=j
 · rw[if_pos e,e]
 · rw[if_neg e]
   unfold nextV
   have:i∈ks++[j] ↔ i∈ks:=by simp[e]
   by_cases q:i∈ks
   · rw[if_pos q,if_pos (this.2 q)]
   · rw[if_neg q,if_neg (fun h=>q (this.1 h))]
theorem next_at {V:Nat→Nat} {r:Nat} {ks:List Nat} {j:Nat}:nextV V r (ks++[j]) j=if Hv.goes V j then 0 else r:=by
 unfold nextV;rw[if_pos (by simp)]
theorem next_old {V:Nat→Nat} {r:Nat} {ks:List Nat} {j:Nat} (hn:j ∉ ks):nextV V r ks j=V j:=by
 unfold nextV;rw[if_neg hn]
theorem next_nil (V:Nat→Nat) (r:Nat):nextV V r []=V:=by
 funext j;unfold nextV;rw[if_neg (by simp)]
theorem and_one (q:Nat) (h:q<64):bits .and .i64 (q:Int) 1=((q%2:Nat):Int):=by
 have key:∀ q:Fin 64,bits .and .i64 ((q.val:Nat):Int) 1=((q.val%2:Nat):Int):=by decide
 exact key ⟨q,h⟩
theorem pk_nat (a:Int):∃ sv:Nat,pk a 64=(sv:Int)∧sv<64:=by
 refine ⟨(pk a 64).toNat,?_,?_⟩<;>unfold pk<;>split<;>omega
def bitOf (sv j:Nat):Bool:=decide (sv / 2^j%2=1)
theorem bit_div (sv j:Nat):(sv:Int) / 2^j=((sv / 2^j:Nat):Int):=by
 rw[Int.natCast_ediv,Int.natCast_pow];rfl
theorem bit_val {sv j:Nat} (h:sv<64):bits BinOp.and IntKind.i64 ((sv:Int) / 2^j) 1=((sv / 2^j%2:Nat):Int):=by
 rw[bit_div]
 exact and_one _ (Nat.lt_of_le_of_lt (Nat.div_le_self _ _) h)
theorem bit_yes {sv j:Nat} (h:sv<64) (hb:bitOf sv j=true):(bits BinOp.and IntKind.i64 ((sv:Int) / 2^j) 1==0)=false:=by
 rw[bit_val h]
 have:sv / 2^j%2=1:=of_decide_eq_true hb
 rw[this];rfl
theorem bit_no {sv j:Nat} (h:sv<64) (hb:bitOf sv j=false):(bits BinOp.and IntKind.i64 ((sv:Int) / 2^j) 1==0)=true:=by
 rw[bit_val h]
 have h1 : ¬ sv / 2^j%2=1:=of_decide_eq_false hb
 have:sv / 2^j%2=0:=by omega
 rw[this];rfl
theorem upK_skip {b:Nat→Bool} {m:Nat} (h:b (5-m)=false):upK b (m+1)=upK b m:=by rw[upK,h];simp
theorem upK_take {b:Nat→Bool} {m:Nat} (h:b (5-m)=true):upK b (m+1)=upK b m++[5-m]:=by rw[upK,h];simp
theorem upK_new {b:Nat→Bool} {m:Nat} (hm:m<6):5-m ∉ upK b m:=fun h=>by
 have:=upK_ge b m (by omega) _ h;omega
structure InW (V:Nat→Nat) (r:Nat) (b:Nat→Bool) (vb hb Vn:Nat) (F:Nat→Prop) (D:VM Hv.PD) (G:VM S) (wi:World) (m:Nat) (lo:Option Addr) (n lc:Nat) (wr:World):Prop where
 num:n=(upK b m).length
 row:wr.ownsRow wi.heap.size 9 1 (.slice lo n lc) n (((upK b m).map (itemAt V r)).map strV)
 arr:wr.heap[vb]? = some (.cells (arr6 (nextV V r (upK b m))) 39 (0,0))
 run:RunS F Vn hb D G wr
 far:Far wi.heap.size (fun q=>q=vb) wi wr
theorem InW.skip {V:Nat→Nat} {r:Nat} {b:Nat→Bool} {vb hb Vn:Nat} {F:Nat→Prop} {D:VM Hv.PD} {G:VM S} {wi wr:World} {m n lc:Nat} {lo:Option Addr} (h:InW V r b vb hb Vn F D G wi m lo n lc wr) (hb':b (5-m)=false):InW V r b vb hb Vn F D G wi (m+1) lo n lc wr:=by
 have e:=upK_skip hb'
 exact ⟨by rw[e];exact h.num,by rw[e];exact h.row,by rw[e];exact h.arr,h.run,h.far⟩
theorem EngS.turn {C N K:Nat→Prop} {eb sb mb pm fm db n a b c dn:Nat} {h:S} {d:Dk} {P:VM Value} {D:VM Hv.PD} {G:VM S} {sv im km:Value} {w w':World} (e:EngS C N eb sb mb pm fm db n a b c h d P D G sv im km dn w) (hf:Far w.heap.size K w w') (hK:∀ k,K k → ¬ C k ∧ ¬ N k∧k≠eb∧k≠sb∧k≠mb∧k≠pm∧k≠fm∧12≤k):EngS C N eb sb mb pm fm db n a b c h d P D G sv im km dn w':=by
 refine ⟨e.eng.kept (hf.block eb (blt e.eng) (fun q=>(hK _ q).2.2.1 rfl)),e.st.far hf (Nat.le_refl _) (fun q=>(hK _ q).2.2.2.1 rfl),e.mach.far hf (Nat.le_refl _) ⟨fun q=>(hK _ q).2.2.2.2.1 rfl,fun q=>(hK _ q).2.2.2.2.2.1 rfl,fun q=>(hK _ q).2.2.2.2.2.2.1 rfl⟩,e.pk.far hf (Nat.le_refl _) (fun g _ hg q=>(hK g q).2.1 hg),e.dk.far hf (Nat.le_refl _) (fun k hk q=>(hK k q).1 hk),e.off,e.apart,fun g hg=>⟨Nat.lt_of_lt_of_le (e.rows g hg).1 hf.size,(e.rows g hg).2⟩,e.base.far hf e.base.size (fun k q=>(hK k q).2.2.2.2.2.2.2),e.low⟩
theorem RunS.turn {F K:Nat→Prop} {V hb:Nat} {D:VM Hv.PD} {G:VM S} {w w':World} (h:RunS F V hb D G w) (hf:Far w.heap.size K w w') (hK:∀ k,K k → ¬ F k∧12≤k):RunS F V hb D G w':=by
 obtain ⟨C,N,eb,sb,mb,pm,fm,db,a,b,c,hh,d,P,h1,h2,h3,h4⟩:=h
 have nf:∀ k,K k→∀ q,(EFoot C eb sb pm fm q∨q=hb)∨q=mb∨N q→k≠q:=fun k hk q hq e=>(hK k hk).1 (e▸h3 q hq)
 refine ⟨C,N,eb,sb,mb,pm,fm,db,a,b,c,hh,d,P,⟨(hf.block hb (blt h1.blk) (fun q=>nf hb q hb (.inl (.inr rfl)) rfl)).trans h1.blk,h1.eng.turn hf (fun k hk=>⟨fun q=>nf k hk k (.inl (.inl (.inl q))) rfl,fun q=>nf k hk k (.inr (.inr q)) rfl,nf k hk eb (.inl (.inl (.inr (.inl rfl)))),nf k hk sb (.inl (.inl (.inr (.inr (.inl rfl))))),nf k hk mb (.inr (.inl rfl)),nf k hk pm (.inl (.inl (.inr (.inr (.inr (.inl rfl)))))),nf k hk fm (.inl (.inl (.inr (.inr (.inr (.inr rfl)))))),(hK k hk).2⟩),h1.off,h1.low⟩,h2,h3,fun k hk=>Nat.lt_of_lt_of_le (h4 k hk) hf.size⟩
theorem InW.next {V:Nat→Nat} {r:Nat} {b:Nat→Bool} {vb hb Vn:Nat} {F:Nat→Prop} {D:VM Hv.PD} {G:VM S} {wi wr wq w4:World} {m n lc j gv cv:Nat} {lo:Option Addr} {o:Obj} (h:InW V r b vb hb Vn F D G wi m lo n lc wr) (hb':b (5-m)=true) (hm:m<6) (hj:5-m=j) (hq:Below wr.heap.size wr wq) (hg:(wq.alloc o).grownBy w4 (Value.slice lo n lc).ownBlock)
   (hown:w4.ownsRow wi.heap.size 9 1 (.slice (some ⟨gv,0,none⟩) (n+1) cv) (n+1) (((upK b m).map (itemAt V r)).map strV++[strV (itemAt V r j)])) (hvb:vb<wi.heap.size) (hFv : ¬ F vb) (hFl:∀ k,F k→k<wi.heap.size) (hG:12≤vb) :
   InW V r b vb hb Vn F D G wi (m+1) (some ⟨gv,0,none⟩) (n+1) cv (w4.setCell ⟨vb,j,none⟩ (.int .i64 (nextV V r (upK b m++[j]) j))):=by
 have e:=upK_take hb'
 rw[hj] at e
 have hj6:j<6:=by omega
 have hlt:=h.far.size
 have hrow:∀ q,(Value.slice lo n lc).ownBlock=some q→wi.heap.size≤q:=fun q hq=>(h.row.lt q hq).1
 have hgv:wi.heap.size≤gv:=(hown.lt gv rfl).1
 have hF1:Far wr.heap.size (fun q=>(Value.slice lo n lc).ownBlock=some q) wr w4:=by
   have h1:=((Far.refl wr.heap.size (fun q=>(Value.slice lo n lc).ownBlock=some q) wr).below hq (Nat.le_refl _)).alloc hq.size o
   exact h1.grown hg (by have:=hq.size;simp;omega) (fun q e => .inr e)
 have hF2:Far wi.heap.size (fun q=>q=vb) wi w4:=h.far.next hF1 hlt (fun k hk q=>by have:=hrow k q;omega)
 have hR:RunS F Vn hb D G w4:=h.run.turn hF1 (fun k q=>⟨fun f=>by have:=hrow k q;have:=hFl k f;omega,by have:=hrow k q;omega⟩)
 have hA:w4.heap[vb]? = some (.cells (arr6 (nextV V r (upK b m))) 39 (0,0)):=(hF1.block vb (by omega) (fun q=>by have:=hrow vb q;omega)).trans h.arr
 refine ⟨by rw[e,List.length_append];simp[h.num],?_,?_,hR.aside ((Far.refl w4.heap.size (fun q=>q=vb) w4).setCell (p:=⟨vb,j,none⟩) (.inr rfl) _) hFv hG,hF2.setCell (p:=⟨vb,j,none⟩) (.inr rfl) _⟩
 · rw[e,List.map_append,List.map_append]
   exact own_away hown (fun q=>by have e2:gv=vb:=Option.some.inj q;omega)
 · rw[e]
   exact arr6_set hA hj6 next_snoc
end
section
open Go.RowKit
open Arc (St Cmd)
open Hv (S Dk VM Mild ShelfD CountG Ks itemAt nextV risePaths)
theorem menu_in:∃ pl,Hv.check 300 [] [] [43::Hv.menuT] = .ok pl∧0<pl.steps.length∧(∀ s,Hv.wish [43::Hv.menuT] = .ok s→∀ k d,Hv.get s.I k=some d→NoCopy d.st.runs∧NoCopy d.st.wokens)∧Hv.runS pl (Hv.wokeW [] pl.wak,[]) pl.steps=([(Hv.wMenu,Hv.menuPD 2)],[]) :=
 Hv.one_in Hv.item_menu rfl rfl rfl (.inl rfl) (.inr rfl) (Hv.menu_nocopy 2).2 (by rw[List.length_cons];decide)
theorem menu_shelf:ShelfD (fun _=>0) [(Hv.wMenu,Hv.menuPD 2)]:=by
 have hs:Hv.Srt ([(Hv.wMenu,Hv.menuPD 2)]:VM Hv.PD):=by simp[Hv.Srt]
 refine ⟨hs,fun k d => ?_⟩
 rw[Hv.get_some hs]
 simp
theorem count_nil:CountG 0 []:=⟨List.Pairwise.nil,fun k x q=>(by cases q),rfl⟩
theorem shelf_mild {V:Nat→Nat} {D:VM Hv.PD} {G:VM S} {n:Nat} (h:ShelfD V D) (hV:∀ j,j<6→V j≤2) (hG:CountG n G):Mild D G :=
 ⟨h.fine hV,by have:=h.len;omega,by have:=hG.len;omega,hG.short,hG.gk⟩
def VB (r v:Nat):Prop:=v≤10000000*(r+1)
theorem VB.next {r v:Nat} (h:VB r v):VB (r+1) (v+3000000):=by unfold VB at *;omega
theorem VB.few {r v:Nat} (h:VB r v) (hr:r≤3):v≤500000000:=by unfold VB at *;omega
theorem VB.more {r v:Nat} (h:VB r v):VB (r+1) v:=by unfold VB at *;omega
structure OutW (vb hb B:Nat) (w:World) (cn r:Nat) (V:Nat→Nat) (Vn:Nat) (F:Nat→Prop) (D:VM Hv.PD) (G:VM S) (wr:World):Prop where
 shelf:ShelfD V D
 count:CountG cn G
 low:∀ j,j<6→V j<r
 arr:wr.heap[vb]? = some (.cells (arr6 V) 39 (0,0))
 run:RunS F Vn hb D G wr
 vol:VB r Vn
 off : ¬ F vb
 new:∀ k,F k→B≤k
 at_:B≤vb
 bel:Below B w wr
structure EndW (V:Nat→Nat) (r:Nat) (ks:List Nat) (vb hb Vn:Nat) (F:Nat→Prop) (D:VM Hv.PD) (G:VM S) (wi:World) (lo:Option Addr) (n lc:Nat) (wr:World):Prop where
 num:n=ks.length
 row:wr.ownsRow wi.heap.size 9 1 (.slice lo n lc) n ((ks.map (itemAt V r)).map strV)
 arr:wr.heap[vb]? = some (.cells (arr6 (nextV V r ks)) 39 (0,0))
 run:RunS F Vn hb D G wr
 far:Far wi.heap.size (fun q=>q=vb) wi wr
theorem InW.whole {V:Nat→Nat} {r:Nat} {b:Nat→Bool} {vb hb Vn:Nat} {F:Nat→Prop} {D:VM Hv.PD} {G:VM S} {wi wr:World} {n lc:Nat} {lo:Option Addr} {ks:List Nat} (h:InW V r b vb hb Vn F D G wi 6 lo n lc wr) (e:upK b 6=ks):EndW V r ks vb hb Vn F D G wi lo n lc wr:=by
 subst e
 exact ⟨h.num,h.row,h.arr,h.run,h.far⟩
theorem OutW.same {vb hb B:Nat} {w:World} {cn r:Nat} {V:Nat→Nat} {Vn:Nat} {F:Nat→Prop} {D:VM Hv.PD} {G:VM S} {wi wr:World} {lo:Option Addr} {lc:Nat} {ks:List Nat} (h:OutW vb hb B w cn r V Vn F D G wi) (hB:B=w.heap.size) (e:EndW V r ks vb hb Vn F D G wi lo 0 lc wr):OutW vb hb B w cn (r+1) V Vn F D G wr:=by
 have hk:ks=[]:=List.eq_nil_of_length_eq_zero e.num.symm
 have ha:=e.arr
 rw[hk,next_nil] at ha
 refine ⟨h.shelf,h.count,fun j hj=>by have:=h.low j hj;omega,ha,e.run,h.vol.more,h.off,h.new,h.at_,?_⟩
 subst hB
 exact far_below h.bel e.far (fun q hq e=>by have:=h.at_;omega)
structure AftW (V:Nat→Nat) (vb hb Vn B:Nat) (F:Nat→Prop) (D:VM Hv.PD) (G:VM S) (w wr:World):Prop where
 arr:wr.heap[vb]? = some (.cells (arr6 V) 39 (0,0))
 run:RunS F Vn hb D G wr
 off : ¬ F vb
 new:∀ k,F k→B≤k
 bel:Below B w wr
theorem OutW.begun {vb hb:Nat} {w:World} {cn r:Nat} {V:Nat→Nat} {Vn Vn':Nat} {F F':Nat→Prop} {D D':VM Hv.PD} {G G':VM S} {wi wr w':World} {lo:Option Addr} {n lc:Nat} {ks:List Nat} (h:OutW vb hb w.heap.size w cn r V Vn F D G wi) (e:EndW V r ks vb hb Vn F D G wi lo n lc wr) (q1:RunS F' Vn' hb D' G' w') (q2:Far wr.heap.size F wr w') (q3:∀ k,F' k→F k∨wr.heap.size≤k):AftW (nextV V r ks) vb hb Vn' w.heap.size F' D' G' w w':=by
 have hbl:=blt e.arr
 have hb2:=far_below h.bel e.far (fun q hq e=>by have:=h.at_;omega)
 exact ⟨(q2.block vb hbl h.off).trans e.arr,q1,fun q=>(q3 vb q).elim h.off (fun q=>by omega),fun k q=>(q3 k q).elim (h.new k) (fun q=>by have:=hb2.size;omega),far_below hb2 q2 (fun q hq e=>by have:=h.new q e;omega)⟩
theorem AftW.far {V:Nat→Nat} {vb hb Vn:Nat} {F:Nat→Prop} {D:VM Hv.PD} {G:VM S} {w wr w':World} (h:AftW V vb hb Vn w.heap.size F D G w wr) (q1:RunS F Vn hb D G w') (q2:Far wr.heap.size F wr w'):AftW V vb hb Vn w.heap.size F D G w w' :=
 ⟨(q2.block vb (blt h.arr) h.off).trans h.arr,q1,h.off,h.new,far_below h.bel q2 (fun q hq e=>by have:=h.new q e;omega)⟩
theorem AftW.out {V:Nat→Nat} {vb hb Vn cn r:Nat} {F:Nat→Prop} {D:VM Hv.PD} {G:VM S} {w wr:World} (h:AftW V vb hb Vn w.heap.size F D G w wr) (hS:ShelfD V D) (hC:CountG cn G) (hl:∀ j,j<6→V j<r) (hv:VB r Vn) (hat:w.heap.size≤vb):OutW vb hb w.heap.size w cn r V Vn F D G wr :=
 ⟨hS,hC,hl,h.arr,h.run,hv,h.off,h.new,hat,h.bel⟩
theorem reads_row {w:World} {B T n:Nat} {lo:Option Addr} {lc:Nat} {xs:List S} (hn:n=xs.length) (h:w.ownsRow B T 1 (.slice lo n lc) n (xs.map strV)):Reads w (.slice lo n lc) xs:=by
 subst hn
 by_cases h0:xs=[]
 · subst h0;exact .inl ⟨rfl,lo,lc,rfl⟩
 · have hp:0<xs.length:=by cases xs with | nil=>exact absurd rfl h0 | cons a l=>simp
   obtain ⟨g,cap,e⟩:=own_form h (by omega)
   rw[e] at h
   refine .inr ⟨g,cap,by rw[e],(h.lt g rfl).2,fun j x hj => ?_⟩
   obtain ⟨hj1,rfl⟩:=List.getElem?_eq_some_iff.1 hj
   rw[h.cellAt _ (by omega)]
   simp[strV,hj1]
theorem triple_at (D:VM Hv.PD) (k:Nat) (p:S × Hv.PD) (hk:D[k]? = some p):(D.flatMap pkgV)[k*3]? = some (strV p.1)∧(D.flatMap pkgV)[k*3+2]? = some (.int .i64 p.2.status):=by
 induction D generalizing k with
 | nil=>simp at hk
 | cons a l ih =>
   cases k with
   | zero =>
     have e:a=p:=by simpa using hk
     subst e;simp[pkgV]
   | succ k =>
     have:=ih k (by simpa using hk)
     rw[show (k+1)*3=k*3+1+1+1 from by omega]
     simpa [pkgV] using this
theorem told_last {w:World} {B nd:Nat} {v:Value} {D:VM Hv.PD} {p:S × Hv.PD} (hl:D.length=nd+1) (hk:D[nd]? = some p) (h:w.ownsRow B 41 3 v D.length (D.flatMap pkgV)):∃ g c,v = .slice (some ⟨g,0,none⟩) (nd+1) c∧w.cell? ⟨g,nd*3,none⟩=some (strV p.1)∧w.cell? ⟨g,nd*3+2,none⟩=some (.int .i64 p.2.status):=by
 rw[hl] at h
 obtain ⟨g,cap,rfl⟩:=own_form h (by omega)
 obtain ⟨h1,h2⟩:=triple_at D nd p hk
 exact ⟨g,cap,rfl,by rw[h.cellAt _ (by omega)];exact h1,by rw[h.cellAt _ (by omega)];exact h2⟩
theorem shelf_last {V:Nat→Nat} {D:VM Hv.PD} (h:ShelfD V D):∃ nd,D.length=nd+1∧nd≤6∧D[nd]? = some (Hv.wMenu,Hv.menuPD 2):=by
 have hm:=(Hv.get_some h.srt).1 ((h.get _ _).2 (.inl ⟨rfl,rfl⟩))
 have hlen:=h.len
 obtain ⟨i,hi,he⟩:=List.getElem_of_mem hm
 obtain ⟨nd,hnd⟩:∃ nd,D.length=nd+1:=⟨D.length-1,by omega⟩
 refine ⟨nd,hnd,by omega,?_⟩
 by_cases e:i=nd
 · subst e
   rw[List.getElem?_eq_getElem hi,he]
 · exfalso
   have hn:nd<D.length:=by omega
   have hlt:=(List.pairwise_iff_getElem.1 h.srt) i nd hi hn (by omega)
   rw[he] at hlt
   rcases (h.get D[nd].1 D[nd].2).1 ((Hv.get_some h.srt).2 (List.getElem_mem hn)) with ⟨e1,_⟩ | ⟨j,hj,_,e1,_⟩
   · rw[e1] at hlt
     exact absurd hlt (by decide)
   · rw[e1] at hlt
     have:j=0∨j=1∨j=2∨j=3∨j=4∨j=5:=by omega
     rcases this with rfl | rfl | rfl | rfl | rfl | rfl<;>exact absurd hlt (by decide)
end
end Go.Proofs.YtialenebfcnkkaaGreatDoor
