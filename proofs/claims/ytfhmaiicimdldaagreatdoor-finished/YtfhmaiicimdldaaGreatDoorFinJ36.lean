import Derived.Test.YtfhmaiicimdldaaGreatDoorFinJ35
set_option maxHeartbeats 16000000
set_option maxRecDepth 100000
namespace Go.Proofs.YtfhmaiicimdldaaGreatDoor
section
open Go.RowKit
open Kw (St ME)
open Hv (S Dx VM Pj)
theorem ahk {L:Nat} {F:Nat->Prop} {hb db:Nat} {d:Dx} {D:VM Hv.PD} {G:VM S} (V:Nat->Nat) (Lg:S) (hM:Pj D G) (hst:∀ p∈D,p.2.status=2) (hgr:∀ k,k<6->∀ p∈D,p.1=[LM k]->(Hv.get (Hv.K3 D G) (Hv.M6 [LM k])).getD []=green) (hV:∀ j,j<6->V j<1000) (w:World) (he:Lh L F hb db d D G w) (DY:∀ q,F q->q<w.heap.size) :
 Calls Tryz.prog 11 #[.pointer (some ⟨hb,0,none⟩), .agg (Oz V Lg)] w fun e w'=>∃ b,e = .returned (.bool b)/\(b=true ↔ Hv.abD D G V Lg)/\Lh L F hb db d D G w'/\Kj w.heap.size F w w':=by
 have HM:=JY hM;have HST:=JY hst;have dU:=JY hgr;have HV:=JY hV;have hb0:=(AD w.heap.size w).alloc (AC _) (.cells (Oz V Lg) 30);have hrow:=AF w (.cells (Oz V Lg) 30);have cS:=JY (he.below hb0);have aV:=JY ((Kj.refl w.heap.size F w).below hb0 (AC _));have jh:=JY DY;have aY:D.length<=12:=hM.len;clear hM hst hgr hV he DY hb0;go_enter Tryz.func11,Tryz.ntmps11;go_wp2_with fail;obtain ⟨u,hu⟩:∃ u,w.alloc (.cells (Oz V Lg) 30)=u:=⟨_,rfl⟩
 obtain ⟨B,hB⟩:∃ B,w.heap.size=B:=⟨_,rfl⟩
 have bG:=JY hB;rw[hu] at cS aV hrow |-;rw[hB] at hrow jh |-;have bg:=JY hrow;clear hu hB hrow;refine (YT HM.out u cS.out).mono ?_;rintro e w1 ⟨v,rfl,hown,hr1,aS⟩;obtain ⟨va,vc,rfl⟩:=J4 hown;have ay:Hid (Ro L F hb db d D G B V Lg va vc w w1):=JY ⟨hr1,(aS.block B (blt bg.out) (fun q=>by have:=jh.out B q;omega)).trans bg.out,KL hown (blt bg.out),jh.out,aV.out.next aS aV.out.size (fun _ _ q=>q),by rw[bG.out];exact AC _⟩;obtain ⟨nd,hnd⟩:∃ nd,D.length=nd:=⟨_,rfl⟩
 have dO:=JY hnd;rw[hnd] at aY |-;clear hown hr1 aS hnd cS aV bg;go_wp2_with fail;go_loopw [6,7,8] (fun t6 t7 t8 wr=>∃ (k a:Nat),k<=6/\a<=k/\t6 = .int .i64 (a:Int)/\t7 = .int .i64 (a:Int)/\t8 = .int .i64 (k:Int)/\Hid (Hv.W9 V k=a/\∀ j,j<k->Hv.ajU D V j)/\Hid (Ro L F hb db d D G B V Lg va vc w wr)) (fun _ _ t8 _=>6-(intOf t8).toNat)
 case atStart=>exact ⟨0,0,by omega,AC _,rfl,rfl,rfl,JY ⟨rfl,fun j hj=>by omega⟩,ay⟩
 case round =>
  clear ay;obtain ⟨k,a,hk,Jm,rfl,rfl,rfl,fM,HI⟩:=hrel;by_cases hlt:k<6
  · have b1:(k:Int)<6:=by omega
    have sH:(0:Int)<=(k:Int):=by omega
    have b9:IntKind.i64.wrap ((k:Int)+1)=(k:Int)+1:=by rw[De];omega
    have b8:IntKind.i64.wrap ((a:Int)+1)=(a:Int)+1:=by rw[De];omega
    have sc:=(JZ HI.out.sh k).trans (VH _ _ hlt);by_cases hv0:0<V k
    · obtain ⟨vk,hvk⟩:∃ vk,V k=vk:=⟨_,rfl⟩
      have qj:=JY hvk;have Iu:vk<1000:=by rw[<- hvk];exact HV.out k hlt
      rw[hvk] at sc hv0;have b2 : ¬ (vk:Int)=0:=by omega
      clear hvk;by_cases hA:a<nd
      · have AL:a<D.length:=by rw[dO.out];exact hA
        have hrow:=HI.out.row;obtain ⟨g,c,yT,ig,hgl,q0,q1,q2⟩:=afO hrow AL;obtain ⟨rfl, -,rfl⟩:va=some ⟨g,0,none⟩/\D.length=D.length/\vc=c:=by cases yT;exact ⟨rfl,rfl,rfl⟩
        have hmem:=B1 AL;obtain ⟨p,hp⟩:∃ p,D[a]=p:=⟨_,rfl⟩
        have ni:D[a]? = some p:=by rw[B9 AL,hp]
        rw[hp] at q0 q1 q2 hmem;rw[HST.out p hmem] at q2;have cx:=JY hmem;have gW:=JY ni;have rT:=JY (fun e=>dU.out k hlt p hmem e);obtain ⟨pn,pd⟩:=p;simp only[Kl] at q0 q1;obtain ⟨pv,hpv⟩:∃ pv,pd.ve=pv:=⟨_,rfl⟩
        have um:=JY hpv;rw[hpv] at q1;have b3 : ¬ (nd:Int)<=(a:Int):=by omega
        have b4 : ¬ nd<=a:=by omega
        have I6:a<nd:=hA;have El : ¬ F g:=fun q=>by have:=HI.out.no g q;omega
        have I3:=JY El;have fS:=JY (fun w'=>QS k hlt w');have jT:=JY (fun w'=>QJ vk Iu w');obtain ⟨lk,hlk⟩:∃ lk,LM k=lk:=⟨_,rfl⟩
        have CZ:=JY hlk;obtain ⟨z,hz⟩:∃ z,J8.dg vk=z:=⟨_,rfl⟩
        have HZ:=JY hz;rw[hlk] at fS rT;rw[hz] at jT;have aF:=below_drewN (AD wr.heap.size wr) 1;have dc:Hid (Ro L F hb db d D G B V Lg (some ⟨g,0,none⟩) vc w wr.drew):=JY (HI.out.below aF);clear yT hmem ni hp hpv hlk hz hrow El aF;have EF:∀ w9,(Ro L F hb db d D G B V Lg (some ⟨g,0,none⟩) vc w w9)->w9.cell? ⟨g,a*3,none⟩=some (.string ⟨pn.toArray⟩)/\w9.cell? ⟨g,a*3+1,none⟩=some (.string ⟨pv.toArray⟩)/\w9.cell? ⟨B,k,none⟩=some (.int .i64 vk)/\w9.cell? ⟨g,a*3+2,none⟩=some (.int .i64 2):=fun w9 h9=>h9.four hlt qj.out gW.out um.out (HST.out _ cx.out)
        have jk:=JY EF;clear EF;by_cases hB:pn=[lk]
        · subst hB;by_cases hC:pv=z
          · subst hC;have il:Hid (∀ w9,Ro L F hb db d D G B V Lg (some ⟨g,0,none⟩) vc w w9->Calls Tryz.prog 25 #[.pointer (some ⟨hb,0,none⟩), .string ⟨(Hv.M6 [lk]).toArray⟩] w9 fun e w'=>e = .returned (.string ⟨#[103,114,101,101,110]⟩)/\Lh L F hb db d D G w'/\Kj w9.heap.size F w9 w'):=JY (fun w9 h9=>by
             have h:=Ui HM.out (Hv.M6 [lk]) w9 h9.run;rw[rT.out rfl] at h;exact h)
            have gg:Hid ((⟨#[47,98,105,110,47]⟩:ByteArray)++⟨([lk]:S).toArray⟩=⟨(Hv.M6 [lk]).toArray⟩):=JY (Nc [47,98,105,110,47] [lk]);have kN:=JY (show Hv.W9 V (k+1)=a+1/\∀ j,j<k+1->Hv.ajU D V j from ⟨by rw[Hv.ajW (by rw[qj.out];exact hv0),fM.out.1],fun j hj=>by
             by_cases e:j=k
             · subst e;exact fun _=>⟨_,by rw[fM.out.1];exact gW.out,by rw[CZ.out],by rw[qj.out,HZ.out];exact um.out⟩
             · exact fM.out.2 j (by omega)⟩)
            clear q0 q1 q2;go_wp2_with fail;clear sc
            go_region_held3 (fun w'=>w'.cell? ⟨g,a*3,none⟩=some (.string ⟨([lk]:S).toArray⟩)/\w'.cell? ⟨g,a*3+1,none⟩=some (.string ⟨pv.toArray⟩)/\w'.cell? ⟨B,k,none⟩=some (.int .i64 vk)/\w'.cell? ⟨g,a*3+2,none⟩=some (.int .i64 2))
             (first | exact jk.out _ bN.out | exact jk.out _ ct.out | exact jk.out _ dc.out | exact jk.out _ HI.out)
             (first
              | (go_at_call 17;refine (fS.out _).mono ?_;rintro e w3 ⟨rfl,rfl⟩)
              | (go_at_call 18;refine (jT.out wr.drew).mono ?_;rintro e w5 ⟨rfl,aG⟩;have ct:=JY (dc.out.below aG);clear aG)
              | (go_at_call 25;rw[gg.out];refine (il.out _ ct.out).mono ?_;rintro e w6 ⟨rfl,gJ,cV⟩;have bN:=JY (ct.out.go gJ cV);clear gJ cV))
            all_goals
             clear HI dc jk il gg fS jT;go_wp2_with fail;exact ⟨⟨k+1,a+1,by omega,by omega,by push_cast;rfl,by push_cast;rfl,by push_cast;rfl,kN,bN⟩,by simp[intOf];omega⟩
          · have c1:(pv==z)=false:=by simpa using hC
            obtain ⟨q0,q1,sc,q2⟩:=jk.out _ HI.out;go_wp2_with fail;clear sc q0 q1 q2;refine wp_region_held_drew (S:=(fun w'=>w'.cell? ⟨g,a*3,none⟩=some (.string ⟨([lk]:S).toArray⟩)/\w'.cell? ⟨g,a*3+1,none⟩=some (.string ⟨pv.toArray⟩)/\w'.cell? ⟨B,k,none⟩=some (.int .i64 vk)/\w'.cell? ⟨g,a*3+2,none⟩=some (.int .i64 2))) (by kernel_rfl) (jk.out _ dc.out) (fun hHeld => ?_);refine IM (i:=0) (oi:={ dst:=some 21,op:=Op.move (Operand.tmp 6),type:=3,pos := "keeps.go:114",after := #[],guard:=none }) (v := ?v0) rfl (by kernel_rfl) (by kernel_rfl) (by kernel_rfl) (fun _ _ _ h=>h) (Or.inl ⟨by rfl,?h0⟩) hHeld ?_
            case h0=>(intro w' hSw; (try dsimp only at hSw);go_simp;try with_reducible rfl)
            try simp only[Act.put,AN,BT,BE]
            refine IM (i:=1) (oi:={ dst:=some 22,op:=Op.move (Operand.tmp 5),type:=58,pos := "keeps.go:114",after := #[],guard:=none }) (v := ?v1) rfl (by kernel_rfl) (by kernel_rfl) (by kernel_rfl) (fun _ _ _ h=>h) (Or.inl ⟨by rfl,?h1⟩) hHeld ?_
            case h1=>(intro w' hSw; (try dsimp only at hSw);go_simp;try with_reducible rfl)
            try simp only[Act.put,AN,BT,BE]
            refine IM (i:=2) (oi:={ dst:=some 23,op:=Op.call { callee:=Callee.builtin Builtin.len,args := #[Operand.tmp 22],argTypes := #[58] },type:=3,pos := "keeps.go:114",after := #[{ on:=1,ground:=Ground.data }],guard:=none }) (v := ?v2) rfl (by kernel_rfl) (by kernel_rfl) (by kernel_rfl) (fun _ _ _ h=>h) (Or.inl ⟨by rfl,?h2⟩) hHeld ?_
            case h2=>(intro w' hSw; (try dsimp only at hSw);go_simp;try with_reducible rfl)
            try simp only[Act.put,AN,BT,BE]
            refine IM (i:=3) (oi:={ dst:=some 24,op:=Op.binOp BinOp.geq 3 (Operand.tmp 21) (Operand.tmp 23) 3,type:=4,pos := "keeps.go:114",after := #[{ on:=0,ground:=Ground.data },{ on:=2,ground:=Ground.data }],guard:=none }) (v := ?v3) rfl (by kernel_rfl) (by kernel_rfl) (by kernel_rfl) (fun _ _ _ h=>h) (Or.inl ⟨by rfl,?h3⟩) hHeld ?_
            case h3=>(intro w' hSw; (try dsimp only at hSw);go_simp;try with_reducible rfl)
            try simp only[Act.put,AN,BT,BE]
            refine IM (i:=4) (oi:={ dst:=some 25,op:=Op.move (Operand.tmp 24),type:=4,pos := "keeps.go:114",after := #[{ on:=3,ground:=Ground.data }],guard:=none }) (v := ?v4) rfl (by kernel_rfl) (by kernel_rfl) (by kernel_rfl) (fun _ _ _ h=>h) (Or.inl ⟨by rfl,?h4⟩) hHeld ?_
            case h4=>(intro w' hSw; (try dsimp only at hSw);go_simp;try with_reducible rfl)
            try simp only[Act.put,AN,BT,BE]
            refine IM (i:=5) (oi:={ dst:=some 26,op:=Op.move (Operand.tmp 5),type:=58,pos := "keeps.go:114",after := #[{ on:=4,ground:=Ground.guard }],guard:=some (4,false) }) (v := ?v5) rfl (by kernel_rfl) (by kernel_rfl) (by kernel_rfl) (fun _ _ _ h=>h) (Or.inl ⟨by rfl,?h5⟩) hHeld ?_
            case h5=>(intro w' hSw; (try dsimp only at hSw);go_simp;try with_reducible rfl)
            try simp only[Act.put,AN,BT,BE]
            refine IM (i:=6) (oi:={ dst:=some 27,op:=Op.move (Operand.tmp 6),type:=3,pos := "keeps.go:114",after := #[{ on:=4,ground:=Ground.guard }],guard:=some (4,false) }) (v := ?v6) rfl (by kernel_rfl) (by kernel_rfl) (by kernel_rfl) (fun _ _ _ h=>h) (Or.inl ⟨by rfl,?h6⟩) hHeld ?_
            case h6=>(intro w' hSw; (try dsimp only at hSw);go_simp;try with_reducible rfl)
            try simp only[Act.put,AN,BT,BE]
            refine IM (i:=7) (oi:={ dst:=some 28,op:=Op.indexAddr 58 (Operand.tmp 26) (Operand.tmp 27),type:=0,pos := "keeps.go:114",after := #[{ on:=5,ground:=Ground.data },{ on:=6,ground:=Ground.data },{ on:=4,ground:=Ground.guard }],guard:=some (4,false) }) (v := ?v7) rfl (by kernel_rfl) (by kernel_rfl) (by kernel_rfl) (fun _ _ _ h=>h) (Or.inl ⟨by rfl,?h7⟩) hHeld ?_
            case h7=>(intro w' hSw; (try dsimp only at hSw);go_simp;try with_reducible rfl)
            try simp only[Act.put,AN,BT,BE]
            refine IM (i:=8) (oi:={ dst:=some 29,op:=Op.fieldAddr 61 (Operand.tmp 28) 0,type:=0,pos := "keeps.go:114",after := #[{ on:=7,ground:=Ground.data },{ on:=4,ground:=Ground.guard }],guard:=some (4,false) }) (v := ?v8) rfl (by kernel_rfl) (by kernel_rfl) (by kernel_rfl) (fun _ _ _ h=>h) (Or.inl ⟨by rfl,?h8⟩) hHeld ?_
            case h8=>(intro w' hSw; (try dsimp only at hSw);go_simp;try with_reducible rfl)
            try simp only[Act.put,AN,BT,BE]
            refine IM (i:=9) (oi:={ dst:=some 30,op:=Op.load 9 (Operand.tmp 29),type:=9,pos := "keeps.go:114",after := #[{ on:=8,ground:=Ground.data },{ on:=4,ground:=Ground.guard }],guard:=some (4,false) }) (v := ?v9) rfl (by kernel_rfl) (by kernel_rfl) (by kernel_rfl) (fun _ _ _ h=>h) (Or.inl ⟨by rfl,?h9⟩) hHeld ?_
            case h9=>(intro w' hSw; (try dsimp only at hSw);go_simp;try with_reducible rfl)
            try simp only[Act.put,AN,BT,BE]
            refine IM (i:=10) (oi:={ dst:=some 31,op:=Op.move (Operand.tmp 8),type:=3,pos := "keeps.go:114",after := #[{ on:=4,ground:=Ground.guard }],guard:=some (4,false) }) (v := ?v10) rfl (by kernel_rfl) (by kernel_rfl) (by kernel_rfl) (fun _ _ _ h=>h) (Or.inl ⟨by rfl,?h10⟩) hHeld ?_
            case h10=>(intro w' hSw; (try dsimp only at hSw);go_simp;try with_reducible rfl)
            try simp only[Act.put,AN,BT,BE]
            refine wpAnyH_ready (rs:=[11]) (by kernel_rfl) (by simp) ?_;refine AllReadyH.cons (o:={ dst:=some 32,op:=Op.call { callee:=Callee.value (Operand.func 17),args := #[Operand.tmp 31],argTypes := #[3] },type:=9,pos := "keeps.go:114",after := #[{ on:=10,ground:=Ground.data },{ on:=4,ground:=Ground.chain },{ on:=4,ground:=Ground.guard }],guard:=some (4,false) }) rfl (fun K hK => ?_) AllReadyH.nil
            go_simp
            (go_at_call 17;refine (fS.out _).mono ?_;rintro e w3 ⟨rfl,rfl⟩)
            go_wp2_with fail;refine hK.out _ _ (jk.out _ dc.out) (fun hHeld => ?_);clear hK K
            try simp only[Act.put,AN,BT,BE]
            refine IM (i:=12) (oi:={ dst:=some 33,op:=Op.binOp BinOp.neq 9 (Operand.tmp 30) (Operand.tmp 32) 9,type:=4,pos := "keeps.go:114",after := #[{ on:=9,ground:=Ground.data },{ on:=11,ground:=Ground.data },{ on:=4,ground:=Ground.guard }],guard:=some (4,false) }) (v := ?v12) rfl (by kernel_rfl) (by kernel_rfl) (by kernel_rfl) (fun _ _ _ h=>h) (Or.inl ⟨by rfl,?h12⟩) hHeld ?_
            case h12=>(intro w' hSw; (try dsimp only at hSw);go_simp;try with_reducible rfl)
            try simp only[Act.put,AN,BT,BE]
            refine IM (i:=13) (oi:={ dst:=some 34,op:=Op.pick (Operand.tmp 25) (Operand.const (Value.bool true)) (Operand.tmp 33),type:=4,pos := "keeps.go:114",after := #[{ on:=4,ground:=Ground.data },{ on:=12,ground:=Ground.data }],guard:=none }) (v := ?v13) rfl (by kernel_rfl) (by kernel_rfl) (by kernel_rfl) (fun _ _ _ h=>h) (Or.inl ⟨by rfl,?h13⟩) hHeld ?_
            case h13=>(intro w' hSw; (try dsimp only at hSw);go_simp;try with_reducible rfl)
            try simp only[Act.put,AN,BT,BE]
            refine IM (i:=14) (oi:={ dst:=some 35,op:=Op.move (Operand.tmp 34),type:=4,pos := "keeps.go:114",after := #[{ on:=13,ground:=Ground.data },{ on:=11,ground:=Ground.chain }],guard:=none }) (v := ?v14) rfl (by kernel_rfl) (by kernel_rfl) (by kernel_rfl) (fun _ _ _ h=>h) (Or.inl ⟨by rfl,?h14⟩) hHeld ?_
            case h14=>(intro w' hSw; (try dsimp only at hSw);go_simp;try with_reducible rfl)
            try simp only[Act.put,AN,BT,BE]
            refine IM (i:=15) (oi:={ dst:=some 36,op:=Op.move (Operand.tmp 5),type:=58,pos := "keeps.go:114",after := #[{ on:=14,ground:=Ground.guard }],guard:=some (14,false) }) (v := ?v15) rfl (by kernel_rfl) (by kernel_rfl) (by kernel_rfl) (fun _ _ _ h=>h) (Or.inl ⟨by rfl,?h15⟩) hHeld ?_
            case h15=>(intro w' hSw; (try dsimp only at hSw);go_simp;try with_reducible rfl)
            try simp only[Act.put,AN,BT,BE]
            refine IM (i:=16) (oi:={ dst:=some 37,op:=Op.move (Operand.tmp 6),type:=3,pos := "keeps.go:114",after := #[{ on:=14,ground:=Ground.guard }],guard:=some (14,false) }) (v := ?v16) rfl (by kernel_rfl) (by kernel_rfl) (by kernel_rfl) (fun _ _ _ h=>h) (Or.inl ⟨by rfl,?h16⟩) hHeld ?_
            case h16=>(intro w' hSw; (try dsimp only at hSw);go_simp;try with_reducible rfl)
            try simp only[Act.put,AN,BT,BE]
            refine IM (i:=17) (oi:={ dst:=some 38,op:=Op.indexAddr 58 (Operand.tmp 36) (Operand.tmp 37),type:=0,pos := "keeps.go:114",after := #[{ on:=15,ground:=Ground.data },{ on:=16,ground:=Ground.data },{ on:=14,ground:=Ground.guard }],guard:=some (14,false) }) (v := ?v17) rfl (by kernel_rfl) (by kernel_rfl) (by kernel_rfl) (fun _ _ _ h=>h) (Or.inl ⟨by rfl,?h17⟩) hHeld ?_
            case h17=>(intro w' hSw; (try dsimp only at hSw);go_simp;try with_reducible rfl)
            try simp only[Act.put,AN,BT,BE]
            refine IM (i:=18) (oi:={ dst:=some 39,op:=Op.fieldAddr 61 (Operand.tmp 38) 1,type:=0,pos := "keeps.go:114",after := #[{ on:=17,ground:=Ground.data },{ on:=14,ground:=Ground.guard }],guard:=some (14,false) }) (v := ?v18) rfl (by kernel_rfl) (by kernel_rfl) (by kernel_rfl) (fun _ _ _ h=>h) (Or.inl ⟨by rfl,?h18⟩) hHeld ?_
            case h18=>(intro w' hSw; (try dsimp only at hSw);go_simp;try with_reducible rfl)
            try simp only[Act.put,AN,BT,BE]
            refine IM (i:=19) (oi:={ dst:=some 40,op:=Op.load 9 (Operand.tmp 39),type:=9,pos := "keeps.go:114",after := #[{ on:=18,ground:=Ground.data },{ on:=14,ground:=Ground.guard }],guard:=some (14,false) }) (v := ?v19) rfl (by kernel_rfl) (by kernel_rfl) (by kernel_rfl) (fun _ _ _ h=>h) (Or.inl ⟨by rfl,?h19⟩) hHeld ?_
            case h19=>(intro w' hSw; (try dsimp only at hSw);go_simp;try with_reducible rfl)
            try simp only[Act.put,AN,BT,BE]
            refine IM (i:=20) (oi:={ dst:=some 41,op:=Op.move (Operand.tmp 8),type:=3,pos := "keeps.go:114",after := #[{ on:=14,ground:=Ground.guard }],guard:=some (14,false) }) (v := ?v20) rfl (by kernel_rfl) (by kernel_rfl) (by kernel_rfl) (fun _ _ _ h=>h) (Or.inl ⟨by rfl,?h20⟩) hHeld ?_
            case h20=>(intro w' hSw; (try dsimp only at hSw);go_simp;try with_reducible rfl)
            try simp only[Act.put,AN,BT,BE]
            refine IM (i:=21) (oi:={ dst:=some 42,op:=Op.fieldAddr 30 (Operand.tmp 3) 0,type:=0,pos := "keeps.go:114",after := #[{ on:=14,ground:=Ground.guard }],guard:=some (14,false) }) (v := ?v21) rfl (by kernel_rfl) (by kernel_rfl) (by kernel_rfl) (fun _ _ _ h=>h) (Or.inl ⟨by rfl,?h21⟩) hHeld ?_
            case h21=>(intro w' hSw; (try dsimp only at hSw);go_simp;try with_reducible rfl)
            try simp only[Act.put,AN,BT,BE]
            refine IM (i:=22) (oi:={ dst:=some 43,op:=Op.indexAddr 28 (Operand.tmp 42) (Operand.tmp 41),type:=0,pos := "keeps.go:114",after := #[{ on:=21,ground:=Ground.data },{ on:=20,ground:=Ground.data },{ on:=14,ground:=Ground.guard }],guard:=some (14,false) }) (v := ?v22) rfl (by kernel_rfl) (by kernel_rfl) (by kernel_rfl) (fun _ _ _ h=>h) (Or.inl ⟨by rfl,?h22⟩) hHeld ?_
            case h22=>(intro w' hSw; (try dsimp only at hSw);go_simp;try with_reducible rfl)
            try simp only[Act.put,AN,BT,BE]
            refine IM (i:=23) (oi:={ dst:=some 44,op:=Op.load 3 (Operand.tmp 43),type:=3,pos := "keeps.go:114",after := #[{ on:=22,ground:=Ground.data },{ on:=14,ground:=Ground.guard }],guard:=some (14,false) }) (v := ?v23) rfl (by kernel_rfl) (by kernel_rfl) (by kernel_rfl) (fun _ _ _ h=>h) (Or.inl ⟨by rfl,?h23⟩) hHeld ?_
            case h23=>(intro w' hSw; (try dsimp only at hSw);go_simp;try with_reducible rfl)
            try simp only[Act.put,AN,BT,BE]
            refine wpAnyH_ready (rs:=[24]) (by kernel_rfl) (by simp) ?_;refine AllReadyH.cons (o:={ dst:=some 45,op:=Op.call { callee:=Callee.value (Operand.func 18),args := #[Operand.tmp 44],argTypes := #[3] },type:=9,pos := "keeps.go:114",after := #[{ on:=23,ground:=Ground.data },{ on:=14,ground:=Ground.chain },{ on:=14,ground:=Ground.guard }],guard:=some (14,false) }) rfl (fun K hK => ?_) AllReadyH.nil
            go_simp
            (go_at_call 18;refine (jT.out wr.drew).mono ?_;rintro e w5 ⟨rfl,aG⟩;have ct:=JY (dc.out.below aG);clear aG)
            go_wp2_with fail;refine hK.out _ _ (jk.out _ ct.out) (fun hHeld => ?_);clear hK K
            try simp only[Act.put,AN,BT,BE]
            refine IM (i:=25) (oi:={ dst:=some 46,op:=Op.binOp BinOp.neq 9 (Operand.tmp 40) (Operand.tmp 45) 9,type:=4,pos := "keeps.go:114",after := #[{ on:=19,ground:=Ground.data },{ on:=24,ground:=Ground.data },{ on:=14,ground:=Ground.guard }],guard:=some (14,false) }) (v := ?v25) rfl (by kernel_rfl) (by kernel_rfl) (by kernel_rfl) (fun _ _ _ h=>h) (Or.inl ⟨by rfl,?h25⟩) hHeld ?_
            case h25=>(intro w' hSw; (try dsimp only at hSw);go_simp;try with_reducible rfl)
            try simp only[Act.put,AN,BT,BE]
            refine IM (i:=26) (oi:={ dst:=some 47,op:=Op.pick (Operand.tmp 35) (Operand.const (Value.bool true)) (Operand.tmp 46),type:=4,pos := "keeps.go:114",after := #[{ on:=14,ground:=Ground.data },{ on:=25,ground:=Ground.data }],guard:=none }) (v := ?v26) rfl (by kernel_rfl) (by kernel_rfl) (by kernel_rfl) (fun _ _ _ h=>h) (Or.inl ⟨by rfl,?h26⟩) hHeld ?_
            case h26=>(intro w' hSw; (try dsimp only at hSw);go_simp;try with_reducible rfl)
            try simp only[Act.put,AN,BT,BE]
            refine IM (i:=27) (oi:={ dst:=some 48,op:=Op.move (Operand.tmp 47),type:=4,pos := "keeps.go:114",after := #[{ on:=26,ground:=Ground.data },{ on:=24,ground:=Ground.chain }],guard:=none }) (v := ?v27) rfl (by kernel_rfl) (by kernel_rfl) (by kernel_rfl) (fun _ _ _ h=>h) (Or.inl ⟨by rfl,?h27⟩) hHeld ?_
            case h27=>(intro w' hSw; (try dsimp only at hSw);go_simp;try with_reducible rfl)
            try simp only[Act.put,AN,BT,BE]
            refine IM (i:=28) (oi:={ dst:=some 49,op:=Op.move (Operand.tmp 5),type:=58,pos := "keeps.go:114",after := #[{ on:=27,ground:=Ground.guard }],guard:=some (27,false) }) (v:=undef) rfl (by kernel_rfl) (by kernel_rfl) (by kernel_rfl) (fun _ _ _ h=>h) (Or.inr ⟨by rfl,rfl⟩) hHeld ?_
            try simp only[Act.put,AN,BT,BE]
            refine IM (i:=29) (oi:={ dst:=some 50,op:=Op.move (Operand.tmp 6),type:=3,pos := "keeps.go:114",after := #[{ on:=27,ground:=Ground.guard }],guard:=some (27,false) }) (v:=undef) rfl (by kernel_rfl) (by kernel_rfl) (by kernel_rfl) (fun _ _ _ h=>h) (Or.inr ⟨by rfl,rfl⟩) hHeld ?_
            try simp only[Act.put,AN,BT,BE]
            refine IM (i:=30) (oi:={ dst:=some 51,op:=Op.indexAddr 58 (Operand.tmp 49) (Operand.tmp 50),type:=0,pos := "keeps.go:114",after := #[{ on:=28,ground:=Ground.data },{ on:=29,ground:=Ground.data },{ on:=27,ground:=Ground.guard }],guard:=some (27,false) }) (v:=undef) rfl (by kernel_rfl) (by kernel_rfl) (by kernel_rfl) (fun _ _ _ h=>h) (Or.inr ⟨by rfl,rfl⟩) hHeld ?_
            try simp only[Act.put,AN,BT,BE]
            refine IM (i:=31) (oi:={ dst:=some 52,op:=Op.fieldAddr 61 (Operand.tmp 51) 2,type:=0,pos := "keeps.go:114",after := #[{ on:=30,ground:=Ground.data },{ on:=27,ground:=Ground.guard }],guard:=some (27,false) }) (v:=undef) rfl (by kernel_rfl) (by kernel_rfl) (by kernel_rfl) (fun _ _ _ h=>h) (Or.inr ⟨by rfl,rfl⟩) hHeld ?_
            try simp only[Act.put,AN,BT,BE]
            refine IM (i:=32) (oi:={ dst:=some 53,op:=Op.load 3 (Operand.tmp 52),type:=3,pos := "keeps.go:114",after := #[{ on:=31,ground:=Ground.data },{ on:=27,ground:=Ground.guard }],guard:=some (27,false) }) (v:=undef) rfl (by kernel_rfl) (by kernel_rfl) (by kernel_rfl) (fun _ _ _ h=>h) (Or.inr ⟨by rfl,rfl⟩) hHeld ?_
            try simp only[Act.put,AN,BT,BE]
            refine IM (i:=33) (oi:={ dst:=some 54,op:=Op.binOp BinOp.neq 3 (Operand.tmp 53) (Operand.const (Value.int IntKind.i64 2)) 3,type:=4,pos := "keeps.go:114",after := #[{ on:=32,ground:=Ground.data },{ on:=27,ground:=Ground.guard }],guard:=some (27,false) }) (v:=undef) rfl (by kernel_rfl) (by kernel_rfl) (by kernel_rfl) (fun _ _ _ h=>h) (Or.inr ⟨by rfl,rfl⟩) hHeld ?_
            try simp only[Act.put,AN,BT,BE]
            refine IM (i:=34) (oi:={ dst:=some 55,op:=Op.pick (Operand.tmp 48) (Operand.const (Value.bool true)) (Operand.tmp 54),type:=4,pos := "keeps.go:114",after := #[{ on:=27,ground:=Ground.data },{ on:=33,ground:=Ground.data }],guard:=none }) (v := ?v34) rfl (by kernel_rfl) (by kernel_rfl) (by kernel_rfl) (fun _ _ _ h=>h) (Or.inl ⟨by rfl,?h34⟩) hHeld ?_
            case h34=>(intro w' hSw; (try dsimp only at hSw);go_simp;try with_reducible rfl)
            try simp only[Act.put,AN,BT,BE]
            refine IM (i:=35) (oi:={ dst:=some 56,op:=Op.move (Operand.tmp 55),type:=4,pos := "keeps.go:114",after := #[{ on:=34,ground:=Ground.data },{ on:=27,ground:=Ground.chain }],guard:=none }) (v := ?v35) rfl (by kernel_rfl) (by kernel_rfl) (by kernel_rfl) (fun _ _ _ h=>h) (Or.inl ⟨by rfl,?h35⟩) hHeld ?_
            case h35=>(intro w' hSw; (try dsimp only at hSw);go_simp;try with_reducible rfl)
            try simp only[Act.put,AN,BT,BE]
            refine IM (i:=36) (oi:={ dst:=some 57,op:=Op.move (Operand.tmp 0),type:=26,pos := "keeps.go:114",after := #[{ on:=35,ground:=Ground.guard }],guard:=some (35,false) }) (v:=undef) rfl (by kernel_rfl) (by kernel_rfl) (by kernel_rfl) (fun _ _ _ h=>h) (Or.inr ⟨by rfl,rfl⟩) hHeld ?_
            try simp only[Act.put,AN,BT,BE]
            refine IM (i:=37) (oi:={ dst:=some 58,op:=Op.move (Operand.tmp 8),type:=3,pos := "keeps.go:114",after := #[{ on:=35,ground:=Ground.guard }],guard:=some (35,false) }) (v:=undef) rfl (by kernel_rfl) (by kernel_rfl) (by kernel_rfl) (fun _ _ _ h=>h) (Or.inr ⟨by rfl,rfl⟩) hHeld ?_
            try simp only[Act.put,AN,BT,BE]
            refine IM (i:=38) (oi:={ dst:=some 59,op:=Op.call { callee:=Callee.value (Operand.func 17),args := #[Operand.tmp 58],argTypes := #[3] },type:=9,pos := "keeps.go:114",after := #[{ on:=37,ground:=Ground.data },{ on:=35,ground:=Ground.chain },{ on:=35,ground:=Ground.guard }],guard:=some (35,false) }) (v:=undef) rfl (by kernel_rfl) (by kernel_rfl) (by kernel_rfl) (fun _ _ _ h=>h) (Or.inr ⟨by rfl,rfl⟩) hHeld ?_
            try simp only[Act.put,AN,BT,BE]
            refine IM (i:=39) (oi:={ dst:=some 60,op:=Op.binOp BinOp.add 9 (Operand.const (Value.string { data := #[47,98,105,110,47] })) (Operand.tmp 59) 9,type:=9,pos := "keeps.go:114",after := #[{ on:=38,ground:=Ground.data },{ on:=35,ground:=Ground.guard }],guard:=some (35,false) }) (v:=undef) rfl (by kernel_rfl) (by kernel_rfl) (by kernel_rfl) (fun _ _ _ h=>h) (Or.inr ⟨by rfl,rfl⟩) hHeld ?_
            try simp only[Act.put,AN,BT,BE]
            refine IM (i:=40) (oi:={ dst:=some 61,op:=Op.call { callee:=Callee.value (Operand.func 25),args := #[Operand.tmp 57,Operand.tmp 60],argTypes := #[26,9] },type:=9,pos := "keeps.go:114",after := #[{ on:=36,ground:=Ground.data },{ on:=39,ground:=Ground.data },{ on:=38,ground:=Ground.chain },{ on:=35,ground:=Ground.guard }],guard:=some (35,false) }) (v:=undef) rfl (by kernel_rfl) (by kernel_rfl) (by kernel_rfl) (fun _ _ _ h=>h) (Or.inr ⟨by rfl,rfl⟩) hHeld ?_
            try simp only[Act.put,AN,BT,BE]
            refine IM (i:=41) (oi:={ dst:=some 62,op:=Op.binOp BinOp.neq 9 (Operand.tmp 61) (Operand.const (Value.string { data := #[103,114,101,101,110] })) 9,type:=4,pos := "keeps.go:114",after := #[{ on:=40,ground:=Ground.data },{ on:=35,ground:=Ground.guard }],guard:=some (35,false) }) (v:=undef) rfl (by kernel_rfl) (by kernel_rfl) (by kernel_rfl) (fun _ _ _ h=>h) (Or.inr ⟨by rfl,rfl⟩) hHeld ?_
            try simp only[Act.put,AN,BT,BE]
            refine IM (i:=42) (oi:={ dst:=some 63,op:=Op.pick (Operand.tmp 56) (Operand.const (Value.bool true)) (Operand.tmp 62),type:=4,pos := "keeps.go:114",after := #[{ on:=35,ground:=Ground.data },{ on:=41,ground:=Ground.data }],guard:=none }) (v := ?v42) rfl (by kernel_rfl) (by kernel_rfl) (by kernel_rfl) (fun _ _ _ h=>h) (Or.inl ⟨by rfl,?h42⟩) hHeld ?_
            case h42=>(intro w' hSw; (try dsimp only at hSw);go_simp;try with_reducible rfl)
            try simp only[Act.put,AN,BT,BE]
            refine wpAnyH_done (by kernel_rfl) ?_ _
            all_goals
             go_wp2_with fail;go_ret;refine ⟨false,rfl,?_,ct.out.run,ct.out.far⟩;refine ⟨fun q=>(by cases q),fun hT => ?_⟩;obtain ⟨p,p1, -,p3⟩:=hT.1 k hlt (by rw[qj.out];exact hv0);rw[fM.out.1,gW.out] at p1;cases p1;exact (hC (by rw[<- um.out,<- HZ.out,<- qj.out];exact p3)).elim
        · have c1:(pn==[lk])=false:=by simpa using hB
          obtain ⟨q0,q1,sc,q2⟩:=jk.out _ HI.out;go_wp2_with fail;go_quiet ((go_at_call 17;exact Calls.quiet_of_same (fS.out _)))
          all_goals
           go_wp2_with fail;go_ret;refine ⟨false,rfl,?_,(HI.out.below (below_drewN (AD wr.heap.size wr) _)).run,(HI.out.below (below_drewN (AD wr.heap.size wr) _)).far⟩;refine ⟨fun q=>(by cases q),fun hT => ?_⟩;obtain ⟨p,p1,p2, -⟩:=hT.1 k hlt (by rw[qj.out];exact hv0);rw[fM.out.1,gW.out] at p1;cases p1;exact (hB (by rw[<- CZ.out];exact p2)).elim
      · have b3:(nd:Int)<=(a:Int):=by omega
        have b4:nd<=a:=by omega
        go_wp2_with fail;go_region;go_wp2_with fail;go_ret;have aF:=below_drewN (AD wr.heap.size wr) 1;have h9:=HI.out.below aF;refine ⟨false,rfl,⟨fun q=>(by cases q),fun hT => ?_⟩,h9.run,h9.far⟩;obtain ⟨p,q1, -⟩:=hT.1 k hlt (by rw[qj.out];exact hv0);rw[fM.out.1] at q1;have:=(List.getElem?_eq_some_iff.1 q1).1;rw[dO.out] at this;omega
    · have b2:(V k:Int)=0:=by omega
      rw[b2] at sc;have kN:=JY (show Hv.W9 V (k+1)=a/\∀ j,j<k+1->Hv.ajU D V j from ⟨by rw[Hv.alu hv0];exact fM.out.1,fun j hj=>by
       by_cases e:j=k
       · subst e;exact fun q=>absurd q hv0
       · exact fM.out.2 j (by omega)⟩)
      clear b2;go_wp2_with fail;exact ⟨⟨k+1,a,by omega,by omega,rfl,rfl,by push_cast;rfl,kN,HI⟩,by simp[intOf];omega⟩
  · obtain rfl:k=6:=by omega
    have b1 : ¬ ((6:Nat):Int)<6:=by omega
    obtain ⟨tl,htl⟩:∃ tl,(Hv.K3 D G).length=tl:=⟨_,rfl⟩
    have dQ:=JY htl;obtain ⟨x,hx⟩:∃ x,(Hv.get (Hv.K3 D G) Hv.M9).getD []=x:=⟨_,rfl⟩
    have HX:=JY hx;clear htl hx;have s6:=(JZ HI.out.sh 6).trans (show _=some (Value.string ⟨Lg.toArray⟩) from rfl);by_cases hLg:Lg=[]
    · have hle:Lg.isEmpty=true:=by rw[hLg];rfl
      have pz:=JY (show Lg=[] from hLg);clear hLg;go_wp2_with fail;refine (afX HM.out wr HI.out.run).mono ?_;rintro e w2 ⟨v2,rfl,ow,hr2,hf2⟩;obtain ⟨fa,fc,rfl⟩:=J4 ow;have aM:=JY (HI.out.go hr2 hf2);rw[dQ.out];clear ow hr2 hf2 s6 HI hle;have dc:=JY (aM.out.below (below_drewN (AD w2.heap.size w2) 1));by_cases h1:a=nd
      · have x1:((a:Int)==(nd:Int))=true:=by simp[h1]
        have x2:decide ((a:Int)=(nd:Int))=true:=by simp[h1]
        have x3:(a==nd)=true:=by simp[h1]
        have x4:decide (a=nd)=true:=by simp[h1]
        have Az:=JY h1;clear h1;by_cases h2:tl=a
        · have x5:((tl:Int)==(a:Int))=true:=by simp[h2]
          have x6:decide ((tl:Int)=(a:Int))=true:=by simp[h2]
          have x7:(tl==a)=true:=by simp[h2]
          have x8:decide (tl=a)=true:=by simp[h2]
          have AA:=JY h2;clear h2;have s6:=(JZ aM.out.sh 6).trans (show _=some (Value.string ⟨Lg.toArray⟩) from rfl);have fZ:Hid (∀ w9,Ro L F hb db d D G B V Lg va vc w w9->w9.cell? ⟨B,6,none⟩=some (.string ⟨Lg.toArray⟩)):=JY (fun w9 h9=>(JZ h9.sh 6).trans (show _=some (Value.string ⟨Lg.toArray⟩) from rfl));have il:Hid (∀ w9,Ro L F hb db d D G B V Lg va vc w w9->Calls Tryz.prog 25 #[.pointer (some ⟨hb,0,none⟩), .string ⟨#[47,118,97,114,47,108,111,103]⟩] w9 fun e w'=>e = .returned (.string ⟨x.toArray⟩)/\Lh L F hb db d D G w'/\Kj w9.heap.size F w9 w'):=JY (fun w9 h9=>by
           have h:=Ui HM.out Hv.M9 w9 h9.run;rw[HX.out] at h;exact h)
          by_cases h3:x=Lg
          · have ja:(x==Lg)=true:=by simpa using h3
            have iC:=JY h3;clear h3;go_wp2_with fail
            go_region_held3 (fun w'=>w'.cell? ⟨B,6,none⟩=some (.string ⟨Lg.toArray⟩))
             (first | exact fZ.out _ bN.out | exact fZ.out _ dc.out | exact fZ.out _ aM.out)
             (first
              | (go_at_call 25;refine (il.out _ dc.out).mono ?_;rintro e w6 ⟨rfl,gJ,cV⟩;have bN:=JY (dc.out.go gJ cV);clear gJ cV))
            all_goals
             clear il fZ;go_wp2_with fail;go_ret;refine ⟨true,rfl,⟨fun _ => ?_,fun _=>rfl⟩,bN.out.run,bN.out.far⟩;exact ⟨fM.out.2,by rw[fM.out.1,dO.out,Az.out],by rw[dQ.out,AA.out,fM.out.1,By pz.out],by rw[HX.out];exact iC.out⟩
          · have ja:(x==Lg)=false:=by simpa using h3
            have iC:=JY h3;clear h3;go_wp2_with fail
            go_region_held3 (fun w'=>w'.cell? ⟨B,6,none⟩=some (.string ⟨Lg.toArray⟩))
             (first | exact fZ.out _ bN.out | exact fZ.out _ dc.out | exact fZ.out _ aM.out)
             (first
              | (go_at_call 25;refine (il.out _ dc.out).mono ?_;rintro e w6 ⟨rfl,gJ,cV⟩;have bN:=JY (dc.out.go gJ cV);clear gJ cV))
            all_goals
             clear il fZ;go_wp2_with fail;go_ret;refine ⟨false,rfl,⟨fun q=>(by cases q),fun hT => ?_⟩,bN.out.run,bN.out.far⟩;exact (iC.out (HX.out.symm.trans hT.2.2.2)).elim
        · have uU : ¬ (tl:Int)=(a:Int):=by omega
          have Gv:decide ((tl:Int)=(a:Int))=false:=decide_eq_false uU;have Gt:((tl:Int)==(a:Int))=false:=beq_eq_false_iff_ne.2 uU;have Gu:(tl==a)=false:=beq_eq_false_iff_ne.2 h2;have Gw:decide (tl=a)=false:=decide_eq_false h2;have iC:=JY h2;go_wp2_with fail;go_quiet (fail)
          all_goals
           go_wp2_with fail;go_ret;refine ⟨false,rfl,⟨fun q=>(by cases q),fun hT => ?_⟩,(aM.out.below (below_drewN (AD w2.heap.size w2) _)).run,(aM.out.below (below_drewN (AD w2.heap.size w2) _)).far⟩;have h9:=hT.2.2.1;rw[dQ.out,fM.out.1,By pz.out] at h9;exact (iC.out h9).elim
      · have uT : ¬ (a:Int)=(nd:Int):=by omega
        have Gl:decide ((a:Int)=(nd:Int))=false:=decide_eq_false uT;have h1b:((a:Int)==(nd:Int))=false:=beq_eq_false_iff_ne.2 uT;have h1c:(a==nd)=false:=beq_eq_false_iff_ne.2 h1;have Gm:decide (a=nd)=false:=decide_eq_false h1;have iC:=JY h1;go_wp2_with fail;go_quiet (fail)
        all_goals
         go_wp2_with fail;go_ret;refine ⟨false,rfl,⟨fun q=>(by cases q),fun hT => ?_⟩,(aM.out.below (below_drewN (AD w2.heap.size w2) _)).run,(aM.out.below (below_drewN (AD w2.heap.size w2) _)).far⟩;have h9:=hT.2.1;rw[fM.out.1,dO.out] at h9;exact (iC.out h9).elim
    · have hle:Lg.isEmpty=false:=by cases Lg with | nil=>exact absurd rfl hLg | cons=>rfl
      have pz:=JY (show Lg≠[] from hLg);clear hLg;go_wp2_with fail;refine (afX HM.out wr HI.out.run).mono ?_;rintro e w2 ⟨v2,rfl,ow,hr2,hf2⟩;obtain ⟨fa,fc,rfl⟩:=J4 ow;have aM:=JY (HI.out.go hr2 hf2);rw[dQ.out];clear ow hr2 hf2 s6 HI hle;have dc:=JY (aM.out.below (below_drewN (AD w2.heap.size w2) 1));by_cases h1:a=nd
      · have x1:((a:Int)==(nd:Int))=true:=by simp[h1]
        have x2:decide ((a:Int)=(nd:Int))=true:=by simp[h1]
        have x3:(a==nd)=true:=by simp[h1]
        have x4:decide (a=nd)=true:=by simp[h1]
        have Az:=JY h1;clear h1;by_cases h2:tl=a+1
        · have x5:((tl:Int)==(a:Int)+1)=true:=by simp[h2]
          have x6:decide ((tl:Int)=(a:Int)+1)=true:=by simp[h2]
          have x7:(tl==a+1)=true:=by simp[h2]
          have x8:decide (tl=a+1)=true:=by simp[h2]
          have AA:=JY h2;clear h2;have s6:=(JZ aM.out.sh 6).trans (show _=some (Value.string ⟨Lg.toArray⟩) from rfl);have fZ:Hid (∀ w9,Ro L F hb db d D G B V Lg va vc w w9->w9.cell? ⟨B,6,none⟩=some (.string ⟨Lg.toArray⟩)):=JY (fun w9 h9=>(JZ h9.sh 6).trans (show _=some (Value.string ⟨Lg.toArray⟩) from rfl));have il:Hid (∀ w9,Ro L F hb db d D G B V Lg va vc w w9->Calls Tryz.prog 25 #[.pointer (some ⟨hb,0,none⟩), .string ⟨#[47,118,97,114,47,108,111,103]⟩] w9 fun e w'=>e = .returned (.string ⟨x.toArray⟩)/\Lh L F hb db d D G w'/\Kj w9.heap.size F w9 w'):=JY (fun w9 h9=>by
           have h:=Ui HM.out Hv.M9 w9 h9.run;rw[HX.out] at h;exact h)
          by_cases h3:x=Lg
          · have ja:(x==Lg)=true:=by simpa using h3
            have iC:=JY h3;clear h3;go_wp2_with fail
            go_region_held3 (fun w'=>w'.cell? ⟨B,6,none⟩=some (.string ⟨Lg.toArray⟩))
             (first | exact fZ.out _ bN.out | exact fZ.out _ dc.out | exact fZ.out _ aM.out)
             (first
              | (go_at_call 25;refine (il.out _ dc.out).mono ?_;rintro e w6 ⟨rfl,gJ,cV⟩;have bN:=JY (dc.out.go gJ cV);clear gJ cV))
            all_goals
             clear il fZ;go_wp2_with fail;go_ret;refine ⟨true,rfl,⟨fun _ => ?_,fun _=>rfl⟩,bN.out.run,bN.out.far⟩;exact ⟨fM.out.2,by rw[fM.out.1,dO.out,Az.out],by rw[dQ.out,AA.out,fM.out.1,Bm pz.out],by rw[HX.out];exact iC.out⟩
          · have ja:(x==Lg)=false:=by simpa using h3
            have iC:=JY h3;clear h3;go_wp2_with fail
            go_region_held3 (fun w'=>w'.cell? ⟨B,6,none⟩=some (.string ⟨Lg.toArray⟩))
             (first | exact fZ.out _ bN.out | exact fZ.out _ dc.out | exact fZ.out _ aM.out)
             (first
              | (go_at_call 25;refine (il.out _ dc.out).mono ?_;rintro e w6 ⟨rfl,gJ,cV⟩;have bN:=JY (dc.out.go gJ cV);clear gJ cV))
            all_goals
             clear il fZ;go_wp2_with fail;go_ret;refine ⟨false,rfl,⟨fun q=>(by cases q),fun hT => ?_⟩,bN.out.run,bN.out.far⟩;exact (iC.out (HX.out.symm.trans hT.2.2.2)).elim
        · have uU : ¬ (tl:Int)=(a:Int)+1:=by omega
          have Gv:decide ((tl:Int)=(a:Int)+1)=false:=decide_eq_false uU;have Gt:((tl:Int)==(a:Int)+1)=false:=beq_eq_false_iff_ne.2 uU;have Gu:(tl==a+1)=false:=beq_eq_false_iff_ne.2 h2;have Gw:decide (tl=a+1)=false:=decide_eq_false h2;have iC:=JY h2;go_wp2_with fail;go_quiet (fail)
          all_goals
           go_wp2_with fail;go_ret;refine ⟨false,rfl,⟨fun q=>(by cases q),fun hT => ?_⟩,(aM.out.below (below_drewN (AD w2.heap.size w2) _)).run,(aM.out.below (below_drewN (AD w2.heap.size w2) _)).far⟩;have h9:=hT.2.2.1;rw[dQ.out,fM.out.1,Bm pz.out] at h9;exact (iC.out h9).elim
      · have uT : ¬ (a:Int)=(nd:Int):=by omega
        have Gl:decide ((a:Int)=(nd:Int))=false:=decide_eq_false uT;have h1b:((a:Int)==(nd:Int))=false:=beq_eq_false_iff_ne.2 uT;have h1c:(a==nd)=false:=beq_eq_false_iff_ne.2 h1;have Gm:decide (a=nd)=false:=decide_eq_false h1;have iC:=JY h1;go_wp2_with fail;go_quiet (fail)
        all_goals
         go_wp2_with fail;go_ret;refine ⟨false,rfl,⟨fun q=>(by cases q),fun hT => ?_⟩,(aM.out.below (below_drewN (AD w2.heap.size w2) _)).run,(aM.out.below (below_drewN (AD w2.heap.size w2) _)).far⟩;have h9:=hT.2.1;rw[fM.out.1,dO.out] at h9;exact (iC.out h9).elim
end
end Go.Proofs.YtfhmaiicimdldaaGreatDoor
