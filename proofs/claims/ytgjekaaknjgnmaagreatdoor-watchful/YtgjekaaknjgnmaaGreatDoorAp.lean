import Derived.Test.YtgjekaaknjgnmaaGreatDoorAo
import Derived.Carry
import Derived.Conc.HoldsTime
import Derived.LaidLaws
import Derived.LaidMore
import Derived.Stop.Joined
import Derived.Test.YtgjekaaknjgnmaaGreatDoorCards
import Derived.Test.YtgjekaaknjgnmaaGreatDoorTie
set_option linter.all false
set_option maxHeartbeats 40000000
set_option maxRecDepth 200000
namespace Go.Proofs.Kz
open Go.Proofs.Tryz
open Go.Proofs.Tryz renaming prog → ar
open _root_.ByteArray renaming empty → aN
open Go.Ren Go.Conc Go.Proofs Go.ConcN
open Go.ConcR (Payload)
def iv(a:Int):ah:=je[cW a 6]'(lv a aa)
theorem Se(a:Int):iv a∈je:=aD _
section
variable {Fin:bH} {o o' o1 o2:aM} {w w' w1 w2:ae} {S:Nat} {K:sj} {s s':kT} {lab lab' eN gP:Nat->Nat} {rv fv:Value} {fs:List (ah×ah)} {ed:Nat}
structure Vg(o:aM)(w:ae)(S:Nat)(K:sj)(s:kT)(lab:Nat->Nat)(rv fv:Value)(fs:List (ah×ah))(ed:Nat):Prop where
 fC:bg o w K s 0 lab
 sound:Sound K s
 blk:w.heap[S]?=some (.cells #[.pointer (some ⟨K.kb,0,none⟩),rv,fv,.int .i64 ed] 39)
 own:o S
 Vh:lab S=7
 files:qe o w fv fs
 Vi:∀g,fv.ownBlock=some g->lab g=7/\g≠S
 Mv:fX s fs
structure iw(S:Nat)(o:aM)(w:ae)(lab:Nat->Nat)(o':aM)(w':ae)(lab':Nat->Nat):Prop where
 aU:bu (fun b=>lab b<=6\/b=S) o w o' w'
 lab:∀b,b<w.heap.size->lab' b=lab b
theorem iw.refl(hF:bE ar L0 o w):iw S o w lab o w lab:=⟨bu.refl hF,fun _ _=>rfl⟩
theorem iw.trans(h:iw S o w lab o1 w1 eN)(k:iw S o1 w1 eN o2 w2 gP):iw S o w lab o2 w2 gP:=by
 have hz:=h.aU.size;refine⟨⟨k.aU.ay,fun b hb=>k.aU.more b (h.aU.more b hb),fun b hb=>(k.aU.new b hb).elim (fun q=>h.aU.new b q) fun q=>.inr aa,by have:=k.aU.size;omega,fun b hb hx=>?_⟩,fun b hb=>(k.lab b aa).trans (h.lab b hb)⟩;rw[k.aU.same b aa (by rw[h.lab b hb];exact hx),h.aU.same b hb hx]
theorem iw.k(h:iw S o w lab o1 w1 eN)(k:cK o1 w1 eN o2 w2 gP):iw S o w lab o2 w2 gP:=h.trans ⟨k.aU.mono fun b hb=>.inl hb,k.lab⟩
theorem iw.wrote{A:Nat}(h:iw S o w lab o1 w1 eN)(hA:w.heap.size<=A\/A=S)(hF:bE ar L0 o1 w2)(on:cN A w1 w2):iw S o w lab o1 w2 eN:=by
 refine⟨⟨hF,h.aU.more,h.aU.new,by rw[on.1];exact h.aU.size,fun b hb hx=>?_⟩,h.lab⟩;rw[on.2 b (fun e=>by rcases hA with q|q;omega;exact hx (.inr (e.trans q)))];exact h.aU.same b hb hx
theorem bg.YP{lk:Int}(h:bg o1 w1 K s lk eN)(hl:eN S=7)(ZE:S<w1.heap.size)(W:bu (fun b=>b=S) o1 w1 o2 w2):∃gP,bg o2 w2 K s lk gP/\iw S o1 w1 eN o2 w2 gP/\(∀b,b<w1.heap.size->gP b=eN b)/\∀b,w1.heap.size<=b->gP b=7:=by
 have hq:∀b,b<w1.heap.size->(if b<w1.heap.size then eN b else 7)=eN b:=fun b hb=>if_pos hb;refine⟨fun b=>if b<w1.heap.size then eN b else 7,(h.Ix fun b hb=>hq b (h.ay.lt hb)).aside W (fun b hb=>?_),⟨W.mono fun b hb=>.inr hb,hq⟩,hq,fun b hb=>if_neg aa⟩;rw[hb,hq S ZE];exact hl
theorem bg.rN{A:Nat}{lk:Int}(h:bg o1 w1 K s lk eN)(U:iw S o w lab o1 w1 eN)(hl:eN A=7)(hA:w.heap.size<=A\/A=S)(hF:bE ar L0 o1 w2)(on:cN A w1 w2):bg o1 w2 K s lk eN/\iw S o w lab o1 w2 eN :=
 ⟨h.aside (ex:=fun b=>b=A) (bu.db hF on rfl) fun b hb=>by rw[hb];exact hl,U.wrote hA hF on⟩
theorem Cm{w:ae}{b:Nat}{t:TypeId}{c0 c1 c2 c3:Value}(h:w.heap[b]?=some (.cells #[c0,c1,c2,c3] t)):w.cell? ⟨b,0,none⟩=some c0/\w.cell? ⟨b,1,none⟩=some c1/\w.cell? ⟨b,2,none⟩=some c2/\w.cell? ⟨b,3,none⟩=some c3:=by
 simp[World.cell?,h]
theorem qe.step(h:qe o w fv fs)(hl:∀g,fv.ownBlock=some g->lab g=7/\g≠S)(U:iw S o w lab o' w' lab')(hF:bE ar L0 o w):qe o' w' fv fs/\∀g,fv.ownBlock=some g->lab' g=7/\g≠S:=by
 have bZ:∀g,fv.ownBlock=some g->g<w.heap.size:=fun g hg=>hF.lt (fO hF h.cl g hg);refine⟨h.keep U.aU.more fun g hg=>U.aU.same g (bZ g hg) (by rw[(hl g hg).1];intro q;rcases q with q|q;omega;exact(hl g hg).2 q),fun g hg=>⟨(U.lab g (bZ g hg)).trans (hl g hg).1,(hl g hg).2⟩⟩
def Sf(K:sj)(kd a b:Int)(s s':kT)(fs YQ:List (ah×ah))(ed Wt:Nat)(n:Int)(y:ah):Prop :=
 (kd=0/\n=0/\y=aN/\Wt=ed+1/\YQ=pC fs (iv a) (qH b) true/\∃rE,s'={s with th:=gU s.th (iv a) (qH b),st:=gU s.st (iv a) (IntKind.i64.wrap (dC s.st (iv a)+1)),qv:=rE,qn:=(iX s.qn s.lost (iv a)).1,lost:=(iX s.qn s.lost (iv a)).2}) \/
 (kd=1/\n=0/\y=aN/\YQ=pC fs (iv a) aN false/\((eO s.th (iv a)≠none/\Wt=ed+1/\∃rE,s'={s with th:=lI s.th (iv a),st:=gU s.st (iv a) (IntKind.i64.wrap (dC s.st (iv a)+1)),qv:=rE,qn:=(iX s.qn s.lost (iv a)).1,lost:=(iX s.qn s.lost (iv a)).2})\/(eO s.th (iv a)=none/\Wt=ed/\s'=s))) \/
 (kd=2/\n=0/\y=aN/\YQ=fs/\Wt=ed/\((¬p9 s.time (1+cW a 9)/\s'=s)\/(p9 s.time (1+cW a 9)/\s'={s with time:=s.time+(1+(cW a 9:Int)).toNat}))) \/
 (kd≠0/\kd≠1/\kd≠2/\YQ=fs/\Wt=ed/\∃F,((s.phase=2\/s.phase=3)->∃lo,s.fd=some (lo,F))/\kX K s s' F (fileOf s.src (s.rd.map (·.1))) (did n y))
theorem YR[Payload](h:Vg o w S K s lab rv fv fs ed)(kd a b:Int)(ha1:-9223372036854775808<=a)(ha2:a<=9223372036854775807)(Ag:-9223372036854775808<=b)(pE:b<=9223372036854775807)(hed:ed<4611686018427387904):
  bp ar (XB ar Fin 0) 14 #[.pointer (some ⟨S,0,none⟩),.agg #[.int .i64 kd,.int .i64 a,.int .i64 b]] o w fun v o' w'=>∃n y s' lab' zq YQ Wt,v=.tuple #[.agg #[.int .i64 n,.string y],.bool true]/\Vg o' w' S K s' lab' rv zq YQ Wt/\Sf K kd a b s s' fs YQ ed Wt n y/\iw S o w lab o' w' lab'/\∀g,zq.ownBlock=some g->fv.ownBlock=some g\/w.heap.size<=g:=by
 have W:=bJ (P:=ar) (Fin:=Fin) (d:=0);have hSl:=h.fC.ay.lt h.own;refine dJ W func14 ai ?_;walk_nrmf Tryz.f14;refine aA ?_;refine cq aX h.fC.ay rfl ai ai ?_ rfl (R:=fun wl v aI=>v=.pointer (some ⟨wl.heap.size,0,none⟩)/\aI=wl.alloc (Obj.cells #[.int .i64 kd,.int .i64 a,.int .i64 b] 30)) (fun wl aE=>⟨_,_,by first|(simp[go_sem];done)|(simp[go_sem];rfl),rfl,rfl⟩) fun wl v1 aI w1 aE hR ba=>?_
 ·refine cj ?_;refine cJ (vs:=[_,_,_]) (fun x hx=>?_);simp at hx;rcases hx with rfl|rfl|rfl;all_goals exact bN
 obtain⟨rfl,hR⟩:=hR;obtain⟨z1,k1,qK⟩:=ba.alloc h.fC.ay aE hR;obtain⟨W1,hX1⟩:=bu.mn ba.ay z1 k1;rw[aE.size];clear hR ba aE wl aI;generalize grow o w w1=o1 at *;have l1:w.heap.size<w1.heap.size:=aa;clear z1;refine aA ?_;refine cq aX W1.ay rfl ai ai kp rfl (R:=fun wl v aI=>v=.pointer (some ⟨wl.heap.size,0,none⟩)/\aI=wl.alloc (Obj.cells #[.int .i64 0,.string aN] 32)) (fun wl aE=>⟨_,_,by first|(simp[go_sem];done)|(simp[go_sem];rfl),rfl,rfl⟩) fun wl v1 aI w2 aE hR ba=>?_;obtain⟨rfl,hR⟩:=hR;obtain⟨z2,k2,O6⟩:=ba.alloc W1.ay aE hR;obtain⟨W2,Hi⟩:=bu.mn ba.ay z2 k2;rw[aE.size];clear hR ba aE wl aI;generalize grow o1 w1 w2=o2 at *;have hX2:=(k2 _ aa).trans qK;have oX2:=W2.more _ hX1;have l2:w1.heap.size<w2.heap.size:=aa;clear z2;refine aA ?_;refine aF W rfl ai rfl func18 af rfl aC rfl ((FD W2.ay).mono ?_);rintro v3 o3 w3 ⟨N3,rfl,z3,kn3⟩;have W3:bu (fun _=>False) o2 w2 o3 w3:=bu.dL N3;have ZJ:o3 w2.heap.size:=by rw[N3.own];exact .inr ⟨ag _,aa⟩
 have hX3:=(N3.old _ aa).trans hX2;have rZ:=(N3.old w1.heap.size aa).trans O6;have oX3:=W3.more _ oX2;have oA3:=W3.more _ Hi;have hAX:w.heap.size<w1.heap.size/\w1.heap.size<w2.heap.size:=⟨aa,aa⟩;have W03:=(W1.trans W2).trans W3;have zz3:w2.heap.size<w3.heap.size:=aa;clear z3 l1 l2 k1 k2 qK O6 hX1 hX2 oX2 Hi N3 W1 W2 W3;obtain⟨oI,h3,T3,Cy,SY⟩:=h.fC.grown (cK.refl h.fC.ay) W03;have U3:=(iw.refl (S:=S) (lab:=lab) h.fC.ay).k T3;have hlX:=SY w.heap.size (ag _);have uX:=SY w1.heap.size aa;have acT:oI S=7:=(Cy S hSl).trans h.Vh;have hS3:=(W03.same S hSl id).trans h.blk;have oS3:=W03.more _ h.own;obtain⟨hf3,acU⟩:=h.files.step h.Vi U3 h.fC.ay;clear SY Cy T3 W03;have hp:=lv a (n:=6) aa;have sd:w3.cell? ⟨w2.heap.size,cW a 6,none⟩=some (.string (iv a)):=by
  have YG:iG[cW a 6]?=some (.string (iv a)):=by
   rw[iG,fE,fB,cp hp];rfl
  simp[World.cell?,kn3,YG]
 have hpI:((cW a 6:Nat):Int)<6:=aa;have xV:=Se a;have PT:=xr xV;have Vw:(iv a).size<=1000000:=by have:=PT.2.1;omega
 obtain⟨x0,x1,x2,-⟩:=eE hX3;generalize Ri:w2.heap.size=Nb at *;generalize hAe:w1.heap.size=A at *;generalize hXe:w.heap.size=X at *;have O2:w.heap.size<=A:=aa;have tD:A≠S:=aa;have ajP:X≠S:=aa;clear Ri hAe;refine aA ?_;refine aP aX h3.ay rfl ai ai ?_ rfl (v:=.int .i64 a) (gG oX3 x1) fun _=>?_
 ·exact cj (aH oX3)
 refine aA ?_;refine aF W rfl ai rfl func19 af rfl aC rfl ((vC h3.ay a 6 ha1 ha2 aa aa).mono ?_);rintro v4 o4 w4 ⟨rfl,N4⟩;have W4:bu (fun _=>False) o3 w3 o4 w4:=bu.dL N4;obtain⟨uu,h4,T4,FX,-⟩:=h3.grown (cK.refl h3.ay) W4;have U4:=U3.k T4;have zA3:=h3.ay.lt oA3;have zX3:=h3.ay.lt oX3;have zS3:=h3.ay.lt oS3;have hX4:=(N4.old X zX3).trans hX3;have mq:=(N4.old A zA3).trans rZ;have O4:=(N4.old S zS3).trans hS3;have ahg:=(cell_of (N4.old Nb zz3)).trans sd;have acV:=W4.more _ ZJ;have ZO:=W4.more _ oX3;have Lj:=W4.more _ oA3;have Er:=W4.more _ oS3;have anW:=(FX X zX3).trans hlX;have ON:=(FX A zA3).trans uX;have OO:=(FX S zS3).trans acT;obtain⟨ZP,Sg⟩:=hf3.step acU ((iw.refl (S:=S) h3.ay).k T4) h3.ay;obtain⟨x0,x1,x2,-⟩:=eE hX4;have d0:w4.cell? ⟨S,0,none⟩=some (.pointer (some ⟨K.kb,0,none⟩)):=by simp[World.cell?,O4]
 clear hX3 rZ hS3 sd ZJ oX3 oA3 oS3 hlX uX acT hf3 acU T4 FX N4 W4 h3 U3 zz3 zA3 zX3 zS3 kn3;refine aA ?_;refine aP aX h4.ay rfl ai ai ?_ rfl (v:=.string (iv a)) (gG acV ahg) fun _=>?_
 ·exact cj (aH acV)
 refine aA ?_;refine aP aX h4.ay rfl ai ai ?_ rfl (v:=.int .i64 kd) (gG ZO x0) fun _=>?_
 ·exact cj (aH ZO)
 walk_nrm;by_cases Gc:kd=0
 ·subst Gc;refine aA ?_;refine aP aX h4.ay rfl ai ai ?_ rfl (v:=.int .i64 b) (gG ZO x2) fun _=>?_
  ·exact cj (aH ZO)
  refine aA ?_;refine aF W rfl ai rfl func20 af rfl aC rfl ((UY h4.ay b Ag pE).mono ?_);rintro v5 o5 w5 ⟨rfl,N5⟩;have W5:bu (fun _=>False) o4 w4 o5 w5:=bu.dL N5;obtain⟨nJ,h5,T5,O7,-⟩:=h4.grown (cK.refl h4.ay) W5;have U5:=U4.k T5;have qi:=(N5.old A (h4.ay.lt Lj)).trans mq;have my:=(N5.old S (h4.ay.lt Er)).trans O4;have xx:=W5.more _ Lj;have yE:=W5.more _ Er;have r9:=(O7 A (h4.ay.lt Lj)).trans ON;have uv:=(O7 S (h4.ay.lt Er)).trans OO;obtain⟨R7,Dj⟩:=ZP.step Sg ((iw.refl (S:=S) h4.ay).k T5) h4.ay;have d05:w5.cell? ⟨S,0,none⟩=some (.pointer (some ⟨K.kb,0,none⟩)):=by simp[World.cell?,my]
  refine aA ?_;refine aP aX h5.ay rfl ai ai ?_ rfl (v:=.pointer (some ⟨K.kb,0,none⟩)) (gG yE d05) fun _=>?_
  ·exact cj (aH yE)
  refine aA ?_;refine aF W rfl ai rfl func21 af rfl aC rfl ((Rx h5 (iv a) (qH b) Vw).mono ?_);rintro v6 o6 w6 ⟨Si,T6,hq⟩;have uK:isName (iv a)/\(qH b).size<=12/\¬(eO s.th (iv a)=none/\12<=s.th.length):=⟨PT,B8 b,fun q=>by have:=h.Mv.gT.1;omega⟩;rcases hq with⟨e,-,-,q,-⟩|⟨rfl,-,rE,h6⟩
  ·exact absurd uK q
  have u6:=h.sound.edit (x:=iv a) (t:=qH b) (B8 b) (gU s.st (iv a) (IntKind.i64.wrap (dC s.st (iv a)+1))) rE;have OP:=(T6.aU.same A (h5.ay.lt xx) (by rw[r9];omega)).trans qi;have Sj:=(T6.aU.same S (h5.ay.lt yE) (by rw[uv];omega)).trans my;have Es:=T6.aU.more _ xx;have FK:=T6.aU.more _ yE;have Ll:=(T6.lab A (h5.ay.lt xx)).trans r9;have Dk:=(T6.lab S (h5.ay.lt yE)).trans uv;obtain⟨Sk,Cn⟩:=R7.step Dj ((iw.refl (S:=S) h5.ay).k T6) h5.ay;have U6:=U5.k T6;refine aA ?_;refine aF W rfl ai rfl func22 af rfl aC rfl ((RR h6.ay S _ rv fv ed fs (iv a) (qH b) true Sj FK Sk (by have:=h.Mv.gT.2;omega) (fun e=>(Cn S e).2 rfl)).mono ?_);rintro v7 o7 w7 ⟨rfl,W7,zq,Sl,YS,Mw⟩;obtain⟨B7,h7,T7,od,UQ⟩:=h6.YP Dk (h6.ay.lt FK) W7;have U7:=U6.trans T7;have Jf:=(W7.same A (h6.ay.lt Es) tD).trans OP;have IX:=W7.more _ Es;have IY:=W7.more _ FK;have K8:=(od A (h6.ay.lt Es)).trans Ll;have Lm:=(od S (h6.ay.lt FK)).trans Dk;have OQ:∀g,zq.ownBlock=some g->B7 g=7/\g≠S:=fun g hg=>⟨UQ g (Mw g hg),by have:=Mw g hg;have:=h6.ay.lt FK;omega⟩;have hwe:IntKind.i64.wrap ((ed:Int)+1)=((ed+1:Nat):Int):=by rw[IntKind.wrap_i64]<;>omega
  refine aA ?_;refine aP aX h7.ay rfl ai ai ?_ rfl (v:=.int .i64 ed) (gG IY (Cm Sl).2.2.2) fun _=>?_
  ·exact cj (aH IY)
  refine aA ?_;refine bD aX h7.ay rfl ai ai ?_ rfl (R:=fun wl aI=>aI=wl.setCell ⟨S,3,none⟩ (.int .i64 ((ed+1:Nat):Int))) (fun wl aE=>⟨_,?_,rfl⟩) fun wl aI w8 aE hR ba=>?_
  ·exact dU (aH IY) bN
  ·have e:=(aE.heap _ IY).trans Sl;have e3:wl.cell? ⟨S,3,none⟩=some (.int .i64 ed):=by simp[World.cell?,e]
   have f3:wl.frozen? ⟨S,3,none⟩=false:=by simp[World.frozen?,e]
   simp[go_sem,e3,f3,hwe]
  have hO:cN S wl aI:=by rw[hR];exact fW _ _ _ _
  obtain⟨Aj,kSx,ey⟩:=ba.only aE IY hO;have C8:=ba.ay;rw[ey] at C8 |-;have kS8:w8.heap[S]?=some (.cells #[.pointer (some ⟨K.kb,0,none⟩),rv,zq,.int .i64 ((ed+1:Nat):Int)] 39):=by
   rw[kSx,hR];have e:=(aE.heap _ IY).trans Sl;simp[World.setCell,Array.getElem?_modify,e]
  obtain⟨h8,U8⟩:=h7.rN U7 Lm (.inr rfl) C8 Aj;clear hR ba aE hO wl aI ey kSx;refine aA ?_;have KN:=(Aj.2 A tD).trans Jf;obtain⟨ZL,ahh⟩:=YS.step (lab:=B7) OQ ((iw.refl (S:=S) h7.ay).wrote (.inr rfl) C8 Aj) h7.ay;refine bD aX h8.ay rfl ai ai ?_ rfl (R:=fun wl aI=>aI=(wl.setCell ⟨A,0,none⟩ (.int .i64 0)).setCell ⟨A,1,none⟩ (.string aN)) (fun wl aE=>⟨_,?_,rfl⟩) fun wl aI w9 aE hR ba=>?_
  ·refine dU ?_ ?_
   ·exact aH IX
   ·refine cJ (vs:=[_,_]) (fun x hx=>?_);simp at hx;rcases hx with rfl|rfl
    ·exact bN
    ·exact bf
  ·obtain⟨e0,e1,f0,f1⟩:=bT ((aE.heap _ IX).trans KN)
   first
   | (simp[go_sem,e0,e1,f0,f1];done)
   | (simp[go_sem,e0,e1,f0,f1];rfl)
  have hO:cN A wl aI:=by rw[hR];exact iB _ _ _ _ _ _
  obtain⟨kK,FL,ey⟩:=ba.only aE IX hO;have gw:=ba.ay;rw[ey] at gw |-;rw[hR,nG ((aE.heap _ IX).trans KN)] at FL;obtain⟨h9,U9⟩:=h8.rN U8 K8 (.inl O2) gw kK;clear hR ba aE hO wl aI ey;refine aA ?_;have Vj:=(kK.2 S (fun e=>tD e.symm)).trans kS8;have Sm:∀g,zq.ownBlock=some g->g≠A:=fun g hg=>by have:=Mw g hg;have:=h6.ay.lt Es;omega
  have Vk:=ZL.keep (o':=o7) (w':=w9) (fun _ q=>q) (fun g hg=>kK.2 g (Sm g hg));refine⟨.inr trivial,trivial,.tuple #[.agg #[.int .i64 0,.string aN],.bool true],p7 (fun n=>?_) (fun n e he=>?_),_,_,_,_,_,_,_,rfl,⟨h9,u6,Vj,IY,Lm,Vk,ahh,h.Mv.edit (qH b) xV rfl⟩,.inl ⟨rfl,rfl,rfl,rfl,rfl,rE,rfl⟩,U9,fun g hg=>.inr (by have:=Mw g hg;have:=U6.aU.size;omega)⟩
  ·obtain⟨c0,c1,-⟩:=bT (w:=w9.at n) FL;simp[results,results14,go_sem,c0,c1]
  ·obtain⟨c0,c1,-⟩:=bT (w:=w9.at n) FL;simp[results,results14,go_sem,c0,c1] at he;rcases he with rfl|rfl;all_goals exact⟨_,_,_,rfl,IX⟩
 by_cases VY:kd=1
 ·subst VY;clear Gc;refine aA ?_;refine aF W rfl ai rfl func35 af rfl aC rfl ((ack h4.ay S _ rv fv ed fs (iv a) O4 Er ZP (by have:=h.Mv.gT.2;omega)).mono ?_);rintro v5 o5 w5 ⟨rfl,N5⟩;have W5:bu (fun _=>False) o4 w4 o5 w5:=bu.dL N5;obtain⟨nJ,h5,T5,O7,-⟩:=h4.grown (cK.refl h4.ay) W5;have U5:=U4.k T5;have qi:=(N5.old A (h4.ay.lt Lj)).trans mq;have my:=(N5.old S (h4.ay.lt Er)).trans O4;have xx:=W5.more _ Lj;have yE:=W5.more _ Er;have r9:=(O7 A (h4.ay.lt Lj)).trans ON;have uv:=(O7 S (h4.ay.lt Er)).trans OO;obtain⟨R7,Dj⟩:=ZP.step Sg ((iw.refl (S:=S) h4.ay).k T5) h4.ay;have d05:w5.cell? ⟨S,0,none⟩=some (.pointer (some ⟨K.kb,0,none⟩)):=by simp[World.cell?,my]
  have hhi:=Sc fs (iv a);rw[<- h.Mv.get] at hhi;cases Bg:FB fs (iv a)
  ·have KJ:eO s.th (iv a)=none:=aO fun q=>by rw[hhi.2 q] at Bg;cases Bg
   clear hhi;refine aA ?_;refine aP aX h5.ay rfl ai ai ?_ rfl (v:=.pointer (some ⟨K.kb,0,none⟩)) (gG yE d05) fun _=>?_
   ·exact cj (aH yE)
   refine aA ?_;refine aF W rfl ai rfl func36 af rfl aC rfl ((Iv h5 (iv a) Vw).mono ?_);rintro v6 o6 w6 ⟨Si,T6,hq⟩;rcases hq with⟨e,rfl,-,q,h6⟩|⟨-,q,-⟩;rotate_left
   ·exact absurd KJ q.2
   have e7:=q.2 PT;subst e7;have U6:=U5.k T6;have OP:=(T6.aU.same A (h5.ay.lt xx) (by rw[r9];omega)).trans qi;have Sj:=(T6.aU.same S (h5.ay.lt yE) (by rw[uv];omega)).trans my;have Es:=T6.aU.more _ xx;have FK:=T6.aU.more _ yE;have Ll:=(T6.lab A (h5.ay.lt xx)).trans r9;have Dk:=(T6.lab S (h5.ay.lt yE)).trans uv;obtain⟨Sk,Cn⟩:=R7.step Dj ((iw.refl (S:=S) h5.ay).k T6) h5.ay;refine aA ?_;refine aF W rfl ai rfl func22 af rfl (by first|(simp[Act.eval];done)|(simp[Act.eval];rfl)) rfl ((RR h6.ay S _ rv fv ed fs (iv a) aN false Sj FK Sk (by have:=h.Mv.gT.2;omega) (fun e=>(Cn S e).2 rfl)).mono ?_);rintro v7 o7 w7 ⟨rfl,W7,zq,Sl,YS,Mw⟩;obtain⟨B7,h7,T7,od,UQ⟩:=h6.YP Dk (h6.ay.lt FK) W7;have U7:=U6.trans T7;have Jf:=(W7.same A (h6.ay.lt Es) tD).trans OP;have IX:=W7.more _ Es;have IY:=W7.more _ FK;have K8:=(od A (h6.ay.lt Es)).trans Ll;have Lm:=(od S (h6.ay.lt FK)).trans Dk;have OQ:∀g,zq.ownBlock=some g->B7 g=7/\g≠S:=fun g hg=>⟨UQ g (Mw g hg),by have:=Mw g hg;have:=h6.ay.lt FK;omega⟩;have Sm:∀g,zq.ownBlock=some g->g≠A:=fun g hg=>by have:=Mw g hg;have:=h6.ay.lt Es;omega
   have hwe:IntKind.i64.wrap ((ed:Int)+1)=((ed+1:Nat):Int):=by rw[IntKind.wrap_i64]<;>omega
   refine aA ?_;refine bD aX h7.ay rfl ai ai ?_ rfl (R:=fun wl aI=>aI=(wl.setCell ⟨A,0,none⟩ (.int .i64 0)).setCell ⟨A,1,none⟩ (.string aN)) (fun wl aE=>⟨_,?_,rfl⟩) fun wl aI w9 aE hR ba=>?_
   ·refine dU ?_ ?_
    ·exact aH IX
    ·refine cJ (vs:=[_,_]) (fun x hx=>?_);simp at hx;rcases hx with rfl|rfl
     ·exact bN
     ·exact bf
   ·obtain⟨e0,e1,f0,f1⟩:=bT ((aE.heap _ IX).trans Jf)
    first
    | (simp[go_sem,e0,e1,f0,f1];done)
    | (simp[go_sem,e0,e1,f0,f1];rfl)
   have hO:cN A wl aI:=by rw[hR];exact iB _ _ _ _ _ _
   obtain⟨kK,FL,ey⟩:=ba.only aE IX hO;have gw:=ba.ay;rw[ey] at gw |-;rw[hR,nG ((aE.heap _ IX).trans Jf)] at FL;obtain⟨h9,U9⟩:=h7.rN U7 K8 (.inl O2) gw kK;clear hR ba aE hO wl aI ey;refine aA ?_;have Vj:=(kK.2 S (fun e=>tD e.symm)).trans Sl;have Vk:=YS.keep (o':=o7) (w':=w9) (fun _ q=>q) (fun g hg=>kK.2 g (Sm g hg));refine⟨.inr trivial,trivial,.tuple #[.agg #[.int .i64 0,.string aN],.bool true],p7 (fun n=>?_) (fun n e he=>?_),_,_,_,_,_,_,_,rfl,⟨h9,h.sound,Vj,IY,Lm,Vk,OQ,h.Mv.Xo aN xV KJ⟩,.inr (.inl ⟨rfl,rfl,rfl,rfl,.inr ⟨KJ,rfl,rfl⟩⟩),U9,fun g hg=>.inr (by have:=Mw g hg;have:=U6.aU.size;omega)⟩
   ·obtain⟨c0,c1,-⟩:=bT (w:=w9.at n) FL;simp[results,results14,go_sem,c0,c1]
   ·obtain⟨c0,c1,-⟩:=bT (w:=w9.at n) FL;simp[results,results14,go_sem,c0,c1] at he;rcases he with rfl|rfl;all_goals exact⟨_,_,_,rfl,IX⟩
  ·have Vl:eO s.th (iv a)≠none:=hhi.1 Bg;clear hhi;refine aA ?_;refine aP aX h5.ay rfl ai ai ?_ rfl (v:=.pointer (some ⟨K.kb,0,none⟩)) (gG yE d05) fun _=>?_
   ·exact cj (aH yE)
   refine aA ?_;refine aF W rfl ai rfl func36 af rfl aC rfl ((Iv h5 (iv a) Vw).mono ?_);rintro v6 o6 w6 ⟨Si,T6,hq⟩;rcases hq with⟨e,rfl,-,q,-⟩|⟨rfl,-,rE,h6⟩
   ·exact absurd ⟨PT,Vl⟩ q.1
   have u6:=h.sound.remove (x:=iv a) (gU s.st (iv a) (IntKind.i64.wrap (dC s.st (iv a)+1))) rE;have U6:=U5.k T6;have OP:=(T6.aU.same A (h5.ay.lt xx) (by rw[r9];omega)).trans qi;have Sj:=(T6.aU.same S (h5.ay.lt yE) (by rw[uv];omega)).trans my;have Es:=T6.aU.more _ xx;have FK:=T6.aU.more _ yE;have Ll:=(T6.lab A (h5.ay.lt xx)).trans r9;have Dk:=(T6.lab S (h5.ay.lt yE)).trans uv;obtain⟨Sk,Cn⟩:=R7.step Dj ((iw.refl (S:=S) h5.ay).k T6) h5.ay;refine aA ?_;refine aF W rfl ai rfl func22 af rfl (by first|(simp[Act.eval];done)|(simp[Act.eval];rfl)) rfl ((RR h6.ay S _ rv fv ed fs (iv a) aN false Sj FK Sk (by have:=h.Mv.gT.2;omega) (fun e=>(Cn S e).2 rfl)).mono ?_);rintro v7 o7 w7 ⟨rfl,W7,zq,Sl,YS,Mw⟩;obtain⟨B7,h7,T7,od,UQ⟩:=h6.YP Dk (h6.ay.lt FK) W7;have U7:=U6.trans T7;have Jf:=(W7.same A (h6.ay.lt Es) tD).trans OP;have IX:=W7.more _ Es;have IY:=W7.more _ FK;have K8:=(od A (h6.ay.lt Es)).trans Ll;have Lm:=(od S (h6.ay.lt FK)).trans Dk;have OQ:∀g,zq.ownBlock=some g->B7 g=7/\g≠S:=fun g hg=>⟨UQ g (Mw g hg),by have:=Mw g hg;have:=h6.ay.lt FK;omega⟩;have Sm:∀g,zq.ownBlock=some g->g≠A:=fun g hg=>by have:=Mw g hg;have:=h6.ay.lt Es;omega
   have hwe:IntKind.i64.wrap ((ed:Int)+1)=((ed+1:Nat):Int):=by rw[IntKind.wrap_i64]<;>omega
   refine aA ?_;refine aP aX h7.ay rfl ai ai ?_ rfl (v:=.int .i64 ed) (gG IY (Cm Sl).2.2.2) fun _=>?_
   ·exact cj (aH IY)
   refine aA ?_;refine bD aX h7.ay rfl ai ai ?_ rfl (R:=fun wl aI=>aI=wl.setCell ⟨S,3,none⟩ (.int .i64 ((ed+1:Nat):Int))) (fun wl aE=>⟨_,?_,rfl⟩) fun wl aI w8 aE hR ba=>?_
   ·exact dU (aH IY) bN
   ·have e:=(aE.heap _ IY).trans Sl;have e3:wl.cell? ⟨S,3,none⟩=some (.int .i64 ed):=by simp[World.cell?,e]
    have f3:wl.frozen? ⟨S,3,none⟩=false:=by simp[World.frozen?,e]
    simp[go_sem,e3,f3,hwe]
   have hO:cN S wl aI:=by rw[hR];exact fW _ _ _ _
   obtain⟨Aj,kSx,ey⟩:=ba.only aE IY hO;have C8:=ba.ay;rw[ey] at C8 |-;have kS8:w8.heap[S]?=some (.cells #[.pointer (some ⟨K.kb,0,none⟩),rv,zq,.int .i64 ((ed+1:Nat):Int)] 39):=by
    rw[kSx,hR];have e:=(aE.heap _ IY).trans Sl;simp[World.setCell,Array.getElem?_modify,e]
   obtain⟨h8,U8⟩:=h7.rN U7 Lm (.inr rfl) C8 Aj;clear hR ba aE hO wl aI ey kSx;refine aA ?_;have KN:=(Aj.2 A tD).trans Jf;have ZL:=YS.keep (o':=o7) (w':=w8) (fun _ q=>q) (fun g hg=>Aj.2 g (OQ g hg).2);refine bD aX h8.ay rfl ai ai ?_ rfl (R:=fun wl aI=>aI=(wl.setCell ⟨A,0,none⟩ (.int .i64 0)).setCell ⟨A,1,none⟩ (.string aN)) (fun wl aE=>⟨_,?_,rfl⟩) fun wl aI w9 aE hR ba=>?_
   ·refine dU ?_ ?_
    ·exact aH IX
    ·refine cJ (vs:=[_,_]) (fun x hx=>?_);simp at hx;rcases hx with rfl|rfl
     ·exact bN
     ·exact bf
   ·obtain⟨e0,e1,f0,f1⟩:=bT ((aE.heap _ IX).trans KN)
    first
    | (simp[go_sem,e0,e1,f0,f1];done)
    | (simp[go_sem,e0,e1,f0,f1];rfl)
   have hO:cN A wl aI:=by rw[hR];exact iB _ _ _ _ _ _
   obtain⟨kK,FL,ey⟩:=ba.only aE IX hO;have gw:=ba.ay;rw[ey] at gw |-;rw[hR,nG ((aE.heap _ IX).trans KN)] at FL;obtain⟨h9,U9⟩:=h8.rN U8 K8 (.inl O2) gw kK;clear hR ba aE hO wl aI ey;refine aA ?_;have Vj:=(kK.2 S (fun e=>tD e.symm)).trans kS8;have Vk:=ZL.keep (o':=o7) (w':=w9) (fun _ q=>q) (fun g hg=>kK.2 g (Sm g hg));refine⟨.inr trivial,trivial,.tuple #[.agg #[.int .i64 0,.string aN],.bool true],p7 (fun n=>?_) (fun n e he=>?_),_,_,_,_,_,_,_,rfl,⟨h9,u6,Vj,IY,Lm,Vk,OQ,h.Mv.remove aN xV rfl⟩,.inr (.inl ⟨rfl,rfl,rfl,rfl,.inl ⟨Vl,rfl,rE,rfl⟩⟩),U9,fun g hg=>.inr (by have:=Mw g hg;have:=U6.aU.size;omega)⟩
   ·obtain⟨c0,c1,-⟩:=bT (w:=w9.at n) FL;simp[results,results14,go_sem,c0,c1]
   ·obtain⟨c0,c1,-⟩:=bT (w:=w9.at n) FL;simp[results,results14,go_sem,c0,c1] at he;rcases he with rfl|rfl;all_goals exact⟨_,_,_,rfl,IX⟩
 by_cases PD:kd=2
 ·subst PD;clear Gc VY;have hp9:=lv a (n:=9) aa;have hw9:IntKind.i64.wrap (1+(cW a 9:Int))=1+(cW a 9:Int):=by rw[IntKind.wrap_i64]<;>omega
  refine aA ?_;refine dq mixed af [some none,some none,some none,some (some (.pointer (some ⟨K.kb,0,none⟩))),some none,some (some (.int .i64 a)),some (some (.int .i64 (cW a 9:Nat))),some none,none,some none]
   (S:=fun σ o' w'=>(σ 8=none/\gi o4 w4 o' w')\/∃y w5 nJ,σ 8=some y/\gi o4 w4 o' w5/\bg o' w5 K s 0 nJ/\(∀b,b<w4.heap.size->nJ b=uu b)/\w'.heap.size=w5.heap.size/\(∀b,b≠K.kb->w'.heap[b]?=w5.heap[b]?)/\((y=.int .i64 8/\¬p9 s.time (1+(cW a 9:Int))/\bg o' w' K s 0 nJ)\/(y=.int .i64 0/\p9 s.time (1+(cW a 9:Int))/\bg o' w' K {s with time:=s.time+(1+(cW a 9:Int)).toNat} 0 nJ))) (.inl ⟨rfl,gi.refl h4.ay⟩) fun v9=>?_
  refine dp ?_;refine bO ?_;refine bK aX rfl rfl rfl ai ai (fun σ o' w' H hS=>?_) ?_
  ·rcases hS with⟨-,G⟩|⟨y,w5,nJ,q,-⟩
   ·have hx:=G.aU.more _ Er;exact⟨G.aU.ay,cj (aH hx),gG hx ((cell_of (G.aU.same S (h4.ay.lt Er) id)).trans d0)⟩
   ·rw[H.sg 8 af] at q;cases q
  refine bO ?_;refine bK aX rfl rfl rfl ai ai (fun σ o' w' H hS=>?_) ?_
  ·rcases hS with⟨-,G⟩|⟨y,w5,nJ,q,-⟩
   ·have hx:=G.aU.more _ ZO;exact⟨G.aU.ay,cj (aH hx),gG hx ((cell_of (G.aU.same X (h4.ay.lt ZO) id)).trans x1)⟩
   ·rw[H.kF [7,6] 8 af] at q;cases q
  refine bO ?_;refine iL rfl rfl ai rfl func19 af rfl (av:=#[.int .i64 a,.int .i64 9]) aC (fun σ o' w' H hS=>?_) ?_
  ·rcases hS with⟨h8,G⟩|⟨y,w5,nJ,q,-⟩
   ·refine(vC G.aU.ay a 9 ha1 ha2 aa aa).mono ?_;rintro y o5 w5 ⟨rfl,N5⟩;exact⟨rfl,.inl ⟨h8,G.trans (gi.dL N5)⟩⟩
   ·rw[H.kF [7] 8 af] at q;cases q
  walk_nrm;refine tM (y:=.int .i64 (1+(cW a 9:Int))) rfl rfl rfl ai (fun w1=>by simp[go_sem,Act.eval,hw9]) (fun w1=>by simp[go_sem,Act.eval]) ?_;walk_nrm;refine rj rfl rfl ai rfl func37 af rfl (av:=#[.pointer (some ⟨K.kb,0,none⟩),.int .i64 (1+(cW a 9:Int))]) aC (fun σ o' w' H h8 hS=>?_) ?_
  ·rcases hS with⟨-,G⟩|⟨y,w5,nJ,q,-⟩
   ·obtain⟨nJ,h5,-,O7,-⟩:=h4.grown (cK.refl h4.ay) G.aU;refine(Rt h5 (1+(cW a 9:Int))).mono ?_;rintro y o6 w6 ⟨rfl,t1,t2,t3⟩;exact .inr ⟨y,w',nJ,by simp[dB],G,h5,O7,t1,t2,t3⟩
   ·rw[h8] at q;cases q
  refine bO ?_;refine cd fun σ o5 w6 kP hS=>?_;rcases hS with⟨q,-⟩|⟨y,w5,nJ,q,G5,h5,q2,q3,q4,q5⟩
  ·rw[kP 8 dh rfl] at q;cases q
  have hv:v9 8=y:=aK ((kP 8 dh rfl).symm.trans q);clear kP q;rcases q5 with⟨rfl,ht,h6⟩|⟨rfl,ht,h6⟩
  ·simp only[hv];have SQ:=h6.ay;have T6:cK o5 w5 nJ o5 w6 nJ:=cK.of (bu.db (ex:=(·=K.kb)) SQ ⟨q3,q4⟩ rfl) (fun b hb=>by rw[hb,h5.l0];omega);have U6:=(U4.trans ⟨G5.aU.mono (fun b hb=>hb.elim),q2⟩).k T6;have qi:=(G5.aU.same A (h4.ay.lt Lj) id).trans mq;have my:=(G5.aU.same S (h4.ay.lt Er) id).trans O4;have xx:=G5.aU.more _ Lj;have yE:=G5.aU.more _ Er;have r9:=(q2 A (h4.ay.lt Lj)).trans ON;have uv:=(q2 S (h4.ay.lt Er)).trans OO;obtain⟨R7,Dj⟩:=ZP.step Sg (S:=S) (lab':=nJ) ⟨G5.aU.mono (fun b hb=>hb.elim),q2⟩ h4.ay;have OP:=(T6.aU.same A (h5.ay.lt xx) (by rw[r9];omega)).trans qi;have Sj:=(T6.aU.same S (h5.ay.lt yE) (by rw[uv];omega)).trans my;obtain⟨Sk,Cn⟩:=R7.step Dj ((iw.refl (S:=S) h5.ay).k T6) h5.ay;have Sm:∀g,fv.ownBlock=some g->g≠A:=fun g hg=>by have:=h.fC.ay.lt (fO h.fC.ay h.files.cl g hg);omega
   simp only[gN,cZ,if_true,if_false,reduceIte,Nat.reduceEqDiff];refine aA ?_;refine bD aX h6.ay rfl ai ai ?_ rfl (R:=fun wl aI=>aI=(wl.setCell ⟨A,0,none⟩ (.int .i64 0)).setCell ⟨A,1,none⟩ (.string aN)) (fun wl aE=>⟨_,?_,rfl⟩) fun wl aI w9 aE hR ba=>?_
   ·refine dU ?_ ?_
    ·exact aH xx
    ·refine cJ (vs:=[_,_]) (fun x hx=>?_);simp at hx;rcases hx with rfl|rfl
     ·exact bN
     ·exact bf
   ·obtain⟨e0,e1,f0,f1⟩:=bT ((aE.heap _ xx).trans OP)
    first
    | (simp[go_sem,e0,e1,f0,f1];done)
    | (simp[go_sem,e0,e1,f0,f1];rfl)
   have hO:cN A wl aI:=by rw[hR];exact iB _ _ _ _ _ _
   obtain⟨kK,FL,ey⟩:=ba.only aE xx hO;have gw:=ba.ay;rw[ey] at gw |-;rw[hR,nG ((aE.heap _ xx).trans OP)] at FL;obtain⟨h9,U9⟩:=h6.rN U6 r9 (.inl O2) gw kK;clear hR ba aE hO wl aI ey;refine aA ?_;have Vj:=(kK.2 S (fun e=>tD e.symm)).trans Sj;have Vk:=Sk.keep (o':=o5) (w':=w9) (fun _ q=>q) (fun g hg=>kK.2 g (Sm g hg));refine⟨.inr trivial,trivial,.tuple #[.agg #[.int .i64 0,.string aN],.bool true],p7 (fun n=>?_) (fun n e he=>?_),_,_,_,_,_,_,_,rfl,⟨h9,h.sound,Vj,yE,uv,Vk,Cn,h.Mv⟩,.inr (.inr (.inl ⟨rfl,rfl,rfl,rfl,rfl,.inl ⟨ht,rfl⟩⟩)),U9,fun g hg=>.inl hg⟩
   ·obtain⟨c0,c1,-⟩:=bT (w:=w9.at n) FL;simp[results,results14,go_sem,c0,c1]
   ·obtain⟨c0,c1,-⟩:=bT (w:=w9.at n) FL;simp[results,results14,go_sem,c0,c1] at he;rcases he with rfl|rfl;all_goals exact⟨_,_,_,rfl,xx⟩
  ·simp only[hv];have SQ:=h6.ay;have T6:cK o5 w5 nJ o5 w6 nJ:=cK.of (bu.db (ex:=(·=K.kb)) SQ ⟨q3,q4⟩ rfl) (fun b hb=>by rw[hb,h5.l0];omega);have U6:=(U4.trans ⟨G5.aU.mono (fun b hb=>hb.elim),q2⟩).k T6;have qi:=(G5.aU.same A (h4.ay.lt Lj) id).trans mq;have my:=(G5.aU.same S (h4.ay.lt Er) id).trans O4;have xx:=G5.aU.more _ Lj;have yE:=G5.aU.more _ Er;have r9:=(q2 A (h4.ay.lt Lj)).trans ON;have uv:=(q2 S (h4.ay.lt Er)).trans OO;obtain⟨R7,Dj⟩:=ZP.step Sg (S:=S) (lab':=nJ) ⟨G5.aU.mono (fun b hb=>hb.elim),q2⟩ h4.ay;have OP:=(T6.aU.same A (h5.ay.lt xx) (by rw[r9];omega)).trans qi;have Sj:=(T6.aU.same S (h5.ay.lt yE) (by rw[uv];omega)).trans my;obtain⟨Sk,Cn⟩:=R7.step Dj ((iw.refl (S:=S) h5.ay).k T6) h5.ay;have Sm:∀g,fv.ownBlock=some g->g≠A:=fun g hg=>by have:=h.fC.ay.lt (fO h.fC.ay h.files.cl g hg);omega
   simp only[gN,cZ,if_true,if_false,reduceIte,Nat.reduceEqDiff];refine aA ?_;refine bD aX h6.ay rfl ai ai ?_ rfl (R:=fun wl aI=>aI=(wl.setCell ⟨A,0,none⟩ (.int .i64 0)).setCell ⟨A,1,none⟩ (.string aN)) (fun wl aE=>⟨_,?_,rfl⟩) fun wl aI w9 aE hR ba=>?_
   ·refine dU ?_ ?_
    ·exact aH xx
    ·refine cJ (vs:=[_,_]) (fun x hx=>?_);simp at hx;rcases hx with rfl|rfl
     ·exact bN
     ·exact bf
   ·obtain⟨e0,e1,f0,f1⟩:=bT ((aE.heap _ xx).trans OP)
    first
    | (simp[go_sem,e0,e1,f0,f1];done)
    | (simp[go_sem,e0,e1,f0,f1];rfl)
   have hO:cN A wl aI:=by rw[hR];exact iB _ _ _ _ _ _
   obtain⟨kK,FL,ey⟩:=ba.only aE xx hO;have gw:=ba.ay;rw[ey] at gw |-;rw[hR,nG ((aE.heap _ xx).trans OP)] at FL;obtain⟨h9,U9⟩:=h6.rN U6 r9 (.inl O2) gw kK;clear hR ba aE hO wl aI ey;refine aA ?_;have Vj:=(kK.2 S (fun e=>tD e.symm)).trans Sj;have Vk:=Sk.keep (o':=o5) (w':=w9) (fun _ q=>q) (fun g hg=>kK.2 g (Sm g hg));refine⟨.inr trivial,trivial,.tuple #[.agg #[.int .i64 0,.string aN],.bool true],p7 (fun n=>?_) (fun n e he=>?_),_,_,_,_,_,_,_,rfl,⟨h9,h.sound.tick _,Vj,yE,uv,Vk,Cn,h.Mv.same rfl⟩,.inr (.inr (.inl ⟨rfl,rfl,rfl,rfl,rfl,.inr ⟨ht,rfl⟩⟩)),U9,fun g hg=>.inl hg⟩
   ·obtain⟨c0,c1,-⟩:=bT (w:=w9.at n) FL;simp[results,results14,go_sem,c0,c1]
   ·obtain⟨c0,c1,-⟩:=bT (w:=w9.at n) FL;simp[results,results14,go_sem,c0,c1] at he;rcases he with rfl|rfl;all_goals exact⟨_,_,_,rfl,xx⟩
 refine aA ?_;refine hZ W (t:=false) (by simp[Act.eval,Gc]) ?_;simp only[if_false,reduceIte,Bool.false_eq_true];refine aA ?_;refine hZ W (t:=false) (by simp[Act.eval,VY]) ?_;simp only[if_false,reduceIte,Bool.false_eq_true];refine aA ?_;refine hZ W (t:=false) (by simp[Act.eval,PD]) ?_;simp only[if_false,reduceIte,Bool.false_eq_true];refine aA ?_;refine aP aX h4.ay rfl ai ai ?_ rfl (v:=.pointer (some ⟨K.kb,0,none⟩)) (gG Er d0) fun _=>?_
 ·exact cj (aH Er)
 refine aA ?_;refine aF W rfl ai rfl func38 af rfl aC rfl ((yz h4 h.sound).mono ?_);rintro v5 o5 w5 ⟨s5,nJ,F5,ahi,hw5,u5,h5,T5⟩;have U5:=U4.k T5;have qi:=(T5.aU.same A (h4.ay.lt Lj) (by rw[ON];omega)).trans mq;have my:=(T5.aU.same S (h4.ay.lt Er) (by rw[OO];omega)).trans O4;have xx:=T5.aU.more _ Lj;have yE:=T5.aU.more _ Er;have r9:=(T5.lab A (h4.ay.lt Lj)).trans ON;have uv:=(T5.lab S (h4.ay.lt Er)).trans OO;obtain⟨R7,Dj⟩:=ZP.step Sg ((iw.refl (S:=S) h4.ay).k T5) h4.ay;obtain⟨n,y,hv,JG,hn6,-,hth,-⟩:=hw5.kind;subst hv;have Sm:∀g,fv.ownBlock=some g->g≠A:=fun g hg=>by have:=h.fC.ay.lt (fO h.fC.ay h.files.cl g hg);omega
 unfold did;refine aA ?_;refine cq aX h5.ay rfl ai ai kp rfl (R:=fun wl v aI=>v=.pointer (some ⟨wl.heap.size,0,none⟩)/\aI=wl.alloc (Obj.cells #[.int .i64 0,.string aN] 32)) (fun wl aE=>⟨_,_,by first|(simp[go_sem];done)|(simp[go_sem];rfl),rfl,rfl⟩) fun wl v1 aI w6 aE hR ba=>?_;obtain⟨rfl,hR⟩:=hR;obtain⟨z6,k6,Us⟩:=ba.alloc h5.ay aE hR;obtain⟨W6,Mx⟩:=bu.mn ba.ay z6 k6;rw[aE.size];clear hR ba aE wl aI;obtain⟨Si,h6,T6,hl6,ahj⟩:=h5.grown (cK.refl h5.ay) W6;have hlD:=ahj _ (ag _);have zD:=h5.ay.lt xx;have zDS:=h5.ay.lt yE;have zz5:=U5.aU.size;generalize grow o5 w5 w6=o6 at *;clear z6;have U6:=U5.k T6;have OP:=(T6.aU.same A (h5.ay.lt xx) (by rw[r9];omega)).trans qi;have Sj:=(T6.aU.same S (h5.ay.lt yE) (by rw[uv];omega)).trans my;have Es:=T6.aU.more _ xx;have FK:=T6.aU.more _ yE;have Ll:=(T6.lab A (h5.ay.lt xx)).trans r9;have Dk:=(T6.lab S (h5.ay.lt yE)).trans uv;obtain⟨Sk,Cn⟩:=R7.step Dj ((iw.refl (S:=S) h5.ay).k T6) h5.ay;generalize w5.heap.size=D at *;refine aA ?_;refine bD aX h6.ay rfl ai ai ?_ rfl (R:=fun wl aI=>aI=(wl.setCell ⟨D,0,none⟩ (.int .i64 n)).setCell ⟨D,1,none⟩ (.string y)) (fun wl aE=>⟨_,?_,rfl⟩) fun wl aI w7 aE hR ba=>?_
 ·refine dU ?_ ?_
  ·exact aH Mx
  ·refine cJ (vs:=[_,_]) (fun x hx=>?_);simp at hx;rcases hx with rfl|rfl
   ·exact bN
   ·exact bf
 ·obtain⟨e0,e1,f0,f1⟩:=bT ((aE.heap _ Mx).trans Us)
  first
  | (simp[go_sem,e0,e1,f0,f1];done)
  | (simp[go_sem,e0,e1,f0,f1];rfl)
 have hO:cN D wl aI:=by rw[hR];exact iB _ _ _ _ _ _
 obtain⟨on7,kD7,ey⟩:=ba.only aE Mx hO;have Zr:=ba.ay;rw[ey] at Zr |-;rw[hR,nG ((aE.heap _ Mx).trans Us)] at kD7;obtain⟨h7,U7⟩:=h6.rN U6 hlD (.inl aa) Zr on7;have Jf:=(on7.2 A aa).trans OP;have Sl:=(on7.2 S aa).trans Sj;have hgD:∀g,fv.ownBlock=some g->g≠D:=fun g hg=>by have:=h.fC.ay.lt (fO h.fC.ay h.files.cl g hg);omega
 have YS:=Sk.keep (o':=o6) (w':=w7) (fun _ q=>q) (fun g hg=>on7.2 g (hgD g hg));obtain⟨g0,g1,-⟩:=bT kD7;clear hR ba aE hO wl aI ey;have hDA:D≠A:=aa;refine aA ?_;refine dq mixed af [some (some (.agg #[.int .i64 n,.string y])),some none,some (some (.int .i64 n)),some none,some none,some none,some (some (.int .i64 n)),some none,some none,none,some none]
  (S:=fun σ o' w'=>o6=o'/\bE ar L0 o' w'/\cN A w7 w'/\w'.heap[A]?=some (.cells (if (σ 9).isSome then #[.int .i64 n,.string y] else #[.int .i64 0,.string aN]) 32)) ⟨rfl,Zr,cN.refl,Jf⟩ fun v9=>?_
 refine dp ?_;refine bK aX rfl rfl rfl ai ai (fun σ o' w' H hS=>?_) ?_
 ·obtain⟨rfl,hf,on,-⟩:=hS;have e:=on.2 D hDA;exact⟨hf,cj (aH Mx),fun wl aE=>by simp[go_sem,(aE.cell Mx).trans ((cell_of e).trans g0),(aE.cell Mx).trans ((cell_of e).trans g1)]⟩
 refine bO ?_;refine bK aX rfl rfl rfl ai ai (fun σ o' w' H hS=>?_) ?_
 ·obtain⟨rfl,hf,on,-⟩:=hS;exact⟨hf,cj (aH Mx),gG Mx ((cell_of (on.2 D hDA)).trans g0)⟩
 walk_nrm;refine tM (y:=.bool true) rfl rfl rfl ai (fun w1=>by simp[go_sem,Act.eval,JG]) (fun w1=>by simp[go_sem,Act.eval]) ?_;refine bO ?_;refine bK aX rfl rfl rfl ai ai (fun σ o' w' H hS=>?_) ?_
 ·obtain⟨rfl,hf,on,-⟩:=hS;exact⟨hf,cj (aH Mx),gG Mx ((cell_of (on.2 D hDA)).trans g0)⟩
 walk_nrm;refine tM (y:=.bool true) rfl rfl rfl ai (fun w1=>by simp[go_sem,Act.eval,hn6]) (fun w1=>by simp[go_sem,Act.eval]) ?_;refine bO ?_;refine jg aX rfl rfl rfl ai ai (fun σ o' w' H h9 hS=>?_) ?_
 ·obtain⟨rfl,hf,on,kA⟩:=hS;simp only[h9,Option.isSome_none,Bool.false_eq_true,if_false] at kA;refine⟨hf,fun z hz=>?_,fun wl aI=>aI=(wl.setCell ⟨A,0,none⟩ (.int .i64 n)).setCell ⟨A,1,none⟩ (.string y),fun wl aE=>⟨_,?_,rfl⟩,fun wl aI w8 aE hR ba=>?_⟩
  ·simp[Op.operands] at hz;rcases hz with rfl|rfl
   ·simp[Act.eval];exact aH Es
   ·simp[Act.eval];refine cJ (vs:=[_,_]) (fun x hx=>?_);simp at hx;rcases hx with rfl|rfl
    ·exact bN
    ·exact bf
  ·obtain⟨e0,e1,f0,f1⟩:=bT ((aE.heap _ Es).trans kA);simp[go_sem,Act.eval,e0,e1,f0,f1]
  ·have hO:cN A wl aI:=by rw[hR];exact iB _ _ _ _ _ _
   obtain⟨Aj,UR,ey⟩:=ba.only aE Es hO;have C8:=ba.ay;rw[ey] at C8 |-;rw[hR,nG ((aE.heap _ Es).trans kA)] at UR;exact⟨rfl,C8,⟨Aj.1.trans on.1,fun c hc=>(Aj.2 c hc).trans (on.2 c hc)⟩,by simp[dB,UR]⟩
 refine bO ?_;refine cd fun σ o8 w8 kP hS=>?_;obtain⟨rfl,C8,Aj,UR⟩:=hS;simp only[kP 9 dh rfl,Option.isSome_some,if_true] at UR;clear kP;obtain⟨h8,U8⟩:=h7.rN U7 Ll (.inl O2) C8 Aj;have kS8:=(Aj.2 S (fun e=>tD e.symm)).trans Sl;have ZL:=YS.keep (o':=o6) (w':=w8) (fun _ q=>q) (fun g hg=>Aj.2 g (Sm g hg));simp only[gN,cZ,if_true,if_false,reduceIte,Nat.reduceEqDiff];refine aA ?_;refine⟨.inr trivial,trivial,.tuple #[.agg #[.int .i64 n,.string y],.bool true],p7 (fun n=>?_) (fun n e he=>?_),_,_,_,_,_,_,_,rfl,⟨h8,u5,kS8,FK,Dk,ZL,Cn,h.Mv.same hth⟩,.inr (.inr (.inr ⟨Gc,VY,PD,rfl,rfl,F5,ahi,hw5⟩)),U8,fun g hg=>.inl hg⟩
 ·obtain⟨c0,c1,-⟩:=bT (w:=w8.at n) UR;simp[results,results14,go_sem,c0,c1]
 ·obtain⟨c0,c1,-⟩:=bT (w:=w8.at n) UR;simp[results,results14,go_sem,c0,c1] at he;rcases he with rfl|rfl;all_goals exact⟨_,_,_,rfl,Es⟩
end
section
variable {Fin:bH} {o o' o1 o2 o3:aM} {w w' w1 w2 w3:ae} {S Nb:Nat} {K:sj} {s s' s2:kT} {lab lab' eN gP oI:Nat->Nat} {rv fv YT sv:Value} {fs YU:List (ah×ah)} {ed My:Nat} {since:List ah}
theorem FM{P:Program}{m:Bool}{R:aM->ae->ae->Prop}{Gu:aM->ae->ae->Array Event->Prop}{X:aM->aS->ae->Prop}{fn:FuncId}{Q:Exit->Act->aM->ae->Prop}{a:Act}(W:fg P m R Gu X){x y:Code}(J:Act->aM->ae->Prop)(h1:uJ X fn x (gN J Q) a o w)(h2:∀a' o' w',J a' o' w'->uJ X fn y Q a' o' w'):uJ X fn (.seq x y) Q a o w :=
 qY W (G4 h1 fun e a o w hq=>by
  cases e
  case normal=>exact h2 _ _ _ hq
  all_goals exact hq)
structure IZ(Fin:bH)(w:ae)(p:Option Addr)(b off:Nat)(xs:List (Int×Int×Int)):Prop where
 ptr:xs≠[]->p=some ⟨b,off,none⟩/\wC Fin b/\b<w.heap.size
 at_:∀i (h:i<xs.length),w.cell? ⟨b,off+i*3,none⟩=some (.int .i64 xs[i].1)/\w.cell? ⟨b,off+i*3+1,none⟩=some (.int .i64 xs[i].2.1)/\w.cell? ⟨b,off+i*3+2,none⟩=some (.int .i64 xs[i].2.2)
 Wp:∀x∈xs,(-9223372036854775808<=x.2.1/\x.2.1<=9223372036854775807)/\(-9223372036854775808<=x.2.2/\x.2.2<=9223372036854775807)
 Eu:xs.length*24<=140737488355328
structure WS(o:aM)(w:ae)(S Nb:Nat)(K:sj)(rv:Value)(s:kT)(lab:Nat->Nat)(fv:Value)(fs:List (ah×ah))(ed:Nat)(sv:Value)(since:List ah)(o':aM)(w':ae):Prop where
 dQ:Vg o' w' S K s lab rv fv fs ed
 old:bu (fun _=>False) o w o' w'
 Vm:∀b,b<w.heap.size->7<=lab b
 sge:w.heap.size<=S
 nb:w'.heap[Nb]?=some (.cells iG 9)/\o' Nb/\lab Nb=7/\Nb≠S/\fv.ownBlock≠some Nb
 row:lJ o' w' w.heap.size 9 1 sv since.length (since.map .string)
 Ln:∀g,sv.ownBlock=some g->lab g=7/\g≠S/\g≠Nb/\fv.ownBlock≠some g
theorem WS.go(h:WS o w S Nb K rv s eN fv fs ed sv since o1 w1)(sh:Vg o2 w2 S K s2 gP rv YT YU My)(U:iw S o1 w1 eN o2 w2 gP)(hfv:∀g,YT.ownBlock=some g->fv.ownBlock=some g\/w1.heap.size<=g):WS o w S Nb K rv s2 gP YT YU My sv since o2 w2:=by
 have z1:=h.old.size;have z2:=U.aU.size;obtain⟨n1,n2,n3,n4,n5⟩:=h.nb;have nl:=h.dQ.fC.ay.lt n2;refine⟨sh,⟨U.aU.ay,fun b hb=>U.aU.more b (h.old.more b hb),fun b hb=>(U.aU.new b hb).elim (fun q=>h.old.new b q) fun q=>.inr aa,aa,fun b hb hx=>(U.aU.same b aa ?_).trans (h.old.same b hb hx)⟩,fun b hb=>by rw[U.lab b aa];exact h.Vm b hb,h.sge,⟨(U.aU.same Nb nl (by rw[n3];omega)).trans n1,U.aU.more _ n2,(U.lab Nb nl).trans n3,n4,fun e=>?_⟩,h.row.keep U.aU.more U.aU.size (fun g hg=>?_),fun g hg=>?_⟩
 ·have:=h.Vm b hb;have:=h.sge;omega
 ·rcases hfv Nb e with q|q
  ·exact n5 q
  ·omega
 ·obtain⟨q1,q2,-⟩:=h.Ln g hg;exact U.aU.same g (h.row.lt g hg).2 (by rw[q1];omega)
 ·obtain⟨q1,q2,q3,q4⟩:=h.Ln g hg;refine⟨(U.lab g (h.row.lt g hg).2).trans q1,q2,q3,fun e=>?_⟩;rcases hfv g e with q|q
  ·exact q4 q
  ·have:=(h.row.lt g hg).2;omega
theorem WS.k(h:WS o w S Nb K rv s eN fv fs ed sv since o1 w1)(T:cK o1 w1 eN o2 w2 gP)(hk:bg o2 w2 K s 0 gP):WS o w S Nb K rv s gP fv fs ed sv since o2 w2:=by
 have U:=(iw.refl (S:=S) h.dQ.fC.ay).k T;have sl:=h.dQ.fC.ay.lt h.dQ.own;obtain⟨hf,hl⟩:=h.dQ.files.step h.dQ.Vi U h.dQ.fC.ay;exact h.go ⟨hk,h.dQ.sound,(T.aU.same S sl (by rw[h.dQ.Vh];omega)).trans h.dQ.blk,T.aU.more _ h.dQ.own,(T.lab S sl).trans h.dQ.Vh,hf,hl,h.dQ.Mv⟩ U fun g hg=>.inl hg
theorem WS.grow(h:WS o w S Nb K rv s eN fv fs ed sv since o1 w1)(W:bu (fun _=>False) o1 w1 o2 w2):∃gP,WS o w S Nb K rv s gP fv fs ed sv since o2 w2/\(∀b,b<w1.heap.size->gP b=eN b)/\∀b,w1.heap.size<=b->gP b=7:=by
 obtain⟨gP,h2,T2,Ge,O1⟩:=h.dQ.fC.grown (cK.refl h.dQ.fC.ay) W;exact⟨gP,h.k T2 h2,Ge,O1⟩
theorem WS.nil(h:WS o w S Nb K rv s eN fv fs ed sv since o1 w1):WS o w S Nb K rv s eN fv fs ed (.slice none 0 0) [] o1 w1 :=
 ⟨h.dQ,h.old,h.Vm,h.sge,h.nb,lJ.nil _ _ _ _ _ h.old.size,(fun g hg=>by cases hg)⟩
theorem WS.app{y:Value}{x:ah}(h:WS o w S Nb K rv s eN fv fs ed sv since o1 w1)(q1:lJ (Go.Ren.grow o1 w1 w2) w2 w.heap.size 9 1 y (since++[x]).length ((since++[x]).map .string))(q2:bu (fun b=>sv.ownBlock=some b) o1 w1 (Go.Ren.grow o1 w1 w2) w2)(q3:∀b,y.ownBlock=some b->sv.ownBlock=some b\/w1.heap.size<=b):∃gP,WS o w S Nb K rv s gP fv fs ed y (since++[x]) (Go.Ren.grow o1 w1 w2) w2/\∀b,b<w1.heap.size->gP b=eN b:=by
 have hq:∀b,b<w1.heap.size->(if b<w1.heap.size then eN b else 7)=eN b:=fun b hb=>if_pos hb;have hk:=(h.dQ.fC.Ix fun b hb=>hq b (h.dQ.fC.ay.lt hb)).aside q2 (fun b hb=>by rw[hq b (h.row.lt b hb).2];exact(h.Ln b hb).1);have sl:=h.dQ.fC.ay.lt h.dQ.own;have z1:=h.old.size;have z2:=q2.size;obtain⟨n1,n2,n3,n4,n5⟩:=h.nb;have nl:=h.dQ.fC.ay.lt n2;have fl:∀g,fv.ownBlock=some g->g<w1.heap.size:=fun g hg=>h.dQ.fC.ay.lt (fO h.dQ.fC.ay h.dQ.files.cl g hg);refine⟨_,⟨⟨hk,h.dQ.sound,(q2.same S sl fun e=>(h.Ln S e).2.1 rfl).trans h.dQ.blk,q2.more _ h.dQ.own,(hq S sl).trans h.dQ.Vh,h.dQ.files.keep q2.more fun g hg=>q2.same g (fl g hg) fun e=>(h.Ln g e).2.2.2 hg,fun g hg=>⟨(hq g (fl g hg)).trans (h.dQ.Vi g hg).1,(h.dQ.Vi g hg).2⟩,h.dQ.Mv⟩,⟨q2.ay,fun b hb=>q2.more b (h.old.more b hb),fun b hb=>(q2.new b hb).elim (fun q=>h.old.new b q) fun q=>.inr aa,aa,fun b hb hx=>(q2.same b aa fun e=>?_).trans (h.old.same b hb hx)⟩,fun b hb=>by rw[hq b aa];exact h.Vm b hb,h.sge,⟨(q2.same Nb nl fun e=>(h.Ln Nb e).2.2.1 rfl).trans n1,q2.more _ n2,(hq Nb nl).trans n3,n4,n5⟩,q1,fun g hg=>?_⟩,hq⟩
 ·have:=(h.row.lt b e).1;omega
 ·rcases q3 g hg with q|q
  ·obtain⟨k1,k2,k3,k4⟩:=h.Ln g q;exact⟨(hq g (h.row.lt g q).2).trans k1,k2,k3,k4⟩
  ·exact⟨if_neg aa,aa,aa,fun e=>by have:=fl g e;omega⟩
structure yF(s:kT)(since:List ah):Prop where
 waits:∀x∈since,x∈s.qn\/s.lost=true
 fresh:∀x∈s.qn,x∈since
theorem yF.add{x:ah}(h:yF s since)(hs:Sound K s)(e1:s2.qn=(iX s.qn s.lost x).1)(e2:s2.lost=(iX s.qn s.lost x).2):yF s2 (since++[x]):=by
 obtain⟨q1,q2,q3,q4,q5,q6⟩:=Cf (x:=x) hs.once hs.lost;refine⟨fun y hy=>?_,fun y hy=>?_⟩
 ·rw[e1,e2];rcases List.mem_append.1 hy with hy|hy
  ·rcases h.waits y hy with q|q
   ·exact .inl (q4 y q)
   ·exact .inr (q6 q)
  ·simp at hy;rw[hy];exact q5
 ·rw[e1] at hy;rcases q3 y hy with rfl|q
  ·simp
  ·exact List.mem_append_left _ (h.fresh y q)
theorem yF.step{kd a b n:Int}{y:ah}(h:yF s since)(hs:Sound K s)(st:Sf K kd a b s s2 fs YU ed My n y):(My=ed+1/\n=0/\yF s2 (since++[iv a]))\/(My=ed/\(n=1->yF s2 [])/\(n≠1->yF s2 since)):=by
 rcases st with⟨-,e1,-,e2,-,rE,rfl⟩|⟨-,e1,-,-,⟨-,e2,rE,rfl⟩|⟨-,e2,rfl⟩⟩|⟨-,e1,-,-,e2,q⟩|⟨-,-,-,-,e2,F,-,hw⟩
 ·exact .inl ⟨e2,e1,h.add hs rfl rfl⟩
 ·exact .inl ⟨e2,e1,h.add hs rfl rfl⟩
 ·exact .inr ⟨e2,fun q=>aa,fun _=>h⟩
 ·refine .inr ⟨e2,fun q=>aa,fun _=>?_⟩;rcases q with⟨-,rfl⟩|⟨-,rfl⟩
  ·exact h
  ·exact⟨h.waits,h.fresh⟩
 ·obtain⟨n',y',e,-,-,hq,-⟩:=hw.kind;have en:n=n':=by
   unfold did at e;injection e with e;have:=congrArg (fun a=>a[0]?) e;simp at this;exact this
  refine .inr ⟨e2,fun q=>?_,fun q=>?_⟩
  ·rcases hq with⟨-,k1,k2⟩|⟨k,-⟩
   ·exact⟨an,by rw[k1];simp⟩
   ·omega
  ·rcases hq with⟨k,-⟩|⟨-,k1,k2⟩
   ·omega
   ·exact⟨by rw[k1,k2];exact h.waits,by rw[k1];exact h.fresh⟩
end
end Go.Proofs.Kz
namespace Go.Ren
open Go.Conc Go.ConcN
def Et(P:Program)(X:aM->aS->ae->Prop)(f:FuncId)(fc:Func)(vs:Array Value)(o:aM)(w:ae)(Post:Value->aM->ae->Prop):Prop :=
 ∃c,fc.body=some c/\uJ X f c (fun e a' o' w'=>(e=.normal\/e=.ret)/\a'.defers=[]/\∃v,ResultsC P fc a'.tmps v/\Post v o' w') {tmps:=vs++Array.replicate (fc.ntmps-vs.size) undef,defers:=[]} o w
section
variable {P:Program} {m:Bool} {R:aM->ae->ae->Prop} {Gu:aM->ae->ae->Array Event->Prop} {X:aM->aS->ae->Prop} {o:aM} {w:ae}
theorem Et.top(W:fg P m R Gu X){f:FuncId}{fc:Func}{vs:Array Value}{Post:Value->aM->ae->Prop}(hf:P.funcs[f]?=some fc)(h:Et P X f fc vs o w Post)(hc:∀(a':Act) (o':aM) (w':ae) (todo:List Item) (v:Value),a'.defers=[]->ResultsC P fc a'.tmps v->Post v o' w'->X o' (G {(base f).at a' todo with mode:=.returning} []) w'):
  X o (G (Frame.enter P f vs .normal) []) w:=by
 obtain⟨c,fo,h⟩:=h;rw[ij hf fo];refine h (base f) [] [] rfl (by simp[base]) fun e a' o' w' q=>?_;obtain⟨he,hd,v,hr,hx⟩:=q;rcases he with rfl|rfl
 ·exact W.go rfl (fun _=>dG) (hc a' o' w' [] v hd hr hx)
 ·exact fun todo=>hc a' o' w' todo v hd hr hx
theorem zM{b:Frame}{a:Act}{fn:Func}{todo:List Item}{v:Value}(hi:P.inits.idxOf? b.fn=none)(hn:b.kind=.normal)(hd:a.defers=[])(hf:P.funcs[b.fn]?=some fn)(hr:(results fn a.tmps).run P w=.ok v w)(he:(results fn a.tmps).events P w #[]=#[]):
  stepG P true (G {b.at a todo with mode:=.returning} []) w=.ended (.done v) w #[]:=by
 simp[G,stepG,unwind,doReturn,Frame.at,hn,hd,hf,hr,he,hi,GStep.after,seen_none]
end
section
variable {P:Program}
theorem I0{S:Nat->Prop}{Post:Value->ae->Prop}{a:aS}{W:ae}(hS:∀b,W.heap.size<=b->¬S b)(h:BX P (Qi P Post) 0 S a W):
  ∃N last o w' t',runNT P (N+1) (solo a W) #[]=(.ended o w',t')/\runN P N (solo a W)=.next last/\step P last=.ended o w'/\Conc.Good P Post last o w' t':=by
 have VH:lN 0 S #[]:=⟨past_nil.clean,fun i a ha=>by simp[touchAt,Trace.act?] at ha,past_nil.over,rfl⟩;obtain⟨N,gs,w,sl,t,q,S,g,k1,k2,k3,k4,_,k6⟩:=h #[a] none #[] (fun _=>0) rfl (leavers_one P a) VH hS;obtain⟨B,hB⟩:=k4.Pw;obtain⟨N2,last,o,w',t',l1,l2,l3,l4⟩:=beside_ends (P:=P) (Shun:=sK S) (B:=B+0) (D:=fun _ _ _=>False) (Post:=Post) (n:=0) (sl:=sl) (fun _ _ _ hf=>hf.elim) k2 k3 (hB 0) (fun w1 hw=>by
  obtain⟨h1,v,h2,h3⟩:=k6 w1 hw;exact⟨h1,v,#[],h2,an,h3⟩)
 refine⟨N+N2,last,o,w',t',?_,?_,l3,l4⟩
 ·rw[de,runNT_add,solo_eq_crowd,k1];exact l1
 ·rw[runN_add,solo_eq_crowd,<- runNT_fst P _ _ #[],k1];exact l2
theorem FN{f:FuncId}{fc:Func}{vs:Array Value}{o:aM}{W:ae}{Q:Value->aM->ae->Prop}(A:Nat->Prop)(hA:∀b,A b->b<W.heap.size)(hf:P.funcs[f]?=some fc)(hi:P.inits.idxOf? f=none)(h:∀Fin,(∀b,A b->wC Fin b)->Et P (XB P Fin 0) f fc vs o W Q):
  ∃N last o' w' t',runNT P (N+1) (solo (G (Frame.enter P f vs .normal) []) W) #[]=(.ended o' w',t')/\runN P N (solo (G (Frame.enter P f vs .normal) []) W)=.next last/\step P last=.ended o' w' /\
   Conc.Good P (fun v w'=>(∃o1 w1,w'.heap=w1.heap/\Q v o1 w1)/\w'.os=W.os/\w'.output=W.output) last o' w' t':=by
 have nT:∀{w1 w2:ae},AtRel w1 w2->w2.heap=w1.heap/\w2.os=w1.os/\w2.output=w1.output:=fun hx=>by obtain⟨d,rfl⟩:=hx;exact⟨rfl,rfl,rfl⟩
 let F:bH:=fun S g w=>Qi P (fun v w'=>∃o1 w1,w'.heap=w1.heap/\Q v o1 w1) S g w/\(∀b,A b->¬S b)\/w.output≠W.output/\∀b,A b->¬S b;have hL:∀b,A b->wC F b:=fun b hb S g w hx=>hx.elim (fun k=>k.2 b hb) fun k=>k.2 b hb;have hB:sU F W:=fun b hb=>eP fun hle=>hb (fun x=>x=b) (G (Frame.enter P f vs .normal) []) {W with output:=W.output.push (0,ByteArray.empty)} (.inr ⟨fun e=>by have:=congrArg (fun x=>x.size) e;simp at this,fun x hx e=>by have:=hA x hx;omega⟩) rfl;have hx:XB P F 0 o (G (Frame.enter P f vs .normal) []) W :=
  Et.top bJ hf (h _ hL) fun a' o' w' todo v hd hr hq=>(fun _=>zF.fin fun w1 hw=>⟨.inl ⟨fun w2 zP=>⟨rfl,v,zM hi rfl hd hf (hr w2).1 (hr w2).2,o',w',(nT (atRel_trans _ _ _ hw zP)).1,hq⟩,fun b hb hs=>hs.2.2 (hL b hb)⟩,(nT hw).2⟩)
 refine I0 (S:=DW F o W) (fun b hb hx=>by have:=hx.1;omega) ((hx hB).bx.mono fun S g w hw=>?_);intro w1 h1;obtain⟨k1,v,k2,k3⟩:=(hw.1.resolve_right fun k=>k.1 hw.2.2).1 w1 h1;exact⟨k1,v,k2,k3,(nT h1).2.1.trans hw.2.1,(nT h1).2.2.trans hw.2.2⟩
end
end Go.Ren
namespace Go
open Go.Conc
section
open Go.ConcM
section
variable {H:Type} {enc:TypeId×Value->H}
theorem lS{a:Assume}{C:Checked}{os:Os}{f:FuncId}{fn:Func}{s:ChangeSpec}{F:Stop.Interp}{conds:List PathCond}{apart fresh handsOn:Bool}{laid:List (String×DataW Unit)}(own:ownKnob C.prog.godebug=none)(started:os.Started)(pZ:C.prog.funcs[f]?=some fn)(witness:∃(w:ae) (tape:Tape) (i:Input),w.os=os/\(w.forCall tape i).Shaped C.prog/\i.vars=[]/\Input.okWide C.prog (w.forCall tape i) .any w.heap.size f i /\
   ((s.pre enc C.prog fn conds apart (w.forCall tape i).memory i.args/\laidMetH C.prog laid (w.forCall tape i).memory)/\sizedMet enc C.prog fn (OpenSpec.ofChange s) apart (w.forCall tape i).memory i.args)/\a.holds C.prog (lone (Frame.enter C.prog f i.args .normal) [] (w.forCall tape i)))(runs:∀(W:ae) (base:Nat) (args:Array Value) (ds gs:List (DataW H)) (before:List MemPlace),
   (∀(j:Nat) t v,fn.params[j]?=some t->args[j]?=some v->Value.okWide C.prog W .any base t v) ->
   DataW.Whole enc C.prog fn.params.toList s.vars apart W args.toList ds gs before ->
   (DataW.weightsEach C.prog (fn.params.toList++s.plain.varTypes C.prog) (ds++gs)).all (·<=reachBytes)=true ->
   laidMetH C.prog laid W->W.ShapedOpen C.prog ->
   ∃M last o w' t',runNT C.prog (M+1) (solo (G (Frame.enter C.prog f args .normal) []) W) #[]=(.ended o w',t')/\runN C.prog M (solo (G (Frame.enter C.prog f args .normal) []) W)=.next last /\
    step C.prog last=.ended o w'/\Conc.Good C.prog (fun v W'=>s.post enc C.prog fn apart fresh handsOn false W args v {W' with os:=W.os}/\OsLater W.os W'.os) last o w' t'):
  ReturnsInLeavingWide a C os f .any (fun w args=>(s.pre enc C.prog fn conds apart w args/\laidMetH C.prog laid w)/\sizedMet enc C.prog fn (OpenSpec.ofChange s) apart w args) ((OpenSpec.ofChange s).postWith enc C.prog fn F (outsideKept [.timePasses]) apart fresh handsOn):=by
 refine returnsInLeavingWide_of_good own started witness ?_;intro w tape i _ se _ ja OE ahl;obtain⟨_,_,_,fn',ahm,_,_,_,_,ow⟩:=ja;have e:fn'=fn:=aK (ahm.symm.trans pZ);subst e;obtain⟨⟨⟨ds,gs,before,hw,hc⟩,hl⟩,hz⟩:=OE;have hw':=DataW.Whole.of_heap (w':=w.forCall tape i) ai hw;obtain⟨M,last,o,w',t',h1,h2,h3,h4⟩:=runs (w.forCall tape i) w.heap.size i.args ds gs before ow hw' (hz.weights hw) (laidMetH.of_heap ai hl) se;obtain⟨v,e,hp,r1,r2,r3,r4⟩:=h4;exact⟨M,last,o,w',t',h1,h2,h3,v,e,postWith_blind (postWith_of_post hp.1 hp.2),r1,r2,r3,r4⟩
theorem ChangeSpec.FO{C:Checked}{os:Os}{f:FuncId}{fn:Func}{s:ChangeSpec}{conds:List PathCond}{apart:Bool}{laid:List (String×DataW Unit)}(w0:ae)(args:Array Value)(fuel:Nat)(WH:w0.os=os)(se:(w0.forCall (fun _ _=>0) ⟨#[],args,[]⟩).Shaped C.prog)(ja:Input.okWideB C.prog (w0.forCall (fun _ _=>0) ⟨#[],args,[]⟩) f ⟨#[],args,[]⟩=true)(OE:s.preB enc C.prog fn conds apart (w0.forCall (fun _ _=>0) ⟨#[],args,[]⟩).memory args fuel=true)(ft:s.sizedB enc C.prog fn apart (w0.forCall (fun _ _=>0) ⟨#[],args,[]⟩).memory args fuel=true)(hx:laidMetH C.prog laid (w0.forCall (fun _ _=>0) ⟨#[],args,[]⟩).memory):
  ∃(w:ae) (tape:Tape) (i:Input),w.os=os/\(w.forCall tape i).Shaped C.prog/\i.vars=[]/\Input.okWide C.prog (w.forCall tape i) .any w.heap.size f i /\
   ((s.pre enc C.prog fn conds apart (w.forCall tape i).memory i.args/\laidMetH C.prog laid (w.forCall tape i).memory)/\sizedMet enc C.prog fn (OpenSpec.ofChange s) apart (w.forCall tape i).memory i.args)/\({calm:=true}:Assume).holds C.prog (lone (Frame.enter C.prog f i.args .normal) [] (w.forCall tape i)) :=
 ⟨w0,fun _ _=>0,⟨#[],args,[]⟩,WH,se,(Input.okWide_of_okWideB (base:=0) ja).1,(Input.okWide_of_okWideB ja).2,⟨⟨ChangeSpec.pre_of_preB OE,hx⟩,sizedMet_of_sizedB ft⟩,by
  simp only[Assume.holds];exact⟨an,fun _ _ _ _=>rfl,an,an,an⟩⟩
end
end
end Go
namespace Go.Proofs.Kz
open Go.Proofs.Tryz
open Go.Proofs.Tryz renaming prog → ar
open _root_.ByteArray renaming empty → aN
open Go.Ren Go.Conc Go.Proofs Go.ConcN
open Go.ConcR (Payload)
section
open Go.ChangeShapes Go.WideShapes Go.Deep Go.RowKit Go.ConcM
section
variable {Fin:bH} {W:ae}
theorem uZ.of{p:Option Addr}{b off:Nat}{rw:List FF}(hL:∀b,b<W.heap.size->wC Fin b)(h1:rw≠[]->p=some ⟨b,off,none⟩/\b<W.heap.size)(h2:∀i (h:i<rw.length),Mr W ⟨b,off,none⟩ i rw[i])(h3:rw.length<=9223372036854775807):uZ Fin W p b off rw:=by
 have hm:∀r∈rw,∃i,Mr W ⟨b,off,none⟩ i r:=fun r hr=>by
  obtain⟨i,hi,rfl⟩:=a8 hr;exact⟨i,h2 i hi⟩
 refine⟨fun q=>⟨(h1 q).1,hL _ (h1 q).2,(h1 q).2⟩,fun i hi=>?_,fun r hr=>?_,fun r hr=>?_,h3,fun r hr=>?_⟩
 ·have c0:=(h2 i hi).c0;have c1:=(h2 i hi).c1;rw[Cg] at c0 c1;exact⟨c0,by rw[de];exact c1⟩
 ·obtain⟨i,h⟩:=hm r hr;exact⟨fun q=>⟨(h.ptr q).1,hL _ (h.ptr q).2,(h.ptr q).2⟩,h.ins⟩
 ·obtain⟨i,h⟩:=hm r hr;exact h.Wp
 ·obtain⟨i,h⟩:=hm r hr;exact h.Eu
theorem IZ.of{p:Option Addr}{b off:Nat}{xs:List (Int×Int×Int)}(hL:∀b,b<W.heap.size->wC Fin b)(h1:xs≠[]->p=some ⟨b,off,none⟩/\b<W.heap.size)(h2:∀i (h:i<xs.length),Lh W ⟨b,off,none⟩ i xs[i])(h3:xs.length*24<=140737488355328):IZ Fin W p b off xs:=by
 refine⟨fun q=>⟨(h1 q).1,hL _ (h1 q).2,(h1 q).2⟩,fun i hi=>?_,fun x hx=>?_,h3⟩
 ·have c0:=(h2 i hi).c0;have c1:=(h2 i hi).c1;have c2:=(h2 i hi).c2;rw[Cg] at c0 c1 c2;exact⟨c0,by rw[de];exact c1,by rw[de];exact c2⟩
 ·obtain⟨i,hi,rfl⟩:=a8 hx;exact(h2 i hi).Wp
end
def xy(f:FuncId)(fc:Func):Prop :=
 ∀(Fin:bH) (o:aM) (w:ae),bE ar L0 o w->jB w->∀(p:Option Addr) (b off c:Nat) (rw:List FF),uZ Fin w p b off rw->∀(q:Option Addr) (qb Dl d:Nat) (xs:List (Int×Int×Int)),IZ Fin w q qb Dl xs ->
  Et ar (XB ar Fin 0) f fc #[.slice p rw.length c,.slice q xs.length d] o w fun v o' w'=>v=.bool true/\bu (fun _=>False) o w o' w'
def Sn:List (String×DataW Unit):=[("math/bits.deBruijn32tab",YtgjekaaknjgnmaaGreatDoor.Rows.laid_math_bits_deBruijn32tab),("math/bits.deBruijn64tab",YtgjekaaknjgnmaaGreatDoor.Rows.laid_math_bits_deBruijn64tab),("internal/strconv.uint64pow10",YtgjekaaknjgnmaaGreatDoor.Rows.laid_internal_strconv_uint64pow10)]
theorem Sp:ownKnob ar.godebug=none:=af
theorem I1:laidOutB ar=true:=af
theorem Sq(os:Os)(args:Array Value):laidMetH ar Sn ((World.doorLaid ar 400 os).forCall (fun _ _=>0) ⟨#[],args,[]⟩).memory :=
 laidMetH_of_parts3 (fuel:=8) (laidMet_of_run' 8 af af) af af
section
variable {H:Type} {enc:TypeId×Value->H}
theorem Sr{f:FuncId}{fc:Func}{s:ChangeSpec}(hf:ar.funcs[f]?=some fc)(hi:ar.inits.idxOf? f=none)(hp:fc.params=#[25,26])(hr:fc.resultTypes=#[4])(hv:s.vars=[])(hs:∀(H:Type) (d1 d2:DataW H),s.fn H [d1,d2]={results:=[.lit (.bool true)],args:=[d1,d2]})(hb:xy f fc)(W:ae)(base:Nat)(args:Array Value)(ds gs:List (DataW H))(before:List MemPlace)(ow:∀(j:Nat) t v,fc.params[j]?=some t->args[j]?=some v->Value.okWide ar W .any base t v)(hW:DataW.Whole enc ar fc.params.toList s.vars false W args.toList ds gs before)(hwt:(DataW.weightsEach ar (fc.params.toList++s.plain.varTypes ar) (ds++gs)).all (·<=reachBytes)=true)(acZ:laidMetH ar Sn W)(se:W.ShapedOpen ar):
  ∃M last o w' t',runNT ar (M+1) (solo (G (Frame.enter ar f args .normal) []) W) #[]=(.ended o w',t')/\runN ar M (solo (G (Frame.enter ar f args .normal) []) W)=.next last /\
   step ar last=.ended o w'/\Conc.Good ar (fun v W'=>s.post enc ar fc false true false false W args v {W' with os:=W.os}/\OsLater W.os W'.os) last o w' t':=by
 have hW':=hW;obtain⟨p,q,hA,hV,rfl,hfz,qZ⟩:=hW;rw[hp] at hA ow;rw[hv] at hV;obtain⟨v0,v1,d0,d1,p0,p1,rfl,rfl,rfl,h0,h1⟩:=trodAll_two hA;obtain⟨rfl,rfl⟩:=trodVars_none hV;have hvt:s.plain.varTypes ar=[]:=by simp[ChangeSpec.plain,DataSpec.varTypes,hv]
 rw[hp,hvt] at hwt;have pO:∀x∈d1.weights ar 26,x<=reachBytes:=fun x hx=>by
  have:=List.all_eq_true.1 hwt x (by simp[DataW.weightsEach,hx]);simpa using this
 obtain⟨rp,rb,ahn,aho,rw,e0,r1,r2,r3⟩:=R2 (ow 0 _ v0 rfl rfl) h0;obtain⟨sp,sb,ahp,ahq,xs,e1,s1,s2,s3⟩:=R4 (ow 1 _ v1 rfl rfl) h1 pO;obtain⟨M,last,o,w',t',k1,k2,k3,v,ev,⟨⟨o1,w1,eh,rfl,Wu⟩,eos,ahr⟩,g1,g2,g3,g4⟩:=FN (P:=ar) (vs:=#[v0,v1]) (o:=fun b=>b<4) (W:=W) (Q:=fun v o' w'=>v=.bool true/\bu (fun _=>False) (fun b=>b<4) W o' w') (fun b=>b<W.heap.size) (fun b hb=>hb) hf hi (fun Fin hL=>by
  rw[e0,e1];exact hb Fin _ W (Oq se) (KV rfl acZ) rp rb ahn aho rw (uZ.of hL r1 r2 r3) sp sb ahp ahq xs (IZ.of hL s1 s2 s3))
 refine⟨M,last,o,w',t',k1,k2,k3,_,ev,⟨?_,0,by rw[eos];rfl⟩,g1,g2,g3,g4⟩;have YV:Below W.heap.size W {W with heap:=w'.heap}:=⟨rfl,rfl,rfl,by show W.heap.size<=w'.heap.size;rw[eh];exact Wu.size,fun k hk=>by show w'.heap[k]?=_;rw[eh];exact Wu.same k hk id⟩;have bZ:∀x∈p0++p1,x.block<W.heap.size:=hA.lt;have sS:DataW.TrodAll enc ar {W with heap:=w'.heap} 0 (fun b=>decide (b<W.heap.size)) true [25,26] [v0,v1] [d0,d1] (p0++p1) :=
  trodAll_mk2 (Below.trod I1 af (jr af) h0 YV fun x hx=>bZ x (List.mem_append_left _ hx)) (Below.trod I1 af (jr af) h1 YV fun x hx=>bZ x (List.mem_append_right _ hx))
 have hk:=YV.frame (fun p=>p∈p0++p1++[]/\(p∈([]:List MemPlace)\/p∈p0++p1\/p∈([]:List MemPlace)));refine⟨_,_,_,[],p0++p1,[],hW',?_,?_,?_,⟨rfl,ahr,hk.2.2⟩,fun h=>by cases h⟩
 ·rw[show([d0,d1]++[]:List (DataW H))=[d0,d1] from rfl,hs,hr];exact trodAll_mk1 (shut_bool underlying4 _)
 ·rw[show([d0,d1]++[]:List (DataW H))=[d0,d1] from rfl,hs,hp];exact sS.of_heap ai
 ·rw[show([d0,d1]++[]:List (DataW H))=[d0,d1] from rfl,hs,hv];rfl
end
theorem OR(Lk:Looks){p:Pinned}{s:OpenSpec}{c:OpenClaim}(kinds:List LaidKind)(Ss:Bool)(YW:Bool×String)(lk:Bool)(hc:c.holds p s)(hw:c.wfByText s=true)(ahs:c.laidByTextAt Lk p kinds Ss)(dW:c.start=.entering)(EK:c.noBlocks=false/\c.again=false)(hm:p.checked.prog.mainIs=some (YW.1,YW.2.toList))(hn:(!YW.1&&YW.2.isEmpty&&!lk)=false)(hl:∀f fn,p.checked.prog.funcNamed c.func=some f->p.checked.prog.funcs[f]?=some fn->lk=p.checked.prog.looks []/\∀(j:Nat) t,fn.params[j]?=some t->p.checked.prog.wantsStandIn t=false)(hg:true=c.goesBy p.checked.prog):
  Claim7.holds p (.plain s) {stood:={row:=c,standIns:=[],harness:=YW,looks:=lk},kinds:=[],alts:=[],goes:=true,laidByText:=true,laidKinds:=kinds,laidTests:=Ss,laidLooks:=Lk}:=by
 have h6:∀r:OpenClaim,Claim7.isSixth {stood:={row:=r,standIns:=[],harness:=YW,looks:=lk},kinds:=[]}=false:=fun r=>by simpa[Claim7.isSixth] using hn
 exact⟨Claim7.tied_new_at Lk kinds Ss (Claim7.new_of_sixth hc YW lk dW EK hm (h6 c) hl) hw,(fun D hD=>by cases hD),ahs,(fun h=>by cases h),hg⟩
end
end Go.Proofs.Kz
