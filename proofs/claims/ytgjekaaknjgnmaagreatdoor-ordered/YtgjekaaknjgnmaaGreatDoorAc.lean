import Derived.Test.YtgjekaaknjgnmaaGreatDoorAb
import Derived.Conc.CompanyDraw
import Derived.Conc.CompanyMem
import Derived.Conc.CompanyWords
import Derived.Conc.DeferLaws
import Derived.Conc.EntryLaws
import Derived.Conc.Listed
import Derived.Conc.MarkLaws
import Derived.Conc.WgGenN3
import Derived.Deep.OwnRows
set_option linter.all false
set_option maxHeartbeats 40000000
set_option maxRecDepth 200000
namespace Go.Ren
open Go.Conc Go.ConcN
section
open Go.ConcR (KK wgBlock WgAt stA smA rd wr Payload DC0 Bk g_of_ofEvents loc_of_ofEvent ofEvent_loc_mark)
variable [Payload]
theorem Ix(t:Trace):∃M,∀op∈t,op.act.low M:=by
 have one:∀x:MemAct,∃M,x.low M:=by
  intro x;cases x with
  |access e =>
   obtain⟨loc,p6,sy⟩:=e;cases loc with
   |cell a=>exact⟨a.block+1,bH _⟩
   |obj r=>exact⟨r+1,bH _⟩
   |_=>exact⟨0,trivial⟩
  |mark m =>
   cases m
   case acquire a=>exact⟨a.block+1,bH _⟩
   case release a=>exact⟨a.block+1,bH _⟩
   case releaseMerge a=>exact⟨a.block+1,bH _⟩
   case read a=>exact⟨a.block+1,bH _⟩
   case write a=>exact⟨a.block+1,bH _⟩
   all_goals exact⟨0,trivial⟩
  |go _=>exact⟨0,trivial⟩
  |start=>exact⟨0,trivial⟩
  |send c _=>exact⟨c+1,bH _⟩
  |sendDone c _=>exact⟨c+1,bH _⟩
  |recv c _ _=>exact⟨c+1,bH _⟩
  |recvDone c _=>exact⟨c+1,bH _⟩
  |close c=>exact⟨c+1,bH _⟩
  |recvClosed c=>exact⟨c+1,bH _⟩
 have key:∀l:List MemOp,∃M,∀op∈l,op.act.low M:=by
  intro l
  induction l with
  |nil=>exact⟨0,aj⟩
  |cons z l ih =>
   obtain⟨M,hM⟩:=ih;obtain⟨M',hM'⟩:=one z.act;refine⟨M+M',fun op eP=>?_⟩;simp only[bJ] at eP;rcases eP with rfl|eP
   ·exact MemAct.low_mono aa hM'
   ·exact MemAct.low_mono aa (hM op eP)
 obtain⟨M,hM⟩:=key t.toList;exact⟨M,fun op eP=>hM op (by simpa using eP)⟩
def RY(w:ae):jG->jG
 | .inl (S,x)=>.inl (S,{x with w:=w})
 | .inr m=>.inr m
section
variable {P:Program} {T:dm} {V:Nat->ae->Prop} {fa:Nat->(Nat->Prop)->ae->Prop} {cO Fin:eQ} {t0:Trace} {w0:ae}
 {gs:Array aX} {w w':ae} {t:Trace} {S S':jF} {D:Nat->WD} {x:Nat->lJ} {tag:CTag} {a:aX} {y:jG} {st sm:Int} {sl:Option (Nat×Nat)}
theorem KM.rely(hV:ky T V fa){i:Nat}{o rc:Nat->Prop}{cl:Nat->Option Nat}{d:WD}{ld:lJ}{g:aX}{w w':ae}(h:KM P T V fa i o rc cl d ld g w)(hr:cW T i o rc w w'):
  iT T (mA w' ld) ld/\KM P T V fa i o rc cl d (mA w' ld) g w':=by
 rcases h with⟨h1,h2,h3,g0,tr,h4,h5,h6⟩|⟨h1,h2,h3,C,v,h4,h5,h6⟩
 ·refine⟨by rw[h4];exact⟨rfl,rfl,rfl,rfl,rfl,hr⟩,.inl ⟨h1,h2,h3,g0,tr,by rw[h4];rfl,h5.rely hr,?_⟩⟩;exact h6.imp id fun⟨q1,k,z,f,q2,q3,q4⟩=>⟨q1,k,z,f,q2,fun w1 qW=>q3 w1 (hr.trans qW),q4⟩
 ·have oz:∀a,T.jW i (.cell a)->w'.cell? a=w.cell? a:=fun a ha=>hr.mine a (.inl ha);have e2:mA w' ld=ld:=by rw[h2];rfl
  rw[e2];exact⟨iT.refl ld,.inr ⟨h1,h2,hV.v i w w' oz h3,C,v,h4,h5.rely (hr.rw h4),hV.val i _ w w' oz (fun b hb=>hr.own b hb.1) h6⟩⟩
theorem gl.at(hV:ky T V fa)(h:gl P T V fa cO Fin t0 w0 gs w t S D x tag a y st sm)(d:Nat):
  gl P T V fa cO Fin t0 w0 gs (w.at d) t S D (fun k=>mA (w.at d) (x k)) tag a (RY (w.at d) y) st sm/\∀k,iT T (mA (w.at d) (x k)) (x k):=by
 have Iu:jL P T V fa cO Fin tag (S.own 0) a (w.at d) (RY (w.at d) y):=by
  by_cases hb:tag=.blk
  ·subst hb;obtain⟨a0,h1,h2,h3⟩:=h.Lv;exact⟨a0,h1,fun w1 qW=>h2 w1 ((dL.at w d).trans qW),by rw[h3];rfl⟩
  ·have hs:=h.Lv;rw[jL.eq hb] at hs |-;exact⟨hs.1.rely (dL.at w d),by rw[hs.2];rfl⟩
 refine⟨⟨h.size,h.EZ,Iu,h.tZ,fun k k0 km=>?_,fun k hk=>?_,fun k hk=>by rw[h.rest k hk];rfl,by rw[h.zero];rfl,h.deafW,h.above,h.ti,h.tg,h.lt,h.h0,h.wg,h.mode,h.chan,h.UG,h.Ze,h.UE,h.rel,h.norel,h.UC,h.ext,h.same.trans (dL.at w d),⟨h.DJ.DJ,h.DJ.idle⟩,h.idle0⟩,fun k=>?_⟩
 ·obtain⟨g,q,h1,h2,h3⟩:=h.old k k0 km;exact⟨g,q,h1,by rw[h2];rfl,h3⟩
 ·obtain⟨g,h1,h2⟩:=h.wk k hk;exact⟨g,h1,(h2.rely hV (cW.at w d)).2⟩
 ·rcases bg k with rfl|nt
  ·rw[h.zero];exact rfl
  ·rcases b5 k T.m0 with qe | Pf
   ·obtain⟨gk,q,_,h2,_⟩:=h.old k nt qe;rw[h2];exact rfl
   ·rcases b5 k (T.m0+S.j) with QX|DK
    ·obtain⟨g,_,h2⟩:=h.wk (k-T.m0) aa;have:=(h2.rely hV (cW.at w d)).1;rw[show T.m0+(k-T.m0)=k by omega] at this;exact this
    ·rw[h.rest k DK];exact rfl
theorem mK.back{y' y'':jG}(h:gl P T V fa cO Fin t0 w0 gs w t S D x tag a y st sm)(d:Nat)(k:mK P T y'' (RY (w.at d) y)):mK P T y'' y:=by
 by_cases hb:tag=.blk
 ·subst hb;obtain⟨a0,_,_,h3⟩:=h.Lv;rw[h3] at k |-;exact k
 ·have hs:=h.Lv;rw[jL.eq hb] at hs;rw[hs.2] at k |-;rcases y'' with⟨S'',z⟩|m
  ·obtain⟨e,k1,w1,es,k2,k3,k4⟩:=k;exact⟨e,fun hh=>k1 fun w1 qW=>hh w1 ((dL.at w d).trans qW),w1,es,(dL.at w d).trans k2,k3,k4⟩
  ·exact trivial
theorem gl.ends(hT:T.OK)(h:gl P T V fa cO Fin t0 w0 gs w t S D x tag a y st sm):Ends (nz P T V) (mK P T) (T.m0+T.n) (pF T S D tag,x,y):=by
 refine⟨fun k hk=>?_,h.Lv.acc⟩;show Acc (nz P T V) (x k);rcases bg k with rfl|nt
 ·rw[h.zero];exact Be 0
 ·rcases b5 k T.m0 with qe | Pf
  ·obtain⟨gk,q,_,h2,_⟩:=h.old k nt qe;rw[h2];exact Be q
  ·rcases b5 k (T.m0+S.j) with QX|DK
   ·obtain⟨g,_,h2⟩:=h.wk (k-T.m0) aa;have:=h2.acc hT aa;rw[show T.m0+(k-T.m0)=k by omega] at this;exact this
   ·rw[h.rest k DK];exact Be 0
theorem gl.awake(h:gl P T V fa cO Fin t0 w0 gs w t S D x tag a y st sm):∀g∈gs,awake g:=by
 intro g hg tm;obtain⟨k,hk⟩:=Array.mem_iff_getElem?.1 hg;have cy:k<T.m0+S.j:=by have:=(Array.getElem?_eq_some_iff.1 hk).1;rw[h.size] at this;exact this
 rcases bg k with rfl|nt
 ·rw[h.EZ] at hk;cases hk;by_cases hb:tag=.blk
  ·subst hb;obtain⟨a0,h1,_⟩:=h.Lv;rw[h1];simp
  ·have hs:=h.Lv;rw[jL.eq hb] at hs;rw[hs.1.running fun o g w hh=>mM hh];simp
 ·rcases b5 k T.m0 with qe | Pf
  ·obtain⟨gk,q,h1,_,h3⟩:=h.old k nt qe;rw[hk] at h1;cases h1;rcases h3.status with e|e<;>rw[e]<;>simp
  ·obtain⟨gk,h1,h2⟩:=h.wk (k-T.m0) aa;rw[show T.m0+(k-T.m0)=k by omega,hk] at h1;cases h1;rcases h2.status with e|e|⟨e,_⟩<;>rw[e]<;>simp
theorem gl.Vy(hT:T.OK)(h:gl P T V fa cO Fin t0 w0 gs w t S D x tag a y st sm):∃(i:Nat) (g:aX),gs[i]?=some g/\g.status=.running:=by
 by_cases hb:tag=.blk
 ·subst hb;have tD:=h.tZ.le;have shut:∀i,i<S.j->(S.cl i).isSome=true->(D i).stage≠1->∃(i:Nat) (g:aX),gs[i]?=some g/\g.status=.running:=by
   intro i hi hc hs;obtain⟨g,h1,h2⟩:=h.wk i hi;rcases h2 with⟨h3,_⟩|⟨_,_,_,C,v,_,h5,_⟩
   ·rw[h3] at hc;cases hc
   ·exact⟨_,g,h1,h5.running_of hs⟩
  have acz:∀m i,i<S.j->i<=m->S.cl i=none->∃(i:Nat) (g:aX),gs[i]?=some g/\g.status=.running:=by
   intro m
   induction m with
   |zero =>
    intro i hi hm hc;obtain⟨g,h1,h2⟩:=h.wk i hi;rcases h2.status with e|e|⟨_,_,k,hd,_⟩
    ·exact⟨_,g,h1,e⟩
    ·exfalso;rcases h2 with⟨_,_,_,g0,tr,_,h5,h6⟩|⟨h3,_⟩
     ·rcases h6 with⟨h6,_⟩|⟨_,k,z,f,_,_,⟨h9,_⟩|⟨h9,_⟩⟩
      ·rw[h6,h5.look.1] at e;cases e
      ·rw[h9] at e;cases e
      ·rw[h9] at e;cases e
     ·rw[hc] at h3;cases h3
    ·have:=hT.dep i k aa hd;omega
   |succ m ih =>
    intro i hi hm hc;obtain⟨g,h1,h2⟩:=h.wk i hi;rcases h2.status with e|e|⟨_,_,k,hd,hk⟩
    ·exact⟨_,g,h1,e⟩
    ·exfalso;rcases h2 with⟨_,_,_,g0,tr,_,h5,h6⟩|⟨h3,_⟩
     ·rcases h6 with⟨h6,_⟩|⟨_,k,z,f,_,_,⟨h9,_⟩|⟨h9,_⟩⟩
      ·rw[h6,h5.look.1] at e;cases e
      ·rw[h9] at e;cases e
      ·rw[h9] at e;cases e
     ·rw[hc] at h3;cases h3
    ·have:=hT.dep i k aa hd;exact ih k aa aa hk
  have any:∀i,i<S.j->(D i).stage≠1->∃(i:Nat) (g:aX),gs[i]?=some g/\g.status=.running:=by
   intro i hi hs;cases hc:S.cl i with
   |none=>exact acz i i hi (ag _) hc
   |some p=>exact shut i hi (by rw[hc];rfl) hs
  have jY:=h.mode;cases jY with
  |opn h1 _ _=>exact h1.elim
  |reg _ _ h3 =>
   obtain⟨i,hi,h5⟩:=exists_counted h3;exact any i hi aa
  |last L _ h2 h3 _=>exact any L h2 aa
  |fin h1 _=>exact h1.elim
 ·have hs:=h.Lv;rw[jL.eq hb] at hs;exact⟨0,a,h.EZ,hs.1.running fun o g w hh=>mM hh⟩
def Joined(P:Program)(T:dm)(V:Nat->ae->Prop)(fa:Nat->(Nat->Prop)->ae->Prop)(Fin:eQ)(Sb:Nat->Prop)(w0:ae)(gs:Array aX)(w:ae)(t:Trace):Prop :=
 ∃o g' q B',gs.size=T.m0+T.n/\gs[0]?=some g'/\Fin o g' w/\Leavers P t gs q/\Past (tW fun b=>Sb b\/b=T.Wg) B' t/\w.heap.size<=B'/\(∀i,i<T.n->V i w/\∃(oi:Nat->Prop) (C:Nat),fa i (fun b=>oi b/\b≠C) w/\∀b,oi b->T.H0<=b/\b<w.heap.size) /\
  dL T (fun _=>False) w0 w/\(∀b,o b->T.H0<=b/\b<w.heap.size)/\(∀b cs ty fz,T.Sh b->w0.heap[b]?=some (.cells cs ty fz)->∃tx,w.heap[b]?=some (.cells tx ty fz)/\tx.size=cs.size)/\(∀k,k<T.n->∃c s r tm,w.heap[T.ch k]?=some (.chan 0 #[] c s r tm))
theorem gl.final(hT:T.OK){Sb:Nat->Prop}(tf:T.Shun=tW Sb){B:Nat}(h0:t0.size=T.T0)(hP:Past T.Shun B t0)(h:gl P T V fa cO Fin t0 w0 gs w t S D x .acq a y st sm){g':aX}(hgo:stepG P true a w=.go g' w #[Go.ConcR.mk (.acquire (stA T.Wg))])(hF:Fin (S.own 0) g' w):
  ∃gK ops,runT P (crowd gs w sl) 0=(.next (crowd gK w sl),ops)/\Joined P T V fa Fin Sb w0 gK w (t++ops):=by
 have Lx:=hT.m0;have tB:=h.tZ;simp only[mz] at tB;obtain⟨hj,DG⟩:=tB;have cJ:=runT_crowd_go (P:=P) (sl:=sl) (i:=0) h.EZ (show stepG P (0==0) a w=_ from hgo);have hu:∀op∈MemOp.ofEvents 0 a.frame.fn a.frame.place #[Go.ConcR.mk (.acquire (stA T.Wg))],op.g=0:=g_of_ofEvents;have RN:MemOp.ofEvents 0 a.frame.fn a.frame.place #[Go.ConcR.mk (.acquire (stA T.Wg))]=#[{g:=0,fn:=a.frame.fn,pos:=a.frame.place,act:=.mark (.acquire (stA T.Wg))}]:=by rw[ofEvents_eq];simp[Go.ConcR.ofEvent_mk]
 have KP:∀k,k≠0->Deaf (t++MemOp.ofEvents 0 a.frame.fn a.frame.place #[Go.ConcR.mk (.acquire (stA T.Wg))]) k=Deaf t k:=fun k hk=>Deaf_other t (bp hk) _ hu;have hq:∀i,i<S.j->(D i).stage=1:=(h.mode.fin_inv trivial).1;have ub:(t++MemOp.ofEvents 0 a.frame.fn a.frame.place #[Go.ConcR.mk (.acquire (stA T.Wg))])[t.size]?=some {g:=0,fn:=a.frame.fn,pos:=a.frame.place,act:=.mark (.acquire (stA T.Wg))}:=by rw[RN,gf (ag _)];simp
 obtain⟨M,hM⟩:=Ix (t++MemOp.ofEvents 0 a.frame.fn a.frame.place #[Go.ConcR.mk (.acquire (stA T.Wg))]);have Pd:∀i,i<S.j->∃g C v,gs[T.m0+i]?=some g/\V i w/\S.own (T.m0+i) C/\QuitsD P (D i).fuel (D i).deaf g/\fa i (fun b=>S.own (T.m0+i) b/\b≠C) w/\v=C:=by
  intro i hi;obtain⟨g,h1,h2⟩:=h.wk i hi;rcases h2 with⟨_,h3,_⟩|⟨_,_,h3,C,v,h4,h5,h6⟩
  ·have:=hq i hi;omega
  ·exact⟨g,C,C,h1,h3,h4,h5.quits (hq i hi),h6,rfl⟩
 have O9:TI T S (t++MemOp.ofEvents 0 a.frame.fn a.frame.place #[Go.ConcR.mk (.acquire (stA T.Wg))]):=h.ti.mute hu fun op eP=>by
  obtain⟨e,he,rfl⟩:=Go.Conc.mem_ofEvents eP;simp at he;subst he;rfl
 have agR:∃U,t++MemOp.ofEvents 0 a.frame.fn a.frame.place #[Go.ConcR.mk (.acquire (stA T.Wg))]=t0++U:=by
  obtain⟨U,hU⟩:=h.ext;exact⟨U++MemOp.ofEvents 0 a.frame.fn a.frame.place #[Go.ConcR.mk (.acquire (stA T.Wg))],by rw[hU,dE]⟩
 have acA:=TI.RA (B':=M+w.heap.size) tf O9 agR h0 hP (q:=t.size) (by rw[act?_of ub]) (by simp[Trace.g?,ub]) ⟨0,by simp[Trace.g?,ub],by rw[deaf_old (ag _)];exact DG⟩
  (uX h.norel fun e he=>by simp at he;subst he;simp[Go.ConcR.mk])
  (fun i hi=>by
   obtain⟨r,r1,r2,r3⟩:=h.rel i hi (by rw[hq i hi];omega);have hr:r<t.size:=lt_of_act? r2.act;obtain⟨r',r1',r2',r3'⟩:=rV (t:=t) (u:=MemOp.ofEvents 0 a.frame.fn a.frame.place #[Go.ConcR.mk (.acquire (stA T.Wg))]) ⟨r,r1,r2,r3⟩ hu aa;refine⟨r',r1',?_,r2',r3'⟩;have hg:=r2'.g;rcases b5 r' t.size with cy|Pf
   ·exact cy
   ·exfalso;obtain⟨z,hz,XO⟩:=Option.map_eq_some_iff.1 hg;rcases getElem?_append_cases hz with⟨cy,_⟩|⟨_,Ht⟩
    ·omega
    ·have:=hu z Ht;omega)
  (uY h.UC fun z hz=>.inl (hu z hz)) (by rw[Deaf_own,DG];simp[deafBehind,Go.ConcR.mk]) (fun op eP=>MemAct.low_mono aa (hM op eP))
 have AQ:0<gs.size:=by rw[h.size];omega
 refine⟨_,_,cJ,S.own 0,g',fun k=>if k<T.m0 then(match x k with|.inr q=>q|.inl _=>0) else(D (k-T.m0)).fuel,M+w.heap.size,by simp[h.size,hj],by simp[AQ],hF,⟨fun k g k0 hk=>?_,fun k hk=>?_⟩,acA,aa,fun i hi=>?_,h.same,fun b hb=>⟨h.tg.new _ b hb,h.lt _ b hb⟩,h.DJ.DJ,fun k hk=>⟨_,h.chan k hk⟩⟩
 ·have dH:0≠k:=aa;rw[pG _ _ _ _ dH] at hk;obtain⟨g1,KJ,rfl⟩:=Option.map_eq_some_iff.1 hk;rw[KP k (bp dH)];have cy:k<T.m0+S.j:=by have:=(Array.getElem?_eq_some_iff.1 KJ).1;rw[h.size] at this;exact this
  by_cases hkm:k<T.m0
  ·obtain⟨g2,q,h1,h2,h3⟩:=h.old k k0 hkm;rw[KJ] at h1;cases h1;rw[woken_quitsD h3,if_pos hkm,h2];exact h3
  ·obtain⟨g2,C,v,h1,_,_,h3,_⟩:=Pd (k-T.m0) aa;have e:T.m0+(k-T.m0)=k:=aa;rw[e,KJ] at h1;cases h1;rw[woken_quitsD h3,if_neg hkm];have:=h.deafW (k-T.m0) aa;rw[e] at this;rw[this];exact h3
 ·have lP:gs.size<=k:=by simpa using hk
  rw[KP k aa];exact h.above k lP
 ·obtain⟨g,C,v,_,h2,h3,_,h4,_⟩:=Pd i aa;exact⟨h2,S.own (T.m0+i),C,h4,fun b hb=>⟨h.tg.new _ b hb,h.lt _ b hb⟩⟩
theorem Po(hT:T.OK)(hV:ky T V fa)(hn:T.n<2147483648)(XX:∀o g w,cO o g w->di P T (QZ P T cO Fin) o g w){Sb:Nat->Prop}(tf:T.Shun=tW Sb){B:Nat}(h0:t0.size=T.T0)(hP:Past T.Shun B t0):
  ∀μ,Acc (LT3 (nz P T V) (iT T) (mK P T) (T.m0+T.n)) μ->∀(gs:Array aX) (w:ae) (t:Trace) (sl:Option (Nat×Nat)) (S:jF) (D:Nat->WD) (x:Nat->lJ) (tag:CTag) (a:aX) (y:jG) (st sm:Int),
   μ=(pF T S D tag,x,y)->gl P T V fa cO Fin t0 w0 gs w t S D x tag a y st sm ->
   ∃N gK w' rU t',runNT P N (crowd gs w sl) t=(.next (crowd gK w' rU),t')/\Joined P T V fa Fin Sb w0 gK w' t':=by
 intro μ hμ
 induction hμ with
 |intro μ _ ih =>
 intro gs w t sl S D x tag a y st sm e h;subst e;have Lx:=hT.m0;obtain⟨i,g,d,rU,hi,cJ,kP⟩:=crowd_pick (P:=P) (w:=w) (sl:=sl) h.awake (h.Vy hT);obtain⟨pg,cy⟩:=h.at hV d;have tD:=h.tZ.le;have more:∀{gK:Array aX} {w':ae} {S':jF} {D':Nat->WD} {x':Nat->lJ} {tag':CTag} {a':aX} {y':jG} {st' sm':Int} {ops:Array MemOp},runT P (crowd gs (w.at d) rU) i=(.next (crowd gK w' rU),ops)->gl P T V fa cO Fin t0 w0 gK w' (t++ops) S' D' x' tag' a' y' st' sm' ->
   LT3 (nz P T V) (iT T) (mK P T) (T.m0+T.n) (pF T S' D' tag',x',y') (pF T S D tag,x,y)->∃N gK w' rU t',runNT P N (crowd gs w sl) t=(.next (crowd gK w' rU),t')/\Joined P T V fa Fin Sb w0 gK w' t':=by
  intro gK w' S' D' x' tag' a' y' st' sm' ops r1 r2 r3;obtain⟨N,gs2,w2,Vp,t2,q1,q2⟩:=ih _ r3 gK w' (t++ops) rU S' D' x' tag' a' y' st' sm' rfl r2;exact⟨N+1,gs2,w2,Vp,t2,by simp only[runNT,kP,r1];exact q1,q2⟩
 have worker:∀p,p<T.m0+T.n->∀{S':jF} {D':Nat->WD} {x':Nat->lJ} {tag':CTag} {y':jG},Ends (nz P T V) (mK P T) (T.m0+T.n) (pF T S' D' tag',x',y')->Cf P T V p S S' D D' tag tag' (fun k=>mA (w.at d) (x k)) x'->LT3 (nz P T V) (iT T) (mK P T) (T.m0+T.n) (pF T S' D' tag',x',y') (pF T S D tag,x,y):=by
  intro p hp S' D' x' tag' y' hE hl;refine⟨hE,?_⟩;rcases hl with hl|⟨e1,e2,e3⟩
  ·exact .inl hl
  ·exact .inr (.inl ⟨e1,p,hp,nz.back _ _ _ (cy p) e2,fun k _ hk=>iT.trans _ _ _ (e3 k hk) (cy k)⟩)
 rcases bg i with rfl|nt
 ·have e:g=a:=by rw[h.EZ] at hi;exact(aQ hi).symm
  subst e;rcases pg.RX (sl:=rU) hT hV hn XX cJ with⟨rfl,g',hgo,hF⟩|⟨gK,w',S',D',x',tag',a',y',st',sm',ops,r1,r2,r3⟩
  ·obtain⟨gK,ops,r1,r2⟩:=pg.final (sl:=rU) hT tf h0 hP hgo hF;exact⟨1,gK,_,rU,_,by simp only[runNT,kP,r1],r2⟩
  ·refine more r1 r2 ⟨r2.ends hT,?_⟩;rcases r3 with r3|⟨e1,e2,e3⟩
   ·exact .inl r3
   ·exact .inr (.inr ⟨e1,fun k _=>iT.trans _ _ _ (e2 k) (cy k),mK.back (y':=y') h d e3⟩)
 ·rcases b5 i T.m0 with qe | Pf
  ·obtain⟨gK,tag',a',y',x',ops,r1,r2,r3,r4,r5⟩:=pg.Zg (sl:=rU) hT hV tD nt qe hi cJ;refine more r1 r3 (worker i aa (r3.ends hT) (.inr ⟨by rw[E0 r2],r4,r5⟩))
  ·have ana:i<T.m0+S.j:=by have:=(Array.getElem?_eq_some_iff.1 hi).1;rw[h.size] at this;exact this
   obtain⟨k,rfl⟩:∃k,i=T.m0+k:=⟨i-T.m0,aa⟩;have hk:k<S.j:=aa;cases hc:S.cl k with
   |none =>
    obtain⟨gK,w',S',D',x',tag',a',y',st',sm',ops,r1,r2,r3,r4⟩:=pg.RR (sl:=rU) hT hV tD hk hi cJ hc;exact more r1 r3 (worker _ aa (r3.ends hT) r4)
   |some p =>
    obtain⟨gK,w',S',D',x',tag',a',y',st',sm',ops,r1,r2,r3,r4⟩:=pg.RU (sl:=rU) hT hV hn tD hk hi cJ (by rw[hc];rfl) (h.tZ.pend (Vc_le _ _));exact more r1 r3 (worker _ aa (r3.ends hT) r4)
end
end
section
open Go.ConcR (KK wgBlock WgAt stA smA rd wr Payload DC0)
variable [Payload]
section
variable {P:Program} {T:dm} {V:Nat->ae->Prop} {fa:Nat->(Nat->Prop)->ae->Prop} {cO Fin:eQ}
theorem Pp(hT:T.OK)(hV:ky T V fa)(hn:T.n<2147483648)(XX:∀o g w,cO o g w->di P T (QZ P T cO Fin) o g w){Sb:Nat->Prop}(tf:T.Shun=tW Sb){B:Nat}{gs:Array aX}{a:aX}{w:ae}{sl:Option (Nat×Nat)}{t:Trace}{q:Nat->Nat}{o0:Nat->Prop}(fE:gs.size=T.m0)(h0:gs[0]?=some a)(hL:Leavers P t gs q)(hP:Past T.Shun B t)(ht:t.size=T.T0)(eG:jb P T V fa cO T.n o0 a w)(UF:∀b,o0 b->T.H0<=b/\b<w.heap.size)(hH:T.H0<=w.heap.size)(pj:WgAt T.ty T.Wg w 0 0)(vC:∀k,k<T.n->∃s r tm,w.heap[T.ch k]?=some (.chan 0 #[] false s r tm))(RZ:∀k,k<T.n->T.Idle k w):
  ∃N gK w' rU t',runNT P N (crowd gs w sl) t=(.next (crowd gK w' rU),t')/\Joined P T V fa Fin Sb w gK w' t':=by
 have Lx:=hT.m0;have key:∀(tag:CTag) (y:jG),jL P T V fa cO Fin tag o0 a w y->mz T.n tag 0 0->Go.ConcN.Mode 0 (fun _=>(⟨7,0,0⟩:WD)) tag 0 0 ->
   gl P T V fa cO Fin t w gs w t {j:=0,own:=fun z b=>z=0/\o0 b,cl:=fun _=>none,rc:=fun _ _=>False} (fun _=>⟨7,0,0⟩) (fun k=>if 0<k/\k<T.m0 then .inr (q k) else .inr 0) tag a y 0 0:=by
  intro tag y hs htg hm;have e:(fun b=>0=0/\o0 b)=o0:=by funext b;simp
  refine⟨by simp[fE],h0,by simp only[true_and];exact hs,by rw[hP.hears];exact htg,fun k k0 km=>?_,fun i hi=>absurd hi (dZ _),fun k hk=>?_,aj,fun i hi=>absurd hi (dZ _),fun k hk=>hL.above k hk,TI.begin ht hP,⟨fun x b hb=>(UF b hb.2).1,fun x z b h1 h2=>h1.1.trans h2.1.symm,fun x b hb=>.inl hb.1⟩,fun z b hb=>(UF b hb.2).2,hH,pj,hm,vC,fun i k hr=>hr.elim,fun _ _=>rfl,fun i k hr=>hr.elim,fun i hi=>absurd hi (dZ _),fun k hk e=>?_,fun i z hi hz=>?_,⟨#[],aj⟩,dL.refl w,qD.refl w,RZ⟩
  ·have cy:k<gs.size:=aa;refine⟨gs[k],q k,aN cy,by simp[k0,km],hL.old k _ k0 (aN cy)⟩
  ·have:¬(0<k/\k<T.m0):=by simp only at hk;omega
   simp[this]
  ·have:=lt_of_act? e;omega
  ·have:=lt_size_of_getElem? hz;omega
 have run:∀(tag:CTag) (y:jG),jL P T V fa cO Fin tag o0 a w y->mz T.n tag 0 0->Go.ConcN.Mode 0 (fun _=>(⟨7,0,0⟩:WD)) tag 0 0->∃N gK w' rU t',runNT P N (crowd gs w sl) t=(.next (crowd gK w' rU),t')/\Joined P T V fa Fin Sb w gK w' t':=by
  intro tag y hs htg hm;have hI:=key tag y hs htg hm;exact Po hT hV hn XX tf ht hP _ (O6 iT.refl iT.trans nz.back _ (hI.ends hT)) gs w t sl _ _ _ tag a y 0 0 rfl hI
 have jY:∀tag,isOpen tag->pend tag=0->(∀vs,tag≠.w2 vs)->Go.ConcN.Mode 0 (fun _=>(⟨7,0,0⟩:WD)) tag 0 0:=fun tag h1 h2 h3=>by
  have:=Mode.opn (j:=0) (D:=fun _=>(⟨7,0,0⟩:WD)) h1 (fun i hi=>aa) (fun vs e=>absurd e (h3 vs));simpa[Vc,sumTo,h2] using this
 cases R1:T.n with
 |zero =>
  rw[R1] at eG;exact run .kd _ (jL.mk (tag:=.kd) aj eG rfl) ⟨R1.symm,rfl⟩ (jY .kd trivial rfl aj)
 |succ r =>
  rw[R1] at eG;exact run (.sp r 5) _ (jL.mk (tag:=.sp r 5) aj eG (by simp[kx])) ⟨aa,aa,.inl ⟨rfl,rfl⟩⟩ (jY (.sp r 5) trivial rfl aj)
theorem zm(o:Nat->Prop)(w:ae):grow o w w=o:=by
 funext b;simp only[grow,eq_iff_iff];exact⟨fun h=>h.elim id fun h=>absurd h.2 aa,.inl⟩
theorem O5.refl(o:Nat->Prop)(w:ae):O5 T o w w:=⟨ag _,fun _ _ _=>rfl,rfl,rfl⟩
theorem di.jw{Stop:eQ}{o:Nat->Prop}:∀{n:Nat} {g:aX} {w:ae},Goes P true (dL T o) DC0 (fun g w=>di P T Stop o g w) n g w->di P T Stop o g w:=by
 intro n
 induction n with
 |zero=>intro g w h;exact h w (dL.refl w)
 |succ n ih =>
  intro g w h;rcases h with h|⟨hs,h⟩
  ·exact h w (dL.refl w)
  ·refine di.step hs fun w1 qW=>?_;have:=h w1 qW;cases hg:stepG P true g w1 with
   |go g' w' es =>
    rw[hg,goes_go] at this;obtain⟨⟨rfl,rfl⟩,hG⟩:=this;exact⟨g',w',#[],rfl,O5.refl o w',aj,by rw[zm];exact ih hG⟩
   |_=>rw[hg] at this;exact this.elim
theorem di.one{Stop:eQ}{o:Nat->Prop}{g:aX}{w:ae}(hs:g.status=.running)(h:∀w1,dL T o w w1->∃g' es,stepG P true g w1=.go g' w1 es/\(∀e∈es,EvS T o e)/\di P T Stop o g' w1):di P T Stop o g w:=by
 refine di.step hs fun w1 qW=>?_;obtain⟨g',es,e1,e2,e3⟩:=h w1 qW;exact⟨g',w1,es,e1,O5.refl o w1,by rw[zm];exact e2,by rw[zm];exact e3⟩
end
end
section
open Go.ConcR (KK wgBlock WgAt stA smA rd wr mk)
section
variable {P:Program} {T:dm} {i:Nat} {V:Nat->ae->Prop} {E:bK} {L:Nat->Bool} {Gm:Nat}
theorem E1{F:jE}{o rc:Nat->Prop}(hF:∀r,F.K r->o (F.φ r)){e:Event}(h:xo F e):Np T i o rc e:=by
 obtain⟨loc,wt,sy⟩:=e;cases loc with
 |cell a =>
  obtain⟨r,h1,h2⟩:=h;refine⟨fun x hx _=>.inl ⟨a.block,by rw[<- h2];exact hF r h1,?_⟩,aj,aj,aj⟩;simp only[MemAct.ofEvent,MemAct.touch?,ay] at hx;subst hx;rfl
 |obj b =>
  obtain⟨r,h1,h2⟩:=h;refine⟨fun x hx _=>.inl ⟨b,by rw[<- h2];exact hF r h1,?_⟩,aj,aj,aj⟩;cases wt<;>cases sy<;>simp only[MemAct.ofEvent,MemAct.touch?,ay] at hx;all_goals first|cases hx;done|skip
  all_goals (subst hx;rfl)
 |output =>
  refine⟨fun x hx hm=>?_,aj,aj,aj⟩;simp only[MemAct.ofEvent,MemAct.touch?,ay] at hx;subst hx;cases hm
 |goroutines =>
  refine⟨fun x hx hm=>?_,aj,aj,aj⟩;simp only[MemAct.ofEvent,MemAct.touch?,ay] at hx;subst hx;cases hm
 |mark m =>
  have hd:K0 m=true:=h;cases m<;>first|exact Bool.noConfusion hd|skip
  all_goals
   refine⟨fun x hx hm=>?_,aj,aj,aj⟩;simp only[MemAct.ofEvent,MemAct.touch?] at hx;cases hx
theorem fw.guW(hT:T.OK){F F':jE}{wl aV w w':ae}{o:Nat->Prop}(h:fw F F' wl w aV w')(W:WR F wl w)(W':WR F' aV w')(hF:∀r,F.K r->o (F.φ r))(ho:∀b,o b->T.H0<=b)(hH:T.H0<=w.heap.size):Lr T i o w w':=by
 have key:∀b,b<w.heap.size->¬o b->w'.heap[b]?=w.heap[b]?:=by
  intro b hb hn;refine h.rest b fun r hr e=>?_;rcases h.wz r hr with h1|⟨_,h1⟩
  ·rw[h.φ r h1] at e;exact hn (e▸hF r h1)
  ·omega
 have old:∀b,T.Sh b->w'.heap[b]?=w.heap[b]?:=fun b hb=>key b (by have:=(hT.sh b hb).1;omega) (fun hx=>by have:=ho b hx;have:=(hT.sh b hb).1;omega);refine⟨h.size,fun b h1 h2 _=>key b h1 h2,fun b cs ty fz hb hx=>⟨cs,by rw[old b hb];exact hx,rfl⟩,fun a ha _=>cell_of (old _ ha),?_,?_⟩
 ·rw[W'.os,h.Rg,<- W.os]
 ·rw[W'.output,h.Bv,<- W.output]
theorem fw.owned{F F':jE}{wl aV w w':ae}{o:Nat->Prop}(h:fw F F' wl w aV w')(W':WR F' aV w')(hF:∀r,F.K r->o (F.φ r)):∀r,F'.K r->grow o w w' (F'.φ r):=by
 intro r hr;rcases h.wz r hr with h1|⟨_,h1⟩
 ·rw[h.φ r h1];exact .inl (hF r h1)
 ·exact .inr ⟨h1,W'.there r hr⟩
def aside(o:Nat->Prop)(F:jE):Nat->Prop:=fun b=>o b/\∀r,F.K r->F.φ r≠b
theorem fw.Cd(hT:T.OK)(hi:i<T.n){F F':jE}{wl aV w w':ae}{o rc:Nat->Prop}(h:fw F F' wl w aV w')(W:WR F wl w)(W':WR F' aV w')(hF:∀r,F.K r->o (F.φ r))(ho:∀b,o b->T.H0<=b/\b<w.heap.size)(hH:T.H0<=w.heap.size){o1:Nat->Prop}(Gi:∀b,o1 b->o b/\∀r,F.K r->F.φ r≠b):cW T i o1 rc w w':=by
 have key:∀b,b<w.heap.size->(∀r,F.K r->F.φ r≠b)->w'.heap[b]?=w.heap[b]?:=by
  intro b hb hn;refine h.rest b fun r hr e=>?_;rcases h.wz r hr with h1|⟨_,h1⟩
  ·rw[h.φ r h1] at e;exact hn r h1 e
  ·omega
 have old:∀b,b<T.H0->w'.heap[b]?=w.heap[b]?:=fun b hb=>key b aa (fun r hr e=>by have:=(ho _ (hF r hr)).1;omega);have pv:∀k,k<T.n->w'.heap[T.ch k]?=w.heap[T.ch k]?:=fun k hk=>old _ (hT.ch k hk).1;refine⟨h.size,fun b hb=>key b (ho b (Gi b hb).1).2 (Gi b hb).2,fun b h1 _ _ _=>old b h1,fun b cs ty fz hb hx=>⟨cs,by rw[old b (hT.sh b hb).1];exact hx,rfl⟩,fun a ha=>?_,fun k s r tm c hk hh=>⟨c,by rw[pv k hk];exact hh,id⟩,pv i hi,gu (old _ hT.wg),?_,?_⟩
 ·have k1:∀k,T.jW k (.cell a)->w'.cell? a=w.cell? a:=by
   intro k fq;obtain⟨a',e,hs⟩:=hT.ownSh k _ fq;cases e;exact cell_of (old _ (hT.sh _ hs).1)
  rcases ha with ha|⟨k,_,ha⟩
  ·exact k1 i ha
  ·exact k1 k ha
 ·rw[W'.os,h.Rg,<- W.os]
 ·rw[W'.output,h.Bv,<- W.output]
theorem cW.less{o o1 rc:Nat->Prop}{w w1:ae}(h:cW T i o rc w w1)(ho:∀b,o1 b->o b):cW T i o1 rc w w1 :=
 ⟨h.size,fun b hb=>h.own b (ho b hb),h.ro,h.sh,h.mine,h.chan,h.Cb,h.wg,h.os,h.output⟩
theorem gO.call(hT:T.OK)(hi:i<T.n)(db:rL P L Gm){A9:FuncId}{Q:Value->ae->Prop}{c:Frame}{cs:List Frame}{rc:Nat->Prop}{w0:ae}{o0:Nat->Prop}{F0:jE}(R2:∀v v' F' o' aV w',Q v aV->(∀f,F'.has f->v'=val f v)->WR F' aV w'->(∀b,o0 b->o' b)->(∀r,F'.K r->o' (F'.φ r))->(∀b,o' b->T.H0<=b/\b<w'.heap.size)->(∀r,F0.K r->F'.K r/\F'.φ r=F0.φ r)->cW T i (aside o0 F0) rc w0 w' ->
   gO P T i V E ⟨G (c.finish v') cs,o',rc,w'⟩)(x:aX×ae)(Gj:Acc (Nx P (kO P A9 Q)) x):
  ∀(F:jE) (o:Nat->Prop) (gr:aX) (w:ae),xM P L Gm (kO P A9 Q) (c::cs) F (x.1,WT x.2 w.tape w.drawn) gr w->(∀r,F.K r->o (F.φ r))->(∀b,o b->T.H0<=b/\b<w.heap.size)->T.H0<=w.heap.size->(∀b,o0 b->o b)->(∀r,F0.K r->F.K r/\F.φ r=F0.φ r) ->
   (∀b,aside o0 F0 b->∀r,F.K r->F.φ r≠b)->cW T i (aside o0 F0) rc w0 w->gO P T i V E ⟨gr,o,rc,w⟩:=by
 have hS:=Ba (P:=P) A9 Q
 induction Gj with
 |intro x _ ih =>
 intro F o gr w O0 hF ho hH Nj hF0 hap hrel;have cJ:gr.status=.running:=xN O0;refine gO.intro ⟨cJ,.inl fun w1 qW=>?_⟩;have AS:Ln F w w1:=⟨qW.size,fun r hr=>qW.own _ (hF r hr),qW.os,qW.output⟩;have O1:=O0.others AS;have Gi:∀b,o b->T.H0<=b/\b<w1.heap.size:=fun b hb=>⟨(ho b hb).1,bw (ho b hb).2 qW.size⟩;have UI:T.H0<=w1.heap.size:=aW hH qW.size;have tA:WR F (WT x.2 w1.tape w1.drawn) w1:=by
  obtain⟨_,_,_,_,_,_,_,_,_,hW,_⟩:=O1;exact hW
 have XZ:cW T i (aside o0 F0) rc w0 w1:=hrel.trans (qW.less fun b hb=>Nj b hb.1);have D9:∀(w':ae),w1.heap.size<=w'.heap.size->∀b,grow o w1 w' b->T.H0<=b/\b<w'.heap.size:=fun w' hs b hb=>by
  rcases hb with hb|hb
  ·exact⟨(Gi b hb).1,bw (Gi b hb).2 hs⟩
  ·exact⟨aa,hb.2⟩
 by_cases hs:kO P A9 Q x.1 x.2
 ·obtain⟨v,v',F',ow,es,e1,e2,e3,e4,e5,e6,e7⟩:=O1.ret db (hS.tape _ _ _ _ hs) false;refine⟨_,ow,es,e1,e5.guW hT tA e4 hF (fun b hb=>(ho b hb).1) UI,fun e he=>E1 (e5.owned e4 hF) (e6 e he),?_⟩;refine R2 v v' F' _ _ ow e2 e3 e4 (fun b hb=>.inl (Nj b hb)) (e5.owned e4 hF) (D9 ow e5.size) (fun r hr=>⟨e5.K r (hF0 r hr).1,(e5.φ r (hF0 r hr).1).trans (hF0 r hr).2⟩) (XZ.trans ?_);exact e5.Cd hT hi tA e4 hF Gi UI fun b hb=>⟨Nj b hb.1,hap b hb⟩
 ·obtain⟨y,F',QY,ow,es,e1,e2,e3,e4,e5,e6⟩:=O1.step db hS (fun h=>hs (hS.back h)) false;have uf:WR F' y.2 ow:=by obtain⟨_,_,_,_,_,_,_,_,_,hW,_⟩:=e3;exact hW
  have hyt:(y.1,WT y.2 ow.tape ow.drawn)=y:=by rw[uf.tape,uf.drawn];rfl
  refine⟨QY,ow,es,e1,e4.guW hT tA uf hF (fun b hb=>(ho b hb).1) UI,fun e he=>E1 (e4.owned uf hF) (e5 e he),?_⟩;refine ih y (XI hS e2) F' (grow o w1 ow) QY ow (by rw[hyt];exact e3) (e4.owned uf hF) (D9 ow e4.size) (aW UI e4.size) (fun b hb=>.inl (Nj b hb)) (fun r hr=>⟨e4.K r (hF0 r hr).1,(e4.φ r (hF0 r hr).1).trans (hF0 r hr).2⟩) (fun b hb r hr e=>?_) (XZ.trans ?_)
  ·rcases e4.wz r hr with h1|⟨_,h1⟩
   ·rw[e4.φ r h1] at e;exact hap b hb r h1 e
   ·have:=(Gi b (Nj b hb.1)).2;omega
  ·exact e4.Cd hT hi tA uf hF Gi UI fun b hb=>⟨Nj b hb.1,hap b hb⟩
end
end
abbrev aM:=Nat->Prop
structure fH(P:Program)(m:Bool)(R:aM->ae->ae->Prop)(Gu:aM->ae->ae->Array Event->Prop)(X:aM->aX->ae->Prop):Prop where
 step:∀o g w,g.status=.running->(∀w1,R o w w1->∃g' w' es,stepG P m g w1=.go g' w' es/\Gu o w1 w' es/\X (grow o w1 w') g' w')->X o g w
 rely:∀o g w w1,X o g w->R o w w1->X o g w1
 idle:∀o w,Gu o w w #[]
theorem b8(o:Nat->Prop)(w:ae):grow o w w=o:=by
 funext b;simp only[grow,eq_iff_iff];exact⟨fun h=>h.elim id fun h=>absurd h.2 aa,.inl⟩
theorem kH(o:Nat->Prop){w w':ae}(h:w'.heap.size=w.heap.size):grow o w w'=o:=by
 funext b;simp only[grow,eq_iff_iff];exact⟨fun k=>k.elim id fun k=>absurd k.2 aa,.inl⟩
theorem va(o:Nat->Prop)(w:ae)(x:Obj):grow o w {w with heap:=w.heap.push x}=fun b=>o b\/b=w.heap.size:=by
 funext b;simp only[grow,Array.size_push,eq_iff_iff];exact⟨fun h=>h.imp id fun h=>aa,fun h=>h.imp id fun h=>aa⟩
def Iy(T:dm)(i:Nat)(rc:Nat->Prop)(o:aM)(w w':ae)(es:Array Event):Prop:=Lr T i o w w'/\∀e∈es,Np T i (grow o w w') rc e
theorem Lr.refl{T:dm}{i:Nat}(o:Nat->Prop)(w:ae):Lr T i o w w:=⟨ag _,fun _ _ _ _=>rfl,fun b cs ty fz _ h=>⟨cs,h,rfl⟩,fun _ _ _=>rfl,rfl,rfl⟩
theorem cL{P:Program}{T:dm}{i:Nat}{V:Nat->ae->Prop}{E:bK}(rc:Nat->Prop):fH P false (fun o=>cW T i o rc) (Iy T i rc) (fun o g w=>gO P T i V E ⟨g,o,rc,w⟩) where
 step o g w hs h:=gO.intro ⟨hs,.inl fun w1 hw=>let ⟨g',w',es,e1,e2,e3⟩:=h w1 hw;⟨g',w',es,e1,e2.1,e2.2,e3⟩⟩
 rely o g w w1 h hr:=h.rely hr
 idle o w:=⟨.refl o w,aj⟩
def agT(T:dm)(o:aM)(w w':ae)(es:Array Event):Prop:=O5 T o w w'/\∀e∈es,EvS T (grow o w w') e
theorem nJ{P:Program}{T:dm}{Stop:eQ}:fH P true (fun o=>dL T o) (agT T) (fun o g w=>di P T Stop o g w) where
 step o g w hs h:=di.step hs fun w1 hw=>let ⟨g',w',es,e1,e2,e3⟩:=h w1 hw;⟨g',w',es,e1,e2.1,e2.2,e3⟩
 rely o g w w1 h hr:=h.rely hr
 idle o w:=⟨⟨ag _,fun _ _ _=>rfl,rfl,rfl⟩,aj⟩
section
variable {P:Program} {m:Bool} {R:aM->ae->ae->Prop} {Gu:aM->ae->ae->Array Event->Prop} {X:aM->aX->ae->Prop}
theorem fH.go(W:fH P m R Gu X){o:aM}{g g':aX}{w:ae}(hs:g.status=.running)(h:∀w1,stepG P m g w1=.go g' w1 #[])(hx:X o g' w):X o g w :=
 W.step o g w hs fun w1 hw=>⟨g',w1,#[],h w1,W.idle _ _,by rw[b8];exact W.rely _ _ _ _ hx hw⟩
def ug(X:aM->aX->ae->Prop)(b:Frame)(k:List Item)(cs:List Frame):Exit->Act->aM->ae->Prop
 | .normal,a,o,w=>X o (G (b.at a k) cs) w
 | .exit id,a,o,w=>∃k',exitTo id k=some k'/\X o (G (b.at a k') cs) w
 | .ret,a,o,w=>∀todo,X o (G {b.at a todo with mode:=.returning} cs) w
 |_,_,_,_=>False
theorem ug.push{b:Frame}{y:Item}{k:List Item}{cs:List Frame}{e:Exit}{a:Act}{o:aM}{w:ae}(hy:y.plain=true)(he:e≠.normal)(h:ug X b k cs e a o w):ug X b (y::k) cs e a o w:=by
 cases e with
 |normal=>exact absurd rfl he
 |exit id=>obtain⟨k',hk,hg⟩:=h;exact⟨k',by cases y<;>simp_all[exitTo,Item.plain],hg⟩
 |ret=>exact h
 |goto l=>exact h
 |panic ch=>exact h
 |outgrown=>exact h
def vV(X:aM->aX->ae->Prop)(fn:FuncId)(c:Code)(Q:Exit->Act->aM->ae->Prop)(a:Act)(o:aM)(w:ae):Prop :=
 ∀(b:Frame) (k:List Item) (cs:List Frame),b.fn=fn->b.kind≠.early->(∀e a' o' w',Q e a' o' w'->ug X b k cs e a' o' w')->X o (G (b.at a (.code c::k)) cs) w
def eX(X:aM->aX->ae->Prop)(fn:FuncId)(ops:Array Oper)(todo:List Nat)(Q:Exit->Act->aM->ae->Prop)(a:Act)(o:aM)(w:ae):Prop :=
 ∀(b:Frame) (k:List Item) (cs:List Frame),b.fn=fn->b.kind≠.early->(∀e a' o' w',Q e a' o' w'->ug X b k cs e a' o' w')->X o (G (b.at a (.inRegion ops todo::k)) cs) w
def iH(M:Act->aM->ae->Prop)(Q:Exit->Act->aM->ae->Prop):Exit->Act->aM->ae->Prop
 | .normal,a,o,w=>M a o w
 |e,a,o,w=>Q e a o w
def dI(id:Nat)(Q:Exit->Act->aM->ae->Prop):Exit->Act->aM->ae->Prop
 | .exit R3,a,o,w=>if R3=id then Q .normal a o w else Q (.exit R3) a o w
 |e,a,o,w=>Q e a o w
section rules
variable {fn:FuncId} {Q:Exit->Act->aM->ae->Prop} {a:Act} {o:aM} {w:ae}
theorem Iz{c:Code}{Q':Exit->Act->aM->ae->Prop}(h:vV X fn c Q a o w)(hq:∀e a o w,Q e a o w->Q' e a o w):vV X fn c Q' a o w :=
 fun b k cs hb hk hc=>h b k cs hb hk fun e a' o' w' q=>hc e a' o' w' (hq e a' o' w' q)
theorem IA(W:fH P m R Gu X)(h:Q .normal a o w):vV X fn .skip Q a o w:=fun b k cs _ _ hc=>W.go rfl (fun _=>cx) (hc _ _ _ _ h)
theorem Nw(W:fH P m R Gu X)(h:Q .ret a o w):vV X fn .ret Q a o w:=fun b k cs _ _ hc=>W.go rfl (fun _=>stepG_ret') (hc _ _ _ _ h _)
theorem IB(W:fH P m R Gu X){id:Nat}(h:Q (.exit id) a o w):vV X fn (.exit id) Q a o w:=fun b k cs _ _ hc=>by
 obtain⟨k',lP,hg⟩:=hc _ _ _ _ h;exact W.go rfl (fun _=>stepG_exit lP) hg
theorem pH(W:fH P m R Gu X){x y:Code}(h:vV X fn x (iH (fun a' o' w'=>vV X fn y Q a' o' w') Q) a o w):vV X fn (.seq x y) Q a o w:=by
 intro b k cs hb hk hc;refine W.go rfl (fun _=>aD) (h b (.code y::k) cs hb hk fun e a' o' w' q=>?_);cases e with
 |normal=>exact q b k cs hb hk hc
 |exit id=>exact(hc _ _ _ _ q).push rfl aj
 |ret=>exact(hc _ _ _ _ q).push (y:=.code y) rfl aj
 |goto l=>exact hc _ _ _ _ q
 |panic ch=>exact hc _ _ _ _ q
 |outgrown=>exact hc _ _ _ _ q
theorem gX(W:fH P m R Gu X){c:Operand}{x y:Code}{t:Bool}(hc:a.eval c=.bool t)(h:vV X fn (if t then x else y) Q a o w):vV X fn (.cond c x y) Q a o w :=
 fun b k cs hb hk hq=>W.go rfl (fun _=>ew hc) (h b k cs hb hk hq)
theorem E2(W:fH P m R Gu X){id:Nat}{c:Code}(h:vV X fn c (dI id Q) a o w):vV X fn (.block id c) Q a o w:=by
 intro b k cs hb hk hc;refine W.go rfl (fun _=>fe) (h b (.inBlock id::k) cs hb hk fun e a' o' w' q=>?_);cases e with
 |normal=>exact W.go rfl (fun _=>gv) (hc _ _ _ _ q)
 |exit R3 =>
  by_cases hid:R3=id
  ·simp only[dI,hid,if_true] at q;exact⟨k,by simp[exitTo,hid],hc _ _ _ _ q⟩
  ·simp only[dI,hid,if_false] at q;obtain⟨k',lP,hg⟩:=hc _ _ _ _ q;have:(id==R3)=false:=by simp;exact fun h=>hid h.symm
   exact⟨k',by simp[exitTo,this,lP],hg⟩
 |ret=>exact fun todo=>hc _ _ _ _ q todo
 |goto l=>exact hc _ _ _ _ q
 |panic ch=>exact hc _ _ _ _ q
 |outgrown=>exact hc _ _ _ _ q
theorem iL(W:fH P m R Gu X){c:Code}(I:Nat->Act->aM->ae->Prop){N:Nat}(h0:I N a o w)(round:∀n a o w,I n a o w->vV X fn c (iH (fun a' o' w'=>∃n',n'<n/\I n' a' o' w') Q) a o w):vV X fn (.loop c) Q a o w:=by
 intro b k cs hb hk hc;have key:∀N a o w,I N a o w->X o (G (b.at a (.code c :: .inLoop c::k)) cs) w:=by
  intro N
  induction N using Nat.strongRecOn with
  |ind N ih =>
   intro a o w hI;refine round N a o w hI b (.inLoop c::k) cs hb hk fun e a' o' w' q=>?_;cases e with
   |normal =>
    obtain⟨n',hn,hI'⟩:=q;exact W.go rfl (fun _=>iM) (ih n' hn a' o' w' hI')
   |exit id=>exact(hc _ _ _ _ q).push rfl aj
   |ret=>exact(hc _ _ _ _ q).push (y:=.inLoop c) rfl aj
   |goto l=>exact hc _ _ _ _ q
   |panic ch=>exact hc _ _ _ _ q
   |outgrown=>exact hc _ _ _ _ q
 exact W.go rfl (fun _=>jM) (key N a o w h0)
theorem Cj(W:fH P m R Gu X){id:Nat}{ops:Array Oper}(h:eX X fn ops (List.range ops.size) Q a o w):vV X fn (.region id ops false) Q a o w :=
 fun b k cs hb hk hc=>W.go rfl (fun _=>bf) (h b k cs hb hk hc)
theorem xU(W:fH P m R Gu X){ops:Array Oper}(h:Q .normal a o w):eX X fn ops [] Q a o w:=fun b k cs _ _ hc=>W.go rfl (fun _=>ak) (hc _ _ _ _ h)
theorem lB(W:fH P m R Gu X){ops:Array Oper}{i:Nat}{rest:List Nat}{op:Oper}(ho:ops[i]?=some op)(hw:Region.wanted op (yielded ops a.tmps)=true)(h:∀w1,R o w w1->∀K:Act->ae->Prop,(∀a' w',Gu o w1 w' (listed P fn a op w1)/\eX X fn ops rest Q a' (grow o w1 w') w'->K a' w')->uponK op a K ((execOp a.eval op).run P w1)):eX X fn ops (i::rest) Q a o w:=by
 intro b k cs hb hk hc;refine W.step o _ w rfl fun w1 h1=>?_;have:=h w1 h1 _ fun _ _ x=>x;revert this;cases hr:(execOp a.eval op).run P w1 with
 |ok x w' =>
  cases x with
  |value v=>intro q;simp only[uponK_value] at q;exact⟨_,_,_,eH ho hw hk hr,hb▸q.1,q.2 b k cs hb hk hc⟩
  |skip=>intro q;simp only[uponK_skip] at q;exact⟨_,_,_,jN ho hw hk hr,hb▸q.1,q.2 b k cs hb hk hc⟩
  |_=>intro q;exact q.elim
 |halt _ _=>intro q;exact q.elim
theorem jy(W:fH P m R Gu X){ops:Array Oper}{i:Nat}{rest:List Nat}{op:Oper}(ho:ops[i]?=some op)(hw:Region.wanted op (yielded ops a.tmps)=false)(h:eX X fn ops rest Q (a.put op.dst undef) o w):eX X fn ops (i::rest) Q a o w :=
 fun b k cs hb hk hc=>W.go rfl (fun _=>stepG_unwanted ho hw) (h b k cs hb hk hc)
theorem LC(W:fH P m R Gu X){ops:Array Oper}{i:Nat}{rest:List Nat}{op:Oper}{f:FuncId}{fc:Func}{c:Code}{args:Array Operand}{sA:Array TypeId}(ho:ops[i]?=some op)(hw:Region.wanted op (yielded ops a.tmps)=true)(eP:op.op=.call {callee:=.value (.func f),args,argTypes:=sA})(hf:P.funcs[f]?=some fc)(gP:(fc.name == "runtime.NumGoroutine")=false)(fF:fc.body=some c)(h:∀(b:Frame) (k:List Item) (cs:List Frame),b.fn=fn->b.kind≠.early->(∀e a' o' w',Q e a' o' w'->ug X b k cs e a' o' w') ->
   X o (G ((base f).at {tmps:=args.map a.eval++Array.replicate (fc.ntmps-(args.map a.eval).size) undef,defers:=[]} [.code c]) (b.at a (.inRegion ops (i::rest)::k)::cs)) w):eX X fn ops (i::rest) Q a o w:=by
 intro b k cs hb hk hc;refine W.go rfl (fun w1=>?_) (h b k cs hb hk hc);have:=goes_call (P:=P) (main:=m) (b:=b) (k:=k) (cs:=cs) (w:=w1) (K:=fun g' w' es=>stepG P m (G (b.at a (.inRegion ops (i::rest)::k)) cs) w1=.go g' w' es->stepG P m (G (b.at a (.inRegion ops (i::rest)::k)) cs) w1=.go (G ((base f).at {tmps:=args.map a.eval++Array.replicate (fc.ntmps-(args.map a.eval).size) undef,defers:=[]} [.code c]) (b.at a (.inRegion ops (i::rest)::k)::cs)) w1 #[]) ho hw hk eP hf gP fF (fun e=>e);cases hg:stepG P m (G (b.at a (.inRegion ops (i::rest)::k)) cs) w1 with
 |go g' w' es=>rw[hg,goes_go] at this;rw[<- this rfl]
 |_=>rw[hg] at this;exact this.elim
end rules
end
def iU(N:Nat->Bool)(w:ae):ae:={w with heap:=w.heap.mapIdx fun b o=>if N b then o else .cells #[] 0}
theorem kX(N:Nat->Bool)(w:ae):(iU N w).heap.size=w.heap.size:=by simp[iU]
theorem lR(N:Nat->Bool)(w:ae){b:Nat}(h:N b=true):(iU N w).heap[b]?=w.heap[b]?:=by
 simp only[iU,Array.getElem?_mapIdx,h,if_true];cases w.heap[b]?<;>rfl
def IC(N:Nat->Bool)(f:Rn):Prop:=∀r,N r=true->f.b r=r
def ID(N:Nat->Bool)(w:ae):Prop:=∀b,N b=true->∃x,w.heap[b]?=some x/\fi x=false/\∀f,IC N f->obj f x=x
section
variable {P:Program} {T:dm} {i:Nat} {V:Nat->ae->Prop} {E:bK} {L:Nat->Bool} {N:Nat->Bool}
def An(P:Program)(L:Nat->Bool)(N:Nat->Bool):jE:=⟨fun r=>N r=true,id,fun n=>L n=true,P.globals.size⟩
theorem IE{f:Rn}(h:(An P L N).has f):IC N f:=fun r hr=>h.at_ r hr
theorem R4(h1:P.globals.size≠1)(h2:∀b,N b=true->P.globals.size<=b):EH (An P L N) :=
 ⟨fun r hr hg=>hg,.inr ⟨fun r hr hn=>by have:=h2 r hn;show False;change r<P.globals.size at hr;omega,h1⟩⟩
theorem R5{w:ae}(hN:ID N w)(h1:P.globals.size≠1)(h2:∀b,N b=true->P.globals.size<=b)(h3:P.globals.size<=w.heap.size):WR (An P L N) (iU N w) w where
 here r hr:=by obtain⟨x,hx,_⟩:=hN r hr;rw[kX];exact(Array.getElem?_eq_some_iff.1 hx).1
 there r hr:=by obtain⟨x,hx,_⟩:=hN r hr;exact(Array.getElem?_eq_some_iff.1 hx).1
 inj r s _ _ h:=h
 tJ r hr f hf:=by
  obtain⟨x,hx,_,hc⟩:=hN r hr;rw[lR N w hr];show w.heap[r]?=_;rw[hx,aJ,hc f (IE hf)]
 QU r hr o ho:=by
  obtain⟨x,hx,hp,_⟩:=hN r hr;rw[lR N w hr,hx] at ho;cases ho;exact hp
 os:=rfl
 output:=rfl
 tape:=rfl
 drawn:=rfl
 AL:=R4 h1 h2
 EI:=h3
 DT:=by rw[kX];exact h3
theorem xV{w:ae}(hN:ID N w):fI (iU N w):=by
 intro r o ho;by_cases h:N r=true
 ·obtain⟨x,hx,hp,_⟩:=hN r h;rw[lR N w h,hx] at ho;cases ho;exact hp
 ·have:(iU N w).heap[r]?=(w.heap[r]?).map fun _=>.cells #[] 0:=by
   simp only[iU,Array.getElem?_mapIdx];cases w.heap[r]?<;>simp[h]
  rw[this] at ho;cases hw:w.heap[r]? with
  |none=>rw[hw] at ho;cases ho
  |some x=>rw[hw] at ho;cases ho;rfl
structure Ck(T:dm)(i:Nat)(N:Nat->Bool)(o rc o':Nat->Prop)(w w':ae)(F':jE)(aV:ae)(v v':Value):Prop where
 val:∀f,F'.has f->v'=Ren.val f v
 wr:WR F' aV w'
 more:∀b,o b->o' b
 own:∀r,F'.K r->o' (F'.φ r)
 vb:∀b,o' b->T.H0<=b/\b<w'.heap.size
 keep:∀r,N r=true->F'.K r/\F'.φ r=r
 rel:cW T i (fun b=>o b/\N b=false) rc w w'
theorem Ck.acC{o rc o':Nat->Prop}{w w' aV:ae}{F':jE}{v v':Value}(h:Ck T i N o rc o' w w' F' aV v v'){f:Rn}(hf:F'.has f):IC N f:=fun r hr=>(hf.at_ r (h.keep r hr).1).trans (h.keep r hr).2
theorem Ck.plain{o rc o':Nat->Prop}{w w' aV:ae}{F':jE}{v v':Value}(h:Ck T i N o rc o' w w' F' aV v v')(hv:∀f,Ren.val f v=v):v'=v:=by
 obtain⟨f,hf⟩:=h.wr.some;rw[h.val f hf,hv f]
theorem Ck.stays{o rc o':Nat->Prop}{w w' wl aV:ae}{F':jE}{v v':Value}(h:Ck T i N o rc o' w w' F' aV v v')(tf:ID N w)(hwl:∀b,N b=true->wl.heap[b]?=w.heap[b]?)(eG:∀b,N b=true->aV.heap[b]?=wl.heap[b]?):cW T i o rc w w':=by
 obtain⟨f,hf⟩:=h.wr.some;refine⟨h.rel.size,fun b hb=>?_,h.rel.ro,h.rel.sh,h.rel.mine,h.rel.chan,h.rel.Cb,h.rel.wg,h.rel.os,h.rel.output⟩;by_cases hn:N b=true
 ·obtain⟨x,hx,_,hc⟩:=tf b hn;have:=h.wr.tJ b (h.keep b hn).1 f hf;rw[(h.keep b hn).2,eG b hn,hwl b hn,hx,aJ,hc f (h.acC hf)] at this;rw[this,hx]
 ·exact h.rel.own b ⟨hb,by simpa using hn⟩
theorem Ck.slice{o rc o':Nat->Prop}{w w' aV:ae}{F':jE}{v':Value}{b off l c:Nat}(h:Ck T i N o rc o' w w' F' aV (.slice (some ⟨b,off,none⟩) l c) v'):F'.K b/\v'=.slice (some ⟨F'.φ b,off,none⟩) l c/\o' (F'.φ b):=by
 have hK:F'.K b:=by
  refine aZ fun hn=>?_;obtain⟨f,g,hf,hg,dH,_⟩:=h.wr.two;have:=(h.val f hf).symm.trans (h.val g hg);simp[Ren.val,addr] at this;exact dH b hn this
 obtain⟨f,hf⟩:=h.wr.some;refine⟨hK,?_,h.own b hK⟩;rw[h.val f hf];simp[Ren.val,addr,hf.at_ b hK]
end
section
variable {P:Program} {m:Bool} {R:aM->ae->ae->Prop} {Gu:aM->ae->ae->Array Event->Prop} {X:aM->aX->ae->Prop} {fn:FuncId} {Q:Exit->Act->aM->ae->Prop} {a:Act} {o:aM} {w:ae}
theorem E3(W:fH P m R Gu X){ops:Array Oper}{todo:List Nat}{w1:ae}(h:eX X fn ops todo Q a o w)(hr:R o w w1):eX X fn ops todo Q a o w1:=fun b k cs hb hk hc=>W.rely _ _ _ _ (h b k cs hb hk hc) hr
theorem LD(W:fH P m R Gu X){S:ae->Prop}(hS:∀w1,R o w w1->S w1){ops:Array Oper}{i:Nat}{rest:List Nat}{op:Oper}(ho:ops[i]?=some op)(hw:Region.wanted op (yielded ops a.tmps)=true){v:Value}(hr:∀w1,S w1->(execOp a.eval op).run P w1=.ok (.value v) w1)(hg:∀w1,S w1->Gu o w1 w1 (listed P fn a op w1))(h:eX X fn ops rest Q (a.put op.dst v) o w):eX X fn ops (i::rest) Q a o w :=
 lB W ho hw fun w1 h1 K hK=>by
  rw[hr w1 (hS w1 h1)];simp only[uponK_value];exact hK _ _ ⟨hg w1 (hS w1 h1),by rw[b8];exact E3 W h h1⟩
theorem zn(W:fH P m R Gu X){ops:Array Oper}{i:Nat}{rest:List Nat}{op:Oper}(ho:ops[i]?=some op)(hw:Region.wanted op (yielded ops a.tmps)=true){v:Value}(hr:∀w1,(execOp a.eval op).run P w1=.ok (.value v) w1)(hg:∀w1,(execOp a.eval op).events P w1 #[]=#[])(h:eX X fn ops rest Q (a.put op.dst v) o w):eX X fn ops (i::rest) Q a o w :=
 LD W (S:=fun _=>True) (fun _ _=>trivial) ho hw (fun w1 _=>hr w1) (fun w1 _=>by rw[listed_nil (hg w1)];exact W.idle _ _) h
def Gr:Op->Bool
 | .call c=>match c.callee with|.builtin _=>true|_=>false
 |_=>true
theorem fQ(W:fH P m R Gu X){S:ae->Prop}(hS:∀w1,R o w w1->S w1){ops:Array Oper}{i:Nat}{rest:List Nat}{op:Oper}(ho:ops[i]?=some op)(hw:Region.wanted op (yielded ops a.tmps)=true)(hg:∀w1,S w1->Gu o w1 w1 (listed P fn a op w1))(h:∀w1,S w1->∀K:Act->ae->Prop,(∀a',eX X fn ops rest Q a' o w->K a' w1)->uponK op a K ((execOp a.eval op).run P w1)):eX X fn ops (i::rest) Q a o w :=
 lB W ho hw fun w1 h1 K hK=>h w1 (hS w1 h1) K fun a' q=>hK a' w1 ⟨hg w1 (hS w1 h1),by rw[b8];exact E3 W q h1⟩
theorem qY(W:fH P m R Gu X){ops:Array Oper}{i:Nat}{rest:List Nat}{op:Oper}(ho:ops[i]?=some op)(_hn:Gr op.op=true)(hw:Region.wanted op (yielded ops a.tmps)=true)(hg:∀w1,(execOp a.eval op).events P w1 #[]=#[])(h:∀w1,∀K:Act->ae->Prop,(∀a',eX X fn ops rest Q a' o w->K a' w1)->uponK op a K ((execOp a.eval op).run P w1)):eX X fn ops (i::rest) Q a o w :=
 fQ W (S:=fun _=>True) (fun _ _=>trivial) ho hw (fun w1 _=>by rw[listed_nil (hg w1)];exact W.idle _ _) (fun w1 _=>h w1)
def bz(P:Program)(X:aM->aX->ae->Prop)(f:FuncId)(vs:Array Value)(o:aM)(w:ae)(Post:Value->aM->ae->Prop):Prop :=
 ∀(c:Frame) (cs:List Frame),(∀v o' w',Post v o' w'->X o' (G (c.finish v) cs) w')->X o (G (Frame.enter P f vs .normal) (c::cs)) w
theorem bz.mono{f:FuncId}{vs:Array Value}{Post IF:Value->aM->ae->Prop}(h:bz P X f vs o w Post)(hp:∀v o' w',Post v o' w'->IF v o' w'):bz P X f vs o w IF :=
 fun c cs hc=>h c cs fun v o' w' q=>hc v o' w' (hp v o' w' q)
theorem iN{f:FuncId}{fc:Func}{c:Code}(hf:P.funcs[f]?=some fc)(fF:fc.body=some c)(as:Array Value):Frame.enter P f as .normal=(base f).at {tmps:=as++Array.replicate (fc.ntmps-as.size) undef,defers:=[]} [.code c]:=by
 simp[Frame.enter,hf,fF,base,Frame.at]
theorem dA(W:fH P m R Gu X){ops:Array Oper}{i:Nat}{rest:List Nat}{op:Oper}{f:FuncId}{fc:Func}{c:Code}{args:Array Operand}{sA:Array TypeId}(ho:ops[i]?=some op)(hw:Region.wanted op (yielded ops a.tmps)=true)(eP:op.op=.call {callee:=.value (.func f),args,argTypes:=sA})(hf:P.funcs[f]?=some fc)(gP:(fc.name == "runtime.NumGoroutine")=false)(fF:fc.body=some c){vs:Array Value}(xT:args.map a.eval=vs){d:Option Tmp}(hd:op.dst=d)(h:bz P X f vs o w fun v o' w'=>eX X fn ops rest Q (a.put d v) o' w'):eX X fn ops (i::rest) Q a o w:=by
 subst xT hd;refine LC W ho hw eP hf gP fF fun b k cs hb hk hc=>?_;rw[<- iN hf fF];refine h _ _ fun v o' w' q=>?_;rw[show(b.at a (.inRegion ops (i::rest)::k)).finish v=b.at (a.put op.dst v) (.inRegion ops rest::k) by rw[ee,ho];rfl];exact q b k cs hb hk hc
theorem bC(W:fH P m R Gu X){f:FuncId}{fc:Func}{c:Code}{vs:Array Value}{Post:Value->aM->ae->Prop}(hf:P.funcs[f]?=some fc)(fF:fc.body=some c)(h:vV X f c (fun e a' o' w'=>(e=.normal\/e=.ret)/\a'.defers=[]/\∃v,ResultsC P fc a'.tmps v/\Post v o' w') {tmps:=vs++Array.replicate (fc.ntmps-vs.size) undef,defers:=[]} o w):bz P X f vs o w Post:=by
 intro cf cs hc;rw[iN hf fF];have leave:∀(a':Act) (o':aM) (w':ae) (todo:List Item) (v:Value),a'.defers=[]->ResultsC P fc a'.tmps v->Post v o' w'->X o' (G {(base f).at a' todo with mode:=.returning} (cf::cs)) w':=by
  intro a' o' w' todo v hd hr hx;refine W.go rfl (fun w1=>?_) (hc v o' w' hx);rw[stepG_leave (b:=base f) rfl hd hf (hr w1).1 (hr w1).2]
 refine h (base f) [] _ rfl (by simp[base]) fun e a' o' w' q=>?_;obtain⟨he,hd,v,hr,hx⟩:=q;rcases he with rfl|rfl
 ·exact W.go rfl (fun _=>ef) (leave a' o' w' [] v hd hr hx)
 ·exact fun todo=>leave a' o' w' todo v hd hr hx
theorem IG(W:fH P m R Gu X){x y:Code}(M:Act->aM->ae->Prop)(hx:vV X fn x (iH M Q) a o w)(hy:∀a' o' w',M a' o' w'->vV X fn y Q a' o' w'):vV X fn (.seq x y) Q a o w :=
 pH W (Iz hx fun e a' o' w' q=>by cases e<;>first|exact hy _ _ _ q|exact q)
end
section
variable {P:Program} {T:dm} {i:Nat} {V:Nat->ae->Prop} {E:bK} {L:Nat->Bool} {N:Nat->Bool}
abbrev XW(P:Program)(T:dm)(i:Nat)(V:Nat->ae->Prop)(E:bK)(rc:Nat->Prop):aM->aX->ae->Prop:=fun o g w=>gO P T i V E ⟨g,o,rc,w⟩
structure gA(T:dm)(o:aM)(w:ae):Prop where
 vb:∀b,o b->T.H0<=b/\b<w.heap.size
 size:T.H0<=w.heap.size
structure cR(T:dm)(i:Nat)(rc:Nat->Prop)(o:aM)(w:ae)(o':aM)(w':ae):Prop where
 rel:cW T i o rc w w'
 ok:gA T o' w'
 more:∀b,o b->o' b
theorem cR.refl{rc:Nat->Prop}{o:aM}{w:ae}(h:gA T o w):cR T i rc o w o w:=⟨.refl w,h,fun _ h=>h⟩
theorem cR.trans{rc:Nat->Prop}{o o' o2:aM}{w w' w2:ae}(h:cR T i rc o w o' w')(k:cR T i rc o' w' o2 w2):cR T i rc o w o2 w2:=⟨h.rel.trans (k.rel.less h.more),k.ok,fun b hb=>k.more b (h.more b hb)⟩
theorem E4{o:aM}(w:ae)(x:Obj)(hH:T.H0<=w.heap.size)(hT:T.OK):Lr T i o w (w.alloc x):=by
 have hh:∀b,b<w.heap.size->(w.alloc x).heap[b]?=w.heap[b]?:=fun b hb=>RowKit.Below.heap_alloc w x b hb;refine⟨aj,fun b hb _ _=>hh b hb,fun b cs ty fz hb hx=>⟨cs,by rw[hh b (by have:=(hT.sh b hb).1;omega)];exact hx,rfl⟩,fun a ha _=>cell_of (hh _ (by have:=(hT.sh _ ha).1;omega)),rfl,rfl⟩
theorem cR.alloc{rc:Nat->Prop}{o:aM}{w w1:ae}(hT:T.OK)(hi:i<T.n)(h:gA T o w)(hr:cW T i o rc w w1)(x:Obj):cR T i rc o w (grow o w1 (w1.alloc x)) (w1.alloc x):=by
 have hh:∀b,b<w1.heap.size->(w1.alloc x).heap[b]?=w1.heap[b]?:=fun b hb=>RowKit.Below.heap_alloc w1 x b hb;have hH:=aW h.size hr.size;have old:∀b,b<T.H0->(w1.alloc x).heap[b]?=w1.heap[b]?:=fun b hb=>hh b aa;have pv:∀k,k<T.n->(w1.alloc x).heap[T.ch k]?=w1.heap[T.ch k]?:=fun k hk=>old _ (hT.ch k hk).1;refine⟨hr.trans ⟨aj,fun b hb=>hh b (bw (h.vb b hb).2 hr.size),fun b h1 _ _ _=>old b h1,fun b cs ty fz hb hx=>⟨cs,by rw[old b (hT.sh b hb).1];exact hx,rfl⟩,fun a ha=>?_,fun k s r tm c hk hx=>⟨c,by rw[pv k hk];exact hx,id⟩,pv i hi,gu (old _ hT.wg),rfl,rfl⟩,⟨fun b hb=>?_,dV⟩,fun b hb=>.inl hb⟩
 ·have key:∀k,T.jW k (.cell a)->(w1.alloc x).cell? a=w1.cell? a:=by
   intro k fq;obtain⟨a',e,hs⟩:=hT.ownSh k _ fq;cases e;exact cell_of (old _ (hT.sh _ hs).1)
  rcases ha with ha|⟨k,_,ha⟩
  ·exact key i ha
  ·exact key k ha
 ·rcases hb with hb|hb
  ·have:=h.vb b hb;have:=hr.size;simp;omega
  ·simp at hb |-;omega
theorem nK(hT:T.OK)(hi:i<T.n){rc:Nat->Prop}{fn:FuncId}{Q:Exit->Act->aM->ae->Prop}{a:Act}{o:aM}{w:ae}(ga:gA T o w){ops:Array Oper}{j:Nat}{rest:List Nat}{op:Oper}(ho:ops[j]?=some op)(hw:Region.wanted op (yielded ops a.tmps)=true){d:Option Tmp}(hd:op.dst=d)(x:Obj)(cJ:∀w1,(execOp a.eval op).run P w1=.ok (.value (.pointer (some ⟨w1.heap.size,0,none⟩))) (w1.alloc x))(jg:∀w1,(execOp a.eval op).events P w1 #[]=#[])(h:∀A o1 w2,cR T i rc o w o1 w2->o1 A->w2.heap[A]?=some x->w.heap.size<=A->(∀b,o1 b↔o b\/b=A)->eX (XW P T i V E rc) fn ops rest Q (a.put d (.pointer (some ⟨A,0,none⟩))) o1 w2):eX (XW P T i V E rc) fn ops (j::rest) Q a o w:=by
 subst hd;refine lB (cL rc) ho hw fun w1 ly K hK=>?_;rw[cJ w1];simp only[uponK_value];refine hK _ _ ⟨⟨E4 _ _ (aW ga.size ly.size) hT,by rw[listed_nil (jg w1)];simp⟩,h w1.heap.size _ _ (cR.alloc hT hi ga ly x) (.inr ⟨ag _,aj⟩) ?_ ly.size fun b=>?_⟩
 ·show(w1.heap.push x)[w1.heap.size]?=_;simp
 ·have:=va o w1 x;exact Iff.of_eq (congrFun this b)
theorem wN(hT:T.OK)(hi:i<T.n)(db:rL P L 0)(KJ:P.globals.size≠1)(DK:P.globals.size<=T.H0){rc:Nat->Prop}{o:aM}{w:ae}{f:FuncId}{vs:Array Value}(hL:L f=true)(ga:gA T o w)(hN:∀b,N b=true->o b)(tf:ID N w)(uh:∀g,IC N g->vs.map (val g)=vs){R:ae->Value->ae->Prop}(hR:∀wl,Lm (R wl))(hRW:∀wl τ d v w',R (WT wl τ d) v w'->R wl v w')(hC:∀wl,(∀b,N b=true->wl.heap[b]?=w.heap[b]?)->w.heap.size<=wl.heap.size->Calls P f vs wl fun e w'=>∃v,e=.returned v/\R wl v w'){Post:Value->aM->ae->Prop}(h:∀wl v v' F' o' aV w',(∀b,N b=true->wl.heap[b]?=w.heap[b]?)->w.heap.size<=wl.heap.size->R wl v aV->Ck T i N o rc o' w w' F' aV v v'->Post v' o' w'):bz P (XW P T i V E rc) f vs o w Post:=by
 intro c cs hc;have hW:=R5 (P:=P) (L:=L) tf KJ (fun b hb=>aW DK (ga.vb b (hN b hb)).1) (aW DK ga.size);have KN:PF P L 0 (An P L N):=⟨fun r hr=>absurd hr (dZ r),rfl,rfl,R4 KJ fun b hb=>aW DK (ga.vb b (hN b hb)).1⟩;have D4:∀g,(An P L N).has g->Frame.enter P f vs .normal=frame g (Frame.enter P f vs .normal):=fun g hg=>by
  have:=uh g (IE hg);simp only[frame,Frame.enter,Array.map_append,this,Array.map_replicate,lz]
 have R6:Inv P L 0 [gy] (G (Frame.enter P f vs .normal) [gy]) (iU N w) :=
  ⟨An P L N,_,[],_,[],w,rfl,tT db hL _,aj,fun g hg=>⟨D4 g hg,rfl⟩,hW,xV tf,KN⟩
 have vW:Good P (kO P f (R (iU N w))) (G (Frame.enter P f vs .normal) [gy]) (iU N w):=by
  refine vU db (hR _) R6 fun τ d=>?_;refine(hC (WT (iU N w) τ d) (fun b hb=>lR N w hb) (by show w.heap.size<=(iU N w).heap.size;rw[kX];exact ag _)).mono ?_;rintro e w' ⟨v,rfl,hv⟩;exact⟨v,rfl,hRW _ _ _ _ _ hv⟩
 have Gj:=Ie db (Ba f _) R6 vW;have R7:WT (iU N w) w.tape w.drawn=iU N w:=rfl;refine gO.call hT hi db (F0:=An P L N) (o0:=o) (w0:=w) (fun v v' F' o' aV w' hQ hv IH hm fq agV acD hrel=>?_) _ Gj (An P L N) o _ w (by
  rw[R7];exact⟨_,[],_,[],rfl,rfl,tT db hL _,aj,fun g hg=>⟨D4 g hg,rfl⟩,hW,xV tf,KN,vW⟩) (fun r hr=>hN r hr) ga.vb ga.size (fun b hb=>hb) (fun r hr=>⟨hr,rfl⟩) (fun b hb r hr=>hb.2 r hr) (.refl w)
 refine hc v' o' w' (h (iU N w) v v' F' o' aV w' (fun b hb=>lR N w hb) (by rw[kX];exact ag _) hQ ⟨hv,IH,hm,fq,agV,acD,hrel.less fun b hb=>⟨hb.1,fun r hr e=>?_⟩⟩);have:r=b:=e;subst this;have UJ:N r=true:=hr;rw[hb.2] at UJ;cases UJ
theorem oC(hT:T.OK)(hi:i<T.n)(db:rL P L 0)(KJ:P.globals.size≠1)(DK:P.globals.size<=T.H0){rc:Nat->Prop}{o:aM}{w:ae}{f:FuncId}{vs:Array Value}(hL:L f=true)(ga:gA T o w)(hN:∀b,N b=true->o b)(tf:ID N w)(uh:∀g,IC N g->vs.map (val g)=vs)(v:Value)(hv:∀f,val f v=v)(hC:∀wl,(∀b,N b=true->wl.heap[b]?=w.heap[b]?)->w.heap.size<=wl.heap.size->Calls P f vs wl fun e w'=>e=.returned v/\RowKit.Below wl.heap.size wl w'):
  bz P (XW P T i V E rc) f vs o w fun v' o' w'=>v'=v/\cR T i rc o w o' w':=by
 refine wN (R:=fun wl u w'=>u=v/\∀b,b<wl.heap.size->w'.heap[b]?=wl.heap[b]?) hT hi db KJ DK hL ga hN tf uh (fun wl u w' τ d h=>h) (fun wl τ d u w' h=>h) (fun wl h1 h2=>(hC wl h1 h2).mono ?_) ?_
 ·rintro e w' ⟨rfl,hb⟩;exact⟨v,rfl,rfl,hb.block⟩
 ·rintro wl u v' F' o' aV w' h1 h2 ⟨rfl,h3⟩ hB;have hrel:=hB.stays tf h1 (fun b hb=>h3 b (by have:=(ga.vb b (hN b hb)).2;omega));exact⟨hB.plain hv,hrel,⟨hB.vb,aW ga.size hrel.size⟩,hB.more⟩
theorem qf(hT:T.OK)(hi:i<T.n)(db:rL P L 0)(KJ:P.globals.size≠1)(DK:P.globals.size<=T.H0){rc:Nat->Prop}{o:aM}{w:ae}{f:FuncId}{vs:Array Value}(hL:L f=true)(ga:gA T o w)(uh:∀g,vs.map (val g)=vs)(v:Value)(hv:∀f,val f v=v)(hC:∀wl,Calls P f vs wl fun e w'=>e=.returned v/\RowKit.Below wl.heap.size wl w'):
  bz P (XW P T i V E rc) f vs o w fun v' o' w'=>v'=v/\cR T i rc o w o' w' :=
 oC (N:=fun _=>false) hT hi db KJ DK hL ga (fun b h=>by cases h) (fun b h=>by cases h) (fun g _=>uh g) v hv fun wl _ _=>hC wl
end
section
variable {P:Program} {main:Bool} {b:Frame} {a:Act} {cs:List Frame} {w:ae}
theorem ui{fn:Func}{todo:List Item}{c:Frame}{v:Value}(hn:b.kind=.normal)(hd:a.defers=[])(hf:P.funcs[b.fn]?=some fn)(hr:(results fn a.tmps).run P w=.ok v w):
  ∃es,stepG P main (G {b.at a todo with mode:=.returning} (c::cs)) w=.go (G (c.finish v) cs) w es/\∀e∈es,e∈(results fn a.tmps).events P w #[] :=
 ⟨_,by simp[G,stepG,unwind,doReturn,Frame.at,hn,hd,hf,hr,GStep.after];rfl,fun e he=>mem_seen he⟩
end
section
variable {P:Program} {m:Bool} {R:aM->ae->ae->Prop} {Gu:aM->ae->ae->Array Event->Prop} {X:aM->aX->ae->Prop} {o:aM} {w:ae}
def uj(P:Program)(R:aM->ae->ae->Prop)(Gu:aM->ae->ae->Array Event->Prop)(fc:Func)(tmps:Array Value)(o:aM)(w:ae)(v:Value):Prop :=
 ∀w1,R o w w1->(results fc tmps).run P w1=.ok v w1/\∀es:Array Event,(∀e∈es,e∈(results fc tmps).events P w1 #[])->Gu o w1 w1 es
theorem eA(W:fH P m R Gu X){f:FuncId}{fc:Func}{c:Code}{vs:Array Value}{Post:Value->aM->ae->Prop}(hf:P.funcs[f]?=some fc)(fF:fc.body=some c)(h:vV X f c (fun e a' o' w'=>(e=.normal\/e=.ret)/\a'.defers=[]/\∃v,uj P R Gu fc a'.tmps o' w' v/\Post v o' w') {tmps:=vs++Array.replicate (fc.ntmps-vs.size) undef,defers:=[]} o w):bz P X f vs o w Post:=by
 intro cf cs hc;rw[iN hf fF];have leave:∀(a':Act) (o':aM) (w':ae) (todo:List Item) (v:Value),a'.defers=[]->uj P R Gu fc a'.tmps o' w' v->Post v o' w'->X o' (G {(base f).at a' todo with mode:=.returning} (cf::cs)) w':=by
  intro a' o' w' todo v hd hr hx;refine W.step _ _ _ rfl fun w1 h1=>?_;obtain⟨es,e1,e2⟩:=ui (main:=m) (b:=base f) (a:=a') (todo:=todo) (c:=cf) (cs:=cs) rfl hd hf (hr w1 h1).1;exact⟨_,_,es,e1,(hr w1 h1).2 es e2,by rw[b8];exact W.rely _ _ _ _ (hc v o' w' hx) h1⟩
 refine h (base f) [] _ rfl (by simp[base]) fun e a' o' w' q=>?_;obtain⟨he,hd,v,hr,hx⟩:=q;rcases he with rfl|rfl
 ·exact W.go rfl (fun _=>ef) (leave a' o' w' [] v hd hr hx)
 ·exact fun todo=>leave a' o' w' todo v hd hr hx
end
section
variable {T:dm} {i:Nat} {N:Nat->Bool} {o rc o':Nat->Prop} {w w' aV:ae} {F':jE} {v v':Value}
theorem Vz{F:jE}{wl w:ae}(W:WR F wl w){b off:Nat}{x:Value}(hK:F.K b)(hx:∀f,val f x=x)(hc:wl.cell? ⟨b,off,none⟩=some x):w.cell? ⟨F.φ b,off,none⟩=some x:=by
 obtain⟨f,hf⟩:=W.some;have h:=W.tJ b hK f hf;simp only[World.cell?] at hc |-;rw[h];cases hb:wl.heap[b]? with
 |none=>rw[hb] at hc;cases hc
 |some y =>
  rw[hb] at hc;cases y<;>simp only[aJ,obj] at hc |-<;>first|cases hc;done|skip
  simp only[Option.isSome_none,aL,if_false] at hc |-;simp only[aK,hc,aJ,hx f]
theorem Ck.cell(h:Ck T i N o rc o' w w' F' aV v v'){b off:Nat}{x:Value}(hN:N b=true)(hx:∀f,Ren.val f x=x)(hc:aV.cell? ⟨b,off,none⟩=some x):w'.cell? ⟨b,off,none⟩=some x:=by
 have:=Vz h.wr (h.keep b hN).1 hx hc;rwa[(h.keep b hN).2] at this
end
section
variable {P:Program} {T:dm} {i:Nat} {V:Nat->ae->Prop} {E:bK} {rc o:Nat->Prop} {w w':ae}
structure gY(A:Nat)(w w':ae):Prop where
 size:w'.heap.size=w.heap.size
 heap:∀b,b≠A->w'.heap[b]?=w.heap[b]?
 os:w'.os=w.os
 output:w'.output=w.output
theorem gY.set(w:ae)(A off:Nat)(v:Value):gY A w (w.setCell ⟨A,off,none⟩ v):=⟨by simp[World.setCell],fun b hb=>RowKit.Below.heap_setCell w _ _ b hb,rfl,rfl⟩
theorem gY.trans{A:Nat}{w w1 w2:ae}(h:gY A w w1)(k:gY A w1 w2):gY A w w2:=⟨k.size.trans h.size,fun b hb=>(k.heap b hb).trans (h.heap b hb),k.os.trans h.os,k.output.trans h.output⟩
theorem gY.guW{A:Nat}(hT:T.OK)(h:gY A w w')(hA:o A)(Zn:T.H0<=A):Lr T i o w w':=by
 have hh:∀b,T.Sh b->w'.heap[b]?=w.heap[b]?:=fun b hb=>h.heap b (by have:=(hT.sh b hb).1;omega);exact⟨bG h.size.symm,fun b _ hb _=>h.heap b fun e=>hb (e▸hA),fun b cs ty fz hb hx=>⟨cs,by rw[hh b hb];exact hx,rfl⟩,fun a ha _=>cell_of (hh _ ha),h.os,h.output⟩
theorem gY.Cd{A:Nat}(hT:T.OK)(hi:i<T.n)(h:gY A w w')(Zn:T.H0<=A):cW T i (fun b=>o b/\b≠A) rc w w':=by
 have old:∀b,b<T.H0->w'.heap[b]?=w.heap[b]?:=fun b hb=>h.heap b aa;have pv:∀k,k<T.n->w'.heap[T.ch k]?=w.heap[T.ch k]?:=fun k hk=>old _ (hT.ch k hk).1;refine⟨bG h.size.symm,fun b hb=>h.heap b hb.2,fun b h1 _ _ _=>old b h1,fun b cs ty fz hb hx=>⟨cs,by rw[old b (hT.sh b hb).1];exact hx,rfl⟩,fun a ha=>?_,fun k s r tm c hk hx=>⟨c,by rw[pv k hk];exact hx,id⟩,pv i hi,gu (old _ hT.wg),h.os,h.output⟩;have key:∀k,T.jW k (.cell a)->w'.cell? a=w.cell? a:=by
  intro k fq;obtain⟨a',e,hs⟩:=hT.ownSh k _ fq;cases e;exact cell_of (old _ (hT.sh _ hs).1)
 rcases ha with ha|⟨k,_,ha⟩
 ·exact key i ha
 ·exact key k ha
theorem xW{ad:Addr}{wt sy:Bool}(h:o ad.block):Np T i o rc ⟨.cell ad,wt,sy⟩:=by
 refine⟨fun x hx _=>.inl ⟨ad.block,h,?_⟩,aj,aj,aj⟩;simp only[MemAct.ofEvent,MemAct.touch?,ay] at hx;subst hx;rfl
structure rC(T:dm)(i:Nat)(rc:Nat->Prop)(A:Nat)(o:aM)(w:ae)(o':aM)(w':ae):Prop where
 rel:cW T i (fun b=>o b/\b≠A) rc w w'
 ok:gA T o' w'
 more:∀b,o b->o' b
theorem cR.wO{A:Nat}{o':aM}(h:cR T i rc o w o' w'):rC T i rc A o w o' w':=⟨h.rel.less fun b hb=>hb.1,h.ok,h.more⟩
theorem rC.trans{A:Nat}{o' o2:aM}{w2:ae}(h:rC T i rc A o w o' w')(k:rC T i rc A o' w' o2 w2):rC T i rc A o w o2 w2:=⟨h.rel.trans (k.rel.less fun b hb=>⟨h.more b hb.1,hb.2⟩),k.ok,fun b hb=>k.more b (h.more b hb)⟩
theorem rC.later{A:Nat}{o':aM}(h:rC T i rc A o w o' w')(hA:¬o A):cR T i rc o w o' w':=⟨h.rel.less fun b hb=>⟨hb,fun e=>hA (e▸hb)⟩,h.ok,h.more⟩
theorem qg(hT:T.OK)(hi:i<T.n){fn:FuncId}{Q:Exit->Act->aM->ae->Prop}{a:Act}(ga:gA T o w){ops:Array Oper}{j:Nat}{rest:List Nat}{op:Oper}(ho:ops[j]?=some op)(hw:Region.wanted op (yielded ops a.tmps)=true)(A:Nat)(hA:o A){f:ae->ae}(cJ:∀w1,w1.heap[A]?=w.heap[A]?->(execOp a.eval op).run P w1=.ok .skip (f w1))(hf:∀w1,gY A w1 (f w1))(jg:∀w1,w1.heap[A]?=w.heap[A]?->∀e∈(execOp a.eval op).events P w1 #[],∃ad wt sy,e=⟨.cell ad,wt,sy⟩/\ad.block=A)(h:∀w1,w1.heap[A]?=w.heap[A]?->rC T i rc A o w o (f w1)->eX (XW P T i V E rc) fn ops rest Q (a.put op.dst undef) o (f w1)):eX (XW P T i V E rc) fn ops (j::rest) Q a o w:=by
 refine lB (cL rc) ho hw fun w1 ly K hK=>?_;have II:=ly.own A hA;have Zn:=(ga.vb A hA).1;rw[cJ w1 II];simp only[uponK_skip];have hO:=hf w1;refine hK _ _ ⟨⟨hO.guW hT hA Zn,fun e he=>?_⟩,?_⟩
 ·obtain⟨ad,wt,sy,rfl,e2⟩:=jg w1 II e (mem_listed he);exact xW (.inl (by rw[e2];exact hA))
 ·rw[kH o hO.size];refine h w1 II ⟨(ly.less fun b hb=>hb.1).trans (hO.Cd hT hi Zn),⟨fun b hb=>?_,?_⟩,fun _ hb=>hb⟩
  ·have:=ga.vb b hb;have:=ly.size;have:=hO.size;omega
  ·have:=ga.size;have:=ly.size;have:=hO.size;omega
theorem Zo{F:jE}{wl w:ae}(W:WR F wl w){b t n:Nat}{g:Nat->Value}(hK:F.K b)(hg:∀j,j<n->∀f,val f (g j)=g j)(hr:wl.rowIs b t n g):w.rowIs (F.φ b) t n g:=by
 obtain⟨f,hf⟩:=W.some;obtain⟨c,hb,hn,hc⟩:=hr;refine⟨c.map (val f),?_,by simpa using hn,fun j hj=>?_⟩
 ·rw[W.tJ b hK f hf,hb];rfl
 ·rw[aK,hc j hj,aJ,hg j hj f]
end
def cF(ops:Array Oper)(v:Nat->Value)(a:Act):List Nat->Act
 | []=>a
 |i::l=>cF ops v (a.put ((ops[i]?).bind (·.dst)) (v i)) l
def gB(ops:Array Oper)(i:Nat):Option Tmp:=(ops[i]?).bind (·.dst)
section
variable {ops:Array Oper} {v:Nat->Value} {a:Act}
theorem iI(a:Act)(l l':List Nat):cF ops v a (l++l')=cF ops v (cF ops v a l) l':=by
 induction l generalizing a with
 |nil=>rfl
 |cons i l ih=>exact ih _
theorem Ao(l:List Nat):∀a:Act,(cF ops v a l).tmps.size=a.tmps.size:=by
 induction l with
 |nil=>intro a;rfl
 |cons i l ih =>
  intro a;simp only[cF];rw[ih];unfold Act.put;split<;>simp
theorem j0(hd:∀i j d,i≠j->gB ops i=some d->gB ops j≠some d){l l':List Nat}(h:l.Perm l'):∀a:Act,cF ops v a l=cF ops v a l':=by
 induction h with
 |nil=>intro a;rfl
 |cons x _ ih=>intro a;exact ih _
 |swap x y l =>
  intro a;simp only[cF];by_cases e:x=y
  ·subst e;rfl
  ·exact congrArg (fun z=>cF ops v z l) (Act.put_comm a (x:=gB ops y) (y:=gB ops x) (v y) (v x) (fun d Vw=>hd y x d (bp e) Vw))
 |trans _ _ ih1 ih2=>intro a;exact(ih1 a).trans (ih2 a)
theorem pk{x:Operand}(l:List Nat):∀a:Act,(∀i∈l,∀d,gB ops i=some d->x≠.tmp d)->(cF ops v a l).eval x=a.eval x:=by
 induction l with
 |nil=>intro a _;rfl
 |cons i l ih =>
  intro a h;simp only[cF];rw[ih _ (fun j hj=>h j (by simp[hj]))];exact Act.eval_put (fun d Vw=>h i aj d Vw)
end
theorem qh:∀(n:Nat) (l:List Nat),l.Nodup->(∀x∈l,x<n)->l.length<=n:=by
 intro n
 induction n with
 |zero =>
  intro l _ h;cases l with
  |nil=>simp
  |cons x l=>have:=h x aj;omega
 |succ n ih =>
  intro l hl h;have h1:=ih (l.erase n) (hl.erase n) fun x hx=>by
   have xk:=(List.Nodup.mem_erase_iff hl).1 hx;have:=h x xk.2;have:=xk.1;omega
  have h2:l.length<=(l.erase n).length+1:=by
   by_cases hm:n∈l
   ·rw[List.length_erase_of_mem hm];omega
   ·rw[List.erase_of_not_mem hm];omega
  omega
theorem go_acc(md:Region.Mode)(ops:Array Oper):∀(fuel t:Nat) (ls:Array Bool) (acc:List Nat),Region.linearise.go md ops fuel t ls acc=acc.reverse++Region.linearise.go md ops fuel t ls []:=by
 intro fuel
 induction fuel with
 |zero=>intro t ls acc;simp[Region.linearise.go]
 |succ n ih =>
  intro t ls acc;simp only[Region.linearise.go];split
  ·rename_i i hi;rw[ih _ _ (i::acc),ih _ _ [i]];simp
  ·simp
structure uk(ops:Array Oper)(n:Nat)(ls:Array Bool)(done:List Nat):Prop where
 sz:ls.size=n
 nd:done.Nodup
 got:∀j,ls.getD j false=true↔j∈done
 lt:∀j∈done,j<n
 cl:∀j∈done,∀op,ops[j]?=some op->∀e∈op.after,Region.binds .any e=true->e.on∈done
theorem uk.zero(ops:Array Oper)(n:Nat):uk ops n (Array.replicate n false) []:=by
 refine⟨aj,List.nodup_nil,fun j=>?_,aj,aj⟩;simp only[bR,dh,iff_false];by_cases hj:j<n<;>simp[hj]
theorem uk.step{ops:Array Oper}{n:Nat}{ls:Array Bool}{done:List Nat}(h:uk ops n ls done)(hn:ops.size=n)(Cm:∀(i:Nat) (op:Oper),ops[i]?=some op->∀e∈op.after,Region.binds .any e=true->e.on<i)(hd:done.length<n)(fuel t:Nat):∃i op t',i<n/\i∉done/\ops[i]?=some op/\(∀e∈op.after,Region.binds .any e=true->e.on∈done)/\Region.linearise.go .any ops (fuel+1) t ls []=i::Region.linearise.go .any ops fuel t' (ls.setIfInBounds i true) []/\uk ops n (ls.setIfInBounds i true) (done++[i]):=by
 obtain⟨fE,vc,hls,cy,fu⟩:=h;simp only[Region.linearise.go];generalize Cn:(List.range ops.size).filter (fun i=>!ls.getD i true&&((ops[i]?).map (·.after.all fun e=>!Region.binds .any e||ls.getD e.on false)).getD false)=rs;have mem:∀i,i∈rs↔i<n/\i∉done/\∃op,ops[i]?=some op/\∀e∈op.after,Region.binds .any e=true->e.on∈done:=by
  intro i;rw[<- Cn,List.mem_filter,kY,hn];constructor
  ·rintro⟨h1,h2⟩;simp only[a8,eB] at h2;have qe:i<ls.size:=aa;have e1:ls.getD i true=ls.getD i false:=by simp[bR,qe]
   refine⟨h1,fun hd=>?_,?_⟩
   ·have:=(hls i).2 hd;rw[<- e1,h2.1] at this;cases this
   ·cases ho:ops[i]? with
    |none=>rw[ho] at h2;simp at h2
    |some op =>
     rw[ho] at h2;refine⟨op,rfl,fun e he Q4=>?_⟩;simp only[aJ,bq,Array.all_eq_true'] at h2;have:=h2.2 e he;simp only[Q4,Bool.not_true,Bool.false_or] at this;exact(hls e.on).1 this
  ·rintro⟨h1,h2,op,ho,h3⟩;have qe:i<ls.size:=aa;have e1:ls.getD i true=ls.getD i false:=by simp[bR,qe]
   refine⟨h1,?_⟩;simp only[a8,eB];refine⟨?_,?_⟩
   ·rw[e1];cases hx:ls.getD i false with
    |false=>rfl
    |true=>exact absurd ((hls i).1 hx) h2
   ·rw[ho];simp only[aJ,bq,Array.all_eq_true'];intro e he;cases Q4:Region.binds .any e with
    |false=>rfl
    |true=>simp only[Bool.not_true,Bool.false_or];exact(hls e.on).2 (h3 e he Q4)
 have dH:rs≠[]:=by
  intro e;have all:∀j,j<n->j∈done:=by
   intro j
   induction j using Nat.strongRecOn with
   |ind j ihj =>
    intro hj;refine aZ fun hd=>?_;obtain⟨op,ho⟩:∃op,ops[j]?=some op:=⟨ops[j]'aa,aN aa⟩;have:j∈rs:=(mem j).2 ⟨hj,hd,op,ho,fun e he hb=>ihj _ (Cm j op ho e he hb) (by have:=Cm j op ho e he hb;omega)⟩;rw[e] at this;cases this
  have hle:=((dq vc iC).2 fun j=>⟨fun h=>List.mem_range.2 (cy j h),fun h=>all j (List.mem_range.1 h)⟩).length_eq;simp at hle;omega
 have hlen:0<rs.length:=List.length_pos_iff.2 dH;obtain⟨i,hi⟩:∃i,rs[t%rs.length]?=some i:=⟨rs[t%rs.length]'(Nat.mod_lt _ hlen),bo _⟩;simp only[hi];rw[go_acc];simp only[List.reverse_cons,List.reverse_nil,List.nil_append,List.cons_append];obtain⟨h1,h2,op,ho,h3⟩:=(mem i).1 (List.mem_of_getElem? hi);refine⟨i,op,t/rs.length,h1,h2,ho,h3,rfl,by simp[fE],List.nodup_append.2 ⟨vc,aj,fun x hx y hy=>by simp at hy;subst hy;rintro rfl;exact h2 hx⟩,fun j=>?_,fun j hj=>?_,fun j hj IJ pD e he Q4=>?_⟩
 ·rw[gH,List.mem_singleton];by_cases Bd:i=j
  ·subst Bd;simp[bR,show i<ls.size by omega]
  ·rw[bR,aS Bd,<- bR,hls j];exact⟨.inl,fun h=>h.elim (fun h=>h) fun h=>absurd h.symm Bd⟩
 ·rcases List.mem_append.1 hj with hj|hj
  ·exact cy j hj
  ·simp at hj;omega
 ·rcases List.mem_append.1 hj with hj|hj
  ·exact List.mem_append.2 (.inl (fu j hj IJ pD e he Q4))
  ·simp at hj;subst hj;rw[ho] at pD;cases pD;exact List.mem_append.2 (.inl (h3 e he Q4))
section
variable {P:Program} {m:Bool} {R:aM->ae->ae->Prop} {Gu:aM->ae->ae->Array Event->Prop} {X:aM->aX->ae->Prop} {fn:FuncId} {Q:Exit->Act->aM->ae->Prop} {a:Act} {o:aM} {w:ae}
theorem VA(W:fH P m R Gu X)(wP:P.follows .mixedOrders=true){id n:Nat}{ops:Array Oper}(hn:ops.size=n+1){v:Nat->Value}{S:ae->Prop}(hS:∀w w1,S w->R o w w1->S w1)(Zp:∀w:ae,S w->S {w with drawn:=w.drawn+1})(Zq:∀w:ae,Gu o w {w with drawn:=w.drawn+1} #[])(h0:S w)(Cm:∀(i:Nat) (op:Oper),ops[i]?=some op->∀e∈op.after,e.on<i)(R8:∀D:Nat->Prop,(∀(i:Nat) (op:Oper),ops[i]?=some op->D i->∀e∈op.after,Region.binds .any e=true->D e.on)->D n->∀j,j<=n->D j)(R9:∀i j d,i≠j->gB ops i=some d->gB ops j≠some d)(eP:∀(i:Nat) (op:Oper),i<n->ops[i]?=some op->∀done:List Nat,done.Nodup->i∉done->(∀j∈done,j<n)->(∀e∈op.after,Region.binds .any e=true->e.on∈done)->∀w1,S w1 ->
   Region.wanted op (yielded ops (cF ops v a done).tmps)=true/\(execOp (cF ops v a done).eval op).run P w1=.ok (.value (v i)) w1/\Gu o w1 w1 (listed P fn (cF ops v a done) op w1)){b:Frame}{k:List Item}{cs:List Frame}(hb:b.fn=fn)(hk:b.kind≠.early)(ub:∀w',S w'->X o (G (b.at (cF ops v a (List.range n)) (.inRegion ops [n]::k)) cs) w'):
  X o (G (b.at a (.code (.region id ops true)::k)) cs) w:=by
 have key:∀(fuel t:Nat) (ls:Array Bool) (done:List Nat) (w:ae),S w->uk ops (n+1) ls done->(∀j∈done,j<n)->fuel+done.length=n+1 ->
   X o (G (b.at (cF ops v a done) (.inRegion ops (Region.linearise.go .any ops fuel t ls [])::k)) cs) w:=by
  intro fuel
  induction fuel with
  |zero =>
   intro t ls done w hw hL cy XU;have h1:=qh n done hL.nd cy;simp at XU;omega
  |succ fuel ih =>
   intro t ls done w hw hL cy XU;obtain⟨i,op,t',h1,h2,ho,h3,el,hL'⟩:=hL.step hn (fun i op ho e he _=>Cm i op ho e he) aa fuel t;rw[el];have vc:=hL.nd;have fu:=hL.cl;by_cases rN:i=n
   ·
    subst rN;have all:∀j,j<=i->j∈i::done:=R8 (fun j=>j∈i::done) (fun j IJ pD hj e he Q4=>by
     rcases List.mem_cons.1 hj with rfl|hj
     ·rw[ho] at pD;cases pD;exact bD _ (h3 e he Q4)
     ·exact bD _ (fu j hj IJ pD e he Q4)) aj
    have hp:done.Perm (List.range i):=by
     refine(dq vc iC).2 fun j=>?_;rw[kY];constructor
     ·exact cy j
     ·intro hj;rcases List.mem_cons.1 (all j aa) with e|e
      ·omega
      ·exact e
    have hdl:done.length=i:=by rw[hp.length_eq];simp
    have kI:fuel=0:=aa;subst kI;simp only[Region.linearise.go,List.reverse_nil];rw[j0 R9 hp];exact ub w hw
   ·have Zr:i<n:=aa;refine W.step o _ w rfl fun w1 qW=>?_;have VB:=hS w w1 hw qW;obtain⟨g1,g2,g3⟩:=eP i op Zr ho done vc h2 cy h3 w1 VB;refine⟨_,w1,_,eH ho g1 hk g2,hb▸g3,?_⟩;rw[b8];have epa:(cF ops v a done).put op.dst (v i)=cF ops v a (done++[i]):=by
     rw[iI];simp[cF,ho]
    rw[epa];clear epa;refine ih t' _ (done++[i]) w1 VB hL' (fun j hj=>?_) dV;rcases List.mem_append.1 hj with hj|hj
    ·exact cy j hj
    ·simp at hj;omega
 refine W.step o _ w rfl fun w1 qW=>⟨_,_,_,stepG_region_draw,Zq w1,?_⟩;rw[kH o ar];have Sa:∀t,Region.schedule (P.follows .mixedOrders) ops t=Region.linearise.go .any ops (n+1) t (Array.replicate (n+1) false) []:=by
  intro t;simp[Region.schedule,wP,Region.linearise,hn]
 rw[Sa];exact key (n+1) (w1.tape w1.drawn (.order b.fn id)) (Array.replicate (n+1) false) [] {w1 with drawn:=w1.drawn+1} (Zp _ (hS w w1 h0 qW)) (uk.zero ops _) aj aj
theorem Pq(W:fH P m R Gu X)(wP:P.follows .mixedOrders=true){id n:Nat}{ops:Array Oper}(hn:ops.size=n+1){v:Nat->Value}{S:aM->ae->Prop}(hS:∀o w w1,S o w->R o w w1->S o w1)(Zp:∀o (w:ae),S o w->S o {w with drawn:=w.drawn+1})(Zq:∀w:ae,Gu o w {w with drawn:=w.drawn+1} #[])(h0:S o w)(Cm:∀(i:Nat) (op:Oper),ops[i]?=some op->∀e∈op.after,e.on<i)(R8:∀D:Nat->Prop,(∀(i:Nat) (op:Oper),ops[i]?=some op->D i->∀e∈op.after,Region.binds .any e=true->D e.on)->D n->∀j,j<=n->D j)(R9:∀i j d,i≠j->gB ops i=some d->gB ops j≠some d)(eP:∀(i:Nat) (op:Oper),i<n->ops[i]?=some op->∀done:List Nat,done.Nodup->i∉done->(∀j∈done,j<n)->(∀e∈op.after,Region.binds .any e=true->e.on∈done)->∀o w rest,S o w ->
   (∀o' w',S o' w'->eX X fn ops rest Q ((cF ops v a done).put op.dst (v i)) o' w')->eX X fn ops (i::rest) Q (cF ops v a done) o w)(ub:∀o w,S o w->eX X fn ops [n] Q (cF ops v a (List.range n)) o w):
  vV X fn (.region id ops true) Q a o w:=by
 have key:∀(fuel t:Nat) (ls:Array Bool) (done:List Nat) (o:aM) (w:ae),S o w->uk ops (n+1) ls done->(∀j∈done,j<n)->fuel+done.length=n+1 ->
   eX X fn ops (Region.linearise.go .any ops fuel t ls []) Q (cF ops v a done) o w:=by
  intro fuel
  induction fuel with
  |zero =>
   intro t ls done o w hw hL cy XU;have h1:=qh n done hL.nd cy;simp at XU;omega
  |succ fuel ih =>
   intro t ls done o w hw hL cy XU;obtain⟨i,op,t',h1,h2,ho,h3,el,hL'⟩:=hL.step hn (fun i op ho e he _=>Cm i op ho e he) aa fuel t;rw[el];have vc:=hL.nd;have fu:=hL.cl;by_cases rN:i=n
   ·
    subst rN;have all:∀j,j<=i->j∈i::done:=R8 (fun j=>j∈i::done) (fun j IJ pD hj e he Q4=>by
     rcases List.mem_cons.1 hj with rfl|hj
     ·rw[ho] at pD;cases pD;exact bD _ (h3 e he Q4)
     ·exact bD _ (fu j hj IJ pD e he Q4)) aj
    have hp:done.Perm (List.range i):=by
     refine(dq vc iC).2 fun j=>?_;rw[kY];constructor
     ·exact cy j
     ·intro hj;rcases List.mem_cons.1 (all j aa) with e|e
      ·omega
      ·exact e
    have hdl:done.length=i:=by rw[hp.length_eq];simp
    have kI:fuel=0:=aa;subst kI;simp only[Region.linearise.go,List.reverse_nil];rw[j0 R9 hp];exact ub o w hw
   ·have Zr:i<n:=aa;refine eP i op Zr ho done vc h2 cy h3 o w _ hw fun o1 w1 VB=>?_;have epa:(cF ops v a done).put op.dst (v i)=cF ops v a (done++[i]):=by
     rw[iI];simp[cF,ho]
    rw[epa];clear epa;refine ih t' _ (done++[i]) o1 w1 VB hL' (fun j hj=>?_) dV;rcases List.mem_append.1 hj with hj|hj
    ·exact cy j hj
    ·simp at hj;omega
 intro b k cs hb hk hc;refine W.step o _ w rfl fun w1 qW=>⟨_,_,_,stepG_region_draw,Zq w1,?_⟩;rw[kH o ar];have Sa:∀t,Region.schedule (P.follows .mixedOrders) ops t=Region.linearise.go .any ops (n+1) t (Array.replicate (n+1) false) []:=by
  intro t;simp[Region.schedule,wP,Region.linearise,hn]
 rw[Sa];exact key (n+1) (w1.tape w1.drawn (.order b.fn id)) (Array.replicate (n+1) false) [] o {w1 with drawn:=w1.drawn+1} (Zp _ _ (hS o w w1 h0 qW)) (uk.zero ops _) aj aj b k cs hb hk hc
end
section
variable {P:Program} {T:dm} {i:Nat} {V:Nat->ae->Prop} {E:bK}
abbrev xX:=Exit->Act->(Nat->Prop)->aM->ae->Prop
def LF(P:Program)(T:dm)(i:Nat)(V:Nat->ae->Prop)(E:bK)(fn:FuncId)(c:Code)(Q:xX)(a:Act)(rc:Nat->Prop)(o:aM)(w:ae):Prop :=
 ∀(b:Frame) (k:List Item) (cs:List Frame),b.fn=fn->b.kind≠.early->(∀e a' nY o' w',Q e a' nY o' w'->ug (XW P T i V E nY) b k cs e a' o' w')->XW P T i V E rc o (G (b.at a (.code c::k)) cs) w
def Sc(M:Act->(Nat->Prop)->aM->ae->Prop)(Q:xX):xX
 | .normal,a,rc,o,w=>M a rc o w
 |e,a,rc,o,w=>Q e a rc o w
def xY(id:Nat)(Q:xX):xX
 | .exit R3,a,rc,o,w=>if R3=id then Q .normal a rc o w else Q (.exit R3) a rc o w
 |e,a,rc,o,w=>Q e a rc o w
variable {fn:FuncId} {Q:xX} {a:Act} {rc:Nat->Prop} {o:aM} {w:ae}
theorem fJ{c:Code}(h:vV (XW P T i V E rc) fn c (fun e a' o' w'=>Q e a' rc o' w') a o w):LF P T i V E fn c Q a rc o w :=
 fun b k cs hb hk hc=>h b k cs hb hk fun e a' o' w' q=>hc e a' rc o' w' q
theorem kQ{x y:Code}(h:LF P T i V E fn x (Sc (fun a' nY o' w'=>LF P T i V E fn y Q a' nY o' w') Q) a rc o w):LF P T i V E fn (.seq x y) Q a rc o w:=by
 intro b k cs hb hk hc;refine(cL rc).go rfl (fun _=>aD) (h b (.code y::k) cs hb hk fun e a' nY o' w' q=>?_);cases e with
 |normal=>exact q b k cs hb hk hc
 |exit id=>exact(hc _ _ _ _ _ q).push rfl aj
 |ret=>exact(hc _ _ _ _ _ q).push (y:=.code y) rfl aj
 |goto l=>exact hc _ _ _ _ _ q
 |panic ch=>exact hc _ _ _ _ _ q
 |outgrown=>exact hc _ _ _ _ _ q
theorem IK{c:Operand}{x y:Code}{t:Bool}(hc:a.eval c=.bool t)(ht:t=true->LF P T i V E fn x Q a rc o w)(hf:t=false->LF P T i V E fn y Q a rc o w):LF P T i V E fn (.cond c x y) Q a rc o w:=by
 intro b k cs hb hk hq;refine(cL rc).go rfl (fun _=>ew hc) ?_;cases t with
 |true=>exact ht rfl b k cs hb hk hq
 |false=>exact hf rfl b k cs hb hk hq
theorem E5{id:Nat}{c:Code}(h:LF P T i V E fn c (xY id Q) a rc o w):LF P T i V E fn (.block id c) Q a rc o w:=by
 intro b k cs hb hk hc;refine(cL rc).go rfl (fun _=>fe) (h b (.inBlock id::k) cs hb hk fun e a' nY o' w' q=>?_);cases e with
 |normal=>exact(cL nY).go rfl (fun _=>gv) (hc _ _ _ _ _ q)
 |exit R3 =>
  by_cases hid:R3=id
  ·simp only[xY,hid,if_true] at q;exact⟨k,by simp[exitTo,hid],hc _ _ _ _ _ q⟩
  ·simp only[xY,hid,if_false] at q;obtain⟨k',lP,hg⟩:=hc _ _ _ _ _ q;have:(id==R3)=false:=by simp;exact fun h=>hid h.symm
   exact⟨k',by simp[exitTo,this,lP],hg⟩
 |ret=>exact fun todo=>hc _ _ _ _ _ q todo
 |goto l=>exact hc _ _ _ _ _ q
 |panic ch=>exact hc _ _ _ _ _ q
 |outgrown=>exact hc _ _ _ _ _ q
theorem Sd{c:Code}(I:Nat->Act->(Nat->Prop)->aM->ae->Prop){N:Nat}(h0:I N a rc o w)(round:∀n a rc o w,I n a rc o w->LF P T i V E fn c (Sc (fun a' nY o' w'=>∃n',n'<n/\I n' a' nY o' w') Q) a rc o w):LF P T i V E fn (.loop c) Q a rc o w:=by
 intro b k cs hb hk hc;have key:∀N a rc o w,I N a rc o w->XW P T i V E rc o (G (b.at a (.code c :: .inLoop c::k)) cs) w:=by
  intro N
  induction N using Nat.strongRecOn with
  |ind N ih =>
   intro a rc o w hI;refine round N a rc o w hI b (.inLoop c::k) cs hb hk fun e a' nY o' w' q=>?_;cases e with
   |normal =>
    obtain⟨n',hn,hI'⟩:=q;exact(cL nY).go rfl (fun _=>iM) (ih n' hn a' nY o' w' hI')
   |exit id=>exact(hc _ _ _ _ _ q).push rfl aj
   |ret=>exact(hc _ _ _ _ _ q).push (y:=.inLoop c) rfl aj
   |goto l=>exact hc _ _ _ _ _ q
   |panic ch=>exact hc _ _ _ _ _ q
   |outgrown=>exact hc _ _ _ _ _ q
 exact(cL rc).go rfl (fun _=>jM) (key N a rc o w h0)
def E6(P:Program)(T:dm)(i:Nat)(V:Nat->ae->Prop)(E:bK)(f:FuncId)(vs:Array Value)(rc:Nat->Prop)(o:aM)(w:ae)(Post:Value->(Nat->Prop)->aM->ae->Prop):Prop :=
 ∀(c:Frame) (cs:List Frame),(∀v nY o' w',Post v nY o' w'->XW P T i V E nY o' (G (c.finish v) cs) w')->XW P T i V E rc o (G (Frame.enter P f vs .normal) (c::cs)) w
theorem E6.mono{f:FuncId}{vs:Array Value}{Post IF:Value->(Nat->Prop)->aM->ae->Prop}(h:E6 P T i V E f vs rc o w Post)(hp:∀v nY o' w',Post v nY o' w'->IF v nY o' w'):E6 P T i V E f vs rc o w IF :=
 fun c cs hc=>h c cs fun v nY o' w' q=>hc v nY o' w' (hp v nY o' w' q)
theorem Gs{f:FuncId}{fc:Func}{c:Code}{vs:Array Value}{Post:Value->(Nat->Prop)->aM->ae->Prop}(hf:P.funcs[f]?=some fc)(fF:fc.body=some c)(h:LF P T i V E f c (fun e a' nY o' w'=>(e=.normal\/e=.ret)/\a'.defers=[]/\∃v,ResultsC P fc a'.tmps v/\Post v nY o' w') {tmps:=vs++Array.replicate (fc.ntmps-vs.size) undef,defers:=[]} rc o w):E6 P T i V E f vs rc o w Post:=by
 intro cf cs hc;rw[iN hf fF];have leave:∀(a':Act) (nY:Nat->Prop) (o':aM) (w':ae) (todo:List Item) (v:Value),a'.defers=[]->ResultsC P fc a'.tmps v->Post v nY o' w'->XW P T i V E nY o' (G {(base f).at a' todo with mode:=.returning} (cf::cs)) w':=by
  intro a' nY o' w' todo v hd hr hx;refine(cL nY).go rfl (fun w1=>?_) (hc v nY o' w' hx);rw[stepG_leave (b:=base f) rfl hd hf (hr w1).1 (hr w1).2]
 refine h (base f) [] _ rfl (by simp[base]) fun e a' nY o' w' q=>?_;obtain⟨he,hd,v,hr,hx⟩:=q;rcases he with rfl|rfl
 ·exact(cL nY).go rfl (fun _=>ef) (leave a' nY o' w' [] v hd hr hx)
 ·exact fun todo=>leave a' nY o' w' todo v hd hr hx
def vE(P:Program)(T:dm)(i:Nat)(V:Nat->ae->Prop)(E:bK)(fn:FuncId)(ops:Array Oper)(todo:List Nat)(Q:xX)(a:Act)(rc:Nat->Prop)(o:aM)(w:ae):Prop :=
 ∀(b:Frame) (k:List Item) (cs:List Frame),b.fn=fn->b.kind≠.early->(∀e a' nY o' w',Q e a' nY o' w'->ug (XW P T i V E nY) b k cs e a' o' w')->XW P T i V E rc o (G (b.at a (.inRegion ops todo::k)) cs) w
theorem LG{id:Nat}{ops:Array Oper}(h:vE P T i V E fn ops (List.range ops.size) Q a rc o w):LF P T i V E fn (.region id ops false) Q a rc o w :=
 fun b k cs hb hk hc=>(cL rc).go rfl (fun _=>bf) (h b k cs hb hk hc)
theorem xZ{ops:Array Oper}{todo:List Nat}(h:eX (XW P T i V E rc) fn ops todo (fun e a' o' w'=>Q e a' rc o' w') a o w):vE P T i V E fn ops todo Q a rc o w :=
 fun b k cs hb hk hc=>h b k cs hb hk fun e a' o' w' q=>hc e a' rc o' w' q
theorem qi{m:Bool}{ops:Array Oper}{j:Nat}{rest:List Nat}{op:Oper}{f:FuncId}{fc:Func}{c:Code}{args:Array Operand}{sA:Array TypeId}{b:Frame}{k:List Item}{cs:List Frame}(ho:ops[j]?=some op)(hw:Region.wanted op (yielded ops a.tmps)=true)(hk:b.kind≠.early)(eP:op.op=.call {callee:=.value (.func f),args,argTypes:=sA})(hf:P.funcs[f]?=some fc)(gP:(fc.name == "runtime.NumGoroutine")=false)(fF:fc.body=some c)(w1:ae):
  stepG P m (G (b.at a (.inRegion ops (j::rest)::k)) cs) w1=.go (G (Frame.enter P f (args.map a.eval) .normal) (b.at a (.inRegion ops (j::rest)::k)::cs)) w1 #[]:=by
 rw[iN hf fF];have:=goes_call (P:=P) (main:=m) (b:=b) (k:=k) (cs:=cs) (w:=w1) (K:=fun g' w' es=>stepG P m (G (b.at a (.inRegion ops (j::rest)::k)) cs) w1=.go g' w' es->stepG P m (G (b.at a (.inRegion ops (j::rest)::k)) cs) w1=.go (G ((base f).at {tmps:=args.map a.eval++Array.replicate (fc.ntmps-(args.map a.eval).size) undef,defers:=[]} [.code c]) (b.at a (.inRegion ops (j::rest)::k)::cs)) w1 #[]) ho hw hk eP hf gP fF (fun e=>e);cases hg:stepG P m (G (b.at a (.inRegion ops (j::rest)::k)) cs) w1 with
 |go g' w' es=>rw[hg,goes_go] at this;rw[<- this rfl]
 |_=>rw[hg] at this;exact this.elim
theorem LH{ops:Array Oper}{j:Nat}{rest:List Nat}{op:Oper}{f:FuncId}{fc:Func}{c:Code}{args:Array Operand}{sA:Array TypeId}(ho:ops[j]?=some op)(hw:Region.wanted op (yielded ops a.tmps)=true)(eP:op.op=.call {callee:=.value (.func f),args,argTypes:=sA})(hf:P.funcs[f]?=some fc)(gP:(fc.name == "runtime.NumGoroutine")=false)(fF:fc.body=some c){vs:Array Value}(xT:args.map a.eval=vs){d:Option Tmp}(hd:op.dst=d)(h:E6 P T i V E f vs rc o w fun v nY o' w'=>vE P T i V E fn ops rest Q (a.put d v) nY o' w'):vE P T i V E fn ops (j::rest) Q a rc o w:=by
 subst xT hd;intro b k cs hb hk hc;refine(cL rc).go rfl (fun w1=>qi ho hw hk eP hf gP fF w1) (h _ _ fun v nY o' w' q=>?_);rw[show(b.at a (.inRegion ops (j::rest)::k)).finish v=b.at (a.put op.dst v) (.inRegion ops rest::k) by rw[ee,ho];rfl];exact q b k cs hb hk hc
theorem Pr{ops:Array Oper}{j:Nat}{rest:List Nat}{op:Oper}(ho:ops[j]?=some op)(hw:Region.wanted op (yielded ops a.tmps)=true){k:Nat}{z:Value}{f:Bool}(x6:T.dep i k)(cJ:∀w1,(execOp a.eval op).run P w1=.ok (.comm #[rcase (T.ch k) z] true (.recv f)) w1)(jg:∀w1,(execOp a.eval op).events P w1 #[]=#[]){d:Option Tmp}(hd:op.dst=d)(h:∀w1,cW T i o rc w w1->V k w1->vE P T i V E fn ops rest Q (a.put d (recvd f z false)) (fun b=>rc b\/b=k) o w1):vE P T i V E fn ops (j::rest) Q a rc o w:=by
 subst hd;intro b kk cs hb hk hc;refine gO.intro ⟨rfl,.inr (.inl ⟨k,z,f,x6,fun w1 _=>?_,fun w1 qW hv=>?_⟩)⟩
 ·show stepG P false (G (b.at a (.inRegion ops (j::rest)::kk)) cs) w1=_;rw[stepG_comm ho hw hk (cJ w1),listed_nil (jg w1)]
 ·have e:Go.Conc.served (G (b.at a (.inRegion ops (j::rest)::kk)) cs) (recvd f z false)=G (b.at (a.put op.dst (recvd f z false)) (.inRegion ops rest::kk)) cs:=by
   simp only[Go.Conc.served,G];rw[ee,ho];rfl
  show gO P T i V E ⟨Go.Conc.served (G (b.at a (.inRegion ops (j::rest)::kk)) cs) (recvd f z false),o,_,w1⟩;rw[e];exact h w1 qW hv b kk cs hb hk hc
theorem Se(wP:P.follows .mixedOrders=true){id n:Nat}{ops:Array Oper}(hn:ops.size=n+1){v:Nat->Value}{S:ae->Prop}(hS:∀w w1,S w->cW T i o rc w w1->S w1)(h0:S w)(Cm:∀(i:Nat) (op:Oper),ops[i]?=some op->∀e∈op.after,e.on<i)(R8:∀D:Nat->Prop,(∀(i:Nat) (op:Oper),ops[i]?=some op->D i->∀e∈op.after,Region.binds .any e=true->D e.on)->D n->∀j,j<=n->D j)(R9:∀i j d,i≠j->gB ops i=some d->gB ops j≠some d)(eP:∀(j:Nat) (op:Oper),j<n->ops[j]?=some op->∀done:List Nat,done.Nodup->j∉done->(∀j∈done,j<n)->(∀e∈op.after,Region.binds .any e=true->e.on∈done)->∀w1,S w1 ->
   Region.wanted op (yielded ops (cF ops v a done).tmps)=true/\(execOp (cF ops v a done).eval op).run P w1=.ok (.value (v j)) w1/\∀e∈listed P fn (cF ops v a done) op w1,Np T i o rc e)(ub:∀w',S w'->vE P T i V E fn ops [n] Q (cF ops v a (List.range n)) rc o w'):
  LF P T i V E fn (.region id ops true) Q a rc o w:=by
 intro b k cs hb hk hc;refine VA (cL rc) wP hn hS (fun w h=>hS _ _ h (cW.at w _)) (fun w=>⟨?_,aj⟩) h0 Cm R8 R9 (fun j op h1 h2 done h2' h3 h4 h5 w1 h6=>?_) hb hk fun w' hw'=>ub w' hw' b k cs hb hk hc
 ·exact⟨ag _,fun _ _ _ _=>rfl,fun b cs ty fz _ h=>⟨cs,h,rfl⟩,fun _ _ _=>rfl,rfl,rfl⟩
 ·obtain⟨g1,g2,g3⟩:=eP j op h1 h2 done h2' h3 h4 h5 w1 h6;exact⟨g1,g2,.refl _ _,fun e he=>by rw[b8];exact g3 e he⟩
end
theorem wQ{P:Program}{m:Bool}{b:Frame}{a:Act}{cs:List Frame}{todo:List Item}{ds:List Deferred}{sA:Array TypeId}{ty:TypeId}{cns:Array Bool}{c s r:Nat}{tm:Bool}{w:ae}(hd:a.defers={target:=.builtin .close sA ty cns,args:=#[.chan (some c)]}::ds)(hc:w.heap[c]?=some (.chan 0 #[] false s r tm))(hq:(P.funcs[b.fn]?).any (·.norace)=false):
  stepG P m (G {b.at a todo with mode:=.returning} cs) w=.go (G {b.at ⟨a.tmps,ds⟩ todo with mode:=.returning} cs) (w.setChan c 0 #[] true s r tm) (gL c):=by
 have hr:(invoke (.builtin .close sA ty cns) #[.chan (some c)]).run P w=.ok (.value (.tuple #[])) (w.setChan c 0 #[] true s r tm):=by
  simp[invoke,go_sem,run_close_open _ _ hc,World.setChan]
 have he:(invoke (.builtin .close sA ty cns) #[.chan (some c)]).events P w #[]=gL c:=by
  simp[invoke,go_sem,events_close_open _ _ hc,gL]
 have hl:seen P b.fn (gL c)=gL c:=seen_eq hq (by intro e he f;simp only[gL,List.mem_toArray,bJ,dh,or_false] at he;rcases he with rfl|rfl<;>simp);simp[G,stepG,unwind,callDeferred,Frame.at,hd,Sem.runT_eq,hr,he,hl,GStep.after]
def Sf(ops:Array Oper)(n:Nat):Bool:=(List.range n).all fun j=>(List.range (n+1)).any fun i=>decide (j<i)&&match ops[i]? with|none=>false|some op=>op.after.any fun e=>Region.binds .any e&&e.on==j
def Co(ops:Array Oper)(n:Nat):Bool :=
 (ops.size==n+1) &&
 (List.range (n+1)).all (fun i=>match ops[i]? with
  |none=>false
  |some op=>op.after.all (fun e=>decide (e.on<i))&&op.guard.isNone&&(match op.op with|.select ..=>false|_=>true) &&
    (List.range (n+1)).all (fun j=>j==i||match gB ops j with
     |none=>true
     |some d=>gB ops i != some d&&(!(op.looksAt ops).contains d||op.after.any (fun e=>Region.binds .any e&&e.on==j)))) &&
 Sf ops n
section
variable {ops:Array Oper} {n:Nat}
structure Sg(ops:Array Oper)(n:Nat):Prop where
 size:ops.size=n+1
 low:∀(i:Nat) (op:Oper),ops[i]?=some op->∀e∈op.after,e.on<i
 cov:∀D:Nat->Prop,(∀(i:Nat) (op:Oper),ops[i]?=some op->D i->∀e∈op.after,Region.binds .any e=true->D e.on)->D n->∀j,j<=n->D j
 dst:∀i j d,i≠j->gB ops i=some d->gB ops j≠some d
 guard:∀(i:Nat) (op:Oper),ops[i]?=some op->op.guard=none
 sel:∀(i:Nat) (op:Oper),ops[i]?=some op->∀cs b,op.op≠.select cs b
 look:∀(i:Nat) (op:Oper),ops[i]?=some op->∀j d,j≠i->gB ops j=some d->d∈op.looksAt ops->∃e∈op.after,Region.binds .any e=true/\e.on=j
theorem Ap(h:Co ops n=true):Sg ops n:=by
 simp only[Co,a8,beq_iff_eq,List.all_eq_true,List.mem_range] at h;obtain⟨⟨hs,h1⟩,h2⟩:=h;have lt:∀(i:Nat) (op:Oper),ops[i]?=some op->i<n+1:=fun i op ho=>by have:=(Array.getElem?_eq_some_iff.1 ho).1;omega
 have all:∀(i:Nat) (op:Oper),ops[i]?=some op->(((op.after.all (fun e=>decide (e.on<i))=true/\op.guard.isNone=true)/\(match op.op with|.select ..=>false|_=>true)=true) /\
   ∀j,j<n+1->(j=i\/(match gB ops j with|none=>true|some d=>gB ops i != some d&&(!(op.looksAt ops).contains d||op.after.any (fun e=>Region.binds .any e&&e.on==j)))=true)):=by
  intro i op ho;have:=h1 i (lt i op ho);simp only[ho,a8,List.all_eq_true,List.mem_range,Bool.or_eq_true,beq_iff_eq] at this;exact this
 refine⟨hs,fun i op ho e he=>?_,fun D hD hn=>?_,fun i j d E7 hi hj=>?_,fun i op ho=>?_,fun i op ho cs b e=>?_,fun i op ho j d Bd hj hl=>?_⟩
 ·have:=(all i op ho).1.1.1;rw[jz] at this;simpa using this e he
 ·have key:∀m j,j+m=n->D j:=by
   intro m
   induction m using Nat.strongRecOn with
   |ind m ih =>
    intro j hjm;rcases bg m with rfl|hm
    ·have:j=n:=aa;rw[this];exact hn
    ·unfold Sf at h2;simp only[List.all_eq_true,List.mem_range,List.any_eq_true,a8,decide_eq_true_eq] at h2;obtain⟨i,hi,Bd,hx⟩:=h2 j aa;cases ho:ops[i]? with
     |none=>rw[ho] at hx;cases hx
     |some op =>
      rw[ho] at hx;simp only[Array.any_eq_true,a8,beq_iff_eq] at hx;obtain⟨q,hq,hb,he⟩:=hx;rw[<- he];exact hD i op ho (ih (n-i) aa i aa) _ (jO hq) hb
  exact fun j hj=>key (n-j) j aa
 ·obtain⟨op,ho⟩:∃op,ops[i]?=some op:=by
   cases ho:ops[i]? with
   |none=>simp[gB,ho] at hi
   |some op=>exact⟨op,rfl⟩
  obtain⟨IJ,pD⟩:∃op,ops[j]?=some op:=by
   cases ho:ops[j]? with
   |none=>simp[gB,ho] at hj
   |some op=>exact⟨op,rfl⟩
  rcases(all i op ho).2 j (lt j IJ pD) with e|e
  ·exact E7 e.symm
  ·rw[hj] at e;simp only[a8,bne_iff_ne] at e;exact e.1 hi
 ·simpa using(all i op ho).1.1.2
 ·have:=(all i op ho).1.2;rw[e] at this;cases this
 ·obtain⟨IJ,pD⟩:∃op,ops[j]?=some op:=by
   cases ho:ops[j]? with
   |none=>simp[gB,ho] at hj
   |some op=>exact⟨op,rfl⟩
  rcases(all i op ho).2 j (lt j IJ pD) with e|e
  ·exact absurd e Bd
  ·rw[hj] at e;simp only[a8,Bool.or_eq_true,eB,List.contains_eq_mem,decide_eq_false_iff_not] at e;rcases e.2 with e|e
   ·exact absurd hl e
   ·simp only[Array.any_eq_true,a8,beq_iff_eq] at e;obtain⟨q,hq,hb,he⟩:=e;exact⟨_,jO hq,hb,he⟩
variable {v:Nat->Value} {a:Act}
theorem oE{op:Oper}{t:Tmp}(h:Operand.tmp t∈op.op.operands):t∈op.looksAt ops:=by
 unfold Oper.looksAt;refine List.mem_append.2 (.inl (List.mem_filterMap.2 ⟨.tmp t,?_,rfl⟩));simpa using h
theorem E8(H:Sg ops n){i:Nat}{op:Oper}(ho:ops[i]?=some op){done:List Nat}(vc:done.Nodup)(hi:i∉done)(x6:∀e∈op.after,Region.binds .any e=true->e.on∈done):
  ∀x∈op.op.operands,(cF ops v a done).eval x=(cF ops v a (List.range i)).eval x:=by
 intro x hx;let p:Nat->Bool:=fun j=>op.after.any fun e=>Region.binds .any e&&e.on==j;have drop:∀l:List Nat,i∉l->(cF ops v a l).eval x=(cF ops v a (l.filter p)).eval x:=by
  intro l X0;have hp:=(gZ p l).symm;rw[j0 H.dst hp,iI];refine pk _ _ fun k hk d hd hl=>?_;subst hl;obtain⟨LI,UK⟩:=List.mem_filter.1 hk;obtain⟨e,he,hb,rfl⟩:=H.look i op ho k d (fun e=>X0 (e▸LI)) hd (oE hx);simp only[p,eB] at UK;have:(op.after.any fun e'=>Region.binds .any e'&&e'.on==e.on)=true:=by
   rw[gR];exact⟨e,he,by simp[hb]⟩
  rw[this] at UK;cases UK
 rw[drop done hi,drop (List.range i) aj];have E9:(done.filter p).Perm ((List.range i).filter p):=by
  refine(dq (vc.filter _) (List.nodup_range.filter _)).2 fun j=>?_;simp only[List.mem_filter,List.mem_range];constructor
  ·rintro⟨h1,h2⟩;refine⟨?_,h2⟩;simp only[p,Array.any_eq_true',a8,beq_iff_eq] at h2;obtain⟨e,he,hb,rfl⟩:=h2;exact H.low i op ho e he
  ·rintro⟨h1,h2⟩;refine⟨?_,h2⟩;simp only[p,Array.any_eq_true',a8,beq_iff_eq] at h2;obtain⟨e,he,hb,rfl⟩:=h2;exact x6 e he hb
 rw[j0 H.dst E9]
end
def mN(ok:Oper->Value->Act->Prop)(ops:Array Oper)(K:Act->Prop):List Nat->List Value->Act->Prop
 | [],[],a=>K a
 |j::l,v::vs,a=>(∃op,ops[j]?=some op/\ok op v a)/\mN ok ops K l vs (a.put (gB ops j) v)
 |_,_,_=>False
theorem cK{ok:Oper->Value->Act->Prop}{ops:Array Oper}{K:Act->Prop}{j:Nat}{l:List Nat}{v:Value}{vs:List Value}{a:Act}{op:Oper}{d:Option Tmp}(ho:ops[j]?=some op)(hd:op.dst=d)(je:ok op v a)(h:mN ok ops K l vs (a.put d v)):mN ok ops K (j::l) (v::vs) a :=
 ⟨⟨op,ho,je⟩,by subst hd;simpa[gB,ho] using h⟩
theorem oF{ok:Oper->Value->Act->Prop}{ops:Array Oper}{K:Act->Prop}{a:Act}(h:K a):mN ok ops K [] [] a:=h
theorem mN.all{ok:Oper->Value->Act->Prop}{ops:Array Oper}{K:Act->Prop}:∀{m k:Nat} {vs:List Value} {v:Nat->Value} {a:Act},mN ok ops K (List.range' k m) vs (cF ops v a (List.range k))->(∀j,j<m->v (k+j)=vs.getD j undef) ->
  (∀j op,k<=j->j<k+m->ops[j]?=some op->ok op (v j) (cF ops v a (List.range j)))/\K (cF ops v a (List.range (k+m))):=by
 intro m
 induction m with
 |zero =>
  intro k vs v a h hv;cases vs with
  |nil=>exact⟨fun j op h1 h2=>aa,h⟩
  |cons x l=>exact h.elim
 |succ m ih =>
  intro k vs v a h hv;cases vs with
  |nil=>rw[iD] at h;exact h.elim
  |cons x l =>
   rw[iD] at h;obtain⟨⟨op,ho,je⟩,hr⟩:=h;have hx:v k=x:=by have:=hv 0 aa;simpa using this
   have AT:(cF ops v a (List.range k)).put (gB ops k) x=cF ops v a (List.range (k+1)):=by
    rw[List.range_succ,iI];simp[cF,gB,hx]
   rw[AT] at hr;have:=ih (k:=k+1) (vs:=l) hr (fun j hj=>by have:=hv (j+1) aa;rw[show k+(j+1)=k+1+j by omega] at this;simpa using this);refine⟨fun j IJ h1 h2 pD=>?_,by rw[show k+(m+1)=k+1+m by omega];exact this.2⟩;by_cases e:j=k
   ·subst e;rw[ho] at pD;cases pD;rw[hx];exact je
   ·exact this.1 j IJ aa aa pD
section
variable {P:Program} {m:Bool} {R:aM->ae->ae->Prop} {Gu:aM->ae->ae->Array Event->Prop} {X:aM->aX->ae->Prop} {fn:FuncId} {Q:Exit->Act->aM->ae->Prop} {a:Act} {o:aM} {w:ae}
def okX(P:Program)(Gu:aM->ae->ae->Array Event->Prop)(X:aM->aX->ae->Prop)(fn:FuncId)(S:aM->ae->Prop)(op:Oper)(v:Value)(a:Act):Prop :=
 (∀o w1,S o w1->(execOp a.eval op).run P w1=.ok (.value v) w1/\Gu o w1 w1 (listed P fn a op w1)) \/
 (∃f fc c args sA,op.op=.call {callee:=.value (.func f),args,argTypes:=sA}/\P.funcs[f]?=some fc/\(fc.name == "runtime.NumGoroutine")=false/\fc.body=some c/\∀o w,S o w->bz P X f (args.map a.eval) o w fun v' o' w'=>v'=v/\S o' w')
theorem pI{op:Oper}{y:Nat->Option Bool}(h:op.guard=none):Region.wanted op y=true:=by simp[Region.wanted,h]
theorem pJ{op:Oper}{f:FuncId}{args:Array Operand}{sA:Array TypeId}{a a':Act}(eP:op.op=.call {callee:=.value (.func f),args,argTypes:=sA})(h:∀x∈op.op.operands,a.eval x=a'.eval x):args.map a.eval=args.map a'.eval:=by
 refine ek fun x hx=>h x ?_;rw[eP];simp only[Op.operands,Call.operands];simp[hx]
theorem Ps(W:fH P m R Gu X)(wP:P.follows .mixedOrders=true){id n:Nat}{ops:Array Oper}(je:Co ops n=true)(vs:List Value){S:aM->ae->Prop}(hS:∀o w w1,S o w->R o w w1->S o w1)(Zp:∀o (w:ae),S o w->S o {w with drawn:=w.drawn+1})(Zq:∀w:ae,Gu o w {w with drawn:=w.drawn+1} #[])(h0:S o w)(wL:mN (okX P Gu X fn S) ops (fun a'=>∀o w,S o w->eX X fn ops [n] Q a' o w) (List.range n) vs a):vV X fn (.region id ops true) Q a o w:=by
 have H:=Ap je;rw[iO] at wL;obtain⟨h1,h2⟩:=mN.all (v:=fun j=>vs.getD j undef) (k:=0) (a:=a) wL (fun j _=>aj);rw[bB] at h2;refine Pq W wP H.size hS Zp Zq h0 H.low H.cov H.dst (fun i op hi ho done vc hid cy x6 o w rest VC hk=>?_) h2;have hw:=pI (y:=yielded ops (cF ops (fun j=>vs.getD j undef) a done).tmps) (H.guard i op ho);have jg:=E8 (v:=fun j=>vs.getD j undef) (a:=a) H ho vc hid x6;have hex:=execOp_congr op (H.sel i op ho) jg;rcases h1 i op (aU _) aa ho with hp|⟨f,fc,c,args,sA,eP,hf,zo,hb,hC⟩
 ·refine lB W ho hw fun w1 ly K hK=>?_;obtain⟨e1,e2⟩:=hp o w1 (hS _ _ _ VC ly);rw[hex,e1];simp only[uponK_value];refine hK _ _ ⟨?_,by rw[b8];exact hk o w1 (hS _ _ _ VC ly)⟩;unfold listed at e2 |-;rw[hex];exact e2
 ·refine dA W ho hw eP hf zo hb (pJ eP jg) rfl ((hC o w VC).mono ?_);rintro v' o' w' ⟨rfl,hS'⟩;exact hk o' w' hS'
end
section
variable {P:Program} {T:dm} {i:Nat} {V:Nat->ae->Prop} {E:bK} {fn:FuncId} {a:Act} {rc:Nat->Prop} {o:aM} {w:ae}
theorem LJ(o:aM)(w:ae):Iy T i rc o w {w with drawn:=w.drawn+1} #[]:=⟨⟨ag _,fun _ _ _ _=>rfl,fun b cs ty fz _ h=>⟨cs,h,rfl⟩,fun _ _ _=>rfl,rfl,rfl⟩,aj⟩
theorem vd{Q:Exit->Act->aM->ae->Prop}(wP:P.follows .mixedOrders=true){id n:Nat}{ops:Array Oper}(je:Co ops n=true)(vs:List Value){S:aM->ae->Prop}(hS:∀o w w1,S o w->cW T i o rc w w1->S o w1)(h0:S o w)(wL:mN (okX P (Iy T i rc) (XW P T i V E rc) fn S) ops (fun a'=>∀o w,S o w->eX (XW P T i V E rc) fn ops [n] Q a' o w) (List.range n) vs a):vV (XW P T i V E rc) fn (.region id ops true) Q a o w :=
 Ps (cL rc) wP je vs hS (fun o w h=>hS _ _ _ h (cW.at w _)) (LJ o) h0 wL
theorem Pt{Q:xX}(wP:P.follows .mixedOrders=true){id n:Nat}{ops:Array Oper}(je:Co ops n=true)(vs:List Value){S:ae->Prop}(hS:∀w w1,S w->cW T i o rc w w1->S w1)(h0:S w)(wL:mN (fun op v a=>∀w1,S w1->(execOp a.eval op).run P w1=.ok (.value v) w1/\∀e∈(execOp a.eval op).events P w1 #[],Np T i o rc e) ops (fun a'=>∀w,S w->vE P T i V E fn ops [n] Q a' rc o w) (List.range n) vs a):LF P T i V E fn (.region id ops true) Q a rc o w:=by
 have H:=Ap je;rw[iO] at wL;obtain⟨h1,h2⟩:=mN.all (v:=fun j=>vs.getD j undef) (k:=0) (a:=a) wL (fun j _=>aj);rw[bB] at h2;refine Se wP H.size hS h0 H.low H.cov H.dst (fun j op hj ho done vc hid cy x6 w1 qW=>?_) h2;have jg:=E8 (v:=fun j=>vs.getD j undef) (a:=a) H ho vc hid x6;have hex:=execOp_congr op (H.sel j op ho) jg;obtain⟨e1,e2⟩:=h1 j op (aU _) aa ho w1 qW;refine⟨pI (H.guard j op ho),by rw[hex];exact e1,fun e he=>e2 e ?_⟩;have:=mem_listed he;rw[hex] at this;exact this
theorem kz{S:aM->ae->Prop}{op:Oper}{v:Value}(h:∀o w1,S o w1->(execOp a.eval op).run P w1=.ok (.value v) w1/\∀e∈(execOp a.eval op).events P w1 #[],Np T i o rc e):okX P (Iy T i rc) (XW P T i V E rc) fn S op v a :=
 .inl fun o w1 hw=>⟨(h o w1 hw).1,.refl _ _,fun e he=>by rw[b8];exact(h o w1 hw).2 e (mem_listed he)⟩
end
section
variable {ops:Array Oper} {a:Act}
theorem sI{v v':Nat->Value}:∀(l:List Nat) {a:Act},(∀j∈l,v j=v' j)->cF ops v a l=cF ops v' a l:=by
 intro l
 induction l with
 |nil=>intro a _;rfl
 |cons i l ih =>
  intro a h;simp only[cF];rw[h i aj];exact ih fun j hj=>h j (by simp[hj])
end
section
variable {P:Program} {m:Bool} {R:aM->ae->ae->Prop} {Gu:aM->ae->ae->Array Event->Prop} {X:aM->aX->ae->Prop} {fn:FuncId} {Q:Exit->Act->aM->ae->Prop} {a:Act} {o:aM} {w:ae}
def Fits(v:Nat->Value)(σ:Nat->Option Value):Prop:=∀j y,σ j=some y->v j=y
end
section
open Go.ConcR (g_of_ofEvents)
structure mB(d:Nat)(S:Nat->Prop)(t:Trace):Prop where
 clean:∀said,¬Race said t
 known:∀i a,touchAt t i=some a->a.loc.isMemory=true->Knows t 0 i\/(tW S a.loc/\a.kind=.atomic)
 over:t.HandedOver
 deaf:Deaf t 0=d
def EvB(S:Nat->Prop)(e:Event):Prop:=∀x,(MemAct.ofEvent e).touch?=some x->tW S x.loc->x.kind≠.plain
section
variable {d:Nat} {S:Nat->Prop} {t u:Trace}
theorem mB.RA(h:mB 0 S t):∃B,∀M,Past (tW S) (B+M) t:=by
 obtain⟨B,hB⟩:=@Ix (Go.ConcR.Payload.mk 0) t;exact⟨B,fun M=>⟨h.clean,h.known,h.over,h.deaf,fun op eP=>MemAct.low_mono (Nat.le_add_right _ _) (hB op eP)⟩⟩
theorem mB.of{B:Nat}(h:Past (tW S) B t):mB 0 S t:=⟨h.clean,h.known,h.over,h.hears⟩
theorem mB.own(h:mB d S t){fn:FuncId}{pos:String}{es:Array Event}(Ig:∀e∈es,EvB S e):mB (deafBehind d es) S (t++MemOp.ofEvents 0 fn pos es):=by
 have hu:∀op∈MemOp.ofEvents 0 fn pos es,op.g=0:=g_of_ofEvents;refine⟨fun said=>noRace_append (h.clean said) hu fun i a ha op eP b hb hc=>?_,fun i a ha hm=>?_,handedOver_app h.over fun op eP=>.inl (hu op eP),by rw[Deaf_own,h.deaf]⟩
 ·rcases h.known i a ha hc.2.1 with hk|⟨hsa,hka⟩
  ·exact hk
  ·obtain⟨e,he,rfl⟩:=Go.Conc.mem_ofEvents eP;have Zs:=Ig e he b hb (hc.1▸hsa);obtain⟨_,_,_,fX⟩:=hc;rw[hka] at fX;rcases fX with x|x|⟨_,x,_⟩
   ·cases x
   ·exact absurd x Zs
   ·cases x
 ·obtain⟨x,hx,XK⟩:=touch_of ha;rcases getElem?_append_cases hx with⟨_,mf⟩|⟨_,hxu⟩
  ·exact(h.known i a (by rw[touchAt_of mf];exact XK) hm).imp (·.app _) id
  ·have:=knows_own hx;rw[hu x hxu] at this;exact .inl this
theorem mB.mute(h:mB d S t){g:Nat}(hg:g≠0){fn:FuncId}{pos:String}{es:Array Event}(hm:∀e∈es,e.mute=true):mB d S (t++MemOp.ofEvents g fn pos es):=by
 have hu:∀op∈MemOp.ofEvents g fn pos es,op.g=g:=g_of_ofEvents;have hn:∀op∈MemOp.ofEvents g fn pos es,op.act.touch?=none:=fun op eP=>by obtain⟨e,he,rfl⟩:=Go.Conc.mem_ofEvents eP;exact touch_mute (hm e he)
 refine⟨fun said=>noRace_append (h.clean said) hu fun i a _ op eP b hb _=>(by rw[hn op eP] at hb;cases hb),fun i a ha hm=>?_,handedOver_app h.over fun op eP=>.inr (hn op eP),(Deaf_other t hg _ hu).trans h.deaf⟩;obtain⟨x,hx,XK⟩:=touch_of ha;rcases getElem?_append_cases hx with⟨_,mf⟩|⟨_,hxu⟩
 ·exact(h.known i a (by rw[touchAt_of mf];exact XK) hm).imp (·.app _) id
 ·rw[hn x hxu] at XK;cases XK
end
def BX(P:Program)(Fin:bK)(d:Nat)(S:Nat->Prop)(g:aX)(w:ae):Prop :=
 ∀(gs:Array aX) (sl:Option (Nat×Nat)) (t:Trace) (q:Nat->Nat),gs[0]?=some g->Leavers P t gs q->mB d S t->(∀b,w.heap.size<=b->¬S b) ->
  ∃N gK w' rU t' q' S' g',runNT P N (crowd gs w sl) t=(.next (crowd gK w' rU),t')/\gK[0]?=some g'/\Leavers P t' gK q'/\mB 0 S' t'/\(∀b,w'.heap.size<=b->¬S' b)/\Fin S' g' w'
section
variable {P:Program} {Fin:bK} {d:Nat} {S:Nat->Prop} {g:aX} {w:ae}
theorem BX.fin(h:Fin S g w):BX P Fin 0 S g w:=fun gs sl t q h0 hL hP hS=>⟨0,gs,w,sl,t,q,S,g,rfl,h0,hL,hP,hS,h⟩
theorem BX.step(hs:g.status=.running)(h:∀w1,AtRel w w1->∃g' w' es,stepG P true g w1=.go g' w' es/\(∀e∈es,EvB S e)/\w1.heap.size<=w'.heap.size/\BX P Fin (deafBehind d es) S g' w'):BX P Fin d S g w:=by
 have key:∀(M:Nat) (gs:Array aX) (w2:ae) (sl:Option (Nat×Nat)) (t:Trace) (q:Nat->Nat),sumTo gs.size q<M->AtRel w w2->gs[0]?=some g->Leavers P t gs q->mB d S t->(∀b,w2.heap.size<=b->¬S b) ->
   ∃N gK w' rU t' q' S' g',runNT P N (crowd gs w2 sl) t=(.next (crowd gK w' rU),t')/\gK[0]?=some g'/\Leavers P t' gK q'/\mB 0 S' t'/\(∀b,w'.heap.size<=b->¬S' b)/\Fin S' g' w':=by
  intro M
  induction M with
  |zero=>intro gs w2 sl t q hM;exact absurd hM (dZ _)
  |succ M ih =>
   intro gs w2 sl t q hM hr h0 hL hP hSh;have XJ:∀x∈gs,awake x:=by
    intro x hx;obtain⟨i,hi,rfl⟩:=Array.mem_iff_getElem.1 hx;rcases bg i with rfl|nt
    ·have:gs[0]=g:=by simpa[Array.getElem?_eq_getElem hi] using h0
     rw[this];exact awake_of (.inl hs)
    ·exact awake_of ((hL.old i _ nt (aN hi)).status.elim .inl fun x=>.inr (.inr x))
   obtain⟨i,x,dd,rU,hi,hx,eG⟩:=crowd_pick (P:=P) (w:=w2) (sl:=sl) XJ ⟨0,g,h0,hs⟩;rcases bg i with rfl|nt
   ·obtain rfl:x=g:=by rw[h0] at hi;exact(aQ hi).symm
    obtain⟨g',w',es,e1,e2,e3,e4⟩:=h (w2.at dd) (atRel_trans _ _ _ hr ⟨dd,rfl⟩);have tX:=runT_crowd_go (P:=P) (sl:=rU) (i:=0) hi (show stepG P (0==0) x (w2.at dd)=_ from e1);have cy:0<gs.size:=(Array.getElem?_eq_some_iff.1 h0).1;obtain⟨N,gK,w3,sl3,t3,q3,S3,g3,k1,k2⟩:=e4 ((gs.map (woken P x g' w')).setIfInBounds 0 g') rU (t++MemOp.ofEvents 0 x.frame.fn x.frame.place es) q (by simp[cy])
     ⟨fun j y hj hy=>by
      have dH:0≠j:=aa;rw[aS dH,aK] at hy;obtain⟨z,hz,rfl⟩:=Option.map_eq_some_iff.1 hy;have hq:=hL.old j z hj hz;rw[woken_quitsD hq,Deaf_other t aa _ g_of_ofEvents];exact hq,fun j hj=>by
      rw[Deaf_other t (g':=0) (by simp at hj;omega) _ g_of_ofEvents];exact hL.above j (by simpa using hj)⟩
     (hP.own e2) (fun b hb=>hSh b (aW e3 hb))
    exact⟨N+1,gK,w3,sl3,t3,q3,S3,g3,by simp only[runNT,eG,tX];exact k1,k2⟩
   ·have hq:=hL.old i x nt hi;have hi0:(i==0)=false:=dV;have cy:i<gs.size:=(Array.getElem?_eq_some_iff.1 hi).1;cases Y8:q i with
    |zero=>rw[Y8] at hq;rw[hq.1] at hx;cases hx
    |succ k =>
     rw[Y8] at hq;rcases hq with⟨hf,_⟩|⟨_,g',es,hm,Y9,Bc⟩
     ·rw[hf] at hx;cases hx
     have tX:=runT_crowd_go (P:=P) (sl:=rU) (i:=i) hi (by rw[hi0];exact Y9 (w2.at dd));have fE:((gs.map (woken P x g' (w2.at dd))).setIfInBounds i g').size=gs.size:=aj;have agA:sumTo gs.size (upd q i k)+(k+1)=sumTo gs.size q+k:=by
      have:=sumTo_upd q k id cy;simpa[Y8] using this
     obtain⟨N,gK,w3,sl3,t3,q3,S3,g3,k1,k2⟩:=ih ((gs.map (woken P x g' (w2.at dd))).setIfInBounds i g') (w2.at dd) rU (t++MemOp.ofEvents i x.frame.fn x.frame.place es) (upd q i k) (by rw[fE];omega) (atRel_trans _ _ _ hr ⟨dd,rfl⟩)
      (by
       have dH:i≠0:=aa;rw[aS dH,aK,h0];simp[woken_run hs])
      ⟨fun j y hj hy=>by
       by_cases Bd:i=j
       ·subst Bd;rw[b7 (by simpa using cy)] at hy;obtain rfl:=aQ hy;rw[upd_same,Deaf_own];exact Bc
       ·rw[aS Bd,aK] at hy;obtain⟨z,hz,rfl⟩:=Option.map_eq_some_iff.1 hy;have hqj:=hL.old j z hj hz;rw[woken_quitsD hqj,upd_ne q k (bp Bd),Deaf_other t Bd _ g_of_ofEvents];exact hqj,fun j hj=>by
       rw[Deaf_other t (g':=i) (by simp at hj;omega) _ g_of_ofEvents];exact hL.above j (by simpa using hj)⟩
      (hP.mute aa hm) hSh
     exact⟨N+1,gK,w3,sl3,t3,q3,S3,g3,by simp only[runNT,eG,tX];exact k1,k2⟩
 intro gs sl t q h0 hL hP hSh;exact key (sumTo gs.size q+1) gs w sl t q (bH _) (atRel_refl w) h0 hL hP hSh
theorem BX.mono{acJ:bK}(h:BX P Fin d S g w)(hF:∀S g w,Fin S g w->acJ S g w):BX P acJ d S g w:=by
 intro gs sl t q h0 hL hP hS;obtain⟨N,gK,w',rU,t',q',S',g',k1,k2,k3,k4,k5,k6⟩:=h gs sl t q h0 hL hP hS;exact⟨N,gK,w',rU,t',q',S',g',k1,k2,k3,k4,k5,hF _ _ _ k6⟩
def AU(P:Program)(Fin:bK)(d:Nat)(S:Nat->Prop)(g:aX)(w:ae):Prop:=∀w1,AtRel w w1->BX P Fin d S g w1
theorem AU.bx(h:AU P Fin d S g w):BX P Fin d S g w:=h w (atRel_refl w)
theorem AU.fin(h:∀w1,AtRel w w1->Fin S g w1):AU P Fin 0 S g w:=fun w1 hw=>BX.fin (h w1 hw)
theorem AU.rely{w1:ae}(h:AU P Fin d S g w)(hr:AtRel w w1):AU P Fin d S g w1:=fun w2 h2=>h w2 (atRel_trans _ _ _ hr h2)
theorem AU.step(hs:g.status=.running)(h:∀w1,AtRel w w1->∃g' w' es,stepG P true g w1=.go g' w' es/\(∀e∈es,EvB S e)/\w1.heap.size<=w'.heap.size/\AU P Fin (deafBehind d es) S g' w'):AU P Fin d S g w:=by
 intro w1 hw;refine BX.step hs fun w2 uS=>?_;obtain⟨g',w',es,e1,e2,e3,e4⟩:=h w2 (atRel_trans _ _ _ hw uS);exact⟨g',w',es,e1,e2,e3,e4.bx⟩
def Si(P:Program)(Post:Value->ae->Prop)(_:Nat->Prop)(g:aX)(w:ae):Prop:=∀w1,AtRel w w1->g.status=.running/\∃v,stepG P true g w1=.ended (.done v) w1 #[]/\Post v w1
theorem BX.call{L:Nat->Bool}{Gm:Nat}(db:rL P L Gm){A9:FuncId}{Q:Value->ae->Prop}{c:Frame}{cs:List Frame}{F:jE}{x:aX×ae}(Gj:Acc (Nx P (kO P A9 Q)) x){gr:aX}(hK:∀r,F.K r->¬S (F.φ r))(O0:xM P L Gm (kO P A9 Q) (c::cs) F (x.1,WT x.2 w.tape w.drawn) gr w)(R2:∀v v' F' aV w',Q v aV->(∀f,F'.has f->v'=val f v)->WR F' aV w'->fw F F' x.2 w aV w'->(∀r,F'.K r->¬S (F'.φ r))->BX P Fin 0 S (G (c.finish v') cs) w'):BX P Fin 0 S gr w:=by
 intro gs sl t q h0 hL hP hS;obtain⟨B,hB⟩:=hP.RA;obtain⟨N,gK,w',aV,rU,t',q',B',F',v,v',k1,k2,k3,k4,k5,k6,k7,k8,k9,Ij,k11,k12,k13⟩:=Ii db x Gj (sumTo gs.size q+1) (B+w.heap.size) gs gr w sl t q F (bH _) h0 hL aa (hB w.heap.size) hK hS O0;obtain⟨N2,gs2,w2,Vp,t2,q2,S2,g2,l1,l2⟩:=R2 v v' F' aV w' k7 k8 k9 Ij k12 gK rU t' q' k3 k4 (mB.of k6) k13;exact⟨N+N2,gs2,w2,Vp,t2,q2,S2,g2,by rw[runNT_add,k1];exact l1,l2⟩
end
end
def x7(Fin:bK)(b:Nat):Prop:=∀S g w,Fin S g w->¬S b
def Fa(Fin:bK)(o:aM)(w:ae):Nat->Prop:=fun b=>b<w.heap.size/\¬o b/\¬x7 Fin b
def IL(Fin:bK)(w0:ae):bK:=fun S g w=>Fin S g w/\w.os=w0.os/\w.output=w0.output
theorem Gt{Fin:bK}{w w':ae}(h:w'.os=w.os/\w'.output=w.output):IL Fin w'=IL Fin w:=by
 funext S g w1;simp only[IL,h.1,h.2]
def um(Fin:bK)(w:ae):Prop:=∀b,x7 Fin b->b<w.heap.size
theorem um.up{Fin:bK}{w w':ae}(h:um Fin w)(hs:w.heap.size<=w'.heap.size):um Fin w':=fun b hb=>bw (h b hb) hs
theorem um.at_{Fin:bK}{w w':ae}(h:um Fin w)(hs:AtRel w w'):um Fin w':=by obtain⟨d,rfl⟩:=hs;exact h
theorem um.back{Fin:bK}{w w':ae}(h:um Fin w')(hs:AtRel w w'):um Fin w:=by obtain⟨d,rfl⟩:=hs;exact h
abbrev XB(P:Program)(Fin:bK)(d:Nat):aM->aX->ae->Prop:=fun o g w=>um Fin w->AU P (IL Fin w) d (Fa Fin o w) g w
def VD(o:aM)(e:Event):Prop:=∀x,(MemAct.ofEvent e).touch?=some x->∀a,x.loc=.cell a->x.kind=.plain->o a.block
def Zt(Fin:bK)(o:aM)(e:Event):Prop:=VD (fun b=>o b\/x7 Fin b) e
theorem VD.Sj{Fin:bK}{o:aM}{e:Event}(h:VD o e):Zt Fin o e:=fun x hx a ha hk=>.inl (h x hx a ha hk)
def GuO(Fin:bK)(o:aM)(w w':ae)(es:Array Event):Prop:=(∀e∈es,Zt Fin (grow o w w') e/\e.loc≠.mark .disable/\e.loc≠.mark .enable)/\w.heap.size<=w'.heap.size/\w'.os=w.os/\w'.output=w.output
section
variable {P:Program} {Fin:bK} {d:Nat} {o:aM} {g:aX} {w w1 w':ae}
theorem Cp(h:w1.heap.size<=w'.heap.size):Fa Fin (grow o w1 w') w'=Fa Fin o w1:=by
 funext b;simp only[Fa,grow,eq_iff_iff];constructor
 ·rintro⟨h1,h2,h5⟩;exact⟨fA fun h3=>h2 (.inr ⟨h3,h1⟩),fun h3=>h2 (.inl h3),h5⟩
 ·rintro⟨h1,h2,h5⟩;exact⟨aa,fun h3=>h3.elim h2 fun h4=>aa,h5⟩
theorem LK(h:AtRel w w1):Fa Fin o w1=Fa Fin o w:=by obtain⟨d,rfl⟩:=h;rfl
theorem Zt.evB{e:Event}(h:Zt Fin (grow o w1 w') e)(hs:w1.heap.size<=w'.heap.size):EvB (Fa Fin o w1) e:=by
 intro x hx tf hk;rw[<- Cp (o:=o) hs] at tf;cases hl:x.loc with
 |cell a=>rw[hl] at tf;exact(h x hx a hl hk).elim tf.2.1 tf.2.2
 |_=>rw[hl] at tf;exact tf
theorem bV:fH P true (fun _=>AtRel) (GuO Fin) (XB P Fin d) where
 step o g w hs h:=fun Pu=>AU.step hs fun w1 hw=>by
  obtain⟨g',w',es,e1,e2,e3⟩:=h w1 hw;refine⟨g',w',es,e1,fun e he=>?_,e2.2.1,?_⟩
  ·rw[<- LK hw];exact(e2.1 e he).1.evB e2.2.1
  ·rw[deafBehind_still (fun e he=>(e2.1 e he).2),<- LK hw];have:=e3 ((Pu.at_ hw).up e2.2.1);rw[Cp e2.2.1,Gt e2.2.2] at this;obtain⟨n,rfl⟩:=hw;exact this
 rely o g w w1 h hr:=by
  intro Pu;show AU P (IL Fin w1) d (Fa Fin o w1) g w1;rw[LK hr];have h':=AU.rely (h (Pu.back hr)) hr;obtain⟨n,rfl⟩:=hr;exact h'
 idle o w:=⟨aj,ag _,rfl,rfl⟩
theorem XB.mark(hs:g.status=.running){g':aX}{d':Nat}{es:Array Event}(Ig:∀e∈es,∃m,e.loc=.mark m)(hd:deafBehind d es=d')(h:∀w1,stepG P true g w1=.go g' w1 es)(hx:XB P Fin d' o g' w):XB P Fin d o g w:=by
 intro Pu;refine AU.step hs fun w1 hw=>⟨g',w1,es,h w1,fun e he=>?_,ag _,?_⟩
 ·obtain⟨m,hm⟩:=Ig e he;obtain⟨loc,wt,sy⟩:=e;subst hm;intro x hx _;cases m<;>simp only[MemAct.ofEvent,MemAct.touch?,ay,reduceCtorEq] at hx;all_goals (subst hx;simp)
 ·rw[hd];exact AU.rely (hx Pu) hw
end
def Bf:Rn:=⟨id,id,id,id⟩
theorem Bg:∀v:Value,val Bf v=v:=by
 intro v;have hl:∀l:List Value,(∀x∈l,val Bf x=x)->l.map (val Bf)=l:=fun l h=>by
  conv=>rhs;rw[<- List.map_id l]
  exact b9 fun x hx=>h x hx
 have ha:∀a:Array Value,(∀x∈a,val Bf x=x)->a.map (val Bf)=a:=fun a h=>by
  apply Array.ext';rw[cw];exact hl a.toList fun x hx=>h x (by simpa using hx)
 induction v using Value.rec (motive_2:=fun a=>a.map (val Bf)=a) (motive_3:=fun l=>l.map (val Bf)=l)
 case pointer a=>cases a<;>simp[val,addr,Bf]
 case slice a l c=>cases a<;>simp[val,addr,Bf]
 case map r=>cases r<;>simp[val,Bf]
 case chan r=>cases r<;>simp[val,Bf]
 case func fn a b h1 h2=>rw[val,h1,h2];congr 1;cases fn<;>rfl
 case iface t v h=>rw[val,h]
 case agg a h=>rw[val,h]
 case tuple a h=>rw[val,h]
 case mk l h=>exact ha ⟨l⟩ (fun x hx=>by
  have mf:x∈l:=by simpa using hx
  have:∀(l:List Value),l.map (val Bf)=l->∀x∈l,val Bf x=x:=by
   intro l
   induction l with
   |nil=>intro _ x hx;cases hx
   |cons y l ih =>
    intro h x hx;simp only[aA,cv] at h;rcases List.mem_cons.1 hx with rfl|hx
    ·exact h.1
    ·exact ih h.2 x hx
  exact this l h x mf)
 case nil=>rfl
 case cons x l h1 h2=>rw[aA,h1,h2]
 all_goals simp[val]
theorem Ny(x:Obj):obj Bf x=x:=by
 have e:(val Bf)=id:=funext Bg;have e2:(entry Bf)=id:=funext fun x=>by simp[entry,Bg]
 cases x<;>first|(simp[obj,e,e2];done)|(simp[obj,addr,Bf];done)
def mF(P:Program)(L:Nat->Bool)(o:aM):jE:=⟨o,id,fun n=>L n=true,P.globals.size⟩
structure bM(P:Program)(L:Nat->Bool)(o:aM)(w:ae):Prop where
 shut:∀b,o b->∃x,w.heap[b]?=some x/\fi x=false/\∀f,(mF P L o).has f->obj f x=x
 kp:∀b,b<P.globals.size->o b
 size:P.globals.size<=w.heap.size
section
variable {P:Program} {L:Nat->Bool} {o:aM} {w:ae}
theorem bM.lt(h:bM P L o w){b:Nat}(hb:o b):b<w.heap.size:=by
 obtain⟨x,hx,_⟩:=h.shut b hb;exact(Array.getElem?_eq_some_iff.1 hx).1
theorem Gv(h:∀b,b<P.globals.size->o b):EH (mF P L o):=⟨fun r _ hg=>hg,.inl fun r hr=>⟨h r hr,rfl⟩⟩
theorem Nz:(mF P L o).has Bf:=⟨fun _ _ h=>h,fun _ _=>rfl,fun _ _=>rfl,fun _=>cZ⟩
theorem Cq(o:aM):∃N:Nat->Bool,∀b,N b=true↔o b:=by
 classical
 exact⟨fun b=>decide (o b),aj⟩
theorem bM.wr(h:bM P L o w){N:Nat->Bool}(hN:∀b,N b=true↔o b):WR (mF P L o) (iU N w) w where
 here r hr:=by rw[kX];exact h.lt hr
 there r hr:=h.lt hr
 inj r s _ _ e:=e
 tJ r hr f hf:=by
  obtain⟨x,hx,_,hc⟩:=h.shut r hr;rw[lR N w ((hN r).2 hr)];show w.heap[r]?=_;rw[hx,aJ,hc f hf]
 QU r hr x hx:=by
  obtain⟨y,hy,hp,_⟩:=h.shut r hr;rw[lR N w ((hN r).2 hr),hy] at hx;cases hx;exact hp
 os:=rfl
 output:=rfl
 tape:=rfl
 drawn:=rfl
 AL:=Gv h.kp
 EI:=h.size
 DT:=by rw[kX];exact h.size
theorem bM.Sk(h:bM P L o w){N:Nat->Bool}(hN:∀b,N b=true↔o b):fI (iU N w):=by
 intro r x hx;by_cases hr:N r=true
 ·obtain⟨y,hy,hp,_⟩:=h.shut r ((hN r).1 hr);rw[lR N w hr,hy] at hx;cases hx;exact hp
 ·have:(iU N w).heap[r]?=(w.heap[r]?).map fun _=>.cells #[] 0:=by
   simp only[iU,Array.getElem?_mapIdx];cases w.heap[r]?<;>simp[hr]
  rw[this] at hx;cases hw:w.heap[r]? with
  |none=>rw[hw] at hx;cases hx
  |some y=>rw[hw] at hx;cases hx;rfl
theorem bM.of_heap(h:bM P L o w){w1:ae}(e:w1.heap=w.heap):bM P L o w1:=⟨fun b hb=>by rw[e];exact h.shut b hb,h.kp,by rw[e];exact h.size⟩
structure lH(P:Program)(L:Nat->Bool)(o:aM)(w w' aV:ae)(v:Value):Prop where
 aF:bM P L (grow o w w') w'
 same:∀b,grow o w w' b->w'.heap[b]?=aV.heap[b]?
 rest:∀b,b<w.heap.size->¬o b->w'.heap[b]?=w.heap[b]?
 size:w'.heap.size=aV.heap.size
 jj:w.heap.size<=w'.heap.size
 val:∀f,(mF P L (grow o w w')).has f->Ren.val f v=v
 os:w'.os=w.os
 output:w'.output=w.output
variable {Fin:bK}
theorem sJ(db:rL P L P.globals.size){f:FuncId}{vs:Array Value}(hL:L f=true)(hF:bM P L o w)(uh:∀g,(mF P L o).has g->vs.map (val g)=vs){R:ae->Value->ae->Prop}(hR:∀wl,Lm (R wl))(hRW:∀wl τ d v w',R (WT wl τ d) v w'->R wl v w')(hC:∀wl,wl.heap.size=w.heap.size->(∀b,o b->wl.heap[b]?=w.heap[b]?)->Calls P f vs wl fun e w'=>∃v,e=.returned v/\R wl v w'){Post:Value->aM->ae->Prop}(h:∀wl v aV w',wl.heap.size=w.heap.size->(∀b,o b->wl.heap[b]?=w.heap[b]?)->R wl v aV->lH P L o w w' aV v->Post v (grow o w w') w'):bz P (XB P Fin 0) f vs o w Post:=by
 intro c cs hc;intro Pu;show AU P (IL Fin w) 0 (Fa Fin o w) _ w;intro w1 pg;obtain⟨dd,rfl⟩:=pg;have lv:bM P L o (w.at dd):=hF.of_heap rfl;obtain⟨N,hN⟩:=Cq o;have hW:=lv.wr hN;have KN:PF P L P.globals.size (mF P L o):=⟨fun r hr=>⟨hF.kp r hr,rfl⟩,rfl,rfl,Gv hF.kp⟩;have D4:∀g,(mF P L o).has g->Frame.enter P f vs .normal=frame g (Frame.enter P f vs .normal):=fun g hg=>by
  have:=uh g hg;simp only[frame,Frame.enter,Array.map_append,this,Array.map_replicate,lz]
 have R6:Inv P L P.globals.size [gy] (G (Frame.enter P f vs .normal) [gy]) (iU N (w.at dd)) :=
  ⟨mF P L o,_,[],_,[],w.at dd,rfl,tT db hL _,aj,fun g hg=>⟨D4 g hg,rfl⟩,hW,(lv.Sk hN),KN⟩
 have aT:∀b,o b->(iU N (w.at dd)).heap[b]?=w.heap[b]?:=fun b hb=>lR N (w.at dd) ((hN b).2 hb);have fE:(iU N (w.at dd)).heap.size=w.heap.size:=kX _ _;have vW:Good P (kO P f (R (iU N (w.at dd)))) (G (Frame.enter P f vs .normal) [gy]) (iU N (w.at dd)):=by
  refine vU db (hR _) R6 fun τ d=>?_;refine(hC (WT (iU N (w.at dd)) τ d) fE aT).mono ?_;rintro e w' ⟨v,rfl,hv⟩;exact⟨v,rfl,hRW _ _ _ _ _ hv⟩
 have Gj:=Ie db (Ba f _) R6 vW;refine BX.call db (F:=mF P L o) Gj (fun r hr hs=>hs.2.1 hr) ⟨_,[],_,[],rfl,rfl,tT db hL _,aj,fun g hg=>⟨D4 g hg,rfl⟩,hW,(lv.Sk hN),KN,vW⟩ fun v v' F' aV w' hQ hv IH hm hS=>?_;have oz:=hm.same fE;have NA:∀r,F'.K r->F'.φ r=r:=fun r hr=>by
  rcases oz.2 r hr with h1|h1
  ·exact(hm.φ r h1)
  ·exact h1
 have D9:w.heap.size<=w'.heap.size:=hm.size;have hK:F'.K=grow o w w':=by
  funext r;simp only[grow,eq_iff_iff];constructor
  ·intro hr;rcases hm.wz r hr with h1|h1
   ·exact .inl h1
   ·refine .inr ⟨by rw[<- fE];exact h1.1,?_⟩;have:=IH.here r hr;rw[<- oz.1];exact this
  ·rintro(h1|h1)
   ·exact hm.K r h1
   ·obtain⟨r',a,b⟩:=hm.mine r h1.1 h1.2;rw[NA r' a] at b;exact b▸a
 have hG:F'.G=P.globals.size:=hm.G;have hLL:F'.L=fun n=>L n=true:=hm.L;have Cr:∀f,(mF P L (grow o w w')).has f->F'.has f:=fun f hf=>⟨hf.inj,fun r hr=>by rw[NA r hr];exact hf.at_ r (hK▸hr),fun n hn=>hf.fn n (by rw[hLL] at hn;exact hn),by rw[hG];exact hf.kp⟩;have hid:=Cr Bf Nz;have xl:v'=v:=(hv Bf hid).trans (Bg v);subst xl;have Cs:∀b,grow o w w' b->w'.heap[b]?=aV.heap[b]?:=fun b hb=>by
  have nn:F'.K b:=hK▸hb;have:=IH.tJ b nn Bf hid;rw[NA b nn] at this;rw[this];cases aV.heap[b]?<;>simp[Ny]
 have Sl:lH P L o w w' aV v':=by
  refine⟨⟨fun b hb=>?_,fun b hb=>.inl (hF.kp b hb),aW hF.size D9⟩,Cs,fun b h1 h2=>?_,oz.1.symm,D9,fun f hf=>(hv f (Cr f hf)).symm,IH.os.trans (hm.Rg.trans rfl),IH.output.trans (hm.Bv.trans rfl)⟩
  ·have nn:F'.K b:=hK▸hb;have cy:=IH.here b nn;refine⟨aV.heap[b],by rw[Cs b hb];exact aN cy,IH.QU b nn _ (aN cy),fun f hf=>?_⟩;have:=IH.tJ b nn f (Cr f hf);rw[NA b nn,Cs b hb,aN cy,aJ] at this;exact(aQ this).symm
  ·refine hm.rest b fun r hr e=>?_;rw[NA r hr] at e;subst e;have:grow o w w' r:=hK▸hr;rcases this with h3|h3
   ·exact h2 h3
   ·omega
 have:=hc v' _ w' (h _ v' aV w' fE aT hQ Sl);have hx:AU P (IL Fin w') 0 (Fa Fin (grow o w w') w') (G (c.finish v') cs) w':=this (Pu.up D9);rw[Cp D9,Gt ⟨Sl.os,Sl.output⟩] at hx;exact hx.bx
end
section
open Go.ConcN.Gen Go.RowKit Go.Conc.Lib Go.ConcR.Gen
open Go.ConcR (KK wgBlock WgAt stA smA rd wr Payload DC0)
variable [Payload] {L:WgLink}
theorem bO{T:dm}{o:Nat->Prop}{w0 w w1:ae}(h:dL T o w0 w/\WgLive T.ty T.Wg w)(r:dL T o w w1):dL T o w0 w1/\WgLive T.ty T.Wg w1:=⟨h.1.trans r,r.wg h.2⟩
theorem LL{T:dm}(hT:T.OK){o:Nat->Prop}(ho:∀b,o b->T.H0<=b){w0 w:ae}{st sm:Int}(h:dL T o w0 w)(hw:WgAt T.ty T.Wg w st sm)(v:Int):dL T o w0 (w.setCell (stA T.Wg) (.int .u64 v))/\WgLive T.ty T.Wg (w.setCell (stA T.Wg) (.int .u64 v)) :=
 ⟨h.trans (xR hT ho (aside_setCell w (stA T.Wg) _) ⟨_,_,hw.setSt v⟩),⟨_,_,hw.setSt v⟩⟩
theorem VE{T:dm}(hT:T.OK){o:Nat->Prop}(ho:∀b,o b->T.H0<=b){w0 w:ae}{st sm:Int}(h:dL T o w0 w)(hw:WgAt T.ty T.Wg w st sm)(v:Int):dL T o w0 (w.setCell (smA T.Wg) (.int .u32 v))/\WgLive T.ty T.Wg (w.setCell (smA T.Wg) (.int .u32 v)) :=
 ⟨h.trans (xR hT ho (aside_setCell w (smA T.Wg) _) ⟨_,_,hw.setSm v⟩),⟨_,_,hw.setSm v⟩⟩
theorem IM{T:dm}{o:Nat->Prop}{a:Addr}(h:a.block=T.Wg):∀e,(e=(⟨.mark (.read a),false,true⟩:Event)\/e=(⟨.mark (.write a),false,true⟩:Event))->EvS T o e:=by
 rintro e (rfl|rfl)
 ·refine⟨fun b hb _=>?_,aj,aj,aj⟩;simp only[MemAct.ofEvent,MemAct.touch?,ay] at hb;subst hb;exact .inl ⟨h,aj⟩
 ·refine⟨fun b hb _=>?_,aj,aj,aj⟩;simp only[MemAct.ofEvent,MemAct.touch?,ay] at hb;subst hb;exact .inl ⟨h,aj⟩
section
variable {P:Program} {T:dm} {V:Nat->ae->Prop} {fa:Nat->(Nat->Prop)->ae->Prop} {cO Fin:eQ} {Next:eQ} {o:Nat->Prop} {j:Nat} {w0:ae}
 {IN:Frame} {IP:Act} {rD:Array Oper} {IQ:Nat} {qZ:List Nat} {rQ:List Item} {cs:List Frame}
theorem ag1(H:WgLib P L)(hT:T.OK)(ho:∀b,o b->T.H0<=b)(hG:∀w,dL T o w0 w->di P T (SGo P T V fa j Next) o (G (IN.at (IP.put ((rD[IQ]?).bind (·.dst)) (.tuple #[])) (.inRegion rD qZ::rQ)) cs) w)(w:ae)(hF:dL T o w0 w/\WgLive T.ty T.Wg w):
  di P T (Lu P T V fa j Next) o (G ((base L.add).at ⟨#[.pointer (some ⟨T.Wg,0,none⟩),.int .i64 1,undef,undef,undef,undef,undef,undef,undef,undef,undef,undef,undef,undef,undef,undef,undef,undef,undef,undef,undef,undef,undef,undef,undef,undef,undef,undef,undef,undef,undef,undef,undef,undef,undef,undef,undef,undef,undef,undef,undef,undef,undef,undef,undef,undef,undef,undef,undef,undef,undef,undef,undef,undef,undef,undef,undef,undef,undef,undef,undef,undef,undef,undef,undef,undef,undef,undef,undef,undef,undef,undef,undef,undef,undef,undef,undef,undef,undef,undef,undef,undef,undef,undef,undef,undef,undef,undef,undef,undef,undef,undef,undef,undef,undef,undef,undef,undef,undef,undef,undef,undef,undef,undef,undef,undef,undef,undef,undef,undef,undef,undef,undef,undef,undef,undef,undef],[]⟩ [.code (body_add L)]) (IN.at IP (.inRegion rD (IQ::qZ)::rQ)::cs)) w:=by
 lib_facts
 simp only[body_add,addFn,bq];refine di.jw (n:=12) ?_
 u_c aD bO hF
 u_cond true bO hF
 u_c aD bO hF
 u_c aD bO hF
 u_reg bO hF
 u_op bO hF
 u_op bO hF
 u_c ak bO hF
 u_cond false bO hF
 u_c cx bO hF
 u_c aD bO hF
 u_reg bO hF
 refine cu (fun w₁ OV=>di.stop fun ank acK=>?_);replace hF:=bO (bO hF OV) acK;clear OV acK;refine⟨rfl,_,stepG_mark0 .disable aj rfl rfl (by k_ne) rfl H.f_disable (x_disable_n L) (x_disable_b L) (x_disable_x L) (x_disable_f L),di.jw (n:=40) ?_⟩;walk_nrm
 u_c ak bO hF
 u_reg bO hF
 u_defer bO hF
 u_c ak bO hF
 u_c aD bO hF
 u_reg bO hF
 u_op bO hF
 u_c ak bO hF
 u_c aD bO hF
 u_c aD bO hF
 u_reg bO hF
 u_bub bO hF
 u_c ak bO hF
 u_cond false bO hF
 u_c cx bO hF
 u_c aD bO hF
 u_reg bO hF
 iterate 6 u_op bO hF
 u_call H.f_uAdd (nm_uAdd L) uAddFn bO hF
 u_c aD bO hF
 u_reg bO hF
 u_op bO hF
 u_c ak bO hF
 u_c aD bO hF
 u_reg bO hF
 iterate 4 u_op bO hF
 refine cu (fun anl acL=>di.stop fun ag2 acM=>?_);replace hF:=bO (bO hF acL) acM;clear acL acM;refine⟨rfl,fun v hv hw=>?_⟩;rcases bg v with rfl|hvp
 ·replace hw:WgAt T.ty T.Wg ag2 0 0:=by simpa using hw
  have z:(((0:Nat):Int)+1)*KK=KK:=aj;rw[z];have e0:IntKind.u64.wrap (0+4294967296)=KK:=eu;refine⟨_,(stepG_add_atomic rfl rfl (by k_ne) rfl H.f_addU64 (x_addU64_n L) (x_addU64_b L) (x_addU64_x L) .u64 (x_addU64_f L) rfl rfl hw.cellSt (hw.thaw 0)).trans (by rw[e0];rfl),di.jw (n:=60) ?_⟩;replace hF:=LL hT ho hF.1 hw KK;clear hw;simp only[KK] at hF |-;walk_nrm
  u_op bO hF
  u_c ak bO hF
  u_c stepG_ret' bO hF
  u_leave1 H.f_uAdd bO hF
  u_op bO hF
  u_c ak bO hF
  u_c aD bO hF
  u_c aD bO hF
  u_reg bO hF
  iterate 4 u_op bO hF
  u_skip bO hF
  u_skip bO hF
  u_op bO hF
  u_c ak bO hF
  u_cond false bO hF
  u_c cx bO hF
  u_c aD bO hF
  u_reg bO hF
  iterate 4 u_op bO hF
  u_c ak bO hF
  u_c aD bO hF
  u_reg bO hF
  iterate 4 u_op bO hF
  u_c ak bO hF
  u_c aD bO hF
  u_c aD bO hF
  u_reg bO hF
  iterate 10 u_op bO hF
  u_c ak bO hF
  u_cond true bO hF
  u_reg bO hF
  iterate 3 u_op bO hF
  u_conv H.underlying_tPU32 H.room_tU32 (WgLive.cell1 hF.2).choose_spec bO hF
  refine cu (fun ann acN=>di.one rfl fun ano acO=>?_);replace hF:=bO (bO hF acN) acO;clear acN acO;refine⟨_,_,stepG_markAt .read aj rfl rfl (by k_ne) rfl H.f_raceRead (x_raceRead_n L) (x_raceRead_b L) (x_raceRead_x L) (x_raceRead_f L) (ad:=⟨T.Wg,1,none⟩) aH,fun e he=>?_,di.jw (n:=50) ?_⟩
  ·rw[Array.mem_singleton] at he;exact IM rfl e (.inl he)
  walk_nrm
  u_c ak bO hF
  u_c aD bO hF
  u_c aD bO hF
  u_reg bO hF
  u_op bO hF
  u_op bO hF
  u_c ak bO hF
  u_cond false bO hF
  u_c cx bO hF
  u_c aD bO hF
  u_c aD bO hF
  u_reg bO hF
  iterate 3 u_op bO hF
  u_skip bO hF
  u_skip bO hF
  u_op bO hF
  u_op bO hF
  iterate 4 u_skip bO hF
  u_op bO hF
  u_c ak bO hF
  u_cond false bO hF
  u_c cx bO hF
  u_c aD bO hF
  u_c aD bO hF
  u_reg bO hF
  iterate 3 u_op bO hF
  u_skip bO hF
  u_skip bO hF
  u_op bO hF
  u_c ak bO hF
  u_cond true bO hF
  u_c stepG_ret' bO hF
  refine cu (fun ag3 Sm=>di.stop fun ag4 Sn=>?_);replace hF:=bO (bO hF Sm) Sn;clear Sm Sn;refine⟨rfl,_,stepG_unwind_entry (v:=.tuple #[]) (evs:=#[Go.ConcR.mk .enable]) rfl H.f_enable (x_enable_n L) (x_enable_b L) (x_enable_x L) (x_enable_f L) (by simp[Extern.Race.none_]) (by simp[Go.ConcR.mk]) (by simp[Go.ConcR.mk]),di.jw (n:=2) ?_⟩
  u_leave0 H.f_add bO hF
  exact cu fun Zu Zv=>hG Zu (hF.1.trans Zv)
 ·obtain⟨Vv,hVv⟩:∃Vv:Int,Vv=(v:Int)+1:=⟨_,rfl⟩;obtain⟨S,hS⟩:∃S:Int,S=Vv*KK:=⟨_,rfl⟩;have eS:IntKind.u64.wrap ((v:Int)*KK+4294967296)=S:=by rw[IntKind.wrap_u64,hS,hVv];simp only[KK];omega
  rw[<- hVv,<- hS];have a1:S/4294967296=Vv:=by rw[hS];simp only[KK];omega
  have b1:bits .and .u64 S 2147483648=0:=by rw[hS,hVv];have:=st_flag (v+1) 0 aa aa;simpa[KK] using this
  have b2:bits .and .u64 S 2147483647=0:=by rw[hS,hVv];have:=st_waiters (v+1) 0 aa aa;simpa[KK] using this
  have c1:IntKind.i32.wrap Vv=Vv:=by rw[IntKind.wrap_i32];omega
  have hV1:1<Vv:=aa;have q1:(Vv==1)=false:=dV;have q2:decide (Vv=1)=false:=dv aa;have q3:decide (Vv<0)=false:=dv aa;have q4:decide (0<Vv)=true:=cU aa;have q5:(Vv==0)=false:=dV;have q6:decide (Vv=0)=false:=dv aa;refine⟨_,(stepG_add_atomic rfl rfl (by k_ne) rfl H.f_addU64 (x_addU64_n L) (x_addU64_b L) (x_addU64_x L) .u64 (x_addU64_f L) rfl rfl hw.cellSt (hw.thaw 0)).trans (by rw[eS];rfl),di.jw (n:=110) ?_⟩;replace hF:=LL hT ho hF.1 hw S;clear hw hS hVv eS;walk_nrm
  u_op bO hF
  u_c ak bO hF
  u_c stepG_ret' bO hF
  u_leave1 H.f_uAdd bO hF
  u_op bO hF
  u_c ak bO hF
  u_c aD bO hF
  u_c aD bO hF
  u_reg bO hF
  iterate 4 u_op bO hF
  u_skip bO hF
  u_skip bO hF
  u_op bO hF
  u_c ak bO hF
  u_cnd false bO hF
  u_c cx bO hF
  u_c aD bO hF
  u_reg bO hF
  iterate 4 u_op bO hF
  u_c ak bO hF
  u_c aD bO hF
  u_reg bO hF
  iterate 4 u_op bO hF
  u_c ak bO hF
  u_c aD bO hF
  u_c aD bO hF
  u_reg bO hF
  iterate 10 u_op bO hF
  u_c ak bO hF
  u_cnd false bO hF
  u_c cx bO hF
  u_c aD bO hF
  u_c aD bO hF
  u_reg bO hF
  u_op bO hF
  u_op bO hF
  u_c ak bO hF
  u_cnd false bO hF
  u_c cx bO hF
  u_c aD bO hF
  u_c aD bO hF
  u_reg bO hF
  iterate 3 u_op bO hF
  u_skip bO hF
  u_skip bO hF
  u_op bO hF
  u_op bO hF
  iterate 4 u_skip bO hF
  u_op bO hF
  u_c ak bO hF
  u_cnd false bO hF
  u_c cx bO hF
  u_c aD bO hF
  u_c aD bO hF
  u_reg bO hF
  iterate 3 u_op bO hF
  u_skip bO hF
  u_skip bO hF
  u_op bO hF
  u_c ak bO hF
  u_cnd true bO hF
  u_c stepG_ret' bO hF
  refine cu (fun ag3 Sm=>di.stop fun ag4 Sn=>?_);replace hF:=bO (bO hF Sm) Sn;clear Sm Sn;refine⟨rfl,_,stepG_unwind_entry (v:=.tuple #[]) (evs:=#[Go.ConcR.mk .enable]) rfl H.f_enable (x_enable_n L) (x_enable_b L) (x_enable_x L) (x_enable_f L) (by simp[Extern.Race.none_]) (by simp[Go.ConcR.mk]) (by simp[Go.ConcR.mk]),di.jw (n:=2) ?_⟩
  u_leave0 H.f_add bO hF
  exact cu fun Zu Zv=>hG Zu (hF.1.trans Zv)
end
end
section
open Go.ConcN.Gen Go.RowKit Go.Conc.Lib Go.ConcR.Gen
open Go.ConcR (KK wgBlock WgAt stA smA rd wr Payload DC0)
theorem Ct{w w1:ae}(h:True)(_:AtRel w w1):True:=h
variable [Payload] {L:WgLink}
def Fb(L:WgLink)(T:dm)(w0:ae)(c:Frame)(cs:List Frame):eQ:=fun o g w =>
 ∃Ts:Array Value,g=G ((base L.wait).at ⟨Ts,[]⟩ [.code (L7 L),.inLoop (L7 L),.inBlock 0]) (c::cs)/\Ts.size=84/\Ts[0]?=some (.pointer (some ⟨T.Wg,0,none⟩))/\(dL T o w0 w/\WgLive T.ty T.Wg w)/\∀b,o b->T.H0<=b
def Pv(P:Program)(T:dm)(w0:ae)(g1:aX):eQ:=fun o g w=>dL T o w0 w/\∃n,Goes P true AtRel DC0 (fun g' _=>g'=g1) n g w
section
variable {P:Program} {T:dm} {V:Nat->ae->Prop} {fa:Nat->(Nat->Prop)->ae->Prop} {o:Nat->Prop} {w0:ae}
 {IN:Frame} {IP:Act} {rD:Array Oper} {IQ:Nat} {qZ:List Nat} {rQ:List Item} {cs:List Frame}
theorem LM(H:WgLib P L)(hT:T.OK)(g:aX)(w:ae)(h:Fb L T w0 (IN.at IP (.inRegion rD (IQ::qZ)::rQ)) cs o g w):
  di P T (QZ P T (Fb L T w0 (IN.at IP (.inRegion rD (IQ::qZ)::rQ)) cs) (Pv P T w0 (G (IN.at (IP.put ((rD[IQ]?).bind (·.dst)) (.tuple #[])) (.inRegion rD qZ::rQ)) cs))) o g w:=by
 lib_facts
 obtain⟨Ts,rfl,ag5,t0,hF,ho⟩:=h;obtain⟨v0,v1,v2,v3,v4,v5,v6,v7,v8,v9,v10,v11,v12,v13,v14,v15,v16,v17,v18,v19,v20,v21,v22,v23,v24,v25,v26,v27,v28,v29,v30,v31,v32,v33,v34,v35,v36,v37,v38,v39,v40,v41,v42,v43,v44,v45,v46,v47,v48,v49,v50,v51,v52,v53,v54,v55,v56,v57,v58,v59,v60,v61,v62,v63,v64,v65,v66,v67,v68,v69,v70,v71,v72,v73,v74,v75,v76,v77,v78,v79,v80,v81,v82,v83,rfl⟩:=array84 Ts ag5;simp only[List.getElem?_toArray,List.getElem?_cons_zero,ay] at t0;subst t0;refine di.jw (n:=30) ?_;simp only[L7,body_wait,waitFn,bq]
 u_c fe bO hF
 u_c aD bO hF
 u_reg bO hF
 iterate 3 u_op bO hF
 u_call H.f_uLoad (nm_uLoad L) uLoadFn bO hF
 u_c aD bO hF
 u_reg bO hF
 u_op bO hF
 u_c ak bO hF
 u_c aD bO hF
 u_reg bO hF
 iterate 3 u_op bO hF
 refine cu (fun wA1 wR=>di.stop fun wA2 IS=>?_);replace hF:=bO (bO hF wR) IS;clear wR IS;refine⟨rfl,fun v hv hw=>?_⟩;rcases bg v with rfl|hvp
 ·replace hw:WgAt T.ty T.Wg wA2 0 0:=by simpa using hw
  refine⟨_,stepG_load_atomic (v:=0) rfl rfl (by k_ne) rfl H.f_loadU64 (x_loadU64_n L) (x_loadU64_b L) (x_loadU64_x L) .u64 (x_loadU64_f L) rfl hw.cellSt,fun _=>di.jw (n:=50) ?_,fun h=>absurd rfl h⟩;clear hw;walk_nrm
  u_op bO hF
  u_c ak bO hF
  u_c stepG_ret' bO hF
  u_leave1 H.f_uLoad bO hF
  u_op bO hF
  u_c ak bO hF
  u_c aD bO hF
  u_reg bO hF
  iterate 4 u_op bO hF
  u_c ak bO hF
  u_c aD bO hF
  u_reg bO hF
  iterate 4 u_op bO hF
  u_c ak bO hF
  u_c aD bO hF
  u_c aD bO hF
  u_reg bO hF
  u_op bO hF
  u_op bO hF
  u_c ak bO hF
  u_cond true bO hF
  u_c aD bO hF
  u_cond true bO hF
  u_c aD bO hF
  u_reg bO hF
  refine cu (fun wE1 hE1=>di.stop fun wE2 hE2=>?_);replace hF:=bO (bO hF hE1) hE2;clear hE1 hE2;refine⟨rfl,_,stepG_mark0 .enable aj rfl rfl (by k_ne) rfl H.f_enable (x_enable_n L) (x_enable_b L) (x_enable_x L) (x_enable_f L),di.jw (n:=12) ?_⟩;walk_nrm
  u_c ak bO hF
  u_reg bO hF
  u_op bO hF
  u_conv H.underlying_tWgP H.room_tWg (WgLive.cell0 hF.2).choose_spec bO hF
  refine cu (fun wF1 lv=>di.stop fun wF2 rO=>?_);replace hF:=bO (bO hF lv) rO;clear lv rO;refine⟨rfl,_,stepG_markAt .acquire aj rfl rfl (by k_ne) rfl H.f_acquire (x_acquire_n L) (x_acquire_b L) (x_acquire_x L) (x_acquire_f L) (by simp[Act.eval,stA]),hF.1,30,?_⟩;walk_nrm;have hu:True:=trivial
  u_c ak Ct hu
  u_c aD Ct hu
  u_c aD Ct hu
  u_reg Ct hu
  iterate 8 u_op Ct hu
  u_skip Ct hu
  u_skip Ct hu
  u_op Ct hu
  u_c ak Ct hu
  u_cond false Ct hu
  u_c cx Ct hu
  u_c stepG_ret' Ct hu
  u_leave0 H.f_wait Ct hu
  exact cu fun _ _=>rfl
 ·obtain⟨S,hS⟩:∃S:Int,(v:Int)*KK=S:=⟨_,rfl⟩;have a1:S/4294967296=(v:Int):=by rw[<- hS];simp only[KK];omega
  have b1:bits .and .u64 S 2147483648=0:=by rw[<- hS];have:=st_flag v 0 aa aa;simpa[KK] using this
  have b2:bits .and .u64 S 2147483647=0:=by rw[<- hS];have:=st_waiters v 0 aa aa;simpa[KK] using this
  have c1:IntKind.i32.wrap (v:Int)=(v:Int):=by rw[IntKind.wrap_i32];omega
  have w1:IntKind.u64.wrap (S+1)=S+1:=by rw[IntKind.wrap_u64,<- hS];simp only[KK];omega
  have q3:decide ((v:Int)<0)=false:=dv aa;have q4:decide (0<(v:Int))=true:=cU aa;have q5:((v:Int)==0)=false:=dV;have q6:decide ((v:Int)=0)=false:=dv aa;rw[hS] at hw;refine⟨_,stepG_load_atomic (v:=S) rfl rfl (by k_ne) rfl H.f_loadU64 (x_loadU64_n L) (x_loadU64_b L) (x_loadU64_x L) .u64 (x_loadU64_f L) rfl hw.cellSt,fun h0=>absurd h0 aa,fun _=>di.jw (n:=60) ?_⟩;clear hw;walk_nrm
  u_op bO hF
  u_c ak bO hF
  u_c stepG_ret' bO hF
  u_leave1 H.f_uLoad bO hF
  u_op bO hF
  u_c ak bO hF
  u_c aD bO hF
  u_reg bO hF
  iterate 4 u_op bO hF
  u_c ak bO hF
  u_c aD bO hF
  u_reg bO hF
  iterate 4 u_op bO hF
  u_c ak bO hF
  u_c aD bO hF
  u_c aD bO hF
  u_reg bO hF
  u_op bO hF
  u_op bO hF
  u_c ak bO hF
  u_cnd false bO hF
  u_c cx bO hF
  u_c aD bO hF
  u_reg bO hF
  iterate 6 u_op bO hF
  u_call H.f_uCas (nm_uCas L) uCasFn bO hF
  u_c aD bO hF
  u_reg bO hF
  u_op bO hF
  u_c ak bO hF
  u_c aD bO hF
  u_reg bO hF
  iterate 5 u_op bO hF
  refine cu (fun wB1 hB1=>di.stop fun wB2 hB2=>?_);replace hF:=bO (bO hF hB1) hB2;clear hB1 hB2;refine⟨rfl,fun v' xl hw=>⟨fun e=>?_,fun e=>?_⟩⟩
  ·subst e;rw[hS] at hw |-;refine⟨_,(stepG_cas_hit (v:=S) (n:=S+1) rfl rfl (by k_ne) rfl H.f_casU64 (x_casU64_n L) (x_casU64_b L) (x_casU64_x L) .u64 (x_casU64_f L) rfl rfl rfl hw.cellSt (hw.thaw 0)).trans ar,di.jw (n:=70) ?_⟩;replace hF:=LL hT ho hF.1 hw (S+1);clear hw;walk_nrm
   u_op bO hF
   u_c ak bO hF
   u_c stepG_ret' bO hF
   u_leave1 H.f_uCas bO hF
   u_c ak bO hF
   u_cond true bO hF
   u_c aD bO hF
   u_c aD bO hF
   u_reg bO hF
   iterate 4 u_op bO hF
   u_c ak bO hF
   u_cond true bO hF
   u_reg bO hF
   iterate 3 u_op bO hF
   u_conv H.underlying_tPU32 H.room_tU32 (WgLive.cell1 hF.2).choose_spec bO hF
   refine cu (fun wC1 hC1=>di.one rfl fun wC2 hC2=>?_);replace hF:=bO (bO hF hC1) hC2;clear hC1 hC2;refine⟨_,_,stepG_markAt .write aj rfl rfl (by k_ne) rfl H.f_raceWrite (x_raceWrite_n L) (x_raceWrite_b L) (x_raceWrite_x L) (x_raceWrite_f L) (ad:=⟨T.Wg,1,none⟩) (by simp[Act.eval]<;>rfl),fun e he=>?_,di.jw (n:=50) ?_⟩
   ·rw[Array.mem_singleton] at he;exact IM rfl e (.inr he)
   u_c ak bO hF
   u_c aD bO hF
   u_reg bO hF
   u_op bO hF
   u_c ak bO hF
   u_c aD bO hF
   u_c aD bO hF
   u_reg bO hF
   iterate 4 u_op bO hF
   u_skip bO hF
   u_op bO hF
   u_c ak bO hF
   u_cond false bO hF
   u_c cx bO hF
   u_c aD bO hF
   u_reg bO hF
   iterate 4 u_op bO hF
   refine cu (fun wD1 hD1=>di.stop fun wD2 hD2=>?_);replace hF:=bO (bO hF hD1) hD2;clear hD1 hD2;refine⟨rfl,rfl,fun⟨st,hw⟩=>stepG_semacquire_wait rfl rfl rfl H.f_semacquire (x_semacquire_n L) (x_semacquire_b L) (x_semacquire_x L) (x_semacquire_f L) (by simp[Act.eval,smA]) hw.cellSm,fun hf=>?_⟩;refine⟨_,(stepG_semacquire (n:=1) rfl rfl (by k_ne) rfl H.f_semacquire (x_semacquire_n L) (x_semacquire_b L) (x_semacquire_x L) (x_semacquire_f L) (by simp[Act.eval,smA]) hf.cellSm (by k_ne) (hf.thaw 1)).trans ar,di.jw (n:=30) ?_⟩;replace hF:=VE hT ho hF.1 hf 0;clear hf;walk_nrm
   u_c ak bO hF
   u_c aD bO hF
   u_reg bO hF
   iterate 3 u_op bO hF
   u_call H.f_uLoad (nm_uLoad L) uLoadFn bO hF
   u_c aD bO hF
   u_reg bO hF
   u_op bO hF
   u_c ak bO hF
   u_c aD bO hF
   u_reg bO hF
   iterate 3 u_op bO hF
   refine cu (fun wG1 hG1=>di.stop fun wG2 hG2=>?_);replace hF:=bO (bO hF hG1) hG2;clear hG1 hG2;refine⟨rfl,fun hw=>⟨_,stepG_load_atomic (v:=0) rfl rfl (by k_ne) rfl H.f_loadU64 (x_loadU64_n L) (x_loadU64_b L) (x_loadU64_x L) .u64 (x_loadU64_f L) rfl hw.cellSt,di.jw (n:=30) ?_⟩⟩;clear hw;walk_nrm
   u_op bO hF
   u_c ak bO hF
   u_c stepG_ret' bO hF
   u_leave1 H.f_uLoad bO hF
   u_op bO hF
   u_op bO hF
   u_c ak bO hF
   u_c aD bO hF
   u_cond true bO hF
   u_c aD bO hF
   u_reg bO hF
   refine cu (fun wE1 hE1=>di.stop fun wE2 hE2=>?_);replace hF:=bO (bO hF hE1) hE2;clear hE1 hE2;refine⟨rfl,_,stepG_mark0 .enable aj rfl rfl (by k_ne) rfl H.f_enable (x_enable_n L) (x_enable_b L) (x_enable_x L) (x_enable_f L),di.jw (n:=12) ?_⟩;walk_nrm
   u_c ak bO hF
   u_reg bO hF
   u_op bO hF
   u_conv H.underlying_tWgP H.room_tWg (WgLive.cell0 hF.2).choose_spec bO hF
   refine cu (fun wF1 lv=>di.stop fun wF2 rO=>?_);replace hF:=bO (bO hF lv) rO;clear lv rO;refine⟨rfl,_,stepG_markAt .acquire aj rfl rfl (by k_ne) rfl H.f_acquire (x_acquire_n L) (x_acquire_b L) (x_acquire_x L) (x_acquire_f L) (by simp[Act.eval,stA]),hF.1,30,?_⟩;walk_nrm;have hu:True:=trivial
   u_c ak Ct hu
   u_c aD Ct hu
   u_c aD Ct hu
   u_reg Ct hu
   u_op Ct hu
   u_c ak Ct hu
   u_cond false Ct hu
   u_c cx Ct hu
   u_c stepG_ret' Ct hu
   u_leave0 H.f_wait Ct hu
   exact cu fun _ _=>rfl
  ·refine⟨_,stepG_cas_miss (v:=(v':Int)*KK) (old:=S) (n:=S+1) rfl rfl (by k_ne) rfl H.f_casU64 (x_casU64_n L) (x_casU64_b L) (x_casU64_x L) .u64 (x_casU64_f L) rfl rfl rfl hw.cellSt (hw.thaw 0) (by rw[<- hS];simp only[KK];omega),di.jw (n:=20) ?_⟩;clear hw;walk_nrm
   u_op bO hF
   u_c ak bO hF
   u_c stepG_ret' bO hF
   u_leave1 H.f_uCas bO hF
   u_c ak bO hF
   u_cond false bO hF
   u_c cx bO hF
   u_c gv bO hF
   u_c iM bO hF
   exact cu (fun wH hH=>di.stop fun wI hI=>⟨_,rfl,aj,aj,bO (bO hF hH) hI,ho⟩)
theorem LN(H:WgLib P L)(ho:∀b,o b->T.H0<=b)(w:ae)(hF:dL T o w0 w/\WgLive T.ty T.Wg w):
  di P T (Q0 P T (Fb L T w0 (IN.at IP (.inRegion rD (IQ::qZ)::rQ)) cs)) o
   (G ((base L.wait).at ⟨#[.pointer (some ⟨T.Wg,0,none⟩),undef,undef,undef,undef,undef,undef,undef,undef,undef,undef,undef,undef,undef,undef,undef,undef,undef,undef,undef,undef,undef,undef,undef,undef,undef,undef,undef,undef,undef,undef,undef,undef,undef,undef,undef,undef,undef,undef,undef,undef,undef,undef,undef,undef,undef,undef,undef,undef,undef,undef,undef,undef,undef,undef,undef,undef,undef,undef,undef,undef,undef,undef,undef,undef,undef,undef,undef,undef,undef,undef,undef,undef,undef,undef,undef,undef,undef,undef,undef,undef,undef,undef,undef],[]⟩ [.code (body_wait L)]) (IN.at IP (.inRegion rD (IQ::qZ)::rQ)::cs)) w:=by
 lib_facts
 simp only[body_wait,waitFn,bq];refine di.jw (n:=3) ?_
 u_c aD bO hF
 u_cond true bO hF
 u_reg bO hF
 refine cu (fun wA1 wR=>di.stop fun wA2 IS=>?_);replace hF:=bO (bO hF wR) IS;clear wR IS;refine⟨rfl,_,stepG_mark0 .disable aj rfl rfl (by k_ne) rfl H.f_disable (x_disable_n L) (x_disable_b L) (x_disable_x L) (x_disable_f L),di.jw (n:=3) ?_⟩;walk_nrm
 u_c ak bO hF
 u_c fe bO hF
 u_c jM bO hF
 exact cu (fun wH hH=>di.stop fun wI hI=>⟨_,rfl,aj,aj,bO (bO hF hH) hI,ho⟩)
end
end
section
open Go.ConcR (DC0)
section
variable {P:Program} {Fin:bK} {d:Nat} {S:Nat->Prop} {g:aX} {w:ae}
theorem mB.more{S':Nat->Prop}{t:Trace}(h:mB d S t)(hS:∀b,S b->S' b):mB d S' t :=
 ⟨h.clean,fun i a ha hm=>(h.known i a ha hm).imp id fun⟨h1,h2⟩=>⟨by cases hl:a.loc<;>rw[hl] at h1<;>first|exact hS _ h1|exact h1,h2⟩,h.over,h.deaf⟩
theorem BX.less{S':Nat->Prop}(h:BX P Fin d S' g w)(hS:∀b,S b->S' b)(hb:∀b,w.heap.size<=b->¬S' b):BX P Fin d S g w :=
 fun gs sl t q h0 hL hP _=>h gs sl t q h0 hL (hP.more hS) hb
theorem AU.jw{g1:aX}:∀{n:Nat} {g:aX} {w:ae},Goes P true AtRel DC0 (fun g' _=>g'=g1) n g w->AU P Fin d S g1 w->AU P Fin d S g w:=by
 intro n
 induction n with
 |zero =>
  intro g w h hx;have:=h w (atRel_refl w);exact this▸hx
 |succ n ih =>
  intro g w h hx;rcases h with h|⟨hs,h⟩
  ·have:=h w (atRel_refl w);exact this▸hx
  ·refine AU.step hs fun w1 hw=>?_;have:=h w1 hw;cases hg:stepG P true g w1 with
   |go g' w' es =>
    rw[hg,goes_go] at this;obtain⟨⟨rfl,rfl⟩,hG⟩:=this;exact⟨g',w',#[],rfl,aj,ag _,ih hG (hx.rely hw)⟩
   |_=>rw[hg] at this;exact this.elim
variable [Go.ConcR.Payload]
theorem BX.acS(h:∀m0 T0,0<m0->∃(T:dm) (V:Nat->ae->Prop) (fa:Nat->(Nat->Prop)->ae->Prop) (cO Pv:eQ) (o0:Nat->Prop),T.m0=m0/\T.T0=T0/\T.OK/\ky T V fa/\T.n<2147483648/\T.Shun=tW S /\
   (∀o g w,cO o g w->di P T (QZ P T cO Pv) o g w)/\jb P T V fa cO T.n o0 g w/\(∀b,o0 b->T.H0<=b/\b<w.heap.size)/\T.H0<=w.heap.size/\Go.ConcR.WgAt T.ty T.Wg w 0 0 /\
   (∀k,k<T.n->∃s r tm,w.heap[T.ch k]?=some (.chan 0 #[] false s r tm))/\(∀k,k<T.n->T.Idle k w) /\
   (∀o g' w',Pv o g' w'->(∀i,i<T.n->V i w'/\∃(oi:Nat->Prop) (C:Nat),fa i (fun b=>oi b/\b≠C) w'/\∀b,oi b->T.H0<=b/\b<w'.heap.size)->dL T (fun _=>False) w w'->(∀b,o b->T.H0<=b/\b<w'.heap.size) ->
    (∀b cs ty fz,T.Sh b->w.heap[b]?=some (.cells cs ty fz)->∃tx,w'.heap[b]?=some (.cells tx ty fz)/\tx.size=cs.size)->(∀k,k<T.n->∃c s r tm,w'.heap[T.ch k]?=some (.chan 0 #[] c s r tm))->BX P Fin 0 (fun b=>S b\/b=T.Wg) g' w')):BX P Fin 0 S g w:=by
 intro gs sl t q h0 hL hP hS;obtain⟨B,hB⟩:=hP.RA;have nt:0<gs.size:=(Array.getElem?_eq_some_iff.1 h0).1;obtain⟨T,V,fa,cO,Pv,o0,e1,e2,hT,hV,hn,tf,XX,eG,UF,hH,pj,vC,RZ,R2⟩:=h gs.size t.size nt;obtain⟨N,gK,w',rU,t',k1,o,g',q',B',j1,j2,j3,j4,j5,j6,j7,j8,j9,j10,j11⟩:=Pp (T:=T) hT hV hn XX tf (B:=B+0) (gs:=gs) (sl:=sl) (t:=t) (q:=q) e1.symm h0 hL (by rw[tf];exact hB 0) e2.symm eG UF hH pj vC RZ;have hWg:T.Wg<T.H0:=hT.wg;obtain⟨N2,gs2,w2,Vp,t2,q2,S2,g2,l1,l2⟩:=R2 o g' w' j3 j7 j8 j9 j10 j11 gK rU t' q' j2 j4 (mB.of j5) (fun b hb=>by
  rintro(h|rfl)
  ·exact hS b (aW j8.size hb) h
  ·have:=j8.size;omega)
 exact⟨N+N2,gs2,w2,Vp,t2,q2,S2,g2,by rw[runNT_add,k1];exact l1,l2⟩
section
variable {T:dm} {cO Fc F F':eQ} {o:Nat->Prop}
theorem O7.mono(hF:∀o g w,F o g w->F' o g w){o:Nat->Prop}{g:aX}{w:ae}:O7 P T F o g w->O7 P T F' o g w:=fun⟨a,g',b,c⟩=>⟨a,g',b,hF _ _ _ c⟩
theorem XP.mono(hF:∀o g w,F o g w->F' o g w){o:Nat->Prop}{g:aX}{w:ae}:XP P T F o g w->XP P T F' o g w:=fun⟨a,g',b,c⟩=>⟨a,g',b,c.mono fun _ _ _=>O7.mono hF⟩
theorem SW4.mono(hF:∀o g w,F o g w->F' o g w){o:Nat->Prop}{g:aX}{w:ae}:SW4 P T F o g w->SW4 P T F' o g w:=fun⟨a,h⟩=>⟨a,fun x=>let ⟨g',b,c⟩:=h x;⟨g',b,c.mono fun _ _ _=>XP.mono hF⟩⟩
theorem Zc.mono(hF:∀o g w,F o g w->F' o g w){o:Nat->Prop}{g:aX}{w:ae}:Zc P T F o g w->Zc P T F' o g w:=fun⟨a,b,c,d⟩=>⟨a,b,c,fun x=>let ⟨g',e,f⟩:=d x;⟨g',e,f.mono fun _ _ _=>SW4.mono hF⟩⟩
theorem SW2.mono(hA:∀o g w,cO o g w->Fc o g w)(hF:∀o g w,F o g w->F' o g w){vs:Nat}{o:Nat->Prop}{g:aX}{w:ae}:SW2 P T cO F vs o g w->SW2 P T Fc F' vs o g w:=fun⟨a,h⟩ =>
 ⟨a,fun v hv hw=>⟨fun e=>let ⟨g',x,y⟩:=(h v hv hw).1 e;⟨g',x,y.mono fun _ _ _=>Zc.mono hF⟩,fun e=>let ⟨g',x,y⟩:=(h v hv hw).2 e;⟨g',x,y.mono hA⟩⟩⟩
theorem QZ.mono(hA:∀o g w,cO o g w->Fc o g w)(hF:∀o g w,F o g w->F' o g w){o:Nat->Prop}{g:aX}{w:ae}:QZ P T cO F o g w->QZ P T Fc F' o g w:=fun⟨a,h⟩ =>
 ⟨a,fun v hv hw=>let ⟨g',x,y,z⟩:=h v hv hw;⟨g',x,fun e=>(y e).mono fun _ _ _=>XP.mono hF,fun e=>(z e).mono fun _ _ _=>SW2.mono hA hF⟩⟩
theorem Q0.mono(hA:∀o g w,cO o g w->Fc o g w){o:Nat->Prop}{g:aX}{w:ae}:Q0 P T cO o g w->Q0 P T Fc o g w:=fun⟨a,g',b,c⟩=>⟨a,g',b,c.mono hA⟩
end
end
section
variable {P:Program} {m:Bool} {R:aM->ae->ae->Prop} {Gu:aM->ae->ae->Array Event->Prop} {X:aM->aX->ae->Prop} {b:Frame} {a:Act} {k:List Item} {cs:List Frame} {o:aM} {w:ae} {ops:Array Oper} {i:Nat} {rest:List Nat} {op:Oper}
theorem still_at(W:fH P m R Gu X){S:ae->Prop}(hS:∀w1,R o w w1->S w1)(ho:ops[i]?=some op)(hw:Region.wanted op (yielded ops a.tmps)=true)(hk:b.kind≠.early)(hg:∀w1,S w1->Gu o w1 w1 (listed P b.fn a op w1))(h:∀w1,S w1->∀K:Act->ae->Prop,(∀a',X o (G (b.at a' (.inRegion ops rest::k)) cs) w->K a' w1)->uponK op a K ((execOp a.eval op).run P w1)):X o (G (b.at a (.inRegion ops (i::rest)::k)) cs) w:=by
 refine W.step o _ w rfl fun w1 h1=>?_;have:=h w1 (hS w1 h1) (fun a' w'=>w'=w1/\X o (G (b.at a' (.inRegion ops rest::k)) cs) w) fun _ x=>⟨rfl,x⟩;revert this;cases hr:(execOp a.eval op).run P w1 with
 |ok x w' =>
  cases x with
  |value v=>intro q;simp only[uponK_value] at q;obtain⟨rfl,q⟩:=q;exact⟨_,_,_,eH ho hw hk hr,hg _ (hS _ h1),by rw[b8];exact W.rely _ _ _ _ q h1⟩
  |skip=>intro q;simp only[uponK_skip] at q;obtain⟨rfl,q⟩:=q;exact⟨_,_,_,jN ho hw hk hr,hg _ (hS _ h1),by rw[b8];exact W.rely _ _ _ _ q h1⟩
  |_=>intro q;exact q.elim
 |halt _ _=>intro q;exact q.elim
theorem VF(W:fH P m R Gu X)(ho:ops[i]?=some op)(_hn:Gr op.op=true)(hw:Region.wanted op (yielded ops a.tmps)=true)(hk:b.kind≠.early)(hg:∀w1,(execOp a.eval op).events P w1 #[]=#[])(h:∀w1,∀K:Act->ae->Prop,(∀a',X o (G (b.at a' (.inRegion ops rest::k)) cs) w->K a' w1)->uponK op a K ((execOp a.eval op).run P w1)):X o (G (b.at a (.inRegion ops (i::rest)::k)) cs) w :=
 still_at W (S:=fun _=>True) (fun _ _=>trivial) ho hw hk (fun w1 _=>by rw[listed_nil (hg w1)];exact W.idle _ _) (fun w1 _=>h w1)
end
theorem Sp{P:Program}{main:Bool}{b:Frame}{a:Act}{k:List Item}{cs:List Frame}{w:ae}{ops:Array Oper}{i:Nat}{rest:List Nat}{op:Oper}{d:Deferred}{f:Fn}{c:Array Value}(ho:ops[i]?=some op)(hw:Region.wanted op (yielded ops a.tmps)=true)(hk:b.kind≠.early)(hr:(execOp a.eval op).run P w=.ok (.spawn d) w)(he:(execOp a.eval op).events P w #[]=#[])(hd:d.target=.fn f c){dd:Option Tmp}(hdd:op.dst=dd):
  stepG P main (G (b.at a (.inRegion ops (i::rest)::k)) cs) w=.spawn (G (b.at (a.put dd undef) (.inRegion ops rest::k)) cs) (born P d) w #[]:=by
 subst hdd;rw[stepG_spawn ho hw hk hr hd,listed_nil he]
section
variable {P:Program} {T:dm} {Stop:eQ} {b:Frame} {a:Act} {k:List Item} {cs:List Frame} {o:aM} {w:ae} {ops:Array Oper} {i:Nat} {rest:List Nat} {op:Oper}
theorem LO(ho:ops[i]?=some op)(hw:Region.wanted op (yielded ops a.tmps)=true)(hk:b.kind≠.early){d:Option Tmp}(hd:op.dst=d)(x:Obj)(cJ:∀w1,(execOp a.eval op).run P w1=.ok (.value (.pointer (some ⟨w1.heap.size,0,none⟩))) (w1.alloc x))(jg:∀w1,(execOp a.eval op).events P w1 #[]=#[])(h:∀w1,dL T o w w1->di P T Stop (fun b=>o b\/b=w1.heap.size) (G (b.at (a.put d (.pointer (some ⟨w1.heap.size,0,none⟩))) (.inRegion ops rest::k)) cs) (w1.alloc x)):di P T Stop o (G (b.at a (.inRegion ops (i::rest)::k)) cs) w:=by
 subst hd;refine di.step rfl fun w1 h1=>⟨_,_,_,eH ho hw hk (cJ w1),⟨aj,fun b hb _=>RowKit.Below.heap_alloc w1 x b hb,rfl,rfl⟩,by rw[listed_nil (jg w1)];simp,?_⟩;rw[show grow o w1 (w1.alloc x)=fun b=>o b\/b=w1.heap.size from va o w1 x];exact h w1 h1
theorem LP(A:Nat)(hA:o A)(ho:ops[i]?=some op)(hw:Region.wanted op (yielded ops a.tmps)=true)(hk:b.kind≠.early){d:Option Tmp}(hd:op.dst=d){f:ae->ae}(hf:∀w1,gY A w1 (f w1))(cJ:∀w1,w1.heap[A]?=w.heap[A]?->(execOp a.eval op).run P w1=.ok .skip (f w1))(jg:∀w1,w1.heap[A]?=w.heap[A]?->∀e∈(execOp a.eval op).events P w1 #[],∃ad wt sy,e=⟨.cell ad,wt,sy⟩/\ad.block=A)(h:∀w1,dL T o w w1->di P T Stop o (G (b.at (a.put d undef) (.inRegion ops rest::k)) cs) (f w1)):di P T Stop o (G (b.at a (.inRegion ops (i::rest)::k)) cs) w:=by
 subst hd;refine di.step rfl fun w1 h1=>⟨_,_,_,jN ho hw hk (cJ w1 (h1.own A hA)),⟨bG (hf w1).size.symm,fun b hb hn=>(hf w1).heap b fun e=>hn (e▸hA),(hf w1).os,(hf w1).output⟩,fun e he=>?_,?_⟩
 ·obtain⟨ad,wt,sy,rfl,e2⟩:=jg w1 (h1.own A hA) e (mem_listed he);refine⟨fun x hx _=>.inr (.inl ⟨A,.inl hA,?_⟩),aj,aj,aj⟩;simp only[MemAct.ofEvent,MemAct.touch?,ay] at hx;subst hx;exact e2
 ·rw[kH o (hf w1).size];exact h w1 h1
end
section
variable {P:Program} {Fin:bK} {d:Nat} {b:Frame} {a:Act} {k:List Item} {cs:List Frame} {o:aM} {w:ae} {ops:Array Oper} {i:Nat} {rest:List Nat} {op:Oper}
theorem zp(ho:ops[i]?=some op)(hw:Region.wanted op (yielded ops a.tmps)=true)(hk:b.kind≠.early){dd:Option Tmp}(hd:op.dst=dd)(x:Obj)(f:Nat->Value)(cJ:∀w1,(execOp a.eval op).run P w1=.ok (.value (f w1.heap.size)) (w1.alloc x))(jg:∀w1,(execOp a.eval op).events P w1 #[]=#[])(h:XB P Fin d (fun b=>o b\/b=w.heap.size) (G (b.at (a.put dd (f w.heap.size)) (.inRegion ops rest::k)) cs) (w.alloc x)):XB P Fin d o (G (b.at a (.inRegion ops (i::rest)::k)) cs) w:=by
 subst hd;refine bV.step o _ w rfl fun w1 h1=>⟨_,_,_,eH ho hw hk (cJ w1),⟨by rw[listed_nil (jg w1)];simp,aj,rfl,rfl⟩,?_⟩;obtain⟨dd,rfl⟩:=h1;rw[show grow o (w.at dd) ((w.at dd).alloc x)=fun b=>o b\/b=w.heap.size from va o (w.at dd) x];exact bV.rely _ _ _ ((w.alloc x).at dd) h ⟨dd,rfl⟩
end
end
section
variable {P:Program} {Fin:bK} {d:Nat} {b:Frame} {a:Act} {k:List Item} {cs:List Frame} {o:aM} {w:ae} {ops:Array Oper} {i:Nat} {rest:List Nat} {op:Oper} {f:FuncId} {fn:Func} {sA:Array TypeId} {as:Array Operand} {e:Array Value->Sem Value}
theorem Sq{x:Event}(h:x.sync=true):VD o x:=by
 obtain⟨loc,wt,sy⟩:=x;simp only at h;subst h;intro y hy ad hl hk;cases loc with
 |cell c=>simp only[MemAct.ofEvent,MemAct.touch?,ay] at hy;subst hy;simp at hk
 |obj c=>cases wt<;>simp[MemAct.ofEvent,MemAct.touch?] at hy<;>subst hy<;>simp at hk
 |output=>simp only[MemAct.ofEvent,MemAct.touch?,ay] at hy;subst hy;simp at hk
 |goroutines=>simp only[MemAct.ofEvent,MemAct.touch?,ay] at hy;subst hy;simp at hk
 |mark m=>cases m<;>simp[MemAct.ofEvent,MemAct.touch?] at hy<;>subst hy<;>simp at hk
theorem Bh{ad:Addr}{wt sy:Bool}(h:o ad.block):VD o ⟨.cell ad,wt,sy⟩:=by
 intro y hy c hl hk;simp only[MemAct.ofEvent,MemAct.touch?,ay] at hy;subst hy;cases hl;exact h
theorem NC{r:Nat}{wt sy:Bool}:VD o ⟨.obj r,wt,sy⟩:=by
 intro y hy c hl hk;cases wt<;>cases sy<;>simp[MemAct.ofEvent,MemAct.touch?] at hy<;>subst hy<;>cases hl
theorem zq(ho:ops[i]?=some op)(hw:Region.wanted op (yielded ops a.tmps)=true)(hk:b.kind≠.early)(eP:op.op=.call {callee:=.value (.func f),args:=as,argTypes:=sA})(hf:P.funcs[f]?=some fn)(gP:(fn.name == "runtime.NumGoroutine")=false)(hb:fn.body.isNone=true)(hn:Extern.findNext fn=none)(he:Extern.find fn=some e){v:Value}{t:ae->ae}{evs:Array Event}{dd:Option Tmp}(hd:op.dst=dd)(pg:∀n,t (w.at n)=(t w).at n)(fE:(t w).heap.size=w.heap.size)(cJ:∀n,(e (as.map a.eval)).run P (w.at n)=.ok v (t (w.at n)))(jg:∀n,(e (as.map a.eval)).events P (w.at n) #[⟨.mark (.extern f),false,true⟩]=#[⟨.mark (.extern f),false,true⟩]++evs)(hs:∀x∈evs,x.sync=true/\(∀g,x.loc≠.mark (.extern g))/\x.loc≠.mark .disable/\x.loc≠.mark .enable)(h:XB P Fin d o (G (b.at (a.put dd v) (.inRegion ops rest::k)) cs) (t w))(RE:(t w).os=w.os/\(t w).output=w.output:=by exact⟨rfl,rfl⟩):XB P Fin d o (G (b.at a (.inRegion ops (i::rest)::k)) cs) w:=by
 subst hd;refine bV.step o _ w rfl fun w1 h1=>?_;obtain⟨n,rfl⟩:=h1;refine⟨_,_,_,stepG_entry ho hw hk eP hf gP hb hn he (cJ n) (jg n) (fun x hx=>⟨(hs x hx).1,(hs x hx).2.1⟩),⟨fun x hx=>⟨Sq (hs x hx).1,(hs x hx).2.2⟩,?_,?_⟩,?_⟩
 ·rw[pg n];exact bG fE.symm
 ·rw[pg n];exact RE
 ·rw[kH o (by rw[pg n];exact fE),pg n];exact bV.rely _ _ _ _ h ⟨n,rfl⟩
theorem x8(m:Mark)(hm:m=.disable\/m=.enable)(ho:ops[i]?=some op)(hw:Region.wanted op (yielded ops a.tmps)=true)(hk:b.kind≠.early)(eP:op.op=.call {callee:=.value (.func f),args:=as,argTypes:=sA})(hf:P.funcs[f]?=some fn)(gP:(fn.name == "runtime.NumGoroutine")=false)(hb:fn.body.isNone=true)(hn:Extern.findNext fn=none)(he:Extern.find fn=some (fun _=>do mark m;pure Extern.Race.none_)){dd:Option Tmp}(hd:op.dst=dd){d':Nat}(Vw:deafBehind d #[⟨.mark m,false,true⟩]=d')(h:XB P Fin d' o (G (b.at (a.put dd (.tuple #[])) (.inRegion ops rest::k)) cs) w):XB P Fin d o (G (b.at a (.inRegion ops (i::rest)::k)) cs) w:=by
 subst hd;exact XB.mark rfl (es:=#[⟨.mark m,false,true⟩]) (fun x hx=>by simp at hx;subst hx;exact⟨m,rfl⟩) Vw (fun w1=>stepG_mark0 m (by rintro g rfl;rcases hm with h|h<;>cases h) ho hw hk eP hf gP hb hn he) h
theorem Cu(mk:Addr->Mark)(hm:∀ad,(∃x,mk ad=.acquire x)\/(∃x,mk ad=.releaseMerge x))(ho:ops[i]?=some op)(hw:Region.wanted op (yielded ops a.tmps)=true)(hk:b.kind≠.early)(eP:op.op=.call {callee:=.value (.func f),args:=as,argTypes:=sA})(hf:P.funcs[f]?=some fn)(gP:(fn.name == "runtime.NumGoroutine")=false)(hb:fn.body.isNone=true)(hn:Extern.findNext fn=none)(he:Extern.find fn=some (Extern.Race.marked mk)){ad:Addr}(hx:(as.map a.eval)[0]?=some (.pointer (some ad))){dd:Option Tmp}(hd:op.dst=dd)(h:XB P Fin d o (G (b.at (a.put dd (.tuple #[])) (.inRegion ops rest::k)) cs) w):XB P Fin d o (G (b.at a (.inRegion ops (i::rest)::k)) cs) w:=by
 subst hd;have Vw:deafBehind d #[⟨.mark (mk ad),false,true⟩]=d:=by rcases hm ad with⟨x,e⟩|⟨x,e⟩<;>rw[e]<;>rfl
 exact XB.mark rfl (es:=#[⟨.mark (mk ad),false,true⟩]) (fun x hx=>by simp at hx;subst hx;exact⟨_,rfl⟩) Vw (fun w1=>stepG_markAt mk (fun ad g e=>by rcases hm ad with⟨x,e'⟩|⟨x,e'⟩<;>rw[e'] at e<;>cases e) ho hw hk eP hf gP hb hn he hx) h
theorem IT(ho:ops[i]?=some op)(hw:Region.wanted op (yielded ops a.tmps)=true)(hk:b.kind≠.early){v:Value}{dd:Option Tmp}(hd:op.dst=dd)(hr:∀n,(execOp a.eval op).run P (w.at n)=.ok (.value v) (w.at n))(jg:∀n,∀x∈(execOp a.eval op).events P (w.at n) #[],Zt Fin o x/\x.loc≠.mark .disable/\x.loc≠.mark .enable)(h:XB P Fin d o (G (b.at (a.put dd v) (.inRegion ops rest::k)) cs) w):XB P Fin d o (G (b.at a (.inRegion ops (i::rest)::k)) cs) w:=by
 subst hd;refine bV.step o _ w rfl fun w1 h1=>?_;obtain⟨n,rfl⟩:=h1;exact⟨_,_,_,eH ho hw hk (hr n),⟨fun x hx=>by rw[b8];exact jg n x (mem_listed hx),ag _,rfl,rfl⟩,by rw[b8];exact bV.rely _ _ _ _ h ⟨n,rfl⟩⟩
theorem x9(ho:ops[i]?=some op)(hw:Region.wanted op (yielded ops a.tmps)=true)(hk:b.kind≠.early){v:Value}{dd:Option Tmp}(hd:op.dst=dd)(hr:∀n,(execOp a.eval op).run P (w.at n)=.ok (.value v) (w.at n))(jg:∀n,∀x∈(execOp a.eval op).events P (w.at n) #[],VD o x/\x.loc≠.mark .disable/\x.loc≠.mark .enable)(h:XB P Fin d o (G (b.at (a.put dd v) (.inRegion ops rest::k)) cs) w):XB P Fin d o (G (b.at a (.inRegion ops (i::rest)::k)) cs) w :=
 IT ho hw hk hd hr (fun n x hx=>⟨(jg n x hx).1.Sj,(jg n x hx).2⟩) h
end
section
variable {P:Program} {L:Nat->Bool} {o:aM} {w:ae} {Fin:bK} {d:Nat}
def Cl(P:Program)(L:Nat->Bool)(o:aM)(v:Value):Prop:=∀f,(mF P L o).has f->val f v=v
structure iA(o:aM)(w wl:ae):Prop where
 size:wl.heap.size=w.heap.size
 heap:∀b,o b->wl.heap[b]?=w.heap[b]?
theorem iA.cell{wl:ae}(h:iA o w wl){b off:Nat}(hb:o b):wl.cell? ⟨b,off,none⟩=w.cell? ⟨b,off,none⟩:=cell_of (h.heap b hb)
theorem LQ{o':aM}(h:∀b,o b->o' b){f:Rn}(hf:(mF P L o').has f):(mF P L o).has f:=⟨hf.inj,fun r hr=>hf.at_ r (h r hr),hf.fn,hf.kp⟩
theorem Cl.up{o':aM}{v:Value}(hv:Cl P L o v)(h:∀b,o b->o' b):Cl P L o' v:=fun f hf=>hv f (LQ h hf)
theorem jk{w':ae}:∀b,o b->grow o w w' b:=fun _ h=>.inl h
theorem VG(hF:bM P L o w){w1 w' wl aV:ae}{F':jE}{v v':Value}(e1:w1.heap=w.heap)(e1o:w1.os=w.os/\w1.output=w.output)(fE:wl.heap.size=w.heap.size)(IH:WR F' aV w')(hm:fw (mF P L o) F' wl w1 aV w')(hv:∀f,F'.has f->v'=val f v)(vF:wl.os=w.os/\wl.output=w.output):
  v'=v/\lH P L o w w' aV v/\(∀r,F'.K r↔grow o w w' r)/\(∀r,F'.K r->F'.φ r=r):=by
 have Zw:wl.heap.size=w1.heap.size:=by rw[e1];exact fE
 have oz:=hm.same Zw;have NA:∀r,F'.K r->F'.φ r=r:=fun r hr=>by
  rcases oz.2 r hr with h1|h1
  ·exact(hm.φ r h1)
  ·exact h1
 have D9:w.heap.size<=w'.heap.size:=by rw[<- e1];exact hm.size
 have hK:F'.K=grow o w w':=by
  funext r;simp only[grow,eq_iff_iff];constructor
  ·intro hr;rcases hm.wz r hr with h1|h1
   ·exact .inl h1
   ·refine .inr ⟨by rw[<- fE];exact h1.1,?_⟩;have:=IH.here r hr;rw[<- oz.1];exact this
  ·rintro(h1|h1)
   ·exact hm.K r h1
   ·obtain⟨r',a,b⟩:=hm.mine r (by rw[e1];exact h1.1) h1.2;rw[NA r' a] at b;exact b▸a
 have hG:F'.G=P.globals.size:=hm.G;have hLL:F'.L=fun n=>L n=true:=hm.L;have Cr:∀f,(mF P L (grow o w w')).has f->F'.has f:=fun f hf=>⟨hf.inj,fun r hr=>by rw[NA r hr];exact hf.at_ r (hK▸hr),fun n hn=>hf.fn n (by rw[hLL] at hn;exact hn),by rw[hG];exact hf.kp⟩;have hid:=Cr Bf Nz;have xl:v'=v:=(hv Bf hid).trans (Bg v);have Cs:∀b,grow o w w' b->w'.heap[b]?=aV.heap[b]?:=fun b hb=>by
  have nn:F'.K b:=hK▸hb;have:=IH.tJ b nn Bf hid;rw[NA b nn] at this;rw[this];cases aV.heap[b]?<;>simp[Ny]
 refine⟨xl,⟨⟨fun b hb=>?_,fun b hb=>.inl (hF.kp b hb),aW hF.size D9⟩,Cs,fun b h1 h2=>?_,oz.1.symm,D9,fun f hf=>by rw[<- hv f (Cr f hf)];exact xl,?_,?_⟩,fun r=>by rw[hK],NA⟩
 ·have nn:F'.K b:=hK▸hb;have cy:=IH.here b nn;refine⟨aV.heap[b],by rw[Cs b hb];exact aN cy,IH.QU b nn _ (aN cy),fun f hf=>?_⟩;have:=IH.tJ b nn f (Cr f hf);rw[NA b nn,Cs b hb,aN cy,aJ] at this;exact(aQ this).symm
 ·rw[<- e1];refine hm.rest b fun r hr e=>?_;rw[NA r hr] at e;subst e;have:grow o w w' r:=hK▸hr;rcases this with h3|h3
  ·exact h2 h3
  ·omega
 ·rw[IH.os,hm.Rg,vF.1]
 ·rw[IH.output,hm.Bv,vF.2]
theorem Cl.func(hF:bM P L o w){g:Fn}{a b:Array Value}(h:Cl P L o (.func g a b)):∃n,g=.func n/\L n=true:=by
 obtain⟨N,hN⟩:=Cq o;obtain⟨f1,f2,h1,h2,_,hL,hty,hm⟩:=(hF.wr hN).two;have e:=(h f1 h1).trans (h f2 h2).symm;simp only[val,Value.func.injEq] at e;have e:=e.1;cases g with
 |func n =>
  refine⟨n,rfl,aZ fun hn=>?_⟩;simp only[tG,Fn.func.injEq] at e;exact hL n (fun x=>hn x) e
 |via t p n q=>simp only[tG,Fn.via.injEq] at e;exact absurd e.1 (hty t)
 |method s=>simp only[tG,Fn.method.injEq] at e;exact absurd e (hm s)
 |methodOf t s=>simp only[tG,Fn.methodOf.injEq] at e;exact absurd e.2 (hm s)
 |yield l=>simp only[tG,Fn.yield.injEq] at e;exact absurd e (hty l)
theorem Gw(db:rL P L P.globals.size)(hF:bM P L o w){ρ:Operand->Value}{op:Oper}(je:tw L op.op=true)(fu:∀x∈op.op.operands,Cl P L o (ρ x)){R:ae->Next->ae->Prop}(cJ:∀wl,iA o w wl->∃x aV,(execOp ρ op).run P wl=.ok x aV/\R wl x aV)(n:Nat):
  ∃wl x aV w',iA o w wl/\R wl x aV/\(∀e∈(execOp ρ op).events P (w.at n) #[],VD (grow o w w') e/\e.loc≠.mark .disable/\e.loc≠.mark .enable) /\
   ((∃v,x=.value v/\(execOp ρ op).run P (w.at n)=.ok (.value v) w'/\lH P L o w w' aV v)\/(x=.skip/\(execOp ρ op).run P (w.at n)=.ok .skip w'/\lH P L o w w' aV undef)\/(∃f as,x=.enter f as)):=by
 obtain⟨N,hN⟩:=Cq o;have lv:bM P L o (w.at n):=hF.of_heap rfl;have hW:=lv.wr hN;have KN:PF P L P.globals.size (mF P L o):=⟨fun r hr=>⟨hF.kp r hr,rfl⟩,rfl,rfl,Gv hF.kp⟩;have aT:iA o w (iU N (w.at n)):=⟨kX _ _,fun b hb=>lR N (w.at n) ((hN b).2 hb)⟩;obtain⟨x,aV,e1,hR⟩:=cJ _ aT;have hrel:∀f,(mF P L o).has f->Rel P f (jh L f) (execOp ρ op) (execOp ρ op):=fun f hf =>
  BQ (KN.ok db hf) (KN.fn hf) (fun m hm as=>db.call m hm f (KN.ok db hf) (KN.fn hf) as) op je (fun y hy=>(fu y hy f hf).symm) (fun y hy g a b e=>by
   have:=fu y hy;rw[e] at this;exact this.func hF)
 have hc:=xq (jh L) _ _ (mF P L o) (iU N (w.at n)) (w.at n) #[] #[] hrel hW;rw[show((execOp ρ op).runT P (iU N (w.at n)) #[]).1=(execOp ρ op).run P (iU N (w.at n)) by rw[Sem.runT_eq],e1] at hc;obtain⟨F',b,w',YO,k1,k2,k3,k4,k5,k6⟩:=hc;have X1:(execOp ρ op).run P (w.at n)=.ok b w':=by rw[Sem.runT_eq] at k1;exact congrArg Prod.fst k1
 have Li:(execOp ρ op).events P (w.at n) #[]=YO:=by rw[Sem.runT_eq] at k1;exact congrArg Prod.snd k1
 have Sr:∀{v v':Value},(∀f,F'.has f->v'=val f v)->v'=v/\lH P L o w w' aV v/\(∀r,F'.K r↔grow o w w' r)/\(∀r,F'.K r->F'.φ r=r):=fun hv=>VG (w1:=w.at n) hF rfl ⟨rfl,rfl⟩ aT.size k3 k4 hv ⟨rfl,rfl⟩;obtain⟨f0,kI⟩:=k3.some;obtain⟨-,-,hKg,NA⟩:=Sr (v:=undef) (v':=undef) (fun f _=>(lz f).symm);refine⟨_,x,aV,w',aT,hR,fun e he=>?_,?_⟩
 ·obtain⟨new,e2,e3⟩:=k5;rw[Li,e2] at he;have rN:=e3 e (by simpa using he);obtain⟨loc,wt,sy⟩:=e;cases loc with
  |cell ad =>
   obtain⟨r,h1,h2⟩:=rN;rw[NA r h1] at h2;refine⟨Bh ?_,aj,aj⟩;rw[<- h2];exact(hKg r).1 h1
  |obj r=>exact⟨NC,aj,aj⟩
  |output =>
   refine⟨fun y hy c hl hk=>?_,aj,aj⟩;simp only[MemAct.ofEvent,MemAct.touch?,ay] at hy;subst hy;cases hl
  |goroutines =>
   refine⟨fun y hy c hl hk=>?_,aj,aj⟩;simp only[MemAct.ofEvent,MemAct.touch?,ay] at hy;subst hy;cases hl
  |mark m =>
   have hd:K0 m=true:=rN;cases m<;>first|exact Bool.noConfusion hd|(refine⟨fun y hy c hl hk=>?_,aj,aj⟩;simp only[MemAct.ofEvent,MemAct.touch?] at hy;cases hy)
 ·have k2':=k2 f0 kI;cases x with
  |value v =>
   cases b<;>first|exact k2'.elim|skip
   rename_i v';obtain⟨rfl,hb,-⟩:=Sr (v:=v) (v':=v') (fun f hf=>k2 f hf);exact .inl ⟨_,rfl,X1,hb⟩
  |skip =>
   cases b<;>first|exact k2'.elim|skip
   obtain⟨-,hb,-⟩:=Sr (v:=undef) (v':=undef) (fun f _=>(lz f).symm);exact .inr (.inl ⟨rfl,X1,hb⟩)
  |enter f as=>exact .inr (.inr ⟨f,as,rfl⟩)
  |_=>exact k2'.elim
section
variable {fn:FuncId} {Q:Exit->Act->aM->ae->Prop} {a:Act} {ops:Array Oper} {i:Nat} {rest:List Nat} {op:Oper}
end
end
section
variable {P:Program} {main:Bool} {b:Frame} {a:Act} {k:List Item} {cs:List Frame} {w:ae}
def mO(w:ae)(fn:FuncId)(tmps:Array Value)(ps:Array Tmp)(as bd:Code):ae :=
 (w.alloc (.deferred (some []))).alloc (.loop {state:=.ready,pending:=none,fn,tmps,params:=ps,assign:=as,body:=bd,defers:=w.heap.size})
theorem AV{x:Operand}{ps:Array Tmp}{as bd:Code}{g:FuncId}{gc:Func}{c:Code}{cap:Array Value}(rT:b.roundOf=none)(hk:b.kind≠.early)(hm:b.mode=.run)(hx:a.eval x=.func (.func g) #[] cap)(hg:P.funcs[g]?=some gc)(gP:(gc.name == "runtime.NumGoroutine")=false)(hb:gc.body=some c):
  stepG P main (G (b.at a (.code (.rangeFunc x ps as bd)::k)) cs) w =
   .go (G (Frame.enter P g (#[.func (.yield (w.heap.size+1)) #[] #[]]++cap) .normal) (b.at ⟨a.tmps,{target:=.collected w.heap.size,args:=#[]}::a.defers⟩ (.inRangeFunc (w.heap.size+1)::k)::cs)) (mO w b.fn a.tmps ps as bd) #[]:=by
 have lP:(b.kind==CallKind.early)=false:=by simpa using hk
 have hec:∀(fr:Frame) (v:Value),fr.eval (.const v)=v:=fun _ _=>rfl;have Zx:¬gc.name= "runtime.NumGoroutine":=by simpa using gP
 have mf:∀fr:Frame,fr.tmps=a.tmps->fr.eval x=.func (.func g) #[] cap:=fun fr h=>by
  rw[<- hx];cases x<;>simp[Frame.eval,Act.eval,h]
 simp[G,Frame.at,stepG,stepG.exec,rT,Instr.enterLoop,Sem.runT_eq,go_sem,seen_none,GStep.after,stepG.apply,resolve,Deferred.ofValue,invoke,callFunc,hg,hb,mO,mf,hec,Zx,lP]
def dC(w:ae)(l:Nat)(r:Loop):ae:={w with heap:=w.heap.setIfInBounds l (.loop r)}
theorem kg{l:Nat}{r:Loop}(h:w.heap[l]?=some (.loop r)):(Instr.getLoop l).run P w=.ok r w:=by
 simp[Instr.getLoop,getObj,Sem.run,h,go_sem]
theorem pn{l:Nat}{x:Obj}(h:w.heap[l]?=some x)(hx:∀c t z,x≠.cells c t z):(getObj l).run P w=.ok x w:=by
 cases x<;>simp_all[getObj,Sem.run]
theorem qj{l:Nat}{x:Obj}(h:w.heap[l]?=some x)(hx:∀c t z,x≠.cells c t z)(es:Array Event):(getObj l).events P w es=es.push ⟨.obj l,false,x.isChan⟩:=by
 cases x<;>simp_all[getObj,Sem.events,Sem.runT,-Sem.runT_eq]
theorem gC{l:Nat}{x:Obj}(o:Obj)(h:w.heap[l]?=some x)(hx:∀c t z,x≠.cells c t z):(setObj l o).run P w=.ok () {w with heap:=w.heap.setIfInBounds l o}:=by
 cases x<;>simp_all[setObj,Sem.run]
theorem kB{l:Nat}{x:Obj}(o:Obj)(h:w.heap[l]?=some x)(hx:∀c t z,x≠.cells c t z)(es:Array Event):(setObj l o).events P w es=es.push ⟨.obj l,true,o.isChan⟩:=by
 cases x<;>simp_all[setObj,Sem.events,Sem.runT,-Sem.runT_eq]
theorem mP{l:Nat}{r:Loop}(h:w.heap[l]?=some (.loop r))(es:Array Event):(Instr.getLoop l).events P w es=es.push ⟨.obj l,false,false⟩:=by
 simp[Instr.getLoop,qj h aj,pn h aj,Obj.isChan,Result.evThen]
theorem IU{ops:Array Oper}{i:Nat}{rest:List Nat}{o:Oper}{x y:Operand}{sA:Array TypeId}{l:Nat}{r:Loop}{v:Value}{t:Tmp}(ho:ops[i]?=some o)(hw:Region.wanted o (yielded ops a.tmps)=true)(hk:b.kind≠.early)(eP:o.op=.call {callee:=.value x,args:=#[y],argTypes:=sA})(hx:a.eval x=.func (.yield l) #[] #[])(hy:a.eval y=v)(hl:w.heap[l]?=some (.loop r))(hp:r.params=#[t]):
  ∃es,stepG P main (G (b.at a (.inRegion ops (i::rest)::k)) cs) w=.go (G (Frame.round l r.fn (r.tmps.setIfInBounds t v) r.assign r.body .normal) (b.at a (.inRegion ops (i::rest)::k)::cs)) w es/\∀e∈es,∃wt sy,e=⟨.obj l,wt,sy⟩:=by
 have lP:(b.kind==CallKind.early)=false:=by simpa using hk
 have hr:∀ρ:Operand->Value,ρ x=.func (.yield l) #[] #[]->ρ y=v->(execOp ρ o).run P w=.ok (.round l r.fn (r.tmps.setIfInBounds t v) r.assign r.body) w:=fun ρ h1 h2=>by
  unfold execOp;simp[eP,resolve,Deferred.ofValue,h1,h2,invoke,Instr.yield,kg hl,hp,Result.andThen]
 have he:∀ρ:Operand->Value,ρ x=.func (.yield l) #[] #[]->ρ y=v->(execOp ρ o).events P w #[]=#[⟨.obj l,false,false⟩]:=fun ρ h1 h2=>by
  unfold execOp;simp[eP,resolve,Deferred.ofValue,h1,h2,invoke,Instr.yield,kg hl,mP hl,hp,Result.evThen]
 refine⟨listed P b.fn a o w,?_,fun e VH=>?_⟩
 ·rw[stepG_oper ho hw];simp[stepG.apply,hr _ hx hy,G,Frame.at,lP,GStep.after,listed]
 ·have:=mem_listed VH;rw[he _ hx hy] at this;simp at this;exact⟨_,_,this⟩
theorem zt{l:Nat}{r:Loop}{tm:Array Value}{fn:FuncId}(hl:w.heap[l]?=some (.loop r))(hs:r.state=.ready):
  ∃es,stepG P main (G {(base fn).at ⟨tm,[]⟩ (.beginRound::k) with roundOf:=some l} cs) w=.go (G {(base fn).at ⟨tm,[]⟩ k with roundOf:=some l} cs) (dC w l {r with state:=.busy}) es/\∀e∈es,∃wt sy,e=⟨.obj l,wt,sy⟩:=by
 have hr:(Instr.beginRound l).run P w=.ok () (dC w l {r with state:=.busy}):=by
  simp[Instr.beginRound,kg hl,hs,gC _ hl,Result.andThen,dC]
 have he:(Instr.beginRound l).events P w #[]=#[⟨.obj l,false,false⟩,⟨.obj l,true,false⟩]:=by
  simp[Instr.beginRound,kg hl,mP hl,hs,gC _ hl,kB _ hl,Result.evThen,Obj.isChan]
 refine⟨seen P fn #[⟨.obj l,false,false⟩,⟨.obj l,true,false⟩],?_,fun e VH=>?_⟩
 ·simp[G,Frame.at,stepG,stepG.exec,stepG.apply,Sem.runT_eq,hr,he,GStep.after,base,Frame.finish,Result.andThen,Result.evThen]
 ·have:=mem_seen VH;simp at this;rcases this with rfl|rfl<;>exact⟨_,_,rfl⟩
theorem Cv{l:Nat}{r:Loop}{tm:Array Value}{fn:FuncId}{c:Frame}(hl:w.heap[l]?=some (.loop r)):
  ∃es,stepG P main (G {(base fn).at ⟨tm,[]⟩ [] with roundOf:=some l} (c::cs)) w=.go (G (c.finish (.bool true)) cs) (dC w l {r with state:=.ready,pending:=none}) es/\∀e∈es,∃wt sy,e=⟨.obj l,wt,sy⟩:=by
 have hr:(Instr.endRound l none).run P w=.ok (.bool true) (dC w l {r with state:=.ready,pending:=none}):=by
  simp[Instr.endRound,kg hl,gC _ hl,Result.andThen,dC]
 have he:(Instr.endRound l none).events P w #[]=#[⟨.obj l,false,false⟩,⟨.obj l,true,false⟩]:=by
  simp[Instr.endRound,kg hl,mP hl,gC _ hl,kB _ hl,Result.evThen,Obj.isChan]
 refine⟨seen P fn #[⟨.obj l,false,false⟩,⟨.obj l,true,false⟩],?_,fun e VH=>?_⟩
 ·simp[G,Frame.at,stepG,stepG.exec,Sem.runT_eq,hr,he,GStep.after,base,doReturn]
 ·have:=mem_seen VH;simp at this;rcases this with rfl|rfl<;>exact⟨_,_,rfl⟩
theorem Ea{l:Nat}{r:Loop}(hl:w.heap[l]?=some (.loop r))(hs:r.state=.ready)(hp:r.pending=none)(rT:b.mode=.run):
  ∃es,stepG P main (G (b.at a (.endRangeFunc l::k)) cs) w=.go (G (b.at a k) cs) (dC w l {r with state:=.exhausted}) es/\∀e∈es,∃wt sy,e=⟨.obj l,wt,sy⟩:=by
 have hr:(Instr.endLoop l).run P w=.ok none (dC w l {r with state:=.exhausted}):=by
  simp[Instr.endLoop,kg hl,gC _ hl,hs,hp,Result.andThen,dC]
 have he:(Instr.endLoop l).events P w #[]=#[⟨.obj l,false,false⟩,⟨.obj l,true,false⟩]:=by
  simp[Instr.endLoop,kg hl,mP hl,gC _ hl,kB _ hl,hs,hp,Result.evThen,Obj.isChan]
 refine⟨seen P b.fn #[⟨.obj l,false,false⟩,⟨.obj l,true,false⟩],?_,fun e VH=>?_⟩
 ·simp[G,Frame.at,stepG,stepG.exec,Sem.runT_eq,hr,he,GStep.after]
 ·have:=mem_seen VH;simp at this;rcases this with rfl|rfl<;>exact⟨_,_,rfl⟩
theorem AW{r:Nat}{ds:List Deferred}{todo:List Item}(hd:a.defers={target:=.collected r,args:=#[]}::ds)(hl:w.heap[r]?=some (.deferred (some []))):
  ∃es,stepG P main (G {b.at a todo with mode:=.returning} cs) w=.go (G {b.at ⟨a.tmps,ds⟩ todo with mode:=.returning} cs) {w with heap:=w.heap.setIfInBounds r (.deferred none)} es/\∀e∈es,∃wt sy,e=⟨.obj r,wt,sy⟩:=by
 have hr:(Instr.takeDeferred r).run P w=.ok [] {w with heap:=w.heap.setIfInBounds r (.deferred none)}:=by
  simp[Instr.takeDeferred,pn hl,gC _ hl,Result.andThen]
 have he:(Instr.takeDeferred r).events P w #[]=#[⟨.obj r,false,false⟩,⟨.obj r,true,false⟩]:=by
  simp[Instr.takeDeferred,pn hl,qj hl,gC _ hl,kB _ hl,Result.evThen,Obj.isChan]
 refine⟨seen P b.fn #[⟨.obj r,false,false⟩,⟨.obj r,true,false⟩],?_,fun e VH=>?_⟩
 ·simp[G,Frame.at,stepG,unwind,hd,Sem.runT_eq,hr,he,GStep.after]
 ·have:=mem_seen VH;simp at this;rcases this with rfl|rfl<;>exact⟨_,_,rfl⟩
end
section
variable {P:Program} {L:Nat->Bool} {o:aM} {w:ae} {Fin:bK} {d:Nat} {b:Frame} {a:Act} {k:List Item} {cs:List Frame} {ops:Array Oper} {i:Nat} {rest:List Nat} {op:Oper}
section
variable {fn:FuncId} {g:aX} {g':Value->aX} {gk:aX}
theorem Bi(db:rL P L P.globals.size)(hF:bM P L o w)(hs:g.status=.running)(kP:∀w1 v w',(execOp a.eval op).run P w1=.ok (.value v) w'->stepG P true g w1=.go (g' v) w' (listed P fn a op w1))(je:tw L op.op=true)(fu:∀x∈op.op.operands,Cl P L o (a.eval x)){R:ae->Value->ae->Prop}(cJ:∀wl,iA o w wl->∃v aV,(execOp a.eval op).run P wl=.ok (.value v) aV/\R wl v aV)(h:∀wl v aV w',iA o w wl->R wl v aV->lH P L o w w' aV v->XB P Fin d (grow o w w') (g' v) w'):XB P Fin d o g w:=by
 refine bV.step o _ w hs fun w1 ly=>?_;obtain⟨n,rfl⟩:=ly;obtain⟨wl,x,aV,w',aT,⟨v,rfl,hR⟩,jg,fX⟩:=Gw db hF je fu (R:=fun wl x aV=>∃v,x=.value v/\R wl v aV) (fun wl aT=>by
  obtain⟨v,aV,e1,e2⟩:=cJ wl aT;exact⟨_,aV,e1,v,rfl,e2⟩) n
 rcases fX with⟨v',xl,hr,hb⟩|⟨xl,_⟩|⟨f,as,xl⟩
 ·cases xl;exact⟨_,_,_,kP _ _ _ hr,⟨fun e he=>⟨(jg e (mem_listed he)).1.Sj,(jg e (mem_listed he)).2⟩,hb.jj,hb.os,hb.output⟩,h wl v aV w' aT hR hb⟩
 ·cases xl
 ·cases xl
theorem zu(db:rL P L P.globals.size)(hF:bM P L o w)(hs:g.status=.running)(kP:∀w1 v w',(execOp a.eval op).run P w1=.ok (.value v) w'->stepG P true g w1=.go (g' v) w' (listed P fn a op w1))(je:tw L op.op=true)(fu:∀x∈op.op.operands,Cl P L o (a.eval x)){v:Value}(cJ:∀wl,iA o w wl->(execOp a.eval op).run P wl=.ok (.value v) wl)(h:Cl P L o v->XB P Fin d o (g' v) w):XB P Fin d o g w:=by
 refine bV.step o _ w hs fun w1 ly=>?_;obtain⟨n,rfl⟩:=ly;obtain⟨wl,x,aV,w',aT,⟨rfl,rfl⟩,jg,fX⟩:=Gw db hF je fu (R:=fun wl x aV=>x=.value v/\aV=wl) (fun wl aT=>⟨_,wl,cJ wl aT,rfl,rfl⟩) n;rcases fX with⟨v',xl,hr,hb⟩|⟨xl,_⟩|⟨f,as,xl⟩
 ·cases xl;have hr0:=cJ (w.at n) ⟨rfl,fun _ _=>rfl⟩;rw[hr] at hr0;cases hr0;have fu:Cl P L o v:=by have:=hb.val;rw[show grow o w (w.at n)=o from kH o rfl] at this;exact this
  exact⟨_,_,_,kP _ _ _ hr,⟨fun e he=>⟨(jg e (mem_listed he)).1.Sj,(jg e (mem_listed he)).2⟩,ag _,rfl,rfl⟩,by rw[b8];exact bV.rely _ _ _ _ (h fu) ⟨n,rfl⟩⟩
 ·cases xl
 ·cases xl
theorem Cw(db:rL P L P.globals.size)(hF:bM P L o w)(hs:g.status=.running)(kP:∀w1 w',(execOp a.eval op).run P w1=.ok .skip w'->stepG P true g w1=.go gk w' (listed P fn a op w1))(je:tw L op.op=true)(fu:∀x∈op.op.operands,Cl P L o (a.eval x)){R:ae->ae->Prop}(cJ:∀wl,iA o w wl->∃aV,(execOp a.eval op).run P wl=.ok .skip aV/\R wl aV)(h:∀wl aV w',iA o w wl->R wl aV->lH P L o w w' aV undef->XB P Fin d (grow o w w') gk w'):XB P Fin d o g w:=by
 refine bV.step o _ w hs fun w1 ly=>?_;obtain⟨n,rfl⟩:=ly;obtain⟨wl,x,aV,w',aT,⟨rfl,hR⟩,jg,fX⟩:=Gw db hF je fu (R:=fun wl x aV=>x=.skip/\R wl aV) (fun wl aT=>by
  obtain⟨aV,e1,e2⟩:=cJ wl aT;exact⟨_,aV,e1,rfl,e2⟩) n
 rcases fX with⟨v',xl,_⟩|⟨_,hr,hb⟩|⟨f,as,xl⟩
 ·cases xl
 ·exact⟨_,_,_,kP _ _ hr,⟨fun e he=>⟨(jg e (mem_listed he)).1.Sj,(jg e (mem_listed he)).2⟩,hb.jj,hb.os,hb.output⟩,h wl aV w' aT hR hb⟩
 ·cases xl
end
theorem Cx(db:rL P L P.globals.size)(hF:bM P L o w)(ho:ops[i]?=some op)(hw:Region.wanted op (yielded ops a.tmps)=true)(hk:b.kind≠.early)(je:tw L op.op=true)(fu:∀x∈op.op.operands,Cl P L o (a.eval x)){dd:Option Tmp}(hd:op.dst=dd){R:ae->Value->ae->Prop}(cJ:∀wl,iA o w wl->∃v aV,(execOp a.eval op).run P wl=.ok (.value v) aV/\R wl v aV)(h:∀wl v aV w',iA o w wl->R wl v aV->lH P L o w w' aV v->XB P Fin d (grow o w w') (G (b.at (a.put dd v) (.inRegion ops rest::k)) cs) w'):XB P Fin d o (G (b.at a (.inRegion ops (i::rest)::k)) cs) w :=
 Bi (g':=fun v=>G (b.at (a.put dd v) (.inRegion ops rest::k)) cs) db hF rfl (fun w1 v w' hr=>by subst hd;exact eH ho hw hk hr) je fu cJ h
theorem mQ(db:rL P L P.globals.size)(hF:bM P L o w)(ho:ops[i]?=some op)(hw:Region.wanted op (yielded ops a.tmps)=true)(hk:b.kind≠.early)(je:tw L op.op=true)(fu:∀x∈op.op.operands,Cl P L o (a.eval x)){dd:Option Tmp}(hd:op.dst=dd){v:Value}(cJ:∀wl,iA o w wl->(execOp a.eval op).run P wl=.ok (.value v) wl)(h:Cl P L o v->XB P Fin d o (G (b.at (a.put dd v) (.inRegion ops rest::k)) cs) w):XB P Fin d o (G (b.at a (.inRegion ops (i::rest)::k)) cs) w :=
 zu (g':=fun v=>G (b.at (a.put dd v) (.inRegion ops rest::k)) cs) db hF rfl (fun w1 v w' hr=>by subst hd;exact eH ho hw hk hr) je fu cJ h
theorem Aq(db:rL P L P.globals.size)(hF:bM P L o w)(ho:ops[i]?=some op)(hw:Region.wanted op (yielded ops a.tmps)=true)(hk:b.kind≠.early)(je:tw L op.op=true)(fu:∀x∈op.op.operands,Cl P L o (a.eval x)){dd:Option Tmp}(hd:op.dst=dd){R:ae->ae->Prop}(cJ:∀wl,iA o w wl->∃aV,(execOp a.eval op).run P wl=.ok .skip aV/\R wl aV)(h:∀wl aV w',iA o w wl->R wl aV->lH P L o w w' aV undef->XB P Fin d (grow o w w') (G (b.at (a.put dd undef) (.inRegion ops rest::k)) cs) w'):XB P Fin d o (G (b.at a (.inRegion ops (i::rest)::k)) cs) w :=
 Cw (gk:=G (b.at (a.put dd undef) (.inRegion ops rest::k)) cs) db hF rfl (fun w1 w' hr=>by subst hd;exact jN ho hw hk hr) je fu cJ h
theorem lH.alloc{wl aV w':ae}{v:Value}(h:lH P L o w w' aV v)(hF:bM P L o w)(ha:iA o w wl){x:Obj}(e:aV=wl.alloc x):w'.heap.size=w.heap.size+1/\(∀b,b<w.heap.size->w'.heap[b]?=w.heap[b]?)/\w'.heap[w.heap.size]?=some x:=by
 have hs:aV.heap.size=w.heap.size+1:=by rw[e];simp[ha.size]
 refine⟨by rw[h.size,hs],fun b hb=>?_,?_⟩
 ·by_cases ho:o b
  ·rw[h.same b (.inl ho),e,RowKit.Below.heap_alloc wl x b (by rw[ha.size];exact hb),ha.heap b ho]
  ·exact h.rest b hb ho
 ·rw[h.same _ (.inr ⟨ag _,by rw[h.size,hs];omega⟩),e];show(wl.heap.push x)[w.heap.size]?=_;rw[<- ha.size];simp
theorem lH.store{wl aV w':ae}{v:Value}(h:lH P L o w w' aV v)(ha:iA o w wl){A:Nat}(hA:o A)(hs:aV.heap.size=wl.heap.size)(hh:∀b,b≠A->aV.heap[b]?=wl.heap[b]?):w'.heap.size=w.heap.size/\(∀b,b≠A->w'.heap[b]?=w.heap[b]?)/\w'.heap[A]?=aV.heap[A]?/\grow o w w'=o:=by
 have hz:w'.heap.size=w.heap.size:=by rw[h.size,hs,ha.size]
 refine⟨hz,fun b hb=>?_,h.same A (.inl hA),kH o hz⟩;by_cases cy:b<w.heap.size
 ·by_cases ho:o b
  ·rw[h.same b (.inl ho),hh b hb,ha.heap b ho]
  ·exact h.rest b cy ho
 ·rw[cG aa,cG aa]
def atR(f:FuncId)(l:Nat)(tm:Array Value)(k:List Item):Frame:={(base f).at ⟨tm,[]⟩ k with roundOf:=some l}
theorem round_eq(f:FuncId)(l:Nat)(tm:Array Value)(Pw bd:Code):Frame.round l f tm Pw bd .normal=atR f l tm [.code Pw,.beginRound,.code bd]:=rfl
section
variable {f:FuncId} {l:Nat} {tm:Array Value} {main:Bool}
theorem ya{id:Nat}{ops:Array Oper}:stepG P main (G (atR f l tm (.code (.region id ops false)::k)) cs) w=.go (G (atR f l tm (.inRegion ops (List.range ops.size)::k)) cs) w #[]:=by simp[G,stepG,stepG.exec,Frame.at,atR]
theorem rW{ops:Array Oper}:stepG P main (G (atR f l tm (.inRegion ops []::k)) cs) w=.go (G (atR f l tm k) cs) w #[]:=by simp[G,stepG,stepG.exec,Frame.at,atR]
theorem IV{id:Nat}{c:Code}:stepG P main (G (atR f l tm (.code (.block id c)::k)) cs) w=.go (G (atR f l tm (.code c :: .inBlock id::k)) cs) w #[]:=by simp[G,stepG,stepG.exec,Frame.at,atR]
theorem Eb{id:Nat}:stepG P main (G (atR f l tm (.inBlock id::k)) cs) w=.go (G (atR f l tm k) cs) w #[]:=by simp[G,stepG,stepG.exec,Frame.at,atR]
theorem oG{ops:Array Oper}{i:Nat}{rest:List Nat}{o:Oper}{v:Value}{w':ae}(ho:ops[i]?=some o)(hw:Region.wanted o (yielded ops tm)=true)(vc:∀c,o.op≠.defer c)(hr:(execOp (Act.eval ⟨tm,[]⟩) o).run P w=.ok (.value v) w'){dd:Option Tmp}(hd:o.dst=dd):
  stepG P main (G (atR f l tm (.inRegion ops (i::rest)::k)) cs) w=.go (G (atR f l (Act.put ⟨tm,[]⟩ dd v).tmps (.inRegion ops rest::k)) cs) w' (listed P f ⟨tm,[]⟩ o w):=by
 subst hd;have he:(atR f l tm (.inRegion ops (i::rest)::k)).eval=Act.eval ⟨tm,[]⟩:=by funext x;cases x<;>rfl
 have BY:(atR f l tm (.inRegion ops (i::rest)::k)).finish v=atR f l (Act.put ⟨tm,[]⟩ o.dst v).tmps (.inRegion ops rest::k):=by
  simp only[Frame.finish,atR,Frame.at,ho,Option.bind_some];cases o.dst<;>rfl
 have Ss:stepG P main (G (atR f l tm (.inRegion ops (i::rest)::k)) cs) w=stepG.apply P true (atR f l tm (.inRegion ops (i::rest)::k)) cs none (execOp (Act.eval ⟨tm,[]⟩) o) w:=by
  have h1:(atR f l tm (.inRegion ops (i::rest)::k)).oper?=some o:=by simp[Frame.oper?,atR,Frame.at,ho]
  have h2:stepG P main (G (atR f l tm (.inRegion ops (i::rest)::k)) cs) w=stepG.oper P true (atR f l tm (.inRegion ops (i::rest)::k)) cs none w:=by
   simp[G,stepG,stepG.exec,Frame.at,atR,ho,hw]
  rw[h2];simp only[stepG.oper,h1,he];split
  ·rename_i eP;exact absurd eP (vc _)
  ·rfl
 rw[Ss,<- BY];simp[stepG.apply,hr,G,GStep.after,listed,atR,Frame.at,base]
theorem Cy{ops:Array Oper}{i:Nat}{rest:List Nat}{o:Oper}{w':ae}(ho:ops[i]?=some o)(hw:Region.wanted o (yielded ops tm)=true)(vc:∀c,o.op≠.defer c)(hr:(execOp (Act.eval ⟨tm,[]⟩) o).run P w=.ok .skip w'){dd:Option Tmp}(hd:o.dst=dd):
  stepG P main (G (atR f l tm (.inRegion ops (i::rest)::k)) cs) w=.go (G (atR f l (Act.put ⟨tm,[]⟩ dd undef).tmps (.inRegion ops rest::k)) cs) w' (listed P f ⟨tm,[]⟩ o w):=by
 subst hd;have he:(atR f l tm (.inRegion ops (i::rest)::k)).eval=Act.eval ⟨tm,[]⟩:=by funext x;cases x<;>rfl
 have BY:(atR f l tm (.inRegion ops (i::rest)::k)).finish undef=atR f l (Act.put ⟨tm,[]⟩ o.dst undef).tmps (.inRegion ops rest::k):=by
  simp only[Frame.finish,atR,Frame.at,ho,Option.bind_some];cases o.dst<;>rfl
 have Ss:stepG P main (G (atR f l tm (.inRegion ops (i::rest)::k)) cs) w=stepG.apply P true (atR f l tm (.inRegion ops (i::rest)::k)) cs none (execOp (Act.eval ⟨tm,[]⟩) o) w:=by
  have h1:(atR f l tm (.inRegion ops (i::rest)::k)).oper?=some o:=by simp[Frame.oper?,atR,Frame.at,ho]
  have h2:stepG P main (G (atR f l tm (.inRegion ops (i::rest)::k)) cs) w=stepG.oper P true (atR f l tm (.inRegion ops (i::rest)::k)) cs none w:=by
   simp[G,stepG,stepG.exec,Frame.at,atR,ho,hw]
  rw[h2];simp only[stepG.oper,h1,he];split
  ·rename_i eP;exact absurd eP (vc _)
  ·rfl
 rw[Ss,<- BY];simp[stepG.apply,hr,G,GStep.after,listed,atR,Frame.at,base]
end
theorem rX{g g':aX}{t:ae->ae}{l:Nat}(hs:g.status=.running)(h:∀n,∃es,stepG P true g (w.at n)=.go g' ((t w).at n) es/\∀e∈es,∃wt sy,e=⟨.obj l,wt,sy⟩)(fE:(t w).heap.size=w.heap.size)(hx:XB P Fin d o g' (t w))(RE:(t w).os=w.os/\(t w).output=w.output:=by exact⟨rfl,rfl⟩):XB P Fin d o g w:=by
 refine bV.step o _ w hs fun w1 ly=>?_;obtain⟨n,rfl⟩:=ly;obtain⟨es,e1,e2⟩:=h n;refine⟨_,_,_,e1,⟨fun e he=>?_,bG fE.symm,RE⟩,?_⟩
 ·obtain⟨wt,sy,rfl⟩:=e2 e he;exact⟨NC,aj,aj⟩
 ·rw[kH o (show((t w).at n).heap.size=(w.at n).heap.size from fE)];exact bV.rely _ _ _ _ hx ⟨n,rfl⟩
theorem pK(h:bM P L o w){l:Nat}{x:Obj}(hx:fi x=false)(hc:∀f,obj f x=x)(hl:o l):bM P L o {w with heap:=w.heap.setIfInBounds l x}:=by
 refine⟨fun b hb=>?_,h.kp,by simpa using h.size⟩;by_cases e:l=b
 ·subst e;exact⟨x,by rw[b7 (h.lt hl)],hx,fun f _=>hc f⟩
 ·obtain⟨y,k1,k2,k3⟩:=h.shut b hb;exact⟨y,by rw[aS e];exact k1,k2,k3⟩
theorem bM.alloc(h:bM P L o w){x:Obj}(hx:fi x=false)(hc:∀f,(mF P L o).has f->obj f x=x):bM P L (fun b=>o b\/b=w.heap.size) (w.alloc x):=by
 refine⟨fun b hb=>?_,fun b hb=>.inl (h.kp b hb),by have:=h.size;simp;omega⟩;rcases hb with hb|rfl
 ·obtain⟨y,k1,k2,k3⟩:=h.shut b hb;exact⟨y,by rw[RowKit.Below.heap_alloc w x b (h.lt hb)];exact k1,k2,fun f hf=>k3 f (LQ (fun _ hb=>.inl hb) hf)⟩
 ·refine⟨x,?_,hx,fun f hf=>hc f (LQ (fun _ hb=>.inl hb) hf)⟩;show(w.heap.push x)[w.heap.size]?=_;simp
theorem IW{f:FuncId}{l:Nat}{tm:Array Value}{main:Bool}{r:Loop}(hl:w.heap[l]?=some (.loop r))(hs:r.state=.ready):
  ∃es,stepG P main (G (atR f l tm (.beginRound::k)) cs) w=.go (G (atR f l tm k) cs) (dC w l {r with state:=.busy}) es/\∀e∈es,∃wt sy,e=⟨.obj l,wt,sy⟩:=zt hl hs
theorem Px{f:FuncId}{l:Nat}{tm:Array Value}{main:Bool}{r:Loop}{c:Frame}(hl:w.heap[l]?=some (.loop r)):
  ∃es,stepG P main (G (atR f l tm []) (c::cs)) w=.go (G (c.finish (.bool true)) cs) (dC w l {r with state:=.ready,pending:=none}) es/\∀e∈es,∃wt sy,e=⟨.obj l,wt,sy⟩:=Cv hl
theorem LR{x:Operand}{ps:Array Tmp}{as bd:Code}{g:FuncId}{gc:Func}{c:Code}{cap:Array Value}(rT:b.roundOf=none)(hk:b.kind≠.early)(hm:b.mode=.run)(hx:a.eval x=.func (.func g) #[] cap)(hg:P.funcs[g]?=some gc)(gP:(gc.name == "runtime.NumGoroutine")=false)(hb:gc.body=some c)(h:XB P Fin d (fun b=>(o b\/b=w.heap.size)\/b=w.heap.size+1) (G (Frame.enter P g (#[.func (.yield (w.heap.size+1)) #[] #[]]++cap) .normal) (b.at ⟨a.tmps,{target:=.collected w.heap.size,args:=#[]}::a.defers⟩ (.inRangeFunc (w.heap.size+1)::k)::cs)) (mO w b.fn a.tmps ps as bd)):XB P Fin d o (G (b.at a (.code (.rangeFunc x ps as bd)::k)) cs) w:=by
 refine bV.step o _ w rfl fun w1 ly=>?_;obtain⟨n,rfl⟩:=ly;refine⟨_,_,_,AV rT hk hm hx hg gP hb,⟨aj,?_,rfl,rfl⟩,?_⟩
 ·have h1:(mO (w.at n) b.fn a.tmps ps as bd).heap.size=w.heap.size+2:=by simp[mO,World.at]
  rw[h1];exact Nat.le_add_right _ 2
 ·have e:grow o (w.at n) (mO (w.at n) b.fn a.tmps ps as bd)=fun b=>(o b\/b=w.heap.size)\/b=w.heap.size+1:=by
   funext y;have h1:(mO (w.at n) b.fn a.tmps ps as bd).heap.size=w.heap.size+2:=by simp[mO,World.at]
   simp only[grow,h1,eq_iff_iff];constructor
   ·rintro(h2|h2)
    ·exact .inl (.inl h2)
    ·have h3:w.heap.size<=y:=h2.1;have:=h2.2;omega
   ·rintro((h2|h2)|h2)
    ·exact .inl h2
    ·exact .inr ⟨bG h2.symm,aa⟩
    ·exact .inr ⟨show w.heap.size<=y by omega,aa⟩
  rw[e];exact bV.rely _ _ _ ((mO w b.fn a.tmps ps as bd).at n) h ⟨n,rfl⟩
section
theorem dS{k:IntKind}{n:Int}:Cl P L o (.int k n):=fun f _=>aj
theorem mR{x:Bool}:Cl P L o (.bool x):=fun f _=>aj
theorem bS{x:af}:Cl P L o (.string x):=fun f _=>aj
theorem bU{b off:Nat}(h:o b):Cl P L o (.pointer (some ⟨b,off,none⟩)):=fun f hf=>by simp[val,addr,hf.at_ b h,mF]
theorem dY{b off l c:Nat}(h:o b):Cl P L o (.slice (some ⟨b,off,none⟩) l c):=fun f hf=>by simp[val,addr,hf.at_ b h,mF]
theorem iP{l c:Nat}:Cl P L o (.slice none l c):=fun f _=>by simp[val]
theorem yc:Cl P L o (.pointer none):=fun f _=>by simp[val]
theorem fS{vs:List Value}(h:∀v∈vs,Cl P L o v):Cl P L o (.agg vs.toArray):=fun f hf=>by
 simp only[val]
 congr 1
 simp only[List.map_toArray]
 congr 1
 conv=>rhs;rw[<- List.map_id vs]
 exact b9 fun v hv=>h v hv f hf
end
end
end Go.Ren
namespace Go.Conc
open Go.Ren Go.ConcN
section
variable {P:Program} {L:Nat->Bool} {Fin:bK} {d:Nat} {o:aM} {w:ae} {fn:FuncId} {Q:Exit->Act->aM->ae->Prop} {a:Act} {ops:Array Oper} {i:Nat} {rest:List Nat} {op:Oper}
theorem dt(db:rL P L P.globals.size)(hF:bM P L o w)(ho:ops[i]?=some op)(hw:Region.wanted op (yielded ops a.tmps)=true)(je:tw L op.op=true)(fu:∀x∈op.op.operands,Cl P L o (a.eval x)){dd:Option Tmp}(hd:op.dst=dd){R:ae->Value->ae->Prop}(cJ:∀wl,iA o w wl->∃v aV,(execOp a.eval op).run P wl=.ok (.value v) aV/\R wl v aV)(h:∀wl v aV w',iA o w wl->R wl v aV->lH P L o w w' aV v->eX (XB P Fin d) fn ops rest Q (a.put dd v) (grow o w w') w'):eX (XB P Fin d) fn ops (i::rest) Q a o w:=by
 intro b k cs hb hk hc;exact Cx db hF ho hw hk je fu hd cJ fun wl v aV w' h1 h2 h3=>h wl v aV w' h1 h2 h3 b k cs hb hk hc
theorem dB(db:rL P L P.globals.size)(hF:bM P L o w)(ho:ops[i]?=some op)(hw:Region.wanted op (yielded ops a.tmps)=true)(je:tw L op.op=true)(fu:∀x∈op.op.operands,Cl P L o (a.eval x)){dd:Option Tmp}(hd:op.dst=dd){v:Value}(cJ:∀wl,iA o w wl->(execOp a.eval op).run P wl=.ok (.value v) wl)(h:Cl P L o v->eX (XB P Fin d) fn ops rest Q (a.put dd v) o w):eX (XB P Fin d) fn ops (i::rest) Q a o w:=by
 intro b k cs hb hk hc;exact mQ db hF ho hw hk je fu hd cJ fun h1=>h h1 b k cs hb hk hc
theorem du(db:rL P L P.globals.size)(hF:bM P L o w)(ho:ops[i]?=some op)(hw:Region.wanted op (yielded ops a.tmps)=true)(je:tw L op.op=true)(fu:∀x∈op.op.operands,Cl P L o (a.eval x)){dd:Option Tmp}(hd:op.dst=dd){R:ae->ae->Prop}(cJ:∀wl,iA o w wl->∃aV,(execOp a.eval op).run P wl=.ok .skip aV/\R wl aV)(h:∀wl aV w',iA o w wl->R wl aV->lH P L o w w' aV undef->eX (XB P Fin d) fn ops rest Q (a.put dd undef) (grow o w w') w'):eX (XB P Fin d) fn ops (i::rest) Q a o w:=by
 intro b k cs hb hk hc;exact Aq db hF ho hw hk je fu hd cJ fun wl aV w' h1 h2 h3=>h wl aV w' h1 h2 h3 b k cs hb hk hc
end
section
variable {P:Program} {m:Bool} {b:Frame} {a:Act} {k:List Item} {cs:List Frame} {w:ae}
theorem Cz{o:Oper}{x:Operand}{f:FuncId}{fn:Func}{cap:Array Value}{args:Array Operand}{sA:Array TypeId}(eP:o.op=.call {callee:=.value x,args,argTypes:=sA})(hx:a.eval x=.func (.func f) #[] cap)(hf:P.funcs[f]?=some fn)(gP:(fn.name == "runtime.NumGoroutine")=false)(hb:fn.body.isNone=false):(execOp a.eval o).run P w=.ok (.enter f (args.map a.eval++cap)) w:=by
 have h1:¬fn.name= "runtime.NumGoroutine":=by simpa using gP
 have h2:¬fn.body=none:=by cases hx:fn.body<;>simp_all
 unfold execOp;simp[eP,hx,resolve,Deferred.ofValue,invoke,callFunc,hf,h1,h2]
theorem yd{o:Oper}{x:Operand}{f:FuncId}{fn:Func}{cap:Array Value}{args:Array Operand}{sA:Array TypeId}(eP:o.op=.call {callee:=.value x,args,argTypes:=sA})(hx:a.eval x=.func (.func f) #[] cap)(hf:P.funcs[f]?=some fn)(gP:(fn.name == "runtime.NumGoroutine")=false)(hb:fn.body.isNone=false)(es:Array Event):(execOp a.eval o).events P w es=es:=by
 have h1:¬fn.name= "runtime.NumGoroutine":=by simpa using gP
 have h2:¬fn.body=none:=by cases hx:fn.body<;>simp_all
 unfold execOp;simp[eP,hx,resolve,Deferred.ofValue,invoke,callFunc,hf,h1,h2]
theorem LS{R:aM->ae->ae->Prop}{Gu:aM->ae->ae->Array Event->Prop}{X:aM->aX->ae->Prop}{fn:FuncId}{Q:Exit->Act->aM->ae->Prop}{o:aM}(W:fH P m R Gu X){ops:Array Oper}{i:Nat}{rest:List Nat}{op:Oper}{x:Operand}{cap:Array Value}{f:FuncId}{fc:Func}{c:Code}{args:Array Operand}{sA:Array TypeId}(ho:ops[i]?=some op)(hw:Region.wanted op (yielded ops a.tmps)=true)(eP:op.op=.call {callee:=.value x,args,argTypes:=sA})(hx:a.eval x=.func (.func f) #[] cap)(hf:P.funcs[f]?=some fc)(gP:(fc.name == "runtime.NumGoroutine")=false)(fF:fc.body=some c){vs:Array Value}(xT:args.map a.eval++cap=vs){d:Option Tmp}(hd:op.dst=d)(h:bz P X f vs o w fun v o' w'=>eX X fn ops rest Q (a.put d v) o' w'):eX X fn ops (i::rest) Q a o w:=by
 subst xT hd;intro b k cs hb hk hc;have nn:fc.body.isNone=false:=by rw[fF];rfl
 refine W.go rfl (fun w1=>?_) (h (b.at a (.inRegion ops (i::rest)::k)) cs fun v o' w' q=>?_)
 ·rw[stepG_enter ho hw hk (Cz eP hx hf gP nn)];have:listed P b.fn a op w1=#[]:=by unfold listed;rw[yd eP hx hf gP nn];exact seen_none P _
  rw[this]
 ·rw[show(b.at a (.inRegion ops (i::rest)::k)).finish v=b.at (a.put op.dst v) (.inRegion ops rest::k) by rw[ee,ho];rfl];exact q b k cs hb hk hc
end
section
variable {P:Program} {m:Bool} {R:aM->ae->ae->Prop} {Gu:aM->ae->ae->Array Event->Prop} {X:aM->aX->ae->Prop} {o:aM} {w:ae} {f:FuncId} {fc:Func} {Post:Value->aM->ae->Prop} {a:Act}
def jK(X:aM->aX->ae->Prop)(f:FuncId)(Post:Value->aM->ae->Prop)(a:Act)(o:aM)(w:ae):Prop :=
 ∀(cf:Frame) (cs:List Frame) (todo:List Item),(∀v o2 w2,Post v o2 w2->X o2 (G (cf.finish v) cs) w2)->X o (G {(base f).at a todo with mode:=.returning} (cf::cs)) w
theorem oH(W:fH P m R Gu X){c:Code}{vs:Array Value}(hf:P.funcs[f]?=some fc)(fF:fc.body=some c)(h:vV X f c (fun e a' o' w'=>(e=.normal\/e=.ret)/\jK X f Post a' o' w') {tmps:=vs++Array.replicate (fc.ntmps-vs.size) undef,defers:=[]} o w):bz P X f vs o w Post:=by
 intro cf cs hc;rw[iN hf fF];refine h (base f) [] _ rfl (by simp[base]) fun e a' o' w' q=>?_;obtain⟨he,hl⟩:=q;rcases he with rfl|rfl
 ·exact W.go rfl (fun _=>ef) (hl _ _ _ hc)
 ·exact fun todo=>hl _ _ _ hc
theorem LU(W:fH P m R Gu X)(hf:P.funcs[f]?=some fc)(hd:a.defers=[]){v:Value}(hr:uj P R Gu fc a.tmps o w v)(hx:Post v o w):jK X f Post a o w:=by
 intro cf cs todo hc;refine W.step _ _ _ rfl fun w1 h1=>?_;obtain⟨es,e1,e2⟩:=ui (main:=m) (b:=base f) (a:=a) (todo:=todo) (c:=cf) (cs:=cs) rfl hd hf (hr w1 h1).1;exact⟨_,_,es,e1,(hr w1 h1).2 es e2,by rw[b8];exact W.rely _ _ _ _ (hc v o w hx) h1⟩
theorem mg(W:fH P m R Gu X)(hf:P.funcs[f]?=some fc)(hd:a.defers=[]){v:Value}(hr:ResultsC P fc a.tmps v)(hx:Post v o w):jK X f Post a o w:=by
 intro cf cs todo hc;refine W.go rfl (fun w1=>?_) (hc v o w hx);rw[stepG_leave (b:=base f) rfl hd hf (hr w1).1 (hr w1).2]
theorem wS{Fin:bK}{tmps:Array Value}{v:Value}(cJ:∀n,(results fc tmps).run P (w.at n)=.ok v (w.at n))(jg:∀n e,e∈(results fc tmps).events P (w.at n) #[]->∃ad wt sy,e=⟨.cell ad,wt,sy⟩/\o ad.block):uj P (fun _=>AtRel) (GuO Fin) fc tmps o w v:=by
 rintro w1 ⟨n,rfl⟩;refine⟨cJ n,fun es Ig=>⟨fun e he=>?_,ag _,rfl,rfl⟩⟩;obtain⟨ad,wt,sy,rfl,hb⟩:=jg n e (Ig e he);rw[b8];exact⟨(Bh hb).Sj,aj,aj⟩
end
section
variable {P:Program} {L:Nat->Bool} {o:aM} {w:ae}
theorem IX{f:Rn}{c:Array Value}{j:Nat}{v:Value}(hc:c.map (val f)=c)(hv:val f v=v):(c.setIfInBounds j v).map (val f)=c.setIfInBounds j v:=by
 rw[jX,hc,hv]
theorem bM.setCell(h:bM P L o w){K off:Nat}{v:Value}(hv:Cl P L o v):bM P L o (w.setCell ⟨K,off,none⟩ v):=by
 refine⟨fun b hb=>?_,h.kp,by simpa[World.setCell] using h.size⟩;obtain⟨y,k1,k2,k3⟩:=h.shut b hb;by_cases e:K=b
 ·subst e;cases y with
  |cells c t z =>
   refine⟨.cells (c.setIfInBounds off v) t z,by simp[World.setCell,aR,k1],rfl,fun f hf=>?_⟩;have:=k3 f hf;simp only[obj,Obj.cells.injEq,and_true] at this |-;exact IX this (hv f hf)
  |_=>exact⟨_,by simp[World.setCell,aR,k1],k2,k3⟩
 ·exact⟨y,by simp[World.setCell,aR,e,k1],k2,k3⟩
end
end Go.Conc
