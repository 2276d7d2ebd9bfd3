import Derived.Test.YtgjekaaknjgnmaaGreatDoorAb
import Derived.Conc.CompanyDraw
import Derived.Conc.CompanyMem
import Derived.Conc.CompanyWords
import Derived.Conc.DeferLaws
import Derived.Conc.EntryLaws
import Derived.Conc.Listed
import Derived.Conc.MarkLaws
import Derived.Conc.WgGenN3
import Derived.Deep.OwnRows
set_option linter.all false
set_option maxHeartbeats 40000000
set_option maxRecDepth 200000
namespace Go.Ren
open Go.Conc Go.ConcN
section
open Go.ConcR (KK wgBlock WgAt stA smA rd wr Payload DC0 Bk g_of_ofEvents loc_of_ofEvent ofEvent_loc_mark)
variable [Payload]
theorem II(t:Trace):∃M,∀op∈t,op.act.low M:=by
 have one:∀x:MemAct,∃M,x.low M:=by
  intro x;cases x with
  |access e =>
   obtain⟨loc,qe,sy⟩:=e;cases loc with
   |cell a=>exact⟨a.block+1,bI _⟩
   |obj r=>exact⟨r+1,bI _⟩
   |_=>exact⟨0,trivial⟩
  |mark m =>
   cases m
   case acquire a=>exact⟨a.block+1,bI _⟩
   case release a=>exact⟨a.block+1,bI _⟩
   case releaseMerge a=>exact⟨a.block+1,bI _⟩
   case read a=>exact⟨a.block+1,bI _⟩
   case write a=>exact⟨a.block+1,bI _⟩
   all_goals exact⟨0,trivial⟩
  |go _=>exact⟨0,trivial⟩
  |start=>exact⟨0,trivial⟩
  |send c _=>exact⟨c+1,bI _⟩
  |sendDone c _=>exact⟨c+1,bI _⟩
  |recv c _ _=>exact⟨c+1,bI _⟩
  |recvDone c _=>exact⟨c+1,bI _⟩
  |close c=>exact⟨c+1,bI _⟩
  |recvClosed c=>exact⟨c+1,bI _⟩
 have key:∀l:List MemOp,∃M,∀op∈l,op.act.low M:=by
  intro l
  induction l with
  |nil=>exact⟨0,aj⟩
  |cons z l ih =>
   obtain⟨M,hM⟩:=ih;obtain⟨M',hM'⟩:=one z.act;refine⟨M+M',fun op eR=>?_⟩;simp only[bK] at eR;rcases eR with rfl|eR
   ·exact MemAct.low_mono aa hM'
   ·exact MemAct.low_mono aa (hM op eR)
 obtain⟨M,hM⟩:=key t.toList;exact⟨M,fun op eR=>hM op (by simpa using eR)⟩
def Se(w:ae):jL->jL
 | .inl (S,x)=>.inl (S,{x with w:=w})
 | .inr m=>.inr m
section
variable {P:Program} {T:dq} {V:Nat->ae->Prop} {fg:Nat->(Nat->Prop)->ae->Prop} {cQ Fin:eT} {t0:Trace} {w0:ae}
 {gs:Array aY} {w w':ae} {t:Trace} {S S':jK} {D:Nat->WD} {x:Nat->lQ} {tag:CTag} {a:aY} {y:jL} {st sm:Int} {sl:Option (Nat×Nat)}
theorem KY.rely(hV:kE T V fg){i:Nat}{o rc:Nat->Prop}{cl:Nat->Option Nat}{d:WD}{ld:lQ}{g:aY}{w w':ae}(h:KY P T V fg i o rc cl d ld g w)(hr:cY T i o rc w w'):
  iY T (mH w' ld) ld/\KY P T V fg i o rc cl d (mH w' ld) g w':=by
 rcases h with⟨h1,h2,h3,g0,tr,h4,h5,h6⟩|⟨h1,h2,h3,C,v,h4,h5,h6⟩
 ·refine⟨by rw[h4];exact⟨rfl,rfl,rfl,rfl,rfl,hr⟩,.inl ⟨h1,h2,h3,g0,tr,by rw[h4];rfl,h5.rely hr,?_⟩⟩;exact h6.imp id fun⟨q1,k,z,f,q2,q3,q4⟩=>⟨q1,k,z,f,q2,fun w1 rm=>q3 w1 (hr.trans rm),q4⟩
 ·have oI:∀a,T.kg i (.cell a)->w'.cell? a=w.cell? a:=fun a ha=>hr.mine a (.inl ha);have e2:mH w' ld=ld:=by rw[h2];rfl
  rw[e2];exact⟨iY.refl ld,.inr ⟨h1,h2,hV.v i w w' oI h3,C,v,h4,h5.rely (hr.rw h4),hV.val i _ w w' oI (fun b hb=>hr.own b hb.1) h6⟩⟩
theorem gv.at(hV:kE T V fg)(h:gv P T V fg cQ Fin t0 w0 gs w t S D x tag a y st sm)(d:Nat):
  gv P T V fg cQ Fin t0 w0 gs (w.at d) t S D (fun k=>mH (w.at d) (x k)) tag a (Se (w.at d) y) st sm/\∀k,iY T (mH (w.at d) (x k)) (x k):=by
 have IF:jQ P T V fg cQ Fin tag (S.own 0) a (w.at d) (Se (w.at d) y):=by
  by_cases hb:tag=.blk
  ·subst hb;obtain⟨a0,h1,h2,h3⟩:=h.LJ;exact⟨a0,h1,fun w1 rm=>h2 w1 ((dN.at w d).trans rm),by rw[h3];rfl⟩
  ·have hs:=h.LJ;rw[jQ.eq hb] at hs |-;exact⟨hs.1.rely (dN.at w d),by rw[hs.2];rfl⟩
 refine⟨⟨h.size,h.E9,IF,h.uk,fun k k0 km=>?_,fun k hk=>?_,fun k hk=>by rw[h.rest k hk];rfl,by rw[h.zero];rfl,h.deafW,h.above,h.ti,h.tA,h.lt,h.h0,h.wg,h.mode,h.chan,h.UU,h.Zs,h.US,h.rel,h.norel,h.UQ,h.ext,h.same.trans (dN.at w d),⟨h.DW.DW,h.DW.idle⟩,h.idle0⟩,fun k=>?_⟩
 ·obtain⟨g,q,h1,h2,h3⟩:=h.old k k0 km;exact⟨g,q,h1,by rw[h2];rfl,h3⟩
 ·obtain⟨g,h1,h2⟩:=h.wk k hk;exact⟨g,h1,(h2.rely hV (cY.at w d)).2⟩
 ·rcases bh k with rfl|nD
  ·rw[h.zero];exact rfl
  ·rcases b7 k T.m0 with ql | Pv
   ·obtain⟨gk,q,_,h2,_⟩:=h.old k nD ql;rw[h2];exact rfl
   ·rcases b7 k (T.m0+S.j) with Rc|DX
    ·obtain⟨g,_,h2⟩:=h.wk (k-T.m0) aa;have:=(h2.rely hV (cY.at w d)).1;rw[show T.m0+(k-T.m0)=k by omega] at this;exact this
    ·rw[h.rest k DX];exact rfl
theorem mR.back{y' y'':jL}(h:gv P T V fg cQ Fin t0 w0 gs w t S D x tag a y st sm)(d:Nat)(k:mR P T y'' (Se (w.at d) y)):mR P T y'' y:=by
 by_cases hb:tag=.blk
 ·subst hb;obtain⟨a0,_,_,h3⟩:=h.LJ;rw[h3] at k |-;exact k
 ·have hs:=h.LJ;rw[jQ.eq hb] at hs;rw[hs.2] at k |-;rcases y'' with⟨S'',z⟩|m
  ·obtain⟨e,k1,w1,es,k2,k3,k4⟩:=k;exact⟨e,fun hh=>k1 fun w1 rm=>hh w1 ((dN.at w d).trans rm),w1,es,(dN.at w d).trans k2,k3,k4⟩
  ·exact trivial
theorem gv.ends(hT:T.OK)(h:gv P T V fg cQ Fin t0 w0 gs w t S D x tag a y st sm):Ends (nG P T V) (mR P T) (T.m0+T.n) (pM T S D tag,x,y):=by
 refine⟨fun k hk=>?_,h.LJ.acc⟩;show Acc (nG P T V) (x k);rcases bh k with rfl|nD
 ·rw[h.zero];exact Bo 0
 ·rcases b7 k T.m0 with ql | Pv
  ·obtain⟨gk,q,_,h2,_⟩:=h.old k nD ql;rw[h2];exact Bo q
  ·rcases b7 k (T.m0+S.j) with Rc|DX
   ·obtain⟨g,_,h2⟩:=h.wk (k-T.m0) aa;have:=h2.acc hT aa;rw[show T.m0+(k-T.m0)=k by omega] at this;exact this
   ·rw[h.rest k DX];exact Bo 0
theorem gv.awake(h:gv P T V fg cQ Fin t0 w0 gs w t S D x tag a y st sm):∀g∈gs,awake g:=by
 intro g hg tm;obtain⟨k,hk⟩:=Array.mem_iff_getElem?.1 hg;have cB:k<T.m0+S.j:=by have:=(Array.getElem?_eq_some_iff.1 hk).1;rw[h.size] at this;exact this
 rcases bh k with rfl|nD
 ·rw[h.E9] at hk;cases hk;by_cases hb:tag=.blk
  ·subst hb;obtain⟨a0,h1,_⟩:=h.LJ;rw[h1];simp
  ·have hs:=h.LJ;rw[jQ.eq hb] at hs;rw[hs.1.running fun o g w hh=>mV hh];simp
 ·rcases b7 k T.m0 with ql | Pv
  ·obtain⟨gk,q,h1,_,h3⟩:=h.old k nD ql;rw[hk] at h1;cases h1;rcases h3.status with e|e<;>rw[e]<;>simp
  ·obtain⟨gk,h1,h2⟩:=h.wk (k-T.m0) aa;rw[show T.m0+(k-T.m0)=k by omega,hk] at h1;cases h1;rcases h2.status with e|e|⟨e,_⟩<;>rw[e]<;>simp
theorem gv.VM(hT:T.OK)(h:gv P T V fg cQ Fin t0 w0 gs w t S D x tag a y st sm):∃(i:Nat) (g:aY),gs[i]?=some g/\g.status=.running:=by
 by_cases hb:tag=.blk
 ·subst hb;have tL:=h.uk.le;have shut:∀i,i<S.j->(S.cl i).isSome=true->(D i).stage≠1->∃(i:Nat) (g:aY),gs[i]?=some g/\g.status=.running:=by
   intro i hi hc hs;obtain⟨g,h1,h2⟩:=h.wk i hi;rcases h2 with⟨h3,_⟩|⟨_,_,_,C,v,_,h5,_⟩
   ·rw[h3] at hc;cases hc
   ·exact⟨_,g,h1,h5.running_of hs⟩
  have acN:∀m i,i<S.j->i<=m->S.cl i=none->∃(i:Nat) (g:aY),gs[i]?=some g/\g.status=.running:=by
   intro m
   induction m with
   |zero =>
    intro i hi hm hc;obtain⟨g,h1,h2⟩:=h.wk i hi;rcases h2.status with e|e|⟨_,_,k,hd,_⟩
    ·exact⟨_,g,h1,e⟩
    ·exfalso;rcases h2 with⟨_,_,_,g0,tr,_,h5,h6⟩|⟨h3,_⟩
     ·rcases h6 with⟨h6,_⟩|⟨_,k,z,f,_,_,⟨h9,_⟩|⟨h9,_⟩⟩
      ·rw[h6,h5.look.1] at e;cases e
      ·rw[h9] at e;cases e
      ·rw[h9] at e;cases e
     ·rw[hc] at h3;cases h3
    ·have:=hT.dep i k aa hd;omega
   |succ m ih =>
    intro i hi hm hc;obtain⟨g,h1,h2⟩:=h.wk i hi;rcases h2.status with e|e|⟨_,_,k,hd,hk⟩
    ·exact⟨_,g,h1,e⟩
    ·exfalso;rcases h2 with⟨_,_,_,g0,tr,_,h5,h6⟩|⟨h3,_⟩
     ·rcases h6 with⟨h6,_⟩|⟨_,k,z,f,_,_,⟨h9,_⟩|⟨h9,_⟩⟩
      ·rw[h6,h5.look.1] at e;cases e
      ·rw[h9] at e;cases e
      ·rw[h9] at e;cases e
     ·rw[hc] at h3;cases h3
    ·have:=hT.dep i k aa hd;exact ih k aa aa hk
  have any:∀i,i<S.j->(D i).stage≠1->∃(i:Nat) (g:aY),gs[i]?=some g/\g.status=.running:=by
   intro i hi hs;cases hc:S.cl i with
   |none=>exact acN i i hi (ag _) hc
   |some p=>exact shut i hi (by rw[hc];rfl) hs
  have kj:=h.mode;cases kj with
  |opn h1 _ _=>exact h1.elim
  |reg _ _ h3 =>
   obtain⟨i,hi,h5⟩:=exists_counted h3;exact any i hi aa
  |last L _ h2 h3 _=>exact any L h2 aa
  |fin h1 _=>exact h1.elim
 ·have hs:=h.LJ;rw[jQ.eq hb] at hs;exact⟨0,a,h.E9,hs.1.running fun o g w hh=>mV hh⟩
def Joined(P:Program)(T:dq)(V:Nat->ae->Prop)(fg:Nat->(Nat->Prop)->ae->Prop)(Fin:eT)(Sb:Nat->Prop)(w0:ae)(gs:Array aY)(w:ae)(t:Trace):Prop :=
 ∃o g' q B',gs.size=T.m0+T.n/\gs[0]?=some g'/\Fin o g' w/\Leavers P t gs q/\Past (uh fun b=>Sb b\/b=T.Wg) B' t/\w.heap.size<=B'/\(∀i,i<T.n->V i w/\∃(oi:Nat->Prop) (C:Nat),fg i (fun b=>oi b/\b≠C) w/\∀b,oi b->T.H0<=b/\b<w.heap.size) /\
  dN T (fun _=>False) w0 w/\(∀b,o b->T.H0<=b/\b<w.heap.size)/\(∀b cs ty fz,T.Sh b->w0.heap[b]?=some (.cells cs ty fz)->∃tH,w.heap[b]?=some (.cells tH ty fz)/\tH.size=cs.size)/\(∀k,k<T.n->∃c s r tm,w.heap[T.ch k]?=some (.chan 0 #[] c s r tm))
theorem gv.final(hT:T.OK){Sb:Nat->Prop}(tx:T.Shun=uh Sb){B:Nat}(h0:t0.size=T.T0)(hP:Past T.Shun B t0)(h:gv P T V fg cQ Fin t0 w0 gs w t S D x .acq a y st sm){g':aY}(hgo:stepG P true a w=.go g' w #[Go.ConcR.mk (.acquire (stA T.Wg))])(hF:Fin (S.own 0) g' w):
  ∃gP ops,runT P (crowd gs w sl) 0=(.next (crowd gP w sl),ops)/\Joined P T V fg Fin Sb w0 gP w (t++ops):=by
 have LL:=hT.m0;have tJ:=h.uk;simp only[mG] at tJ;obtain⟨hj,DT⟩:=tJ;have cL:=runT_crowd_go (P:=P) (sl:=sl) (i:=0) h.E9 (show stepG P (0==0) a w=_ from hgo);have hu:∀op∈MemOp.ofEvents 0 a.frame.fn a.frame.place #[Go.ConcR.mk (.acquire (stA T.Wg))],op.g=0:=g_of_ofEvents;have R5:MemOp.ofEvents 0 a.frame.fn a.frame.place #[Go.ConcR.mk (.acquire (stA T.Wg))]=#[{g:=0,fn:=a.frame.fn,pos:=a.frame.place,act:=.mark (.acquire (stA T.Wg))}]:=by rw[ofEvents_eq];simp[Go.ConcR.ofEvent_mk]
 have K1:∀k,k≠0->Deaf (t++MemOp.ofEvents 0 a.frame.fn a.frame.place #[Go.ConcR.mk (.acquire (stA T.Wg))]) k=Deaf t k:=fun k hk=>Deaf_other t (bq hk) _ hu;have hq:∀i,i<S.j->(D i).stage=1:=(h.mode.fin_inv trivial).1;have uo:(t++MemOp.ofEvents 0 a.frame.fn a.frame.place #[Go.ConcR.mk (.acquire (stA T.Wg))])[t.size]?=some {g:=0,fn:=a.frame.fn,pos:=a.frame.place,act:=.mark (.acquire (stA T.Wg))}:=by rw[R5,gm (ag _)];simp
 obtain⟨M,hM⟩:=II (t++MemOp.ofEvents 0 a.frame.fn a.frame.place #[Go.ConcR.mk (.acquire (stA T.Wg))]);have Pt:∀i,i<S.j->∃g C v,gs[T.m0+i]?=some g/\V i w/\S.own (T.m0+i) C/\QuitsD P (D i).fuel (D i).deaf g/\fg i (fun b=>S.own (T.m0+i) b/\b≠C) w/\v=C:=by
  intro i hi;obtain⟨g,h1,h2⟩:=h.wk i hi;rcases h2 with⟨_,h3,_⟩|⟨_,_,h3,C,v,h4,h5,h6⟩
  ·have:=hq i hi;omega
  ·exact⟨g,C,C,h1,h3,h4,h5.quits (hq i hi),h6,rfl⟩
 have Pr:TI T S (t++MemOp.ofEvents 0 a.frame.fn a.frame.place #[Go.ConcR.mk (.acquire (stA T.Wg))]):=h.ti.mute hu fun op eR=>by
  obtain⟨e,he,rfl⟩:=Go.Conc.mem_ofEvents eR;simp at he;subst he;rfl
 have ag8:∃U,t++MemOp.ofEvents 0 a.frame.fn a.frame.place #[Go.ConcR.mk (.acquire (stA T.Wg))]=t0++U:=by
  obtain⟨U,hU⟩:=h.ext;exact⟨U++MemOp.ofEvents 0 a.frame.fn a.frame.place #[Go.ConcR.mk (.acquire (stA T.Wg))],by rw[hU,dG]⟩
 have acO:=TI.RV (B':=M+w.heap.size) tx Pr ag8 h0 hP (q:=t.size) (by rw[act?_of uo]) (by simp[Trace.g?,uo]) ⟨0,by simp[Trace.g?,uo],by rw[deaf_old (ag _)];exact DT⟩
  (vf h.norel fun e he=>by simp at he;subst he;simp[Go.ConcR.mk])
  (fun i hi=>by
   obtain⟨r,r1,r2,r3⟩:=h.rel i hi (by rw[hq i hi];omega);have hr:r<t.size:=lt_of_act? r2.act;obtain⟨r',r1',r2',r3'⟩:=sd (t:=t) (u:=MemOp.ofEvents 0 a.frame.fn a.frame.place #[Go.ConcR.mk (.acquire (stA T.Wg))]) ⟨r,r1,r2,r3⟩ hu aa;refine⟨r',r1',?_,r2',r3'⟩;have hg:=r2'.g;rcases b7 r' t.size with cB|Pv
   ·exact cB
   ·exfalso;obtain⟨z,hz,X3⟩:=Option.map_eq_some_iff.1 hg;rcases getElem?_append_cases hz with⟨cB,_⟩|⟨_,HG⟩
    ·omega
    ·have:=hu z HG;omega)
  (vg h.UQ fun z hz=>.inl (hu z hz)) (by rw[Deaf_own,DT];simp[deafBehind,Go.ConcR.mk]) (fun op eR=>MemAct.low_mono aa (hM op eR))
 have A0:0<gs.size:=by rw[h.size];omega
 refine⟨_,_,cL,S.own 0,g',fun k=>if k<T.m0 then(match x k with|.inr q=>q|.inl _=>0) else(D (k-T.m0)).fuel,M+w.heap.size,by simp[h.size,hj],by simp[A0],hF,⟨fun k g k0 hk=>?_,fun k hk=>?_⟩,acO,aa,fun i hi=>?_,h.same,fun b hb=>⟨h.tA.new _ b hb,h.lt _ b hb⟩,h.DW.DW,fun k hk=>⟨_,h.chan k hk⟩⟩
 ·have dJ:0≠k:=aa;rw[pN _ _ _ _ dJ] at hk;obtain⟨g1,KW,rfl⟩:=Option.map_eq_some_iff.1 hk;rw[K1 k (bq dJ)];have cB:k<T.m0+S.j:=by have:=(Array.getElem?_eq_some_iff.1 KW).1;rw[h.size] at this;exact this
  by_cases hkm:k<T.m0
  ·obtain⟨g2,q,h1,h2,h3⟩:=h.old k k0 hkm;rw[KW] at h1;cases h1;rw[woken_quitsD h3,if_pos hkm,h2];exact h3
  ·obtain⟨g2,C,v,h1,_,_,h3,_⟩:=Pt (k-T.m0) aa;have e:T.m0+(k-T.m0)=k:=aa;rw[e,KW] at h1;cases h1;rw[woken_quitsD h3,if_neg hkm];have:=h.deafW (k-T.m0) aa;rw[e] at this;rw[this];exact h3
 ·have lX:gs.size<=k:=by simpa using hk
  rw[K1 k aa];exact h.above k lX
 ·obtain⟨g,C,v,_,h2,h3,_,h4,_⟩:=Pt i aa;exact⟨h2,S.own (T.m0+i),C,h4,fun b hb=>⟨h.tA.new _ b hb,h.lt _ b hb⟩⟩
theorem PE(hT:T.OK)(hV:kE T V fg)(hn:T.n<2147483648)(Yb:∀o g w,cQ o g w->dm P T (Rf P T cQ Fin) o g w){Sb:Nat->Prop}(tx:T.Shun=uh Sb){B:Nat}(h0:t0.size=T.T0)(hP:Past T.Shun B t0):
  ∀μ,Acc (LT3 (nG P T V) (iY T) (mR P T) (T.m0+T.n)) μ->∀(gs:Array aY) (w:ae) (t:Trace) (sl:Option (Nat×Nat)) (S:jK) (D:Nat->WD) (x:Nat->lQ) (tag:CTag) (a:aY) (y:jL) (st sm:Int),
   μ=(pM T S D tag,x,y)->gv P T V fg cQ Fin t0 w0 gs w t S D x tag a y st sm ->
   ∃N gP w' r9 t',runNT P N (crowd gs w sl) t=(.next (crowd gP w' r9),t')/\Joined P T V fg Fin Sb w0 gP w' t':=by
 intro μ hμ
 induction hμ with
 |intro μ _ ih =>
 intro gs w t sl S D x tag a y st sm e h;subst e;have LL:=hT.m0;obtain⟨i,g,d,r9,hi,cL,kU⟩:=crowd_pick (P:=P) (w:=w) (sl:=sl) h.awake (h.VM hT);obtain⟨pw,cB⟩:=h.at hV d;have tL:=h.uk.le;have more:∀{gP:Array aY} {w':ae} {S':jK} {D':Nat->WD} {x':Nat->lQ} {tag':CTag} {a':aY} {y':jL} {st' sm':Int} {ops:Array MemOp},runT P (crowd gs (w.at d) r9) i=(.next (crowd gP w' r9),ops)->gv P T V fg cQ Fin t0 w0 gP w' (t++ops) S' D' x' tag' a' y' st' sm' ->
   LT3 (nG P T V) (iY T) (mR P T) (T.m0+T.n) (pM T S' D' tag',x',y') (pM T S D tag,x,y)->∃N gP w' r9 t',runNT P N (crowd gs w sl) t=(.next (crowd gP w' r9),t')/\Joined P T V fg Fin Sb w0 gP w' t':=by
  intro gP w' S' D' x' tag' a' y' st' sm' ops r1 r2 r3;obtain⟨N,gs2,w2,VE,t2,q1,q2⟩:=ih _ r3 gP w' (t++ops) r9 S' D' x' tag' a' y' st' sm' rfl r2;exact⟨N+1,gs2,w2,VE,t2,by simp only[runNT,kU,r1];exact q1,q2⟩
 have worker:∀p,p<T.m0+T.n->∀{S':jK} {D':Nat->WD} {x':Nat->lQ} {tag':CTag} {y':jL},Ends (nG P T V) (mR P T) (T.m0+T.n) (pM T S' D' tag',x',y')->Cp P T V p S S' D D' tag tag' (fun k=>mH (w.at d) (x k)) x'->LT3 (nG P T V) (iY T) (mR P T) (T.m0+T.n) (pM T S' D' tag',x',y') (pM T S D tag,x,y):=by
  intro p hp S' D' x' tag' y' hE hl;refine⟨hE,?_⟩;rcases hl with hl|⟨e1,e2,e3⟩
  ·exact .inl hl
  ·exact .inr (.inl ⟨e1,p,hp,nG.back _ _ _ (cB p) e2,fun k _ hk=>iY.trans _ _ _ (e3 k hk) (cB k)⟩)
 rcases bh i with rfl|nD
 ·have e:g=a:=by rw[h.E9] at hi;exact(aR hi).symm
  subst e;rcases pw.Sd (sl:=r9) hT hV hn Yb cL with⟨rfl,g',hgo,hF⟩|⟨gP,w',S',D',x',tag',a',y',st',sm',ops,r1,r2,r3⟩
  ·obtain⟨gP,ops,r1,r2⟩:=pw.final (sl:=r9) hT tx h0 hP hgo hF;exact⟨1,gP,_,r9,_,by simp only[runNT,kU,r1],r2⟩
  ·refine more r1 r2 ⟨r2.ends hT,?_⟩;rcases r3 with r3|⟨e1,e2,e3⟩
   ·exact .inl r3
   ·exact .inr (.inr ⟨e1,fun k _=>iY.trans _ _ _ (e2 k) (cB k),mR.back (y':=y') h d e3⟩)
 ·rcases b7 i T.m0 with ql | Pv
  ·obtain⟨gP,tag',a',y',x',ops,r1,r2,r3,r4,r5⟩:=pw.Zu (sl:=r9) hT hV tL nD ql hi cL;refine more r1 r3 (worker i aa (r3.ends hT) (.inr ⟨by rw[Fa r2],r4,r5⟩))
  ·have anv:i<T.m0+S.j:=by have:=(Array.getElem?_eq_some_iff.1 hi).1;rw[h.size] at this;exact this
   obtain⟨k,rfl⟩:∃k,i=T.m0+k:=⟨i-T.m0,aa⟩;have hk:k<S.j:=aa;cases hc:S.cl k with
   |none =>
    obtain⟨gP,w',S',D',x',tag',a',y',st',sm',ops,r1,r2,r3,r4⟩:=pw.R8 (sl:=r9) hT hV tL hk hi cL hc;exact more r1 r3 (worker _ aa (r3.ends hT) r4)
   |some p =>
    obtain⟨gP,w',S',D',x',tag',a',y',st',sm',ops,r1,r2,r3,r4⟩:=pw.Sa (sl:=r9) hT hV hn tL hk hi cL (by rw[hc];rfl) (h.uk.pend (Vc_le _ _));exact more r1 r3 (worker _ aa (r3.ends hT) r4)
end
end
section
open Go.ConcR (KK wgBlock WgAt stA smA rd wr Payload DC0)
variable [Payload]
section
variable {P:Program} {T:dq} {V:Nat->ae->Prop} {fg:Nat->(Nat->Prop)->ae->Prop} {cQ Fin:eT}
theorem PG(hT:T.OK)(hV:kE T V fg)(hn:T.n<2147483648)(Yb:∀o g w,cQ o g w->dm P T (Rf P T cQ Fin) o g w){Sb:Nat->Prop}(tx:T.Shun=uh Sb){B:Nat}{gs:Array aY}{a:aY}{w:ae}{sl:Option (Nat×Nat)}{t:Trace}{q:Nat->Nat}{o0:Nat->Prop}(fJ:gs.size=T.m0)(h0:gs[0]?=some a)(hL:Leavers P t gs q)(hP:Past T.Shun B t)(ht:t.size=T.T0)(eI:jg P T V fg cQ T.n o0 a w)(UT:∀b,o0 b->T.H0<=b/\b<w.heap.size)(hH:T.H0<=w.heap.size)(px:WgAt T.ty T.Wg w 0 0)(vK:∀k,k<T.n->∃s r tm,w.heap[T.ch k]?=some (.chan 0 #[] false s r tm))(Sf:∀k,k<T.n->T.Idle k w):
  ∃N gP w' r9 t',runNT P N (crowd gs w sl) t=(.next (crowd gP w' r9),t')/\Joined P T V fg Fin Sb w gP w' t':=by
 have LL:=hT.m0;have key:∀(tag:CTag) (y:jL),jQ P T V fg cQ Fin tag o0 a w y->mG T.n tag 0 0->Go.ConcN.Mode 0 (fun _=>(⟨7,0,0⟩:WD)) tag 0 0 ->
   gv P T V fg cQ Fin t w gs w t {j:=0,own:=fun z b=>z=0/\o0 b,cl:=fun _=>none,rc:=fun _ _=>False} (fun _=>⟨7,0,0⟩) (fun k=>if 0<k/\k<T.m0 then .inr (q k) else .inr 0) tag a y 0 0:=by
  intro tag y hs htg hm;have e:(fun b=>0=0/\o0 b)=o0:=by funext b;simp
  refine⟨by simp[fJ],h0,by simp only[true_and];exact hs,by rw[hP.hears];exact htg,fun k k0 km=>?_,fun i hi=>absurd hi (ef _),fun k hk=>?_,aj,fun i hi=>absurd hi (ef _),fun k hk=>hL.above k hk,TI.begin ht hP,⟨fun x b hb=>(UT b hb.2).1,fun x z b h1 h2=>h1.1.trans h2.1.symm,fun x b hb=>.inl hb.1⟩,fun z b hb=>(UT b hb.2).2,hH,px,hm,vK,fun i k hr=>hr.elim,fun _ _=>rfl,fun i k hr=>hr.elim,fun i hi=>absurd hi (ef _),fun k hk e=>?_,fun i z hi hz=>?_,⟨#[],aj⟩,dN.refl w,qP.refl w,Sf⟩
  ·have cB:k<gs.size:=aa;refine⟨gs[k],q k,aO cB,by simp[k0,km],hL.old k _ k0 (aO cB)⟩
  ·have:¬(0<k/\k<T.m0):=by simp only at hk;omega
   simp[this]
  ·have:=lt_of_act? e;omega
  ·have:=lt_size_of_getElem? hz;omega
 have run:∀(tag:CTag) (y:jL),jQ P T V fg cQ Fin tag o0 a w y->mG T.n tag 0 0->Go.ConcN.Mode 0 (fun _=>(⟨7,0,0⟩:WD)) tag 0 0->∃N gP w' r9 t',runNT P N (crowd gs w sl) t=(.next (crowd gP w' r9),t')/\Joined P T V fg Fin Sb w gP w' t':=by
  intro tag y hs htg hm;have hI:=key tag y hs htg hm;exact PE hT hV hn Yb tx ht hP _ (Po iY.refl iY.trans nG.back _ (hI.ends hT)) gs w t sl _ _ _ tag a y 0 0 rfl hI
 have kj:∀tag,isOpen tag->pend tag=0->(∀vs,tag≠.w2 vs)->Go.ConcN.Mode 0 (fun _=>(⟨7,0,0⟩:WD)) tag 0 0:=fun tag h1 h2 h3=>by
  have:=Mode.opn (j:=0) (D:=fun _=>(⟨7,0,0⟩:WD)) h1 (fun i hi=>aa) (fun vs e=>absurd e (h3 vs));simpa[Vc,sumTo,h2] using this
 cases Sg:T.n with
 |zero =>
  rw[Sg] at eI;exact run .kd _ (jQ.mk (tag:=.kd) aj eI rfl) ⟨Sg.symm,rfl⟩ (kj .kd trivial rfl aj)
 |succ r =>
  rw[Sg] at eI;exact run (.sp r 5) _ (jQ.mk (tag:=.sp r 5) aj eI (by simp[kD])) ⟨aa,aa,.inl ⟨rfl,rfl⟩⟩ (kj (.sp r 5) trivial rfl aj)
theorem zx(o:Nat->Prop)(w:ae):grow o w w=o:=by
 funext b;simp only[grow,eq_iff_iff];exact⟨fun h=>h.elim id fun h=>absurd h.2 aa,.inl⟩
theorem Pn.refl(o:Nat->Prop)(w:ae):Pn T o w w:=⟨ag _,fun _ _ _=>rfl,rfl,rfl⟩
theorem dm.jC{Stop:eT}{o:Nat->Prop}:∀{n:Nat} {g:aY} {w:ae},Goes P true (dN T o) DC0 (fun g w=>dm P T Stop o g w) n g w->dm P T Stop o g w:=by
 intro n
 induction n with
 |zero=>intro g w h;exact h w (dN.refl w)
 |succ n ih =>
  intro g w h;rcases h with h|⟨hs,h⟩
  ·exact h w (dN.refl w)
  ·refine dm.step hs fun w1 rm=>?_;have:=h w1 rm;cases hg:stepG P true g w1 with
   |go g' w' es =>
    rw[hg,goes_go] at this;obtain⟨⟨rfl,rfl⟩,hG⟩:=this;exact⟨g',w',#[],rfl,Pn.refl o w',aj,by rw[zx];exact ih hG⟩
   |_=>rw[hg] at this;exact this.elim
theorem dm.one{Stop:eT}{o:Nat->Prop}{g:aY}{w:ae}(hs:g.status=.running)(h:∀w1,dN T o w w1->∃g' es,stepG P true g w1=.go g' w1 es/\(∀e∈es,EvS T o e)/\dm P T Stop o g' w1):dm P T Stop o g w:=by
 refine dm.step hs fun w1 rm=>?_;obtain⟨g',es,e1,e2,e3⟩:=h w1 rm;exact⟨g',w1,es,e1,Pn.refl o w1,by rw[zx];exact e2,by rw[zx];exact e3⟩
end
end
section
open Go.ConcR (KK wgBlock WgAt stA smA rd wr mk)
section
variable {P:Program} {T:dq} {i:Nat} {V:Nat->ae->Prop} {E:bL} {L:Nat->Bool} {Gm:Nat}
theorem Fb{F:jJ}{o rc:Nat->Prop}(hF:∀r,F.K r->o (F.φ r)){e:Event}(h:xB F e):NG T i o rc e:=by
 obtain⟨loc,wt,sy⟩:=e;cases loc with
 |cell a =>
  obtain⟨r,h1,h2⟩:=h;refine⟨fun x hx _=>.inl ⟨a.block,by rw[<- h2];exact hF r h1,?_⟩,aj,aj,aj⟩;simp only[MemAct.ofEvent,MemAct.touch?,ay] at hx;subst hx;rfl
 |obj b =>
  obtain⟨r,h1,h2⟩:=h;refine⟨fun x hx _=>.inl ⟨b,by rw[<- h2];exact hF r h1,?_⟩,aj,aj,aj⟩;cases wt<;>cases sy<;>simp only[MemAct.ofEvent,MemAct.touch?,ay] at hx;all_goals first|cases hx;done|skip
  all_goals (subst hx;rfl)
 |output =>
  refine⟨fun x hx hm=>?_,aj,aj,aj⟩;simp only[MemAct.ofEvent,MemAct.touch?,ay] at hx;subst hx;cases hm
 |goroutines =>
  refine⟨fun x hx hm=>?_,aj,aj,aj⟩;simp only[MemAct.ofEvent,MemAct.touch?,ay] at hx;subst hx;cases hm
 |mark m =>
  have hd:Ld m=true:=h;cases m<;>first|exact Bool.noConfusion hd|skip
  all_goals
   refine⟨fun x hx hm=>?_,aj,aj,aj⟩;simp only[MemAct.ofEvent,MemAct.touch?] at hx;cases hx
theorem fC.guW(hT:T.OK){F F':jJ}{wl aW w w':ae}{o:Nat->Prop}(h:fC F F' wl w aW w')(W:WR F wl w)(W':WR F' aW w')(hF:∀r,F.K r->o (F.φ r))(ho:∀b,o b->T.H0<=b)(hH:T.H0<=w.heap.size):LF T i o w w':=by
 have key:∀b,b<w.heap.size->¬o b->w'.heap[b]?=w.heap[b]?:=by
  intro b hb hn;refine h.rest b fun r hr e=>?_;rcases h.wL r hr with h1|⟨_,h1⟩
  ·rw[h.φ r h1] at e;exact hn (e▸hF r h1)
  ·omega
 have old:∀b,T.Sh b->w'.heap[b]?=w.heap[b]?:=fun b hb=>key b (by have:=(hT.sh b hb).1;omega) (fun hx=>by have:=ho b hx;have:=(hT.sh b hb).1;omega);refine⟨h.size,fun b h1 h2 _=>key b h1 h2,fun b cs ty fz hb hx=>⟨cs,by rw[old b hb];exact hx,rfl⟩,fun a ha _=>cell_of (old _ ha),?_,?_⟩
 ·rw[W'.os,h.Rx,<- W.os]
 ·rw[W'.output,h.BG,<- W.output]
theorem fC.owned{F F':jJ}{wl aW w w':ae}{o:Nat->Prop}(h:fC F F' wl w aW w')(W':WR F' aW w')(hF:∀r,F.K r->o (F.φ r)):∀r,F'.K r->grow o w w' (F'.φ r):=by
 intro r hr;rcases h.wL r hr with h1|⟨_,h1⟩
 ·rw[h.φ r h1];exact .inl (hF r h1)
 ·exact .inr ⟨h1,W'.there r hr⟩
def aside(o:Nat->Prop)(F:jJ):Nat->Prop:=fun b=>o b/\∀r,F.K r->F.φ r≠b
theorem fC.Cn(hT:T.OK)(hi:i<T.n){F F':jJ}{wl aW w w':ae}{o rc:Nat->Prop}(h:fC F F' wl w aW w')(W:WR F wl w)(W':WR F' aW w')(hF:∀r,F.K r->o (F.φ r))(ho:∀b,o b->T.H0<=b/\b<w.heap.size)(hH:T.H0<=w.heap.size){o1:Nat->Prop}(Gw:∀b,o1 b->o b/\∀r,F.K r->F.φ r≠b):cY T i o1 rc w w':=by
 have key:∀b,b<w.heap.size->(∀r,F.K r->F.φ r≠b)->w'.heap[b]?=w.heap[b]?:=by
  intro b hb hn;refine h.rest b fun r hr e=>?_;rcases h.wL r hr with h1|⟨_,h1⟩
  ·rw[h.φ r h1] at e;exact hn r h1 e
  ·omega
 have old:∀b,b<T.H0->w'.heap[b]?=w.heap[b]?:=fun b hb=>key b aa (fun r hr e=>by have:=(ho _ (hF r hr)).1;omega);have pC:∀k,k<T.n->w'.heap[T.ch k]?=w.heap[T.ch k]?:=fun k hk=>old _ (hT.ch k hk).1;refine⟨h.size,fun b hb=>key b (ho b (Gw b hb).1).2 (Gw b hb).2,fun b h1 _ _ _=>old b h1,fun b cs ty fz hb hx=>⟨cs,by rw[old b (hT.sh b hb).1];exact hx,rfl⟩,fun a ha=>?_,fun k s r tm c hk hh=>⟨c,by rw[pC k hk];exact hh,id⟩,pC i hi,gz (old _ hT.wg),?_,?_⟩
 ·have k1:∀k,T.kg k (.cell a)->w'.cell? a=w.cell? a:=by
   intro k fy;obtain⟨a',e,hs⟩:=hT.ownSh k _ fy;cases e;exact cell_of (old _ (hT.sh _ hs).1)
  rcases ha with ha|⟨k,_,ha⟩
  ·exact k1 i ha
  ·exact k1 k ha
 ·rw[W'.os,h.Rx,<- W.os]
 ·rw[W'.output,h.BG,<- W.output]
theorem cY.less{o o1 rc:Nat->Prop}{w w1:ae}(h:cY T i o rc w w1)(ho:∀b,o1 b->o b):cY T i o1 rc w w1 :=
 ⟨h.size,fun b hb=>h.own b (ho b hb),h.ro,h.sh,h.mine,h.chan,h.Ck,h.wg,h.os,h.output⟩
theorem gT.call(hT:T.OK)(hi:i<T.n)(de:rS P L Gm){Bj:FuncId}{Q:Value->ae->Prop}{c:Frame}{cs:List Frame}{rc:Nat->Prop}{w0:ae}{o0:Nat->Prop}{F0:jJ}(Si:∀v v' F' o' aW w',Q v aW->(∀f,F'.has f->v'=val f v)->WR F' aW w'->(∀b,o0 b->o' b)->(∀r,F'.K r->o' (F'.φ r))->(∀b,o' b->T.H0<=b/\b<w'.heap.size)->(∀r,F0.K r->F'.K r/\F'.φ r=F0.φ r)->cY T i (aside o0 F0) rc w0 w' ->
   gT P T i V E ⟨G (c.finish v') cs,o',rc,w'⟩)(x:aY×ae)(Gx:Acc (Nx P (kT P Bj Q)) x):
  ∀(F:jJ) (o:Nat->Prop) (gr:aY) (w:ae),xV P L Gm (kT P Bj Q) (c::cs) F (x.1,WT x.2 w.tape w.drawn) gr w->(∀r,F.K r->o (F.φ r))->(∀b,o b->T.H0<=b/\b<w.heap.size)->T.H0<=w.heap.size->(∀b,o0 b->o b)->(∀r,F0.K r->F.K r/\F.φ r=F0.φ r) ->
   (∀b,aside o0 F0 b->∀r,F.K r->F.φ r≠b)->cY T i (aside o0 F0) rc w0 w->gT P T i V E ⟨gr,o,rc,w⟩:=by
 have hS:=Bl (P:=P) Bj Q
 induction Gx with
 |intro x _ ih =>
 intro F o gr w Pg hF ho hH Nz hF0 hap hrel;have cL:gr.status=.running:=xW Pg;refine gT.intro ⟨cL,.inl fun w1 rm=>?_⟩;have A1:LB F w w1:=⟨rm.size,fun r hr=>rm.own _ (hF r hr),rm.os,rm.output⟩;have Ph:=Pg.others A1;have Gw:∀b,o b->T.H0<=b/\b<w1.heap.size:=fun b hb=>⟨(ho b hb).1,bz (ho b hb).2 rm.size⟩;have UX:T.H0<=w1.heap.size:=aX hH rm.size;have tI:WR F (WT x.2 w1.tape w1.drawn) w1:=by
  obtain⟨_,_,_,_,_,_,_,_,_,hW,_⟩:=Ph;exact hW
 have Yd:cY T i (aside o0 F0) rc w0 w1:=hrel.trans (rm.less fun b hb=>Nz b hb.1);have Ej:∀(w':ae),w1.heap.size<=w'.heap.size->∀b,grow o w1 w' b->T.H0<=b/\b<w'.heap.size:=fun w' hs b hb=>by
  rcases hb with hb|hb
  ·exact⟨(Gw b hb).1,bz (Gw b hb).2 hs⟩
  ·exact⟨aa,hb.2⟩
 by_cases hs:kT P Bj Q x.1 x.2
 ·obtain⟨v,v',F',oG,es,e1,e2,e3,e4,e5,e6,e7⟩:=Ph.ret de (hS.tape _ _ _ _ hs) false;refine⟨_,oG,es,e1,e5.guW hT tI e4 hF (fun b hb=>(ho b hb).1) UX,fun e he=>Fb (e5.owned e4 hF) (e6 e he),?_⟩;refine Si v v' F' _ _ oG e2 e3 e4 (fun b hb=>.inl (Nz b hb)) (e5.owned e4 hF) (Ej oG e5.size) (fun r hr=>⟨e5.K r (hF0 r hr).1,(e5.φ r (hF0 r hr).1).trans (hF0 r hr).2⟩) (Yd.trans ?_);exact e5.Cn hT hi tI e4 hF Gw UX fun b hb=>⟨Nz b hb.1,hap b hb⟩
 ·obtain⟨y,F',Re,oG,es,e1,e2,e3,e4,e5,e6⟩:=Ph.step de hS (fun h=>hs (hS.back h)) false;have uq:WR F' y.2 oG:=by obtain⟨_,_,_,_,_,_,_,_,_,hW,_⟩:=e3;exact hW
  have hyt:(y.1,WT y.2 oG.tape oG.drawn)=y:=by rw[uq.tape,uq.drawn];rfl
  refine⟨Re,oG,es,e1,e4.guW hT tI uq hF (fun b hb=>(ho b hb).1) UX,fun e he=>Fb (e4.owned uq hF) (e5 e he),?_⟩;refine ih y (XX hS e2) F' (grow o w1 oG) Re oG (by rw[hyt];exact e3) (e4.owned uq hF) (Ej oG e4.size) (aX UX e4.size) (fun b hb=>.inl (Nz b hb)) (fun r hr=>⟨e4.K r (hF0 r hr).1,(e4.φ r (hF0 r hr).1).trans (hF0 r hr).2⟩) (fun b hb r hr e=>?_) (Yd.trans ?_)
  ·rcases e4.wL r hr with h1|⟨_,h1⟩
   ·rw[e4.φ r h1] at e;exact hap b hb r h1 e
   ·have:=(Gw b (Nz b hb.1)).2;omega
  ·exact e4.Cn hT hi tI uq hF Gw UX fun b hb=>⟨Nz b hb.1,hap b hb⟩
end
end
abbrev aN:=Nat->Prop
structure fM(P:Program)(m:Bool)(R:aN->ae->ae->Prop)(Gu:aN->ae->ae->Array Event->Prop)(X:aN->aY->ae->Prop):Prop where
 step:∀o g w,g.status=.running->(∀w1,R o w w1->∃g' w' es,stepG P m g w1=.go g' w' es/\Gu o w1 w' es/\X (grow o w1 w') g' w')->X o g w
 rely:∀o g w w1,X o g w->R o w w1->X o g w1
 idle:∀o w,Gu o w w #[]
theorem cd(o:Nat->Prop)(w:ae):grow o w w=o:=by
 funext b;simp only[grow,eq_iff_iff];exact⟨fun h=>h.elim id fun h=>absurd h.2 aa,.inl⟩
theorem kM(o:Nat->Prop){w w':ae}(h:w'.heap.size=w.heap.size):grow o w w'=o:=by
 funext b;simp only[grow,eq_iff_iff];exact⟨fun k=>k.elim id fun k=>absurd k.2 aa,.inl⟩
theorem vi(o:Nat->Prop)(w:ae)(x:Obj):grow o w {w with heap:=w.heap.push x}=fun b=>o b\/b=w.heap.size:=by
 funext b;simp only[grow,Array.size_push,eq_iff_iff];exact⟨fun h=>h.imp id fun h=>aa,fun h=>h.imp id fun h=>aa⟩
def IJ(T:dq)(i:Nat)(rc:Nat->Prop)(o:aN)(w w':ae)(es:Array Event):Prop:=LF T i o w w'/\∀e∈es,NG T i (grow o w w') rc e
theorem LF.refl{T:dq}{i:Nat}(o:Nat->Prop)(w:ae):LF T i o w w:=⟨ag _,fun _ _ _ _=>rfl,fun b cs ty fz _ h=>⟨cs,h,rfl⟩,fun _ _ _=>rfl,rfl,rfl⟩
theorem cN{P:Program}{T:dq}{i:Nat}{V:Nat->ae->Prop}{E:bL}(rc:Nat->Prop):fM P false (fun o=>cY T i o rc) (IJ T i rc) (fun o g w=>gT P T i V E ⟨g,o,rc,w⟩) where
 step o g w hs h:=gT.intro ⟨hs,.inl fun w1 hw=>let ⟨g',w',es,e1,e2,e3⟩:=h w1 hw;⟨g',w',es,e1,e2.1,e2.2,e3⟩⟩
 rely o g w w1 h hr:=h.rely hr
 idle o w:=⟨.refl o w,aj⟩
def aha(T:dq)(o:aN)(w w':ae)(es:Array Event):Prop:=Pn T o w w'/\∀e∈es,EvS T (grow o w w') e
theorem nR{P:Program}{T:dq}{Stop:eT}:fM P true (fun o=>dN T o) (aha T) (fun o g w=>dm P T Stop o g w) where
 step o g w hs h:=dm.step hs fun w1 hw=>let ⟨g',w',es,e1,e2,e3⟩:=h w1 hw;⟨g',w',es,e1,e2.1,e2.2,e3⟩
 rely o g w w1 h hr:=h.rely hr
 idle o w:=⟨⟨ag _,fun _ _ _=>rfl,rfl,rfl⟩,aj⟩
section
variable {P:Program} {m:Bool} {R:aN->ae->ae->Prop} {Gu:aN->ae->ae->Array Event->Prop} {X:aN->aY->ae->Prop}
theorem fM.go(W:fM P m R Gu X){o:aN}{g g':aY}{w:ae}(hs:g.status=.running)(h:∀w1,stepG P m g w1=.go g' w1 #[])(hx:X o g' w):X o g w :=
 W.step o g w hs fun w1 hw=>⟨g',w1,#[],h w1,W.idle _ _,by rw[cd];exact W.rely _ _ _ _ hx hw⟩
def uu(X:aN->aY->ae->Prop)(b:Frame)(k:List Item)(cs:List Frame):Exit->Act->aN->ae->Prop
 | .normal,a,o,w=>X o (G (b.at a k) cs) w
 | .exit id,a,o,w=>∃k',exitTo id k=some k'/\X o (G (b.at a k') cs) w
 | .ret,a,o,w=>∀todo,X o (G {b.at a todo with mode:=.returning} cs) w
 |_,_,_,_=>False
theorem uu.push{b:Frame}{y:Item}{k:List Item}{cs:List Frame}{e:Exit}{a:Act}{o:aN}{w:ae}(hy:y.plain=true)(he:e≠.normal)(h:uu X b k cs e a o w):uu X b (y::k) cs e a o w:=by
 cases e with
 |normal=>exact absurd rfl he
 |exit id=>obtain⟨k',hk,hg⟩:=h;exact⟨k',by cases y<;>simp_all[exitTo,Item.plain],hg⟩
 |ret=>exact h
 |goto l=>exact h
 |panic ch=>exact h
 |outgrown=>exact h
def wm(X:aN->aY->ae->Prop)(fn:FuncId)(c:Code)(Q:Exit->Act->aN->ae->Prop)(a:Act)(o:aN)(w:ae):Prop :=
 ∀(b:Frame) (k:List Item) (cs:List Frame),b.fn=fn->b.kind≠.early->(∀e a' o' w',Q e a' o' w'->uu X b k cs e a' o' w')->X o (G (b.at a (.code c::k)) cs) w
def fa(X:aN->aY->ae->Prop)(fn:FuncId)(ops:Array Oper)(todo:List Nat)(Q:Exit->Act->aN->ae->Prop)(a:Act)(o:aN)(w:ae):Prop :=
 ∀(b:Frame) (k:List Item) (cs:List Frame),b.fn=fn->b.kind≠.early->(∀e a' o' w',Q e a' o' w'->uu X b k cs e a' o' w')->X o (G (b.at a (.inRegion ops todo::k)) cs) w
def iM(M:Act->aN->ae->Prop)(Q:Exit->Act->aN->ae->Prop):Exit->Act->aN->ae->Prop
 | .normal,a,o,w=>M a o w
 |e,a,o,w=>Q e a o w
def dK(id:Nat)(Q:Exit->Act->aN->ae->Prop):Exit->Act->aN->ae->Prop
 | .exit Sj,a,o,w=>if Sj=id then Q .normal a o w else Q (.exit Sj) a o w
 |e,a,o,w=>Q e a o w
section rules
variable {fn:FuncId} {Q:Exit->Act->aN->ae->Prop} {a:Act} {o:aN} {w:ae}
theorem IK{c:Code}{Q':Exit->Act->aN->ae->Prop}(h:wm X fn c Q a o w)(hq:∀e a o w,Q e a o w->Q' e a o w):wm X fn c Q' a o w :=
 fun b k cs hb hk hc=>h b k cs hb hk fun e a' o' w' q=>hc e a' o' w' (hq e a' o' w' q)
theorem IL(W:fM P m R Gu X)(h:Q .normal a o w):wm X fn .skip Q a o w:=fun b k cs _ _ hc=>W.go rfl (fun _=>cz) (hc _ _ _ _ h)
theorem NO(W:fM P m R Gu X)(h:Q .ret a o w):wm X fn .ret Q a o w:=fun b k cs _ _ hc=>W.go rfl (fun _=>stepG_ret') (hc _ _ _ _ h _)
theorem IM(W:fM P m R Gu X){id:Nat}(h:Q (.exit id) a o w):wm X fn (.exit id) Q a o w:=fun b k cs _ _ hc=>by
 obtain⟨k',lX,hg⟩:=hc _ _ _ _ h;exact W.go rfl (fun _=>stepG_exit lX) hg
theorem pO(W:fM P m R Gu X){x y:Code}(h:wm X fn x (iM (fun a' o' w'=>wm X fn y Q a' o' w') Q) a o w):wm X fn (.seq x y) Q a o w:=by
 intro b k cs hb hk hc;refine W.go rfl (fun _=>aD) (h b (.code y::k) cs hb hk fun e a' o' w' q=>?_);cases e with
 |normal=>exact q b k cs hb hk hc
 |exit id=>exact(hc _ _ _ _ q).push rfl aj
 |ret=>exact(hc _ _ _ _ q).push (y:=.code y) rfl aj
 |goto l=>exact hc _ _ _ _ q
 |panic ch=>exact hc _ _ _ _ q
 |outgrown=>exact hc _ _ _ _ q
theorem ig(W:fM P m R Gu X){c:Operand}{x y:Code}{t:Bool}(hc:a.eval c=.bool t)(h:wm X fn (if t then x else y) Q a o w):wm X fn (.cond c x y) Q a o w :=
 fun b k cs hb hk hq=>W.go rfl (fun _=>eB hc) (h b k cs hb hk hq)
theorem Fc(W:fM P m R Gu X){id:Nat}{c:Code}(h:wm X fn c (dK id Q) a o w):wm X fn (.block id c) Q a o w:=by
 intro b k cs hb hk hc;refine W.go rfl (fun _=>fh) (h b (.inBlock id::k) cs hb hk fun e a' o' w' q=>?_);cases e with
 |normal=>exact W.go rfl (fun _=>gA) (hc _ _ _ _ q)
 |exit Sj =>
  by_cases hid:Sj=id
  ·simp only[dK,hid,if_true] at q;exact⟨k,by simp[exitTo,hid],hc _ _ _ _ q⟩
  ·simp only[dK,hid,if_false] at q;obtain⟨k',lX,hg⟩:=hc _ _ _ _ q;have:(id==Sj)=false:=by simp;exact fun h=>hid h.symm
   exact⟨k',by simp[exitTo,this,lX],hg⟩
 |ret=>exact fun todo=>hc _ _ _ _ q todo
 |goto l=>exact hc _ _ _ _ q
 |panic ch=>exact hc _ _ _ _ q
 |outgrown=>exact hc _ _ _ _ q
theorem iQ(W:fM P m R Gu X){c:Code}(I:Nat->Act->aN->ae->Prop){N:Nat}(h0:I N a o w)(round:∀n a o w,I n a o w->wm X fn c (iM (fun a' o' w'=>∃n',n'<n/\I n' a' o' w') Q) a o w):wm X fn (.loop c) Q a o w:=by
 intro b k cs hb hk hc;have key:∀N a o w,I N a o w->X o (G (b.at a (.code c :: .inLoop c::k)) cs) w:=by
  intro N
  induction N using Nat.strongRecOn with
  |ind N ih =>
   intro a o w hI;refine round N a o w hI b (.inLoop c::k) cs hb hk fun e a' o' w' q=>?_;cases e with
   |normal =>
    obtain⟨n',hn,hI'⟩:=q;exact W.go rfl (fun _=>iR) (ih n' hn a' o' w' hI')
   |exit id=>exact(hc _ _ _ _ q).push rfl aj
   |ret=>exact(hc _ _ _ _ q).push (y:=.inLoop c) rfl aj
   |goto l=>exact hc _ _ _ _ q
   |panic ch=>exact hc _ _ _ _ q
   |outgrown=>exact hc _ _ _ _ q
 exact W.go rfl (fun _=>jR) (key N a o w h0)
theorem Ct(W:fM P m R Gu X){id:Nat}{ops:Array Oper}(h:fa X fn ops (List.range ops.size) Q a o w):wm X fn (.region id ops false) Q a o w :=
 fun b k cs hb hk hc=>W.go rfl (fun _=>bg) (h b k cs hb hk hc)
theorem x9(W:fM P m R Gu X){ops:Array Oper}(h:Q .normal a o w):fa X fn ops [] Q a o w:=fun b k cs _ _ hc=>W.go rfl (fun _=>ak) (hc _ _ _ _ h)
theorem lH(W:fM P m R Gu X){ops:Array Oper}{i:Nat}{rest:List Nat}{op:Oper}(ho:ops[i]?=some op)(hw:Region.wanted op (yielded ops a.tmps)=true)(h:∀w1,R o w w1->∀K:Act->ae->Prop,(∀a' w',Gu o w1 w' (listed P fn a op w1)/\fa X fn ops rest Q a' (grow o w1 w') w'->K a' w')->uponK op a K ((execOp a.eval op).run P w1)):fa X fn ops (i::rest) Q a o w:=by
 intro b k cs hb hk hc;refine W.step o _ w rfl fun w1 h1=>?_;have:=h w1 h1 _ fun _ _ x=>x;revert this;cases hr:(execOp a.eval op).run P w1 with
 |ok x w' =>
  cases x with
  |value v=>intro q;simp only[uponK_value] at q;exact⟨_,_,_,eJ ho hw hk hr,hb▸q.1,q.2 b k cs hb hk hc⟩
  |skip=>intro q;simp only[uponK_skip] at q;exact⟨_,_,_,jS ho hw hk hr,hb▸q.1,q.2 b k cs hb hk hc⟩
  |_=>intro q;exact q.elim
 |halt _ _=>intro q;exact q.elim
theorem jD(W:fM P m R Gu X){ops:Array Oper}{i:Nat}{rest:List Nat}{op:Oper}(ho:ops[i]?=some op)(hw:Region.wanted op (yielded ops a.tmps)=false)(h:fa X fn ops rest Q (a.put op.dst undef) o w):fa X fn ops (i::rest) Q a o w :=
 fun b k cs hb hk hc=>W.go rfl (fun _=>stepG_unwanted ho hw) (h b k cs hb hk hc)
theorem LP(W:fM P m R Gu X){ops:Array Oper}{i:Nat}{rest:List Nat}{op:Oper}{f:FuncId}{fc:Func}{c:Code}{args:Array Operand}{sI:Array TypeId}(ho:ops[i]?=some op)(hw:Region.wanted op (yielded ops a.tmps)=true)(eR:op.op=.call {callee:=.value (.func f),args,argTypes:=sI})(hf:P.funcs[f]?=some fc)(gU:(fc.name == "runtime.NumGoroutine")=false)(fK:fc.body=some c)(h:∀(b:Frame) (k:List Item) (cs:List Frame),b.fn=fn->b.kind≠.early->(∀e a' o' w',Q e a' o' w'->uu X b k cs e a' o' w') ->
   X o (G ((base f).at {tmps:=args.map a.eval++Array.replicate (fc.ntmps-(args.map a.eval).size) undef,defers:=[]} [.code c]) (b.at a (.inRegion ops (i::rest)::k)::cs)) w):fa X fn ops (i::rest) Q a o w:=by
 intro b k cs hb hk hc;refine W.go rfl (fun w1=>?_) (h b k cs hb hk hc);have:=goes_call (P:=P) (main:=m) (b:=b) (k:=k) (cs:=cs) (w:=w1) (K:=fun g' w' es=>stepG P m (G (b.at a (.inRegion ops (i::rest)::k)) cs) w1=.go g' w' es->stepG P m (G (b.at a (.inRegion ops (i::rest)::k)) cs) w1=.go (G ((base f).at {tmps:=args.map a.eval++Array.replicate (fc.ntmps-(args.map a.eval).size) undef,defers:=[]} [.code c]) (b.at a (.inRegion ops (i::rest)::k)::cs)) w1 #[]) ho hw hk eR hf gU fK (fun e=>e);cases hg:stepG P m (G (b.at a (.inRegion ops (i::rest)::k)) cs) w1 with
 |go g' w' es=>rw[hg,goes_go] at this;rw[<- this rfl]
 |_=>rw[hg] at this;exact this.elim
end rules
end
def iZ(N:Nat->Bool)(w:ae):ae:={w with heap:=w.heap.mapIdx fun b o=>if N b then o else .cells #[] 0}
theorem lj(N:Nat->Bool)(w:ae):(iZ N w).heap.size=w.heap.size:=by simp[iZ]
theorem lZ(N:Nat->Bool)(w:ae){b:Nat}(h:N b=true):(iZ N w).heap[b]?=w.heap[b]?:=by
 simp only[iZ,Array.getElem?_mapIdx,h,if_true];cases w.heap[b]?<;>rfl
def IN(N:Nat->Bool)(f:Rn):Prop:=∀r,N r=true->f.b r=r
def IP(N:Nat->Bool)(w:ae):Prop:=∀b,N b=true->∃x,w.heap[b]?=some x/\fu x=false/\∀f,IN N f->obj f x=x
section
variable {P:Program} {T:dq} {i:Nat} {V:Nat->ae->Prop} {E:bL} {L:Nat->Bool} {N:Nat->Bool}
def Ax(P:Program)(L:Nat->Bool)(N:Nat->Bool):jJ:=⟨fun r=>N r=true,id,fun n=>L n=true,P.globals.size⟩
theorem IQ{f:Rn}(h:(Ax P L N).has f):IN N f:=fun r hr=>h.at_ r hr
theorem Sk(h1:P.globals.size≠1)(h2:∀b,N b=true->P.globals.size<=b):ES (Ax P L N) :=
 ⟨fun r hr hg=>hg,.inr ⟨fun r hr hn=>by have:=h2 r hn;show False;change r<P.globals.size at hr;omega,h1⟩⟩
theorem Sl{w:ae}(hN:IP N w)(h1:P.globals.size≠1)(h2:∀b,N b=true->P.globals.size<=b)(h3:P.globals.size<=w.heap.size):WR (Ax P L N) (iZ N w) w where
 here r hr:=by obtain⟨x,hx,_⟩:=hN r hr;rw[lj];exact(Array.getElem?_eq_some_iff.1 hx).1
 there r hr:=by obtain⟨x,hx,_⟩:=hN r hr;exact(Array.getElem?_eq_some_iff.1 hx).1
 inj r s _ _ h:=h
 tR r hr f hf:=by
  obtain⟨x,hx,_,hc⟩:=hN r hr;rw[lZ N w hr];show w.heap[r]?=_;rw[hx,aK,hc f (IQ hf)]
 Q8 r hr o ho:=by
  obtain⟨x,hx,hp,_⟩:=hN r hr;rw[lZ N w hr,hx] at ho;cases ho;exact hp
 os:=rfl
 output:=rfl
 tape:=rfl
 drawn:=rfl
 AV:=Sk h1 h2
 ET:=h3
 D5:=by rw[lj];exact h3
theorem ya{w:ae}(hN:IP N w):fN (iZ N w):=by
 intro r o ho;by_cases h:N r=true
 ·obtain⟨x,hx,hp,_⟩:=hN r h;rw[lZ N w h,hx] at ho;cases ho;exact hp
 ·have:(iZ N w).heap[r]?=(w.heap[r]?).map fun _=>.cells #[] 0:=by
   simp only[iZ,Array.getElem?_mapIdx];cases w.heap[r]?<;>simp[h]
  rw[this] at ho;cases hw:w.heap[r]? with
  |none=>rw[hw] at ho;cases ho
  |some x=>rw[hw] at ho;cases ho;rfl
structure Cu(T:dq)(i:Nat)(N:Nat->Bool)(o rc o':Nat->Prop)(w w':ae)(F':jJ)(aW:ae)(v v':Value):Prop where
 val:∀f,F'.has f->v'=Ren.val f v
 wr:WR F' aW w'
 more:∀b,o b->o' b
 own:∀r,F'.K r->o' (F'.φ r)
 vj:∀b,o' b->T.H0<=b/\b<w'.heap.size
 keep:∀r,N r=true->F'.K r/\F'.φ r=r
 rel:cY T i (fun b=>o b/\N b=false) rc w w'
theorem Cu.acQ{o rc o':Nat->Prop}{w w' aW:ae}{F':jJ}{v v':Value}(h:Cu T i N o rc o' w w' F' aW v v'){f:Rn}(hf:F'.has f):IN N f:=fun r hr=>(hf.at_ r (h.keep r hr).1).trans (h.keep r hr).2
theorem Cu.plain{o rc o':Nat->Prop}{w w' aW:ae}{F':jJ}{v v':Value}(h:Cu T i N o rc o' w w' F' aW v v')(hv:∀f,Ren.val f v=v):v'=v:=by
 obtain⟨f,hf⟩:=h.wr.some;rw[h.val f hf,hv f]
theorem Cu.stays{o rc o':Nat->Prop}{w w' wl aW:ae}{F':jJ}{v v':Value}(h:Cu T i N o rc o' w w' F' aW v v')(tx:IP N w)(hwl:∀b,N b=true->wl.heap[b]?=w.heap[b]?)(eI:∀b,N b=true->aW.heap[b]?=wl.heap[b]?):cY T i o rc w w':=by
 obtain⟨f,hf⟩:=h.wr.some;refine⟨h.rel.size,fun b hb=>?_,h.rel.ro,h.rel.sh,h.rel.mine,h.rel.chan,h.rel.Ck,h.rel.wg,h.rel.os,h.rel.output⟩;by_cases hn:N b=true
 ·obtain⟨x,hx,_,hc⟩:=tx b hn;have:=h.wr.tR b (h.keep b hn).1 f hf;rw[(h.keep b hn).2,eI b hn,hwl b hn,hx,aK,hc f (h.acQ hf)] at this;rw[this,hx]
 ·exact h.rel.own b ⟨hb,by simpa using hn⟩
theorem Cu.slice{o rc o':Nat->Prop}{w w' aW:ae}{F':jJ}{v':Value}{b off l c:Nat}(h:Cu T i N o rc o' w w' F' aW (.slice (some ⟨b,off,none⟩) l c) v'):F'.K b/\v'=.slice (some ⟨F'.φ b,off,none⟩) l c/\o' (F'.φ b):=by
 have hK:F'.K b:=by
  refine a8 fun hn=>?_;obtain⟨f,g,hf,hg,dJ,_⟩:=h.wr.two;have:=(h.val f hf).symm.trans (h.val g hg);simp[Ren.val,addr] at this;exact dJ b hn this
 obtain⟨f,hf⟩:=h.wr.some;refine⟨hK,?_,h.own b hK⟩;rw[h.val f hf];simp[Ren.val,addr,hf.at_ b hK]
end
section
variable {P:Program} {m:Bool} {R:aN->ae->ae->Prop} {Gu:aN->ae->ae->Array Event->Prop} {X:aN->aY->ae->Prop} {fn:FuncId} {Q:Exit->Act->aN->ae->Prop} {a:Act} {o:aN} {w:ae}
theorem Fe(W:fM P m R Gu X){ops:Array Oper}{todo:List Nat}{w1:ae}(h:fa X fn ops todo Q a o w)(hr:R o w w1):fa X fn ops todo Q a o w1:=fun b k cs hb hk hc=>W.rely _ _ _ _ (h b k cs hb hk hc) hr
theorem LQ(W:fM P m R Gu X){S:ae->Prop}(hS:∀w1,R o w w1->S w1){ops:Array Oper}{i:Nat}{rest:List Nat}{op:Oper}(ho:ops[i]?=some op)(hw:Region.wanted op (yielded ops a.tmps)=true){v:Value}(hr:∀w1,S w1->(execOp a.eval op).run P w1=.ok (.value v) w1)(hg:∀w1,S w1->Gu o w1 w1 (listed P fn a op w1))(h:fa X fn ops rest Q (a.put op.dst v) o w):fa X fn ops (i::rest) Q a o w :=
 lH W ho hw fun w1 h1 K hK=>by
  rw[hr w1 (hS w1 h1)];simp only[uponK_value];exact hK _ _ ⟨hg w1 (hS w1 h1),by rw[cd];exact Fe W h h1⟩
theorem zy(W:fM P m R Gu X){ops:Array Oper}{i:Nat}{rest:List Nat}{op:Oper}(ho:ops[i]?=some op)(hw:Region.wanted op (yielded ops a.tmps)=true){v:Value}(hr:∀w1,(execOp a.eval op).run P w1=.ok (.value v) w1)(hg:∀w1,(execOp a.eval op).events P w1 #[]=#[])(h:fa X fn ops rest Q (a.put op.dst v) o w):fa X fn ops (i::rest) Q a o w :=
 LQ W (S:=fun _=>True) (fun _ _=>trivial) ho hw (fun w1 _=>hr w1) (fun w1 _=>by rw[listed_nil (hg w1)];exact W.idle _ _) h
def GD:Op->Bool
 | .call c=>match c.callee with|.builtin _=>true|_=>false
 |_=>true
theorem fV(W:fM P m R Gu X){S:ae->Prop}(hS:∀w1,R o w w1->S w1){ops:Array Oper}{i:Nat}{rest:List Nat}{op:Oper}(ho:ops[i]?=some op)(hw:Region.wanted op (yielded ops a.tmps)=true)(hg:∀w1,S w1->Gu o w1 w1 (listed P fn a op w1))(h:∀w1,S w1->∀K:Act->ae->Prop,(∀a',fa X fn ops rest Q a' o w->K a' w1)->uponK op a K ((execOp a.eval op).run P w1)):fa X fn ops (i::rest) Q a o w :=
 lH W ho hw fun w1 h1 K hK=>h w1 (hS w1 h1) K fun a' q=>hK a' w1 ⟨hg w1 (hS w1 h1),by rw[cd];exact Fe W q h1⟩
theorem rq(W:fM P m R Gu X){ops:Array Oper}{i:Nat}{rest:List Nat}{op:Oper}(ho:ops[i]?=some op)(_hn:GD op.op=true)(hw:Region.wanted op (yielded ops a.tmps)=true)(hg:∀w1,(execOp a.eval op).events P w1 #[]=#[])(h:∀w1,∀K:Act->ae->Prop,(∀a',fa X fn ops rest Q a' o w->K a' w1)->uponK op a K ((execOp a.eval op).run P w1)):fa X fn ops (i::rest) Q a o w :=
 fV W (S:=fun _=>True) (fun _ _=>trivial) ho hw (fun w1 _=>by rw[listed_nil (hg w1)];exact W.idle _ _) (fun w1 _=>h w1)
def bA(P:Program)(X:aN->aY->ae->Prop)(f:FuncId)(vs:Array Value)(o:aN)(w:ae)(Post:Value->aN->ae->Prop):Prop :=
 ∀(c:Frame) (cs:List Frame),(∀v o' w',Post v o' w'->X o' (G (c.finish v) cs) w')->X o (G (Frame.enter P f vs .normal) (c::cs)) w
theorem bA.mono{f:FuncId}{vs:Array Value}{Post IS:Value->aN->ae->Prop}(h:bA P X f vs o w Post)(hp:∀v o' w',Post v o' w'->IS v o' w'):bA P X f vs o w IS :=
 fun c cs hc=>h c cs fun v o' w' q=>hc v o' w' (hp v o' w' q)
theorem iS{f:FuncId}{fc:Func}{c:Code}(hf:P.funcs[f]?=some fc)(fK:fc.body=some c)(as:Array Value):Frame.enter P f as .normal=(base f).at {tmps:=as++Array.replicate (fc.ntmps-as.size) undef,defers:=[]} [.code c]:=by
 simp[Frame.enter,hf,fK,base,Frame.at]
theorem dC(W:fM P m R Gu X){ops:Array Oper}{i:Nat}{rest:List Nat}{op:Oper}{f:FuncId}{fc:Func}{c:Code}{args:Array Operand}{sI:Array TypeId}(ho:ops[i]?=some op)(hw:Region.wanted op (yielded ops a.tmps)=true)(eR:op.op=.call {callee:=.value (.func f),args,argTypes:=sI})(hf:P.funcs[f]?=some fc)(gU:(fc.name == "runtime.NumGoroutine")=false)(fK:fc.body=some c){vs:Array Value}(x8:args.map a.eval=vs){d:Option Tmp}(hd:op.dst=d)(h:bA P X f vs o w fun v o' w'=>fa X fn ops rest Q (a.put d v) o' w'):fa X fn ops (i::rest) Q a o w:=by
 subst x8 hd;refine LP W ho hw eR hf gU fK fun b k cs hb hk hc=>?_;rw[<- iS hf fK];refine h _ _ fun v o' w' q=>?_;rw[show(b.at a (.inRegion ops (i::rest)::k)).finish v=b.at (a.put op.dst v) (.inRegion ops rest::k) by rw[ek,ho];rfl];exact q b k cs hb hk hc
theorem bD(W:fM P m R Gu X){f:FuncId}{fc:Func}{c:Code}{vs:Array Value}{Post:Value->aN->ae->Prop}(hf:P.funcs[f]?=some fc)(fK:fc.body=some c)(h:wm X f c (fun e a' o' w'=>(e=.normal\/e=.ret)/\a'.defers=[]/\∃v,ResultsC P fc a'.tmps v/\Post v o' w') {tmps:=vs++Array.replicate (fc.ntmps-vs.size) undef,defers:=[]} o w):bA P X f vs o w Post:=by
 intro cf cs hc;rw[iS hf fK];have leave:∀(a':Act) (o':aN) (w':ae) (todo:List Item) (v:Value),a'.defers=[]->ResultsC P fc a'.tmps v->Post v o' w'->X o' (G {(base f).at a' todo with mode:=.returning} (cf::cs)) w':=by
  intro a' o' w' todo v hd hr hx;refine W.go rfl (fun w1=>?_) (hc v o' w' hx);rw[stepG_leave (b:=base f) rfl hd hf (hr w1).1 (hr w1).2]
 refine h (base f) [] _ rfl (by simp[base]) fun e a' o' w' q=>?_;obtain⟨he,hd,v,hr,hx⟩:=q;rcases he with rfl|rfl
 ·exact W.go rfl (fun _=>eu) (leave a' o' w' [] v hd hr hx)
 ·exact fun todo=>leave a' o' w' todo v hd hr hx
theorem IT(W:fM P m R Gu X){x y:Code}(M:Act->aN->ae->Prop)(hx:wm X fn x (iM M Q) a o w)(hy:∀a' o' w',M a' o' w'->wm X fn y Q a' o' w'):wm X fn (.seq x y) Q a o w :=
 pO W (IK hx fun e a' o' w' q=>by cases e<;>first|exact hy _ _ _ q|exact q)
end
section
variable {P:Program} {T:dq} {i:Nat} {V:Nat->ae->Prop} {E:bL} {L:Nat->Bool} {N:Nat->Bool}
abbrev XW(P:Program)(T:dq)(i:Nat)(V:Nat->ae->Prop)(E:bL)(rc:Nat->Prop):aN->aY->ae->Prop:=fun o g w=>gT P T i V E ⟨g,o,rc,w⟩
structure gF(T:dq)(o:aN)(w:ae):Prop where
 vj:∀b,o b->T.H0<=b/\b<w.heap.size
 size:T.H0<=w.heap.size
structure cT(T:dq)(i:Nat)(rc:Nat->Prop)(o:aN)(w:ae)(o':aN)(w':ae):Prop where
 rel:cY T i o rc w w'
 ok:gF T o' w'
 more:∀b,o b->o' b
theorem cT.refl{rc:Nat->Prop}{o:aN}{w:ae}(h:gF T o w):cT T i rc o w o w:=⟨.refl w,h,fun _ h=>h⟩
theorem cT.trans{rc:Nat->Prop}{o o' o2:aN}{w w' w2:ae}(h:cT T i rc o w o' w')(k:cT T i rc o' w' o2 w2):cT T i rc o w o2 w2:=⟨h.rel.trans (k.rel.less h.more),k.ok,fun b hb=>k.more b (h.more b hb)⟩
theorem Ff{o:aN}(w:ae)(x:Obj)(hH:T.H0<=w.heap.size)(hT:T.OK):LF T i o w (w.alloc x):=by
 have hh:∀b,b<w.heap.size->(w.alloc x).heap[b]?=w.heap[b]?:=fun b hb=>RowKit.Below.heap_alloc w x b hb;refine⟨aj,fun b hb _ _=>hh b hb,fun b cs ty fz hb hx=>⟨cs,by rw[hh b (by have:=(hT.sh b hb).1;omega)];exact hx,rfl⟩,fun a ha _=>cell_of (hh _ (by have:=(hT.sh _ ha).1;omega)),rfl,rfl⟩
theorem cT.alloc{rc:Nat->Prop}{o:aN}{w w1:ae}(hT:T.OK)(hi:i<T.n)(h:gF T o w)(hr:cY T i o rc w w1)(x:Obj):cT T i rc o w (grow o w1 (w1.alloc x)) (w1.alloc x):=by
 have hh:∀b,b<w1.heap.size->(w1.alloc x).heap[b]?=w1.heap[b]?:=fun b hb=>RowKit.Below.heap_alloc w1 x b hb;have hH:=aX h.size hr.size;have old:∀b,b<T.H0->(w1.alloc x).heap[b]?=w1.heap[b]?:=fun b hb=>hh b aa;have pC:∀k,k<T.n->(w1.alloc x).heap[T.ch k]?=w1.heap[T.ch k]?:=fun k hk=>old _ (hT.ch k hk).1;refine⟨hr.trans ⟨aj,fun b hb=>hh b (bz (h.vj b hb).2 hr.size),fun b h1 _ _ _=>old b h1,fun b cs ty fz hb hx=>⟨cs,by rw[old b (hT.sh b hb).1];exact hx,rfl⟩,fun a ha=>?_,fun k s r tm c hk hx=>⟨c,by rw[pC k hk];exact hx,id⟩,pC i hi,gz (old _ hT.wg),rfl,rfl⟩,⟨fun b hb=>?_,dX⟩,fun b hb=>.inl hb⟩
 ·have key:∀k,T.kg k (.cell a)->(w1.alloc x).cell? a=w1.cell? a:=by
   intro k fy;obtain⟨a',e,hs⟩:=hT.ownSh k _ fy;cases e;exact cell_of (old _ (hT.sh _ hs).1)
  rcases ha with ha|⟨k,_,ha⟩
  ·exact key i ha
  ·exact key k ha
 ·rcases hb with hb|hb
  ·have:=h.vj b hb;have:=hr.size;simp;omega
  ·simp at hb |-;omega
theorem nS(hT:T.OK)(hi:i<T.n){rc:Nat->Prop}{fn:FuncId}{Q:Exit->Act->aN->ae->Prop}{a:Act}{o:aN}{w:ae}(gj:gF T o w){ops:Array Oper}{j:Nat}{rest:List Nat}{op:Oper}(ho:ops[j]?=some op)(hw:Region.wanted op (yielded ops a.tmps)=true){d:Option Tmp}(hd:op.dst=d)(x:Obj)(cL:∀w1,(execOp a.eval op).run P w1=.ok (.value (.pointer (some ⟨w1.heap.size,0,none⟩))) (w1.alloc x))(jl:∀w1,(execOp a.eval op).events P w1 #[]=#[])(h:∀A o1 w2,cT T i rc o w o1 w2->o1 A->w2.heap[A]?=some x->w.heap.size<=A->(∀b,o1 b↔o b\/b=A)->fa (XW P T i V E rc) fn ops rest Q (a.put d (.pointer (some ⟨A,0,none⟩))) o1 w2):fa (XW P T i V E rc) fn ops (j::rest) Q a o w:=by
 subst hd;refine lH (cN rc) ho hw fun w1 lE K hK=>?_;rw[cL w1];simp only[uponK_value];refine hK _ _ ⟨⟨Ff _ _ (aX gj.size lE.size) hT,by rw[listed_nil (jl w1)];simp⟩,h w1.heap.size _ _ (cT.alloc hT hi gj lE x) (.inr ⟨ag _,aj⟩) ?_ lE.size fun b=>?_⟩
 ·show(w1.heap.push x)[w1.heap.size]?=_;simp
 ·have:=vi o w1 x;exact Iff.of_eq (congrFun this b)
theorem wW(hT:T.OK)(hi:i<T.n)(de:rS P L 0)(KW:P.globals.size≠1)(DX:P.globals.size<=T.H0){rc:Nat->Prop}{o:aN}{w:ae}{f:FuncId}{vs:Array Value}(hL:L f=true)(gj:gF T o w)(hN:∀b,N b=true->o b)(tx:IP N w)(uv:∀g,IN N g->vs.map (val g)=vs){R:ae->Value->ae->Prop}(hR:∀wl,LA (R wl))(hRW:∀wl τ d v w',R (WT wl τ d) v w'->R wl v w')(hC:∀wl,(∀b,N b=true->wl.heap[b]?=w.heap[b]?)->w.heap.size<=wl.heap.size->Calls P f vs wl fun e w'=>∃v,e=.returned v/\R wl v w'){Post:Value->aN->ae->Prop}(h:∀wl v v' F' o' aW w',(∀b,N b=true->wl.heap[b]?=w.heap[b]?)->w.heap.size<=wl.heap.size->R wl v aW->Cu T i N o rc o' w w' F' aW v v'->Post v' o' w'):bA P (XW P T i V E rc) f vs o w Post:=by
 intro c cs hc;have hW:=Sl (P:=P) (L:=L) tx KW (fun b hb=>aX DX (gj.vj b (hN b hb)).1) (aX DX gj.size);have KZ:PF P L 0 (Ax P L N):=⟨fun r hr=>absurd hr (ef r),rfl,rfl,Sk KW fun b hb=>aX DX (gj.vj b (hN b hb)).1⟩;have Ee:∀g,(Ax P L N).has g->Frame.enter P f vs .normal=frame g (Frame.enter P f vs .normal):=fun g hg=>by
  have:=uv g (IQ hg);simp only[frame,Frame.enter,Array.map_append,this,Array.map_replicate,lF]
 have Sm:Inv P L 0 [gD] (G (Frame.enter P f vs .normal) [gD]) (iZ N w) :=
  ⟨Ax P L N,_,[],_,[],w,rfl,ub de hL _,aj,fun g hg=>⟨Ee g hg,rfl⟩,hW,ya tx,KZ⟩
 have wo:Good P (kT P f (R (iZ N w))) (G (Frame.enter P f vs .normal) [gD]) (iZ N w):=by
  refine wj de (hR _) Sm fun τ d=>?_;refine(hC (WT (iZ N w) τ d) (fun b hb=>lZ N w hb) (by show w.heap.size<=(iZ N w).heap.size;rw[lj];exact ag _)).mono ?_;rintro e w' ⟨v,rfl,hv⟩;exact⟨v,rfl,hRW _ _ _ _ _ hv⟩
 have Gx:=Ir de (Bl f _) Sm wo;have Sn:WT (iZ N w) w.tape w.drawn=iZ N w:=rfl;refine gT.call hT hi de (F0:=Ax P L N) (o0:=o) (w0:=w) (fun v v' F' o' aW w' hQ hv IU hm fy ahc acR hrel=>?_) _ Gx (Ax P L N) o _ w (by
  rw[Sn];exact⟨_,[],_,[],rfl,rfl,ub de hL _,aj,fun g hg=>⟨Ee g hg,rfl⟩,hW,ya tx,KZ,wo⟩) (fun r hr=>hN r hr) gj.vj gj.size (fun b hb=>hb) (fun r hr=>⟨hr,rfl⟩) (fun b hb r hr=>hb.2 r hr) (.refl w)
 refine hc v' o' w' (h (iZ N w) v v' F' o' aW w' (fun b hb=>lZ N w hb) (by rw[lj];exact ag _) hQ ⟨hv,IU,hm,fy,ahc,acR,hrel.less fun b hb=>⟨hb.1,fun r hr e=>?_⟩⟩);have:r=b:=e;subst this;have UY:N r=true:=hr;rw[hb.2] at UY;cases UY
theorem oK(hT:T.OK)(hi:i<T.n)(de:rS P L 0)(KW:P.globals.size≠1)(DX:P.globals.size<=T.H0){rc:Nat->Prop}{o:aN}{w:ae}{f:FuncId}{vs:Array Value}(hL:L f=true)(gj:gF T o w)(hN:∀b,N b=true->o b)(tx:IP N w)(uv:∀g,IN N g->vs.map (val g)=vs)(v:Value)(hv:∀f,val f v=v)(hC:∀wl,(∀b,N b=true->wl.heap[b]?=w.heap[b]?)->w.heap.size<=wl.heap.size->Calls P f vs wl fun e w'=>e=.returned v/\RowKit.Below wl.heap.size wl w'):
  bA P (XW P T i V E rc) f vs o w fun v' o' w'=>v'=v/\cT T i rc o w o' w':=by
 refine wW (R:=fun wl u w'=>u=v/\∀b,b<wl.heap.size->w'.heap[b]?=wl.heap[b]?) hT hi de KW DX hL gj hN tx uv (fun wl u w' τ d h=>h) (fun wl τ d u w' h=>h) (fun wl h1 h2=>(hC wl h1 h2).mono ?_) ?_
 ·rintro e w' ⟨rfl,hb⟩;exact⟨v,rfl,rfl,hb.block⟩
 ·rintro wl u v' F' o' aW w' h1 h2 ⟨rfl,h3⟩ hB;have hrel:=hB.stays tx h1 (fun b hb=>h3 b (by have:=(gj.vj b (hN b hb)).2;omega));exact⟨hB.plain hv,hrel,⟨hB.vj,aX gj.size hrel.size⟩,hB.more⟩
theorem qm(hT:T.OK)(hi:i<T.n)(de:rS P L 0)(KW:P.globals.size≠1)(DX:P.globals.size<=T.H0){rc:Nat->Prop}{o:aN}{w:ae}{f:FuncId}{vs:Array Value}(hL:L f=true)(gj:gF T o w)(uv:∀g,vs.map (val g)=vs)(v:Value)(hv:∀f,val f v=v)(hC:∀wl,Calls P f vs wl fun e w'=>e=.returned v/\RowKit.Below wl.heap.size wl w'):
  bA P (XW P T i V E rc) f vs o w fun v' o' w'=>v'=v/\cT T i rc o w o' w' :=
 oK (N:=fun _=>false) hT hi de KW DX hL gj (fun b h=>by cases h) (fun b h=>by cases h) (fun g _=>uv g) v hv fun wl _ _=>hC wl
end
section
variable {P:Program} {main:Bool} {b:Frame} {a:Act} {cs:List Frame} {w:ae}
theorem uw{fn:Func}{todo:List Item}{c:Frame}{v:Value}(hn:b.kind=.normal)(hd:a.defers=[])(hf:P.funcs[b.fn]?=some fn)(hr:(results fn a.tmps).run P w=.ok v w):
  ∃es,stepG P main (G {b.at a todo with mode:=.returning} (c::cs)) w=.go (G (c.finish v) cs) w es/\∀e∈es,e∈(results fn a.tmps).events P w #[] :=
 ⟨_,by simp[G,stepG,unwind,doReturn,Frame.at,hn,hd,hf,hr,GStep.after];rfl,fun e he=>mem_seen he⟩
end
section
variable {P:Program} {m:Bool} {R:aN->ae->ae->Prop} {Gu:aN->ae->ae->Array Event->Prop} {X:aN->aY->ae->Prop} {o:aN} {w:ae}
def uy(P:Program)(R:aN->ae->ae->Prop)(Gu:aN->ae->ae->Array Event->Prop)(fc:Func)(tmps:Array Value)(o:aN)(w:ae)(v:Value):Prop :=
 ∀w1,R o w w1->(results fc tmps).run P w1=.ok v w1/\∀es:Array Event,(∀e∈es,e∈(results fc tmps).events P w1 #[])->Gu o w1 w1 es
theorem eC(W:fM P m R Gu X){f:FuncId}{fc:Func}{c:Code}{vs:Array Value}{Post:Value->aN->ae->Prop}(hf:P.funcs[f]?=some fc)(fK:fc.body=some c)(h:wm X f c (fun e a' o' w'=>(e=.normal\/e=.ret)/\a'.defers=[]/\∃v,uy P R Gu fc a'.tmps o' w' v/\Post v o' w') {tmps:=vs++Array.replicate (fc.ntmps-vs.size) undef,defers:=[]} o w):bA P X f vs o w Post:=by
 intro cf cs hc;rw[iS hf fK];have leave:∀(a':Act) (o':aN) (w':ae) (todo:List Item) (v:Value),a'.defers=[]->uy P R Gu fc a'.tmps o' w' v->Post v o' w'->X o' (G {(base f).at a' todo with mode:=.returning} (cf::cs)) w':=by
  intro a' o' w' todo v hd hr hx;refine W.step _ _ _ rfl fun w1 h1=>?_;obtain⟨es,e1,e2⟩:=uw (main:=m) (b:=base f) (a:=a') (todo:=todo) (c:=cf) (cs:=cs) rfl hd hf (hr w1 h1).1;exact⟨_,_,es,e1,(hr w1 h1).2 es e2,by rw[cd];exact W.rely _ _ _ _ (hc v o' w' hx) h1⟩
 refine h (base f) [] _ rfl (by simp[base]) fun e a' o' w' q=>?_;obtain⟨he,hd,v,hr,hx⟩:=q;rcases he with rfl|rfl
 ·exact W.go rfl (fun _=>eu) (leave a' o' w' [] v hd hr hx)
 ·exact fun todo=>leave a' o' w' todo v hd hr hx
end
section
variable {T:dq} {i:Nat} {N:Nat->Bool} {o rc o':Nat->Prop} {w w' aW:ae} {F':jJ} {v v':Value}
theorem VN{F:jJ}{wl w:ae}(W:WR F wl w){b off:Nat}{x:Value}(hK:F.K b)(hx:∀f,val f x=x)(hc:wl.cell? ⟨b,off,none⟩=some x):w.cell? ⟨F.φ b,off,none⟩=some x:=by
 obtain⟨f,hf⟩:=W.some;have h:=W.tR b hK f hf;simp only[World.cell?] at hc |-;rw[h];cases hb:wl.heap[b]? with
 |none=>rw[hb] at hc;cases hc
 |some y =>
  rw[hb] at hc;cases y<;>simp only[aK,obj] at hc |-<;>first|cases hc;done|skip
  simp only[Option.isSome_none,aM,if_false] at hc |-;simp only[aL,hc,aK,hx f]
theorem Cu.cell(h:Cu T i N o rc o' w w' F' aW v v'){b off:Nat}{x:Value}(hN:N b=true)(hx:∀f,Ren.val f x=x)(hc:aW.cell? ⟨b,off,none⟩=some x):w'.cell? ⟨b,off,none⟩=some x:=by
 have:=VN h.wr (h.keep b hN).1 hx hc;rwa[(h.keep b hN).2] at this
end
section
variable {P:Program} {T:dq} {i:Nat} {V:Nat->ae->Prop} {E:bL} {rc o:Nat->Prop} {w w':ae}
structure ij(A:Nat)(w w':ae):Prop where
 size:w'.heap.size=w.heap.size
 heap:∀b,b≠A->w'.heap[b]?=w.heap[b]?
 os:w'.os=w.os
 output:w'.output=w.output
theorem ij.set(w:ae)(A off:Nat)(v:Value):ij A w (w.setCell ⟨A,off,none⟩ v):=⟨by simp[World.setCell],fun b hb=>RowKit.Below.heap_setCell w _ _ b hb,rfl,rfl⟩
theorem ij.trans{A:Nat}{w w1 w2:ae}(h:ij A w w1)(k:ij A w1 w2):ij A w w2:=⟨k.size.trans h.size,fun b hb=>(k.heap b hb).trans (h.heap b hb),k.os.trans h.os,k.output.trans h.output⟩
theorem ij.guW{A:Nat}(hT:T.OK)(h:ij A w w')(hA:o A)(ZB:T.H0<=A):LF T i o w w':=by
 have hh:∀b,T.Sh b->w'.heap[b]?=w.heap[b]?:=fun b hb=>h.heap b (by have:=(hT.sh b hb).1;omega);exact⟨bH h.size.symm,fun b _ hb _=>h.heap b fun e=>hb (e▸hA),fun b cs ty fz hb hx=>⟨cs,by rw[hh b hb];exact hx,rfl⟩,fun a ha _=>cell_of (hh _ ha),h.os,h.output⟩
theorem ij.Cn{A:Nat}(hT:T.OK)(hi:i<T.n)(h:ij A w w')(ZB:T.H0<=A):cY T i (fun b=>o b/\b≠A) rc w w':=by
 have old:∀b,b<T.H0->w'.heap[b]?=w.heap[b]?:=fun b hb=>h.heap b aa;have pC:∀k,k<T.n->w'.heap[T.ch k]?=w.heap[T.ch k]?:=fun k hk=>old _ (hT.ch k hk).1;refine⟨bH h.size.symm,fun b hb=>h.heap b hb.2,fun b h1 _ _ _=>old b h1,fun b cs ty fz hb hx=>⟨cs,by rw[old b (hT.sh b hb).1];exact hx,rfl⟩,fun a ha=>?_,fun k s r tm c hk hx=>⟨c,by rw[pC k hk];exact hx,id⟩,pC i hi,gz (old _ hT.wg),h.os,h.output⟩;have key:∀k,T.kg k (.cell a)->w'.cell? a=w.cell? a:=by
  intro k fy;obtain⟨a',e,hs⟩:=hT.ownSh k _ fy;cases e;exact cell_of (old _ (hT.sh _ hs).1)
 rcases ha with ha|⟨k,_,ha⟩
 ·exact key i ha
 ·exact key k ha
theorem yc{ad:Addr}{wt sy:Bool}(h:o ad.block):NG T i o rc ⟨.cell ad,wt,sy⟩:=by
 refine⟨fun x hx _=>.inl ⟨ad.block,h,?_⟩,aj,aj,aj⟩;simp only[MemAct.ofEvent,MemAct.touch?,ay] at hx;subst hx;rfl
structure rJ(T:dq)(i:Nat)(rc:Nat->Prop)(A:Nat)(o:aN)(w:ae)(o':aN)(w':ae):Prop where
 rel:cY T i (fun b=>o b/\b≠A) rc w w'
 ok:gF T o' w'
 more:∀b,o b->o' b
theorem cT.wX{A:Nat}{o':aN}(h:cT T i rc o w o' w'):rJ T i rc A o w o' w':=⟨h.rel.less fun b hb=>hb.1,h.ok,h.more⟩
theorem rJ.trans{A:Nat}{o' o2:aN}{w2:ae}(h:rJ T i rc A o w o' w')(k:rJ T i rc A o' w' o2 w2):rJ T i rc A o w o2 w2:=⟨h.rel.trans (k.rel.less fun b hb=>⟨h.more b hb.1,hb.2⟩),k.ok,fun b hb=>k.more b (h.more b hb)⟩
theorem rJ.later{A:Nat}{o':aN}(h:rJ T i rc A o w o' w')(hA:¬o A):cT T i rc o w o' w':=⟨h.rel.less fun b hb=>⟨hb,fun e=>hA (e▸hb)⟩,h.ok,h.more⟩
theorem qo(hT:T.OK)(hi:i<T.n){fn:FuncId}{Q:Exit->Act->aN->ae->Prop}{a:Act}(gj:gF T o w){ops:Array Oper}{j:Nat}{rest:List Nat}{op:Oper}(ho:ops[j]?=some op)(hw:Region.wanted op (yielded ops a.tmps)=true)(A:Nat)(hA:o A){f:ae->ae}(cL:∀w1,w1.heap[A]?=w.heap[A]?->(execOp a.eval op).run P w1=.ok .skip (f w1))(hf:∀w1,ij A w1 (f w1))(jl:∀w1,w1.heap[A]?=w.heap[A]?->∀e∈(execOp a.eval op).events P w1 #[],∃ad wt sy,e=⟨.cell ad,wt,sy⟩/\ad.block=A)(h:∀w1,w1.heap[A]?=w.heap[A]?->rJ T i rc A o w o (f w1)->fa (XW P T i V E rc) fn ops rest Q (a.put op.dst undef) o (f w1)):fa (XW P T i V E rc) fn ops (j::rest) Q a o w:=by
 refine lH (cN rc) ho hw fun w1 lE K hK=>?_;have IV:=lE.own A hA;have ZB:=(gj.vj A hA).1;rw[cL w1 IV];simp only[uponK_skip];have hO:=hf w1;refine hK _ _ ⟨⟨hO.guW hT hA ZB,fun e he=>?_⟩,?_⟩
 ·obtain⟨ad,wt,sy,rfl,e2⟩:=jl w1 IV e (mem_listed he);exact yc (.inl (by rw[e2];exact hA))
 ·rw[kM o hO.size];refine h w1 IV ⟨(lE.less fun b hb=>hb.1).trans (hO.Cn hT hi ZB),⟨fun b hb=>?_,?_⟩,fun _ hb=>hb⟩
  ·have:=gj.vj b hb;have:=lE.size;have:=hO.size;omega
  ·have:=gj.size;have:=lE.size;have:=hO.size;omega
theorem ZC{F:jJ}{wl w:ae}(W:WR F wl w){b t n:Nat}{g:Nat->Value}(hK:F.K b)(hg:∀j,j<n->∀f,val f (g j)=g j)(hr:wl.rowIs b t n g):w.rowIs (F.φ b) t n g:=by
 obtain⟨f,hf⟩:=W.some;obtain⟨c,hb,hn,hc⟩:=hr;refine⟨c.map (val f),?_,by simpa using hn,fun j hj=>?_⟩
 ·rw[W.tR b hK f hf,hb];rfl
 ·rw[aL,hc j hj,aK,hg j hj f]
end
def cH(ops:Array Oper)(v:Nat->Value)(a:Act):List Nat->Act
 | []=>a
 |i::l=>cH ops v (a.put ((ops[i]?).bind (·.dst)) (v i)) l
def gG(ops:Array Oper)(i:Nat):Option Tmp:=(ops[i]?).bind (·.dst)
section
variable {ops:Array Oper} {v:Nat->Value} {a:Act}
theorem iN(a:Act)(l l':List Nat):cH ops v a (l++l')=cH ops v (cH ops v a l) l':=by
 induction l generalizing a with
 |nil=>rfl
 |cons i l ih=>exact ih _
theorem Ay(l:List Nat):∀a:Act,(cH ops v a l).tmps.size=a.tmps.size:=by
 induction l with
 |nil=>intro a;rfl
 |cons i l ih =>
  intro a;simp only[cH];rw[ih];unfold Act.put;split<;>simp
theorem kp(hd:∀i j d,i≠j->gG ops i=some d->gG ops j≠some d){l l':List Nat}(h:l.Perm l'):∀a:Act,cH ops v a l=cH ops v a l':=by
 induction h with
 |nil=>intro a;rfl
 |cons x _ ih=>intro a;exact ih _
 |swap x y l =>
  intro a;simp only[cH];by_cases e:x=y
  ·subst e;rfl
  ·exact congrArg (fun z=>cH ops v z l) (Act.put_comm a (x:=gG ops y) (y:=gG ops x) (v y) (v x) (fun d VK=>hd y x d (bq e) VK))
 |trans _ _ ih1 ih2=>intro a;exact(ih1 a).trans (ih2 a)
theorem py{x:Operand}(l:List Nat):∀a:Act,(∀i∈l,∀d,gG ops i=some d->x≠.tmp d)->(cH ops v a l).eval x=a.eval x:=by
 induction l with
 |nil=>intro a _;rfl
 |cons i l ih =>
  intro a h;simp only[cH];rw[ih _ (fun j hj=>h j (by simp[hj]))];exact Act.eval_put (fun d VK=>h i aj d VK)
end
theorem qp:∀(n:Nat) (l:List Nat),l.Nodup->(∀x∈l,x<n)->l.length<=n:=by
 intro n
 induction n with
 |zero =>
  intro l _ h;cases l with
  |nil=>simp
  |cons x l=>have:=h x aj;omega
 |succ n ih =>
  intro l hl h;have h1:=ih (l.erase n) (hl.erase n) fun x hx=>by
   have xx:=(List.Nodup.mem_erase_iff hl).1 hx;have:=h x xx.2;have:=xx.1;omega
  have h2:l.length<=(l.erase n).length+1:=by
   by_cases hm:n∈l
   ·rw[List.length_erase_of_mem hm];omega
   ·rw[List.erase_of_not_mem hm];omega
  omega
theorem go_acc(md:Region.Mode)(ops:Array Oper):∀(fuel t:Nat) (ls:Array Bool) (acc:List Nat),Region.linearise.go md ops fuel t ls acc=acc.reverse++Region.linearise.go md ops fuel t ls []:=by
 intro fuel
 induction fuel with
 |zero=>intro t ls acc;simp[Region.linearise.go]
 |succ n ih =>
  intro t ls acc;simp only[Region.linearise.go];split
  ·rename_i i hi;rw[ih _ _ (i::acc),ih _ _ [i]];simp
  ·simp
structure uz(ops:Array Oper)(n:Nat)(ls:Array Bool)(done:List Nat):Prop where
 sz:ls.size=n
 nd:done.Nodup
 got:∀j,ls.getD j false=true↔j∈done
 lt:∀j∈done,j<n
 cl:∀j∈done,∀op,ops[j]?=some op->∀e∈op.after,Region.binds .any e=true->e.on∈done
theorem uz.zero(ops:Array Oper)(n:Nat):uz ops n (Array.replicate n false) []:=by
 refine⟨aj,List.nodup_nil,fun j=>?_,aj,aj⟩;simp only[bT,dj,iff_false];by_cases hj:j<n<;>simp[hj]
theorem uz.step{ops:Array Oper}{n:Nat}{ls:Array Bool}{done:List Nat}(h:uz ops n ls done)(hn:ops.size=n)(Cv:∀(i:Nat) (op:Oper),ops[i]?=some op->∀e∈op.after,Region.binds .any e=true->e.on<i)(hd:done.length<n)(fuel t:Nat):∃i op t',i<n/\i∉done/\ops[i]?=some op/\(∀e∈op.after,Region.binds .any e=true->e.on∈done)/\Region.linearise.go .any ops (fuel+1) t ls []=i::Region.linearise.go .any ops fuel t' (ls.setIfInBounds i true) []/\uz ops n (ls.setIfInBounds i true) (done++[i]):=by
 obtain⟨fJ,vk,hls,cB,fB⟩:=h;simp only[Region.linearise.go];generalize Cw:(List.range ops.size).filter (fun i=>!ls.getD i true&&((ops[i]?).map (·.after.all fun e=>!Region.binds .any e||ls.getD e.on false)).getD false)=rs;have mem:∀i,i∈rs↔i<n/\i∉done/\∃op,ops[i]?=some op/\∀e∈op.after,Region.binds .any e=true->e.on∈done:=by
  intro i;rw[<- Cw,List.mem_filter,ll,hn];constructor
  ·rintro⟨h1,h2⟩;simp only[bc,eD] at h2;have ql:i<ls.size:=aa;have e1:ls.getD i true=ls.getD i false:=by simp[bT,ql]
   refine⟨h1,fun hd=>?_,?_⟩
   ·have:=(hls i).2 hd;rw[<- e1,h2.1] at this;cases this
   ·cases ho:ops[i]? with
    |none=>rw[ho] at h2;simp at h2
    |some op =>
     rw[ho] at h2;refine⟨op,rfl,fun e he Rk=>?_⟩;simp only[aK,br,Array.all_eq_true'] at h2;have:=h2.2 e he;simp only[Rk,Bool.not_true,Bool.false_or] at this;exact(hls e.on).1 this
  ·rintro⟨h1,h2,op,ho,h3⟩;have ql:i<ls.size:=aa;have e1:ls.getD i true=ls.getD i false:=by simp[bT,ql]
   refine⟨h1,?_⟩;simp only[bc,eD];refine⟨?_,?_⟩
   ·rw[e1];cases hx:ls.getD i false with
    |false=>rfl
    |true=>exact absurd ((hls i).1 hx) h2
   ·rw[ho];simp only[aK,br,Array.all_eq_true'];intro e he;cases Rk:Region.binds .any e with
    |false=>rfl
    |true=>simp only[Bool.not_true,Bool.false_or];exact(hls e.on).2 (h3 e he Rk)
 have dJ:rs≠[]:=by
  intro e;have all:∀j,j<n->j∈done:=by
   intro j
   induction j using Nat.strongRecOn with
   |ind j ihj =>
    intro hj;refine a8 fun hd=>?_;obtain⟨op,ho⟩:∃op,ops[j]?=some op:=⟨ops[j]'aa,aO aa⟩;have:j∈rs:=(mem j).2 ⟨hj,hd,op,ho,fun e he hb=>ihj _ (Cv j op ho e he hb) (by have:=Cv j op ho e he hb;omega)⟩;rw[e] at this;cases this
  have hle:=((du vk iH).2 fun j=>⟨fun h=>List.mem_range.2 (cB j h),fun h=>all j (List.mem_range.1 h)⟩).length_eq;simp at hle;omega
 have hlen:0<rs.length:=List.length_pos_iff.2 dJ;obtain⟨i,hi⟩:∃i,rs[t%rs.length]?=some i:=⟨rs[t%rs.length]'(Nat.mod_lt _ hlen),bp _⟩;simp only[hi];rw[go_acc];simp only[List.reverse_cons,List.reverse_nil,List.nil_append,List.cons_append];obtain⟨h1,h2,op,ho,h3⟩:=(mem i).1 (List.mem_of_getElem? hi);refine⟨i,op,t/rs.length,h1,h2,ho,h3,rfl,by simp[fJ],List.nodup_append.2 ⟨vk,aj,fun x hx y hy=>by simp at hy;subst hy;rintro rfl;exact h2 hx⟩,fun j=>?_,fun j hj=>?_,fun j hj IW pK e he Rk=>?_⟩
 ·rw[gM,List.mem_singleton];by_cases Bn:i=j
  ·subst Bn;simp[bT,show i<ls.size by omega]
  ·rw[bT,aT Bn,<- bT,hls j];exact⟨.inl,fun h=>h.elim (fun h=>h) fun h=>absurd h.symm Bn⟩
 ·rcases List.mem_append.1 hj with hj|hj
  ·exact cB j hj
  ·simp at hj;omega
 ·rcases List.mem_append.1 hj with hj|hj
  ·exact List.mem_append.2 (.inl (fB j hj IW pK e he Rk))
  ·simp at hj;subst hj;rw[ho] at pK;cases pK;exact List.mem_append.2 (.inl (h3 e he Rk))
section
variable {P:Program} {m:Bool} {R:aN->ae->ae->Prop} {Gu:aN->ae->ae->Array Event->Prop} {X:aN->aY->ae->Prop} {fn:FuncId} {Q:Exit->Act->aN->ae->Prop} {a:Act} {o:aN} {w:ae}
theorem VO(W:fM P m R Gu X)(wY:P.follows .mixedOrders=true){id n:Nat}{ops:Array Oper}(hn:ops.size=n+1){v:Nat->Value}{S:ae->Prop}(hS:∀w w1,S w->R o w w1->S w1)(ZD:∀w:ae,S w->S {w with drawn:=w.drawn+1})(ZE:∀w:ae,Gu o w {w with drawn:=w.drawn+1} #[])(h0:S w)(Cv:∀(i:Nat) (op:Oper),ops[i]?=some op->∀e∈op.after,e.on<i)(Sp:∀D:Nat->Prop,(∀(i:Nat) (op:Oper),ops[i]?=some op->D i->∀e∈op.after,Region.binds .any e=true->D e.on)->D n->∀j,j<=n->D j)(Sq:∀i j d,i≠j->gG ops i=some d->gG ops j≠some d)(eR:∀(i:Nat) (op:Oper),i<n->ops[i]?=some op->∀done:List Nat,done.Nodup->i∉done->(∀j∈done,j<n)->(∀e∈op.after,Region.binds .any e=true->e.on∈done)->∀w1,S w1 ->
   Region.wanted op (yielded ops (cH ops v a done).tmps)=true/\(execOp (cH ops v a done).eval op).run P w1=.ok (.value (v i)) w1/\Gu o w1 w1 (listed P fn (cH ops v a done) op w1)){b:Frame}{k:List Item}{cs:List Frame}(hb:b.fn=fn)(hk:b.kind≠.early)(uo:∀w',S w'->X o (G (b.at (cH ops v a (List.range n)) (.inRegion ops [n]::k)) cs) w'):
  X o (G (b.at a (.code (.region id ops true)::k)) cs) w:=by
 have key:∀(fuel t:Nat) (ls:Array Bool) (done:List Nat) (w:ae),S w->uz ops (n+1) ls done->(∀j∈done,j<n)->fuel+done.length=n+1 ->
   X o (G (b.at (cH ops v a done) (.inRegion ops (Region.linearise.go .any ops fuel t ls [])::k)) cs) w:=by
  intro fuel
  induction fuel with
  |zero =>
   intro t ls done w hw hL cB X9;have h1:=qp n done hL.nd cB;simp at X9;omega
  |succ fuel ih =>
   intro t ls done w hw hL cB X9;obtain⟨i,op,t',h1,h2,ho,h3,el,hL'⟩:=hL.step hn (fun i op ho e he _=>Cv i op ho e he) aa fuel t;rw[el];have vk:=hL.nd;have fB:=hL.cl;by_cases rU:i=n
   ·
    subst rU;have all:∀j,j<=i->j∈i::done:=Sp (fun j=>j∈i::done) (fun j IW pK hj e he Rk=>by
     rcases List.mem_cons.1 hj with rfl|hj
     ·rw[ho] at pK;cases pK;exact bE _ (h3 e he Rk)
     ·exact bE _ (fB j hj IW pK e he Rk)) aj
    have hp:done.Perm (List.range i):=by
     refine(du vk iH).2 fun j=>?_;rw[ll];constructor
     ·exact cB j
     ·intro hj;rcases List.mem_cons.1 (all j aa) with e|e
      ·omega
      ·exact e
    have hdl:done.length=i:=by rw[hp.length_eq];simp
    have kN:fuel=0:=aa;subst kN;simp only[Region.linearise.go,List.reverse_nil];rw[kp Sq hp];exact uo w hw
   ·have ZF:i<n:=aa;refine W.step o _ w rfl fun w1 rm=>?_;have VP:=hS w w1 hw rm;obtain⟨g1,g2,g3⟩:=eR i op ZF ho done vk h2 cB h3 w1 VP;refine⟨_,w1,_,eJ ho g1 hk g2,hb▸g3,?_⟩;rw[cd];have epa:(cH ops v a done).put op.dst (v i)=cH ops v a (done++[i]):=by
     rw[iN];simp[cH,ho]
    rw[epa];clear epa;refine ih t' _ (done++[i]) w1 VP hL' (fun j hj=>?_) dX;rcases List.mem_append.1 hj with hj|hj
    ·exact cB j hj
    ·simp at hj;omega
 refine W.step o _ w rfl fun w1 rm=>⟨_,_,_,stepG_region_draw,ZE w1,?_⟩;rw[kM o ar];have Sr:∀t,Region.schedule (P.follows .mixedOrders) ops t=Region.linearise.go .any ops (n+1) t (Array.replicate (n+1) false) []:=by
  intro t;simp[Region.schedule,wY,Region.linearise,hn]
 rw[Sr];exact key (n+1) (w1.tape w1.drawn (.order b.fn id)) (Array.replicate (n+1) false) [] {w1 with drawn:=w1.drawn+1} (ZD _ (hS w w1 h0 rm)) (uz.zero ops _) aj aj
theorem PH(W:fM P m R Gu X)(wY:P.follows .mixedOrders=true){id n:Nat}{ops:Array Oper}(hn:ops.size=n+1){v:Nat->Value}{S:aN->ae->Prop}(hS:∀o w w1,S o w->R o w w1->S o w1)(ZD:∀o (w:ae),S o w->S o {w with drawn:=w.drawn+1})(ZE:∀w:ae,Gu o w {w with drawn:=w.drawn+1} #[])(h0:S o w)(Cv:∀(i:Nat) (op:Oper),ops[i]?=some op->∀e∈op.after,e.on<i)(Sp:∀D:Nat->Prop,(∀(i:Nat) (op:Oper),ops[i]?=some op->D i->∀e∈op.after,Region.binds .any e=true->D e.on)->D n->∀j,j<=n->D j)(Sq:∀i j d,i≠j->gG ops i=some d->gG ops j≠some d)(eR:∀(i:Nat) (op:Oper),i<n->ops[i]?=some op->∀done:List Nat,done.Nodup->i∉done->(∀j∈done,j<n)->(∀e∈op.after,Region.binds .any e=true->e.on∈done)->∀o w rest,S o w ->
   (∀o' w',S o' w'->fa X fn ops rest Q ((cH ops v a done).put op.dst (v i)) o' w')->fa X fn ops (i::rest) Q (cH ops v a done) o w)(uo:∀o w,S o w->fa X fn ops [n] Q (cH ops v a (List.range n)) o w):
  wm X fn (.region id ops true) Q a o w:=by
 have key:∀(fuel t:Nat) (ls:Array Bool) (done:List Nat) (o:aN) (w:ae),S o w->uz ops (n+1) ls done->(∀j∈done,j<n)->fuel+done.length=n+1 ->
   fa X fn ops (Region.linearise.go .any ops fuel t ls []) Q (cH ops v a done) o w:=by
  intro fuel
  induction fuel with
  |zero =>
   intro t ls done o w hw hL cB X9;have h1:=qp n done hL.nd cB;simp at X9;omega
  |succ fuel ih =>
   intro t ls done o w hw hL cB X9;obtain⟨i,op,t',h1,h2,ho,h3,el,hL'⟩:=hL.step hn (fun i op ho e he _=>Cv i op ho e he) aa fuel t;rw[el];have vk:=hL.nd;have fB:=hL.cl;by_cases rU:i=n
   ·
    subst rU;have all:∀j,j<=i->j∈i::done:=Sp (fun j=>j∈i::done) (fun j IW pK hj e he Rk=>by
     rcases List.mem_cons.1 hj with rfl|hj
     ·rw[ho] at pK;cases pK;exact bE _ (h3 e he Rk)
     ·exact bE _ (fB j hj IW pK e he Rk)) aj
    have hp:done.Perm (List.range i):=by
     refine(du vk iH).2 fun j=>?_;rw[ll];constructor
     ·exact cB j
     ·intro hj;rcases List.mem_cons.1 (all j aa) with e|e
      ·omega
      ·exact e
    have hdl:done.length=i:=by rw[hp.length_eq];simp
    have kN:fuel=0:=aa;subst kN;simp only[Region.linearise.go,List.reverse_nil];rw[kp Sq hp];exact uo o w hw
   ·have ZF:i<n:=aa;refine eR i op ZF ho done vk h2 cB h3 o w _ hw fun o1 w1 VP=>?_;have epa:(cH ops v a done).put op.dst (v i)=cH ops v a (done++[i]):=by
     rw[iN];simp[cH,ho]
    rw[epa];clear epa;refine ih t' _ (done++[i]) o1 w1 VP hL' (fun j hj=>?_) dX;rcases List.mem_append.1 hj with hj|hj
    ·exact cB j hj
    ·simp at hj;omega
 intro b k cs hb hk hc;refine W.step o _ w rfl fun w1 rm=>⟨_,_,_,stepG_region_draw,ZE w1,?_⟩;rw[kM o ar];have Sr:∀t,Region.schedule (P.follows .mixedOrders) ops t=Region.linearise.go .any ops (n+1) t (Array.replicate (n+1) false) []:=by
  intro t;simp[Region.schedule,wY,Region.linearise,hn]
 rw[Sr];exact key (n+1) (w1.tape w1.drawn (.order b.fn id)) (Array.replicate (n+1) false) [] o {w1 with drawn:=w1.drawn+1} (ZD _ _ (hS o w w1 h0 rm)) (uz.zero ops _) aj aj b k cs hb hk hc
end
section
variable {P:Program} {T:dq} {i:Nat} {V:Nat->ae->Prop} {E:bL}
abbrev yd:=Exit->Act->(Nat->Prop)->aN->ae->Prop
def LR(P:Program)(T:dq)(i:Nat)(V:Nat->ae->Prop)(E:bL)(fn:FuncId)(c:Code)(Q:yd)(a:Act)(rc:Nat->Prop)(o:aN)(w:ae):Prop :=
 ∀(b:Frame) (k:List Item) (cs:List Frame),b.fn=fn->b.kind≠.early->(∀e a' oo o' w',Q e a' oo o' w'->uu (XW P T i V E oo) b k cs e a' o' w')->XW P T i V E rc o (G (b.at a (.code c::k)) cs) w
def Ss(M:Act->(Nat->Prop)->aN->ae->Prop)(Q:yd):yd
 | .normal,a,rc,o,w=>M a rc o w
 |e,a,rc,o,w=>Q e a rc o w
def ye(id:Nat)(Q:yd):yd
 | .exit Sj,a,rc,o,w=>if Sj=id then Q .normal a rc o w else Q (.exit Sj) a rc o w
 |e,a,rc,o,w=>Q e a rc o w
variable {fn:FuncId} {Q:yd} {a:Act} {rc:Nat->Prop} {o:aN} {w:ae}
theorem fO{c:Code}(h:wm (XW P T i V E rc) fn c (fun e a' o' w'=>Q e a' rc o' w') a o w):LR P T i V E fn c Q a rc o w :=
 fun b k cs hb hk hc=>h b k cs hb hk fun e a' o' w' q=>hc e a' rc o' w' q
theorem kV{x y:Code}(h:LR P T i V E fn x (Ss (fun a' oo o' w'=>LR P T i V E fn y Q a' oo o' w') Q) a rc o w):LR P T i V E fn (.seq x y) Q a rc o w:=by
 intro b k cs hb hk hc;refine(cN rc).go rfl (fun _=>aD) (h b (.code y::k) cs hb hk fun e a' oo o' w' q=>?_);cases e with
 |normal=>exact q b k cs hb hk hc
 |exit id=>exact(hc _ _ _ _ _ q).push rfl aj
 |ret=>exact(hc _ _ _ _ _ q).push (y:=.code y) rfl aj
 |goto l=>exact hc _ _ _ _ _ q
 |panic ch=>exact hc _ _ _ _ _ q
 |outgrown=>exact hc _ _ _ _ _ q
theorem IX{c:Operand}{x y:Code}{t:Bool}(hc:a.eval c=.bool t)(ht:t=true->LR P T i V E fn x Q a rc o w)(hf:t=false->LR P T i V E fn y Q a rc o w):LR P T i V E fn (.cond c x y) Q a rc o w:=by
 intro b k cs hb hk hq;refine(cN rc).go rfl (fun _=>eB hc) ?_;cases t with
 |true=>exact ht rfl b k cs hb hk hq
 |false=>exact hf rfl b k cs hb hk hq
theorem Fg{id:Nat}{c:Code}(h:LR P T i V E fn c (ye id Q) a rc o w):LR P T i V E fn (.block id c) Q a rc o w:=by
 intro b k cs hb hk hc;refine(cN rc).go rfl (fun _=>fh) (h b (.inBlock id::k) cs hb hk fun e a' oo o' w' q=>?_);cases e with
 |normal=>exact(cN oo).go rfl (fun _=>gA) (hc _ _ _ _ _ q)
 |exit Sj =>
  by_cases hid:Sj=id
  ·simp only[ye,hid,if_true] at q;exact⟨k,by simp[exitTo,hid],hc _ _ _ _ _ q⟩
  ·simp only[ye,hid,if_false] at q;obtain⟨k',lX,hg⟩:=hc _ _ _ _ _ q;have:(id==Sj)=false:=by simp;exact fun h=>hid h.symm
   exact⟨k',by simp[exitTo,this,lX],hg⟩
 |ret=>exact fun todo=>hc _ _ _ _ _ q todo
 |goto l=>exact hc _ _ _ _ _ q
 |panic ch=>exact hc _ _ _ _ _ q
 |outgrown=>exact hc _ _ _ _ _ q
theorem Su{c:Code}(I:Nat->Act->(Nat->Prop)->aN->ae->Prop){N:Nat}(h0:I N a rc o w)(round:∀n a rc o w,I n a rc o w->LR P T i V E fn c (Ss (fun a' oo o' w'=>∃n',n'<n/\I n' a' oo o' w') Q) a rc o w):LR P T i V E fn (.loop c) Q a rc o w:=by
 intro b k cs hb hk hc;have key:∀N a rc o w,I N a rc o w->XW P T i V E rc o (G (b.at a (.code c :: .inLoop c::k)) cs) w:=by
  intro N
  induction N using Nat.strongRecOn with
  |ind N ih =>
   intro a rc o w hI;refine round N a rc o w hI b (.inLoop c::k) cs hb hk fun e a' oo o' w' q=>?_;cases e with
   |normal =>
    obtain⟨n',hn,hI'⟩:=q;exact(cN oo).go rfl (fun _=>iR) (ih n' hn a' oo o' w' hI')
   |exit id=>exact(hc _ _ _ _ _ q).push rfl aj
   |ret=>exact(hc _ _ _ _ _ q).push (y:=.inLoop c) rfl aj
   |goto l=>exact hc _ _ _ _ _ q
   |panic ch=>exact hc _ _ _ _ _ q
   |outgrown=>exact hc _ _ _ _ _ q
 exact(cN rc).go rfl (fun _=>jR) (key N a rc o w h0)
def Fh(P:Program)(T:dq)(i:Nat)(V:Nat->ae->Prop)(E:bL)(f:FuncId)(vs:Array Value)(rc:Nat->Prop)(o:aN)(w:ae)(Post:Value->(Nat->Prop)->aN->ae->Prop):Prop :=
 ∀(c:Frame) (cs:List Frame),(∀v oo o' w',Post v oo o' w'->XW P T i V E oo o' (G (c.finish v) cs) w')->XW P T i V E rc o (G (Frame.enter P f vs .normal) (c::cs)) w
theorem Fh.mono{f:FuncId}{vs:Array Value}{Post IS:Value->(Nat->Prop)->aN->ae->Prop}(h:Fh P T i V E f vs rc o w Post)(hp:∀v oo o' w',Post v oo o' w'->IS v oo o' w'):Fh P T i V E f vs rc o w IS :=
 fun c cs hc=>h c cs fun v oo o' w' q=>hc v oo o' w' (hp v oo o' w' q)
theorem GF{f:FuncId}{fc:Func}{c:Code}{vs:Array Value}{Post:Value->(Nat->Prop)->aN->ae->Prop}(hf:P.funcs[f]?=some fc)(fK:fc.body=some c)(h:LR P T i V E f c (fun e a' oo o' w'=>(e=.normal\/e=.ret)/\a'.defers=[]/\∃v,ResultsC P fc a'.tmps v/\Post v oo o' w') {tmps:=vs++Array.replicate (fc.ntmps-vs.size) undef,defers:=[]} rc o w):Fh P T i V E f vs rc o w Post:=by
 intro cf cs hc;rw[iS hf fK];have leave:∀(a':Act) (oo:Nat->Prop) (o':aN) (w':ae) (todo:List Item) (v:Value),a'.defers=[]->ResultsC P fc a'.tmps v->Post v oo o' w'->XW P T i V E oo o' (G {(base f).at a' todo with mode:=.returning} (cf::cs)) w':=by
  intro a' oo o' w' todo v hd hr hx;refine(cN oo).go rfl (fun w1=>?_) (hc v oo o' w' hx);rw[stepG_leave (b:=base f) rfl hd hf (hr w1).1 (hr w1).2]
 refine h (base f) [] _ rfl (by simp[base]) fun e a' oo o' w' q=>?_;obtain⟨he,hd,v,hr,hx⟩:=q;rcases he with rfl|rfl
 ·exact(cN oo).go rfl (fun _=>eu) (leave a' oo o' w' [] v hd hr hx)
 ·exact fun todo=>leave a' oo o' w' todo v hd hr hx
def vM(P:Program)(T:dq)(i:Nat)(V:Nat->ae->Prop)(E:bL)(fn:FuncId)(ops:Array Oper)(todo:List Nat)(Q:yd)(a:Act)(rc:Nat->Prop)(o:aN)(w:ae):Prop :=
 ∀(b:Frame) (k:List Item) (cs:List Frame),b.fn=fn->b.kind≠.early->(∀e a' oo o' w',Q e a' oo o' w'->uu (XW P T i V E oo) b k cs e a' o' w')->XW P T i V E rc o (G (b.at a (.inRegion ops todo::k)) cs) w
theorem LS{id:Nat}{ops:Array Oper}(h:vM P T i V E fn ops (List.range ops.size) Q a rc o w):LR P T i V E fn (.region id ops false) Q a rc o w :=
 fun b k cs hb hk hc=>(cN rc).go rfl (fun _=>bg) (h b k cs hb hk hc)
theorem yf{ops:Array Oper}{todo:List Nat}(h:fa (XW P T i V E rc) fn ops todo (fun e a' o' w'=>Q e a' rc o' w') a o w):vM P T i V E fn ops todo Q a rc o w :=
 fun b k cs hb hk hc=>h b k cs hb hk fun e a' o' w' q=>hc e a' rc o' w' q
theorem qq{m:Bool}{ops:Array Oper}{j:Nat}{rest:List Nat}{op:Oper}{f:FuncId}{fc:Func}{c:Code}{args:Array Operand}{sI:Array TypeId}{b:Frame}{k:List Item}{cs:List Frame}(ho:ops[j]?=some op)(hw:Region.wanted op (yielded ops a.tmps)=true)(hk:b.kind≠.early)(eR:op.op=.call {callee:=.value (.func f),args,argTypes:=sI})(hf:P.funcs[f]?=some fc)(gU:(fc.name == "runtime.NumGoroutine")=false)(fK:fc.body=some c)(w1:ae):
  stepG P m (G (b.at a (.inRegion ops (j::rest)::k)) cs) w1=.go (G (Frame.enter P f (args.map a.eval) .normal) (b.at a (.inRegion ops (j::rest)::k)::cs)) w1 #[]:=by
 rw[iS hf fK];have:=goes_call (P:=P) (main:=m) (b:=b) (k:=k) (cs:=cs) (w:=w1) (K:=fun g' w' es=>stepG P m (G (b.at a (.inRegion ops (j::rest)::k)) cs) w1=.go g' w' es->stepG P m (G (b.at a (.inRegion ops (j::rest)::k)) cs) w1=.go (G ((base f).at {tmps:=args.map a.eval++Array.replicate (fc.ntmps-(args.map a.eval).size) undef,defers:=[]} [.code c]) (b.at a (.inRegion ops (j::rest)::k)::cs)) w1 #[]) ho hw hk eR hf gU fK (fun e=>e);cases hg:stepG P m (G (b.at a (.inRegion ops (j::rest)::k)) cs) w1 with
 |go g' w' es=>rw[hg,goes_go] at this;rw[<- this rfl]
 |_=>rw[hg] at this;exact this.elim
theorem LU{ops:Array Oper}{j:Nat}{rest:List Nat}{op:Oper}{f:FuncId}{fc:Func}{c:Code}{args:Array Operand}{sI:Array TypeId}(ho:ops[j]?=some op)(hw:Region.wanted op (yielded ops a.tmps)=true)(eR:op.op=.call {callee:=.value (.func f),args,argTypes:=sI})(hf:P.funcs[f]?=some fc)(gU:(fc.name == "runtime.NumGoroutine")=false)(fK:fc.body=some c){vs:Array Value}(x8:args.map a.eval=vs){d:Option Tmp}(hd:op.dst=d)(h:Fh P T i V E f vs rc o w fun v oo o' w'=>vM P T i V E fn ops rest Q (a.put d v) oo o' w'):vM P T i V E fn ops (j::rest) Q a rc o w:=by
 subst x8 hd;intro b k cs hb hk hc;refine(cN rc).go rfl (fun w1=>qq ho hw hk eR hf gU fK w1) (h _ _ fun v oo o' w' q=>?_);rw[show(b.at a (.inRegion ops (j::rest)::k)).finish v=b.at (a.put op.dst v) (.inRegion ops rest::k) by rw[ek,ho];rfl];exact q b k cs hb hk hc
theorem PI{ops:Array Oper}{j:Nat}{rest:List Nat}{op:Oper}(ho:ops[j]?=some op)(hw:Region.wanted op (yielded ops a.tmps)=true){k:Nat}{z:Value}{f:Bool}(yg:T.dep i k)(cL:∀w1,(execOp a.eval op).run P w1=.ok (.comm #[rcase (T.ch k) z] true (.recv f)) w1)(jl:∀w1,(execOp a.eval op).events P w1 #[]=#[]){d:Option Tmp}(hd:op.dst=d)(h:∀w1,cY T i o rc w w1->V k w1->vM P T i V E fn ops rest Q (a.put d (recvd f z false)) (fun b=>rc b\/b=k) o w1):vM P T i V E fn ops (j::rest) Q a rc o w:=by
 subst hd;intro b kk cs hb hk hc;refine gT.intro ⟨rfl,.inr (.inl ⟨k,z,f,yg,fun w1 _=>?_,fun w1 rm hv=>?_⟩)⟩
 ·show stepG P false (G (b.at a (.inRegion ops (j::rest)::kk)) cs) w1=_;rw[stepG_comm ho hw hk (cL w1),listed_nil (jl w1)]
 ·have e:Go.Conc.served (G (b.at a (.inRegion ops (j::rest)::kk)) cs) (recvd f z false)=G (b.at (a.put op.dst (recvd f z false)) (.inRegion ops rest::kk)) cs:=by
   simp only[Go.Conc.served,G];rw[ek,ho];rfl
  show gT P T i V E ⟨Go.Conc.served (G (b.at a (.inRegion ops (j::rest)::kk)) cs) (recvd f z false),o,_,w1⟩;rw[e];exact h w1 rm hv b kk cs hb hk hc
theorem Sw(wY:P.follows .mixedOrders=true){id n:Nat}{ops:Array Oper}(hn:ops.size=n+1){v:Nat->Value}{S:ae->Prop}(hS:∀w w1,S w->cY T i o rc w w1->S w1)(h0:S w)(Cv:∀(i:Nat) (op:Oper),ops[i]?=some op->∀e∈op.after,e.on<i)(Sp:∀D:Nat->Prop,(∀(i:Nat) (op:Oper),ops[i]?=some op->D i->∀e∈op.after,Region.binds .any e=true->D e.on)->D n->∀j,j<=n->D j)(Sq:∀i j d,i≠j->gG ops i=some d->gG ops j≠some d)(eR:∀(j:Nat) (op:Oper),j<n->ops[j]?=some op->∀done:List Nat,done.Nodup->j∉done->(∀j∈done,j<n)->(∀e∈op.after,Region.binds .any e=true->e.on∈done)->∀w1,S w1 ->
   Region.wanted op (yielded ops (cH ops v a done).tmps)=true/\(execOp (cH ops v a done).eval op).run P w1=.ok (.value (v j)) w1/\∀e∈listed P fn (cH ops v a done) op w1,NG T i o rc e)(uo:∀w',S w'->vM P T i V E fn ops [n] Q (cH ops v a (List.range n)) rc o w'):
  LR P T i V E fn (.region id ops true) Q a rc o w:=by
 intro b k cs hb hk hc;refine VO (cN rc) wY hn hS (fun w h=>hS _ _ h (cY.at w _)) (fun w=>⟨?_,aj⟩) h0 Cv Sp Sq (fun j op h1 h2 done h2' h3 h4 h5 w1 h6=>?_) hb hk fun w' hw'=>uo w' hw' b k cs hb hk hc
 ·exact⟨ag _,fun _ _ _ _=>rfl,fun b cs ty fz _ h=>⟨cs,h,rfl⟩,fun _ _ _=>rfl,rfl,rfl⟩
 ·obtain⟨g1,g2,g3⟩:=eR j op h1 h2 done h2' h3 h4 h5 w1 h6;exact⟨g1,g2,.refl _ _,fun e he=>by rw[cd];exact g3 e he⟩
end
theorem wZ{P:Program}{m:Bool}{b:Frame}{a:Act}{cs:List Frame}{todo:List Item}{ds:List Deferred}{sI:Array TypeId}{ty:TypeId}{cns:Array Bool}{c s r:Nat}{tm:Bool}{w:ae}(hd:a.defers={target:=.builtin .close sI ty cns,args:=#[.chan (some c)]}::ds)(hc:w.heap[c]?=some (.chan 0 #[] false s r tm))(hq:(P.funcs[b.fn]?).any (·.norace)=false):
  stepG P m (G {b.at a todo with mode:=.returning} cs) w=.go (G {b.at ⟨a.tmps,ds⟩ todo with mode:=.returning} cs) (w.setChan c 0 #[] true s r tm) (gQ c):=by
 have hr:(invoke (.builtin .close sI ty cns) #[.chan (some c)]).run P w=.ok (.value (.tuple #[])) (w.setChan c 0 #[] true s r tm):=by
  simp[invoke,go_sem,run_close_open _ _ hc,World.setChan]
 have he:(invoke (.builtin .close sI ty cns) #[.chan (some c)]).events P w #[]=gQ c:=by
  simp[invoke,go_sem,events_close_open _ _ hc,gQ]
 have hl:seen P b.fn (gQ c)=gQ c:=seen_eq hq (by intro e he f;simp only[gQ,List.mem_toArray,bK,dj,or_false] at he;rcases he with rfl|rfl<;>simp);simp[G,stepG,unwind,callDeferred,Frame.at,hd,Sem.runT_eq,hr,he,hl,GStep.after]
def Sx(ops:Array Oper)(n:Nat):Bool:=(List.range n).all fun j=>(List.range (n+1)).any fun i=>decide (j<i)&&match ops[i]? with|none=>false|some op=>op.after.any fun e=>Region.binds .any e&&e.on==j
def Cx(ops:Array Oper)(n:Nat):Bool :=
 (ops.size==n+1) &&
 (List.range (n+1)).all (fun i=>match ops[i]? with
  |none=>false
  |some op=>op.after.all (fun e=>decide (e.on<i))&&op.guard.isNone&&(match op.op with|.select ..=>false|_=>true) &&
    (List.range (n+1)).all (fun j=>j==i||match gG ops j with
     |none=>true
     |some d=>gG ops i != some d&&(!(op.looksAt ops).contains d||op.after.any (fun e=>Region.binds .any e&&e.on==j)))) &&
 Sx ops n
section
variable {ops:Array Oper} {n:Nat}
structure Sy(ops:Array Oper)(n:Nat):Prop where
 size:ops.size=n+1
 low:∀(i:Nat) (op:Oper),ops[i]?=some op->∀e∈op.after,e.on<i
 cov:∀D:Nat->Prop,(∀(i:Nat) (op:Oper),ops[i]?=some op->D i->∀e∈op.after,Region.binds .any e=true->D e.on)->D n->∀j,j<=n->D j
 dst:∀i j d,i≠j->gG ops i=some d->gG ops j≠some d
 guard:∀(i:Nat) (op:Oper),ops[i]?=some op->op.guard=none
 sel:∀(i:Nat) (op:Oper),ops[i]?=some op->∀cs b,op.op≠.select cs b
 look:∀(i:Nat) (op:Oper),ops[i]?=some op->∀j d,j≠i->gG ops j=some d->d∈op.looksAt ops->∃e∈op.after,Region.binds .any e=true/\e.on=j
theorem Az(h:Cx ops n=true):Sy ops n:=by
 simp only[Cx,bc,beq_iff_eq,List.all_eq_true,List.mem_range] at h;obtain⟨⟨hs,h1⟩,h2⟩:=h;have lt:∀(i:Nat) (op:Oper),ops[i]?=some op->i<n+1:=fun i op ho=>by have:=(Array.getElem?_eq_some_iff.1 ho).1;omega
 have all:∀(i:Nat) (op:Oper),ops[i]?=some op->(((op.after.all (fun e=>decide (e.on<i))=true/\op.guard.isNone=true)/\(match op.op with|.select ..=>false|_=>true)=true) /\
   ∀j,j<n+1->(j=i\/(match gG ops j with|none=>true|some d=>gG ops i != some d&&(!(op.looksAt ops).contains d||op.after.any (fun e=>Region.binds .any e&&e.on==j)))=true)):=by
  intro i op ho;have:=h1 i (lt i op ho);simp only[ho,bc,List.all_eq_true,List.mem_range,Bool.or_eq_true,beq_iff_eq] at this;exact this
 refine⟨hs,fun i op ho e he=>?_,fun D hD hn=>?_,fun i j d Fi hi hj=>?_,fun i op ho=>?_,fun i op ho cs b e=>?_,fun i op ho j d Bn hj hl=>?_⟩
 ·have:=(all i op ho).1.1.1;rw[jE] at this;simpa using this e he
 ·have key:∀m j,j+m=n->D j:=by
   intro m
   induction m using Nat.strongRecOn with
   |ind m ih =>
    intro j hjm;rcases bh m with rfl|hm
    ·have:j=n:=aa;rw[this];exact hn
    ·unfold Sx at h2;simp only[List.all_eq_true,List.mem_range,List.any_eq_true,bc,decide_eq_true_eq] at h2;obtain⟨i,hi,Bn,hx⟩:=h2 j aa;cases ho:ops[i]? with
     |none=>rw[ho] at hx;cases hx
     |some op =>
      rw[ho] at hx;simp only[Array.any_eq_true,bc,beq_iff_eq] at hx;obtain⟨q,hq,hb,he⟩:=hx;rw[<- he];exact hD i op ho (ih (n-i) aa i aa) _ (jT hq) hb
  exact fun j hj=>key (n-j) j aa
 ·obtain⟨op,ho⟩:∃op,ops[i]?=some op:=by
   cases ho:ops[i]? with
   |none=>simp[gG,ho] at hi
   |some op=>exact⟨op,rfl⟩
  obtain⟨IW,pK⟩:∃op,ops[j]?=some op:=by
   cases ho:ops[j]? with
   |none=>simp[gG,ho] at hj
   |some op=>exact⟨op,rfl⟩
  rcases(all i op ho).2 j (lt j IW pK) with e|e
  ·exact Fi e.symm
  ·rw[hj] at e;simp only[bc,bne_iff_ne] at e;exact e.1 hi
 ·simpa using(all i op ho).1.1.2
 ·have:=(all i op ho).1.2;rw[e] at this;cases this
 ·obtain⟨IW,pK⟩:∃op,ops[j]?=some op:=by
   cases ho:ops[j]? with
   |none=>simp[gG,ho] at hj
   |some op=>exact⟨op,rfl⟩
  rcases(all i op ho).2 j (lt j IW pK) with e|e
  ·exact absurd e Bn
  ·rw[hj] at e;simp only[bc,Bool.or_eq_true,eD,List.contains_eq_mem,decide_eq_false_iff_not] at e;rcases e.2 with e|e
   ·exact absurd hl e
   ·simp only[Array.any_eq_true,bc,beq_iff_eq] at e;obtain⟨q,hq,hb,he⟩:=e;exact⟨_,jT hq,hb,he⟩
variable {v:Nat->Value} {a:Act}
theorem oM{op:Oper}{t:Tmp}(h:Operand.tmp t∈op.op.operands):t∈op.looksAt ops:=by
 unfold Oper.looksAt;refine List.mem_append.2 (.inl (List.mem_filterMap.2 ⟨.tmp t,?_,rfl⟩));simpa using h
theorem Fj(H:Sy ops n){i:Nat}{op:Oper}(ho:ops[i]?=some op){done:List Nat}(vk:done.Nodup)(hi:i∉done)(yg:∀e∈op.after,Region.binds .any e=true->e.on∈done):
  ∀x∈op.op.operands,(cH ops v a done).eval x=(cH ops v a (List.range i)).eval x:=by
 intro x hx;let p:Nat->Bool:=fun j=>op.after.any fun e=>Region.binds .any e&&e.on==j;have drop:∀l:List Nat,i∉l->(cH ops v a l).eval x=(cH ops v a (l.filter p)).eval x:=by
  intro l Ye;have hp:=(il p l).symm;rw[kp H.dst hp,iN];refine py _ _ fun k hk d hd hl=>?_;subst hl;obtain⟨LV,UZ⟩:=List.mem_filter.1 hk;obtain⟨e,he,hb,rfl⟩:=H.look i op ho k d (fun e=>Ye (e▸LV)) hd (oM hx);simp only[p,eD] at UZ;have:(op.after.any fun e'=>Region.binds .any e'&&e'.on==e.on)=true:=by
   rw[gW];exact⟨e,he,by simp[hb]⟩
  rw[this] at UZ;cases UZ
 rw[drop done hi,drop (List.range i) aj];have Fl:(done.filter p).Perm ((List.range i).filter p):=by
  refine(du (vk.filter _) (List.nodup_range.filter _)).2 fun j=>?_;simp only[List.mem_filter,List.mem_range];constructor
  ·rintro⟨h1,h2⟩;refine⟨?_,h2⟩;simp only[p,Array.any_eq_true',bc,beq_iff_eq] at h2;obtain⟨e,he,hb,rfl⟩:=h2;exact H.low i op ho e he
  ·rintro⟨h1,h2⟩;refine⟨?_,h2⟩;simp only[p,Array.any_eq_true',bc,beq_iff_eq] at h2;obtain⟨e,he,hb,rfl⟩:=h2;exact yg e he hb
 rw[kp H.dst Fl]
end
def mW(ok:Oper->Value->Act->Prop)(ops:Array Oper)(K:Act->Prop):List Nat->List Value->Act->Prop
 | [],[],a=>K a
 |j::l,v::vs,a=>(∃op,ops[j]?=some op/\ok op v a)/\mW ok ops K l vs (a.put (gG ops j) v)
 |_,_,_=>False
theorem cM{ok:Oper->Value->Act->Prop}{ops:Array Oper}{K:Act->Prop}{j:Nat}{l:List Nat}{v:Value}{vs:List Value}{a:Act}{op:Oper}{d:Option Tmp}(ho:ops[j]?=some op)(hd:op.dst=d)(jj:ok op v a)(h:mW ok ops K l vs (a.put d v)):mW ok ops K (j::l) (v::vs) a :=
 ⟨⟨op,ho,jj⟩,by subst hd;simpa[gG,ho] using h⟩
theorem oO{ok:Oper->Value->Act->Prop}{ops:Array Oper}{K:Act->Prop}{a:Act}(h:K a):mW ok ops K [] [] a:=h
theorem mW.all{ok:Oper->Value->Act->Prop}{ops:Array Oper}{K:Act->Prop}:∀{m k:Nat} {vs:List Value} {v:Nat->Value} {a:Act},mW ok ops K (List.range' k m) vs (cH ops v a (List.range k))->(∀j,j<m->v (k+j)=vs.getD j undef) ->
  (∀j op,k<=j->j<k+m->ops[j]?=some op->ok op (v j) (cH ops v a (List.range j)))/\K (cH ops v a (List.range (k+m))):=by
 intro m
 induction m with
 |zero =>
  intro k vs v a h hv;cases vs with
  |nil=>exact⟨fun j op h1 h2=>aa,h⟩
  |cons x l=>exact h.elim
 |succ m ih =>
  intro k vs v a h hv;cases vs with
  |nil=>rw[iI] at h;exact h.elim
  |cons x l =>
   rw[iI] at h;obtain⟨⟨op,ho,jj⟩,hr⟩:=h;have hx:v k=x:=by have:=hv 0 aa;simpa using this
   have A2:(cH ops v a (List.range k)).put (gG ops k) x=cH ops v a (List.range (k+1)):=by
    rw[List.range_succ,iN];simp[cH,gG,hx]
   rw[A2] at hr;have:=ih (k:=k+1) (vs:=l) hr (fun j hj=>by have:=hv (j+1) aa;rw[show k+(j+1)=k+1+j by omega] at this;simpa using this);refine⟨fun j IW h1 h2 pK=>?_,by rw[show k+(m+1)=k+1+m by omega];exact this.2⟩;by_cases e:j=k
   ·subst e;rw[ho] at pK;cases pK;rw[hx];exact jj
   ·exact this.1 j IW aa aa pK
section
variable {P:Program} {m:Bool} {R:aN->ae->ae->Prop} {Gu:aN->ae->ae->Array Event->Prop} {X:aN->aY->ae->Prop} {fn:FuncId} {Q:Exit->Act->aN->ae->Prop} {a:Act} {o:aN} {w:ae}
def okX(P:Program)(Gu:aN->ae->ae->Array Event->Prop)(X:aN->aY->ae->Prop)(fn:FuncId)(S:aN->ae->Prop)(op:Oper)(v:Value)(a:Act):Prop :=
 (∀o w1,S o w1->(execOp a.eval op).run P w1=.ok (.value v) w1/\Gu o w1 w1 (listed P fn a op w1)) \/
 (∃f fc c args sI,op.op=.call {callee:=.value (.func f),args,argTypes:=sI}/\P.funcs[f]?=some fc/\(fc.name == "runtime.NumGoroutine")=false/\fc.body=some c/\∀o w,S o w->bA P X f (args.map a.eval) o w fun v' o' w'=>v'=v/\S o' w')
theorem pP{op:Oper}{y:Nat->Option Bool}(h:op.guard=none):Region.wanted op y=true:=by simp[Region.wanted,h]
theorem pQ{op:Oper}{f:FuncId}{args:Array Operand}{sI:Array TypeId}{a a':Act}(eR:op.op=.call {callee:=.value (.func f),args,argTypes:=sI})(h:∀x∈op.op.operands,a.eval x=a'.eval x):args.map a.eval=args.map a'.eval:=by
 refine ew fun x hx=>h x ?_;rw[eR];simp only[Op.operands,Call.operands];simp[hx]
theorem PK(W:fM P m R Gu X)(wY:P.follows .mixedOrders=true){id n:Nat}{ops:Array Oper}(jj:Cx ops n=true)(vs:List Value){S:aN->ae->Prop}(hS:∀o w w1,S o w->R o w w1->S o w1)(ZD:∀o (w:ae),S o w->S o {w with drawn:=w.drawn+1})(ZE:∀w:ae,Gu o w {w with drawn:=w.drawn+1} #[])(h0:S o w)(wU:mW (okX P Gu X fn S) ops (fun a'=>∀o w,S o w->fa X fn ops [n] Q a' o w) (List.range n) vs a):wm X fn (.region id ops true) Q a o w:=by
 have H:=Az jj;rw[iT] at wU;obtain⟨h1,h2⟩:=mW.all (v:=fun j=>vs.getD j undef) (k:=0) (a:=a) wU (fun j _=>aj);rw[bC] at h2;refine PH W wY H.size hS ZD ZE h0 H.low H.cov H.dst (fun i op hi ho done vk hid cB yg o w rest VQ hk=>?_) h2;have hw:=pP (y:=yielded ops (cH ops (fun j=>vs.getD j undef) a done).tmps) (H.guard i op ho);have jl:=Fj (v:=fun j=>vs.getD j undef) (a:=a) H ho vk hid yg;have hex:=execOp_congr op (H.sel i op ho) jl;rcases h1 i op (aV _) aa ho with hp|⟨f,fc,c,args,sI,eR,hf,zA,hb,hC⟩
 ·refine lH W ho hw fun w1 lE K hK=>?_;obtain⟨e1,e2⟩:=hp o w1 (hS _ _ _ VQ lE);rw[hex,e1];simp only[uponK_value];refine hK _ _ ⟨?_,by rw[cd];exact hk o w1 (hS _ _ _ VQ lE)⟩;unfold listed at e2 |-;rw[hex];exact e2
 ·refine dC W ho hw eR hf zA hb (pQ eR jl) rfl ((hC o w VQ).mono ?_);rintro v' o' w' ⟨rfl,hS'⟩;exact hk o' w' hS'
end
section
variable {P:Program} {T:dq} {i:Nat} {V:Nat->ae->Prop} {E:bL} {fn:FuncId} {a:Act} {rc:Nat->Prop} {o:aN} {w:ae}
theorem LX(o:aN)(w:ae):IJ T i rc o w {w with drawn:=w.drawn+1} #[]:=⟨⟨ag _,fun _ _ _ _=>rfl,fun b cs ty fz _ h=>⟨cs,h,rfl⟩,fun _ _ _=>rfl,rfl,rfl⟩,aj⟩
theorem vl{Q:Exit->Act->aN->ae->Prop}(wY:P.follows .mixedOrders=true){id n:Nat}{ops:Array Oper}(jj:Cx ops n=true)(vs:List Value){S:aN->ae->Prop}(hS:∀o w w1,S o w->cY T i o rc w w1->S o w1)(h0:S o w)(wU:mW (okX P (IJ T i rc) (XW P T i V E rc) fn S) ops (fun a'=>∀o w,S o w->fa (XW P T i V E rc) fn ops [n] Q a' o w) (List.range n) vs a):wm (XW P T i V E rc) fn (.region id ops true) Q a o w :=
 PK (cN rc) wY jj vs hS (fun o w h=>hS _ _ _ h (cY.at w _)) (LX o) h0 wU
theorem PL{Q:yd}(wY:P.follows .mixedOrders=true){id n:Nat}{ops:Array Oper}(jj:Cx ops n=true)(vs:List Value){S:ae->Prop}(hS:∀w w1,S w->cY T i o rc w w1->S w1)(h0:S w)(wU:mW (fun op v a=>∀w1,S w1->(execOp a.eval op).run P w1=.ok (.value v) w1/\∀e∈(execOp a.eval op).events P w1 #[],NG T i o rc e) ops (fun a'=>∀w,S w->vM P T i V E fn ops [n] Q a' rc o w) (List.range n) vs a):LR P T i V E fn (.region id ops true) Q a rc o w:=by
 have H:=Az jj;rw[iT] at wU;obtain⟨h1,h2⟩:=mW.all (v:=fun j=>vs.getD j undef) (k:=0) (a:=a) wU (fun j _=>aj);rw[bC] at h2;refine Sw wY H.size hS h0 H.low H.cov H.dst (fun j op hj ho done vk hid cB yg w1 rm=>?_) h2;have jl:=Fj (v:=fun j=>vs.getD j undef) (a:=a) H ho vk hid yg;have hex:=execOp_congr op (H.sel j op ho) jl;obtain⟨e1,e2⟩:=h1 j op (aV _) aa ho w1 rm;refine⟨pP (H.guard j op ho),by rw[hex];exact e1,fun e he=>e2 e ?_⟩;have:=mem_listed he;rw[hex] at this;exact this
theorem kF{S:aN->ae->Prop}{op:Oper}{v:Value}(h:∀o w1,S o w1->(execOp a.eval op).run P w1=.ok (.value v) w1/\∀e∈(execOp a.eval op).events P w1 #[],NG T i o rc e):okX P (IJ T i rc) (XW P T i V E rc) fn S op v a :=
 .inl fun o w1 hw=>⟨(h o w1 hw).1,.refl _ _,fun e he=>by rw[cd];exact(h o w1 hw).2 e (mem_listed he)⟩
end
section
variable {ops:Array Oper} {a:Act}
theorem sQ{v v':Nat->Value}:∀(l:List Nat) {a:Act},(∀j∈l,v j=v' j)->cH ops v a l=cH ops v' a l:=by
 intro l
 induction l with
 |nil=>intro a _;rfl
 |cons i l ih =>
  intro a h;simp only[cH];rw[h i aj];exact ih fun j hj=>h j (by simp[hj])
end
section
variable {P:Program} {m:Bool} {R:aN->ae->ae->Prop} {Gu:aN->ae->ae->Array Event->Prop} {X:aN->aY->ae->Prop} {fn:FuncId} {Q:Exit->Act->aN->ae->Prop} {a:Act} {o:aN} {w:ae}
def Fits(v:Nat->Value)(σ:Nat->Option Value):Prop:=∀j y,σ j=some y->v j=y
end
section
open Go.ConcR (g_of_ofEvents)
structure mI(d:Nat)(S:Nat->Prop)(t:Trace):Prop where
 clean:∀said,¬Race said t
 known:∀i a,touchAt t i=some a->a.loc.isMemory=true->Knows t 0 i\/(uh S a.loc/\a.kind=.atomic)
 over:t.HandedOver
 deaf:Deaf t 0=d
def EvB(S:Nat->Prop)(e:Event):Prop:=∀x,(MemAct.ofEvent e).touch?=some x->uh S x.loc->x.kind≠.plain
section
variable {d:Nat} {S:Nat->Prop} {t u:Trace}
theorem mI.RV(h:mI 0 S t):∃B,∀M,Past (uh S) (B+M) t:=by
 obtain⟨B,hB⟩:=@II (Go.ConcR.Payload.mk 0) t;exact⟨B,fun M=>⟨h.clean,h.known,h.over,h.deaf,fun op eR=>MemAct.low_mono (Nat.le_add_right _ _) (hB op eR)⟩⟩
theorem mI.of{B:Nat}(h:Past (uh S) B t):mI 0 S t:=⟨h.clean,h.known,h.over,h.hears⟩
theorem mI.own(h:mI d S t){fn:FuncId}{pos:String}{es:Array Event}(Is:∀e∈es,EvB S e):mI (deafBehind d es) S (t++MemOp.ofEvents 0 fn pos es):=by
 have hu:∀op∈MemOp.ofEvents 0 fn pos es,op.g=0:=g_of_ofEvents;refine⟨fun said=>noRace_append (h.clean said) hu fun i a ha op eR b hb hc=>?_,fun i a ha hm=>?_,handedOver_app h.over fun op eR=>.inl (hu op eR),by rw[Deaf_own,h.deaf]⟩
 ·rcases h.known i a ha hc.2.1 with hk|⟨hsa,hka⟩
  ·exact hk
  ·obtain⟨e,he,rfl⟩:=Go.Conc.mem_ofEvents eR;have ZG:=Is e he b hb (hc.1▸hsa);obtain⟨_,_,_,gf⟩:=hc;rw[hka] at gf;rcases gf with x|x|⟨_,x,_⟩
   ·cases x
   ·exact absurd x ZG
   ·cases x
 ·obtain⟨x,hx,XZ⟩:=touch_of ha;rcases getElem?_append_cases hx with⟨_,mq⟩|⟨_,hxu⟩
  ·exact(h.known i a (by rw[touchAt_of mq];exact XZ) hm).imp (·.app _) id
  ·have:=knows_own hx;rw[hu x hxu] at this;exact .inl this
theorem mI.mute(h:mI d S t){g:Nat}(hg:g≠0){fn:FuncId}{pos:String}{es:Array Event}(hm:∀e∈es,e.mute=true):mI d S (t++MemOp.ofEvents g fn pos es):=by
 have hu:∀op∈MemOp.ofEvents g fn pos es,op.g=g:=g_of_ofEvents;have hn:∀op∈MemOp.ofEvents g fn pos es,op.act.touch?=none:=fun op eR=>by obtain⟨e,he,rfl⟩:=Go.Conc.mem_ofEvents eR;exact touch_mute (hm e he)
 refine⟨fun said=>noRace_append (h.clean said) hu fun i a _ op eR b hb _=>(by rw[hn op eR] at hb;cases hb),fun i a ha hm=>?_,handedOver_app h.over fun op eR=>.inr (hn op eR),(Deaf_other t hg _ hu).trans h.deaf⟩;obtain⟨x,hx,XZ⟩:=touch_of ha;rcases getElem?_append_cases hx with⟨_,mq⟩|⟨_,hxu⟩
 ·exact(h.known i a (by rw[touchAt_of mq];exact XZ) hm).imp (·.app _) id
 ·rw[hn x hxu] at XZ;cases XZ
end
def BX(P:Program)(Fin:bL)(d:Nat)(S:Nat->Prop)(g:aY)(w:ae):Prop :=
 ∀(gs:Array aY) (sl:Option (Nat×Nat)) (t:Trace) (q:Nat->Nat),gs[0]?=some g->Leavers P t gs q->mI d S t->(∀b,w.heap.size<=b->¬S b) ->
  ∃N gP w' r9 t' q' S' g',runNT P N (crowd gs w sl) t=(.next (crowd gP w' r9),t')/\gP[0]?=some g'/\Leavers P t' gP q'/\mI 0 S' t'/\(∀b,w'.heap.size<=b->¬S' b)/\Fin S' g' w'
section
variable {P:Program} {Fin:bL} {d:Nat} {S:Nat->Prop} {g:aY} {w:ae}
theorem BX.fin(h:Fin S g w):BX P Fin 0 S g w:=fun gs sl t q h0 hL hP hS=>⟨0,gs,w,sl,t,q,S,g,rfl,h0,hL,hP,hS,h⟩
theorem BX.step(hs:g.status=.running)(h:∀w1,AtRel w w1->∃g' w' es,stepG P true g w1=.go g' w' es/\(∀e∈es,EvB S e)/\w1.heap.size<=w'.heap.size/\BX P Fin (deafBehind d es) S g' w'):BX P Fin d S g w:=by
 have key:∀(M:Nat) (gs:Array aY) (w2:ae) (sl:Option (Nat×Nat)) (t:Trace) (q:Nat->Nat),sumTo gs.size q<M->AtRel w w2->gs[0]?=some g->Leavers P t gs q->mI d S t->(∀b,w2.heap.size<=b->¬S b) ->
   ∃N gP w' r9 t' q' S' g',runNT P N (crowd gs w2 sl) t=(.next (crowd gP w' r9),t')/\gP[0]?=some g'/\Leavers P t' gP q'/\mI 0 S' t'/\(∀b,w'.heap.size<=b->¬S' b)/\Fin S' g' w':=by
  intro M
  induction M with
  |zero=>intro gs w2 sl t q hM;exact absurd hM (ef _)
  |succ M ih =>
   intro gs w2 sl t q hM hr h0 hL hP hSh;have XY:∀x∈gs,awake x:=by
    intro x hx;obtain⟨i,hi,rfl⟩:=Array.mem_iff_getElem.1 hx;rcases bh i with rfl|nD
    ·have:gs[0]=g:=by simpa[Array.getElem?_eq_getElem hi] using h0
     rw[this];exact awake_of (.inl hs)
    ·exact awake_of ((hL.old i _ nD (aO hi)).status.elim .inl fun x=>.inr (.inr x))
   obtain⟨i,x,dd,r9,hi,hx,eI⟩:=crowd_pick (P:=P) (w:=w2) (sl:=sl) XY ⟨0,g,h0,hs⟩;rcases bh i with rfl|nD
   ·obtain rfl:x=g:=by rw[h0] at hi;exact(aR hi).symm
    obtain⟨g',w',es,e1,e2,e3,e4⟩:=h (w2.at dd) (atRel_trans _ _ _ hr ⟨dd,rfl⟩);have ui:=runT_crowd_go (P:=P) (sl:=r9) (i:=0) hi (show stepG P (0==0) x (w2.at dd)=_ from e1);have cB:0<gs.size:=(Array.getElem?_eq_some_iff.1 h0).1;obtain⟨N,gP,w3,sl3,t3,q3,S3,g3,k1,k2⟩:=e4 ((gs.map (woken P x g' w')).setIfInBounds 0 g') r9 (t++MemOp.ofEvents 0 x.frame.fn x.frame.place es) q (by simp[cB])
     ⟨fun j y hj hy=>by
      have dJ:0≠j:=aa;rw[aT dJ,aL] at hy;obtain⟨z,hz,rfl⟩:=Option.map_eq_some_iff.1 hy;have hq:=hL.old j z hj hz;rw[woken_quitsD hq,Deaf_other t aa _ g_of_ofEvents];exact hq,fun j hj=>by
      rw[Deaf_other t (g':=0) (by simp at hj;omega) _ g_of_ofEvents];exact hL.above j (by simpa using hj)⟩
     (hP.own e2) (fun b hb=>hSh b (aX e3 hb))
    exact⟨N+1,gP,w3,sl3,t3,q3,S3,g3,by simp only[runNT,eI,ui];exact k1,k2⟩
   ·have hq:=hL.old i x nD hi;have hi0:(i==0)=false:=dX;have cB:i<gs.size:=(Array.getElem?_eq_some_iff.1 hi).1;cases Zm:q i with
    |zero=>rw[Zm] at hq;rw[hq.1] at hx;cases hx
    |succ k =>
     rw[Zm] at hq;rcases hq with⟨hf,_⟩|⟨_,g',es,hm,Zn,Bm⟩
     ·rw[hf] at hx;cases hx
     have ui:=runT_crowd_go (P:=P) (sl:=r9) (i:=i) hi (by rw[hi0];exact Zn (w2.at dd));have fJ:((gs.map (woken P x g' (w2.at dd))).setIfInBounds i g').size=gs.size:=aj;have agR:sumTo gs.size (upd q i k)+(k+1)=sumTo gs.size q+k:=by
      have:=sumTo_upd q k id cB;simpa[Zm] using this
     obtain⟨N,gP,w3,sl3,t3,q3,S3,g3,k1,k2⟩:=ih ((gs.map (woken P x g' (w2.at dd))).setIfInBounds i g') (w2.at dd) r9 (t++MemOp.ofEvents i x.frame.fn x.frame.place es) (upd q i k) (by rw[fJ];omega) (atRel_trans _ _ _ hr ⟨dd,rfl⟩)
      (by
       have dJ:i≠0:=aa;rw[aT dJ,aL,h0];simp[woken_run hs])
      ⟨fun j y hj hy=>by
       by_cases Bn:i=j
       ·subst Bn;rw[b9 (by simpa using cB)] at hy;obtain rfl:=aR hy;rw[upd_same,Deaf_own];exact Bm
       ·rw[aT Bn,aL] at hy;obtain⟨z,hz,rfl⟩:=Option.map_eq_some_iff.1 hy;have hqj:=hL.old j z hj hz;rw[woken_quitsD hqj,upd_ne q k (bq Bn),Deaf_other t Bn _ g_of_ofEvents];exact hqj,fun j hj=>by
       rw[Deaf_other t (g':=i) (by simp at hj;omega) _ g_of_ofEvents];exact hL.above j (by simpa using hj)⟩
      (hP.mute aa hm) hSh
     exact⟨N+1,gP,w3,sl3,t3,q3,S3,g3,by simp only[runNT,eI,ui];exact k1,k2⟩
 intro gs sl t q h0 hL hP hSh;exact key (sumTo gs.size q+1) gs w sl t q (bI _) (atRel_refl w) h0 hL hP hSh
theorem BX.mono{acX:bL}(h:BX P Fin d S g w)(hF:∀S g w,Fin S g w->acX S g w):BX P acX d S g w:=by
 intro gs sl t q h0 hL hP hS;obtain⟨N,gP,w',r9,t',q',S',g',k1,k2,k3,k4,k5,k6⟩:=h gs sl t q h0 hL hP hS;exact⟨N,gP,w',r9,t',q',S',g',k1,k2,k3,k4,k5,hF _ _ _ k6⟩
def A3(P:Program)(Fin:bL)(d:Nat)(S:Nat->Prop)(g:aY)(w:ae):Prop:=∀w1,AtRel w w1->BX P Fin d S g w1
theorem A3.bx(h:A3 P Fin d S g w):BX P Fin d S g w:=h w (atRel_refl w)
theorem A3.fin(h:∀w1,AtRel w w1->Fin S g w1):A3 P Fin 0 S g w:=fun w1 hw=>BX.fin (h w1 hw)
theorem A3.rely{w1:ae}(h:A3 P Fin d S g w)(hr:AtRel w w1):A3 P Fin d S g w1:=fun w2 h2=>h w2 (atRel_trans _ _ _ hr h2)
theorem A3.step(hs:g.status=.running)(h:∀w1,AtRel w w1->∃g' w' es,stepG P true g w1=.go g' w' es/\(∀e∈es,EvB S e)/\w1.heap.size<=w'.heap.size/\A3 P Fin (deafBehind d es) S g' w'):A3 P Fin d S g w:=by
 intro w1 hw;refine BX.step hs fun w2 va=>?_;obtain⟨g',w',es,e1,e2,e3,e4⟩:=h w2 (atRel_trans _ _ _ hw va);exact⟨g',w',es,e1,e2,e3,e4.bx⟩
def Sz(P:Program)(Post:Value->ae->Prop)(_:Nat->Prop)(g:aY)(w:ae):Prop:=∀w1,AtRel w w1->g.status=.running/\∃v,stepG P true g w1=.ended (.done v) w1 #[]/\Post v w1
theorem BX.call{L:Nat->Bool}{Gm:Nat}(de:rS P L Gm){Bj:FuncId}{Q:Value->ae->Prop}{c:Frame}{cs:List Frame}{F:jJ}{x:aY×ae}(Gx:Acc (Nx P (kT P Bj Q)) x){gr:aY}(hK:∀r,F.K r->¬S (F.φ r))(Pg:xV P L Gm (kT P Bj Q) (c::cs) F (x.1,WT x.2 w.tape w.drawn) gr w)(Si:∀v v' F' aW w',Q v aW->(∀f,F'.has f->v'=val f v)->WR F' aW w'->fC F F' x.2 w aW w'->(∀r,F'.K r->¬S (F'.φ r))->BX P Fin 0 S (G (c.finish v') cs) w'):BX P Fin 0 S gr w:=by
 intro gs sl t q h0 hL hP hS;obtain⟨B,hB⟩:=hP.RV;obtain⟨N,gP,w',aW,r9,t',q',B',F',v,v',k1,k2,k3,k4,k5,k6,k7,k8,k9,Iv,k11,k12,k13⟩:=Iu de x Gx (sumTo gs.size q+1) (B+w.heap.size) gs gr w sl t q F (bI _) h0 hL aa (hB w.heap.size) hK hS Pg;obtain⟨N2,gs2,w2,VE,t2,q2,S2,g2,l1,l2⟩:=Si v v' F' aW w' k7 k8 k9 Iv k12 gP r9 t' q' k3 k4 (mI.of k6) k13;exact⟨N+N2,gs2,w2,VE,t2,q2,S2,g2,by rw[runNT_add,k1];exact l1,l2⟩
end
end
def yh(Fin:bL)(b:Nat):Prop:=∀S g w,Fin S g w->¬S b
def Fo(Fin:bL)(o:aN)(w:ae):Nat->Prop:=fun b=>b<w.heap.size/\¬o b/\¬yh Fin b
def IY(Fin:bL)(w0:ae):bL:=fun S g w=>Fin S g w/\w.os=w0.os/\w.output=w0.output
theorem GG{Fin:bL}{w w':ae}(h:w'.os=w.os/\w'.output=w.output):IY Fin w'=IY Fin w:=by
 funext S g w1;simp only[IY,h.1,h.2]
def uA(Fin:bL)(w:ae):Prop:=∀b,yh Fin b->b<w.heap.size
theorem uA.up{Fin:bL}{w w':ae}(h:uA Fin w)(hs:w.heap.size<=w'.heap.size):uA Fin w':=fun b hb=>bz (h b hb) hs
theorem uA.at_{Fin:bL}{w w':ae}(h:uA Fin w)(hs:AtRel w w'):uA Fin w':=by obtain⟨d,rfl⟩:=hs;exact h
theorem uA.back{Fin:bL}{w w':ae}(h:uA Fin w')(hs:AtRel w w'):uA Fin w:=by obtain⟨d,rfl⟩:=hs;exact h
abbrev XB(P:Program)(Fin:bL)(d:Nat):aN->aY->ae->Prop:=fun o g w=>uA Fin w->A3 P (IY Fin w) d (Fo Fin o w) g w
def VR(o:aN)(e:Event):Prop:=∀x,(MemAct.ofEvent e).touch?=some x->∀a,x.loc=.cell a->x.kind=.plain->o a.block
def ZH(Fin:bL)(o:aN)(e:Event):Prop:=VR (fun b=>o b\/yh Fin b) e
theorem VR.SB{Fin:bL}{o:aN}{e:Event}(h:VR o e):ZH Fin o e:=fun x hx a ha hk=>.inl (h x hx a ha hk)
def GuO(Fin:bL)(o:aN)(w w':ae)(es:Array Event):Prop:=(∀e∈es,ZH Fin (grow o w w') e/\e.loc≠.mark .disable/\e.loc≠.mark .enable)/\w.heap.size<=w'.heap.size/\w'.os=w.os/\w'.output=w.output
section
variable {P:Program} {Fin:bL} {d:Nat} {o:aN} {g:aY} {w w1 w':ae}
theorem Cy(h:w1.heap.size<=w'.heap.size):Fo Fin (grow o w1 w') w'=Fo Fin o w1:=by
 funext b;simp only[Fo,grow,eq_iff_iff];constructor
 ·rintro⟨h1,h2,h5⟩;exact⟨fF fun h3=>h2 (.inr ⟨h3,h1⟩),fun h3=>h2 (.inl h3),h5⟩
 ·rintro⟨h1,h2,h5⟩;exact⟨aa,fun h3=>h3.elim h2 fun h4=>aa,h5⟩
theorem LY(h:AtRel w w1):Fo Fin o w1=Fo Fin o w:=by obtain⟨d,rfl⟩:=h;rfl
theorem ZH.evB{e:Event}(h:ZH Fin (grow o w1 w') e)(hs:w1.heap.size<=w'.heap.size):EvB (Fo Fin o w1) e:=by
 intro x hx tx hk;rw[<- Cy (o:=o) hs] at tx;cases hl:x.loc with
 |cell a=>rw[hl] at tx;exact(h x hx a hl hk).elim tx.2.1 tx.2.2
 |_=>rw[hl] at tx;exact tx
theorem bY:fM P true (fun _=>AtRel) (GuO Fin) (XB P Fin d) where
 step o g w hs h:=fun PM=>A3.step hs fun w1 hw=>by
  obtain⟨g',w',es,e1,e2,e3⟩:=h w1 hw;refine⟨g',w',es,e1,fun e he=>?_,e2.2.1,?_⟩
  ·rw[<- LY hw];exact(e2.1 e he).1.evB e2.2.1
  ·rw[deafBehind_still (fun e he=>(e2.1 e he).2),<- LY hw];have:=e3 ((PM.at_ hw).up e2.2.1);rw[Cy e2.2.1,GG e2.2.2] at this;obtain⟨n,rfl⟩:=hw;exact this
 rely o g w w1 h hr:=by
  intro PM;show A3 P (IY Fin w1) d (Fo Fin o w1) g w1;rw[LY hr];have h':=A3.rely (h (PM.back hr)) hr;obtain⟨n,rfl⟩:=hr;exact h'
 idle o w:=⟨aj,ag _,rfl,rfl⟩
theorem XB.mark(hs:g.status=.running){g':aY}{d':Nat}{es:Array Event}(Is:∀e∈es,∃m,e.loc=.mark m)(hd:deafBehind d es=d')(h:∀w1,stepG P true g w1=.go g' w1 es)(hx:XB P Fin d' o g' w):XB P Fin d o g w:=by
 intro PM;refine A3.step hs fun w1 hw=>⟨g',w1,es,h w1,fun e he=>?_,ag _,?_⟩
 ·obtain⟨m,hm⟩:=Is e he;obtain⟨loc,wt,sy⟩:=e;subst hm;intro x hx _;cases m<;>simp only[MemAct.ofEvent,MemAct.touch?,ay,reduceCtorEq] at hx;all_goals (subst hx;simp)
 ·rw[hd];exact A3.rely (hx PM) hw
end
def Bp:Rn:=⟨id,id,id,id⟩
theorem Bq:∀v:Value,val Bp v=v:=by
 intro v;have hl:∀l:List Value,(∀x∈l,val Bp x=x)->l.map (val Bp)=l:=fun l h=>by
  conv=>rhs;rw[<- List.map_id l]
  exact cg fun x hx=>h x hx
 have ha:∀a:Array Value,(∀x∈a,val Bp x=x)->a.map (val Bp)=a:=fun a h=>by
  apply Array.ext';rw[cy];exact hl a.toList fun x hx=>h x (by simpa using hx)
 induction v using Value.rec (motive_2:=fun a=>a.map (val Bp)=a) (motive_3:=fun l=>l.map (val Bp)=l)
 case pointer a=>cases a<;>simp[val,addr,Bp]
 case slice a l c=>cases a<;>simp[val,addr,Bp]
 case map r=>cases r<;>simp[val,Bp]
 case chan r=>cases r<;>simp[val,Bp]
 case func fn a b h1 h2=>rw[val,h1,h2];congr 1;cases fn<;>rfl
 case iface t v h=>rw[val,h]
 case agg a h=>rw[val,h]
 case tuple a h=>rw[val,h]
 case mk l h=>exact ha ⟨l⟩ (fun x hx=>by
  have mq:x∈l:=by simpa using hx
  have:∀(l:List Value),l.map (val Bp)=l->∀x∈l,val Bp x=x:=by
   intro l
   induction l with
   |nil=>intro _ x hx;cases hx
   |cons y l ih =>
    intro h x hx;simp only[aA,cx] at h;rcases List.mem_cons.1 hx with rfl|hx
    ·exact h.1
    ·exact ih h.2 x hx
  exact this l h x mq)
 case nil=>rfl
 case cons x l h1 h2=>rw[aA,h1,h2]
 all_goals simp[val]
theorem NP(x:Obj):obj Bp x=x:=by
 have e:(val Bp)=id:=funext Bq;have e2:(entry Bp)=id:=funext fun x=>by simp[entry,Bq]
 cases x<;>first|(simp[obj,e,e2];done)|(simp[obj,addr,Bp];done)
def mM(P:Program)(L:Nat->Bool)(o:aN):jJ:=⟨o,id,fun n=>L n=true,P.globals.size⟩
structure bN(P:Program)(L:Nat->Bool)(o:aN)(w:ae):Prop where
 shut:∀b,o b->∃x,w.heap[b]?=some x/\fu x=false/\∀f,(mM P L o).has f->obj f x=x
 kz:∀b,b<P.globals.size->o b
 size:P.globals.size<=w.heap.size
section
variable {P:Program} {L:Nat->Bool} {o:aN} {w:ae}
theorem bN.lt(h:bN P L o w){b:Nat}(hb:o b):b<w.heap.size:=by
 obtain⟨x,hx,_⟩:=h.shut b hb;exact(Array.getElem?_eq_some_iff.1 hx).1
theorem GH(h:∀b,b<P.globals.size->o b):ES (mM P L o):=⟨fun r _ hg=>hg,.inl fun r hr=>⟨h r hr,rfl⟩⟩
theorem NQ:(mM P L o).has Bp:=⟨fun _ _ h=>h,fun _ _=>rfl,fun _ _=>rfl,fun _=>db⟩
theorem Cz(o:aN):∃N:Nat->Bool,∀b,N b=true↔o b:=by
 classical
 exact⟨fun b=>decide (o b),aj⟩
theorem bN.wr(h:bN P L o w){N:Nat->Bool}(hN:∀b,N b=true↔o b):WR (mM P L o) (iZ N w) w where
 here r hr:=by rw[lj];exact h.lt hr
 there r hr:=h.lt hr
 inj r s _ _ e:=e
 tR r hr f hf:=by
  obtain⟨x,hx,_,hc⟩:=h.shut r hr;rw[lZ N w ((hN r).2 hr)];show w.heap[r]?=_;rw[hx,aK,hc f hf]
 Q8 r hr x hx:=by
  obtain⟨y,hy,hp,_⟩:=h.shut r hr;rw[lZ N w ((hN r).2 hr),hy] at hx;cases hx;exact hp
 os:=rfl
 output:=rfl
 tape:=rfl
 drawn:=rfl
 AV:=GH h.kz
 ET:=h.size
 D5:=by rw[lj];exact h.size
theorem bN.SC(h:bN P L o w){N:Nat->Bool}(hN:∀b,N b=true↔o b):fN (iZ N w):=by
 intro r x hx;by_cases hr:N r=true
 ·obtain⟨y,hy,hp,_⟩:=h.shut r ((hN r).1 hr);rw[lZ N w hr,hy] at hx;cases hx;exact hp
 ·have:(iZ N w).heap[r]?=(w.heap[r]?).map fun _=>.cells #[] 0:=by
   simp only[iZ,Array.getElem?_mapIdx];cases w.heap[r]?<;>simp[hr]
  rw[this] at hx;cases hw:w.heap[r]? with
  |none=>rw[hw] at hx;cases hx
  |some y=>rw[hw] at hx;cases hx;rfl
theorem bN.of_heap(h:bN P L o w){w1:ae}(e:w1.heap=w.heap):bN P L o w1:=⟨fun b hb=>by rw[e];exact h.shut b hb,h.kz,by rw[e];exact h.size⟩
structure lO(P:Program)(L:Nat->Bool)(o:aN)(w w' aW:ae)(v:Value):Prop where
 aG:bN P L (grow o w w') w'
 same:∀b,grow o w w' b->w'.heap[b]?=aW.heap[b]?
 rest:∀b,b<w.heap.size->¬o b->w'.heap[b]?=w.heap[b]?
 size:w'.heap.size=aW.heap.size
 jq:w.heap.size<=w'.heap.size
 val:∀f,(mM P L (grow o w w')).has f->Ren.val f v=v
 os:w'.os=w.os
 output:w'.output=w.output
variable {Fin:bL}
theorem sR(de:rS P L P.globals.size){f:FuncId}{vs:Array Value}(hL:L f=true)(hF:bN P L o w)(uv:∀g,(mM P L o).has g->vs.map (val g)=vs){R:ae->Value->ae->Prop}(hR:∀wl,LA (R wl))(hRW:∀wl τ d v w',R (WT wl τ d) v w'->R wl v w')(hC:∀wl,wl.heap.size=w.heap.size->(∀b,o b->wl.heap[b]?=w.heap[b]?)->Calls P f vs wl fun e w'=>∃v,e=.returned v/\R wl v w'){Post:Value->aN->ae->Prop}(h:∀wl v aW w',wl.heap.size=w.heap.size->(∀b,o b->wl.heap[b]?=w.heap[b]?)->R wl v aW->lO P L o w w' aW v->Post v (grow o w w') w'):bA P (XB P Fin 0) f vs o w Post:=by
 intro c cs hc;intro PM;show A3 P (IY Fin w) 0 (Fo Fin o w) _ w;intro w1 pw;obtain⟨dd,rfl⟩:=pw;have lD:bN P L o (w.at dd):=hF.of_heap rfl;obtain⟨N,hN⟩:=Cz o;have hW:=lD.wr hN;have KZ:PF P L P.globals.size (mM P L o):=⟨fun r hr=>⟨hF.kz r hr,rfl⟩,rfl,rfl,GH hF.kz⟩;have Ee:∀g,(mM P L o).has g->Frame.enter P f vs .normal=frame g (Frame.enter P f vs .normal):=fun g hg=>by
  have:=uv g hg;simp only[frame,Frame.enter,Array.map_append,this,Array.map_replicate,lF]
 have Sm:Inv P L P.globals.size [gD] (G (Frame.enter P f vs .normal) [gD]) (iZ N (w.at dd)) :=
  ⟨mM P L o,_,[],_,[],w.at dd,rfl,ub de hL _,aj,fun g hg=>⟨Ee g hg,rfl⟩,hW,(lD.SC hN),KZ⟩
 have aU:∀b,o b->(iZ N (w.at dd)).heap[b]?=w.heap[b]?:=fun b hb=>lZ N (w.at dd) ((hN b).2 hb);have fJ:(iZ N (w.at dd)).heap.size=w.heap.size:=lj _ _;have wo:Good P (kT P f (R (iZ N (w.at dd)))) (G (Frame.enter P f vs .normal) [gD]) (iZ N (w.at dd)):=by
  refine wj de (hR _) Sm fun τ d=>?_;refine(hC (WT (iZ N (w.at dd)) τ d) fJ aU).mono ?_;rintro e w' ⟨v,rfl,hv⟩;exact⟨v,rfl,hRW _ _ _ _ _ hv⟩
 have Gx:=Ir de (Bl f _) Sm wo;refine BX.call de (F:=mM P L o) Gx (fun r hr hs=>hs.2.1 hr) ⟨_,[],_,[],rfl,rfl,ub de hL _,aj,fun g hg=>⟨Ee g hg,rfl⟩,hW,(lD.SC hN),KZ,wo⟩ fun v v' F' aW w' hQ hv IU hm hS=>?_;have oI:=hm.same fJ;have NR:∀r,F'.K r->F'.φ r=r:=fun r hr=>by
  rcases oI.2 r hr with h1|h1
  ·exact(hm.φ r h1)
  ·exact h1
 have Ej:w.heap.size<=w'.heap.size:=hm.size;have hK:F'.K=grow o w w':=by
  funext r;simp only[grow,eq_iff_iff];constructor
  ·intro hr;rcases hm.wL r hr with h1|h1
   ·exact .inl h1
   ·refine .inr ⟨by rw[<- fJ];exact h1.1,?_⟩;have:=IU.here r hr;rw[<- oI.1];exact this
  ·rintro(h1|h1)
   ·exact hm.K r h1
   ·obtain⟨r',a,b⟩:=hm.mine r h1.1 h1.2;rw[NR r' a] at b;exact b▸a
 have hG:F'.G=P.globals.size:=hm.G;have hLL:F'.L=fun n=>L n=true:=hm.L;have CB:∀f,(mM P L (grow o w w')).has f->F'.has f:=fun f hf=>⟨hf.inj,fun r hr=>by rw[NR r hr];exact hf.at_ r (hK▸hr),fun n hn=>hf.fn n (by rw[hLL] at hn;exact hn),by rw[hG];exact hf.kz⟩;have hid:=CB Bp NQ;have xy:v'=v:=(hv Bp hid).trans (Bq v);subst xy;have CC:∀b,grow o w w' b->w'.heap[b]?=aW.heap[b]?:=fun b hb=>by
  have nC:F'.K b:=hK▸hb;have:=IU.tR b nC Bp hid;rw[NR b nC] at this;rw[this];cases aW.heap[b]?<;>simp[NP]
 have SD:lO P L o w w' aW v':=by
  refine⟨⟨fun b hb=>?_,fun b hb=>.inl (hF.kz b hb),aX hF.size Ej⟩,CC,fun b h1 h2=>?_,oI.1.symm,Ej,fun f hf=>(hv f (CB f hf)).symm,IU.os.trans (hm.Rx.trans rfl),IU.output.trans (hm.BG.trans rfl)⟩
  ·have nC:F'.K b:=hK▸hb;have cB:=IU.here b nC;refine⟨aW.heap[b],by rw[CC b hb];exact aO cB,IU.Q8 b nC _ (aO cB),fun f hf=>?_⟩;have:=IU.tR b nC f (CB f hf);rw[NR b nC,CC b hb,aO cB,aK] at this;exact(aR this).symm
  ·refine hm.rest b fun r hr e=>?_;rw[NR r hr] at e;subst e;have:grow o w w' r:=hK▸hr;rcases this with h3|h3
   ·exact h2 h3
   ·omega
 have:=hc v' _ w' (h _ v' aW w' fJ aU hQ SD);have hx:A3 P (IY Fin w') 0 (Fo Fin (grow o w w') w') (G (c.finish v') cs) w':=this (PM.up Ej);rw[Cy Ej,GG ⟨SD.os,SD.output⟩] at hx;exact hx.bx
end
section
open Go.ConcN.Gen Go.RowKit Go.Conc.Lib Go.ConcR.Gen
open Go.ConcR (KK wgBlock WgAt stA smA rd wr Payload DC0)
variable [Payload] {L:WgLink}
theorem bQ{T:dq}{o:Nat->Prop}{w0 w w1:ae}(h:dN T o w0 w/\WgLive T.ty T.Wg w)(r:dN T o w w1):dN T o w0 w1/\WgLive T.ty T.Wg w1:=⟨h.1.trans r,r.wg h.2⟩
theorem LZ{T:dq}(hT:T.OK){o:Nat->Prop}(ho:∀b,o b->T.H0<=b){w0 w:ae}{st sm:Int}(h:dN T o w0 w)(hw:WgAt T.ty T.Wg w st sm)(v:Int):dN T o w0 (w.setCell (stA T.Wg) (.int .u64 v))/\WgLive T.ty T.Wg (w.setCell (stA T.Wg) (.int .u64 v)) :=
 ⟨h.trans (x6 hT ho (aside_setCell w (stA T.Wg) _) ⟨_,_,hw.setSt v⟩),⟨_,_,hw.setSt v⟩⟩
theorem VT{T:dq}(hT:T.OK){o:Nat->Prop}(ho:∀b,o b->T.H0<=b){w0 w:ae}{st sm:Int}(h:dN T o w0 w)(hw:WgAt T.ty T.Wg w st sm)(v:Int):dN T o w0 (w.setCell (smA T.Wg) (.int .u32 v))/\WgLive T.ty T.Wg (w.setCell (smA T.Wg) (.int .u32 v)) :=
 ⟨h.trans (x6 hT ho (aside_setCell w (smA T.Wg) _) ⟨_,_,hw.setSm v⟩),⟨_,_,hw.setSm v⟩⟩
theorem IZ{T:dq}{o:Nat->Prop}{a:Addr}(h:a.block=T.Wg):∀e,(e=(⟨.mark (.read a),false,true⟩:Event)\/e=(⟨.mark (.write a),false,true⟩:Event))->EvS T o e:=by
 rintro e (rfl|rfl)
 ·refine⟨fun b hb _=>?_,aj,aj,aj⟩;simp only[MemAct.ofEvent,MemAct.touch?,ay] at hb;subst hb;exact .inl ⟨h,aj⟩
 ·refine⟨fun b hb _=>?_,aj,aj,aj⟩;simp only[MemAct.ofEvent,MemAct.touch?,ay] at hb;subst hb;exact .inl ⟨h,aj⟩
section
variable {P:Program} {T:dq} {V:Nat->ae->Prop} {fg:Nat->(Nat->Prop)->ae->Prop} {cQ Fin:eT} {Next:eT} {o:Nat->Prop} {j:Nat} {w0:ae}
 {I0:Frame} {I1:Act} {rK:Array Oper} {I2:Nat} {rA:List Nat} {rX:List Item} {cs:List Frame}
theorem ahi(H:WgLib P L)(hT:T.OK)(ho:∀b,o b->T.H0<=b)(hG:∀w,dN T o w0 w->dm P T (SGo P T V fg j Next) o (G (I0.at (I1.put ((rK[I2]?).bind (·.dst)) (.tuple #[])) (.inRegion rK rA::rX)) cs) w)(w:ae)(hF:dN T o w0 w/\WgLive T.ty T.Wg w):
  dm P T (LI P T V fg j Next) o (G ((base L.add).at ⟨#[.pointer (some ⟨T.Wg,0,none⟩),.int .i64 1,undef,undef,undef,undef,undef,undef,undef,undef,undef,undef,undef,undef,undef,undef,undef,undef,undef,undef,undef,undef,undef,undef,undef,undef,undef,undef,undef,undef,undef,undef,undef,undef,undef,undef,undef,undef,undef,undef,undef,undef,undef,undef,undef,undef,undef,undef,undef,undef,undef,undef,undef,undef,undef,undef,undef,undef,undef,undef,undef,undef,undef,undef,undef,undef,undef,undef,undef,undef,undef,undef,undef,undef,undef,undef,undef,undef,undef,undef,undef,undef,undef,undef,undef,undef,undef,undef,undef,undef,undef,undef,undef,undef,undef,undef,undef,undef,undef,undef,undef,undef,undef,undef,undef,undef,undef,undef,undef,undef,undef,undef,undef,undef,undef,undef,undef],[]⟩ [.code (body_add L)]) (I0.at I1 (.inRegion rK (I2::rA)::rX)::cs)) w:=by
 Fp
 simp only[body_add,addFn,br];refine dm.jC (n:=12) ?_
 eZ aD bQ hF
 lu true bQ hF
 eZ aD bQ hF
 eZ aD bQ hF
 fi bQ hF
 ft bQ hF
 ft bQ hF
 eZ ak bQ hF
 lu false bQ hF
 eZ cz bQ hF
 eZ aD bQ hF
 fi bQ hF
 refine cw (fun w₁ O9=>dm.stop fun anF acY=>?_);replace hF:=bQ (bQ hF O9) acY;clear O9 acY;refine⟨rfl,_,stepG_mark0 .disable aj rfl rfl (by vN) rfl H.f_disable (x_disable_n L) (x_disable_b L) (x_disable_x L) (x_disable_f L),dm.jC (n:=40) ?_⟩;aE
 eZ ak bQ hF
 fi bQ hF
 afI bQ hF
 eZ ak bQ hF
 eZ aD bQ hF
 fi bQ hF
 ft bQ hF
 eZ ak bQ hF
 eZ aD bQ hF
 eZ aD bQ hF
 fi bQ hF
 akI bQ hF
 eZ ak bQ hF
 lu false bQ hF
 eZ cz bQ hF
 eZ aD bQ hF
 fi bQ hF
 iterate 6 ft bQ hF
 L1 H.f_uAdd (nm_uAdd L) uAddFn bQ hF
 eZ aD bQ hF
 fi bQ hF
 ft bQ hF
 eZ ak bQ hF
 eZ aD bQ hF
 fi bQ hF
 iterate 4 ft bQ hF
 refine cw (fun anG acZ=>dm.stop fun ahj ac0=>?_);replace hF:=bQ (bQ hF acZ) ac0;clear acZ ac0;refine⟨rfl,fun v hv hw=>?_⟩;rcases bh v with rfl|hvp
 ·replace hw:WgAt T.ty T.Wg ahj 0 0:=by simpa using hw
  have z:(((0:Nat):Int)+1)*KK=KK:=aj;rw[z];have e0:IntKind.u64.wrap (0+4294967296)=KK:=eA;refine⟨_,(stepG_add_atomic rfl rfl (by vN) rfl H.f_addU64 (x_addU64_n L) (x_addU64_b L) (x_addU64_x L) .u64 (x_addU64_f L) rfl rfl hw.cellSt (hw.thaw 0)).trans (by rw[e0];rfl),dm.jC (n:=60) ?_⟩;replace hF:=LZ hT ho hF.1 hw KK;clear hw;simp only[KK] at hF |-;aE
  ft bQ hF
  eZ ak bQ hF
  eZ stepG_ret' bQ hF
  se H.f_uAdd bQ hF
  ft bQ hF
  eZ ak bQ hF
  eZ aD bQ hF
  eZ aD bQ hF
  fi bQ hF
  iterate 4 ft bQ hF
  lR bQ hF
  lR bQ hF
  ft bQ hF
  eZ ak bQ hF
  lu false bQ hF
  eZ cz bQ hF
  eZ aD bQ hF
  fi bQ hF
  iterate 4 ft bQ hF
  eZ ak bQ hF
  eZ aD bQ hF
  fi bQ hF
  iterate 4 ft bQ hF
  eZ ak bQ hF
  eZ aD bQ hF
  eZ aD bQ hF
  fi bQ hF
  iterate 10 ft bQ hF
  eZ ak bQ hF
  lu true bQ hF
  fi bQ hF
  iterate 3 ft bQ hF
  L2 H.underlying_tPU32 H.room_tU32 (WgLive.cell1 hF.2).choose_spec bQ hF
  refine cw (fun anI ac1=>dm.one rfl fun anJ ac2=>?_);replace hF:=bQ (bQ hF ac1) ac2;clear ac1 ac2;refine⟨_,_,stepG_markAt .read aj rfl rfl (by vN) rfl H.f_raceRead (x_raceRead_n L) (x_raceRead_b L) (x_raceRead_x L) (x_raceRead_f L) (ad:=⟨T.Wg,1,none⟩) aI,fun e he=>?_,dm.jC (n:=50) ?_⟩
  ·rw[Array.mem_singleton] at he;exact IZ rfl e (.inl he)
  aE
  eZ ak bQ hF
  eZ aD bQ hF
  eZ aD bQ hF
  fi bQ hF
  ft bQ hF
  ft bQ hF
  eZ ak bQ hF
  lu false bQ hF
  eZ cz bQ hF
  eZ aD bQ hF
  eZ aD bQ hF
  fi bQ hF
  iterate 3 ft bQ hF
  lR bQ hF
  lR bQ hF
  ft bQ hF
  ft bQ hF
  iterate 4 lR bQ hF
  ft bQ hF
  eZ ak bQ hF
  lu false bQ hF
  eZ cz bQ hF
  eZ aD bQ hF
  eZ aD bQ hF
  fi bQ hF
  iterate 3 ft bQ hF
  lR bQ hF
  lR bQ hF
  ft bQ hF
  eZ ak bQ hF
  lu true bQ hF
  eZ stepG_ret' bQ hF
  refine cw (fun ahk SE=>dm.stop fun ahl SF=>?_);replace hF:=bQ (bQ hF SE) SF;clear SE SF;refine⟨rfl,_,stepG_unwind_entry (v:=.tuple #[]) (evs:=#[Go.ConcR.mk .enable]) rfl H.f_enable (x_enable_n L) (x_enable_b L) (x_enable_x L) (x_enable_f L) (by simp[Extern.Race.none_]) (by simp[Go.ConcR.mk]) (by simp[Go.ConcR.mk]),dm.jC (n:=2) ?_⟩
  CE H.f_add bQ hF
  exact cw fun ZI ZJ=>hG ZI (hF.1.trans ZJ)
 ·obtain⟨Vv,hVv⟩:∃Vv:Int,Vv=(v:Int)+1:=⟨_,rfl⟩;obtain⟨S,hS⟩:∃S:Int,S=Vv*KK:=⟨_,rfl⟩;have eS:IntKind.u64.wrap ((v:Int)*KK+4294967296)=S:=by rw[IntKind.wrap_u64,hS,hVv];simp only[KK];omega
  rw[<- hVv,<- hS];have a1:S/4294967296=Vv:=by rw[hS];simp only[KK];omega
  have b1:bits .and .u64 S 2147483648=0:=by rw[hS,hVv];have:=st_flag (v+1) 0 aa aa;simpa[KK] using this
  have b2:bits .and .u64 S 2147483647=0:=by rw[hS,hVv];have:=st_waiters (v+1) 0 aa aa;simpa[KK] using this
  have c1:IntKind.i32.wrap Vv=Vv:=by rw[IntKind.wrap_i32];omega
  have hV1:1<Vv:=aa;have q1:(Vv==1)=false:=dX;have q2:decide (Vv=1)=false:=dA aa;have q3:decide (Vv<0)=false:=dA aa;have q4:decide (0<Vv)=true:=cW aa;have q5:(Vv==0)=false:=dX;have q6:decide (Vv=0)=false:=dA aa;refine⟨_,(stepG_add_atomic rfl rfl (by vN) rfl H.f_addU64 (x_addU64_n L) (x_addU64_b L) (x_addU64_x L) .u64 (x_addU64_f L) rfl rfl hw.cellSt (hw.thaw 0)).trans (by rw[eS];rfl),dm.jC (n:=110) ?_⟩;replace hF:=LZ hT ho hF.1 hw S;clear hw hS hVv eS;aE
  ft bQ hF
  eZ ak bQ hF
  eZ stepG_ret' bQ hF
  se H.f_uAdd bQ hF
  ft bQ hF
  eZ ak bQ hF
  eZ aD bQ hF
  eZ aD bQ hF
  fi bQ hF
  iterate 4 ft bQ hF
  lR bQ hF
  lR bQ hF
  ft bQ hF
  eZ ak bQ hF
  I3 false bQ hF
  eZ cz bQ hF
  eZ aD bQ hF
  fi bQ hF
  iterate 4 ft bQ hF
  eZ ak bQ hF
  eZ aD bQ hF
  fi bQ hF
  iterate 4 ft bQ hF
  eZ ak bQ hF
  eZ aD bQ hF
  eZ aD bQ hF
  fi bQ hF
  iterate 10 ft bQ hF
  eZ ak bQ hF
  I3 false bQ hF
  eZ cz bQ hF
  eZ aD bQ hF
  eZ aD bQ hF
  fi bQ hF
  ft bQ hF
  ft bQ hF
  eZ ak bQ hF
  I3 false bQ hF
  eZ cz bQ hF
  eZ aD bQ hF
  eZ aD bQ hF
  fi bQ hF
  iterate 3 ft bQ hF
  lR bQ hF
  lR bQ hF
  ft bQ hF
  ft bQ hF
  iterate 4 lR bQ hF
  ft bQ hF
  eZ ak bQ hF
  I3 false bQ hF
  eZ cz bQ hF
  eZ aD bQ hF
  eZ aD bQ hF
  fi bQ hF
  iterate 3 ft bQ hF
  lR bQ hF
  lR bQ hF
  ft bQ hF
  eZ ak bQ hF
  I3 true bQ hF
  eZ stepG_ret' bQ hF
  refine cw (fun ahk SE=>dm.stop fun ahl SF=>?_);replace hF:=bQ (bQ hF SE) SF;clear SE SF;refine⟨rfl,_,stepG_unwind_entry (v:=.tuple #[]) (evs:=#[Go.ConcR.mk .enable]) rfl H.f_enable (x_enable_n L) (x_enable_b L) (x_enable_x L) (x_enable_f L) (by simp[Extern.Race.none_]) (by simp[Go.ConcR.mk]) (by simp[Go.ConcR.mk]),dm.jC (n:=2) ?_⟩
  CE H.f_add bQ hF
  exact cw fun ZI ZJ=>hG ZI (hF.1.trans ZJ)
end
end
section
open Go.ConcN.Gen Go.RowKit Go.Conc.Lib Go.ConcR.Gen
open Go.ConcR (KK wgBlock WgAt stA smA rd wr Payload DC0)
theorem CF{w w1:ae}(h:True)(_:AtRel w w1):True:=h
variable [Payload] {L:WgLink}
def Fq(L:WgLink)(T:dq)(w0:ae)(c:Frame)(cs:List Frame):eT:=fun o g w =>
 ∃Ts:Array Value,g=G ((base L.wait).at ⟨Ts,[]⟩ [.code (L7 L),.inLoop (L7 L),.inBlock 0]) (c::cs)/\Ts.size=84/\Ts[0]?=some (.pointer (some ⟨T.Wg,0,none⟩))/\(dN T o w0 w/\WgLive T.ty T.Wg w)/\∀b,o b->T.H0<=b
def PN(P:Program)(T:dq)(w0:ae)(g1:aY):eT:=fun o g w=>dN T o w0 w/\∃n,Goes P true AtRel DC0 (fun g' _=>g'=g1) n g w
section
variable {P:Program} {T:dq} {V:Nat->ae->Prop} {fg:Nat->(Nat->Prop)->ae->Prop} {o:Nat->Prop} {w0:ae}
 {I0:Frame} {I1:Act} {rK:Array Oper} {I2:Nat} {rA:List Nat} {rX:List Item} {cs:List Frame}
theorem L4(H:WgLib P L)(hT:T.OK)(g:aY)(w:ae)(h:Fq L T w0 (I0.at I1 (.inRegion rK (I2::rA)::rX)) cs o g w):
  dm P T (Rf P T (Fq L T w0 (I0.at I1 (.inRegion rK (I2::rA)::rX)) cs) (PN P T w0 (G (I0.at (I1.put ((rK[I2]?).bind (·.dst)) (.tuple #[])) (.inRegion rK rA::rX)) cs))) o g w:=by
 Fp
 obtain⟨Ts,rfl,ahm,t0,hF,ho⟩:=h;obtain⟨v0,v1,v2,v3,v4,v5,v6,v7,v8,v9,v10,v11,v12,v13,v14,v15,v16,v17,v18,v19,v20,v21,v22,v23,v24,v25,v26,v27,v28,v29,v30,v31,v32,v33,v34,v35,v36,v37,v38,v39,v40,v41,v42,v43,v44,v45,v46,v47,v48,v49,v50,v51,v52,v53,v54,v55,v56,v57,v58,v59,v60,v61,v62,v63,v64,v65,v66,v67,v68,v69,v70,v71,v72,v73,v74,v75,v76,v77,v78,v79,v80,v81,v82,v83,rfl⟩:=array84 Ts ahm;simp only[List.getElem?_toArray,List.getElem?_cons_zero,ay] at t0;subst t0;refine dm.jC (n:=30) ?_;simp only[L7,body_wait,waitFn,br]
 eZ fh bQ hF
 eZ aD bQ hF
 fi bQ hF
 iterate 3 ft bQ hF
 L1 H.f_uLoad (nm_uLoad L) uLoadFn bQ hF
 eZ aD bQ hF
 fi bQ hF
 ft bQ hF
 eZ ak bQ hF
 eZ aD bQ hF
 fi bQ hF
 iterate 3 ft bQ hF
 refine cw (fun wA1 xa=>dm.stop fun wA2 I4=>?_);replace hF:=bQ (bQ hF xa) I4;clear xa I4;refine⟨rfl,fun v hv hw=>?_⟩;rcases bh v with rfl|hvp
 ·replace hw:WgAt T.ty T.Wg wA2 0 0:=by simpa using hw
  refine⟨_,stepG_load_atomic (v:=0) rfl rfl (by vN) rfl H.f_loadU64 (x_loadU64_n L) (x_loadU64_b L) (x_loadU64_x L) .u64 (x_loadU64_f L) rfl hw.cellSt,fun _=>dm.jC (n:=50) ?_,fun h=>absurd rfl h⟩;clear hw;aE
  ft bQ hF
  eZ ak bQ hF
  eZ stepG_ret' bQ hF
  se H.f_uLoad bQ hF
  ft bQ hF
  eZ ak bQ hF
  eZ aD bQ hF
  fi bQ hF
  iterate 4 ft bQ hF
  eZ ak bQ hF
  eZ aD bQ hF
  fi bQ hF
  iterate 4 ft bQ hF
  eZ ak bQ hF
  eZ aD bQ hF
  eZ aD bQ hF
  fi bQ hF
  ft bQ hF
  ft bQ hF
  eZ ak bQ hF
  lu true bQ hF
  eZ aD bQ hF
  lu true bQ hF
  eZ aD bQ hF
  fi bQ hF
  refine cw (fun wE1 hE1=>dm.stop fun wE2 hE2=>?_);replace hF:=bQ (bQ hF hE1) hE2;clear hE1 hE2;refine⟨rfl,_,stepG_mark0 .enable aj rfl rfl (by vN) rfl H.f_enable (x_enable_n L) (x_enable_b L) (x_enable_x L) (x_enable_f L),dm.jC (n:=12) ?_⟩;aE
  eZ ak bQ hF
  fi bQ hF
  ft bQ hF
  L2 H.underlying_tWgP H.room_tWg (WgLive.cell0 hF.2).choose_spec bQ hF
  refine cw (fun wF1 lD=>dm.stop fun wF2 rV=>?_);replace hF:=bQ (bQ hF lD) rV;clear lD rV;refine⟨rfl,_,stepG_markAt .acquire aj rfl rfl (by vN) rfl H.f_acquire (x_acquire_n L) (x_acquire_b L) (x_acquire_x L) (x_acquire_f L) (by simp[Act.eval,stA]),hF.1,30,?_⟩;aE;have hu:True:=trivial
  eZ ak CF hu
  eZ aD CF hu
  eZ aD CF hu
  fi CF hu
  iterate 8 ft CF hu
  lR CF hu
  lR CF hu
  ft CF hu
  eZ ak CF hu
  lu false CF hu
  eZ cz CF hu
  eZ stepG_ret' CF hu
  CE H.f_wait CF hu
  exact cw fun _ _=>rfl
 ·obtain⟨S,hS⟩:∃S:Int,(v:Int)*KK=S:=⟨_,rfl⟩;have a1:S/4294967296=(v:Int):=by rw[<- hS];simp only[KK];omega
  have b1:bits .and .u64 S 2147483648=0:=by rw[<- hS];have:=st_flag v 0 aa aa;simpa[KK] using this
  have b2:bits .and .u64 S 2147483647=0:=by rw[<- hS];have:=st_waiters v 0 aa aa;simpa[KK] using this
  have c1:IntKind.i32.wrap (v:Int)=(v:Int):=by rw[IntKind.wrap_i32];omega
  have w1:IntKind.u64.wrap (S+1)=S+1:=by rw[IntKind.wrap_u64,<- hS];simp only[KK];omega
  have q3:decide ((v:Int)<0)=false:=dA aa;have q4:decide (0<(v:Int))=true:=cW aa;have q5:((v:Int)==0)=false:=dX;have q6:decide ((v:Int)=0)=false:=dA aa;rw[hS] at hw;refine⟨_,stepG_load_atomic (v:=S) rfl rfl (by vN) rfl H.f_loadU64 (x_loadU64_n L) (x_loadU64_b L) (x_loadU64_x L) .u64 (x_loadU64_f L) rfl hw.cellSt,fun h0=>absurd h0 aa,fun _=>dm.jC (n:=60) ?_⟩;clear hw;aE
  ft bQ hF
  eZ ak bQ hF
  eZ stepG_ret' bQ hF
  se H.f_uLoad bQ hF
  ft bQ hF
  eZ ak bQ hF
  eZ aD bQ hF
  fi bQ hF
  iterate 4 ft bQ hF
  eZ ak bQ hF
  eZ aD bQ hF
  fi bQ hF
  iterate 4 ft bQ hF
  eZ ak bQ hF
  eZ aD bQ hF
  eZ aD bQ hF
  fi bQ hF
  ft bQ hF
  ft bQ hF
  eZ ak bQ hF
  I3 false bQ hF
  eZ cz bQ hF
  eZ aD bQ hF
  fi bQ hF
  iterate 6 ft bQ hF
  L1 H.f_uCas (nm_uCas L) uCasFn bQ hF
  eZ aD bQ hF
  fi bQ hF
  ft bQ hF
  eZ ak bQ hF
  eZ aD bQ hF
  fi bQ hF
  iterate 5 ft bQ hF
  refine cw (fun wB1 hB1=>dm.stop fun wB2 hB2=>?_);replace hF:=bQ (bQ hF hB1) hB2;clear hB1 hB2;refine⟨rfl,fun v' xy hw=>⟨fun e=>?_,fun e=>?_⟩⟩
  ·subst e;rw[hS] at hw |-;refine⟨_,(stepG_cas_hit (v:=S) (n:=S+1) rfl rfl (by vN) rfl H.f_casU64 (x_casU64_n L) (x_casU64_b L) (x_casU64_x L) .u64 (x_casU64_f L) rfl rfl rfl hw.cellSt (hw.thaw 0)).trans ar,dm.jC (n:=70) ?_⟩;replace hF:=LZ hT ho hF.1 hw (S+1);clear hw;aE
   ft bQ hF
   eZ ak bQ hF
   eZ stepG_ret' bQ hF
   se H.f_uCas bQ hF
   eZ ak bQ hF
   lu true bQ hF
   eZ aD bQ hF
   eZ aD bQ hF
   fi bQ hF
   iterate 4 ft bQ hF
   eZ ak bQ hF
   lu true bQ hF
   fi bQ hF
   iterate 3 ft bQ hF
   L2 H.underlying_tPU32 H.room_tU32 (WgLive.cell1 hF.2).choose_spec bQ hF
   refine cw (fun wC1 hC1=>dm.one rfl fun wC2 hC2=>?_);replace hF:=bQ (bQ hF hC1) hC2;clear hC1 hC2;refine⟨_,_,stepG_markAt .write aj rfl rfl (by vN) rfl H.f_raceWrite (x_raceWrite_n L) (x_raceWrite_b L) (x_raceWrite_x L) (x_raceWrite_f L) (ad:=⟨T.Wg,1,none⟩) (by simp[Act.eval]<;>rfl),fun e he=>?_,dm.jC (n:=50) ?_⟩
   ·rw[Array.mem_singleton] at he;exact IZ rfl e (.inr he)
   eZ ak bQ hF
   eZ aD bQ hF
   fi bQ hF
   ft bQ hF
   eZ ak bQ hF
   eZ aD bQ hF
   eZ aD bQ hF
   fi bQ hF
   iterate 4 ft bQ hF
   lR bQ hF
   ft bQ hF
   eZ ak bQ hF
   lu false bQ hF
   eZ cz bQ hF
   eZ aD bQ hF
   fi bQ hF
   iterate 4 ft bQ hF
   refine cw (fun wD1 hD1=>dm.stop fun wD2 hD2=>?_);replace hF:=bQ (bQ hF hD1) hD2;clear hD1 hD2;refine⟨rfl,rfl,fun⟨st,hw⟩=>stepG_semacquire_wait rfl rfl rfl H.f_semacquire (x_semacquire_n L) (x_semacquire_b L) (x_semacquire_x L) (x_semacquire_f L) (by simp[Act.eval,smA]) hw.cellSm,fun hf=>?_⟩;refine⟨_,(stepG_semacquire (n:=1) rfl rfl (by vN) rfl H.f_semacquire (x_semacquire_n L) (x_semacquire_b L) (x_semacquire_x L) (x_semacquire_f L) (by simp[Act.eval,smA]) hf.cellSm (by vN) (hf.thaw 1)).trans ar,dm.jC (n:=30) ?_⟩;replace hF:=VT hT ho hF.1 hf 0;clear hf;aE
   eZ ak bQ hF
   eZ aD bQ hF
   fi bQ hF
   iterate 3 ft bQ hF
   L1 H.f_uLoad (nm_uLoad L) uLoadFn bQ hF
   eZ aD bQ hF
   fi bQ hF
   ft bQ hF
   eZ ak bQ hF
   eZ aD bQ hF
   fi bQ hF
   iterate 3 ft bQ hF
   refine cw (fun wG1 hG1=>dm.stop fun wG2 hG2=>?_);replace hF:=bQ (bQ hF hG1) hG2;clear hG1 hG2;refine⟨rfl,fun hw=>⟨_,stepG_load_atomic (v:=0) rfl rfl (by vN) rfl H.f_loadU64 (x_loadU64_n L) (x_loadU64_b L) (x_loadU64_x L) .u64 (x_loadU64_f L) rfl hw.cellSt,dm.jC (n:=30) ?_⟩⟩;clear hw;aE
   ft bQ hF
   eZ ak bQ hF
   eZ stepG_ret' bQ hF
   se H.f_uLoad bQ hF
   ft bQ hF
   ft bQ hF
   eZ ak bQ hF
   eZ aD bQ hF
   lu true bQ hF
   eZ aD bQ hF
   fi bQ hF
   refine cw (fun wE1 hE1=>dm.stop fun wE2 hE2=>?_);replace hF:=bQ (bQ hF hE1) hE2;clear hE1 hE2;refine⟨rfl,_,stepG_mark0 .enable aj rfl rfl (by vN) rfl H.f_enable (x_enable_n L) (x_enable_b L) (x_enable_x L) (x_enable_f L),dm.jC (n:=12) ?_⟩;aE
   eZ ak bQ hF
   fi bQ hF
   ft bQ hF
   L2 H.underlying_tWgP H.room_tWg (WgLive.cell0 hF.2).choose_spec bQ hF
   refine cw (fun wF1 lD=>dm.stop fun wF2 rV=>?_);replace hF:=bQ (bQ hF lD) rV;clear lD rV;refine⟨rfl,_,stepG_markAt .acquire aj rfl rfl (by vN) rfl H.f_acquire (x_acquire_n L) (x_acquire_b L) (x_acquire_x L) (x_acquire_f L) (by simp[Act.eval,stA]),hF.1,30,?_⟩;aE;have hu:True:=trivial
   eZ ak CF hu
   eZ aD CF hu
   eZ aD CF hu
   fi CF hu
   ft CF hu
   eZ ak CF hu
   lu false CF hu
   eZ cz CF hu
   eZ stepG_ret' CF hu
   CE H.f_wait CF hu
   exact cw fun _ _=>rfl
  ·refine⟨_,stepG_cas_miss (v:=(v':Int)*KK) (old:=S) (n:=S+1) rfl rfl (by vN) rfl H.f_casU64 (x_casU64_n L) (x_casU64_b L) (x_casU64_x L) .u64 (x_casU64_f L) rfl rfl rfl hw.cellSt (hw.thaw 0) (by rw[<- hS];simp only[KK];omega),dm.jC (n:=20) ?_⟩;clear hw;aE
   ft bQ hF
   eZ ak bQ hF
   eZ stepG_ret' bQ hF
   se H.f_uCas bQ hF
   eZ ak bQ hF
   lu false bQ hF
   eZ cz bQ hF
   eZ gA bQ hF
   eZ iR bQ hF
   exact cw (fun wH hH=>dm.stop fun wI hI=>⟨_,rfl,aj,aj,bQ (bQ hF hH) hI,ho⟩)
theorem L5(H:WgLib P L)(ho:∀b,o b->T.H0<=b)(w:ae)(hF:dN T o w0 w/\WgLive T.ty T.Wg w):
  dm P T (Rg P T (Fq L T w0 (I0.at I1 (.inRegion rK (I2::rA)::rX)) cs)) o
   (G ((base L.wait).at ⟨#[.pointer (some ⟨T.Wg,0,none⟩),undef,undef,undef,undef,undef,undef,undef,undef,undef,undef,undef,undef,undef,undef,undef,undef,undef,undef,undef,undef,undef,undef,undef,undef,undef,undef,undef,undef,undef,undef,undef,undef,undef,undef,undef,undef,undef,undef,undef,undef,undef,undef,undef,undef,undef,undef,undef,undef,undef,undef,undef,undef,undef,undef,undef,undef,undef,undef,undef,undef,undef,undef,undef,undef,undef,undef,undef,undef,undef,undef,undef,undef,undef,undef,undef,undef,undef,undef,undef,undef,undef,undef,undef],[]⟩ [.code (body_wait L)]) (I0.at I1 (.inRegion rK (I2::rA)::rX)::cs)) w:=by
 Fp
 simp only[body_wait,waitFn,br];refine dm.jC (n:=3) ?_
 eZ aD bQ hF
 lu true bQ hF
 fi bQ hF
 refine cw (fun wA1 xa=>dm.stop fun wA2 I4=>?_);replace hF:=bQ (bQ hF xa) I4;clear xa I4;refine⟨rfl,_,stepG_mark0 .disable aj rfl rfl (by vN) rfl H.f_disable (x_disable_n L) (x_disable_b L) (x_disable_x L) (x_disable_f L),dm.jC (n:=3) ?_⟩;aE
 eZ ak bQ hF
 eZ fh bQ hF
 eZ jR bQ hF
 exact cw (fun wH hH=>dm.stop fun wI hI=>⟨_,rfl,aj,aj,bQ (bQ hF hH) hI,ho⟩)
end
end
section
open Go.ConcR (DC0)
section
variable {P:Program} {Fin:bL} {d:Nat} {S:Nat->Prop} {g:aY} {w:ae}
theorem mI.more{S':Nat->Prop}{t:Trace}(h:mI d S t)(hS:∀b,S b->S' b):mI d S' t :=
 ⟨h.clean,fun i a ha hm=>(h.known i a ha hm).imp id fun⟨h1,h2⟩=>⟨by cases hl:a.loc<;>rw[hl] at h1<;>first|exact hS _ h1|exact h1,h2⟩,h.over,h.deaf⟩
theorem BX.less{S':Nat->Prop}(h:BX P Fin d S' g w)(hS:∀b,S b->S' b)(hb:∀b,w.heap.size<=b->¬S' b):BX P Fin d S g w :=
 fun gs sl t q h0 hL hP _=>h gs sl t q h0 hL (hP.more hS) hb
theorem A3.jC{g1:aY}:∀{n:Nat} {g:aY} {w:ae},Goes P true AtRel DC0 (fun g' _=>g'=g1) n g w->A3 P Fin d S g1 w->A3 P Fin d S g w:=by
 intro n
 induction n with
 |zero =>
  intro g w h hx;have:=h w (atRel_refl w);exact this▸hx
 |succ n ih =>
  intro g w h hx;rcases h with h|⟨hs,h⟩
  ·have:=h w (atRel_refl w);exact this▸hx
  ·refine A3.step hs fun w1 hw=>?_;have:=h w1 hw;cases hg:stepG P true g w1 with
   |go g' w' es =>
    rw[hg,goes_go] at this;obtain⟨⟨rfl,rfl⟩,hG⟩:=this;exact⟨g',w',#[],rfl,aj,ag _,ih hG (hx.rely hw)⟩
   |_=>rw[hg] at this;exact this.elim
variable [Go.ConcR.Payload]
theorem BX.ac6(h:∀m0 T0,0<m0->∃(T:dq) (V:Nat->ae->Prop) (fg:Nat->(Nat->Prop)->ae->Prop) (cQ PN:eT) (o0:Nat->Prop),T.m0=m0/\T.T0=T0/\T.OK/\kE T V fg/\T.n<2147483648/\T.Shun=uh S /\
   (∀o g w,cQ o g w->dm P T (Rf P T cQ PN) o g w)/\jg P T V fg cQ T.n o0 g w/\(∀b,o0 b->T.H0<=b/\b<w.heap.size)/\T.H0<=w.heap.size/\Go.ConcR.WgAt T.ty T.Wg w 0 0 /\
   (∀k,k<T.n->∃s r tm,w.heap[T.ch k]?=some (.chan 0 #[] false s r tm))/\(∀k,k<T.n->T.Idle k w) /\
   (∀o g' w',PN o g' w'->(∀i,i<T.n->V i w'/\∃(oi:Nat->Prop) (C:Nat),fg i (fun b=>oi b/\b≠C) w'/\∀b,oi b->T.H0<=b/\b<w'.heap.size)->dN T (fun _=>False) w w'->(∀b,o b->T.H0<=b/\b<w'.heap.size) ->
    (∀b cs ty fz,T.Sh b->w.heap[b]?=some (.cells cs ty fz)->∃tH,w'.heap[b]?=some (.cells tH ty fz)/\tH.size=cs.size)->(∀k,k<T.n->∃c s r tm,w'.heap[T.ch k]?=some (.chan 0 #[] c s r tm))->BX P Fin 0 (fun b=>S b\/b=T.Wg) g' w')):BX P Fin 0 S g w:=by
 intro gs sl t q h0 hL hP hS;obtain⟨B,hB⟩:=hP.RV;have nD:0<gs.size:=(Array.getElem?_eq_some_iff.1 h0).1;obtain⟨T,V,fg,cQ,PN,o0,e1,e2,hT,hV,hn,tx,Yb,eI,UT,hH,px,vK,Sf,Si⟩:=h gs.size t.size nD;obtain⟨N,gP,w',r9,t',k1,o,g',q',B',j1,j2,j3,j4,j5,j6,j7,j8,j9,j10,j11⟩:=PG (T:=T) hT hV hn Yb tx (B:=B+0) (gs:=gs) (sl:=sl) (t:=t) (q:=q) e1.symm h0 hL (by rw[tx];exact hB 0) e2.symm eI UT hH px vK Sf;have hWg:T.Wg<T.H0:=hT.wg;obtain⟨N2,gs2,w2,VE,t2,q2,S2,g2,l1,l2⟩:=Si o g' w' j3 j7 j8 j9 j10 j11 gP r9 t' q' j2 j4 (mI.of j5) (fun b hb=>by
  rintro(h|rfl)
  ·exact hS b (aX j8.size hb) h
  ·have:=j8.size;omega)
 exact⟨N+N2,gs2,w2,VE,t2,q2,S2,g2,by rw[runNT_add,k1];exact l1,l2⟩
section
variable {T:dq} {cQ Fs F F':eT} {o:Nat->Prop}
theorem Pp.mono(hF:∀o g w,F o g w->F' o g w){o:Nat->Prop}{g:aY}{w:ae}:Pp P T F o g w->Pp P T F' o g w:=fun⟨a,g',b,c⟩=>⟨a,g',b,hF _ _ _ c⟩
theorem X4.mono(hF:∀o g w,F o g w->F' o g w){o:Nat->Prop}{g:aY}{w:ae}:X4 P T F o g w->X4 P T F' o g w:=fun⟨a,g',b,c⟩=>⟨a,g',b,c.mono fun _ _ _=>Pp.mono hF⟩
theorem SW4.mono(hF:∀o g w,F o g w->F' o g w){o:Nat->Prop}{g:aY}{w:ae}:SW4 P T F o g w->SW4 P T F' o g w:=fun⟨a,h⟩=>⟨a,fun x=>let ⟨g',b,c⟩:=h x;⟨g',b,c.mono fun _ _ _=>X4.mono hF⟩⟩
theorem Zq.mono(hF:∀o g w,F o g w->F' o g w){o:Nat->Prop}{g:aY}{w:ae}:Zq P T F o g w->Zq P T F' o g w:=fun⟨a,b,c,d⟩=>⟨a,b,c,fun x=>let ⟨g',e,f⟩:=d x;⟨g',e,f.mono fun _ _ _=>SW4.mono hF⟩⟩
theorem SW2.mono(hA:∀o g w,cQ o g w->Fs o g w)(hF:∀o g w,F o g w->F' o g w){vs:Nat}{o:Nat->Prop}{g:aY}{w:ae}:SW2 P T cQ F vs o g w->SW2 P T Fs F' vs o g w:=fun⟨a,h⟩ =>
 ⟨a,fun v hv hw=>⟨fun e=>let ⟨g',x,y⟩:=(h v hv hw).1 e;⟨g',x,y.mono fun _ _ _=>Zq.mono hF⟩,fun e=>let ⟨g',x,y⟩:=(h v hv hw).2 e;⟨g',x,y.mono hA⟩⟩⟩
theorem Rf.mono(hA:∀o g w,cQ o g w->Fs o g w)(hF:∀o g w,F o g w->F' o g w){o:Nat->Prop}{g:aY}{w:ae}:Rf P T cQ F o g w->Rf P T Fs F' o g w:=fun⟨a,h⟩ =>
 ⟨a,fun v hv hw=>let ⟨g',x,y,z⟩:=h v hv hw;⟨g',x,fun e=>(y e).mono fun _ _ _=>X4.mono hF,fun e=>(z e).mono fun _ _ _=>SW2.mono hA hF⟩⟩
theorem Rg.mono(hA:∀o g w,cQ o g w->Fs o g w){o:Nat->Prop}{g:aY}{w:ae}:Rg P T cQ o g w->Rg P T Fs o g w:=fun⟨a,g',b,c⟩=>⟨a,g',b,c.mono hA⟩
end
end
section
variable {P:Program} {m:Bool} {R:aN->ae->ae->Prop} {Gu:aN->ae->ae->Array Event->Prop} {X:aN->aY->ae->Prop} {b:Frame} {a:Act} {k:List Item} {cs:List Frame} {o:aN} {w:ae} {ops:Array Oper} {i:Nat} {rest:List Nat} {op:Oper}
theorem still_at(W:fM P m R Gu X){S:ae->Prop}(hS:∀w1,R o w w1->S w1)(ho:ops[i]?=some op)(hw:Region.wanted op (yielded ops a.tmps)=true)(hk:b.kind≠.early)(hg:∀w1,S w1->Gu o w1 w1 (listed P b.fn a op w1))(h:∀w1,S w1->∀K:Act->ae->Prop,(∀a',X o (G (b.at a' (.inRegion ops rest::k)) cs) w->K a' w1)->uponK op a K ((execOp a.eval op).run P w1)):X o (G (b.at a (.inRegion ops (i::rest)::k)) cs) w:=by
 refine W.step o _ w rfl fun w1 h1=>?_;have:=h w1 (hS w1 h1) (fun a' w'=>w'=w1/\X o (G (b.at a' (.inRegion ops rest::k)) cs) w) fun _ x=>⟨rfl,x⟩;revert this;cases hr:(execOp a.eval op).run P w1 with
 |ok x w' =>
  cases x with
  |value v=>intro q;simp only[uponK_value] at q;obtain⟨rfl,q⟩:=q;exact⟨_,_,_,eJ ho hw hk hr,hg _ (hS _ h1),by rw[cd];exact W.rely _ _ _ _ q h1⟩
  |skip=>intro q;simp only[uponK_skip] at q;obtain⟨rfl,q⟩:=q;exact⟨_,_,_,jS ho hw hk hr,hg _ (hS _ h1),by rw[cd];exact W.rely _ _ _ _ q h1⟩
  |_=>intro q;exact q.elim
 |halt _ _=>intro q;exact q.elim
theorem VU(W:fM P m R Gu X)(ho:ops[i]?=some op)(_hn:GD op.op=true)(hw:Region.wanted op (yielded ops a.tmps)=true)(hk:b.kind≠.early)(hg:∀w1,(execOp a.eval op).events P w1 #[]=#[])(h:∀w1,∀K:Act->ae->Prop,(∀a',X o (G (b.at a' (.inRegion ops rest::k)) cs) w->K a' w1)->uponK op a K ((execOp a.eval op).run P w1)):X o (G (b.at a (.inRegion ops (i::rest)::k)) cs) w :=
 still_at W (S:=fun _=>True) (fun _ _=>trivial) ho hw hk (fun w1 _=>by rw[listed_nil (hg w1)];exact W.idle _ _) (fun w1 _=>h w1)
end
theorem SG{P:Program}{main:Bool}{b:Frame}{a:Act}{k:List Item}{cs:List Frame}{w:ae}{ops:Array Oper}{i:Nat}{rest:List Nat}{op:Oper}{d:Deferred}{f:Fn}{c:Array Value}(ho:ops[i]?=some op)(hw:Region.wanted op (yielded ops a.tmps)=true)(hk:b.kind≠.early)(hr:(execOp a.eval op).run P w=.ok (.spawn d) w)(he:(execOp a.eval op).events P w #[]=#[])(hd:d.target=.fn f c){dd:Option Tmp}(hdd:op.dst=dd):
  stepG P main (G (b.at a (.inRegion ops (i::rest)::k)) cs) w=.spawn (G (b.at (a.put dd undef) (.inRegion ops rest::k)) cs) (born P d) w #[]:=by
 subst hdd;rw[stepG_spawn ho hw hk hr hd,listed_nil he]
section
variable {P:Program} {T:dq} {Stop:eT} {b:Frame} {a:Act} {k:List Item} {cs:List Frame} {o:aN} {w:ae} {ops:Array Oper} {i:Nat} {rest:List Nat} {op:Oper}
theorem L6(ho:ops[i]?=some op)(hw:Region.wanted op (yielded ops a.tmps)=true)(hk:b.kind≠.early){d:Option Tmp}(hd:op.dst=d)(x:Obj)(cL:∀w1,(execOp a.eval op).run P w1=.ok (.value (.pointer (some ⟨w1.heap.size,0,none⟩))) (w1.alloc x))(jl:∀w1,(execOp a.eval op).events P w1 #[]=#[])(h:∀w1,dN T o w w1->dm P T Stop (fun b=>o b\/b=w1.heap.size) (G (b.at (a.put d (.pointer (some ⟨w1.heap.size,0,none⟩))) (.inRegion ops rest::k)) cs) (w1.alloc x)):dm P T Stop o (G (b.at a (.inRegion ops (i::rest)::k)) cs) w:=by
 subst hd;refine dm.step rfl fun w1 h1=>⟨_,_,_,eJ ho hw hk (cL w1),⟨aj,fun b hb _=>RowKit.Below.heap_alloc w1 x b hb,rfl,rfl⟩,by rw[listed_nil (jl w1)];simp,?_⟩;rw[show grow o w1 (w1.alloc x)=fun b=>o b\/b=w1.heap.size from vi o w1 x];exact h w1 h1
theorem L8(A:Nat)(hA:o A)(ho:ops[i]?=some op)(hw:Region.wanted op (yielded ops a.tmps)=true)(hk:b.kind≠.early){d:Option Tmp}(hd:op.dst=d){f:ae->ae}(hf:∀w1,ij A w1 (f w1))(cL:∀w1,w1.heap[A]?=w.heap[A]?->(execOp a.eval op).run P w1=.ok .skip (f w1))(jl:∀w1,w1.heap[A]?=w.heap[A]?->∀e∈(execOp a.eval op).events P w1 #[],∃ad wt sy,e=⟨.cell ad,wt,sy⟩/\ad.block=A)(h:∀w1,dN T o w w1->dm P T Stop o (G (b.at (a.put d undef) (.inRegion ops rest::k)) cs) (f w1)):dm P T Stop o (G (b.at a (.inRegion ops (i::rest)::k)) cs) w:=by
 subst hd;refine dm.step rfl fun w1 h1=>⟨_,_,_,jS ho hw hk (cL w1 (h1.own A hA)),⟨bH (hf w1).size.symm,fun b hb hn=>(hf w1).heap b fun e=>hn (e▸hA),(hf w1).os,(hf w1).output⟩,fun e he=>?_,?_⟩
 ·obtain⟨ad,wt,sy,rfl,e2⟩:=jl w1 (h1.own A hA) e (mem_listed he);refine⟨fun x hx _=>.inr (.inl ⟨A,.inl hA,?_⟩),aj,aj,aj⟩;simp only[MemAct.ofEvent,MemAct.touch?,ay] at hx;subst hx;exact e2
 ·rw[kM o (hf w1).size];exact h w1 h1
end
section
variable {P:Program} {Fin:bL} {d:Nat} {b:Frame} {a:Act} {k:List Item} {cs:List Frame} {o:aN} {w:ae} {ops:Array Oper} {i:Nat} {rest:List Nat} {op:Oper}
theorem zC(ho:ops[i]?=some op)(hw:Region.wanted op (yielded ops a.tmps)=true)(hk:b.kind≠.early){dd:Option Tmp}(hd:op.dst=dd)(x:Obj)(f:Nat->Value)(cL:∀w1,(execOp a.eval op).run P w1=.ok (.value (f w1.heap.size)) (w1.alloc x))(jl:∀w1,(execOp a.eval op).events P w1 #[]=#[])(h:XB P Fin d (fun b=>o b\/b=w.heap.size) (G (b.at (a.put dd (f w.heap.size)) (.inRegion ops rest::k)) cs) (w.alloc x)):XB P Fin d o (G (b.at a (.inRegion ops (i::rest)::k)) cs) w:=by
 subst hd;refine bY.step o _ w rfl fun w1 h1=>⟨_,_,_,eJ ho hw hk (cL w1),⟨by rw[listed_nil (jl w1)];simp,aj,rfl,rfl⟩,?_⟩;obtain⟨dd,rfl⟩:=h1;rw[show grow o (w.at dd) ((w.at dd).alloc x)=fun b=>o b\/b=w.heap.size from vi o (w.at dd) x];exact bY.rely _ _ _ ((w.alloc x).at dd) h ⟨dd,rfl⟩
end
end
section
variable {P:Program} {Fin:bL} {d:Nat} {b:Frame} {a:Act} {k:List Item} {cs:List Frame} {o:aN} {w:ae} {ops:Array Oper} {i:Nat} {rest:List Nat} {op:Oper} {f:FuncId} {fn:Func} {sI:Array TypeId} {as:Array Operand} {e:Array Value->Sem Value}
theorem SH{x:Event}(h:x.sync=true):VR o x:=by
 obtain⟨loc,wt,sy⟩:=x;simp only at h;subst h;intro y hy ad hl hk;cases loc with
 |cell c=>simp only[MemAct.ofEvent,MemAct.touch?,ay] at hy;subst hy;simp at hk
 |obj c=>cases wt<;>simp[MemAct.ofEvent,MemAct.touch?] at hy<;>subst hy<;>simp at hk
 |output=>simp only[MemAct.ofEvent,MemAct.touch?,ay] at hy;subst hy;simp at hk
 |goroutines=>simp only[MemAct.ofEvent,MemAct.touch?,ay] at hy;subst hy;simp at hk
 |mark m=>cases m<;>simp[MemAct.ofEvent,MemAct.touch?] at hy<;>subst hy<;>simp at hk
theorem Br{ad:Addr}{wt sy:Bool}(h:o ad.block):VR o ⟨.cell ad,wt,sy⟩:=by
 intro y hy c hl hk;simp only[MemAct.ofEvent,MemAct.touch?,ay] at hy;subst hy;cases hl;exact h
theorem NT{r:Nat}{wt sy:Bool}:VR o ⟨.obj r,wt,sy⟩:=by
 intro y hy c hl hk;cases wt<;>cases sy<;>simp[MemAct.ofEvent,MemAct.touch?] at hy<;>subst hy<;>cases hl
theorem zD(ho:ops[i]?=some op)(hw:Region.wanted op (yielded ops a.tmps)=true)(hk:b.kind≠.early)(eR:op.op=.call {callee:=.value (.func f),args:=as,argTypes:=sI})(hf:P.funcs[f]?=some fn)(gU:(fn.name == "runtime.NumGoroutine")=false)(hb:fn.body.isNone=true)(hn:Extern.findNext fn=none)(he:Extern.find fn=some e){v:Value}{t:ae->ae}{evs:Array Event}{dd:Option Tmp}(hd:op.dst=dd)(pw:∀n,t (w.at n)=(t w).at n)(fJ:(t w).heap.size=w.heap.size)(cL:∀n,(e (as.map a.eval)).run P (w.at n)=.ok v (t (w.at n)))(jl:∀n,(e (as.map a.eval)).events P (w.at n) #[⟨.mark (.extern f),false,true⟩]=#[⟨.mark (.extern f),false,true⟩]++evs)(hs:∀x∈evs,x.sync=true/\(∀g,x.loc≠.mark (.extern g))/\x.loc≠.mark .disable/\x.loc≠.mark .enable)(h:XB P Fin d o (G (b.at (a.put dd v) (.inRegion ops rest::k)) cs) (t w))(RY:(t w).os=w.os/\(t w).output=w.output:=by exact⟨rfl,rfl⟩):XB P Fin d o (G (b.at a (.inRegion ops (i::rest)::k)) cs) w:=by
 subst hd;refine bY.step o _ w rfl fun w1 h1=>?_;obtain⟨n,rfl⟩:=h1;refine⟨_,_,_,stepG_entry ho hw hk eR hf gU hb hn he (cL n) (jl n) (fun x hx=>⟨(hs x hx).1,(hs x hx).2.1⟩),⟨fun x hx=>⟨SH (hs x hx).1,(hs x hx).2.2⟩,?_,?_⟩,?_⟩
 ·rw[pw n];exact bH fJ.symm
 ·rw[pw n];exact RY
 ·rw[kM o (by rw[pw n];exact fJ),pw n];exact bY.rely _ _ _ _ h ⟨n,rfl⟩
theorem yi(m:Mark)(hm:m=.disable\/m=.enable)(ho:ops[i]?=some op)(hw:Region.wanted op (yielded ops a.tmps)=true)(hk:b.kind≠.early)(eR:op.op=.call {callee:=.value (.func f),args:=as,argTypes:=sI})(hf:P.funcs[f]?=some fn)(gU:(fn.name == "runtime.NumGoroutine")=false)(hb:fn.body.isNone=true)(hn:Extern.findNext fn=none)(he:Extern.find fn=some (fun _=>do mark m;pure Extern.Race.none_)){dd:Option Tmp}(hd:op.dst=dd){d':Nat}(VK:deafBehind d #[⟨.mark m,false,true⟩]=d')(h:XB P Fin d' o (G (b.at (a.put dd (.tuple #[])) (.inRegion ops rest::k)) cs) w):XB P Fin d o (G (b.at a (.inRegion ops (i::rest)::k)) cs) w:=by
 subst hd;exact XB.mark rfl (es:=#[⟨.mark m,false,true⟩]) (fun x hx=>by simp at hx;subst hx;exact⟨m,rfl⟩) VK (fun w1=>stepG_mark0 m (by rintro g rfl;rcases hm with h|h<;>cases h) ho hw hk eR hf gU hb hn he) h
theorem CG(mk:Addr->Mark)(hm:∀ad,(∃x,mk ad=.acquire x)\/(∃x,mk ad=.releaseMerge x))(ho:ops[i]?=some op)(hw:Region.wanted op (yielded ops a.tmps)=true)(hk:b.kind≠.early)(eR:op.op=.call {callee:=.value (.func f),args:=as,argTypes:=sI})(hf:P.funcs[f]?=some fn)(gU:(fn.name == "runtime.NumGoroutine")=false)(hb:fn.body.isNone=true)(hn:Extern.findNext fn=none)(he:Extern.find fn=some (Extern.Race.marked mk)){ad:Addr}(hx:(as.map a.eval)[0]?=some (.pointer (some ad))){dd:Option Tmp}(hd:op.dst=dd)(h:XB P Fin d o (G (b.at (a.put dd (.tuple #[])) (.inRegion ops rest::k)) cs) w):XB P Fin d o (G (b.at a (.inRegion ops (i::rest)::k)) cs) w:=by
 subst hd;have VK:deafBehind d #[⟨.mark (mk ad),false,true⟩]=d:=by rcases hm ad with⟨x,e⟩|⟨x,e⟩<;>rw[e]<;>rfl
 exact XB.mark rfl (es:=#[⟨.mark (mk ad),false,true⟩]) (fun x hx=>by simp at hx;subst hx;exact⟨_,rfl⟩) VK (fun w1=>stepG_markAt mk (fun ad g e=>by rcases hm ad with⟨x,e'⟩|⟨x,e'⟩<;>rw[e'] at e<;>cases e) ho hw hk eR hf gU hb hn he hx) h
theorem I5(ho:ops[i]?=some op)(hw:Region.wanted op (yielded ops a.tmps)=true)(hk:b.kind≠.early){v:Value}{dd:Option Tmp}(hd:op.dst=dd)(hr:∀n,(execOp a.eval op).run P (w.at n)=.ok (.value v) (w.at n))(jl:∀n,∀x∈(execOp a.eval op).events P (w.at n) #[],ZH Fin o x/\x.loc≠.mark .disable/\x.loc≠.mark .enable)(h:XB P Fin d o (G (b.at (a.put dd v) (.inRegion ops rest::k)) cs) w):XB P Fin d o (G (b.at a (.inRegion ops (i::rest)::k)) cs) w:=by
 subst hd;refine bY.step o _ w rfl fun w1 h1=>?_;obtain⟨n,rfl⟩:=h1;exact⟨_,_,_,eJ ho hw hk (hr n),⟨fun x hx=>by rw[cd];exact jl n x (mem_listed hx),ag _,rfl,rfl⟩,by rw[cd];exact bY.rely _ _ _ _ h ⟨n,rfl⟩⟩
theorem yj(ho:ops[i]?=some op)(hw:Region.wanted op (yielded ops a.tmps)=true)(hk:b.kind≠.early){v:Value}{dd:Option Tmp}(hd:op.dst=dd)(hr:∀n,(execOp a.eval op).run P (w.at n)=.ok (.value v) (w.at n))(jl:∀n,∀x∈(execOp a.eval op).events P (w.at n) #[],VR o x/\x.loc≠.mark .disable/\x.loc≠.mark .enable)(h:XB P Fin d o (G (b.at (a.put dd v) (.inRegion ops rest::k)) cs) w):XB P Fin d o (G (b.at a (.inRegion ops (i::rest)::k)) cs) w :=
 I5 ho hw hk hd hr (fun n x hx=>⟨(jl n x hx).1.SB,(jl n x hx).2⟩) h
end
section
variable {P:Program} {L:Nat->Bool} {o:aN} {w:ae} {Fin:bL} {d:Nat}
def Cl(P:Program)(L:Nat->Bool)(o:aN)(v:Value):Prop:=∀f,(mM P L o).has f->val f v=v
structure iF(o:aN)(w wl:ae):Prop where
 size:wl.heap.size=w.heap.size
 heap:∀b,o b->wl.heap[b]?=w.heap[b]?
theorem iF.cell{wl:ae}(h:iF o w wl){b off:Nat}(hb:o b):wl.cell? ⟨b,off,none⟩=w.cell? ⟨b,off,none⟩:=cell_of (h.heap b hb)
theorem L9{o':aN}(h:∀b,o b->o' b){f:Rn}(hf:(mM P L o').has f):(mM P L o).has f:=⟨hf.inj,fun r hr=>hf.at_ r (h r hr),hf.fn,hf.kz⟩
theorem Cl.up{o':aN}{v:Value}(hv:Cl P L o v)(h:∀b,o b->o' b):Cl P L o' v:=fun f hf=>hv f (L9 h hf)
theorem jr{w':ae}:∀b,o b->grow o w w' b:=fun _ h=>.inl h
theorem VV(hF:bN P L o w){w1 w' wl aW:ae}{F':jJ}{v v':Value}(e1:w1.heap=w.heap)(e1o:w1.os=w.os/\w1.output=w.output)(fJ:wl.heap.size=w.heap.size)(IU:WR F' aW w')(hm:fC (mM P L o) F' wl w1 aW w')(hv:∀f,F'.has f->v'=val f v)(vO:wl.os=w.os/\wl.output=w.output):
  v'=v/\lO P L o w w' aW v/\(∀r,F'.K r↔grow o w w' r)/\(∀r,F'.K r->F'.φ r=r):=by
 have ZK:wl.heap.size=w1.heap.size:=by rw[e1];exact fJ
 have oI:=hm.same ZK;have NR:∀r,F'.K r->F'.φ r=r:=fun r hr=>by
  rcases oI.2 r hr with h1|h1
  ·exact(hm.φ r h1)
  ·exact h1
 have Ej:w.heap.size<=w'.heap.size:=by rw[<- e1];exact hm.size
 have hK:F'.K=grow o w w':=by
  funext r;simp only[grow,eq_iff_iff];constructor
  ·intro hr;rcases hm.wL r hr with h1|h1
   ·exact .inl h1
   ·refine .inr ⟨by rw[<- fJ];exact h1.1,?_⟩;have:=IU.here r hr;rw[<- oI.1];exact this
  ·rintro(h1|h1)
   ·exact hm.K r h1
   ·obtain⟨r',a,b⟩:=hm.mine r (by rw[e1];exact h1.1) h1.2;rw[NR r' a] at b;exact b▸a
 have hG:F'.G=P.globals.size:=hm.G;have hLL:F'.L=fun n=>L n=true:=hm.L;have CB:∀f,(mM P L (grow o w w')).has f->F'.has f:=fun f hf=>⟨hf.inj,fun r hr=>by rw[NR r hr];exact hf.at_ r (hK▸hr),fun n hn=>hf.fn n (by rw[hLL] at hn;exact hn),by rw[hG];exact hf.kz⟩;have hid:=CB Bp NQ;have xy:v'=v:=(hv Bp hid).trans (Bq v);have CC:∀b,grow o w w' b->w'.heap[b]?=aW.heap[b]?:=fun b hb=>by
  have nC:F'.K b:=hK▸hb;have:=IU.tR b nC Bp hid;rw[NR b nC] at this;rw[this];cases aW.heap[b]?<;>simp[NP]
 refine⟨xy,⟨⟨fun b hb=>?_,fun b hb=>.inl (hF.kz b hb),aX hF.size Ej⟩,CC,fun b h1 h2=>?_,oI.1.symm,Ej,fun f hf=>by rw[<- hv f (CB f hf)];exact xy,?_,?_⟩,fun r=>by rw[hK],NR⟩
 ·have nC:F'.K b:=hK▸hb;have cB:=IU.here b nC;refine⟨aW.heap[b],by rw[CC b hb];exact aO cB,IU.Q8 b nC _ (aO cB),fun f hf=>?_⟩;have:=IU.tR b nC f (CB f hf);rw[NR b nC,CC b hb,aO cB,aK] at this;exact(aR this).symm
 ·rw[<- e1];refine hm.rest b fun r hr e=>?_;rw[NR r hr] at e;subst e;have:grow o w w' r:=hK▸hr;rcases this with h3|h3
  ·exact h2 h3
  ·omega
 ·rw[IU.os,hm.Rx,vO.1]
 ·rw[IU.output,hm.BG,vO.2]
theorem Cl.func(hF:bN P L o w){g:Fn}{a b:Array Value}(h:Cl P L o (.func g a b)):∃n,g=.func n/\L n=true:=by
 obtain⟨N,hN⟩:=Cz o;obtain⟨f1,f2,h1,h2,_,hL,hty,hm⟩:=(hF.wr hN).two;have e:=(h f1 h1).trans (h f2 h2).symm;simp only[val,Value.func.injEq] at e;have e:=e.1;cases g with
 |func n =>
  refine⟨n,rfl,a8 fun hn=>?_⟩;simp only[tO,Fn.func.injEq] at e;exact hL n (fun x=>hn x) e
 |via t p n q=>simp only[tO,Fn.via.injEq] at e;exact absurd e.1 (hty t)
 |method s=>simp only[tO,Fn.method.injEq] at e;exact absurd e (hm s)
 |methodOf t s=>simp only[tO,Fn.methodOf.injEq] at e;exact absurd e.2 (hm s)
 |yield l=>simp only[tO,Fn.yield.injEq] at e;exact absurd e (hty l)
theorem GI(de:rS P L P.globals.size)(hF:bN P L o w){ρ:Operand->Value}{op:Oper}(jj:tG L op.op=true)(fB:∀x∈op.op.operands,Cl P L o (ρ x)){R:ae->Next->ae->Prop}(cL:∀wl,iF o w wl->∃x aW,(execOp ρ op).run P wl=.ok x aW/\R wl x aW)(n:Nat):
  ∃wl x aW w',iF o w wl/\R wl x aW/\(∀e∈(execOp ρ op).events P (w.at n) #[],VR (grow o w w') e/\e.loc≠.mark .disable/\e.loc≠.mark .enable) /\
   ((∃v,x=.value v/\(execOp ρ op).run P (w.at n)=.ok (.value v) w'/\lO P L o w w' aW v)\/(x=.skip/\(execOp ρ op).run P (w.at n)=.ok .skip w'/\lO P L o w w' aW undef)\/(∃f as,x=.enter f as)):=by
 obtain⟨N,hN⟩:=Cz o;have lD:bN P L o (w.at n):=hF.of_heap rfl;have hW:=lD.wr hN;have KZ:PF P L P.globals.size (mM P L o):=⟨fun r hr=>⟨hF.kz r hr,rfl⟩,rfl,rfl,GH hF.kz⟩;have aU:iF o w (iZ N (w.at n)):=⟨lj _ _,fun b hb=>lZ N (w.at n) ((hN b).2 hb)⟩;obtain⟨x,aW,e1,hR⟩:=cL _ aU;have hrel:∀f,(mM P L o).has f->Rel P f (jm L f) (execOp ρ op) (execOp ρ op):=fun f hf =>
  B0 (KZ.ok de hf) (KZ.fn hf) (fun m hm as=>de.call m hm f (KZ.ok de hf) (KZ.fn hf) as) op jj (fun y hy=>(fB y hy f hf).symm) (fun y hy g a b e=>by
   have:=fB y hy;rw[e] at this;exact this.func hF)
 have hc:=xD (jm L) _ _ (mM P L o) (iZ N (w.at n)) (w.at n) #[] #[] hrel hW;rw[show((execOp ρ op).runT P (iZ N (w.at n)) #[]).1=(execOp ρ op).run P (iZ N (w.at n)) by rw[Sem.runT_eq],e1] at hc;obtain⟨F',b,w',Y2,k1,k2,k3,k4,k5,k6⟩:=hc;have Yf:(execOp ρ op).run P (w.at n)=.ok b w':=by rw[Sem.runT_eq] at k1;exact congrArg Prod.fst k1
 have Lw:(execOp ρ op).events P (w.at n) #[]=Y2:=by rw[Sem.runT_eq] at k1;exact congrArg Prod.snd k1
 have SI:∀{v v':Value},(∀f,F'.has f->v'=val f v)->v'=v/\lO P L o w w' aW v/\(∀r,F'.K r↔grow o w w' r)/\(∀r,F'.K r->F'.φ r=r):=fun hv=>VV (w1:=w.at n) hF rfl ⟨rfl,rfl⟩ aU.size k3 k4 hv ⟨rfl,rfl⟩;obtain⟨f0,kN⟩:=k3.some;obtain⟨-,-,hKg,NR⟩:=SI (v:=undef) (v':=undef) (fun f _=>(lF f).symm);refine⟨_,x,aW,w',aU,hR,fun e he=>?_,?_⟩
 ·obtain⟨new,e2,e3⟩:=k5;rw[Lw,e2] at he;have rU:=e3 e (by simpa using he);obtain⟨loc,wt,sy⟩:=e;cases loc with
  |cell ad =>
   obtain⟨r,h1,h2⟩:=rU;rw[NR r h1] at h2;refine⟨Br ?_,aj,aj⟩;rw[<- h2];exact(hKg r).1 h1
  |obj r=>exact⟨NT,aj,aj⟩
  |output =>
   refine⟨fun y hy c hl hk=>?_,aj,aj⟩;simp only[MemAct.ofEvent,MemAct.touch?,ay] at hy;subst hy;cases hl
  |goroutines =>
   refine⟨fun y hy c hl hk=>?_,aj,aj⟩;simp only[MemAct.ofEvent,MemAct.touch?,ay] at hy;subst hy;cases hl
  |mark m =>
   have hd:Ld m=true:=rU;cases m<;>first|exact Bool.noConfusion hd|(refine⟨fun y hy c hl hk=>?_,aj,aj⟩;simp only[MemAct.ofEvent,MemAct.touch?] at hy;cases hy)
 ·have k2':=k2 f0 kN;cases x with
  |value v =>
   cases b<;>first|exact k2'.elim|skip
   rename_i v';obtain⟨rfl,hb,-⟩:=SI (v:=v) (v':=v') (fun f hf=>k2 f hf);exact .inl ⟨_,rfl,Yf,hb⟩
  |skip =>
   cases b<;>first|exact k2'.elim|skip
   obtain⟨-,hb,-⟩:=SI (v:=undef) (v':=undef) (fun f _=>(lF f).symm);exact .inr (.inl ⟨rfl,Yf,hb⟩)
  |enter f as=>exact .inr (.inr ⟨f,as,rfl⟩)
  |_=>exact k2'.elim
section
variable {fn:FuncId} {Q:Exit->Act->aN->ae->Prop} {a:Act} {ops:Array Oper} {i:Nat} {rest:List Nat} {op:Oper}
end
end
section
variable {P:Program} {main:Bool} {b:Frame} {a:Act} {k:List Item} {cs:List Frame} {w:ae}
def mX(w:ae)(fn:FuncId)(tmps:Array Value)(ps:Array Tmp)(as bd:Code):ae :=
 (w.alloc (.deferred (some []))).alloc (.loop {state:=.ready,pending:=none,fn,tmps,params:=ps,assign:=as,body:=bd,defers:=w.heap.size})
theorem A4{x:Operand}{ps:Array Tmp}{as bd:Code}{g:FuncId}{gc:Func}{c:Code}{cap:Array Value}(r8:b.roundOf=none)(hk:b.kind≠.early)(hm:b.mode=.run)(hx:a.eval x=.func (.func g) #[] cap)(hg:P.funcs[g]?=some gc)(gU:(gc.name == "runtime.NumGoroutine")=false)(hb:gc.body=some c):
  stepG P main (G (b.at a (.code (.rangeFunc x ps as bd)::k)) cs) w =
   .go (G (Frame.enter P g (#[.func (.yield (w.heap.size+1)) #[] #[]]++cap) .normal) (b.at ⟨a.tmps,{target:=.collected w.heap.size,args:=#[]}::a.defers⟩ (.inRangeFunc (w.heap.size+1)::k)::cs)) (mX w b.fn a.tmps ps as bd) #[]:=by
 have lX:(b.kind==CallKind.early)=false:=by simpa using hk
 have hec:∀(fr:Frame) (v:Value),fr.eval (.const v)=v:=fun _ _=>rfl;have ZL:¬gc.name= "runtime.NumGoroutine":=by simpa using gU
 have mq:∀fr:Frame,fr.tmps=a.tmps->fr.eval x=.func (.func g) #[] cap:=fun fr h=>by
  rw[<- hx];cases x<;>simp[Frame.eval,Act.eval,h]
 simp[G,Frame.at,stepG,stepG.exec,r8,Instr.enterLoop,Sem.runT_eq,go_sem,seen_none,GStep.after,stepG.apply,resolve,Deferred.ofValue,invoke,callFunc,hg,hb,mX,mq,hec,ZL,lX]
def dE(w:ae)(l:Nat)(r:Loop):ae:={w with heap:=w.heap.setIfInBounds l (.loop r)}
theorem kr{l:Nat}{r:Loop}(h:w.heap[l]?=some (.loop r)):(Instr.getLoop l).run P w=.ok r w:=by
 simp[Instr.getLoop,getObj,Sem.run,h,go_sem]
theorem pz{l:Nat}{x:Obj}(h:w.heap[l]?=some x)(hx:∀c t z,x≠.cells c t z):(getObj l).run P w=.ok x w:=by
 cases x<;>simp_all[getObj,Sem.run]
theorem qs{l:Nat}{x:Obj}(h:w.heap[l]?=some x)(hx:∀c t z,x≠.cells c t z)(es:Array Event):(getObj l).events P w es=es.push ⟨.obj l,false,x.isChan⟩:=by
 cases x<;>simp_all[getObj,Sem.events,Sem.runT,-Sem.runT_eq]
theorem gH{l:Nat}{x:Obj}(o:Obj)(h:w.heap[l]?=some x)(hx:∀c t z,x≠.cells c t z):(setObj l o).run P w=.ok () {w with heap:=w.heap.setIfInBounds l o}:=by
 cases x<;>simp_all[setObj,Sem.run]
theorem kG{l:Nat}{x:Obj}(o:Obj)(h:w.heap[l]?=some x)(hx:∀c t z,x≠.cells c t z)(es:Array Event):(setObj l o).events P w es=es.push ⟨.obj l,true,o.isChan⟩:=by
 cases x<;>simp_all[setObj,Sem.events,Sem.runT,-Sem.runT_eq]
theorem mY{l:Nat}{r:Loop}(h:w.heap[l]?=some (.loop r))(es:Array Event):(Instr.getLoop l).events P w es=es.push ⟨.obj l,false,false⟩:=by
 simp[Instr.getLoop,qs h aj,pz h aj,Obj.isChan,Result.evThen]
theorem I6{ops:Array Oper}{i:Nat}{rest:List Nat}{o:Oper}{x y:Operand}{sI:Array TypeId}{l:Nat}{r:Loop}{v:Value}{t:Tmp}(ho:ops[i]?=some o)(hw:Region.wanted o (yielded ops a.tmps)=true)(hk:b.kind≠.early)(eR:o.op=.call {callee:=.value x,args:=#[y],argTypes:=sI})(hx:a.eval x=.func (.yield l) #[] #[])(hy:a.eval y=v)(hl:w.heap[l]?=some (.loop r))(hp:r.params=#[t]):
  ∃es,stepG P main (G (b.at a (.inRegion ops (i::rest)::k)) cs) w=.go (G (Frame.round l r.fn (r.tmps.setIfInBounds t v) r.assign r.body .normal) (b.at a (.inRegion ops (i::rest)::k)::cs)) w es/\∀e∈es,∃wt sy,e=⟨.obj l,wt,sy⟩:=by
 have lX:(b.kind==CallKind.early)=false:=by simpa using hk
 have hr:∀ρ:Operand->Value,ρ x=.func (.yield l) #[] #[]->ρ y=v->(execOp ρ o).run P w=.ok (.round l r.fn (r.tmps.setIfInBounds t v) r.assign r.body) w:=fun ρ h1 h2=>by
  unfold execOp;simp[eR,resolve,Deferred.ofValue,h1,h2,invoke,Instr.yield,kr hl,hp,Result.andThen]
 have he:∀ρ:Operand->Value,ρ x=.func (.yield l) #[] #[]->ρ y=v->(execOp ρ o).events P w #[]=#[⟨.obj l,false,false⟩]:=fun ρ h1 h2=>by
  unfold execOp;simp[eR,resolve,Deferred.ofValue,h1,h2,invoke,Instr.yield,kr hl,mY hl,hp,Result.evThen]
 refine⟨listed P b.fn a o w,?_,fun e VW=>?_⟩
 ·rw[stepG_oper ho hw];simp[stepG.apply,hr _ hx hy,G,Frame.at,lX,GStep.after,listed]
 ·have:=mem_listed VW;rw[he _ hx hy] at this;simp at this;exact⟨_,_,this⟩
theorem zE{l:Nat}{r:Loop}{tm:Array Value}{fn:FuncId}(hl:w.heap[l]?=some (.loop r))(hs:r.state=.ready):
  ∃es,stepG P main (G {(base fn).at ⟨tm,[]⟩ (.beginRound::k) with roundOf:=some l} cs) w=.go (G {(base fn).at ⟨tm,[]⟩ k with roundOf:=some l} cs) (dE w l {r with state:=.busy}) es/\∀e∈es,∃wt sy,e=⟨.obj l,wt,sy⟩:=by
 have hr:(Instr.beginRound l).run P w=.ok () (dE w l {r with state:=.busy}):=by
  simp[Instr.beginRound,kr hl,hs,gH _ hl,Result.andThen,dE]
 have he:(Instr.beginRound l).events P w #[]=#[⟨.obj l,false,false⟩,⟨.obj l,true,false⟩]:=by
  simp[Instr.beginRound,kr hl,mY hl,hs,gH _ hl,kG _ hl,Result.evThen,Obj.isChan]
 refine⟨seen P fn #[⟨.obj l,false,false⟩,⟨.obj l,true,false⟩],?_,fun e VW=>?_⟩
 ·simp[G,Frame.at,stepG,stepG.exec,stepG.apply,Sem.runT_eq,hr,he,GStep.after,base,Frame.finish,Result.andThen,Result.evThen]
 ·have:=mem_seen VW;simp at this;rcases this with rfl|rfl<;>exact⟨_,_,rfl⟩
theorem CH{l:Nat}{r:Loop}{tm:Array Value}{fn:FuncId}{c:Frame}(hl:w.heap[l]?=some (.loop r)):
  ∃es,stepG P main (G {(base fn).at ⟨tm,[]⟩ [] with roundOf:=some l} (c::cs)) w=.go (G (c.finish (.bool true)) cs) (dE w l {r with state:=.ready,pending:=none}) es/\∀e∈es,∃wt sy,e=⟨.obj l,wt,sy⟩:=by
 have hr:(Instr.endRound l none).run P w=.ok (.bool true) (dE w l {r with state:=.ready,pending:=none}):=by
  simp[Instr.endRound,kr hl,gH _ hl,Result.andThen,dE]
 have he:(Instr.endRound l none).events P w #[]=#[⟨.obj l,false,false⟩,⟨.obj l,true,false⟩]:=by
  simp[Instr.endRound,kr hl,mY hl,gH _ hl,kG _ hl,Result.evThen,Obj.isChan]
 refine⟨seen P fn #[⟨.obj l,false,false⟩,⟨.obj l,true,false⟩],?_,fun e VW=>?_⟩
 ·simp[G,Frame.at,stepG,stepG.exec,Sem.runT_eq,hr,he,GStep.after,base,doReturn]
 ·have:=mem_seen VW;simp at this;rcases this with rfl|rfl<;>exact⟨_,_,rfl⟩
theorem Ek{l:Nat}{r:Loop}(hl:w.heap[l]?=some (.loop r))(hs:r.state=.ready)(hp:r.pending=none)(r8:b.mode=.run):
  ∃es,stepG P main (G (b.at a (.endRangeFunc l::k)) cs) w=.go (G (b.at a k) cs) (dE w l {r with state:=.exhausted}) es/\∀e∈es,∃wt sy,e=⟨.obj l,wt,sy⟩:=by
 have hr:(Instr.endLoop l).run P w=.ok none (dE w l {r with state:=.exhausted}):=by
  simp[Instr.endLoop,kr hl,gH _ hl,hs,hp,Result.andThen,dE]
 have he:(Instr.endLoop l).events P w #[]=#[⟨.obj l,false,false⟩,⟨.obj l,true,false⟩]:=by
  simp[Instr.endLoop,kr hl,mY hl,gH _ hl,kG _ hl,hs,hp,Result.evThen,Obj.isChan]
 refine⟨seen P b.fn #[⟨.obj l,false,false⟩,⟨.obj l,true,false⟩],?_,fun e VW=>?_⟩
 ·simp[G,Frame.at,stepG,stepG.exec,Sem.runT_eq,hr,he,GStep.after]
 ·have:=mem_seen VW;simp at this;rcases this with rfl|rfl<;>exact⟨_,_,rfl⟩
theorem A5{r:Nat}{ds:List Deferred}{todo:List Item}(hd:a.defers={target:=.collected r,args:=#[]}::ds)(hl:w.heap[r]?=some (.deferred (some []))):
  ∃es,stepG P main (G {b.at a todo with mode:=.returning} cs) w=.go (G {b.at ⟨a.tmps,ds⟩ todo with mode:=.returning} cs) {w with heap:=w.heap.setIfInBounds r (.deferred none)} es/\∀e∈es,∃wt sy,e=⟨.obj r,wt,sy⟩:=by
 have hr:(Instr.takeDeferred r).run P w=.ok [] {w with heap:=w.heap.setIfInBounds r (.deferred none)}:=by
  simp[Instr.takeDeferred,pz hl,gH _ hl,Result.andThen]
 have he:(Instr.takeDeferred r).events P w #[]=#[⟨.obj r,false,false⟩,⟨.obj r,true,false⟩]:=by
  simp[Instr.takeDeferred,pz hl,qs hl,gH _ hl,kG _ hl,Result.evThen,Obj.isChan]
 refine⟨seen P b.fn #[⟨.obj r,false,false⟩,⟨.obj r,true,false⟩],?_,fun e VW=>?_⟩
 ·simp[G,Frame.at,stepG,unwind,hd,Sem.runT_eq,hr,he,GStep.after]
 ·have:=mem_seen VW;simp at this;rcases this with rfl|rfl<;>exact⟨_,_,rfl⟩
end
section
variable {P:Program} {L:Nat->Bool} {o:aN} {w:ae} {Fin:bL} {d:Nat} {b:Frame} {a:Act} {k:List Item} {cs:List Frame} {ops:Array Oper} {i:Nat} {rest:List Nat} {op:Oper}
section
variable {fn:FuncId} {g:aY} {g':Value->aY} {gk:aY}
theorem Bs(de:rS P L P.globals.size)(hF:bN P L o w)(hs:g.status=.running)(kU:∀w1 v w',(execOp a.eval op).run P w1=.ok (.value v) w'->stepG P true g w1=.go (g' v) w' (listed P fn a op w1))(jj:tG L op.op=true)(fB:∀x∈op.op.operands,Cl P L o (a.eval x)){R:ae->Value->ae->Prop}(cL:∀wl,iF o w wl->∃v aW,(execOp a.eval op).run P wl=.ok (.value v) aW/\R wl v aW)(h:∀wl v aW w',iF o w wl->R wl v aW->lO P L o w w' aW v->XB P Fin d (grow o w w') (g' v) w'):XB P Fin d o g w:=by
 refine bY.step o _ w hs fun w1 lE=>?_;obtain⟨n,rfl⟩:=lE;obtain⟨wl,x,aW,w',aU,⟨v,rfl,hR⟩,jl,gf⟩:=GI de hF jj fB (R:=fun wl x aW=>∃v,x=.value v/\R wl v aW) (fun wl aU=>by
  obtain⟨v,aW,e1,e2⟩:=cL wl aU;exact⟨_,aW,e1,v,rfl,e2⟩) n
 rcases gf with⟨v',xy,hr,hb⟩|⟨xy,_⟩|⟨f,as,xy⟩
 ·cases xy;exact⟨_,_,_,kU _ _ _ hr,⟨fun e he=>⟨(jl e (mem_listed he)).1.SB,(jl e (mem_listed he)).2⟩,hb.jq,hb.os,hb.output⟩,h wl v aW w' aU hR hb⟩
 ·cases xy
 ·cases xy
theorem zF(de:rS P L P.globals.size)(hF:bN P L o w)(hs:g.status=.running)(kU:∀w1 v w',(execOp a.eval op).run P w1=.ok (.value v) w'->stepG P true g w1=.go (g' v) w' (listed P fn a op w1))(jj:tG L op.op=true)(fB:∀x∈op.op.operands,Cl P L o (a.eval x)){v:Value}(cL:∀wl,iF o w wl->(execOp a.eval op).run P wl=.ok (.value v) wl)(h:Cl P L o v->XB P Fin d o (g' v) w):XB P Fin d o g w:=by
 refine bY.step o _ w hs fun w1 lE=>?_;obtain⟨n,rfl⟩:=lE;obtain⟨wl,x,aW,w',aU,⟨rfl,rfl⟩,jl,gf⟩:=GI de hF jj fB (R:=fun wl x aW=>x=.value v/\aW=wl) (fun wl aU=>⟨_,wl,cL wl aU,rfl,rfl⟩) n;rcases gf with⟨v',xy,hr,hb⟩|⟨xy,_⟩|⟨f,as,xy⟩
 ·cases xy;have hr0:=cL (w.at n) ⟨rfl,fun _ _=>rfl⟩;rw[hr] at hr0;cases hr0;have fB:Cl P L o v:=by have:=hb.val;rw[show grow o w (w.at n)=o from kM o rfl] at this;exact this
  exact⟨_,_,_,kU _ _ _ hr,⟨fun e he=>⟨(jl e (mem_listed he)).1.SB,(jl e (mem_listed he)).2⟩,ag _,rfl,rfl⟩,by rw[cd];exact bY.rely _ _ _ _ (h fB) ⟨n,rfl⟩⟩
 ·cases xy
 ·cases xy
theorem CI(de:rS P L P.globals.size)(hF:bN P L o w)(hs:g.status=.running)(kU:∀w1 w',(execOp a.eval op).run P w1=.ok .skip w'->stepG P true g w1=.go gk w' (listed P fn a op w1))(jj:tG L op.op=true)(fB:∀x∈op.op.operands,Cl P L o (a.eval x)){R:ae->ae->Prop}(cL:∀wl,iF o w wl->∃aW,(execOp a.eval op).run P wl=.ok .skip aW/\R wl aW)(h:∀wl aW w',iF o w wl->R wl aW->lO P L o w w' aW undef->XB P Fin d (grow o w w') gk w'):XB P Fin d o g w:=by
 refine bY.step o _ w hs fun w1 lE=>?_;obtain⟨n,rfl⟩:=lE;obtain⟨wl,x,aW,w',aU,⟨rfl,hR⟩,jl,gf⟩:=GI de hF jj fB (R:=fun wl x aW=>x=.skip/\R wl aW) (fun wl aU=>by
  obtain⟨aW,e1,e2⟩:=cL wl aU;exact⟨_,aW,e1,rfl,e2⟩) n
 rcases gf with⟨v',xy,_⟩|⟨_,hr,hb⟩|⟨f,as,xy⟩
 ·cases xy
 ·exact⟨_,_,_,kU _ _ hr,⟨fun e he=>⟨(jl e (mem_listed he)).1.SB,(jl e (mem_listed he)).2⟩,hb.jq,hb.os,hb.output⟩,h wl aW w' aU hR hb⟩
 ·cases xy
end
theorem CJ(de:rS P L P.globals.size)(hF:bN P L o w)(ho:ops[i]?=some op)(hw:Region.wanted op (yielded ops a.tmps)=true)(hk:b.kind≠.early)(jj:tG L op.op=true)(fB:∀x∈op.op.operands,Cl P L o (a.eval x)){dd:Option Tmp}(hd:op.dst=dd){R:ae->Value->ae->Prop}(cL:∀wl,iF o w wl->∃v aW,(execOp a.eval op).run P wl=.ok (.value v) aW/\R wl v aW)(h:∀wl v aW w',iF o w wl->R wl v aW->lO P L o w w' aW v->XB P Fin d (grow o w w') (G (b.at (a.put dd v) (.inRegion ops rest::k)) cs) w'):XB P Fin d o (G (b.at a (.inRegion ops (i::rest)::k)) cs) w :=
 Bs (g':=fun v=>G (b.at (a.put dd v) (.inRegion ops rest::k)) cs) de hF rfl (fun w1 v w' hr=>by subst hd;exact eJ ho hw hk hr) jj fB cL h
theorem mZ(de:rS P L P.globals.size)(hF:bN P L o w)(ho:ops[i]?=some op)(hw:Region.wanted op (yielded ops a.tmps)=true)(hk:b.kind≠.early)(jj:tG L op.op=true)(fB:∀x∈op.op.operands,Cl P L o (a.eval x)){dd:Option Tmp}(hd:op.dst=dd){v:Value}(cL:∀wl,iF o w wl->(execOp a.eval op).run P wl=.ok (.value v) wl)(h:Cl P L o v->XB P Fin d o (G (b.at (a.put dd v) (.inRegion ops rest::k)) cs) w):XB P Fin d o (G (b.at a (.inRegion ops (i::rest)::k)) cs) w :=
 zF (g':=fun v=>G (b.at (a.put dd v) (.inRegion ops rest::k)) cs) de hF rfl (fun w1 v w' hr=>by subst hd;exact eJ ho hw hk hr) jj fB cL h
theorem AA(de:rS P L P.globals.size)(hF:bN P L o w)(ho:ops[i]?=some op)(hw:Region.wanted op (yielded ops a.tmps)=true)(hk:b.kind≠.early)(jj:tG L op.op=true)(fB:∀x∈op.op.operands,Cl P L o (a.eval x)){dd:Option Tmp}(hd:op.dst=dd){R:ae->ae->Prop}(cL:∀wl,iF o w wl->∃aW,(execOp a.eval op).run P wl=.ok .skip aW/\R wl aW)(h:∀wl aW w',iF o w wl->R wl aW->lO P L o w w' aW undef->XB P Fin d (grow o w w') (G (b.at (a.put dd undef) (.inRegion ops rest::k)) cs) w'):XB P Fin d o (G (b.at a (.inRegion ops (i::rest)::k)) cs) w :=
 CI (gk:=G (b.at (a.put dd undef) (.inRegion ops rest::k)) cs) de hF rfl (fun w1 w' hr=>by subst hd;exact jS ho hw hk hr) jj fB cL h
theorem lO.alloc{wl aW w':ae}{v:Value}(h:lO P L o w w' aW v)(hF:bN P L o w)(ha:iF o w wl){x:Obj}(e:aW=wl.alloc x):w'.heap.size=w.heap.size+1/\(∀b,b<w.heap.size->w'.heap[b]?=w.heap[b]?)/\w'.heap[w.heap.size]?=some x:=by
 have hs:aW.heap.size=w.heap.size+1:=by rw[e];simp[ha.size]
 refine⟨by rw[h.size,hs],fun b hb=>?_,?_⟩
 ·by_cases ho:o b
  ·rw[h.same b (.inl ho),e,RowKit.Below.heap_alloc wl x b (by rw[ha.size];exact hb),ha.heap b ho]
  ·exact h.rest b hb ho
 ·rw[h.same _ (.inr ⟨ag _,by rw[h.size,hs];omega⟩),e];show(wl.heap.push x)[w.heap.size]?=_;rw[<- ha.size];simp
theorem lO.store{wl aW w':ae}{v:Value}(h:lO P L o w w' aW v)(ha:iF o w wl){A:Nat}(hA:o A)(hs:aW.heap.size=wl.heap.size)(hh:∀b,b≠A->aW.heap[b]?=wl.heap[b]?):w'.heap.size=w.heap.size/\(∀b,b≠A->w'.heap[b]?=w.heap[b]?)/\w'.heap[A]?=aW.heap[A]?/\grow o w w'=o:=by
 have hz:w'.heap.size=w.heap.size:=by rw[h.size,hs,ha.size]
 refine⟨hz,fun b hb=>?_,h.same A (.inl hA),kM o hz⟩;by_cases cB:b<w.heap.size
 ·by_cases ho:o b
  ·rw[h.same b (.inl ho),hh b hb,ha.heap b ho]
  ·exact h.rest b cB ho
 ·rw[cI aa,cI aa]
def atR(f:FuncId)(l:Nat)(tm:Array Value)(k:List Item):Frame:={(base f).at ⟨tm,[]⟩ k with roundOf:=some l}
theorem round_eq(f:FuncId)(l:Nat)(tm:Array Value)(PO bd:Code):Frame.round l f tm PO bd .normal=atR f l tm [.code PO,.beginRound,.code bd]:=rfl
section
variable {f:FuncId} {l:Nat} {tm:Array Value} {main:Bool}
theorem yk{id:Nat}{ops:Array Oper}:stepG P main (G (atR f l tm (.code (.region id ops false)::k)) cs) w=.go (G (atR f l tm (.inRegion ops (List.range ops.size)::k)) cs) w #[]:=by simp[G,stepG,stepG.exec,Frame.at,atR]
theorem sf{ops:Array Oper}:stepG P main (G (atR f l tm (.inRegion ops []::k)) cs) w=.go (G (atR f l tm k) cs) w #[]:=by simp[G,stepG,stepG.exec,Frame.at,atR]
theorem I7{id:Nat}{c:Code}:stepG P main (G (atR f l tm (.code (.block id c)::k)) cs) w=.go (G (atR f l tm (.code c :: .inBlock id::k)) cs) w #[]:=by simp[G,stepG,stepG.exec,Frame.at,atR]
theorem El{id:Nat}:stepG P main (G (atR f l tm (.inBlock id::k)) cs) w=.go (G (atR f l tm k) cs) w #[]:=by simp[G,stepG,stepG.exec,Frame.at,atR]
theorem oP{ops:Array Oper}{i:Nat}{rest:List Nat}{o:Oper}{v:Value}{w':ae}(ho:ops[i]?=some o)(hw:Region.wanted o (yielded ops tm)=true)(vk:∀c,o.op≠.defer c)(hr:(execOp (Act.eval ⟨tm,[]⟩) o).run P w=.ok (.value v) w'){dd:Option Tmp}(hd:o.dst=dd):
  stepG P main (G (atR f l tm (.inRegion ops (i::rest)::k)) cs) w=.go (G (atR f l (Act.put ⟨tm,[]⟩ dd v).tmps (.inRegion ops rest::k)) cs) w' (listed P f ⟨tm,[]⟩ o w):=by
 subst hd;have he:(atR f l tm (.inRegion ops (i::rest)::k)).eval=Act.eval ⟨tm,[]⟩:=by funext x;cases x<;>rfl
 have Ca:(atR f l tm (.inRegion ops (i::rest)::k)).finish v=atR f l (Act.put ⟨tm,[]⟩ o.dst v).tmps (.inRegion ops rest::k):=by
  simp only[Frame.finish,atR,Frame.at,ho,Option.bind_some];cases o.dst<;>rfl
 have SJ:stepG P main (G (atR f l tm (.inRegion ops (i::rest)::k)) cs) w=stepG.apply P true (atR f l tm (.inRegion ops (i::rest)::k)) cs none (execOp (Act.eval ⟨tm,[]⟩) o) w:=by
  have h1:(atR f l tm (.inRegion ops (i::rest)::k)).oper?=some o:=by simp[Frame.oper?,atR,Frame.at,ho]
  have h2:stepG P main (G (atR f l tm (.inRegion ops (i::rest)::k)) cs) w=stepG.oper P true (atR f l tm (.inRegion ops (i::rest)::k)) cs none w:=by
   simp[G,stepG,stepG.exec,Frame.at,atR,ho,hw]
  rw[h2];simp only[stepG.oper,h1,he];split
  ·rename_i eR;exact absurd eR (vk _)
  ·rfl
 rw[SJ,<- Ca];simp[stepG.apply,hr,G,GStep.after,listed,atR,Frame.at,base]
theorem CK{ops:Array Oper}{i:Nat}{rest:List Nat}{o:Oper}{w':ae}(ho:ops[i]?=some o)(hw:Region.wanted o (yielded ops tm)=true)(vk:∀c,o.op≠.defer c)(hr:(execOp (Act.eval ⟨tm,[]⟩) o).run P w=.ok .skip w'){dd:Option Tmp}(hd:o.dst=dd):
  stepG P main (G (atR f l tm (.inRegion ops (i::rest)::k)) cs) w=.go (G (atR f l (Act.put ⟨tm,[]⟩ dd undef).tmps (.inRegion ops rest::k)) cs) w' (listed P f ⟨tm,[]⟩ o w):=by
 subst hd;have he:(atR f l tm (.inRegion ops (i::rest)::k)).eval=Act.eval ⟨tm,[]⟩:=by funext x;cases x<;>rfl
 have Ca:(atR f l tm (.inRegion ops (i::rest)::k)).finish undef=atR f l (Act.put ⟨tm,[]⟩ o.dst undef).tmps (.inRegion ops rest::k):=by
  simp only[Frame.finish,atR,Frame.at,ho,Option.bind_some];cases o.dst<;>rfl
 have SJ:stepG P main (G (atR f l tm (.inRegion ops (i::rest)::k)) cs) w=stepG.apply P true (atR f l tm (.inRegion ops (i::rest)::k)) cs none (execOp (Act.eval ⟨tm,[]⟩) o) w:=by
  have h1:(atR f l tm (.inRegion ops (i::rest)::k)).oper?=some o:=by simp[Frame.oper?,atR,Frame.at,ho]
  have h2:stepG P main (G (atR f l tm (.inRegion ops (i::rest)::k)) cs) w=stepG.oper P true (atR f l tm (.inRegion ops (i::rest)::k)) cs none w:=by
   simp[G,stepG,stepG.exec,Frame.at,atR,ho,hw]
  rw[h2];simp only[stepG.oper,h1,he];split
  ·rename_i eR;exact absurd eR (vk _)
  ·rfl
 rw[SJ,<- Ca];simp[stepG.apply,hr,G,GStep.after,listed,atR,Frame.at,base]
end
theorem sg{g g':aY}{t:ae->ae}{l:Nat}(hs:g.status=.running)(h:∀n,∃es,stepG P true g (w.at n)=.go g' ((t w).at n) es/\∀e∈es,∃wt sy,e=⟨.obj l,wt,sy⟩)(fJ:(t w).heap.size=w.heap.size)(hx:XB P Fin d o g' (t w))(RY:(t w).os=w.os/\(t w).output=w.output:=by exact⟨rfl,rfl⟩):XB P Fin d o g w:=by
 refine bY.step o _ w hs fun w1 lE=>?_;obtain⟨n,rfl⟩:=lE;obtain⟨es,e1,e2⟩:=h n;refine⟨_,_,_,e1,⟨fun e he=>?_,bH fJ.symm,RY⟩,?_⟩
 ·obtain⟨wt,sy,rfl⟩:=e2 e he;exact⟨NT,aj,aj⟩
 ·rw[kM o (show((t w).at n).heap.size=(w.at n).heap.size from fJ)];exact bY.rely _ _ _ _ hx ⟨n,rfl⟩
theorem pR(h:bN P L o w){l:Nat}{x:Obj}(hx:fu x=false)(hc:∀f,obj f x=x)(hl:o l):bN P L o {w with heap:=w.heap.setIfInBounds l x}:=by
 refine⟨fun b hb=>?_,h.kz,by simpa using h.size⟩;by_cases e:l=b
 ·subst e;exact⟨x,by rw[b9 (h.lt hl)],hx,fun f _=>hc f⟩
 ·obtain⟨y,k1,k2,k3⟩:=h.shut b hb;exact⟨y,by rw[aT e];exact k1,k2,k3⟩
theorem bN.alloc(h:bN P L o w){x:Obj}(hx:fu x=false)(hc:∀f,(mM P L o).has f->obj f x=x):bN P L (fun b=>o b\/b=w.heap.size) (w.alloc x):=by
 refine⟨fun b hb=>?_,fun b hb=>.inl (h.kz b hb),by have:=h.size;simp;omega⟩;rcases hb with hb|rfl
 ·obtain⟨y,k1,k2,k3⟩:=h.shut b hb;exact⟨y,by rw[RowKit.Below.heap_alloc w x b (h.lt hb)];exact k1,k2,fun f hf=>k3 f (L9 (fun _ hb=>.inl hb) hf)⟩
 ·refine⟨x,?_,hx,fun f hf=>hc f (L9 (fun _ hb=>.inl hb) hf)⟩;show(w.heap.push x)[w.heap.size]?=_;simp
theorem I8{f:FuncId}{l:Nat}{tm:Array Value}{main:Bool}{r:Loop}(hl:w.heap[l]?=some (.loop r))(hs:r.state=.ready):
  ∃es,stepG P main (G (atR f l tm (.beginRound::k)) cs) w=.go (G (atR f l tm k) cs) (dE w l {r with state:=.busy}) es/\∀e∈es,∃wt sy,e=⟨.obj l,wt,sy⟩:=zE hl hs
theorem PQ{f:FuncId}{l:Nat}{tm:Array Value}{main:Bool}{r:Loop}{c:Frame}(hl:w.heap[l]?=some (.loop r)):
  ∃es,stepG P main (G (atR f l tm []) (c::cs)) w=.go (G (c.finish (.bool true)) cs) (dE w l {r with state:=.ready,pending:=none}) es/\∀e∈es,∃wt sy,e=⟨.obj l,wt,sy⟩:=CH hl
theorem Ma{x:Operand}{ps:Array Tmp}{as bd:Code}{g:FuncId}{gc:Func}{c:Code}{cap:Array Value}(r8:b.roundOf=none)(hk:b.kind≠.early)(hm:b.mode=.run)(hx:a.eval x=.func (.func g) #[] cap)(hg:P.funcs[g]?=some gc)(gU:(gc.name == "runtime.NumGoroutine")=false)(hb:gc.body=some c)(h:XB P Fin d (fun b=>(o b\/b=w.heap.size)\/b=w.heap.size+1) (G (Frame.enter P g (#[.func (.yield (w.heap.size+1)) #[] #[]]++cap) .normal) (b.at ⟨a.tmps,{target:=.collected w.heap.size,args:=#[]}::a.defers⟩ (.inRangeFunc (w.heap.size+1)::k)::cs)) (mX w b.fn a.tmps ps as bd)):XB P Fin d o (G (b.at a (.code (.rangeFunc x ps as bd)::k)) cs) w:=by
 refine bY.step o _ w rfl fun w1 lE=>?_;obtain⟨n,rfl⟩:=lE;refine⟨_,_,_,A4 r8 hk hm hx hg gU hb,⟨aj,?_,rfl,rfl⟩,?_⟩
 ·have h1:(mX (w.at n) b.fn a.tmps ps as bd).heap.size=w.heap.size+2:=by simp[mX,World.at]
  rw[h1];exact Nat.le_add_right _ 2
 ·have e:grow o (w.at n) (mX (w.at n) b.fn a.tmps ps as bd)=fun b=>(o b\/b=w.heap.size)\/b=w.heap.size+1:=by
   funext y;have h1:(mX (w.at n) b.fn a.tmps ps as bd).heap.size=w.heap.size+2:=by simp[mX,World.at]
   simp only[grow,h1,eq_iff_iff];constructor
   ·rintro(h2|h2)
    ·exact .inl (.inl h2)
    ·have h3:w.heap.size<=y:=h2.1;have:=h2.2;omega
   ·rintro((h2|h2)|h2)
    ·exact .inl h2
    ·exact .inr ⟨bH h2.symm,aa⟩
    ·exact .inr ⟨show w.heap.size<=y by omega,aa⟩
  rw[e];exact bY.rely _ _ _ ((mX w b.fn a.tmps ps as bd).at n) h ⟨n,rfl⟩
section
theorem dU{k:IntKind}{n:Int}:Cl P L o (.int k n):=fun f _=>aj
theorem nf{x:Bool}:Cl P L o (.bool x):=fun f _=>aj
theorem bU{x:af}:Cl P L o (.string x):=fun f _=>aj
theorem bX{b off:Nat}(h:o b):Cl P L o (.pointer (some ⟨b,off,none⟩)):=fun f hf=>by simp[val,addr,hf.at_ b h,mM]
theorem ee{b off l c:Nat}(h:o b):Cl P L o (.slice (some ⟨b,off,none⟩) l c):=fun f hf=>by simp[val,addr,hf.at_ b h,mM]
theorem iU{l c:Nat}:Cl P L o (.slice none l c):=fun f _=>by simp[val]
theorem yl:Cl P L o (.pointer none):=fun f _=>by simp[val]
theorem fX{vs:List Value}(h:∀v∈vs,Cl P L o v):Cl P L o (.agg vs.toArray):=fun f hf=>by
 simp only[val]
 congr 1
 simp only[List.map_toArray]
 congr 1
 conv=>rhs;rw[<- List.map_id vs]
 exact cg fun v hv=>h v hv f hf
end
end
end Go.Ren
namespace Go.Conc
open Go.Ren Go.ConcN
section
variable {P:Program} {L:Nat->Bool} {Fin:bL} {d:Nat} {o:aN} {w:ae} {fn:FuncId} {Q:Exit->Act->aN->ae->Prop} {a:Act} {ops:Array Oper} {i:Nat} {rest:List Nat} {op:Oper}
theorem dv(de:rS P L P.globals.size)(hF:bN P L o w)(ho:ops[i]?=some op)(hw:Region.wanted op (yielded ops a.tmps)=true)(jj:tG L op.op=true)(fB:∀x∈op.op.operands,Cl P L o (a.eval x)){dd:Option Tmp}(hd:op.dst=dd){R:ae->Value->ae->Prop}(cL:∀wl,iF o w wl->∃v aW,(execOp a.eval op).run P wl=.ok (.value v) aW/\R wl v aW)(h:∀wl v aW w',iF o w wl->R wl v aW->lO P L o w w' aW v->fa (XB P Fin d) fn ops rest Q (a.put dd v) (grow o w w') w'):fa (XB P Fin d) fn ops (i::rest) Q a o w:=by
 intro b k cs hb hk hc;exact CJ de hF ho hw hk jj fB hd cL fun wl v aW w' h1 h2 h3=>h wl v aW w' h1 h2 h3 b k cs hb hk hc
theorem dD(de:rS P L P.globals.size)(hF:bN P L o w)(ho:ops[i]?=some op)(hw:Region.wanted op (yielded ops a.tmps)=true)(jj:tG L op.op=true)(fB:∀x∈op.op.operands,Cl P L o (a.eval x)){dd:Option Tmp}(hd:op.dst=dd){v:Value}(cL:∀wl,iF o w wl->(execOp a.eval op).run P wl=.ok (.value v) wl)(h:Cl P L o v->fa (XB P Fin d) fn ops rest Q (a.put dd v) o w):fa (XB P Fin d) fn ops (i::rest) Q a o w:=by
 intro b k cs hb hk hc;exact mZ de hF ho hw hk jj fB hd cL fun h1=>h h1 b k cs hb hk hc
theorem dz(de:rS P L P.globals.size)(hF:bN P L o w)(ho:ops[i]?=some op)(hw:Region.wanted op (yielded ops a.tmps)=true)(jj:tG L op.op=true)(fB:∀x∈op.op.operands,Cl P L o (a.eval x)){dd:Option Tmp}(hd:op.dst=dd){R:ae->ae->Prop}(cL:∀wl,iF o w wl->∃aW,(execOp a.eval op).run P wl=.ok .skip aW/\R wl aW)(h:∀wl aW w',iF o w wl->R wl aW->lO P L o w w' aW undef->fa (XB P Fin d) fn ops rest Q (a.put dd undef) (grow o w w') w'):fa (XB P Fin d) fn ops (i::rest) Q a o w:=by
 intro b k cs hb hk hc;exact AA de hF ho hw hk jj fB hd cL fun wl aW w' h1 h2 h3=>h wl aW w' h1 h2 h3 b k cs hb hk hc
end
section
variable {P:Program} {m:Bool} {b:Frame} {a:Act} {k:List Item} {cs:List Frame} {w:ae}
theorem CL{o:Oper}{x:Operand}{f:FuncId}{fn:Func}{cap:Array Value}{args:Array Operand}{sI:Array TypeId}(eR:o.op=.call {callee:=.value x,args,argTypes:=sI})(hx:a.eval x=.func (.func f) #[] cap)(hf:P.funcs[f]?=some fn)(gU:(fn.name == "runtime.NumGoroutine")=false)(hb:fn.body.isNone=false):(execOp a.eval o).run P w=.ok (.enter f (args.map a.eval++cap)) w:=by
 have h1:¬fn.name= "runtime.NumGoroutine":=by simpa using gU
 have h2:¬fn.body=none:=by cases hx:fn.body<;>simp_all
 unfold execOp;simp[eR,hx,resolve,Deferred.ofValue,invoke,callFunc,hf,h1,h2]
theorem ym{o:Oper}{x:Operand}{f:FuncId}{fn:Func}{cap:Array Value}{args:Array Operand}{sI:Array TypeId}(eR:o.op=.call {callee:=.value x,args,argTypes:=sI})(hx:a.eval x=.func (.func f) #[] cap)(hf:P.funcs[f]?=some fn)(gU:(fn.name == "runtime.NumGoroutine")=false)(hb:fn.body.isNone=false)(es:Array Event):(execOp a.eval o).events P w es=es:=by
 have h1:¬fn.name= "runtime.NumGoroutine":=by simpa using gU
 have h2:¬fn.body=none:=by cases hx:fn.body<;>simp_all
 unfold execOp;simp[eR,hx,resolve,Deferred.ofValue,invoke,callFunc,hf,h1,h2]
theorem Mc{R:aN->ae->ae->Prop}{Gu:aN->ae->ae->Array Event->Prop}{X:aN->aY->ae->Prop}{fn:FuncId}{Q:Exit->Act->aN->ae->Prop}{o:aN}(W:fM P m R Gu X){ops:Array Oper}{i:Nat}{rest:List Nat}{op:Oper}{x:Operand}{cap:Array Value}{f:FuncId}{fc:Func}{c:Code}{args:Array Operand}{sI:Array TypeId}(ho:ops[i]?=some op)(hw:Region.wanted op (yielded ops a.tmps)=true)(eR:op.op=.call {callee:=.value x,args,argTypes:=sI})(hx:a.eval x=.func (.func f) #[] cap)(hf:P.funcs[f]?=some fc)(gU:(fc.name == "runtime.NumGoroutine")=false)(fK:fc.body=some c){vs:Array Value}(x8:args.map a.eval++cap=vs){d:Option Tmp}(hd:op.dst=d)(h:bA P X f vs o w fun v o' w'=>fa X fn ops rest Q (a.put d v) o' w'):fa X fn ops (i::rest) Q a o w:=by
 subst x8 hd;intro b k cs hb hk hc;have nC:fc.body.isNone=false:=by rw[fK];rfl
 refine W.go rfl (fun w1=>?_) (h (b.at a (.inRegion ops (i::rest)::k)) cs fun v o' w' q=>?_)
 ·rw[stepG_enter ho hw hk (CL eR hx hf gU nC)];have:listed P b.fn a op w1=#[]:=by unfold listed;rw[ym eR hx hf gU nC];exact seen_none P _
  rw[this]
 ·rw[show(b.at a (.inRegion ops (i::rest)::k)).finish v=b.at (a.put op.dst v) (.inRegion ops rest::k) by rw[ek,ho];rfl];exact q b k cs hb hk hc
end
section
variable {P:Program} {m:Bool} {R:aN->ae->ae->Prop} {Gu:aN->ae->ae->Array Event->Prop} {X:aN->aY->ae->Prop} {o:aN} {w:ae} {f:FuncId} {fc:Func} {Post:Value->aN->ae->Prop} {a:Act}
def jP(X:aN->aY->ae->Prop)(f:FuncId)(Post:Value->aN->ae->Prop)(a:Act)(o:aN)(w:ae):Prop :=
 ∀(cf:Frame) (cs:List Frame) (todo:List Item),(∀v o2 w2,Post v o2 w2->X o2 (G (cf.finish v) cs) w2)->X o (G {(base f).at a todo with mode:=.returning} (cf::cs)) w
theorem oQ(W:fM P m R Gu X){c:Code}{vs:Array Value}(hf:P.funcs[f]?=some fc)(fK:fc.body=some c)(h:wm X f c (fun e a' o' w'=>(e=.normal\/e=.ret)/\jP X f Post a' o' w') {tmps:=vs++Array.replicate (fc.ntmps-vs.size) undef,defers:=[]} o w):bA P X f vs o w Post:=by
 intro cf cs hc;rw[iS hf fK];refine h (base f) [] _ rfl (by simp[base]) fun e a' o' w' q=>?_;obtain⟨he,hl⟩:=q;rcases he with rfl|rfl
 ·exact W.go rfl (fun _=>eu) (hl _ _ _ hc)
 ·exact fun todo=>hl _ _ _ hc
theorem Md(W:fM P m R Gu X)(hf:P.funcs[f]?=some fc)(hd:a.defers=[]){v:Value}(hr:uy P R Gu fc a.tmps o w v)(hx:Post v o w):jP X f Post a o w:=by
 intro cf cs todo hc;refine W.step _ _ _ rfl fun w1 h1=>?_;obtain⟨es,e1,e2⟩:=uw (main:=m) (b:=base f) (a:=a) (todo:=todo) (c:=cf) (cs:=cs) rfl hd hf (hr w1 h1).1;exact⟨_,_,es,e1,(hr w1 h1).2 es e2,by rw[cd];exact W.rely _ _ _ _ (hc v o w hx) h1⟩
theorem mr(W:fM P m R Gu X)(hf:P.funcs[f]?=some fc)(hd:a.defers=[]){v:Value}(hr:ResultsC P fc a.tmps v)(hx:Post v o w):jP X f Post a o w:=by
 intro cf cs todo hc;refine W.go rfl (fun w1=>?_) (hc v o w hx);rw[stepG_leave (b:=base f) rfl hd hf (hr w1).1 (hr w1).2]
theorem xc{Fin:bL}{tmps:Array Value}{v:Value}(cL:∀n,(results fc tmps).run P (w.at n)=.ok v (w.at n))(jl:∀n e,e∈(results fc tmps).events P (w.at n) #[]->∃ad wt sy,e=⟨.cell ad,wt,sy⟩/\o ad.block):uy P (fun _=>AtRel) (GuO Fin) fc tmps o w v:=by
 rintro w1 ⟨n,rfl⟩;refine⟨cL n,fun es Is=>⟨fun e he=>?_,ag _,rfl,rfl⟩⟩;obtain⟨ad,wt,sy,rfl,hb⟩:=jl n e (Is e he);rw[cd];exact⟨(Br hb).SB,aj,aj⟩
end
section
variable {P:Program} {L:Nat->Bool} {o:aN} {w:ae}
theorem I9{f:Rn}{c:Array Value}{j:Nat}{v:Value}(hc:c.map (val f)=c)(hv:val f v=v):(c.setIfInBounds j v).map (val f)=c.setIfInBounds j v:=by
 rw[ki,hc,hv]
theorem bN.setCell(h:bN P L o w){K off:Nat}{v:Value}(hv:Cl P L o v):bN P L o (w.setCell ⟨K,off,none⟩ v):=by
 refine⟨fun b hb=>?_,h.kz,by simpa[World.setCell] using h.size⟩;obtain⟨y,k1,k2,k3⟩:=h.shut b hb;by_cases e:K=b
 ·subst e;cases y with
  |cells c t z =>
   refine⟨.cells (c.setIfInBounds off v) t z,by simp[World.setCell,aS,k1],rfl,fun f hf=>?_⟩;have:=k3 f hf;simp only[obj,Obj.cells.injEq,and_true] at this |-;exact I9 this (hv f hf)
  |_=>exact⟨_,by simp[World.setCell,aS,k1],k2,k3⟩
 ·exact⟨y,by simp[World.setCell,aS,e,k1],k2,k3⟩
end
end Go.Conc
