import Derived.Test.YtgjekaaknjgnmaaGreatDoorAd
import Derived.Conc.CompanyDraw
import Derived.Conc.CompanyMem
import Derived.Conc.CompanyWords
import Derived.Conc.Listed
import Derived.Deep.OwnRows
set_option linter.all false
set_option maxHeartbeats 40000000
set_option maxRecDepth 200000
namespace Go.Ren
open Go.Conc Go.ConcN
section
open Go.ConcR (KK wgBlock WgAt stA smA rd wr Payload DC0 Bk g_of_ofEvents loc_of_ofEvent ofEvent_loc_mark)
variable [Payload]
theorem G0(t:Trace):∃M,∀op∈t,op.act.low M:=by
 have one:∀x:MemAct,∃M,x.low M:=by
  intro x;cases x with
  |access e =>
   obtain⟨loc,oT,sy⟩:=e;cases loc with
   |cell a=>exact⟨a.block+1,bz _⟩
   |obj r=>exact⟨r+1,bz _⟩
   |_=>exact⟨0,trivial⟩
  |mark m =>
   cases m
   case acquire a=>exact⟨a.block+1,bz _⟩
   case release a=>exact⟨a.block+1,bz _⟩
   case releaseMerge a=>exact⟨a.block+1,bz _⟩
   case read a=>exact⟨a.block+1,bz _⟩
   case write a=>exact⟨a.block+1,bz _⟩
   all_goals exact⟨0,trivial⟩
  |go _=>exact⟨0,trivial⟩
  |start=>exact⟨0,trivial⟩
  |send c _=>exact⟨c+1,bz _⟩
  |sendDone c _=>exact⟨c+1,bz _⟩
  |recv c _ _=>exact⟨c+1,bz _⟩
  |recvDone c _=>exact⟨c+1,bz _⟩
  |close c=>exact⟨c+1,bz _⟩
  |recvClosed c=>exact⟨c+1,bz _⟩
 have key:∀l:List MemOp,∃M,∀op∈l,op.act.low M:=by
  intro l
  induction l with
  |nil=>exact⟨0,an⟩
  |cons z l ih =>
   obtain⟨M,hM⟩:=ih;obtain⟨M',Zg⟩:=one z.act;refine⟨M+M',fun op eu=>?_⟩;simp only[List.mem_cons] at eu;rcases eu with rfl|eu
   ·exact MemAct.low_mono aa Zg
   ·exact MemAct.low_mono aa (hM op eu)
 obtain⟨M,hM⟩:=key t.toList;exact⟨M,fun op eu=>hM op (by simpa using eu)⟩
def PR(w:ae):jc->jc
 | .inl (S,x)=>.inl (S,{x with w:=w})
 | .inr m=>.inr m
section
variable {P:Program} {T:cP} {V:Nat->ae->Prop} {ek:Nat->(Nat->Prop)->ae->Prop} {cx Fin:dV} {t0:Trace} {w0:ae}
 {gs:Array aS} {w w':ae} {t:Trace} {S S':jb} {D:Nat->WD} {x:Nat->kV} {tag:CTag} {a:aS} {y:jc} {st sm:Int} {sl:Option (Nat×Nat)}
theorem I6.rely(hV:jJ T V ek){i:Nat}{o rc:Nat->Prop}{cl:Nat->Option Nat}{d:WD}{ld:kV}{g:aS}{w w':ae}(h:I6 P T V ek i o rc cl d ld g w)(hr:cF T i o rc w w'):
  iy T (lM w' ld) ld/\I6 P T V ek i o rc cl d (lM w' ld) g w':=by
 rcases h with⟨h1,h2,h3,g0,tr,h4,h5,h6⟩|⟨h1,h2,h3,C,v,h4,h5,h6⟩
 ·refine⟨by rw[h4];exact⟨rfl,rfl,rfl,rfl,rfl,hr⟩,.inl ⟨h1,h2,h3,g0,tr,by rw[h4];rfl,h5.rely hr,?_⟩⟩;exact h6.imp id fun⟨q1,k,z,f,q2,q3,q4⟩=>⟨q1,k,z,f,q2,fun w1 pO=>q3 w1 (hr.trans pO),q4⟩
 ·have nt:∀a,T.js i (.cell a)->w'.cell? a=w.cell? a:=fun a ha=>hr.mine a (.inl ha);have e2:lM w' ld=ld:=by rw[h2];rfl
  rw[e2];exact⟨iy.refl ld,.inr ⟨h1,h2,hV.v i w w' nt h3,C,v,h4,h5.rely (hr.rw h4),hV.val i _ w w' nt (fun b hb=>hr.own b hb.1) h6⟩⟩
theorem fJ.at(hV:jJ T V ek)(h:fJ P T V ek cx Fin t0 w0 gs w t S D x tag a y st sm)(d:Nat):
  fJ P T V ek cx Fin t0 w0 gs (w.at d) t S D (fun k=>lM (w.at d) (x k)) tag a (PR (w.at d) y) st sm/\∀k,iy T (lM (w.at d) (x k)) (x k):=by
 have GX:ji P T V ek cx Fin tag (S.own 0) a (w.at d) (PR (w.at d) y):=by
  by_cases hb:tag=.blk
  ·subst hb;obtain⟨a0,h1,h2,h3⟩:=h.JU;exact⟨a0,h1,fun w1 pO=>h2 w1 ((dc.at w d).trans pO),by rw[h3];rfl⟩
  ·have hs:=h.JU;rw[ji.eq hb] at hs |-;exact⟨hs.1.rely (dc.at w d),by rw[hs.2];rfl⟩
 refine⟨⟨h.size,h.DI,GX,h.sN,fun k k0 km=>?_,fun k hk=>?_,fun k hk=>by rw[h.rest k hk];rfl,by rw[h.zero];rfl,h.deafW,h.above,h.ti,h.rQ,h.lt,h.h0,h.wg,h.mode,h.chan,h.SH,h.Xg,h.SF,h.rel,h.norel,h.SD,h.ext,h.same.trans (dc.at w d),⟨h.Cu.Cu,h.Cu.idle⟩,h.idle0⟩,fun k=>?_⟩
 ·obtain⟨g,q,h1,h2,h3⟩:=h.old k k0 km;exact⟨g,q,h1,by rw[h2];rfl,h3⟩
 ·obtain⟨g,h1,h2⟩:=h.wk k hk;exact⟨g,h1,(h2.rely hV (cF.at w d)).2⟩
 ·rcases aZ k with rfl|nS
  ·rw[h.zero];exact rfl
  ·rcases bP k T.m0 with lE | Nc
   ·obtain⟨gk,q,_,h2,_⟩:=h.old k nS lE;rw[h2];exact rfl
   ·rcases bP k (T.m0+S.j) with Ge|Cv
    ·obtain⟨g,_,h2⟩:=h.wk (k-T.m0) aa;have:=(h2.rely hV (cF.at w d)).1;rw[show T.m0+(k-T.m0)=k by omega] at this;exact this
    ·rw[h.rest k Cv];exact rfl
theorem lV.back{y' y'':jc}(h:fJ P T V ek cx Fin t0 w0 gs w t S D x tag a y st sm)(d:Nat)(k:lV P T y'' (PR (w.at d) y)):lV P T y'' y:=by
 by_cases hb:tag=.blk
 ·subst hb;obtain⟨a0,_,_,h3⟩:=h.JU;rw[h3] at k |-;exact k
 ·have hs:=h.JU;rw[ji.eq hb] at hs;rw[hs.2] at k |-;rcases y'' with⟨S'',z⟩|m
  ·obtain⟨e,k1,w1,es,k2,k3,k4⟩:=k;exact⟨e,fun hh=>k1 fun w1 pO=>hh w1 ((dc.at w d).trans pO),w1,es,(dc.at w d).trans k2,k3,k4⟩
  ·exact trivial
theorem fJ.ends(hT:T.OK)(h:fJ P T V ek cx Fin t0 w0 gs w t S D x tag a y st sm):Ends (mA P T V) (lV P T) (T.m0+T.n) (ot T S D tag,x,y):=by
 refine⟨fun k hk=>?_,h.JU.acc⟩;show Acc (mA P T V) (x k);rcases aZ k with rfl|nS
 ·rw[h.zero];exact zU 0
 ·rcases bP k T.m0 with lE | Nc
  ·obtain⟨gk,q,_,h2,_⟩:=h.old k nS lE;rw[h2];exact zU q
  ·rcases bP k (T.m0+S.j) with Ge|Cv
   ·obtain⟨g,_,h2⟩:=h.wk (k-T.m0) aa;have:=h2.acc hT aa;rw[show T.m0+(k-T.m0)=k by omega] at this;exact this
   ·rw[h.rest k Cv];exact zU 0
theorem fJ.awake(h:fJ P T V ek cx Fin t0 w0 gs w t S D x tag a y st sm):∀g∈gs,awake g:=by
 intro g hg tm;obtain⟨k,hk⟩:=Array.mem_iff_getElem?.1 hg;have bZ:k<T.m0+S.j:=by have:=(Array.getElem?_eq_some_iff.1 hk).1;rw[h.size] at this;exact this
 rcases aZ k with rfl|nS
 ·rw[h.DI] at hk;cases hk;by_cases hb:tag=.blk
  ·subst hb;obtain⟨a0,h1,_⟩:=h.JU;rw[h1];simp
  ·have hs:=h.JU;rw[ji.eq hb] at hs;rw[hs.1.running fun o g w hh=>lX hh];simp
 ·rcases bP k T.m0 with lE | Nc
  ·obtain⟨gk,q,h1,_,h3⟩:=h.old k nS lE;rw[hk] at h1;cases h1;rcases h3.status with e|e<;>rw[e]<;>simp
  ·obtain⟨gk,h1,h2⟩:=h.wk (k-T.m0) aa;rw[show T.m0+(k-T.m0)=k by omega,hk] at h1;cases h1;rcases h2.status with e|e|⟨e,_⟩<;>rw[e]<;>simp
theorem fJ.Tx(hT:T.OK)(h:fJ P T V ek cx Fin t0 w0 gs w t S D x tag a y st sm):∃(i:Nat) (g:aS),gs[i]?=some g/\g.status=.running:=by
 by_cases hb:tag=.blk
 ·subst hb;have sf:=h.sN.le;have shut:∀i,i<S.j->(S.cl i).isSome=true->(D i).stage≠1->∃(i:Nat) (g:aS),gs[i]?=some g/\g.status=.running:=by
   intro i hi hc hs;obtain⟨g,h1,h2⟩:=h.wk i hi;rcases h2 with⟨h3,_⟩|⟨_,_,_,C,v,_,h5,_⟩
   ·rw[h3] at hc;cases hc
   ·exact⟨_,g,h1,h5.running_of hs⟩
  have aav:∀m i,i<S.j->i<=m->S.cl i=none->∃(i:Nat) (g:aS),gs[i]?=some g/\g.status=.running:=by
   intro m
   induction m with
   |zero =>
    intro i hi hm hc;obtain⟨g,h1,h2⟩:=h.wk i hi;rcases h2.status with e|e|⟨_,_,k,hd,_⟩
    ·exact⟨_,g,h1,e⟩
    ·exfalso;rcases h2 with⟨_,_,_,g0,tr,_,h5,h6⟩|⟨h3,_⟩
     ·rcases h6 with⟨h6,_⟩|⟨_,k,z,f,_,_,⟨h9,_⟩|⟨h9,_⟩⟩
      ·rw[h6,h5.look.1] at e;cases e
      ·rw[h9] at e;cases e
      ·rw[h9] at e;cases e
     ·rw[hc] at h3;cases h3
    ·have:=hT.dep i k aa hd;omega
   |succ m ih =>
    intro i hi hm hc;obtain⟨g,h1,h2⟩:=h.wk i hi;rcases h2.status with e|e|⟨_,_,k,hd,hk⟩
    ·exact⟨_,g,h1,e⟩
    ·exfalso;rcases h2 with⟨_,_,_,g0,tr,_,h5,h6⟩|⟨h3,_⟩
     ·rcases h6 with⟨h6,_⟩|⟨_,k,z,f,_,_,⟨h9,_⟩|⟨h9,_⟩⟩
      ·rw[h6,h5.look.1] at e;cases e
      ·rw[h9] at e;cases e
      ·rw[h9] at e;cases e
     ·rw[hc] at h3;cases h3
    ·have:=hT.dep i k aa hd;exact ih k aa aa hk
  have any:∀i,i<S.j->(D i).stage≠1->∃(i:Nat) (g:aS),gs[i]?=some g/\g.status=.running:=by
   intro i hi hs;cases hc:S.cl i with
   |none=>exact aav i i hi (ag _) hc
   |some p=>exact shut i hi (by rw[hc];rfl) hs
  have jw:=h.mode;cases jw with
  |opn h1 _ _=>exact h1.elim
  |reg _ _ h3 =>
   obtain⟨i,hi,h5⟩:=exists_counted h3;exact any i hi aa
  |last L _ h2 h3 _=>exact any L h2 aa
  |fin h1 _=>exact h1.elim
 ·have hs:=h.JU;rw[ji.eq hb] at hs;exact⟨0,a,h.DI,hs.1.running fun o g w hh=>lX hh⟩
def Joined(P:Program)(T:cP)(V:Nat->ae->Prop)(ek:Nat->(Nat->Prop)->ae->Prop)(Fin:dV)(Sb:Nat->Prop)(w0:ae)(gs:Array aS)(w:ae)(t:Trace):Prop :=
 ∃o g' q B',gs.size=T.m0+T.n/\gs[0]?=some g'/\Fin o g' w/\Leavers P t gs q/\Past (sK fun b=>Sb b\/b=T.Wg) B' t/\w.heap.size<=B'/\(∀i,i<T.n->V i w/\∃(oi:Nat->Prop) (C:Nat),ek i (fun b=>oi b/\b≠C) w/\∀b,oi b->T.H0<=b/\b<w.heap.size) /\
  dc T (fun _=>False) w0 w/\(∀b,o b->T.H0<=b/\b<w.heap.size)/\(∀b cs ty fz,T.Sh b->w0.heap[b]?=some (.cells cs ty fz)->∃rW,w.heap[b]?=some (.cells rW ty fz)/\rW.size=cs.size)/\(∀k,k<T.n->∃c s r tm,w.heap[T.ch k]?=some (.chan 0 #[] c s r tm))
theorem fJ.final(hT:T.OK){Sb:Nat->Prop}(se:T.Shun=sK Sb){B:Nat}(h0:t0.size=T.T0)(hP:Past T.Shun B t0)(h:fJ P T V ek cx Fin t0 w0 gs w t S D x .acq a y st sm){g':aS}(hgo:stepG P true a w=.go g' w #[Go.ConcR.mk (.acquire (stA T.Wg))])(hF:Fin (S.own 0) g' w):
  ∃gd ops,runT P (crowd gs w sl) 0=(.next (crowd gd w sl),ops)/\Joined P T V ek Fin Sb w0 gd w (t++ops):=by
 have LJ:=hT.m0;have qJ:=h.sN;simp only[lK] at qJ;obtain⟨hj,Cr⟩:=qJ;have cm:=runT_crowd_go (P:=P) (sl:=sl) (i:=0) h.DI (show stepG P (0==0) a w=_ from hgo);have hu:∀op∈MemOp.ofEvents 0 a.frame.fn a.frame.place #[Go.ConcR.mk (.acquire (stA T.Wg))],op.g=0:=g_of_ofEvents;have PH:MemOp.ofEvents 0 a.frame.fn a.frame.place #[Go.ConcR.mk (.acquire (stA T.Wg))]=#[{g:=0,fn:=a.frame.fn,pos:=a.frame.place,act:=.mark (.acquire (stA T.Wg))}]:=by rw[ofEvents_eq];simp[Go.ConcR.ofEvent_mk]
 have I9:∀k,k≠0->Deaf (t++MemOp.ofEvents 0 a.frame.fn a.frame.place #[Go.ConcR.mk (.acquire (stA T.Wg))]) k=Deaf t k:=fun k hk=>Deaf_other t (bc hk) _ hu;have hq:∀i,i<S.j->(D i).stage=1:=(h.mode.fin_inv trivial).1;have sP:(t++MemOp.ofEvents 0 a.frame.fn a.frame.place #[Go.ConcR.mk (.acquire (stA T.Wg))])[t.size]?=some {g:=0,fn:=a.frame.fn,pos:=a.frame.place,act:=.mark (.acquire (stA T.Wg))}:=by rw[PH,fF (ag _)];simp
 obtain⟨M,hM⟩:=G0 (t++MemOp.ofEvents 0 a.frame.fn a.frame.place #[Go.ConcR.mk (.acquire (stA T.Wg))]);have M9:∀i,i<S.j->∃g C v,gs[T.m0+i]?=some g/\V i w/\S.own (T.m0+i) C/\QuitsD P (D i).fuel (D i).deaf g/\ek i (fun b=>S.own (T.m0+i) b/\b≠C) w/\v=C:=by
  intro i hi;obtain⟨g,h1,h2⟩:=h.wk i hi;rcases h2 with⟨_,h3,_⟩|⟨_,_,h3,C,v,h4,h5,h6⟩
  ·have:=hq i hi;omega
  ·exact⟨g,C,C,h1,h3,h4,h5.quits (hq i hi),h6,rfl⟩
 have M7:TI T S (t++MemOp.ofEvents 0 a.frame.fn a.frame.place #[Go.ConcR.mk (.acquire (stA T.Wg))]):=h.ti.mute hu fun op eu=>by
  obtain⟨e,he,rfl⟩:=Go.Conc.mem_ofEvents eu;simp at he;subst he;rfl
 have aeG:∃U,t++MemOp.ofEvents 0 a.frame.fn a.frame.place #[Go.ConcR.mk (.acquire (stA T.Wg))]=t0++U:=by
  obtain⟨U,hU⟩:=h.ext;exact⟨U++MemOp.ofEvents 0 a.frame.fn a.frame.place #[Go.ConcR.mk (.acquire (stA T.Wg))],by rw[hU,cY]⟩
 have aaw:=TI.Pw (B':=M+w.heap.size) se M7 aeG h0 hP (q:=t.size) (by rw[act?_of sP]) (by simp[Trace.g?,sP]) ⟨0,by simp[Trace.g?,sP],by rw[deaf_old (ag _)];exact Cr⟩
  (tH h.norel fun e he=>by simp at he;subst he;simp[Go.ConcR.mk])
  (fun i hi=>by
   obtain⟨r,r1,r2,r3⟩:=h.rel i hi (by rw[hq i hi];omega);have hr:r<t.size:=lt_of_act? r2.act;obtain⟨r',r1',r2',r3'⟩:=qo (t:=t) (u:=MemOp.ofEvents 0 a.frame.fn a.frame.place #[Go.ConcR.mk (.acquire (stA T.Wg))]) ⟨r,r1,r2,r3⟩ hu aa;refine⟨r',r1',?_,r2',r3'⟩;have hg:=r2'.g;rcases bP r' t.size with bZ|Nc
   ·exact bZ
   ·exfalso;obtain⟨z,hz,VD⟩:=Option.map_eq_some_iff.1 hg;rcases getElem?_append_cases hz with⟨bZ,_⟩|⟨_,FR⟩
    ·omega
    ·have:=hu z FR;omega)
  (tI h.SD fun z hz=>.inl (hu z hz)) (by rw[Deaf_own,Cr];simp[deafBehind,Go.ConcR.mk]) (fun op eu=>MemAct.low_mono aa (hM op eu))
 have zA:0<gs.size:=by rw[h.size];omega
 refine⟨_,_,cm,S.own 0,g',fun k=>if k<T.m0 then(match x k with|.inr q=>q|.inl _=>0) else(D (k-T.m0)).fuel,M+w.heap.size,by simp[h.size,hj],by simp[zA],hF,⟨fun k g k0 hk=>?_,fun k hk=>?_⟩,aaw,aa,fun i hi=>?_,h.same,fun b hb=>⟨h.rQ.new _ b hb,h.lt _ b hb⟩,h.Cu.Cu,fun k hk=>⟨_,h.chan k hk⟩⟩
 ·have cV:0≠k:=aa;rw[ov _ _ _ _ cV] at hk;obtain⟨g1,I3,rfl⟩:=Option.map_eq_some_iff.1 hk;rw[I9 k (bc cV)];have bZ:k<T.m0+S.j:=by have:=(Array.getElem?_eq_some_iff.1 I3).1;rw[h.size] at this;exact this
  by_cases hkm:k<T.m0
  ·obtain⟨g2,q,h1,h2,h3⟩:=h.old k k0 hkm;rw[I3] at h1;cases h1;rw[woken_quitsD h3,if_pos hkm,h2];exact h3
  ·obtain⟨g2,C,v,h1,_,_,h3,_⟩:=M9 (k-T.m0) aa;have e:T.m0+(k-T.m0)=k:=aa;rw[e,I3] at h1;cases h1;rw[woken_quitsD h3,if_neg hkm];have:=h.deafW (k-T.m0) aa;rw[e] at this;rw[this];exact h3
 ·have kY:gs.size<=k:=by simpa using hk
  rw[I9 k aa];exact h.above k kY
 ·obtain⟨g,C,v,_,h2,h3,_,h4,_⟩:=M9 i aa;exact⟨h2,S.own (T.m0+i),C,h4,fun b hb=>⟨h.rQ.new _ b hb,h.lt _ b hb⟩⟩
theorem Nn(hT:T.OK)(hV:jJ T V ek)(hn:T.n<2147483648)(VK:∀o g w,cx o g w->cM P T (OX P T cx Fin) o g w){Sb:Nat->Prop}(se:T.Shun=sK Sb){B:Nat}(h0:t0.size=T.T0)(hP:Past T.Shun B t0):
  ∀μ,Acc (Y9 (mA P T V) (iy T) (lV P T) (T.m0+T.n)) μ->∀(gs:Array aS) (w:ae) (t:Trace) (sl:Option (Nat×Nat)) (S:jb) (D:Nat->WD) (x:Nat->kV) (tag:CTag) (a:aS) (y:jc) (st sm:Int),
   μ=(ot T S D tag,x,y)->fJ P T V ek cx Fin t0 w0 gs w t S D x tag a y st sm ->
   ∃N gd w' qm t',runNT P N (crowd gs w sl) t=(.next (crowd gd w' qm),t')/\Joined P T V ek Fin Sb w0 gd w' t':=by
 intro μ hμ
 induction hμ with
 |intro μ _ ih =>
 intro gs w t sl S D x tag a y st sm e h;subst e;have LJ:=hT.m0;obtain⟨i,g,d,qm,hi,cm,ki⟩:=crowd_pick (P:=P) (w:=w) (sl:=sl) h.awake (h.Tx hT);obtain⟨nT,bZ⟩:=h.at hV d;have sf:=h.sN.le;have more:∀{gd:Array aS} {w':ae} {S':jb} {D':Nat->WD} {x':Nat->kV} {tag':CTag} {a':aS} {y':jc} {st' sm':Int} {ops:Array MemOp},runT P (crowd gs (w.at d) qm) i=(.next (crowd gd w' qm),ops)->fJ P T V ek cx Fin t0 w0 gd w' (t++ops) S' D' x' tag' a' y' st' sm' ->
   Y9 (mA P T V) (iy T) (lV P T) (T.m0+T.n) (ot T S' D' tag',x',y') (ot T S D tag,x,y)->∃N gd w' qm t',runNT P N (crowd gs w sl) t=(.next (crowd gd w' qm),t')/\Joined P T V ek Fin Sb w0 gd w' t':=by
  intro gd w' S' D' x' tag' a' y' st' sm' ops r1 r2 r3;obtain⟨N,Zh,w2,To,t2,q1,q2⟩:=ih _ r3 gd w' (t++ops) qm S' D' x' tag' a' y' st' sm' rfl r2;exact⟨N+1,Zh,w2,To,t2,by simp only[runNT,ki,r1];exact q1,q2⟩
 have worker:∀p,p<T.m0+T.n->∀{S':jb} {D':Nat->WD} {x':Nat->kV} {tag':CTag} {y':jc},Ends (mA P T V) (lV P T) (T.m0+T.n) (ot T S' D' tag',x',y')->A5 P T V p S S' D D' tag tag' (fun k=>lM (w.at d) (x k)) x'->Y9 (mA P T V) (iy T) (lV P T) (T.m0+T.n) (ot T S' D' tag',x',y') (ot T S D tag,x,y):=by
  intro p hp S' D' x' tag' y' hE hl;refine⟨hE,?_⟩;rcases hl with hl|⟨e1,e2,e3⟩
  ·exact .inl hl
  ·exact .inr (.inl ⟨e1,p,hp,mA.back _ _ _ (bZ p) e2,fun k _ hk=>iy.trans _ _ _ (e3 k hk) (bZ k)⟩)
 rcases aZ i with rfl|nS
 ·have e:g=a:=by rw[h.DI] at hi;exact(aK hi).symm
  subst e;rcases nT.PQ (sl:=qm) hT hV hn VK cm with⟨rfl,g',hgo,hF⟩|⟨gd,w',S',D',x',tag',a',y',st',sm',ops,r1,r2,r3⟩
  ·obtain⟨gd,ops,r1,r2⟩:=nT.final (sl:=qm) hT se h0 hP hgo hF;exact⟨1,gd,_,qm,_,by simp only[runNT,ki,r1],r2⟩
  ·refine more r1 r2 ⟨r2.ends hT,?_⟩;rcases r3 with r3|⟨e1,e2,e3⟩
   ·exact .inl r3
   ·exact .inr (.inr ⟨e1,fun k _=>iy.trans _ _ _ (e2 k) (bZ k),lV.back (y':=y') h d e3⟩)
 ·rcases bP i T.m0 with lE | Nc
  ·obtain⟨gd,tag',a',y',x',ops,r1,r2,r3,r4,r5⟩:=nT.Xi (sl:=qm) hT hV sf nS lE hi cm;refine more r1 r3 (worker i aa (r3.ends hT) (.inr ⟨by rw[DJ r2],r4,r5⟩))
  ·have akK:i<T.m0+S.j:=by have:=(Array.getElem?_eq_some_iff.1 hi).1;rw[h.size] at this;exact this
   obtain⟨k,rfl⟩:∃k,i=T.m0+k:=⟨i-T.m0,aa⟩;have hk:k<S.j:=aa;cases hc:S.cl k with
   |none =>
    obtain⟨gd,w',S',D',x',tag',a',y',st',sm',ops,r1,r2,r3,r4⟩:=nT.PL (sl:=qm) hT hV sf hk hi cm hc;exact more r1 r3 (worker _ aa (r3.ends hT) r4)
   |some p =>
    obtain⟨gd,w',S',D',x',tag',a',y',st',sm',ops,r1,r2,r3,r4⟩:=nT.PN (sl:=qm) hT hV hn sf hk hi cm (by rw[hc];rfl) (h.sN.pend (Vc_le _ _));exact more r1 r3 (worker _ aa (r3.ends hT) r4)
end
end
section
open Go.ConcR (KK wgBlock WgAt stA smA rd wr Payload DC0)
variable [Payload]
section
variable {P:Program} {T:cP} {V:Nat->ae->Prop} {ek:Nat->(Nat->Prop)->ae->Prop} {cx Fin:dV}
theorem No(hT:T.OK)(hV:jJ T V ek)(hn:T.n<2147483648)(VK:∀o g w,cx o g w->cM P T (OX P T cx Fin) o g w){Sb:Nat->Prop}(se:T.Shun=sK Sb){B:Nat}{gs:Array aS}{a:aS}{w:ae}{sl:Option (Nat×Nat)}{t:Trace}{q:Nat->Nat}{o0:Nat->Prop}(ft:gs.size=T.m0)(h0:gs[0]?=some a)(hL:Leavers P t gs q)(hP:Past T.Shun B t)(ht:t.size=T.T0)(dW:iC P T V ek cx T.n o0 a w)(SG:∀b,o0 b->T.H0<=b/\b<w.heap.size)(hH:T.H0<=w.heap.size)(nU:WgAt T.ty T.Wg w 0 0)(uh:∀k,k<T.n->∃s r tm,w.heap[T.ch k]?=some (.chan 0 #[] false s r tm))(PS:∀k,k<T.n->T.Idle k w):
  ∃N gd w' qm t',runNT P N (crowd gs w sl) t=(.next (crowd gd w' qm),t')/\Joined P T V ek Fin Sb w gd w' t':=by
 have LJ:=hT.m0;have key:∀(tag:CTag) (y:jc),ji P T V ek cx Fin tag o0 a w y->lK T.n tag 0 0->Go.ConcN.Mode 0 (fun _=>(⟨7,0,0⟩:WD)) tag 0 0 ->
   fJ P T V ek cx Fin t w gs w t {j:=0,own:=fun z b=>z=0/\o0 b,cl:=fun _=>none,rc:=fun _ _=>False} (fun _=>⟨7,0,0⟩) (fun k=>if 0<k/\k<T.m0 then .inr (q k) else .inr 0) tag a y 0 0:=by
  intro tag y hs htg hm;have e:(fun b=>0=0/\o0 b)=o0:=by funext b;simp
  refine⟨by simp[ft],h0,by simp only[true_and];exact hs,by rw[hP.hears];exact htg,fun k k0 km=>?_,fun i hi=>absurd hi (dE _),fun k hk=>?_,an,fun i hi=>absurd hi (dE _),fun k hk=>hL.above k hk,TI.begin ht hP,⟨fun x b hb=>(SG b hb.2).1,fun x z b h1 h2=>h1.1.trans h2.1.symm,fun x b hb=>.inl hb.1⟩,fun z b hb=>(SG b hb.2).2,hH,nU,hm,uh,fun i k hr=>hr.elim,fun _ _=>rfl,fun i k hr=>hr.elim,fun i hi=>absurd hi (dE _),fun k hk e=>?_,fun i z hi hz=>?_,⟨#[],an⟩,dc.refl w,pG.refl w,PS⟩
  ·have bZ:k<gs.size:=aa;refine⟨gs[k],q k,aG bZ,by simp[k0,km],hL.old k _ k0 (aG bZ)⟩
  ·have:¬(0<k/\k<T.m0):=by simp only at hk;omega
   simp[this]
  ·have:=lt_of_act? e;omega
  ·have:=lt_size_of_getElem? hz;omega
 have run:∀(tag:CTag) (y:jc),ji P T V ek cx Fin tag o0 a w y->lK T.n tag 0 0->Go.ConcN.Mode 0 (fun _=>(⟨7,0,0⟩:WD)) tag 0 0->∃N gd w' qm t',runNT P N (crowd gs w sl) t=(.next (crowd gd w' qm),t')/\Joined P T V ek Fin Sb w gd w' t':=by
  intro tag y hs htg hm;have hI:=key tag y hs htg hm;exact Nn hT hV hn VK se ht hP _ (M4 iy.refl iy.trans mA.back _ (hI.ends hT)) gs w t sl _ _ _ tag a y 0 0 rfl hI
 have jw:∀tag,isOpen tag->pend tag=0->(∀vs,tag≠.w2 vs)->Go.ConcN.Mode 0 (fun _=>(⟨7,0,0⟩:WD)) tag 0 0:=fun tag h1 h2 h3=>by
  have:=Mode.opn (j:=0) (D:=fun _=>(⟨7,0,0⟩:WD)) h1 (fun i hi=>aa) (fun vs e=>absurd e (h3 vs));simpa[Vc,sumTo,h2] using this
 cases PT:T.n with
 |zero =>
  rw[PT] at dW;exact run .kd _ (ji.mk (tag:=.kd) an dW rfl) ⟨PT.symm,rfl⟩ (jw .kd trivial rfl an)
 |succ r =>
  rw[PT] at dW;exact run (.sp r 5) _ (ji.mk (tag:=.sp r 5) an dW (by simp[jI])) ⟨aa,aa,.inl ⟨rfl,rfl⟩⟩ (jw (.sp r 5) trivial rfl an)
theorem xS(o:Nat->Prop)(w:ae):grow o w w=o:=by
 funext b;simp only[grow,eq_iff_iff];exact⟨fun h=>h.elim id fun h=>absurd h.2 aa,.inl⟩
theorem M3.refl(o:Nat->Prop)(w:ae):M3 T o w w:=⟨ag _,fun _ _ _=>rfl,rfl,rfl⟩
theorem cM.iT{Stop:dV}{o:Nat->Prop}:∀{n:Nat} {g:aS} {w:ae},Goes P true (dc T o) DC0 (fun g w=>cM P T Stop o g w) n g w->cM P T Stop o g w:=by
 intro n
 induction n with
 |zero=>intro g w h;exact h w (dc.refl w)
 |succ n ih =>
  intro g w h;rcases h with h|⟨hs,h⟩
  ·exact h w (dc.refl w)
  ·refine cM.step hs fun w1 pO=>?_;have:=h w1 pO;cases hg:stepG P true g w1 with
   |go g' w' es =>
    rw[hg,goes_go] at this;obtain⟨⟨rfl,rfl⟩,hG⟩:=this;exact⟨g',w',#[],rfl,M3.refl o w',an,by rw[xS];exact ih hG⟩
   |_=>rw[hg] at this;exact this.elim
theorem cM.one{Stop:dV}{o:Nat->Prop}{g:aS}{w:ae}(hs:g.status=.running)(h:∀w1,dc T o w w1->∃g' es,stepG P true g w1=.go g' w1 es/\(∀e∈es,EvS T o e)/\cM P T Stop o g' w1):cM P T Stop o g w:=by
 refine cM.step hs fun w1 pO=>?_;obtain⟨g',es,e1,e2,e3⟩:=h w1 pO;exact⟨g',w1,es,e1,M3.refl o w1,by rw[xS];exact e2,by rw[xS];exact e3⟩
end
end
section
open Go.ConcR (KK wgBlock WgAt stA smA rd wr mk)
section
variable {P:Program} {T:cP} {i:Nat} {V:Nat->ae->Prop} {E:bH} {L:Nat->Bool} {Gm:Nat}
theorem DK{F:iZ}{o rc:Nat->Prop}(hF:∀r,F.K r->o (F.φ r)){e:Event}(h:vF F e):LF T i o rc e:=by
 obtain⟨loc,wt,sy⟩:=e;cases loc with
 |cell a =>
  obtain⟨r,h1,h2⟩:=h;refine⟨fun x hx _=>.inl ⟨a.block,by rw[<- h2];exact hF r h1,?_⟩,an,an,an⟩;simp only[MemAct.ofEvent,MemAct.touch?,Option.some.injEq] at hx;subst hx;rfl
 |obj b =>
  obtain⟨r,h1,h2⟩:=h;refine⟨fun x hx _=>.inl ⟨b,by rw[<- h2];exact hF r h1,?_⟩,an,an,an⟩;cases wt<;>cases sy<;>simp only[MemAct.ofEvent,MemAct.touch?,Option.some.injEq] at hx;all_goals first|cases hx;done|skip
  all_goals (subst hx;rfl)
 |output =>
  refine⟨fun x hx hm=>?_,an,an,an⟩;simp only[MemAct.ofEvent,MemAct.touch?,Option.some.injEq] at hx;subst hx;cases hm
 |goroutines =>
  refine⟨fun x hx hm=>?_,an,an,an⟩;simp only[MemAct.ofEvent,MemAct.touch?,Option.some.injEq] at hx;subst hx;cases hm
 |mark m =>
  have hd:Jp m=true:=h;cases m<;>first|exact Bool.noConfusion hd|skip
  all_goals
   refine⟨fun x hx hm=>?_,an,an,an⟩;simp only[MemAct.ofEvent,MemAct.touch?] at hx;cases hx
theorem eJ.Zi(hT:T.OK){F F':iZ}{wl aI w w':ae}{o:Nat->Prop}(h:eJ F F' wl w aI w')(W:WR F wl w)(W':WR F' aI w')(hF:∀r,F.K r->o (F.φ r))(ho:∀b,o b->T.H0<=b)(hH:T.H0<=w.heap.size):JP T i o w w':=by
 have key:∀b,b<w.heap.size->¬o b->w'.heap[b]?=w.heap[b]?:=by
  intro b hb hn;refine h.rest b fun r hr e=>?_;rcases h.vb r hr with h1|⟨_,h1⟩
  ·rw[h.φ r h1] at e;exact hn (e▸hF r h1)
  ·omega
 have old:∀b,T.Sh b->w'.heap[b]?=w.heap[b]?:=fun b hb=>key b (by have:=(hT.sh b hb).1;omega) (fun hx=>by have:=ho b hx;have:=(hT.sh b hb).1;omega);refine⟨h.size,fun b h1 h2 _=>key b h1 h2,fun b cs ty fz hb hx=>⟨cs,by rw[old b hb];exact hx,rfl⟩,fun a ha _=>cell_of (old _ ha),?_,?_⟩
 ·rw[W'.os,h.Pb,<- W.os]
 ·rw[W'.output,h.Ao,<- W.output]
theorem eJ.owned{F F':iZ}{wl aI w w':ae}{o:Nat->Prop}(h:eJ F F' wl w aI w')(W':WR F' aI w')(hF:∀r,F.K r->o (F.φ r)):∀r,F'.K r->grow o w w' (F'.φ r):=by
 intro r hr;rcases h.vb r hr with h1|⟨_,h1⟩
 ·rw[h.φ r h1];exact .inl (hF r h1)
 ·exact .inr ⟨h1,W'.there r hr⟩
def aside(o:Nat->Prop)(F:iZ):Nat->Prop:=fun b=>o b/\∀r,F.K r->F.φ r≠b
theorem eJ.A2(hT:T.OK)(hi:i<T.n){F F':iZ}{wl aI w w':ae}{o rc:Nat->Prop}(h:eJ F F' wl w aI w')(W:WR F wl w)(W':WR F' aI w')(hF:∀r,F.K r->o (F.φ r))(ho:∀b,o b->T.H0<=b/\b<w.heap.size)(hH:T.H0<=w.heap.size){o1:Nat->Prop}(EL:∀b,o1 b->o b/\∀r,F.K r->F.φ r≠b):cF T i o1 rc w w':=by
 have key:∀b,b<w.heap.size->(∀r,F.K r->F.φ r≠b)->w'.heap[b]?=w.heap[b]?:=by
  intro b hb hn;refine h.rest b fun r hr e=>?_;rcases h.vb r hr with h1|⟨_,h1⟩
  ·rw[h.φ r h1] at e;exact hn r h1 e
  ·omega
 have old:∀b,b<T.H0->w'.heap[b]?=w.heap[b]?:=fun b hb=>key b aa (fun r hr e=>by have:=(ho _ (hF r hr)).1;omega);have nZ:∀k,k<T.n->w'.heap[T.ch k]?=w.heap[T.ch k]?:=fun k hk=>old _ (hT.ch k hk).1;refine⟨h.size,fun b hb=>key b (ho b (EL b hb).1).2 (EL b hb).2,fun b h1 _ _ _=>old b h1,fun b cs ty fz hb hx=>⟨cs,by rw[old b (hT.sh b hb).1];exact hx,rfl⟩,fun a ha=>?_,fun k s r tm c hk hh=>⟨c,by rw[nZ k hk];exact hh,id⟩,nZ i hi,fQ (old _ hT.wg),?_,?_⟩
 ·have k1:∀k,T.js k (.cell a)->w'.cell? a=w.cell? a:=by
   intro k eH;obtain⟨a',e,hs⟩:=hT.ownSh k _ eH;cases e;exact cell_of (old _ (hT.sh _ hs).1)
  rcases ha with ha|⟨k,_,ha⟩
  ·exact k1 i ha
  ·exact k1 k ha
 ·rw[W'.os,h.Pb,<- W.os]
 ·rw[W'.output,h.Ao,<- W.output]
theorem cF.less{o o1 rc:Nat->Prop}{w w1:ae}(h:cF T i o rc w w1)(ho:∀b,o1 b->o b):cF T i o1 rc w w1 :=
 ⟨h.size,fun b hb=>h.own b (ho b hb),h.ro,h.sh,h.mine,h.chan,h.A0,h.wg,h.os,h.output⟩
theorem gj.call(hT:T.OK)(hi:i<T.n)(cH:qf P L Gm){zS:FuncId}{Q:Value->ae->Prop}{c:Frame}{cs:List Frame}{rc:Nat->Prop}{w0:ae}{o0:Nat->Prop}{F0:iZ}(PU:∀v v' F' o' aI w',Q v aI->(∀f,F'.has f->v'=val f v)->WR F' aI w'->(∀b,o0 b->o' b)->(∀r,F'.K r->o' (F'.φ r))->(∀b,o' b->T.H0<=b/\b<w'.heap.size)->(∀r,F0.K r->F'.K r/\F'.φ r=F0.φ r)->cF T i (aside o0 F0) rc w0 w' ->
   gj P T i V E ⟨G (c.finish v') cs,o',rc,w'⟩)(x:aS×ae)(EM:Acc (Nx P (kg P zS Q)) x):
  ∀(F:iZ) (o:Nat->Prop) (gr:aS) (w:ae),vZ P L Gm (kg P zS Q) (c::cs) F (x.1,WT x.2 w.tape w.drawn) gr w->(∀r,F.K r->o (F.φ r))->(∀b,o b->T.H0<=b/\b<w.heap.size)->T.H0<=w.heap.size->(∀b,o0 b->o b)->(∀r,F0.K r->F.K r/\F.φ r=F0.φ r) ->
   (∀b,aside o0 F0 b->∀r,F.K r->F.φ r≠b)->cF T i (aside o0 F0) rc w0 w->gj P T i V E ⟨gr,o,rc,w⟩:=by
 have hS:=zT (P:=P) zS Q
 induction EM with
 |intro x _ ih =>
 intro F o gr w MY hF ho hH LA Zj hap hrel;have cm:gr.status=.running:=wb MY;refine gj.intro ⟨cm,.inl fun w1 pO=>?_⟩;have zC:JL F w w1:=⟨pO.size,fun r hr=>pO.own _ (hF r hr),pO.os,pO.output⟩;have MZ:=MY.others zC;have EL:∀b,o b->T.H0<=b/\b<w1.heap.size:=fun b hb=>⟨(ho b hb).1,bm (ho b hb).2 pO.size⟩;have VM:T.H0<=w1.heap.size:=aR hH pO.size;have qX:WR F (WT x.2 w1.tape w1.drawn) w1:=by
  obtain⟨_,_,_,_,_,_,_,_,_,hW,_⟩:=MZ;exact hW
 have VN:cF T i (aside o0 F0) rc w0 w1:=hrel.trans (pO.less fun b hb=>LA b hb.1);have CS:∀(w':ae),w1.heap.size<=w'.heap.size->∀b,grow o w1 w' b->T.H0<=b/\b<w'.heap.size:=fun w' hs b hb=>by
  rcases hb with hb|hb
  ·exact⟨(EL b hb).1,bm (EL b hb).2 hs⟩
  ·exact⟨aa,hb.2⟩
 by_cases hs:kg P zS Q x.1 x.2
 ·obtain⟨v,v',F',nk,es,e1,e2,e3,e4,e5,e6,e7⟩:=MZ.ret cH (hS.tape _ _ _ _ hs) false;refine⟨_,nk,es,e1,e5.Zi hT qX e4 hF (fun b hb=>(ho b hb).1) VM,fun e he=>DK (e5.owned e4 hF) (e6 e he),?_⟩;refine PU v v' F' _ _ nk e2 e3 e4 (fun b hb=>.inl (LA b hb)) (e5.owned e4 hF) (CS nk e5.size) (fun r hr=>⟨e5.K r (Zj r hr).1,(e5.φ r (Zj r hr).1).trans (Zj r hr).2⟩) (VN.trans ?_);exact e5.A2 hT hi qX e4 hF EL VM fun b hb=>⟨LA b hb.1,hap b hb⟩
 ·obtain⟨y,F',OW,nk,es,e1,e2,e3,e4,e5,e6⟩:=MZ.step cH hS (fun h=>hs (hS.back h)) false;have FT:WR F' y.2 nk:=by obtain⟨_,_,_,_,_,_,_,_,_,hW,_⟩:=e3;exact hW
  have hyt:(y.1,WT y.2 nk.tape nk.drawn)=y:=by rw[FT.tape,FT.drawn];rfl
  refine⟨OW,nk,es,e1,e4.Zi hT qX FT hF (fun b hb=>(ho b hb).1) VM,fun e he=>DK (e4.owned FT hF) (e5 e he),?_⟩;refine ih y (Vx hS e2) F' (grow o w1 nk) OW nk (by rw[hyt];exact e3) (e4.owned FT hF) (CS nk e4.size) (aR VM e4.size) (fun b hb=>.inl (LA b hb)) (fun r hr=>⟨e4.K r (Zj r hr).1,(e4.φ r (Zj r hr).1).trans (Zj r hr).2⟩) (fun b hb r hr e=>?_) (VN.trans ?_)
  ·rcases e4.vb r hr with h1|⟨_,h1⟩
   ·rw[e4.φ r h1] at e;exact hap b hb r h1 e
   ·have:=(EL b (LA b hb.1)).2;omega
  ·exact e4.A2 hT hi qX FT hF EL VM fun b hb=>⟨LA b hb.1,hap b hb⟩
end
end
abbrev aM:=Nat->Prop
structure fg(P:Program)(m:Bool)(R:aM->ae->ae->Prop)(Gu:aM->ae->ae->Array Event->Prop)(X:aM->aS->ae->Prop):Prop where
 step:∀o g w,g.status=.running->(∀w1,R o w w1->∃g' w' es,stepG P m g w1=.go g' w' es/\Gu o w1 w' es/\X (grow o w1 w') g' w')->X o g w
 rely:∀o g w w1,X o g w->R o w w1->X o g w1
 idle:∀o w,Gu o w w #[]
theorem bS(o:Nat->Prop)(w:ae):grow o w w=o:=by
 funext b;simp only[grow,eq_iff_iff];exact⟨fun h=>h.elim id fun h=>absurd h.2 aa,.inl⟩
theorem jU(o:Nat->Prop){w w':ae}(h:w'.heap.size=w.heap.size):grow o w w'=o:=by
 funext b;simp only[grow,eq_iff_iff];exact⟨fun k=>k.elim id fun k=>absurd k.2 aa,.inl⟩
theorem tJ(o:Nat->Prop)(w:ae)(x:Obj):grow o w {w with heap:=w.heap.push x}=fun b=>o b\/b=w.heap.size:=by
 funext b;simp only[grow,Array.size_push,eq_iff_iff];exact⟨fun h=>h.imp id fun h=>aa,fun h=>h.imp id fun h=>aa⟩
def G1(T:cP)(i:Nat)(rc:Nat->Prop)(o:aM)(w w':ae)(es:Array Event):Prop:=JP T i o w w'/\∀e∈es,LF T i (grow o w w') rc e
theorem JP.refl{T:cP}{i:Nat}(o:Nat->Prop)(w:ae):JP T i o w w:=⟨ag _,fun _ _ _ _=>rfl,fun b cs ty fz _ h=>⟨cs,h,rfl⟩,fun _ _ _=>rfl,rfl,rfl⟩
theorem cv{P:Program}{T:cP}{i:Nat}{V:Nat->ae->Prop}{E:bH}(rc:Nat->Prop):fg P false (fun o=>cF T i o rc) (G1 T i rc) (fun o g w=>gj P T i V E ⟨g,o,rc,w⟩) where
 step o g w hs h:=gj.intro ⟨hs,.inl fun w1 hw=>let ⟨g',w',es,e1,e2,e3⟩:=h w1 hw;⟨g',w',es,e1,e2.1,e2.2,e3⟩⟩
 rely o g w w1 h hr:=h.rely hr
 idle o w:=⟨.refl o w,an⟩
def aeI(T:cP)(o:aM)(w w':ae)(es:Array Event):Prop:=M3 T o w w'/\∀e∈es,EvS T (grow o w w') e
theorem mH{P:Program}{T:cP}{Stop:dV}:fg P true (fun o=>dc T o) (aeI T) (fun o g w=>cM P T Stop o g w) where
 step o g w hs h:=cM.step hs fun w1 hw=>let ⟨g',w',es,e1,e2,e3⟩:=h w1 hw;⟨g',w',es,e1,e2.1,e2.2,e3⟩
 rely o g w w1 h hr:=h.rely hr
 idle o w:=⟨⟨ag _,fun _ _ _=>rfl,rfl,rfl⟩,an⟩
section
variable {P:Program} {m:Bool} {R:aM->ae->ae->Prop} {Gu:aM->ae->ae->Array Event->Prop} {X:aM->aS->ae->Prop}
theorem fg.go(W:fg P m R Gu X){o:aM}{g g':aS}{w:ae}(hs:g.status=.running)(h:∀w1,stepG P m g w1=.go g' w1 #[])(hx:X o g' w):X o g w :=
 W.step o g w hs fun w1 hw=>⟨g',w1,#[],h w1,W.idle _ _,by rw[bS];exact W.rely _ _ _ _ hx hw⟩
def sQ(X:aM->aS->ae->Prop)(b:Frame)(k:List Item)(cs:List Frame):Exit->Act->aM->ae->Prop
 | .normal,a,o,w=>X o (G (b.at a k) cs) w
 | .exit id,a,o,w=>∃k',exitTo id k=some k'/\X o (G (b.at a k') cs) w
 | .ret,a,o,w=>∀todo,X o (G {b.at a todo with mode:=.returning} cs) w
 |_,_,_,_=>False
theorem sQ.push{b:Frame}{y:Item}{k:List Item}{cs:List Frame}{e:Exit}{a:Act}{o:aM}{w:ae}(hy:y.plain=true)(he:e≠.normal)(h:sQ X b k cs e a o w):sQ X b (y::k) cs e a o w:=by
 cases e with
 |normal=>exact absurd rfl he
 |exit id=>obtain⟨k',hk,hg⟩:=h;exact⟨k',by cases y<;>simp_all[exitTo,Item.plain],hg⟩
 |ret=>exact h
 |goto l=>exact h
 |panic ch=>exact h
 |outgrown=>exact h
def uJ(X:aM->aS->ae->Prop)(fn:FuncId)(c:Code)(Q:Exit->Act->aM->ae->Prop)(a:Act)(o:aM)(w:ae):Prop :=
 ∀(b:Frame) (k:List Item) (cs:List Frame),b.fn=fn->b.kind≠.early->(∀e a' o' w',Q e a' o' w'->sQ X b k cs e a' o' w')->X o (G (b.at a (.code c::k)) cs) w
def fu(X:aM->aS->ae->Prop)(fn:FuncId)(ops:Array Oper)(todo:List Nat)(Q:Exit->Act->aM->ae->Prop)(a:Act)(o:aM)(w:ae):Prop :=
 ∀(b:Frame) (k:List Item) (cs:List Frame),b.fn=fn->b.kind≠.early->(∀e a' o' w',Q e a' o' w'->sQ X b k cs e a' o' w')->X o (G (b.at a (.inRegion ops todo::k)) cs) w
def gN(M:Act->aM->ae->Prop)(Q:Exit->Act->aM->ae->Prop):Exit->Act->aM->ae->Prop
 | .normal,a,o,w=>M a o w
 |e,a,o,w=>Q e a o w
def cZ(id:Nat)(Q:Exit->Act->aM->ae->Prop):Exit->Act->aM->ae->Prop
 | .exit PV,a,o,w=>if PV=id then Q .normal a o w else Q (.exit PV) a o w
 |e,a,o,w=>Q e a o w
section rules
variable {fn:FuncId} {Q:Exit->Act->aM->ae->Prop} {a:Act} {o:aM} {w:ae}
theorem G4{c:Code}{Q':Exit->Act->aM->ae->Prop}(h:uJ X fn c Q a o w)(hq:∀e a o w,Q e a o w->Q' e a o w):uJ X fn c Q' a o w :=
 fun b k cs hb hk hc=>h b k cs hb hk fun e a' o' w' q=>hc e a' o' w' (hq e a' o' w' q)
theorem A9(W:fg P m R Gu X)(h:Q .normal a o w):uJ X fn .skip Q a o w:=fun b k cs _ _ hc=>W.go rfl (fun _=>bY) (hc _ _ _ _ h)
theorem ET(W:fg P m R Gu X)(h:Q .ret a o w):uJ X fn .ret Q a o w:=fun b k cs _ _ hc=>W.go rfl (fun _=>stepG_ret') (hc _ _ _ _ h _)
theorem Ba(W:fg P m R Gu X){id:Nat}(h:Q (.exit id) a o w):uJ X fn (.exit id) Q a o w:=fun b k cs _ _ hc=>by
 obtain⟨k',kY,hg⟩:=hc _ _ _ _ h;exact W.go rfl (fun _=>stepG_exit kY) hg
theorem qY(W:fg P m R Gu X){x y:Code}(h:uJ X fn x (gN (fun a' o' w'=>uJ X fn y Q a' o' w') Q) a o w):uJ X fn (.seq x y) Q a o w:=by
 intro b k cs hb hk hc;refine W.go rfl (fun _=>ax) (h b (.code y::k) cs hb hk fun e a' o' w' q=>?_);cases e with
 |normal=>exact q b k cs hb hk hc
 |exit id=>exact(hc _ _ _ _ q).push rfl an
 |ret=>exact(hc _ _ _ _ q).push (y:=.code y) rfl an
 |goto l=>exact hc _ _ _ _ q
 |panic ch=>exact hc _ _ _ _ q
 |outgrown=>exact hc _ _ _ _ q
theorem hZ(W:fg P m R Gu X){c:Operand}{x y:Code}{t:Bool}(hc:a.eval c=.bool t)(h:uJ X fn (if t then x else y) Q a o w):uJ X fn (.cond c x y) Q a o w :=
 fun b k cs hb hk hq=>W.go rfl (fun _=>dI hc) (h b k cs hb hk hq)
theorem xT(W:fg P m R Gu X){id:Nat}{c:Code}(h:uJ X fn c (cZ id Q) a o w):uJ X fn (.block id c) Q a o w:=by
 intro b k cs hb hk hc;refine W.go rfl (fun _=>eB) (h b (.inBlock id::k) cs hb hk fun e a' o' w' q=>?_);cases e with
 |normal=>exact W.go rfl (fun _=>fR) (hc _ _ _ _ q)
 |exit PV =>
  by_cases hid:PV=id
  ·simp only[cZ,hid,if_true] at q;exact⟨k,by simp[exitTo,hid],hc _ _ _ _ q⟩
  ·simp only[cZ,hid,if_false] at q;obtain⟨k',kY,hg⟩:=hc _ _ _ _ q;have:(id==PV)=false:=by simp;exact fun h=>hid h.symm
   exact⟨k',by simp[exitTo,this,kY],hg⟩
 |ret=>exact fun todo=>hc _ _ _ _ q todo
 |goto l=>exact hc _ _ _ _ q
 |panic ch=>exact hc _ _ _ _ q
 |outgrown=>exact hc _ _ _ _ q
theorem nu(W:fg P m R Gu X){c:Code}(I:Nat->Act->aM->ae->Prop){N:Nat}(h0:I N a o w)(round:∀n a o w,I n a o w->uJ X fn c (gN (fun a' o' w'=>∃n',n'<n/\I n' a' o' w') Q) a o w):uJ X fn (.loop c) Q a o w:=by
 intro b k cs hb hk hc;have key:∀N a o w,I N a o w->X o (G (b.at a (.code c :: .inLoop c::k)) cs) w:=by
  intro N
  induction N using Nat.strongRecOn with
  |ind N ih =>
   intro a o w hI;refine round N a o w hI b (.inLoop c::k) cs hb hk fun e a' o' w' q=>?_;cases e with
   |normal =>
    obtain⟨n',hn,Z1⟩:=q;exact W.go rfl (fun _=>ig) (ih n' hn a' o' w' Z1)
   |exit id=>exact(hc _ _ _ _ q).push rfl an
   |ret=>exact(hc _ _ _ _ q).push (y:=.inLoop c) rfl an
   |goto l=>exact hc _ _ _ _ q
   |panic ch=>exact hc _ _ _ _ q
   |outgrown=>exact hc _ _ _ _ q
 exact W.go rfl (fun _=>jj) (key N a o w h0)
theorem vl(W:fg P m R Gu X){id:Nat}{ops:Array Oper}(h:fu X fn ops (List.range ops.size) Q a o w):uJ X fn (.region id ops false) Q a o w :=
 fun b k cs hb hk hc=>W.go rfl (fun _=>aV) (h b k cs hb hk hc)
theorem sR(W:fg P m R Gu X){ops:Array Oper}(h:Q .normal a o w):fu X fn ops [] Q a o w:=fun b k cs _ _ hc=>W.go rfl (fun _=>ak) (hc _ _ _ _ h)
theorem kO(W:fg P m R Gu X){ops:Array Oper}{i:Nat}{rest:List Nat}{op:Oper}(ho:ops[i]?=some op)(hw:Region.wanted op (yielded ops a.tmps)=true)(h:∀w1,R o w w1->∀K:Act->ae->Prop,(∀a' w',Gu o w1 w' (listed P fn a op w1)/\fu X fn ops rest Q a' (grow o w1 w') w'->K a' w')->uponK op a K ((execOp a.eval op).run P w1)):fu X fn ops (i::rest) Q a o w:=by
 intro b k cs hb hk hc;refine W.step o _ w rfl fun w1 h1=>?_;have:=h w1 h1 _ fun _ _ x=>x;revert this;cases hr:(execOp a.eval op).run P w1 with
 |ok x w' =>
  cases x with
  |value v=>intro q;simp only[uponK_value] at q;exact⟨_,_,_,dN ho hw hk hr,hb▸q.1,q.2 b k cs hb hk hc⟩
  |skip=>intro q;simp only[uponK_skip] at q;exact⟨_,_,_,jk ho hw hk hr,hb▸q.1,q.2 b k cs hb hk hc⟩
  |_=>intro q;exact q.elim
 |halt _ _=>intro q;exact q.elim
theorem gW(W:fg P m R Gu X){ops:Array Oper}{i:Nat}{rest:List Nat}{op:Oper}(ho:ops[i]?=some op)(hw:Region.wanted op (yielded ops a.tmps)=false)(h:fu X fn ops rest Q (a.put op.dst undef) o w):fu X fn ops (i::rest) Q a o w :=
 fun b k cs hb hk hc=>W.go rfl (fun _=>stepG_unwanted ho hw) (h b k cs hb hk hc)
theorem J0(W:fg P m R Gu X){ops:Array Oper}{i:Nat}{rest:List Nat}{op:Oper}{f:FuncId}{fc:Func}{c:Code}{args:Array Operand}{rR:Array TypeId}(ho:ops[i]?=some op)(hw:Region.wanted op (yielded ops a.tmps)=true)(eu:op.op=.call {callee:=.value (.func f),args,argTypes:=rR})(hf:P.funcs[f]?=some fc)(gF:(fc.name == "runtime.NumGoroutine")=false)(fo:fc.body=some c)(h:∀(b:Frame) (k:List Item) (cs:List Frame),b.fn=fn->b.kind≠.early->(∀e a' o' w',Q e a' o' w'->sQ X b k cs e a' o' w') ->
   X o (G ((base f).at {tmps:=args.map a.eval++Array.replicate (fc.ntmps-(args.map a.eval).size) undef,defers:=[]} [.code c]) (b.at a (.inRegion ops (i::rest)::k)::cs)) w):fu X fn ops (i::rest) Q a o w:=by
 intro b k cs hb hk hc;refine W.go rfl (fun w1=>?_) (h b k cs hb hk hc);have:=goes_call (P:=P) (main:=m) (b:=b) (k:=k) (cs:=cs) (w:=w1) (K:=fun g' w' es=>stepG P m (G (b.at a (.inRegion ops (i::rest)::k)) cs) w1=.go g' w' es->stepG P m (G (b.at a (.inRegion ops (i::rest)::k)) cs) w1=.go (G ((base f).at {tmps:=args.map a.eval++Array.replicate (fc.ntmps-(args.map a.eval).size) undef,defers:=[]} [.code c]) (b.at a (.inRegion ops (i::rest)::k)::cs)) w1 #[]) ho hw hk eu hf gF fo (fun e=>e);cases hg:stepG P m (G (b.at a (.inRegion ops (i::rest)::k)) cs) w1 with
 |go g' w' es=>rw[hg,goes_go] at this;rw[<- this rfl]
 |_=>rw[hg] at this;exact this.elim
end rules
end
def iz(N:Nat->Bool)(w:ae):ae:={w with heap:=w.heap.mapIdx fun b o=>if N b then o else .cells #[] 0}
theorem kC(N:Nat->Bool)(w:ae):(iz N w).heap.size=w.heap.size:=by simp[iz]
theorem lg(N:Nat->Bool)(w:ae){b:Nat}(h:N b=true):(iz N w).heap[b]?=w.heap[b]?:=by
 simp only[iz,Array.getElem?_mapIdx,h,if_true];cases w.heap[b]?<;>rfl
def G6(N:Nat->Bool)(f:Rn):Prop:=∀r,N r=true->f.b r=r
def G7(N:Nat->Bool)(w:ae):Prop:=∀b,N b=true->∃x,w.heap[b]?=some x/\eF x=false/\∀f,G6 N f->obj f x=x
section
variable {P:Program} {T:cP} {i:Nat} {V:Nat->ae->Prop} {E:bH} {L:Nat->Bool} {N:Nat->Bool}
def yR(P:Program)(L:Nat->Bool)(N:Nat->Bool):iZ:=⟨fun r=>N r=true,id,fun n=>L n=true,P.globals.size⟩
theorem G8{f:Rn}(h:(yR P L N).has f):G6 N f:=fun r hr=>h.at_ r hr
theorem PW(h1:P.globals.size≠1)(h2:∀b,N b=true->P.globals.size<=b):Dp (yR P L N) :=
 ⟨fun r hr hg=>hg,.inr ⟨fun r hr hn=>by have:=h2 r hn;show False;change r<P.globals.size at hr;omega,h1⟩⟩
theorem PX{w:ae}(hN:G7 N w)(h1:P.globals.size≠1)(h2:∀b,N b=true->P.globals.size<=b)(h3:P.globals.size<=w.heap.size):WR (yR P L N) (iz N w) w where
 here r hr:=by obtain⟨x,hx,_⟩:=hN r hr;rw[kC];exact(Array.getElem?_eq_some_iff.1 hx).1
 there r hr:=by obtain⟨x,hx,_⟩:=hN r hr;exact(Array.getElem?_eq_some_iff.1 hx).1
 inj r s _ _ h:=h
 sr r hr f hf:=by
  obtain⟨x,hx,_,hc⟩:=hN r hr;rw[lg N w hr];show w.heap[r]?=_;rw[hx,cR,hc f (G8 hf)]
 OT r hr o ho:=by
  obtain⟨x,hx,hp,_⟩:=hN r hr;rw[lg N w hr,hx] at ho;cases ho;exact hp
 os:=rfl
 output:=rfl
 tape:=rfl
 drawn:=rfl
 zu:=PW h1 h2
 Eu:=h3
 CC:=by rw[kC];exact h3
theorem wo{w:ae}(hN:G7 N w):fe (iz N w):=by
 intro r o ho;by_cases h:N r=true
 ·obtain⟨x,hx,hp,_⟩:=hN r h;rw[lg N w h,hx] at ho;cases ho;exact hp
 ·have:(iz N w).heap[r]?=(w.heap[r]?).map fun _=>.cells #[] 0:=by
   simp only[iz,Array.getElem?_mapIdx];cases w.heap[r]?<;>simp[h]
  rw[this] at ho;cases hw:w.heap[r]? with
  |none=>rw[hw] at ho;cases ho
  |some x=>rw[hw] at ho;cases ho;rfl
structure Bc(T:cP)(i:Nat)(N:Nat->Bool)(o rc o':Nat->Prop)(w w':ae)(F':iZ)(aI:ae)(v v':Value):Prop where
 val:∀f,F'.has f->v'=Ren.val f v
 wr:WR F' aI w'
 more:∀b,o b->o' b
 own:∀r,F'.K r->o' (F'.φ r)
 tK:∀b,o' b->T.H0<=b/\b<w'.heap.size
 keep:∀r,N r=true->F'.K r/\F'.φ r=r
 rel:cF T i (fun b=>o b/\N b=false) rc w w'
theorem Bc.aay{o rc o':Nat->Prop}{w w' aI:ae}{F':iZ}{v v':Value}(h:Bc T i N o rc o' w w' F' aI v v'){f:Rn}(hf:F'.has f):G6 N f:=fun r hr=>(hf.at_ r (h.keep r hr).1).trans (h.keep r hr).2
theorem Bc.plain{o rc o':Nat->Prop}{w w' aI:ae}{F':iZ}{v v':Value}(h:Bc T i N o rc o' w w' F' aI v v')(hv:∀f,Ren.val f v=v):v'=v:=by
 obtain⟨f,hf⟩:=h.wr.some;rw[h.val f hf,hv f]
theorem Bc.stays{o rc o':Nat->Prop}{w w' wl aI:ae}{F':iZ}{v v':Value}(h:Bc T i N o rc o' w w' F' aI v v')(se:G7 N w)(hwl:∀b,N b=true->wl.heap[b]?=w.heap[b]?)(dW:∀b,N b=true->aI.heap[b]?=wl.heap[b]?):cF T i o rc w w':=by
 obtain⟨f,hf⟩:=h.wr.some;refine⟨h.rel.size,fun b hb=>?_,h.rel.ro,h.rel.sh,h.rel.mine,h.rel.chan,h.rel.A0,h.rel.wg,h.rel.os,h.rel.output⟩;by_cases hn:N b=true
 ·obtain⟨x,hx,_,hc⟩:=se b hn;have:=h.wr.sr b (h.keep b hn).1 f hf;rw[(h.keep b hn).2,dW b hn,hwl b hn,hx,cR,hc f (h.aay hf)] at this;rw[this,hx]
 ·exact h.rel.own b ⟨hb,by simpa using hn⟩
theorem Bc.slice{o rc o':Nat->Prop}{w w' aI:ae}{F':iZ}{v':Value}{b off l c:Nat}(h:Bc T i N o rc o' w w' F' aI (.slice (some ⟨b,off,none⟩) l c) v'):F'.K b/\v'=.slice (some ⟨F'.φ b,off,none⟩) l c/\o' (F'.φ b):=by
 have hK:F'.K b:=by
  refine aO fun hn=>?_;obtain⟨f,g,hf,hg,cV,_⟩:=h.wr.two;have:=(h.val f hf).symm.trans (h.val g hg);simp[Ren.val,addr] at this;exact cV b hn this
 obtain⟨f,hf⟩:=h.wr.some;refine⟨hK,?_,h.own b hK⟩;rw[h.val f hf];simp[Ren.val,addr,hf.at_ b hK]
end
section
variable {P:Program} {m:Bool} {R:aM->ae->ae->Prop} {Gu:aM->ae->ae->Array Event->Prop} {X:aM->aS->ae->Prop} {fn:FuncId} {Q:Exit->Act->aM->ae->Prop} {a:Act} {o:aM} {w:ae}
theorem DL(W:fg P m R Gu X){ops:Array Oper}{todo:List Nat}{w1:ae}(h:fu X fn ops todo Q a o w)(hr:R o w w1):fu X fn ops todo Q a o w1:=fun b k cs hb hk hc=>W.rely _ _ _ _ (h b k cs hb hk hc) hr
theorem J1(W:fg P m R Gu X){S:ae->Prop}(hS:∀w1,R o w w1->S w1){ops:Array Oper}{i:Nat}{rest:List Nat}{op:Oper}(ho:ops[i]?=some op)(hw:Region.wanted op (yielded ops a.tmps)=true){v:Value}(hr:∀w1,S w1->(execOp a.eval op).run P w1=.ok (.value v) w1)(hg:∀w1,S w1->Gu o w1 w1 (listed P fn a op w1))(h:fu X fn ops rest Q (a.put op.dst v) o w):fu X fn ops (i::rest) Q a o w :=
 kO W ho hw fun w1 h1 K hK=>by
  rw[hr w1 (hS w1 h1)];simp only[uponK_value];exact hK _ _ ⟨hg w1 (hS w1 h1),by rw[bS];exact DL W h h1⟩
theorem DN(W:fg P m R Gu X){ops:Array Oper}{i:Nat}{rest:List Nat}{op:Oper}(ho:ops[i]?=some op)(hw:Region.wanted op (yielded ops a.tmps)=true){v:Value}(hr:∀w1,(execOp a.eval op).run P w1=.ok (.value v) w1)(hg:∀w1,(execOp a.eval op).events P w1 #[]=#[])(h:fu X fn ops rest Q (a.put op.dst v) o w):fu X fn ops (i::rest) Q a o w :=
 J1 W (S:=fun _=>True) (fun _ _=>trivial) ho hw (fun w1 _=>hr w1) (fun w1 _=>by rw[listed_nil (hg w1)];exact W.idle _ _) h
def EU:Op->Bool
 | .call c=>match c.callee with|.builtin _=>true|_=>false
 |_=>true
theorem fp(W:fg P m R Gu X){S:ae->Prop}(hS:∀w1,R o w w1->S w1){ops:Array Oper}{i:Nat}{rest:List Nat}{op:Oper}(ho:ops[i]?=some op)(hw:Region.wanted op (yielded ops a.tmps)=true)(hg:∀w1,S w1->Gu o w1 w1 (listed P fn a op w1))(h:∀w1,S w1->∀K:Act->ae->Prop,(∀a',fu X fn ops rest Q a' o w->K a' w1)->uponK op a K ((execOp a.eval op).run P w1)):fu X fn ops (i::rest) Q a o w :=
 kO W ho hw fun w1 h1 K hK=>h w1 (hS w1 h1) K fun a' q=>hK a' w1 ⟨hg w1 (hS w1 h1),by rw[bS];exact DL W q h1⟩
theorem ny(W:fg P m R Gu X){ops:Array Oper}{i:Nat}{rest:List Nat}{op:Oper}(ho:ops[i]?=some op)(_hn:EU op.op=true)(hw:Region.wanted op (yielded ops a.tmps)=true)(hg:∀w1,(execOp a.eval op).events P w1 #[]=#[])(h:∀w1,∀K:Act->ae->Prop,(∀a',fu X fn ops rest Q a' o w->K a' w1)->uponK op a K ((execOp a.eval op).run P w1)):fu X fn ops (i::rest) Q a o w :=
 fp W (S:=fun _=>True) (fun _ _=>trivial) ho hw (fun w1 _=>by rw[listed_nil (hg w1)];exact W.idle _ _) (fun w1 _=>h w1)
def bp(P:Program)(X:aM->aS->ae->Prop)(f:FuncId)(vs:Array Value)(o:aM)(w:ae)(Post:Value->aM->ae->Prop):Prop :=
 ∀(c:Frame) (cs:List Frame),(∀v o' w',Post v o' w'->X o' (G (c.finish v) cs) w')->X o (G (Frame.enter P f vs .normal) (c::cs)) w
theorem bp.mono{f:FuncId}{vs:Array Value}{Post G9:Value->aM->ae->Prop}(h:bp P X f vs o w Post)(hp:∀v o' w',Post v o' w'->G9 v o' w'):bp P X f vs o w G9 :=
 fun c cs hc=>h c cs fun v o' w' q=>hc v o' w' (hp v o' w' q)
theorem ij{f:FuncId}{fc:Func}{c:Code}(hf:P.funcs[f]?=some fc)(fo:fc.body=some c)(as:Array Value):Frame.enter P f as .normal=(base f).at {tmps:=as++Array.replicate (fc.ntmps-as.size) undef,defers:=[]} [.code c]:=by
 simp[Frame.enter,hf,fo,base,Frame.at]
theorem aF(W:fg P m R Gu X){ops:Array Oper}{i:Nat}{rest:List Nat}{op:Oper}{f:FuncId}{fc:Func}{c:Code}{args:Array Operand}{rR:Array TypeId}(ho:ops[i]?=some op)(hw:Region.wanted op (yielded ops a.tmps)=true)(eu:op.op=.call {callee:=.value (.func f),args,argTypes:=rR})(hf:P.funcs[f]?=some fc)(gF:(fc.name == "runtime.NumGoroutine")=false)(fo:fc.body=some c){vs:Array Value}(Nk:args.map a.eval=vs){d:Option Tmp}(hd:op.dst=d)(h:bp P X f vs o w fun v o' w'=>fu X fn ops rest Q (a.put d v) o' w'):fu X fn ops (i::rest) Q a o w:=by
 subst Nk hd;refine J0 W ho hw eu hf gF fo fun b k cs hb hk hc=>?_;rw[<- ij hf fo];refine h _ _ fun v o' w' q=>?_;rw[show(b.at a (.inRegion ops (i::rest)::k)).finish v=b.at (a.put op.dst v) (.inRegion ops rest::k) by rw[dF,ho];rfl];exact q b k cs hb hk hc
theorem bA(W:fg P m R Gu X){f:FuncId}{fc:Func}{c:Code}{vs:Array Value}{Post:Value->aM->ae->Prop}(hf:P.funcs[f]?=some fc)(fo:fc.body=some c)(h:uJ X f c (fun e a' o' w'=>(e=.normal\/e=.ret)/\a'.defers=[]/\∃v,ResultsC P fc a'.tmps v/\Post v o' w') {tmps:=vs++Array.replicate (fc.ntmps-vs.size) undef,defers:=[]} o w):bp P X f vs o w Post:=by
 intro cf cs hc;rw[ij hf fo];have leave:∀(a':Act) (o':aM) (w':ae) (todo:List Item) (v:Value),a'.defers=[]->ResultsC P fc a'.tmps v->Post v o' w'->X o' (G {(base f).at a' todo with mode:=.returning} (cf::cs)) w':=by
  intro a' o' w' todo v hd hr hx;refine W.go rfl (fun w1=>?_) (hc v o' w' hx);rw[stepG_leave (b:=base f) rfl hd hf (hr w1).1 (hr w1).2]
 refine h (base f) [] _ rfl (by simp[base]) fun e a' o' w' q=>?_;obtain⟨he,hd,v,hr,hx⟩:=q;rcases he with rfl|rfl
 ·exact W.go rfl (fun _=>dG) (leave a' o' w' [] v hd hr hx)
 ·exact fun todo=>leave a' o' w' todo v hd hr hx
theorem Ha(W:fg P m R Gu X){x y:Code}(M:Act->aM->ae->Prop)(hx:uJ X fn x (gN M Q) a o w)(hy:∀a' o' w',M a' o' w'->uJ X fn y Q a' o' w'):uJ X fn (.seq x y) Q a o w :=
 qY W (G4 hx fun e a' o' w' q=>by cases e<;>first|exact hy _ _ _ q|exact q)
end
section
variable {P:Program} {T:cP} {i:Nat} {V:Nat->ae->Prop} {E:bH} {L:Nat->Bool} {N:Nat->Bool}
abbrev XW(P:Program)(T:cP)(i:Nat)(V:Nat->ae->Prop)(E:bH)(rc:Nat->Prop):aM->aS->ae->Prop:=fun o g w=>gj P T i V E ⟨g,o,rc,w⟩
structure fT(T:cP)(o:aM)(w:ae):Prop where
 tK:∀b,o b->T.H0<=b/\b<w.heap.size
 size:T.H0<=w.heap.size
structure cB(T:cP)(i:Nat)(rc:Nat->Prop)(o:aM)(w:ae)(o':aM)(w':ae):Prop where
 rel:cF T i o rc w w'
 ok:fT T o' w'
 more:∀b,o b->o' b
theorem cB.refl{rc:Nat->Prop}{o:aM}{w:ae}(h:fT T o w):cB T i rc o w o w:=⟨.refl w,h,fun _ h=>h⟩
theorem cB.trans{rc:Nat->Prop}{o o' o2:aM}{w w' w2:ae}(h:cB T i rc o w o' w')(k:cB T i rc o' w' o2 w2):cB T i rc o w o2 w2:=⟨h.rel.trans (k.rel.less h.more),k.ok,fun b hb=>k.more b (h.more b hb)⟩
theorem DO{o:aM}(w:ae)(x:Obj)(hH:T.H0<=w.heap.size)(hT:T.OK):JP T i o w (w.alloc x):=by
 have hh:∀b,b<w.heap.size->(w.alloc x).heap[b]?=w.heap[b]?:=fun b hb=>RowKit.Below.heap_alloc w x b hb;refine⟨an,fun b hb _ _=>hh b hb,fun b cs ty fz hb hx=>⟨cs,by rw[hh b (by have:=(hT.sh b hb).1;omega)];exact hx,rfl⟩,fun a ha _=>cell_of (hh _ (by have:=(hT.sh _ ha).1;omega)),rfl,rfl⟩
theorem cB.alloc{rc:Nat->Prop}{o:aM}{w w1:ae}(hT:T.OK)(hi:i<T.n)(h:fT T o w)(hr:cF T i o rc w w1)(x:Obj):cB T i rc o w (grow o w1 (w1.alloc x)) (w1.alloc x):=by
 have hh:∀b,b<w1.heap.size->(w1.alloc x).heap[b]?=w1.heap[b]?:=fun b hb=>RowKit.Below.heap_alloc w1 x b hb;have hH:=aR h.size hr.size;have old:∀b,b<T.H0->(w1.alloc x).heap[b]?=w1.heap[b]?:=fun b hb=>hh b aa;have nZ:∀k,k<T.n->(w1.alloc x).heap[T.ch k]?=w1.heap[T.ch k]?:=fun k hk=>old _ (hT.ch k hk).1;refine⟨hr.trans ⟨an,fun b hb=>hh b (bm (h.tK b hb).2 hr.size),fun b h1 _ _ _=>old b h1,fun b cs ty fz hb hx=>⟨cs,by rw[old b (hT.sh b hb).1];exact hx,rfl⟩,fun a ha=>?_,fun k s r tm c hk hx=>⟨c,by rw[nZ k hk];exact hx,id⟩,nZ i hi,fQ (old _ hT.wg),rfl,rfl⟩,⟨fun b hb=>?_,eR⟩,fun b hb=>.inl hb⟩
 ·have key:∀k,T.js k (.cell a)->(w1.alloc x).cell? a=w1.cell? a:=by
   intro k eH;obtain⟨a',e,hs⟩:=hT.ownSh k _ eH;cases e;exact cell_of (old _ (hT.sh _ hs).1)
  rcases ha with ha|⟨k,_,ha⟩
  ·exact key i ha
  ·exact key k ha
 ·rcases hb with hb|hb
  ·have:=h.tK b hb;have:=hr.size;simp;omega
  ·simp at hb |-;omega
theorem mI(hT:T.OK)(hi:i<T.n){rc:Nat->Prop}{fn:FuncId}{Q:Exit->Act->aM->ae->Prop}{a:Act}{o:aM}{w:ae}(fD:fT T o w){ops:Array Oper}{j:Nat}{rest:List Nat}{op:Oper}(ho:ops[j]?=some op)(hw:Region.wanted op (yielded ops a.tmps)=true){d:Option Tmp}(hd:op.dst=d)(x:Obj)(cm:∀w1,(execOp a.eval op).run P w1=.ok (.value (.pointer (some ⟨w1.heap.size,0,none⟩))) (w1.alloc x))(iH:∀w1,(execOp a.eval op).events P w1 #[]=#[])(h:∀A o1 w2,cB T i rc o w o1 w2->o1 A->w2.heap[A]?=some x->w.heap.size<=A->(∀b,o1 b↔o b\/b=A)->fu (XW P T i V E rc) fn ops rest Q (a.put d (.pointer (some ⟨A,0,none⟩))) o1 w2):fu (XW P T i V E rc) fn ops (j::rest) Q a o w:=by
 subst hd;refine kO (cv rc) ho hw fun w1 kR K hK=>?_;rw[cm w1];simp only[uponK_value];refine hK _ _ ⟨⟨DO _ _ (aR fD.size kR.size) hT,by rw[listed_nil (iH w1)];simp⟩,h w1.heap.size _ _ (cB.alloc hT hi fD kR x) (.inr ⟨ag _,an⟩) ?_ kR.size fun b=>?_⟩
 ·show(w1.heap.push x)[w1.heap.size]?=_;simp
 ·have:=tJ o w1 x;exact Iff.of_eq (congrFun this b)
theorem vm(hT:T.OK)(hi:i<T.n)(cH:qf P L 0)(I3:P.globals.size≠1)(Cv:P.globals.size<=T.H0){rc:Nat->Prop}{o:aM}{w:ae}{f:FuncId}{vs:Array Value}(hL:L f=true)(fD:fT T o w)(hN:∀b,N b=true->o b)(se:G7 N w)(sS:∀g,G6 N g->vs.map (val g)=vs){R:ae->Value->ae->Prop}(hR:∀wl,JK (R wl))(hRW:∀wl τ d v w',R (WT wl τ d) v w'->R wl v w')(hC:∀wl,(∀b,N b=true->wl.heap[b]?=w.heap[b]?)->w.heap.size<=wl.heap.size->Calls P f vs wl fun e w'=>∃v,e=.returned v/\R wl v w'){Post:Value->aM->ae->Prop}(h:∀wl v v' F' o' aI w',(∀b,N b=true->wl.heap[b]?=w.heap[b]?)->w.heap.size<=wl.heap.size->R wl v aI->Bc T i N o rc o' w w' F' aI v v'->Post v' o' w'):bp P (XW P T i V E rc) f vs o w Post:=by
 intro c cs hc;have hW:=PX (P:=P) (L:=L) se I3 (fun b hb=>aR Cv (fD.tK b (hN b hb)).1) (aR Cv fD.size);have I7:PF P L 0 (yR P L N):=⟨fun r hr=>absurd hr (dE r),rfl,rfl,PW I3 fun b hb=>aR Cv (fD.tK b (hN b hb)).1⟩;have CL:∀g,(yR P L N).has g->Frame.enter P f vs .normal=frame g (Frame.enter P f vs .normal):=fun g hg=>by
  have:=sS g (G8 hg);simp only[frame,Frame.enter,Array.map_append,this,Array.map_replicate,kM]
 have PY:Inv P L 0 [fS] (G (Frame.enter P f vs .normal) [fS]) (iz N w) :=
  ⟨yR P L N,_,[],_,[],w,rfl,sH cH hL _,an,fun g hg=>⟨CL g hg,rfl⟩,hW,wo se,I7⟩
 have uK:Good P (kg P f (R (iz N w))) (G (Frame.enter P f vs .normal) [fS]) (iz N w):=by
  refine uH cH (hR _) PY fun τ d=>?_;refine(hC (WT (iz N w) τ d) (fun b hb=>lg N w hb) (by show w.heap.size<=(iz N w).heap.size;rw[kC];exact ag _)).mono ?_;rintro e w' ⟨v,rfl,hv⟩;exact⟨v,rfl,hRW _ _ _ _ _ hv⟩
 have EM:=GI cH (zT f _) PY uK;have PZ:WT (iz N w) w.tape w.drawn=iz N w:=rfl;refine gj.call hT hi cH (F0:=yR P L N) (o0:=o) (w0:=w) (fun v v' F' o' aI w' hQ hv Hb hm eH aeK aaz hrel=>?_) _ EM (yR P L N) o _ w (by
  rw[PZ];exact⟨_,[],_,[],rfl,rfl,sH cH hL _,an,fun g hg=>⟨CL g hg,rfl⟩,hW,wo se,I7,uK⟩) (fun r hr=>hN r hr) fD.tK fD.size (fun b hb=>hb) (fun r hr=>⟨hr,rfl⟩) (fun b hb r hr=>hb.2 r hr) (.refl w)
 refine hc v' o' w' (h (iz N w) v v' F' o' aI w' (fun b hb=>lg N w hb) (by rw[kC];exact ag _) hQ ⟨hv,Hb,hm,eH,aeK,aaz,hrel.less fun b hb=>⟨hb.1,fun r hr e=>?_⟩⟩);have:r=b:=e;subst this;have SJ:N r=true:=hr;rw[hb.2] at SJ;cases SJ
theorem nz(hT:T.OK)(hi:i<T.n)(cH:qf P L 0)(I3:P.globals.size≠1)(Cv:P.globals.size<=T.H0){rc:Nat->Prop}{o:aM}{w:ae}{f:FuncId}{vs:Array Value}(hL:L f=true)(fD:fT T o w)(hN:∀b,N b=true->o b)(se:G7 N w)(sS:∀g,G6 N g->vs.map (val g)=vs)(v:Value)(hv:∀f,val f v=v)(hC:∀wl,(∀b,N b=true->wl.heap[b]?=w.heap[b]?)->w.heap.size<=wl.heap.size->Calls P f vs wl fun e w'=>e=.returned v/\RowKit.Below wl.heap.size wl w'):
  bp P (XW P T i V E rc) f vs o w fun v' o' w'=>v'=v/\cB T i rc o w o' w':=by
 refine vm (R:=fun wl u w'=>u=v/\∀b,b<wl.heap.size->w'.heap[b]?=wl.heap[b]?) hT hi cH I3 Cv hL fD hN se sS (fun wl u w' τ d h=>h) (fun wl τ d u w' h=>h) (fun wl h1 h2=>(hC wl h1 h2).mono ?_) ?_
 ·rintro e w' ⟨rfl,hb⟩;exact⟨v,rfl,rfl,hb.block⟩
 ·rintro wl u v' F' o' aI w' h1 h2 ⟨rfl,h3⟩ hB;have hrel:=hB.stays se h1 (fun b hb=>h3 b (by have:=(fD.tK b (hN b hb)).2;omega));exact⟨hB.plain hv,hrel,⟨hB.tK,aR fD.size hrel.size⟩,hB.more⟩
theorem pe(hT:T.OK)(hi:i<T.n)(cH:qf P L 0)(I3:P.globals.size≠1)(Cv:P.globals.size<=T.H0){rc:Nat->Prop}{o:aM}{w:ae}{f:FuncId}{vs:Array Value}(hL:L f=true)(fD:fT T o w)(sS:∀g,vs.map (val g)=vs)(v:Value)(hv:∀f,val f v=v)(hC:∀wl,Calls P f vs wl fun e w'=>e=.returned v/\RowKit.Below wl.heap.size wl w'):
  bp P (XW P T i V E rc) f vs o w fun v' o' w'=>v'=v/\cB T i rc o w o' w' :=
 nz (N:=fun _=>false) hT hi cH I3 Cv hL fD (fun b h=>by cases h) (fun b h=>by cases h) (fun g _=>sS g) v hv fun wl _ _=>hC wl
end
section
variable {P:Program} {main:Bool} {b:Frame} {a:Act} {cs:List Frame} {w:ae}
theorem sT{fn:Func}{todo:List Item}{c:Frame}{v:Value}(hn:b.kind=.normal)(hd:a.defers=[])(hf:P.funcs[b.fn]?=some fn)(hr:(results fn a.tmps).run P w=.ok v w):
  ∃es,stepG P main (G {b.at a todo with mode:=.returning} (c::cs)) w=.go (G (c.finish v) cs) w es/\∀e∈es,e∈(results fn a.tmps).events P w #[] :=
 ⟨_,by simp[G,stepG,unwind,doReturn,Frame.at,hn,hd,hf,hr,GStep.after];rfl,fun e he=>mem_seen he⟩
end
section
variable {P:Program} {m:Bool} {R:aM->ae->ae->Prop} {Gu:aM->ae->ae->Array Event->Prop} {X:aM->aS->ae->Prop} {o:aM} {w:ae}
def wq(P:Program)(R:aM->ae->ae->Prop)(Gu:aM->ae->ae->Array Event->Prop)(fc:Func)(tmps:Array Value)(o:aM)(w:ae)(v:Value):Prop :=
 ∀w1,R o w w1->(results fc tmps).run P w1=.ok v w1/\∀es:Array Event,(∀e∈es,e∈(results fc tmps).events P w1 #[])->Gu o w1 w1 es
theorem dJ(W:fg P m R Gu X){f:FuncId}{fc:Func}{c:Code}{vs:Array Value}{Post:Value->aM->ae->Prop}(hf:P.funcs[f]?=some fc)(fo:fc.body=some c)(h:uJ X f c (fun e a' o' w'=>(e=.normal\/e=.ret)/\a'.defers=[]/\∃v,wq P R Gu fc a'.tmps o' w' v/\Post v o' w') {tmps:=vs++Array.replicate (fc.ntmps-vs.size) undef,defers:=[]} o w):bp P X f vs o w Post:=by
 intro cf cs hc;rw[ij hf fo];have leave:∀(a':Act) (o':aM) (w':ae) (todo:List Item) (v:Value),a'.defers=[]->wq P R Gu fc a'.tmps o' w' v->Post v o' w'->X o' (G {(base f).at a' todo with mode:=.returning} (cf::cs)) w':=by
  intro a' o' w' todo v hd hr hx;refine W.step _ _ _ rfl fun w1 h1=>?_;obtain⟨es,e1,e2⟩:=sT (main:=m) (b:=base f) (a:=a') (todo:=todo) (c:=cf) (cs:=cs) rfl hd hf (hr w1 h1).1;exact⟨_,_,es,e1,(hr w1 h1).2 es e2,by rw[bS];exact W.rely _ _ _ _ (hc v o' w' hx) h1⟩
 refine h (base f) [] _ rfl (by simp[base]) fun e a' o' w' q=>?_;obtain⟨he,hd,v,hr,hx⟩:=q;rcases he with rfl|rfl
 ·exact W.go rfl (fun _=>dG) (leave a' o' w' [] v hd hr hx)
 ·exact fun todo=>leave a' o' w' todo v hd hr hx
end
section
variable {T:cP} {i:Nat} {N:Nat->Bool} {o rc o':Nat->Prop} {w w' aI:ae} {F':iZ} {v v':Value}
theorem Ty{F:iZ}{wl w:ae}(W:WR F wl w){b off:Nat}{x:Value}(hK:F.K b)(hx:∀f,val f x=x)(hc:wl.cell? ⟨b,off,none⟩=some x):w.cell? ⟨F.φ b,off,none⟩=some x:=by
 obtain⟨f,hf⟩:=W.some;have h:=W.sr b hK f hf;simp only[World.cell?] at hc |-;rw[h];cases hb:wl.heap[b]? with
 |none=>rw[hb] at hc;cases hc
 |some y =>
  rw[hb] at hc;cases y<;>simp only[Option.map_some,obj] at hc |-<;>first|cases hc;done|skip
  simp only[Option.isSome_none,Bool.false_eq_true,if_false] at hc |-;simp only[Array.getElem?_map,hc,Option.map_some,hx f]
theorem Bc.cell(h:Bc T i N o rc o' w w' F' aI v v'){b off:Nat}{x:Value}(hN:N b=true)(hx:∀f,Ren.val f x=x)(hc:aI.cell? ⟨b,off,none⟩=some x):w'.cell? ⟨b,off,none⟩=some x:=by
 have:=Ty h.wr (h.keep b hN).1 hx hc;rwa[(h.keep b hN).2] at this
end
section
variable {P:Program} {T:cP} {i:Nat} {V:Nat->ae->Prop} {E:bH} {rc o:Nat->Prop} {w w':ae}
structure gx(A:Nat)(w w':ae):Prop where
 size:w'.heap.size=w.heap.size
 heap:∀b,b≠A->w'.heap[b]?=w.heap[b]?
 os:w'.os=w.os
 output:w'.output=w.output
theorem gx.set(w:ae)(A off:Nat)(v:Value):gx A w (w.setCell ⟨A,off,none⟩ v):=⟨by simp[World.setCell],fun b hb=>RowKit.Below.heap_setCell w _ _ b hb,rfl,rfl⟩
theorem gx.trans{A:Nat}{w w1 w2:ae}(h:gx A w w1)(k:gx A w1 w2):gx A w w2:=⟨k.size.trans h.size,fun b hb=>(k.heap b hb).trans (h.heap b hb),k.os.trans h.os,k.output.trans h.output⟩
theorem gx.Zi{A:Nat}(hT:T.OK)(h:gx A w w')(hA:o A)(Xp:T.H0<=A):JP T i o w w':=by
 have hh:∀b,T.Sh b->w'.heap[b]?=w.heap[b]?:=fun b hb=>h.heap b (by have:=(hT.sh b hb).1;omega);exact⟨bq h.size.symm,fun b _ hb _=>h.heap b fun e=>hb (e▸hA),fun b cs ty fz hb hx=>⟨cs,by rw[hh b hb];exact hx,rfl⟩,fun a ha _=>cell_of (hh _ ha),h.os,h.output⟩
theorem gx.A2{A:Nat}(hT:T.OK)(hi:i<T.n)(h:gx A w w')(Xp:T.H0<=A):cF T i (fun b=>o b/\b≠A) rc w w':=by
 have old:∀b,b<T.H0->w'.heap[b]?=w.heap[b]?:=fun b hb=>h.heap b aa;have nZ:∀k,k<T.n->w'.heap[T.ch k]?=w.heap[T.ch k]?:=fun k hk=>old _ (hT.ch k hk).1;refine⟨bq h.size.symm,fun b hb=>h.heap b hb.2,fun b h1 _ _ _=>old b h1,fun b cs ty fz hb hx=>⟨cs,by rw[old b (hT.sh b hb).1];exact hx,rfl⟩,fun a ha=>?_,fun k s r tm c hk hx=>⟨c,by rw[nZ k hk];exact hx,id⟩,nZ i hi,fQ (old _ hT.wg),h.os,h.output⟩;have key:∀k,T.js k (.cell a)->w'.cell? a=w.cell? a:=by
  intro k eH;obtain⟨a',e,hs⟩:=hT.ownSh k _ eH;cases e;exact cell_of (old _ (hT.sh _ hs).1)
 rcases ha with ha|⟨k,_,ha⟩
 ·exact key i ha
 ·exact key k ha
theorem wu{ad:Addr}{wt sy:Bool}(h:o ad.block):LF T i o rc ⟨.cell ad,wt,sy⟩:=by
 refine⟨fun x hx _=>.inl ⟨ad.block,h,?_⟩,an,an,an⟩;simp only[MemAct.ofEvent,MemAct.touch?,Option.some.injEq] at hx;subst hx;rfl
structure p5(T:cP)(i:Nat)(rc:Nat->Prop)(A:Nat)(o:aM)(w:ae)(o':aM)(w':ae):Prop where
 rel:cF T i (fun b=>o b/\b≠A) rc w w'
 ok:fT T o' w'
 more:∀b,o b->o' b
theorem cB.vn{A:Nat}{o':aM}(h:cB T i rc o w o' w'):p5 T i rc A o w o' w':=⟨h.rel.less fun b hb=>hb.1,h.ok,h.more⟩
theorem p5.trans{A:Nat}{o' o2:aM}{w2:ae}(h:p5 T i rc A o w o' w')(k:p5 T i rc A o' w' o2 w2):p5 T i rc A o w o2 w2:=⟨h.rel.trans (k.rel.less fun b hb=>⟨h.more b hb.1,hb.2⟩),k.ok,fun b hb=>k.more b (h.more b hb)⟩
theorem p5.later{A:Nat}{o':aM}(h:p5 T i rc A o w o' w')(hA:¬o A):cB T i rc o w o' w':=⟨h.rel.less fun b hb=>⟨hb,fun e=>hA (e▸hb)⟩,h.ok,h.more⟩
theorem pf(hT:T.OK)(hi:i<T.n){fn:FuncId}{Q:Exit->Act->aM->ae->Prop}{a:Act}(fD:fT T o w){ops:Array Oper}{j:Nat}{rest:List Nat}{op:Oper}(ho:ops[j]?=some op)(hw:Region.wanted op (yielded ops a.tmps)=true)(A:Nat)(hA:o A){f:ae->ae}(cm:∀w1,w1.heap[A]?=w.heap[A]?->(execOp a.eval op).run P w1=.ok .skip (f w1))(hf:∀w1,gx A w1 (f w1))(iH:∀w1,w1.heap[A]?=w.heap[A]?->∀e∈(execOp a.eval op).events P w1 #[],∃ad wt sy,e=⟨.cell ad,wt,sy⟩/\ad.block=A)(h:∀w1,w1.heap[A]?=w.heap[A]?->p5 T i rc A o w o (f w1)->fu (XW P T i V E rc) fn ops rest Q (a.put op.dst undef) o (f w1)):fu (XW P T i V E rc) fn ops (j::rest) Q a o w:=by
 refine kO (cv rc) ho hw fun w1 kR K hK=>?_;have lY:=kR.own A hA;have Xp:=(fD.tK A hA).1;rw[cm w1 lY];simp only[uponK_skip];have hO:=hf w1;refine hK _ _ ⟨⟨hO.Zi hT hA Xp,fun e he=>?_⟩,?_⟩
 ·obtain⟨ad,wt,sy,rfl,e2⟩:=iH w1 lY e (mem_listed he);exact wu (.inl (by rw[e2];exact hA))
 ·rw[jU o hO.size];refine h w1 lY ⟨(kR.less fun b hb=>hb.1).trans (hO.A2 hT hi Xp),⟨fun b hb=>?_,?_⟩,fun _ hb=>hb⟩
  ·have:=fD.tK b hb;have:=kR.size;have:=hO.size;omega
  ·have:=fD.size;have:=kR.size;have:=hO.size;omega
theorem Xq{F:iZ}{wl w:ae}(W:WR F wl w){b t n:Nat}{g:Nat->Value}(hK:F.K b)(hg:∀j,j<n->∀f,val f (g j)=g j)(hr:wl.rowIs b t n g):w.rowIs (F.φ b) t n g:=by
 obtain⟨f,hf⟩:=W.some;obtain⟨c,hb,hn,hc⟩:=hr;refine⟨c.map (val f),?_,by simpa using hn,fun j hj=>?_⟩
 ·rw[W.sr b hK f hf,hb];rfl
 ·rw[br,hc j hj,cR,hg j hj f]
end
def b9(ops:Array Oper)(v:Nat->Value)(a:Act):List Nat->Act
 | []=>a
 |i::l=>b9 ops v (a.put ((ops[i]?).bind (·.dst)) (v i)) l
def fU(ops:Array Oper)(i:Nat):Option Tmp:=(ops[i]?).bind (·.dst)
section
variable {ops:Array Oper} {v:Nat->Value} {a:Act}
theorem gX(a:Act)(l l':List Nat):b9 ops v a (l++l')=b9 ops v (b9 ops v a l) l':=by
 induction l generalizing a with
 |nil=>rfl
 |cons i l ih=>exact ih _
theorem yS(l:List Nat):∀a:Act,(b9 ops v a l).tmps.size=a.tmps.size:=by
 induction l with
 |nil=>intro a;rfl
 |cons i l ih =>
  intro a;simp only[b9];rw[ih];unfold Act.put;split<;>simp
theorem jz(hd:∀i j d,i≠j->fU ops i=some d->fU ops j≠some d){l l':List Nat}(h:l.Perm l'):∀a:Act,b9 ops v a l=b9 ops v a l':=by
 induction h with
 |nil=>intro a;rfl
 |cons x _ ih=>intro a;exact ih _
 |swap x y l =>
  intro a;simp only[b9];by_cases e:x=y
  ·subst e;rfl
  ·exact congrArg (fun z=>b9 ops v z l) (Act.put_comm a (x:=fU ops y) (y:=fU ops x) (v y) (v x) (fun d Tv=>hd y x d (bc e) Tv))
 |trans _ _ ih1 ZU=>intro a;exact(ih1 a).trans (ZU a)
theorem nV{x:Operand}(l:List Nat):∀a:Act,(∀i∈l,∀d,fU ops i=some d->x≠.tmp d)->(b9 ops v a l).eval x=a.eval x:=by
 induction l with
 |nil=>intro a _;rfl
 |cons i l ih =>
  intro a h;simp only[b9];rw[ih _ (fun j hj=>h j (by simp[hj]))];exact Act.eval_put (fun d Tv=>h i an d Tv)
end
theorem pg:∀(n:Nat) (l:List Nat),l.Nodup->(∀x∈l,x<n)->l.length<=n:=by
 intro n
 induction n with
 |zero =>
  intro l _ h;cases l with
  |nil=>simp
  |cons x l=>have:=h x an;omega
 |succ n ih =>
  intro l hl h;have h1:=ih (l.erase n) (hl.erase n) fun x hx=>by
   have ui:=(List.Nodup.mem_erase_iff hl).1 hx;have:=h x ui.2;have:=ui.1;omega
  have h2:l.length<=(l.erase n).length+1:=by
   by_cases hm:n∈l
   ·rw[List.length_erase_of_mem hm];omega
   ·rw[List.erase_of_not_mem hm];omega
  omega
theorem go_acc(md:Region.Mode)(ops:Array Oper):∀(fuel t:Nat) (ls:Array Bool) (acc:List Nat),Region.linearise.go md ops fuel t ls acc=acc.reverse++Region.linearise.go md ops fuel t ls []:=by
 intro fuel
 induction fuel with
 |zero=>intro t ls acc;simp[Region.linearise.go]
 |succ n ih =>
  intro t ls acc;simp only[Region.linearise.go];split
  ·rename_i i hi;rw[ih _ _ (i::acc),ih _ _ [i]];simp
  ·simp
section
variable {P:Program} {m:Bool} {R:aM->ae->ae->Prop} {Gu:aM->ae->ae->Array Event->Prop} {X:aM->aS->ae->Prop} {fn:FuncId} {Q:Exit->Act->aM->ae->Prop} {a:Act} {o:aM} {w:ae}
theorem Tz(W:fg P m R Gu X)(vo:P.follows .mixedOrders=true){id n:Nat}{ops:Array Oper}(hn:ops.size=n+1){v:Nat->Value}{S:ae->Prop}(hS:∀w w1,S w->R o w w1->S w1)(Xr:∀w:ae,S w->S {w with drawn:=w.drawn+1})(Xs:∀w:ae,Gu o w {w with drawn:=w.drawn+1} #[])(h0:S w)(CU:∀(i:Nat) (op:Oper),ops[i]?=some op->∀e∈op.after,e.on<i)(P2:∀D:Nat->Prop,(∀(i:Nat) (op:Oper),ops[i]?=some op->D i->∀e∈op.after,Region.binds .any e=true->D e.on)->D n->∀j,j<=n->D j)(Qa:∀i j d,i≠j->fU ops i=some d->fU ops j≠some d)(eu:∀(i:Nat) (op:Oper),i<n->ops[i]?=some op->∀done:List Nat,done.Nodup->i∉done->(∀j∈done,j<n)->(∀e∈op.after,Region.binds .any e=true->e.on∈done)->∀w1,S w1 ->
   Region.wanted op (yielded ops (b9 ops v a done).tmps)=true/\(execOp (b9 ops v a done).eval op).run P w1=.ok (.value (v i)) w1/\Gu o w1 w1 (listed P fn (b9 ops v a done) op w1)){b:Frame}{k:List Item}{cs:List Frame}(hb:b.fn=fn)(hk:b.kind≠.early)(sP:∀w',S w'->X o (G (b.at (b9 ops v a (List.range n)) (.inRegion ops [n]::k)) cs) w'):
  X o (G (b.at a (.code (.region id ops true)::k)) cs) w:=by
 have key:∀(fuel t:Nat) (ls:Array Bool) (done:List Nat) (w:ae),S w->ls.size=n+1->done.Nodup->(∀j,ls.getD j false=true↔j∈done)->(∀j∈done,j<n)->(∀j∈done,∀op,ops[j]?=some op->∀e∈op.after,Region.binds .any e=true->e.on∈done)->fuel+done.length=n+1 ->
   X o (G (b.at (b9 ops v a done) (.inRegion ops (Region.linearise.go .any ops fuel t ls [])::k)) cs) w:=by
  intro fuel
  induction fuel with
  |zero =>
   intro t ls done w hw ft qZ DQ bZ _ VI;exfalso;have h1:=pg n done qZ bZ;simp at VI;omega
  |succ fuel ih =>
   intro t ls done w hw ft qZ DQ bZ eY VI;simp only[Region.linearise.go];generalize xU:(List.range ops.size).filter (fun i=>!ls.getD i true&&((ops[i]?).map (·.after.all fun e=>!Region.binds .any e||ls.getD e.on false)).getD false)=rs;have mem:∀i,i∈rs↔i<n+1/\i∉done/\∃op,ops[i]?=some op/\∀e∈op.after,Region.binds .any e=true->e.on∈done:=by
    intro i;rw[<- xU,ix,gy,hn];constructor
    ·rintro⟨h1,h2⟩;simp only[Bool.and_eq_true,Bool.not_eq_true'] at h2;have lE:i<ls.size:=aa;have e1:ls.getD i true=ls.getD i false:=by simp[Array.getD_eq_getD_getElem?,lE]
     refine⟨h1,fun hd=>?_,?_⟩
     ·have:=(DQ i).2 hd;rw[<- e1,h2.1] at this;cases this
     ·cases ho:ops[i]? with
      |none=>rw[ho] at h2;simp at h2
      |some op =>
       rw[ho] at h2;refine⟨op,rfl,fun e he yT=>?_⟩;simp only[Option.map_some,Option.getD_some,Array.all_eq_true'] at h2;have:=h2.2 e he;simp only[yT,Bool.not_true,Bool.false_or] at this;exact(DQ e.on).1 this
    ·rintro⟨h1,h2,op,ho,h3⟩;have lE:i<ls.size:=aa;have e1:ls.getD i true=ls.getD i false:=by simp[Array.getD_eq_getD_getElem?,lE]
     refine⟨h1,?_⟩;simp only[Bool.and_eq_true,Bool.not_eq_true'];refine⟨?_,?_⟩
     ·rw[e1];cases hx:ls.getD i false with
      |false=>rfl
      |true=>exact absurd ((DQ i).1 hx) h2
     ·rw[ho];simp only[Option.map_some,Option.getD_some,Array.all_eq_true'];intro e he;cases yT:Region.binds .any e with
      |false=>rfl
      |true=>simp only[Bool.not_true,Bool.false_or];exact(DQ e.on).2 (h3 e he yT)
   have cV:rs≠[]:=by
    intro e;have all:∀j,j<n+1->j∈done:=by
     intro j
     induction j using Nat.strongRecOn with
     |ind j ihj =>
      intro hj;refine aO fun hd=>?_;obtain⟨op,ho⟩:∃op,ops[j]?=some op:=⟨ops[j]'aa,aG aa⟩;have:j∈rs:=(mem j).2 ⟨hj,hd,op,ho,fun e he _=>ihj _ (CU j op ho e he) (by have:=CU j op ho e he;omega)⟩;rw[e] at this;cases this
    have:=bZ n (all n aa);omega
   have hlen:0<rs.length:=List.length_pos_iff.2 cV;obtain⟨i,hi⟩:∃i,rs[t%rs.length]?=some i:=⟨rs[t%rs.length]'(jh _ hlen),cp _⟩;simp only[hi];rw[go_acc];simp only[List.reverse_cons,List.reverse_nil,List.nil_append,List.cons_append];obtain⟨h1,h2,op,ho,h3⟩:=(mem i).1 (fK hi);by_cases pd:i=n
   ·
    subst pd;have all:∀j,j<=i->j∈i::done:=P2 (fun j=>j∈i::done) (fun j CV mr hj e he yT=>by
     rcases List.mem_cons.1 hj with rfl|hj
     ·rw[ho] at mr;cases mr;exact bo _ (h3 e he yT)
     ·exact bo _ (eY j hj CV mr e he yT)) an
    have hp:done.Perm (List.range i):=by
     refine(du qZ jK).2 fun j=>?_;rw[gy];constructor
     ·exact bZ j
     ·intro hj;rcases List.mem_cons.1 (all j aa) with e|e
      ·omega
      ·exact e
    have hdl:done.length=i:=by rw[hp.length_eq];simp
    have jW:fuel=0:=aa;subst jW;simp only[Region.linearise.go,List.reverse_nil];rw[jz Qa hp];exact sP w hw
   ·have Xt:i<n:=aa;refine W.step o _ w rfl fun w1 pO=>?_;have TA:=hS w w1 hw pO;obtain⟨g1,g2,g3⟩:=eu i op Xt ho done qZ h2 bZ h3 w1 TA;refine⟨_,w1,_,dN ho g1 hk g2,hb▸g3,?_⟩;rw[bS];have epa:(b9 ops v a done).put op.dst (v i)=b9 ops v a (done++[i]):=by
     rw[gX];simp[b9,ho]
    rw[epa];clear epa;refine ih (t/rs.length) (ls.setIfInBounds i true) (done++[i]) w1 TA (by simp[ft]) ?_ (fun j=>?_) (fun j hj=>?_) (fun j hj CV mr e he yT=>?_) eR
    ·exact List.nodup_append.2 ⟨qZ,an,fun x hx y hy=>by simp at hy;subst hy;rintro rfl;exact h2 hx⟩
    ·rw[dZ,iU];by_cases uI:i=j
     ·subst uI;simp[Array.getD_eq_getD_getElem?,show i<ls.size by omega]
     ·rw[cO,aJ uI,<- cO,DQ j];exact⟨.inl,fun h=>h.elim (fun h=>h) fun h=>absurd h.symm uI⟩
    ·rcases List.mem_append.1 hj with hj|hj
     ·exact bZ j hj
     ·simp at hj;omega
    ·rcases List.mem_append.1 hj with hj|hj
     ·exact List.mem_append.2 (.inl (eY j hj CV mr e he yT))
     ·simp at hj;subst hj;rw[ho] at mr;cases mr;exact List.mem_append.2 (.inl (h3 e he yT))
 refine W.step o _ w rfl fun w1 pO=>⟨_,_,_,stepG_region_draw,Xs w1,?_⟩;rw[jU o ai];have Qb:∀t,Region.schedule (P.follows .mixedOrders) ops t=Region.linearise.go .any ops (n+1) t (Array.replicate (n+1) false) []:=by
  intro t;simp[Region.schedule,vo,Region.linearise,hn]
 rw[Qb];have:=key (n+1) (w1.tape w1.drawn (.order b.fn id)) (Array.replicate (n+1) false) [] {w1 with drawn:=w1.drawn+1} (Xr _ (hS w w1 h0 pO)) an kE (fun j=>?_) an an an
 ·exact this
 ·simp only[Array.getD_eq_getD_getElem?,List.not_mem_nil,iff_false];by_cases hj:j<n+1
  ·simp[hj]
  ·simp[hj]
theorem Np(W:fg P m R Gu X)(vo:P.follows .mixedOrders=true){id n:Nat}{ops:Array Oper}(hn:ops.size=n+1){v:Nat->Value}{S:aM->ae->Prop}(hS:∀o w w1,S o w->R o w w1->S o w1)(Xr:∀o (w:ae),S o w->S o {w with drawn:=w.drawn+1})(Xs:∀w:ae,Gu o w {w with drawn:=w.drawn+1} #[])(h0:S o w)(CU:∀(i:Nat) (op:Oper),ops[i]?=some op->∀e∈op.after,e.on<i)(P2:∀D:Nat->Prop,(∀(i:Nat) (op:Oper),ops[i]?=some op->D i->∀e∈op.after,Region.binds .any e=true->D e.on)->D n->∀j,j<=n->D j)(Qa:∀i j d,i≠j->fU ops i=some d->fU ops j≠some d)(eu:∀(i:Nat) (op:Oper),i<n->ops[i]?=some op->∀done:List Nat,done.Nodup->i∉done->(∀j∈done,j<n)->(∀e∈op.after,Region.binds .any e=true->e.on∈done)->∀o w rest,S o w ->
   (∀o' w',S o' w'->fu X fn ops rest Q ((b9 ops v a done).put op.dst (v i)) o' w')->fu X fn ops (i::rest) Q (b9 ops v a done) o w)(sP:∀o w,S o w->fu X fn ops [n] Q (b9 ops v a (List.range n)) o w):
  uJ X fn (.region id ops true) Q a o w:=by
 have key:∀(fuel t:Nat) (ls:Array Bool) (done:List Nat) (o:aM) (w:ae),S o w->ls.size=n+1->done.Nodup->(∀j,ls.getD j false=true↔j∈done)->(∀j∈done,j<n)->(∀j∈done,∀op,ops[j]?=some op->∀e∈op.after,Region.binds .any e=true->e.on∈done)->fuel+done.length=n+1 ->
   fu X fn ops (Region.linearise.go .any ops fuel t ls []) Q (b9 ops v a done) o w:=by
  intro fuel
  induction fuel with
  |zero =>
   intro t ls done o w hw ft qZ DQ bZ _ VI;exfalso;have h1:=pg n done qZ bZ;simp at VI;omega
  |succ fuel ih =>
   intro t ls done o w hw ft qZ DQ bZ eY VI;simp only[Region.linearise.go];generalize xU:(List.range ops.size).filter (fun i=>!ls.getD i true&&((ops[i]?).map (·.after.all fun e=>!Region.binds .any e||ls.getD e.on false)).getD false)=rs;have mem:∀i,i∈rs↔i<n+1/\i∉done/\∃op,ops[i]?=some op/\∀e∈op.after,Region.binds .any e=true->e.on∈done:=by
    intro i;rw[<- xU,ix,gy,hn];constructor
    ·rintro⟨h1,h2⟩;simp only[Bool.and_eq_true,Bool.not_eq_true'] at h2;have lE:i<ls.size:=aa;have e1:ls.getD i true=ls.getD i false:=by simp[Array.getD_eq_getD_getElem?,lE]
     refine⟨h1,fun hd=>?_,?_⟩
     ·have:=(DQ i).2 hd;rw[<- e1,h2.1] at this;cases this
     ·cases ho:ops[i]? with
      |none=>rw[ho] at h2;simp at h2
      |some op =>
       rw[ho] at h2;refine⟨op,rfl,fun e he yT=>?_⟩;simp only[Option.map_some,Option.getD_some,Array.all_eq_true'] at h2;have:=h2.2 e he;simp only[yT,Bool.not_true,Bool.false_or] at this;exact(DQ e.on).1 this
    ·rintro⟨h1,h2,op,ho,h3⟩;have lE:i<ls.size:=aa;have e1:ls.getD i true=ls.getD i false:=by simp[Array.getD_eq_getD_getElem?,lE]
     refine⟨h1,?_⟩;simp only[Bool.and_eq_true,Bool.not_eq_true'];refine⟨?_,?_⟩
     ·rw[e1];cases hx:ls.getD i false with
      |false=>rfl
      |true=>exact absurd ((DQ i).1 hx) h2
     ·rw[ho];simp only[Option.map_some,Option.getD_some,Array.all_eq_true'];intro e he;cases yT:Region.binds .any e with
      |false=>rfl
      |true=>simp only[Bool.not_true,Bool.false_or];exact(DQ e.on).2 (h3 e he yT)
   have cV:rs≠[]:=by
    intro e;have all:∀j,j<n+1->j∈done:=by
     intro j
     induction j using Nat.strongRecOn with
     |ind j ihj =>
      intro hj;refine aO fun hd=>?_;obtain⟨op,ho⟩:∃op,ops[j]?=some op:=⟨ops[j]'aa,aG aa⟩;have:j∈rs:=(mem j).2 ⟨hj,hd,op,ho,fun e he _=>ihj _ (CU j op ho e he) (by have:=CU j op ho e he;omega)⟩;rw[e] at this;cases this
    have:=bZ n (all n aa);omega
   have hlen:0<rs.length:=List.length_pos_iff.2 cV;obtain⟨i,hi⟩:∃i,rs[t%rs.length]?=some i:=⟨rs[t%rs.length]'(jh _ hlen),cp _⟩;simp only[hi];rw[go_acc];simp only[List.reverse_cons,List.reverse_nil,List.nil_append,List.cons_append];obtain⟨h1,h2,op,ho,h3⟩:=(mem i).1 (fK hi);by_cases pd:i=n
   ·
    subst pd;have all:∀j,j<=i->j∈i::done:=P2 (fun j=>j∈i::done) (fun j CV mr hj e he yT=>by
     rcases List.mem_cons.1 hj with rfl|hj
     ·rw[ho] at mr;cases mr;exact bo _ (h3 e he yT)
     ·exact bo _ (eY j hj CV mr e he yT)) an
    have hp:done.Perm (List.range i):=by
     refine(du qZ jK).2 fun j=>?_;rw[gy];constructor
     ·exact bZ j
     ·intro hj;rcases List.mem_cons.1 (all j aa) with e|e
      ·omega
      ·exact e
    have hdl:done.length=i:=by rw[hp.length_eq];simp
    have jW:fuel=0:=aa;subst jW;simp only[Region.linearise.go,List.reverse_nil];rw[jz Qa hp];exact sP o w hw
   ·have Xt:i<n:=aa;refine eu i op Xt ho done qZ h2 bZ h3 o w _ hw fun o1 w1 TA=>?_;have epa:(b9 ops v a done).put op.dst (v i)=b9 ops v a (done++[i]):=by
     rw[gX];simp[b9,ho]
    rw[epa];clear epa;refine ih (t/rs.length) (ls.setIfInBounds i true) (done++[i]) o1 w1 TA (by simp[ft]) ?_ (fun j=>?_) (fun j hj=>?_) (fun j hj CV mr e he yT=>?_) eR
    ·exact List.nodup_append.2 ⟨qZ,an,fun x hx y hy=>by simp at hy;subst hy;rintro rfl;exact h2 hx⟩
    ·rw[dZ,iU];by_cases uI:i=j
     ·subst uI;simp[Array.getD_eq_getD_getElem?,show i<ls.size by omega]
     ·rw[cO,aJ uI,<- cO,DQ j];exact⟨.inl,fun h=>h.elim (fun h=>h) fun h=>absurd h.symm uI⟩
    ·rcases List.mem_append.1 hj with hj|hj
     ·exact bZ j hj
     ·simp at hj;omega
    ·rcases List.mem_append.1 hj with hj|hj
     ·exact List.mem_append.2 (.inl (eY j hj CV mr e he yT))
     ·simp at hj;subst hj;rw[ho] at mr;cases mr;exact List.mem_append.2 (.inl (h3 e he yT))
 intro b k cs hb hk hc;refine W.step o _ w rfl fun w1 pO=>⟨_,_,_,stepG_region_draw,Xs w1,?_⟩;rw[jU o ai];have Qb:∀t,Region.schedule (P.follows .mixedOrders) ops t=Region.linearise.go .any ops (n+1) t (Array.replicate (n+1) false) []:=by
  intro t;simp[Region.schedule,vo,Region.linearise,hn]
 rw[Qb];have:=key (n+1) (w1.tape w1.drawn (.order b.fn id)) (Array.replicate (n+1) false) [] o {w1 with drawn:=w1.drawn+1} (Xr _ _ (hS o w w1 h0 pO)) an kE (fun j=>?_) an an an
 ·exact this b k cs hb hk hc
 ·simp only[Array.getD_eq_getD_getElem?,List.not_mem_nil,iff_false];by_cases hj:j<n+1
  ·simp[hj]
  ·simp[hj]
end
section
variable {P:Program} {T:cP} {i:Nat} {V:Nat->ae->Prop} {E:bH}
abbrev wv:=Exit->Act->(Nat->Prop)->aM->ae->Prop
def J2(P:Program)(T:cP)(i:Nat)(V:Nat->ae->Prop)(E:bH)(fn:FuncId)(c:Code)(Q:wv)(a:Act)(rc:Nat->Prop)(o:aM)(w:ae):Prop :=
 ∀(b:Frame) (k:List Item) (cs:List Frame),b.fn=fn->b.kind≠.early->(∀e a' mX o' w',Q e a' mX o' w'->sQ (XW P T i V E mX) b k cs e a' o' w')->XW P T i V E rc o (G (b.at a (.code c::k)) cs) w
def Qc(M:Act->(Nat->Prop)->aM->ae->Prop)(Q:wv):wv
 | .normal,a,rc,o,w=>M a rc o w
 |e,a,rc,o,w=>Q e a rc o w
def wy(id:Nat)(Q:wv):wv
 | .exit PV,a,rc,o,w=>if PV=id then Q .normal a rc o w else Q (.exit PV) a rc o w
 |e,a,rc,o,w=>Q e a rc o w
variable {fn:FuncId} {Q:wv} {a:Act} {rc:Nat->Prop} {o:aM} {w:ae}
theorem ff{c:Code}(h:uJ (XW P T i V E rc) fn c (fun e a' o' w'=>Q e a' rc o' w') a o w):J2 P T i V E fn c Q a rc o w :=
 fun b k cs hb hk hc=>h b k cs hb hk fun e a' o' w' q=>hc e a' rc o' w' q
theorem kj{x y:Code}(h:J2 P T i V E fn x (Qc (fun a' mX o' w'=>J2 P T i V E fn y Q a' mX o' w') Q) a rc o w):J2 P T i V E fn (.seq x y) Q a rc o w:=by
 intro b k cs hb hk hc;refine(cv rc).go rfl (fun _=>ax) (h b (.code y::k) cs hb hk fun e a' mX o' w' q=>?_);cases e with
 |normal=>exact q b k cs hb hk hc
 |exit id=>exact(hc _ _ _ _ _ q).push rfl an
 |ret=>exact(hc _ _ _ _ _ q).push (y:=.code y) rfl an
 |goto l=>exact hc _ _ _ _ _ q
 |panic ch=>exact hc _ _ _ _ _ q
 |outgrown=>exact hc _ _ _ _ _ q
theorem Hc{c:Operand}{x y:Code}{t:Bool}(hc:a.eval c=.bool t)(ht:t=true->J2 P T i V E fn x Q a rc o w)(hf:t=false->J2 P T i V E fn y Q a rc o w):J2 P T i V E fn (.cond c x y) Q a rc o w:=by
 intro b k cs hb hk hq;refine(cv rc).go rfl (fun _=>dI hc) ?_;cases t with
 |true=>exact ht rfl b k cs hb hk hq
 |false=>exact hf rfl b k cs hb hk hq
theorem DR{id:Nat}{c:Code}(h:J2 P T i V E fn c (wy id Q) a rc o w):J2 P T i V E fn (.block id c) Q a rc o w:=by
 intro b k cs hb hk hc;refine(cv rc).go rfl (fun _=>eB) (h b (.inBlock id::k) cs hb hk fun e a' mX o' w' q=>?_);cases e with
 |normal=>exact(cv mX).go rfl (fun _=>fR) (hc _ _ _ _ _ q)
 |exit PV =>
  by_cases hid:PV=id
  ·simp only[wy,hid,if_true] at q;exact⟨k,by simp[exitTo,hid],hc _ _ _ _ _ q⟩
  ·simp only[wy,hid,if_false] at q;obtain⟨k',kY,hg⟩:=hc _ _ _ _ _ q;have:(id==PV)=false:=by simp;exact fun h=>hid h.symm
   exact⟨k',by simp[exitTo,this,kY],hg⟩
 |ret=>exact fun todo=>hc _ _ _ _ _ q todo
 |goto l=>exact hc _ _ _ _ _ q
 |panic ch=>exact hc _ _ _ _ _ q
 |outgrown=>exact hc _ _ _ _ _ q
theorem Qd{c:Code}(I:Nat->Act->(Nat->Prop)->aM->ae->Prop){N:Nat}(h0:I N a rc o w)(round:∀n a rc o w,I n a rc o w->J2 P T i V E fn c (Qc (fun a' mX o' w'=>∃n',n'<n/\I n' a' mX o' w') Q) a rc o w):J2 P T i V E fn (.loop c) Q a rc o w:=by
 intro b k cs hb hk hc;have key:∀N a rc o w,I N a rc o w->XW P T i V E rc o (G (b.at a (.code c :: .inLoop c::k)) cs) w:=by
  intro N
  induction N using Nat.strongRecOn with
  |ind N ih =>
   intro a rc o w hI;refine round N a rc o w hI b (.inLoop c::k) cs hb hk fun e a' mX o' w' q=>?_;cases e with
   |normal =>
    obtain⟨n',hn,Z1⟩:=q;exact(cv mX).go rfl (fun _=>ig) (ih n' hn a' mX o' w' Z1)
   |exit id=>exact(hc _ _ _ _ _ q).push rfl an
   |ret=>exact(hc _ _ _ _ _ q).push (y:=.inLoop c) rfl an
   |goto l=>exact hc _ _ _ _ _ q
   |panic ch=>exact hc _ _ _ _ _ q
   |outgrown=>exact hc _ _ _ _ _ q
 exact(cv rc).go rfl (fun _=>jj) (key N a rc o w h0)
def DT(P:Program)(T:cP)(i:Nat)(V:Nat->ae->Prop)(E:bH)(f:FuncId)(vs:Array Value)(rc:Nat->Prop)(o:aM)(w:ae)(Post:Value->(Nat->Prop)->aM->ae->Prop):Prop :=
 ∀(c:Frame) (cs:List Frame),(∀v mX o' w',Post v mX o' w'->XW P T i V E mX o' (G (c.finish v) cs) w')->XW P T i V E rc o (G (Frame.enter P f vs .normal) (c::cs)) w
theorem DT.mono{f:FuncId}{vs:Array Value}{Post G9:Value->(Nat->Prop)->aM->ae->Prop}(h:DT P T i V E f vs rc o w Post)(hp:∀v mX o' w',Post v mX o' w'->G9 v mX o' w'):DT P T i V E f vs rc o w G9 :=
 fun c cs hc=>h c cs fun v mX o' w' q=>hc v mX o' w' (hp v mX o' w' q)
theorem EV{f:FuncId}{fc:Func}{c:Code}{vs:Array Value}{Post:Value->(Nat->Prop)->aM->ae->Prop}(hf:P.funcs[f]?=some fc)(fo:fc.body=some c)(h:J2 P T i V E f c (fun e a' mX o' w'=>(e=.normal\/e=.ret)/\a'.defers=[]/\∃v,ResultsC P fc a'.tmps v/\Post v mX o' w') {tmps:=vs++Array.replicate (fc.ntmps-vs.size) undef,defers:=[]} rc o w):DT P T i V E f vs rc o w Post:=by
 intro cf cs hc;rw[ij hf fo];have leave:∀(a':Act) (mX:Nat->Prop) (o':aM) (w':ae) (todo:List Item) (v:Value),a'.defers=[]->ResultsC P fc a'.tmps v->Post v mX o' w'->XW P T i V E mX o' (G {(base f).at a' todo with mode:=.returning} (cf::cs)) w':=by
  intro a' mX o' w' todo v hd hr hx;refine(cv mX).go rfl (fun w1=>?_) (hc v mX o' w' hx);rw[stepG_leave (b:=base f) rfl hd hf (hr w1).1 (hr w1).2]
 refine h (base f) [] _ rfl (by simp[base]) fun e a' mX o' w' q=>?_;obtain⟨he,hd,v,hr,hx⟩:=q;rcases he with rfl|rfl
 ·exact(cv mX).go rfl (fun _=>dG) (leave a' mX o' w' [] v hd hr hx)
 ·exact fun todo=>leave a' mX o' w' todo v hd hr hx
def uk(P:Program)(T:cP)(i:Nat)(V:Nat->ae->Prop)(E:bH)(fn:FuncId)(ops:Array Oper)(todo:List Nat)(Q:wv)(a:Act)(rc:Nat->Prop)(o:aM)(w:ae):Prop :=
 ∀(b:Frame) (k:List Item) (cs:List Frame),b.fn=fn->b.kind≠.early->(∀e a' mX o' w',Q e a' mX o' w'->sQ (XW P T i V E mX) b k cs e a' o' w')->XW P T i V E rc o (G (b.at a (.inRegion ops todo::k)) cs) w
theorem J3{id:Nat}{ops:Array Oper}(h:uk P T i V E fn ops (List.range ops.size) Q a rc o w):J2 P T i V E fn (.region id ops false) Q a rc o w :=
 fun b k cs hb hk hc=>(cv rc).go rfl (fun _=>aV) (h b k cs hb hk hc)
theorem wz{ops:Array Oper}{todo:List Nat}(h:fu (XW P T i V E rc) fn ops todo (fun e a' o' w'=>Q e a' rc o' w') a o w):uk P T i V E fn ops todo Q a rc o w :=
 fun b k cs hb hk hc=>h b k cs hb hk fun e a' o' w' q=>hc e a' rc o' w' q
theorem pj{m:Bool}{ops:Array Oper}{j:Nat}{rest:List Nat}{op:Oper}{f:FuncId}{fc:Func}{c:Code}{args:Array Operand}{rR:Array TypeId}{b:Frame}{k:List Item}{cs:List Frame}(ho:ops[j]?=some op)(hw:Region.wanted op (yielded ops a.tmps)=true)(hk:b.kind≠.early)(eu:op.op=.call {callee:=.value (.func f),args,argTypes:=rR})(hf:P.funcs[f]?=some fc)(gF:(fc.name == "runtime.NumGoroutine")=false)(fo:fc.body=some c)(w1:ae):
  stepG P m (G (b.at a (.inRegion ops (j::rest)::k)) cs) w1=.go (G (Frame.enter P f (args.map a.eval) .normal) (b.at a (.inRegion ops (j::rest)::k)::cs)) w1 #[]:=by
 rw[ij hf fo];have:=goes_call (P:=P) (main:=m) (b:=b) (k:=k) (cs:=cs) (w:=w1) (K:=fun g' w' es=>stepG P m (G (b.at a (.inRegion ops (j::rest)::k)) cs) w1=.go g' w' es->stepG P m (G (b.at a (.inRegion ops (j::rest)::k)) cs) w1=.go (G ((base f).at {tmps:=args.map a.eval++Array.replicate (fc.ntmps-(args.map a.eval).size) undef,defers:=[]} [.code c]) (b.at a (.inRegion ops (j::rest)::k)::cs)) w1 #[]) ho hw hk eu hf gF fo (fun e=>e);cases hg:stepG P m (G (b.at a (.inRegion ops (j::rest)::k)) cs) w1 with
 |go g' w' es=>rw[hg,goes_go] at this;rw[<- this rfl]
 |_=>rw[hg] at this;exact this.elim
theorem J4{ops:Array Oper}{j:Nat}{rest:List Nat}{op:Oper}{f:FuncId}{fc:Func}{c:Code}{args:Array Operand}{rR:Array TypeId}(ho:ops[j]?=some op)(hw:Region.wanted op (yielded ops a.tmps)=true)(eu:op.op=.call {callee:=.value (.func f),args,argTypes:=rR})(hf:P.funcs[f]?=some fc)(gF:(fc.name == "runtime.NumGoroutine")=false)(fo:fc.body=some c){vs:Array Value}(Nk:args.map a.eval=vs){d:Option Tmp}(hd:op.dst=d)(h:DT P T i V E f vs rc o w fun v mX o' w'=>uk P T i V E fn ops rest Q (a.put d v) mX o' w'):uk P T i V E fn ops (j::rest) Q a rc o w:=by
 subst Nk hd;intro b k cs hb hk hc;refine(cv rc).go rfl (fun w1=>pj ho hw hk eu hf gF fo w1) (h _ _ fun v mX o' w' q=>?_);rw[show(b.at a (.inRegion ops (j::rest)::k)).finish v=b.at (a.put op.dst v) (.inRegion ops rest::k) by rw[dF,ho];rfl];exact q b k cs hb hk hc
theorem Nq{ops:Array Oper}{j:Nat}{rest:List Nat}{op:Oper}(ho:ops[j]?=some op)(hw:Region.wanted op (yielded ops a.tmps)=true){k:Nat}{z:Value}{f:Bool}(wB:T.dep i k)(cm:∀w1,(execOp a.eval op).run P w1=.ok (.comm #[rcase (T.ch k) z] true (.recv f)) w1)(iH:∀w1,(execOp a.eval op).events P w1 #[]=#[]){d:Option Tmp}(hd:op.dst=d)(h:∀w1,cF T i o rc w w1->V k w1->uk P T i V E fn ops rest Q (a.put d (recvd f z false)) (fun b=>rc b\/b=k) o w1):uk P T i V E fn ops (j::rest) Q a rc o w:=by
 subst hd;intro b kk cs hb hk hc;refine gj.intro ⟨rfl,.inr (.inl ⟨k,z,f,wB,fun w1 _=>?_,fun w1 pO hv=>?_⟩)⟩
 ·show stepG P false (G (b.at a (.inRegion ops (j::rest)::kk)) cs) w1=_;rw[stepG_comm ho hw hk (cm w1),listed_nil (iH w1)]
 ·have e:Go.Conc.served (G (b.at a (.inRegion ops (j::rest)::kk)) cs) (recvd f z false)=G (b.at (a.put op.dst (recvd f z false)) (.inRegion ops rest::kk)) cs:=by
   simp only[Go.Conc.served,G];rw[dF,ho];rfl
  show gj P T i V E ⟨Go.Conc.served (G (b.at a (.inRegion ops (j::rest)::kk)) cs) (recvd f z false),o,_,w1⟩;rw[e];exact h w1 pO hv b kk cs hb hk hc
theorem Qe(vo:P.follows .mixedOrders=true){id n:Nat}{ops:Array Oper}(hn:ops.size=n+1){v:Nat->Value}{S:ae->Prop}(hS:∀w w1,S w->cF T i o rc w w1->S w1)(h0:S w)(CU:∀(i:Nat) (op:Oper),ops[i]?=some op->∀e∈op.after,e.on<i)(P2:∀D:Nat->Prop,(∀(i:Nat) (op:Oper),ops[i]?=some op->D i->∀e∈op.after,Region.binds .any e=true->D e.on)->D n->∀j,j<=n->D j)(Qa:∀i j d,i≠j->fU ops i=some d->fU ops j≠some d)(eu:∀(j:Nat) (op:Oper),j<n->ops[j]?=some op->∀done:List Nat,done.Nodup->j∉done->(∀j∈done,j<n)->(∀e∈op.after,Region.binds .any e=true->e.on∈done)->∀w1,S w1 ->
   Region.wanted op (yielded ops (b9 ops v a done).tmps)=true/\(execOp (b9 ops v a done).eval op).run P w1=.ok (.value (v j)) w1/\∀e∈listed P fn (b9 ops v a done) op w1,LF T i o rc e)(sP:∀w',S w'->uk P T i V E fn ops [n] Q (b9 ops v a (List.range n)) rc o w'):
  J2 P T i V E fn (.region id ops true) Q a rc o w:=by
 intro b k cs hb hk hc;refine Tz (cv rc) vo hn hS (fun w h=>hS _ _ h (cF.at w _)) (fun w=>⟨?_,an⟩) h0 CU P2 Qa (fun j op h1 h2 done h2' h3 h4 h5 w1 h6=>?_) hb hk fun w' hw'=>sP w' hw' b k cs hb hk hc
 ·exact⟨ag _,fun _ _ _ _=>rfl,fun b cs ty fz _ h=>⟨cs,h,rfl⟩,fun _ _ _=>rfl,rfl,rfl⟩
 ·obtain⟨g1,g2,g3⟩:=eu j op h1 h2 done h2' h3 h4 h5 w1 h6;exact⟨g1,g2,.refl _ _,fun e he=>by rw[bS];exact g3 e he⟩
end
theorem vp{P:Program}{m:Bool}{b:Frame}{a:Act}{cs:List Frame}{todo:List Item}{ds:List Deferred}{rR:Array TypeId}{ty:TypeId}{cns:Array Bool}{c s r:Nat}{tm:Bool}{w:ae}(hd:a.defers={target:=.builtin .close rR ty cns,args:=#[.chan (some c)]}::ds)(hc:w.heap[c]?=some (.chan 0 #[] false s r tm))(hq:(P.funcs[b.fn]?).any (·.norace)=false):
  stepG P m (G {b.at a todo with mode:=.returning} cs) w=.go (G {b.at ⟨a.tmps,ds⟩ todo with mode:=.returning} cs) (w.setChan c 0 #[] true s r tm) (gf c):=by
 have hr:(invoke (.builtin .close rR ty cns) #[.chan (some c)]).run P w=.ok (.value (.tuple #[])) (w.setChan c 0 #[] true s r tm):=by
  simp[invoke,go_sem,run_close_open _ _ hc,World.setChan]
 have he:(invoke (.builtin .close rR ty cns) #[.chan (some c)]).events P w #[]=gf c:=by
  simp[invoke,go_sem,events_close_open _ _ hc,gf]
 have hl:seen P b.fn (gf c)=gf c:=seen_eq hq (by intro e he f;simp only[gf,List.mem_toArray,List.mem_cons,List.not_mem_nil,or_false] at he;rcases he with rfl|rfl<;>simp);simp[G,stepG,unwind,callDeferred,Frame.at,hd,Sem.runT_eq,hr,he,hl,GStep.after]
def Qf(ops:Array Oper)(n:Nat):Bool:=(List.range n).all fun j=>(List.range (n+1)).any fun i=>decide (j<i)&&match ops[i]? with|none=>false|some op=>op.after.any fun e=>Region.binds .any e&&e.on==j
def Bd(ops:Array Oper)(n:Nat):Bool :=
 (ops.size==n+1) &&
 (List.range (n+1)).all (fun i=>match ops[i]? with
  |none=>false
  |some op=>op.after.all (fun e=>decide (e.on<i))&&op.guard.isNone&&(match op.op with|.select ..=>false|_=>true) &&
    (List.range (n+1)).all (fun j=>j==i||match fU ops j with
     |none=>true
     |some d=>fU ops i != some d&&(!(op.looksAt ops).contains d||op.after.any (fun e=>Region.binds .any e&&e.on==j)))) &&
 Qf ops n
section
variable {ops:Array Oper} {n:Nat}
structure Qg(ops:Array Oper)(n:Nat):Prop where
 size:ops.size=n+1
 low:∀(i:Nat) (op:Oper),ops[i]?=some op->∀e∈op.after,e.on<i
 cov:∀D:Nat->Prop,(∀(i:Nat) (op:Oper),ops[i]?=some op->D i->∀e∈op.after,Region.binds .any e=true->D e.on)->D n->∀j,j<=n->D j
 dst:∀i j d,i≠j->fU ops i=some d->fU ops j≠some d
 guard:∀(i:Nat) (op:Oper),ops[i]?=some op->op.guard=none
 sel:∀(i:Nat) (op:Oper),ops[i]?=some op->∀cs b,op.op≠.select cs b
 look:∀(i:Nat) (op:Oper),ops[i]?=some op->∀j d,j≠i->fU ops j=some d->d∈op.looksAt ops->∃e∈op.after,Region.binds .any e=true/\e.on=j
theorem yU(h:Bd ops n=true):Qg ops n:=by
 simp only[Bd,Bool.and_eq_true,beq_iff_eq,List.all_eq_true,List.mem_range] at h;obtain⟨⟨hs,h1⟩,h2⟩:=h;have lt:∀(i:Nat) (op:Oper),ops[i]?=some op->i<n+1:=fun i op ho=>by have:=(Array.getElem?_eq_some_iff.1 ho).1;omega
 have all:∀(i:Nat) (op:Oper),ops[i]?=some op->(((op.after.all (fun e=>decide (e.on<i))=true/\op.guard.isNone=true)/\(match op.op with|.select ..=>false|_=>true)=true) /\
   ∀j,j<n+1->(j=i\/(match fU ops j with|none=>true|some d=>fU ops i != some d&&(!(op.looksAt ops).contains d||op.after.any (fun e=>Region.binds .any e&&e.on==j)))=true)):=by
  intro i op ho;have:=h1 i (lt i op ho);simp only[ho,Bool.and_eq_true,List.all_eq_true,List.mem_range,Bool.or_eq_true,beq_iff_eq] at this;exact this
 refine⟨hs,fun i op ho e he=>?_,fun D hD hn=>?_,fun i j d DU hi hj=>?_,fun i op ho=>?_,fun i op ho cs b e=>?_,fun i op ho j d uI hj hl=>?_⟩
 ·have:=(all i op ho).1.1.1;rw[iV] at this;simpa using this e he
 ·have key:∀m j,j+m=n->D j:=by
   intro m
   induction m using Nat.strongRecOn with
   |ind m ih =>
    intro j hjm;rcases aZ m with rfl|hm
    ·have:j=n:=aa;rw[this];exact hn
    ·unfold Qf at h2;simp only[List.all_eq_true,List.mem_range,List.any_eq_true,Bool.and_eq_true,decide_eq_true_eq] at h2;obtain⟨i,hi,uI,hx⟩:=h2 j aa;cases ho:ops[i]? with
     |none=>rw[ho] at hx;cases hx
     |some op =>
      rw[ho] at hx;simp only[Array.any_eq_true,Bool.and_eq_true,beq_iff_eq] at hx;obtain⟨q,hq,hb,he⟩:=hx;rw[<- he];exact hD i op ho (ih (n-i) aa i aa) _ (jl hq) hb
  exact fun j hj=>key (n-j) j aa
 ·obtain⟨op,ho⟩:∃op,ops[i]?=some op:=by
   cases ho:ops[i]? with
   |none=>simp[fU,ho] at hi
   |some op=>exact⟨op,rfl⟩
  obtain⟨CV,mr⟩:∃op,ops[j]?=some op:=by
   cases ho:ops[j]? with
   |none=>simp[fU,ho] at hj
   |some op=>exact⟨op,rfl⟩
  rcases(all i op ho).2 j (lt j CV mr) with e|e
  ·exact DU e.symm
  ·rw[hj] at e;simp only[Bool.and_eq_true,bne_iff_ne] at e;exact e.1 hi
 ·simpa using(all i op ho).1.1.2
 ·have:=(all i op ho).1.2;rw[e] at this;cases this
 ·obtain⟨CV,mr⟩:∃op,ops[j]?=some op:=by
   cases ho:ops[j]? with
   |none=>simp[fU,ho] at hj
   |some op=>exact⟨op,rfl⟩
  rcases(all i op ho).2 j (lt j CV mr) with e|e
  ·exact absurd e uI
  ·rw[hj] at e;simp only[Bool.and_eq_true,Bool.or_eq_true,Bool.not_eq_true',List.contains_eq_mem,decide_eq_false_iff_not] at e;rcases e.2 with e|e
   ·exact absurd hl e
   ·simp only[Array.any_eq_true,Bool.and_eq_true,beq_iff_eq] at e;obtain⟨q,hq,hb,he⟩:=e;exact⟨_,jl hq,hb,he⟩
variable {v:Nat->Value} {a:Act}
theorem nA{op:Oper}{t:Tmp}(h:Operand.tmp t∈op.op.operands):t∈op.looksAt ops:=by
 unfold Oper.looksAt;refine List.mem_append.2 (.inl (List.mem_filterMap.2 ⟨.tmp t,?_,rfl⟩));simpa using h
theorem DV(H:Qg ops n){i:Nat}{op:Oper}(ho:ops[i]?=some op){done:List Nat}(qZ:done.Nodup)(hi:i∉done)(wB:∀e∈op.after,Region.binds .any e=true->e.on∈done):
  ∀x∈op.op.operands,(b9 ops v a done).eval x=(b9 ops v a (List.range i)).eval x:=by
 intro x hx;let p:Nat->Bool:=fun j=>op.after.any fun e=>Region.binds .any e&&e.on==j;have drop:∀l:List Nat,i∉l->(b9 ops v a l).eval x=(b9 ops v a (l.filter p)).eval x:=by
  intro l VO;have hp:=(gz p l).symm;rw[jz H.dst hp,gX];refine nV _ _ fun k hk d hd hl=>?_;subst hl;obtain⟨J5,SK⟩:=List.mem_filter.1 hk;obtain⟨e,he,hb,rfl⟩:=H.look i op ho k d (fun e=>VO (e▸J5)) hd (nA hx);simp only[p,Bool.not_eq_true'] at SK;have:(op.after.any fun e'=>Region.binds .any e'&&e'.on==e.on)=true:=by
   rw[gl];exact⟨e,he,by simp[hb]⟩
  rw[this] at SK;cases SK
 rw[drop done hi,drop (List.range i) an];have Qh:(done.filter p).Perm ((List.range i).filter p):=by
  refine(du (qZ.filter _) (List.nodup_range.filter _)).2 fun j=>?_;simp only[List.mem_filter,List.mem_range];constructor
  ·rintro⟨h1,h2⟩;refine⟨?_,h2⟩;simp only[p,Array.any_eq_true',Bool.and_eq_true,beq_iff_eq] at h2;obtain⟨e,he,hb,rfl⟩:=h2;exact H.low i op ho e he
  ·rintro⟨h1,h2⟩;refine⟨?_,h2⟩;simp only[p,Array.any_eq_true',Bool.and_eq_true,beq_iff_eq] at h2;obtain⟨e,he,hb,rfl⟩:=h2;exact wB e he hb
 rw[jz H.dst Qh]
end
def lZ(ok:Oper->Value->Act->Prop)(ops:Array Oper)(K:Act->Prop):List Nat->List Value->Act->Prop
 | [],[],a=>K a
 |j::l,v::vs,a=>(∃op,ops[j]?=some op/\ok op v a)/\lZ ok ops K l vs (a.put (fU ops j) v)
 |_,_,_=>False
theorem cu{ok:Oper->Value->Act->Prop}{ops:Array Oper}{K:Act->Prop}{j:Nat}{l:List Nat}{v:Value}{vs:List Value}{a:Act}{op:Oper}{d:Option Tmp}(ho:ops[j]?=some op)(hd:op.dst=d)(ja:ok op v a)(h:lZ ok ops K l vs (a.put d v)):lZ ok ops K (j::l) (v::vs) a :=
 ⟨⟨op,ho,ja⟩,by subst hd;simpa[fU,ho] using h⟩
theorem nB{ok:Oper->Value->Act->Prop}{ops:Array Oper}{K:Act->Prop}{a:Act}(h:K a):lZ ok ops K [] [] a:=h
theorem lZ.all{ok:Oper->Value->Act->Prop}{ops:Array Oper}{K:Act->Prop}:∀{m k:Nat} {vs:List Value} {v:Nat->Value} {a:Act},lZ ok ops K (List.range' k m) vs (b9 ops v a (List.range k))->(∀j,j<m->v (k+j)=vs.getD j undef) ->
  (∀j op,k<=j->j<k+m->ops[j]?=some op->ok op (v j) (b9 ops v a (List.range j)))/\K (b9 ops v a (List.range (k+m))):=by
 intro m
 induction m with
 |zero =>
  intro k vs v a h hv;cases vs with
  |nil=>exact⟨fun j op h1 h2=>aa,h⟩
  |cons x l=>exact h.elim
 |succ m ih =>
  intro k vs v a h hv;cases vs with
  |nil=>rw[gR] at h;exact h.elim
  |cons x l =>
   rw[gR] at h;obtain⟨⟨op,ho,ja⟩,hr⟩:=h;have hx:v k=x:=by have:=hv 0 aa;simpa using this
   have zE:(b9 ops v a (List.range k)).put (fU ops k) x=b9 ops v a (List.range (k+1)):=by
    rw[List.range_succ,gX];simp[b9,fU,hx]
   rw[zE] at hr;have:=ih (k:=k+1) (vs:=l) hr (fun j hj=>by have:=hv (j+1) aa;rw[show k+(j+1)=k+1+j by omega] at this;simpa using this);refine⟨fun j CV h1 h2 mr=>?_,by rw[show k+(m+1)=k+1+m by omega];exact this.2⟩;by_cases e:j=k
   ·subst e;rw[ho] at mr;cases mr;rw[hx];exact ja
   ·exact this.1 j CV aa aa mr
section
variable {P:Program} {m:Bool} {R:aM->ae->ae->Prop} {Gu:aM->ae->ae->Array Event->Prop} {X:aM->aS->ae->Prop} {fn:FuncId} {Q:Exit->Act->aM->ae->Prop} {a:Act} {o:aM} {w:ae}
def okX(P:Program)(Gu:aM->ae->ae->Array Event->Prop)(X:aM->aS->ae->Prop)(fn:FuncId)(S:aM->ae->Prop)(op:Oper)(v:Value)(a:Act):Prop :=
 (∀o w1,S o w1->(execOp a.eval op).run P w1=.ok (.value v) w1/\Gu o w1 w1 (listed P fn a op w1)) \/
 (∃f fc c args rR,op.op=.call {callee:=.value (.func f),args,argTypes:=rR}/\P.funcs[f]?=some fc/\(fc.name == "runtime.NumGoroutine")=false/\fc.body=some c/\∀o w,S o w->bp P X f (args.map a.eval) o w fun v' o' w'=>v'=v/\S o' w')
theorem oy{op:Oper}{y:Nat->Option Bool}(h:op.guard=none):Region.wanted op y=true:=by simp[Region.wanted,h]
theorem oz{op:Oper}{f:FuncId}{args:Array Operand}{rR:Array TypeId}{a a':Act}(eu:op.op=.call {callee:=.value (.func f),args,argTypes:=rR})(h:∀x∈op.op.operands,a.eval x=a'.eval x):args.map a.eval=args.map a'.eval:=by
 refine dH fun x hx=>h x ?_;rw[eu];simp only[Op.operands,Call.operands];simp[hx]
theorem Nr(W:fg P m R Gu X)(vo:P.follows .mixedOrders=true){id n:Nat}{ops:Array Oper}(ja:Bd ops n=true)(vs:List Value){S:aM->ae->Prop}(hS:∀o w w1,S o w->R o w w1->S o w1)(Xr:∀o (w:ae),S o w->S o {w with drawn:=w.drawn+1})(Xs:∀w:ae,Gu o w {w with drawn:=w.drawn+1} #[])(h0:S o w)(vk:lZ (okX P Gu X fn S) ops (fun a'=>∀o w,S o w->fu X fn ops [n] Q a' o w) (List.range n) vs a):uJ X fn (.region id ops true) Q a o w:=by
 have H:=yU ja;rw[il] at vk;obtain⟨h1,h2⟩:=lZ.all (v:=fun j=>vs.getD j undef) (k:=0) (a:=a) vk (fun j _=>an);rw[bh] at h2;refine Np W vo H.size hS Xr Xs h0 H.low H.cov H.dst (fun i op hi ho done qZ hid bZ wB o w rest SL hk=>?_) h2;have hw:=oy (y:=yielded ops (b9 ops (fun j=>vs.getD j undef) a done).tmps) (H.guard i op ho);have iH:=DV (v:=fun j=>vs.getD j undef) (a:=a) H ho qZ hid wB;have hex:=execOp_congr op (H.sel i op ho) iH;rcases h1 i op (aQ _) aa ho with hp|⟨f,fc,c,args,rR,eu,hf,xV,hb,hC⟩
 ·refine kO W ho hw fun w1 kR K hK=>?_;obtain⟨e1,e2⟩:=hp o w1 (hS _ _ _ SL kR);rw[hex,e1];simp only[uponK_value];refine hK _ _ ⟨?_,by rw[bS];exact hk o w1 (hS _ _ _ SL kR)⟩;unfold listed at e2 |-;rw[hex];exact e2
 ·refine aF W ho hw eu hf xV hb (oz eu iH) rfl ((hC o w SL).mono ?_);rintro v' o' w' ⟨rfl,hS'⟩;exact hk o' w' hS'
end
section
variable {P:Program} {T:cP} {i:Nat} {V:Nat->ae->Prop} {E:bH} {fn:FuncId} {a:Act} {rc:Nat->Prop} {o:aM} {w:ae}
theorem J6(o:aM)(w:ae):G1 T i rc o w {w with drawn:=w.drawn+1} #[]:=⟨⟨ag _,fun _ _ _ _=>rfl,fun b cs ty fz _ h=>⟨cs,h,rfl⟩,fun _ _ _=>rfl,rfl,rfl⟩,an⟩
theorem tL{Q:Exit->Act->aM->ae->Prop}(vo:P.follows .mixedOrders=true){id n:Nat}{ops:Array Oper}(ja:Bd ops n=true)(vs:List Value){S:aM->ae->Prop}(hS:∀o w w1,S o w->cF T i o rc w w1->S o w1)(h0:S o w)(vk:lZ (okX P (G1 T i rc) (XW P T i V E rc) fn S) ops (fun a'=>∀o w,S o w->fu (XW P T i V E rc) fn ops [n] Q a' o w) (List.range n) vs a):uJ (XW P T i V E rc) fn (.region id ops true) Q a o w :=
 Nr (cv rc) vo ja vs hS (fun o w h=>hS _ _ _ h (cF.at w _)) (J6 o) h0 vk
theorem Ns{Q:wv}(vo:P.follows .mixedOrders=true){id n:Nat}{ops:Array Oper}(ja:Bd ops n=true)(vs:List Value){S:ae->Prop}(hS:∀w w1,S w->cF T i o rc w w1->S w1)(h0:S w)(vk:lZ (fun op v a=>∀w1,S w1->(execOp a.eval op).run P w1=.ok (.value v) w1/\∀e∈(execOp a.eval op).events P w1 #[],LF T i o rc e) ops (fun a'=>∀w,S w->uk P T i V E fn ops [n] Q a' rc o w) (List.range n) vs a):J2 P T i V E fn (.region id ops true) Q a rc o w:=by
 have H:=yU ja;rw[il] at vk;obtain⟨h1,h2⟩:=lZ.all (v:=fun j=>vs.getD j undef) (k:=0) (a:=a) vk (fun j _=>an);rw[bh] at h2;refine Qe vo H.size hS h0 H.low H.cov H.dst (fun j op hj ho done qZ hid bZ wB w1 pO=>?_) h2;have iH:=DV (v:=fun j=>vs.getD j undef) (a:=a) H ho qZ hid wB;have hex:=execOp_congr op (H.sel j op ho) iH;obtain⟨e1,e2⟩:=h1 j op (aQ _) aa ho w1 pO;refine⟨oy (H.guard j op ho),by rw[hex];exact e1,fun e he=>e2 e ?_⟩;have:=mem_listed he;rw[hex] at this;exact this
theorem jL{S:aM->ae->Prop}{op:Oper}{v:Value}(h:∀o w1,S o w1->(execOp a.eval op).run P w1=.ok (.value v) w1/\∀e∈(execOp a.eval op).events P w1 #[],LF T i o rc e):okX P (G1 T i rc) (XW P T i V E rc) fn S op v a :=
 .inl fun o w1 hw=>⟨(h o w1 hw).1,.refl _ _,fun e he=>by rw[bS];exact(h o w1 hw).2 e (mem_listed he)⟩
end
section
variable {ops:Array Oper} {a:Act}
theorem q9{v v':Nat->Value}:∀(l:List Nat) {a:Act},(∀j∈l,v j=v' j)->b9 ops v a l=b9 ops v' a l:=by
 intro l
 induction l with
 |nil=>intro a _;rfl
 |cons i l ih =>
  intro a h;simp only[b9];rw[h i an];exact ih fun j hj=>h j (by simp[hj])
end
section
variable {P:Program} {m:Bool} {R:aM->ae->ae->Prop} {Gu:aM->ae->ae->Array Event->Prop} {X:aM->aS->ae->Prop} {fn:FuncId} {Q:Exit->Act->aM->ae->Prop} {a:Act} {o:aM} {w:ae}
def Fits(v:Nat->Value)(σ:Nat->Option Value):Prop:=∀j y,σ j=some y->v j=y
end
end Go.Ren
