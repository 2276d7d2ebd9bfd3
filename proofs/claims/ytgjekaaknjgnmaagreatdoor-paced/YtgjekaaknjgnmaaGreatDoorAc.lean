import Derived.Test.YtgjekaaknjgnmaaGreatDoorAb
import Derived.Conc.CompanyDraw
import Derived.Conc.CompanyMem
import Derived.Conc.CompanyWords
import Derived.Conc.DeferLaws
import Derived.Conc.EntryLaws
import Derived.Conc.Listed
import Derived.Conc.MarkLaws
import Derived.Conc.WgGenN3
import Derived.Deep.OwnRows
set_option linter.all false
set_option maxHeartbeats 40000000
set_option maxRecDepth 200000
namespace Go.Ren
open Go.Conc Go.ConcN
section
open Go.ConcR (KK wgBlock WgAt stA smA rd wr Payload DC0 Bk g_of_ofEvents loc_of_ofEvent ofEvent_loc_mark)
variable [Payload]
theorem G0(t:Trace):∃M,∀op∈t,op.act.low M:=by
 have one:∀x:MemAct,∃M,x.low M:=by
  intro x;cases x with
  |access e =>
   obtain⟨loc,oT,sy⟩:=e;cases loc with
   |cell a=>exact⟨a.block+1,bz _⟩
   |obj r=>exact⟨r+1,bz _⟩
   |_=>exact⟨0,trivial⟩
  |mark m =>
   cases m
   case acquire a=>exact⟨a.block+1,bz _⟩
   case release a=>exact⟨a.block+1,bz _⟩
   case releaseMerge a=>exact⟨a.block+1,bz _⟩
   case read a=>exact⟨a.block+1,bz _⟩
   case write a=>exact⟨a.block+1,bz _⟩
   all_goals exact⟨0,trivial⟩
  |go _=>exact⟨0,trivial⟩
  |start=>exact⟨0,trivial⟩
  |send c _=>exact⟨c+1,bz _⟩
  |sendDone c _=>exact⟨c+1,bz _⟩
  |recv c _ _=>exact⟨c+1,bz _⟩
  |recvDone c _=>exact⟨c+1,bz _⟩
  |close c=>exact⟨c+1,bz _⟩
  |recvClosed c=>exact⟨c+1,bz _⟩
 have key:∀l:List MemOp,∃M,∀op∈l,op.act.low M:=by
  intro l
  induction l with
  |nil=>exact⟨0,an⟩
  |cons z l ih =>
   obtain⟨M,hM⟩:=ih;obtain⟨M',Zg⟩:=one z.act;refine⟨M+M',fun op eu=>?_⟩;simp only[gQ] at eu;rcases eu with rfl|eu
   ·exact MemAct.low_mono aa Zg
   ·exact MemAct.low_mono aa (hM op eu)
 obtain⟨M,hM⟩:=key t.toList;exact⟨M,fun op eu=>hM op (by simpa using eu)⟩
def PR(w:ae):jc->jc
 | .inl (S,x)=>.inl (S,{x with w:=w})
 | .inr m=>.inr m
section
variable {P:Program} {T:cP} {V:Nat->ae->Prop} {ek:Nat->(Nat->Prop)->ae->Prop} {cx Fin:dV} {t0:Trace} {w0:ae}
 {gs:Array aS} {w w':ae} {t:Trace} {S S':jb} {D:Nat->WD} {x:Nat->kV} {tag:CTag} {a:aS} {y:jc} {st sm:Int} {sl:Option (Nat×Nat)}
theorem I6.rely(hV:jJ T V ek){i:Nat}{o rc:Nat->Prop}{cl:Nat->Option Nat}{d:WD}{ld:kV}{g:aS}{w w':ae}(h:I6 P T V ek i o rc cl d ld g w)(hr:cF T i o rc w w'):
  iy T (lM w' ld) ld/\I6 P T V ek i o rc cl d (lM w' ld) g w':=by
 rcases h with⟨h1,h2,h3,g0,tr,h4,h5,h6⟩|⟨h1,h2,h3,C,v,h4,h5,h6⟩
 ·refine⟨by rw[h4];exact⟨rfl,rfl,rfl,rfl,rfl,hr⟩,.inl ⟨h1,h2,h3,g0,tr,by rw[h4];rfl,h5.rely hr,?_⟩⟩;exact h6.imp id fun⟨q1,k,z,f,q2,q3,q4⟩=>⟨q1,k,z,f,q2,fun w1 pO=>q3 w1 (hr.trans pO),q4⟩
 ·have nt:∀a,T.js i (.cell a)->w'.cell? a=w.cell? a:=fun a ha=>hr.mine a (.inl ha);have e2:lM w' ld=ld:=by rw[h2];rfl
  rw[e2];exact⟨iy.refl ld,.inr ⟨h1,h2,hV.v i w w' nt h3,C,v,h4,h5.rely (hr.rw h4),hV.val i _ w w' nt (fun b hb=>hr.own b hb.1) h6⟩⟩
theorem fJ.at(hV:jJ T V ek)(h:fJ P T V ek cx Fin t0 w0 gs w t S D x tag a y st sm)(d:Nat):
  fJ P T V ek cx Fin t0 w0 gs (w.at d) t S D (fun k=>lM (w.at d) (x k)) tag a (PR (w.at d) y) st sm/\∀k,iy T (lM (w.at d) (x k)) (x k):=by
 have GX:ji P T V ek cx Fin tag (S.own 0) a (w.at d) (PR (w.at d) y):=by
  by_cases hb:tag=.blk
  ·subst hb;obtain⟨a0,h1,h2,h3⟩:=h.JU;exact⟨a0,h1,fun w1 pO=>h2 w1 ((dc.at w d).trans pO),by rw[h3];rfl⟩
  ·have hs:=h.JU;rw[ji.eq hb] at hs |-;exact⟨hs.1.rely (dc.at w d),by rw[hs.2];rfl⟩
 refine⟨⟨h.size,h.DI,GX,h.sN,fun k k0 km=>?_,fun k hk=>?_,fun k hk=>by rw[h.rest k hk];rfl,by rw[h.zero];rfl,h.deafW,h.above,h.ti,h.rQ,h.lt,h.h0,h.wg,h.mode,h.chan,h.SH,h.Xg,h.SF,h.rel,h.norel,h.SD,h.ext,h.same.trans (dc.at w d),⟨h.Cu.Cu,h.Cu.idle⟩,h.idle0⟩,fun k=>?_⟩
 ·obtain⟨g,q,h1,h2,h3⟩:=h.old k k0 km;exact⟨g,q,h1,by rw[h2];rfl,h3⟩
 ·obtain⟨g,h1,h2⟩:=h.wk k hk;exact⟨g,h1,(h2.rely hV (cF.at w d)).2⟩
 ·rcases aZ k with rfl|nS
  ·rw[h.zero];exact rfl
  ·rcases bP k T.m0 with lE | Nc
   ·obtain⟨gk,q,_,h2,_⟩:=h.old k nS lE;rw[h2];exact rfl
   ·rcases bP k (T.m0+S.j) with Ge|Cv
    ·obtain⟨g,_,h2⟩:=h.wk (k-T.m0) aa;have:=(h2.rely hV (cF.at w d)).1;rw[show T.m0+(k-T.m0)=k by omega] at this;exact this
    ·rw[h.rest k Cv];exact rfl
theorem lV.back{y' y'':jc}(h:fJ P T V ek cx Fin t0 w0 gs w t S D x tag a y st sm)(d:Nat)(k:lV P T y'' (PR (w.at d) y)):lV P T y'' y:=by
 by_cases hb:tag=.blk
 ·subst hb;obtain⟨a0,_,_,h3⟩:=h.JU;rw[h3] at k |-;exact k
 ·have hs:=h.JU;rw[ji.eq hb] at hs;rw[hs.2] at k |-;rcases y'' with⟨S'',z⟩|m
  ·obtain⟨e,k1,w1,es,k2,k3,k4⟩:=k;exact⟨e,fun hh=>k1 fun w1 pO=>hh w1 ((dc.at w d).trans pO),w1,es,(dc.at w d).trans k2,k3,k4⟩
  ·exact trivial
theorem fJ.ends(hT:T.OK)(h:fJ P T V ek cx Fin t0 w0 gs w t S D x tag a y st sm):Ends (mA P T V) (lV P T) (T.m0+T.n) (ot T S D tag,x,y):=by
 refine⟨fun k hk=>?_,h.JU.acc⟩;show Acc (mA P T V) (x k);rcases aZ k with rfl|nS
 ·rw[h.zero];exact zU 0
 ·rcases bP k T.m0 with lE | Nc
  ·obtain⟨gk,q,_,h2,_⟩:=h.old k nS lE;rw[h2];exact zU q
  ·rcases bP k (T.m0+S.j) with Ge|Cv
   ·obtain⟨g,_,h2⟩:=h.wk (k-T.m0) aa;have:=h2.acc hT aa;rw[show T.m0+(k-T.m0)=k by omega] at this;exact this
   ·rw[h.rest k Cv];exact zU 0
theorem fJ.awake(h:fJ P T V ek cx Fin t0 w0 gs w t S D x tag a y st sm):∀g∈gs,awake g:=by
 intro g hg tm;obtain⟨k,hk⟩:=Array.mem_iff_getElem?.1 hg;have bZ:k<T.m0+S.j:=by have:=(Array.getElem?_eq_some_iff.1 hk).1;rw[h.size] at this;exact this
 rcases aZ k with rfl|nS
 ·rw[h.DI] at hk;cases hk;by_cases hb:tag=.blk
  ·subst hb;obtain⟨a0,h1,_⟩:=h.JU;rw[h1];simp
  ·have hs:=h.JU;rw[ji.eq hb] at hs;rw[hs.1.running fun o g w hh=>lX hh];simp
 ·rcases bP k T.m0 with lE | Nc
  ·obtain⟨gk,q,h1,_,h3⟩:=h.old k nS lE;rw[hk] at h1;cases h1;rcases h3.status with e|e<;>rw[e]<;>simp
  ·obtain⟨gk,h1,h2⟩:=h.wk (k-T.m0) aa;rw[show T.m0+(k-T.m0)=k by omega,hk] at h1;cases h1;rcases h2.status with e|e|⟨e,_⟩<;>rw[e]<;>simp
theorem fJ.Tx(hT:T.OK)(h:fJ P T V ek cx Fin t0 w0 gs w t S D x tag a y st sm):∃(i:Nat) (g:aS),gs[i]?=some g/\g.status=.running:=by
 by_cases hb:tag=.blk
 ·subst hb;have sf:=h.sN.le;have shut:∀i,i<S.j->(S.cl i).isSome=true->(D i).stage≠1->∃(i:Nat) (g:aS),gs[i]?=some g/\g.status=.running:=by
   intro i hi hc hs;obtain⟨g,h1,h2⟩:=h.wk i hi;rcases h2 with⟨h3,_⟩|⟨_,_,_,C,v,_,h5,_⟩
   ·rw[h3] at hc;cases hc
   ·exact⟨_,g,h1,h5.running_of hs⟩
  have aav:∀m i,i<S.j->i<=m->S.cl i=none->∃(i:Nat) (g:aS),gs[i]?=some g/\g.status=.running:=by
   intro m
   induction m with
   |zero =>
    intro i hi hm hc;obtain⟨g,h1,h2⟩:=h.wk i hi;rcases h2.status with e|e|⟨_,_,k,hd,_⟩
    ·exact⟨_,g,h1,e⟩
    ·exfalso;rcases h2 with⟨_,_,_,g0,tr,_,h5,h6⟩|⟨h3,_⟩
     ·rcases h6 with⟨h6,_⟩|⟨_,k,z,f,_,_,⟨h9,_⟩|⟨h9,_⟩⟩
      ·rw[h6,h5.look.1] at e;cases e
      ·rw[h9] at e;cases e
      ·rw[h9] at e;cases e
     ·rw[hc] at h3;cases h3
    ·have:=hT.dep i k aa hd;omega
   |succ m ih =>
    intro i hi hm hc;obtain⟨g,h1,h2⟩:=h.wk i hi;rcases h2.status with e|e|⟨_,_,k,hd,hk⟩
    ·exact⟨_,g,h1,e⟩
    ·exfalso;rcases h2 with⟨_,_,_,g0,tr,_,h5,h6⟩|⟨h3,_⟩
     ·rcases h6 with⟨h6,_⟩|⟨_,k,z,f,_,_,⟨h9,_⟩|⟨h9,_⟩⟩
      ·rw[h6,h5.look.1] at e;cases e
      ·rw[h9] at e;cases e
      ·rw[h9] at e;cases e
     ·rw[hc] at h3;cases h3
    ·have:=hT.dep i k aa hd;exact ih k aa aa hk
  have any:∀i,i<S.j->(D i).stage≠1->∃(i:Nat) (g:aS),gs[i]?=some g/\g.status=.running:=by
   intro i hi hs;cases hc:S.cl i with
   |none=>exact aav i i hi (ag _) hc
   |some p=>exact shut i hi (by rw[hc];rfl) hs
  have jw:=h.mode;cases jw with
  |opn h1 _ _=>exact h1.elim
  |reg _ _ h3 =>
   obtain⟨i,hi,h5⟩:=exists_counted h3;exact any i hi aa
  |last L _ h2 h3 _=>exact any L h2 aa
  |fin h1 _=>exact h1.elim
 ·have hs:=h.JU;rw[ji.eq hb] at hs;exact⟨0,a,h.DI,hs.1.running fun o g w hh=>lX hh⟩
def Joined(P:Program)(T:cP)(V:Nat->ae->Prop)(ek:Nat->(Nat->Prop)->ae->Prop)(Fin:dV)(Sb:Nat->Prop)(w0:ae)(gs:Array aS)(w:ae)(t:Trace):Prop :=
 ∃o g' q B',gs.size=T.m0+T.n/\gs[0]?=some g'/\Fin o g' w/\Leavers P t gs q/\Past (sK fun b=>Sb b\/b=T.Wg) B' t/\w.heap.size<=B'/\(∀i,i<T.n->V i w/\∃(oi:Nat->Prop) (C:Nat),ek i (fun b=>oi b/\b≠C) w/\∀b,oi b->T.H0<=b/\b<w.heap.size) /\
  dc T (fun _=>False) w0 w/\(∀b,o b->T.H0<=b/\b<w.heap.size)/\(∀b cs ty fz,T.Sh b->w0.heap[b]?=some (.cells cs ty fz)->∃rW,w.heap[b]?=some (.cells rW ty fz)/\rW.size=cs.size)/\(∀k,k<T.n->∃c s r tm,w.heap[T.ch k]?=some (.chan 0 #[] c s r tm))
theorem fJ.final(hT:T.OK){Sb:Nat->Prop}(se:T.Shun=sK Sb){B:Nat}(h0:t0.size=T.T0)(hP:Past T.Shun B t0)(h:fJ P T V ek cx Fin t0 w0 gs w t S D x .acq a y st sm){g':aS}(hgo:stepG P true a w=.go g' w #[Go.ConcR.mk (.acquire (stA T.Wg))])(hF:Fin (S.own 0) g' w):
  ∃gd ops,runT P (crowd gs w sl) 0=(.next (crowd gd w sl),ops)/\Joined P T V ek Fin Sb w0 gd w (t++ops):=by
 have LJ:=hT.m0;have qJ:=h.sN;simp only[lK] at qJ;obtain⟨hj,Cr⟩:=qJ;have cm:=runT_crowd_go (P:=P) (sl:=sl) (i:=0) h.DI (show stepG P (0==0) a w=_ from hgo);have hu:∀op∈MemOp.ofEvents 0 a.frame.fn a.frame.place #[Go.ConcR.mk (.acquire (stA T.Wg))],op.g=0:=g_of_ofEvents;have PH:MemOp.ofEvents 0 a.frame.fn a.frame.place #[Go.ConcR.mk (.acquire (stA T.Wg))]=#[{g:=0,fn:=a.frame.fn,pos:=a.frame.place,act:=.mark (.acquire (stA T.Wg))}]:=by rw[ofEvents_eq];simp[Go.ConcR.ofEvent_mk]
 have I9:∀k,k≠0->Deaf (t++MemOp.ofEvents 0 a.frame.fn a.frame.place #[Go.ConcR.mk (.acquire (stA T.Wg))]) k=Deaf t k:=fun k hk=>Deaf_other t (bc hk) _ hu;have hq:∀i,i<S.j->(D i).stage=1:=(h.mode.fin_inv trivial).1;have sP:(t++MemOp.ofEvents 0 a.frame.fn a.frame.place #[Go.ConcR.mk (.acquire (stA T.Wg))])[t.size]?=some {g:=0,fn:=a.frame.fn,pos:=a.frame.place,act:=.mark (.acquire (stA T.Wg))}:=by rw[PH,fF (ag _)];simp
 obtain⟨M,hM⟩:=G0 (t++MemOp.ofEvents 0 a.frame.fn a.frame.place #[Go.ConcR.mk (.acquire (stA T.Wg))]);have M9:∀i,i<S.j->∃g C v,gs[T.m0+i]?=some g/\V i w/\S.own (T.m0+i) C/\QuitsD P (D i).fuel (D i).deaf g/\ek i (fun b=>S.own (T.m0+i) b/\b≠C) w/\v=C:=by
  intro i hi;obtain⟨g,h1,h2⟩:=h.wk i hi;rcases h2 with⟨_,h3,_⟩|⟨_,_,h3,C,v,h4,h5,h6⟩
  ·have:=hq i hi;omega
  ·exact⟨g,C,C,h1,h3,h4,h5.quits (hq i hi),h6,rfl⟩
 have M7:TI T S (t++MemOp.ofEvents 0 a.frame.fn a.frame.place #[Go.ConcR.mk (.acquire (stA T.Wg))]):=h.ti.mute hu fun op eu=>by
  obtain⟨e,he,rfl⟩:=Go.Conc.mem_ofEvents eu;simp at he;subst he;rfl
 have aeG:∃U,t++MemOp.ofEvents 0 a.frame.fn a.frame.place #[Go.ConcR.mk (.acquire (stA T.Wg))]=t0++U:=by
  obtain⟨U,hU⟩:=h.ext;exact⟨U++MemOp.ofEvents 0 a.frame.fn a.frame.place #[Go.ConcR.mk (.acquire (stA T.Wg))],by rw[hU,cY]⟩
 have aaw:=TI.Pw (B':=M+w.heap.size) se M7 aeG h0 hP (q:=t.size) (by rw[act?_of sP]) (by simp[Trace.g?,sP]) ⟨0,by simp[Trace.g?,sP],by rw[deaf_old (ag _)];exact Cr⟩
  (tH h.norel fun e he=>by simp at he;subst he;simp[Go.ConcR.mk])
  (fun i hi=>by
   obtain⟨r,r1,r2,r3⟩:=h.rel i hi (by rw[hq i hi];omega);have hr:r<t.size:=lt_of_act? r2.act;obtain⟨r',r1',r2',r3'⟩:=qo (t:=t) (u:=MemOp.ofEvents 0 a.frame.fn a.frame.place #[Go.ConcR.mk (.acquire (stA T.Wg))]) ⟨r,r1,r2,r3⟩ hu aa;refine⟨r',r1',?_,r2',r3'⟩;have hg:=r2'.g;rcases bP r' t.size with bZ|Nc
   ·exact bZ
   ·exfalso;obtain⟨z,hz,VD⟩:=Option.map_eq_some_iff.1 hg;rcases getElem?_append_cases hz with⟨bZ,_⟩|⟨_,FR⟩
    ·omega
    ·have:=hu z FR;omega)
  (tI h.SD fun z hz=>.inl (hu z hz)) (by rw[Deaf_own,Cr];simp[deafBehind,Go.ConcR.mk]) (fun op eu=>MemAct.low_mono aa (hM op eu))
 have zA:0<gs.size:=by rw[h.size];omega
 refine⟨_,_,cm,S.own 0,g',fun k=>if k<T.m0 then(match x k with|.inr q=>q|.inl _=>0) else(D (k-T.m0)).fuel,M+w.heap.size,by simp[h.size,hj],by simp[zA],hF,⟨fun k g k0 hk=>?_,fun k hk=>?_⟩,aaw,aa,fun i hi=>?_,h.same,fun b hb=>⟨h.rQ.new _ b hb,h.lt _ b hb⟩,h.Cu.Cu,fun k hk=>⟨_,h.chan k hk⟩⟩
 ·have cV:0≠k:=aa;rw[ov _ _ _ _ cV] at hk;obtain⟨g1,I3,rfl⟩:=Option.map_eq_some_iff.1 hk;rw[I9 k (bc cV)];have bZ:k<T.m0+S.j:=by have:=(Array.getElem?_eq_some_iff.1 I3).1;rw[h.size] at this;exact this
  by_cases hkm:k<T.m0
  ·obtain⟨g2,q,h1,h2,h3⟩:=h.old k k0 hkm;rw[I3] at h1;cases h1;rw[woken_quitsD h3,if_pos hkm,h2];exact h3
  ·obtain⟨g2,C,v,h1,_,_,h3,_⟩:=M9 (k-T.m0) aa;have e:T.m0+(k-T.m0)=k:=aa;rw[e,I3] at h1;cases h1;rw[woken_quitsD h3,if_neg hkm];have:=h.deafW (k-T.m0) aa;rw[e] at this;rw[this];exact h3
 ·have kY:gs.size<=k:=by simpa using hk
  rw[I9 k aa];exact h.above k kY
 ·obtain⟨g,C,v,_,h2,h3,_,h4,_⟩:=M9 i aa;exact⟨h2,S.own (T.m0+i),C,h4,fun b hb=>⟨h.rQ.new _ b hb,h.lt _ b hb⟩⟩
theorem Nn(hT:T.OK)(hV:jJ T V ek)(hn:T.n<2147483648)(VK:∀o g w,cx o g w->cM P T (OX P T cx Fin) o g w){Sb:Nat->Prop}(se:T.Shun=sK Sb){B:Nat}(h0:t0.size=T.T0)(hP:Past T.Shun B t0):
  ∀μ,Acc (Y9 (mA P T V) (iy T) (lV P T) (T.m0+T.n)) μ->∀(gs:Array aS) (w:ae) (t:Trace) (sl:Option (Nat×Nat)) (S:jb) (D:Nat->WD) (x:Nat->kV) (tag:CTag) (a:aS) (y:jc) (st sm:Int),
   μ=(ot T S D tag,x,y)->fJ P T V ek cx Fin t0 w0 gs w t S D x tag a y st sm ->
   ∃N gd w' qm t',runNT P N (crowd gs w sl) t=(.next (crowd gd w' qm),t')/\Joined P T V ek Fin Sb w0 gd w' t':=by
 intro μ hμ
 induction hμ with
 |intro μ _ ih =>
 intro gs w t sl S D x tag a y st sm e h;subst e;have LJ:=hT.m0;obtain⟨i,g,d,qm,hi,cm,ki⟩:=crowd_pick (P:=P) (w:=w) (sl:=sl) h.awake (h.Tx hT);obtain⟨nT,bZ⟩:=h.at hV d;have sf:=h.sN.le;have more:∀{gd:Array aS} {w':ae} {S':jb} {D':Nat->WD} {x':Nat->kV} {tag':CTag} {a':aS} {y':jc} {st' sm':Int} {ops:Array MemOp},runT P (crowd gs (w.at d) qm) i=(.next (crowd gd w' qm),ops)->fJ P T V ek cx Fin t0 w0 gd w' (t++ops) S' D' x' tag' a' y' st' sm' ->
   Y9 (mA P T V) (iy T) (lV P T) (T.m0+T.n) (ot T S' D' tag',x',y') (ot T S D tag,x,y)->∃N gd w' qm t',runNT P N (crowd gs w sl) t=(.next (crowd gd w' qm),t')/\Joined P T V ek Fin Sb w0 gd w' t':=by
  intro gd w' S' D' x' tag' a' y' st' sm' ops r1 r2 r3;obtain⟨N,Zh,w2,To,t2,q1,q2⟩:=ih _ r3 gd w' (t++ops) qm S' D' x' tag' a' y' st' sm' rfl r2;exact⟨N+1,Zh,w2,To,t2,by simp only[runNT,ki,r1];exact q1,q2⟩
 have worker:∀p,p<T.m0+T.n->∀{S':jb} {D':Nat->WD} {x':Nat->kV} {tag':CTag} {y':jc},Ends (mA P T V) (lV P T) (T.m0+T.n) (ot T S' D' tag',x',y')->A5 P T V p S S' D D' tag tag' (fun k=>lM (w.at d) (x k)) x'->Y9 (mA P T V) (iy T) (lV P T) (T.m0+T.n) (ot T S' D' tag',x',y') (ot T S D tag,x,y):=by
  intro p hp S' D' x' tag' y' hE hl;refine⟨hE,?_⟩;rcases hl with hl|⟨e1,e2,e3⟩
  ·exact .inl hl
  ·exact .inr (.inl ⟨e1,p,hp,mA.back _ _ _ (bZ p) e2,fun k _ hk=>iy.trans _ _ _ (e3 k hk) (bZ k)⟩)
 rcases aZ i with rfl|nS
 ·have e:g=a:=by rw[h.DI] at hi;exact(aK hi).symm
  subst e;rcases nT.PQ (sl:=qm) hT hV hn VK cm with⟨rfl,g',hgo,hF⟩|⟨gd,w',S',D',x',tag',a',y',st',sm',ops,r1,r2,r3⟩
  ·obtain⟨gd,ops,r1,r2⟩:=nT.final (sl:=qm) hT se h0 hP hgo hF;exact⟨1,gd,_,qm,_,by simp only[runNT,ki,r1],r2⟩
  ·refine more r1 r2 ⟨r2.ends hT,?_⟩;rcases r3 with r3|⟨e1,e2,e3⟩
   ·exact .inl r3
   ·exact .inr (.inr ⟨e1,fun k _=>iy.trans _ _ _ (e2 k) (bZ k),lV.back (y':=y') h d e3⟩)
 ·rcases bP i T.m0 with lE | Nc
  ·obtain⟨gd,tag',a',y',x',ops,r1,r2,r3,r4,r5⟩:=nT.Xi (sl:=qm) hT hV sf nS lE hi cm;refine more r1 r3 (worker i aa (r3.ends hT) (.inr ⟨by rw[DJ r2],r4,r5⟩))
  ·have akK:i<T.m0+S.j:=by have:=(Array.getElem?_eq_some_iff.1 hi).1;rw[h.size] at this;exact this
   obtain⟨k,rfl⟩:∃k,i=T.m0+k:=⟨i-T.m0,aa⟩;have hk:k<S.j:=aa;cases hc:S.cl k with
   |none =>
    obtain⟨gd,w',S',D',x',tag',a',y',st',sm',ops,r1,r2,r3,r4⟩:=nT.PL (sl:=qm) hT hV sf hk hi cm hc;exact more r1 r3 (worker _ aa (r3.ends hT) r4)
   |some p =>
    obtain⟨gd,w',S',D',x',tag',a',y',st',sm',ops,r1,r2,r3,r4⟩:=nT.PN (sl:=qm) hT hV hn sf hk hi cm (by rw[hc];rfl) (h.sN.pend (Vc_le _ _));exact more r1 r3 (worker _ aa (r3.ends hT) r4)
end
end
section
open Go.ConcR (KK wgBlock WgAt stA smA rd wr Payload DC0)
variable [Payload]
section
variable {P:Program} {T:cP} {V:Nat->ae->Prop} {ek:Nat->(Nat->Prop)->ae->Prop} {cx Fin:dV}
theorem No(hT:T.OK)(hV:jJ T V ek)(hn:T.n<2147483648)(VK:∀o g w,cx o g w->cM P T (OX P T cx Fin) o g w){Sb:Nat->Prop}(se:T.Shun=sK Sb){B:Nat}{gs:Array aS}{a:aS}{w:ae}{sl:Option (Nat×Nat)}{t:Trace}{q:Nat->Nat}{o0:Nat->Prop}(ft:gs.size=T.m0)(h0:gs[0]?=some a)(hL:Leavers P t gs q)(hP:Past T.Shun B t)(ht:t.size=T.T0)(dW:iC P T V ek cx T.n o0 a w)(SG:∀b,o0 b->T.H0<=b/\b<w.heap.size)(hH:T.H0<=w.heap.size)(nU:WgAt T.ty T.Wg w 0 0)(uh:∀k,k<T.n->∃s r tm,w.heap[T.ch k]?=some (.chan 0 #[] false s r tm))(PS:∀k,k<T.n->T.Idle k w):
  ∃N gd w' qm t',runNT P N (crowd gs w sl) t=(.next (crowd gd w' qm),t')/\Joined P T V ek Fin Sb w gd w' t':=by
 have LJ:=hT.m0;have key:∀(tag:CTag) (y:jc),ji P T V ek cx Fin tag o0 a w y->lK T.n tag 0 0->Go.ConcN.Mode 0 (fun _=>(⟨7,0,0⟩:WD)) tag 0 0 ->
   fJ P T V ek cx Fin t w gs w t {j:=0,own:=fun z b=>z=0/\o0 b,cl:=fun _=>none,rc:=fun _ _=>False} (fun _=>⟨7,0,0⟩) (fun k=>if 0<k/\k<T.m0 then .inr (q k) else .inr 0) tag a y 0 0:=by
  intro tag y hs htg hm;have e:(fun b=>0=0/\o0 b)=o0:=by funext b;simp
  refine⟨by simp[ft],h0,by simp only[true_and];exact hs,by rw[hP.hears];exact htg,fun k k0 km=>?_,fun i hi=>absurd hi (dE _),fun k hk=>?_,an,fun i hi=>absurd hi (dE _),fun k hk=>hL.above k hk,TI.begin ht hP,⟨fun x b hb=>(SG b hb.2).1,fun x z b h1 h2=>h1.1.trans h2.1.symm,fun x b hb=>.inl hb.1⟩,fun z b hb=>(SG b hb.2).2,hH,nU,hm,uh,fun i k hr=>hr.elim,fun _ _=>rfl,fun i k hr=>hr.elim,fun i hi=>absurd hi (dE _),fun k hk e=>?_,fun i z hi hz=>?_,⟨#[],an⟩,dc.refl w,pG.refl w,PS⟩
  ·have bZ:k<gs.size:=aa;refine⟨gs[k],q k,aG bZ,by simp[k0,km],hL.old k _ k0 (aG bZ)⟩
  ·have:¬(0<k/\k<T.m0):=by simp only at hk;omega
   simp[this]
  ·have:=lt_of_act? e;omega
  ·have:=lt_size_of_getElem? hz;omega
 have run:∀(tag:CTag) (y:jc),ji P T V ek cx Fin tag o0 a w y->lK T.n tag 0 0->Go.ConcN.Mode 0 (fun _=>(⟨7,0,0⟩:WD)) tag 0 0->∃N gd w' qm t',runNT P N (crowd gs w sl) t=(.next (crowd gd w' qm),t')/\Joined P T V ek Fin Sb w gd w' t':=by
  intro tag y hs htg hm;have hI:=key tag y hs htg hm;exact Nn hT hV hn VK se ht hP _ (M4 iy.refl iy.trans mA.back _ (hI.ends hT)) gs w t sl _ _ _ tag a y 0 0 rfl hI
 have jw:∀tag,isOpen tag->pend tag=0->(∀vs,tag≠.w2 vs)->Go.ConcN.Mode 0 (fun _=>(⟨7,0,0⟩:WD)) tag 0 0:=fun tag h1 h2 h3=>by
  have:=Mode.opn (j:=0) (D:=fun _=>(⟨7,0,0⟩:WD)) h1 (fun i hi=>aa) (fun vs e=>absurd e (h3 vs));simpa[Vc,sumTo,h2] using this
 cases PT:T.n with
 |zero =>
  rw[PT] at dW;exact run .kd _ (ji.mk (tag:=.kd) an dW rfl) ⟨PT.symm,rfl⟩ (jw .kd trivial rfl an)
 |succ r =>
  rw[PT] at dW;exact run (.sp r 5) _ (ji.mk (tag:=.sp r 5) an dW (by simp[jI])) ⟨aa,aa,.inl ⟨rfl,rfl⟩⟩ (jw (.sp r 5) trivial rfl an)
theorem xS(o:Nat->Prop)(w:ae):grow o w w=o:=by
 funext b;simp only[grow,eq_iff_iff];exact⟨fun h=>h.elim id fun h=>absurd h.2 aa,.inl⟩
theorem M3.refl(o:Nat->Prop)(w:ae):M3 T o w w:=⟨ag _,fun _ _ _=>rfl,rfl,rfl⟩
theorem cM.iT{Stop:dV}{o:Nat->Prop}:∀{n:Nat} {g:aS} {w:ae},Goes P true (dc T o) DC0 (fun g w=>cM P T Stop o g w) n g w->cM P T Stop o g w:=by
 intro n
 induction n with
 |zero=>intro g w h;exact h w (dc.refl w)
 |succ n ih =>
  intro g w h;rcases h with h|⟨hs,h⟩
  ·exact h w (dc.refl w)
  ·refine cM.step hs fun w1 pO=>?_;have:=h w1 pO;cases hg:stepG P true g w1 with
   |go g' w' es =>
    rw[hg,goes_go] at this;obtain⟨⟨rfl,rfl⟩,hG⟩:=this;exact⟨g',w',#[],rfl,M3.refl o w',an,by rw[xS];exact ih hG⟩
   |_=>rw[hg] at this;exact this.elim
theorem cM.one{Stop:dV}{o:Nat->Prop}{g:aS}{w:ae}(hs:g.status=.running)(h:∀w1,dc T o w w1->∃g' es,stepG P true g w1=.go g' w1 es/\(∀e∈es,EvS T o e)/\cM P T Stop o g' w1):cM P T Stop o g w:=by
 refine cM.step hs fun w1 pO=>?_;obtain⟨g',es,e1,e2,e3⟩:=h w1 pO;exact⟨g',w1,es,e1,M3.refl o w1,by rw[xS];exact e2,by rw[xS];exact e3⟩
end
end
section
open Go.ConcR (KK wgBlock WgAt stA smA rd wr mk)
section
variable {P:Program} {T:cP} {i:Nat} {V:Nat->ae->Prop} {E:bH} {L:Nat->Bool} {Gm:Nat}
theorem DK{F:iZ}{o rc:Nat->Prop}(hF:∀r,F.K r->o (F.φ r)){e:Event}(h:vF F e):LF T i o rc e:=by
 obtain⟨loc,wt,sy⟩:=e;cases loc with
 |cell a =>
  obtain⟨r,h1,h2⟩:=h;refine⟨fun x hx _=>.inl ⟨a.block,by rw[<- h2];exact hF r h1,?_⟩,an,an,an⟩;simp only[MemAct.ofEvent,MemAct.touch?,en] at hx;subst hx;rfl
 |obj b =>
  obtain⟨r,h1,h2⟩:=h;refine⟨fun x hx _=>.inl ⟨b,by rw[<- h2];exact hF r h1,?_⟩,an,an,an⟩;cases wt<;>cases sy<;>simp only[MemAct.ofEvent,MemAct.touch?,en] at hx;all_goals first|cases hx;done|skip
  all_goals (subst hx;rfl)
 |output =>
  refine⟨fun x hx hm=>?_,an,an,an⟩;simp only[MemAct.ofEvent,MemAct.touch?,en] at hx;subst hx;cases hm
 |goroutines =>
  refine⟨fun x hx hm=>?_,an,an,an⟩;simp only[MemAct.ofEvent,MemAct.touch?,en] at hx;subst hx;cases hm
 |mark m =>
  have hd:Jp m=true:=h;cases m<;>first|exact Bool.noConfusion hd|skip
  all_goals
   refine⟨fun x hx hm=>?_,an,an,an⟩;simp only[MemAct.ofEvent,MemAct.touch?] at hx;cases hx
theorem eJ.Zi(hT:T.OK){F F':iZ}{wl aI w w':ae}{o:Nat->Prop}(h:eJ F F' wl w aI w')(W:WR F wl w)(W':WR F' aI w')(hF:∀r,F.K r->o (F.φ r))(ho:∀b,o b->T.H0<=b)(hH:T.H0<=w.heap.size):JP T i o w w':=by
 have key:∀b,b<w.heap.size->¬o b->w'.heap[b]?=w.heap[b]?:=by
  intro b hb hn;refine h.rest b fun r hr e=>?_;rcases h.vb r hr with h1|⟨_,h1⟩
  ·rw[h.φ r h1] at e;exact hn (e▸hF r h1)
  ·omega
 have old:∀b,T.Sh b->w'.heap[b]?=w.heap[b]?:=fun b hb=>key b (by have:=(hT.sh b hb).1;omega) (fun hx=>by have:=ho b hx;have:=(hT.sh b hb).1;omega);refine⟨h.size,fun b h1 h2 _=>key b h1 h2,fun b cs ty fz hb hx=>⟨cs,by rw[old b hb];exact hx,rfl⟩,fun a ha _=>cell_of (old _ ha),?_,?_⟩
 ·rw[W'.os,h.Pb,<- W.os]
 ·rw[W'.output,h.Ao,<- W.output]
theorem eJ.owned{F F':iZ}{wl aI w w':ae}{o:Nat->Prop}(h:eJ F F' wl w aI w')(W':WR F' aI w')(hF:∀r,F.K r->o (F.φ r)):∀r,F'.K r->grow o w w' (F'.φ r):=by
 intro r hr;rcases h.vb r hr with h1|⟨_,h1⟩
 ·rw[h.φ r h1];exact .inl (hF r h1)
 ·exact .inr ⟨h1,W'.there r hr⟩
def aside(o:Nat->Prop)(F:iZ):Nat->Prop:=fun b=>o b/\∀r,F.K r->F.φ r≠b
theorem eJ.A2(hT:T.OK)(hi:i<T.n){F F':iZ}{wl aI w w':ae}{o rc:Nat->Prop}(h:eJ F F' wl w aI w')(W:WR F wl w)(W':WR F' aI w')(hF:∀r,F.K r->o (F.φ r))(ho:∀b,o b->T.H0<=b/\b<w.heap.size)(hH:T.H0<=w.heap.size){o1:Nat->Prop}(EL:∀b,o1 b->o b/\∀r,F.K r->F.φ r≠b):cF T i o1 rc w w':=by
 have key:∀b,b<w.heap.size->(∀r,F.K r->F.φ r≠b)->w'.heap[b]?=w.heap[b]?:=by
  intro b hb hn;refine h.rest b fun r hr e=>?_;rcases h.vb r hr with h1|⟨_,h1⟩
  ·rw[h.φ r h1] at e;exact hn r h1 e
  ·omega
 have old:∀b,b<T.H0->w'.heap[b]?=w.heap[b]?:=fun b hb=>key b aa (fun r hr e=>by have:=(ho _ (hF r hr)).1;omega);have nZ:∀k,k<T.n->w'.heap[T.ch k]?=w.heap[T.ch k]?:=fun k hk=>old _ (hT.ch k hk).1;refine⟨h.size,fun b hb=>key b (ho b (EL b hb).1).2 (EL b hb).2,fun b h1 _ _ _=>old b h1,fun b cs ty fz hb hx=>⟨cs,by rw[old b (hT.sh b hb).1];exact hx,rfl⟩,fun a ha=>?_,fun k s r tm c hk hh=>⟨c,by rw[nZ k hk];exact hh,id⟩,nZ i hi,fQ (old _ hT.wg),?_,?_⟩
 ·have k1:∀k,T.js k (.cell a)->w'.cell? a=w.cell? a:=by
   intro k eH;obtain⟨a',e,hs⟩:=hT.ownSh k _ eH;cases e;exact cell_of (old _ (hT.sh _ hs).1)
  rcases ha with ha|⟨k,_,ha⟩
  ·exact k1 i ha
  ·exact k1 k ha
 ·rw[W'.os,h.Pb,<- W.os]
 ·rw[W'.output,h.Ao,<- W.output]
theorem cF.less{o o1 rc:Nat->Prop}{w w1:ae}(h:cF T i o rc w w1)(ho:∀b,o1 b->o b):cF T i o1 rc w w1 :=
 ⟨h.size,fun b hb=>h.own b (ho b hb),h.ro,h.sh,h.mine,h.chan,h.A0,h.wg,h.os,h.output⟩
theorem gj.call(hT:T.OK)(hi:i<T.n)(cH:qf P L Gm){zS:FuncId}{Q:Value->ae->Prop}{c:Frame}{cs:List Frame}{rc:Nat->Prop}{w0:ae}{o0:Nat->Prop}{F0:iZ}(PU:∀v v' F' o' aI w',Q v aI->(∀f,F'.has f->v'=val f v)->WR F' aI w'->(∀b,o0 b->o' b)->(∀r,F'.K r->o' (F'.φ r))->(∀b,o' b->T.H0<=b/\b<w'.heap.size)->(∀r,F0.K r->F'.K r/\F'.φ r=F0.φ r)->cF T i (aside o0 F0) rc w0 w' ->
   gj P T i V E ⟨G (c.finish v') cs,o',rc,w'⟩)(x:aS×ae)(EM:Acc (Nx P (kg P zS Q)) x):
  ∀(F:iZ) (o:Nat->Prop) (gr:aS) (w:ae),vZ P L Gm (kg P zS Q) (c::cs) F (x.1,WT x.2 w.tape w.drawn) gr w->(∀r,F.K r->o (F.φ r))->(∀b,o b->T.H0<=b/\b<w.heap.size)->T.H0<=w.heap.size->(∀b,o0 b->o b)->(∀r,F0.K r->F.K r/\F.φ r=F0.φ r) ->
   (∀b,aside o0 F0 b->∀r,F.K r->F.φ r≠b)->cF T i (aside o0 F0) rc w0 w->gj P T i V E ⟨gr,o,rc,w⟩:=by
 have hS:=zT (P:=P) zS Q
 induction EM with
 |intro x _ ih =>
 intro F o gr w MY hF ho hH LA Zj hap hrel;have cm:gr.status=.running:=wb MY;refine gj.intro ⟨cm,.inl fun w1 pO=>?_⟩;have zC:JL F w w1:=⟨pO.size,fun r hr=>pO.own _ (hF r hr),pO.os,pO.output⟩;have MZ:=MY.others zC;have EL:∀b,o b->T.H0<=b/\b<w1.heap.size:=fun b hb=>⟨(ho b hb).1,bm (ho b hb).2 pO.size⟩;have VM:T.H0<=w1.heap.size:=aR hH pO.size;have qX:WR F (WT x.2 w1.tape w1.drawn) w1:=by
  obtain⟨_,_,_,_,_,_,_,_,_,hW,_⟩:=MZ;exact hW
 have VN:cF T i (aside o0 F0) rc w0 w1:=hrel.trans (pO.less fun b hb=>LA b hb.1);have CS:∀(w':ae),w1.heap.size<=w'.heap.size->∀b,grow o w1 w' b->T.H0<=b/\b<w'.heap.size:=fun w' hs b hb=>by
  rcases hb with hb|hb
  ·exact⟨(EL b hb).1,bm (EL b hb).2 hs⟩
  ·exact⟨aa,hb.2⟩
 by_cases hs:kg P zS Q x.1 x.2
 ·obtain⟨v,v',F',nk,es,e1,e2,e3,e4,e5,e6,e7⟩:=MZ.ret cH (hS.tape _ _ _ _ hs) false;refine⟨_,nk,es,e1,e5.Zi hT qX e4 hF (fun b hb=>(ho b hb).1) VM,fun e he=>DK (e5.owned e4 hF) (e6 e he),?_⟩;refine PU v v' F' _ _ nk e2 e3 e4 (fun b hb=>.inl (LA b hb)) (e5.owned e4 hF) (CS nk e5.size) (fun r hr=>⟨e5.K r (Zj r hr).1,(e5.φ r (Zj r hr).1).trans (Zj r hr).2⟩) (VN.trans ?_);exact e5.A2 hT hi qX e4 hF EL VM fun b hb=>⟨LA b hb.1,hap b hb⟩
 ·obtain⟨y,F',OW,nk,es,e1,e2,e3,e4,e5,e6⟩:=MZ.step cH hS (fun h=>hs (hS.back h)) false;have FT:WR F' y.2 nk:=by obtain⟨_,_,_,_,_,_,_,_,_,hW,_⟩:=e3;exact hW
  have hyt:(y.1,WT y.2 nk.tape nk.drawn)=y:=by rw[FT.tape,FT.drawn];rfl
  refine⟨OW,nk,es,e1,e4.Zi hT qX FT hF (fun b hb=>(ho b hb).1) VM,fun e he=>DK (e4.owned FT hF) (e5 e he),?_⟩;refine ih y (Vx hS e2) F' (grow o w1 nk) OW nk (by rw[hyt];exact e3) (e4.owned FT hF) (CS nk e4.size) (aR VM e4.size) (fun b hb=>.inl (LA b hb)) (fun r hr=>⟨e4.K r (Zj r hr).1,(e4.φ r (Zj r hr).1).trans (Zj r hr).2⟩) (fun b hb r hr e=>?_) (VN.trans ?_)
  ·rcases e4.vb r hr with h1|⟨_,h1⟩
   ·rw[e4.φ r h1] at e;exact hap b hb r h1 e
   ·have:=(EL b (LA b hb.1)).2;omega
  ·exact e4.A2 hT hi qX FT hF EL VM fun b hb=>⟨LA b hb.1,hap b hb⟩
end
end
abbrev aM:=Nat->Prop
structure fg(P:Program)(m:Bool)(R:aM->ae->ae->Prop)(Gu:aM->ae->ae->Array Event->Prop)(X:aM->aS->ae->Prop):Prop where
 step:∀o g w,g.status=.running->(∀w1,R o w w1->∃g' w' es,stepG P m g w1=.go g' w' es/\Gu o w1 w' es/\X (grow o w1 w') g' w')->X o g w
 rely:∀o g w w1,X o g w->R o w w1->X o g w1
 idle:∀o w,Gu o w w #[]
theorem bS(o:Nat->Prop)(w:ae):grow o w w=o:=by
 funext b;simp only[grow,eq_iff_iff];exact⟨fun h=>h.elim id fun h=>absurd h.2 aa,.inl⟩
theorem jU(o:Nat->Prop){w w':ae}(h:w'.heap.size=w.heap.size):grow o w w'=o:=by
 funext b;simp only[grow,eq_iff_iff];exact⟨fun k=>k.elim id fun k=>absurd k.2 aa,.inl⟩
theorem tJ(o:Nat->Prop)(w:ae)(x:Obj):grow o w {w with heap:=w.heap.push x}=fun b=>o b\/b=w.heap.size:=by
 funext b;simp only[grow,Array.size_push,eq_iff_iff];exact⟨fun h=>h.imp id fun h=>aa,fun h=>h.imp id fun h=>aa⟩
def G1(T:cP)(i:Nat)(rc:Nat->Prop)(o:aM)(w w':ae)(es:Array Event):Prop:=JP T i o w w'/\∀e∈es,LF T i (grow o w w') rc e
theorem JP.refl{T:cP}{i:Nat}(o:Nat->Prop)(w:ae):JP T i o w w:=⟨ag _,fun _ _ _ _=>rfl,fun b cs ty fz _ h=>⟨cs,h,rfl⟩,fun _ _ _=>rfl,rfl,rfl⟩
theorem cv{P:Program}{T:cP}{i:Nat}{V:Nat->ae->Prop}{E:bH}(rc:Nat->Prop):fg P false (fun o=>cF T i o rc) (G1 T i rc) (fun o g w=>gj P T i V E ⟨g,o,rc,w⟩) where
 step o g w hs h:=gj.intro ⟨hs,.inl fun w1 hw=>let ⟨g',w',es,e1,e2,e3⟩:=h w1 hw;⟨g',w',es,e1,e2.1,e2.2,e3⟩⟩
 rely o g w w1 h hr:=h.rely hr
 idle o w:=⟨.refl o w,an⟩
def aeI(T:cP)(o:aM)(w w':ae)(es:Array Event):Prop:=M3 T o w w'/\∀e∈es,EvS T (grow o w w') e
theorem mH{P:Program}{T:cP}{Stop:dV}:fg P true (fun o=>dc T o) (aeI T) (fun o g w=>cM P T Stop o g w) where
 step o g w hs h:=cM.step hs fun w1 hw=>let ⟨g',w',es,e1,e2,e3⟩:=h w1 hw;⟨g',w',es,e1,e2.1,e2.2,e3⟩
 rely o g w w1 h hr:=h.rely hr
 idle o w:=⟨⟨ag _,fun _ _ _=>rfl,rfl,rfl⟩,an⟩
section
variable {P:Program} {m:Bool} {R:aM->ae->ae->Prop} {Gu:aM->ae->ae->Array Event->Prop} {X:aM->aS->ae->Prop}
theorem fg.go(W:fg P m R Gu X){o:aM}{g g':aS}{w:ae}(hs:g.status=.running)(h:∀w1,stepG P m g w1=.go g' w1 #[])(hx:X o g' w):X o g w :=
 W.step o g w hs fun w1 hw=>⟨g',w1,#[],h w1,W.idle _ _,by rw[bS];exact W.rely _ _ _ _ hx hw⟩
def sQ(X:aM->aS->ae->Prop)(b:Frame)(k:List Item)(cs:List Frame):Exit->Act->aM->ae->Prop
 | .normal,a,o,w=>X o (G (b.at a k) cs) w
 | .exit id,a,o,w=>∃k',exitTo id k=some k'/\X o (G (b.at a k') cs) w
 | .ret,a,o,w=>∀todo,X o (G {b.at a todo with mode:=.returning} cs) w
 |_,_,_,_=>False
theorem sQ.push{b:Frame}{y:Item}{k:List Item}{cs:List Frame}{e:Exit}{a:Act}{o:aM}{w:ae}(hy:y.plain=true)(he:e≠.normal)(h:sQ X b k cs e a o w):sQ X b (y::k) cs e a o w:=by
 cases e with
 |normal=>exact absurd rfl he
 |exit id=>obtain⟨k',hk,hg⟩:=h;exact⟨k',by cases y<;>simp_all[exitTo,Item.plain],hg⟩
 |ret=>exact h
 |goto l=>exact h
 |panic ch=>exact h
 |outgrown=>exact h
def uJ(X:aM->aS->ae->Prop)(fn:FuncId)(c:Code)(Q:Exit->Act->aM->ae->Prop)(a:Act)(o:aM)(w:ae):Prop :=
 ∀(b:Frame) (k:List Item) (cs:List Frame),b.fn=fn->b.kind≠.early->(∀e a' o' w',Q e a' o' w'->sQ X b k cs e a' o' w')->X o (G (b.at a (.code c::k)) cs) w
def fu(X:aM->aS->ae->Prop)(fn:FuncId)(ops:Array Oper)(todo:List Nat)(Q:Exit->Act->aM->ae->Prop)(a:Act)(o:aM)(w:ae):Prop :=
 ∀(b:Frame) (k:List Item) (cs:List Frame),b.fn=fn->b.kind≠.early->(∀e a' o' w',Q e a' o' w'->sQ X b k cs e a' o' w')->X o (G (b.at a (.inRegion ops todo::k)) cs) w
def gN(M:Act->aM->ae->Prop)(Q:Exit->Act->aM->ae->Prop):Exit->Act->aM->ae->Prop
 | .normal,a,o,w=>M a o w
 |e,a,o,w=>Q e a o w
def cZ(id:Nat)(Q:Exit->Act->aM->ae->Prop):Exit->Act->aM->ae->Prop
 | .exit PV,a,o,w=>if PV=id then Q .normal a o w else Q (.exit PV) a o w
 |e,a,o,w=>Q e a o w
section rules
variable {fn:FuncId} {Q:Exit->Act->aM->ae->Prop} {a:Act} {o:aM} {w:ae}
theorem G4{c:Code}{Q':Exit->Act->aM->ae->Prop}(h:uJ X fn c Q a o w)(hq:∀e a o w,Q e a o w->Q' e a o w):uJ X fn c Q' a o w :=
 fun b k cs hb hk hc=>h b k cs hb hk fun e a' o' w' q=>hc e a' o' w' (hq e a' o' w' q)
theorem A9(W:fg P m R Gu X)(h:Q .normal a o w):uJ X fn .skip Q a o w:=fun b k cs _ _ hc=>W.go rfl (fun _=>bY) (hc _ _ _ _ h)
theorem ET(W:fg P m R Gu X)(h:Q .ret a o w):uJ X fn .ret Q a o w:=fun b k cs _ _ hc=>W.go rfl (fun _=>stepG_ret') (hc _ _ _ _ h _)
theorem Ba(W:fg P m R Gu X){id:Nat}(h:Q (.exit id) a o w):uJ X fn (.exit id) Q a o w:=fun b k cs _ _ hc=>by
 obtain⟨k',kY,hg⟩:=hc _ _ _ _ h;exact W.go rfl (fun _=>stepG_exit kY) hg
theorem qY(W:fg P m R Gu X){x y:Code}(h:uJ X fn x (gN (fun a' o' w'=>uJ X fn y Q a' o' w') Q) a o w):uJ X fn (.seq x y) Q a o w:=by
 intro b k cs hb hk hc;refine W.go rfl (fun _=>ax) (h b (.code y::k) cs hb hk fun e a' o' w' q=>?_);cases e with
 |normal=>exact q b k cs hb hk hc
 |exit id=>exact(hc _ _ _ _ q).push rfl an
 |ret=>exact(hc _ _ _ _ q).push (y:=.code y) rfl an
 |goto l=>exact hc _ _ _ _ q
 |panic ch=>exact hc _ _ _ _ q
 |outgrown=>exact hc _ _ _ _ q
theorem hZ(W:fg P m R Gu X){c:Operand}{x y:Code}{t:Bool}(hc:a.eval c=.bool t)(h:uJ X fn (if t then x else y) Q a o w):uJ X fn (.cond c x y) Q a o w :=
 fun b k cs hb hk hq=>W.go rfl (fun _=>dI hc) (h b k cs hb hk hq)
theorem xT(W:fg P m R Gu X){id:Nat}{c:Code}(h:uJ X fn c (cZ id Q) a o w):uJ X fn (.block id c) Q a o w:=by
 intro b k cs hb hk hc;refine W.go rfl (fun _=>eB) (h b (.inBlock id::k) cs hb hk fun e a' o' w' q=>?_);cases e with
 |normal=>exact W.go rfl (fun _=>fR) (hc _ _ _ _ q)
 |exit PV =>
  by_cases hid:PV=id
  ·simp only[cZ,hid,if_true] at q;exact⟨k,by simp[exitTo,hid],hc _ _ _ _ q⟩
  ·simp only[cZ,hid,if_false] at q;obtain⟨k',kY,hg⟩:=hc _ _ _ _ q;have:(id==PV)=false:=by simp;exact fun h=>hid h.symm
   exact⟨k',by simp[exitTo,this,kY],hg⟩
 |ret=>exact fun todo=>hc _ _ _ _ q todo
 |goto l=>exact hc _ _ _ _ q
 |panic ch=>exact hc _ _ _ _ q
 |outgrown=>exact hc _ _ _ _ q
theorem nu(W:fg P m R Gu X){c:Code}(I:Nat->Act->aM->ae->Prop){N:Nat}(h0:I N a o w)(round:∀n a o w,I n a o w->uJ X fn c (gN (fun a' o' w'=>∃n',n'<n/\I n' a' o' w') Q) a o w):uJ X fn (.loop c) Q a o w:=by
 intro b k cs hb hk hc;have key:∀N a o w,I N a o w->X o (G (b.at a (.code c :: .inLoop c::k)) cs) w:=by
  intro N
  induction N using Nat.strongRecOn with
  |ind N ih =>
   intro a o w hI;refine round N a o w hI b (.inLoop c::k) cs hb hk fun e a' o' w' q=>?_;cases e with
   |normal =>
    obtain⟨n',hn,Z1⟩:=q;exact W.go rfl (fun _=>ig) (ih n' hn a' o' w' Z1)
   |exit id=>exact(hc _ _ _ _ q).push rfl an
   |ret=>exact(hc _ _ _ _ q).push (y:=.inLoop c) rfl an
   |goto l=>exact hc _ _ _ _ q
   |panic ch=>exact hc _ _ _ _ q
   |outgrown=>exact hc _ _ _ _ q
 exact W.go rfl (fun _=>jj) (key N a o w h0)
theorem vl(W:fg P m R Gu X){id:Nat}{ops:Array Oper}(h:fu X fn ops (List.range ops.size) Q a o w):uJ X fn (.region id ops false) Q a o w :=
 fun b k cs hb hk hc=>W.go rfl (fun _=>aV) (h b k cs hb hk hc)
theorem sR(W:fg P m R Gu X){ops:Array Oper}(h:Q .normal a o w):fu X fn ops [] Q a o w:=fun b k cs _ _ hc=>W.go rfl (fun _=>ak) (hc _ _ _ _ h)
theorem kO(W:fg P m R Gu X){ops:Array Oper}{i:Nat}{rest:List Nat}{op:Oper}(ho:ops[i]?=some op)(hw:Region.wanted op (yielded ops a.tmps)=true)(h:∀w1,R o w w1->∀K:Act->ae->Prop,(∀a' w',Gu o w1 w' (listed P fn a op w1)/\fu X fn ops rest Q a' (grow o w1 w') w'->K a' w')->uponK op a K ((execOp a.eval op).run P w1)):fu X fn ops (i::rest) Q a o w:=by
 intro b k cs hb hk hc;refine W.step o _ w rfl fun w1 h1=>?_;have:=h w1 h1 _ fun _ _ x=>x;revert this;cases hr:(execOp a.eval op).run P w1 with
 |ok x w' =>
  cases x with
  |value v=>intro q;simp only[uponK_value] at q;exact⟨_,_,_,dN ho hw hk hr,hb▸q.1,q.2 b k cs hb hk hc⟩
  |skip=>intro q;simp only[uponK_skip] at q;exact⟨_,_,_,jk ho hw hk hr,hb▸q.1,q.2 b k cs hb hk hc⟩
  |_=>intro q;exact q.elim
 |halt _ _=>intro q;exact q.elim
theorem gW(W:fg P m R Gu X){ops:Array Oper}{i:Nat}{rest:List Nat}{op:Oper}(ho:ops[i]?=some op)(hw:Region.wanted op (yielded ops a.tmps)=false)(h:fu X fn ops rest Q (a.put op.dst undef) o w):fu X fn ops (i::rest) Q a o w :=
 fun b k cs hb hk hc=>W.go rfl (fun _=>stepG_unwanted ho hw) (h b k cs hb hk hc)
theorem J0(W:fg P m R Gu X){ops:Array Oper}{i:Nat}{rest:List Nat}{op:Oper}{f:FuncId}{fc:Func}{c:Code}{args:Array Operand}{rR:Array TypeId}(ho:ops[i]?=some op)(hw:Region.wanted op (yielded ops a.tmps)=true)(eu:op.op=.call {callee:=.value (.func f),args,argTypes:=rR})(hf:P.funcs[f]?=some fc)(gF:(fc.name == "runtime.NumGoroutine")=false)(fo:fc.body=some c)(h:∀(b:Frame) (k:List Item) (cs:List Frame),b.fn=fn->b.kind≠.early->(∀e a' o' w',Q e a' o' w'->sQ X b k cs e a' o' w') ->
   X o (G ((base f).at {tmps:=args.map a.eval++Array.replicate (fc.ntmps-(args.map a.eval).size) undef,defers:=[]} [.code c]) (b.at a (.inRegion ops (i::rest)::k)::cs)) w):fu X fn ops (i::rest) Q a o w:=by
 intro b k cs hb hk hc;refine W.go rfl (fun w1=>?_) (h b k cs hb hk hc);have:=goes_call (P:=P) (main:=m) (b:=b) (k:=k) (cs:=cs) (w:=w1) (K:=fun g' w' es=>stepG P m (G (b.at a (.inRegion ops (i::rest)::k)) cs) w1=.go g' w' es->stepG P m (G (b.at a (.inRegion ops (i::rest)::k)) cs) w1=.go (G ((base f).at {tmps:=args.map a.eval++Array.replicate (fc.ntmps-(args.map a.eval).size) undef,defers:=[]} [.code c]) (b.at a (.inRegion ops (i::rest)::k)::cs)) w1 #[]) ho hw hk eu hf gF fo (fun e=>e);cases hg:stepG P m (G (b.at a (.inRegion ops (i::rest)::k)) cs) w1 with
 |go g' w' es=>rw[hg,goes_go] at this;rw[<- this rfl]
 |_=>rw[hg] at this;exact this.elim
end rules
end
def iz(N:Nat->Bool)(w:ae):ae:={w with heap:=w.heap.mapIdx fun b o=>if N b then o else .cells #[] 0}
theorem kC(N:Nat->Bool)(w:ae):(iz N w).heap.size=w.heap.size:=by simp[iz]
theorem lg(N:Nat->Bool)(w:ae){b:Nat}(h:N b=true):(iz N w).heap[b]?=w.heap[b]?:=by
 simp only[iz,Array.getElem?_mapIdx,h,if_true];cases w.heap[b]?<;>rfl
def G6(N:Nat->Bool)(f:Rn):Prop:=∀r,N r=true->f.b r=r
def G7(N:Nat->Bool)(w:ae):Prop:=∀b,N b=true->∃x,w.heap[b]?=some x/\eF x=false/\∀f,G6 N f->obj f x=x
section
variable {P:Program} {T:cP} {i:Nat} {V:Nat->ae->Prop} {E:bH} {L:Nat->Bool} {N:Nat->Bool}
def yR(P:Program)(L:Nat->Bool)(N:Nat->Bool):iZ:=⟨fun r=>N r=true,id,fun n=>L n=true,P.globals.size⟩
theorem G8{f:Rn}(h:(yR P L N).has f):G6 N f:=fun r hr=>h.at_ r hr
theorem PW(h1:P.globals.size≠1)(h2:∀b,N b=true->P.globals.size<=b):Dp (yR P L N) :=
 ⟨fun r hr hg=>hg,.inr ⟨fun r hr hn=>by have:=h2 r hn;show False;change r<P.globals.size at hr;omega,h1⟩⟩
theorem PX{w:ae}(hN:G7 N w)(h1:P.globals.size≠1)(h2:∀b,N b=true->P.globals.size<=b)(h3:P.globals.size<=w.heap.size):WR (yR P L N) (iz N w) w where
 here r hr:=by obtain⟨x,hx,_⟩:=hN r hr;rw[kC];exact(Array.getElem?_eq_some_iff.1 hx).1
 there r hr:=by obtain⟨x,hx,_⟩:=hN r hr;exact(Array.getElem?_eq_some_iff.1 hx).1
 inj r s _ _ h:=h
 sr r hr f hf:=by
  obtain⟨x,hx,_,hc⟩:=hN r hr;rw[lg N w hr];show w.heap[r]?=_;rw[hx,cR,hc f (G8 hf)]
 OT r hr o ho:=by
  obtain⟨x,hx,hp,_⟩:=hN r hr;rw[lg N w hr,hx] at ho;cases ho;exact hp
 os:=rfl
 output:=rfl
 tape:=rfl
 drawn:=rfl
 zu:=PW h1 h2
 Eu:=h3
 CC:=by rw[kC];exact h3
theorem wo{w:ae}(hN:G7 N w):fe (iz N w):=by
 intro r o ho;by_cases h:N r=true
 ·obtain⟨x,hx,hp,_⟩:=hN r h;rw[lg N w h,hx] at ho;cases ho;exact hp
 ·have:(iz N w).heap[r]?=(w.heap[r]?).map fun _=>.cells #[] 0:=by
   simp only[iz,Array.getElem?_mapIdx];cases w.heap[r]?<;>simp[h]
  rw[this] at ho;cases hw:w.heap[r]? with
  |none=>rw[hw] at ho;cases ho
  |some x=>rw[hw] at ho;cases ho;rfl
structure Bc(T:cP)(i:Nat)(N:Nat->Bool)(o rc o':Nat->Prop)(w w':ae)(F':iZ)(aI:ae)(v v':Value):Prop where
 val:∀f,F'.has f->v'=Ren.val f v
 wr:WR F' aI w'
 more:∀b,o b->o' b
 own:∀r,F'.K r->o' (F'.φ r)
 tK:∀b,o' b->T.H0<=b/\b<w'.heap.size
 keep:∀r,N r=true->F'.K r/\F'.φ r=r
 rel:cF T i (fun b=>o b/\N b=false) rc w w'
theorem Bc.aay{o rc o':Nat->Prop}{w w' aI:ae}{F':iZ}{v v':Value}(h:Bc T i N o rc o' w w' F' aI v v'){f:Rn}(hf:F'.has f):G6 N f:=fun r hr=>(hf.at_ r (h.keep r hr).1).trans (h.keep r hr).2
theorem Bc.plain{o rc o':Nat->Prop}{w w' aI:ae}{F':iZ}{v v':Value}(h:Bc T i N o rc o' w w' F' aI v v')(hv:∀f,Ren.val f v=v):v'=v:=by
 obtain⟨f,hf⟩:=h.wr.some;rw[h.val f hf,hv f]
theorem Bc.stays{o rc o':Nat->Prop}{w w' wl aI:ae}{F':iZ}{v v':Value}(h:Bc T i N o rc o' w w' F' aI v v')(se:G7 N w)(hwl:∀b,N b=true->wl.heap[b]?=w.heap[b]?)(dW:∀b,N b=true->aI.heap[b]?=wl.heap[b]?):cF T i o rc w w':=by
 obtain⟨f,hf⟩:=h.wr.some;refine⟨h.rel.size,fun b hb=>?_,h.rel.ro,h.rel.sh,h.rel.mine,h.rel.chan,h.rel.A0,h.rel.wg,h.rel.os,h.rel.output⟩;by_cases hn:N b=true
 ·obtain⟨x,hx,_,hc⟩:=se b hn;have:=h.wr.sr b (h.keep b hn).1 f hf;rw[(h.keep b hn).2,dW b hn,hwl b hn,hx,cR,hc f (h.aay hf)] at this;rw[this,hx]
 ·exact h.rel.own b ⟨hb,by simpa using hn⟩
theorem Bc.slice{o rc o':Nat->Prop}{w w' aI:ae}{F':iZ}{v':Value}{b off l c:Nat}(h:Bc T i N o rc o' w w' F' aI (.slice (some ⟨b,off,none⟩) l c) v'):F'.K b/\v'=.slice (some ⟨F'.φ b,off,none⟩) l c/\o' (F'.φ b):=by
 have hK:F'.K b:=by
  refine aO fun hn=>?_;obtain⟨f,g,hf,hg,cV,_⟩:=h.wr.two;have:=(h.val f hf).symm.trans (h.val g hg);simp[Ren.val,addr] at this;exact cV b hn this
 obtain⟨f,hf⟩:=h.wr.some;refine⟨hK,?_,h.own b hK⟩;rw[h.val f hf];simp[Ren.val,addr,hf.at_ b hK]
end
section
variable {P:Program} {m:Bool} {R:aM->ae->ae->Prop} {Gu:aM->ae->ae->Array Event->Prop} {X:aM->aS->ae->Prop} {fn:FuncId} {Q:Exit->Act->aM->ae->Prop} {a:Act} {o:aM} {w:ae}
theorem DL(W:fg P m R Gu X){ops:Array Oper}{todo:List Nat}{w1:ae}(h:fu X fn ops todo Q a o w)(hr:R o w w1):fu X fn ops todo Q a o w1:=fun b k cs hb hk hc=>W.rely _ _ _ _ (h b k cs hb hk hc) hr
theorem J1(W:fg P m R Gu X){S:ae->Prop}(hS:∀w1,R o w w1->S w1){ops:Array Oper}{i:Nat}{rest:List Nat}{op:Oper}(ho:ops[i]?=some op)(hw:Region.wanted op (yielded ops a.tmps)=true){v:Value}(hr:∀w1,S w1->(execOp a.eval op).run P w1=.ok (.value v) w1)(hg:∀w1,S w1->Gu o w1 w1 (listed P fn a op w1))(h:fu X fn ops rest Q (a.put op.dst v) o w):fu X fn ops (i::rest) Q a o w :=
 kO W ho hw fun w1 h1 K hK=>by
  rw[hr w1 (hS w1 h1)];simp only[uponK_value];exact hK _ _ ⟨hg w1 (hS w1 h1),by rw[bS];exact DL W h h1⟩
theorem DN(W:fg P m R Gu X){ops:Array Oper}{i:Nat}{rest:List Nat}{op:Oper}(ho:ops[i]?=some op)(hw:Region.wanted op (yielded ops a.tmps)=true){v:Value}(hr:∀w1,(execOp a.eval op).run P w1=.ok (.value v) w1)(hg:∀w1,(execOp a.eval op).events P w1 #[]=#[])(h:fu X fn ops rest Q (a.put op.dst v) o w):fu X fn ops (i::rest) Q a o w :=
 J1 W (S:=fun _=>True) (fun _ _=>trivial) ho hw (fun w1 _=>hr w1) (fun w1 _=>by rw[listed_nil (hg w1)];exact W.idle _ _) h
def EU:Op->Bool
 | .call c=>match c.callee with|.builtin _=>true|_=>false
 |_=>true
theorem fp(W:fg P m R Gu X){S:ae->Prop}(hS:∀w1,R o w w1->S w1){ops:Array Oper}{i:Nat}{rest:List Nat}{op:Oper}(ho:ops[i]?=some op)(hw:Region.wanted op (yielded ops a.tmps)=true)(hg:∀w1,S w1->Gu o w1 w1 (listed P fn a op w1))(h:∀w1,S w1->∀K:Act->ae->Prop,(∀a',fu X fn ops rest Q a' o w->K a' w1)->uponK op a K ((execOp a.eval op).run P w1)):fu X fn ops (i::rest) Q a o w :=
 kO W ho hw fun w1 h1 K hK=>h w1 (hS w1 h1) K fun a' q=>hK a' w1 ⟨hg w1 (hS w1 h1),by rw[bS];exact DL W q h1⟩
theorem ny(W:fg P m R Gu X){ops:Array Oper}{i:Nat}{rest:List Nat}{op:Oper}(ho:ops[i]?=some op)(_hn:EU op.op=true)(hw:Region.wanted op (yielded ops a.tmps)=true)(hg:∀w1,(execOp a.eval op).events P w1 #[]=#[])(h:∀w1,∀K:Act->ae->Prop,(∀a',fu X fn ops rest Q a' o w->K a' w1)->uponK op a K ((execOp a.eval op).run P w1)):fu X fn ops (i::rest) Q a o w :=
 fp W (S:=fun _=>True) (fun _ _=>trivial) ho hw (fun w1 _=>by rw[listed_nil (hg w1)];exact W.idle _ _) (fun w1 _=>h w1)
def bp(P:Program)(X:aM->aS->ae->Prop)(f:FuncId)(vs:Array Value)(o:aM)(w:ae)(Post:Value->aM->ae->Prop):Prop :=
 ∀(c:Frame) (cs:List Frame),(∀v o' w',Post v o' w'->X o' (G (c.finish v) cs) w')->X o (G (Frame.enter P f vs .normal) (c::cs)) w
theorem bp.mono{f:FuncId}{vs:Array Value}{Post G9:Value->aM->ae->Prop}(h:bp P X f vs o w Post)(hp:∀v o' w',Post v o' w'->G9 v o' w'):bp P X f vs o w G9 :=
 fun c cs hc=>h c cs fun v o' w' q=>hc v o' w' (hp v o' w' q)
theorem ij{f:FuncId}{fc:Func}{c:Code}(hf:P.funcs[f]?=some fc)(fo:fc.body=some c)(as:Array Value):Frame.enter P f as .normal=(base f).at {tmps:=as++Array.replicate (fc.ntmps-as.size) undef,defers:=[]} [.code c]:=by
 simp[Frame.enter,hf,fo,base,Frame.at]
theorem aF(W:fg P m R Gu X){ops:Array Oper}{i:Nat}{rest:List Nat}{op:Oper}{f:FuncId}{fc:Func}{c:Code}{args:Array Operand}{rR:Array TypeId}(ho:ops[i]?=some op)(hw:Region.wanted op (yielded ops a.tmps)=true)(eu:op.op=.call {callee:=.value (.func f),args,argTypes:=rR})(hf:P.funcs[f]?=some fc)(gF:(fc.name == "runtime.NumGoroutine")=false)(fo:fc.body=some c){vs:Array Value}(Nk:args.map a.eval=vs){d:Option Tmp}(hd:op.dst=d)(h:bp P X f vs o w fun v o' w'=>fu X fn ops rest Q (a.put d v) o' w'):fu X fn ops (i::rest) Q a o w:=by
 subst Nk hd;refine J0 W ho hw eu hf gF fo fun b k cs hb hk hc=>?_;rw[<- ij hf fo];refine h _ _ fun v o' w' q=>?_;rw[show(b.at a (.inRegion ops (i::rest)::k)).finish v=b.at (a.put op.dst v) (.inRegion ops rest::k) by rw[dF,ho];rfl];exact q b k cs hb hk hc
theorem bA(W:fg P m R Gu X){f:FuncId}{fc:Func}{c:Code}{vs:Array Value}{Post:Value->aM->ae->Prop}(hf:P.funcs[f]?=some fc)(fo:fc.body=some c)(h:uJ X f c (fun e a' o' w'=>(e=.normal\/e=.ret)/\a'.defers=[]/\∃v,ResultsC P fc a'.tmps v/\Post v o' w') {tmps:=vs++Array.replicate (fc.ntmps-vs.size) undef,defers:=[]} o w):bp P X f vs o w Post:=by
 intro cf cs hc;rw[ij hf fo];have leave:∀(a':Act) (o':aM) (w':ae) (todo:List Item) (v:Value),a'.defers=[]->ResultsC P fc a'.tmps v->Post v o' w'->X o' (G {(base f).at a' todo with mode:=.returning} (cf::cs)) w':=by
  intro a' o' w' todo v hd hr hx;refine W.go rfl (fun w1=>?_) (hc v o' w' hx);rw[stepG_leave (b:=base f) rfl hd hf (hr w1).1 (hr w1).2]
 refine h (base f) [] _ rfl (by simp[base]) fun e a' o' w' q=>?_;obtain⟨he,hd,v,hr,hx⟩:=q;rcases he with rfl|rfl
 ·exact W.go rfl (fun _=>dG) (leave a' o' w' [] v hd hr hx)
 ·exact fun todo=>leave a' o' w' todo v hd hr hx
theorem Ha(W:fg P m R Gu X){x y:Code}(M:Act->aM->ae->Prop)(hx:uJ X fn x (gN M Q) a o w)(hy:∀a' o' w',M a' o' w'->uJ X fn y Q a' o' w'):uJ X fn (.seq x y) Q a o w :=
 qY W (G4 hx fun e a' o' w' q=>by cases e<;>first|exact hy _ _ _ q|exact q)
end
section
variable {P:Program} {T:cP} {i:Nat} {V:Nat->ae->Prop} {E:bH} {L:Nat->Bool} {N:Nat->Bool}
abbrev XW(P:Program)(T:cP)(i:Nat)(V:Nat->ae->Prop)(E:bH)(rc:Nat->Prop):aM->aS->ae->Prop:=fun o g w=>gj P T i V E ⟨g,o,rc,w⟩
structure fT(T:cP)(o:aM)(w:ae):Prop where
 tK:∀b,o b->T.H0<=b/\b<w.heap.size
 size:T.H0<=w.heap.size
structure cB(T:cP)(i:Nat)(rc:Nat->Prop)(o:aM)(w:ae)(o':aM)(w':ae):Prop where
 rel:cF T i o rc w w'
 ok:fT T o' w'
 more:∀b,o b->o' b
theorem cB.refl{rc:Nat->Prop}{o:aM}{w:ae}(h:fT T o w):cB T i rc o w o w:=⟨.refl w,h,fun _ h=>h⟩
theorem cB.trans{rc:Nat->Prop}{o o' o2:aM}{w w' w2:ae}(h:cB T i rc o w o' w')(k:cB T i rc o' w' o2 w2):cB T i rc o w o2 w2:=⟨h.rel.trans (k.rel.less h.more),k.ok,fun b hb=>k.more b (h.more b hb)⟩
theorem DO{o:aM}(w:ae)(x:Obj)(hH:T.H0<=w.heap.size)(hT:T.OK):JP T i o w (w.alloc x):=by
 have hh:∀b,b<w.heap.size->(w.alloc x).heap[b]?=w.heap[b]?:=fun b hb=>RowKit.Below.heap_alloc w x b hb;refine⟨an,fun b hb _ _=>hh b hb,fun b cs ty fz hb hx=>⟨cs,by rw[hh b (by have:=(hT.sh b hb).1;omega)];exact hx,rfl⟩,fun a ha _=>cell_of (hh _ (by have:=(hT.sh _ ha).1;omega)),rfl,rfl⟩
theorem cB.alloc{rc:Nat->Prop}{o:aM}{w w1:ae}(hT:T.OK)(hi:i<T.n)(h:fT T o w)(hr:cF T i o rc w w1)(x:Obj):cB T i rc o w (grow o w1 (w1.alloc x)) (w1.alloc x):=by
 have hh:∀b,b<w1.heap.size->(w1.alloc x).heap[b]?=w1.heap[b]?:=fun b hb=>RowKit.Below.heap_alloc w1 x b hb;have hH:=aR h.size hr.size;have old:∀b,b<T.H0->(w1.alloc x).heap[b]?=w1.heap[b]?:=fun b hb=>hh b aa;have nZ:∀k,k<T.n->(w1.alloc x).heap[T.ch k]?=w1.heap[T.ch k]?:=fun k hk=>old _ (hT.ch k hk).1;refine⟨hr.trans ⟨an,fun b hb=>hh b (bm (h.tK b hb).2 hr.size),fun b h1 _ _ _=>old b h1,fun b cs ty fz hb hx=>⟨cs,by rw[old b (hT.sh b hb).1];exact hx,rfl⟩,fun a ha=>?_,fun k s r tm c hk hx=>⟨c,by rw[nZ k hk];exact hx,id⟩,nZ i hi,fQ (old _ hT.wg),rfl,rfl⟩,⟨fun b hb=>?_,eR⟩,fun b hb=>.inl hb⟩
 ·have key:∀k,T.js k (.cell a)->(w1.alloc x).cell? a=w1.cell? a:=by
   intro k eH;obtain⟨a',e,hs⟩:=hT.ownSh k _ eH;cases e;exact cell_of (old _ (hT.sh _ hs).1)
  rcases ha with ha|⟨k,_,ha⟩
  ·exact key i ha
  ·exact key k ha
 ·rcases hb with hb|hb
  ·have:=h.tK b hb;have:=hr.size;simp;omega
  ·simp at hb |-;omega
theorem mI(hT:T.OK)(hi:i<T.n){rc:Nat->Prop}{fn:FuncId}{Q:Exit->Act->aM->ae->Prop}{a:Act}{o:aM}{w:ae}(fD:fT T o w){ops:Array Oper}{j:Nat}{rest:List Nat}{op:Oper}(ho:ops[j]?=some op)(hw:Region.wanted op (yielded ops a.tmps)=true){d:Option Tmp}(hd:op.dst=d)(x:Obj)(cm:∀w1,(execOp a.eval op).run P w1=.ok (.value (.pointer (some ⟨w1.heap.size,0,none⟩))) (w1.alloc x))(iH:∀w1,(execOp a.eval op).events P w1 #[]=#[])(h:∀A o1 w2,cB T i rc o w o1 w2->o1 A->w2.heap[A]?=some x->w.heap.size<=A->(∀b,o1 b↔o b\/b=A)->fu (XW P T i V E rc) fn ops rest Q (a.put d (.pointer (some ⟨A,0,none⟩))) o1 w2):fu (XW P T i V E rc) fn ops (j::rest) Q a o w:=by
 subst hd;refine kO (cv rc) ho hw fun w1 kR K hK=>?_;rw[cm w1];simp only[uponK_value];refine hK _ _ ⟨⟨DO _ _ (aR fD.size kR.size) hT,by rw[listed_nil (iH w1)];simp⟩,h w1.heap.size _ _ (cB.alloc hT hi fD kR x) (.inr ⟨ag _,an⟩) ?_ kR.size fun b=>?_⟩
 ·show(w1.heap.push x)[w1.heap.size]?=_;simp
 ·have:=tJ o w1 x;exact Iff.of_eq (congrFun this b)
theorem vm(hT:T.OK)(hi:i<T.n)(cH:qf P L 0)(I3:P.globals.size≠1)(Cv:P.globals.size<=T.H0){rc:Nat->Prop}{o:aM}{w:ae}{f:FuncId}{vs:Array Value}(hL:L f=true)(fD:fT T o w)(hN:∀b,N b=true->o b)(se:G7 N w)(sS:∀g,G6 N g->vs.map (val g)=vs){R:ae->Value->ae->Prop}(hR:∀wl,JK (R wl))(hRW:∀wl τ d v w',R (WT wl τ d) v w'->R wl v w')(hC:∀wl,(∀b,N b=true->wl.heap[b]?=w.heap[b]?)->w.heap.size<=wl.heap.size->Calls P f vs wl fun e w'=>∃v,e=.returned v/\R wl v w'){Post:Value->aM->ae->Prop}(h:∀wl v v' F' o' aI w',(∀b,N b=true->wl.heap[b]?=w.heap[b]?)->w.heap.size<=wl.heap.size->R wl v aI->Bc T i N o rc o' w w' F' aI v v'->Post v' o' w'):bp P (XW P T i V E rc) f vs o w Post:=by
 intro c cs hc;have hW:=PX (P:=P) (L:=L) se I3 (fun b hb=>aR Cv (fD.tK b (hN b hb)).1) (aR Cv fD.size);have I7:PF P L 0 (yR P L N):=⟨fun r hr=>absurd hr (dE r),rfl,rfl,PW I3 fun b hb=>aR Cv (fD.tK b (hN b hb)).1⟩;have CL:∀g,(yR P L N).has g->Frame.enter P f vs .normal=frame g (Frame.enter P f vs .normal):=fun g hg=>by
  have:=sS g (G8 hg);simp only[frame,Frame.enter,Array.map_append,this,Array.map_replicate,kM]
 have PY:Inv P L 0 [fS] (G (Frame.enter P f vs .normal) [fS]) (iz N w) :=
  ⟨yR P L N,_,[],_,[],w,rfl,sH cH hL _,an,fun g hg=>⟨CL g hg,rfl⟩,hW,wo se,I7⟩
 have uK:Good P (kg P f (R (iz N w))) (G (Frame.enter P f vs .normal) [fS]) (iz N w):=by
  refine uH cH (hR _) PY fun τ d=>?_;refine(hC (WT (iz N w) τ d) (fun b hb=>lg N w hb) (by show w.heap.size<=(iz N w).heap.size;rw[kC];exact ag _)).mono ?_;rintro e w' ⟨v,rfl,hv⟩;exact⟨v,rfl,hRW _ _ _ _ _ hv⟩
 have EM:=GI cH (zT f _) PY uK;have PZ:WT (iz N w) w.tape w.drawn=iz N w:=rfl;refine gj.call hT hi cH (F0:=yR P L N) (o0:=o) (w0:=w) (fun v v' F' o' aI w' hQ hv Hb hm eH aeK aaz hrel=>?_) _ EM (yR P L N) o _ w (by
  rw[PZ];exact⟨_,[],_,[],rfl,rfl,sH cH hL _,an,fun g hg=>⟨CL g hg,rfl⟩,hW,wo se,I7,uK⟩) (fun r hr=>hN r hr) fD.tK fD.size (fun b hb=>hb) (fun r hr=>⟨hr,rfl⟩) (fun b hb r hr=>hb.2 r hr) (.refl w)
 refine hc v' o' w' (h (iz N w) v v' F' o' aI w' (fun b hb=>lg N w hb) (by rw[kC];exact ag _) hQ ⟨hv,Hb,hm,eH,aeK,aaz,hrel.less fun b hb=>⟨hb.1,fun r hr e=>?_⟩⟩);have:r=b:=e;subst this;have SJ:N r=true:=hr;rw[hb.2] at SJ;cases SJ
theorem nz(hT:T.OK)(hi:i<T.n)(cH:qf P L 0)(I3:P.globals.size≠1)(Cv:P.globals.size<=T.H0){rc:Nat->Prop}{o:aM}{w:ae}{f:FuncId}{vs:Array Value}(hL:L f=true)(fD:fT T o w)(hN:∀b,N b=true->o b)(se:G7 N w)(sS:∀g,G6 N g->vs.map (val g)=vs)(v:Value)(hv:∀f,val f v=v)(hC:∀wl,(∀b,N b=true->wl.heap[b]?=w.heap[b]?)->w.heap.size<=wl.heap.size->Calls P f vs wl fun e w'=>e=.returned v/\RowKit.Below wl.heap.size wl w'):
  bp P (XW P T i V E rc) f vs o w fun v' o' w'=>v'=v/\cB T i rc o w o' w':=by
 refine vm (R:=fun wl u w'=>u=v/\∀b,b<wl.heap.size->w'.heap[b]?=wl.heap[b]?) hT hi cH I3 Cv hL fD hN se sS (fun wl u w' τ d h=>h) (fun wl τ d u w' h=>h) (fun wl h1 h2=>(hC wl h1 h2).mono ?_) ?_
 ·rintro e w' ⟨rfl,hb⟩;exact⟨v,rfl,rfl,hb.block⟩
 ·rintro wl u v' F' o' aI w' h1 h2 ⟨rfl,h3⟩ hB;have hrel:=hB.stays se h1 (fun b hb=>h3 b (by have:=(fD.tK b (hN b hb)).2;omega));exact⟨hB.plain hv,hrel,⟨hB.tK,aR fD.size hrel.size⟩,hB.more⟩
theorem pe(hT:T.OK)(hi:i<T.n)(cH:qf P L 0)(I3:P.globals.size≠1)(Cv:P.globals.size<=T.H0){rc:Nat->Prop}{o:aM}{w:ae}{f:FuncId}{vs:Array Value}(hL:L f=true)(fD:fT T o w)(sS:∀g,vs.map (val g)=vs)(v:Value)(hv:∀f,val f v=v)(hC:∀wl,Calls P f vs wl fun e w'=>e=.returned v/\RowKit.Below wl.heap.size wl w'):
  bp P (XW P T i V E rc) f vs o w fun v' o' w'=>v'=v/\cB T i rc o w o' w' :=
 nz (N:=fun _=>false) hT hi cH I3 Cv hL fD (fun b h=>by cases h) (fun b h=>by cases h) (fun g _=>sS g) v hv fun wl _ _=>hC wl
end
section
variable {P:Program} {main:Bool} {b:Frame} {a:Act} {cs:List Frame} {w:ae}
theorem sT{fn:Func}{todo:List Item}{c:Frame}{v:Value}(hn:b.kind=.normal)(hd:a.defers=[])(hf:P.funcs[b.fn]?=some fn)(hr:(results fn a.tmps).run P w=.ok v w):
  ∃es,stepG P main (G {b.at a todo with mode:=.returning} (c::cs)) w=.go (G (c.finish v) cs) w es/\∀e∈es,e∈(results fn a.tmps).events P w #[] :=
 ⟨_,by simp[G,stepG,unwind,doReturn,Frame.at,hn,hd,hf,hr,GStep.after];rfl,fun e he=>mem_seen he⟩
end
section
variable {P:Program} {m:Bool} {R:aM->ae->ae->Prop} {Gu:aM->ae->ae->Array Event->Prop} {X:aM->aS->ae->Prop} {o:aM} {w:ae}
def wq(P:Program)(R:aM->ae->ae->Prop)(Gu:aM->ae->ae->Array Event->Prop)(fc:Func)(tmps:Array Value)(o:aM)(w:ae)(v:Value):Prop :=
 ∀w1,R o w w1->(results fc tmps).run P w1=.ok v w1/\∀es:Array Event,(∀e∈es,e∈(results fc tmps).events P w1 #[])->Gu o w1 w1 es
theorem dJ(W:fg P m R Gu X){f:FuncId}{fc:Func}{c:Code}{vs:Array Value}{Post:Value->aM->ae->Prop}(hf:P.funcs[f]?=some fc)(fo:fc.body=some c)(h:uJ X f c (fun e a' o' w'=>(e=.normal\/e=.ret)/\a'.defers=[]/\∃v,wq P R Gu fc a'.tmps o' w' v/\Post v o' w') {tmps:=vs++Array.replicate (fc.ntmps-vs.size) undef,defers:=[]} o w):bp P X f vs o w Post:=by
 intro cf cs hc;rw[ij hf fo];have leave:∀(a':Act) (o':aM) (w':ae) (todo:List Item) (v:Value),a'.defers=[]->wq P R Gu fc a'.tmps o' w' v->Post v o' w'->X o' (G {(base f).at a' todo with mode:=.returning} (cf::cs)) w':=by
  intro a' o' w' todo v hd hr hx;refine W.step _ _ _ rfl fun w1 h1=>?_;obtain⟨es,e1,e2⟩:=sT (main:=m) (b:=base f) (a:=a') (todo:=todo) (c:=cf) (cs:=cs) rfl hd hf (hr w1 h1).1;exact⟨_,_,es,e1,(hr w1 h1).2 es e2,by rw[bS];exact W.rely _ _ _ _ (hc v o' w' hx) h1⟩
 refine h (base f) [] _ rfl (by simp[base]) fun e a' o' w' q=>?_;obtain⟨he,hd,v,hr,hx⟩:=q;rcases he with rfl|rfl
 ·exact W.go rfl (fun _=>dG) (leave a' o' w' [] v hd hr hx)
 ·exact fun todo=>leave a' o' w' todo v hd hr hx
end
section
variable {T:cP} {i:Nat} {N:Nat->Bool} {o rc o':Nat->Prop} {w w' aI:ae} {F':iZ} {v v':Value}
theorem Ty{F:iZ}{wl w:ae}(W:WR F wl w){b off:Nat}{x:Value}(hK:F.K b)(hx:∀f,val f x=x)(hc:wl.cell? ⟨b,off,none⟩=some x):w.cell? ⟨F.φ b,off,none⟩=some x:=by
 obtain⟨f,hf⟩:=W.some;have h:=W.sr b hK f hf;simp only[World.cell?] at hc |-;rw[h];cases hb:wl.heap[b]? with
 |none=>rw[hb] at hc;cases hc
 |some y =>
  rw[hb] at hc;cases y<;>simp only[cR,obj] at hc |-<;>first|cases hc;done|skip
  simp only[Option.isSome_none,fl,if_false] at hc |-;simp only[br,hc,cR,hx f]
theorem Bc.cell(h:Bc T i N o rc o' w w' F' aI v v'){b off:Nat}{x:Value}(hN:N b=true)(hx:∀f,Ren.val f x=x)(hc:aI.cell? ⟨b,off,none⟩=some x):w'.cell? ⟨b,off,none⟩=some x:=by
 have:=Ty h.wr (h.keep b hN).1 hx hc;rwa[(h.keep b hN).2] at this
end
section
variable {P:Program} {T:cP} {i:Nat} {V:Nat->ae->Prop} {E:bH} {rc o:Nat->Prop} {w w':ae}
structure gx(A:Nat)(w w':ae):Prop where
 size:w'.heap.size=w.heap.size
 heap:∀b,b≠A->w'.heap[b]?=w.heap[b]?
 os:w'.os=w.os
 output:w'.output=w.output
theorem gx.set(w:ae)(A off:Nat)(v:Value):gx A w (w.setCell ⟨A,off,none⟩ v):=⟨by simp[World.setCell],fun b hb=>RowKit.Below.heap_setCell w _ _ b hb,rfl,rfl⟩
theorem gx.trans{A:Nat}{w w1 w2:ae}(h:gx A w w1)(k:gx A w1 w2):gx A w w2:=⟨k.size.trans h.size,fun b hb=>(k.heap b hb).trans (h.heap b hb),k.os.trans h.os,k.output.trans h.output⟩
theorem gx.Zi{A:Nat}(hT:T.OK)(h:gx A w w')(hA:o A)(Xp:T.H0<=A):JP T i o w w':=by
 have hh:∀b,T.Sh b->w'.heap[b]?=w.heap[b]?:=fun b hb=>h.heap b (by have:=(hT.sh b hb).1;omega);exact⟨bq h.size.symm,fun b _ hb _=>h.heap b fun e=>hb (e▸hA),fun b cs ty fz hb hx=>⟨cs,by rw[hh b hb];exact hx,rfl⟩,fun a ha _=>cell_of (hh _ ha),h.os,h.output⟩
theorem gx.A2{A:Nat}(hT:T.OK)(hi:i<T.n)(h:gx A w w')(Xp:T.H0<=A):cF T i (fun b=>o b/\b≠A) rc w w':=by
 have old:∀b,b<T.H0->w'.heap[b]?=w.heap[b]?:=fun b hb=>h.heap b aa;have nZ:∀k,k<T.n->w'.heap[T.ch k]?=w.heap[T.ch k]?:=fun k hk=>old _ (hT.ch k hk).1;refine⟨bq h.size.symm,fun b hb=>h.heap b hb.2,fun b h1 _ _ _=>old b h1,fun b cs ty fz hb hx=>⟨cs,by rw[old b (hT.sh b hb).1];exact hx,rfl⟩,fun a ha=>?_,fun k s r tm c hk hx=>⟨c,by rw[nZ k hk];exact hx,id⟩,nZ i hi,fQ (old _ hT.wg),h.os,h.output⟩;have key:∀k,T.js k (.cell a)->w'.cell? a=w.cell? a:=by
  intro k eH;obtain⟨a',e,hs⟩:=hT.ownSh k _ eH;cases e;exact cell_of (old _ (hT.sh _ hs).1)
 rcases ha with ha|⟨k,_,ha⟩
 ·exact key i ha
 ·exact key k ha
theorem wu{ad:Addr}{wt sy:Bool}(h:o ad.block):LF T i o rc ⟨.cell ad,wt,sy⟩:=by
 refine⟨fun x hx _=>.inl ⟨ad.block,h,?_⟩,an,an,an⟩;simp only[MemAct.ofEvent,MemAct.touch?,en] at hx;subst hx;rfl
structure p5(T:cP)(i:Nat)(rc:Nat->Prop)(A:Nat)(o:aM)(w:ae)(o':aM)(w':ae):Prop where
 rel:cF T i (fun b=>o b/\b≠A) rc w w'
 ok:fT T o' w'
 more:∀b,o b->o' b
theorem cB.vn{A:Nat}{o':aM}(h:cB T i rc o w o' w'):p5 T i rc A o w o' w':=⟨h.rel.less fun b hb=>hb.1,h.ok,h.more⟩
theorem p5.trans{A:Nat}{o' o2:aM}{w2:ae}(h:p5 T i rc A o w o' w')(k:p5 T i rc A o' w' o2 w2):p5 T i rc A o w o2 w2:=⟨h.rel.trans (k.rel.less fun b hb=>⟨h.more b hb.1,hb.2⟩),k.ok,fun b hb=>k.more b (h.more b hb)⟩
theorem p5.later{A:Nat}{o':aM}(h:p5 T i rc A o w o' w')(hA:¬o A):cB T i rc o w o' w':=⟨h.rel.less fun b hb=>⟨hb,fun e=>hA (e▸hb)⟩,h.ok,h.more⟩
theorem pf(hT:T.OK)(hi:i<T.n){fn:FuncId}{Q:Exit->Act->aM->ae->Prop}{a:Act}(fD:fT T o w){ops:Array Oper}{j:Nat}{rest:List Nat}{op:Oper}(ho:ops[j]?=some op)(hw:Region.wanted op (yielded ops a.tmps)=true)(A:Nat)(hA:o A){f:ae->ae}(cm:∀w1,w1.heap[A]?=w.heap[A]?->(execOp a.eval op).run P w1=.ok .skip (f w1))(hf:∀w1,gx A w1 (f w1))(iH:∀w1,w1.heap[A]?=w.heap[A]?->∀e∈(execOp a.eval op).events P w1 #[],∃ad wt sy,e=⟨.cell ad,wt,sy⟩/\ad.block=A)(h:∀w1,w1.heap[A]?=w.heap[A]?->p5 T i rc A o w o (f w1)->fu (XW P T i V E rc) fn ops rest Q (a.put op.dst undef) o (f w1)):fu (XW P T i V E rc) fn ops (j::rest) Q a o w:=by
 refine kO (cv rc) ho hw fun w1 kR K hK=>?_;have lY:=kR.own A hA;have Xp:=(fD.tK A hA).1;rw[cm w1 lY];simp only[uponK_skip];have hO:=hf w1;refine hK _ _ ⟨⟨hO.Zi hT hA Xp,fun e he=>?_⟩,?_⟩
 ·obtain⟨ad,wt,sy,rfl,e2⟩:=iH w1 lY e (mem_listed he);exact wu (.inl (by rw[e2];exact hA))
 ·rw[jU o hO.size];refine h w1 lY ⟨(kR.less fun b hb=>hb.1).trans (hO.A2 hT hi Xp),⟨fun b hb=>?_,?_⟩,fun _ hb=>hb⟩
  ·have:=fD.tK b hb;have:=kR.size;have:=hO.size;omega
  ·have:=fD.size;have:=kR.size;have:=hO.size;omega
theorem Xq{F:iZ}{wl w:ae}(W:WR F wl w){b t n:Nat}{g:Nat->Value}(hK:F.K b)(hg:∀j,j<n->∀f,val f (g j)=g j)(hr:wl.rowIs b t n g):w.rowIs (F.φ b) t n g:=by
 obtain⟨f,hf⟩:=W.some;obtain⟨c,hb,hn,hc⟩:=hr;refine⟨c.map (val f),?_,by simpa using hn,fun j hj=>?_⟩
 ·rw[W.sr b hK f hf,hb];rfl
 ·rw[br,hc j hj,cR,hg j hj f]
end
def b9(ops:Array Oper)(v:Nat->Value)(a:Act):List Nat->Act
 | []=>a
 |i::l=>b9 ops v (a.put ((ops[i]?).bind (·.dst)) (v i)) l
def fU(ops:Array Oper)(i:Nat):Option Tmp:=(ops[i]?).bind (·.dst)
section
variable {ops:Array Oper} {v:Nat->Value} {a:Act}
theorem gX(a:Act)(l l':List Nat):b9 ops v a (l++l')=b9 ops v (b9 ops v a l) l':=by
 induction l generalizing a with
 |nil=>rfl
 |cons i l ih=>exact ih _
theorem yS(l:List Nat):∀a:Act,(b9 ops v a l).tmps.size=a.tmps.size:=by
 induction l with
 |nil=>intro a;rfl
 |cons i l ih =>
  intro a;simp only[b9];rw[ih];unfold Act.put;split<;>simp
theorem jz(hd:∀i j d,i≠j->fU ops i=some d->fU ops j≠some d){l l':List Nat}(h:l.Perm l'):∀a:Act,b9 ops v a l=b9 ops v a l':=by
 induction h with
 |nil=>intro a;rfl
 |cons x _ ih=>intro a;exact ih _
 |swap x y l =>
  intro a;simp only[b9];by_cases e:x=y
  ·subst e;rfl
  ·exact congrArg (fun z=>b9 ops v z l) (Act.put_comm a (x:=fU ops y) (y:=fU ops x) (v y) (v x) (fun d Tv=>hd y x d (bc e) Tv))
 |trans _ _ ih1 ZU=>intro a;exact(ih1 a).trans (ZU a)
theorem nV{x:Operand}(l:List Nat):∀a:Act,(∀i∈l,∀d,fU ops i=some d->x≠.tmp d)->(b9 ops v a l).eval x=a.eval x:=by
 induction l with
 |nil=>intro a _;rfl
 |cons i l ih =>
  intro a h;simp only[b9];rw[ih _ (fun j hj=>h j (by simp[hj]))];exact Act.eval_put (fun d Tv=>h i an d Tv)
end
theorem pg:∀(n:Nat) (l:List Nat),l.Nodup->(∀x∈l,x<n)->l.length<=n:=by
 intro n
 induction n with
 |zero =>
  intro l _ h;cases l with
  |nil=>simp
  |cons x l=>have:=h x an;omega
 |succ n ih =>
  intro l hl h;have h1:=ih (l.erase n) (hl.erase n) fun x hx=>by
   have ui:=(List.Nodup.mem_erase_iff hl).1 hx;have:=h x ui.2;have:=ui.1;omega
  have h2:l.length<=(l.erase n).length+1:=by
   by_cases hm:n∈l
   ·rw[List.length_erase_of_mem hm];omega
   ·rw[List.erase_of_not_mem hm];omega
  omega
theorem go_acc(md:Region.Mode)(ops:Array Oper):∀(fuel t:Nat) (ls:Array Bool) (acc:List Nat),Region.linearise.go md ops fuel t ls acc=acc.reverse++Region.linearise.go md ops fuel t ls []:=by
 intro fuel
 induction fuel with
 |zero=>intro t ls acc;simp[Region.linearise.go]
 |succ n ih =>
  intro t ls acc;simp only[Region.linearise.go];split
  ·rename_i i hi;rw[ih _ _ (i::acc),ih _ _ [i]];simp
  ·simp
section
variable {P:Program} {m:Bool} {R:aM->ae->ae->Prop} {Gu:aM->ae->ae->Array Event->Prop} {X:aM->aS->ae->Prop} {fn:FuncId} {Q:Exit->Act->aM->ae->Prop} {a:Act} {o:aM} {w:ae}
theorem Tz(W:fg P m R Gu X)(vo:P.follows .mixedOrders=true){id n:Nat}{ops:Array Oper}(hn:ops.size=n+1){v:Nat->Value}{S:ae->Prop}(hS:∀w w1,S w->R o w w1->S w1)(Xr:∀w:ae,S w->S {w with drawn:=w.drawn+1})(Xs:∀w:ae,Gu o w {w with drawn:=w.drawn+1} #[])(h0:S w)(CU:∀(i:Nat) (op:Oper),ops[i]?=some op->∀e∈op.after,e.on<i)(P2:∀D:Nat->Prop,(∀(i:Nat) (op:Oper),ops[i]?=some op->D i->∀e∈op.after,Region.binds .any e=true->D e.on)->D n->∀j,j<=n->D j)(Qa:∀i j d,i≠j->fU ops i=some d->fU ops j≠some d)(eu:∀(i:Nat) (op:Oper),i<n->ops[i]?=some op->∀done:List Nat,done.Nodup->i∉done->(∀j∈done,j<n)->(∀e∈op.after,Region.binds .any e=true->e.on∈done)->∀w1,S w1 ->
   Region.wanted op (yielded ops (b9 ops v a done).tmps)=true/\(execOp (b9 ops v a done).eval op).run P w1=.ok (.value (v i)) w1/\Gu o w1 w1 (listed P fn (b9 ops v a done) op w1)){b:Frame}{k:List Item}{cs:List Frame}(hb:b.fn=fn)(hk:b.kind≠.early)(sP:∀w',S w'->X o (G (b.at (b9 ops v a (List.range n)) (.inRegion ops [n]::k)) cs) w'):
  X o (G (b.at a (.code (.region id ops true)::k)) cs) w:=by
 have key:∀(fuel t:Nat) (ls:Array Bool) (done:List Nat) (w:ae),S w->ls.size=n+1->done.Nodup->(∀j,ls.getD j false=true↔j∈done)->(∀j∈done,j<n)->(∀j∈done,∀op,ops[j]?=some op->∀e∈op.after,Region.binds .any e=true->e.on∈done)->fuel+done.length=n+1 ->
   X o (G (b.at (b9 ops v a done) (.inRegion ops (Region.linearise.go .any ops fuel t ls [])::k)) cs) w:=by
  intro fuel
  induction fuel with
  |zero =>
   intro t ls done w hw ft qZ DQ bZ _ VI;exfalso;have h1:=pg n done qZ bZ;simp at VI;omega
  |succ fuel ih =>
   intro t ls done w hw ft qZ DQ bZ eY VI;simp only[Region.linearise.go];generalize xU:(List.range ops.size).filter (fun i=>!ls.getD i true&&((ops[i]?).map (·.after.all fun e=>!Region.binds .any e||ls.getD e.on false)).getD false)=rs;have mem:∀i,i∈rs↔i<n+1/\i∉done/\∃op,ops[i]?=some op/\∀e∈op.after,Region.binds .any e=true->e.on∈done:=by
    intro i;rw[<- xU,ix,gy,hn];constructor
    ·rintro⟨h1,h2⟩;simp only[kD,aae] at h2;have lE:i<ls.size:=aa;have e1:ls.getD i true=ls.getD i false:=by simp[cO,lE]
     refine⟨h1,fun hd=>?_,?_⟩
     ·have:=(DQ i).2 hd;rw[<- e1,h2.1] at this;cases this
     ·cases ho:ops[i]? with
      |none=>rw[ho] at h2;simp at h2
      |some op =>
       rw[ho] at h2;refine⟨op,rfl,fun e he yT=>?_⟩;simp only[cR,y7,Array.all_eq_true'] at h2;have:=h2.2 e he;simp only[yT,Bool.not_true,Bool.false_or] at this;exact(DQ e.on).1 this
    ·rintro⟨h1,h2,op,ho,h3⟩;have lE:i<ls.size:=aa;have e1:ls.getD i true=ls.getD i false:=by simp[cO,lE]
     refine⟨h1,?_⟩;simp only[kD,aae];refine⟨?_,?_⟩
     ·rw[e1];cases hx:ls.getD i false with
      |false=>rfl
      |true=>exact absurd ((DQ i).1 hx) h2
     ·rw[ho];simp only[cR,y7,Array.all_eq_true'];intro e he;cases yT:Region.binds .any e with
      |false=>rfl
      |true=>simp only[Bool.not_true,Bool.false_or];exact(DQ e.on).2 (h3 e he yT)
   have cV:rs≠[]:=by
    intro e;have all:∀j,j<n+1->j∈done:=by
     intro j
     induction j using Nat.strongRecOn with
     |ind j ihj =>
      intro hj;refine aO fun hd=>?_;obtain⟨op,ho⟩:∃op,ops[j]?=some op:=⟨ops[j]'aa,aG aa⟩;have:j∈rs:=(mem j).2 ⟨hj,hd,op,ho,fun e he _=>ihj _ (CU j op ho e he) (by have:=CU j op ho e he;omega)⟩;rw[e] at this;cases this
    have:=bZ n (all n aa);omega
   have hlen:0<rs.length:=List.length_pos_iff.2 cV;obtain⟨i,hi⟩:∃i,rs[t%rs.length]?=some i:=⟨rs[t%rs.length]'(jh _ hlen),cp _⟩;simp only[hi];rw[go_acc];simp only[List.reverse_cons,List.reverse_nil,List.nil_append,List.cons_append];obtain⟨h1,h2,op,ho,h3⟩:=(mem i).1 (fK hi);by_cases pd:i=n
   ·
    subst pd;have all:∀j,j<=i->j∈i::done:=P2 (fun j=>j∈i::done) (fun j CV mr hj e he yT=>by
     rcases List.mem_cons.1 hj with rfl|hj
     ·rw[ho] at mr;cases mr;exact bo _ (h3 e he yT)
     ·exact bo _ (eY j hj CV mr e he yT)) an
    have hp:done.Perm (List.range i):=by
     refine(du qZ jK).2 fun j=>?_;rw[gy];constructor
     ·exact bZ j
     ·intro hj;rcases List.mem_cons.1 (all j aa) with e|e
      ·omega
      ·exact e
    have hdl:done.length=i:=by rw[hp.length_eq];simp
    have jW:fuel=0:=aa;subst jW;simp only[Region.linearise.go,List.reverse_nil];rw[jz Qa hp];exact sP w hw
   ·have Xt:i<n:=aa;refine W.step o _ w rfl fun w1 pO=>?_;have TA:=hS w w1 hw pO;obtain⟨g1,g2,g3⟩:=eu i op Xt ho done qZ h2 bZ h3 w1 TA;refine⟨_,w1,_,dN ho g1 hk g2,hb▸g3,?_⟩;rw[bS];have epa:(b9 ops v a done).put op.dst (v i)=b9 ops v a (done++[i]):=by
     rw[gX];simp[b9,ho]
    rw[epa];clear epa;refine ih (t/rs.length) (ls.setIfInBounds i true) (done++[i]) w1 TA (by simp[ft]) ?_ (fun j=>?_) (fun j hj=>?_) (fun j hj CV mr e he yT=>?_) eR
    ·exact List.nodup_append.2 ⟨qZ,an,fun x hx y hy=>by simp at hy;subst hy;rintro rfl;exact h2 hx⟩
    ·rw[dZ,iU];by_cases uI:i=j
     ·subst uI;simp[cO,show i<ls.size by omega]
     ·rw[cO,aJ uI,<- cO,DQ j];exact⟨.inl,fun h=>h.elim (fun h=>h) fun h=>absurd h.symm uI⟩
    ·rcases List.mem_append.1 hj with hj|hj
     ·exact bZ j hj
     ·simp at hj;omega
    ·rcases List.mem_append.1 hj with hj|hj
     ·exact List.mem_append.2 (.inl (eY j hj CV mr e he yT))
     ·simp at hj;subst hj;rw[ho] at mr;cases mr;exact List.mem_append.2 (.inl (h3 e he yT))
 refine W.step o _ w rfl fun w1 pO=>⟨_,_,_,stepG_region_draw,Xs w1,?_⟩;rw[jU o ai];have Qb:∀t,Region.schedule (P.follows .mixedOrders) ops t=Region.linearise.go .any ops (n+1) t (Array.replicate (n+1) false) []:=by
  intro t;simp[Region.schedule,vo,Region.linearise,hn]
 rw[Qb];have:=key (n+1) (w1.tape w1.drawn (.order b.fn id)) (Array.replicate (n+1) false) [] {w1 with drawn:=w1.drawn+1} (Xr _ (hS w w1 h0 pO)) an kE (fun j=>?_) an an an
 ·exact this
 ·simp only[cO,aad,iff_false];by_cases hj:j<n+1
  ·simp[hj]
  ·simp[hj]
theorem Np(W:fg P m R Gu X)(vo:P.follows .mixedOrders=true){id n:Nat}{ops:Array Oper}(hn:ops.size=n+1){v:Nat->Value}{S:aM->ae->Prop}(hS:∀o w w1,S o w->R o w w1->S o w1)(Xr:∀o (w:ae),S o w->S o {w with drawn:=w.drawn+1})(Xs:∀w:ae,Gu o w {w with drawn:=w.drawn+1} #[])(h0:S o w)(CU:∀(i:Nat) (op:Oper),ops[i]?=some op->∀e∈op.after,e.on<i)(P2:∀D:Nat->Prop,(∀(i:Nat) (op:Oper),ops[i]?=some op->D i->∀e∈op.after,Region.binds .any e=true->D e.on)->D n->∀j,j<=n->D j)(Qa:∀i j d,i≠j->fU ops i=some d->fU ops j≠some d)(eu:∀(i:Nat) (op:Oper),i<n->ops[i]?=some op->∀done:List Nat,done.Nodup->i∉done->(∀j∈done,j<n)->(∀e∈op.after,Region.binds .any e=true->e.on∈done)->∀o w rest,S o w ->
   (∀o' w',S o' w'->fu X fn ops rest Q ((b9 ops v a done).put op.dst (v i)) o' w')->fu X fn ops (i::rest) Q (b9 ops v a done) o w)(sP:∀o w,S o w->fu X fn ops [n] Q (b9 ops v a (List.range n)) o w):
  uJ X fn (.region id ops true) Q a o w:=by
 have key:∀(fuel t:Nat) (ls:Array Bool) (done:List Nat) (o:aM) (w:ae),S o w->ls.size=n+1->done.Nodup->(∀j,ls.getD j false=true↔j∈done)->(∀j∈done,j<n)->(∀j∈done,∀op,ops[j]?=some op->∀e∈op.after,Region.binds .any e=true->e.on∈done)->fuel+done.length=n+1 ->
   fu X fn ops (Region.linearise.go .any ops fuel t ls []) Q (b9 ops v a done) o w:=by
  intro fuel
  induction fuel with
  |zero =>
   intro t ls done o w hw ft qZ DQ bZ _ VI;exfalso;have h1:=pg n done qZ bZ;simp at VI;omega
  |succ fuel ih =>
   intro t ls done o w hw ft qZ DQ bZ eY VI;simp only[Region.linearise.go];generalize xU:(List.range ops.size).filter (fun i=>!ls.getD i true&&((ops[i]?).map (·.after.all fun e=>!Region.binds .any e||ls.getD e.on false)).getD false)=rs;have mem:∀i,i∈rs↔i<n+1/\i∉done/\∃op,ops[i]?=some op/\∀e∈op.after,Region.binds .any e=true->e.on∈done:=by
    intro i;rw[<- xU,ix,gy,hn];constructor
    ·rintro⟨h1,h2⟩;simp only[kD,aae] at h2;have lE:i<ls.size:=aa;have e1:ls.getD i true=ls.getD i false:=by simp[cO,lE]
     refine⟨h1,fun hd=>?_,?_⟩
     ·have:=(DQ i).2 hd;rw[<- e1,h2.1] at this;cases this
     ·cases ho:ops[i]? with
      |none=>rw[ho] at h2;simp at h2
      |some op =>
       rw[ho] at h2;refine⟨op,rfl,fun e he yT=>?_⟩;simp only[cR,y7,Array.all_eq_true'] at h2;have:=h2.2 e he;simp only[yT,Bool.not_true,Bool.false_or] at this;exact(DQ e.on).1 this
    ·rintro⟨h1,h2,op,ho,h3⟩;have lE:i<ls.size:=aa;have e1:ls.getD i true=ls.getD i false:=by simp[cO,lE]
     refine⟨h1,?_⟩;simp only[kD,aae];refine⟨?_,?_⟩
     ·rw[e1];cases hx:ls.getD i false with
      |false=>rfl
      |true=>exact absurd ((DQ i).1 hx) h2
     ·rw[ho];simp only[cR,y7,Array.all_eq_true'];intro e he;cases yT:Region.binds .any e with
      |false=>rfl
      |true=>simp only[Bool.not_true,Bool.false_or];exact(DQ e.on).2 (h3 e he yT)
   have cV:rs≠[]:=by
    intro e;have all:∀j,j<n+1->j∈done:=by
     intro j
     induction j using Nat.strongRecOn with
     |ind j ihj =>
      intro hj;refine aO fun hd=>?_;obtain⟨op,ho⟩:∃op,ops[j]?=some op:=⟨ops[j]'aa,aG aa⟩;have:j∈rs:=(mem j).2 ⟨hj,hd,op,ho,fun e he _=>ihj _ (CU j op ho e he) (by have:=CU j op ho e he;omega)⟩;rw[e] at this;cases this
    have:=bZ n (all n aa);omega
   have hlen:0<rs.length:=List.length_pos_iff.2 cV;obtain⟨i,hi⟩:∃i,rs[t%rs.length]?=some i:=⟨rs[t%rs.length]'(jh _ hlen),cp _⟩;simp only[hi];rw[go_acc];simp only[List.reverse_cons,List.reverse_nil,List.nil_append,List.cons_append];obtain⟨h1,h2,op,ho,h3⟩:=(mem i).1 (fK hi);by_cases pd:i=n
   ·
    subst pd;have all:∀j,j<=i->j∈i::done:=P2 (fun j=>j∈i::done) (fun j CV mr hj e he yT=>by
     rcases List.mem_cons.1 hj with rfl|hj
     ·rw[ho] at mr;cases mr;exact bo _ (h3 e he yT)
     ·exact bo _ (eY j hj CV mr e he yT)) an
    have hp:done.Perm (List.range i):=by
     refine(du qZ jK).2 fun j=>?_;rw[gy];constructor
     ·exact bZ j
     ·intro hj;rcases List.mem_cons.1 (all j aa) with e|e
      ·omega
      ·exact e
    have hdl:done.length=i:=by rw[hp.length_eq];simp
    have jW:fuel=0:=aa;subst jW;simp only[Region.linearise.go,List.reverse_nil];rw[jz Qa hp];exact sP o w hw
   ·have Xt:i<n:=aa;refine eu i op Xt ho done qZ h2 bZ h3 o w _ hw fun o1 w1 TA=>?_;have epa:(b9 ops v a done).put op.dst (v i)=b9 ops v a (done++[i]):=by
     rw[gX];simp[b9,ho]
    rw[epa];clear epa;refine ih (t/rs.length) (ls.setIfInBounds i true) (done++[i]) o1 w1 TA (by simp[ft]) ?_ (fun j=>?_) (fun j hj=>?_) (fun j hj CV mr e he yT=>?_) eR
    ·exact List.nodup_append.2 ⟨qZ,an,fun x hx y hy=>by simp at hy;subst hy;rintro rfl;exact h2 hx⟩
    ·rw[dZ,iU];by_cases uI:i=j
     ·subst uI;simp[cO,show i<ls.size by omega]
     ·rw[cO,aJ uI,<- cO,DQ j];exact⟨.inl,fun h=>h.elim (fun h=>h) fun h=>absurd h.symm uI⟩
    ·rcases List.mem_append.1 hj with hj|hj
     ·exact bZ j hj
     ·simp at hj;omega
    ·rcases List.mem_append.1 hj with hj|hj
     ·exact List.mem_append.2 (.inl (eY j hj CV mr e he yT))
     ·simp at hj;subst hj;rw[ho] at mr;cases mr;exact List.mem_append.2 (.inl (h3 e he yT))
 intro b k cs hb hk hc;refine W.step o _ w rfl fun w1 pO=>⟨_,_,_,stepG_region_draw,Xs w1,?_⟩;rw[jU o ai];have Qb:∀t,Region.schedule (P.follows .mixedOrders) ops t=Region.linearise.go .any ops (n+1) t (Array.replicate (n+1) false) []:=by
  intro t;simp[Region.schedule,vo,Region.linearise,hn]
 rw[Qb];have:=key (n+1) (w1.tape w1.drawn (.order b.fn id)) (Array.replicate (n+1) false) [] o {w1 with drawn:=w1.drawn+1} (Xr _ _ (hS o w w1 h0 pO)) an kE (fun j=>?_) an an an
 ·exact this b k cs hb hk hc
 ·simp only[cO,aad,iff_false];by_cases hj:j<n+1
  ·simp[hj]
  ·simp[hj]
end
section
variable {P:Program} {T:cP} {i:Nat} {V:Nat->ae->Prop} {E:bH}
abbrev wv:=Exit->Act->(Nat->Prop)->aM->ae->Prop
def J2(P:Program)(T:cP)(i:Nat)(V:Nat->ae->Prop)(E:bH)(fn:FuncId)(c:Code)(Q:wv)(a:Act)(rc:Nat->Prop)(o:aM)(w:ae):Prop :=
 ∀(b:Frame) (k:List Item) (cs:List Frame),b.fn=fn->b.kind≠.early->(∀e a' mX o' w',Q e a' mX o' w'->sQ (XW P T i V E mX) b k cs e a' o' w')->XW P T i V E rc o (G (b.at a (.code c::k)) cs) w
def Qc(M:Act->(Nat->Prop)->aM->ae->Prop)(Q:wv):wv
 | .normal,a,rc,o,w=>M a rc o w
 |e,a,rc,o,w=>Q e a rc o w
def wy(id:Nat)(Q:wv):wv
 | .exit PV,a,rc,o,w=>if PV=id then Q .normal a rc o w else Q (.exit PV) a rc o w
 |e,a,rc,o,w=>Q e a rc o w
variable {fn:FuncId} {Q:wv} {a:Act} {rc:Nat->Prop} {o:aM} {w:ae}
theorem ff{c:Code}(h:uJ (XW P T i V E rc) fn c (fun e a' o' w'=>Q e a' rc o' w') a o w):J2 P T i V E fn c Q a rc o w :=
 fun b k cs hb hk hc=>h b k cs hb hk fun e a' o' w' q=>hc e a' rc o' w' q
theorem kj{x y:Code}(h:J2 P T i V E fn x (Qc (fun a' mX o' w'=>J2 P T i V E fn y Q a' mX o' w') Q) a rc o w):J2 P T i V E fn (.seq x y) Q a rc o w:=by
 intro b k cs hb hk hc;refine(cv rc).go rfl (fun _=>ax) (h b (.code y::k) cs hb hk fun e a' mX o' w' q=>?_);cases e with
 |normal=>exact q b k cs hb hk hc
 |exit id=>exact(hc _ _ _ _ _ q).push rfl an
 |ret=>exact(hc _ _ _ _ _ q).push (y:=.code y) rfl an
 |goto l=>exact hc _ _ _ _ _ q
 |panic ch=>exact hc _ _ _ _ _ q
 |outgrown=>exact hc _ _ _ _ _ q
theorem Hc{c:Operand}{x y:Code}{t:Bool}(hc:a.eval c=.bool t)(ht:t=true->J2 P T i V E fn x Q a rc o w)(hf:t=false->J2 P T i V E fn y Q a rc o w):J2 P T i V E fn (.cond c x y) Q a rc o w:=by
 intro b k cs hb hk hq;refine(cv rc).go rfl (fun _=>dI hc) ?_;cases t with
 |true=>exact ht rfl b k cs hb hk hq
 |false=>exact hf rfl b k cs hb hk hq
theorem DR{id:Nat}{c:Code}(h:J2 P T i V E fn c (wy id Q) a rc o w):J2 P T i V E fn (.block id c) Q a rc o w:=by
 intro b k cs hb hk hc;refine(cv rc).go rfl (fun _=>eB) (h b (.inBlock id::k) cs hb hk fun e a' mX o' w' q=>?_);cases e with
 |normal=>exact(cv mX).go rfl (fun _=>fR) (hc _ _ _ _ _ q)
 |exit PV =>
  by_cases hid:PV=id
  ·simp only[wy,hid,if_true] at q;exact⟨k,by simp[exitTo,hid],hc _ _ _ _ _ q⟩
  ·simp only[wy,hid,if_false] at q;obtain⟨k',kY,hg⟩:=hc _ _ _ _ _ q;have:(id==PV)=false:=by simp;exact fun h=>hid h.symm
   exact⟨k',by simp[exitTo,this,kY],hg⟩
 |ret=>exact fun todo=>hc _ _ _ _ _ q todo
 |goto l=>exact hc _ _ _ _ _ q
 |panic ch=>exact hc _ _ _ _ _ q
 |outgrown=>exact hc _ _ _ _ _ q
theorem Qd{c:Code}(I:Nat->Act->(Nat->Prop)->aM->ae->Prop){N:Nat}(h0:I N a rc o w)(round:∀n a rc o w,I n a rc o w->J2 P T i V E fn c (Qc (fun a' mX o' w'=>∃n',n'<n/\I n' a' mX o' w') Q) a rc o w):J2 P T i V E fn (.loop c) Q a rc o w:=by
 intro b k cs hb hk hc;have key:∀N a rc o w,I N a rc o w->XW P T i V E rc o (G (b.at a (.code c :: .inLoop c::k)) cs) w:=by
  intro N
  induction N using Nat.strongRecOn with
  |ind N ih =>
   intro a rc o w hI;refine round N a rc o w hI b (.inLoop c::k) cs hb hk fun e a' mX o' w' q=>?_;cases e with
   |normal =>
    obtain⟨n',hn,Z1⟩:=q;exact(cv mX).go rfl (fun _=>ig) (ih n' hn a' mX o' w' Z1)
   |exit id=>exact(hc _ _ _ _ _ q).push rfl an
   |ret=>exact(hc _ _ _ _ _ q).push (y:=.inLoop c) rfl an
   |goto l=>exact hc _ _ _ _ _ q
   |panic ch=>exact hc _ _ _ _ _ q
   |outgrown=>exact hc _ _ _ _ _ q
 exact(cv rc).go rfl (fun _=>jj) (key N a rc o w h0)
def DT(P:Program)(T:cP)(i:Nat)(V:Nat->ae->Prop)(E:bH)(f:FuncId)(vs:Array Value)(rc:Nat->Prop)(o:aM)(w:ae)(Post:Value->(Nat->Prop)->aM->ae->Prop):Prop :=
 ∀(c:Frame) (cs:List Frame),(∀v mX o' w',Post v mX o' w'->XW P T i V E mX o' (G (c.finish v) cs) w')->XW P T i V E rc o (G (Frame.enter P f vs .normal) (c::cs)) w
theorem DT.mono{f:FuncId}{vs:Array Value}{Post G9:Value->(Nat->Prop)->aM->ae->Prop}(h:DT P T i V E f vs rc o w Post)(hp:∀v mX o' w',Post v mX o' w'->G9 v mX o' w'):DT P T i V E f vs rc o w G9 :=
 fun c cs hc=>h c cs fun v mX o' w' q=>hc v mX o' w' (hp v mX o' w' q)
theorem EV{f:FuncId}{fc:Func}{c:Code}{vs:Array Value}{Post:Value->(Nat->Prop)->aM->ae->Prop}(hf:P.funcs[f]?=some fc)(fo:fc.body=some c)(h:J2 P T i V E f c (fun e a' mX o' w'=>(e=.normal\/e=.ret)/\a'.defers=[]/\∃v,ResultsC P fc a'.tmps v/\Post v mX o' w') {tmps:=vs++Array.replicate (fc.ntmps-vs.size) undef,defers:=[]} rc o w):DT P T i V E f vs rc o w Post:=by
 intro cf cs hc;rw[ij hf fo];have leave:∀(a':Act) (mX:Nat->Prop) (o':aM) (w':ae) (todo:List Item) (v:Value),a'.defers=[]->ResultsC P fc a'.tmps v->Post v mX o' w'->XW P T i V E mX o' (G {(base f).at a' todo with mode:=.returning} (cf::cs)) w':=by
  intro a' mX o' w' todo v hd hr hx;refine(cv mX).go rfl (fun w1=>?_) (hc v mX o' w' hx);rw[stepG_leave (b:=base f) rfl hd hf (hr w1).1 (hr w1).2]
 refine h (base f) [] _ rfl (by simp[base]) fun e a' mX o' w' q=>?_;obtain⟨he,hd,v,hr,hx⟩:=q;rcases he with rfl|rfl
 ·exact(cv mX).go rfl (fun _=>dG) (leave a' mX o' w' [] v hd hr hx)
 ·exact fun todo=>leave a' mX o' w' todo v hd hr hx
def uk(P:Program)(T:cP)(i:Nat)(V:Nat->ae->Prop)(E:bH)(fn:FuncId)(ops:Array Oper)(todo:List Nat)(Q:wv)(a:Act)(rc:Nat->Prop)(o:aM)(w:ae):Prop :=
 ∀(b:Frame) (k:List Item) (cs:List Frame),b.fn=fn->b.kind≠.early->(∀e a' mX o' w',Q e a' mX o' w'->sQ (XW P T i V E mX) b k cs e a' o' w')->XW P T i V E rc o (G (b.at a (.inRegion ops todo::k)) cs) w
theorem J3{id:Nat}{ops:Array Oper}(h:uk P T i V E fn ops (List.range ops.size) Q a rc o w):J2 P T i V E fn (.region id ops false) Q a rc o w :=
 fun b k cs hb hk hc=>(cv rc).go rfl (fun _=>aV) (h b k cs hb hk hc)
theorem wz{ops:Array Oper}{todo:List Nat}(h:fu (XW P T i V E rc) fn ops todo (fun e a' o' w'=>Q e a' rc o' w') a o w):uk P T i V E fn ops todo Q a rc o w :=
 fun b k cs hb hk hc=>h b k cs hb hk fun e a' o' w' q=>hc e a' rc o' w' q
theorem pj{m:Bool}{ops:Array Oper}{j:Nat}{rest:List Nat}{op:Oper}{f:FuncId}{fc:Func}{c:Code}{args:Array Operand}{rR:Array TypeId}{b:Frame}{k:List Item}{cs:List Frame}(ho:ops[j]?=some op)(hw:Region.wanted op (yielded ops a.tmps)=true)(hk:b.kind≠.early)(eu:op.op=.call {callee:=.value (.func f),args,argTypes:=rR})(hf:P.funcs[f]?=some fc)(gF:(fc.name == "runtime.NumGoroutine")=false)(fo:fc.body=some c)(w1:ae):
  stepG P m (G (b.at a (.inRegion ops (j::rest)::k)) cs) w1=.go (G (Frame.enter P f (args.map a.eval) .normal) (b.at a (.inRegion ops (j::rest)::k)::cs)) w1 #[]:=by
 rw[ij hf fo];have:=goes_call (P:=P) (main:=m) (b:=b) (k:=k) (cs:=cs) (w:=w1) (K:=fun g' w' es=>stepG P m (G (b.at a (.inRegion ops (j::rest)::k)) cs) w1=.go g' w' es->stepG P m (G (b.at a (.inRegion ops (j::rest)::k)) cs) w1=.go (G ((base f).at {tmps:=args.map a.eval++Array.replicate (fc.ntmps-(args.map a.eval).size) undef,defers:=[]} [.code c]) (b.at a (.inRegion ops (j::rest)::k)::cs)) w1 #[]) ho hw hk eu hf gF fo (fun e=>e);cases hg:stepG P m (G (b.at a (.inRegion ops (j::rest)::k)) cs) w1 with
 |go g' w' es=>rw[hg,goes_go] at this;rw[<- this rfl]
 |_=>rw[hg] at this;exact this.elim
theorem J4{ops:Array Oper}{j:Nat}{rest:List Nat}{op:Oper}{f:FuncId}{fc:Func}{c:Code}{args:Array Operand}{rR:Array TypeId}(ho:ops[j]?=some op)(hw:Region.wanted op (yielded ops a.tmps)=true)(eu:op.op=.call {callee:=.value (.func f),args,argTypes:=rR})(hf:P.funcs[f]?=some fc)(gF:(fc.name == "runtime.NumGoroutine")=false)(fo:fc.body=some c){vs:Array Value}(Nk:args.map a.eval=vs){d:Option Tmp}(hd:op.dst=d)(h:DT P T i V E f vs rc o w fun v mX o' w'=>uk P T i V E fn ops rest Q (a.put d v) mX o' w'):uk P T i V E fn ops (j::rest) Q a rc o w:=by
 subst Nk hd;intro b k cs hb hk hc;refine(cv rc).go rfl (fun w1=>pj ho hw hk eu hf gF fo w1) (h _ _ fun v mX o' w' q=>?_);rw[show(b.at a (.inRegion ops (j::rest)::k)).finish v=b.at (a.put op.dst v) (.inRegion ops rest::k) by rw[dF,ho];rfl];exact q b k cs hb hk hc
theorem Nq{ops:Array Oper}{j:Nat}{rest:List Nat}{op:Oper}(ho:ops[j]?=some op)(hw:Region.wanted op (yielded ops a.tmps)=true){k:Nat}{z:Value}{f:Bool}(wB:T.dep i k)(cm:∀w1,(execOp a.eval op).run P w1=.ok (.comm #[rcase (T.ch k) z] true (.recv f)) w1)(iH:∀w1,(execOp a.eval op).events P w1 #[]=#[]){d:Option Tmp}(hd:op.dst=d)(h:∀w1,cF T i o rc w w1->V k w1->uk P T i V E fn ops rest Q (a.put d (recvd f z false)) (fun b=>rc b\/b=k) o w1):uk P T i V E fn ops (j::rest) Q a rc o w:=by
 subst hd;intro b kk cs hb hk hc;refine gj.intro ⟨rfl,.inr (.inl ⟨k,z,f,wB,fun w1 _=>?_,fun w1 pO hv=>?_⟩)⟩
 ·show stepG P false (G (b.at a (.inRegion ops (j::rest)::kk)) cs) w1=_;rw[stepG_comm ho hw hk (cm w1),listed_nil (iH w1)]
 ·have e:Go.Conc.served (G (b.at a (.inRegion ops (j::rest)::kk)) cs) (recvd f z false)=G (b.at (a.put op.dst (recvd f z false)) (.inRegion ops rest::kk)) cs:=by
   simp only[Go.Conc.served,G];rw[dF,ho];rfl
  show gj P T i V E ⟨Go.Conc.served (G (b.at a (.inRegion ops (j::rest)::kk)) cs) (recvd f z false),o,_,w1⟩;rw[e];exact h w1 pO hv b kk cs hb hk hc
theorem Qe(vo:P.follows .mixedOrders=true){id n:Nat}{ops:Array Oper}(hn:ops.size=n+1){v:Nat->Value}{S:ae->Prop}(hS:∀w w1,S w->cF T i o rc w w1->S w1)(h0:S w)(CU:∀(i:Nat) (op:Oper),ops[i]?=some op->∀e∈op.after,e.on<i)(P2:∀D:Nat->Prop,(∀(i:Nat) (op:Oper),ops[i]?=some op->D i->∀e∈op.after,Region.binds .any e=true->D e.on)->D n->∀j,j<=n->D j)(Qa:∀i j d,i≠j->fU ops i=some d->fU ops j≠some d)(eu:∀(j:Nat) (op:Oper),j<n->ops[j]?=some op->∀done:List Nat,done.Nodup->j∉done->(∀j∈done,j<n)->(∀e∈op.after,Region.binds .any e=true->e.on∈done)->∀w1,S w1 ->
   Region.wanted op (yielded ops (b9 ops v a done).tmps)=true/\(execOp (b9 ops v a done).eval op).run P w1=.ok (.value (v j)) w1/\∀e∈listed P fn (b9 ops v a done) op w1,LF T i o rc e)(sP:∀w',S w'->uk P T i V E fn ops [n] Q (b9 ops v a (List.range n)) rc o w'):
  J2 P T i V E fn (.region id ops true) Q a rc o w:=by
 intro b k cs hb hk hc;refine Tz (cv rc) vo hn hS (fun w h=>hS _ _ h (cF.at w _)) (fun w=>⟨?_,an⟩) h0 CU P2 Qa (fun j op h1 h2 done h2' h3 h4 h5 w1 h6=>?_) hb hk fun w' hw'=>sP w' hw' b k cs hb hk hc
 ·exact⟨ag _,fun _ _ _ _=>rfl,fun b cs ty fz _ h=>⟨cs,h,rfl⟩,fun _ _ _=>rfl,rfl,rfl⟩
 ·obtain⟨g1,g2,g3⟩:=eu j op h1 h2 done h2' h3 h4 h5 w1 h6;exact⟨g1,g2,.refl _ _,fun e he=>by rw[bS];exact g3 e he⟩
end
theorem vp{P:Program}{m:Bool}{b:Frame}{a:Act}{cs:List Frame}{todo:List Item}{ds:List Deferred}{rR:Array TypeId}{ty:TypeId}{cns:Array Bool}{c s r:Nat}{tm:Bool}{w:ae}(hd:a.defers={target:=.builtin .close rR ty cns,args:=#[.chan (some c)]}::ds)(hc:w.heap[c]?=some (.chan 0 #[] false s r tm))(hq:(P.funcs[b.fn]?).any (·.norace)=false):
  stepG P m (G {b.at a todo with mode:=.returning} cs) w=.go (G {b.at ⟨a.tmps,ds⟩ todo with mode:=.returning} cs) (w.setChan c 0 #[] true s r tm) (gf c):=by
 have hr:(invoke (.builtin .close rR ty cns) #[.chan (some c)]).run P w=.ok (.value (.tuple #[])) (w.setChan c 0 #[] true s r tm):=by
  simp[invoke,go_sem,run_close_open _ _ hc,World.setChan]
 have he:(invoke (.builtin .close rR ty cns) #[.chan (some c)]).events P w #[]=gf c:=by
  simp[invoke,go_sem,events_close_open _ _ hc,gf]
 have hl:seen P b.fn (gf c)=gf c:=seen_eq hq (by intro e he f;simp only[gf,List.mem_toArray,gQ,aad,or_false] at he;rcases he with rfl|rfl<;>simp);simp[G,stepG,unwind,callDeferred,Frame.at,hd,Sem.runT_eq,hr,he,hl,GStep.after]
def Qf(ops:Array Oper)(n:Nat):Bool:=(List.range n).all fun j=>(List.range (n+1)).any fun i=>decide (j<i)&&match ops[i]? with|none=>false|some op=>op.after.any fun e=>Region.binds .any e&&e.on==j
def Bd(ops:Array Oper)(n:Nat):Bool :=
 (ops.size==n+1) &&
 (List.range (n+1)).all (fun i=>match ops[i]? with
  |none=>false
  |some op=>op.after.all (fun e=>decide (e.on<i))&&op.guard.isNone&&(match op.op with|.select ..=>false|_=>true) &&
    (List.range (n+1)).all (fun j=>j==i||match fU ops j with
     |none=>true
     |some d=>fU ops i != some d&&(!(op.looksAt ops).contains d||op.after.any (fun e=>Region.binds .any e&&e.on==j)))) &&
 Qf ops n
section
variable {ops:Array Oper} {n:Nat}
structure Qg(ops:Array Oper)(n:Nat):Prop where
 size:ops.size=n+1
 low:∀(i:Nat) (op:Oper),ops[i]?=some op->∀e∈op.after,e.on<i
 cov:∀D:Nat->Prop,(∀(i:Nat) (op:Oper),ops[i]?=some op->D i->∀e∈op.after,Region.binds .any e=true->D e.on)->D n->∀j,j<=n->D j
 dst:∀i j d,i≠j->fU ops i=some d->fU ops j≠some d
 guard:∀(i:Nat) (op:Oper),ops[i]?=some op->op.guard=none
 sel:∀(i:Nat) (op:Oper),ops[i]?=some op->∀cs b,op.op≠.select cs b
 look:∀(i:Nat) (op:Oper),ops[i]?=some op->∀j d,j≠i->fU ops j=some d->d∈op.looksAt ops->∃e∈op.after,Region.binds .any e=true/\e.on=j
theorem yU(h:Bd ops n=true):Qg ops n:=by
 simp only[Bd,kD,beq_iff_eq,List.all_eq_true,List.mem_range] at h;obtain⟨⟨hs,h1⟩,h2⟩:=h;have lt:∀(i:Nat) (op:Oper),ops[i]?=some op->i<n+1:=fun i op ho=>by have:=(Array.getElem?_eq_some_iff.1 ho).1;omega
 have all:∀(i:Nat) (op:Oper),ops[i]?=some op->(((op.after.all (fun e=>decide (e.on<i))=true/\op.guard.isNone=true)/\(match op.op with|.select ..=>false|_=>true)=true) /\
   ∀j,j<n+1->(j=i\/(match fU ops j with|none=>true|some d=>fU ops i != some d&&(!(op.looksAt ops).contains d||op.after.any (fun e=>Region.binds .any e&&e.on==j)))=true)):=by
  intro i op ho;have:=h1 i (lt i op ho);simp only[ho,kD,List.all_eq_true,List.mem_range,Bool.or_eq_true,beq_iff_eq] at this;exact this
 refine⟨hs,fun i op ho e he=>?_,fun D hD hn=>?_,fun i j d DU hi hj=>?_,fun i op ho=>?_,fun i op ho cs b e=>?_,fun i op ho j d uI hj hl=>?_⟩
 ·have:=(all i op ho).1.1.1;rw[iV] at this;simpa using this e he
 ·have key:∀m j,j+m=n->D j:=by
   intro m
   induction m using Nat.strongRecOn with
   |ind m ih =>
    intro j hjm;rcases aZ m with rfl|hm
    ·have:j=n:=aa;rw[this];exact hn
    ·unfold Qf at h2;simp only[List.all_eq_true,List.mem_range,List.any_eq_true,kD,decide_eq_true_eq] at h2;obtain⟨i,hi,uI,hx⟩:=h2 j aa;cases ho:ops[i]? with
     |none=>rw[ho] at hx;cases hx
     |some op =>
      rw[ho] at hx;simp only[Array.any_eq_true,kD,beq_iff_eq] at hx;obtain⟨q,hq,hb,he⟩:=hx;rw[<- he];exact hD i op ho (ih (n-i) aa i aa) _ (jl hq) hb
  exact fun j hj=>key (n-j) j aa
 ·obtain⟨op,ho⟩:∃op,ops[i]?=some op:=by
   cases ho:ops[i]? with
   |none=>simp[fU,ho] at hi
   |some op=>exact⟨op,rfl⟩
  obtain⟨CV,mr⟩:∃op,ops[j]?=some op:=by
   cases ho:ops[j]? with
   |none=>simp[fU,ho] at hj
   |some op=>exact⟨op,rfl⟩
  rcases(all i op ho).2 j (lt j CV mr) with e|e
  ·exact DU e.symm
  ·rw[hj] at e;simp only[kD,bne_iff_ne] at e;exact e.1 hi
 ·simpa using(all i op ho).1.1.2
 ·have:=(all i op ho).1.2;rw[e] at this;cases this
 ·obtain⟨CV,mr⟩:∃op,ops[j]?=some op:=by
   cases ho:ops[j]? with
   |none=>simp[fU,ho] at hj
   |some op=>exact⟨op,rfl⟩
  rcases(all i op ho).2 j (lt j CV mr) with e|e
  ·exact absurd e uI
  ·rw[hj] at e;simp only[kD,Bool.or_eq_true,aae,List.contains_eq_mem,decide_eq_false_iff_not] at e;rcases e.2 with e|e
   ·exact absurd hl e
   ·simp only[Array.any_eq_true,kD,beq_iff_eq] at e;obtain⟨q,hq,hb,he⟩:=e;exact⟨_,jl hq,hb,he⟩
variable {v:Nat->Value} {a:Act}
theorem nA{op:Oper}{t:Tmp}(h:Operand.tmp t∈op.op.operands):t∈op.looksAt ops:=by
 unfold Oper.looksAt;refine List.mem_append.2 (.inl (List.mem_filterMap.2 ⟨.tmp t,?_,rfl⟩));simpa using h
theorem DV(H:Qg ops n){i:Nat}{op:Oper}(ho:ops[i]?=some op){done:List Nat}(qZ:done.Nodup)(hi:i∉done)(wB:∀e∈op.after,Region.binds .any e=true->e.on∈done):
  ∀x∈op.op.operands,(b9 ops v a done).eval x=(b9 ops v a (List.range i)).eval x:=by
 intro x hx;let p:Nat->Bool:=fun j=>op.after.any fun e=>Region.binds .any e&&e.on==j;have drop:∀l:List Nat,i∉l->(b9 ops v a l).eval x=(b9 ops v a (l.filter p)).eval x:=by
  intro l VO;have hp:=(gz p l).symm;rw[jz H.dst hp,gX];refine nV _ _ fun k hk d hd hl=>?_;subst hl;obtain⟨J5,SK⟩:=List.mem_filter.1 hk;obtain⟨e,he,hb,rfl⟩:=H.look i op ho k d (fun e=>VO (e▸J5)) hd (nA hx);simp only[p,aae] at SK;have:(op.after.any fun e'=>Region.binds .any e'&&e'.on==e.on)=true:=by
   rw[gl];exact⟨e,he,by simp[hb]⟩
  rw[this] at SK;cases SK
 rw[drop done hi,drop (List.range i) an];have Qh:(done.filter p).Perm ((List.range i).filter p):=by
  refine(du (qZ.filter _) (List.nodup_range.filter _)).2 fun j=>?_;simp only[List.mem_filter,List.mem_range];constructor
  ·rintro⟨h1,h2⟩;refine⟨?_,h2⟩;simp only[p,Array.any_eq_true',kD,beq_iff_eq] at h2;obtain⟨e,he,hb,rfl⟩:=h2;exact H.low i op ho e he
  ·rintro⟨h1,h2⟩;refine⟨?_,h2⟩;simp only[p,Array.any_eq_true',kD,beq_iff_eq] at h2;obtain⟨e,he,hb,rfl⟩:=h2;exact wB e he hb
 rw[jz H.dst Qh]
end
def lZ(ok:Oper->Value->Act->Prop)(ops:Array Oper)(K:Act->Prop):List Nat->List Value->Act->Prop
 | [],[],a=>K a
 |j::l,v::vs,a=>(∃op,ops[j]?=some op/\ok op v a)/\lZ ok ops K l vs (a.put (fU ops j) v)
 |_,_,_=>False
theorem cu{ok:Oper->Value->Act->Prop}{ops:Array Oper}{K:Act->Prop}{j:Nat}{l:List Nat}{v:Value}{vs:List Value}{a:Act}{op:Oper}{d:Option Tmp}(ho:ops[j]?=some op)(hd:op.dst=d)(ja:ok op v a)(h:lZ ok ops K l vs (a.put d v)):lZ ok ops K (j::l) (v::vs) a :=
 ⟨⟨op,ho,ja⟩,by subst hd;simpa[fU,ho] using h⟩
theorem nB{ok:Oper->Value->Act->Prop}{ops:Array Oper}{K:Act->Prop}{a:Act}(h:K a):lZ ok ops K [] [] a:=h
theorem lZ.all{ok:Oper->Value->Act->Prop}{ops:Array Oper}{K:Act->Prop}:∀{m k:Nat} {vs:List Value} {v:Nat->Value} {a:Act},lZ ok ops K (List.range' k m) vs (b9 ops v a (List.range k))->(∀j,j<m->v (k+j)=vs.getD j undef) ->
  (∀j op,k<=j->j<k+m->ops[j]?=some op->ok op (v j) (b9 ops v a (List.range j)))/\K (b9 ops v a (List.range (k+m))):=by
 intro m
 induction m with
 |zero =>
  intro k vs v a h hv;cases vs with
  |nil=>exact⟨fun j op h1 h2=>aa,h⟩
  |cons x l=>exact h.elim
 |succ m ih =>
  intro k vs v a h hv;cases vs with
  |nil=>rw[gR] at h;exact h.elim
  |cons x l =>
   rw[gR] at h;obtain⟨⟨op,ho,ja⟩,hr⟩:=h;have hx:v k=x:=by have:=hv 0 aa;simpa using this
   have zE:(b9 ops v a (List.range k)).put (fU ops k) x=b9 ops v a (List.range (k+1)):=by
    rw[List.range_succ,gX];simp[b9,fU,hx]
   rw[zE] at hr;have:=ih (k:=k+1) (vs:=l) hr (fun j hj=>by have:=hv (j+1) aa;rw[show k+(j+1)=k+1+j by omega] at this;simpa using this);refine⟨fun j CV h1 h2 mr=>?_,by rw[show k+(m+1)=k+1+m by omega];exact this.2⟩;by_cases e:j=k
   ·subst e;rw[ho] at mr;cases mr;rw[hx];exact ja
   ·exact this.1 j CV aa aa mr
section
variable {P:Program} {m:Bool} {R:aM->ae->ae->Prop} {Gu:aM->ae->ae->Array Event->Prop} {X:aM->aS->ae->Prop} {fn:FuncId} {Q:Exit->Act->aM->ae->Prop} {a:Act} {o:aM} {w:ae}
def okX(P:Program)(Gu:aM->ae->ae->Array Event->Prop)(X:aM->aS->ae->Prop)(fn:FuncId)(S:aM->ae->Prop)(op:Oper)(v:Value)(a:Act):Prop :=
 (∀o w1,S o w1->(execOp a.eval op).run P w1=.ok (.value v) w1/\Gu o w1 w1 (listed P fn a op w1)) \/
 (∃f fc c args rR,op.op=.call {callee:=.value (.func f),args,argTypes:=rR}/\P.funcs[f]?=some fc/\(fc.name == "runtime.NumGoroutine")=false/\fc.body=some c/\∀o w,S o w->bp P X f (args.map a.eval) o w fun v' o' w'=>v'=v/\S o' w')
theorem oy{op:Oper}{y:Nat->Option Bool}(h:op.guard=none):Region.wanted op y=true:=by simp[Region.wanted,h]
theorem oz{op:Oper}{f:FuncId}{args:Array Operand}{rR:Array TypeId}{a a':Act}(eu:op.op=.call {callee:=.value (.func f),args,argTypes:=rR})(h:∀x∈op.op.operands,a.eval x=a'.eval x):args.map a.eval=args.map a'.eval:=by
 refine dH fun x hx=>h x ?_;rw[eu];simp only[Op.operands,Call.operands];simp[hx]
theorem Nr(W:fg P m R Gu X)(vo:P.follows .mixedOrders=true){id n:Nat}{ops:Array Oper}(ja:Bd ops n=true)(vs:List Value){S:aM->ae->Prop}(hS:∀o w w1,S o w->R o w w1->S o w1)(Xr:∀o (w:ae),S o w->S o {w with drawn:=w.drawn+1})(Xs:∀w:ae,Gu o w {w with drawn:=w.drawn+1} #[])(h0:S o w)(vk:lZ (okX P Gu X fn S) ops (fun a'=>∀o w,S o w->fu X fn ops [n] Q a' o w) (List.range n) vs a):uJ X fn (.region id ops true) Q a o w:=by
 have H:=yU ja;rw[il] at vk;obtain⟨h1,h2⟩:=lZ.all (v:=fun j=>vs.getD j undef) (k:=0) (a:=a) vk (fun j _=>an);rw[bh] at h2;refine Np W vo H.size hS Xr Xs h0 H.low H.cov H.dst (fun i op hi ho done qZ hid bZ wB o w rest SL hk=>?_) h2;have hw:=oy (y:=yielded ops (b9 ops (fun j=>vs.getD j undef) a done).tmps) (H.guard i op ho);have iH:=DV (v:=fun j=>vs.getD j undef) (a:=a) H ho qZ hid wB;have hex:=execOp_congr op (H.sel i op ho) iH;rcases h1 i op (aQ _) aa ho with hp|⟨f,fc,c,args,rR,eu,hf,xV,hb,hC⟩
 ·refine kO W ho hw fun w1 kR K hK=>?_;obtain⟨e1,e2⟩:=hp o w1 (hS _ _ _ SL kR);rw[hex,e1];simp only[uponK_value];refine hK _ _ ⟨?_,by rw[bS];exact hk o w1 (hS _ _ _ SL kR)⟩;unfold listed at e2 |-;rw[hex];exact e2
 ·refine aF W ho hw eu hf xV hb (oz eu iH) rfl ((hC o w SL).mono ?_);rintro v' o' w' ⟨rfl,hS'⟩;exact hk o' w' hS'
end
section
variable {P:Program} {T:cP} {i:Nat} {V:Nat->ae->Prop} {E:bH} {fn:FuncId} {a:Act} {rc:Nat->Prop} {o:aM} {w:ae}
theorem J6(o:aM)(w:ae):G1 T i rc o w {w with drawn:=w.drawn+1} #[]:=⟨⟨ag _,fun _ _ _ _=>rfl,fun b cs ty fz _ h=>⟨cs,h,rfl⟩,fun _ _ _=>rfl,rfl,rfl⟩,an⟩
theorem tL{Q:Exit->Act->aM->ae->Prop}(vo:P.follows .mixedOrders=true){id n:Nat}{ops:Array Oper}(ja:Bd ops n=true)(vs:List Value){S:aM->ae->Prop}(hS:∀o w w1,S o w->cF T i o rc w w1->S o w1)(h0:S o w)(vk:lZ (okX P (G1 T i rc) (XW P T i V E rc) fn S) ops (fun a'=>∀o w,S o w->fu (XW P T i V E rc) fn ops [n] Q a' o w) (List.range n) vs a):uJ (XW P T i V E rc) fn (.region id ops true) Q a o w :=
 Nr (cv rc) vo ja vs hS (fun o w h=>hS _ _ _ h (cF.at w _)) (J6 o) h0 vk
theorem Ns{Q:wv}(vo:P.follows .mixedOrders=true){id n:Nat}{ops:Array Oper}(ja:Bd ops n=true)(vs:List Value){S:ae->Prop}(hS:∀w w1,S w->cF T i o rc w w1->S w1)(h0:S w)(vk:lZ (fun op v a=>∀w1,S w1->(execOp a.eval op).run P w1=.ok (.value v) w1/\∀e∈(execOp a.eval op).events P w1 #[],LF T i o rc e) ops (fun a'=>∀w,S w->uk P T i V E fn ops [n] Q a' rc o w) (List.range n) vs a):J2 P T i V E fn (.region id ops true) Q a rc o w:=by
 have H:=yU ja;rw[il] at vk;obtain⟨h1,h2⟩:=lZ.all (v:=fun j=>vs.getD j undef) (k:=0) (a:=a) vk (fun j _=>an);rw[bh] at h2;refine Qe vo H.size hS h0 H.low H.cov H.dst (fun j op hj ho done qZ hid bZ wB w1 pO=>?_) h2;have iH:=DV (v:=fun j=>vs.getD j undef) (a:=a) H ho qZ hid wB;have hex:=execOp_congr op (H.sel j op ho) iH;obtain⟨e1,e2⟩:=h1 j op (aQ _) aa ho w1 pO;refine⟨oy (H.guard j op ho),by rw[hex];exact e1,fun e he=>e2 e ?_⟩;have:=mem_listed he;rw[hex] at this;exact this
theorem jL{S:aM->ae->Prop}{op:Oper}{v:Value}(h:∀o w1,S o w1->(execOp a.eval op).run P w1=.ok (.value v) w1/\∀e∈(execOp a.eval op).events P w1 #[],LF T i o rc e):okX P (G1 T i rc) (XW P T i V E rc) fn S op v a :=
 .inl fun o w1 hw=>⟨(h o w1 hw).1,.refl _ _,fun e he=>by rw[bS];exact(h o w1 hw).2 e (mem_listed he)⟩
end
section
variable {ops:Array Oper} {a:Act}
theorem q9{v v':Nat->Value}:∀(l:List Nat) {a:Act},(∀j∈l,v j=v' j)->b9 ops v a l=b9 ops v' a l:=by
 intro l
 induction l with
 |nil=>intro a _;rfl
 |cons i l ih =>
  intro a h;simp only[b9];rw[h i an];exact ih fun j hj=>h j (by simp[hj])
end
section
variable {P:Program} {m:Bool} {R:aM->ae->ae->Prop} {Gu:aM->ae->ae->Array Event->Prop} {X:aM->aS->ae->Prop} {fn:FuncId} {Q:Exit->Act->aM->ae->Prop} {a:Act} {o:aM} {w:ae}
def Fits(v:Nat->Value)(σ:Nat->Option Value):Prop:=∀j y,σ j=some y->v j=y
end
section
open Go.ConcR (g_of_ofEvents)
structure lN(d:Nat)(S:Nat->Prop)(t:Trace):Prop where
 clean:∀said,¬Race said t
 known:∀i a,touchAt t i=some a->a.loc.isMemory=true->Knows t 0 i\/(sK S a.loc/\a.kind=.atomic)
 over:t.HandedOver
 deaf:Deaf t 0=d
def EvB(S:Nat->Prop)(e:Event):Prop:=∀x,(MemAct.ofEvent e).touch?=some x->sK S x.loc->x.kind≠.plain
section
variable {d:Nat} {S:Nat->Prop} {t u:Trace}
theorem lN.Pw(h:lN 0 S t):∃B,∀M,Past (sK S) (B+M) t:=by
 obtain⟨B,hB⟩:=@G0 (Go.ConcR.Payload.mk 0) t;exact⟨B,fun M=>⟨h.clean,h.known,h.over,h.deaf,fun op eu=>MemAct.low_mono (aaq _ _) (hB op eu)⟩⟩
theorem lN.of{B:Nat}(h:Past (sK S) B t):lN 0 S t:=⟨h.clean,h.known,h.over,h.hears⟩
theorem lN.own(h:lN d S t){fn:FuncId}{pos:String}{es:Array Event}(GJ:∀e∈es,EvB S e):lN (deafBehind d es) S (t++MemOp.ofEvents 0 fn pos es):=by
 have hu:∀op∈MemOp.ofEvents 0 fn pos es,op.g=0:=g_of_ofEvents;refine⟨fun said=>noRace_append (h.clean said) hu fun i a ha op eu b hb hc=>?_,fun i a ha hm=>?_,handedOver_app h.over fun op eu=>.inl (hu op eu),by rw[Deaf_own,h.deaf]⟩
 ·rcases h.known i a ha hc.2.1 with hk|⟨hsa,hka⟩
  ·exact hk
  ·obtain⟨e,he,rfl⟩:=Go.Conc.mem_ofEvents eu;have hkb:=GJ e he b hb (hc.1▸hsa);obtain⟨_,_,_,fy⟩:=hc;rw[hka] at fy;rcases fy with x|x|⟨_,x,_⟩
   ·cases x
   ·exact absurd x hkb
   ·cases x
 ·obtain⟨x,hx,Vz⟩:=touch_of ha;rcases getElem?_append_cases hx with⟨_,kB⟩|⟨_,hxu⟩
  ·exact(h.known i a (by rw[touchAt_of kB];exact Vz) hm).imp (·.app _) id
  ·have:=knows_own hx;rw[hu x hxu] at this;exact .inl this
theorem lN.mute(h:lN d S t){g:Nat}(hg:g≠0){fn:FuncId}{pos:String}{es:Array Event}(hm:∀e∈es,e.mute=true):lN d S (t++MemOp.ofEvents g fn pos es):=by
 have hu:∀op∈MemOp.ofEvents g fn pos es,op.g=g:=g_of_ofEvents;have hn:∀op∈MemOp.ofEvents g fn pos es,op.act.touch?=none:=fun op eu=>by obtain⟨e,he,rfl⟩:=Go.Conc.mem_ofEvents eu;exact touch_mute (hm e he)
 refine⟨fun said=>noRace_append (h.clean said) hu fun i a _ op eu b hb _=>(by rw[hn op eu] at hb;cases hb),fun i a ha hm=>?_,handedOver_app h.over fun op eu=>.inr (hn op eu),(Deaf_other t hg _ hu).trans h.deaf⟩;obtain⟨x,hx,Vz⟩:=touch_of ha;rcases getElem?_append_cases hx with⟨_,kB⟩|⟨_,hxu⟩
 ·exact(h.known i a (by rw[touchAt_of kB];exact Vz) hm).imp (·.app _) id
 ·rw[hn x hxu] at Vz;cases Vz
end
def BX(P:Program)(Fin:bH)(d:Nat)(S:Nat->Prop)(g:aS)(w:ae):Prop :=
 ∀(gs:Array aS) (sl:Option (Nat×Nat)) (t:Trace) (q:Nat->Nat),gs[0]?=some g->Leavers P t gs q->lN d S t->(∀b,w.heap.size<=b->¬S b) ->
  ∃N gd w' qm t' q' S' g',runNT P N (crowd gs w sl) t=(.next (crowd gd w' qm),t')/\gd[0]?=some g'/\Leavers P t' gd q'/\lN 0 S' t'/\(∀b,w'.heap.size<=b->¬S' b)/\Fin S' g' w'
section
variable {P:Program} {Fin:bH} {d:Nat} {S:Nat->Prop} {g:aS} {w:ae}
theorem BX.fin(h:Fin S g w):BX P Fin 0 S g w:=fun gs sl t q h0 hL hP hS=>⟨0,gs,w,sl,t,q,S,g,rfl,h0,hL,hP,hS,h⟩
theorem BX.step(hs:g.status=.running)(h:∀w1,AtRel w w1->∃g' w' es,stepG P true g w1=.go g' w' es/\(∀e∈es,EvB S e)/\w1.heap.size<=w'.heap.size/\BX P Fin (deafBehind d es) S g' w'):BX P Fin d S g w:=by
 have key:∀(M:Nat) (gs:Array aS) (w2:ae) (sl:Option (Nat×Nat)) (t:Trace) (q:Nat->Nat),sumTo gs.size q<M->AtRel w w2->gs[0]?=some g->Leavers P t gs q->lN d S t->(∀b,w2.heap.size<=b->¬S b) ->
   ∃N gd w' qm t' q' S' g',runNT P N (crowd gs w2 sl) t=(.next (crowd gd w' qm),t')/\gd[0]?=some g'/\Leavers P t' gd q'/\lN 0 S' t'/\(∀b,w'.heap.size<=b->¬S' b)/\Fin S' g' w':=by
  intro M
  induction M with
  |zero=>intro gs w2 sl t q hM;exact absurd hM (dE _)
  |succ M ih =>
   intro gs w2 sl t q hM hr h0 hL hP hSh;have Vy:∀x∈gs,awake x:=by
    intro x hx;obtain⟨i,hi,rfl⟩:=Array.mem_iff_getElem.1 hx;rcases aZ i with rfl|nS
    ·have:gs[0]=g:=by simpa[Array.getElem?_eq_getElem hi] using h0
     rw[this];exact awake_of (.inl hs)
    ·exact awake_of ((hL.old i _ nS (aG hi)).status.elim .inl fun x=>.inr (.inr x))
   obtain⟨i,x,dd,qm,hi,hx,dW⟩:=crowd_pick (P:=P) (w:=w2) (sl:=sl) Vy ⟨0,g,h0,hs⟩;rcases aZ i with rfl|nS
   ·obtain rfl:x=g:=by rw[h0] at hi;exact(aK hi).symm
    obtain⟨g',w',es,e1,e2,e3,e4⟩:=h (w2.at dd) (atRel_trans _ _ _ hr ⟨dd,rfl⟩);have sL:=runT_crowd_go (P:=P) (sl:=qm) (i:=0) hi (show stepG P (0==0) x (w2.at dd)=_ from e1);have bZ:0<gs.size:=(Array.getElem?_eq_some_iff.1 h0).1;obtain⟨N,gd,w3,sl3,t3,q3,S3,g3,k1,k2⟩:=e4 ((gs.map (woken P x g' w')).setIfInBounds 0 g') qm (t++MemOp.ofEvents 0 x.frame.fn x.frame.place es) q (by simp[bZ])
     ⟨fun j y hj hy=>by
      have cV:0≠j:=aa;rw[aJ cV,br] at hy;obtain⟨z,hz,rfl⟩:=Option.map_eq_some_iff.1 hy;have hq:=hL.old j z hj hz;rw[woken_quitsD hq,Deaf_other t aa _ g_of_ofEvents];exact hq,fun j hj=>by
      rw[Deaf_other t (g':=0) (by simp at hj;omega) _ g_of_ofEvents];exact hL.above j (by simpa using hj)⟩
     (hP.own e2) (fun b hb=>hSh b (aR e3 hb))
    exact⟨N+1,gd,w3,sl3,t3,q3,S3,g3,by simp only[runNT,dW,sL];exact k1,k2⟩
   ·have hq:=hL.old i x nS hi;have Z7:(i==0)=false:=eR;have bZ:i<gs.size:=(Array.getElem?_eq_some_iff.1 hi).1;cases Xa:q i with
    |zero=>rw[Xa] at hq;rw[hq.1] at hx;cases hx
    |succ k =>
     rw[Xa] at hq;rcases hq with⟨hf,_⟩|⟨_,g',es,hm,Xb,EN⟩
     ·rw[hf] at hx;cases hx
     have sL:=runT_crowd_go (P:=P) (sl:=qm) (i:=i) hi (by rw[Z7];exact Xb (w2.at dd));have ft:((gs.map (woken P x g' (w2.at dd))).setIfInBounds i g').size=gs.size:=an;have aep:sumTo gs.size (upd q i k)+(k+1)=sumTo gs.size q+k:=by
      have:=sumTo_upd q k id bZ;simpa[Xa] using this
     obtain⟨N,gd,w3,sl3,t3,q3,S3,g3,k1,k2⟩:=ih ((gs.map (woken P x g' (w2.at dd))).setIfInBounds i g') (w2.at dd) qm (t++MemOp.ofEvents i x.frame.fn x.frame.place es) (upd q i k) (by rw[ft];omega) (atRel_trans _ _ _ hr ⟨dd,rfl⟩)
      (by
       have cV:i≠0:=aa;rw[aJ cV,br,h0];simp[woken_run hs])
      ⟨fun j y hj hy=>by
       by_cases uI:i=j
       ·subst uI;rw[bR (by simpa using bZ)] at hy;obtain rfl:=aK hy;rw[upd_same,Deaf_own];exact EN
       ·rw[aJ uI,br] at hy;obtain⟨z,hz,rfl⟩:=Option.map_eq_some_iff.1 hy;have Z8:=hL.old j z hj hz;rw[woken_quitsD Z8,upd_ne q k (bc uI),Deaf_other t uI _ g_of_ofEvents];exact Z8,fun j hj=>by
       rw[Deaf_other t (g':=i) (by simp at hj;omega) _ g_of_ofEvents];exact hL.above j (by simpa using hj)⟩
      (hP.mute aa hm) hSh
     exact⟨N+1,gd,w3,sl3,t3,q3,S3,g3,by simp only[runNT,dW,sL];exact k1,k2⟩
 intro gs sl t q h0 hL hP hSh;exact key (sumTo gs.size q+1) gs w sl t q (bz _) (atRel_refl w) h0 hL hP hSh
theorem BX.mono{aaE:bH}(h:BX P Fin d S g w)(hF:∀S g w,Fin S g w->aaE S g w):BX P aaE d S g w:=by
 intro gs sl t q h0 hL hP hS;obtain⟨N,gd,w',qm,t',q',S',g',k1,k2,k3,k4,k5,k6⟩:=h gs sl t q h0 hL hP hS;exact⟨N,gd,w',qm,t',q',S',g',k1,k2,k3,k4,k5,hF _ _ _ k6⟩
def zF(P:Program)(Fin:bH)(d:Nat)(S:Nat->Prop)(g:aS)(w:ae):Prop:=∀w1,AtRel w w1->BX P Fin d S g w1
theorem zF.bx(h:zF P Fin d S g w):BX P Fin d S g w:=h w (atRel_refl w)
theorem zF.fin(h:∀w1,AtRel w w1->Fin S g w1):zF P Fin 0 S g w:=fun w1 hw=>BX.fin (h w1 hw)
theorem zF.rely{w1:ae}(h:zF P Fin d S g w)(hr:AtRel w w1):zF P Fin d S g w1:=fun w2 h2=>h w2 (atRel_trans _ _ _ hr h2)
theorem zF.step(hs:g.status=.running)(h:∀w1,AtRel w w1->∃g' w' es,stepG P true g w1=.go g' w' es/\(∀e∈es,EvB S e)/\w1.heap.size<=w'.heap.size/\zF P Fin (deafBehind d es) S g' w'):zF P Fin d S g w:=by
 intro w1 hw;refine BX.step hs fun w2 zP=>?_;obtain⟨g',w',es,e1,e2,e3,e4⟩:=h w2 (atRel_trans _ _ _ hw zP);exact⟨g',w',es,e1,e2,e3,e4.bx⟩
def Qi(P:Program)(Post:Value->ae->Prop)(_:Nat->Prop)(g:aS)(w:ae):Prop:=∀w1,AtRel w w1->g.status=.running/\∃v,stepG P true g w1=.ended (.done v) w1 #[]/\Post v w1
theorem BX.call{L:Nat->Bool}{Gm:Nat}(cH:qf P L Gm){zS:FuncId}{Q:Value->ae->Prop}{c:Frame}{cs:List Frame}{F:iZ}{x:aS×ae}(EM:Acc (Nx P (kg P zS Q)) x){gr:aS}(hK:∀r,F.K r->¬S (F.φ r))(MY:vZ P L Gm (kg P zS Q) (c::cs) F (x.1,WT x.2 w.tape w.drawn) gr w)(PU:∀v v' F' aI w',Q v aI->(∀f,F'.has f->v'=val f v)->WR F' aI w'->eJ F F' x.2 w aI w'->(∀r,F'.K r->¬S (F'.φ r))->BX P Fin 0 S (G (c.finish v') cs) w'):BX P Fin 0 S gr w:=by
 intro gs sl t q h0 hL hP hS;obtain⟨B,hB⟩:=hP.Pw;obtain⟨N,gd,w',aI,qm,t',q',B',F',v,v',k1,k2,k3,k4,k5,k6,k7,k8,k9,GM,k11,Z5,Z6⟩:=GL cH x EM (sumTo gs.size q+1) (B+w.heap.size) gs gr w sl t q F (bz _) h0 hL aa (hB w.heap.size) hK hS MY;obtain⟨N2,Zh,w2,To,t2,q2,S2,g2,l1,l2⟩:=PU v v' F' aI w' k7 k8 k9 GM Z5 gd qm t' q' k3 k4 (lN.of k6) Z6;exact⟨N+N2,Zh,w2,To,t2,q2,S2,g2,by rw[runNT_add,k1];exact l1,l2⟩
end
end
def wC(Fin:bH)(b:Nat):Prop:=∀S g w,Fin S g w->¬S b
def DW(Fin:bH)(o:aM)(w:ae):Nat->Prop:=fun b=>b<w.heap.size/\¬o b/\¬wC Fin b
def Hd(Fin:bH)(w0:ae):bH:=fun S g w=>Fin S g w/\w.os=w0.os/\w.output=w0.output
theorem EW{Fin:bH}{w w':ae}(h:w'.os=w.os/\w'.output=w.output):Hd Fin w'=Hd Fin w:=by
 funext S g w1;simp only[Hd,h.1,h.2]
def sU(Fin:bH)(w:ae):Prop:=∀b,wC Fin b->b<w.heap.size
theorem sU.up{Fin:bH}{w w':ae}(h:sU Fin w)(hs:w.heap.size<=w'.heap.size):sU Fin w':=fun b hb=>bm (h b hb) hs
theorem sU.at_{Fin:bH}{w w':ae}(h:sU Fin w)(hs:AtRel w w'):sU Fin w':=by obtain⟨d,rfl⟩:=hs;exact h
theorem sU.back{Fin:bH}{w w':ae}(h:sU Fin w')(hs:AtRel w w'):sU Fin w:=by obtain⟨d,rfl⟩:=hs;exact h
abbrev XB(P:Program)(Fin:bH)(d:Nat):aM->aS->ae->Prop:=fun o g w=>sU Fin w->zF P (Hd Fin w) d (DW Fin o w) g w
def TB(o:aM)(e:Event):Prop:=∀x,(MemAct.ofEvent e).touch?=some x->∀a,x.loc=.cell a->x.kind=.plain->o a.block
def Xu(Fin:bH)(o:aM)(e:Event):Prop:=TB (fun b=>o b\/wC Fin b) e
theorem TB.Qj{Fin:bH}{o:aM}{e:Event}(h:TB o e):Xu Fin o e:=fun x hx a ha hk=>.inl (h x hx a ha hk)
def GuO(Fin:bH)(o:aM)(w w':ae)(es:Array Event):Prop:=(∀e∈es,Xu Fin (grow o w w') e/\e.loc≠.mark .disable/\e.loc≠.mark .enable)/\w.heap.size<=w'.heap.size/\w'.os=w.os/\w'.output=w.output
section
variable {P:Program} {Fin:bH} {d:Nat} {o:aM} {g:aS} {w w1 w':ae}
theorem Be(h:w1.heap.size<=w'.heap.size):DW Fin (grow o w1 w') w'=DW Fin o w1:=by
 funext b;simp only[DW,grow,eq_iff_iff];constructor
 ·rintro⟨h1,h2,h5⟩;exact⟨eP fun h3=>h2 (.inr ⟨h3,h1⟩),fun h3=>h2 (.inl h3),h5⟩
 ·rintro⟨h1,h2,h5⟩;exact⟨aa,fun h3=>h3.elim h2 fun h4=>aa,h5⟩
theorem J7(h:AtRel w w1):DW Fin o w1=DW Fin o w:=by obtain⟨d,rfl⟩:=h;rfl
theorem Xu.evB{e:Event}(h:Xu Fin (grow o w1 w') e)(hs:w1.heap.size<=w'.heap.size):EvB (DW Fin o w1) e:=by
 intro x hx se hk;rw[<- Be (o:=o) hs] at se;cases hl:x.loc with
 |cell a=>rw[hl] at se;exact(h x hx a hl hk).elim se.2.1 se.2.2
 |_=>rw[hl] at se;exact se
theorem bJ:fg P true (fun _=>AtRel) (GuO Fin) (XB P Fin d) where
 step o g w hs h:=fun Nt=>zF.step hs fun w1 hw=>by
  obtain⟨g',w',es,e1,e2,e3⟩:=h w1 hw;refine⟨g',w',es,e1,fun e he=>?_,e2.2.1,?_⟩
  ·rw[<- J7 hw];exact(e2.1 e he).1.evB e2.2.1
  ·rw[deafBehind_still (fun e he=>(e2.1 e he).2),<- J7 hw];have:=e3 ((Nt.at_ hw).up e2.2.1);rw[Be e2.2.1,EW e2.2.2] at this;obtain⟨n,rfl⟩:=hw;exact this
 rely o g w w1 h hr:=by
  intro Nt;show zF P (Hd Fin w1) d (DW Fin o w1) g w1;rw[J7 hr];have h':=zF.rely (h (Nt.back hr)) hr;obtain⟨n,rfl⟩:=hr;exact h'
 idle o w:=⟨an,ag _,rfl,rfl⟩
theorem XB.mark(hs:g.status=.running){g':aS}{d':Nat}{es:Array Event}(GJ:∀e∈es,∃m,e.loc=.mark m)(hd:deafBehind d es=d')(h:∀w1,stepG P true g w1=.go g' w1 es)(hx:XB P Fin d' o g' w):XB P Fin d o g w:=by
 intro Nt;refine zF.step hs fun w1 hw=>⟨g',w1,es,h w1,fun e he=>?_,ag _,?_⟩
 ·obtain⟨m,hm⟩:=GJ e he;obtain⟨loc,wt,sy⟩:=e;subst hm;intro x hx _;cases m<;>simp only[MemAct.ofEvent,MemAct.touch?,en,reduceCtorEq] at hx;all_goals (subst hx;simp)
 ·rw[hd];exact zF.rely (hx Nt) hw
end
def zV:Rn:=⟨id,id,id,id⟩
theorem zX:∀v:Value,val zV v=v:=by
 intro v;have hl:∀l:List Value,(∀x∈l,val zV x=x)->l.map (val zV)=l:=fun l h=>by
  conv=>rhs;rw[<- List.map_id l]
  exact cU fun x hx=>h x hx
 have ha:∀a:Array Value,(∀x∈a,val zV x=x)->a.map (val zV)=a:=fun a h=>by
  apply Array.ext';rw[bX];exact hl a.toList fun x hx=>h x (by simpa using hx)
 induction v using Value.rec (motive_2:=fun a=>a.map (val zV)=a) (motive_3:=fun l=>l.map (val zV)=l)
 case pointer a=>cases a<;>simp[val,addr,zV]
 case slice a l c=>cases a<;>simp[val,addr,zV]
 case map r=>cases r<;>simp[val,zV]
 case chan r=>cases r<;>simp[val,zV]
 case func fn a b h1 h2=>rw[val,h1,h2];congr 1;cases fn<;>rfl
 case iface t v h=>rw[val,h]
 case agg a h=>rw[val,h]
 case tuple a h=>rw[val,h]
 case mk l h=>exact ha ⟨l⟩ (fun x hx=>by
  have kB:x∈l:=by simpa using hx
  have:∀(l:List Value),l.map (val zV)=l->∀x∈l,val zV x=x:=by
   intro l
   induction l with
   |nil=>intro _ x hx;cases hx
   |cons y l ih =>
    intro h x hx;simp only[bU,aac] at h;rcases List.mem_cons.1 hx with rfl|hx
    ·exact h.1
    ·exact ih h.2 x hx
  exact this l h x kB)
 case nil=>rfl
 case cons x l h1 h2=>rw[bU,h1,h2]
 all_goals simp[val]
theorem LN(x:Obj):obj zV x=x:=by
 have e:(val zV)=id:=funext zX;have e2:(entry zV)=id:=funext fun x=>by simp[entry,zX]
 cases x<;>first|(simp[obj,e,e2];done)|(simp[obj,addr,zV];done)
def lR(P:Program)(L:Nat->Bool)(o:aM):iZ:=⟨o,id,fun n=>L n=true,P.globals.size⟩
structure bE(P:Program)(L:Nat->Bool)(o:aM)(w:ae):Prop where
 shut:∀b,o b->∃x,w.heap[b]?=some x/\eF x=false/\∀f,(lR P L o).has f->obj f x=x
 jF:∀b,b<P.globals.size->o b
 size:P.globals.size<=w.heap.size
section
variable {P:Program} {L:Nat->Bool} {o:aM} {w:ae}
theorem bE.lt(h:bE P L o w){b:Nat}(hb:o b):b<w.heap.size:=by
 obtain⟨x,hx,_⟩:=h.shut b hb;exact(Array.getElem?_eq_some_iff.1 hx).1
theorem EX(h:∀b,b<P.globals.size->o b):Dp (lR P L o):=⟨fun r _ hg=>hg,.inl fun r hr=>⟨h r hr,rfl⟩⟩
theorem LO:(lR P L o).has zV:=⟨fun _ _ h=>h,fun _ _=>rfl,fun _ _=>rfl,fun _=>cG⟩
theorem Bf(o:aM):∃N:Nat->Bool,∀b,N b=true↔o b:=by
 classical
 exact⟨fun b=>decide (o b),an⟩
theorem bE.wr(h:bE P L o w){N:Nat->Bool}(hN:∀b,N b=true↔o b):WR (lR P L o) (iz N w) w where
 here r hr:=by rw[kC];exact h.lt hr
 there r hr:=h.lt hr
 inj r s _ _ e:=e
 sr r hr f hf:=by
  obtain⟨x,hx,_,hc⟩:=h.shut r hr;rw[lg N w ((hN r).2 hr)];show w.heap[r]?=_;rw[hx,cR,hc f hf]
 OT r hr x hx:=by
  obtain⟨y,hy,hp,_⟩:=h.shut r hr;rw[lg N w ((hN r).2 hr),hy] at hx;cases hx;exact hp
 os:=rfl
 output:=rfl
 tape:=rfl
 drawn:=rfl
 zu:=EX h.jF
 Eu:=h.size
 CC:=by rw[kC];exact h.size
theorem bE.Qk(h:bE P L o w){N:Nat->Bool}(hN:∀b,N b=true↔o b):fe (iz N w):=by
 intro r x hx;by_cases hr:N r=true
 ·obtain⟨y,hy,hp,_⟩:=h.shut r ((hN r).1 hr);rw[lg N w hr,hy] at hx;cases hx;exact hp
 ·have:(iz N w).heap[r]?=(w.heap[r]?).map fun _=>.cells #[] 0:=by
   simp only[iz,Array.getElem?_mapIdx];cases w.heap[r]?<;>simp[hr]
  rw[this] at hx;cases hw:w.heap[r]? with
  |none=>rw[hw] at hx;cases hx
  |some y=>rw[hw] at hx;cases hx;rfl
theorem bE.of_heap(h:bE P L o w){w1:ae}(e:w1.heap=w.heap):bE P L o w1:=⟨fun b hb=>by rw[e];exact h.shut b hb,h.jF,by rw[e];exact h.size⟩
structure kS(P:Program)(L:Nat->Bool)(o:aM)(w w' aI:ae)(v:Value):Prop where
 ay:bE P L (grow o w w') w'
 same:∀b,grow o w w' b->w'.heap[b]?=aI.heap[b]?
 rest:∀b,b<w.heap.size->¬o b->w'.heap[b]?=w.heap[b]?
 size:w'.heap.size=aI.heap.size
 gO:w.heap.size<=w'.heap.size
 val:∀f,(lR P L (grow o w w')).has f->Ren.val f v=v
 os:w'.os=w.os
 output:w'.output=w.output
variable {Fin:bH}
theorem re(cH:qf P L P.globals.size){f:FuncId}{vs:Array Value}(hL:L f=true)(hF:bE P L o w)(sS:∀g,(lR P L o).has g->vs.map (val g)=vs){R:ae->Value->ae->Prop}(hR:∀wl,JK (R wl))(hRW:∀wl τ d v w',R (WT wl τ d) v w'->R wl v w')(hC:∀wl,wl.heap.size=w.heap.size->(∀b,o b->wl.heap[b]?=w.heap[b]?)->Calls P f vs wl fun e w'=>∃v,e=.returned v/\R wl v w'){Post:Value->aM->ae->Prop}(h:∀wl v aI w',wl.heap.size=w.heap.size->(∀b,o b->wl.heap[b]?=w.heap[b]?)->R wl v aI->kS P L o w w' aI v->Post v (grow o w w') w'):bp P (XB P Fin 0) f vs o w Post:=by
 intro c cs hc;intro Nt;show zF P (Hd Fin w) 0 (DW Fin o w) _ w;intro w1 nT;obtain⟨dd,rfl⟩:=nT;have mw:bE P L o (w.at dd):=hF.of_heap rfl;obtain⟨N,hN⟩:=Bf o;have hW:=mw.wr hN;have I7:PF P L P.globals.size (lR P L o):=⟨fun r hr=>⟨hF.jF r hr,rfl⟩,rfl,rfl,EX hF.jF⟩;have CL:∀g,(lR P L o).has g->Frame.enter P f vs .normal=frame g (Frame.enter P f vs .normal):=fun g hg=>by
  have:=sS g hg;simp only[frame,Frame.enter,Array.map_append,this,Array.map_replicate,kM]
 have PY:Inv P L P.globals.size [fS] (G (Frame.enter P f vs .normal) [fS]) (iz N (w.at dd)) :=
  ⟨lR P L o,_,[],_,[],w.at dd,rfl,sH cH hL _,an,fun g hg=>⟨CL g hg,rfl⟩,hW,(mw.Qk hN),I7⟩
 have aE:∀b,o b->(iz N (w.at dd)).heap[b]?=w.heap[b]?:=fun b hb=>lg N (w.at dd) ((hN b).2 hb);have ft:(iz N (w.at dd)).heap.size=w.heap.size:=kC _ _;have uK:Good P (kg P f (R (iz N (w.at dd)))) (G (Frame.enter P f vs .normal) [fS]) (iz N (w.at dd)):=by
  refine uH cH (hR _) PY fun τ d=>?_;refine(hC (WT (iz N (w.at dd)) τ d) ft aE).mono ?_;rintro e w' ⟨v,rfl,hv⟩;exact⟨v,rfl,hRW _ _ _ _ _ hv⟩
 have EM:=GI cH (zT f _) PY uK;refine BX.call cH (F:=lR P L o) EM (fun r hr hs=>hs.2.1 hr) ⟨_,[],_,[],rfl,rfl,sH cH hL _,an,fun g hg=>⟨CL g hg,rfl⟩,hW,(mw.Qk hN),I7,uK⟩ fun v v' F' aI w' hQ hv Hb hm hS=>?_;have nt:=hm.same ft;have LP:∀r,F'.K r->F'.φ r=r:=fun r hr=>by
  rcases nt.2 r hr with h1|h1
  ·exact(hm.φ r h1)
  ·exact h1
 have CS:w.heap.size<=w'.heap.size:=hm.size;have hK:F'.K=grow o w w':=by
  funext r;simp only[grow,eq_iff_iff];constructor
  ·intro hr;rcases hm.vb r hr with h1|h1
   ·exact .inl h1
   ·refine .inr ⟨by rw[<- ft];exact h1.1,?_⟩;have:=Hb.here r hr;rw[<- nt.1];exact this
  ·rintro(h1|h1)
   ·exact hm.K r h1
   ·obtain⟨r',a,b⟩:=hm.mine r h1.1 h1.2;rw[LP r' a] at b;exact b▸a
 have hG:F'.G=P.globals.size:=hm.G;have hLL:F'.L=fun n=>L n=true:=hm.L;have Bg:∀f,(lR P L (grow o w w')).has f->F'.has f:=fun f hf=>⟨hf.inj,fun r hr=>by rw[LP r hr];exact hf.at_ r (hK▸hr),fun n hn=>hf.fn n (by rw[hLL] at hn;exact hn),by rw[hG];exact hf.jF⟩;have hid:=Bg zV LO;have vD:v'=v:=(hv zV hid).trans (zX v);subst vD;have Bh:∀b,grow o w w' b->w'.heap[b]?=aI.heap[b]?:=fun b hb=>by
  have mo:F'.K b:=hK▸hb;have:=Hb.sr b mo zV hid;rw[LP b mo] at this;rw[this];cases aI.heap[b]?<;>simp[LN]
 have Ql:kS P L o w w' aI v':=by
  refine⟨⟨fun b hb=>?_,fun b hb=>.inl (hF.jF b hb),aR hF.size CS⟩,Bh,fun b h1 h2=>?_,nt.1.symm,CS,fun f hf=>(hv f (Bg f hf)).symm,Hb.os.trans (hm.Pb.trans rfl),Hb.output.trans (hm.Ao.trans rfl)⟩
  ·have mo:F'.K b:=hK▸hb;have bZ:=Hb.here b mo;refine⟨aI.heap[b],by rw[Bh b hb];exact aG bZ,Hb.OT b mo _ (aG bZ),fun f hf=>?_⟩;have:=Hb.sr b mo f (Bg f hf);rw[LP b mo,Bh b hb,aG bZ,cR] at this;exact(aK this).symm
  ·refine hm.rest b fun r hr e=>?_;rw[LP r hr] at e;subst e;have:grow o w w' r:=hK▸hr;rcases this with h3|h3
   ·exact h2 h3
   ·omega
 have:=hc v' _ w' (h _ v' aI w' ft aE hQ Ql);have hx:zF P (Hd Fin w') 0 (DW Fin (grow o w w') w') (G (c.finish v') cs) w':=this (Nt.up CS);rw[Be CS,EW ⟨Ql.os,Ql.output⟩] at hx;exact hx.bx
end
section
open Go.ConcN.Gen Go.RowKit Go.Conc.Lib Go.ConcR.Gen
open Go.ConcR (KK wgBlock WgAt stA smA rd wr Payload DC0)
variable [Payload] {L:WgLink}
theorem bF{T:cP}{o:Nat->Prop}{w0 w w1:ae}(h:dc T o w0 w/\WgLive T.ty T.Wg w)(r:dc T o w w1):dc T o w0 w1/\WgLive T.ty T.Wg w1:=⟨h.1.trans r,r.wg h.2⟩
theorem J8{T:cP}(hT:T.OK){o:Nat->Prop}(ho:∀b,o b->T.H0<=b){w0 w:ae}{st sm:Int}(h:dc T o w0 w)(hw:WgAt T.ty T.Wg w st sm)(v:Int):dc T o w0 (w.setCell (stA T.Wg) (.int .u64 v))/\WgLive T.ty T.Wg (w.setCell (stA T.Wg) (.int .u64 v)) :=
 ⟨h.trans (wj hT ho (aside_setCell w (stA T.Wg) _) ⟨_,_,hw.setSt v⟩),⟨_,_,hw.setSt v⟩⟩
theorem TC{T:cP}(hT:T.OK){o:Nat->Prop}(ho:∀b,o b->T.H0<=b){w0 w:ae}{st sm:Int}(h:dc T o w0 w)(hw:WgAt T.ty T.Wg w st sm)(v:Int):dc T o w0 (w.setCell (smA T.Wg) (.int .u32 v))/\WgLive T.ty T.Wg (w.setCell (smA T.Wg) (.int .u32 v)) :=
 ⟨h.trans (wj hT ho (aside_setCell w (smA T.Wg) _) ⟨_,_,hw.setSm v⟩),⟨_,_,hw.setSm v⟩⟩
theorem He{T:cP}{o:Nat->Prop}{a:Addr}(h:a.block=T.Wg):∀e,(e=(⟨.mark (.read a),false,true⟩:Event)\/e=(⟨.mark (.write a),false,true⟩:Event))->EvS T o e:=by
 rintro e (rfl|rfl)
 ·refine⟨fun b hb _=>?_,an,an,an⟩;simp only[MemAct.ofEvent,MemAct.touch?,en] at hb;subst hb;exact .inl ⟨h,an⟩
 ·refine⟨fun b hb _=>?_,an,an,an⟩;simp only[MemAct.ofEvent,MemAct.touch?,en] at hb;subst hb;exact .inl ⟨h,an⟩
section
variable {P:Program} {T:cP} {V:Nat->ae->Prop} {ek:Nat->(Nat->Prop)->ae->Prop} {cx Fin:dV} {Next:dV} {o:Nat->Prop} {j:Nat} {w0:ae}
 {Hf:Frame} {Hg:Act} {p6:Array Oper} {Hh:Nat} {pQ:List Nat} {qj:List Item} {cs:List Frame}
theorem aeQ(H:WgLib P L)(hT:T.OK)(ho:∀b,o b->T.H0<=b)(hG:∀w,dc T o w0 w->cM P T (SGo P T V ek j Next) o (G (Hf.at (Hg.put ((p6[Hh]?).bind (·.dst)) (.tuple #[])) (.inRegion p6 pQ::qj)) cs) w)(w:ae)(hF:dc T o w0 w/\WgLive T.ty T.Wg w):
  cM P T (JS P T V ek j Next) o (G ((base L.add).at ⟨#[.pointer (some ⟨T.Wg,0,none⟩),.int .i64 1,undef,undef,undef,undef,undef,undef,undef,undef,undef,undef,undef,undef,undef,undef,undef,undef,undef,undef,undef,undef,undef,undef,undef,undef,undef,undef,undef,undef,undef,undef,undef,undef,undef,undef,undef,undef,undef,undef,undef,undef,undef,undef,undef,undef,undef,undef,undef,undef,undef,undef,undef,undef,undef,undef,undef,undef,undef,undef,undef,undef,undef,undef,undef,undef,undef,undef,undef,undef,undef,undef,undef,undef,undef,undef,undef,undef,undef,undef,undef,undef,undef,undef,undef,undef,undef,undef,undef,undef,undef,undef,undef,undef,undef,undef,undef,undef,undef,undef,undef,undef,undef,undef,undef,undef,undef,undef,undef,undef,undef,undef,undef,undef,undef,undef,undef],[]⟩ [.code (body_add L)]) (Hf.at Hg (.inRegion p6 (Hh::pQ)::qj)::cs)) w:=by
 lib_facts
 simp only[body_add,addFn,y7];refine cM.iT (n:=12) ?_
 u_c ax bF hF
 u_cond true bF hF
 u_c ax bF hF
 u_c ax bF hF
 u_reg bF hF
 u_op bF hF
 u_op bF hF
 u_c ak bF hF
 u_cond false bF hF
 u_c bY bF hF
 u_c ax bF hF
 u_reg bF hF
 refine bV (fun w₁ MU=>cM.stop fun akT aaF=>?_);replace hF:=bF (bF hF MU) aaF;clear MU aaF;refine⟨rfl,_,stepG_mark0 .disable an rfl rfl (by k_ne) rfl H.f_disable (x_disable_n L) (x_disable_b L) (x_disable_x L) (x_disable_f L),cM.iT (n:=40) ?_⟩;walk_nrm
 u_c ak bF hF
 u_reg bF hF
 u_defer bF hF
 u_c ak bF hF
 u_c ax bF hF
 u_reg bF hF
 u_op bF hF
 u_c ak bF hF
 u_c ax bF hF
 u_c ax bF hF
 u_reg bF hF
 u_bub bF hF
 u_c ak bF hF
 u_cond false bF hF
 u_c bY bF hF
 u_c ax bF hF
 u_reg bF hF
 iterate 6 u_op bF hF
 u_call H.f_uAdd (nm_uAdd L) uAddFn bF hF
 u_c ax bF hF
 u_reg bF hF
 u_op bF hF
 u_c ak bF hF
 u_c ax bF hF
 u_reg bF hF
 iterate 4 u_op bF hF
 refine bV (fun akU aaG=>cM.stop fun aeR aaH=>?_);replace hF:=bF (bF hF aaG) aaH;clear aaG aaH;refine⟨rfl,fun v hv hw=>?_⟩;rcases aZ v with rfl|hvp
 ·replace hw:WgAt T.ty T.Wg aeR 0 0:=by simpa using hw
  have z:(((0:Nat):Int)+1)*KK=KK:=an;rw[z];have e0:IntKind.u64.wrap (0+4294967296)=KK:=dh;refine⟨_,(stepG_add_atomic rfl rfl (by k_ne) rfl H.f_addU64 (x_addU64_n L) (x_addU64_b L) (x_addU64_x L) .u64 (x_addU64_f L) rfl rfl hw.cellSt (hw.thaw 0)).trans (by rw[e0];rfl),cM.iT (n:=60) ?_⟩;replace hF:=J8 hT ho hF.1 hw KK;clear hw;simp only[KK] at hF |-;walk_nrm
  u_op bF hF
  u_c ak bF hF
  u_c stepG_ret' bF hF
  u_leave1 H.f_uAdd bF hF
  u_op bF hF
  u_c ak bF hF
  u_c ax bF hF
  u_c ax bF hF
  u_reg bF hF
  iterate 4 u_op bF hF
  u_skip bF hF
  u_skip bF hF
  u_op bF hF
  u_c ak bF hF
  u_cond false bF hF
  u_c bY bF hF
  u_c ax bF hF
  u_reg bF hF
  iterate 4 u_op bF hF
  u_c ak bF hF
  u_c ax bF hF
  u_reg bF hF
  iterate 4 u_op bF hF
  u_c ak bF hF
  u_c ax bF hF
  u_c ax bF hF
  u_reg bF hF
  iterate 10 u_op bF hF
  u_c ak bF hF
  u_cond true bF hF
  u_reg bF hF
  iterate 3 u_op bF hF
  u_conv H.underlying_tPU32 H.room_tU32 (WgLive.cell1 hF.2).choose_spec bF hF
  refine bV (fun akW aaI=>cM.one rfl fun akX aaJ=>?_);replace hF:=bF (bF hF aaI) aaJ;clear aaI aaJ;refine⟨_,_,stepG_markAt .read an rfl rfl (by k_ne) rfl H.f_raceRead (x_raceRead_n L) (x_raceRead_b L) (x_raceRead_x L) (x_raceRead_f L) (ad:=⟨T.Wg,1,none⟩) aC,fun e he=>?_,cM.iT (n:=50) ?_⟩
  ·rw[Array.mem_singleton] at he;exact He rfl e (.inl he)
  walk_nrm
  u_c ak bF hF
  u_c ax bF hF
  u_c ax bF hF
  u_reg bF hF
  u_op bF hF
  u_op bF hF
  u_c ak bF hF
  u_cond false bF hF
  u_c bY bF hF
  u_c ax bF hF
  u_c ax bF hF
  u_reg bF hF
  iterate 3 u_op bF hF
  u_skip bF hF
  u_skip bF hF
  u_op bF hF
  u_op bF hF
  iterate 4 u_skip bF hF
  u_op bF hF
  u_c ak bF hF
  u_cond false bF hF
  u_c bY bF hF
  u_c ax bF hF
  u_c ax bF hF
  u_reg bF hF
  iterate 3 u_op bF hF
  u_skip bF hF
  u_skip bF hF
  u_op bF hF
  u_c ak bF hF
  u_cond true bF hF
  u_c stepG_ret' bF hF
  refine bV (fun aeS Qm=>cM.stop fun aeT Qn=>?_);replace hF:=bF (bF hF Qm) Qn;clear Qm Qn;refine⟨rfl,_,stepG_unwind_entry (v:=.tuple #[]) (evs:=#[Go.ConcR.mk .enable]) rfl H.f_enable (x_enable_n L) (x_enable_b L) (x_enable_x L) (x_enable_f L) (by simp[Extern.Race.none_]) (by simp[Go.ConcR.mk]) (by simp[Go.ConcR.mk]),cM.iT (n:=2) ?_⟩
  u_leave0 H.f_add bF hF
  exact bV fun Xv Xw=>hG Xv (hF.1.trans Xw)
 ·obtain⟨Vv,hVv⟩:∃Vv:Int,Vv=(v:Int)+1:=⟨_,rfl⟩;obtain⟨S,hS⟩:∃S:Int,S=Vv*KK:=⟨_,rfl⟩;have eS:IntKind.u64.wrap ((v:Int)*KK+4294967296)=S:=by rw[IntKind.wrap_u64,hS,hVv];simp only[KK];omega
  rw[<- hVv,<- hS];have a1:S/4294967296=Vv:=by rw[hS];simp only[KK];omega
  have b1:bits .and .u64 S 2147483648=0:=by rw[hS,hVv];have:=st_flag (v+1) 0 aa aa;simpa[KK] using this
  have b2:bits .and .u64 S 2147483647=0:=by rw[hS,hVv];have:=st_waiters (v+1) 0 aa aa;simpa[KK] using this
  have c1:IntKind.i32.wrap Vv=Vv:=by rw[IntKind.wrap_i32];omega
  have hV1:1<Vv:=aa;have q1:(Vv==1)=false:=eR;have q2:decide (Vv=1)=false:=ee aa;have q3:decide (Vv<0)=false:=ee aa;have q4:decide (0<Vv)=true:=dv aa;have q5:(Vv==0)=false:=eR;have q6:decide (Vv=0)=false:=ee aa;refine⟨_,(stepG_add_atomic rfl rfl (by k_ne) rfl H.f_addU64 (x_addU64_n L) (x_addU64_b L) (x_addU64_x L) .u64 (x_addU64_f L) rfl rfl hw.cellSt (hw.thaw 0)).trans (by rw[eS];rfl),cM.iT (n:=110) ?_⟩;replace hF:=J8 hT ho hF.1 hw S;clear hw hS hVv eS;walk_nrm
  u_op bF hF
  u_c ak bF hF
  u_c stepG_ret' bF hF
  u_leave1 H.f_uAdd bF hF
  u_op bF hF
  u_c ak bF hF
  u_c ax bF hF
  u_c ax bF hF
  u_reg bF hF
  iterate 4 u_op bF hF
  u_skip bF hF
  u_skip bF hF
  u_op bF hF
  u_c ak bF hF
  u_cnd false bF hF
  u_c bY bF hF
  u_c ax bF hF
  u_reg bF hF
  iterate 4 u_op bF hF
  u_c ak bF hF
  u_c ax bF hF
  u_reg bF hF
  iterate 4 u_op bF hF
  u_c ak bF hF
  u_c ax bF hF
  u_c ax bF hF
  u_reg bF hF
  iterate 10 u_op bF hF
  u_c ak bF hF
  u_cnd false bF hF
  u_c bY bF hF
  u_c ax bF hF
  u_c ax bF hF
  u_reg bF hF
  u_op bF hF
  u_op bF hF
  u_c ak bF hF
  u_cnd false bF hF
  u_c bY bF hF
  u_c ax bF hF
  u_c ax bF hF
  u_reg bF hF
  iterate 3 u_op bF hF
  u_skip bF hF
  u_skip bF hF
  u_op bF hF
  u_op bF hF
  iterate 4 u_skip bF hF
  u_op bF hF
  u_c ak bF hF
  u_cnd false bF hF
  u_c bY bF hF
  u_c ax bF hF
  u_c ax bF hF
  u_reg bF hF
  iterate 3 u_op bF hF
  u_skip bF hF
  u_skip bF hF
  u_op bF hF
  u_c ak bF hF
  u_cnd true bF hF
  u_c stepG_ret' bF hF
  refine bV (fun aeS Qm=>cM.stop fun aeT Qn=>?_);replace hF:=bF (bF hF Qm) Qn;clear Qm Qn;refine⟨rfl,_,stepG_unwind_entry (v:=.tuple #[]) (evs:=#[Go.ConcR.mk .enable]) rfl H.f_enable (x_enable_n L) (x_enable_b L) (x_enable_x L) (x_enable_f L) (by simp[Extern.Race.none_]) (by simp[Go.ConcR.mk]) (by simp[Go.ConcR.mk]),cM.iT (n:=2) ?_⟩
  u_leave0 H.f_add bF hF
  exact bV fun Xv Xw=>hG Xv (hF.1.trans Xw)
end
end
section
open Go.ConcN.Gen Go.RowKit Go.Conc.Lib Go.ConcR.Gen
open Go.ConcR (KK wgBlock WgAt stA smA rd wr Payload DC0)
theorem Bi{w w1:ae}(h:True)(_:AtRel w w1):True:=h
variable [Payload] {L:WgLink}
def DX(L:WgLink)(T:cP)(w0:ae)(c:Frame)(cs:List Frame):dV:=fun o g w =>
 ∃Ts:Array Value,g=G ((base L.wait).at ⟨Ts,[]⟩ [.code (L7 L),.inLoop (L7 L),.inBlock 0]) (c::cs)/\Ts.size=84/\Ts[0]?=some (.pointer (some ⟨T.Wg,0,none⟩))/\(dc T o w0 w/\WgLive T.ty T.Wg w)/\∀b,o b->T.H0<=b
def Nu(P:Program)(T:cP)(w0:ae)(g1:aS):dV:=fun o g w=>dc T o w0 w/\∃n,Goes P true AtRel DC0 (fun g' _=>g'=g1) n g w
section
variable {P:Program} {T:cP} {V:Nat->ae->Prop} {ek:Nat->(Nat->Prop)->ae->Prop} {o:Nat->Prop} {w0:ae}
 {Hf:Frame} {Hg:Act} {p6:Array Oper} {Hh:Nat} {pQ:List Nat} {qj:List Item} {cs:List Frame}
theorem J9(H:WgLib P L)(hT:T.OK)(g:aS)(w:ae)(h:DX L T w0 (Hf.at Hg (.inRegion p6 (Hh::pQ)::qj)) cs o g w):
  cM P T (OX P T (DX L T w0 (Hf.at Hg (.inRegion p6 (Hh::pQ)::qj)) cs) (Nu P T w0 (G (Hf.at (Hg.put ((p6[Hh]?).bind (·.dst)) (.tuple #[])) (.inRegion p6 pQ::qj)) cs))) o g w:=by
 lib_facts
 obtain⟨Ts,rfl,aeU,t0,hF,ho⟩:=h;obtain⟨v0,v1,v2,v3,v4,v5,v6,v7,v8,v9,v10,v11,v12,v13,v14,v15,v16,v17,v18,v19,v20,v21,v22,v23,v24,v25,v26,v27,v28,v29,v30,v31,v32,v33,v34,v35,v36,v37,v38,v39,v40,v41,v42,v43,v44,v45,v46,v47,v48,v49,v50,v51,v52,v53,v54,v55,v56,v57,v58,v59,v60,v61,v62,v63,v64,v65,v66,v67,v68,v69,v70,v71,v72,v73,v74,v75,v76,v77,v78,v79,v80,v81,v82,v83,rfl⟩:=array84 Ts aeU;simp only[List.getElem?_toArray,List.getElem?_cons_zero,en] at t0;subst t0;refine cM.iT (n:=30) ?_;simp only[L7,body_wait,waitFn,y7]
 u_c eB bF hF
 u_c ax bF hF
 u_reg bF hF
 iterate 3 u_op bF hF
 u_call H.f_uLoad (nm_uLoad L) uLoadFn bF hF
 u_c ax bF hF
 u_reg bF hF
 u_op bF hF
 u_c ak bF hF
 u_c ax bF hF
 u_reg bF hF
 iterate 3 u_op bF hF
 refine bV (fun wA1 pH=>cM.stop fun wA2 Hi=>?_);replace hF:=bF (bF hF pH) Hi;clear pH Hi;refine⟨rfl,fun v hv hw=>?_⟩;rcases aZ v with rfl|hvp
 ·replace hw:WgAt T.ty T.Wg wA2 0 0:=by simpa using hw
  refine⟨_,stepG_load_atomic (v:=0) rfl rfl (by k_ne) rfl H.f_loadU64 (x_loadU64_n L) (x_loadU64_b L) (x_loadU64_x L) .u64 (x_loadU64_f L) rfl hw.cellSt,fun _=>cM.iT (n:=50) ?_,fun h=>absurd rfl h⟩;clear hw;walk_nrm
  u_op bF hF
  u_c ak bF hF
  u_c stepG_ret' bF hF
  u_leave1 H.f_uLoad bF hF
  u_op bF hF
  u_c ak bF hF
  u_c ax bF hF
  u_reg bF hF
  iterate 4 u_op bF hF
  u_c ak bF hF
  u_c ax bF hF
  u_reg bF hF
  iterate 4 u_op bF hF
  u_c ak bF hF
  u_c ax bF hF
  u_c ax bF hF
  u_reg bF hF
  u_op bF hF
  u_op bF hF
  u_c ak bF hF
  u_cond true bF hF
  u_c ax bF hF
  u_cond true bF hF
  u_c ax bF hF
  u_reg bF hF
  refine bV (fun wE1 hE1=>cM.stop fun wE2 hE2=>?_);replace hF:=bF (bF hF hE1) hE2;clear hE1 hE2;refine⟨rfl,_,stepG_mark0 .enable an rfl rfl (by k_ne) rfl H.f_enable (x_enable_n L) (x_enable_b L) (x_enable_x L) (x_enable_f L),cM.iT (n:=12) ?_⟩;walk_nrm
  u_c ak bF hF
  u_reg bF hF
  u_op bF hF
  u_conv H.underlying_tWgP H.room_tWg (WgLive.cell0 hF.2).choose_spec bF hF
  refine bV (fun wF1 mw=>cM.stop fun wF2 rh=>?_);replace hF:=bF (bF hF mw) rh;clear mw rh;refine⟨rfl,_,stepG_markAt .acquire an rfl rfl (by k_ne) rfl H.f_acquire (x_acquire_n L) (x_acquire_b L) (x_acquire_x L) (x_acquire_f L) (by simp[Act.eval,stA]),hF.1,30,?_⟩;walk_nrm;have hu:True:=trivial
  u_c ak Bi hu
  u_c ax Bi hu
  u_c ax Bi hu
  u_reg Bi hu
  iterate 8 u_op Bi hu
  u_skip Bi hu
  u_skip Bi hu
  u_op Bi hu
  u_c ak Bi hu
  u_cond false Bi hu
  u_c bY Bi hu
  u_c stepG_ret' Bi hu
  u_leave0 H.f_wait Bi hu
  exact bV fun _ _=>rfl
 ·obtain⟨S,hS⟩:∃S:Int,(v:Int)*KK=S:=⟨_,rfl⟩;have a1:S/4294967296=(v:Int):=by rw[<- hS];simp only[KK];omega
  have b1:bits .and .u64 S 2147483648=0:=by rw[<- hS];have:=st_flag v 0 aa aa;simpa[KK] using this
  have b2:bits .and .u64 S 2147483647=0:=by rw[<- hS];have:=st_waiters v 0 aa aa;simpa[KK] using this
  have c1:IntKind.i32.wrap (v:Int)=(v:Int):=by rw[IntKind.wrap_i32];omega
  have w1:IntKind.u64.wrap (S+1)=S+1:=by rw[IntKind.wrap_u64,<- hS];simp only[KK];omega
  have q3:decide ((v:Int)<0)=false:=ee aa;have q4:decide (0<(v:Int))=true:=dv aa;have q5:((v:Int)==0)=false:=eR;have q6:decide ((v:Int)=0)=false:=ee aa;rw[hS] at hw;refine⟨_,stepG_load_atomic (v:=S) rfl rfl (by k_ne) rfl H.f_loadU64 (x_loadU64_n L) (x_loadU64_b L) (x_loadU64_x L) .u64 (x_loadU64_f L) rfl hw.cellSt,fun h0=>absurd h0 aa,fun _=>cM.iT (n:=60) ?_⟩;clear hw;walk_nrm
  u_op bF hF
  u_c ak bF hF
  u_c stepG_ret' bF hF
  u_leave1 H.f_uLoad bF hF
  u_op bF hF
  u_c ak bF hF
  u_c ax bF hF
  u_reg bF hF
  iterate 4 u_op bF hF
  u_c ak bF hF
  u_c ax bF hF
  u_reg bF hF
  iterate 4 u_op bF hF
  u_c ak bF hF
  u_c ax bF hF
  u_c ax bF hF
  u_reg bF hF
  u_op bF hF
  u_op bF hF
  u_c ak bF hF
  u_cnd false bF hF
  u_c bY bF hF
  u_c ax bF hF
  u_reg bF hF
  iterate 6 u_op bF hF
  u_call H.f_uCas (nm_uCas L) uCasFn bF hF
  u_c ax bF hF
  u_reg bF hF
  u_op bF hF
  u_c ak bF hF
  u_c ax bF hF
  u_reg bF hF
  iterate 5 u_op bF hF
  refine bV (fun wB1 hB1=>cM.stop fun wB2 hB2=>?_);replace hF:=bF (bF hF hB1) hB2;clear hB1 hB2;refine⟨rfl,fun v' vD hw=>⟨fun e=>?_,fun e=>?_⟩⟩
  ·subst e;rw[hS] at hw |-;refine⟨_,(stepG_cas_hit (v:=S) (n:=S+1) rfl rfl (by k_ne) rfl H.f_casU64 (x_casU64_n L) (x_casU64_b L) (x_casU64_x L) .u64 (x_casU64_f L) rfl rfl rfl hw.cellSt (hw.thaw 0)).trans ai,cM.iT (n:=70) ?_⟩;replace hF:=J8 hT ho hF.1 hw (S+1);clear hw;walk_nrm
   u_op bF hF
   u_c ak bF hF
   u_c stepG_ret' bF hF
   u_leave1 H.f_uCas bF hF
   u_c ak bF hF
   u_cond true bF hF
   u_c ax bF hF
   u_c ax bF hF
   u_reg bF hF
   iterate 4 u_op bF hF
   u_c ak bF hF
   u_cond true bF hF
   u_reg bF hF
   iterate 3 u_op bF hF
   u_conv H.underlying_tPU32 H.room_tU32 (WgLive.cell1 hF.2).choose_spec bF hF
   refine bV (fun wC1 Zk=>cM.one rfl fun wC2 hC2=>?_);replace hF:=bF (bF hF Zk) hC2;clear Zk hC2;refine⟨_,_,stepG_markAt .write an rfl rfl (by k_ne) rfl H.f_raceWrite (x_raceWrite_n L) (x_raceWrite_b L) (x_raceWrite_x L) (x_raceWrite_f L) (ad:=⟨T.Wg,1,none⟩) (by simp[Act.eval]<;>rfl),fun e he=>?_,cM.iT (n:=50) ?_⟩
   ·rw[Array.mem_singleton] at he;exact He rfl e (.inr he)
   u_c ak bF hF
   u_c ax bF hF
   u_reg bF hF
   u_op bF hF
   u_c ak bF hF
   u_c ax bF hF
   u_c ax bF hF
   u_reg bF hF
   iterate 4 u_op bF hF
   u_skip bF hF
   u_op bF hF
   u_c ak bF hF
   u_cond false bF hF
   u_c bY bF hF
   u_c ax bF hF
   u_reg bF hF
   iterate 4 u_op bF hF
   refine bV (fun wD1 hD1=>cM.stop fun wD2 hD2=>?_);replace hF:=bF (bF hF hD1) hD2;clear hD1 hD2;refine⟨rfl,rfl,fun⟨st,hw⟩=>stepG_semacquire_wait rfl rfl rfl H.f_semacquire (x_semacquire_n L) (x_semacquire_b L) (x_semacquire_x L) (x_semacquire_f L) (by simp[Act.eval,smA]) hw.cellSm,fun hf=>?_⟩;refine⟨_,(stepG_semacquire (n:=1) rfl rfl (by k_ne) rfl H.f_semacquire (x_semacquire_n L) (x_semacquire_b L) (x_semacquire_x L) (x_semacquire_f L) (by simp[Act.eval,smA]) hf.cellSm (by k_ne) (hf.thaw 1)).trans ai,cM.iT (n:=30) ?_⟩;replace hF:=TC hT ho hF.1 hf 0;clear hf;walk_nrm
   u_c ak bF hF
   u_c ax bF hF
   u_reg bF hF
   iterate 3 u_op bF hF
   u_call H.f_uLoad (nm_uLoad L) uLoadFn bF hF
   u_c ax bF hF
   u_reg bF hF
   u_op bF hF
   u_c ak bF hF
   u_c ax bF hF
   u_reg bF hF
   iterate 3 u_op bF hF
   refine bV (fun wG1 hG1=>cM.stop fun wG2 hG2=>?_);replace hF:=bF (bF hF hG1) hG2;clear hG1 hG2;refine⟨rfl,fun hw=>⟨_,stepG_load_atomic (v:=0) rfl rfl (by k_ne) rfl H.f_loadU64 (x_loadU64_n L) (x_loadU64_b L) (x_loadU64_x L) .u64 (x_loadU64_f L) rfl hw.cellSt,cM.iT (n:=30) ?_⟩⟩;clear hw;walk_nrm
   u_op bF hF
   u_c ak bF hF
   u_c stepG_ret' bF hF
   u_leave1 H.f_uLoad bF hF
   u_op bF hF
   u_op bF hF
   u_c ak bF hF
   u_c ax bF hF
   u_cond true bF hF
   u_c ax bF hF
   u_reg bF hF
   refine bV (fun wE1 hE1=>cM.stop fun wE2 hE2=>?_);replace hF:=bF (bF hF hE1) hE2;clear hE1 hE2;refine⟨rfl,_,stepG_mark0 .enable an rfl rfl (by k_ne) rfl H.f_enable (x_enable_n L) (x_enable_b L) (x_enable_x L) (x_enable_f L),cM.iT (n:=12) ?_⟩;walk_nrm
   u_c ak bF hF
   u_reg bF hF
   u_op bF hF
   u_conv H.underlying_tWgP H.room_tWg (WgLive.cell0 hF.2).choose_spec bF hF
   refine bV (fun wF1 mw=>cM.stop fun wF2 rh=>?_);replace hF:=bF (bF hF mw) rh;clear mw rh;refine⟨rfl,_,stepG_markAt .acquire an rfl rfl (by k_ne) rfl H.f_acquire (x_acquire_n L) (x_acquire_b L) (x_acquire_x L) (x_acquire_f L) (by simp[Act.eval,stA]),hF.1,30,?_⟩;walk_nrm;have hu:True:=trivial
   u_c ak Bi hu
   u_c ax Bi hu
   u_c ax Bi hu
   u_reg Bi hu
   u_op Bi hu
   u_c ak Bi hu
   u_cond false Bi hu
   u_c bY Bi hu
   u_c stepG_ret' Bi hu
   u_leave0 H.f_wait Bi hu
   exact bV fun _ _=>rfl
  ·refine⟨_,stepG_cas_miss (v:=(v':Int)*KK) (old:=S) (n:=S+1) rfl rfl (by k_ne) rfl H.f_casU64 (x_casU64_n L) (x_casU64_b L) (x_casU64_x L) .u64 (x_casU64_f L) rfl rfl rfl hw.cellSt (hw.thaw 0) (by rw[<- hS];simp only[KK];omega),cM.iT (n:=20) ?_⟩;clear hw;walk_nrm
   u_op bF hF
   u_c ak bF hF
   u_c stepG_ret' bF hF
   u_leave1 H.f_uCas bF hF
   u_c ak bF hF
   u_cond false bF hF
   u_c bY bF hF
   u_c fR bF hF
   u_c ig bF hF
   exact bV (fun wH hH=>cM.stop fun wI hI=>⟨_,rfl,an,an,bF (bF hF hH) hI,ho⟩)
theorem Ka(H:WgLib P L)(ho:∀b,o b->T.H0<=b)(w:ae)(hF:dc T o w0 w/\WgLive T.ty T.Wg w):
  cM P T (OY P T (DX L T w0 (Hf.at Hg (.inRegion p6 (Hh::pQ)::qj)) cs)) o
   (G ((base L.wait).at ⟨#[.pointer (some ⟨T.Wg,0,none⟩),undef,undef,undef,undef,undef,undef,undef,undef,undef,undef,undef,undef,undef,undef,undef,undef,undef,undef,undef,undef,undef,undef,undef,undef,undef,undef,undef,undef,undef,undef,undef,undef,undef,undef,undef,undef,undef,undef,undef,undef,undef,undef,undef,undef,undef,undef,undef,undef,undef,undef,undef,undef,undef,undef,undef,undef,undef,undef,undef,undef,undef,undef,undef,undef,undef,undef,undef,undef,undef,undef,undef,undef,undef,undef,undef,undef,undef,undef,undef,undef,undef,undef,undef],[]⟩ [.code (body_wait L)]) (Hf.at Hg (.inRegion p6 (Hh::pQ)::qj)::cs)) w:=by
 lib_facts
 simp only[body_wait,waitFn,y7];refine cM.iT (n:=3) ?_
 u_c ax bF hF
 u_cond true bF hF
 u_reg bF hF
 refine bV (fun wA1 pH=>cM.stop fun wA2 Hi=>?_);replace hF:=bF (bF hF pH) Hi;clear pH Hi;refine⟨rfl,_,stepG_mark0 .disable an rfl rfl (by k_ne) rfl H.f_disable (x_disable_n L) (x_disable_b L) (x_disable_x L) (x_disable_f L),cM.iT (n:=3) ?_⟩;walk_nrm
 u_c ak bF hF
 u_c eB bF hF
 u_c jj bF hF
 exact bV (fun wH hH=>cM.stop fun wI hI=>⟨_,rfl,an,an,bF (bF hF hH) hI,ho⟩)
end
end
section
open Go.ConcR (DC0)
section
variable {P:Program} {Fin:bH} {d:Nat} {S:Nat->Prop} {g:aS} {w:ae}
theorem lN.more{S':Nat->Prop}{t:Trace}(h:lN d S t)(hS:∀b,S b->S' b):lN d S' t :=
 ⟨h.clean,fun i a ha hm=>(h.known i a ha hm).imp id fun⟨h1,h2⟩=>⟨by cases hl:a.loc<;>rw[hl] at h1<;>first|exact hS _ h1|exact h1,h2⟩,h.over,h.deaf⟩
theorem BX.less{S':Nat->Prop}(h:BX P Fin d S' g w)(hS:∀b,S b->S' b)(hb:∀b,w.heap.size<=b->¬S' b):BX P Fin d S g w :=
 fun gs sl t q h0 hL hP _=>h gs sl t q h0 hL (hP.more hS) hb
theorem zF.iT{g1:aS}:∀{n:Nat} {g:aS} {w:ae},Goes P true AtRel DC0 (fun g' _=>g'=g1) n g w->zF P Fin d S g1 w->zF P Fin d S g w:=by
 intro n
 induction n with
 |zero =>
  intro g w h hx;have:=h w (atRel_refl w);exact this▸hx
 |succ n ih =>
  intro g w h hx;rcases h with h|⟨hs,h⟩
  ·have:=h w (atRel_refl w);exact this▸hx
  ·refine zF.step hs fun w1 hw=>?_;have:=h w1 hw;cases hg:stepG P true g w1 with
   |go g' w' es =>
    rw[hg,goes_go] at this;obtain⟨⟨rfl,rfl⟩,hG⟩:=this;exact⟨g',w',#[],rfl,an,ag _,ih hG (hx.rely hw)⟩
   |_=>rw[hg] at this;exact this.elim
variable [Go.ConcR.Payload]
theorem BX.aaN(h:∀m0 T0,0<m0->∃(T:cP) (V:Nat->ae->Prop) (ek:Nat->(Nat->Prop)->ae->Prop) (cx Nu:dV) (o0:Nat->Prop),T.m0=m0/\T.T0=T0/\T.OK/\jJ T V ek/\T.n<2147483648/\T.Shun=sK S /\
   (∀o g w,cx o g w->cM P T (OX P T cx Nu) o g w)/\iC P T V ek cx T.n o0 g w/\(∀b,o0 b->T.H0<=b/\b<w.heap.size)/\T.H0<=w.heap.size/\Go.ConcR.WgAt T.ty T.Wg w 0 0 /\
   (∀k,k<T.n->∃s r tm,w.heap[T.ch k]?=some (.chan 0 #[] false s r tm))/\(∀k,k<T.n->T.Idle k w) /\
   (∀o g' w',Nu o g' w'->(∀i,i<T.n->V i w'/\∃(oi:Nat->Prop) (C:Nat),ek i (fun b=>oi b/\b≠C) w'/\∀b,oi b->T.H0<=b/\b<w'.heap.size)->dc T (fun _=>False) w w'->(∀b,o b->T.H0<=b/\b<w'.heap.size) ->
    (∀b cs ty fz,T.Sh b->w.heap[b]?=some (.cells cs ty fz)->∃rW,w'.heap[b]?=some (.cells rW ty fz)/\rW.size=cs.size)->(∀k,k<T.n->∃c s r tm,w'.heap[T.ch k]?=some (.chan 0 #[] c s r tm))->BX P Fin 0 (fun b=>S b\/b=T.Wg) g' w')):BX P Fin 0 S g w:=by
 intro gs sl t q h0 hL hP hS;obtain⟨B,hB⟩:=hP.Pw;have nS:0<gs.size:=(Array.getElem?_eq_some_iff.1 h0).1;obtain⟨T,V,ek,cx,Nu,o0,e1,e2,hT,hV,hn,se,VK,dW,SG,hH,nU,uh,PS,PU⟩:=h gs.size t.size nS;obtain⟨N,gd,w',qm,t',k1,o,g',q',B',j1,j2,j3,j4,j5,j6,j7,j8,j9,j10,j11⟩:=No (T:=T) hT hV hn VK se (B:=B+0) (gs:=gs) (sl:=sl) (t:=t) (q:=q) e1.symm h0 hL (by rw[se];exact hB 0) e2.symm dW SG hH nU uh PS;have Zl:T.Wg<T.H0:=hT.wg;obtain⟨N2,Zh,w2,To,t2,q2,S2,g2,l1,l2⟩:=PU o g' w' j3 j7 j8 j9 j10 j11 gd qm t' q' j2 j4 (lN.of j5) (fun b hb=>by
  rintro(h|rfl)
  ·exact hS b (aR j8.size hb) h
  ·have:=j8.size;omega)
 exact⟨N+N2,Zh,w2,To,t2,q2,S2,g2,by rw[runNT_add,k1];exact l1,l2⟩
section
variable {T:cP} {cx DY F F':dV} {o:Nat->Prop}
theorem M5.mono(hF:∀o g w,F o g w->F' o g w){o:Nat->Prop}{g:aS}{w:ae}:M5 P T F o g w->M5 P T F' o g w:=fun⟨a,g',b,c⟩=>⟨a,g',b,hF _ _ _ c⟩
theorem VE.mono(hF:∀o g w,F o g w->F' o g w){o:Nat->Prop}{g:aS}{w:ae}:VE P T F o g w->VE P T F' o g w:=fun⟨a,g',b,c⟩=>⟨a,g',b,c.mono fun _ _ _=>M5.mono hF⟩
theorem Za.mono(hF:∀o g w,F o g w->F' o g w){o:Nat->Prop}{g:aS}{w:ae}:Za P T F o g w->Za P T F' o g w:=fun⟨a,h⟩=>⟨a,fun x=>let ⟨g',b,c⟩:=h x;⟨g',b,c.mono fun _ _ _=>VE.mono hF⟩⟩
theorem Xe.mono(hF:∀o g w,F o g w->F' o g w){o:Nat->Prop}{g:aS}{w:ae}:Xe P T F o g w->Xe P T F' o g w:=fun⟨a,b,c,d⟩=>⟨a,b,c,fun x=>let ⟨g',e,f⟩:=d x;⟨g',e,f.mono fun _ _ _=>Za.mono hF⟩⟩
theorem Zb.mono(hA:∀o g w,cx o g w->DY o g w)(hF:∀o g w,F o g w->F' o g w){vs:Nat}{o:Nat->Prop}{g:aS}{w:ae}:Zb P T cx F vs o g w->Zb P T DY F' vs o g w:=fun⟨a,h⟩ =>
 ⟨a,fun v hv hw=>⟨fun e=>let ⟨g',x,y⟩:=(h v hv hw).1 e;⟨g',x,y.mono fun _ _ _=>Xe.mono hF⟩,fun e=>let ⟨g',x,y⟩:=(h v hv hw).2 e;⟨g',x,y.mono hA⟩⟩⟩
theorem OX.mono(hA:∀o g w,cx o g w->DY o g w)(hF:∀o g w,F o g w->F' o g w){o:Nat->Prop}{g:aS}{w:ae}:OX P T cx F o g w->OX P T DY F' o g w:=fun⟨a,h⟩ =>
 ⟨a,fun v hv hw=>let ⟨g',x,y,z⟩:=h v hv hw;⟨g',x,fun e=>(y e).mono fun _ _ _=>VE.mono hF,fun e=>(z e).mono fun _ _ _=>Zb.mono hA hF⟩⟩
theorem OY.mono(hA:∀o g w,cx o g w->DY o g w){o:Nat->Prop}{g:aS}{w:ae}:OY P T cx o g w->OY P T DY o g w:=fun⟨a,g',b,c⟩=>⟨a,g',b,c.mono hA⟩
end
end
section
variable {P:Program} {m:Bool} {R:aM->ae->ae->Prop} {Gu:aM->ae->ae->Array Event->Prop} {X:aM->aS->ae->Prop} {b:Frame} {a:Act} {k:List Item} {cs:List Frame} {o:aM} {w:ae} {ops:Array Oper} {i:Nat} {rest:List Nat} {op:Oper}
theorem still_at(W:fg P m R Gu X){S:ae->Prop}(hS:∀w1,R o w w1->S w1)(ho:ops[i]?=some op)(hw:Region.wanted op (yielded ops a.tmps)=true)(hk:b.kind≠.early)(hg:∀w1,S w1->Gu o w1 w1 (listed P b.fn a op w1))(h:∀w1,S w1->∀K:Act->ae->Prop,(∀a',X o (G (b.at a' (.inRegion ops rest::k)) cs) w->K a' w1)->uponK op a K ((execOp a.eval op).run P w1)):X o (G (b.at a (.inRegion ops (i::rest)::k)) cs) w:=by
 refine W.step o _ w rfl fun w1 h1=>?_;have:=h w1 (hS w1 h1) (fun a' w'=>w'=w1/\X o (G (b.at a' (.inRegion ops rest::k)) cs) w) fun _ x=>⟨rfl,x⟩;revert this;cases hr:(execOp a.eval op).run P w1 with
 |ok x w' =>
  cases x with
  |value v=>intro q;simp only[uponK_value] at q;obtain⟨rfl,q⟩:=q;exact⟨_,_,_,dN ho hw hk hr,hg _ (hS _ h1),by rw[bS];exact W.rely _ _ _ _ q h1⟩
  |skip=>intro q;simp only[uponK_skip] at q;obtain⟨rfl,q⟩:=q;exact⟨_,_,_,jk ho hw hk hr,hg _ (hS _ h1),by rw[bS];exact W.rely _ _ _ _ q h1⟩
  |_=>intro q;exact q.elim
 |halt _ _=>intro q;exact q.elim
theorem TD(W:fg P m R Gu X)(ho:ops[i]?=some op)(_hn:EU op.op=true)(hw:Region.wanted op (yielded ops a.tmps)=true)(hk:b.kind≠.early)(hg:∀w1,(execOp a.eval op).events P w1 #[]=#[])(h:∀w1,∀K:Act->ae->Prop,(∀a',X o (G (b.at a' (.inRegion ops rest::k)) cs) w->K a' w1)->uponK op a K ((execOp a.eval op).run P w1)):X o (G (b.at a (.inRegion ops (i::rest)::k)) cs) w :=
 still_at W (S:=fun _=>True) (fun _ _=>trivial) ho hw hk (fun w1 _=>by rw[listed_nil (hg w1)];exact W.idle _ _) (fun w1 _=>h w1)
end
theorem Qo{P:Program}{main:Bool}{b:Frame}{a:Act}{k:List Item}{cs:List Frame}{w:ae}{ops:Array Oper}{i:Nat}{rest:List Nat}{op:Oper}{d:Deferred}{f:Fn}{c:Array Value}(ho:ops[i]?=some op)(hw:Region.wanted op (yielded ops a.tmps)=true)(hk:b.kind≠.early)(hr:(execOp a.eval op).run P w=.ok (.spawn d) w)(he:(execOp a.eval op).events P w #[]=#[])(hd:d.target=.fn f c){dd:Option Tmp}(hdd:op.dst=dd):
  stepG P main (G (b.at a (.inRegion ops (i::rest)::k)) cs) w=.spawn (G (b.at (a.put dd undef) (.inRegion ops rest::k)) cs) (born P d) w #[]:=by
 subst hdd;rw[stepG_spawn ho hw hk hr hd,listed_nil he]
section
variable {P:Program} {T:cP} {Stop:dV} {b:Frame} {a:Act} {k:List Item} {cs:List Frame} {o:aM} {w:ae} {ops:Array Oper} {i:Nat} {rest:List Nat} {op:Oper}
theorem Kb(ho:ops[i]?=some op)(hw:Region.wanted op (yielded ops a.tmps)=true)(hk:b.kind≠.early){d:Option Tmp}(hd:op.dst=d)(x:Obj)(cm:∀w1,(execOp a.eval op).run P w1=.ok (.value (.pointer (some ⟨w1.heap.size,0,none⟩))) (w1.alloc x))(iH:∀w1,(execOp a.eval op).events P w1 #[]=#[])(h:∀w1,dc T o w w1->cM P T Stop (fun b=>o b\/b=w1.heap.size) (G (b.at (a.put d (.pointer (some ⟨w1.heap.size,0,none⟩))) (.inRegion ops rest::k)) cs) (w1.alloc x)):cM P T Stop o (G (b.at a (.inRegion ops (i::rest)::k)) cs) w:=by
 subst hd;refine cM.step rfl fun w1 h1=>⟨_,_,_,dN ho hw hk (cm w1),⟨an,fun b hb _=>RowKit.Below.heap_alloc w1 x b hb,rfl,rfl⟩,by rw[listed_nil (iH w1)];simp,?_⟩;rw[show grow o w1 (w1.alloc x)=fun b=>o b\/b=w1.heap.size from tJ o w1 x];exact h w1 h1
theorem Kc(A:Nat)(hA:o A)(ho:ops[i]?=some op)(hw:Region.wanted op (yielded ops a.tmps)=true)(hk:b.kind≠.early){d:Option Tmp}(hd:op.dst=d){f:ae->ae}(hf:∀w1,gx A w1 (f w1))(cm:∀w1,w1.heap[A]?=w.heap[A]?->(execOp a.eval op).run P w1=.ok .skip (f w1))(iH:∀w1,w1.heap[A]?=w.heap[A]?->∀e∈(execOp a.eval op).events P w1 #[],∃ad wt sy,e=⟨.cell ad,wt,sy⟩/\ad.block=A)(h:∀w1,dc T o w w1->cM P T Stop o (G (b.at (a.put d undef) (.inRegion ops rest::k)) cs) (f w1)):cM P T Stop o (G (b.at a (.inRegion ops (i::rest)::k)) cs) w:=by
 subst hd;refine cM.step rfl fun w1 h1=>⟨_,_,_,jk ho hw hk (cm w1 (h1.own A hA)),⟨bq (hf w1).size.symm,fun b hb hn=>(hf w1).heap b fun e=>hn (e▸hA),(hf w1).os,(hf w1).output⟩,fun e he=>?_,?_⟩
 ·obtain⟨ad,wt,sy,rfl,e2⟩:=iH w1 (h1.own A hA) e (mem_listed he);refine⟨fun x hx _=>.inr (.inl ⟨A,.inl hA,?_⟩),an,an,an⟩;simp only[MemAct.ofEvent,MemAct.touch?,en] at hx;subst hx;exact e2
 ·rw[jU o (hf w1).size];exact h w1 h1
end
section
variable {P:Program} {Fin:bH} {d:Nat} {b:Frame} {a:Act} {k:List Item} {cs:List Frame} {o:aM} {w:ae} {ops:Array Oper} {i:Nat} {rest:List Nat} {op:Oper}
theorem xW(ho:ops[i]?=some op)(hw:Region.wanted op (yielded ops a.tmps)=true)(hk:b.kind≠.early){dd:Option Tmp}(hd:op.dst=dd)(x:Obj)(f:Nat->Value)(cm:∀w1,(execOp a.eval op).run P w1=.ok (.value (f w1.heap.size)) (w1.alloc x))(iH:∀w1,(execOp a.eval op).events P w1 #[]=#[])(h:XB P Fin d (fun b=>o b\/b=w.heap.size) (G (b.at (a.put dd (f w.heap.size)) (.inRegion ops rest::k)) cs) (w.alloc x)):XB P Fin d o (G (b.at a (.inRegion ops (i::rest)::k)) cs) w:=by
 subst hd;refine bJ.step o _ w rfl fun w1 h1=>⟨_,_,_,dN ho hw hk (cm w1),⟨by rw[listed_nil (iH w1)];simp,an,rfl,rfl⟩,?_⟩;obtain⟨dd,rfl⟩:=h1;rw[show grow o (w.at dd) ((w.at dd).alloc x)=fun b=>o b\/b=w.heap.size from tJ o (w.at dd) x];exact bJ.rely _ _ _ ((w.alloc x).at dd) h ⟨dd,rfl⟩
end
end
section
variable {P:Program} {Fin:bH} {d:Nat} {b:Frame} {a:Act} {k:List Item} {cs:List Frame} {o:aM} {w:ae} {ops:Array Oper} {i:Nat} {rest:List Nat} {op:Oper} {f:FuncId} {fn:Func} {rR:Array TypeId} {as:Array Operand} {e:Array Value->Sem Value}
theorem Qp{x:Event}(h:x.sync=true):TB o x:=by
 obtain⟨loc,wt,sy⟩:=x;simp only at h;subst h;intro y hy ad hl hk;cases loc with
 |cell c=>simp only[MemAct.ofEvent,MemAct.touch?,en] at hy;subst hy;simp at hk
 |obj c=>cases wt<;>simp[MemAct.ofEvent,MemAct.touch?] at hy<;>subst hy<;>simp at hk
 |output=>simp only[MemAct.ofEvent,MemAct.touch?,en] at hy;subst hy;simp at hk
 |goroutines=>simp only[MemAct.ofEvent,MemAct.touch?,en] at hy;subst hy;simp at hk
 |mark m=>cases m<;>simp[MemAct.ofEvent,MemAct.touch?] at hy<;>subst hy<;>simp at hk
theorem zY{ad:Addr}{wt sy:Bool}(h:o ad.block):TB o ⟨.cell ad,wt,sy⟩:=by
 intro y hy c hl hk;simp only[MemAct.ofEvent,MemAct.touch?,en] at hy;subst hy;cases hl;exact h
theorem LQ{r:Nat}{wt sy:Bool}:TB o ⟨.obj r,wt,sy⟩:=by
 intro y hy c hl hk;cases wt<;>cases sy<;>simp[MemAct.ofEvent,MemAct.touch?] at hy<;>subst hy<;>cases hl
theorem xX(ho:ops[i]?=some op)(hw:Region.wanted op (yielded ops a.tmps)=true)(hk:b.kind≠.early)(eu:op.op=.call {callee:=.value (.func f),args:=as,argTypes:=rR})(hf:P.funcs[f]?=some fn)(gF:(fn.name == "runtime.NumGoroutine")=false)(hb:fn.body.isNone=true)(hn:Extern.findNext fn=none)(he:Extern.find fn=some e){v:Value}{t:ae->ae}{evs:Array Event}{dd:Option Tmp}(hd:op.dst=dd)(nT:∀n,t (w.at n)=(t w).at n)(ft:(t w).heap.size=w.heap.size)(cm:∀n,(e (as.map a.eval)).run P (w.at n)=.ok v (t (w.at n)))(iH:∀n,(e (as.map a.eval)).events P (w.at n) #[⟨.mark (.extern f),false,true⟩]=#[⟨.mark (.extern f),false,true⟩]++evs)(hs:∀x∈evs,x.sync=true/\(∀g,x.loc≠.mark (.extern g))/\x.loc≠.mark .disable/\x.loc≠.mark .enable)(h:XB P Fin d o (G (b.at (a.put dd v) (.inRegion ops rest::k)) cs) (t w))(Py:(t w).os=w.os/\(t w).output=w.output:=by exact⟨rfl,rfl⟩):XB P Fin d o (G (b.at a (.inRegion ops (i::rest)::k)) cs) w:=by
 subst hd;refine bJ.step o _ w rfl fun w1 h1=>?_;obtain⟨n,rfl⟩:=h1;refine⟨_,_,_,stepG_entry ho hw hk eu hf gF hb hn he (cm n) (iH n) (fun x hx=>⟨(hs x hx).1,(hs x hx).2.1⟩),⟨fun x hx=>⟨Qp (hs x hx).1,(hs x hx).2.2⟩,?_,?_⟩,?_⟩
 ·rw[nT n];exact bq ft.symm
 ·rw[nT n];exact Py
 ·rw[jU o (by rw[nT n];exact ft),nT n];exact bJ.rely _ _ _ _ h ⟨n,rfl⟩
theorem wD(m:Mark)(hm:m=.disable\/m=.enable)(ho:ops[i]?=some op)(hw:Region.wanted op (yielded ops a.tmps)=true)(hk:b.kind≠.early)(eu:op.op=.call {callee:=.value (.func f),args:=as,argTypes:=rR})(hf:P.funcs[f]?=some fn)(gF:(fn.name == "runtime.NumGoroutine")=false)(hb:fn.body.isNone=true)(hn:Extern.findNext fn=none)(he:Extern.find fn=some (fun _=>do mark m;pure Extern.Race.none_)){dd:Option Tmp}(hd:op.dst=dd){d':Nat}(Tv:deafBehind d #[⟨.mark m,false,true⟩]=d')(h:XB P Fin d' o (G (b.at (a.put dd (.tuple #[])) (.inRegion ops rest::k)) cs) w):XB P Fin d o (G (b.at a (.inRegion ops (i::rest)::k)) cs) w:=by
 subst hd;exact XB.mark rfl (es:=#[⟨.mark m,false,true⟩]) (fun x hx=>by simp at hx;subst hx;exact⟨m,rfl⟩) Tv (fun w1=>stepG_mark0 m (by rintro g rfl;rcases hm with h|h<;>cases h) ho hw hk eu hf gF hb hn he) h
theorem Bj(mk:Addr->Mark)(hm:∀ad,(∃x,mk ad=.acquire x)\/(∃x,mk ad=.releaseMerge x))(ho:ops[i]?=some op)(hw:Region.wanted op (yielded ops a.tmps)=true)(hk:b.kind≠.early)(eu:op.op=.call {callee:=.value (.func f),args:=as,argTypes:=rR})(hf:P.funcs[f]?=some fn)(gF:(fn.name == "runtime.NumGoroutine")=false)(hb:fn.body.isNone=true)(hn:Extern.findNext fn=none)(he:Extern.find fn=some (Extern.Race.marked mk)){ad:Addr}(hx:(as.map a.eval)[0]?=some (.pointer (some ad))){dd:Option Tmp}(hd:op.dst=dd)(h:XB P Fin d o (G (b.at (a.put dd (.tuple #[])) (.inRegion ops rest::k)) cs) w):XB P Fin d o (G (b.at a (.inRegion ops (i::rest)::k)) cs) w:=by
 subst hd;have Tv:deafBehind d #[⟨.mark (mk ad),false,true⟩]=d:=by rcases hm ad with⟨x,e⟩|⟨x,e⟩<;>rw[e]<;>rfl
 exact XB.mark rfl (es:=#[⟨.mark (mk ad),false,true⟩]) (fun x hx=>by simp at hx;subst hx;exact⟨_,rfl⟩) Tv (fun w1=>stepG_markAt mk (fun ad g e=>by rcases hm ad with⟨x,e'⟩|⟨x,e'⟩<;>rw[e'] at e<;>cases e) ho hw hk eu hf gF hb hn he hx) h
theorem Hj(ho:ops[i]?=some op)(hw:Region.wanted op (yielded ops a.tmps)=true)(hk:b.kind≠.early){v:Value}{dd:Option Tmp}(hd:op.dst=dd)(hr:∀n,(execOp a.eval op).run P (w.at n)=.ok (.value v) (w.at n))(iH:∀n,∀x∈(execOp a.eval op).events P (w.at n) #[],Xu Fin o x/\x.loc≠.mark .disable/\x.loc≠.mark .enable)(h:XB P Fin d o (G (b.at (a.put dd v) (.inRegion ops rest::k)) cs) w):XB P Fin d o (G (b.at a (.inRegion ops (i::rest)::k)) cs) w:=by
 subst hd;refine bJ.step o _ w rfl fun w1 h1=>?_;obtain⟨n,rfl⟩:=h1;exact⟨_,_,_,dN ho hw hk (hr n),⟨fun x hx=>by rw[bS];exact iH n x (mem_listed hx),ag _,rfl,rfl⟩,by rw[bS];exact bJ.rely _ _ _ _ h ⟨n,rfl⟩⟩
theorem wE(ho:ops[i]?=some op)(hw:Region.wanted op (yielded ops a.tmps)=true)(hk:b.kind≠.early){v:Value}{dd:Option Tmp}(hd:op.dst=dd)(hr:∀n,(execOp a.eval op).run P (w.at n)=.ok (.value v) (w.at n))(iH:∀n,∀x∈(execOp a.eval op).events P (w.at n) #[],TB o x/\x.loc≠.mark .disable/\x.loc≠.mark .enable)(h:XB P Fin d o (G (b.at (a.put dd v) (.inRegion ops rest::k)) cs) w):XB P Fin d o (G (b.at a (.inRegion ops (i::rest)::k)) cs) w :=
 Hj ho hw hk hd hr (fun n x hx=>⟨(iH n x hx).1.Qj,(iH n x hx).2⟩) h
end
section
variable {P:Program} {L:Nat->Bool} {o:aM} {w:ae} {Fin:bH} {d:Nat}
def Cl(P:Program)(L:Nat->Bool)(o:aM)(v:Value):Prop:=∀f,(lR P L o).has f->val f v=v
structure im(o:aM)(w wl:ae):Prop where
 size:wl.heap.size=w.heap.size
 heap:∀b,o b->wl.heap[b]?=w.heap[b]?
theorem im.cell{wl:ae}(h:im o w wl){b off:Nat}(hb:o b):wl.cell? ⟨b,off,none⟩=w.cell? ⟨b,off,none⟩:=cell_of (h.heap b hb)
theorem Ke{o':aM}(h:∀b,o b->o' b){f:Rn}(hf:(lR P L o').has f):(lR P L o).has f:=⟨hf.inj,fun r hr=>hf.at_ r (h r hr),hf.fn,hf.jF⟩
theorem Cl.up{o':aM}{v:Value}(hv:Cl P L o v)(h:∀b,o b->o' b):Cl P L o' v:=fun f hf=>hv f (Ke h hf)
theorem iK{w':ae}:∀b,o b->grow o w w' b:=fun _ h=>.inl h
theorem TE(hF:bE P L o w){w1 w' wl aI:ae}{F':iZ}{v v':Value}(e1:w1.heap=w.heap)(e1o:w1.os=w.os/\w1.output=w.output)(ft:wl.heap.size=w.heap.size)(Hb:WR F' aI w')(hm:eJ (lR P L o) F' wl w1 aI w')(hv:∀f,F'.has f->v'=val f v)(uL:wl.os=w.os/\wl.output=w.output):
  v'=v/\kS P L o w w' aI v/\(∀r,F'.K r↔grow o w w' r)/\(∀r,F'.K r->F'.φ r=r):=by
 have Xx:wl.heap.size=w1.heap.size:=by rw[e1];exact ft
 have nt:=hm.same Xx;have LP:∀r,F'.K r->F'.φ r=r:=fun r hr=>by
  rcases nt.2 r hr with h1|h1
  ·exact(hm.φ r h1)
  ·exact h1
 have CS:w.heap.size<=w'.heap.size:=by rw[<- e1];exact hm.size
 have hK:F'.K=grow o w w':=by
  funext r;simp only[grow,eq_iff_iff];constructor
  ·intro hr;rcases hm.vb r hr with h1|h1
   ·exact .inl h1
   ·refine .inr ⟨by rw[<- ft];exact h1.1,?_⟩;have:=Hb.here r hr;rw[<- nt.1];exact this
  ·rintro(h1|h1)
   ·exact hm.K r h1
   ·obtain⟨r',a,b⟩:=hm.mine r (by rw[e1];exact h1.1) h1.2;rw[LP r' a] at b;exact b▸a
 have hG:F'.G=P.globals.size:=hm.G;have hLL:F'.L=fun n=>L n=true:=hm.L;have Bg:∀f,(lR P L (grow o w w')).has f->F'.has f:=fun f hf=>⟨hf.inj,fun r hr=>by rw[LP r hr];exact hf.at_ r (hK▸hr),fun n hn=>hf.fn n (by rw[hLL] at hn;exact hn),by rw[hG];exact hf.jF⟩;have hid:=Bg zV LO;have vD:v'=v:=(hv zV hid).trans (zX v);have Bh:∀b,grow o w w' b->w'.heap[b]?=aI.heap[b]?:=fun b hb=>by
  have mo:F'.K b:=hK▸hb;have:=Hb.sr b mo zV hid;rw[LP b mo] at this;rw[this];cases aI.heap[b]?<;>simp[LN]
 refine⟨vD,⟨⟨fun b hb=>?_,fun b hb=>.inl (hF.jF b hb),aR hF.size CS⟩,Bh,fun b h1 h2=>?_,nt.1.symm,CS,fun f hf=>by rw[<- hv f (Bg f hf)];exact vD,?_,?_⟩,fun r=>by rw[hK],LP⟩
 ·have mo:F'.K b:=hK▸hb;have bZ:=Hb.here b mo;refine⟨aI.heap[b],by rw[Bh b hb];exact aG bZ,Hb.OT b mo _ (aG bZ),fun f hf=>?_⟩;have:=Hb.sr b mo f (Bg f hf);rw[LP b mo,Bh b hb,aG bZ,cR] at this;exact(aK this).symm
 ·rw[<- e1];refine hm.rest b fun r hr e=>?_;rw[LP r hr] at e;subst e;have:grow o w w' r:=hK▸hr;rcases this with h3|h3
  ·exact h2 h3
  ·omega
 ·rw[Hb.os,hm.Pb,uL.1]
 ·rw[Hb.output,hm.Ao,uL.2]
theorem Cl.func(hF:bE P L o w){g:Fn}{a b:Array Value}(h:Cl P L o (.func g a b)):∃n,g=.func n/\L n=true:=by
 obtain⟨N,hN⟩:=Bf o;obtain⟨f1,f2,h1,h2,_,hL,hty,hm⟩:=(hF.wr hN).two;have e:=(h f1 h1).trans (h f2 h2).symm;simp only[val,Value.func.injEq] at e;have e:=e.1;cases g with
 |func n =>
  refine⟨n,rfl,aO fun hn=>?_⟩;simp only[sk,Fn.func.injEq] at e;exact hL n (fun x=>hn x) e
 |via t p n q=>simp only[sk,Fn.via.injEq] at e;exact absurd e.1 (hty t)
 |method s=>simp only[sk,Fn.method.injEq] at e;exact absurd e (hm s)
 |methodOf t s=>simp only[sk,Fn.methodOf.injEq] at e;exact absurd e.2 (hm s)
 |yield l=>simp only[sk,Fn.yield.injEq] at e;exact absurd e (hty l)
theorem EY(cH:qf P L P.globals.size)(hF:bE P L o w){ρ:Operand->Value}{op:Oper}(ja:sE L op.op=true)(eY:∀x∈op.op.operands,Cl P L o (ρ x)){R:ae->Next->ae->Prop}(cm:∀wl,im o w wl->∃x aI,(execOp ρ op).run P wl=.ok x aI/\R wl x aI)(n:Nat):
  ∃wl x aI w',im o w wl/\R wl x aI/\(∀e∈(execOp ρ op).events P (w.at n) #[],TB (grow o w w') e/\e.loc≠.mark .disable/\e.loc≠.mark .enable) /\
   ((∃v,x=.value v/\(execOp ρ op).run P (w.at n)=.ok (.value v) w'/\kS P L o w w' aI v)\/(x=.skip/\(execOp ρ op).run P (w.at n)=.ok .skip w'/\kS P L o w w' aI undef)\/(∃f as,x=.enter f as)):=by
 obtain⟨N,hN⟩:=Bf o;have mw:bE P L o (w.at n):=hF.of_heap rfl;have hW:=mw.wr hN;have I7:PF P L P.globals.size (lR P L o):=⟨fun r hr=>⟨hF.jF r hr,rfl⟩,rfl,rfl,EX hF.jF⟩;have aE:im o w (iz N (w.at n)):=⟨kC _ _,fun b hb=>lg N (w.at n) ((hN b).2 hb)⟩;obtain⟨x,aI,e1,hR⟩:=cm _ aE;have hrel:∀f,(lR P L o).has f->Rel P f (iI L f) (execOp ρ op) (execOp ρ op):=fun f hf =>
  AI (I7.ok cH hf) (I7.fn hf) (fun m hm as=>cH.call m hm f (I7.ok cH hf) (I7.fn hf) as) op ja (fun y hy=>(eY y hy f hf).symm) (fun y hy g a b e=>by
   have:=eY y hy;rw[e] at this;exact this.func hF)
 have hc:=vH (iI L) _ _ (lR P L o) (iz N (w.at n)) (w.at n) #[] #[] hrel hW;rw[show((execOp ρ op).runT P (iz N (w.at n)) #[]).1=(execOp ρ op).run P (iz N (w.at n)) by rw[Sem.runT_eq],e1] at hc;obtain⟨F',b,w',WB,k1,k2,k3,k4,k5,k6⟩:=hc;have VP:(execOp ρ op).run P (w.at n)=.ok b w':=by rw[Sem.runT_eq] at k1;exact congrArg Prod.fst k1
 have JH:(execOp ρ op).events P (w.at n) #[]=WB:=by rw[Sem.runT_eq] at k1;exact congrArg Prod.snd k1
 have Qq:∀{v v':Value},(∀f,F'.has f->v'=val f v)->v'=v/\kS P L o w w' aI v/\(∀r,F'.K r↔grow o w w' r)/\(∀r,F'.K r->F'.φ r=r):=fun hv=>TE (w1:=w.at n) hF rfl ⟨rfl,rfl⟩ aE.size k3 k4 hv ⟨rfl,rfl⟩;obtain⟨f0,jW⟩:=k3.some;obtain⟨-,-,hKg,LP⟩:=Qq (v:=undef) (v':=undef) (fun f _=>(kM f).symm);refine⟨_,x,aI,w',aE,hR,fun e he=>?_,?_⟩
 ·obtain⟨new,e2,e3⟩:=k5;rw[JH,e2] at he;have pd:=e3 e (by simpa using he);obtain⟨loc,wt,sy⟩:=e;cases loc with
  |cell ad =>
   obtain⟨r,h1,h2⟩:=pd;rw[LP r h1] at h2;refine⟨zY ?_,an,an⟩;rw[<- h2];exact(hKg r).1 h1
  |obj r=>exact⟨LQ,an,an⟩
  |output =>
   refine⟨fun y hy c hl hk=>?_,an,an⟩;simp only[MemAct.ofEvent,MemAct.touch?,en] at hy;subst hy;cases hl
  |goroutines =>
   refine⟨fun y hy c hl hk=>?_,an,an⟩;simp only[MemAct.ofEvent,MemAct.touch?,en] at hy;subst hy;cases hl
  |mark m =>
   have hd:Jp m=true:=pd;cases m<;>first|exact Bool.noConfusion hd|(refine⟨fun y hy c hl hk=>?_,an,an⟩;simp only[MemAct.ofEvent,MemAct.touch?] at hy;cases hy)
 ·have k2':=k2 f0 jW;cases x with
  |value v =>
   cases b<;>first|exact k2'.elim|skip
   rename_i v';obtain⟨rfl,hb,-⟩:=Qq (v:=v) (v':=v') (fun f hf=>k2 f hf);exact .inl ⟨_,rfl,VP,hb⟩
  |skip =>
   cases b<;>first|exact k2'.elim|skip
   obtain⟨-,hb,-⟩:=Qq (v:=undef) (v':=undef) (fun f _=>(kM f).symm);exact .inr (.inl ⟨rfl,VP,hb⟩)
  |enter f as=>exact .inr (.inr ⟨f,as,rfl⟩)
  |_=>exact k2'.elim
section
variable {fn:FuncId} {Q:Exit->Act->aM->ae->Prop} {a:Act} {ops:Array Oper} {i:Nat} {rest:List Nat} {op:Oper}
end
end
section
variable {P:Program} {main:Bool} {b:Frame} {a:Act} {k:List Item} {cs:List Frame} {w:ae}
def l8(w:ae)(fn:FuncId)(tmps:Array Value)(ps:Array Tmp)(as bd:Code):ae :=
 (w.alloc (.deferred (some []))).alloc (.loop {state:=.ready,pending:=none,fn,tmps,params:=ps,assign:=as,body:=bd,defers:=w.heap.size})
theorem zG{x:Operand}{ps:Array Tmp}{as bd:Code}{g:FuncId}{gc:Func}{c:Code}{cap:Array Value}(uG:b.roundOf=none)(hk:b.kind≠.early)(hm:b.mode=.run)(hx:a.eval x=.func (.func g) #[] cap)(hg:P.funcs[g]?=some gc)(gF:(gc.name == "runtime.NumGoroutine")=false)(hb:gc.body=some c):
  stepG P main (G (b.at a (.code (.rangeFunc x ps as bd)::k)) cs) w =
   .go (G (Frame.enter P g (#[.func (.yield (w.heap.size+1)) #[] #[]]++cap) .normal) (b.at ⟨a.tmps,{target:=.collected w.heap.size,args:=#[]}::a.defers⟩ (.inRangeFunc (w.heap.size+1)::k)::cs)) (l8 w b.fn a.tmps ps as bd) #[]:=by
 have kY:(b.kind==CallKind.early)=false:=by simpa using hk
 have hec:∀(fr:Frame) (v:Value),fr.eval (.const v)=v:=fun _ _=>rfl;have Xy:¬gc.name= "runtime.NumGoroutine":=by simpa using gF
 have kB:∀fr:Frame,fr.tmps=a.tmps->fr.eval x=.func (.func g) #[] cap:=fun fr h=>by
  rw[<- hx];cases x<;>simp[Frame.eval,Act.eval,h]
 simp[G,Frame.at,stepG,stepG.exec,uG,Instr.enterLoop,Sem.runT_eq,go_sem,seen_none,GStep.after,stepG.apply,resolve,Deferred.ofValue,invoke,callFunc,hg,hb,l8,kB,hec,Xy,kY]
def cX(w:ae)(l:Nat)(r:Loop):ae:={w with heap:=w.heap.setIfInBounds l (.loop r)}
theorem jA{l:Nat}{r:Loop}(h:w.heap[l]?=some (.loop r)):(Instr.getLoop l).run P w=.ok r w:=by
 simp[Instr.getLoop,getObj,Sem.run,h,go_sem]
theorem nW{l:Nat}{x:Obj}(h:w.heap[l]?=some x)(hx:∀c t z,x≠.cells c t z):(getObj l).run P w=.ok x w:=by
 cases x<;>simp_all[getObj,Sem.run]
theorem pk{l:Nat}{x:Obj}(h:w.heap[l]?=some x)(hx:∀c t z,x≠.cells c t z)(es:Array Event):(getObj l).events P w es=es.push ⟨.obj l,false,x.isChan⟩:=by
 cases x<;>simp_all[getObj,Sem.events,Sem.runT,-Sem.runT_eq]
theorem fV{l:Nat}{x:Obj}(o:Obj)(h:w.heap[l]?=some x)(hx:∀c t z,x≠.cells c t z):(setObj l o).run P w=.ok () {w with heap:=w.heap.setIfInBounds l o}:=by
 cases x<;>simp_all[setObj,Sem.run]
theorem jM{l:Nat}{x:Obj}(o:Obj)(h:w.heap[l]?=some x)(hx:∀c t z,x≠.cells c t z)(es:Array Event):(setObj l o).events P w es=es.push ⟨.obj l,true,o.isChan⟩:=by
 cases x<;>simp_all[setObj,Sem.events,Sem.runT,-Sem.runT_eq]
theorem ma{l:Nat}{r:Loop}(h:w.heap[l]?=some (.loop r))(es:Array Event):(Instr.getLoop l).events P w es=es.push ⟨.obj l,false,false⟩:=by
 simp[Instr.getLoop,pk h an,nW h an,Obj.isChan,Result.evThen]
theorem Hk{ops:Array Oper}{i:Nat}{rest:List Nat}{o:Oper}{x y:Operand}{rR:Array TypeId}{l:Nat}{r:Loop}{v:Value}{t:Tmp}(ho:ops[i]?=some o)(hw:Region.wanted o (yielded ops a.tmps)=true)(hk:b.kind≠.early)(eu:o.op=.call {callee:=.value x,args:=#[y],argTypes:=rR})(hx:a.eval x=.func (.yield l) #[] #[])(hy:a.eval y=v)(hl:w.heap[l]?=some (.loop r))(hp:r.params=#[t]):
  ∃es,stepG P main (G (b.at a (.inRegion ops (i::rest)::k)) cs) w=.go (G (Frame.round l r.fn (r.tmps.setIfInBounds t v) r.assign r.body .normal) (b.at a (.inRegion ops (i::rest)::k)::cs)) w es/\∀e∈es,∃wt sy,e=⟨.obj l,wt,sy⟩:=by
 have kY:(b.kind==CallKind.early)=false:=by simpa using hk
 have hr:∀ρ:Operand->Value,ρ x=.func (.yield l) #[] #[]->ρ y=v->(execOp ρ o).run P w=.ok (.round l r.fn (r.tmps.setIfInBounds t v) r.assign r.body) w:=fun ρ h1 h2=>by
  unfold execOp;simp[eu,resolve,Deferred.ofValue,h1,h2,invoke,Instr.yield,jA hl,hp,Result.andThen]
 have he:∀ρ:Operand->Value,ρ x=.func (.yield l) #[] #[]->ρ y=v->(execOp ρ o).events P w #[]=#[⟨.obj l,false,false⟩]:=fun ρ h1 h2=>by
  unfold execOp;simp[eu,resolve,Deferred.ofValue,h1,h2,invoke,Instr.yield,jA hl,ma hl,hp,Result.evThen]
 refine⟨listed P b.fn a o w,?_,fun e TF=>?_⟩
 ·rw[stepG_oper ho hw];simp[stepG.apply,hr _ hx hy,G,Frame.at,kY,GStep.after,listed]
 ·have:=mem_listed TF;rw[he _ hx hy] at this;simp at this;exact⟨_,_,this⟩
theorem xY{l:Nat}{r:Loop}{tm:Array Value}{fn:FuncId}(hl:w.heap[l]?=some (.loop r))(hs:r.state=.ready):
  ∃es,stepG P main (G {(base fn).at ⟨tm,[]⟩ (.beginRound::k) with roundOf:=some l} cs) w=.go (G {(base fn).at ⟨tm,[]⟩ k with roundOf:=some l} cs) (cX w l {r with state:=.busy}) es/\∀e∈es,∃wt sy,e=⟨.obj l,wt,sy⟩:=by
 have hr:(Instr.beginRound l).run P w=.ok () (cX w l {r with state:=.busy}):=by
  simp[Instr.beginRound,jA hl,hs,fV _ hl,Result.andThen,cX]
 have he:(Instr.beginRound l).events P w #[]=#[⟨.obj l,false,false⟩,⟨.obj l,true,false⟩]:=by
  simp[Instr.beginRound,jA hl,ma hl,hs,fV _ hl,jM _ hl,Result.evThen,Obj.isChan]
 refine⟨seen P fn #[⟨.obj l,false,false⟩,⟨.obj l,true,false⟩],?_,fun e TF=>?_⟩
 ·simp[G,Frame.at,stepG,stepG.exec,stepG.apply,Sem.runT_eq,hr,he,GStep.after,base,Frame.finish,Result.andThen,Result.evThen]
 ·have:=mem_seen TF;simp at this;rcases this with rfl|rfl<;>exact⟨_,_,rfl⟩
theorem Bl{l:Nat}{r:Loop}{tm:Array Value}{fn:FuncId}{c:Frame}(hl:w.heap[l]?=some (.loop r)):
  ∃es,stepG P main (G {(base fn).at ⟨tm,[]⟩ [] with roundOf:=some l} (c::cs)) w=.go (G (c.finish (.bool true)) cs) (cX w l {r with state:=.ready,pending:=none}) es/\∀e∈es,∃wt sy,e=⟨.obj l,wt,sy⟩:=by
 have hr:(Instr.endRound l none).run P w=.ok (.bool true) (cX w l {r with state:=.ready,pending:=none}):=by
  simp[Instr.endRound,jA hl,fV _ hl,Result.andThen,cX]
 have he:(Instr.endRound l none).events P w #[]=#[⟨.obj l,false,false⟩,⟨.obj l,true,false⟩]:=by
  simp[Instr.endRound,jA hl,ma hl,fV _ hl,jM _ hl,Result.evThen,Obj.isChan]
 refine⟨seen P fn #[⟨.obj l,false,false⟩,⟨.obj l,true,false⟩],?_,fun e TF=>?_⟩
 ·simp[G,Frame.at,stepG,stepG.exec,Sem.runT_eq,hr,he,GStep.after,base,doReturn]
 ·have:=mem_seen TF;simp at this;rcases this with rfl|rfl<;>exact⟨_,_,rfl⟩
theorem CW{l:Nat}{r:Loop}(hl:w.heap[l]?=some (.loop r))(hs:r.state=.ready)(hp:r.pending=none)(uG:b.mode=.run):
  ∃es,stepG P main (G (b.at a (.endRangeFunc l::k)) cs) w=.go (G (b.at a k) cs) (cX w l {r with state:=.exhausted}) es/\∀e∈es,∃wt sy,e=⟨.obj l,wt,sy⟩:=by
 have hr:(Instr.endLoop l).run P w=.ok none (cX w l {r with state:=.exhausted}):=by
  simp[Instr.endLoop,jA hl,fV _ hl,hs,hp,Result.andThen,cX]
 have he:(Instr.endLoop l).events P w #[]=#[⟨.obj l,false,false⟩,⟨.obj l,true,false⟩]:=by
  simp[Instr.endLoop,jA hl,ma hl,fV _ hl,jM _ hl,hs,hp,Result.evThen,Obj.isChan]
 refine⟨seen P b.fn #[⟨.obj l,false,false⟩,⟨.obj l,true,false⟩],?_,fun e TF=>?_⟩
 ·simp[G,Frame.at,stepG,stepG.exec,Sem.runT_eq,hr,he,GStep.after]
 ·have:=mem_seen TF;simp at this;rcases this with rfl|rfl<;>exact⟨_,_,rfl⟩
theorem zH{r:Nat}{ds:List Deferred}{todo:List Item}(hd:a.defers={target:=.collected r,args:=#[]}::ds)(hl:w.heap[r]?=some (.deferred (some []))):
  ∃es,stepG P main (G {b.at a todo with mode:=.returning} cs) w=.go (G {b.at ⟨a.tmps,ds⟩ todo with mode:=.returning} cs) {w with heap:=w.heap.setIfInBounds r (.deferred none)} es/\∀e∈es,∃wt sy,e=⟨.obj r,wt,sy⟩:=by
 have hr:(Instr.takeDeferred r).run P w=.ok [] {w with heap:=w.heap.setIfInBounds r (.deferred none)}:=by
  simp[Instr.takeDeferred,nW hl,fV _ hl,Result.andThen]
 have he:(Instr.takeDeferred r).events P w #[]=#[⟨.obj r,false,false⟩,⟨.obj r,true,false⟩]:=by
  simp[Instr.takeDeferred,nW hl,pk hl,fV _ hl,jM _ hl,Result.evThen,Obj.isChan]
 refine⟨seen P b.fn #[⟨.obj r,false,false⟩,⟨.obj r,true,false⟩],?_,fun e TF=>?_⟩
 ·simp[G,Frame.at,stepG,unwind,hd,Sem.runT_eq,hr,he,GStep.after]
 ·have:=mem_seen TF;simp at this;rcases this with rfl|rfl<;>exact⟨_,_,rfl⟩
end
section
variable {P:Program} {L:Nat->Bool} {o:aM} {w:ae} {Fin:bH} {d:Nat} {b:Frame} {a:Act} {k:List Item} {cs:List Frame} {ops:Array Oper} {i:Nat} {rest:List Nat} {op:Oper}
section
variable {fn:FuncId} {g:aS} {g':Value->aS} {gk:aS}
theorem zZ(cH:qf P L P.globals.size)(hF:bE P L o w)(hs:g.status=.running)(ki:∀w1 v w',(execOp a.eval op).run P w1=.ok (.value v) w'->stepG P true g w1=.go (g' v) w' (listed P fn a op w1))(ja:sE L op.op=true)(eY:∀x∈op.op.operands,Cl P L o (a.eval x)){R:ae->Value->ae->Prop}(cm:∀wl,im o w wl->∃v aI,(execOp a.eval op).run P wl=.ok (.value v) aI/\R wl v aI)(h:∀wl v aI w',im o w wl->R wl v aI->kS P L o w w' aI v->XB P Fin d (grow o w w') (g' v) w'):XB P Fin d o g w:=by
 refine bJ.step o _ w hs fun w1 kR=>?_;obtain⟨n,rfl⟩:=kR;obtain⟨wl,x,aI,w',aE,⟨v,rfl,hR⟩,iH,fy⟩:=EY cH hF ja eY (R:=fun wl x aI=>∃v,x=.value v/\R wl v aI) (fun wl aE=>by
  obtain⟨v,aI,e1,e2⟩:=cm wl aE;exact⟨_,aI,e1,v,rfl,e2⟩) n
 rcases fy with⟨v',vD,hr,hb⟩|⟨vD,_⟩|⟨f,as,vD⟩
 ·cases vD;exact⟨_,_,_,ki _ _ _ hr,⟨fun e he=>⟨(iH e (mem_listed he)).1.Qj,(iH e (mem_listed he)).2⟩,hb.gO,hb.os,hb.output⟩,h wl v aI w' aE hR hb⟩
 ·cases vD
 ·cases vD
theorem xZ(cH:qf P L P.globals.size)(hF:bE P L o w)(hs:g.status=.running)(ki:∀w1 v w',(execOp a.eval op).run P w1=.ok (.value v) w'->stepG P true g w1=.go (g' v) w' (listed P fn a op w1))(ja:sE L op.op=true)(eY:∀x∈op.op.operands,Cl P L o (a.eval x)){v:Value}(cm:∀wl,im o w wl->(execOp a.eval op).run P wl=.ok (.value v) wl)(h:Cl P L o v->XB P Fin d o (g' v) w):XB P Fin d o g w:=by
 refine bJ.step o _ w hs fun w1 kR=>?_;obtain⟨n,rfl⟩:=kR;obtain⟨wl,x,aI,w',aE,⟨rfl,rfl⟩,iH,fy⟩:=EY cH hF ja eY (R:=fun wl x aI=>x=.value v/\aI=wl) (fun wl aE=>⟨_,wl,cm wl aE,rfl,rfl⟩) n;rcases fy with⟨v',vD,hr,hb⟩|⟨vD,_⟩|⟨f,as,vD⟩
 ·cases vD;have hr0:=cm (w.at n) ⟨rfl,fun _ _=>rfl⟩;rw[hr] at hr0;cases hr0;have eY:Cl P L o v:=by have:=hb.val;rw[show grow o w (w.at n)=o from jU o rfl] at this;exact this
  exact⟨_,_,_,ki _ _ _ hr,⟨fun e he=>⟨(iH e (mem_listed he)).1.Qj,(iH e (mem_listed he)).2⟩,ag _,rfl,rfl⟩,by rw[bS];exact bJ.rely _ _ _ _ (h eY) ⟨n,rfl⟩⟩
 ·cases vD
 ·cases vD
theorem Bm(cH:qf P L P.globals.size)(hF:bE P L o w)(hs:g.status=.running)(ki:∀w1 w',(execOp a.eval op).run P w1=.ok .skip w'->stepG P true g w1=.go gk w' (listed P fn a op w1))(ja:sE L op.op=true)(eY:∀x∈op.op.operands,Cl P L o (a.eval x)){R:ae->ae->Prop}(cm:∀wl,im o w wl->∃aI,(execOp a.eval op).run P wl=.ok .skip aI/\R wl aI)(h:∀wl aI w',im o w wl->R wl aI->kS P L o w w' aI undef->XB P Fin d (grow o w w') gk w'):XB P Fin d o g w:=by
 refine bJ.step o _ w hs fun w1 kR=>?_;obtain⟨n,rfl⟩:=kR;obtain⟨wl,x,aI,w',aE,⟨rfl,hR⟩,iH,fy⟩:=EY cH hF ja eY (R:=fun wl x aI=>x=.skip/\R wl aI) (fun wl aE=>by
  obtain⟨aI,e1,e2⟩:=cm wl aE;exact⟨_,aI,e1,rfl,e2⟩) n
 rcases fy with⟨v',vD,_⟩|⟨_,hr,hb⟩|⟨f,as,vD⟩
 ·cases vD
 ·exact⟨_,_,_,ki _ _ hr,⟨fun e he=>⟨(iH e (mem_listed he)).1.Qj,(iH e (mem_listed he)).2⟩,hb.gO,hb.os,hb.output⟩,h wl aI w' aE hR hb⟩
 ·cases vD
end
theorem Bn(cH:qf P L P.globals.size)(hF:bE P L o w)(ho:ops[i]?=some op)(hw:Region.wanted op (yielded ops a.tmps)=true)(hk:b.kind≠.early)(ja:sE L op.op=true)(eY:∀x∈op.op.operands,Cl P L o (a.eval x)){dd:Option Tmp}(hd:op.dst=dd){R:ae->Value->ae->Prop}(cm:∀wl,im o w wl->∃v aI,(execOp a.eval op).run P wl=.ok (.value v) aI/\R wl v aI)(h:∀wl v aI w',im o w wl->R wl v aI->kS P L o w w' aI v->XB P Fin d (grow o w w') (G (b.at (a.put dd v) (.inRegion ops rest::k)) cs) w'):XB P Fin d o (G (b.at a (.inRegion ops (i::rest)::k)) cs) w :=
 zZ (g':=fun v=>G (b.at (a.put dd v) (.inRegion ops rest::k)) cs) cH hF rfl (fun w1 v w' hr=>by subst hd;exact dN ho hw hk hr) ja eY cm h
theorem me(cH:qf P L P.globals.size)(hF:bE P L o w)(ho:ops[i]?=some op)(hw:Region.wanted op (yielded ops a.tmps)=true)(hk:b.kind≠.early)(ja:sE L op.op=true)(eY:∀x∈op.op.operands,Cl P L o (a.eval x)){dd:Option Tmp}(hd:op.dst=dd){v:Value}(cm:∀wl,im o w wl->(execOp a.eval op).run P wl=.ok (.value v) wl)(h:Cl P L o v->XB P Fin d o (G (b.at (a.put dd v) (.inRegion ops rest::k)) cs) w):XB P Fin d o (G (b.at a (.inRegion ops (i::rest)::k)) cs) w :=
 xZ (g':=fun v=>G (b.at (a.put dd v) (.inRegion ops rest::k)) cs) cH hF rfl (fun w1 v w' hr=>by subst hd;exact dN ho hw hk hr) ja eY cm h
theorem yV(cH:qf P L P.globals.size)(hF:bE P L o w)(ho:ops[i]?=some op)(hw:Region.wanted op (yielded ops a.tmps)=true)(hk:b.kind≠.early)(ja:sE L op.op=true)(eY:∀x∈op.op.operands,Cl P L o (a.eval x)){dd:Option Tmp}(hd:op.dst=dd){R:ae->ae->Prop}(cm:∀wl,im o w wl->∃aI,(execOp a.eval op).run P wl=.ok .skip aI/\R wl aI)(h:∀wl aI w',im o w wl->R wl aI->kS P L o w w' aI undef->XB P Fin d (grow o w w') (G (b.at (a.put dd undef) (.inRegion ops rest::k)) cs) w'):XB P Fin d o (G (b.at a (.inRegion ops (i::rest)::k)) cs) w :=
 Bm (gk:=G (b.at (a.put dd undef) (.inRegion ops rest::k)) cs) cH hF rfl (fun w1 w' hr=>by subst hd;exact jk ho hw hk hr) ja eY cm h
theorem kS.alloc{wl aI w':ae}{v:Value}(h:kS P L o w w' aI v)(hF:bE P L o w)(ha:im o w wl){x:Obj}(e:aI=wl.alloc x):w'.heap.size=w.heap.size+1/\(∀b,b<w.heap.size->w'.heap[b]?=w.heap[b]?)/\w'.heap[w.heap.size]?=some x:=by
 have hs:aI.heap.size=w.heap.size+1:=by rw[e];simp[ha.size]
 refine⟨by rw[h.size,hs],fun b hb=>?_,?_⟩
 ·by_cases ho:o b
  ·rw[h.same b (.inl ho),e,RowKit.Below.heap_alloc wl x b (by rw[ha.size];exact hb),ha.heap b ho]
  ·exact h.rest b hb ho
 ·rw[h.same _ (.inr ⟨ag _,by rw[h.size,hs];omega⟩),e];show(wl.heap.push x)[w.heap.size]?=_;rw[<- ha.size];simp
theorem kS.store{wl aI w':ae}{v:Value}(h:kS P L o w w' aI v)(ha:im o w wl){A:Nat}(hA:o A)(hs:aI.heap.size=wl.heap.size)(hh:∀b,b≠A->aI.heap[b]?=wl.heap[b]?):w'.heap.size=w.heap.size/\(∀b,b≠A->w'.heap[b]?=w.heap[b]?)/\w'.heap[A]?=aI.heap[A]?/\grow o w w'=o:=by
 have hz:w'.heap.size=w.heap.size:=by rw[h.size,hs,ha.size]
 refine⟨hz,fun b hb=>?_,h.same A (.inl hA),jU o hz⟩;by_cases bZ:b<w.heap.size
 ·by_cases ho:o b
  ·rw[h.same b (.inl ho),hh b hb,ha.heap b ho]
  ·exact h.rest b bZ ho
 ·rw[cb aa,cb aa]
def atR(f:FuncId)(l:Nat)(tm:Array Value)(k:List Item):Frame:={(base f).at ⟨tm,[]⟩ k with roundOf:=some l}
theorem round_eq(f:FuncId)(l:Nat)(tm:Array Value)(Nv bd:Code):Frame.round l f tm Nv bd .normal=atR f l tm [.code Nv,.beginRound,.code bd]:=rfl
section
variable {f:FuncId} {l:Nat} {tm:Array Value} {main:Bool}
theorem wF{id:Nat}{ops:Array Oper}:stepG P main (G (atR f l tm (.code (.region id ops false)::k)) cs) w=.go (G (atR f l tm (.inRegion ops (List.range ops.size)::k)) cs) w #[]:=by simp[G,stepG,stepG.exec,Frame.at,atR]
theorem qp{ops:Array Oper}:stepG P main (G (atR f l tm (.inRegion ops []::k)) cs) w=.go (G (atR f l tm k) cs) w #[]:=by simp[G,stepG,stepG.exec,Frame.at,atR]
theorem Hl{id:Nat}{c:Code}:stepG P main (G (atR f l tm (.code (.block id c)::k)) cs) w=.go (G (atR f l tm (.code c :: .inBlock id::k)) cs) w #[]:=by simp[G,stepG,stepG.exec,Frame.at,atR]
theorem CX{id:Nat}:stepG P main (G (atR f l tm (.inBlock id::k)) cs) w=.go (G (atR f l tm k) cs) w #[]:=by simp[G,stepG,stepG.exec,Frame.at,atR]
theorem nC{ops:Array Oper}{i:Nat}{rest:List Nat}{o:Oper}{v:Value}{w':ae}(ho:ops[i]?=some o)(hw:Region.wanted o (yielded ops tm)=true)(qZ:∀c,o.op≠.defer c)(hr:(execOp (Act.eval ⟨tm,[]⟩) o).run P w=.ok (.value v) w'){dd:Option Tmp}(hd:o.dst=dd):
  stepG P main (G (atR f l tm (.inRegion ops (i::rest)::k)) cs) w=.go (G (atR f l (Act.put ⟨tm,[]⟩ dd v).tmps (.inRegion ops rest::k)) cs) w' (listed P f ⟨tm,[]⟩ o w):=by
 subst hd;have he:(atR f l tm (.inRegion ops (i::rest)::k)).eval=Act.eval ⟨tm,[]⟩:=by funext x;cases x<;>rfl
 have AP:(atR f l tm (.inRegion ops (i::rest)::k)).finish v=atR f l (Act.put ⟨tm,[]⟩ o.dst v).tmps (.inRegion ops rest::k):=by
  simp only[Frame.finish,atR,Frame.at,ho,Option.bind_some];cases o.dst<;>rfl
 have Qr:stepG P main (G (atR f l tm (.inRegion ops (i::rest)::k)) cs) w=stepG.apply P true (atR f l tm (.inRegion ops (i::rest)::k)) cs none (execOp (Act.eval ⟨tm,[]⟩) o) w:=by
  have h1:(atR f l tm (.inRegion ops (i::rest)::k)).oper?=some o:=by simp[Frame.oper?,atR,Frame.at,ho]
  have h2:stepG P main (G (atR f l tm (.inRegion ops (i::rest)::k)) cs) w=stepG.oper P true (atR f l tm (.inRegion ops (i::rest)::k)) cs none w:=by
   simp[G,stepG,stepG.exec,Frame.at,atR,ho,hw]
  rw[h2];simp only[stepG.oper,h1,he];split
  ·rename_i eu;exact absurd eu (qZ _)
  ·rfl
 rw[Qr,<- AP];simp[stepG.apply,hr,G,GStep.after,listed,atR,Frame.at,base]
theorem Bo{ops:Array Oper}{i:Nat}{rest:List Nat}{o:Oper}{w':ae}(ho:ops[i]?=some o)(hw:Region.wanted o (yielded ops tm)=true)(qZ:∀c,o.op≠.defer c)(hr:(execOp (Act.eval ⟨tm,[]⟩) o).run P w=.ok .skip w'){dd:Option Tmp}(hd:o.dst=dd):
  stepG P main (G (atR f l tm (.inRegion ops (i::rest)::k)) cs) w=.go (G (atR f l (Act.put ⟨tm,[]⟩ dd undef).tmps (.inRegion ops rest::k)) cs) w' (listed P f ⟨tm,[]⟩ o w):=by
 subst hd;have he:(atR f l tm (.inRegion ops (i::rest)::k)).eval=Act.eval ⟨tm,[]⟩:=by funext x;cases x<;>rfl
 have AP:(atR f l tm (.inRegion ops (i::rest)::k)).finish undef=atR f l (Act.put ⟨tm,[]⟩ o.dst undef).tmps (.inRegion ops rest::k):=by
  simp only[Frame.finish,atR,Frame.at,ho,Option.bind_some];cases o.dst<;>rfl
 have Qr:stepG P main (G (atR f l tm (.inRegion ops (i::rest)::k)) cs) w=stepG.apply P true (atR f l tm (.inRegion ops (i::rest)::k)) cs none (execOp (Act.eval ⟨tm,[]⟩) o) w:=by
  have h1:(atR f l tm (.inRegion ops (i::rest)::k)).oper?=some o:=by simp[Frame.oper?,atR,Frame.at,ho]
  have h2:stepG P main (G (atR f l tm (.inRegion ops (i::rest)::k)) cs) w=stepG.oper P true (atR f l tm (.inRegion ops (i::rest)::k)) cs none w:=by
   simp[G,stepG,stepG.exec,Frame.at,atR,ho,hw]
  rw[h2];simp only[stepG.oper,h1,he];split
  ·rename_i eu;exact absurd eu (qZ _)
  ·rfl
 rw[Qr,<- AP];simp[stepG.apply,hr,G,GStep.after,listed,atR,Frame.at,base]
end
theorem qq{g g':aS}{t:ae->ae}{l:Nat}(hs:g.status=.running)(h:∀n,∃es,stepG P true g (w.at n)=.go g' ((t w).at n) es/\∀e∈es,∃wt sy,e=⟨.obj l,wt,sy⟩)(ft:(t w).heap.size=w.heap.size)(hx:XB P Fin d o g' (t w))(Py:(t w).os=w.os/\(t w).output=w.output:=by exact⟨rfl,rfl⟩):XB P Fin d o g w:=by
 refine bJ.step o _ w hs fun w1 kR=>?_;obtain⟨n,rfl⟩:=kR;obtain⟨es,e1,e2⟩:=h n;refine⟨_,_,_,e1,⟨fun e he=>?_,bq ft.symm,Py⟩,?_⟩
 ·obtain⟨wt,sy,rfl⟩:=e2 e he;exact⟨LQ,an,an⟩
 ·rw[jU o (show((t w).at n).heap.size=(w.at n).heap.size from ft)];exact bJ.rely _ _ _ _ hx ⟨n,rfl⟩
theorem oB(h:bE P L o w){l:Nat}{x:Obj}(hx:eF x=false)(hc:∀f,obj f x=x)(hl:o l):bE P L o {w with heap:=w.heap.setIfInBounds l x}:=by
 refine⟨fun b hb=>?_,h.jF,by simpa using h.size⟩;by_cases e:l=b
 ·subst e;exact⟨x,by rw[bR (h.lt hl)],hx,fun f _=>hc f⟩
 ·obtain⟨y,k1,k2,k3⟩:=h.shut b hb;exact⟨y,by rw[aJ e];exact k1,k2,k3⟩
theorem bE.alloc(h:bE P L o w){x:Obj}(hx:eF x=false)(hc:∀f,(lR P L o).has f->obj f x=x):bE P L (fun b=>o b\/b=w.heap.size) (w.alloc x):=by
 refine⟨fun b hb=>?_,fun b hb=>.inl (h.jF b hb),by have:=h.size;simp;omega⟩;rcases hb with hb|rfl
 ·obtain⟨y,k1,k2,k3⟩:=h.shut b hb;exact⟨y,by rw[RowKit.Below.heap_alloc w x b (h.lt hb)];exact k1,k2,fun f hf=>k3 f (Ke (fun _ hb=>.inl hb) hf)⟩
 ·refine⟨x,?_,hx,fun f hf=>hc f (Ke (fun _ hb=>.inl hb) hf)⟩;show(w.heap.push x)[w.heap.size]?=_;simp
theorem Hm{f:FuncId}{l:Nat}{tm:Array Value}{main:Bool}{r:Loop}(hl:w.heap[l]?=some (.loop r))(hs:r.state=.ready):
  ∃es,stepG P main (G (atR f l tm (.beginRound::k)) cs) w=.go (G (atR f l tm k) cs) (cX w l {r with state:=.busy}) es/\∀e∈es,∃wt sy,e=⟨.obj l,wt,sy⟩:=xY hl hs
theorem Nw{f:FuncId}{l:Nat}{tm:Array Value}{main:Bool}{r:Loop}{c:Frame}(hl:w.heap[l]?=some (.loop r)):
  ∃es,stepG P main (G (atR f l tm []) (c::cs)) w=.go (G (c.finish (.bool true)) cs) (cX w l {r with state:=.ready,pending:=none}) es/\∀e∈es,∃wt sy,e=⟨.obj l,wt,sy⟩:=Bl hl
theorem Kf{x:Operand}{ps:Array Tmp}{as bd:Code}{g:FuncId}{gc:Func}{c:Code}{cap:Array Value}(uG:b.roundOf=none)(hk:b.kind≠.early)(hm:b.mode=.run)(hx:a.eval x=.func (.func g) #[] cap)(hg:P.funcs[g]?=some gc)(gF:(gc.name == "runtime.NumGoroutine")=false)(hb:gc.body=some c)(h:XB P Fin d (fun b=>(o b\/b=w.heap.size)\/b=w.heap.size+1) (G (Frame.enter P g (#[.func (.yield (w.heap.size+1)) #[] #[]]++cap) .normal) (b.at ⟨a.tmps,{target:=.collected w.heap.size,args:=#[]}::a.defers⟩ (.inRangeFunc (w.heap.size+1)::k)::cs)) (l8 w b.fn a.tmps ps as bd)):XB P Fin d o (G (b.at a (.code (.rangeFunc x ps as bd)::k)) cs) w:=by
 refine bJ.step o _ w rfl fun w1 kR=>?_;obtain⟨n,rfl⟩:=kR;refine⟨_,_,_,zG uG hk hm hx hg gF hb,⟨an,?_,rfl,rfl⟩,?_⟩
 ·have h1:(l8 (w.at n) b.fn a.tmps ps as bd).heap.size=w.heap.size+2:=by simp[l8,World.at]
  rw[h1];exact aaq _ 2
 ·have e:grow o (w.at n) (l8 (w.at n) b.fn a.tmps ps as bd)=fun b=>(o b\/b=w.heap.size)\/b=w.heap.size+1:=by
   funext y;have h1:(l8 (w.at n) b.fn a.tmps ps as bd).heap.size=w.heap.size+2:=by simp[l8,World.at]
   simp only[grow,h1,eq_iff_iff];constructor
   ·rintro(h2|h2)
    ·exact .inl (.inl h2)
    ·have h3:w.heap.size<=y:=h2.1;have:=h2.2;omega
   ·rintro((h2|h2)|h2)
    ·exact .inl h2
    ·exact .inr ⟨bq h2.symm,aa⟩
    ·exact .inr ⟨show w.heap.size<=y by omega,aa⟩
  rw[e];exact bJ.rely _ _ _ ((l8 w b.fn a.tmps ps as bd).at n) h ⟨n,rfl⟩
section
theorem bN{k:IntKind}{n:Int}:Cl P L o (.int k n):=fun f _=>an
theorem kn{x:Bool}:Cl P L o (.bool x):=fun f _=>an
theorem bf{x:ah}:Cl P L o (.string x):=fun f _=>an
theorem aH{b off:Nat}(h:o b):Cl P L o (.pointer (some ⟨b,off,none⟩)):=fun f hf=>by simp[val,addr,hf.at_ b h,lR]
theorem di{b off l c:Nat}(h:o b):Cl P L o (.slice (some ⟨b,off,none⟩) l c):=fun f hf=>by simp[val,addr,hf.at_ b h,lR]
theorem gS{l c:Nat}:Cl P L o (.slice none l c):=fun f _=>by simp[val]
theorem Aa:Cl P L o (.pointer none):=fun f _=>by simp[val]
theorem cJ{vs:List Value}(h:∀v∈vs,Cl P L o v):Cl P L o (.agg vs.toArray):=fun f hf=>by
 simp only[val]
 congr 1
 simp only[List.map_toArray]
 congr 1
 conv=>rhs;rw[<- List.map_id vs]
 exact cU fun v hv=>h v hv f hf
end
end
end Go.Ren
namespace Go.Conc
open Go.Ren Go.ConcN
section
variable {P:Program} {L:Nat->Bool} {Fin:bH} {d:Nat} {o:aM} {w:ae} {fn:FuncId} {Q:Exit->Act->aM->ae->Prop} {a:Act} {ops:Array Oper} {i:Nat} {rest:List Nat} {op:Oper}
theorem cq(cH:qf P L P.globals.size)(hF:bE P L o w)(ho:ops[i]?=some op)(hw:Region.wanted op (yielded ops a.tmps)=true)(ja:sE L op.op=true)(eY:∀x∈op.op.operands,Cl P L o (a.eval x)){dd:Option Tmp}(hd:op.dst=dd){R:ae->Value->ae->Prop}(cm:∀wl,im o w wl->∃v aI,(execOp a.eval op).run P wl=.ok (.value v) aI/\R wl v aI)(h:∀wl v aI w',im o w wl->R wl v aI->kS P L o w w' aI v->fu (XB P Fin d) fn ops rest Q (a.put dd v) (grow o w w') w'):fu (XB P Fin d) fn ops (i::rest) Q a o w:=by
 intro b k cs hb hk hc;exact Bn cH hF ho hw hk ja eY hd cm fun wl v aI w' h1 h2 h3=>h wl v aI w' h1 h2 h3 b k cs hb hk hc
theorem aP(cH:qf P L P.globals.size)(hF:bE P L o w)(ho:ops[i]?=some op)(hw:Region.wanted op (yielded ops a.tmps)=true)(ja:sE L op.op=true)(eY:∀x∈op.op.operands,Cl P L o (a.eval x)){dd:Option Tmp}(hd:op.dst=dd){v:Value}(cm:∀wl,im o w wl->(execOp a.eval op).run P wl=.ok (.value v) wl)(h:Cl P L o v->fu (XB P Fin d) fn ops rest Q (a.put dd v) o w):fu (XB P Fin d) fn ops (i::rest) Q a o w:=by
 intro b k cs hb hk hc;exact me cH hF ho hw hk ja eY hd cm fun h1=>h h1 b k cs hb hk hc
theorem bD(cH:qf P L P.globals.size)(hF:bE P L o w)(ho:ops[i]?=some op)(hw:Region.wanted op (yielded ops a.tmps)=true)(ja:sE L op.op=true)(eY:∀x∈op.op.operands,Cl P L o (a.eval x)){dd:Option Tmp}(hd:op.dst=dd){R:ae->ae->Prop}(cm:∀wl,im o w wl->∃aI,(execOp a.eval op).run P wl=.ok .skip aI/\R wl aI)(h:∀wl aI w',im o w wl->R wl aI->kS P L o w w' aI undef->fu (XB P Fin d) fn ops rest Q (a.put dd undef) (grow o w w') w'):fu (XB P Fin d) fn ops (i::rest) Q a o w:=by
 intro b k cs hb hk hc;exact yV cH hF ho hw hk ja eY hd cm fun wl aI w' h1 h2 h3=>h wl aI w' h1 h2 h3 b k cs hb hk hc
end
section
variable {P:Program} {m:Bool} {b:Frame} {a:Act} {k:List Item} {cs:List Frame} {w:ae}
theorem Bp{o:Oper}{x:Operand}{f:FuncId}{fn:Func}{cap:Array Value}{args:Array Operand}{rR:Array TypeId}(eu:o.op=.call {callee:=.value x,args,argTypes:=rR})(hx:a.eval x=.func (.func f) #[] cap)(hf:P.funcs[f]?=some fn)(gF:(fn.name == "runtime.NumGoroutine")=false)(hb:fn.body.isNone=false):(execOp a.eval o).run P w=.ok (.enter f (args.map a.eval++cap)) w:=by
 have h1:¬fn.name= "runtime.NumGoroutine":=by simpa using gF
 have h2:¬fn.body=none:=by cases hx:fn.body<;>simp_all
 unfold execOp;simp[eu,hx,resolve,Deferred.ofValue,invoke,callFunc,hf,h1,h2]
theorem wG{o:Oper}{x:Operand}{f:FuncId}{fn:Func}{cap:Array Value}{args:Array Operand}{rR:Array TypeId}(eu:o.op=.call {callee:=.value x,args,argTypes:=rR})(hx:a.eval x=.func (.func f) #[] cap)(hf:P.funcs[f]?=some fn)(gF:(fn.name == "runtime.NumGoroutine")=false)(hb:fn.body.isNone=false)(es:Array Event):(execOp a.eval o).events P w es=es:=by
 have h1:¬fn.name= "runtime.NumGoroutine":=by simpa using gF
 have h2:¬fn.body=none:=by cases hx:fn.body<;>simp_all
 unfold execOp;simp[eu,hx,resolve,Deferred.ofValue,invoke,callFunc,hf,h1,h2]
theorem Kg{R:aM->ae->ae->Prop}{Gu:aM->ae->ae->Array Event->Prop}{X:aM->aS->ae->Prop}{fn:FuncId}{Q:Exit->Act->aM->ae->Prop}{o:aM}(W:fg P m R Gu X){ops:Array Oper}{i:Nat}{rest:List Nat}{op:Oper}{x:Operand}{cap:Array Value}{f:FuncId}{fc:Func}{c:Code}{args:Array Operand}{rR:Array TypeId}(ho:ops[i]?=some op)(hw:Region.wanted op (yielded ops a.tmps)=true)(eu:op.op=.call {callee:=.value x,args,argTypes:=rR})(hx:a.eval x=.func (.func f) #[] cap)(hf:P.funcs[f]?=some fc)(gF:(fc.name == "runtime.NumGoroutine")=false)(fo:fc.body=some c){vs:Array Value}(Nk:args.map a.eval++cap=vs){d:Option Tmp}(hd:op.dst=d)(h:bp P X f vs o w fun v o' w'=>fu X fn ops rest Q (a.put d v) o' w'):fu X fn ops (i::rest) Q a o w:=by
 subst Nk hd;intro b k cs hb hk hc;have mo:fc.body.isNone=false:=by rw[fo];rfl
 refine W.go rfl (fun w1=>?_) (h (b.at a (.inRegion ops (i::rest)::k)) cs fun v o' w' q=>?_)
 ·rw[stepG_enter ho hw hk (Bp eu hx hf gF mo)];have:listed P b.fn a op w1=#[]:=by unfold listed;rw[wG eu hx hf gF mo];exact seen_none P _
  rw[this]
 ·rw[show(b.at a (.inRegion ops (i::rest)::k)).finish v=b.at (a.put op.dst v) (.inRegion ops rest::k) by rw[dF,ho];rfl];exact q b k cs hb hk hc
end
section
variable {P:Program} {m:Bool} {R:aM->ae->ae->Prop} {Gu:aM->ae->ae->Array Event->Prop} {X:aM->aS->ae->Prop} {o:aM} {w:ae} {f:FuncId} {fc:Func} {Post:Value->aM->ae->Prop} {a:Act}
def jf(X:aM->aS->ae->Prop)(f:FuncId)(Post:Value->aM->ae->Prop)(a:Act)(o:aM)(w:ae):Prop :=
 ∀(cf:Frame) (cs:List Frame) (todo:List Item),(∀v o2 w2,Post v o2 w2->X o2 (G (cf.finish v) cs) w2)->X o (G {(base f).at a todo with mode:=.returning} (cf::cs)) w
theorem lO(W:fg P m R Gu X){c:Code}{vs:Array Value}(hf:P.funcs[f]?=some fc)(fo:fc.body=some c)(h:uJ X f c (fun e a' o' w'=>(e=.normal\/e=.ret)/\jf X f Post a' o' w') {tmps:=vs++Array.replicate (fc.ntmps-vs.size) undef,defers:=[]} o w):bp P X f vs o w Post:=by
 intro cf cs hc;rw[ij hf fo];refine h (base f) [] _ rfl (by simp[base]) fun e a' o' w' q=>?_;obtain⟨he,hl⟩:=q;rcases he with rfl|rfl
 ·exact W.go rfl (fun _=>dG) (hl _ _ _ hc)
 ·exact fun todo=>hl _ _ _ hc
theorem Bq(W:fg P m R Gu X)(hf:P.funcs[f]?=some fc)(hd:a.defers=[]){v:Value}(hr:wq P R Gu fc a.tmps o w v)(hx:Post v o w):jf X f Post a o w:=by
 intro cf cs todo hc;refine W.step _ _ _ rfl fun w1 h1=>?_;obtain⟨es,e1,e2⟩:=sT (main:=m) (b:=base f) (a:=a) (todo:=todo) (c:=cf) (cs:=cs) rfl hd hf (hr w1 h1).1;exact⟨_,_,es,e1,(hr w1 h1).2 es e2,by rw[bS];exact W.rely _ _ _ _ (hc v o w hx) h1⟩
theorem lF(W:fg P m R Gu X)(hf:P.funcs[f]?=some fc)(hd:a.defers=[]){v:Value}(hr:ResultsC P fc a.tmps v)(hx:Post v o w):jf X f Post a o w:=by
 intro cf cs todo hc;refine W.go rfl (fun w1=>?_) (hc v o w hx);rw[stepG_leave (b:=base f) rfl hd hf (hr w1).1 (hr w1).2]
theorem p7{Fin:bH}{tmps:Array Value}{v:Value}(cm:∀n,(results fc tmps).run P (w.at n)=.ok v (w.at n))(iH:∀n e,e∈(results fc tmps).events P (w.at n) #[]->∃ad wt sy,e=⟨.cell ad,wt,sy⟩/\o ad.block):wq P (fun _=>AtRel) (GuO Fin) fc tmps o w v:=by
 rintro w1 ⟨n,rfl⟩;refine⟨cm n,fun es GJ=>⟨fun e he=>?_,ag _,rfl,rfl⟩⟩;obtain⟨ad,wt,sy,rfl,hb⟩:=iH n e (GJ e he);rw[bS];exact⟨(zY hb).Qj,an,an⟩
end
section
variable {P:Program} {L:Nat->Bool} {o:aM} {w:ae}
theorem Hn{f:Rn}{c:Array Value}{j:Nat}{v:Value}(hc:c.map (val f)=c)(hv:val f v=v):(c.setIfInBounds j v).map (val f)=c.setIfInBounds j v:=by
 rw[jv,hc,hv]
theorem bE.setCell(h:bE P L o w){K off:Nat}{v:Value}(hv:Cl P L o v):bE P L o (w.setCell ⟨K,off,none⟩ v):=by
 refine⟨fun b hb=>?_,h.jF,by simpa[World.setCell] using h.size⟩;obtain⟨y,k1,k2,k3⟩:=h.shut b hb;by_cases e:K=b
 ·subst e;cases y with
  |cells c t z =>
   refine⟨.cells (c.setIfInBounds off v) t z,by simp[World.setCell,er,k1],rfl,fun f hf=>?_⟩;have:=k3 f hf;simp only[obj,Obj.cells.injEq,and_true] at this |-;exact Hn this (hv f hf)
  |_=>exact⟨_,by simp[World.setCell,er,k1],k2,k3⟩
 ·exact⟨y,by simp[World.setCell,er,e,k1],k2,k3⟩
end
end Go.Conc
