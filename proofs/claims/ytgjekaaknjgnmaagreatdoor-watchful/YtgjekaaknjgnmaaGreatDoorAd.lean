import Derived.Test.YtgjekaaknjgnmaaGreatDoorAc
import Derived.Conc.CrowdStepC2
set_option linter.all false
set_option maxHeartbeats 40000000
set_option maxRecDepth 200000
namespace Go.Ren
open Go.Conc Go.ConcN
section
open Go.ConcR (KK wgBlock WgAt stA smA rd wr mk Payload)
variable [Payload]
abbrev pN:Nat->Loc->Prop:=fun _ _=>False
section
variable (P:Program) (T:cP) (V:Nat->ae->Prop) (ek:Nat->(Nat->Prop)->ae->Prop) (cx Fin:dV)
def CR(i:Nat)(o:Nat->Prop)(g:aS)(w:ae):Prop :=
 ∃C v m,o C/\Goes P false (RW T.ty T.Wg C 0 0 (1-1)) (DWs T.Wg pN pN C 0 1) (AtR0 P T.ty T.Wg C 0 0 1 v) m g w/\ek i (fun b=>o b/\b≠C) w
def M5:dV:=fun o g w=>g.status=.running/\∃g',stepG P true g w=.go g' w #[mk (.acquire (stA T.Wg))]/\Fin o g' w
def VE:dV:=fun o g w=>g.status=.running/\∃g',stepG P true g w=.go g' w #[mk .enable]/\cM P T (M5 P T Fin) o g' w
def Za:dV:=fun o g w=>g.status=.running/\(WgAt T.ty T.Wg w 0 0->∃g',stepG P true g w=.go g' w #[rd (stA T.Wg)]/\cM P T (VE P T Fin) o g' w)
def Xe:dV:=fun o g w=>g.status=.running/\g.offers=none /\
 ((∃st,WgAt T.ty T.Wg w st 0)->stepG P true g w=.go {g with status:=.blocked} w #[]) /\
 (WgAt T.ty T.Wg w 0 1->∃g',stepG P true g w=.go g' (w.setCell (smA T.Wg) (.int .u32 0)) (semEvents (smA T.Wg))/\cM P T (Za P T Fin) o g' (w.setCell (smA T.Wg) (.int .u32 0)))
def Zb(vs:Nat):dV:=fun o g w=>g.status=.running/\∀v:Nat,v<2147483648->WgAt T.ty T.Wg w (v*KK) 0 ->
 (v=vs->∃g',stepG P true g w=.go g' (w.setCell (stA T.Wg) (.int .u64 (v*KK+1))) #[rd (stA T.Wg),wr (stA T.Wg)]/\cM P T (Xe P T Fin) o g' (w.setCell (stA T.Wg) (.int .u64 (v*KK+1)))) /\
 (v≠vs->∃g',stepG P true g w=.go g' w #[rd (stA T.Wg)]/\cM P T cx o g' w)
def OX:dV:=fun o g w=>g.status=.running/\∀v:Nat,v<2147483648->WgAt T.ty T.Wg w (v*KK) 0 ->
 ∃g',stepG P true g w=.go g' w #[rd (stA T.Wg)]/\(v=0->cM P T (VE P T Fin) o g' w)/\(v≠0->cM P T (Zb P T cx Fin v) o g' w)
def OY:dV:=fun o g w=>g.status=.running/\∃g',stepG P true g w=.go g' w #[mk .disable]/\cM P T cx o g' w
def SGo(j:Nat)(Next:dV):dV:=fun o g w=>g.status=.running/\∃g' child hand,stepG P true g w=.spawn g' child w #[]/\(∀b,hand b->o b) /\
 (∀w1,dc T o w w1->T.Idle j w1->gj P T j V (CR P T ek j) ⟨child,hand,fun _=>False,w1⟩)/\Next (fun b=>o b/\¬hand b) g' w
def Xf(j:Nat)(Next:dV):dV:=fun o g w=>g.status=.running/\∃g',stepG P true g w=.go g' w #[mk .enable]/\cM P T (SGo P T V ek j Next) o g' w
def SA1(j:Nat)(Next:dV):dV:=fun o g w=>g.status=.running/\∀v:Nat,v<2147483647->WgAt T.ty T.Wg w (v*KK) 0 ->
 ∃g',stepG P true g w=.go g' (w.setCell (stA T.Wg) (.int .u64 ((v+1)*KK))) #[rd (stA T.Wg),wr (stA T.Wg)]/\cM P T (Xf P T V ek j Next) o g' (w.setCell (stA T.Wg) (.int .u64 ((v+1)*KK)))
def JS(j:Nat)(Next:dV):dV:=fun o g w=>g.status=.running/\∃g',stepG P true g w=.go g' w #[mk .disable]/\cM P T (SA1 P T V ek j Next) o g' w
def iC:Nat->dV
 |0=>cM P T (OY P T cx)
 |r+1=>cM P T (JS P T V ek (T.n-(r+1)) (iC r))
def jI:CTag->dV
 | .sp r s=>if s=5 then JS P T V ek (T.n-(r+1)) (iC P T V ek cx r) else if s=4 then SA1 P T V ek (T.n-(r+1)) (iC P T V ek cx r)
   else if s=3 then Xf P T V ek (T.n-(r+1)) (iC P T V ek cx r) else SGo P T V ek (T.n-(r+1)) (iC P T V ek cx r)
 | .kd=>OY P T cx
 | .w1=>OX P T cx Fin
 | .w2 vs=>Zb P T cx Fin vs
 | .w3|.blk=>Xe P T Fin
 | .w4=>Za P T Fin
 | .ke=>VE P T Fin
 | .acq=>M5 P T Fin
 | .anch|.ret=>fun _ _ _=>False
def lK(n:Nat):CTag->Nat->Nat->Prop
 | .sp r s,j,d=>r<n/\j=n-(r+1)/\((s=5/\d=0)\/(s=4/\d=1)\/(s=3/\d=1)\/(s=2/\d=0))
 | .kd,j,d=>j=n/\d=0
 | .w1,j,d|.w2 _,j,d|.w3,j,d|.blk,j,d|.w4,j,d|.ke,j,d=>j=n/\d=1
 | .acq,j,d=>j=n/\d=0
 | .anch,_,_|.ret,_,_=>False
def ji(tag:CTag)(o:Nat->Prop)(a:aS)(w:ae)(y:jc):Prop :=
 match tag with
 | .blk=>∃a0,a={a0 with status:=.blocked}/\(∀w1,dc T o w w1->Xe P T Fin o a0 w1)/\y=.inr 0
 |tag=>cM P T (jI P T V ek cx Fin tag) o a w/\y=.inl (jI P T V ek cx Fin tag,⟨a,o,w⟩)
def I6(i:Nat)(o rc:Nat->Prop)(cl:Nat->Option Nat)(d:WD)(ld:kV)(g:aS)(w:ae):Prop :=
 (cl i=none/\d.stage=7/\d.deaf=0/\∃g0 tr,ld=.inl (i,⟨g0,o,rc,w⟩,tr)/\gj P T i V (CR P T ek i) ⟨g0,o,rc,w⟩ /\
  ((g=g0/\tr=false)\/(tr=true/\∃k z f,T.dep i k/\(∀w1,cF T i o rc w w1->stepG P false g0 w1=.comm g0 #[rcase (T.ch k) z] true (.recv f) w1 #[]) /\
   ((g=parked g0 #[rcase (T.ch k) z] (.recv f)/\cl k=none)\/(g={parked g0 #[rcase (T.ch k) z] (.recv f) with status:=.running}/\(cl k).isSome=true)))))
 \/ ((cl i).isSome=true/\ld=.inr d.fuel/\V i w/\∃C v,o C/\WSit P T.ty T.Wg C 0 pN pN 0 1 v d.stage d.fuel d.deaf g w/\ek i (fun b=>o b/\b≠C) w)
end
structure jJ(T:cP)(V:Nat->ae->Prop)(ek:Nat->(Nat->Prop)->ae->Prop):Prop where
 v:∀k w w1,(∀a,T.js k (.cell a)->w1.cell? a=w.cell? a)->V k w->V k w1
 val:∀k o w w1,(∀a,T.js k (.cell a)->w1.cell? a=w.cell? a)->(∀b,o b->w1.heap[b]?=w.heap[b]?)->ek k o w->ek k o w1
section
variable {P:Program} {T:cP} {V:Nat->ae->Prop} {ek:Nat->(Nat->Prop)->ae->Prop} {cx Fin:dV}
theorem cF.rw{i:Nat}{o rc:Nat->Prop}{w w1:ae}(h:cF T i o rc w w1){C:Nat}(hC:o C):RW T.ty T.Wg C 0 0 (1-1) w w1 :=
 ⟨fun b hb=>absurd hb (dE _),h.wg,fun⟨cs,h1,h2⟩=>⟨cs,(h.own C hC).trans h1,h2⟩,cell_of_block (h.own C hC) 0⟩
theorem wm{g0:aS}{c:Nat}{z:Value}{f:Bool}{w:ae}{s r:Nat}{tm b:Bool}(hc:w.heap[c]?=some (.chan 0 #[] b s r tm)):
  (parked g0 #[rcase c z] (.recv f)).again w=if b=true then {parked g0 #[rcase c z] (.recv f) with status:=.running} else parked g0 #[rcase c z] (.recv f):=by
 cases b
 ·exact again_recv_open hc
 ·exact again_recv_closed hc
def lM(w:ae):kV->kV
 | .inl (i,x,tr)=>.inl (i,{x with w:=w},tr)
 | .inr m=>.inr m
theorem I6.M6(hV:jJ T V ek){i:Nat}{o rc:Nat->Prop}{cl cl':Nat->Option Nat}{d:WD}{ld:kV}{g:aS}{w w':ae}(h:I6 P T V ek i o rc cl d ld g w)(hr:cF T i o rc w w'){x x':aS}(eY:cl' i=cl i)(GD:∀k,(cl k).isSome=true->(cl' k).isSome=true)(hw:∀k,cl k=none->T.dep i k->cl' k=none\/(mayWake P x=true/\x'.status=.running))(uh:∀k,T.dep i k->∃s r tm,w'.heap[T.ch k]?=some (.chan 0 #[] (cl' k).isSome s r tm)):
  iy T (lM w' ld) ld/\I6 P T V ek i o rc cl' d (lM w' ld) (woken P x x' w' g) w':=by
 rcases h with⟨h1,h2,h3,g0,tr,h4,h5,h6⟩|⟨h1,h2,h3,C,v,h4,h5,h6⟩
 ·refine⟨by rw[h4];exact⟨rfl,rfl,rfl,rfl,rfl,hr⟩,.inl ⟨eY.trans h1,h2,h3,g0,tr,by rw[h4];rfl,h5.rely hr,?_⟩⟩;have aai:g0.status=.running:=h5.look.1;rcases h6 with⟨h6,h6t⟩|⟨h6,k,z,f,h7,h8,h9⟩
  ·left;rw[h6,woken_running aai];exact⟨rfl,h6t⟩
  ·refine .inr ⟨h6,k,z,f,h7,fun w1 pO=>h8 w1 (hr.trans pO),?_⟩;rcases h9 with⟨h9,oq⟩|⟨h9,oq⟩
   ·obtain⟨s,r,tm,hc⟩:=uh k h7;rcases hw k oq h7 with hn|⟨hm,hx⟩
    ·left;refine⟨?_,hn⟩;rw[hn] at hc;rw[h9];unfold woken;split
     ·rw[wm hc];simp
     ·rfl
    ·have e:woken P x x' w' g=g.again w':=by unfold woken;simp[hm,hx]
     rw[e,h9,wm hc];cases akw:cl' k with
     |none=>left;simp
     |some p=>right;simp
   ·right;rw[h9,woken_running rfl];exact⟨rfl,GD k oq⟩
 ·have nt:∀a,T.js i (.cell a)->w'.cell? a=w.cell? a:=fun a ha=>hr.mine a (.inl ha);have e2:lM w' ld=ld:=by rw[h2];rfl
  rw[e2];refine⟨iy.refl ld,.inr ⟨by rw[eY];exact h1,h2,hV.v i w w' nt h3,C,v,h4,?_,hV.val i _ w w' nt (fun b hb=>hr.own b hb.1) h6⟩⟩;rw[h5.woken];exact h5.rely (hr.rw h4)
theorem I6.status{i:Nat}{o rc:Nat->Prop}{cl:Nat->Option Nat}{d:WD}{ld:kV}{g:aS}{w:ae}(h:I6 P T V ek i o rc cl d ld g w):
  g.status=.running\/g.status=.finished\/(g.status=.blocked/\cl i=none/\∃k,T.dep i k/\cl k=none):=by
 rcases h with⟨h1,h2,h3,g0,tr,h4,h5,h6⟩|⟨h1,h2,h3,C,v,h4,h5,h6⟩
 ·rcases h6 with⟨h6,_⟩|⟨h6,k,z,f,h7,h8,⟨h9,oq⟩|⟨h9,_⟩⟩
  ·left;rw[h6];exact h5.look.1
  ·exact .inr (.inr ⟨by rw[h9];rfl,h1,k,h7,oq⟩)
  ·left;rw[h9]
 ·exact h5.status.imp id .inl
theorem I6.acc(hT:T.OK){i:Nat}(hi:i<T.n){o rc:Nat->Prop}{cl:Nat->Option Nat}{d:WD}{ld:kV}{g:aS}{w:ae}(h:I6 P T V ek i o rc cl d ld g w):Acc (mA P T V) ld:=by
 rcases h with⟨h1,h2,h3,g0,tr,h4,h5,h6⟩|⟨h1,h2,h3,C,v,h4,h5,h6⟩
 ·rw[h4];exact Tr (h5.acc hT hi) tr
 ·rw[h2];exact zU _
theorem ji.acc{tag:CTag}{o:Nat->Prop}{a:aS}{w:ae}{y:jc}(h:ji P T V ek cx Fin tag o a w y):Acc (lV P T) y:=by
 cases tag
 case blk=>obtain⟨a0,_,_,e⟩:=h;rw[e];exact GR 0
 all_goals (obtain⟨h1,e⟩:=h;rw[e];exact Px h1.acc)
structure fJ(P:Program)(T:cP)(V:Nat->ae->Prop)(ek:Nat->(Nat->Prop)->ae->Prop)(cx Fin:dV)(t0:Trace)(w0:ae)(gs:Array aS)(w:ae)(t:Trace)(S:jb)(D:Nat->WD)(x:Nat->kV)(tag:CTag)(a:aS)(y:jc)(st sm:Int):Prop where
 size:gs.size=T.m0+S.j
 DI:gs[0]?=some a
 JU:ji P T V ek cx Fin tag (S.own 0) a w y
 sN:lK T.n tag S.j (Deaf t 0)
 old:∀k,0<k->k<T.m0->∃g q,gs[k]?=some g/\x k=.inr q/\QuitsD P q (Deaf t k) g
 wk:∀i,i<S.j->∃g,gs[T.m0+i]?=some g/\I6 P T V ek i (S.own (T.m0+i)) (S.rc i) S.cl (D i) (x (T.m0+i)) g w
 rest:∀k,T.m0+S.j<=k->x k=.inr 0
 zero:x 0=.inr 0
 deafW:∀i,i<S.j->Deaf t (T.m0+i)=(D i).deaf
 above:∀k,gs.size<=k->Deaf t k=0
 ti:TI T S t
 rQ:S.OK T
 lt:∀z b,S.own z b->b<w.heap.size
 h0:T.H0<=w.heap.size
 wg:WgAt T.ty T.Wg w st sm
 mode:Go.ConcN.Mode S.j D tag st sm
 chan:∀k,k<T.n->∃s r tm,w.heap[T.ch k]?=some (.chan 0 #[] (S.cl k).isSome s r tm)
 SH:∀i k,S.rc i k->(S.cl k).isSome=true
 Xg:∀k,S.j<=k->S.cl k=none
 SF:∀i k,S.rc i k->i<S.j
 rel:∀i,i<S.j->(D i).stage<=6->∃r,T.T0<=r/\RelBy (stA T.Wg) t (T.m0+i) r/\∀i' a,r<i'->t.g? i'=some (T.m0+i)->touchAt t i'=some a->sK (fun b=>b=T.Wg) a.loc/\a.kind=.atomic
 norel:∀k,T.T0<=k->t.act? k≠some (.mark (.release (stA T.Wg)))
 SD:∀i z,T.T0<=i->t[i]?=some z->z.g=0\/(∃k,k<S.j/\z.g=T.m0+k)\/z.act.touch?=none
 ext:∃U,t=t0++U
 same:dc T (fun _=>False) w0 w
 Cu:pG T S.j w0 w
 idle0:∀k,k<T.n->T.Idle k w0
def lW(S:jb):Nat:=sumTo S.j fun i=>if S.cl i=none then 1 else 0
def ot(T:cP)(S:jb)(D:Nat->WD)(tag:CTag):Nat:=phi T.n (Vc S.j D) tag+Ssum S.j D+lW S
end
end
section
open Go.ConcR (KK wgBlock WgAt stA smA rd wr mk Payload g_of_ofEvents loc_of_ofEvent)
variable [Payload]
section
variable {P:Program} {T:cP} {V:Nat->ae->Prop} {ek:Nat->(Nat->Prop)->ae->Prop} {cx Fin:dV} {t0:Trace} {w0:ae}
 {gs:Array aS} {w w':ae} {t:Trace} {S S':jb} {D:Nat->WD} {x:Nat->kV} {tag:CTag} {a:aS} {y:jc} {st sm:Int} {sl:Option (Nat×Nat)}
theorem lX{tag:CTag}{o:Nat->Prop}{g:aS}{w:ae}(h:jI P T V ek cx Fin tag o g w):g.status=.running:=by
 cases tag<;>simp only[jI] at h
 case sp r s =>
  split at h
  ·exact h.1
  ·split at h
   ·exact h.1
   ·split at h<;>exact h.1
 all_goals exact h.1
theorem ji.eq{tag:CTag}(cV:tag≠.blk){o:Nat->Prop}{a:aS}{w:ae}{y:jc}:ji P T V ek cx Fin tag o a w y=(cM P T (jI P T V ek cx Fin tag) o a w/\y=.inl (jI P T V ek cx Fin tag,⟨a,o,w⟩)):=by
 cases tag<;>first|rfl|exact absurd rfl cV
theorem ji.M6{tag:CTag}{o:Nat->Prop}{a:aS}{y:jc}(h:ji P T V ek cx Fin tag o a w y)(hr:dc T o w w')(u u':aS):
  ∃tag' y',ji P T V ek cx Fin tag' o (woken P u u' w' a) w' y'/\(tag'=tag\/(tag=.blk/\tag'=.w3))/\(mayWake P u=true->u'.status=.running->tag'≠.blk):=by
 by_cases hb:tag=.blk
 ·subst hb;obtain⟨a0,h1,h2,h3⟩:=h;have hs:=h2 w (dc.refl w);by_cases hw:(mayWake P u&&u'.status != .blocked&&u'.status != .waiting)=true
  ·refine⟨.w3,_,⟨?_,rfl⟩,.inr ⟨rfl,rfl⟩,fun _ _=>an⟩;have e:woken P u u' w' a=a0:=by
    unfold woken;rw[if_pos hw,h1];have h4:=hs.1;have h5:=hs.2.1;obtain⟨fr,cs,stt,dy,of⟩:=a0;simp only at h4 h5;subst h4 h5;rfl
   rw[e];exact .stop fun w1 pO=>h2 w1 (hr.trans pO)
  ·refine⟨.blk,_,⟨a0,?_,fun w1 pO=>h2 w1 (hr.trans pO),rfl⟩,.inl rfl,fun h1 h2=>absurd ?_ hw⟩
   ·unfold woken;rw[if_neg hw,h1]
   ·simp[h1,h2]
 ·rw[ji.eq hb] at h;obtain⟨h1,h2⟩:=h;have cm:=h1.running fun o g w hh=>lX hh;refine⟨tag,.inl (jI P T V ek cx Fin tag,⟨a,o,w'⟩),?_,.inl rfl,fun _ _=>hb⟩;rw[ji.eq hb,woken_running cm];exact⟨h1.rely hr,rfl⟩
theorem ov{α:Type}{gs:Array α}(f:α->α)(p k:Nat)(u:α)(h:p≠k):((gs.map f).setIfInBounds p u)[k]?=(gs[k]?).map f:=by
 rw[aJ h,br]
theorem tH{es:Array Event}{g:Nat}{fn:FuncId}{pos:String}(h:∀k,T.T0<=k->t.act? k≠some (.mark (.release (stA T.Wg))))(hu:∀e∈es,e.loc≠.mark (.release (stA T.Wg))):
  ∀k,T.T0<=k->(t++MemOp.ofEvents g fn pos es).act? k≠some (.mark (.release (stA T.Wg))):=by
 intro k hk e;obtain⟨op,ho,VF⟩:=Option.map_eq_some_iff.1 e;rcases getElem?_append_cases ho with⟨bZ,mr⟩|⟨_,Py⟩
 ·exact h k hk (by rw[act?_of mr,VF])
 ·obtain⟨ev,iH,rfl⟩:=Go.Conc.mem_ofEvents Py;exact hu ev iH (loc_of_ofEvent VF)
theorem tI{u:Trace}{j:Nat}(h:∀i z,T.T0<=i->t[i]?=some z->z.g=0\/(∃k,k<j/\z.g=T.m0+k)\/z.act.touch?=none)(hu:∀z∈u,z.g=0\/(∃k,k<j/\z.g=T.m0+k)\/z.act.touch?=none):
  ∀i z,T.T0<=i->(t++u)[i]?=some z->z.g=0\/(∃k,k<j/\z.g=T.m0+k)\/z.act.touch?=none:=by
 intro i z hi hz;rcases getElem?_append_cases hz with⟨bZ,Cq⟩|⟨_,FR⟩
 ·exact h i z hi Cq
 ·exact hu z FR
theorem qo{i g:Nat}{u:Trace}(h:∃r,T.T0<=r/\RelBy (stA T.Wg) t (T.m0+i) r/\∀i' a,r<i'->t.g? i'=some (T.m0+i)->touchAt t i'=some a->sK (fun b=>b=T.Wg) a.loc/\a.kind=.atomic)(hu:∀op∈u,op.g=g)(hg:g≠T.m0+i):∃r,T.T0<=r/\RelBy (stA T.Wg) (t++u) (T.m0+i) r/\∀i' a,r<i'->(t++u).g? i'=some (T.m0+i)->touchAt (t++u) i'=some a->sK (fun b=>b=T.Wg) a.loc/\a.kind=.atomic:=by
 obtain⟨r,h1,h2,h3⟩:=h;refine⟨r,h1,h2.appOther hu hg,fun i' a lQ Tq hta=>?_⟩;obtain⟨z,hz,VD⟩:=Option.map_eq_some_iff.1 Tq;rcases getElem?_append_cases hz with⟨bZ,Cq⟩|⟨_,FR⟩
 ·exact h3 i' a lQ (by simp[Trace.g?,Cq,VD]) (by rw[<- touchAt_old (u:=u) bZ];exact hta)
 ·rw[hu z FR] at VD;exact absurd VD hg
theorem fJ.worker(hT:T.OK)(hV:jJ T V ek)(h:fJ P T V ek cx Fin t0 w0 gs w t S D x tag a y st sm){i:Nat}(hi:i<S.j)(sf:S.j<=T.n){g g':aS}{es:Array Event}(hg:gs[T.m0+i]?=some g)(hgo:stepG P false g w=.go g' w' es){d':WD}{ld':kV}{st' sm':Int}(hj:S'.j=S.j)(M7:TI T S' (t++MemOp.ofEvents (T.m0+i) g.frame.fn g.frame.place es))(aey:S'.OK T)(LI:S'.own 0=S.own 0)(aak:∀k,k≠i->S'.own (T.m0+k)=S.own (T.m0+k))(aal:∀k,k≠i->S'.rc k=S.rc k)(Xh:∀k,k≠i->S'.cl k=S.cl k)(bZ:∀z b,S'.own z b->b<w'.heap.size)(ft:w.heap.size<=w'.heap.size)(aam:dc T (S.own 0) w w')(Pz:∀k,k<S.j->k≠i->cF T k (S.own (T.m0+k)) (S.rc k) w w')(nt:dc T (fun _=>False) w w')(M8:pG T S.j w w')(GD:∀k,(S.cl k).isSome=true->(S'.cl k).isSome=true)(M9:I6 P T V ek i (S'.own (T.m0+i)) (S'.rc i) S'.cl d' ld' g' w')(aan:S'.cl i=S.cl i\/(mayWake P g=true/\g'.status=.running))(VG:∀k,k<T.n->∃s r tm,w'.heap[T.ch k]?=some (.chan 0 #[] (S'.cl k).isSome s r tm))(PC:∀i k,S'.rc i k->(S'.cl k).isSome=true)(hrel:d'.stage<=6->∃r,T.T0<=r/\RelBy (stA T.Wg) (t++MemOp.ofEvents (T.m0+i) g.frame.fn g.frame.place es) (T.m0+i) r/\∀i' a,r<i'->(t++MemOp.ofEvents (T.m0+i) g.frame.fn g.frame.place es).g? i'=some (T.m0+i)->touchAt (t++MemOp.ofEvents (T.m0+i) g.frame.fn g.frame.place es) i'=some a->sK (fun b=>b=T.Wg) a.loc/\a.kind=.atomic)(aao:deafBehind (D i).deaf es=d'.deaf)(JV:∀e∈es,e.loc≠.mark (.release (stA T.Wg)))(nU:WgAt T.ty T.Wg w' st' sm')(jw:∀tag',(tag'=tag\/(tag=.blk/\tag'=.w3))->(mayWake P g=true->g'.status=.running->tag'≠.blk)->Go.ConcN.Mode S.j (upd D i d') tag' st' sm'):
  ∃gd tag' a' y',runT P (crowd gs w sl) (T.m0+i)=(.next (crowd gd w' sl),MemOp.ofEvents (T.m0+i) g.frame.fn g.frame.place es)/\(tag'=tag\/(tag=.blk/\tag'=.w3)) /\
   fJ P T V ek cx Fin t0 w0 gd w' (t++MemOp.ofEvents (T.m0+i) g.frame.fn g.frame.place es) S' (upd D i d') (upd (fun k=>lM w' (x k)) (T.m0+i) ld') tag' a' y' st' sm'/\∀k,k≠T.m0+i->iy T (lM w' (x k)) (x k):=by
 have LJ:=hT.m0;have VH:T.m0+i≠0:=aa;have I7:(T.m0+i==0)=false:=eR;obtain⟨tag',y',I8,A4,hs3⟩:=h.JU.M6 aam g g';have cm:=runT_crowd_go (P:=P) (sl:=sl) (i:=T.m0+i) hg (by rw[I7];exact hgo);have zA:T.m0+i<gs.size:=by rw[h.size];omega
 have hu:∀op∈MemOp.ofEvents (T.m0+i) g.frame.fn g.frame.place es,op.g=T.m0+i:=g_of_ofEvents;have I9:∀k,k≠T.m0+i->Deaf (t++MemOp.ofEvents (T.m0+i) g.frame.fn g.frame.place es) k=Deaf t k:=fun k hk=>Deaf_other t (bc hk) _ hu;have Ja:∀k,k<S.j->k≠i->iy T (lM w' (x (T.m0+k))) (x (T.m0+k))/\∃gk,gs[T.m0+k]?=some gk/\I6 P T V ek k (S'.own (T.m0+k)) (S'.rc k) S'.cl (D k) (lM w' (x (T.m0+k))) (woken P g g' w' gk) w':=by
  intro k hk Na;obtain⟨gk,h1,h2⟩:=h.wk k hk;obtain⟨h3,h4⟩:=h2.M6 (cl':=S'.cl) hV (Pz k hk Na) (x:=g) (x':=g') (Xh k Na) GD (fun k' hn _=>by
   by_cases e:k'=i
   ·subst e;rcases aan with hw|hw
    ·exact .inl (hw.trans hn)
    ·exact .inr hw
   ·exact .inl ((Xh k' e).trans hn)) (fun k' hd=>VG k' (by have:=hT.dep k k' aa hd;omega))
  refine⟨h3,gk,h1,?_⟩;rw[aak k Na,aal k Na];exact h4
 refine⟨_,tag',woken P g g' w' a,y',cm,A4,?_,?_⟩
 ·refine⟨by simp[h.size,hj],?_,by rw[LI];exact I8,?_,fun k k0 km=>?_,fun k hk=>?_,fun k hk=>?_,?_,fun k hk=>?_,fun k hk=>?_,M7,aey,bZ,aR h.h0 ft,nU,by rw[hj];exact jw tag' A4 hs3,VG,PC,fun k hk=>?_,fun i' k hr=>?_,fun k hk dW=>?_,tH h.norel JV,?_,?_,h.same.trans nt,by rw[hj];exact h.Cu.trans M8,h.idle0⟩
  ·rw[ov _ _ _ _ VH,h.DI];rfl
  ·rw[I9 0 (bc VH),hj];have:=h.sN;rcases A4 with rfl|⟨rfl,rfl⟩
   ·exact this
   ·exact this
  ·obtain⟨gk,q,h1,h2,h3⟩:=h.old k k0 km;have cV:T.m0+i≠k:=aa;refine⟨gk,q,by rw[ov _ _ _ _ cV,h1,cR,woken_quitsD h3],by rw[upd_ne _ _ (bc cV),h2];rfl,by rw[I9 k (bc cV)];exact h3⟩
  ·rw[hj] at hk;by_cases e:k=i
   ·subst e;exact⟨g',by simp[zA],by rw[upd_same,upd_same];exact M9⟩
   ·obtain⟨_,gk,h1,h2⟩:=Ja k hk e;have cV:T.m0+i≠T.m0+k:=aa;exact⟨_,by rw[ov _ _ _ _ cV,h1];rfl,by rw[upd_ne _ _ e,upd_ne _ _ (bc cV)];exact h2⟩
  ·rw[hj] at hk;rw[upd_ne _ _ aa,h.rest k hk];rfl
  ·rw[upd_ne _ _ (bc VH),h.zero];rfl
  ·rw[hj] at hk;by_cases e:k=i
   ·subst e;rw[Deaf_own,h.deafW k hk,upd_same];exact aao
   ·rw[I9 _ aa,h.deafW k hk,upd_ne _ _ e]
  ·have kY:gs.size<=k:=by simpa using hk
   rw[I9 k (by rw[h.size] at kY;omega)];exact h.above k kY
  ·rw[hj] at hk;rw[Xh k aa];exact h.Xg k hk
  ·rw[hj];by_cases e:i'=i
   ·subst e;exact hi
   ·rw[aal i' e] at hr;exact h.SF i' k hr
  ·rw[hj] at hk;by_cases e:k=i
   ·subst e;rw[upd_same] at dW;exact hrel dW
   ·rw[upd_ne _ _ e] at dW;exact qo (h.rel k hk dW) hu aa
  ·rw[hj];exact tI h.SD fun z hz=>.inr (.inl ⟨i,hi,hu z hz⟩)
  ·obtain⟨U,hU⟩:=h.ext;exact⟨U++MemOp.ofEvents (T.m0+i) g.frame.fn g.frame.place es,by rw[hU,cY]⟩
 ·intro k hk;rcases aZ k with rfl|nS
  ·rw[h.zero];exact rfl
  ·rcases bP k T.m0 with lE | Nc
   ·obtain⟨gk,q,_,h2,_⟩:=h.old k nS lE;rw[h2];exact rfl
   ·rcases bP k (T.m0+S.j) with Ge|Cv
    ·have:=(Ja (k-T.m0) aa aa).1;rw[show T.m0+(k-T.m0)=k by omega] at this;exact this
    ·rw[h.rest k Cv];exact rfl
end
end
section
open Go.ConcR (KK wgBlock WgAt stA smA rd wr mk Payload g_of_ofEvents loc_of_ofEvent)
variable [Payload]
section
variable {P:Program} {T:cP} {V:Nat->ae->Prop} {ek:Nat->(Nat->Prop)->ae->Prop} {cx Fin:dV} {t0:Trace} {w0:ae}
 {gs:Array aS} {w w':ae} {t:Trace} {S S':jb} {D:Nat->WD} {x:Nat->kV} {tag:CTag} {a:aS} {y:jc} {st sm:Int} {sl:Option (Nat×Nat)}
theorem fJ.Xi(hT:T.OK)(hV:jJ T V ek)(h:fJ P T V ek cx Fin t0 w0 gs w t S D x tag a y st sm)(sf:S.j<=T.n){k:Nat}(k0:0<k)(km:k<T.m0){g:aS}(hg:gs[k]?=some g)(cm:g.status=.running):
  ∃gd tag' a' y' x' ops,runT P (crowd gs w sl) k=(.next (crowd gd w sl),ops)/\(tag'=tag\/(tag=.blk/\tag'=.w3)) /\
   fJ P T V ek cx Fin t0 w0 gd w (t++ops) S D x' tag' a' y' st sm/\mA P T V (x' k) (x k)/\∀k',k'≠k->iy T (x' k') (x k'):=by
 obtain⟨g1,q,h1,h2,h3⟩:=h.old k k0 km;rw[hg] at h1;cases h1;obtain⟨q',g',es,hm,dW,hq⟩:∃q' g' es,(∀e∈es,Event.mute e=true)/\(∀w,stepG P false g w=.go g' w es)/\QuitsD P q' (deafBehind (Deaf t k) es) g'/\q=q'+1:=by
  cases q with
  |zero=>rw[h3.1] at cm;cases cm
  |succ q' =>
   rcases h3 with⟨hf,_⟩|⟨_,g',es,hm,dW,hq⟩
   ·rw[hf] at cm;cases cm
   ·exact⟨q',g',es,hm,dW,hq,rfl⟩
 obtain⟨hq,rfl⟩:=hq;have I7:(k==0)=false:=eR;have Gc:k≠0:=aa;have sL:=runT_crowd_go (P:=P) (sl:=sl) (i:=k) hg (by rw[I7];exact dW w);obtain⟨tag',y',I8,A4,hs3⟩:=h.JU.M6 (dc.refl w) g g';have hu:∀op∈MemOp.ofEvents k g.frame.fn g.frame.place es,op.g=k:=g_of_ofEvents;have hn:∀op∈MemOp.ofEvents k g.frame.fn g.frame.place es,op.act.touch?=none:=fun op eu=>by obtain⟨e,he,rfl⟩:=Go.Conc.mem_ofEvents eu;exact touch_mute (hm e he)
 have I9:∀k',k'≠k->Deaf (t++MemOp.ofEvents k g.frame.fn g.frame.place es) k'=Deaf t k':=fun k' hk=>Deaf_other t (bc hk) _ hu;have zA:k<gs.size:=(Array.getElem?_eq_some_iff.1 hg).1;have Ja:∀i,i<S.j->iy T (lM w (x (T.m0+i))) (x (T.m0+i))/\∃gk,gs[T.m0+i]?=some gk/\I6 P T V ek i (S.own (T.m0+i)) (S.rc i) S.cl (D i) (lM w (x (T.m0+i))) (woken P g g' w gk) w:=by
  intro i hi;obtain⟨gk,h1,h2⟩:=h.wk i hi;obtain⟨h3,h4⟩:=h2.M6 (cl':=S.cl) hV (cF.refl w) (x:=g) (x':=g') rfl (fun _ hk=>hk) (fun k' hn _=>.inl hn) (fun k' hd=>h.chan k' (by have:=hT.dep i k' aa hd;omega));exact⟨h3,gk,h1,h4⟩
 refine⟨_,tag',woken P g g' w a,y',upd (fun k=>lM w (x k)) k (.inr q'),_,sL,A4,?_,?_,?_⟩
 ·refine⟨by simp[h.size],?_,I8,?_,fun k' k0' km'=>?_,fun i hi=>?_,fun k' kY=>?_,?_,fun i hi=>?_,fun k' kY=>?_,h.ti.mute hu hn,h.rQ,h.lt,h.h0,h.wg,h.mode.retag A4,h.chan,h.SH,h.Xg,h.SF,fun i hi dW=>qo (h.rel i hi dW) hu aa,tH h.norel fun e he hl=>?_,tI h.SD fun z hz=>.inr (.inr (hn z hz)),?_,h.same,h.Cu,h.idle0⟩
  ·rw[ov _ _ _ _ Gc,h.DI];rfl
  ·rw[I9 0 (bc Gc)];have:=h.sN;rcases A4 with rfl|⟨rfl,rfl⟩
   ·exact this
   ·exact this
  ·by_cases e:k'=k
   ·subst e;exact⟨g',q',by simp[zA],by rw[upd_same],by rw[Deaf_own];exact hq⟩
   ·obtain⟨gk,q,h1,h2,h3⟩:=h.old k' k0' km';exact⟨gk,q,by rw[ov _ _ _ _ (bc e),h1,cR,woken_quitsD h3],by rw[upd_ne _ _ e,h2];rfl,by rw[I9 k' e];exact h3⟩
  ·obtain⟨_,gk,h1,h2⟩:=Ja i hi;have cV:k≠T.m0+i:=aa;exact⟨_,by rw[ov _ _ _ _ cV,h1];rfl,by rw[upd_ne _ _ (bc cV)];exact h2⟩
  ·rw[upd_ne _ _ aa,h.rest k' kY];rfl
  ·rw[upd_ne _ _ (bc Gc),h.zero];rfl
  ·rw[I9 _ aa];exact h.deafW i hi
  ·have PD:gs.size<=k':=by simpa using kY
   rw[I9 k' aa];exact h.above k' PD
  ·have:=hm e he;obtain⟨loc,oT,sy⟩:=e;simp only at hl;subst hl;simp[Event.mute] at this
  ·obtain⟨U,hU⟩:=h.ext;exact⟨U++MemOp.ofEvents k g.frame.fn g.frame.place es,by rw[hU,cY]⟩
 ·rw[upd_same,h2];exact bz _
 ·intro k' kY;rw[upd_ne _ _ kY];rcases aZ k' with rfl|nS
  ·rw[h.zero];exact rfl
  ·rcases bP k' T.m0 with lE | Nc
   ·obtain⟨gk,q,_,h2,_⟩:=h.old k' nS lE;rw[h2];exact rfl
   ·rcases bP k' (T.m0+S.j) with Ge|Cv
    ·have:=(Ja (k'-T.m0) aa).1;rw[show T.m0+(k'-T.m0)=k' by omega] at this;exact this
    ·rw[h.rest k' Cv];exact rfl
theorem fJ.PE(h:fJ P T V ek cx Fin t0 w0 gs w t S D x tag a y st sm)(p c:Nat):partners (gs.setIfInBounds p ph) c true=[]:=by
 refine partners_nil fun j g hg=>?_;rcases getElem?_stand gs p j g hg with⟨_,rfl⟩|⟨_,Cw⟩
 ·exact offersAt_ph c true
 ·have bZ:j<T.m0+S.j:=by have:=(Array.getElem?_eq_some_iff.1 Cw).1;rw[h.size] at this;exact this
  rcases aZ j with rfl|nS
  ·rw[h.DI] at Cw;cases Cw;by_cases hb:tag=.blk
   ·subst hb;obtain⟨a0,h1,h2,_⟩:=h.JU;have ho:=(h2 w (dc.refl w)).2.1;rw[h1];simp[offersAt,ho]
   ·have hs:=h.JU;rw[ji.eq hb] at hs;exact offersAt_of_not_blocked (by rw[hs.1.running fun o g w hh=>lX hh];simp) c true
  ·rcases bP j T.m0 with hj|hj
   ·obtain⟨g1,q,h1,_,h3⟩:=h.old j nS hj;rw[Cw] at h1;cases h1;exact offersAt_of_not_blocked (by rcases h3.status with e|e<;>rw[e]<;>simp) c true
   ·obtain⟨g1,h1,h2⟩:=h.wk (j-T.m0) aa;rw[show T.m0+(j-T.m0)=j by omega,Cw] at h1;cases h1;rcases h2 with⟨_,_,_,g0,tr,_,h5,h6⟩|⟨_,_,_,C,v,_,h5,_⟩
    ·rcases h6 with⟨h6,_⟩|⟨_,k,z,f,_,_,⟨h9,_⟩|⟨h9,_⟩⟩
     ·rw[h6];exact offersAt_of_not_blocked (by rw[h5.look.1];simp) c true
     ·rw[h9];exact offersAt_parked_recv' _ _ _ _ _
     ·rw[h9];exact offersAt_of_not_blocked an c true
    ·exact offersAt_of_not_blocked (by rcases h5.status with e|e<;>rw[e]<;>simp) c true
theorem fJ.put(h:fJ P T V ek cx Fin t0 w0 gs w t S D x tag a y st sm)(LJ:0<T.m0){i:Nat}(hi:i<S.j){g':aS}{ld':kV}{u:Trace}(hj:S'.j=S.j)(eH:S'.own=S.own)(eY:S'.cl=S.cl)(DH:∀k,k≠i->S'.rc k=S.rc k)(PC:∀i k,S'.rc i k->(S.cl k).isSome=true)(M7:TI T S' (t++u))(hu:∀op∈u,op.g=T.m0+i)(hq:∀op∈u,∀m,op.act≠.mark m)(h7:(D i).stage=7)(M9:I6 P T V ek i (S.own (T.m0+i)) (S'.rc i) S.cl (D i) ld' g' w):
  fJ P T V ek cx Fin t0 w0 (gs.setIfInBounds (T.m0+i) g') w (t++u) S' D (upd x (T.m0+i) ld') tag a y st sm:=by
 have zA:T.m0+i<gs.size:=by rw[h.size];omega
 have VH:T.m0+i≠0:=aa;have Tt:∀k,Deaf (t++u) k=Deaf t k:=fun k=>Deaf_still t k u fun op eu=>⟨hq op eu _,hq op eu _⟩;refine⟨by simp[h.size,hj],?_,by rw[eH];exact h.JU,by rw[Tt,hj];exact h.sN,fun k k0 km=>?_,fun k hk=>?_,fun k hk=>?_,?_,fun k hk=>?_,fun k hk=>?_,M7,?_,fun z b hb=>h.lt z b (by rw[<- eH];exact hb),h.h0,h.wg,by rw[hj];exact h.mode,by rw[eY];exact h.chan,by rw[eY];exact PC,by rw[hj,eY];exact h.Xg,fun i' k hr=>?_,fun k hk dW=>?_,fun k hk e=>?_,?_,?_,h.same,by rw[hj];exact h.Cu,h.idle0⟩
 ·rw[aJ VH];exact h.DI
 ·obtain⟨gk,q,h1,h2,h3⟩:=h.old k k0 km;exact⟨gk,q,by rw[aJ aa];exact h1,by rw[upd_ne _ _ aa];exact h2,by rw[Tt];exact h3⟩
 ·rw[hj] at hk;by_cases e:k=i
  ·subst e;exact⟨g',by simp[zA],by rw[upd_same,eH,eY];exact M9⟩
  ·obtain⟨gk,h1,h2⟩:=h.wk k hk;exact⟨gk,by rw[aJ aa];exact h1,by rw[upd_ne _ _ aa,eH,eY,DH k e];exact h2⟩
 ·rw[hj] at hk;rw[upd_ne _ _ aa];exact h.rest k hk
 ·rw[upd_ne _ _ (bc VH)];exact h.zero
 ·rw[hj] at hk;rw[Tt];exact h.deafW k hk
 ·rw[Tt];exact h.above k (by simpa using hk)
 ·exact⟨fun z b hb=>h.rQ.new z b (by rw[<- eH];exact hb),fun z z' b h1 h2=>h.rQ.one z z' b (by rw[<- eH];exact h1) (by rw[<- eH];exact h2),fun z b hb=>by rw[hj];exact h.rQ.mem z b (by rw[<- eH];exact hb)⟩
 ·rw[hj];by_cases e:i'=i
  ·subst e;exact hi
  ·rw[DH i' e] at hr;exact h.SF i' k hr
 ·rw[hj] at hk;have Na:k≠i:=by rintro rfl;omega
  exact qo (h.rel k hk dW) hu aa
 ·obtain⟨op,ho,VF⟩:=Option.map_eq_some_iff.1 e;rcases getElem?_append_cases ho with⟨bZ,mr⟩|⟨_,Py⟩
  ·exact h.norel k hk (by rw[act?_of mr,VF])
  ·exact hq op Py _ VF
 ·rw[hj];exact tI h.SD fun z hz=>.inr (.inl ⟨i,hi,hu z hz⟩)
 ·obtain⟨U,hU⟩:=h.ext;exact⟨U++u,by rw[hU,cY]⟩
end
end
section
open Go.ConcR (KK wgBlock WgAt stA smA rd wr mk Payload g_of_ofEvents loc_of_ofEvent)
variable [Payload]
def A5(P:Program)(T:cP)(V:Nat->ae->Prop)(p:Nat)(S S':jb)(D D':Nat->WD)(tag tag':CTag)(x x':Nat->kV):Prop :=
 ot T S' D' tag'<ot T S D tag\/(ot T S' D' tag'=ot T S D tag/\mA P T V (x' p) (x p)/\∀k,k≠p->iy T (x' k) (x k))
section
variable {P:Program} {T:cP} {V:Nat->ae->Prop} {ek:Nat->(Nat->Prop)->ae->Prop} {cx Fin:dV} {t0:Trace} {w0:ae}
 {gs:Array aS} {w w':ae} {t:Trace} {S S':jb} {D:Nat->WD} {x:Nat->kV} {tag:CTag} {a:aS} {y:jc} {st sm:Int} {sl:Option (Nat×Nat)}
theorem A6{α:Type}(f:Nat->α)(i:Nat):upd f i (f i)=f:=by
 funext k;by_cases e:k=i
 ·subst e;rw[upd_same]
 ·rw[upd_ne _ _ e]
theorem Nd{i:Nat}{o rc:Nat->Prop}{es:Array Event}(h:∀e∈es,LF T i o rc e)(d:Nat):deafBehind d es=d:=deafBehind_still (fun e he=>⟨(h e he).2.1,(h e he).2.2.1⟩) d
theorem GU{i:Nat}(hT:T.OK)(hS:S.OK T)(hi:i<S.j)(hh:T.H0<=w.heap.size)(hl:∀z b,S.own z b->b<w.heap.size):({S with own:=upd S.own (T.m0+i) (grow (S.own (T.m0+i)) w w')}:jb).OK T:=by
 have key:∀z b,(upd S.own (T.m0+i) (grow (S.own (T.m0+i)) w w')) z b->S.own z b\/(z=T.m0+i/\w.heap.size<=b):=by
  intro z b hb;by_cases e:z=T.m0+i
  ·subst e;rw[upd_same] at hb;exact hb.imp id fun hh=>⟨rfl,hh.1⟩
  ·rw[upd_ne _ _ e] at hb;exact .inl hb
 refine⟨fun z b hb=>?_,fun z z' b h1 h2=>?_,fun z b hb=>?_⟩
 ·rcases key z b hb with h|⟨_,h⟩
  ·exact hS.new z b h
  ·omega
 ·rcases key z b h1 with h1|⟨e1,h1⟩<;>rcases key z' b h2 with h2|⟨e2,h2⟩
  ·exact hS.one z z' b h1 h2
  ·have:=hl z b h1;omega
  ·have:=hl z' b h2;omega
  ·rw[e1,e2]
 ·rcases key z b hb with h|⟨e,_⟩
  ·exact hS.mem z b h
  ·exact .inr ⟨i,hi,e⟩
theorem DJ{tag':CTag}(hs:tag'=tag\/(tag=.blk/\tag'=.w3)):ot T S D tag'=ot T S D tag:=by simp only[ot,phi_retag _ _ hs]
theorem fJ.Tu(hT:T.OK)(hV:jJ T V ek)(h:fJ P T V ek cx Fin t0 w0 gs w t S D x tag a y st sm)(sf:S.j<=T.n){i:Nat}(hi:i<S.j){g g0 g':aS}{es:Array Event}{tr:Bool}(hg:gs[T.m0+i]?=some g)(eY:S.cl i=none)(h7:(D i).stage=7)(Cr:(D i).deaf=0)(hx:x (T.m0+i)=.inl (i,⟨g0,S.own (T.m0+i),S.rc i,w⟩,tr))(aez:stepG P false g0 w=.go g' w' es)(hgo:stepG P false g w=.go g' w' es)(Jb:JP T i (S.own (T.m0+i)) w w')(iH:∀e∈es,LF T i (grow (S.own (T.m0+i)) w w') (S.rc i) e)(Jc:gj P T i V (CR P T ek i) ⟨g',grow (S.own (T.m0+i)) w w',S.rc i,w'⟩):
  ∃gd w' S' D' x' tag' a' y' st' sm' ops,runT P (crowd gs w sl) (T.m0+i)=(.next (crowd gd w' sl),ops)/\S'.j=S.j/\fJ P T V ek cx Fin t0 w0 gd w' (t++ops) S' D' x' tag' a' y' st' sm'/\A5 P T V (T.m0+i) S S' D D' tag tag' x x':=by
 have pd:i<T.n:=aa;have hoH:∀b,S.own (T.m0+i) b->T.H0<=b:=fun b hb=>h.rQ.new _ b hb;have nch:∀k,k<T.n->w'.heap[T.ch k]?=w.heap[T.ch k]?:=fun k hk=>Jb.rest _ (by have:=(hT.ch k hk).1;have:=h.h0;omega) (fun hb=>by have:=hoH _ hb;have:=(hT.ch k hk).1;omega) (fun hs=>(hT.sh _ hs).2.2 k hk rfl);have Xj:w'.heap[T.Wg]?=w.heap[T.Wg]?:=Jb.rest _ (by have:=hT.wg;have:=h.h0;omega) (fun hb=>by have:=hoH _ hb;have:=hT.wg;omega) (fun hs=>(hT.sh _ hs).2.1 rfl);have aeA:∀k,¬S.rc k i:=fun k hk=>by have:=h.SH k i hk;rw[eY] at this;cases this
 have zC:∀z,z≠T.m0+i->∀b,S.own z b->T.H0<=b/\b<w.heap.size/\¬S.own (T.m0+i) b:=fun z hz b hb=>⟨h.rQ.new z b hb,h.lt z b hb,fun mo=>hz (h.rQ.one _ _ _ hb mo)⟩;have LJ:=hT.m0;have M7:TI T {S with own:=upd S.own (T.m0+i) (grow (S.own (T.m0+i)) w w')} (t++MemOp.ofEvents (T.m0+i) g.frame.fn g.frame.place es):=by
  refine(h.ti.grow (own':=upd S.own (T.m0+i) (grow (S.own (T.m0+i)) w w')) fun z b hb=>?_).app hT (GU hT h.rQ hi h.h0 h.lt) (x:=T.m0+i) (.inr ⟨i,hi,rfl⟩) g_of_ofEvents fun op eu b hb hm=>?_
  ·by_cases e:z=T.m0+i
   ·subst e;rw[upd_same];exact .inl hb
   ·rw[upd_ne _ _ e];exact hb
  ·obtain⟨e,he,rfl⟩:=Go.Conc.mem_ofEvents eu;rcases(iH e he).1 b hb hm with⟨c,h1,h2⟩|h1|⟨k,h1,h2,h3⟩|h1
   ·exact .inr (.inl ⟨c,by simp only[upd_same];exact h1,h2⟩)
   ·exact .inr (.inr (.inl ⟨i,rfl,h1,eY⟩))
   ·exact .inr (.inr (.inr (.inl ⟨i,k,rfl,h1,h2,h3⟩)))
   ·exact .inr (.inr (.inr (.inr h1)))
 obtain⟨gd,tag',a',y',r1,r2,r3,r4⟩:=fJ.worker (sl:=sl) hT hV h hi sf hg hgo (S':={S with own:=upd S.own (T.m0+i) (grow (S.own (T.m0+i)) w w')}) (d':=D i) (ld':=.inl (i,⟨g',grow (S.own (T.m0+i)) w w',S.rc i,w'⟩,false)) (st':=st) (sm':=sm) rfl M7 (GU hT h.rQ hi h.h0 h.lt)
  (by simp only;rw[upd_ne _ _ aa]) (fun k hk=>by simp only;rw[upd_ne _ _ aa]) (fun _ _=>rfl) (fun _ _=>rfl)
  (fun z b hb=>by
   simp only at hb;by_cases e:z=T.m0+i
   ·subst e;rw[upd_same] at hb;rcases hb with hb|hb
    ·exact bm (h.lt _ b hb) Jb.size
    ·exact hb.2
   ·rw[upd_ne _ _ e] at hb;exact bm (h.lt _ b hb) Jb.size)
  Jb.size (Jb.JQ hT h.h0 hoH (zC 0 aa)) (fun k hk Na=>Jb.A2 hT Na aa h.h0 hoH (zC _ aa) (aeA k)) (Jb.JQ hT h.h0 hoH (fun _ hb=>hb.elim)) (Jb.keep hT hi) (fun _ hk=>hk)
  (.inl ⟨eY,h7,Cr,g',false,by simp only[upd_same],by simp only[upd_same];exact Jc,.inl ⟨rfl,rfl⟩⟩) (.inl rfl) (fun k hk=>by rw[nch k hk];exact h.chan k hk) h.SH (fun h6=>aa) (by rw[Nd iH]) (fun e he=>(iH e he).2.2.2 _) (h.wg.of_block Xj)
  (fun tag' ht _=>by rw[A6];exact h.mode.retag ht)
 refine⟨gd,w',{S with own:=upd S.own (T.m0+i) (grow (S.own (T.m0+i)) w w')},upd D i (D i),_,tag',a',y',st,sm,_,r1,rfl,r3,.inr ⟨?_,?_,fun k hk=>by rw[upd_ne _ _ hk];exact r4 k hk⟩⟩
 ·rw[A6];show ot T {S with own:=upd S.own (T.m0+i) (grow (S.own (T.m0+i)) w w')} D tag'=ot T S D tag;rw[<- DJ (T:=T) (S:=S) (D:=D) r2];rfl
 ·rw[upd_same,hx];obtain⟨s,r,tm,hc⟩:=h.chan i pd;rw[eY] at hc;exact⟨rfl,.inl (.inl ⟨w,es,s,r,tm,cF.refl w,aez,rfl,rfl,hc,nch i pd⟩)⟩
theorem fJ.Nf(hT:T.OK)(hV:jJ T V ek)(h:fJ P T V ek cx Fin t0 w0 gs w t S D x tag a y st sm)(sf:S.j<=T.n){i:Nat}(hi:i<S.j){g g':aS}(hg:gs[T.m0+i]?=some g)(eY:S.cl i=none)(h7:(D i).stage=7)(Cr:(D i).deaf=0){s r:Nat}{tm:Bool}(hc:w.heap[T.ch i]?=some (.chan 0 #[] false s r tm))(hgo:stepG P false g w=.go g' (w.setChan (T.ch i) 0 #[] true s r tm) (gf (T.ch i)))(Zc:mayWake P g=true)(PG:g'.status=.running)(hVi:V i w)(hE:CR P T ek i (S.own (T.m0+i)) g' (w.setChan (T.ch i) 0 #[] true s r tm)):
  ∃gd w' S' D' x' tag' a' y' st' sm' ops,runT P (crowd gs w sl) (T.m0+i)=(.next (crowd gd w' sl),ops)/\S'.j=S.j/\fJ P T V ek cx Fin t0 w0 gd w' (t++ops) S' D' x' tag' a' y' st' sm'/\A5 P T V (T.m0+i) S S' D D' tag tag' x x':=by
 have pd:i<T.n:=aa;have LJ:=hT.m0;have hh:=oo w (T.ch i) s r tm;have ft:(w.setChan (T.ch i) 0 #[] true s r tm).heap.size=w.heap.size:=by simp[World.setChan]
 have bZ:T.ch i<w.heap.size:=(Array.getElem?_eq_some_iff.1 hc).1;obtain⟨C,v,m,e1,e2,e3⟩:=hE;have PH:MemOp.ofEvents (T.m0+i) g.frame.fn g.frame.place (gf (T.ch i))=#[{g:=T.m0+i,fn:=g.frame.fn,pos:=g.frame.place,act:=.access ⟨.obj (T.ch i),false,true⟩}]++#[{g:=T.m0+i,fn:=g.frame.fn,pos:=g.frame.place,act:=.close (T.ch i)}]:=by rw[ofEvents_eq];simp[MemAct.ofEvent,gf]
 have M7:TI T {S with cl:=upd S.cl i (some (t.size+1))} (t++MemOp.ofEvents (T.m0+i) g.frame.fn g.frame.place (gf (T.ch i))):=by
  rw[PH,<- cY];have Zd:Deaf (t++#[({g:=T.m0+i,fn:=g.frame.fn,pos:=g.frame.place,act:=.access ⟨.obj (T.ch i),false,true⟩}:MemOp)]) (T.m0+i)=0:=by
   have:=Deaf_own t (T.m0+i) g.frame.fn g.frame.place #[⟨.obj (T.ch i),false,true⟩];rw[h.deafW i hi,Cr] at this;simpa[MemOp.ofEvents,MemAct.ofEvent,deafBehind] using this
  have h1:TI T S (t++#[({g:=T.m0+i,fn:=g.frame.fn,pos:=g.frame.place,act:=.access ⟨.obj (T.ch i),false,true⟩}:MemOp)]):=by
   refine h.ti.app hT h.rQ (x:=T.m0+i) (.inr ⟨i,hi,rfl⟩) (fun op eu=>by simp at eu;rw[eu]) fun op eu b hb hm=>?_;simp at eu;subst eu;simp only[MemAct.touch?,Option.some.injEq] at hb;subst hb;refine .inr (.inr (.inr (.inr ⟨⟨fun b hb=>?_,fun k hk=>?_,hT.Pv i pd⟩,rfl⟩)))
   ·have:T.ch i=b:=hb;subst this;exact hT.ch i pd
   ·obtain⟨a',e,_⟩:=hT.ownSh k _ hk;cases e
  have h2:=h1.close hi eY (z:={g:=T.m0+i,fn:=g.frame.fn,pos:=g.frame.place,act:=.close (T.ch i)}) rfl rfl Zd;simpa using h2
 have kZ:∀a,T.js i (.cell a)->(w.setChan (T.ch i) 0 #[] true s r tm).cell? a=w.cell? a:=fun a ha=>by
  obtain⟨a',e,hs⟩:=hT.ownSh i _ ha;cases e;exact cell_of (hh _ (bc ((hT.sh _ hs).2.2 i pd)))
 obtain⟨gd,tag',a',y',r1,r2,r3,r4⟩:=fJ.worker (sl:=sl) hT hV h hi sf hg hgo (S':={S with cl:=upd S.cl i (some (t.size+1))}) (d':=⟨7,m,0⟩) (ld':=.inr m) (st':=st) (sm':=sm) rfl M7 ⟨h.rQ.new,h.rQ.one,h.rQ.mem⟩
  rfl (fun _ _=>rfl) (fun _ _=>rfl) (fun k hk=>by simp only;rw[upd_ne _ _ hk]) (fun z b hb=>by rw[ft];exact h.lt z b hb) (bq ft.symm) (A3 hT pd (fun b hb=>h.rQ.new _ b hb))
  (fun k hk Na=>JR hT aa Na pd (fun b hb=>h.rQ.new _ b hb) hc) (A3 hT pd (fun _ hb=>hb.elim)) (pG.A1 hT fun b hb=>hh b (bc ((hT.sh b hb).2.2 i pd)))
  (fun k hk=>by
   simp only;by_cases e:k=i
   ·subst e;rw[upd_same];rfl
   ·rw[upd_ne _ _ e];exact hk)
  (.inr ⟨by simp only;rw[upd_same];rfl,rfl,hV.v i w _ kZ hVi,C,v,e1,.r0 e2,e3⟩) (.inr ⟨Zc,PG⟩)
  (fun k hk=>by
   by_cases e:k=i
   ·subst e;exact⟨s,r,tm,by simp[World.setChan,bZ,upd_same]⟩
   ·obtain⟨s',r',tm',kY⟩:=h.chan k hk;exact⟨s',r',tm',by simp only;rw[upd_ne _ _ e,hh _ (fun x=>e (hT.wh _ _ hk pd x))];exact kY⟩)
  (fun i' k hk=>by
   simp only;by_cases e:k=i
   ·subst e;rw[upd_same];rfl
   ·rw[upd_ne _ _ e];exact h.SH i' k hk)
  (fun h6=>by simp at h6) (by rw[Cr];simp[deafBehind,gf]) (fun e he=>by simp[gf] at he;rcases he with rfl|rfl<;>simp) (h.wg.of_block (hh _ (bc (hT.ch i pd).2)))
  (fun tag' ht _=>by
   have:=h.mode.same (i:=i) m 0;rw[h7] at this;exact this.retag ht)
 refine⟨gd,_,{S with cl:=upd S.cl i (some (t.size+1))},upd D i ⟨7,m,0⟩,_,tag',a',y',st,sm,_,r1,rfl,r3,.inl ?_⟩;have ev:=Vc_upd D (⟨7,m,0⟩:WD) hi;have es:=sumTo_upd D (⟨7,m,0⟩:WD) WD.stage hi;have el:=sumTo_upd S.cl (some (t.size+1)) (fun c=>if c=none then 1 else 0) hi;have c1:cnt (D i)=1:=by simp[cnt,h7]
 have c2:cnt (⟨7,m,0⟩:WD)=1:=rfl;have hv:Vc S.j (upd D i ⟨7,m,0⟩)=Vc S.j D:=aa;simp only[eY,if_true,h7] at el es;have hl:lW {S with cl:=upd S.cl i (some (t.size+1))}+1=lW S:=by
  simp only[lW];simpa using el
 simp only[ot];rw[hv,phi_retag _ _ r2];simp only[Ssum] at *;omega
end
end
section
open Go.ConcR (KK wgBlock WgAt stA smA rd wr mk Payload g_of_ofEvents loc_of_ofEvent)
variable [Payload]
section
variable {P:Program} {T:cP} {V:Nat->ae->Prop} {ek:Nat->(Nat->Prop)->ae->Prop} {cx Fin:dV} {t0:Trace} {w0:ae}
 {gs:Array aS} {w w':ae} {t:Trace} {S S':jb} {D:Nat->WD} {x:Nat->kV} {tag:CTag} {a:aS} {y:jc} {st sm:Int} {sl:Option (Nat×Nat)}
theorem fJ.PI(hT:T.OK)(h:fJ P T V ek cx Fin t0 w0 gs w t S D x tag a y st sm)(sf:S.j<=T.n){i:Nat}(hi:i<S.j){g g0:aS}{tr:Bool}(hg:gs[T.m0+i]?=some g)(eY:S.cl i=none)(h7:(D i).stage=7)(Cr:(D i).deaf=0)(hx:x (T.m0+i)=.inl (i,⟨g0,S.own (T.m0+i),S.rc i,w⟩,tr))(Jc:gj P T i V (CR P T ek i) ⟨g0,S.own (T.m0+i),S.rc i,w⟩){k:Nat}{z:Value}{f:Bool}(hk:T.dep i k)(hcm:∀w1,cF T i (S.own (T.m0+i)) (S.rc i) w w1->stepG P false g0 w1=.comm g0 #[rcase (T.ch k) z] true (.recv f) w1 #[])(xP:∀w1,cF T i (S.own (T.m0+i)) (S.rc i) w w1->V k w1->gj P T i V (CR P T ek i) ⟨Go.Conc.served g0 (recvd f z false),S.own (T.m0+i),fun b=>S.rc i b\/b=k,w1⟩)(hgg:stepG P false g w=stepG P false g0 w)(uF:S.cl k=none->tr=false):
  ∃gd w' S' D' x' tag' a' y' st' sm' ops,runT P (crowd gs w sl) (T.m0+i)=(.next (crowd gd w' sl),ops)/\S'.j=S.j/\fJ P T V ek cx Fin t0 w0 gd w' (t++ops) S' D' x' tag' a' y' st' sm'/\A5 P T V (T.m0+i) S S' D D' tag tag' x x':=by
 have pd:i<T.n:=aa;have Na:=hT.dep i k pd hk;have I4:k<T.n:=aa;have LJ:=hT.m0;have I7:(T.m0+i==0)=false:=eR;have dW:stepG P (T.m0+i==0) g w=.comm g0 #[rcase (T.ch k) z] true (.recv f) w #[]:=by rw[I7,hgg];exact hcm w (cF.refl w)
 have e0:MemOp.ofEvents (T.m0+i) g.frame.fn g.frame.place #[]=#[]:=by rw[ofEvents_eq];simp
 obtain⟨s,r,tm,hc⟩:=h.chan k I4;cases SI:S.cl k with
 |none =>
  rw[SI] at hc;have cm:=crowd_waits (P:=P) (sl:=sl) hg dW (fun cc Js=>by simp at Js;subst Js;exact ways_recv_none hc (h.PE _ _));rw[e0] at cm;have zE:=h.put LJ hi (S':=S) (g':=parked g0 #[rcase (T.ch k) z] (.recv f)) (ld':=.inl (i,⟨g0,S.own (T.m0+i),S.rc i,w⟩,true)) (u:=#[]) rfl rfl rfl (fun _ _=>rfl) h.SH (by simpa using h.ti) an an h7
   (.inl ⟨eY,h7,Cr,g0,true,rfl,Jc,.inr ⟨rfl,k,z,f,hk,hcm,.inl ⟨rfl,SI⟩⟩⟩)
  refine⟨_,w,S,D,_,tag,a,y,st,sm,#[],cm,rfl,zE,.inr ⟨rfl,?_,fun k' kY=>by rw[upd_ne _ _ kY];exact iy.refl _⟩⟩;rw[upd_same,hx,uF SI];exact⟨rfl,.inr ⟨rfl,rfl,rfl,rfl,rfl,cF.refl w⟩⟩
 |some p =>
  rw[SI] at hc;have cm:=crowd_recv_closed (P:=P) (sl:=sl) hg dW hc (h.PE _ _);rw[e0,finishComm_recv] at cm;have PK:k<S.j:=aa;have hVk:V k w:=by
   obtain⟨gk,_,h2⟩:=h.wk k PK;rcases h2 with⟨h3,_⟩|⟨_,_,h3,_⟩
   ·rw[SI] at h3;cases h3
   ·exact h3
  have erc:({S with rc:=fun a b=>S.rc a b\/(a=i/\b=k)}:jb).rc i=fun b=>S.rc i b\/b=k:=by funext b;simp
  have M7:=h.ti.recv (i:=i) SI (z:={g:=T.m0+i,fn:=g0.frame.fn,pos:=g0.frame.place,act:=.recvClosed (T.ch k)}) rfl rfl (by rw[h.deafW i hi,Cr]);have zE:=h.put LJ hi (S':={S with rc:=fun a b=>S.rc a b\/(a=i/\b=k)}) (g':=Go.Conc.served g0 (recvd f z false)) (ld':=.inl (i,⟨Go.Conc.served g0 (recvd f z false),S.own (T.m0+i),fun b=>S.rc i b\/b=k,w⟩,false))
   (u:=#[{g:=T.m0+i,fn:=g0.frame.fn,pos:=g0.frame.place,act:=.recvClosed (T.ch k)}]) rfl rfl rfl (fun k' kY=>by funext b;simp[kY])
   (fun i' k' hr=>by
    rcases hr with hr|⟨_,rfl⟩
    ·exact h.SH i' k' hr
    ·rw[SI];rfl) M7 (fun op eu=>by simp at eu;rw[eu]) (fun op eu m=>by simp at eu;rw[eu];simp) h7
   (.inl ⟨eY,h7,Cr,Go.Conc.served g0 (recvd f z false),false,by rw[erc],by rw[erc];exact xP w (cF.refl w) hVk,.inl ⟨rfl,rfl⟩⟩)
  have eo:(#[]:Array MemOp)++#[({g:=T.m0+i,fn:=g0.frame.fn,pos:=g0.frame.place,act:=.recvClosed (T.ch k)}:MemOp)]=#[{g:=T.m0+i,fn:=g0.frame.fn,pos:=g0.frame.place,act:=.recvClosed (T.ch k)}]:=an;rw[eo] at cm;refine⟨_,w,{S with rc:=fun a b=>S.rc a b\/(a=i/\b=k)},D,_,tag,a,y,st,sm,_,cm,rfl,zE,.inr ⟨rfl,?_,fun k' kY=>by rw[upd_ne _ _ kY];exact iy.refl _⟩⟩;rw[upd_same,hx];obtain⟨s',r',tm',hci⟩:=h.chan i pd;rw[eY] at hci;exact⟨rfl,.inl (.inr ⟨k,z,f,hk,cF.refl w,hVk,hcm w (cF.refl w),rfl,rfl,rfl,s',r',tm',hci⟩)⟩
theorem fJ.PL(hT:T.OK)(hV:jJ T V ek)(h:fJ P T V ek cx Fin t0 w0 gs w t S D x tag a y st sm)(sf:S.j<=T.n){i:Nat}(hi:i<S.j){g:aS}(hg:gs[T.m0+i]?=some g)(cm:g.status=.running)(eY:S.cl i=none):
  ∃gd w' S' D' x' tag' a' y' st' sm' ops,runT P (crowd gs w sl) (T.m0+i)=(.next (crowd gd w' sl),ops)/\S'.j=S.j/\fJ P T V ek cx Fin t0 w0 gd w' (t++ops) S' D' x' tag' a' y' st' sm'/\A5 P T V (T.m0+i) S S' D D' tag tag' x x':=by
 have pd:i<T.n:=aa;obtain⟨g1,e1,hw⟩:=h.wk i hi;rw[hg] at e1;cases e1;rcases hw with⟨_,h7,Cr,g0,tr,hx,Jc,OZ⟩|⟨h1,_⟩
 ·have hr0:g0.status=.running:=Jc.look.1;have hgg:stepG P false g w=stepG P false g0 w:=by
   rcases OZ with⟨rfl,_⟩|⟨_,k,z,f,_,_,⟨rfl,_⟩|⟨rfl,_⟩⟩
   ·rfl
   ·cases cm
   ·rw[stepG_tries]
    congr 1
    obtain⟨fr,cs,stt,dy,of⟩:=g0;simp only at hr0;subst hr0;rfl
  obtain⟨_,h1|⟨k,z,f,h1,h2,h3⟩|⟨Zc,h1⟩⟩:=Jc.look
  ·obtain⟨g',w',es,e1,e2,e3,e4⟩:=h1 w (cF.refl w);exact h.Tu hT hV sf hi hg eY h7 Cr hx e1 (hgg.trans e1) e2 e3 e4
  ·refine h.PI hT sf hi hg eY h7 Cr hx Jc h1 h2 h3 hgg fun SI=>?_;rcases OZ with⟨_,ht⟩|⟨_,k',z',f',Tv,aeC,⟨rfl,_⟩|⟨_,rX⟩⟩
   ·exact ht
   ·cases cm
   ·exfalso;have ea:=h2 w (cF.refl w);have eb:=aeC w (cF.refl w);simp only at ea;rw[ea] at eb;simp only[GStep.comm.injEq,Array.mk.injEq,List.cons.injEq,rcase,CommCase.mk.injEq,Value.chan.injEq,Option.some.injEq,and_true,true_and,CommShape.recv.injEq] at eb;have k1:=hT.dep i k pd h1;have k2:=hT.dep i k' pd Tv;obtain rfl:=hT.wh k k' aa aa eb.1.1;rw[SI] at rX;cases rX
  ·obtain⟨s,r,tm,hc⟩:=h.chan i pd;rw[eY] at hc;obtain⟨g',e1,e2,e3,e4⟩:=h1 w (cF.refl w) s r tm hc;refine h.Nf hT hV sf hi hg eY h7 Cr hc (hgg.trans e1) ?_ e2 e3 e4;rcases OZ with⟨rfl,_⟩|⟨_,k,z,f,_,_,⟨rfl,_⟩|⟨rfl,_⟩⟩
   ·exact Zc
   ·cases cm
   ·exact Zc
 ·rw[eY] at h1;cases h1
end
end
section
open Go.ConcR (KK wgBlock WgAt stA smA rd wr mk Payload DC0 Bk bk_of_mute g_of_ofEvents loc_of_ofEvent ofEvent_loc_mark)
variable [Payload]
structure Xk(T:cP)(S:jb)(i C:Nat)(w w':ae):Prop where
 JQ:dc T (S.own 0) w w'
 A2:∀k,k<S.j->k≠i->cF T k (S.own (T.m0+k)) (S.rc k) w w'
 same:dc T (fun _=>False) w w'
 Cu:pG T S.j w w'
 size:w'.heap.size=w.heap.size
 chan:∀k,k<T.n->w'.heap[T.ch k]?=w.heap[T.ch k]?
 cells:∀a,T.js i (.cell a)->w'.cell? a=w.cell? a
 own:∀b,S.own (T.m0+i) b->b≠C->w'.heap[b]?=w.heap[b]?
section
variable {P:Program} {T:cP} {V:Nat->ae->Prop} {ek:Nat->(Nat->Prop)->ae->Prop} {cx Fin:dV} {t0:Trace} {w0:ae}
 {gs:Array aS} {w w':ae} {t:Trace} {S S':jb} {D:Nat->WD} {x:Nat->kV} {tag:CTag} {a:aS} {y:jc} {st sm:Int} {sl:Option (Nat×Nat)}
theorem LK(hT:T.OK)(hS:S.OK T)(sf:S.j<=T.n){i C:Nat}(h:Aside T.Wg w w')(hl:WgLive T.ty T.Wg w'):Xk T S i C w w':=by
 have eH:∀z b,S.own z b->b≠T.Wg:=fun z b hb=>by have:=hS.new z b hb;have:=hT.wg;omega
 refine⟨wj hT (fun b hb=>hS.new _ b hb) h hl,fun k hk _=>LG hT aa (fun b hb=>hS.new _ b hb) h hl,wj hT (fun _ hb=>hb.elim) h hl,pG.A1 hT (fun b hb=>h.block b (hT.sh b hb).2.1),h.size,fun k hk=>h.block _ (hT.ch k hk).2,fun a ha=>?_,fun b hb _=>h.block b (eH _ b hb)⟩;obtain⟨a',e,hs⟩:=hT.ownSh i _ ha;cases e;exact cell_of (h.block _ (hT.sh _ hs).2.1)
theorem Ng(hT:T.OK)(h:fJ P T V ek cx Fin t0 w0 gs w t S D x tag a y st sm)(sf:S.j<=T.n){i C:Nat}(hi:i<S.j)(hC:S.own (T.m0+i) C)(DH:∀k,S.rc k i->True)(LL:AsideCell C 0 (1-1) w w'):Xk T S i C w w'/\w'.heap[T.Wg]?=w.heap[T.Wg]?:=by
 have LJ:=hT.m0;have Ze:=h.rQ.new _ C hC;have old:∀b,b<T.H0->w'.heap[b]?=w.heap[b]?:=fun b hb=>LL.block b aa;have hg:M3 T (fun b=>b=C) w w':=⟨bq LL.size.symm,fun b _ hb=>LL.block b hb,LL.os,LL.output⟩;have JW:∀z,z≠T.m0+i->∀b,S.own z b->b≠C:=fun z hz b hb e=>hz (h.rQ.one _ _ _ hb (e▸hC));refine⟨⟨⟨hg.size,fun b hb=>LL.block b (JW 0 aa b hb),fun b h1 _ _ _=>old b h1,fQ (old _ hT.wg),LL.os,LL.output⟩,fun k hk Na=>hg.A2 hT aa h.h0 (fun b hb=>by rw[hb];exact Ze) (fun b hb=>⟨h.rQ.new _ b hb,h.lt _ b hb,JW _ aa b hb⟩),⟨hg.size,fun _ hb=>hb.elim,fun b h1 _ _ _=>old b h1,fQ (old _ hT.wg),LL.os,LL.output⟩,
  pG.A1 hT (fun b hb=>old b (hT.sh b hb).1),LL.size,fun k hk=>old _ (hT.ch k hk).1,fun a ha=>?_,fun b _ hb=>LL.block b hb⟩,old _ hT.wg⟩
 obtain⟨a',e,hs⟩:=hT.ownSh i _ ha;cases e;exact cell_of (old _ (hT.sh _ hs).1)
theorem JX{i:Nat}(hi:i<S.j){d':WD}{tag':CTag}{x':Nat->kV}(hs:tag'=tag\/(tag=.blk/\tag'=.w3))(h1:d'.stage<(D i).stage)(h2:cnt d'<=cnt (D i)):A5 P T V (T.m0+i) S S D (upd D i d') tag tag' x x':=by
 left;have e1:=sumTo_upd D d' cnt hi;have e2:=sumTo_upd D d' WD.stage hi;simp only[ot];rw[phi_retag _ _ hs];simp only[Vc,Ssum] at *;have:=phi_mono T.n (v':=sumTo S.j fun a=>cnt (upd D i d' a)) (v:=sumTo S.j fun a=>cnt (D a)) aa tag;omega
theorem Nh{i:Nat}(hi:i<S.j){m':Nat}{dd:Nat}{tag':CTag}{x':Nat->kV}(hs:tag'=tag\/(tag=.blk/\tag'=.w3))(hx:x (T.m0+i)=.inr (D i).fuel)(kB:x' (T.m0+i)=.inr m')(hm:m'<(D i).fuel)(ho:∀k,k≠T.m0+i->iy T (x' k) (x k)):
  A5 P T V (T.m0+i) S S D (upd D i ⟨(D i).stage,m',dd⟩) tag tag' x x':=by
 refine .inr ⟨?_,by rw[hx,kB];exact hm,ho⟩;have e1:=sumTo_upd D (⟨(D i).stage,m',dd⟩:WD) cnt hi;have e2:=sumTo_upd D (⟨(D i).stage,m',dd⟩:WD) WD.stage hi;have ec:cnt (⟨(D i).stage,m',dd⟩:WD)=cnt (D i):=rfl;simp only[ot];rw[phi_retag _ _ hs];have ev:Vc S.j (upd D i ⟨(D i).stage,m',dd⟩)=Vc S.j D:=by simp only[Vc] at *;omega
 have lB:Ssum S.j (upd D i ⟨(D i).stage,m',dd⟩)=Ssum S.j D:=by simp only[Ssum] at *;omega
 rw[ev,lB]
theorem A7{z:Nat}{fn:FuncId}{pos:String}{es:Array Event}(h:∀e∈es,Bk T.Wg e):∀op∈MemOp.ofEvents z fn pos es,∀b,op.act.touch?=some b->b.loc.isMemory=true->wi T S z b:=by
 intro op eu b hb _;obtain⟨e,he,rfl⟩:=Go.Conc.mem_ofEvents eu;rcases h e he with h1|h1|⟨a,oT,rfl,ha⟩
 ·simp only[ofEvent_loc_mark h1] at hb;cases hb
 ·simp only[ofEvent_loc_mark h1] at hb;cases hb
 ·simp only[ofEvent_cell0,MemAct.touch?,Option.some.injEq] at hb;subst hb;exact .inl ⟨ha,an,an⟩
theorem PM{i d:Nat}(h:∃r,T.T0<=r/\RelBy (stA T.Wg) t (T.m0+i) r/\∀i' a,r<i'->t.g? i'=some (T.m0+i)->touchAt t i'=some a->sK (fun b=>b=T.Wg) a.loc/\a.kind=.atomic)(Xl:Deaf t (T.m0+i)=d)(fn:FuncId)(pos:String){es:Array Event}(GJ:∀e∈es,Bk T.Wg e)(hd:∀j e,es[j]?=some e->(MemAct.ofEvent e).touch?=none\/0<deafBehind d (es.extract 0 j)):
  ∃r,T.T0<=r/\RelBy (stA T.Wg) (t++MemOp.ofEvents (T.m0+i) fn pos es) (T.m0+i) r/\∀i' a,r<i'->(t++MemOp.ofEvents (T.m0+i) fn pos es).g? i'=some (T.m0+i)->touchAt (t++MemOp.ofEvents (T.m0+i) fn pos es) i'=some a->sK (fun b=>b=T.Wg) a.loc/\a.kind=.atomic:=by
 obtain⟨r,h1,h2,h3⟩:=h;refine⟨r,h1,h2.book Xl fn pos GJ hd,fun i' a lQ Tq hta=>?_⟩;obtain⟨z,hz,uj⟩:=touch_of hta;rcases getElem?_append_cases hz with⟨bZ,Cq⟩|⟨_,FR⟩
 ·exact h3 i' a lQ (by rw[<- g?_old (u:=MemOp.ofEvents (T.m0+i) fn pos es) bZ];exact Tq) (by rw[touchAt_of Cq];exact uj)
 ·obtain⟨e,he,rfl⟩:=Go.Conc.mem_ofEvents FR;rcases GJ e he with k1|k1|⟨ad,oT,rfl,ha⟩
  ·simp only[ofEvent_loc_mark k1] at uj;cases uj
  ·simp only[ofEvent_loc_mark k1] at uj;cases uj
  ·simp only[ofEvent_cell0,MemAct.touch?,Option.some.injEq] at uj;subst uj;exact⟨ha,rfl⟩
theorem fJ.PN(hT:T.OK)(hV:jJ T V ek)(hn:T.n<2147483648)(h:fJ P T V ek cx Fin t0 w0 gs w t S D x tag a y st sm)(sf:S.j<=T.n){i:Nat}(hi:i<S.j){g:aS}(hg:gs[T.m0+i]?=some g)(cm:g.status=.running)(eY:(S.cl i).isSome=true)(ahS:Vc S.j D+pend tag<=T.n):
  ∃gd w' S' D' x' tag' a' y' st' sm' ops,runT P (crowd gs w sl) (T.m0+i)=(.next (crowd gd w' sl),ops)/\S'.j=S.j/\fJ P T V ek cx Fin t0 w0 gd w' (t++ops) S' D' x' tag' a' y' st' sm'/\A5 P T V (T.m0+i) S S' D D' tag tag' x x':=by
 have pd:i<T.n:=aa;obtain⟨g1,e1,hw⟩:=h.wk i hi;rw[hg] at e1;cases e1;rcases hw with⟨h1,_⟩|⟨_,hx,hVi,C,v,hC,hs,ow⟩
 ·rw[h1] at eY;cases eY
 have hVj:=Vc_le S.j D;have step:∀{g':aS} {w':ae} {es:Array Event} {d':WD} {st' sm':Int},stepG P false g w=.go g' w' es->Xk T S i C w w'->WgAt T.ty T.Wg w' st' sm'->TI T S (t++MemOp.ofEvents (T.m0+i) g.frame.fn g.frame.place es) ->
   WSit P T.ty T.Wg C 0 pN pN 0 1 v d'.stage d'.fuel d'.deaf g' w'->deafBehind (D i).deaf es=d'.deaf->(∀e∈es,e.loc≠.mark (.release (stA T.Wg))) ->
   (d'.stage<=6->∃r,T.T0<=r/\RelBy (stA T.Wg) (t++MemOp.ofEvents (T.m0+i) g.frame.fn g.frame.place es) (T.m0+i) r/\∀i' a,r<i'->(t++MemOp.ofEvents (T.m0+i) g.frame.fn g.frame.place es).g? i'=some (T.m0+i)->touchAt (t++MemOp.ofEvents (T.m0+i) g.frame.fn g.frame.place es) i'=some a->sK (fun b=>b=T.Wg) a.loc/\a.kind=.atomic) ->
   (∀tag',(tag'=tag\/(tag=.blk/\tag'=.w3))->(mayWake P g=true->g'.status=.running->tag'≠.blk)->Go.ConcN.Mode S.j (upd D i d') tag' st' sm') ->
   ((d'.stage<(D i).stage/\cnt d'<=cnt (D i))\/(d'.stage=(D i).stage/\d'.fuel<(D i).fuel)) ->
   ∃gd w' S' D' x' tag' a' y' st' sm' ops,runT P (crowd gs w sl) (T.m0+i)=(.next (crowd gd w' sl),ops)/\S'.j=S.j/\fJ P T V ek cx Fin t0 w0 gd w' (t++ops) S' D' x' tag' a' y' st' sm'/\A5 P T V (T.m0+i) S S' D D' tag tag' x x':=by
  intro g' w' es d' st' sm' hgo Ni GV M7 rX hdd hnr aat A8 bZ;obtain⟨gd,tag',a',y',r1,r2,r3,r4⟩:=fJ.worker (sl:=sl) hT hV h hi sf hg hgo (S':=S) (d':=d') (ld':=.inr d'.fuel) (st':=st') (sm':=sm') rfl M7 h.rQ rfl (fun _ _=>rfl) (fun _ _=>rfl) (fun _ _=>rfl) (fun z b hb=>by rw[Ni.size];exact h.lt z b hb) (bq Ni.size.symm) Ni.JQ Ni.A2 Ni.same Ni.Cu (fun _ hk=>hk)
   (.inr ⟨eY,rfl,hV.v i w w' Ni.cells hVi,C,v,hC,rX,hV.val i _ w w' Ni.cells (fun b hb=>Ni.own b hb.1 hb.2) ow⟩) (.inl rfl) (fun k hk=>by rw[Ni.chan k hk];exact h.chan k hk) h.SH aat hdd hnr GV A8
  refine⟨gd,w',S,upd D i d',_,tag',a',y',st',sm',_,r1,rfl,r3,?_⟩;rcases bZ with⟨q1,q2⟩|⟨q1,q2⟩
  ·exact JX hi r2 q1 q2
  ·have e:d'=⟨(D i).stage,d'.fuel,d'.deaf⟩:=by rw[<- q1]
   rw[e];exact Nh hi r2 hx (by rw[<- e,upd_same]) q2 (fun k hk=>by rw[upd_ne _ _ hk];exact r4 k hk)
 have Xl:=h.deafW i hi;generalize dW:(D i).stage=s at hs step;generalize VI:(D i).fuel=m at hs step;generalize hde:(D i).deaf=dd at hs step;rw[hde] at Xl;have ahT:(MemOp.ofEvents (T.m0+i) g.frame.fn g.frame.place #[])=#[]:=by rw[ofEvents_eq];simp
 have book:∀{g':aS} {w':ae} {es:Array Event} {s' m' dd':Nat} {st' sm':Int},stepG P false g w=.go g' w' es->Aside T.Wg w w'->WgAt T.ty T.Wg w' st' sm'->(∀e∈es,Bk T.Wg e) ->
   (∀jx e,es[jx]?=some e->(MemAct.ofEvent e).touch?=none\/0<deafBehind dd (es.extract 0 jx))->WSit P T.ty T.Wg C 0 pN pN 0 1 v s' m' dd' g' w'->deafBehind dd es=dd'->s<=6 ->
   (∀tag',(tag'=tag\/(tag=.blk/\tag'=.w3))->(mayWake P g=true->g'.status=.running->tag'≠.blk)->Go.ConcN.Mode S.j (upd D i ⟨s',m',dd'⟩) tag' st' sm')->((s'<s/\cnt ⟨s',m',dd'⟩<=cnt (D i))\/(s'=s/\m'<m)) ->
   ∃gd w' S' D' x' tag' a' y' st' sm' ops,runT P (crowd gs w sl) (T.m0+i)=(.next (crowd gd w' sl),ops)/\S'.j=S.j/\fJ P T V ek cx Fin t0 w0 gd w' (t++ops) S' D' x' tag' a' y' st' sm'/\A5 P T V (T.m0+i) S S' D D' tag tag' x x':=by
  intro g' w' es s' m' dd' st' sm' hgo Xm GV ba hd rX hdd h6 A8 bZ;exact step (d':=⟨s',m',dd'⟩) hgo (LK hT h.rQ sf Xm ⟨_,_,GV⟩) GV (h.ti.app hT h.rQ (x:=T.m0+i) (.inr ⟨i,hi,rfl⟩) g_of_ofEvents (A7 ba)) rX hdd (fun e he=>norel_of_Bk ba e he)
   (fun _=>PM (h.rel i hi aa) Xl _ _ ba hd) A8 bZ
 have idle:∀{g':aS} {m':Nat},stepG P false g w=.go g' w #[]->WSit P T.ty T.Wg C 0 pN pN 0 1 v s m' dd g' w->m'<m->s<=6 ->
   ∃gd w' S' D' x' tag' a' y' st' sm' ops,runT P (crowd gs w sl) (T.m0+i)=(.next (crowd gd w' sl),ops)/\S'.j=S.j/\fJ P T V ek cx Fin t0 w0 gd w' (t++ops) S' D' x' tag' a' y' st' sm'/\A5 P T V (T.m0+i) S S' D D' tag tag' x x':=by
  intro g' m' hgo rX hm h6;exact book hgo (.refl T.Wg w) h.wg an an rX rfl h6 (fun tag' ht _=>by have:=h.mode.same (i:=i) m' dd;rw[dW] at this;exact this.retag ht) (.inr ⟨rfl,hm⟩)
 cases hs with
 |r0 sO =>
  rcases Goes.cases sO with n9|⟨m',rfl,ki⟩
  ·obtain⟨_,_,g',hgo,m₂,hk⟩:=n9 w (RW.refl w);refine step (d':=⟨6,m₂,0⟩) hgo (LK hT h.rQ sf (.refl T.Wg w) ⟨_,_,h.wg⟩) h.wg (h.ti.mute (y:=T.m0+i) g_of_ofEvents fun op eu=>?_) (.k1 hk) rfl (by intro e he;simp at he;subst he;simp[Go.ConcR.mk]) (fun _=>⟨t.size,h.ti.len,RelBy.new Xl _ _,fun i' b lQ _ htb=>?_⟩)
    (fun tag' ht _=>(h.mode.counted hi aa (.inl rfl) _ _).retag ht) (.inl ⟨an,by simp[cnt,dW]⟩)
   ·obtain⟨e,he,rfl⟩:=Go.Conc.mem_ofEvents eu;simp at he;subst he;rfl
   ·obtain⟨z,hz,_⟩:=touch_of htb;have:=lt_size_of_getElem? hz;rw[ofEvents_eq] at this;simp at this;omega
  ·obtain⟨g',w',es,hgo,⟨LL,iH⟩,Cw⟩:=ki w (RW.refl w);obtain⟨Ni,Xj⟩:=Ng hT h sf hi hC (fun _ _=>trivial) LL;refine step (d':=⟨7,m',0⟩) hgo Ni (h.wg.of_block Xj) (h.ti.app hT h.rQ (x:=T.m0+i) (.inr ⟨i,hi,rfl⟩) g_of_ofEvents fun op eu b hb hm=>?_) (.r0 Cw) (deafBehind_idle (fun e he=>⟨(iH e he).2.1,(iH e he).2.2.1⟩) 0) (fun e he=>(iH e he).2.2.2) (fun h6=>by simp at h6)
    (fun tag' ht _=>by have:=h.mode.same (i:=i) m' 0;rw[dW] at this;exact this.retag ht) (.inr ⟨rfl,an⟩)
   obtain⟨e,he,rfl⟩:=Go.Conc.mem_ofEvents eu;rcases((iH e he).1 g.frame.fn g.frame.place).2 b hb with⟨⟨ad,e1,e2⟩,h2,h3⟩|h2|⟨h2,_⟩
   ·refine .inl ⟨?_,h2,fun e=>absurd e h3⟩;rw[e1];exact e2
   ·exact h2.elim
   ·exact h2.elim
 |k1 sO =>
  rcases Goes.cases sO with n9|⟨m',rfl,ki⟩
  ·obtain⟨_,g',hgo,m₂,hk⟩:=n9 w (RW.refl w);exact book hgo (.refl T.Wg w) h.wg (by intro e he;simp at he;subst he;exact .inl rfl) (by intro jx e he;exact .inl (by have:=ew he;simp at this;subst this;rfl)) (.d1 hk) rfl aa
    (fun tag' ht _=>(h.mode.counted hi aa (.inr rfl) _ _).retag ht) (.inl ⟨aa,by simp[cnt,dW]⟩)
  ·obtain⟨g',w',es,hgo,⟨rfl,rfl⟩,Cw⟩:=ki w (RW.refl w);exact idle hgo (.k1 Cw) aa aa
 |d1 sO =>
  rcases Goes.cases sO with n9|⟨m',rfl,ki⟩
  ·obtain⟨_,gY⟩:=n9 w (RW.refl w);have Zf:cnt (D i)=1:=by simp[cnt,dW]
   have hV1:1<=Vc S.j D:=by have:=le_sumTo (f:=fun x=>cnt (D x)) hi;simp only[Vc];omega
   have bk2:∀e∈#[rd (stA T.Wg),wr (stA T.Wg)],Bk T.Wg e:=bk_rw;have df2:∀jx e,(#[rd (stA T.Wg),wr (stA T.Wg)]:Array Event)[jx]?=some e->(MemAct.ofEvent e).touch?=none\/0<deafBehind 1 ((#[rd (stA T.Wg),wr (stA T.Wg)]:Array Event).extract 0 jx):=by
    intro jx e he
    match jx,he with
    |0,_=>exact .inr (by simp[deafBehind])
    |1,_=>exact .inr (by simp[deafBehind,rd])
    |jx+2,he=>simp at he
   have hq0:∀q,cnt (⟨1,q,1⟩:WD)=0:=fun _=>rfl;have opq:∀q,OpenSt S.j D->OpenSt S.j (upd D i ⟨1,q,1⟩):=fun q hh b hb=>by
    by_cases e:b=i
    ·subst e;rw[upd_same];simp
    ·rw[upd_ne D _ e];exact hh b hb
   have jw:=h.mode;have nU:=h.wg;cases jw with
   |opn h1 h2 h3 =>
    obtain⟨n1,O0⟩:∃n1,Vc S.j D+pend tag=n1+1:=⟨Vc S.j D+pend tag-1,aa⟩;rw[O0] at nU;have pO:WgAt T.ty T.Wg w (((n1:Nat)+1)*KK+((0:Nat):Int)) 0:=by simpa using nU
    obtain⟨g',hgo,_,hq⟩:=gY n1 0 aa aa pO;obtain⟨q,hq⟩:=hq aa;have vD:Vc S.j (upd D i ⟨1,q,1⟩)+pend tag=n1:=by have:=Vc_upd D (⟨1,q,1⟩:WD) hi;have:=hq0 q;omega
    refine book hgo (aside_setCell w (stA T.Wg) _) (nU.setSt _) bk2 df2 (.quit hq) rfl aa (fun tag' ht _=>Mode.retag ?_ ht) (.inl ⟨aa,by simp[cnt]⟩);have e:((n1:Nat):Int)*KK+((0:Nat):Int)=((Vc S.j (upd D i ⟨1,q,1⟩)+pend tag:Nat):Int)*KK:=by rw[vD];simp
    rw[e];exact .opn h1 (opq q h2) (fun vs ev=>by have:=h3 vs ev;omega)
   |reg h1 h2 h3 =>
    obtain⟨n1,O0⟩:∃n1,Vc S.j D=n1+1:=⟨Vc S.j D-1,aa⟩;rw[O0] at nU;have pO:WgAt T.ty T.Wg w (((n1:Nat)+1)*KK+((1:Nat):Int)) 0:=by simpa using nU
    obtain⟨g',hgo,hl,hq⟩:=gY n1 1 aa aa pO;by_cases ME:n1=0
    ·subst ME;obtain⟨m₂,hk⟩:=hl ⟨rfl,rfl⟩;refine book hgo (aside_setCell w (stA T.Wg) _) (nU.setSt _) bk2 df2 (.d2 hk) rfl aa (fun tag' ht _=>Mode.retag ?_ ht) (.inl ⟨aa,by simp[cnt]⟩);have zC:∀b,b<S.j->b≠i->(D b).stage=1:=fun b hb e=>by
      have c0:=others_uncounted hi O0 Zf b hb e;have:=h2 b hb;simp only[cnt] at c0;split at c0<;>omega
     have:=Mode.last (j:=S.j) (D:=upd D i ⟨4,m₂,1⟩) (tag:=tag) i h1 hi (by rw[upd_same];simp) (fun b hb e=>by rw[upd_ne D _ e];exact zC b hb e);rw[upd_same] at this;simpa using this
    ·obtain⟨q,hq⟩:=hq aa;have vD:Vc S.j (upd D i ⟨1,q,1⟩)=n1:=by have:=Vc_upd D (⟨1,q,1⟩:WD) hi;have:=hq0 q;omega
     refine book hgo (aside_setCell w (stA T.Wg) _) (nU.setSt _) bk2 df2 (.quit hq) rfl aa (fun tag' ht _=>Mode.retag ?_ ht) (.inl ⟨aa,by simp[cnt]⟩);have e:((n1:Nat):Int)*KK+((1:Nat):Int)=((Vc S.j (upd D i ⟨1,q,1⟩):Nat):Int)*KK+1:=by rw[vD];simp
     rw[e];exact .reg h1 (opq q h2) aa
   |last L _ h2 h3 h4 =>
    by_cases e:i=L
    ·subst e;omega
    ·have:=h4 i hi e;omega
   |sema h2=>have:=h2 i hi;omega
   |fin _ h2=>have:=h2 i hi;omega
  ·obtain⟨g',w',es,hgo,⟨rfl,rfl⟩,Cw⟩:=ki w (RW.refl w);exact idle hgo (.d1 Cw) aa aa
 |d2 sO =>
  rcases Goes.cases sO with n9|⟨m',rfl,ki⟩
  ·obtain⟨_,kB⟩:=n9 w (RW.refl w);obtain⟨Tw,zC,e1,e2⟩:=h.mode.isLast hi aa;have nU:=h.wg;rw[e1,e2] at nU;simp only[dW] at nU;have GW:WgAt T.ty T.Wg w 1 0:=by simpa using nU
   obtain⟨g',hgo,m₂,hk⟩:=kB GW;refine book hgo (.refl T.Wg w) GW bk_rd (by intro jx e he;match jx,he with|0,_=>exact .inr (by simp[deafBehind])|jx+1,he=>simp at he) (.d3 hk) rfl aa (fun tag' ht _=>Mode.retag ?_ ht) (.inl ⟨aa,by simp[cnt]⟩);have:=Mode.last (j:=S.j) (D:=upd D i ⟨3,m₂,1⟩) (tag:=tag) i Tw hi (by rw[upd_same];simp) (fun b hb e=>by rw[upd_ne D _ e];exact zC b hb e);rw[upd_same] at this;simpa using this
  ·obtain⟨g',w',es,hgo,⟨rfl,rfl⟩,Cw⟩:=ki w (RW.refl w);exact idle hgo (.d2 Cw) aa aa
 |d3 sO =>
  rcases Goes.cases sO with n9|⟨m',rfl,ki⟩
  ·obtain⟨_,kB⟩:=n9 w (RW.refl w);obtain⟨Tw,zC,e1,e2⟩:=h.mode.isLast hi aa;have nU:=h.wg;rw[e1,e2] at nU;simp only[dW] at nU;have GW:WgAt T.ty T.Wg w 1 0:=by simpa using nU
   obtain⟨g',hgo,m₂,hk⟩:=kB GW;refine book hgo (aside_setCell w (stA T.Wg) _) (GW.setSt 0) (by intro e he;simp at he;subst he;exact bk_cell _ _ rfl) (by intro jx e he;match jx,he with|0,_=>exact .inr (by simp[deafBehind])|jx+1,he=>simp at he) (.d4 hk) rfl aa (fun tag' ht _=>Mode.retag ?_ ht) (.inl ⟨aa,by simp[cnt]⟩);have:=Mode.last (j:=S.j) (D:=upd D i ⟨2,m₂,1⟩) (tag:=tag) i Tw hi (by rw[upd_same];simp) (fun b hb e=>by rw[upd_ne D _ e];exact zC b hb e);rw[upd_same] at this;simpa using this
  ·obtain⟨g',w',es,hgo,⟨rfl,rfl⟩,Cw⟩:=ki w (RW.refl w);exact idle hgo (.d3 Cw) aa aa
 |d4 sO =>
  rcases Goes.cases sO with n9|⟨m',rfl,ki⟩
  ·obtain⟨_,Zc,kB⟩:=n9 w (RW.refl w);obtain⟨Tw,zC,e1,e2⟩:=h.mode.isLast hi aa;have nU:=h.wg;rw[e1,e2] at nU;simp only[dW] at nU;have GW:WgAt T.ty T.Wg w 0 0:=by simpa using nU
   obtain⟨g',hgo,q,hq⟩:=kB GW;have PG:g'.status=.running:=by
    cases q with
    |zero=>exact absurd hq.2 dh
    |succ q=>exact hq.elim (fun x=>absurd x.2 dh) (fun x=>x.1)
   refine book hgo (aside_setCell w (smA T.Wg) _) (GW.setSm 1) (es:=semEvents (smA T.Wg)) bk_sem ?_ (.quit hq) (by simp[deafBehind,semEvents]) aa ?_ (.inl ⟨aa,by simp[cnt]⟩)
   ·intro jx e he
    match jx,he with
    |0,he=>simp[semEvents] at he;subst he;exact .inl rfl
    |1,_=>exact .inr (by simp[deafBehind,semEvents])
    |2,_=>exact .inr (by simp[deafBehind,semEvents])
    |3,he=>simp[semEvents] at he;subst he;exact .inl rfl
    |jx+4,he=>simp[semEvents] at he
   ·intro tag' ht hw;have EK:=hw Zc PG;have e3:tag'=.w3:=by
     rcases ht with rfl|⟨_,rfl⟩
     ·cases tag'<;>first|rfl|exact Tw.elim|exact absurd rfl EK
     ·rfl
    subst e3;exact .sema fun b hb=>by
     by_cases e:b=i
     ·subst e;rw[upd_same]
     ·rw[upd_ne D _ e];exact zC b hb e
  ·obtain⟨g',w',es,hgo,⟨rfl,rfl⟩,Cw⟩:=ki w (RW.refl w);exact idle hgo (.d4 Cw) aa aa
 |quit hq =>
  cases m with
  |zero=>rw[hq.1] at cm;cases cm
  |succ q =>
   rcases hq with⟨hf,_⟩|⟨_,g',es,VJ,ki,EN⟩
   ·rw[hf] at cm;cases cm
   ·have ba:∀e∈es,Bk T.Wg e:=fun e he=>bk_of_mute (VJ e he);refine book (ki w) (.refl T.Wg w) h.wg ba (fun jx e he=>.inl (touch_mute (VJ e (ew he)))) (.quit EN) rfl aa (fun tag' ht _=>by have:=h.mode.same (i:=i) q (deafBehind dd es);rw[dW] at this;exact this.retag ht) (.inr ⟨rfl,aa⟩)
end
end
section
open Go.ConcR (KK wgBlock WgAt stA smA rd wr mk Payload DC0 Bk g_of_ofEvents loc_of_ofEvent ofEvent_loc_mark)
variable [Payload]
section
variable {P:Program} {T:cP} {V:Nat->ae->Prop} {ek:Nat->(Nat->Prop)->ae->Prop} {cx Fin:dV} {t0:Trace} {w0:ae}
 {gs:Array aS} {w w':ae} {t:Trace} {S S':jb} {D:Nat->WD} {x:Nat->kV} {tag:CTag} {a:aS} {y:jc} {st sm:Int} {sl:Option (Nat×Nat)}
theorem PO(hT:T.OK)(hS:S.OK T){o':Nat->Prop}(hh:T.H0<=w.heap.size)(hl:∀z b,S.own z b->b<w.heap.size)(ho:∀b,o' b->S.own 0 b\/w.heap.size<=b):({S with own:=upd S.own 0 o'}:jb).OK T:=by
 have key:∀z b,(upd S.own 0 o') z b->S.own z b\/(z=0/\w.heap.size<=b):=by
  intro z b hb;by_cases e:z=0
  ·subst e;rw[upd_same] at hb;exact(ho b hb).imp id fun hh=>⟨rfl,hh⟩
  ·rw[upd_ne _ _ e] at hb;exact .inl hb
 refine⟨fun z b hb=>?_,fun z z' b h1 h2=>?_,fun z b hb=>?_⟩
 ·rcases key z b hb with h|⟨_,h⟩
  ·exact hS.new z b h
  ·omega
 ·rcases key z b h1 with h1|⟨e1,h1⟩<;>rcases key z' b h2 with h2|⟨e2,h2⟩
  ·exact hS.one z z' b h1 h2
  ·have:=hl z b h1;omega
  ·have:=hl z' b h2;omega
  ·rw[e1,e2]
 ·rcases key z b hb with h|⟨e,_⟩
  ·exact hS.mem z b h
  ·exact .inl e
theorem fJ.main(hT:T.OK)(hV:jJ T V ek)(h:fJ P T V ek cx Fin t0 w0 gs w t S D x tag a y st sm)(sf:S.j<=T.n){a':aS}{es:Array Event}(hgo:stepG P true a w=.go a' w' es){o':Nat->Prop}{tag':CTag}{y':jc}{st' sm':Int}(ho:∀b,S.own 0 b->o' b)(CM:∀b,o' b->S.own 0 b\/(w.heap.size<=b/\b<w'.heap.size))(JO:∀op∈MemOp.ofEvents 0 a.frame.fn a.frame.place es,∀b,op.act.touch?=some b->b.loc.isMemory=true->wi T {S with own:=upd S.own 0 o'} 0 b)(ft:w.heap.size<=w'.heap.size)(Pz:∀k,k<S.j->cF T k (S.own (T.m0+k)) (S.rc k) w w')(nt:dc T (fun _=>False) w w')(M8:pG T S.j w w')(uh:∀k,k<T.n->w'.heap[T.ch k]?=w.heap[T.ch k]?)(GX:ji P T V ek cx Fin tag' o' a' w' y')(Xn:lK T.n tag' S.j (deafBehind (Deaf t 0) es))(JV:∀e∈es,e.loc≠.mark (.release (stA T.Wg)))(nU:WgAt T.ty T.Wg w' st' sm')(jw:Go.ConcN.Mode S.j D tag' st' sm'):
  ∃gd,runT P (crowd gs w sl) 0=(.next (crowd gd w' sl),MemOp.ofEvents 0 a.frame.fn a.frame.place es) /\
   fJ P T V ek cx Fin t0 w0 gd w' (t++MemOp.ofEvents 0 a.frame.fn a.frame.place es) {S with own:=upd S.own 0 o'} D (fun k=>lM w' (x k)) tag' a' y' st' sm'/\∀k,iy T (lM w' (x k)) (x k):=by
 have LJ:=hT.m0;have cm:=runT_crowd_go (P:=P) (sl:=sl) (i:=0) h.DI (show stepG P (0==0) a w=_ from hgo);have zA:0<gs.size:=by rw[h.size];omega
 have hu:∀op∈MemOp.ofEvents 0 a.frame.fn a.frame.place es,op.g=0:=g_of_ofEvents;have I9:∀k,k≠0->Deaf (t++MemOp.ofEvents 0 a.frame.fn a.frame.place es) k=Deaf t k:=fun k hk=>Deaf_other t (bc hk) _ hu;have JY:=PO hT h.rQ h.h0 h.lt fun b hb=>(CM b hb).imp id fun hh=>hh.1;have Ja:∀k,k<S.j->iy T (lM w' (x (T.m0+k))) (x (T.m0+k))/\∃gk,gs[T.m0+k]?=some gk/\I6 P T V ek k (S.own (T.m0+k)) (S.rc k) S.cl (D k) (lM w' (x (T.m0+k))) (woken P a a' w' gk) w':=by
  intro k hk;obtain⟨gk,h1,h2⟩:=h.wk k hk;obtain⟨h3,h4⟩:=h2.M6 (cl':=S.cl) hV (Pz k hk) (x:=a) (x':=a') rfl (fun _ hk=>hk) (fun k' hn _=>.inl hn) (fun k' hd=>by
   have kY:k'<T.n:=by have:=hT.dep k k' aa hd;omega
   rw[uh k' kY];exact h.chan k' kY)
  exact⟨h3,gk,h1,h4⟩
 refine⟨_,cm,?_,?_⟩
 ·refine⟨by simp[h.size],by simp[zA],by simp only[upd_same];exact GX,by rw[Deaf_own];exact Xn,fun k k0 km=>?_,fun k hk=>?_,fun k hk=>?_,?_,fun k hk=>?_,fun k hk=>?_,?_,JY,fun z b hb=>?_,aR h.h0 ft,nU,jw,fun k hk=>by rw[uh k hk];exact h.chan k hk,h.SH,h.Xg,h.SF,fun k hk dW=>qo (h.rel k hk dW) hu aa,tH h.norel JV,tI h.SD fun z hz=>.inl (hu z hz),?_,h.same.trans nt,h.Cu.trans M8,h.idle0⟩
  ·obtain⟨gk,q,h1,h2,h3⟩:=h.old k k0 km;have cV:0≠k:=aa;exact⟨gk,q,by rw[ov _ _ _ _ cV,h1,cR,woken_quitsD h3],by rw[h2];rfl,by rw[I9 k (bc cV)];exact h3⟩
  ·obtain⟨_,gk,h1,h2⟩:=Ja k hk;have cV:0≠T.m0+k:=aa;exact⟨_,by rw[ov _ _ _ _ cV,h1];rfl,by simp only;rw[upd_ne _ _ (bc cV)];exact h2⟩
  ·rw[h.rest k hk];rfl
  ·rw[h.zero];rfl
  ·rw[I9 _ aa];exact h.deafW k hk
  ·have kY:gs.size<=k:=by simpa using hk
   rw[I9 k aa];exact h.above k kY
  ·refine(h.ti.grow (own':=upd S.own 0 o') fun z b hb=>?_).app hT JY (x:=0) (.inl rfl) hu JO;by_cases e:z=0
   ·subst e;rw[upd_same];exact ho b hb
   ·rw[upd_ne _ _ e];exact hb
  ·simp only at hb;by_cases e:z=0
   ·subst e;rw[upd_same] at hb;rcases CM b hb with hb|hb
    ·exact bm (h.lt _ b hb) ft
    ·exact hb.2
   ·rw[upd_ne _ _ e] at hb;exact bm (h.lt _ b hb) ft
  ·obtain⟨U,hU⟩:=h.ext;exact⟨U++MemOp.ofEvents 0 a.frame.fn a.frame.place es,by rw[hU,cY]⟩
 ·intro k;rcases aZ k with rfl|nS
  ·rw[h.zero];exact rfl
  ·rcases bP k T.m0 with lE | Nc
   ·obtain⟨gk,q,_,h2,_⟩:=h.old k nS lE;rw[h2];exact rfl
   ·rcases bP k (T.m0+S.j) with Ge|Cv
    ·have:=(Ja (k-T.m0) aa).1;rw[show T.m0+(k-T.m0)=k by omega] at this;exact this
    ·rw[h.rest k Cv];exact rfl
theorem GY{gs:Array aS}(a' child:aS){k:Nat}(hk:k<gs.size)(h0:0≠k):((gs.setIfInBounds 0 a').push child)[k]?=gs[k]?:=by
 rw[eZ,if_neg eR,aJ h0]
theorem Nj{gs:Array aS}(a' child:aS):((gs.setIfInBounds 0 a').push child)[gs.size]?=some child:=by
 rw[eZ,if_pos an]
theorem fJ.spawn(hT:T.OK)(h:fJ P T V ek cx Fin t0 w0 gs w t S D x tag a y st sm)(sf:S.j<T.n){a' child:aS}{hand:Nat->Prop}(xB:stepG P true a w=.spawn a' child w #[])(hh:∀b,hand b->S.own 0 b)(Jc:gj P T S.j V (CR P T ek S.j) ⟨child,hand,fun _=>False,w⟩)(Cr:Deaf t 0=0){tag':CTag}{y':jc}(GX:ji P T V ek cx Fin tag' (fun b=>S.own 0 b/\¬hand b) a' w y')(Xn:lK T.n tag' (S.j+1) 0)(jw:Go.ConcN.Mode (S.j+1) (upd D S.j ⟨7,0,0⟩) tag' st sm):
  ∃gd S' x' ops,runT P (crowd gs w sl) 0=(.next (crowd gd w sl),ops)/\S'.j=S.j+1/\S'.cl=S.cl/\fJ P T V ek cx Fin t0 w0 gd w (t++ops) S' (upd D S.j ⟨7,0,0⟩) x' tag' a' y' st sm:=by
 have LJ:=hT.m0;have cm:=runT_crowd_spawn (P:=P) (sl:=sl) (i:=0) h.DI (show stepG P (0==0) a w=_ from xB);have pP:=h.size;have PH:((MemOp.ofEvents 0 a.frame.fn a.frame.place #[]).push {g:=0,fn:=a.frame.fn,pos:=a.frame.place,act:=.go gs.size} |>.push {g:=gs.size,fn:=child.frame.fn,pos:=a.frame.place,act:=.start}) =
   #[({g:=0,fn:=a.frame.fn,pos:=a.frame.place,act:=.go (T.m0+S.j)}:MemOp),{g:=T.m0+S.j,fn:=child.frame.fn,pos:=a.frame.place,act:=.start}]:=by
  rw[ofEvents_eq,pP];simp
 rw[PH] at cm;have SC:∀op∈#[({g:=0,fn:=a.frame.fn,pos:=a.frame.place,act:=.go (T.m0+S.j)}:MemOp),{g:=T.m0+S.j,fn:=child.frame.fn,pos:=a.frame.place,act:=.start}],op.act.touch?=none/\∀m,op.act≠.mark m:=by
  intro op eu;simp only[List.mem_toArray,List.mem_cons,List.not_mem_nil,or_false] at eu;rcases eu with rfl|rfl
  ·exact⟨rfl,fun m=>an⟩
  ·exact⟨rfl,fun m=>an⟩
 have Tt:∀k,Deaf (t++#[({g:=0,fn:=a.frame.fn,pos:=a.frame.place,act:=.go (T.m0+S.j)}:MemOp),{g:=T.m0+S.j,fn:=child.frame.fn,pos:=a.frame.place,act:=.start}]) k=Deaf t k:=fun k=>Deaf_still t k _ fun op eu=>⟨(SC op eu).2 _,(SC op eu).2 _⟩;have zA:0<gs.size:=by rw[pP];omega
 have eY:S.cl S.j=none:=h.Xg _ (ag _);have DH:S.rc S.j=fun _=>False:=by funext b;simp;exact fun hb=>absurd (h.SF _ _ hb) (Nat.lt_irrefl _)
 have e1:∀z,z≠T.m0+S.j->z≠0->upd (upd S.own 0 (fun b=>S.own 0 b/\¬hand b)) (T.m0+S.j) hand z=S.own z:=fun z h1 h2=>by rw[upd_ne _ _ h1,upd_ne _ _ h2]
 have e2:upd (upd S.own 0 (fun b=>S.own 0 b/\¬hand b)) (T.m0+S.j) hand 0=fun b=>S.own 0 b/\¬hand b:=by rw[upd_ne _ _ aa,upd_same]
 have e3:upd (upd S.own 0 (fun b=>S.own 0 b/\¬hand b)) (T.m0+S.j) hand (T.m0+S.j)=hand:=upd_same _ _ _;have key:∀z b,upd (upd S.own 0 (fun b=>S.own 0 b/\¬hand b)) (T.m0+S.j) hand z b->(z=T.m0+S.j/\hand b)\/(z≠T.m0+S.j/\S.own z b/\(z=0->¬hand b)):=by
  intro z b hb;by_cases h1:z=T.m0+S.j
  ·subst h1;rw[e3] at hb;exact .inl ⟨rfl,hb⟩
  ·by_cases h2:z=0
   ·subst h2;rw[e2] at hb;exact .inr ⟨h1,hb.1,fun _=>hb.2⟩
   ·rw[e1 z h1 h2] at hb;exact .inr ⟨h1,hb,fun e=>absurd e h2⟩
 have noj:∀b,¬S.own (T.m0+S.j) b:=fun b hb=>by
  rcases h.rQ.mem _ b hb with e|⟨i',lQ,e⟩
  ·omega
  ·omega
 refine⟨_,{S with j:=S.j+1,own:=upd (upd S.own 0 (fun b=>S.own 0 b/\¬hand b)) (T.m0+S.j) hand},upd x (T.m0+S.j) (.inl (S.j,⟨child,hand,fun _=>False,w⟩,false)),_,cm,rfl,rfl,?_⟩;refine⟨by simp[pP];omega,?_,by simp only;rw[e2];exact GX,by rw[Tt,Cr];exact Xn,fun k k0 km=>?_,fun k hk=>?_,fun k hk=>?_,?_,fun k hk=>?_,fun k hk=>?_,?_,⟨fun z b hb=>?_,fun z z' b h1 h2=>?_,fun z b hb=>?_⟩,fun z b hb=>?_,h.h0,h.wg,jw,h.chan,h.SH,fun k hk=>h.Xg k (by simp only at hk;omega),fun i' k hr=>by have:=h.SF i' k hr;simp only;omega,fun k hk dW=>?_,fun k hk e=>?_,?_,?_,h.same,h.Cu.mono (Nat.le_succ _),h.idle0⟩
 ·rw[cT (by simpa using zA),<- aG];simp[zA]
 ·obtain⟨gk,q,h1,h2,h3⟩:=h.old k k0 km;refine⟨gk,q,?_,by rw[upd_ne _ _ aa];exact h2,by rw[Tt];exact h3⟩;rw[GY a' child (by rw[pP];omega) aa];exact h1
 ·simp only at hk |-;by_cases e:k=S.j
  ·subst e;refine⟨child,?_,.inl ⟨eY,by rw[upd_same],by rw[upd_same],child,false,by rw[upd_same,e3,DH],by rw[e3,DH];exact Jc,.inl ⟨rfl,rfl⟩⟩⟩;rw[<- pP];exact Nj a' child
  ·obtain⟨gk,h1,h2⟩:=h.wk k aa;refine⟨gk,?_,by rw[e1 _ aa aa,upd_ne D _ e,upd_ne x _ aa];exact h2⟩;rw[GY a' child (by rw[pP];omega) aa];exact h1
 ·simp only at hk;rw[upd_ne _ _ aa];exact h.rest k aa
 ·rw[upd_ne _ _ aa];exact h.zero
 ·simp only at hk;rw[Tt];by_cases e:k=S.j
  ·subst e;rw[upd_same];exact h.above _ (by rw[pP];exact ag _)
  ·rw[upd_ne _ _ e];exact h.deafW k aa
 ·rw[Tt];exact h.above k (by simp at hk;omega)
 ·exact h.ti.spawn (own':=upd (upd S.own 0 (fun b=>S.own 0 b/\¬hand b)) (T.m0+S.j) hand) ⟨rfl,rfl⟩ ⟨rfl,rfl⟩ Cr (h.above _ (by rw[pP];exact ag _)) fun z b hb=>by
   by_cases h1:z=T.m0+S.j
   ·subst h1;exact absurd hb (noj b)
   ·by_cases h2:z=0
    ·subst h2;by_cases h3:hand b
     ·exact .inr ⟨rfl,by rw[e3];exact h3⟩
     ·exact .inl (by rw[e2];exact⟨hb,h3⟩)
    ·exact .inl (by rw[e1 z h1 h2];exact hb)
 ·rcases key z b hb with⟨_,h1⟩|⟨_,h1,_⟩
  ·exact h.rQ.new 0 b (hh b h1)
  ·exact h.rQ.new z b h1
 ·rcases key z b h1 with⟨k1,k2⟩|⟨k1,k2,k3⟩<;>rcases key z' b h2 with⟨l1,l2⟩|⟨l1,l2,l3⟩
  ·rw[k1,l1]
  ·have:=h.rQ.one _ _ _ (hh b k2) l2;exact absurd k2 (l3 this.symm)
  ·have:=h.rQ.one _ _ _ (hh b l2) k2;exact absurd l2 (k3 this.symm)
  ·exact h.rQ.one _ _ _ k2 l2
 ·rcases key z b hb with⟨h1,_⟩|⟨_,h1,_⟩
  ·exact .inr ⟨S.j,bz _,h1⟩
  ·rcases h.rQ.mem z b h1 with e|⟨i',lQ,e⟩
   ·exact .inl e
   ·exact .inr ⟨i',Nat.lt_succ_of_lt lQ,e⟩
 ·rcases key z b hb with⟨_,h1⟩|⟨_,h1,_⟩
  ·exact h.lt 0 b (hh b h1)
  ·exact h.lt z b h1
 ·simp only at hk;by_cases e:k=S.j
  ·subst e;rw[upd_same] at dW;simp at dW
  ·rw[upd_ne _ _ e] at dW;obtain⟨r,r1,r2,r3⟩:=h.rel k aa dW;refine⟨r,r1,r2.app fun i' lQ Tq hc=>?_,fun i' b lQ Tq hta=>?_⟩
   ·obtain⟨b,hb,_⟩:=hc;obtain⟨z,hz,uj⟩:=touch_of hb;rcases getElem?_append_cases hz with⟨bZ,_⟩|⟨_,FR⟩
    ·omega
    ·rw[(SC z FR).1] at uj;cases uj
   ·obtain⟨z,hz,uj⟩:=touch_of hta;rcases getElem?_append_cases hz with⟨bZ,Cq⟩|⟨_,FR⟩
    ·refine r3 i' b lQ ?_ (by rw[touchAt_of Cq];exact uj);rw[<- Tq];simp[Trace.g?,hz,Cq]
    ·rw[(SC z FR).1] at uj;cases uj
 ·obtain⟨op,ho,VF⟩:=Option.map_eq_some_iff.1 e;rcases getElem?_append_cases ho with⟨bZ,mr⟩|⟨_,Py⟩
  ·exact h.norel k hk (by rw[act?_of mr,VF])
  ·exact(SC op Py).2 _ VF
 ·exact tI (fun i z hi hz=>(h.SD i z hi hz).imp id fun hh=>hh.imp (fun⟨k,hk,e⟩=>⟨k,Nat.lt_succ_of_lt hk,e⟩) id) fun z hz=>.inr (.inr (SC z hz).1)
 ·obtain⟨U,hU⟩:=h.ext;exact⟨U++#[({g:=0,fn:=a.frame.fn,pos:=a.frame.place,act:=.go (T.m0+S.j)}:MemOp),{g:=T.m0+S.j,fn:=child.frame.fn,pos:=a.frame.place,act:=.start}],by rw[hU,cY]⟩
end
end
section
open Go.ConcR (KK wgBlock WgAt stA smA rd wr mk Payload DC0 Bk g_of_ofEvents loc_of_ofEvent ofEvent_loc_mark)
variable [Payload]
def LM(P:Program)(T:cP)(S S':jb)(D D':Nat->WD)(tag tag':CTag)(x x':Nat->kV)(y y':jc):Prop :=
 ot T S' D' tag'<ot T S D tag\/(ot T S' D' tag'=ot T S D tag/\(∀k,iy T (x' k) (x k))/\lV P T y' y)
section
variable {P:Program} {T:cP} {V:Nat->ae->Prop} {ek:Nat->(Nat->Prop)->ae->Prop} {cx Fin:dV} {t0:Trace} {w0:ae}
 {gs:Array aS} {w w':ae} {t:Trace} {S S':jb} {D:Nat->WD} {x:Nat->kV} {tag:CTag} {a:aS} {y:jc} {st sm:Int} {sl:Option (Nat×Nat)}
theorem lK.le{n:Nat}{tag:CTag}{j d:Nat}(h:lK n tag j d):j<=n:=by
 cases tag<;>simp only[lK] at h<;>omega
theorem lK.pend{n:Nat}{tag:CTag}{j d v:Nat}(h:lK n tag j d)(hv:v<=j):v+pend tag<=n:=by
 cases tag<;>simp only[lK,ConcN.pend] at h |-
 case sp r s=>split<;>omega
 all_goals omega
theorem ji.mk{tag:CTag}(cV:tag≠.blk){Stop:dV}{o:Nat->Prop}{a:aS}{w:ae}(h:cM P T Stop o a w)(e:jI P T V ek cx Fin tag=Stop):ji P T V ek cx Fin tag o a w (.inl (Stop,⟨a,o,w⟩)):=by
 rw[ji.eq cV,e];exact⟨h,rfl⟩
theorem GZ{o':Nat->Prop}{fn:FuncId}{pos:String}{es:Array Event}(h:∀e∈es,EvS T o' e):∀op∈MemOp.ofEvents 0 fn pos es,∀b,op.act.touch?=some b->b.loc.isMemory=true->wi T {S with own:=upd S.own 0 o'} 0 b:=by
 intro op eu b hb hm;obtain⟨e,he,rfl⟩:=Go.Conc.mem_ofEvents eu;rcases(h e he).1 b hb hm with⟨h1,h2⟩|⟨c,h1,h2⟩|h1
 ·exact .inl ⟨h1,h2,fun _=>rfl⟩
 ·exact .inr (.inl ⟨c,by simp only[upd_same];exact h1,h2⟩)
 ·exact .inr (.inr (.inr (.inr h1)))
theorem fJ.PQ(hT:T.OK)(hV:jJ T V ek)(hn:T.n<2147483648)(VK:∀o g w,cx o g w->cM P T (OX P T cx Fin) o g w)(h:fJ P T V ek cx Fin t0 w0 gs w t S D x tag a y st sm)(cm:a.status=.running):
  (tag=.acq/\∃g',stepG P true a w=.go g' w #[Go.ConcR.mk (.acquire (stA T.Wg))]/\Fin (S.own 0) g' w) \/
  ∃gd w' S' D' x' tag' a' y' st' sm' ops,runT P (crowd gs w sl) 0=(.next (crowd gd w' sl),ops)/\fJ P T V ek cx Fin t0 w0 gd w' (t++ops) S' D' x' tag' a' y' st' sm'/\LM P T S S' D D' tag tag' x x' y y':=by
 have LJ:=hT.m0;have sf:=h.sN.le;have hVj:=Vc_le S.j D;have LI:∀b,S.own 0 b->T.H0<=b:=fun b hb=>h.rQ.new 0 b hb;have EK:tag≠.blk:=by
  rintro rfl;obtain⟨a0,h1,_⟩:=h.JU;rw[h1] at cm;cases cm
 have GX:=h.JU;rw[ji.eq EK] at GX;obtain⟨hsr,hy⟩:=GX;have book:∀{a':aS} {w':ae} {es:Array Event} {tag':CTag} {y':jc} {st' sm':Int},stepG P true a w=.go a' w' es->Aside T.Wg w w'->WgAt T.ty T.Wg w' st' sm'->(∀e∈es,Bk T.Wg e)->ji P T V ek cx Fin tag' (S.own 0) a' w' y' ->
   lK T.n tag' S.j (deafBehind (Deaf t 0) es)->Go.ConcN.Mode S.j D tag' st' sm'->(phi T.n (Vc S.j D) tag'<phi T.n (Vc S.j D) tag\/(phi T.n (Vc S.j D) tag'=phi T.n (Vc S.j D) tag/\lV P T y' y)) ->
   ∃gd w' S' D' x' tag' a' y' st' sm' ops,runT P (crowd gs w sl) 0=(.next (crowd gd w' sl),ops)/\fJ P T V ek cx Fin t0 w0 gd w' (t++ops) S' D' x' tag' a' y' st' sm'/\LM P T S S' D D' tag tag' x x' y y':=by
  intro a' w' es tag' y' st' sm' hgo Xm GV ba rX htg A8 bZ;obtain⟨gd,r1,r2,r3⟩:=h.main (sl:=sl) hT hV sf hgo (o':=S.own 0) (tag':=tag') (y':=y') (st':=st') (sm':=sm') (fun _ hb=>hb) (fun _ hb=>.inl hb) (by rw[A6];exact A7 ba) (bq Xm.size.symm) (fun k hk=>LG hT aa (fun b hb=>h.rQ.new _ b hb) Xm ⟨_,_,GV⟩) (wj hT (fun _ hb=>hb.elim) Xm ⟨_,_,GV⟩)
   (pG.A1 hT fun b hb=>Xm.block b (hT.sh b hb).2.1) (fun k hk=>Xm.block _ (hT.ch k hk).2) rX htg (fun e he=>norel_of_Bk ba e he) GV A8
  refine⟨gd,w',_,D,_,tag',a',y',st',sm',_,r1,r2,?_⟩;rcases bZ with bZ|⟨bZ,hl⟩
  ·left;show phi T.n (Vc S.j D) tag'+Ssum S.j D+lW S<phi T.n (Vc S.j D) tag+Ssum S.j D+lW S;omega
  ·right;refine⟨?_,r3,hl⟩;show phi T.n (Vc S.j D) tag'+Ssum S.j D+lW S=phi T.n (Vc S.j D) tag+Ssum S.j D+lW S;omega
 by_cases n9:∀w1,dc T (S.own 0) w w1->jI P T V ek cx Fin tag (S.own 0) a w1
 ·have dW:=n9 w (dc.refl w);have qJ:=h.sN;have jw:=h.mode;have nU:=h.wg;cases tag with
  |blk=>exact absurd rfl EK
  |anch=>exact dW.elim
  |ret=>exact dW.elim
  |sp r s =>
   simp only[lK] at qJ;obtain⟨hr,hj,hsd⟩:=qJ;right;rcases hsd with⟨rfl,hd⟩|⟨rfl,hd⟩|⟨rfl,hd⟩|⟨rfl,hd⟩
   ·have CO:JS P T V ek (T.n-(r+1)) (iC P T V ek cx r) (S.own 0) a w:=by simpa[jI] using dW
    obtain⟨_,a',hgo,hk⟩:=CO;exact book hgo (.refl T.Wg w) nU bk_dis (ji.mk (tag:=.sp r 4) an hk (by simp[jI])) ⟨hr,hj,.inr (.inl ⟨rfl,by rw[hd];rfl⟩)⟩ (jw.reopen trivial trivial rfl an) (.inl (by simp only[phi];omega))
   ·have CO:SA1 P T V ek (T.n-(r+1)) (iC P T V ek cx r) (S.own 0) a w:=by simpa[jI] using dW
    obtain⟨_,gY⟩:=CO;obtain⟨ho,e1,e2,_⟩:=jw.open_inv trivial;rw[e1,e2] at nU;obtain⟨a',hgo,hk⟩:=gY (Vc S.j D) aa (by simpa[pend] using nU);refine book hgo (aside_setCell w (stA T.Wg) _) (nU.setSt _) bk_rw (ji.mk (tag:=.sp r 3) an hk (by simp[jI])) ⟨hr,hj,.inr (.inr (.inl ⟨rfl,by rw[hd];simp[deafBehind,Go.ConcR.rd,Go.ConcR.wr]⟩))⟩ ?_ (.inl (by simp only[phi];omega));have e:(((Vc S.j D:Nat):Int)+1)*KK=((Vc S.j D+pend (.sp r 3):Nat):Int)*KK:=by simp[pend]
    rw[e];exact .opn trivial ho an
   ·have CO:Xf P T V ek (T.n-(r+1)) (iC P T V ek cx r) (S.own 0) a w:=by simpa[jI] using dW
    obtain⟨_,a',hgo,hk⟩:=CO;exact book hgo (.refl T.Wg w) nU bk_en (ji.mk (tag:=.sp r 2) an hk (by simp[jI])) ⟨hr,hj,.inr (.inr (.inr ⟨rfl,by rw[hd];rfl⟩))⟩ (jw.reopen trivial trivial rfl an) (.inl (by simp only[phi];omega))
   ·have CO:SGo P T V ek (T.n-(r+1)) (iC P T V ek cx r) (S.own 0) a w:=by simpa[jI] using dW
    obtain⟨_,a',child,hand,xB,hh,Jc,xP⟩:=CO;obtain⟨ho,e1,e2,_⟩:=jw.open_inv trivial;have eV:Vc (S.j+1) (upd D S.j ⟨7,0,0⟩)=Vc S.j D+1:=by
     simp only[Vc,sumTo,upd_same];rw[sumTo_upd_out D _ cnt (ag _)];rfl
    have eS:Ssum (S.j+1) (upd D S.j ⟨7,0,0⟩)=Ssum S.j D+7:=by
     simp only[Ssum,sumTo,upd_same];rw[sumTo_upd_out D _ WD.stage (ag _)]
    have mr:OpenSt (S.j+1) (upd D S.j ⟨7,0,0⟩):=fun b hb=>by
     by_cases e:b=S.j
     ·subst e;rw[upd_same];simp
     ·rw[upd_ne D _ e];exact ho b aa
    have VL:∀tag',isOpen tag'->pend tag'=0->(∀vs,tag'≠.w2 vs)->Go.ConcN.Mode (S.j+1) (upd D S.j ⟨7,0,0⟩) tag' st sm:=by
     intro tag' h1 h2 h3;have:=Mode.opn (j:=S.j+1) (D:=upd D S.j ⟨7,0,0⟩) (tag:=tag') h1 mr (fun vs e=>absurd e (h3 vs));rw[eV,h2] at this;rw[e1,e2];simpa[pend] using this
    rw[<- hj] at Jc;have less:∀(S':jb) (tag':CTag) (x':Nat->kV) (y':jc),S'.j=S.j+1->S'.cl=S.cl->phi T.n (Vc S.j D+1) tag'+8<phi T.n (Vc S.j D) (.sp r 2)->LM P T S S' D (upd D S.j ⟨7,0,0⟩) (.sp r 2) tag' x x' y y':=by
     intro S' tag' x' y' e3 e4 e5;left;have el:lW S'<=lW S+1:=by
      simp only[lW,e3,e4,sumTo];split<;>omega
     simp only[ot,e3,eV,eS];omega
    cases r with
    |zero =>
     have hk:cM P T (OY P T cx) (fun b=>S.own 0 b/\¬hand b) a' w:=xP;obtain⟨gd,S',x',ops,r1,r2,r3,r4⟩:=h.spawn (sl:=sl) hT aa xB hh (Jc w (dc.refl w) (hT.idle S.j w0 w (fun a ha=>h.Cu.idle S.j a (ag _) ha) h.Cu.Cu (h.idle0 S.j aa))) hd (tag':=.kd) (y':=.inl (OY P T cx,⟨a',fun b=>S.own 0 b/\¬hand b,w⟩)) (ji.mk (tag:=.kd) an hk rfl) ⟨aa,rfl⟩ (VL .kd trivial rfl an);exact⟨gd,w,S',_,x',.kd,a',_,st,sm,ops,r1,r4,less S' .kd x' _ r2 r3 (by simp only[phi];omega)⟩
    |succ r =>
     have hk:cM P T (JS P T V ek (T.n-(r+1)) (iC P T V ek cx r)) (fun b=>S.own 0 b/\¬hand b) a' w:=xP;obtain⟨gd,S',x',ops,r1,r2,r3,r4⟩:=h.spawn (sl:=sl) hT aa xB hh (Jc w (dc.refl w) (hT.idle S.j w0 w (fun a ha=>h.Cu.idle S.j a (ag _) ha) h.Cu.Cu (h.idle0 S.j aa))) hd (tag':=.sp r 5) (y':=.inl (JS P T V ek (T.n-(r+1)) (iC P T V ek cx r),⟨a',fun b=>S.own 0 b/\¬hand b,w⟩)) (ji.mk (tag:=.sp r 5) an hk (by simp[jI])) ⟨aa,aa,.inl ⟨rfl,rfl⟩⟩ (VL (.sp r 5) trivial rfl an);exact⟨gd,w,S',_,x',.sp r 5,a',_,st,sm,ops,r1,r4,less S' (.sp r 5) x' _ r2 r3 (by simp only[phi];omega)⟩
  |kd =>
   simp only[lK] at qJ;obtain⟨_,a',hgo,hk⟩:=dW;have kY:cM P T (OX P T cx Fin) (S.own 0) a' w:=(hk.mono VK).trans;exact .inr (book hgo (.refl T.Wg w) nU bk_dis (ji.mk (tag:=.w1) an kY rfl) ⟨qJ.1,by rw[qJ.2];rfl⟩ (jw.reopen trivial trivial rfl an) (.inl (by simp only[phi];omega)))
  |w1 =>
   simp only[lK] at qJ;obtain⟨_,gY⟩:=dW;obtain⟨ho,e1,e2,_⟩:=jw.open_inv trivial;rw[e1,e2] at nU;obtain⟨a',hgo,h0,cV⟩:=gY (Vc S.j D) aa (by simpa[pend] using nU);have JZ:WgAt T.ty T.Wg w (((Vc S.j D:Nat):Int)*KK) 0:=by simpa[pend] using nU
   by_cases hv:Vc S.j D=0
   ·refine .inr (book hgo (.refl T.Wg w) (by rw[hv] at JZ;simpa using JZ) bk_rd (ji.mk (tag:=.ke) an (h0 hv) rfl) ⟨qJ.1,by rw[qJ.2];simp[deafBehind,Go.ConcR.rd]⟩ (.fin trivial (allQuit_of ho hv)) (.inl (by simp only[phi];omega)))
   ·have:=Mode.opn (j:=S.j) (D:=D) (tag:=.w2 (Vc S.j D)) trivial ho (fun vs e=>by cases e;omega);refine .inr (book hgo (.refl T.Wg w) JZ bk_rd (ji.mk (tag:=.w2 (Vc S.j D)) an (cV hv) rfl) ⟨qJ.1,by rw[qJ.2];simp[deafBehind,Go.ConcR.rd]⟩ (by simpa[pend] using this) (.inl (by simp only[phi];omega)))
  |w2 vs =>
   simp only[lK] at qJ;obtain⟨_,gY⟩:=dW;obtain⟨ho,e1,e2,Nk⟩:=jw.open_inv trivial;have Nk:=Nk vs rfl;rw[e1,e2] at nU;have JZ:WgAt T.ty T.Wg w (((Vc S.j D:Nat):Int)*KK) 0:=by simpa[pend] using nU
   obtain⟨hit,Xo⟩:=gY (Vc S.j D) aa JZ;by_cases hv:Vc S.j D=vs
   ·obtain⟨a',hgo,hk⟩:=hit hv;exact .inr (book hgo (aside_setCell w (stA T.Wg) _) (JZ.setSt _) bk_rw (ji.mk (tag:=.w3) an hk rfl) ⟨qJ.1,by rw[qJ.2];simp[deafBehind,Go.ConcR.rd,Go.ConcR.wr]⟩ (.reg trivial ho aa) (.inl (by simp only[phi];omega)))
   ·obtain⟨a',hgo,hk⟩:=Xo hv;have kY:cM P T (OX P T cx Fin) (S.own 0) a' w:=(hk.mono VK).trans;have:=Mode.opn (j:=S.j) (D:=D) (tag:=.w1) trivial ho (fun vs e=>by cases e);exact .inr (book hgo (.refl T.Wg w) JZ bk_rd (ji.mk (tag:=.w1) an kY rfl) ⟨qJ.1,by rw[qJ.2];simp[deafBehind,Go.ConcR.rd]⟩ (by simpa[pend] using this) (.inl (by simp only[phi];omega)))
  |w3 =>
   simp only[lK] at qJ;obtain⟨_,Tf,Nl,mW⟩:=dW;have blocks:∀sm',sm'=0->WgAt T.ty T.Wg w st sm'->Go.ConcN.Mode S.j D .blk st sm'->∃gd w' S' D' x' tag' a' y' st' sm' ops,runT P (crowd gs w sl) 0=(.next (crowd gd w' sl),ops)/\fJ P T V ek cx Fin t0 w0 gd w' (t++ops) S' D' x' tag' a' y' st' sm'/\LM P T S S' D D' .w3 tag' x x' y y':=by
    intro sm' e hw hm;subst e;refine book (Nl ⟨_,hw⟩) (.refl T.Wg w) hw an (tag':=.blk) (y':=.inr 0) ⟨a,rfl,n9,rfl⟩ ⟨qJ.1,by rw[qJ.2];rfl⟩ hm (.inr ⟨rfl,?_⟩);rw[hy];exact trivial
   cases jw with
   |opn h1 _ _=>exact h1.elim
   |reg h1 h2 h3=>exact .inr (blocks _ rfl nU (.reg trivial h2 h3))
   |last L h1 h2 h3 h4=>exact .inr (blocks _ rfl nU (.last L trivial h2 h3 h4))
   |sema h2 =>
    obtain⟨a',hgo,hk⟩:=mW nU;exact .inr (book hgo (aside_setCell w (smA T.Wg) _) (nU.setSm 0) bk_sem (ji.mk (tag:=.w4) an hk rfl) ⟨qJ.1,by rw[qJ.2];simp[deafBehind,semEvents]⟩ (.fin trivial h2) (.inl (by simp only[phi];omega)))
   |fin h1 _=>exact h1.elim
  |w4 =>
   simp only[lK] at qJ;obtain⟨_,gY⟩:=dW;obtain⟨hq,e1,e2⟩:=jw.fin_inv trivial;rw[e1,e2] at nU;obtain⟨a',hgo,hk⟩:=gY nU;exact .inr (book hgo (.refl T.Wg w) nU bk_rd (ji.mk (tag:=.ke) an hk rfl) ⟨qJ.1,by rw[qJ.2];simp[deafBehind,Go.ConcR.rd]⟩ (.fin trivial hq) (.inl (by simp only[phi];omega)))
  |ke =>
   simp only[lK] at qJ;obtain⟨_,a',hgo,hk⟩:=dW;obtain⟨hq,e1,e2⟩:=jw.fin_inv trivial;rw[e1,e2] at nU;exact .inr (book hgo (.refl T.Wg w) nU bk_en (ji.mk (tag:=.acq) an hk rfl) ⟨qJ.1,by rw[qJ.2];rfl⟩ (.fin trivial hq) (.inl (by simp only[phi];omega)))
  |acq =>
   obtain⟨_,a',hgo,hk⟩:=dW;exact .inl ⟨rfl,a',hgo,hk⟩
 ·
  rcases hsr.look with hs|⟨_,ki⟩
  ·exact absurd hs n9
  obtain⟨a',w',es,hgo,Jb,iH,hk⟩:=ki w (dc.refl w);have old:∀b,b<T.H0->w'.heap[b]?=w.heap[b]?:=fun b hb=>Jb.rest b (by have:=h.h0;omega) (fun mo=>by have:=LI b mo;omega);obtain⟨gd,r1,r2,r3⟩:=h.main (sl:=sl) hT hV sf hgo (o':=grow (S.own 0) w w') (tag':=tag) (y':=.inl (jI P T V ek cx Fin tag,⟨a',grow (S.own 0) w w',w'⟩)) (st':=st) (sm':=sm) (fun _ hb=>.inl hb) (fun _ hb=>hb) (GZ iH) Jb.size
   (fun k hk=>Jb.A2 hT aa h.h0 LI (fun b hb=>⟨h.rQ.new _ b hb,h.lt _ b hb,fun mo=>by have:=h.rQ.one _ _ _ hb mo;omega⟩)) ⟨Jb.size,fun _ hb=>hb.elim,fun b h1 _ _ _=>old b h1,fQ (old _ hT.wg),Jb.os,Jb.output⟩
   (pG.A1 hT fun b hb=>old b (hT.sh b hb).1) (fun k hk=>old _ (hT.ch k hk).1) (ji.mk EK hk rfl) (by rw[deafBehind_still (fun e he=>⟨(iH e he).2.1,(iH e he).2.2.1⟩)];exact h.sN) (fun e he=>(iH e he).2.2.2 _) (h.wg.of_block (old _ hT.wg)) h.mode
  refine .inr ⟨gd,w',_,D,_,tag,a',_,st,sm,_,r1,r2,.inr ⟨rfl,r3,?_⟩⟩;rw[hy];exact⟨rfl,n9,w,es,dc.refl w,hgo,rfl⟩
end
end
end Go.Ren
