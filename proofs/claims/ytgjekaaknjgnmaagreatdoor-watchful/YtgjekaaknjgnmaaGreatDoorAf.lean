import Derived.Test.YtgjekaaknjgnmaaGreatDoorAe
import Derived.Conc.DeferLaws
import Derived.Conc.EntryLaws
import Derived.Conc.MarkLaws
import Derived.Conc.WgGenN3
set_option linter.all false
set_option maxHeartbeats 40000000
set_option maxRecDepth 200000
namespace Go.Ren
open Go.Conc Go.ConcN
section
open Go.ConcR (g_of_ofEvents)
structure lN(d:Nat)(S:Nat->Prop)(t:Trace):Prop where
 clean:∀said,¬Race said t
 known:∀i a,touchAt t i=some a->a.loc.isMemory=true->Knows t 0 i\/(sK S a.loc/\a.kind=.atomic)
 over:t.HandedOver
 deaf:Deaf t 0=d
def EvB(S:Nat->Prop)(e:Event):Prop:=∀x,(MemAct.ofEvent e).touch?=some x->sK S x.loc->x.kind≠.plain
section
variable {d:Nat} {S:Nat->Prop} {t u:Trace}
theorem lN.Pw(h:lN 0 S t):∃B,∀M,Past (sK S) (B+M) t:=by
 obtain⟨B,hB⟩:=@G0 (Go.ConcR.Payload.mk 0) t;exact⟨B,fun M=>⟨h.clean,h.known,h.over,h.deaf,fun op eu=>MemAct.low_mono (Nat.le_add_right _ _) (hB op eu)⟩⟩
theorem lN.of{B:Nat}(h:Past (sK S) B t):lN 0 S t:=⟨h.clean,h.known,h.over,h.hears⟩
theorem lN.own(h:lN d S t){fn:FuncId}{pos:String}{es:Array Event}(GJ:∀e∈es,EvB S e):lN (deafBehind d es) S (t++MemOp.ofEvents 0 fn pos es):=by
 have hu:∀op∈MemOp.ofEvents 0 fn pos es,op.g=0:=g_of_ofEvents;refine⟨fun said=>noRace_append (h.clean said) hu fun i a ha op eu b hb hc=>?_,fun i a ha hm=>?_,handedOver_app h.over fun op eu=>.inl (hu op eu),by rw[Deaf_own,h.deaf]⟩
 ·rcases h.known i a ha hc.2.1 with hk|⟨hsa,hka⟩
  ·exact hk
  ·obtain⟨e,he,rfl⟩:=Go.Conc.mem_ofEvents eu;have hkb:=GJ e he b hb (hc.1▸hsa);obtain⟨_,_,_,fy⟩:=hc;rw[hka] at fy;rcases fy with x|x|⟨_,x,_⟩
   ·cases x
   ·exact absurd x hkb
   ·cases x
 ·obtain⟨x,hx,Vz⟩:=touch_of ha;rcases getElem?_append_cases hx with⟨_,kB⟩|⟨_,hxu⟩
  ·exact(h.known i a (by rw[touchAt_of kB];exact Vz) hm).imp (·.app _) id
  ·have:=knows_own hx;rw[hu x hxu] at this;exact .inl this
theorem lN.mute(h:lN d S t){g:Nat}(hg:g≠0){fn:FuncId}{pos:String}{es:Array Event}(hm:∀e∈es,e.mute=true):lN d S (t++MemOp.ofEvents g fn pos es):=by
 have hu:∀op∈MemOp.ofEvents g fn pos es,op.g=g:=g_of_ofEvents;have hn:∀op∈MemOp.ofEvents g fn pos es,op.act.touch?=none:=fun op eu=>by obtain⟨e,he,rfl⟩:=Go.Conc.mem_ofEvents eu;exact touch_mute (hm e he)
 refine⟨fun said=>noRace_append (h.clean said) hu fun i a _ op eu b hb _=>(by rw[hn op eu] at hb;cases hb),fun i a ha hm=>?_,handedOver_app h.over fun op eu=>.inr (hn op eu),(Deaf_other t hg _ hu).trans h.deaf⟩;obtain⟨x,hx,Vz⟩:=touch_of ha;rcases getElem?_append_cases hx with⟨_,kB⟩|⟨_,hxu⟩
 ·exact(h.known i a (by rw[touchAt_of kB];exact Vz) hm).imp (·.app _) id
 ·rw[hn x hxu] at Vz;cases Vz
end
def BX(P:Program)(Fin:bH)(d:Nat)(S:Nat->Prop)(g:aS)(w:ae):Prop :=
 ∀(gs:Array aS) (sl:Option (Nat×Nat)) (t:Trace) (q:Nat->Nat),gs[0]?=some g->Leavers P t gs q->lN d S t->(∀b,w.heap.size<=b->¬S b) ->
  ∃N gd w' qm t' q' S' g',runNT P N (crowd gs w sl) t=(.next (crowd gd w' qm),t')/\gd[0]?=some g'/\Leavers P t' gd q'/\lN 0 S' t'/\(∀b,w'.heap.size<=b->¬S' b)/\Fin S' g' w'
section
variable {P:Program} {Fin:bH} {d:Nat} {S:Nat->Prop} {g:aS} {w:ae}
theorem BX.fin(h:Fin S g w):BX P Fin 0 S g w:=fun gs sl t q h0 hL hP hS=>⟨0,gs,w,sl,t,q,S,g,rfl,h0,hL,hP,hS,h⟩
theorem BX.step(hs:g.status=.running)(h:∀w1,AtRel w w1->∃g' w' es,stepG P true g w1=.go g' w' es/\(∀e∈es,EvB S e)/\w1.heap.size<=w'.heap.size/\BX P Fin (deafBehind d es) S g' w'):BX P Fin d S g w:=by
 have key:∀(M:Nat) (gs:Array aS) (w2:ae) (sl:Option (Nat×Nat)) (t:Trace) (q:Nat->Nat),sumTo gs.size q<M->AtRel w w2->gs[0]?=some g->Leavers P t gs q->lN d S t->(∀b,w2.heap.size<=b->¬S b) ->
   ∃N gd w' qm t' q' S' g',runNT P N (crowd gs w2 sl) t=(.next (crowd gd w' qm),t')/\gd[0]?=some g'/\Leavers P t' gd q'/\lN 0 S' t'/\(∀b,w'.heap.size<=b->¬S' b)/\Fin S' g' w':=by
  intro M
  induction M with
  |zero=>intro gs w2 sl t q hM;exact absurd hM (dE _)
  |succ M ih =>
   intro gs w2 sl t q hM hr h0 hL hP hSh;have Vy:∀x∈gs,awake x:=by
    intro x hx;obtain⟨i,hi,rfl⟩:=Array.mem_iff_getElem.1 hx;rcases aZ i with rfl|nS
    ·have:gs[0]=g:=by simpa[Array.getElem?_eq_getElem hi] using h0
     rw[this];exact awake_of (.inl hs)
    ·exact awake_of ((hL.old i _ nS (aG hi)).status.elim .inl fun x=>.inr (.inr x))
   obtain⟨i,x,dd,qm,hi,hx,dW⟩:=crowd_pick (P:=P) (w:=w2) (sl:=sl) Vy ⟨0,g,h0,hs⟩;rcases aZ i with rfl|nS
   ·obtain rfl:x=g:=by rw[h0] at hi;exact(aK hi).symm
    obtain⟨g',w',es,e1,e2,e3,e4⟩:=h (w2.at dd) (atRel_trans _ _ _ hr ⟨dd,rfl⟩);have sL:=runT_crowd_go (P:=P) (sl:=qm) (i:=0) hi (show stepG P (0==0) x (w2.at dd)=_ from e1);have bZ:0<gs.size:=(Array.getElem?_eq_some_iff.1 h0).1;obtain⟨N,gd,w3,sl3,t3,q3,S3,g3,k1,k2⟩:=e4 ((gs.map (woken P x g' w')).setIfInBounds 0 g') qm (t++MemOp.ofEvents 0 x.frame.fn x.frame.place es) q (by simp[bZ])
     ⟨fun j y hj hy=>by
      have cV:0≠j:=aa;rw[aJ cV,br] at hy;obtain⟨z,hz,rfl⟩:=Option.map_eq_some_iff.1 hy;have hq:=hL.old j z hj hz;rw[woken_quitsD hq,Deaf_other t aa _ g_of_ofEvents];exact hq,fun j hj=>by
      rw[Deaf_other t (g':=0) (by simp at hj;omega) _ g_of_ofEvents];exact hL.above j (by simpa using hj)⟩
     (hP.own e2) (fun b hb=>hSh b (aR e3 hb))
    exact⟨N+1,gd,w3,sl3,t3,q3,S3,g3,by simp only[runNT,dW,sL];exact k1,k2⟩
   ·have hq:=hL.old i x nS hi;have Z7:(i==0)=false:=eR;have bZ:i<gs.size:=(Array.getElem?_eq_some_iff.1 hi).1;cases Xa:q i with
    |zero=>rw[Xa] at hq;rw[hq.1] at hx;cases hx
    |succ k =>
     rw[Xa] at hq;rcases hq with⟨hf,_⟩|⟨_,g',es,hm,Xb,EN⟩
     ·rw[hf] at hx;cases hx
     have sL:=runT_crowd_go (P:=P) (sl:=qm) (i:=i) hi (by rw[Z7];exact Xb (w2.at dd));have ft:((gs.map (woken P x g' (w2.at dd))).setIfInBounds i g').size=gs.size:=an;have aep:sumTo gs.size (upd q i k)+(k+1)=sumTo gs.size q+k:=by
      have:=sumTo_upd q k id bZ;simpa[Xa] using this
     obtain⟨N,gd,w3,sl3,t3,q3,S3,g3,k1,k2⟩:=ih ((gs.map (woken P x g' (w2.at dd))).setIfInBounds i g') (w2.at dd) qm (t++MemOp.ofEvents i x.frame.fn x.frame.place es) (upd q i k) (by rw[ft];omega) (atRel_trans _ _ _ hr ⟨dd,rfl⟩)
      (by
       have cV:i≠0:=aa;rw[aJ cV,br,h0];simp[woken_run hs])
      ⟨fun j y hj hy=>by
       by_cases uI:i=j
       ·subst uI;rw[bR (by simpa using bZ)] at hy;obtain rfl:=aK hy;rw[upd_same,Deaf_own];exact EN
       ·rw[aJ uI,br] at hy;obtain⟨z,hz,rfl⟩:=Option.map_eq_some_iff.1 hy;have Z8:=hL.old j z hj hz;rw[woken_quitsD Z8,upd_ne q k (bc uI),Deaf_other t uI _ g_of_ofEvents];exact Z8,fun j hj=>by
       rw[Deaf_other t (g':=i) (by simp at hj;omega) _ g_of_ofEvents];exact hL.above j (by simpa using hj)⟩
      (hP.mute aa hm) hSh
     exact⟨N+1,gd,w3,sl3,t3,q3,S3,g3,by simp only[runNT,dW,sL];exact k1,k2⟩
 intro gs sl t q h0 hL hP hSh;exact key (sumTo gs.size q+1) gs w sl t q (bz _) (atRel_refl w) h0 hL hP hSh
theorem BX.mono{aaE:bH}(h:BX P Fin d S g w)(hF:∀S g w,Fin S g w->aaE S g w):BX P aaE d S g w:=by
 intro gs sl t q h0 hL hP hS;obtain⟨N,gd,w',qm,t',q',S',g',k1,k2,k3,k4,k5,k6⟩:=h gs sl t q h0 hL hP hS;exact⟨N,gd,w',qm,t',q',S',g',k1,k2,k3,k4,k5,hF _ _ _ k6⟩
def zF(P:Program)(Fin:bH)(d:Nat)(S:Nat->Prop)(g:aS)(w:ae):Prop:=∀w1,AtRel w w1->BX P Fin d S g w1
theorem zF.bx(h:zF P Fin d S g w):BX P Fin d S g w:=h w (atRel_refl w)
theorem zF.fin(h:∀w1,AtRel w w1->Fin S g w1):zF P Fin 0 S g w:=fun w1 hw=>BX.fin (h w1 hw)
theorem zF.rely{w1:ae}(h:zF P Fin d S g w)(hr:AtRel w w1):zF P Fin d S g w1:=fun w2 h2=>h w2 (atRel_trans _ _ _ hr h2)
theorem zF.step(hs:g.status=.running)(h:∀w1,AtRel w w1->∃g' w' es,stepG P true g w1=.go g' w' es/\(∀e∈es,EvB S e)/\w1.heap.size<=w'.heap.size/\zF P Fin (deafBehind d es) S g' w'):zF P Fin d S g w:=by
 intro w1 hw;refine BX.step hs fun w2 zP=>?_;obtain⟨g',w',es,e1,e2,e3,e4⟩:=h w2 (atRel_trans _ _ _ hw zP);exact⟨g',w',es,e1,e2,e3,e4.bx⟩
def Qi(P:Program)(Post:Value->ae->Prop)(_:Nat->Prop)(g:aS)(w:ae):Prop:=∀w1,AtRel w w1->g.status=.running/\∃v,stepG P true g w1=.ended (.done v) w1 #[]/\Post v w1
theorem BX.call{L:Nat->Bool}{Gm:Nat}(cH:qf P L Gm){zS:FuncId}{Q:Value->ae->Prop}{c:Frame}{cs:List Frame}{F:iZ}{x:aS×ae}(EM:Acc (Nx P (kg P zS Q)) x){gr:aS}(hK:∀r,F.K r->¬S (F.φ r))(MY:vZ P L Gm (kg P zS Q) (c::cs) F (x.1,WT x.2 w.tape w.drawn) gr w)(PU:∀v v' F' aI w',Q v aI->(∀f,F'.has f->v'=val f v)->WR F' aI w'->eJ F F' x.2 w aI w'->(∀r,F'.K r->¬S (F'.φ r))->BX P Fin 0 S (G (c.finish v') cs) w'):BX P Fin 0 S gr w:=by
 intro gs sl t q h0 hL hP hS;obtain⟨B,hB⟩:=hP.Pw;obtain⟨N,gd,w',aI,qm,t',q',B',F',v,v',k1,k2,k3,k4,k5,k6,k7,k8,k9,GM,k11,Z5,Z6⟩:=GL cH x EM (sumTo gs.size q+1) (B+w.heap.size) gs gr w sl t q F (bz _) h0 hL aa (hB w.heap.size) hK hS MY;obtain⟨N2,Zh,w2,To,t2,q2,S2,g2,l1,l2⟩:=PU v v' F' aI w' k7 k8 k9 GM Z5 gd qm t' q' k3 k4 (lN.of k6) Z6;exact⟨N+N2,Zh,w2,To,t2,q2,S2,g2,by rw[runNT_add,k1];exact l1,l2⟩
end
end
def wC(Fin:bH)(b:Nat):Prop:=∀S g w,Fin S g w->¬S b
def DW(Fin:bH)(o:aM)(w:ae):Nat->Prop:=fun b=>b<w.heap.size/\¬o b/\¬wC Fin b
def Hd(Fin:bH)(w0:ae):bH:=fun S g w=>Fin S g w/\w.os=w0.os/\w.output=w0.output
theorem EW{Fin:bH}{w w':ae}(h:w'.os=w.os/\w'.output=w.output):Hd Fin w'=Hd Fin w:=by
 funext S g w1;simp only[Hd,h.1,h.2]
def sU(Fin:bH)(w:ae):Prop:=∀b,wC Fin b->b<w.heap.size
theorem sU.up{Fin:bH}{w w':ae}(h:sU Fin w)(hs:w.heap.size<=w'.heap.size):sU Fin w':=fun b hb=>bm (h b hb) hs
theorem sU.at_{Fin:bH}{w w':ae}(h:sU Fin w)(hs:AtRel w w'):sU Fin w':=by obtain⟨d,rfl⟩:=hs;exact h
theorem sU.back{Fin:bH}{w w':ae}(h:sU Fin w')(hs:AtRel w w'):sU Fin w:=by obtain⟨d,rfl⟩:=hs;exact h
abbrev XB(P:Program)(Fin:bH)(d:Nat):aM->aS->ae->Prop:=fun o g w=>sU Fin w->zF P (Hd Fin w) d (DW Fin o w) g w
def TB(o:aM)(e:Event):Prop:=∀x,(MemAct.ofEvent e).touch?=some x->∀a,x.loc=.cell a->x.kind=.plain->o a.block
def Xu(Fin:bH)(o:aM)(e:Event):Prop:=TB (fun b=>o b\/wC Fin b) e
theorem TB.Qj{Fin:bH}{o:aM}{e:Event}(h:TB o e):Xu Fin o e:=fun x hx a ha hk=>.inl (h x hx a ha hk)
def GuO(Fin:bH)(o:aM)(w w':ae)(es:Array Event):Prop:=(∀e∈es,Xu Fin (grow o w w') e/\e.loc≠.mark .disable/\e.loc≠.mark .enable)/\w.heap.size<=w'.heap.size/\w'.os=w.os/\w'.output=w.output
section
variable {P:Program} {Fin:bH} {d:Nat} {o:aM} {g:aS} {w w1 w':ae}
theorem Be(h:w1.heap.size<=w'.heap.size):DW Fin (grow o w1 w') w'=DW Fin o w1:=by
 funext b;simp only[DW,grow,eq_iff_iff];constructor
 ·rintro⟨h1,h2,h5⟩;exact⟨eP fun h3=>h2 (.inr ⟨h3,h1⟩),fun h3=>h2 (.inl h3),h5⟩
 ·rintro⟨h1,h2,h5⟩;exact⟨aa,fun h3=>h3.elim h2 fun h4=>aa,h5⟩
theorem J7(h:AtRel w w1):DW Fin o w1=DW Fin o w:=by obtain⟨d,rfl⟩:=h;rfl
theorem Xu.evB{e:Event}(h:Xu Fin (grow o w1 w') e)(hs:w1.heap.size<=w'.heap.size):EvB (DW Fin o w1) e:=by
 intro x hx se hk;rw[<- Be (o:=o) hs] at se;cases hl:x.loc with
 |cell a=>rw[hl] at se;exact(h x hx a hl hk).elim se.2.1 se.2.2
 |_=>rw[hl] at se;exact se
theorem bJ:fg P true (fun _=>AtRel) (GuO Fin) (XB P Fin d) where
 step o g w hs h:=fun Nt=>zF.step hs fun w1 hw=>by
  obtain⟨g',w',es,e1,e2,e3⟩:=h w1 hw;refine⟨g',w',es,e1,fun e he=>?_,e2.2.1,?_⟩
  ·rw[<- J7 hw];exact(e2.1 e he).1.evB e2.2.1
  ·rw[deafBehind_still (fun e he=>(e2.1 e he).2),<- J7 hw];have:=e3 ((Nt.at_ hw).up e2.2.1);rw[Be e2.2.1,EW e2.2.2] at this;obtain⟨n,rfl⟩:=hw;exact this
 rely o g w w1 h hr:=by
  intro Nt;show zF P (Hd Fin w1) d (DW Fin o w1) g w1;rw[J7 hr];have h':=zF.rely (h (Nt.back hr)) hr;obtain⟨n,rfl⟩:=hr;exact h'
 idle o w:=⟨an,ag _,rfl,rfl⟩
theorem XB.mark(hs:g.status=.running){g':aS}{d':Nat}{es:Array Event}(GJ:∀e∈es,∃m,e.loc=.mark m)(hd:deafBehind d es=d')(h:∀w1,stepG P true g w1=.go g' w1 es)(hx:XB P Fin d' o g' w):XB P Fin d o g w:=by
 intro Nt;refine zF.step hs fun w1 hw=>⟨g',w1,es,h w1,fun e he=>?_,ag _,?_⟩
 ·obtain⟨m,hm⟩:=GJ e he;obtain⟨loc,wt,sy⟩:=e;subst hm;intro x hx _;cases m<;>simp only[MemAct.ofEvent,MemAct.touch?,Option.some.injEq,reduceCtorEq] at hx;all_goals (subst hx;simp)
 ·rw[hd];exact zF.rely (hx Nt) hw
end
def zV:Rn:=⟨id,id,id,id⟩
theorem zX:∀v:Value,val zV v=v:=by
 intro v;have hl:∀l:List Value,(∀x∈l,val zV x=x)->l.map (val zV)=l:=fun l h=>by
  conv=>rhs;rw[<- List.map_id l]
  exact cU fun x hx=>h x hx
 have ha:∀a:Array Value,(∀x∈a,val zV x=x)->a.map (val zV)=a:=fun a h=>by
  apply Array.ext';rw[bX];exact hl a.toList fun x hx=>h x (by simpa using hx)
 induction v using Value.rec (motive_2:=fun a=>a.map (val zV)=a) (motive_3:=fun l=>l.map (val zV)=l)
 case pointer a=>cases a<;>simp[val,addr,zV]
 case slice a l c=>cases a<;>simp[val,addr,zV]
 case map r=>cases r<;>simp[val,zV]
 case chan r=>cases r<;>simp[val,zV]
 case func fn a b h1 h2=>rw[val,h1,h2];congr 1;cases fn<;>rfl
 case iface t v h=>rw[val,h]
 case agg a h=>rw[val,h]
 case tuple a h=>rw[val,h]
 case mk l h=>exact ha ⟨l⟩ (fun x hx=>by
  have kB:x∈l:=by simpa using hx
  have:∀(l:List Value),l.map (val zV)=l->∀x∈l,val zV x=x:=by
   intro l
   induction l with
   |nil=>intro _ x hx;cases hx
   |cons y l ih =>
    intro h x hx;simp only[List.map_cons,List.cons.injEq] at h;rcases List.mem_cons.1 hx with rfl|hx
    ·exact h.1
    ·exact ih h.2 x hx
  exact this l h x kB)
 case nil=>rfl
 case cons x l h1 h2=>rw[bU,h1,h2]
 all_goals simp[val]
theorem LN(x:Obj):obj zV x=x:=by
 have e:(val zV)=id:=funext zX;have e2:(entry zV)=id:=funext fun x=>by simp[entry,zX]
 cases x<;>first|(simp[obj,e,e2];done)|(simp[obj,addr,zV];done)
def lR(P:Program)(L:Nat->Bool)(o:aM):iZ:=⟨o,id,fun n=>L n=true,P.globals.size⟩
structure bE(P:Program)(L:Nat->Bool)(o:aM)(w:ae):Prop where
 shut:∀b,o b->∃x,w.heap[b]?=some x/\eF x=false/\∀f,(lR P L o).has f->obj f x=x
 jF:∀b,b<P.globals.size->o b
 size:P.globals.size<=w.heap.size
section
variable {P:Program} {L:Nat->Bool} {o:aM} {w:ae}
theorem bE.lt(h:bE P L o w){b:Nat}(hb:o b):b<w.heap.size:=by
 obtain⟨x,hx,_⟩:=h.shut b hb;exact(Array.getElem?_eq_some_iff.1 hx).1
theorem EX(h:∀b,b<P.globals.size->o b):Dp (lR P L o):=⟨fun r _ hg=>hg,.inl fun r hr=>⟨h r hr,rfl⟩⟩
theorem LO:(lR P L o).has zV:=⟨fun _ _ h=>h,fun _ _=>rfl,fun _ _=>rfl,fun _=>cG⟩
theorem Bf(o:aM):∃N:Nat->Bool,∀b,N b=true↔o b:=by
 classical
 exact⟨fun b=>decide (o b),an⟩
theorem bE.wr(h:bE P L o w){N:Nat->Bool}(hN:∀b,N b=true↔o b):WR (lR P L o) (iz N w) w where
 here r hr:=by rw[kC];exact h.lt hr
 there r hr:=h.lt hr
 inj r s _ _ e:=e
 sr r hr f hf:=by
  obtain⟨x,hx,_,hc⟩:=h.shut r hr;rw[lg N w ((hN r).2 hr)];show w.heap[r]?=_;rw[hx,cR,hc f hf]
 OT r hr x hx:=by
  obtain⟨y,hy,hp,_⟩:=h.shut r hr;rw[lg N w ((hN r).2 hr),hy] at hx;cases hx;exact hp
 os:=rfl
 output:=rfl
 tape:=rfl
 drawn:=rfl
 zu:=EX h.jF
 Eu:=h.size
 CC:=by rw[kC];exact h.size
theorem bE.Qk(h:bE P L o w){N:Nat->Bool}(hN:∀b,N b=true↔o b):fe (iz N w):=by
 intro r x hx;by_cases hr:N r=true
 ·obtain⟨y,hy,hp,_⟩:=h.shut r ((hN r).1 hr);rw[lg N w hr,hy] at hx;cases hx;exact hp
 ·have:(iz N w).heap[r]?=(w.heap[r]?).map fun _=>.cells #[] 0:=by
   simp only[iz,Array.getElem?_mapIdx];cases w.heap[r]?<;>simp[hr]
  rw[this] at hx;cases hw:w.heap[r]? with
  |none=>rw[hw] at hx;cases hx
  |some y=>rw[hw] at hx;cases hx;rfl
theorem bE.of_heap(h:bE P L o w){w1:ae}(e:w1.heap=w.heap):bE P L o w1:=⟨fun b hb=>by rw[e];exact h.shut b hb,h.jF,by rw[e];exact h.size⟩
structure kS(P:Program)(L:Nat->Bool)(o:aM)(w w' aI:ae)(v:Value):Prop where
 ay:bE P L (grow o w w') w'
 same:∀b,grow o w w' b->w'.heap[b]?=aI.heap[b]?
 rest:∀b,b<w.heap.size->¬o b->w'.heap[b]?=w.heap[b]?
 size:w'.heap.size=aI.heap.size
 gO:w.heap.size<=w'.heap.size
 val:∀f,(lR P L (grow o w w')).has f->Ren.val f v=v
 os:w'.os=w.os
 output:w'.output=w.output
variable {Fin:bH}
theorem re(cH:qf P L P.globals.size){f:FuncId}{vs:Array Value}(hL:L f=true)(hF:bE P L o w)(sS:∀g,(lR P L o).has g->vs.map (val g)=vs){R:ae->Value->ae->Prop}(hR:∀wl,JK (R wl))(hRW:∀wl τ d v w',R (WT wl τ d) v w'->R wl v w')(hC:∀wl,wl.heap.size=w.heap.size->(∀b,o b->wl.heap[b]?=w.heap[b]?)->Calls P f vs wl fun e w'=>∃v,e=.returned v/\R wl v w'){Post:Value->aM->ae->Prop}(h:∀wl v aI w',wl.heap.size=w.heap.size->(∀b,o b->wl.heap[b]?=w.heap[b]?)->R wl v aI->kS P L o w w' aI v->Post v (grow o w w') w'):bp P (XB P Fin 0) f vs o w Post:=by
 intro c cs hc;intro Nt;show zF P (Hd Fin w) 0 (DW Fin o w) _ w;intro w1 nT;obtain⟨dd,rfl⟩:=nT;have mw:bE P L o (w.at dd):=hF.of_heap rfl;obtain⟨N,hN⟩:=Bf o;have hW:=mw.wr hN;have I7:PF P L P.globals.size (lR P L o):=⟨fun r hr=>⟨hF.jF r hr,rfl⟩,rfl,rfl,EX hF.jF⟩;have CL:∀g,(lR P L o).has g->Frame.enter P f vs .normal=frame g (Frame.enter P f vs .normal):=fun g hg=>by
  have:=sS g hg;simp only[frame,Frame.enter,Array.map_append,this,Array.map_replicate,kM]
 have PY:Inv P L P.globals.size [fS] (G (Frame.enter P f vs .normal) [fS]) (iz N (w.at dd)) :=
  ⟨lR P L o,_,[],_,[],w.at dd,rfl,sH cH hL _,an,fun g hg=>⟨CL g hg,rfl⟩,hW,(mw.Qk hN),I7⟩
 have aE:∀b,o b->(iz N (w.at dd)).heap[b]?=w.heap[b]?:=fun b hb=>lg N (w.at dd) ((hN b).2 hb);have ft:(iz N (w.at dd)).heap.size=w.heap.size:=kC _ _;have uK:Good P (kg P f (R (iz N (w.at dd)))) (G (Frame.enter P f vs .normal) [fS]) (iz N (w.at dd)):=by
  refine uH cH (hR _) PY fun τ d=>?_;refine(hC (WT (iz N (w.at dd)) τ d) ft aE).mono ?_;rintro e w' ⟨v,rfl,hv⟩;exact⟨v,rfl,hRW _ _ _ _ _ hv⟩
 have EM:=GI cH (zT f _) PY uK;refine BX.call cH (F:=lR P L o) EM (fun r hr hs=>hs.2.1 hr) ⟨_,[],_,[],rfl,rfl,sH cH hL _,an,fun g hg=>⟨CL g hg,rfl⟩,hW,(mw.Qk hN),I7,uK⟩ fun v v' F' aI w' hQ hv Hb hm hS=>?_;have nt:=hm.same ft;have LP:∀r,F'.K r->F'.φ r=r:=fun r hr=>by
  rcases nt.2 r hr with h1|h1
  ·exact(hm.φ r h1)
  ·exact h1
 have CS:w.heap.size<=w'.heap.size:=hm.size;have hK:F'.K=grow o w w':=by
  funext r;simp only[grow,eq_iff_iff];constructor
  ·intro hr;rcases hm.vb r hr with h1|h1
   ·exact .inl h1
   ·refine .inr ⟨by rw[<- ft];exact h1.1,?_⟩;have:=Hb.here r hr;rw[<- nt.1];exact this
  ·rintro(h1|h1)
   ·exact hm.K r h1
   ·obtain⟨r',a,b⟩:=hm.mine r h1.1 h1.2;rw[LP r' a] at b;exact b▸a
 have hG:F'.G=P.globals.size:=hm.G;have hLL:F'.L=fun n=>L n=true:=hm.L;have Bg:∀f,(lR P L (grow o w w')).has f->F'.has f:=fun f hf=>⟨hf.inj,fun r hr=>by rw[LP r hr];exact hf.at_ r (hK▸hr),fun n hn=>hf.fn n (by rw[hLL] at hn;exact hn),by rw[hG];exact hf.jF⟩;have hid:=Bg zV LO;have vD:v'=v:=(hv zV hid).trans (zX v);subst vD;have Bh:∀b,grow o w w' b->w'.heap[b]?=aI.heap[b]?:=fun b hb=>by
  have mo:F'.K b:=hK▸hb;have:=Hb.sr b mo zV hid;rw[LP b mo] at this;rw[this];cases aI.heap[b]?<;>simp[LN]
 have Ql:kS P L o w w' aI v':=by
  refine⟨⟨fun b hb=>?_,fun b hb=>.inl (hF.jF b hb),aR hF.size CS⟩,Bh,fun b h1 h2=>?_,nt.1.symm,CS,fun f hf=>(hv f (Bg f hf)).symm,Hb.os.trans (hm.Pb.trans rfl),Hb.output.trans (hm.Ao.trans rfl)⟩
  ·have mo:F'.K b:=hK▸hb;have bZ:=Hb.here b mo;refine⟨aI.heap[b],by rw[Bh b hb];exact aG bZ,Hb.OT b mo _ (aG bZ),fun f hf=>?_⟩;have:=Hb.sr b mo f (Bg f hf);rw[LP b mo,Bh b hb,aG bZ,cR] at this;exact(aK this).symm
  ·refine hm.rest b fun r hr e=>?_;rw[LP r hr] at e;subst e;have:grow o w w' r:=hK▸hr;rcases this with h3|h3
   ·exact h2 h3
   ·omega
 have:=hc v' _ w' (h _ v' aI w' ft aE hQ Ql);have hx:zF P (Hd Fin w') 0 (DW Fin (grow o w w') w') (G (c.finish v') cs) w':=this (Nt.up CS);rw[Be CS,EW ⟨Ql.os,Ql.output⟩] at hx;exact hx.bx
end
section
open Go.ConcN.Gen Go.RowKit Go.Conc.Lib Go.ConcR.Gen
open Go.ConcR (KK wgBlock WgAt stA smA rd wr Payload DC0)
variable [Payload] {L:WgLink}
theorem bF{T:cP}{o:Nat->Prop}{w0 w w1:ae}(h:dc T o w0 w/\WgLive T.ty T.Wg w)(r:dc T o w w1):dc T o w0 w1/\WgLive T.ty T.Wg w1:=⟨h.1.trans r,r.wg h.2⟩
theorem J8{T:cP}(hT:T.OK){o:Nat->Prop}(ho:∀b,o b->T.H0<=b){w0 w:ae}{st sm:Int}(h:dc T o w0 w)(hw:WgAt T.ty T.Wg w st sm)(v:Int):dc T o w0 (w.setCell (stA T.Wg) (.int .u64 v))/\WgLive T.ty T.Wg (w.setCell (stA T.Wg) (.int .u64 v)) :=
 ⟨h.trans (wj hT ho (aside_setCell w (stA T.Wg) _) ⟨_,_,hw.setSt v⟩),⟨_,_,hw.setSt v⟩⟩
theorem TC{T:cP}(hT:T.OK){o:Nat->Prop}(ho:∀b,o b->T.H0<=b){w0 w:ae}{st sm:Int}(h:dc T o w0 w)(hw:WgAt T.ty T.Wg w st sm)(v:Int):dc T o w0 (w.setCell (smA T.Wg) (.int .u32 v))/\WgLive T.ty T.Wg (w.setCell (smA T.Wg) (.int .u32 v)) :=
 ⟨h.trans (wj hT ho (aside_setCell w (smA T.Wg) _) ⟨_,_,hw.setSm v⟩),⟨_,_,hw.setSm v⟩⟩
theorem He{T:cP}{o:Nat->Prop}{a:Addr}(h:a.block=T.Wg):∀e,(e=(⟨.mark (.read a),false,true⟩:Event)\/e=(⟨.mark (.write a),false,true⟩:Event))->EvS T o e:=by
 rintro e (rfl|rfl)
 ·refine⟨fun b hb _=>?_,an,an,an⟩;simp only[MemAct.ofEvent,MemAct.touch?,Option.some.injEq] at hb;subst hb;exact .inl ⟨h,an⟩
 ·refine⟨fun b hb _=>?_,an,an,an⟩;simp only[MemAct.ofEvent,MemAct.touch?,Option.some.injEq] at hb;subst hb;exact .inl ⟨h,an⟩
section
variable {P:Program} {T:cP} {V:Nat->ae->Prop} {ek:Nat->(Nat->Prop)->ae->Prop} {cx Fin:dV} {Next:dV} {o:Nat->Prop} {j:Nat} {w0:ae}
 {Hf:Frame} {Hg:Act} {p6:Array Oper} {Hh:Nat} {pQ:List Nat} {qj:List Item} {cs:List Frame}
theorem aeQ(H:WgLib P L)(hT:T.OK)(ho:∀b,o b->T.H0<=b)(hG:∀w,dc T o w0 w->cM P T (SGo P T V ek j Next) o (G (Hf.at (Hg.put ((p6[Hh]?).bind (·.dst)) (.tuple #[])) (.inRegion p6 pQ::qj)) cs) w)(w:ae)(hF:dc T o w0 w/\WgLive T.ty T.Wg w):
  cM P T (JS P T V ek j Next) o (G ((base L.add).at ⟨#[.pointer (some ⟨T.Wg,0,none⟩),.int .i64 1,undef,undef,undef,undef,undef,undef,undef,undef,undef,undef,undef,undef,undef,undef,undef,undef,undef,undef,undef,undef,undef,undef,undef,undef,undef,undef,undef,undef,undef,undef,undef,undef,undef,undef,undef,undef,undef,undef,undef,undef,undef,undef,undef,undef,undef,undef,undef,undef,undef,undef,undef,undef,undef,undef,undef,undef,undef,undef,undef,undef,undef,undef,undef,undef,undef,undef,undef,undef,undef,undef,undef,undef,undef,undef,undef,undef,undef,undef,undef,undef,undef,undef,undef,undef,undef,undef,undef,undef,undef,undef,undef,undef,undef,undef,undef,undef,undef,undef,undef,undef,undef,undef,undef,undef,undef,undef,undef,undef,undef,undef,undef,undef,undef,undef,undef],[]⟩ [.code (body_add L)]) (Hf.at Hg (.inRegion p6 (Hh::pQ)::qj)::cs)) w:=by
 lib_facts
 simp only[body_add,addFn,Option.getD_some];refine cM.iT (n:=12) ?_
 u_c ax bF hF
 u_cond true bF hF
 u_c ax bF hF
 u_c ax bF hF
 u_reg bF hF
 u_op bF hF
 u_op bF hF
 u_c ak bF hF
 u_cond false bF hF
 u_c bY bF hF
 u_c ax bF hF
 u_reg bF hF
 refine bV (fun w₁ MU=>cM.stop fun akT aaF=>?_);replace hF:=bF (bF hF MU) aaF;clear MU aaF;refine⟨rfl,_,stepG_mark0 .disable an rfl rfl (by k_ne) rfl H.f_disable (x_disable_n L) (x_disable_b L) (x_disable_x L) (x_disable_f L),cM.iT (n:=40) ?_⟩;walk_nrm
 u_c ak bF hF
 u_reg bF hF
 u_defer bF hF
 u_c ak bF hF
 u_c ax bF hF
 u_reg bF hF
 u_op bF hF
 u_c ak bF hF
 u_c ax bF hF
 u_c ax bF hF
 u_reg bF hF
 u_bub bF hF
 u_c ak bF hF
 u_cond false bF hF
 u_c bY bF hF
 u_c ax bF hF
 u_reg bF hF
 iterate 6 u_op bF hF
 u_call H.f_uAdd (nm_uAdd L) uAddFn bF hF
 u_c ax bF hF
 u_reg bF hF
 u_op bF hF
 u_c ak bF hF
 u_c ax bF hF
 u_reg bF hF
 iterate 4 u_op bF hF
 refine bV (fun akU aaG=>cM.stop fun aeR aaH=>?_);replace hF:=bF (bF hF aaG) aaH;clear aaG aaH;refine⟨rfl,fun v hv hw=>?_⟩;rcases aZ v with rfl|hvp
 ·replace hw:WgAt T.ty T.Wg aeR 0 0:=by simpa using hw
  have z:(((0:Nat):Int)+1)*KK=KK:=an;rw[z];have e0:IntKind.u64.wrap (0+4294967296)=KK:=dh;refine⟨_,(stepG_add_atomic rfl rfl (by k_ne) rfl H.f_addU64 (x_addU64_n L) (x_addU64_b L) (x_addU64_x L) .u64 (x_addU64_f L) rfl rfl hw.cellSt (hw.thaw 0)).trans (by rw[e0];rfl),cM.iT (n:=60) ?_⟩;replace hF:=J8 hT ho hF.1 hw KK;clear hw;simp only[KK] at hF |-;walk_nrm
  u_op bF hF
  u_c ak bF hF
  u_c stepG_ret' bF hF
  u_leave1 H.f_uAdd bF hF
  u_op bF hF
  u_c ak bF hF
  u_c ax bF hF
  u_c ax bF hF
  u_reg bF hF
  iterate 4 u_op bF hF
  u_skip bF hF
  u_skip bF hF
  u_op bF hF
  u_c ak bF hF
  u_cond false bF hF
  u_c bY bF hF
  u_c ax bF hF
  u_reg bF hF
  iterate 4 u_op bF hF
  u_c ak bF hF
  u_c ax bF hF
  u_reg bF hF
  iterate 4 u_op bF hF
  u_c ak bF hF
  u_c ax bF hF
  u_c ax bF hF
  u_reg bF hF
  iterate 10 u_op bF hF
  u_c ak bF hF
  u_cond true bF hF
  u_reg bF hF
  iterate 3 u_op bF hF
  u_conv H.underlying_tPU32 H.room_tU32 (WgLive.cell1 hF.2).choose_spec bF hF
  refine bV (fun akW aaI=>cM.one rfl fun akX aaJ=>?_);replace hF:=bF (bF hF aaI) aaJ;clear aaI aaJ;refine⟨_,_,stepG_markAt .read an rfl rfl (by k_ne) rfl H.f_raceRead (x_raceRead_n L) (x_raceRead_b L) (x_raceRead_x L) (x_raceRead_f L) (ad:=⟨T.Wg,1,none⟩) aC,fun e he=>?_,cM.iT (n:=50) ?_⟩
  ·rw[Array.mem_singleton] at he;exact He rfl e (.inl he)
  walk_nrm
  u_c ak bF hF
  u_c ax bF hF
  u_c ax bF hF
  u_reg bF hF
  u_op bF hF
  u_op bF hF
  u_c ak bF hF
  u_cond false bF hF
  u_c bY bF hF
  u_c ax bF hF
  u_c ax bF hF
  u_reg bF hF
  iterate 3 u_op bF hF
  u_skip bF hF
  u_skip bF hF
  u_op bF hF
  u_op bF hF
  iterate 4 u_skip bF hF
  u_op bF hF
  u_c ak bF hF
  u_cond false bF hF
  u_c bY bF hF
  u_c ax bF hF
  u_c ax bF hF
  u_reg bF hF
  iterate 3 u_op bF hF
  u_skip bF hF
  u_skip bF hF
  u_op bF hF
  u_c ak bF hF
  u_cond true bF hF
  u_c stepG_ret' bF hF
  refine bV (fun aeS Qm=>cM.stop fun aeT Qn=>?_);replace hF:=bF (bF hF Qm) Qn;clear Qm Qn;refine⟨rfl,_,stepG_unwind_entry (v:=.tuple #[]) (evs:=#[Go.ConcR.mk .enable]) rfl H.f_enable (x_enable_n L) (x_enable_b L) (x_enable_x L) (x_enable_f L) (by simp[Extern.Race.none_]) (by simp[Go.ConcR.mk]) (by simp[Go.ConcR.mk]),cM.iT (n:=2) ?_⟩
  u_leave0 H.f_add bF hF
  exact bV fun Xv Xw=>hG Xv (hF.1.trans Xw)
 ·obtain⟨Vv,hVv⟩:∃Vv:Int,Vv=(v:Int)+1:=⟨_,rfl⟩;obtain⟨S,hS⟩:∃S:Int,S=Vv*KK:=⟨_,rfl⟩;have eS:IntKind.u64.wrap ((v:Int)*KK+4294967296)=S:=by rw[IntKind.wrap_u64,hS,hVv];simp only[KK];omega
  rw[<- hVv,<- hS];have a1:S/4294967296=Vv:=by rw[hS];simp only[KK];omega
  have b1:bits .and .u64 S 2147483648=0:=by rw[hS,hVv];have:=st_flag (v+1) 0 aa aa;simpa[KK] using this
  have b2:bits .and .u64 S 2147483647=0:=by rw[hS,hVv];have:=st_waiters (v+1) 0 aa aa;simpa[KK] using this
  have c1:IntKind.i32.wrap Vv=Vv:=by rw[IntKind.wrap_i32];omega
  have hV1:1<Vv:=aa;have q1:(Vv==1)=false:=eR;have q2:decide (Vv=1)=false:=ee aa;have q3:decide (Vv<0)=false:=ee aa;have q4:decide (0<Vv)=true:=dv aa;have q5:(Vv==0)=false:=eR;have q6:decide (Vv=0)=false:=ee aa;refine⟨_,(stepG_add_atomic rfl rfl (by k_ne) rfl H.f_addU64 (x_addU64_n L) (x_addU64_b L) (x_addU64_x L) .u64 (x_addU64_f L) rfl rfl hw.cellSt (hw.thaw 0)).trans (by rw[eS];rfl),cM.iT (n:=110) ?_⟩;replace hF:=J8 hT ho hF.1 hw S;clear hw hS hVv eS;walk_nrm
  u_op bF hF
  u_c ak bF hF
  u_c stepG_ret' bF hF
  u_leave1 H.f_uAdd bF hF
  u_op bF hF
  u_c ak bF hF
  u_c ax bF hF
  u_c ax bF hF
  u_reg bF hF
  iterate 4 u_op bF hF
  u_skip bF hF
  u_skip bF hF
  u_op bF hF
  u_c ak bF hF
  u_cnd false bF hF
  u_c bY bF hF
  u_c ax bF hF
  u_reg bF hF
  iterate 4 u_op bF hF
  u_c ak bF hF
  u_c ax bF hF
  u_reg bF hF
  iterate 4 u_op bF hF
  u_c ak bF hF
  u_c ax bF hF
  u_c ax bF hF
  u_reg bF hF
  iterate 10 u_op bF hF
  u_c ak bF hF
  u_cnd false bF hF
  u_c bY bF hF
  u_c ax bF hF
  u_c ax bF hF
  u_reg bF hF
  u_op bF hF
  u_op bF hF
  u_c ak bF hF
  u_cnd false bF hF
  u_c bY bF hF
  u_c ax bF hF
  u_c ax bF hF
  u_reg bF hF
  iterate 3 u_op bF hF
  u_skip bF hF
  u_skip bF hF
  u_op bF hF
  u_op bF hF
  iterate 4 u_skip bF hF
  u_op bF hF
  u_c ak bF hF
  u_cnd false bF hF
  u_c bY bF hF
  u_c ax bF hF
  u_c ax bF hF
  u_reg bF hF
  iterate 3 u_op bF hF
  u_skip bF hF
  u_skip bF hF
  u_op bF hF
  u_c ak bF hF
  u_cnd true bF hF
  u_c stepG_ret' bF hF
  refine bV (fun aeS Qm=>cM.stop fun aeT Qn=>?_);replace hF:=bF (bF hF Qm) Qn;clear Qm Qn;refine⟨rfl,_,stepG_unwind_entry (v:=.tuple #[]) (evs:=#[Go.ConcR.mk .enable]) rfl H.f_enable (x_enable_n L) (x_enable_b L) (x_enable_x L) (x_enable_f L) (by simp[Extern.Race.none_]) (by simp[Go.ConcR.mk]) (by simp[Go.ConcR.mk]),cM.iT (n:=2) ?_⟩
  u_leave0 H.f_add bF hF
  exact bV fun Xv Xw=>hG Xv (hF.1.trans Xw)
end
end
section
open Go.ConcN.Gen Go.RowKit Go.Conc.Lib Go.ConcR.Gen
open Go.ConcR (KK wgBlock WgAt stA smA rd wr Payload DC0)
theorem Bi{w w1:ae}(h:True)(_:AtRel w w1):True:=h
variable [Payload] {L:WgLink}
def DX(L:WgLink)(T:cP)(w0:ae)(c:Frame)(cs:List Frame):dV:=fun o g w =>
 ∃Ts:Array Value,g=G ((base L.wait).at ⟨Ts,[]⟩ [.code (L7 L),.inLoop (L7 L),.inBlock 0]) (c::cs)/\Ts.size=84/\Ts[0]?=some (.pointer (some ⟨T.Wg,0,none⟩))/\(dc T o w0 w/\WgLive T.ty T.Wg w)/\∀b,o b->T.H0<=b
def Nu(P:Program)(T:cP)(w0:ae)(g1:aS):dV:=fun o g w=>dc T o w0 w/\∃n,Goes P true AtRel DC0 (fun g' _=>g'=g1) n g w
section
variable {P:Program} {T:cP} {V:Nat->ae->Prop} {ek:Nat->(Nat->Prop)->ae->Prop} {o:Nat->Prop} {w0:ae}
 {Hf:Frame} {Hg:Act} {p6:Array Oper} {Hh:Nat} {pQ:List Nat} {qj:List Item} {cs:List Frame}
theorem J9(H:WgLib P L)(hT:T.OK)(g:aS)(w:ae)(h:DX L T w0 (Hf.at Hg (.inRegion p6 (Hh::pQ)::qj)) cs o g w):
  cM P T (OX P T (DX L T w0 (Hf.at Hg (.inRegion p6 (Hh::pQ)::qj)) cs) (Nu P T w0 (G (Hf.at (Hg.put ((p6[Hh]?).bind (·.dst)) (.tuple #[])) (.inRegion p6 pQ::qj)) cs))) o g w:=by
 lib_facts
 obtain⟨Ts,rfl,aeU,t0,hF,ho⟩:=h;obtain⟨v0,v1,v2,v3,v4,v5,v6,v7,v8,v9,v10,v11,v12,v13,v14,v15,v16,v17,v18,v19,v20,v21,v22,v23,v24,v25,v26,v27,v28,v29,v30,v31,v32,v33,v34,v35,v36,v37,v38,v39,v40,v41,v42,v43,v44,v45,v46,v47,v48,v49,v50,v51,v52,v53,v54,v55,v56,v57,v58,v59,v60,v61,v62,v63,v64,v65,v66,v67,v68,v69,v70,v71,v72,v73,v74,v75,v76,v77,v78,v79,v80,v81,v82,v83,rfl⟩:=array84 Ts aeU;simp only[List.getElem?_toArray,List.getElem?_cons_zero,Option.some.injEq] at t0;subst t0;refine cM.iT (n:=30) ?_;simp only[L7,body_wait,waitFn,Option.getD_some]
 u_c eB bF hF
 u_c ax bF hF
 u_reg bF hF
 iterate 3 u_op bF hF
 u_call H.f_uLoad (nm_uLoad L) uLoadFn bF hF
 u_c ax bF hF
 u_reg bF hF
 u_op bF hF
 u_c ak bF hF
 u_c ax bF hF
 u_reg bF hF
 iterate 3 u_op bF hF
 refine bV (fun wA1 pH=>cM.stop fun wA2 Hi=>?_);replace hF:=bF (bF hF pH) Hi;clear pH Hi;refine⟨rfl,fun v hv hw=>?_⟩;rcases aZ v with rfl|hvp
 ·replace hw:WgAt T.ty T.Wg wA2 0 0:=by simpa using hw
  refine⟨_,stepG_load_atomic (v:=0) rfl rfl (by k_ne) rfl H.f_loadU64 (x_loadU64_n L) (x_loadU64_b L) (x_loadU64_x L) .u64 (x_loadU64_f L) rfl hw.cellSt,fun _=>cM.iT (n:=50) ?_,fun h=>absurd rfl h⟩;clear hw;walk_nrm
  u_op bF hF
  u_c ak bF hF
  u_c stepG_ret' bF hF
  u_leave1 H.f_uLoad bF hF
  u_op bF hF
  u_c ak bF hF
  u_c ax bF hF
  u_reg bF hF
  iterate 4 u_op bF hF
  u_c ak bF hF
  u_c ax bF hF
  u_reg bF hF
  iterate 4 u_op bF hF
  u_c ak bF hF
  u_c ax bF hF
  u_c ax bF hF
  u_reg bF hF
  u_op bF hF
  u_op bF hF
  u_c ak bF hF
  u_cond true bF hF
  u_c ax bF hF
  u_cond true bF hF
  u_c ax bF hF
  u_reg bF hF
  refine bV (fun wE1 hE1=>cM.stop fun wE2 hE2=>?_);replace hF:=bF (bF hF hE1) hE2;clear hE1 hE2;refine⟨rfl,_,stepG_mark0 .enable an rfl rfl (by k_ne) rfl H.f_enable (x_enable_n L) (x_enable_b L) (x_enable_x L) (x_enable_f L),cM.iT (n:=12) ?_⟩;walk_nrm
  u_c ak bF hF
  u_reg bF hF
  u_op bF hF
  u_conv H.underlying_tWgP H.room_tWg (WgLive.cell0 hF.2).choose_spec bF hF
  refine bV (fun wF1 mw=>cM.stop fun wF2 rh=>?_);replace hF:=bF (bF hF mw) rh;clear mw rh;refine⟨rfl,_,stepG_markAt .acquire an rfl rfl (by k_ne) rfl H.f_acquire (x_acquire_n L) (x_acquire_b L) (x_acquire_x L) (x_acquire_f L) (by simp[Act.eval,stA]),hF.1,30,?_⟩;walk_nrm;have hu:True:=trivial
  u_c ak Bi hu
  u_c ax Bi hu
  u_c ax Bi hu
  u_reg Bi hu
  iterate 8 u_op Bi hu
  u_skip Bi hu
  u_skip Bi hu
  u_op Bi hu
  u_c ak Bi hu
  u_cond false Bi hu
  u_c bY Bi hu
  u_c stepG_ret' Bi hu
  u_leave0 H.f_wait Bi hu
  exact bV fun _ _=>rfl
 ·obtain⟨S,hS⟩:∃S:Int,(v:Int)*KK=S:=⟨_,rfl⟩;have a1:S/4294967296=(v:Int):=by rw[<- hS];simp only[KK];omega
  have b1:bits .and .u64 S 2147483648=0:=by rw[<- hS];have:=st_flag v 0 aa aa;simpa[KK] using this
  have b2:bits .and .u64 S 2147483647=0:=by rw[<- hS];have:=st_waiters v 0 aa aa;simpa[KK] using this
  have c1:IntKind.i32.wrap (v:Int)=(v:Int):=by rw[IntKind.wrap_i32];omega
  have w1:IntKind.u64.wrap (S+1)=S+1:=by rw[IntKind.wrap_u64,<- hS];simp only[KK];omega
  have q3:decide ((v:Int)<0)=false:=ee aa;have q4:decide (0<(v:Int))=true:=dv aa;have q5:((v:Int)==0)=false:=eR;have q6:decide ((v:Int)=0)=false:=ee aa;rw[hS] at hw;refine⟨_,stepG_load_atomic (v:=S) rfl rfl (by k_ne) rfl H.f_loadU64 (x_loadU64_n L) (x_loadU64_b L) (x_loadU64_x L) .u64 (x_loadU64_f L) rfl hw.cellSt,fun h0=>absurd h0 aa,fun _=>cM.iT (n:=60) ?_⟩;clear hw;walk_nrm
  u_op bF hF
  u_c ak bF hF
  u_c stepG_ret' bF hF
  u_leave1 H.f_uLoad bF hF
  u_op bF hF
  u_c ak bF hF
  u_c ax bF hF
  u_reg bF hF
  iterate 4 u_op bF hF
  u_c ak bF hF
  u_c ax bF hF
  u_reg bF hF
  iterate 4 u_op bF hF
  u_c ak bF hF
  u_c ax bF hF
  u_c ax bF hF
  u_reg bF hF
  u_op bF hF
  u_op bF hF
  u_c ak bF hF
  u_cnd false bF hF
  u_c bY bF hF
  u_c ax bF hF
  u_reg bF hF
  iterate 6 u_op bF hF
  u_call H.f_uCas (nm_uCas L) uCasFn bF hF
  u_c ax bF hF
  u_reg bF hF
  u_op bF hF
  u_c ak bF hF
  u_c ax bF hF
  u_reg bF hF
  iterate 5 u_op bF hF
  refine bV (fun wB1 hB1=>cM.stop fun wB2 hB2=>?_);replace hF:=bF (bF hF hB1) hB2;clear hB1 hB2;refine⟨rfl,fun v' vD hw=>⟨fun e=>?_,fun e=>?_⟩⟩
  ·subst e;rw[hS] at hw |-;refine⟨_,(stepG_cas_hit (v:=S) (n:=S+1) rfl rfl (by k_ne) rfl H.f_casU64 (x_casU64_n L) (x_casU64_b L) (x_casU64_x L) .u64 (x_casU64_f L) rfl rfl rfl hw.cellSt (hw.thaw 0)).trans ai,cM.iT (n:=70) ?_⟩;replace hF:=J8 hT ho hF.1 hw (S+1);clear hw;walk_nrm
   u_op bF hF
   u_c ak bF hF
   u_c stepG_ret' bF hF
   u_leave1 H.f_uCas bF hF
   u_c ak bF hF
   u_cond true bF hF
   u_c ax bF hF
   u_c ax bF hF
   u_reg bF hF
   iterate 4 u_op bF hF
   u_c ak bF hF
   u_cond true bF hF
   u_reg bF hF
   iterate 3 u_op bF hF
   u_conv H.underlying_tPU32 H.room_tU32 (WgLive.cell1 hF.2).choose_spec bF hF
   refine bV (fun wC1 Zk=>cM.one rfl fun wC2 hC2=>?_);replace hF:=bF (bF hF Zk) hC2;clear Zk hC2;refine⟨_,_,stepG_markAt .write an rfl rfl (by k_ne) rfl H.f_raceWrite (x_raceWrite_n L) (x_raceWrite_b L) (x_raceWrite_x L) (x_raceWrite_f L) (ad:=⟨T.Wg,1,none⟩) (by simp[Act.eval]<;>rfl),fun e he=>?_,cM.iT (n:=50) ?_⟩
   ·rw[Array.mem_singleton] at he;exact He rfl e (.inr he)
   u_c ak bF hF
   u_c ax bF hF
   u_reg bF hF
   u_op bF hF
   u_c ak bF hF
   u_c ax bF hF
   u_c ax bF hF
   u_reg bF hF
   iterate 4 u_op bF hF
   u_skip bF hF
   u_op bF hF
   u_c ak bF hF
   u_cond false bF hF
   u_c bY bF hF
   u_c ax bF hF
   u_reg bF hF
   iterate 4 u_op bF hF
   refine bV (fun wD1 hD1=>cM.stop fun wD2 hD2=>?_);replace hF:=bF (bF hF hD1) hD2;clear hD1 hD2;refine⟨rfl,rfl,fun⟨st,hw⟩=>stepG_semacquire_wait rfl rfl rfl H.f_semacquire (x_semacquire_n L) (x_semacquire_b L) (x_semacquire_x L) (x_semacquire_f L) (by simp[Act.eval,smA]) hw.cellSm,fun hf=>?_⟩;refine⟨_,(stepG_semacquire (n:=1) rfl rfl (by k_ne) rfl H.f_semacquire (x_semacquire_n L) (x_semacquire_b L) (x_semacquire_x L) (x_semacquire_f L) (by simp[Act.eval,smA]) hf.cellSm (by k_ne) (hf.thaw 1)).trans ai,cM.iT (n:=30) ?_⟩;replace hF:=TC hT ho hF.1 hf 0;clear hf;walk_nrm
   u_c ak bF hF
   u_c ax bF hF
   u_reg bF hF
   iterate 3 u_op bF hF
   u_call H.f_uLoad (nm_uLoad L) uLoadFn bF hF
   u_c ax bF hF
   u_reg bF hF
   u_op bF hF
   u_c ak bF hF
   u_c ax bF hF
   u_reg bF hF
   iterate 3 u_op bF hF
   refine bV (fun wG1 hG1=>cM.stop fun wG2 hG2=>?_);replace hF:=bF (bF hF hG1) hG2;clear hG1 hG2;refine⟨rfl,fun hw=>⟨_,stepG_load_atomic (v:=0) rfl rfl (by k_ne) rfl H.f_loadU64 (x_loadU64_n L) (x_loadU64_b L) (x_loadU64_x L) .u64 (x_loadU64_f L) rfl hw.cellSt,cM.iT (n:=30) ?_⟩⟩;clear hw;walk_nrm
   u_op bF hF
   u_c ak bF hF
   u_c stepG_ret' bF hF
   u_leave1 H.f_uLoad bF hF
   u_op bF hF
   u_op bF hF
   u_c ak bF hF
   u_c ax bF hF
   u_cond true bF hF
   u_c ax bF hF
   u_reg bF hF
   refine bV (fun wE1 hE1=>cM.stop fun wE2 hE2=>?_);replace hF:=bF (bF hF hE1) hE2;clear hE1 hE2;refine⟨rfl,_,stepG_mark0 .enable an rfl rfl (by k_ne) rfl H.f_enable (x_enable_n L) (x_enable_b L) (x_enable_x L) (x_enable_f L),cM.iT (n:=12) ?_⟩;walk_nrm
   u_c ak bF hF
   u_reg bF hF
   u_op bF hF
   u_conv H.underlying_tWgP H.room_tWg (WgLive.cell0 hF.2).choose_spec bF hF
   refine bV (fun wF1 mw=>cM.stop fun wF2 rh=>?_);replace hF:=bF (bF hF mw) rh;clear mw rh;refine⟨rfl,_,stepG_markAt .acquire an rfl rfl (by k_ne) rfl H.f_acquire (x_acquire_n L) (x_acquire_b L) (x_acquire_x L) (x_acquire_f L) (by simp[Act.eval,stA]),hF.1,30,?_⟩;walk_nrm;have hu:True:=trivial
   u_c ak Bi hu
   u_c ax Bi hu
   u_c ax Bi hu
   u_reg Bi hu
   u_op Bi hu
   u_c ak Bi hu
   u_cond false Bi hu
   u_c bY Bi hu
   u_c stepG_ret' Bi hu
   u_leave0 H.f_wait Bi hu
   exact bV fun _ _=>rfl
  ·refine⟨_,stepG_cas_miss (v:=(v':Int)*KK) (old:=S) (n:=S+1) rfl rfl (by k_ne) rfl H.f_casU64 (x_casU64_n L) (x_casU64_b L) (x_casU64_x L) .u64 (x_casU64_f L) rfl rfl rfl hw.cellSt (hw.thaw 0) (by rw[<- hS];simp only[KK];omega),cM.iT (n:=20) ?_⟩;clear hw;walk_nrm
   u_op bF hF
   u_c ak bF hF
   u_c stepG_ret' bF hF
   u_leave1 H.f_uCas bF hF
   u_c ak bF hF
   u_cond false bF hF
   u_c bY bF hF
   u_c fR bF hF
   u_c ig bF hF
   exact bV (fun wH hH=>cM.stop fun wI hI=>⟨_,rfl,an,an,bF (bF hF hH) hI,ho⟩)
theorem Ka(H:WgLib P L)(ho:∀b,o b->T.H0<=b)(w:ae)(hF:dc T o w0 w/\WgLive T.ty T.Wg w):
  cM P T (OY P T (DX L T w0 (Hf.at Hg (.inRegion p6 (Hh::pQ)::qj)) cs)) o
   (G ((base L.wait).at ⟨#[.pointer (some ⟨T.Wg,0,none⟩),undef,undef,undef,undef,undef,undef,undef,undef,undef,undef,undef,undef,undef,undef,undef,undef,undef,undef,undef,undef,undef,undef,undef,undef,undef,undef,undef,undef,undef,undef,undef,undef,undef,undef,undef,undef,undef,undef,undef,undef,undef,undef,undef,undef,undef,undef,undef,undef,undef,undef,undef,undef,undef,undef,undef,undef,undef,undef,undef,undef,undef,undef,undef,undef,undef,undef,undef,undef,undef,undef,undef,undef,undef,undef,undef,undef,undef,undef,undef,undef,undef,undef,undef],[]⟩ [.code (body_wait L)]) (Hf.at Hg (.inRegion p6 (Hh::pQ)::qj)::cs)) w:=by
 lib_facts
 simp only[body_wait,waitFn,Option.getD_some];refine cM.iT (n:=3) ?_
 u_c ax bF hF
 u_cond true bF hF
 u_reg bF hF
 refine bV (fun wA1 pH=>cM.stop fun wA2 Hi=>?_);replace hF:=bF (bF hF pH) Hi;clear pH Hi;refine⟨rfl,_,stepG_mark0 .disable an rfl rfl (by k_ne) rfl H.f_disable (x_disable_n L) (x_disable_b L) (x_disable_x L) (x_disable_f L),cM.iT (n:=3) ?_⟩;walk_nrm
 u_c ak bF hF
 u_c eB bF hF
 u_c jj bF hF
 exact bV (fun wH hH=>cM.stop fun wI hI=>⟨_,rfl,an,an,bF (bF hF hH) hI,ho⟩)
end
end
section
open Go.ConcR (DC0)
section
variable {P:Program} {Fin:bH} {d:Nat} {S:Nat->Prop} {g:aS} {w:ae}
theorem lN.more{S':Nat->Prop}{t:Trace}(h:lN d S t)(hS:∀b,S b->S' b):lN d S' t :=
 ⟨h.clean,fun i a ha hm=>(h.known i a ha hm).imp id fun⟨h1,h2⟩=>⟨by cases hl:a.loc<;>rw[hl] at h1<;>first|exact hS _ h1|exact h1,h2⟩,h.over,h.deaf⟩
theorem BX.less{S':Nat->Prop}(h:BX P Fin d S' g w)(hS:∀b,S b->S' b)(hb:∀b,w.heap.size<=b->¬S' b):BX P Fin d S g w :=
 fun gs sl t q h0 hL hP _=>h gs sl t q h0 hL (hP.more hS) hb
theorem zF.iT{g1:aS}:∀{n:Nat} {g:aS} {w:ae},Goes P true AtRel DC0 (fun g' _=>g'=g1) n g w->zF P Fin d S g1 w->zF P Fin d S g w:=by
 intro n
 induction n with
 |zero =>
  intro g w h hx;have:=h w (atRel_refl w);exact this▸hx
 |succ n ih =>
  intro g w h hx;rcases h with h|⟨hs,h⟩
  ·have:=h w (atRel_refl w);exact this▸hx
  ·refine zF.step hs fun w1 hw=>?_;have:=h w1 hw;cases hg:stepG P true g w1 with
   |go g' w' es =>
    rw[hg,goes_go] at this;obtain⟨⟨rfl,rfl⟩,hG⟩:=this;exact⟨g',w',#[],rfl,an,ag _,ih hG (hx.rely hw)⟩
   |_=>rw[hg] at this;exact this.elim
variable [Go.ConcR.Payload]
theorem BX.aaN(h:∀m0 T0,0<m0->∃(T:cP) (V:Nat->ae->Prop) (ek:Nat->(Nat->Prop)->ae->Prop) (cx Nu:dV) (o0:Nat->Prop),T.m0=m0/\T.T0=T0/\T.OK/\jJ T V ek/\T.n<2147483648/\T.Shun=sK S /\
   (∀o g w,cx o g w->cM P T (OX P T cx Nu) o g w)/\iC P T V ek cx T.n o0 g w/\(∀b,o0 b->T.H0<=b/\b<w.heap.size)/\T.H0<=w.heap.size/\Go.ConcR.WgAt T.ty T.Wg w 0 0 /\
   (∀k,k<T.n->∃s r tm,w.heap[T.ch k]?=some (.chan 0 #[] false s r tm))/\(∀k,k<T.n->T.Idle k w) /\
   (∀o g' w',Nu o g' w'->(∀i,i<T.n->V i w'/\∃(oi:Nat->Prop) (C:Nat),ek i (fun b=>oi b/\b≠C) w'/\∀b,oi b->T.H0<=b/\b<w'.heap.size)->dc T (fun _=>False) w w'->(∀b,o b->T.H0<=b/\b<w'.heap.size) ->
    (∀b cs ty fz,T.Sh b->w.heap[b]?=some (.cells cs ty fz)->∃rW,w'.heap[b]?=some (.cells rW ty fz)/\rW.size=cs.size)->(∀k,k<T.n->∃c s r tm,w'.heap[T.ch k]?=some (.chan 0 #[] c s r tm))->BX P Fin 0 (fun b=>S b\/b=T.Wg) g' w')):BX P Fin 0 S g w:=by
 intro gs sl t q h0 hL hP hS;obtain⟨B,hB⟩:=hP.Pw;have nS:0<gs.size:=(Array.getElem?_eq_some_iff.1 h0).1;obtain⟨T,V,ek,cx,Nu,o0,e1,e2,hT,hV,hn,se,VK,dW,SG,hH,nU,uh,PS,PU⟩:=h gs.size t.size nS;obtain⟨N,gd,w',qm,t',k1,o,g',q',B',j1,j2,j3,j4,j5,j6,j7,j8,j9,j10,j11⟩:=No (T:=T) hT hV hn VK se (B:=B+0) (gs:=gs) (sl:=sl) (t:=t) (q:=q) e1.symm h0 hL (by rw[se];exact hB 0) e2.symm dW SG hH nU uh PS;have Zl:T.Wg<T.H0:=hT.wg;obtain⟨N2,Zh,w2,To,t2,q2,S2,g2,l1,l2⟩:=PU o g' w' j3 j7 j8 j9 j10 j11 gd qm t' q' j2 j4 (lN.of j5) (fun b hb=>by
  rintro(h|rfl)
  ·exact hS b (aR j8.size hb) h
  ·have:=j8.size;omega)
 exact⟨N+N2,Zh,w2,To,t2,q2,S2,g2,by rw[runNT_add,k1];exact l1,l2⟩
section
variable {T:cP} {cx DY F F':dV} {o:Nat->Prop}
theorem M5.mono(hF:∀o g w,F o g w->F' o g w){o:Nat->Prop}{g:aS}{w:ae}:M5 P T F o g w->M5 P T F' o g w:=fun⟨a,g',b,c⟩=>⟨a,g',b,hF _ _ _ c⟩
theorem VE.mono(hF:∀o g w,F o g w->F' o g w){o:Nat->Prop}{g:aS}{w:ae}:VE P T F o g w->VE P T F' o g w:=fun⟨a,g',b,c⟩=>⟨a,g',b,c.mono fun _ _ _=>M5.mono hF⟩
theorem Za.mono(hF:∀o g w,F o g w->F' o g w){o:Nat->Prop}{g:aS}{w:ae}:Za P T F o g w->Za P T F' o g w:=fun⟨a,h⟩=>⟨a,fun x=>let ⟨g',b,c⟩:=h x;⟨g',b,c.mono fun _ _ _=>VE.mono hF⟩⟩
theorem Xe.mono(hF:∀o g w,F o g w->F' o g w){o:Nat->Prop}{g:aS}{w:ae}:Xe P T F o g w->Xe P T F' o g w:=fun⟨a,b,c,d⟩=>⟨a,b,c,fun x=>let ⟨g',e,f⟩:=d x;⟨g',e,f.mono fun _ _ _=>Za.mono hF⟩⟩
theorem Zb.mono(hA:∀o g w,cx o g w->DY o g w)(hF:∀o g w,F o g w->F' o g w){vs:Nat}{o:Nat->Prop}{g:aS}{w:ae}:Zb P T cx F vs o g w->Zb P T DY F' vs o g w:=fun⟨a,h⟩ =>
 ⟨a,fun v hv hw=>⟨fun e=>let ⟨g',x,y⟩:=(h v hv hw).1 e;⟨g',x,y.mono fun _ _ _=>Xe.mono hF⟩,fun e=>let ⟨g',x,y⟩:=(h v hv hw).2 e;⟨g',x,y.mono hA⟩⟩⟩
theorem OX.mono(hA:∀o g w,cx o g w->DY o g w)(hF:∀o g w,F o g w->F' o g w){o:Nat->Prop}{g:aS}{w:ae}:OX P T cx F o g w->OX P T DY F' o g w:=fun⟨a,h⟩ =>
 ⟨a,fun v hv hw=>let ⟨g',x,y,z⟩:=h v hv hw;⟨g',x,fun e=>(y e).mono fun _ _ _=>VE.mono hF,fun e=>(z e).mono fun _ _ _=>Zb.mono hA hF⟩⟩
theorem OY.mono(hA:∀o g w,cx o g w->DY o g w){o:Nat->Prop}{g:aS}{w:ae}:OY P T cx o g w->OY P T DY o g w:=fun⟨a,g',b,c⟩=>⟨a,g',b,c.mono hA⟩
end
end
section
variable {P:Program} {m:Bool} {R:aM->ae->ae->Prop} {Gu:aM->ae->ae->Array Event->Prop} {X:aM->aS->ae->Prop} {b:Frame} {a:Act} {k:List Item} {cs:List Frame} {o:aM} {w:ae} {ops:Array Oper} {i:Nat} {rest:List Nat} {op:Oper}
theorem still_at(W:fg P m R Gu X){S:ae->Prop}(hS:∀w1,R o w w1->S w1)(ho:ops[i]?=some op)(hw:Region.wanted op (yielded ops a.tmps)=true)(hk:b.kind≠.early)(hg:∀w1,S w1->Gu o w1 w1 (listed P b.fn a op w1))(h:∀w1,S w1->∀K:Act->ae->Prop,(∀a',X o (G (b.at a' (.inRegion ops rest::k)) cs) w->K a' w1)->uponK op a K ((execOp a.eval op).run P w1)):X o (G (b.at a (.inRegion ops (i::rest)::k)) cs) w:=by
 refine W.step o _ w rfl fun w1 h1=>?_;have:=h w1 (hS w1 h1) (fun a' w'=>w'=w1/\X o (G (b.at a' (.inRegion ops rest::k)) cs) w) fun _ x=>⟨rfl,x⟩;revert this;cases hr:(execOp a.eval op).run P w1 with
 |ok x w' =>
  cases x with
  |value v=>intro q;simp only[uponK_value] at q;obtain⟨rfl,q⟩:=q;exact⟨_,_,_,dN ho hw hk hr,hg _ (hS _ h1),by rw[bS];exact W.rely _ _ _ _ q h1⟩
  |skip=>intro q;simp only[uponK_skip] at q;obtain⟨rfl,q⟩:=q;exact⟨_,_,_,jk ho hw hk hr,hg _ (hS _ h1),by rw[bS];exact W.rely _ _ _ _ q h1⟩
  |_=>intro q;exact q.elim
 |halt _ _=>intro q;exact q.elim
theorem TD(W:fg P m R Gu X)(ho:ops[i]?=some op)(_hn:EU op.op=true)(hw:Region.wanted op (yielded ops a.tmps)=true)(hk:b.kind≠.early)(hg:∀w1,(execOp a.eval op).events P w1 #[]=#[])(h:∀w1,∀K:Act->ae->Prop,(∀a',X o (G (b.at a' (.inRegion ops rest::k)) cs) w->K a' w1)->uponK op a K ((execOp a.eval op).run P w1)):X o (G (b.at a (.inRegion ops (i::rest)::k)) cs) w :=
 still_at W (S:=fun _=>True) (fun _ _=>trivial) ho hw hk (fun w1 _=>by rw[listed_nil (hg w1)];exact W.idle _ _) (fun w1 _=>h w1)
end
theorem Qo{P:Program}{main:Bool}{b:Frame}{a:Act}{k:List Item}{cs:List Frame}{w:ae}{ops:Array Oper}{i:Nat}{rest:List Nat}{op:Oper}{d:Deferred}{f:Fn}{c:Array Value}(ho:ops[i]?=some op)(hw:Region.wanted op (yielded ops a.tmps)=true)(hk:b.kind≠.early)(hr:(execOp a.eval op).run P w=.ok (.spawn d) w)(he:(execOp a.eval op).events P w #[]=#[])(hd:d.target=.fn f c){dd:Option Tmp}(hdd:op.dst=dd):
  stepG P main (G (b.at a (.inRegion ops (i::rest)::k)) cs) w=.spawn (G (b.at (a.put dd undef) (.inRegion ops rest::k)) cs) (born P d) w #[]:=by
 subst hdd;rw[stepG_spawn ho hw hk hr hd,listed_nil he]
section
variable {P:Program} {T:cP} {Stop:dV} {b:Frame} {a:Act} {k:List Item} {cs:List Frame} {o:aM} {w:ae} {ops:Array Oper} {i:Nat} {rest:List Nat} {op:Oper}
theorem Kb(ho:ops[i]?=some op)(hw:Region.wanted op (yielded ops a.tmps)=true)(hk:b.kind≠.early){d:Option Tmp}(hd:op.dst=d)(x:Obj)(cm:∀w1,(execOp a.eval op).run P w1=.ok (.value (.pointer (some ⟨w1.heap.size,0,none⟩))) (w1.alloc x))(iH:∀w1,(execOp a.eval op).events P w1 #[]=#[])(h:∀w1,dc T o w w1->cM P T Stop (fun b=>o b\/b=w1.heap.size) (G (b.at (a.put d (.pointer (some ⟨w1.heap.size,0,none⟩))) (.inRegion ops rest::k)) cs) (w1.alloc x)):cM P T Stop o (G (b.at a (.inRegion ops (i::rest)::k)) cs) w:=by
 subst hd;refine cM.step rfl fun w1 h1=>⟨_,_,_,dN ho hw hk (cm w1),⟨an,fun b hb _=>RowKit.Below.heap_alloc w1 x b hb,rfl,rfl⟩,by rw[listed_nil (iH w1)];simp,?_⟩;rw[show grow o w1 (w1.alloc x)=fun b=>o b\/b=w1.heap.size from tJ o w1 x];exact h w1 h1
theorem Kc(A:Nat)(hA:o A)(ho:ops[i]?=some op)(hw:Region.wanted op (yielded ops a.tmps)=true)(hk:b.kind≠.early){d:Option Tmp}(hd:op.dst=d){f:ae->ae}(hf:∀w1,gx A w1 (f w1))(cm:∀w1,w1.heap[A]?=w.heap[A]?->(execOp a.eval op).run P w1=.ok .skip (f w1))(iH:∀w1,w1.heap[A]?=w.heap[A]?->∀e∈(execOp a.eval op).events P w1 #[],∃ad wt sy,e=⟨.cell ad,wt,sy⟩/\ad.block=A)(h:∀w1,dc T o w w1->cM P T Stop o (G (b.at (a.put d undef) (.inRegion ops rest::k)) cs) (f w1)):cM P T Stop o (G (b.at a (.inRegion ops (i::rest)::k)) cs) w:=by
 subst hd;refine cM.step rfl fun w1 h1=>⟨_,_,_,jk ho hw hk (cm w1 (h1.own A hA)),⟨bq (hf w1).size.symm,fun b hb hn=>(hf w1).heap b fun e=>hn (e▸hA),(hf w1).os,(hf w1).output⟩,fun e he=>?_,?_⟩
 ·obtain⟨ad,wt,sy,rfl,e2⟩:=iH w1 (h1.own A hA) e (mem_listed he);refine⟨fun x hx _=>.inr (.inl ⟨A,.inl hA,?_⟩),an,an,an⟩;simp only[MemAct.ofEvent,MemAct.touch?,Option.some.injEq] at hx;subst hx;exact e2
 ·rw[jU o (hf w1).size];exact h w1 h1
end
section
variable {P:Program} {Fin:bH} {d:Nat} {b:Frame} {a:Act} {k:List Item} {cs:List Frame} {o:aM} {w:ae} {ops:Array Oper} {i:Nat} {rest:List Nat} {op:Oper}
theorem xW(ho:ops[i]?=some op)(hw:Region.wanted op (yielded ops a.tmps)=true)(hk:b.kind≠.early){dd:Option Tmp}(hd:op.dst=dd)(x:Obj)(f:Nat->Value)(cm:∀w1,(execOp a.eval op).run P w1=.ok (.value (f w1.heap.size)) (w1.alloc x))(iH:∀w1,(execOp a.eval op).events P w1 #[]=#[])(h:XB P Fin d (fun b=>o b\/b=w.heap.size) (G (b.at (a.put dd (f w.heap.size)) (.inRegion ops rest::k)) cs) (w.alloc x)):XB P Fin d o (G (b.at a (.inRegion ops (i::rest)::k)) cs) w:=by
 subst hd;refine bJ.step o _ w rfl fun w1 h1=>⟨_,_,_,dN ho hw hk (cm w1),⟨by rw[listed_nil (iH w1)];simp,an,rfl,rfl⟩,?_⟩;obtain⟨dd,rfl⟩:=h1;rw[show grow o (w.at dd) ((w.at dd).alloc x)=fun b=>o b\/b=w.heap.size from tJ o (w.at dd) x];exact bJ.rely _ _ _ ((w.alloc x).at dd) h ⟨dd,rfl⟩
end
end
section
variable {P:Program} {Fin:bH} {d:Nat} {b:Frame} {a:Act} {k:List Item} {cs:List Frame} {o:aM} {w:ae} {ops:Array Oper} {i:Nat} {rest:List Nat} {op:Oper} {f:FuncId} {fn:Func} {rR:Array TypeId} {as:Array Operand} {e:Array Value->Sem Value}
theorem Qp{x:Event}(h:x.sync=true):TB o x:=by
 obtain⟨loc,wt,sy⟩:=x;simp only at h;subst h;intro y hy ad hl hk;cases loc with
 |cell c=>simp only[MemAct.ofEvent,MemAct.touch?,Option.some.injEq] at hy;subst hy;simp at hk
 |obj c=>cases wt<;>simp[MemAct.ofEvent,MemAct.touch?] at hy<;>subst hy<;>simp at hk
 |output=>simp only[MemAct.ofEvent,MemAct.touch?,Option.some.injEq] at hy;subst hy;simp at hk
 |goroutines=>simp only[MemAct.ofEvent,MemAct.touch?,Option.some.injEq] at hy;subst hy;simp at hk
 |mark m=>cases m<;>simp[MemAct.ofEvent,MemAct.touch?] at hy<;>subst hy<;>simp at hk
theorem zY{ad:Addr}{wt sy:Bool}(h:o ad.block):TB o ⟨.cell ad,wt,sy⟩:=by
 intro y hy c hl hk;simp only[MemAct.ofEvent,MemAct.touch?,Option.some.injEq] at hy;subst hy;cases hl;exact h
theorem LQ{r:Nat}{wt sy:Bool}:TB o ⟨.obj r,wt,sy⟩:=by
 intro y hy c hl hk;cases wt<;>cases sy<;>simp[MemAct.ofEvent,MemAct.touch?] at hy<;>subst hy<;>cases hl
theorem xX(ho:ops[i]?=some op)(hw:Region.wanted op (yielded ops a.tmps)=true)(hk:b.kind≠.early)(eu:op.op=.call {callee:=.value (.func f),args:=as,argTypes:=rR})(hf:P.funcs[f]?=some fn)(gF:(fn.name == "runtime.NumGoroutine")=false)(hb:fn.body.isNone=true)(hn:Extern.findNext fn=none)(he:Extern.find fn=some e){v:Value}{t:ae->ae}{evs:Array Event}{dd:Option Tmp}(hd:op.dst=dd)(nT:∀n,t (w.at n)=(t w).at n)(ft:(t w).heap.size=w.heap.size)(cm:∀n,(e (as.map a.eval)).run P (w.at n)=.ok v (t (w.at n)))(iH:∀n,(e (as.map a.eval)).events P (w.at n) #[⟨.mark (.extern f),false,true⟩]=#[⟨.mark (.extern f),false,true⟩]++evs)(hs:∀x∈evs,x.sync=true/\(∀g,x.loc≠.mark (.extern g))/\x.loc≠.mark .disable/\x.loc≠.mark .enable)(h:XB P Fin d o (G (b.at (a.put dd v) (.inRegion ops rest::k)) cs) (t w))(Py:(t w).os=w.os/\(t w).output=w.output:=by exact⟨rfl,rfl⟩):XB P Fin d o (G (b.at a (.inRegion ops (i::rest)::k)) cs) w:=by
 subst hd;refine bJ.step o _ w rfl fun w1 h1=>?_;obtain⟨n,rfl⟩:=h1;refine⟨_,_,_,stepG_entry ho hw hk eu hf gF hb hn he (cm n) (iH n) (fun x hx=>⟨(hs x hx).1,(hs x hx).2.1⟩),⟨fun x hx=>⟨Qp (hs x hx).1,(hs x hx).2.2⟩,?_,?_⟩,?_⟩
 ·rw[nT n];exact bq ft.symm
 ·rw[nT n];exact Py
 ·rw[jU o (by rw[nT n];exact ft),nT n];exact bJ.rely _ _ _ _ h ⟨n,rfl⟩
theorem wD(m:Mark)(hm:m=.disable\/m=.enable)(ho:ops[i]?=some op)(hw:Region.wanted op (yielded ops a.tmps)=true)(hk:b.kind≠.early)(eu:op.op=.call {callee:=.value (.func f),args:=as,argTypes:=rR})(hf:P.funcs[f]?=some fn)(gF:(fn.name == "runtime.NumGoroutine")=false)(hb:fn.body.isNone=true)(hn:Extern.findNext fn=none)(he:Extern.find fn=some (fun _=>do mark m;pure Extern.Race.none_)){dd:Option Tmp}(hd:op.dst=dd){d':Nat}(Tv:deafBehind d #[⟨.mark m,false,true⟩]=d')(h:XB P Fin d' o (G (b.at (a.put dd (.tuple #[])) (.inRegion ops rest::k)) cs) w):XB P Fin d o (G (b.at a (.inRegion ops (i::rest)::k)) cs) w:=by
 subst hd;exact XB.mark rfl (es:=#[⟨.mark m,false,true⟩]) (fun x hx=>by simp at hx;subst hx;exact⟨m,rfl⟩) Tv (fun w1=>stepG_mark0 m (by rintro g rfl;rcases hm with h|h<;>cases h) ho hw hk eu hf gF hb hn he) h
theorem Bj(mk:Addr->Mark)(hm:∀ad,(∃x,mk ad=.acquire x)\/(∃x,mk ad=.releaseMerge x))(ho:ops[i]?=some op)(hw:Region.wanted op (yielded ops a.tmps)=true)(hk:b.kind≠.early)(eu:op.op=.call {callee:=.value (.func f),args:=as,argTypes:=rR})(hf:P.funcs[f]?=some fn)(gF:(fn.name == "runtime.NumGoroutine")=false)(hb:fn.body.isNone=true)(hn:Extern.findNext fn=none)(he:Extern.find fn=some (Extern.Race.marked mk)){ad:Addr}(hx:(as.map a.eval)[0]?=some (.pointer (some ad))){dd:Option Tmp}(hd:op.dst=dd)(h:XB P Fin d o (G (b.at (a.put dd (.tuple #[])) (.inRegion ops rest::k)) cs) w):XB P Fin d o (G (b.at a (.inRegion ops (i::rest)::k)) cs) w:=by
 subst hd;have Tv:deafBehind d #[⟨.mark (mk ad),false,true⟩]=d:=by rcases hm ad with⟨x,e⟩|⟨x,e⟩<;>rw[e]<;>rfl
 exact XB.mark rfl (es:=#[⟨.mark (mk ad),false,true⟩]) (fun x hx=>by simp at hx;subst hx;exact⟨_,rfl⟩) Tv (fun w1=>stepG_markAt mk (fun ad g e=>by rcases hm ad with⟨x,e'⟩|⟨x,e'⟩<;>rw[e'] at e<;>cases e) ho hw hk eu hf gF hb hn he hx) h
theorem Hj(ho:ops[i]?=some op)(hw:Region.wanted op (yielded ops a.tmps)=true)(hk:b.kind≠.early){v:Value}{dd:Option Tmp}(hd:op.dst=dd)(hr:∀n,(execOp a.eval op).run P (w.at n)=.ok (.value v) (w.at n))(iH:∀n,∀x∈(execOp a.eval op).events P (w.at n) #[],Xu Fin o x/\x.loc≠.mark .disable/\x.loc≠.mark .enable)(h:XB P Fin d o (G (b.at (a.put dd v) (.inRegion ops rest::k)) cs) w):XB P Fin d o (G (b.at a (.inRegion ops (i::rest)::k)) cs) w:=by
 subst hd;refine bJ.step o _ w rfl fun w1 h1=>?_;obtain⟨n,rfl⟩:=h1;exact⟨_,_,_,dN ho hw hk (hr n),⟨fun x hx=>by rw[bS];exact iH n x (mem_listed hx),ag _,rfl,rfl⟩,by rw[bS];exact bJ.rely _ _ _ _ h ⟨n,rfl⟩⟩
theorem wE(ho:ops[i]?=some op)(hw:Region.wanted op (yielded ops a.tmps)=true)(hk:b.kind≠.early){v:Value}{dd:Option Tmp}(hd:op.dst=dd)(hr:∀n,(execOp a.eval op).run P (w.at n)=.ok (.value v) (w.at n))(iH:∀n,∀x∈(execOp a.eval op).events P (w.at n) #[],TB o x/\x.loc≠.mark .disable/\x.loc≠.mark .enable)(h:XB P Fin d o (G (b.at (a.put dd v) (.inRegion ops rest::k)) cs) w):XB P Fin d o (G (b.at a (.inRegion ops (i::rest)::k)) cs) w :=
 Hj ho hw hk hd hr (fun n x hx=>⟨(iH n x hx).1.Qj,(iH n x hx).2⟩) h
end
section
variable {P:Program} {L:Nat->Bool} {o:aM} {w:ae} {Fin:bH} {d:Nat}
def Cl(P:Program)(L:Nat->Bool)(o:aM)(v:Value):Prop:=∀f,(lR P L o).has f->val f v=v
structure im(o:aM)(w wl:ae):Prop where
 size:wl.heap.size=w.heap.size
 heap:∀b,o b->wl.heap[b]?=w.heap[b]?
theorem im.cell{wl:ae}(h:im o w wl){b off:Nat}(hb:o b):wl.cell? ⟨b,off,none⟩=w.cell? ⟨b,off,none⟩:=cell_of (h.heap b hb)
theorem Ke{o':aM}(h:∀b,o b->o' b){f:Rn}(hf:(lR P L o').has f):(lR P L o).has f:=⟨hf.inj,fun r hr=>hf.at_ r (h r hr),hf.fn,hf.jF⟩
theorem Cl.up{o':aM}{v:Value}(hv:Cl P L o v)(h:∀b,o b->o' b):Cl P L o' v:=fun f hf=>hv f (Ke h hf)
theorem iK{w':ae}:∀b,o b->grow o w w' b:=fun _ h=>.inl h
theorem TE(hF:bE P L o w){w1 w' wl aI:ae}{F':iZ}{v v':Value}(e1:w1.heap=w.heap)(e1o:w1.os=w.os/\w1.output=w.output)(ft:wl.heap.size=w.heap.size)(Hb:WR F' aI w')(hm:eJ (lR P L o) F' wl w1 aI w')(hv:∀f,F'.has f->v'=val f v)(uL:wl.os=w.os/\wl.output=w.output):
  v'=v/\kS P L o w w' aI v/\(∀r,F'.K r↔grow o w w' r)/\(∀r,F'.K r->F'.φ r=r):=by
 have Xx:wl.heap.size=w1.heap.size:=by rw[e1];exact ft
 have nt:=hm.same Xx;have LP:∀r,F'.K r->F'.φ r=r:=fun r hr=>by
  rcases nt.2 r hr with h1|h1
  ·exact(hm.φ r h1)
  ·exact h1
 have CS:w.heap.size<=w'.heap.size:=by rw[<- e1];exact hm.size
 have hK:F'.K=grow o w w':=by
  funext r;simp only[grow,eq_iff_iff];constructor
  ·intro hr;rcases hm.vb r hr with h1|h1
   ·exact .inl h1
   ·refine .inr ⟨by rw[<- ft];exact h1.1,?_⟩;have:=Hb.here r hr;rw[<- nt.1];exact this
  ·rintro(h1|h1)
   ·exact hm.K r h1
   ·obtain⟨r',a,b⟩:=hm.mine r (by rw[e1];exact h1.1) h1.2;rw[LP r' a] at b;exact b▸a
 have hG:F'.G=P.globals.size:=hm.G;have hLL:F'.L=fun n=>L n=true:=hm.L;have Bg:∀f,(lR P L (grow o w w')).has f->F'.has f:=fun f hf=>⟨hf.inj,fun r hr=>by rw[LP r hr];exact hf.at_ r (hK▸hr),fun n hn=>hf.fn n (by rw[hLL] at hn;exact hn),by rw[hG];exact hf.jF⟩;have hid:=Bg zV LO;have vD:v'=v:=(hv zV hid).trans (zX v);have Bh:∀b,grow o w w' b->w'.heap[b]?=aI.heap[b]?:=fun b hb=>by
  have mo:F'.K b:=hK▸hb;have:=Hb.sr b mo zV hid;rw[LP b mo] at this;rw[this];cases aI.heap[b]?<;>simp[LN]
 refine⟨vD,⟨⟨fun b hb=>?_,fun b hb=>.inl (hF.jF b hb),aR hF.size CS⟩,Bh,fun b h1 h2=>?_,nt.1.symm,CS,fun f hf=>by rw[<- hv f (Bg f hf)];exact vD,?_,?_⟩,fun r=>by rw[hK],LP⟩
 ·have mo:F'.K b:=hK▸hb;have bZ:=Hb.here b mo;refine⟨aI.heap[b],by rw[Bh b hb];exact aG bZ,Hb.OT b mo _ (aG bZ),fun f hf=>?_⟩;have:=Hb.sr b mo f (Bg f hf);rw[LP b mo,Bh b hb,aG bZ,cR] at this;exact(aK this).symm
 ·rw[<- e1];refine hm.rest b fun r hr e=>?_;rw[LP r hr] at e;subst e;have:grow o w w' r:=hK▸hr;rcases this with h3|h3
  ·exact h2 h3
  ·omega
 ·rw[Hb.os,hm.Pb,uL.1]
 ·rw[Hb.output,hm.Ao,uL.2]
theorem Cl.func(hF:bE P L o w){g:Fn}{a b:Array Value}(h:Cl P L o (.func g a b)):∃n,g=.func n/\L n=true:=by
 obtain⟨N,hN⟩:=Bf o;obtain⟨f1,f2,h1,h2,_,hL,hty,hm⟩:=(hF.wr hN).two;have e:=(h f1 h1).trans (h f2 h2).symm;simp only[val,Value.func.injEq] at e;have e:=e.1;cases g with
 |func n =>
  refine⟨n,rfl,aO fun hn=>?_⟩;simp only[sk,Fn.func.injEq] at e;exact hL n (fun x=>hn x) e
 |via t p n q=>simp only[sk,Fn.via.injEq] at e;exact absurd e.1 (hty t)
 |method s=>simp only[sk,Fn.method.injEq] at e;exact absurd e (hm s)
 |methodOf t s=>simp only[sk,Fn.methodOf.injEq] at e;exact absurd e.2 (hm s)
 |yield l=>simp only[sk,Fn.yield.injEq] at e;exact absurd e (hty l)
theorem EY(cH:qf P L P.globals.size)(hF:bE P L o w){ρ:Operand->Value}{op:Oper}(ja:sE L op.op=true)(eY:∀x∈op.op.operands,Cl P L o (ρ x)){R:ae->Next->ae->Prop}(cm:∀wl,im o w wl->∃x aI,(execOp ρ op).run P wl=.ok x aI/\R wl x aI)(n:Nat):
  ∃wl x aI w',im o w wl/\R wl x aI/\(∀e∈(execOp ρ op).events P (w.at n) #[],TB (grow o w w') e/\e.loc≠.mark .disable/\e.loc≠.mark .enable) /\
   ((∃v,x=.value v/\(execOp ρ op).run P (w.at n)=.ok (.value v) w'/\kS P L o w w' aI v)\/(x=.skip/\(execOp ρ op).run P (w.at n)=.ok .skip w'/\kS P L o w w' aI undef)\/(∃f as,x=.enter f as)):=by
 obtain⟨N,hN⟩:=Bf o;have mw:bE P L o (w.at n):=hF.of_heap rfl;have hW:=mw.wr hN;have I7:PF P L P.globals.size (lR P L o):=⟨fun r hr=>⟨hF.jF r hr,rfl⟩,rfl,rfl,EX hF.jF⟩;have aE:im o w (iz N (w.at n)):=⟨kC _ _,fun b hb=>lg N (w.at n) ((hN b).2 hb)⟩;obtain⟨x,aI,e1,hR⟩:=cm _ aE;have hrel:∀f,(lR P L o).has f->Rel P f (iI L f) (execOp ρ op) (execOp ρ op):=fun f hf =>
  AI (I7.ok cH hf) (I7.fn hf) (fun m hm as=>cH.call m hm f (I7.ok cH hf) (I7.fn hf) as) op ja (fun y hy=>(eY y hy f hf).symm) (fun y hy g a b e=>by
   have:=eY y hy;rw[e] at this;exact this.func hF)
 have hc:=vH (iI L) _ _ (lR P L o) (iz N (w.at n)) (w.at n) #[] #[] hrel hW;rw[show((execOp ρ op).runT P (iz N (w.at n)) #[]).1=(execOp ρ op).run P (iz N (w.at n)) by rw[Sem.runT_eq],e1] at hc;obtain⟨F',b,w',WB,k1,k2,k3,k4,k5,k6⟩:=hc;have VP:(execOp ρ op).run P (w.at n)=.ok b w':=by rw[Sem.runT_eq] at k1;exact congrArg Prod.fst k1
 have JH:(execOp ρ op).events P (w.at n) #[]=WB:=by rw[Sem.runT_eq] at k1;exact congrArg Prod.snd k1
 have Qq:∀{v v':Value},(∀f,F'.has f->v'=val f v)->v'=v/\kS P L o w w' aI v/\(∀r,F'.K r↔grow o w w' r)/\(∀r,F'.K r->F'.φ r=r):=fun hv=>TE (w1:=w.at n) hF rfl ⟨rfl,rfl⟩ aE.size k3 k4 hv ⟨rfl,rfl⟩;obtain⟨f0,jW⟩:=k3.some;obtain⟨-,-,hKg,LP⟩:=Qq (v:=undef) (v':=undef) (fun f _=>(kM f).symm);refine⟨_,x,aI,w',aE,hR,fun e he=>?_,?_⟩
 ·obtain⟨new,e2,e3⟩:=k5;rw[JH,e2] at he;have pd:=e3 e (by simpa using he);obtain⟨loc,wt,sy⟩:=e;cases loc with
  |cell ad =>
   obtain⟨r,h1,h2⟩:=pd;rw[LP r h1] at h2;refine⟨zY ?_,an,an⟩;rw[<- h2];exact(hKg r).1 h1
  |obj r=>exact⟨LQ,an,an⟩
  |output =>
   refine⟨fun y hy c hl hk=>?_,an,an⟩;simp only[MemAct.ofEvent,MemAct.touch?,Option.some.injEq] at hy;subst hy;cases hl
  |goroutines =>
   refine⟨fun y hy c hl hk=>?_,an,an⟩;simp only[MemAct.ofEvent,MemAct.touch?,Option.some.injEq] at hy;subst hy;cases hl
  |mark m =>
   have hd:Jp m=true:=pd;cases m<;>first|exact Bool.noConfusion hd|(refine⟨fun y hy c hl hk=>?_,an,an⟩;simp only[MemAct.ofEvent,MemAct.touch?] at hy;cases hy)
 ·have k2':=k2 f0 jW;cases x with
  |value v =>
   cases b<;>first|exact k2'.elim|skip
   rename_i v';obtain⟨rfl,hb,-⟩:=Qq (v:=v) (v':=v') (fun f hf=>k2 f hf);exact .inl ⟨_,rfl,VP,hb⟩
  |skip =>
   cases b<;>first|exact k2'.elim|skip
   obtain⟨-,hb,-⟩:=Qq (v:=undef) (v':=undef) (fun f _=>(kM f).symm);exact .inr (.inl ⟨rfl,VP,hb⟩)
  |enter f as=>exact .inr (.inr ⟨f,as,rfl⟩)
  |_=>exact k2'.elim
section
variable {fn:FuncId} {Q:Exit->Act->aM->ae->Prop} {a:Act} {ops:Array Oper} {i:Nat} {rest:List Nat} {op:Oper}
end
end
section
variable {P:Program} {main:Bool} {b:Frame} {a:Act} {k:List Item} {cs:List Frame} {w:ae}
def l8(w:ae)(fn:FuncId)(tmps:Array Value)(ps:Array Tmp)(as bd:Code):ae :=
 (w.alloc (.deferred (some []))).alloc (.loop {state:=.ready,pending:=none,fn,tmps,params:=ps,assign:=as,body:=bd,defers:=w.heap.size})
theorem zG{x:Operand}{ps:Array Tmp}{as bd:Code}{g:FuncId}{gc:Func}{c:Code}{cap:Array Value}(uG:b.roundOf=none)(hk:b.kind≠.early)(hm:b.mode=.run)(hx:a.eval x=.func (.func g) #[] cap)(hg:P.funcs[g]?=some gc)(gF:(gc.name == "runtime.NumGoroutine")=false)(hb:gc.body=some c):
  stepG P main (G (b.at a (.code (.rangeFunc x ps as bd)::k)) cs) w =
   .go (G (Frame.enter P g (#[.func (.yield (w.heap.size+1)) #[] #[]]++cap) .normal) (b.at ⟨a.tmps,{target:=.collected w.heap.size,args:=#[]}::a.defers⟩ (.inRangeFunc (w.heap.size+1)::k)::cs)) (l8 w b.fn a.tmps ps as bd) #[]:=by
 have kY:(b.kind==CallKind.early)=false:=by simpa using hk
 have hec:∀(fr:Frame) (v:Value),fr.eval (.const v)=v:=fun _ _=>rfl;have Xy:¬gc.name= "runtime.NumGoroutine":=by simpa using gF
 have kB:∀fr:Frame,fr.tmps=a.tmps->fr.eval x=.func (.func g) #[] cap:=fun fr h=>by
  rw[<- hx];cases x<;>simp[Frame.eval,Act.eval,h]
 simp[G,Frame.at,stepG,stepG.exec,uG,Instr.enterLoop,Sem.runT_eq,go_sem,seen_none,GStep.after,stepG.apply,resolve,Deferred.ofValue,invoke,callFunc,hg,hb,l8,kB,hec,Xy,kY]
def cX(w:ae)(l:Nat)(r:Loop):ae:={w with heap:=w.heap.setIfInBounds l (.loop r)}
theorem jA{l:Nat}{r:Loop}(h:w.heap[l]?=some (.loop r)):(Instr.getLoop l).run P w=.ok r w:=by
 simp[Instr.getLoop,getObj,Sem.run,h,go_sem]
theorem nW{l:Nat}{x:Obj}(h:w.heap[l]?=some x)(hx:∀c t z,x≠.cells c t z):(getObj l).run P w=.ok x w:=by
 cases x<;>simp_all[getObj,Sem.run]
theorem pk{l:Nat}{x:Obj}(h:w.heap[l]?=some x)(hx:∀c t z,x≠.cells c t z)(es:Array Event):(getObj l).events P w es=es.push ⟨.obj l,false,x.isChan⟩:=by
 cases x<;>simp_all[getObj,Sem.events,Sem.runT,-Sem.runT_eq]
theorem fV{l:Nat}{x:Obj}(o:Obj)(h:w.heap[l]?=some x)(hx:∀c t z,x≠.cells c t z):(setObj l o).run P w=.ok () {w with heap:=w.heap.setIfInBounds l o}:=by
 cases x<;>simp_all[setObj,Sem.run]
theorem jM{l:Nat}{x:Obj}(o:Obj)(h:w.heap[l]?=some x)(hx:∀c t z,x≠.cells c t z)(es:Array Event):(setObj l o).events P w es=es.push ⟨.obj l,true,o.isChan⟩:=by
 cases x<;>simp_all[setObj,Sem.events,Sem.runT,-Sem.runT_eq]
theorem ma{l:Nat}{r:Loop}(h:w.heap[l]?=some (.loop r))(es:Array Event):(Instr.getLoop l).events P w es=es.push ⟨.obj l,false,false⟩:=by
 simp[Instr.getLoop,pk h an,nW h an,Obj.isChan,Result.evThen]
theorem Hk{ops:Array Oper}{i:Nat}{rest:List Nat}{o:Oper}{x y:Operand}{rR:Array TypeId}{l:Nat}{r:Loop}{v:Value}{t:Tmp}(ho:ops[i]?=some o)(hw:Region.wanted o (yielded ops a.tmps)=true)(hk:b.kind≠.early)(eu:o.op=.call {callee:=.value x,args:=#[y],argTypes:=rR})(hx:a.eval x=.func (.yield l) #[] #[])(hy:a.eval y=v)(hl:w.heap[l]?=some (.loop r))(hp:r.params=#[t]):
  ∃es,stepG P main (G (b.at a (.inRegion ops (i::rest)::k)) cs) w=.go (G (Frame.round l r.fn (r.tmps.setIfInBounds t v) r.assign r.body .normal) (b.at a (.inRegion ops (i::rest)::k)::cs)) w es/\∀e∈es,∃wt sy,e=⟨.obj l,wt,sy⟩:=by
 have kY:(b.kind==CallKind.early)=false:=by simpa using hk
 have hr:∀ρ:Operand->Value,ρ x=.func (.yield l) #[] #[]->ρ y=v->(execOp ρ o).run P w=.ok (.round l r.fn (r.tmps.setIfInBounds t v) r.assign r.body) w:=fun ρ h1 h2=>by
  unfold execOp;simp[eu,resolve,Deferred.ofValue,h1,h2,invoke,Instr.yield,jA hl,hp,Result.andThen]
 have he:∀ρ:Operand->Value,ρ x=.func (.yield l) #[] #[]->ρ y=v->(execOp ρ o).events P w #[]=#[⟨.obj l,false,false⟩]:=fun ρ h1 h2=>by
  unfold execOp;simp[eu,resolve,Deferred.ofValue,h1,h2,invoke,Instr.yield,jA hl,ma hl,hp,Result.evThen]
 refine⟨listed P b.fn a o w,?_,fun e TF=>?_⟩
 ·rw[stepG_oper ho hw];simp[stepG.apply,hr _ hx hy,G,Frame.at,kY,GStep.after,listed]
 ·have:=mem_listed TF;rw[he _ hx hy] at this;simp at this;exact⟨_,_,this⟩
theorem xY{l:Nat}{r:Loop}{tm:Array Value}{fn:FuncId}(hl:w.heap[l]?=some (.loop r))(hs:r.state=.ready):
  ∃es,stepG P main (G {(base fn).at ⟨tm,[]⟩ (.beginRound::k) with roundOf:=some l} cs) w=.go (G {(base fn).at ⟨tm,[]⟩ k with roundOf:=some l} cs) (cX w l {r with state:=.busy}) es/\∀e∈es,∃wt sy,e=⟨.obj l,wt,sy⟩:=by
 have hr:(Instr.beginRound l).run P w=.ok () (cX w l {r with state:=.busy}):=by
  simp[Instr.beginRound,jA hl,hs,fV _ hl,Result.andThen,cX]
 have he:(Instr.beginRound l).events P w #[]=#[⟨.obj l,false,false⟩,⟨.obj l,true,false⟩]:=by
  simp[Instr.beginRound,jA hl,ma hl,hs,fV _ hl,jM _ hl,Result.evThen,Obj.isChan]
 refine⟨seen P fn #[⟨.obj l,false,false⟩,⟨.obj l,true,false⟩],?_,fun e TF=>?_⟩
 ·simp[G,Frame.at,stepG,stepG.exec,stepG.apply,Sem.runT_eq,hr,he,GStep.after,base,Frame.finish,Result.andThen,Result.evThen]
 ·have:=mem_seen TF;simp at this;rcases this with rfl|rfl<;>exact⟨_,_,rfl⟩
theorem Bl{l:Nat}{r:Loop}{tm:Array Value}{fn:FuncId}{c:Frame}(hl:w.heap[l]?=some (.loop r)):
  ∃es,stepG P main (G {(base fn).at ⟨tm,[]⟩ [] with roundOf:=some l} (c::cs)) w=.go (G (c.finish (.bool true)) cs) (cX w l {r with state:=.ready,pending:=none}) es/\∀e∈es,∃wt sy,e=⟨.obj l,wt,sy⟩:=by
 have hr:(Instr.endRound l none).run P w=.ok (.bool true) (cX w l {r with state:=.ready,pending:=none}):=by
  simp[Instr.endRound,jA hl,fV _ hl,Result.andThen,cX]
 have he:(Instr.endRound l none).events P w #[]=#[⟨.obj l,false,false⟩,⟨.obj l,true,false⟩]:=by
  simp[Instr.endRound,jA hl,ma hl,fV _ hl,jM _ hl,Result.evThen,Obj.isChan]
 refine⟨seen P fn #[⟨.obj l,false,false⟩,⟨.obj l,true,false⟩],?_,fun e TF=>?_⟩
 ·simp[G,Frame.at,stepG,stepG.exec,Sem.runT_eq,hr,he,GStep.after,base,doReturn]
 ·have:=mem_seen TF;simp at this;rcases this with rfl|rfl<;>exact⟨_,_,rfl⟩
theorem CW{l:Nat}{r:Loop}(hl:w.heap[l]?=some (.loop r))(hs:r.state=.ready)(hp:r.pending=none)(uG:b.mode=.run):
  ∃es,stepG P main (G (b.at a (.endRangeFunc l::k)) cs) w=.go (G (b.at a k) cs) (cX w l {r with state:=.exhausted}) es/\∀e∈es,∃wt sy,e=⟨.obj l,wt,sy⟩:=by
 have hr:(Instr.endLoop l).run P w=.ok none (cX w l {r with state:=.exhausted}):=by
  simp[Instr.endLoop,jA hl,fV _ hl,hs,hp,Result.andThen,cX]
 have he:(Instr.endLoop l).events P w #[]=#[⟨.obj l,false,false⟩,⟨.obj l,true,false⟩]:=by
  simp[Instr.endLoop,jA hl,ma hl,fV _ hl,jM _ hl,hs,hp,Result.evThen,Obj.isChan]
 refine⟨seen P b.fn #[⟨.obj l,false,false⟩,⟨.obj l,true,false⟩],?_,fun e TF=>?_⟩
 ·simp[G,Frame.at,stepG,stepG.exec,Sem.runT_eq,hr,he,GStep.after]
 ·have:=mem_seen TF;simp at this;rcases this with rfl|rfl<;>exact⟨_,_,rfl⟩
theorem zH{r:Nat}{ds:List Deferred}{todo:List Item}(hd:a.defers={target:=.collected r,args:=#[]}::ds)(hl:w.heap[r]?=some (.deferred (some []))):
  ∃es,stepG P main (G {b.at a todo with mode:=.returning} cs) w=.go (G {b.at ⟨a.tmps,ds⟩ todo with mode:=.returning} cs) {w with heap:=w.heap.setIfInBounds r (.deferred none)} es/\∀e∈es,∃wt sy,e=⟨.obj r,wt,sy⟩:=by
 have hr:(Instr.takeDeferred r).run P w=.ok [] {w with heap:=w.heap.setIfInBounds r (.deferred none)}:=by
  simp[Instr.takeDeferred,nW hl,fV _ hl,Result.andThen]
 have he:(Instr.takeDeferred r).events P w #[]=#[⟨.obj r,false,false⟩,⟨.obj r,true,false⟩]:=by
  simp[Instr.takeDeferred,nW hl,pk hl,fV _ hl,jM _ hl,Result.evThen,Obj.isChan]
 refine⟨seen P b.fn #[⟨.obj r,false,false⟩,⟨.obj r,true,false⟩],?_,fun e TF=>?_⟩
 ·simp[G,Frame.at,stepG,unwind,hd,Sem.runT_eq,hr,he,GStep.after]
 ·have:=mem_seen TF;simp at this;rcases this with rfl|rfl<;>exact⟨_,_,rfl⟩
end
section
variable {P:Program} {L:Nat->Bool} {o:aM} {w:ae} {Fin:bH} {d:Nat} {b:Frame} {a:Act} {k:List Item} {cs:List Frame} {ops:Array Oper} {i:Nat} {rest:List Nat} {op:Oper}
section
variable {fn:FuncId} {g:aS} {g':Value->aS} {gk:aS}
theorem zZ(cH:qf P L P.globals.size)(hF:bE P L o w)(hs:g.status=.running)(ki:∀w1 v w',(execOp a.eval op).run P w1=.ok (.value v) w'->stepG P true g w1=.go (g' v) w' (listed P fn a op w1))(ja:sE L op.op=true)(eY:∀x∈op.op.operands,Cl P L o (a.eval x)){R:ae->Value->ae->Prop}(cm:∀wl,im o w wl->∃v aI,(execOp a.eval op).run P wl=.ok (.value v) aI/\R wl v aI)(h:∀wl v aI w',im o w wl->R wl v aI->kS P L o w w' aI v->XB P Fin d (grow o w w') (g' v) w'):XB P Fin d o g w:=by
 refine bJ.step o _ w hs fun w1 kR=>?_;obtain⟨n,rfl⟩:=kR;obtain⟨wl,x,aI,w',aE,⟨v,rfl,hR⟩,iH,fy⟩:=EY cH hF ja eY (R:=fun wl x aI=>∃v,x=.value v/\R wl v aI) (fun wl aE=>by
  obtain⟨v,aI,e1,e2⟩:=cm wl aE;exact⟨_,aI,e1,v,rfl,e2⟩) n
 rcases fy with⟨v',vD,hr,hb⟩|⟨vD,_⟩|⟨f,as,vD⟩
 ·cases vD;exact⟨_,_,_,ki _ _ _ hr,⟨fun e he=>⟨(iH e (mem_listed he)).1.Qj,(iH e (mem_listed he)).2⟩,hb.gO,hb.os,hb.output⟩,h wl v aI w' aE hR hb⟩
 ·cases vD
 ·cases vD
theorem xZ(cH:qf P L P.globals.size)(hF:bE P L o w)(hs:g.status=.running)(ki:∀w1 v w',(execOp a.eval op).run P w1=.ok (.value v) w'->stepG P true g w1=.go (g' v) w' (listed P fn a op w1))(ja:sE L op.op=true)(eY:∀x∈op.op.operands,Cl P L o (a.eval x)){v:Value}(cm:∀wl,im o w wl->(execOp a.eval op).run P wl=.ok (.value v) wl)(h:Cl P L o v->XB P Fin d o (g' v) w):XB P Fin d o g w:=by
 refine bJ.step o _ w hs fun w1 kR=>?_;obtain⟨n,rfl⟩:=kR;obtain⟨wl,x,aI,w',aE,⟨rfl,rfl⟩,iH,fy⟩:=EY cH hF ja eY (R:=fun wl x aI=>x=.value v/\aI=wl) (fun wl aE=>⟨_,wl,cm wl aE,rfl,rfl⟩) n;rcases fy with⟨v',vD,hr,hb⟩|⟨vD,_⟩|⟨f,as,vD⟩
 ·cases vD;have hr0:=cm (w.at n) ⟨rfl,fun _ _=>rfl⟩;rw[hr] at hr0;cases hr0;have eY:Cl P L o v:=by have:=hb.val;rw[show grow o w (w.at n)=o from jU o rfl] at this;exact this
  exact⟨_,_,_,ki _ _ _ hr,⟨fun e he=>⟨(iH e (mem_listed he)).1.Qj,(iH e (mem_listed he)).2⟩,ag _,rfl,rfl⟩,by rw[bS];exact bJ.rely _ _ _ _ (h eY) ⟨n,rfl⟩⟩
 ·cases vD
 ·cases vD
theorem Bm(cH:qf P L P.globals.size)(hF:bE P L o w)(hs:g.status=.running)(ki:∀w1 w',(execOp a.eval op).run P w1=.ok .skip w'->stepG P true g w1=.go gk w' (listed P fn a op w1))(ja:sE L op.op=true)(eY:∀x∈op.op.operands,Cl P L o (a.eval x)){R:ae->ae->Prop}(cm:∀wl,im o w wl->∃aI,(execOp a.eval op).run P wl=.ok .skip aI/\R wl aI)(h:∀wl aI w',im o w wl->R wl aI->kS P L o w w' aI undef->XB P Fin d (grow o w w') gk w'):XB P Fin d o g w:=by
 refine bJ.step o _ w hs fun w1 kR=>?_;obtain⟨n,rfl⟩:=kR;obtain⟨wl,x,aI,w',aE,⟨rfl,hR⟩,iH,fy⟩:=EY cH hF ja eY (R:=fun wl x aI=>x=.skip/\R wl aI) (fun wl aE=>by
  obtain⟨aI,e1,e2⟩:=cm wl aE;exact⟨_,aI,e1,rfl,e2⟩) n
 rcases fy with⟨v',vD,_⟩|⟨_,hr,hb⟩|⟨f,as,vD⟩
 ·cases vD
 ·exact⟨_,_,_,ki _ _ hr,⟨fun e he=>⟨(iH e (mem_listed he)).1.Qj,(iH e (mem_listed he)).2⟩,hb.gO,hb.os,hb.output⟩,h wl aI w' aE hR hb⟩
 ·cases vD
end
theorem Bn(cH:qf P L P.globals.size)(hF:bE P L o w)(ho:ops[i]?=some op)(hw:Region.wanted op (yielded ops a.tmps)=true)(hk:b.kind≠.early)(ja:sE L op.op=true)(eY:∀x∈op.op.operands,Cl P L o (a.eval x)){dd:Option Tmp}(hd:op.dst=dd){R:ae->Value->ae->Prop}(cm:∀wl,im o w wl->∃v aI,(execOp a.eval op).run P wl=.ok (.value v) aI/\R wl v aI)(h:∀wl v aI w',im o w wl->R wl v aI->kS P L o w w' aI v->XB P Fin d (grow o w w') (G (b.at (a.put dd v) (.inRegion ops rest::k)) cs) w'):XB P Fin d o (G (b.at a (.inRegion ops (i::rest)::k)) cs) w :=
 zZ (g':=fun v=>G (b.at (a.put dd v) (.inRegion ops rest::k)) cs) cH hF rfl (fun w1 v w' hr=>by subst hd;exact dN ho hw hk hr) ja eY cm h
theorem me(cH:qf P L P.globals.size)(hF:bE P L o w)(ho:ops[i]?=some op)(hw:Region.wanted op (yielded ops a.tmps)=true)(hk:b.kind≠.early)(ja:sE L op.op=true)(eY:∀x∈op.op.operands,Cl P L o (a.eval x)){dd:Option Tmp}(hd:op.dst=dd){v:Value}(cm:∀wl,im o w wl->(execOp a.eval op).run P wl=.ok (.value v) wl)(h:Cl P L o v->XB P Fin d o (G (b.at (a.put dd v) (.inRegion ops rest::k)) cs) w):XB P Fin d o (G (b.at a (.inRegion ops (i::rest)::k)) cs) w :=
 xZ (g':=fun v=>G (b.at (a.put dd v) (.inRegion ops rest::k)) cs) cH hF rfl (fun w1 v w' hr=>by subst hd;exact dN ho hw hk hr) ja eY cm h
theorem yV(cH:qf P L P.globals.size)(hF:bE P L o w)(ho:ops[i]?=some op)(hw:Region.wanted op (yielded ops a.tmps)=true)(hk:b.kind≠.early)(ja:sE L op.op=true)(eY:∀x∈op.op.operands,Cl P L o (a.eval x)){dd:Option Tmp}(hd:op.dst=dd){R:ae->ae->Prop}(cm:∀wl,im o w wl->∃aI,(execOp a.eval op).run P wl=.ok .skip aI/\R wl aI)(h:∀wl aI w',im o w wl->R wl aI->kS P L o w w' aI undef->XB P Fin d (grow o w w') (G (b.at (a.put dd undef) (.inRegion ops rest::k)) cs) w'):XB P Fin d o (G (b.at a (.inRegion ops (i::rest)::k)) cs) w :=
 Bm (gk:=G (b.at (a.put dd undef) (.inRegion ops rest::k)) cs) cH hF rfl (fun w1 w' hr=>by subst hd;exact jk ho hw hk hr) ja eY cm h
theorem kS.alloc{wl aI w':ae}{v:Value}(h:kS P L o w w' aI v)(hF:bE P L o w)(ha:im o w wl){x:Obj}(e:aI=wl.alloc x):w'.heap.size=w.heap.size+1/\(∀b,b<w.heap.size->w'.heap[b]?=w.heap[b]?)/\w'.heap[w.heap.size]?=some x:=by
 have hs:aI.heap.size=w.heap.size+1:=by rw[e];simp[ha.size]
 refine⟨by rw[h.size,hs],fun b hb=>?_,?_⟩
 ·by_cases ho:o b
  ·rw[h.same b (.inl ho),e,RowKit.Below.heap_alloc wl x b (by rw[ha.size];exact hb),ha.heap b ho]
  ·exact h.rest b hb ho
 ·rw[h.same _ (.inr ⟨ag _,by rw[h.size,hs];omega⟩),e];show(wl.heap.push x)[w.heap.size]?=_;rw[<- ha.size];simp
theorem kS.store{wl aI w':ae}{v:Value}(h:kS P L o w w' aI v)(ha:im o w wl){A:Nat}(hA:o A)(hs:aI.heap.size=wl.heap.size)(hh:∀b,b≠A->aI.heap[b]?=wl.heap[b]?):w'.heap.size=w.heap.size/\(∀b,b≠A->w'.heap[b]?=w.heap[b]?)/\w'.heap[A]?=aI.heap[A]?/\grow o w w'=o:=by
 have hz:w'.heap.size=w.heap.size:=by rw[h.size,hs,ha.size]
 refine⟨hz,fun b hb=>?_,h.same A (.inl hA),jU o hz⟩;by_cases bZ:b<w.heap.size
 ·by_cases ho:o b
  ·rw[h.same b (.inl ho),hh b hb,ha.heap b ho]
  ·exact h.rest b bZ ho
 ·rw[cb aa,cb aa]
def atR(f:FuncId)(l:Nat)(tm:Array Value)(k:List Item):Frame:={(base f).at ⟨tm,[]⟩ k with roundOf:=some l}
theorem round_eq(f:FuncId)(l:Nat)(tm:Array Value)(Nv bd:Code):Frame.round l f tm Nv bd .normal=atR f l tm [.code Nv,.beginRound,.code bd]:=rfl
section
variable {f:FuncId} {l:Nat} {tm:Array Value} {main:Bool}
theorem wF{id:Nat}{ops:Array Oper}:stepG P main (G (atR f l tm (.code (.region id ops false)::k)) cs) w=.go (G (atR f l tm (.inRegion ops (List.range ops.size)::k)) cs) w #[]:=by simp[G,stepG,stepG.exec,Frame.at,atR]
theorem qp{ops:Array Oper}:stepG P main (G (atR f l tm (.inRegion ops []::k)) cs) w=.go (G (atR f l tm k) cs) w #[]:=by simp[G,stepG,stepG.exec,Frame.at,atR]
theorem Hl{id:Nat}{c:Code}:stepG P main (G (atR f l tm (.code (.block id c)::k)) cs) w=.go (G (atR f l tm (.code c :: .inBlock id::k)) cs) w #[]:=by simp[G,stepG,stepG.exec,Frame.at,atR]
theorem CX{id:Nat}:stepG P main (G (atR f l tm (.inBlock id::k)) cs) w=.go (G (atR f l tm k) cs) w #[]:=by simp[G,stepG,stepG.exec,Frame.at,atR]
theorem nC{ops:Array Oper}{i:Nat}{rest:List Nat}{o:Oper}{v:Value}{w':ae}(ho:ops[i]?=some o)(hw:Region.wanted o (yielded ops tm)=true)(qZ:∀c,o.op≠.defer c)(hr:(execOp (Act.eval ⟨tm,[]⟩) o).run P w=.ok (.value v) w'){dd:Option Tmp}(hd:o.dst=dd):
  stepG P main (G (atR f l tm (.inRegion ops (i::rest)::k)) cs) w=.go (G (atR f l (Act.put ⟨tm,[]⟩ dd v).tmps (.inRegion ops rest::k)) cs) w' (listed P f ⟨tm,[]⟩ o w):=by
 subst hd;have he:(atR f l tm (.inRegion ops (i::rest)::k)).eval=Act.eval ⟨tm,[]⟩:=by funext x;cases x<;>rfl
 have AP:(atR f l tm (.inRegion ops (i::rest)::k)).finish v=atR f l (Act.put ⟨tm,[]⟩ o.dst v).tmps (.inRegion ops rest::k):=by
  simp only[Frame.finish,atR,Frame.at,ho,Option.bind_some];cases o.dst<;>rfl
 have Qr:stepG P main (G (atR f l tm (.inRegion ops (i::rest)::k)) cs) w=stepG.apply P true (atR f l tm (.inRegion ops (i::rest)::k)) cs none (execOp (Act.eval ⟨tm,[]⟩) o) w:=by
  have h1:(atR f l tm (.inRegion ops (i::rest)::k)).oper?=some o:=by simp[Frame.oper?,atR,Frame.at,ho]
  have h2:stepG P main (G (atR f l tm (.inRegion ops (i::rest)::k)) cs) w=stepG.oper P true (atR f l tm (.inRegion ops (i::rest)::k)) cs none w:=by
   simp[G,stepG,stepG.exec,Frame.at,atR,ho,hw]
  rw[h2];simp only[stepG.oper,h1,he];split
  ·rename_i eu;exact absurd eu (qZ _)
  ·rfl
 rw[Qr,<- AP];simp[stepG.apply,hr,G,GStep.after,listed,atR,Frame.at,base]
theorem Bo{ops:Array Oper}{i:Nat}{rest:List Nat}{o:Oper}{w':ae}(ho:ops[i]?=some o)(hw:Region.wanted o (yielded ops tm)=true)(qZ:∀c,o.op≠.defer c)(hr:(execOp (Act.eval ⟨tm,[]⟩) o).run P w=.ok .skip w'){dd:Option Tmp}(hd:o.dst=dd):
  stepG P main (G (atR f l tm (.inRegion ops (i::rest)::k)) cs) w=.go (G (atR f l (Act.put ⟨tm,[]⟩ dd undef).tmps (.inRegion ops rest::k)) cs) w' (listed P f ⟨tm,[]⟩ o w):=by
 subst hd;have he:(atR f l tm (.inRegion ops (i::rest)::k)).eval=Act.eval ⟨tm,[]⟩:=by funext x;cases x<;>rfl
 have AP:(atR f l tm (.inRegion ops (i::rest)::k)).finish undef=atR f l (Act.put ⟨tm,[]⟩ o.dst undef).tmps (.inRegion ops rest::k):=by
  simp only[Frame.finish,atR,Frame.at,ho,Option.bind_some];cases o.dst<;>rfl
 have Qr:stepG P main (G (atR f l tm (.inRegion ops (i::rest)::k)) cs) w=stepG.apply P true (atR f l tm (.inRegion ops (i::rest)::k)) cs none (execOp (Act.eval ⟨tm,[]⟩) o) w:=by
  have h1:(atR f l tm (.inRegion ops (i::rest)::k)).oper?=some o:=by simp[Frame.oper?,atR,Frame.at,ho]
  have h2:stepG P main (G (atR f l tm (.inRegion ops (i::rest)::k)) cs) w=stepG.oper P true (atR f l tm (.inRegion ops (i::rest)::k)) cs none w:=by
   simp[G,stepG,stepG.exec,Frame.at,atR,ho,hw]
  rw[h2];simp only[stepG.oper,h1,he];split
  ·rename_i eu;exact absurd eu (qZ _)
  ·rfl
 rw[Qr,<- AP];simp[stepG.apply,hr,G,GStep.after,listed,atR,Frame.at,base]
end
theorem qq{g g':aS}{t:ae->ae}{l:Nat}(hs:g.status=.running)(h:∀n,∃es,stepG P true g (w.at n)=.go g' ((t w).at n) es/\∀e∈es,∃wt sy,e=⟨.obj l,wt,sy⟩)(ft:(t w).heap.size=w.heap.size)(hx:XB P Fin d o g' (t w))(Py:(t w).os=w.os/\(t w).output=w.output:=by exact⟨rfl,rfl⟩):XB P Fin d o g w:=by
 refine bJ.step o _ w hs fun w1 kR=>?_;obtain⟨n,rfl⟩:=kR;obtain⟨es,e1,e2⟩:=h n;refine⟨_,_,_,e1,⟨fun e he=>?_,bq ft.symm,Py⟩,?_⟩
 ·obtain⟨wt,sy,rfl⟩:=e2 e he;exact⟨LQ,an,an⟩
 ·rw[jU o (show((t w).at n).heap.size=(w.at n).heap.size from ft)];exact bJ.rely _ _ _ _ hx ⟨n,rfl⟩
theorem oB(h:bE P L o w){l:Nat}{x:Obj}(hx:eF x=false)(hc:∀f,obj f x=x)(hl:o l):bE P L o {w with heap:=w.heap.setIfInBounds l x}:=by
 refine⟨fun b hb=>?_,h.jF,by simpa using h.size⟩;by_cases e:l=b
 ·subst e;exact⟨x,by rw[bR (h.lt hl)],hx,fun f _=>hc f⟩
 ·obtain⟨y,k1,k2,k3⟩:=h.shut b hb;exact⟨y,by rw[aJ e];exact k1,k2,k3⟩
theorem bE.alloc(h:bE P L o w){x:Obj}(hx:eF x=false)(hc:∀f,(lR P L o).has f->obj f x=x):bE P L (fun b=>o b\/b=w.heap.size) (w.alloc x):=by
 refine⟨fun b hb=>?_,fun b hb=>.inl (h.jF b hb),by have:=h.size;simp;omega⟩;rcases hb with hb|rfl
 ·obtain⟨y,k1,k2,k3⟩:=h.shut b hb;exact⟨y,by rw[RowKit.Below.heap_alloc w x b (h.lt hb)];exact k1,k2,fun f hf=>k3 f (Ke (fun _ hb=>.inl hb) hf)⟩
 ·refine⟨x,?_,hx,fun f hf=>hc f (Ke (fun _ hb=>.inl hb) hf)⟩;show(w.heap.push x)[w.heap.size]?=_;simp
theorem Hm{f:FuncId}{l:Nat}{tm:Array Value}{main:Bool}{r:Loop}(hl:w.heap[l]?=some (.loop r))(hs:r.state=.ready):
  ∃es,stepG P main (G (atR f l tm (.beginRound::k)) cs) w=.go (G (atR f l tm k) cs) (cX w l {r with state:=.busy}) es/\∀e∈es,∃wt sy,e=⟨.obj l,wt,sy⟩:=xY hl hs
theorem Nw{f:FuncId}{l:Nat}{tm:Array Value}{main:Bool}{r:Loop}{c:Frame}(hl:w.heap[l]?=some (.loop r)):
  ∃es,stepG P main (G (atR f l tm []) (c::cs)) w=.go (G (c.finish (.bool true)) cs) (cX w l {r with state:=.ready,pending:=none}) es/\∀e∈es,∃wt sy,e=⟨.obj l,wt,sy⟩:=Bl hl
theorem Kf{x:Operand}{ps:Array Tmp}{as bd:Code}{g:FuncId}{gc:Func}{c:Code}{cap:Array Value}(uG:b.roundOf=none)(hk:b.kind≠.early)(hm:b.mode=.run)(hx:a.eval x=.func (.func g) #[] cap)(hg:P.funcs[g]?=some gc)(gF:(gc.name == "runtime.NumGoroutine")=false)(hb:gc.body=some c)(h:XB P Fin d (fun b=>(o b\/b=w.heap.size)\/b=w.heap.size+1) (G (Frame.enter P g (#[.func (.yield (w.heap.size+1)) #[] #[]]++cap) .normal) (b.at ⟨a.tmps,{target:=.collected w.heap.size,args:=#[]}::a.defers⟩ (.inRangeFunc (w.heap.size+1)::k)::cs)) (l8 w b.fn a.tmps ps as bd)):XB P Fin d o (G (b.at a (.code (.rangeFunc x ps as bd)::k)) cs) w:=by
 refine bJ.step o _ w rfl fun w1 kR=>?_;obtain⟨n,rfl⟩:=kR;refine⟨_,_,_,zG uG hk hm hx hg gF hb,⟨an,?_,rfl,rfl⟩,?_⟩
 ·have h1:(l8 (w.at n) b.fn a.tmps ps as bd).heap.size=w.heap.size+2:=by simp[l8,World.at]
  rw[h1];exact Nat.le_add_right _ 2
 ·have e:grow o (w.at n) (l8 (w.at n) b.fn a.tmps ps as bd)=fun b=>(o b\/b=w.heap.size)\/b=w.heap.size+1:=by
   funext y;have h1:(l8 (w.at n) b.fn a.tmps ps as bd).heap.size=w.heap.size+2:=by simp[l8,World.at]
   simp only[grow,h1,eq_iff_iff];constructor
   ·rintro(h2|h2)
    ·exact .inl (.inl h2)
    ·have h3:w.heap.size<=y:=h2.1;have:=h2.2;omega
   ·rintro((h2|h2)|h2)
    ·exact .inl h2
    ·exact .inr ⟨bq h2.symm,aa⟩
    ·exact .inr ⟨show w.heap.size<=y by omega,aa⟩
  rw[e];exact bJ.rely _ _ _ ((l8 w b.fn a.tmps ps as bd).at n) h ⟨n,rfl⟩
section
theorem bN{k:IntKind}{n:Int}:Cl P L o (.int k n):=fun f _=>an
theorem kn{x:Bool}:Cl P L o (.bool x):=fun f _=>an
theorem bf{x:ah}:Cl P L o (.string x):=fun f _=>an
theorem aH{b off:Nat}(h:o b):Cl P L o (.pointer (some ⟨b,off,none⟩)):=fun f hf=>by simp[val,addr,hf.at_ b h,lR]
theorem di{b off l c:Nat}(h:o b):Cl P L o (.slice (some ⟨b,off,none⟩) l c):=fun f hf=>by simp[val,addr,hf.at_ b h,lR]
theorem gS{l c:Nat}:Cl P L o (.slice none l c):=fun f _=>by simp[val]
theorem Aa:Cl P L o (.pointer none):=fun f _=>by simp[val]
theorem cJ{vs:List Value}(h:∀v∈vs,Cl P L o v):Cl P L o (.agg vs.toArray):=fun f hf=>by
 simp only[val]
 congr 1
 simp only[List.map_toArray]
 congr 1
 conv=>rhs;rw[<- List.map_id vs]
 exact cU fun v hv=>h v hv f hf
end
end
end Go.Ren
namespace Go.Conc
open Go.Ren Go.ConcN
section
variable {P:Program} {L:Nat->Bool} {Fin:bH} {d:Nat} {o:aM} {w:ae} {fn:FuncId} {Q:Exit->Act->aM->ae->Prop} {a:Act} {ops:Array Oper} {i:Nat} {rest:List Nat} {op:Oper}
theorem cq(cH:qf P L P.globals.size)(hF:bE P L o w)(ho:ops[i]?=some op)(hw:Region.wanted op (yielded ops a.tmps)=true)(ja:sE L op.op=true)(eY:∀x∈op.op.operands,Cl P L o (a.eval x)){dd:Option Tmp}(hd:op.dst=dd){R:ae->Value->ae->Prop}(cm:∀wl,im o w wl->∃v aI,(execOp a.eval op).run P wl=.ok (.value v) aI/\R wl v aI)(h:∀wl v aI w',im o w wl->R wl v aI->kS P L o w w' aI v->fu (XB P Fin d) fn ops rest Q (a.put dd v) (grow o w w') w'):fu (XB P Fin d) fn ops (i::rest) Q a o w:=by
 intro b k cs hb hk hc;exact Bn cH hF ho hw hk ja eY hd cm fun wl v aI w' h1 h2 h3=>h wl v aI w' h1 h2 h3 b k cs hb hk hc
theorem aP(cH:qf P L P.globals.size)(hF:bE P L o w)(ho:ops[i]?=some op)(hw:Region.wanted op (yielded ops a.tmps)=true)(ja:sE L op.op=true)(eY:∀x∈op.op.operands,Cl P L o (a.eval x)){dd:Option Tmp}(hd:op.dst=dd){v:Value}(cm:∀wl,im o w wl->(execOp a.eval op).run P wl=.ok (.value v) wl)(h:Cl P L o v->fu (XB P Fin d) fn ops rest Q (a.put dd v) o w):fu (XB P Fin d) fn ops (i::rest) Q a o w:=by
 intro b k cs hb hk hc;exact me cH hF ho hw hk ja eY hd cm fun h1=>h h1 b k cs hb hk hc
theorem bD(cH:qf P L P.globals.size)(hF:bE P L o w)(ho:ops[i]?=some op)(hw:Region.wanted op (yielded ops a.tmps)=true)(ja:sE L op.op=true)(eY:∀x∈op.op.operands,Cl P L o (a.eval x)){dd:Option Tmp}(hd:op.dst=dd){R:ae->ae->Prop}(cm:∀wl,im o w wl->∃aI,(execOp a.eval op).run P wl=.ok .skip aI/\R wl aI)(h:∀wl aI w',im o w wl->R wl aI->kS P L o w w' aI undef->fu (XB P Fin d) fn ops rest Q (a.put dd undef) (grow o w w') w'):fu (XB P Fin d) fn ops (i::rest) Q a o w:=by
 intro b k cs hb hk hc;exact yV cH hF ho hw hk ja eY hd cm fun wl aI w' h1 h2 h3=>h wl aI w' h1 h2 h3 b k cs hb hk hc
end
section
variable {P:Program} {m:Bool} {b:Frame} {a:Act} {k:List Item} {cs:List Frame} {w:ae}
theorem Bp{o:Oper}{x:Operand}{f:FuncId}{fn:Func}{cap:Array Value}{args:Array Operand}{rR:Array TypeId}(eu:o.op=.call {callee:=.value x,args,argTypes:=rR})(hx:a.eval x=.func (.func f) #[] cap)(hf:P.funcs[f]?=some fn)(gF:(fn.name == "runtime.NumGoroutine")=false)(hb:fn.body.isNone=false):(execOp a.eval o).run P w=.ok (.enter f (args.map a.eval++cap)) w:=by
 have h1:¬fn.name= "runtime.NumGoroutine":=by simpa using gF
 have h2:¬fn.body=none:=by cases hx:fn.body<;>simp_all
 unfold execOp;simp[eu,hx,resolve,Deferred.ofValue,invoke,callFunc,hf,h1,h2]
theorem wG{o:Oper}{x:Operand}{f:FuncId}{fn:Func}{cap:Array Value}{args:Array Operand}{rR:Array TypeId}(eu:o.op=.call {callee:=.value x,args,argTypes:=rR})(hx:a.eval x=.func (.func f) #[] cap)(hf:P.funcs[f]?=some fn)(gF:(fn.name == "runtime.NumGoroutine")=false)(hb:fn.body.isNone=false)(es:Array Event):(execOp a.eval o).events P w es=es:=by
 have h1:¬fn.name= "runtime.NumGoroutine":=by simpa using gF
 have h2:¬fn.body=none:=by cases hx:fn.body<;>simp_all
 unfold execOp;simp[eu,hx,resolve,Deferred.ofValue,invoke,callFunc,hf,h1,h2]
theorem Kg{R:aM->ae->ae->Prop}{Gu:aM->ae->ae->Array Event->Prop}{X:aM->aS->ae->Prop}{fn:FuncId}{Q:Exit->Act->aM->ae->Prop}{o:aM}(W:fg P m R Gu X){ops:Array Oper}{i:Nat}{rest:List Nat}{op:Oper}{x:Operand}{cap:Array Value}{f:FuncId}{fc:Func}{c:Code}{args:Array Operand}{rR:Array TypeId}(ho:ops[i]?=some op)(hw:Region.wanted op (yielded ops a.tmps)=true)(eu:op.op=.call {callee:=.value x,args,argTypes:=rR})(hx:a.eval x=.func (.func f) #[] cap)(hf:P.funcs[f]?=some fc)(gF:(fc.name == "runtime.NumGoroutine")=false)(fo:fc.body=some c){vs:Array Value}(Nk:args.map a.eval++cap=vs){d:Option Tmp}(hd:op.dst=d)(h:bp P X f vs o w fun v o' w'=>fu X fn ops rest Q (a.put d v) o' w'):fu X fn ops (i::rest) Q a o w:=by
 subst Nk hd;intro b k cs hb hk hc;have mo:fc.body.isNone=false:=by rw[fo];rfl
 refine W.go rfl (fun w1=>?_) (h (b.at a (.inRegion ops (i::rest)::k)) cs fun v o' w' q=>?_)
 ·rw[stepG_enter ho hw hk (Bp eu hx hf gF mo)];have:listed P b.fn a op w1=#[]:=by unfold listed;rw[wG eu hx hf gF mo];exact seen_none P _
  rw[this]
 ·rw[show(b.at a (.inRegion ops (i::rest)::k)).finish v=b.at (a.put op.dst v) (.inRegion ops rest::k) by rw[dF,ho];rfl];exact q b k cs hb hk hc
end
section
variable {P:Program} {m:Bool} {R:aM->ae->ae->Prop} {Gu:aM->ae->ae->Array Event->Prop} {X:aM->aS->ae->Prop} {o:aM} {w:ae} {f:FuncId} {fc:Func} {Post:Value->aM->ae->Prop} {a:Act}
def jf(X:aM->aS->ae->Prop)(f:FuncId)(Post:Value->aM->ae->Prop)(a:Act)(o:aM)(w:ae):Prop :=
 ∀(cf:Frame) (cs:List Frame) (todo:List Item),(∀v o2 w2,Post v o2 w2->X o2 (G (cf.finish v) cs) w2)->X o (G {(base f).at a todo with mode:=.returning} (cf::cs)) w
theorem lO(W:fg P m R Gu X){c:Code}{vs:Array Value}(hf:P.funcs[f]?=some fc)(fo:fc.body=some c)(h:uJ X f c (fun e a' o' w'=>(e=.normal\/e=.ret)/\jf X f Post a' o' w') {tmps:=vs++Array.replicate (fc.ntmps-vs.size) undef,defers:=[]} o w):bp P X f vs o w Post:=by
 intro cf cs hc;rw[ij hf fo];refine h (base f) [] _ rfl (by simp[base]) fun e a' o' w' q=>?_;obtain⟨he,hl⟩:=q;rcases he with rfl|rfl
 ·exact W.go rfl (fun _=>dG) (hl _ _ _ hc)
 ·exact fun todo=>hl _ _ _ hc
theorem Bq(W:fg P m R Gu X)(hf:P.funcs[f]?=some fc)(hd:a.defers=[]){v:Value}(hr:wq P R Gu fc a.tmps o w v)(hx:Post v o w):jf X f Post a o w:=by
 intro cf cs todo hc;refine W.step _ _ _ rfl fun w1 h1=>?_;obtain⟨es,e1,e2⟩:=sT (main:=m) (b:=base f) (a:=a) (todo:=todo) (c:=cf) (cs:=cs) rfl hd hf (hr w1 h1).1;exact⟨_,_,es,e1,(hr w1 h1).2 es e2,by rw[bS];exact W.rely _ _ _ _ (hc v o w hx) h1⟩
theorem lF(W:fg P m R Gu X)(hf:P.funcs[f]?=some fc)(hd:a.defers=[]){v:Value}(hr:ResultsC P fc a.tmps v)(hx:Post v o w):jf X f Post a o w:=by
 intro cf cs todo hc;refine W.go rfl (fun w1=>?_) (hc v o w hx);rw[stepG_leave (b:=base f) rfl hd hf (hr w1).1 (hr w1).2]
theorem p7{Fin:bH}{tmps:Array Value}{v:Value}(cm:∀n,(results fc tmps).run P (w.at n)=.ok v (w.at n))(iH:∀n e,e∈(results fc tmps).events P (w.at n) #[]->∃ad wt sy,e=⟨.cell ad,wt,sy⟩/\o ad.block):wq P (fun _=>AtRel) (GuO Fin) fc tmps o w v:=by
 rintro w1 ⟨n,rfl⟩;refine⟨cm n,fun es GJ=>⟨fun e he=>?_,ag _,rfl,rfl⟩⟩;obtain⟨ad,wt,sy,rfl,hb⟩:=iH n e (GJ e he);rw[bS];exact⟨(zY hb).Qj,an,an⟩
end
section
variable {P:Program} {L:Nat->Bool} {o:aM} {w:ae}
theorem Hn{f:Rn}{c:Array Value}{j:Nat}{v:Value}(hc:c.map (val f)=c)(hv:val f v=v):(c.setIfInBounds j v).map (val f)=c.setIfInBounds j v:=by
 rw[jv,hc,hv]
theorem bE.setCell(h:bE P L o w){K off:Nat}{v:Value}(hv:Cl P L o v):bE P L o (w.setCell ⟨K,off,none⟩ v):=by
 refine⟨fun b hb=>?_,h.jF,by simpa[World.setCell] using h.size⟩;obtain⟨y,k1,k2,k3⟩:=h.shut b hb;by_cases e:K=b
 ·subst e;cases y with
  |cells c t z =>
   refine⟨.cells (c.setIfInBounds off v) t z,by simp[World.setCell,Array.getElem?_modify,k1],rfl,fun f hf=>?_⟩;have:=k3 f hf;simp only[obj,Obj.cells.injEq,and_true] at this |-;exact Hn this (hv f hf)
  |_=>exact⟨_,by simp[World.setCell,Array.getElem?_modify,k1],k2,k3⟩
 ·exact⟨y,by simp[World.setCell,Array.getElem?_modify,e,k1],k2,k3⟩
end
end Go.Conc
