import Derived.Test.YtgjekaaknjgnmaaGreatDoorAb
import Derived.Conc.CompanyDraw
import Derived.Conc.CompanyMem
import Derived.Conc.CompanyWords
import Derived.Conc.DeferLaws
import Derived.Conc.EntryLaws
import Derived.Conc.Listed
import Derived.Conc.MarkLaws
import Derived.Conc.WgGenN3
import Derived.Deep.OwnRows
set_option linter.all false
set_option maxHeartbeats 40000000
set_option maxRecDepth 200000
namespace Go.Ren
open _root_.Option renaming some → so,none → we
open Go.Conc Go.ConcN
section
open Go.ConcR (KK wgBlock WgAt stA smA rd wr Payload DC0)
variable [Payload]
section
variable {P:Program}{T:dj}{V:Nat->ae->Prop}{ff:Nat->(Nat->Prop)->ae->Prop}{cP Fin:eQ}
theorem PU(hT:T.OK)(hV:kz T V ff)(hn:T.n<2147483648)(YN:∀o g w,cP o g w->di P T (RL P T cP Fin) o g w){Sb:Nat->Prop}(tJ:T.Shun=uf Sb){B:Nat}{gs:Array aZ}{a:aZ}{w:ae}{sl:Option (Nat×Nat)}{t:Trace}{q:Nat->Nat}{o0:Nat->Prop}(fy:gs.size=T.m0)(h0:gs[0]?=so a)(hL:Leavers P t gs q)(hP:Past T.Shun B t)(ht:t.size=T.T0)(eH:iY P T V ff cP T.n o0 a w)(VL:∀b,o0 b->T.H0<=b/\b<w.heap.size)(hH:T.H0<=w.heap.size)(pk:WgAt T.ty T.Wg w 0 0)(vO:∀k,k<T.n->∃s r tm,w.heap[T.ch k]?=so (.chan 0 #[] false s r tm))(SK:∀k,k<T.n->T.Idle k w):
  ∃N gH w' rZ t',runNT P N (crowd gs w sl) t=(.next (crowd gH w' rZ),t')/\Joined P T V ff Fin Sb w gH w' t':=by
 have NP:=hT.m0;have key:∀(tag:CTag) (y:jE),jK P T V ff cP Fin tag o0 a w y->mC T.n tag 0 0->Go.ConcN.Mode 0 (λ_=>(⟨7,0,0⟩:WD)) tag 0 0 ->
   gn P T V ff cP Fin t w gs w t {j:=0,own:=λz b=>z=0/\o0 b,cl:=λ_=>we,rc:=λ_ _=>False} (λ_=>⟨7,0,0⟩) (λk=>if 0<k/\k<T.m0 then .inr (q k)else .inr 0) tag a y 0 0:=by
  intro tag y hs htg hm;have e:(λb=>0=0/\o0 b)=o0:=by funext b;simp
  refine⟨by simp[fy],h0,by simp only[true_and];exact hs,by rw[hP.hears];exact htg,λk k0 km=>?_,λi hi=>absurd hi (er _),λk hk=>?_,ar,λi hi=>absurd hi (er _),λk hk=>hL.above k hk,TI.begin ht hP,⟨λx b hb=>(VL b hb.2).1,λx z b h1 h2=>h1.1.trans h2.1.symm,λx b hb=>.inl hb.1⟩,λz b hb=>(VL b hb.2).2,hH,pk,hm,vO,λi k hr=>hr.elim,λ_ _=>rfl,λi k hr=>hr.elim,λi hi=>absurd hi (er _),λk hk e=>?_,λi z hi hz=>?_,⟨#[],ar⟩,dQ.refl w,qH.refl w,SK⟩
  ·have cx:k<gs.size:=aa;refine⟨gs[k],q k,aO cx,by simp[k0,km],hL.old k _ k0 (aO cx)⟩
  ·have:¬(0<k/\k<T.m0):=by simp only at hk;omega
   simp[this]
  ·have:=lt_of_act? e;omega
  ·have:=lt_size_of_getElem? hz;omega
 have run:∀(tag:CTag) (y:jE),jK P T V ff cP Fin tag o0 a w y->mC T.n tag 0 0->Go.ConcN.Mode 0 (λ_=>(⟨7,0,0⟩:WD)) tag 0 0->∃N gH w' rZ t',runNT P N (crowd gs w sl) t=(.next (crowd gH w' rZ),t')/\Joined P T V ff Fin Sb w gH w' t':=by
  intro tag y hs htg hm;have hI:=key tag y hs htg hm;exact PT hT hV hn YN tJ ht hP _ (PC iT.refl iT.trans nC.back _ (hI.ends hT)) gs w t sl _ _ _ tag a y 0 0 rfl hI
 have jX:∀tag,isOpen tag->pend tag=0->(∀vs,tag≠.w2 vs)->Go.ConcN.Mode 0 (λ_=>(⟨7,0,0⟩:WD)) tag 0 0:=λtag h1 h2 h3=>by
  have:=Mode.opn (j:=0) (D:=λ_=>(⟨7,0,0⟩:WD)) h1 (λi hi=>aa) (λvs e=>absurd e (h3 vs));simpa[Vc,sumTo,h2] using this
 cases SL:T.n with
 |zero =>
  rw[SL]at eH;exact run .kd _ (jK.mk (tag:=.kd) ar eH rfl) ⟨SL.symm,rfl⟩ (jX .kd trivial rfl ar)
 |succ r =>
  rw[SL]at eH;exact run (.sp r 5) _ (jK.mk (tag:=.sp r 5) ar eH (by simp[kx])) ⟨aa,aa,.inl ⟨rfl,rfl⟩⟩ (jX (.sp r 5) trivial rfl ar)
theorem zA(o:Nat->Prop)(w:ae):grow o w w=o:=by
 funext b;simp only[grow,eq_iff_iff];exact⟨λh=>h.elim id λh=>absurd h.2 aa,.inl⟩
theorem Pz.refl(o:Nat->Prop)(w:ae):Pz T o w w:=⟨ah _,λ_ _ _=>rfl,rfl,rfl⟩
theorem di.ju{Stop:eQ}{o:Nat->Prop}:∀{n:Nat} {g:aZ} {w:ae},Goes P true (dQ T o) DC0 (λg w=>di P T Stop o g w) n g w->di P T Stop o g w:=by
 intro n
 induction n with
 |zero=>intro g w h;exact h w (dQ.refl w)
 |succ n ih =>
  intro g w h;rcases h with h|⟨hs,h⟩
  ·exact h w (dQ.refl w)
  ·refine di.step hs λw1 qY=>?_;have:=h w1 qY;cases hg:stepG P true g w1 with
   |go g' w' es =>
    rw[hg,goes_go]at this;obtain⟨⟨rfl,rfl⟩,hG⟩:=this;exact⟨g',w',#[],rfl,Pz.refl o w',ar,by rw[zA];exact ih hG⟩
   |_=>rw[hg]at this;exact this.elim
theorem di.one{Stop:eQ}{o:Nat->Prop}{g:aZ}{w:ae}(hs:g.status=.running)(h:∀w1,dQ T o w w1->∃g' es,stepG P true g w1=.go g' w1 es/\(∀e∈es,EvS T o e)/\di P T Stop o g' w1):di P T Stop o g w:=by
 refine di.step hs λw1 qY=>?_;have⟨g',es,e1,e2,e3⟩:=h w1 qY;exact⟨g',w1,es,e1,Pz.refl o w1,by rw[zA];exact e2,by rw[zA];exact e3⟩
end
end
section
open Go.ConcR (KK wgBlock WgAt stA smA rd wr mk)
section
variable {P:Program}{T:dj}{i:Nat}{V:Nat->ae->Prop}{E:bL}{L:Nat->Bool}{Gm:Nat}
def Fo{F:jC}{o rc:Nat->Prop}(hF:∀r,F.K r->o (F.φ r)){e:Event}(h:xD F e):NK T i o rc e:=by
 obtain⟨loc,wt,sy⟩:=e;cases loc with
 |cell a =>
  obtain⟨r,h1,h2⟩:=h;refine⟨λx hx _=>.inl ⟨a.block,by rw[<- h2];exact hF r h1,?_⟩,ar,ar,ar⟩;simp only[MemAct.ofEvent,MemAct.touch?,aA]at hx;subst hx;rfl
 |obj b =>
  obtain⟨r,h1,h2⟩:=h;refine⟨λx hx _=>.inl ⟨b,by rw[<- h2];exact hF r h1,?_⟩,ar,ar,ar⟩;cases wt<;>cases sy<;>simp only[MemAct.ofEvent,MemAct.touch?,aA]at hx;all_goals first|cases hx;done|skip
  all_goals (subst hx;rfl)
 |output =>
  refine⟨λx hx hm=>?_,ar,ar,ar⟩;simp only[MemAct.ofEvent,MemAct.touch?,aA]at hx;subst hx;cases hm
 |goroutines =>
  refine⟨λx hx hm=>?_,ar,ar,ar⟩;simp only[MemAct.ofEvent,MemAct.touch?,aA]at hx;subst hx;cases hm
 |mark m =>
  have hd:Lg m=true:=h;cases m<;>first|exact Bool.noConfusion hd|skip
  all_goals
   refine⟨λx hx hm=>?_,ar,ar,ar⟩;simp only[MemAct.ofEvent,MemAct.touch?]at hx;cases hx
def fu.guW(hT:T.OK){F F':jC}{wl aX w w':ae}{o:Nat->Prop}(h:fu F F' wl w aX w')(W:WR F wl w)(W':WR F' aX w')(hF:∀r,F.K r->o (F.φ r))(ho:∀b,o b->T.H0<=b)(hH:T.H0<=w.heap.size):LH T i o w w':=by
 have key:∀b,b<w.heap.size->¬o b->w'.heap[b]?=w.heap[b]?:=by
  intro b hb hn;refine h.rest b λr hr e=>?_;rcases h.wM r hr with h1|⟨_,h1⟩
  ·rw[h.φ r h1]at e;exact hn (e▸hF r h1)
  ·omega
 have old:∀b,T.Sh b->w'.heap[b]?=w.heap[b]?:=λb hb=>key b (by have:=(hT.sh b hb).1;omega) (λhx=>by have:=ho b hx;have:=(hT.sh b hb).1;omega);refine⟨h.size,λb h1 h2 _=>key b h1 h2,λb cs ty fz hb hx=>⟨cs,by rw[old b hb];exact hx,rfl⟩,λa ha _=>cell_of (old _ ha),?_,?_⟩
 ·rw[W'.os,h.R7,<- W.os]
 ·rw[W'.output,h.BO,<- W.output]
def fu.owned{F F':jC}{wl aX w w':ae}{o:Nat->Prop}(h:fu F F' wl w aX w')(W':WR F' aX w')(hF:∀r,F.K r->o (F.φ r)):∀r,F'.K r->grow o w w' (F'.φ r):=by
 intro r hr;rcases h.wM r hr with h1|⟨_,h1⟩
 ·rw[h.φ r h1];exact .inl (hF r h1)
 ·exact .inr ⟨h1,W'.there r hr⟩
def aside(o:Nat->Prop)(F:jC):Nat->Prop:=λb=>o b/\∀r,F.K r->F.φ r≠b
def fu.Cv(hT:T.OK)(hi:i<T.n){F F':jC}{wl aX w w':ae}{o rc:Nat->Prop}(h:fu F F' wl w aX w')(W:WR F wl w)(W':WR F' aX w')(hF:∀r,F.K r->o (F.φ r))(ho:∀b,o b->T.H0<=b/\b<w.heap.size)(hH:T.H0<=w.heap.size){o1:Nat->Prop}(Gw:∀b,o1 b->o b/\∀r,F.K r->F.φ r≠b):cY T i o1 rc w w':=by
 have key:∀b,b<w.heap.size->(∀r,F.K r->F.φ r≠b)->w'.heap[b]?=w.heap[b]?:=by
  intro b hb hn;refine h.rest b λr hr e=>?_;rcases h.wM r hr with h1|⟨_,h1⟩
  ·rw[h.φ r h1]at e;exact hn r h1 e
  ·omega
 have old:∀b,b<T.H0->w'.heap[b]?=w.heap[b]?:=λb hb=>key b aa (λr hr e=>by have:=(ho _ (hF r hr)).1;omega);have pz:∀k,k<T.n->w'.heap[T.ch k]?=w.heap[T.ch k]?:=λk hk=>old _ (hT.ch k hk).1;refine⟨h.size,λb hb=>key b (ho b (Gw b hb).1).2 (Gw b hb).2,λb h1 _ _ _=>old b h1,λb cs ty fz hb hx=>⟨cs,by rw[old b (hT.sh b hb).1];exact hx,rfl⟩,λa ha=>?_,λk s r tm c hk hh=>⟨c,by rw[pz k hk];exact hh,id⟩,pz i hi,gv (old _ hT.wg),?_,?_⟩
 ·have k1:∀k,T.jV k (.cell a)->w'.cell? a=w.cell? a:=by
   intro k fq;have⟨a',e,hs⟩:=hT.ownSh k _ fq;cases e;exact cell_of (old _ (hT.sh _ hs).1)
  rcases ha with ha|⟨k,_,ha⟩
  ·exact k1 i ha
  ·exact k1 k ha
 ·rw[W'.os,h.R7,<- W.os]
 ·rw[W'.output,h.BO,<- W.output]
def cY.less{o o1 rc:Nat->Prop}{w w1:ae}(h:cY T i o rc w w1)(ho:∀b,o1 b->o b):cY T i o1 rc w w1 :=
 ⟨h.size,λb hb=>h.own b (ho b hb),h.ro,h.sh,h.mine,h.chan,h.Ct,h.wg,h.os,h.output⟩
def gM.call(hT:T.OK)(hi:i<T.n)(dc:rT P L Gm){Bq:FuncId}{Q:Value->ae->Prop}{c:Frame}{cs:List Frame}{rc:Nat->Prop}{w0:ae}{o0:Nat->Prop}{F0:jC}(SM:∀v v' F' o' aX w',Q v aX->(∀f,F'.has f->v'=val f v)->WR F' aX w'->(∀b,o0 b->o' b)->(∀r,F'.K r->o' (F'.φ r))->(∀b,o' b->T.H0<=b/\b<w'.heap.size)->(∀r,F0.K r->F'.K r/\F'.φ r=F0.φ r)->cY T i (aside o0 F0) rc w0 w' ->
   gM P T i V E ⟨G (c.finish v') cs,o',rc,w'⟩)(x:aZ×ae)(Gy:Acc (Nx P (kR P Bq Q)) x):
  ∀(F:jC) (o:Nat->Prop) (gr:aZ) (w:ae),xX P L Gm (kR P Bq Q) (c::cs) F (x.1,WT x.2 w.tape w.drawn) gr w->(∀r,F.K r->o (F.φ r))->(∀b,o b->T.H0<=b/\b<w.heap.size)->T.H0<=w.heap.size->(∀b,o0 b->o b)->(∀r,F0.K r->F.K r/\F.φ r=F0.φ r) ->
   (∀b,aside o0 F0 b->∀r,F.K r->F.φ r≠b)->cY T i (aside o0 F0) rc w0 w->gM P T i V E ⟨gr,o,rc,w⟩:=by
 have hS:=Br (P:=P) Bq Q
 induction Gy with
 |intro x _ ih =>
 intro F o gr w Pu hF ho hH NG hF0 hap hrel;have cJ:gr.status=.running:=xY Pu;refine gM.intro ⟨cJ,.inl λw1 qY=>?_⟩;have A9:LD F w w1:=⟨qY.size,λr hr=>qY.own _ (hF r hr),qY.os,qY.output⟩;have Pv:=Pu.others A9;have Gw:∀b,o b->T.H0<=b/\b<w1.heap.size:=λb hb=>⟨(ho b hb).1,bz (ho b hb).2 qY.size⟩;have VO:T.H0<=w1.heap.size:=aY hH qY.size;have tG:WR F (WT x.2 w1.tape w1.drawn) w1:=by
  obtain⟨_,_,_,_,_,_,_,_,_,hW,_⟩:=Pv;exact hW
 have YP:cY T i (aside o0 F0) rc w0 w1:=hrel.trans (qY.less λb hb=>NG b hb.1);have Ew:∀(w':ae),w1.heap.size<=w'.heap.size->∀b,grow o w1 w' b->T.H0<=b/\b<w'.heap.size:=λw' hs b hb=>by
  rcases hb with hb|hb
  ·exact⟨(Gw b hb).1,bz (Gw b hb).2 hs⟩
  ·exact⟨aa,hb.2⟩
 by_cases hs:kR P Bq Q x.1 x.2
 ·have⟨v,v',F',oz,es,e1,e2,e3,e4,e5,e6,e7⟩:=Pv.ret dc (hS.tape _ _ _ _ hs) false;refine⟨_,oz,es,e1,e5.guW hT tG e4 hF (λb hb=>(ho b hb).1) VO,λe he=>Fo (e5.owned e4 hF) (e6 e he),?_⟩;refine SM v v' F' _ _ oz e2 e3 e4 (λb hb=>.inl (NG b hb)) (e5.owned e4 hF) (Ew oz e5.size) (λr hr=>⟨e5.K r (hF0 r hr).1,(e5.φ r (hF0 r hr).1).trans (hF0 r hr).2⟩) (YP.trans ?_);exact e5.Cv hT hi tG e4 hF Gw VO λb hb=>⟨NG b hb.1,hap b hb⟩
 ·have⟨y,F',RJ,oz,es,e1,e2,e3,e4,e5,e6⟩:=Pv.step dc hS (λh=>hs (hS.back h)) false;have Ex:WR F' y.2 oz:=by obtain⟨_,_,_,_,_,_,_,_,_,hW,_⟩:=e3;exact hW
  have hyt:(y.1,WT y.2 oz.tape oz.drawn)=y:=by rw[Ex.tape,Ex.drawn];rfl
  refine⟨RJ,oz,es,e1,e4.guW hT tG Ex hF (λb hb=>(ho b hb).1) VO,λe he=>Fo (e4.owned Ex hF) (e5 e he),?_⟩;refine ih y (YA hS e2) F' (grow o w1 oz) RJ oz (by rw[hyt];exact e3) (e4.owned Ex hF) (Ew oz e4.size) (aY VO e4.size) (λb hb=>.inl (NG b hb)) (λr hr=>⟨e4.K r (hF0 r hr).1,(e4.φ r (hF0 r hr).1).trans (hF0 r hr).2⟩) (λb hb r hr e=>?_) (YP.trans ?_)
  ·rcases e4.wM r hr with h1|⟨_,h1⟩
   ·rw[e4.φ r h1]at e;exact hap b hb r h1 e
   ·have:=(Gw b (NG b hb.1)).2;omega
  ·exact e4.Cv hT hi tG Ex hF Gw VO λb hb=>⟨NG b hb.1,hap b hb⟩
end
end
abbrev aM:=Nat->Prop
structure fH(P:Program)(m:Bool)(R:aM->ae->ae->Prop)(Gu:aM->ae->ae->Array Event->Prop)(X:aM->aZ->ae->Prop):Prop where
 step:∀o g w,g.status=.running->(∀w1,R o w w1->∃g' w' es,stepG P m g w1=.go g' w' es/\Gu o w1 w' es/\X (grow o w1 w') g' w')->X o g w
 rely:∀o g w w1,X o g w->R o w w1->X o g w1
 idle:∀o w,Gu o w w #[]
def cm(o:Nat->Prop)(w:ae):grow o w w=o:=by
 funext b;simp only[grow,eq_iff_iff];exact⟨λh=>h.elim id λh=>absurd h.2 aa,.inl⟩
def kJ(o:Nat->Prop){w w':ae}(h:w'.heap.size=w.heap.size):grow o w w'=o:=by
 funext b;simp only[grow,eq_iff_iff];exact⟨λk=>k.elim id λk=>absurd k.2 aa,.inl⟩
def vn(o:Nat->Prop)(w:ae)(x:Obj):grow o w {w with heap:=w.heap.push x}=λb=>o b\/b=w.heap.size:=by
 funext b;simp only[grow,Array.size_push,eq_iff_iff];exact⟨λh=>h.imp id λh=>aa,λh=>h.imp id λh=>aa⟩
def IN(T:dj)(i:Nat)(rc:Nat->Prop)(o:aM)(w w':ae)(es:Array Event):Prop:=LH T i o w w'/\∀e∈es,NK T i (grow o w w') rc e
def LH.refl{T:dj}{i:Nat}(o:Nat->Prop)(w:ae):LH T i o w w:=⟨ah _,λ_ _ _ _=>rfl,λb cs ty fz _ h=>⟨cs,h,rfl⟩,λ_ _ _=>rfl,rfl,rfl⟩
def cM{P:Program}{T:dj}{i:Nat}{V:Nat->ae->Prop}{E:bL}(rc:Nat->Prop):fH P false (λo=>cY T i o rc) (IN T i rc) (λo g w=>gM P T i V E ⟨g,o,rc,w⟩) where
 step o g w hs h:=gM.intro ⟨hs,.inl λw1 hw=>let ⟨g',w',es,e1,e2,e3⟩:=h w1 hw;⟨g',w',es,e1,e2.1,e2.2,e3⟩⟩
 rely o g w w1 h hr:=h.rely hr
 idle o w:=⟨.refl o w,ar⟩
def ah0(T:dj)(o:aM)(w w':ae)(es:Array Event):Prop:=Pz T o w w'/\∀e∈es,EvS T (grow o w w') e
def nL{P:Program}{T:dj}{Stop:eQ}:fH P true (λo=>dQ T o) (ah0 T) (λo g w=>di P T Stop o g w) where
 step o g w hs h:=di.step hs λw1 hw=>let ⟨g',w',es,e1,e2,e3⟩:=h w1 hw;⟨g',w',es,e1,e2.1,e2.2,e3⟩
 rely o g w w1 h hr:=h.rely hr
 idle o w:=⟨⟨ah _,λ_ _ _=>rfl,rfl,rfl⟩,ar⟩
section
variable {P:Program}{m:Bool}{R:aM->ae->ae->Prop}{Gu:aM->ae->ae->Array Event->Prop}{X:aM->aZ->ae->Prop}
def fH.go(W:fH P m R Gu X){o:aM}{g g':aZ}{w:ae}(hs:g.status=.running)(h:∀w1,stepG P m g w1=.go g' w1 #[])(hx:X o g' w):X o g w :=
 W.step o g w hs λw1 hw=>⟨g',w1,#[],h w1,W.idle _ _,by rw[cm];exact W.rely _ _ _ _ hx hw⟩
def um(X:aM->aZ->ae->Prop)(b:Frame)(k:List Item)(cs:List Frame):Exit->Act->aM->ae->Prop
 | .normal,a,o,w=>X o (G (b.at a k) cs) w
 | .exit id,a,o,w=>∃k',exitTo id k=so k'/\X o (G (b.at a k') cs) w
 | .ret,a,o,w=>∀todo,X o (G {b.at a todo with mode:=.returning} cs) w
 |_,_,_,_=>False
def um.push{b:Frame}{y:Item}{k:List Item}{cs:List Frame}{e:Exit}{a:Act}{o:aM}{w:ae}(hy:y.plain=true)(he:e≠.normal)(h:um X b k cs e a o w):um X b (y::k) cs e a o w:=by
 cases e with
 |normal=>exact absurd rfl he
 |exit id=>obtain⟨k',hk,hg⟩:=h;exact⟨k',by cases y<;>simp_all[exitTo,Item.plain],hg⟩
 |ret=>exact h
 |goto l=>exact h
 |panic ch=>exact h
 |outgrown=>exact h
def wq(X:aM->aZ->ae->Prop)(fn:FuncId)(c:Code)(Q:Exit->Act->aM->ae->Prop)(a:Act)(o:aM)(w:ae):Prop :=
 ∀(b:Frame) (k:List Item) (cs:List Frame),b.fn=fn->b.kind≠.early->(∀e a' o' w',Q e a' o' w'->um X b k cs e a' o' w')->X o (G (b.at a (.code c::k)) cs) w
def eX(X:aM->aZ->ae->Prop)(fn:FuncId)(ops:Array Oper)(todo:List Nat)(Q:Exit->Act->aM->ae->Prop)(a:Act)(o:aM)(w:ae):Prop :=
 ∀(b:Frame) (k:List Item) (cs:List Frame),b.fn=fn->b.kind≠.early->(∀e a' o' w',Q e a' o' w'->um X b k cs e a' o' w')->X o (G (b.at a (.inRegion ops todo::k)) cs) w
def ij(M:Act->aM->ae->Prop)(Q:Exit->Act->aM->ae->Prop):Exit->Act->aM->ae->Prop
 | .normal,a,o,w=>M a o w
 |e,a,o,w=>Q e a o w
def dz(id:Nat)(Q:Exit->Act->aM->ae->Prop):Exit->Act->aM->ae->Prop
 | .exit SN,a,o,w=>if SN=id then Q .normal a o w else Q (.exit SN) a o w
 |e,a,o,w=>Q e a o w
section rules
variable {fn:FuncId}{Q:Exit->Act->aM->ae->Prop}{a:Act}{o:aM}{w:ae}
def IP{c:Code}{Q':Exit->Act->aM->ae->Prop}(h:wq X fn c Q a o w)(hq:∀e a o w,Q e a o w->Q' e a o w):wq X fn c Q' a o w :=
 λb k cs hb hk hc=>h b k cs hb hk λe a' o' w' q=>hc e a' o' w' (hq e a' o' w' q)
def IQ(W:fH P m R Gu X)(h:Q .normal a o w):wq X fn .skip Q a o w:=λb k cs _ _ hc=>W.go rfl (λ_=>cB) (hc _ _ _ _ h)
def NU(W:fH P m R Gu X)(h:Q .ret a o w):wq X fn .ret Q a o w:=λb k cs _ _ hc=>W.go rfl (λ_=>stepG_ret') (hc _ _ _ _ h _)
def IS(W:fH P m R Gu X){id:Nat}(h:Q (.exit id) a o w):wq X fn (.exit id) Q a o w:=λb k cs _ _ hc=>by
 have⟨k',lD,hg⟩:=hc _ _ _ _ h;exact W.go rfl (λ_=>stepG_exit lD) hg
def sM(W:fH P m R Gu X){x y:Code}(h:wq X fn x (ij (λa' o' w'=>wq X fn y Q a' o' w') Q) a o w):wq X fn (.seq x y) Q a o w:=by
 intro b k cs hb hk hc;refine W.go rfl (λ_=>aE) (h b (.code y::k) cs hb hk λe a' o' w' q=>?_);cases e with
 |normal=>exact q b k cs hb hk hc
 |exit id=>exact(hc _ _ _ _ q).push rfl ar
 |ret=>exact(hc _ _ _ _ q).push (y:=.code y) rfl ar
 |goto l=>exact hc _ _ _ _ q
 |panic ch=>exact hc _ _ _ _ q
 |outgrown=>exact hc _ _ _ _ q
def je(W:fH P m R Gu X){c:Operand}{x y:Code}{t:Bool}(hc:a.eval c=.bool t)(h:wq X fn (if t then x else y) Q a o w):wq X fn (.cond c x y) Q a o w :=
 λb k cs hb hk hq=>W.go rfl (λ_=>eC hc) (h b k cs hb hk hq)
def Fp(W:fH P m R Gu X){id:Nat}{c:Code}(h:wq X fn c (dz id Q) a o w):wq X fn (.block id c) Q a o w:=by
 intro b k cs hb hk hc;refine W.go rfl (λ_=>fh) (h b (.inBlock id::k) cs hb hk λe a' o' w' q=>?_);cases e with
 |normal=>exact W.go rfl (λ_=>gw) (hc _ _ _ _ q)
 |exit SN =>
  by_cases hid:SN=id
  ·simp only[dz,hid,if_true]at q;exact⟨k,by simp[exitTo,hid],hc _ _ _ _ q⟩
  ·simp only[dz,hid,if_false]at q;have⟨k',lD,hg⟩:=hc _ _ _ _ q;have:(id==SN)=false:=by simp;exact λh=>hid h.symm
   exact⟨k',by simp[exitTo,this,lD],hg⟩
 |ret=>exact λtodo=>hc _ _ _ _ q todo
 |goto l=>exact hc _ _ _ _ q
 |panic ch=>exact hc _ _ _ _ q
 |outgrown=>exact hc _ _ _ _ q
def gT(W:fH P m R Gu X){c:Code}(I:Nat->Act->aM->ae->Prop){N:Nat}(h0:I N a o w)(round:∀n a o w,I n a o w->wq X fn c (ij (λa' o' w'=>∃n',n'<n/\I n' a' o' w') Q) a o w):wq X fn (.loop c) Q a o w:=by
 intro b k cs hb hk hc;have key:∀N a o w,I N a o w->X o (G (b.at a (.code c :: .inLoop c::k)) cs) w:=by
  intro N
  induction N using Nat.strongRecOn with
  |ind N ih =>
   intro a o w hI;refine round N a o w hI b (.inLoop c::k) cs hb hk λe a' o' w' q=>?_;cases e with
   |normal =>
    obtain⟨n',hn,hI'⟩:=q;exact W.go rfl (λ_=>iM) (ih n' hn a' o' w' hI')
   |exit id=>exact(hc _ _ _ _ q).push rfl ar
   |ret=>exact(hc _ _ _ _ q).push (y:=.inLoop c) rfl ar
   |goto l=>exact hc _ _ _ _ q
   |panic ch=>exact hc _ _ _ _ q
   |outgrown=>exact hc _ _ _ _ q
 exact W.go rfl (λ_=>jL) (key N a o w h0)
def CE(W:fH P m R Gu X){id:Nat}{ops:Array Oper}(h:eX X fn ops (List.range ops.size) Q a o w):wq X fn (.region id ops false) Q a o w :=
 λb k cs hb hk hc=>W.go rfl (λ_=>bh) (h b k cs hb hk hc)
def ya(W:fH P m R Gu X){ops:Array Oper}(h:Q .normal a o w):eX X fn ops [] Q a o w:=λb k cs _ _ hc=>W.go rfl (λ_=>au) (hc _ _ _ _ h)
def lE(W:fH P m R Gu X){ops:Array Oper}{i:Nat}{rest:List Nat}{op:Oper}(ho:ops[i]?=so op)(hw:Region.wanted op (yielded ops a.tmps)=true)(h:∀w1,R o w w1->∀K:Act->ae->Prop,(∀a' w',Gu o w1 w' (listed P fn a op w1)/\eX X fn ops rest Q a' (grow o w1 w') w'->K a' w')->uponK op a K ((execOp a.eval op).run P w1)):eX X fn ops (i::rest) Q a o w:=by
 intro b k cs hb hk hc;refine W.step o _ w rfl λw1 h1=>?_;have:=h w1 h1 _ λ_ _ x=>x;revert this;cases hr:(execOp a.eval op).run P w1 with
 |ok x w' =>
  cases x with
  |value v=>intro q;simp only[uponK_value]at q;exact⟨_,_,_,eG ho hw hk hr,hb▸q.1,q.2 b k cs hb hk hc⟩
  |skip=>intro q;simp only[uponK_skip]at q;exact⟨_,_,_,jM ho hw hk hr,hb▸q.1,q.2 b k cs hb hk hc⟩
  |_=>intro q;exact q.elim
 |halt _ _=>intro q;exact q.elim
def jv(W:fH P m R Gu X){ops:Array Oper}{i:Nat}{rest:List Nat}{op:Oper}(ho:ops[i]?=so op)(hw:Region.wanted op (yielded ops a.tmps)=false)(h:eX X fn ops rest Q (a.put op.dst undef) o w):eX X fn ops (i::rest) Q a o w :=
 λb k cs hb hk hc=>W.go rfl (λ_=>stepG_unwanted ho hw) (h b k cs hb hk hc)
def LR(W:fH P m R Gu X){ops:Array Oper}{i:Nat}{rest:List Nat}{op:Oper}{f:FuncId}{fc:Func}{c:Code}{args:Array Operand}{sE:Array TypeId}(ho:ops[i]?=so op)(hw:Region.wanted op (yielded ops a.tmps)=true)(eW:op.op=.call {callee:=.value (.func f),args,argTypes:=sE})(hf:P.funcs[f]?=so fc)(gN:(fc.name == "runtime.NumGoroutine")=false)(fF:fc.body=so c)(h:∀(b:Frame) (k:List Item) (cs:List Frame),b.fn=fn->b.kind≠.early->(∀e a' o' w',Q e a' o' w'->um X b k cs e a' o' w') ->
   X o (G ((base f).at {tmps:=args.map a.eval++Array.replicate (fc.ntmps-(args.map a.eval).size) undef,defers:=[]} [.code c]) (b.at a (.inRegion ops (i::rest)::k)::cs)) w):eX X fn ops (i::rest) Q a o w:=by
 intro b k cs hb hk hc;refine W.go rfl (λw1=>?_) (h b k cs hb hk hc);have:=goes_call (P:=P) (main:=m) (b:=b) (k:=k) (cs:=cs) (w:=w1) (K:=λg' w' es=>stepG P m (G (b.at a (.inRegion ops (i::rest)::k)) cs) w1=.go g' w' es->stepG P m (G (b.at a (.inRegion ops (i::rest)::k)) cs) w1=.go (G ((base f).at {tmps:=args.map a.eval++Array.replicate (fc.ntmps-(args.map a.eval).size) undef,defers:=[]} [.code c]) (b.at a (.inRegion ops (i::rest)::k)::cs)) w1 #[]) ho hw hk eW hf gN fF (λe=>e);cases hg:stepG P m (G (b.at a (.inRegion ops (i::rest)::k)) cs) w1 with
 |go g' w' es=>rw[hg,goes_go]at this;rw[<- this rfl]
 |_=>rw[hg]at this;exact this.elim
end rules
end
def iU(N:Nat->Bool)(w:ae):ae:={w with heap:=w.heap.mapIdx λb o=>if N b then o else .cells #[] 0}
def kY(N:Nat->Bool)(w:ae):(iU N w).heap.size=w.heap.size:=by simp[iU]
def lU(N:Nat->Bool)(w:ae){b:Nat}(h:N b=true):(iU N w).heap[b]?=w.heap[b]?:=by
 simp only[iU,Array.getElem?_mapIdx,h,if_true];cases w.heap[b]?<;>rfl
def IT(N:Nat->Bool)(f:Rn):Prop:=∀r,N r=true->f.b r=r
def IU(N:Nat->Bool)(w:ae):Prop:=∀b,N b=true->∃x,w.heap[b]?=so x/\fl x=false/\∀f,IT N f->obj f x=x
section
variable {P:Program}{T:dj}{i:Nat}{V:Nat->ae->Prop}{E:bL}{L:Nat->Bool}{N:Nat->Bool}
def AH(P:Program)(L:Nat->Bool)(N:Nat->Bool):jC:=⟨λr=>N r=true,id,λn=>L n=true,P.globals.size⟩
def IV{f:Rn}(h:(AH P L N).has f):IT N f:=λr hr=>h.at_ r hr
def SO(h1:P.globals.size≠1)(h2:∀b,N b=true->P.globals.size<=b):E1 (AH P L N) :=
 ⟨λr hr hg=>hg,.inr ⟨λr hr hn=>by have:=h2 r hn;show False;change r<P.globals.size at hr;omega,h1⟩⟩
def SP{w:ae}(hN:IU N w)(h1:P.globals.size≠1)(h2:∀b,N b=true->P.globals.size<=b)(h3:P.globals.size<=w.heap.size):WR (AH P L N) (iU N w) w where
 here r hr:=by have⟨x,hx,_⟩:=hN r hr;rw[kY];exact(aad.1 hx).1
 there r hr:=by have⟨x,hx,_⟩:=hN r hr;exact(aad.1 hx).1
 inj r s _ _ h:=h
 tO r hr f hf:=by
  have⟨x,hx,_,hc⟩:=hN r hr;rw[lU N w hr];show w.heap[r]?=_;rw[hx,aJ,hc f (IV hf)]
 RF r hr o ho:=by
  have⟨x,hx,hp,_⟩:=hN r hr;rw[lU N w hr,hx]at ho;cases ho;exact hp
 os:=rfl
 output:=rfl
 tape:=rfl
 drawn:=rfl
 A3:=SO h1 h2
 Gc:=h3
 Ed:=by rw[kY];exact h3
def yc{w:ae}(hN:IU N w):fI (iU N w):=by
 intro r o ho;by_cases h:N r=true
 ·have⟨x,hx,hp,_⟩:=hN r h;rw[lU N w h,hx]at ho;cases ho;exact hp
 ·have:(iU N w).heap[r]?=(w.heap[r]?).map λ_=>.cells #[] 0:=by
   simp only[iU,Array.getElem?_mapIdx];cases w.heap[r]?<;>simp[h]
  rw[this]at ho;cases hw:w.heap[r]? with
  |none=>rw[hw]at ho;cases ho
  |some x=>rw[hw]at ho;cases ho;rfl
structure CF(T:dj)(i:Nat)(N:Nat->Bool)(o rc o':Nat->Prop)(w w':ae)(F':jC)(aX:ae)(v v':Value):Prop where
 val:∀f,F'.has f->v'=Ren.val f v
 wr:WR F' aX w'
 more:∀b,o b->o' b
 own:∀r,F'.K r->o' (F'.φ r)
 vo:∀b,o' b->T.H0<=b/\b<w'.heap.size
 keep:∀r,N r=true->F'.K r/\F'.φ r=r
 rel:cY T i (λb=>o b/\N b=false) rc w w'
def CF.adt{o rc o':Nat->Prop}{w w' aX:ae}{F':jC}{v v':Value}(h:CF T i N o rc o' w w' F' aX v v'){f:Rn}(hf:F'.has f):IT N f:=λr hr=>(hf.at_ r (h.keep r hr).1).trans (h.keep r hr).2
def CF.plain{o rc o':Nat->Prop}{w w' aX:ae}{F':jC}{v v':Value}(h:CF T i N o rc o' w w' F' aX v v')(hv:∀f,Ren.val f v=v):v'=v:=by
 have⟨f,hf⟩:=h.wr.some;rw[h.val f hf,hv f]
def CF.stays{o rc o':Nat->Prop}{w w' wl aX:ae}{F':jC}{v v':Value}(h:CF T i N o rc o' w w' F' aX v v')(tJ:IU N w)(hwl:∀b,N b=true->wl.heap[b]?=w.heap[b]?)(eH:∀b,N b=true->aX.heap[b]?=wl.heap[b]?):cY T i o rc w w':=by
 have⟨f,hf⟩:=h.wr.some;refine⟨h.rel.size,λb hb=>?_,h.rel.ro,h.rel.sh,h.rel.mine,h.rel.chan,h.rel.Ct,h.rel.wg,h.rel.os,h.rel.output⟩;by_cases hn:N b=true
 ·have⟨x,hx,_,hc⟩:=tJ b hn;have:=h.wr.tO b (h.keep b hn).1 f hf;rw[(h.keep b hn).2,eH b hn,hwl b hn,hx,aJ,hc f (h.adt hf)]at this;rw[this,hx]
 ·exact h.rel.own b ⟨hb,by simpa using hn⟩
def CF.slice{o rc o':Nat->Prop}{w w' aX:ae}{F':jC}{v':Value}{b off l c:Nat}(h:CF T i N o rc o' w w' F' aX (.slice (so ⟨b,off,we⟩) l c) v'):F'.K b/\v'=.slice (so ⟨F'.φ b,off,we⟩) l c/\o' (F'.φ b):=by
 have hK:F'.K b:=by
  refine aN λhn=>?_;have⟨f,g,hf,hg,dE,_⟩:=h.wr.two;have:=(h.val f hf).symm.trans (h.val g hg);simp[Ren.val,addr]at this;exact dE b hn this
 have⟨f,hf⟩:=h.wr.some;refine⟨hK,?_,h.own b hK⟩;rw[h.val f hf];simp[Ren.val,addr,hf.at_ b hK]
end
section
variable {P:Program}{m:Bool}{R:aM->ae->ae->Prop}{Gu:aM->ae->ae->Array Event->Prop}{X:aM->aZ->ae->Prop}{fn:FuncId}{Q:Exit->Act->aM->ae->Prop}{a:Act}{o:aM}{w:ae}
def Fq(W:fH P m R Gu X){ops:Array Oper}{todo:List Nat}{w1:ae}(h:eX X fn ops todo Q a o w)(hr:R o w w1):eX X fn ops todo Q a o w1:=λb k cs hb hk hc=>W.rely _ _ _ _ (h b k cs hb hk hc) hr
def LS(W:fH P m R Gu X){S:ae->Prop}(hS:∀w1,R o w w1->S w1){ops:Array Oper}{i:Nat}{rest:List Nat}{op:Oper}(ho:ops[i]?=so op)(hw:Region.wanted op (yielded ops a.tmps)=true){v:Value}(hr:∀w1,S w1->(execOp a.eval op).run P w1=.ok (.value v) w1)(hg:∀w1,S w1->Gu o w1 w1 (listed P fn a op w1))(h:eX X fn ops rest Q (a.put op.dst v) o w):eX X fn ops (i::rest) Q a o w :=
 lE W ho hw λw1 h1 K hK=>by
  rw[hr w1 (hS w1 h1)];simp only[uponK_value];exact hK _ _ ⟨hg w1 (hS w1 h1),by rw[cm];exact Fq W h h1⟩
def zC(W:fH P m R Gu X){ops:Array Oper}{i:Nat}{rest:List Nat}{op:Oper}(ho:ops[i]?=so op)(hw:Region.wanted op (yielded ops a.tmps)=true){v:Value}(hr:∀w1,(execOp a.eval op).run P w1=.ok (.value v) w1)(hg:∀w1,(execOp a.eval op).events P w1 #[]=#[])(h:eX X fn ops rest Q (a.put op.dst v) o w):eX X fn ops (i::rest) Q a o w :=
 LS W (S:=λ_=>True) (λ_ _=>trivial) ho hw (λw1 _=>hr w1) (λw1 _=>by rw[listed_nil (hg w1)];exact W.idle _ _) h
def GF:Op->Bool
 | .call c=>match c.callee with|.builtin _=>true|_=>false
 |_=>true
def fV(W:fH P m R Gu X){S:ae->Prop}(hS:∀w1,R o w w1->S w1){ops:Array Oper}{i:Nat}{rest:List Nat}{op:Oper}(ho:ops[i]?=so op)(hw:Region.wanted op (yielded ops a.tmps)=true)(hg:∀w1,S w1->Gu o w1 w1 (listed P fn a op w1))(h:∀w1,S w1->∀K:Act->ae->Prop,(∀a',eX X fn ops rest Q a' o w->K a' w1)->uponK op a K ((execOp a.eval op).run P w1)):eX X fn ops (i::rest) Q a o w :=
 lE W ho hw λw1 h1 K hK=>h w1 (hS w1 h1) K λa' q=>hK a' w1 ⟨hg w1 (hS w1 h1),by rw[cm];exact Fq W q h1⟩
def re(W:fH P m R Gu X){ops:Array Oper}{i:Nat}{rest:List Nat}{op:Oper}(ho:ops[i]?=so op)(_hn:GF op.op=true)(hw:Region.wanted op (yielded ops a.tmps)=true)(hg:∀w1,(execOp a.eval op).events P w1 #[]=#[])(h:∀w1,∀K:Act->ae->Prop,(∀a',eX X fn ops rest Q a' o w->K a' w1)->uponK op a K ((execOp a.eval op).run P w1)):eX X fn ops (i::rest) Q a o w :=
 fV W (S:=λ_=>True) (λ_ _=>trivial) ho hw (λw1 _=>by rw[listed_nil (hg w1)];exact W.idle _ _) (λw1 _=>h w1)
def bA(P:Program)(X:aM->aZ->ae->Prop)(f:FuncId)(vs:Array Value)(o:aM)(w:ae)(Post:Value->aM->ae->Prop):Prop :=
 ∀(c:Frame) (cs:List Frame),(∀v o' w',Post v o' w'->X o' (G (c.finish v) cs) w')->X o (G (Frame.enter P f vs .normal) (c::cs)) w
def bA.mono{f:FuncId}{vs:Array Value}{Post IW:Value->aM->ae->Prop}(h:bA P X f vs o w Post)(hp:∀v o' w',Post v o' w'->IW v o' w'):bA P X f vs o w IW :=
 λc cs hc=>h c cs λv o' w' q=>hc v o' w' (hp v o' w' q)
def iN{f:FuncId}{fc:Func}{c:Code}(hf:P.funcs[f]?=so fc)(fF:fc.body=so c)(as:Array Value):Frame.enter P f as .normal=(base f).at {tmps:=as++Array.replicate (fc.ntmps-as.size) undef,defers:=[]} [.code c]:=by
 simp[Frame.enter,hf,fF,base,Frame.at]
def du(W:fH P m R Gu X){ops:Array Oper}{i:Nat}{rest:List Nat}{op:Oper}{f:FuncId}{fc:Func}{c:Code}{args:Array Operand}{sE:Array TypeId}(ho:ops[i]?=so op)(hw:Region.wanted op (yielded ops a.tmps)=true)(eW:op.op=.call {callee:=.value (.func f),args,argTypes:=sE})(hf:P.funcs[f]?=so fc)(gN:(fc.name == "runtime.NumGoroutine")=false)(fF:fc.body=so c){vs:Array Value}(LQ:args.map a.eval=vs){d:Option Tmp}(hd:op.dst=d)(h:bA P X f vs o w λv o' w'=>eX X fn ops rest Q (a.put d v) o' w'):eX X fn ops (i::rest) Q a o w:=by
 subst LQ hd;refine LR W ho hw eW hf gN fF λb k cs hb hk hc=>?_;rw[<- iN hf fF];refine h _ _ λv o' w' q=>?_;rw[show(b.at a (.inRegion ops (i::rest)::k)).finish v=b.at (a.put op.dst v) (.inRegion ops rest::k) by rw[eu,ho];rfl];exact q b k cs hb hk hc
def bD(W:fH P m R Gu X){f:FuncId}{fc:Func}{c:Code}{vs:Array Value}{Post:Value->aM->ae->Prop}(hf:P.funcs[f]?=so fc)(fF:fc.body=so c)(h:wq X f c (λe a' o' w'=>(e=.normal\/e=.ret)/\a'.defers=[]/\∃v,ResultsC P fc a'.tmps v/\Post v o' w') {tmps:=vs++Array.replicate (fc.ntmps-vs.size) undef,defers:=[]} o w):bA P X f vs o w Post:=by
 intro cf cs hc;rw[iN hf fF];have leave:∀(a':Act) (o':aM) (w':ae) (todo:List Item) (v:Value),a'.defers=[]->ResultsC P fc a'.tmps v->Post v o' w'->X o' (G {(base f).at a' todo with mode:=.returning} (cf::cs)) w':=by
  intro a' o' w' todo v hd hr hx;refine W.go rfl (λw1=>?_) (hc v o' w' hx);rw[stepG_leave (b:=base f) rfl hd hf (hr w1).1 (hr w1).2]
 refine h (base f) [] _ rfl (by simp[base]) λe a' o' w' q=>?_;obtain⟨he,hd,v,hr,hx⟩:=q;rcases he with rfl|rfl
 ·exact W.go rfl (λ_=>ew) (leave a' o' w' [] v hd hr hx)
 ·exact λtodo=>leave a' o' w' todo v hd hr hx
def IX(W:fH P m R Gu X){x y:Code}(M:Act->aM->ae->Prop)(hx:wq X fn x (ij M Q) a o w)(hy:∀a' o' w',M a' o' w'->wq X fn y Q a' o' w'):wq X fn (.seq x y) Q a o w :=
 sM W (IP hx λe a' o' w' q=>by cases e<;>first|exact hy _ _ _ q|exact q)
end
section
variable {P:Program}{T:dj}{i:Nat}{V:Nat->ae->Prop}{E:bL}{L:Nat->Bool}{N:Nat->Bool}
abbrev XW(P:Program)(T:dj)(i:Nat)(V:Nat->ae->Prop)(E:bL)(rc:Nat->Prop):aM->aZ->ae->Prop:=λo g w=>gM P T i V E ⟨g,o,rc,w⟩
structure gz(T:dj)(o:aM)(w:ae):Prop where
 vo:∀b,o b->T.H0<=b/\b<w.heap.size
 size:T.H0<=w.heap.size
structure cS(T:dj)(i:Nat)(rc:Nat->Prop)(o:aM)(w:ae)(o':aM)(w':ae):Prop where
 rel:cY T i o rc w w'
 ok:gz T o' w'
 more:∀b,o b->o' b
def cS.refl{rc:Nat->Prop}{o:aM}{w:ae}(h:gz T o w):cS T i rc o w o w:=⟨.refl w,h,λ_ h=>h⟩
def cS.trans{rc:Nat->Prop}{o o' o2:aM}{w w' w2:ae}(h:cS T i rc o w o' w')(k:cS T i rc o' w' o2 w2):cS T i rc o w o2 w2:=⟨h.rel.trans (k.rel.less h.more),k.ok,λb hb=>k.more b (h.more b hb)⟩
def Fs{o:aM}(w:ae)(x:Obj)(hH:T.H0<=w.heap.size)(hT:T.OK):LH T i o w (w.alloc x):=by
 have hh:∀b,b<w.heap.size->(w.alloc x).heap[b]?=w.heap[b]?:=λb hb=>RowKit.Below.heap_alloc w x b hb;refine⟨ar,λb hb _ _=>hh b hb,λb cs ty fz hb hx=>⟨cs,by rw[hh b (by have:=(hT.sh b hb).1;omega)];exact hx,rfl⟩,λa ha _=>cell_of (hh _ (by have:=(hT.sh _ ha).1;omega)),rfl,rfl⟩
def cS.alloc{rc:Nat->Prop}{o:aM}{w w1:ae}(hT:T.OK)(hi:i<T.n)(h:gz T o w)(hr:cY T i o rc w w1)(x:Obj):cS T i rc o w (grow o w1 (w1.alloc x)) (w1.alloc x):=by
 have hh:∀b,b<w1.heap.size->(w1.alloc x).heap[b]?=w1.heap[b]?:=λb hb=>RowKit.Below.heap_alloc w1 x b hb;have hH:=aY h.size hr.size;have old:∀b,b<T.H0->(w1.alloc x).heap[b]?=w1.heap[b]?:=λb hb=>hh b aa;have pz:∀k,k<T.n->(w1.alloc x).heap[T.ch k]?=w1.heap[T.ch k]?:=λk hk=>old _ (hT.ch k hk).1;refine⟨hr.trans ⟨ar,λb hb=>hh b (bz (h.vo b hb).2 hr.size),λb h1 _ _ _=>old b h1,λb cs ty fz hb hx=>⟨cs,by rw[old b (hT.sh b hb).1];exact hx,rfl⟩,λa ha=>?_,λk s r tm c hk hx=>⟨c,by rw[pz k hk];exact hx,id⟩,pz i hi,gv (old _ hT.wg),rfl,rfl⟩,⟨λb hb=>?_,eP⟩,λb hb=>.inl hb⟩
 ·have key:∀k,T.jV k (.cell a)->(w1.alloc x).cell? a=w1.cell? a:=by
   intro k fq;have⟨a',e,hs⟩:=hT.ownSh k _ fq;cases e;exact cell_of (old _ (hT.sh _ hs).1)
  rcases ha with ha|⟨k,_,ha⟩
  ·exact key i ha
  ·exact key k ha
 ·rcases hb with hb|hb
  ·have:=h.vo b hb;have:=hr.size;simp;omega
  ·simp at hb |-;omega
def nN(hT:T.OK)(hi:i<T.n){rc:Nat->Prop}{fn:FuncId}{Q:Exit->Act->aM->ae->Prop}{a:Act}{o:aM}{w:ae}(gd:gz T o w){ops:Array Oper}{j:Nat}{rest:List Nat}{op:Oper}(ho:ops[j]?=so op)(hw:Region.wanted op (yielded ops a.tmps)=true){d:Option Tmp}(hd:op.dst=d)(x:Obj)(cJ:∀w1,(execOp a.eval op).run P w1=.ok (.value (.pointer (so ⟨w1.heap.size,0,we⟩))) (w1.alloc x))(jb:∀w1,(execOp a.eval op).events P w1 #[]=#[])(h:∀A o1 w2,cS T i rc o w o1 w2->o1 A->w2.heap[A]?=so x->w.heap.size<=A->(∀b,o1 b↔o b\/b=A)->eX (XW P T i V E rc) fn ops rest Q (a.put d (.pointer (so ⟨A,0,we⟩))) o1 w2):eX (XW P T i V E rc) fn ops (j::rest) Q a o w:=by
 subst hd;refine lE (cM rc) ho hw λw1 lA K hK=>?_;rw[cJ w1];simp only[uponK_value];refine hK _ _ ⟨⟨Fs _ _ (aY gd.size lA.size) hT,by rw[listed_nil (jb w1)];simp⟩,h w1.heap.size _ _ (cS.alloc hT hi gd lA x) (.inr ⟨ah _,ar⟩) ?_ lA.size λb=>?_⟩
 ·show(w1.heap.push x)[w1.heap.size]?=_;simp
 ·have:=vn o w1 x;exact Iff.of_eq (congrFun this b)
def wW(hT:T.OK)(hi:i<T.n)(dc:rT P L 0)(HM:P.globals.size≠1)(za:P.globals.size<=T.H0){rc:Nat->Prop}{o:aM}{w:ae}{f:FuncId}{vs:Array Value}(hL:L f=true)(gd:gz T o w)(hN:∀b,N b=true->o b)(tJ:IU N w)(uo:∀g,IT N g->vs.map (val g)=vs){R:ae->Value->ae->Prop}(hR:∀wl,LC (R wl))(hRW:∀wl τ d v w',R (WT wl τ d) v w'->R wl v w')(hC:∀wl,(∀b,N b=true->wl.heap[b]?=w.heap[b]?)->w.heap.size<=wl.heap.size->Calls P f vs wl λe w'=>∃v,e=.returned v/\R wl v w'){Post:Value->aM->ae->Prop}(h:∀wl v v' F' o' aX w',(∀b,N b=true->wl.heap[b]?=w.heap[b]?)->w.heap.size<=wl.heap.size->R wl v aX->CF T i N o rc o' w w' F' aX v v'->Post v' o' w'):bA P (XW P T i V E rc) f vs o w Post:=by
 intro c cs hc;have hW:=SP (P:=P) (L:=L) tJ HM (λb hb=>aY za (gd.vo b (hN b hb)).1) (aY za gd.size);have KX:PF P L 0 (AH P L N):=⟨λr hr=>absurd hr (er r),rfl,rfl,SO HM λb hb=>aY za (gd.vo b (hN b hb)).1⟩;have Em:∀g,(AH P L N).has g->Frame.enter P f vs .normal=frame g (Frame.enter P f vs .normal):=λg hg=>by
  have:=uo g (IV hg);simp only[frame,Frame.enter,Array.map_append,this,Array.map_replicate,lB]
 have SQ:Inv P L 0 [gy] (G (Frame.enter P f vs .normal) [gy]) (iU N w) :=
  ⟨AH P L N,_,[],_,[],w,rfl,tZ dc hL _,ar,λg hg=>⟨Em g hg,rfl⟩,hW,yc tJ,KX⟩
 have wu:Good P (kR P f (R (iU N w))) (G (Frame.enter P f vs .normal) [gy]) (iU N w):=by
  refine wo dc (hR _) SQ λτ d=>?_;refine(hC (WT (iU N w) τ d) (λb hb=>lU N w hb) (by show w.heap.size<=(iU N w).heap.size;rw[kY];exact ah _)).mono ?_;rintro e w' ⟨v,rfl,hv⟩;exact⟨v,rfl,hRW _ _ _ _ _ hv⟩
 have Gy:=Iu dc (Br f _) SQ wu;have SU:WT (iU N w) w.tape w.drawn=iU N w:=rfl;refine gM.call hT hi dc (F0:=AH P L N) (o0:=o) (w0:=w) (λv v' F' o' aX w' hQ hv IY hm fq ah2 adu hrel=>?_) _ Gy (AH P L N) o _ w (by
  rw[SU];exact⟨_,[],_,[],rfl,rfl,tZ dc hL _,ar,λg hg=>⟨Em g hg,rfl⟩,hW,yc tJ,KX,wu⟩) (λr hr=>hN r hr) gd.vo gd.size (λb hb=>hb) (λr hr=>⟨hr,rfl⟩) (λb hb r hr=>hb.2 r hr) (.refl w)
 refine hc v' o' w' (h (iU N w) v v' F' o' aX w' (λb hb=>lU N w hb) (by rw[kY];exact ah _) hQ ⟨hv,IY,hm,fq,ah2,adu,hrel.less λb hb=>⟨hb.1,λr hr e=>?_⟩⟩);have:r=b:=e;subst this;have VP:N r=true:=hr;rw[hb.2]at VP;cases VP
def oC(hT:T.OK)(hi:i<T.n)(dc:rT P L 0)(HM:P.globals.size≠1)(za:P.globals.size<=T.H0){rc:Nat->Prop}{o:aM}{w:ae}{f:FuncId}{vs:Array Value}(hL:L f=true)(gd:gz T o w)(hN:∀b,N b=true->o b)(tJ:IU N w)(uo:∀g,IT N g->vs.map (val g)=vs)(v:Value)(hv:∀f,val f v=v)(hC:∀wl,(∀b,N b=true->wl.heap[b]?=w.heap[b]?)->w.heap.size<=wl.heap.size->Calls P f vs wl λe w'=>e=.returned v/\RowKit.Below wl.heap.size wl w'):
  bA P (XW P T i V E rc) f vs o w λv' o' w'=>v'=v/\cS T i rc o w o' w':=by
 refine wW (R:=λwl u w'=>u=v/\∀b,b<wl.heap.size->w'.heap[b]?=wl.heap[b]?) hT hi dc HM za hL gd hN tJ uo (λwl u w' τ d h=>h) (λwl τ d u w' h=>h) (λwl h1 h2=>(hC wl h1 h2).mono ?_) ?_
 ·rintro e w' ⟨rfl,hb⟩;exact⟨v,rfl,rfl,hb.block⟩
 ·rintro wl u v' F' o' aX w' h1 h2 ⟨rfl,h3⟩ hB;have hrel:=hB.stays tJ h1 (λb hb=>h3 b (by have:=(gd.vo b (hN b hb)).2;omega));exact⟨hB.plain hv,hrel,⟨hB.vo,aY gd.size hrel.size⟩,hB.more⟩
def qi(hT:T.OK)(hi:i<T.n)(dc:rT P L 0)(HM:P.globals.size≠1)(za:P.globals.size<=T.H0){rc:Nat->Prop}{o:aM}{w:ae}{f:FuncId}{vs:Array Value}(hL:L f=true)(gd:gz T o w)(uo:∀g,vs.map (val g)=vs)(v:Value)(hv:∀f,val f v=v)(hC:∀wl,Calls P f vs wl λe w'=>e=.returned v/\RowKit.Below wl.heap.size wl w'):
  bA P (XW P T i V E rc) f vs o w λv' o' w'=>v'=v/\cS T i rc o w o' w' :=
 oC (N:=λ_=>false) hT hi dc HM za hL gd (λb h=>by cases h) (λb h=>by cases h) (λg _=>uo g) v hv λwl _ _=>hC wl
end
section
variable {P:Program}{main:Bool}{b:Frame}{a:Act}{cs:List Frame}{w:ae}
def uq{fn:Func}{todo:List Item}{c:Frame}{v:Value}(hn:b.kind=.normal)(hd:a.defers=[])(hf:P.funcs[b.fn]?=so fn)(hr:(results fn a.tmps).run P w=.ok v w):
  ∃es,stepG P main (G {b.at a todo with mode:=.returning} (c::cs)) w=.go (G (c.finish v) cs) w es/\∀e∈es,e∈(results fn a.tmps).events P w #[] :=
 ⟨_,by simp[G,stepG,unwind,doReturn,Frame.at,hn,hd,hf,hr,GStep.after];rfl,λe he=>mem_seen he⟩
end
section
variable {P:Program}{m:Bool}{R:aM->ae->ae->Prop}{Gu:aM->ae->ae->Array Event->Prop}{X:aM->aZ->ae->Prop}{o:aM}{w:ae}
def uu(P:Program)(R:aM->ae->ae->Prop)(Gu:aM->ae->ae->Array Event->Prop)(fc:Func)(tmps:Array Value)(o:aM)(w:ae)(v:Value):Prop :=
 ∀w1,R o w w1->(results fc tmps).run P w1=.ok v w1/\∀es:Array Event,(∀e∈es,e∈(results fc tmps).events P w1 #[])->Gu o w1 w1 es
def eD(W:fH P m R Gu X){f:FuncId}{fc:Func}{c:Code}{vs:Array Value}{Post:Value->aM->ae->Prop}(hf:P.funcs[f]?=so fc)(fF:fc.body=so c)(h:wq X f c (λe a' o' w'=>(e=.normal\/e=.ret)/\a'.defers=[]/\∃v,uu P R Gu fc a'.tmps o' w' v/\Post v o' w') {tmps:=vs++Array.replicate (fc.ntmps-vs.size) undef,defers:=[]} o w):bA P X f vs o w Post:=by
 intro cf cs hc;rw[iN hf fF];have leave:∀(a':Act) (o':aM) (w':ae) (todo:List Item) (v:Value),a'.defers=[]->uu P R Gu fc a'.tmps o' w' v->Post v o' w'->X o' (G {(base f).at a' todo with mode:=.returning} (cf::cs)) w':=by
  intro a' o' w' todo v hd hr hx;refine W.step _ _ _ rfl λw1 h1=>?_;have⟨es,e1,e2⟩:=uq (main:=m) (b:=base f) (a:=a') (todo:=todo) (c:=cf) (cs:=cs) rfl hd hf (hr w1 h1).1;exact⟨_,_,es,e1,(hr w1 h1).2 es e2,by rw[cm];exact W.rely _ _ _ _ (hc v o' w' hx) h1⟩
 refine h (base f) [] _ rfl (by simp[base]) λe a' o' w' q=>?_;obtain⟨he,hd,v,hr,hx⟩:=q;rcases he with rfl|rfl
 ·exact W.go rfl (λ_=>ew) (leave a' o' w' [] v hd hr hx)
 ·exact λtodo=>leave a' o' w' todo v hd hr hx
end
section
variable {T:dj}{i:Nat}{N:Nat->Bool}{o rc o':Nat->Prop}{w w' aX:ae}{F':jC}{v v':Value}
def Ww{F:jC}{wl w:ae}(W:WR F wl w){b off:Nat}{x:Value}(hK:F.K b)(hx:∀f,val f x=x)(hc:wl.cell? ⟨b,off,we⟩=so x):w.cell? ⟨F.φ b,off,we⟩=so x:=by
 have⟨f,hf⟩:=W.some;have h:=W.tO b hK f hf;simp only[World.cell?]at hc |-;rw[h];cases hb:wl.heap[b]? with
 |none=>rw[hb]at hc;cases hc
 |some y =>
  rw[hb]at hc;cases y<;>simp only[aJ,obj]at hc |-<;>first|cases hc;done|skip
  simp only[Option.isSome_none,aQ,if_false]at hc |-;simp only[aL,hc,aJ,hx f]
def CF.cell(h:CF T i N o rc o' w w' F' aX v v'){b off:Nat}{x:Value}(hN:N b=true)(hx:∀f,Ren.val f x=x)(hc:aX.cell? ⟨b,off,we⟩=so x):w'.cell? ⟨b,off,we⟩=so x:=by
 have:=Ww h.wr (h.keep b hN).1 hx hc;rwa[(h.keep b hN).2]at this
end
section
variable {P:Program}{T:dj}{i:Nat}{V:Nat->ae->Prop}{E:bL}{rc o:Nat->Prop}{w w':ae}
structure gU(A:Nat)(w w':ae):Prop where
 size:w'.heap.size=w.heap.size
 heap:∀b,b≠A->w'.heap[b]?=w.heap[b]?
 os:w'.os=w.os
 output:w'.output=w.output
def gU.set(w:ae)(A off:Nat)(v:Value):gU A w (w.setCell ⟨A,off,we⟩ v):=⟨by simp[World.setCell],λb hb=>RowKit.Below.heap_setCell w _ _ b hb,rfl,rfl⟩
def gU.trans{A:Nat}{w w1 w2:ae}(h:gU A w w1)(k:gU A w1 w2):gU A w w2:=⟨k.size.trans h.size,λb hb=>(k.heap b hb).trans (h.heap b hb),k.os.trans h.os,k.output.trans h.output⟩
def gU.guW{A:Nat}(hT:T.OK)(h:gU A w w')(hA:o A)(hA0:T.H0<=A):LH T i o w w':=by
 have hh:∀b,T.Sh b->w'.heap[b]?=w.heap[b]?:=λb hb=>h.heap b (by have:=(hT.sh b hb).1;omega);exact⟨bI h.size.symm,λb _ hb _=>h.heap b λe=>hb (e▸hA),λb cs ty fz hb hx=>⟨cs,by rw[hh b hb];exact hx,rfl⟩,λa ha _=>cell_of (hh _ ha),h.os,h.output⟩
def gU.Cv{A:Nat}(hT:T.OK)(hi:i<T.n)(h:gU A w w')(hA0:T.H0<=A):cY T i (λb=>o b/\b≠A) rc w w':=by
 have old:∀b,b<T.H0->w'.heap[b]?=w.heap[b]?:=λb hb=>h.heap b aa;have pz:∀k,k<T.n->w'.heap[T.ch k]?=w.heap[T.ch k]?:=λk hk=>old _ (hT.ch k hk).1;refine⟨bI h.size.symm,λb hb=>h.heap b hb.2,λb h1 _ _ _=>old b h1,λb cs ty fz hb hx=>⟨cs,by rw[old b (hT.sh b hb).1];exact hx,rfl⟩,λa ha=>?_,λk s r tm c hk hx=>⟨c,by rw[pz k hk];exact hx,id⟩,pz i hi,gv (old _ hT.wg),h.os,h.output⟩;have key:∀k,T.jV k (.cell a)->w'.cell? a=w.cell? a:=by
  intro k fq;have⟨a',e,hs⟩:=hT.ownSh k _ fq;cases e;exact cell_of (old _ (hT.sh _ hs).1)
 rcases ha with ha|⟨k,_,ha⟩
 ·exact key i ha
 ·exact key k ha
def yd{ad:Addr}{wt sy:Bool}(h:o ad.block):NK T i o rc ⟨.cell ad,wt,sy⟩:=by
 refine⟨λx hx _=>.inl ⟨ad.block,h,?_⟩,ar,ar,ar⟩;simp only[MemAct.ofEvent,MemAct.touch?,aA]at hx;subst hx;rfl
structure rH(T:dj)(i:Nat)(rc:Nat->Prop)(A:Nat)(o:aM)(w:ae)(o':aM)(w':ae):Prop where
 rel:cY T i (λb=>o b/\b≠A) rc w w'
 ok:gz T o' w'
 more:∀b,o b->o' b
def cS.wX{A:Nat}{o':aM}(h:cS T i rc o w o' w'):rH T i rc A o w o' w':=⟨h.rel.less λb hb=>hb.1,h.ok,h.more⟩
def rH.trans{A:Nat}{o' o2:aM}{w2:ae}(h:rH T i rc A o w o' w')(k:rH T i rc A o' w' o2 w2):rH T i rc A o w o2 w2:=⟨h.rel.trans (k.rel.less λb hb=>⟨h.more b hb.1,hb.2⟩),k.ok,λb hb=>k.more b (h.more b hb)⟩
def rH.later{A:Nat}{o':aM}(h:rH T i rc A o w o' w')(hA:¬o A):cS T i rc o w o' w':=⟨h.rel.less λb hb=>⟨hb,λe=>hA (e▸hb)⟩,h.ok,h.more⟩
def qj(hT:T.OK)(hi:i<T.n){fn:FuncId}{Q:Exit->Act->aM->ae->Prop}{a:Act}(gd:gz T o w){ops:Array Oper}{j:Nat}{rest:List Nat}{op:Oper}(ho:ops[j]?=so op)(hw:Region.wanted op (yielded ops a.tmps)=true)(A:Nat)(hA:o A){f:ae->ae}(cJ:∀w1,w1.heap[A]?=w.heap[A]?->(execOp a.eval op).run P w1=.ok .skip (f w1))(hf:∀w1,gU A w1 (f w1))(jb:∀w1,w1.heap[A]?=w.heap[A]?->∀e∈(execOp a.eval op).events P w1 #[],∃ad wt sy,e=⟨.cell ad,wt,sy⟩/\ad.block=A)(h:∀w1,w1.heap[A]?=w.heap[A]?->rH T i rc A o w o (f w1)->eX (XW P T i V E rc) fn ops rest Q (a.put op.dst undef) o (f w1)):eX (XW P T i V E rc) fn ops (j::rest) Q a o w:=by
 refine lE (cM rc) ho hw λw1 lA K hK=>?_;have IZ:=lA.own A hA;have hA0:=(gd.vo A hA).1;rw[cJ w1 IZ];simp only[uponK_skip];have hO:=hf w1;refine hK _ _ ⟨⟨hO.guW hT hA hA0,λe he=>?_⟩,?_⟩
 ·obtain⟨ad,wt,sy,rfl,e2⟩:=jb w1 IZ e (mem_listed he);exact yd (.inl (by rw[e2];exact hA))
 ·rw[kJ o hO.size];refine h w1 IZ ⟨(lA.less λb hb=>hb.1).trans (hO.Cv hT hi hA0),⟨λb hb=>?_,?_⟩,λ_ hb=>hb⟩
  ·have:=gd.vo b hb;have:=lA.size;have:=hO.size;omega
  ·have:=gd.size;have:=lA.size;have:=hO.size;omega
def aak{F:jC}{wl w:ae}(W:WR F wl w){b t n:Nat}{g:Nat->Value}(hK:F.K b)(hg:∀j,j<n->∀f,val f (g j)=g j)(hr:wl.rowIs b t n g):w.rowIs (F.φ b) t n g:=by
 have⟨f,hf⟩:=W.some;obtain⟨c,hb,hn,hc⟩:=hr;refine⟨c.map (val f),?_,by simpa using hn,λj hj=>?_⟩
 ·rw[W.tO b hK f hf,hb];rfl
 ·rw[aL,hc j hj,aJ,hg j hj f]
end
def cG(ops:Array Oper)(v:Nat->Value)(a:Act):List Nat->Act
 | []=>a
 |i::l=>cG ops v (a.put ((ops[i]?).bind (·.dst)) (v i)) l
def gA(ops:Array Oper)(i:Nat):Option Tmp:=(ops[i]?).bind (·.dst)
section
variable {ops:Array Oper}{v:Nat->Value}{a:Act}
def iG(a:Act)(l l':List Nat):cG ops v a (l++l')=cG ops v (cG ops v a l) l':=by
 induction l generalizing a with
 |nil=>rfl
 |cons i l ih=>exact ih _
def AI(l:List Nat):∀a:Act,(cG ops v a l).tmps.size=a.tmps.size:=by
 induction l with
 |nil=>intro a;rfl
 |cons i l ih =>
  intro a;simp only[cG];rw[ih];unfold Act.put;split<;>simp
def jZ(hd:∀i j d,i≠j->gA ops i=so d->gA ops j≠so d){l l':List Nat}(h:l.Perm l'):∀a:Act,cG ops v a l=cG ops v a l':=by
 induction h with
 |nil=>intro a;rfl
 |cons x _ ih=>intro a;exact ih _
 |swap x y l =>
  intro a;simp only[cG];by_cases e:x=y
  ·subst e;rfl
  ·exact congrArg (λz=>cG ops v z l) (Act.put_comm a (x:=gA ops y) (y:=gA ops x) (v y) (v x) (λd Wt=>hd y x d (bq e) Wt))
 |trans _ _ ih1 ih2=>intro a;exact(ih1 a).trans (ih2 a)
def pn{x:Operand}(l:List Nat):∀a:Act,(∀i∈l,∀d,gA ops i=so d->x≠.tmp d)->(cG ops v a l).eval x=a.eval x:=by
 induction l with
 |nil=>intro a _;rfl
 |cons i l ih =>
  intro a h;simp only[cG];rw[ih _ (λj hj=>h j (by simp[hj]))];exact Act.eval_put (λd Wt=>h i ar d Wt)
end
def qk:∀(n:Nat) (l:List Nat),l.Nodup->(∀x∈l,x<n)->l.length<=n:=by
 intro n
 induction n with
 |zero =>
  intro l _ h;cases l with
  |nil=>simp
  |cons x l=>have:=h x ar;omega
 |succ n ih =>
  intro l hl h;have h1:=ih (l.erase n) (hl.erase n) λx hx=>by
   have xy:=(List.Nodup.mem_erase_iff hl).1 hx;have:=h x xy.2;have:=xy.1;omega
  have h2:l.length<=(l.erase n).length+1:=by
   by_cases hm:n∈l
   ·rw[List.length_erase_of_mem hm];omega
   ·rw[List.erase_of_not_mem hm];omega
  omega
def go_acc(md:Region.Mode)(ops:Array Oper):∀(fuel t:Nat) (ls:Array Bool) (acc:List Nat),Region.linearise.go md ops fuel t ls acc=acc.reverse++Region.linearise.go md ops fuel t ls []:=by
 intro fuel
 induction fuel with
 |zero=>intro t ls acc;simp[Region.linearise.go]
 |succ n ih =>
  intro t ls acc;simp only[Region.linearise.go];split
  ·rename_i i hi;rw[ih _ _ (i::acc),ih _ _ [i]];simp
  ·simp
structure uv(ops:Array Oper)(n:Nat)(ls:Array Bool)(done:List Nat):Prop where
 sz:ls.size=n
 nd:done.Nodup
 got:∀j,ls.getD j false=true↔j∈done
 lt:∀j∈done,j<n
 cl:∀j∈done,∀op,ops[j]?=so op->∀e∈op.after,Region.binds .any e=true->e.on∈done
def uv.zero(ops:Array Oper)(n:Nat):uv ops n (Array.replicate n false) []:=by
 refine⟨ar,List.nodup_nil,λj=>?_,ar,ar⟩;simp only[bU,dh,iff_false];by_cases hj:j<n<;>simp[hj]
def uv.step{ops:Array Oper}{n:Nat}{ls:Array Bool}{done:List Nat}(h:uv ops n ls done)(hn:ops.size=n)(CG:∀(i:Nat) (op:Oper),ops[i]?=so op->∀e∈op.after,Region.binds .any e=true->e.on<i)(hd:done.length<n)(fuel t:Nat):∃i op t',i<n/\i∉done/\ops[i]?=so op/\(∀e∈op.after,Region.binds .any e=true->e.on∈done)/\Region.linearise.go .any ops (fuel+1) t ls []=i::Region.linearise.go .any ops fuel t' (ls.setIfInBounds i true) []/\uv ops n (ls.setIfInBounds i true) (done++[i]):=by
 obtain⟨fy,vp,hls,cx,fw⟩:=h;simp only[Region.linearise.go];generalize CH:(List.range ops.size).filter (λi=>!ls.getD i true&&((ops[i]?).map (·.after.all λe=>!Region.binds .any e||ls.getD e.on false)).getD false)=rs;have mem:∀i,i∈rs↔i<n/\i∉done/\∃op,ops[i]?=so op/\∀e∈op.after,Region.binds .any e=true->e.on∈done:=by
  intro i;rw[<- CH,aay,kZ,hn];constructor
  ·rintro⟨h1,h2⟩;simp only[bf,eE]at h2;have qh:i<ls.size:=aa;have e1:ls.getD i true=ls.getD i false:=by simp[bU,qh]
   refine⟨h1,λhd=>?_,?_⟩
   ·have:=(hls i).2 hd;rw[<- e1,h2.1]at this;cases this
   ·cases ho:ops[i]? with
    |none=>rw[ho]at h2;simp at h2
    |some op =>
     rw[ho]at h2;refine⟨op,rfl,λe he RR=>?_⟩;simp only[aJ,bu,Array.all_eq_true']at h2;have:=h2.2 e he;simp only[RR,Bool.not_true,Bool.false_or]at this;exact(hls e.on).1 this
  ·rintro⟨h1,h2,op,ho,h3⟩;have qh:i<ls.size:=aa;have e1:ls.getD i true=ls.getD i false:=by simp[bU,qh]
   refine⟨h1,?_⟩;simp only[bf,eE];refine⟨?_,?_⟩
   ·rw[e1];cases hx:ls.getD i false with
    |false=>rfl
    |true=>exact absurd ((hls i).1 hx) h2
   ·rw[ho];simp only[aJ,bu,Array.all_eq_true'];intro e he;cases RR:Region.binds .any e with
    |false=>rfl
    |true=>simp only[Bool.not_true,Bool.false_or];exact(hls e.on).2 (h3 e he RR)
 have dE:rs≠[]:=by
  intro e;have all:∀j,j<n->j∈done:=by
   intro j
   induction j using Nat.strongRecOn with
   |ind j ihj =>
    intro hj;refine aN λhd=>?_;obtain⟨op,ho⟩:∃op,ops[j]?=so op:=⟨ops[j]'aa,aO aa⟩;have:j∈rs:=(mem j).2 ⟨hj,hd,op,ho,λe he hb=>ihj _ (CG j op ho e he hb) (by have:=CG j op ho e he hb;omega)⟩;rw[e]at this;cases this
  have hle:=((dp vp iA).2 λj=>⟨λh=>kZ.2 (cx j h),λh=>all j (kZ.1 h)⟩).length_eq;simp at hle;omega
 have hlen:0<rs.length:=aaG.2 dE;obtain⟨i,hi⟩:∃i,rs[t%rs.length]?=so i:=⟨rs[t%rs.length]'(Nat.mod_lt _ hlen),bm _⟩;simp only[hi];rw[go_acc];simp only[List.reverse_cons,List.reverse_nil,List.nil_append,List.cons_append];obtain⟨h1,h2,op,ho,h3⟩:=(mem i).1 (List.mem_of_getElem? hi);refine⟨i,op,t/rs.length,h1,h2,ho,h3,rfl,by simp[fy],aaB.2 ⟨vp,ar,λx hx y hy=>by simp at hy;subst hy;rintro rfl;exact h2 hx⟩,λj=>?_,λj hj=>?_,λj hj I0 pE e he RR=>?_⟩
 ·rw[fN,List.mem_singleton];by_cases Bt:i=j
  ·subst Bt;simp[bU,show i<ls.size by omega]
  ·rw[bU,aU Bt,<- bU,hls j];exact⟨.inl,λh=>h.elim (λh=>h) λh=>absurd h.symm Bt⟩
 ·rcases fN.1 hj with hj|hj
  ·exact cx j hj
  ·simp at hj;omega
 ·rcases fN.1 hj with hj|hj
  ·exact fN.2 (.inl (fw j hj I0 pE e he RR))
  ·simp at hj;subst hj;rw[ho]at pE;cases pE;exact fN.2 (.inl (h3 e he RR))
section
variable {P:Program}{m:Bool}{R:aM->ae->ae->Prop}{Gu:aM->ae->ae->Array Event->Prop}{X:aM->aZ->ae->Prop}{fn:FuncId}{Q:Exit->Act->aM->ae->Prop}{a:Act}{o:aM}{w:ae}
def Wx(W:fH P m R Gu X)(wY:P.follows .mixedOrders=true){id n:Nat}{ops:Array Oper}(hn:ops.size=n+1){v:Nat->Value}{S:ae->Prop}(hS:∀w w1,S w->R o w w1->S w1)(hSd:∀w:ae,S w->S {w with drawn:=w.drawn+1})(hGd:∀w:ae,Gu o w {w with drawn:=w.drawn+1} #[])(h0:S w)(CG:∀(i:Nat) (op:Oper),ops[i]?=so op->∀e∈op.after,e.on<i)(SV:∀D:Nat->Prop,(∀(i:Nat) (op:Oper),ops[i]?=so op->D i->∀e∈op.after,Region.binds .any e=true->D e.on)->D n->∀j,j<=n->D j)(SW:∀i j d,i≠j->gA ops i=so d->gA ops j≠so d)(eW:∀(i:Nat) (op:Oper),i<n->ops[i]?=so op->∀done:List Nat,done.Nodup->i∉done->(∀j∈done,j<n)->(∀e∈op.after,Region.binds .any e=true->e.on∈done)->∀w1,S w1 ->
   Region.wanted op (yielded ops (cG ops v a done).tmps)=true/\(execOp (cG ops v a done).eval op).run P w1=.ok (.value (v i)) w1/\Gu o w1 w1 (listed P fn (cG ops v a done) op w1)){b:Frame}{k:List Item}{cs:List Frame}(hb:b.fn=fn)(hk:b.kind≠.early)(uk:∀w',S w'->X o (G (b.at (cG ops v a (List.range n)) (.inRegion ops [n]::k)) cs) w'):
  X o (G (b.at a (.code (.region id ops true)::k)) cs) w:=by
 have key:∀(fuel t:Nat) (ls:Array Bool) (done:List Nat) (w:ae),S w->uv ops (n+1) ls done->(∀j∈done,j<n)->fuel+done.length=n+1 ->
   X o (G (b.at (cG ops v a done) (.inRegion ops (Region.linearise.go .any ops fuel t ls [])::k)) cs) w:=by
  intro fuel
  induction fuel with
  |zero =>
   intro t ls done w hw hL cx YL;have h1:=qk n done hL.nd cx;simp at YL;omega
  |succ fuel ih =>
   intro t ls done w hw hL cx YL;have⟨i,op,t',h1,h2,ho,h3,el,hL'⟩:=hL.step hn (λi op ho e he _=>CG i op ho e he) aa fuel t;rw[el];have vp:=hL.nd;have fw:=hL.cl;by_cases pg:i=n
   ·
    subst pg;have all:∀j,j<=i->j∈i::done:=SV (λj=>j∈i::done) (λj I0 pE hj e he RR=>by
     rcases bM.1 hj with rfl|hj
     ·rw[ho]at pE;cases pE;exact bE _ (h3 e he RR)
     ·exact bE _ (fw j hj I0 pE e he RR)) ar
    have hp:done.Perm (List.range i):=by
     refine(dp vp iA).2 λj=>?_;rw[kZ];constructor
     ·exact cx j
     ·intro hj;rcases bM.1 (all j aa)with e|e
      ·omega
      ·exact e
    have hdl:done.length=i:=by rw[hp.length_eq];simp
    have kL:fuel=0:=aa;subst kL;simp only[Region.linearise.go,List.reverse_nil];rw[jZ SW hp];exact uk w hw
   ·have SX:i<n:=aa;refine W.step o _ w rfl λw1 qY=>?_;have Wy:=hS w w1 hw qY;have⟨g1,g2,g3⟩:=eW i op SX ho done vp h2 cx h3 w1 Wy;refine⟨_,w1,_,eG ho g1 hk g2,hb▸g3,?_⟩;rw[cm];have epa:(cG ops v a done).put op.dst (v i)=cG ops v a (done++[i]):=by
     rw[iG];simp[cG,ho]
    rw[epa];clear epa;refine ih t' _ (done++[i]) w1 Wy hL' (λj hj=>?_) eP;rcases fN.1 hj with hj|hj
    ·exact cx j hj
    ·simp at hj;omega
 refine W.step o _ w rfl λw1 qY=>⟨_,_,_,stepG_region_draw,hGd w1,?_⟩;rw[kJ o ak];have SY:∀t,Region.schedule (P.follows .mixedOrders) ops t=Region.linearise.go .any ops (n+1) t (Array.replicate (n+1) false) []:=by
  intro t;simp[Region.schedule,wY,Region.linearise,hn]
 rw[SY];exact key (n+1) (w1.tape w1.drawn (.order b.fn id)) (Array.replicate (n+1) false) [] {w1 with drawn:=w1.drawn+1} (hSd _ (hS w w1 h0 qY)) (uv.zero ops _) ar ar
def PV(W:fH P m R Gu X)(wY:P.follows .mixedOrders=true){id n:Nat}{ops:Array Oper}(hn:ops.size=n+1){v:Nat->Value}{S:aM->ae->Prop}(hS:∀o w w1,S o w->R o w w1->S o w1)(hSd:∀o (w:ae),S o w->S o {w with drawn:=w.drawn+1})(hGd:∀w:ae,Gu o w {w with drawn:=w.drawn+1} #[])(h0:S o w)(CG:∀(i:Nat) (op:Oper),ops[i]?=so op->∀e∈op.after,e.on<i)(SV:∀D:Nat->Prop,(∀(i:Nat) (op:Oper),ops[i]?=so op->D i->∀e∈op.after,Region.binds .any e=true->D e.on)->D n->∀j,j<=n->D j)(SW:∀i j d,i≠j->gA ops i=so d->gA ops j≠so d)(eW:∀(i:Nat) (op:Oper),i<n->ops[i]?=so op->∀done:List Nat,done.Nodup->i∉done->(∀j∈done,j<n)->(∀e∈op.after,Region.binds .any e=true->e.on∈done)->∀o w rest,S o w ->
   (∀o' w',S o' w'->eX X fn ops rest Q ((cG ops v a done).put op.dst (v i)) o' w')->eX X fn ops (i::rest) Q (cG ops v a done) o w)(uk:∀o w,S o w->eX X fn ops [n] Q (cG ops v a (List.range n)) o w):
  wq X fn (.region id ops true) Q a o w:=by
 have key:∀(fuel t:Nat) (ls:Array Bool) (done:List Nat) (o:aM) (w:ae),S o w->uv ops (n+1) ls done->(∀j∈done,j<n)->fuel+done.length=n+1 ->
   eX X fn ops (Region.linearise.go .any ops fuel t ls []) Q (cG ops v a done) o w:=by
  intro fuel
  induction fuel with
  |zero =>
   intro t ls done o w hw hL cx YL;have h1:=qk n done hL.nd cx;simp at YL;omega
  |succ fuel ih =>
   intro t ls done o w hw hL cx YL;have⟨i,op,t',h1,h2,ho,h3,el,hL'⟩:=hL.step hn (λi op ho e he _=>CG i op ho e he) aa fuel t;rw[el];have vp:=hL.nd;have fw:=hL.cl;by_cases pg:i=n
   ·
    subst pg;have all:∀j,j<=i->j∈i::done:=SV (λj=>j∈i::done) (λj I0 pE hj e he RR=>by
     rcases bM.1 hj with rfl|hj
     ·rw[ho]at pE;cases pE;exact bE _ (h3 e he RR)
     ·exact bE _ (fw j hj I0 pE e he RR)) ar
    have hp:done.Perm (List.range i):=by
     refine(dp vp iA).2 λj=>?_;rw[kZ];constructor
     ·exact cx j
     ·intro hj;rcases bM.1 (all j aa)with e|e
      ·omega
      ·exact e
    have hdl:done.length=i:=by rw[hp.length_eq];simp
    have kL:fuel=0:=aa;subst kL;simp only[Region.linearise.go,List.reverse_nil];rw[jZ SW hp];exact uk o w hw
   ·have SX:i<n:=aa;refine eW i op SX ho done vp h2 cx h3 o w _ hw λo1 w1 Wy=>?_;have epa:(cG ops v a done).put op.dst (v i)=cG ops v a (done++[i]):=by
     rw[iG];simp[cG,ho]
    rw[epa];clear epa;refine ih t' _ (done++[i]) o1 w1 Wy hL' (λj hj=>?_) eP;rcases fN.1 hj with hj|hj
    ·exact cx j hj
    ·simp at hj;omega
 intro b k cs hb hk hc;refine W.step o _ w rfl λw1 qY=>⟨_,_,_,stepG_region_draw,hGd w1,?_⟩;rw[kJ o ak];have SY:∀t,Region.schedule (P.follows .mixedOrders) ops t=Region.linearise.go .any ops (n+1) t (Array.replicate (n+1) false) []:=by
  intro t;simp[Region.schedule,wY,Region.linearise,hn]
 rw[SY];exact key (n+1) (w1.tape w1.drawn (.order b.fn id)) (Array.replicate (n+1) false) [] o {w1 with drawn:=w1.drawn+1} (hSd _ _ (hS o w w1 h0 qY)) (uv.zero ops _) ar ar b k cs hb hk hc
end
section
variable {P:Program}{T:dj}{i:Nat}{V:Nat->ae->Prop}{E:bL}
abbrev ye:=Exit->Act->(Nat->Prop)->aM->ae->Prop
def LU(P:Program)(T:dj)(i:Nat)(V:Nat->ae->Prop)(E:bL)(fn:FuncId)(c:Code)(Q:ye)(a:Act)(rc:Nat->Prop)(o:aM)(w:ae):Prop :=
 ∀(b:Frame) (k:List Item) (cs:List Frame),b.fn=fn->b.kind≠.early->(∀e a' n9 o' w',Q e a' n9 o' w'->um (XW P T i V E n9) b k cs e a' o' w')->XW P T i V E rc o (G (b.at a (.code c::k)) cs) w
def SZ(M:Act->(Nat->Prop)->aM->ae->Prop)(Q:ye):ye
 | .normal,a,rc,o,w=>M a rc o w
 |e,a,rc,o,w=>Q e a rc o w
def yf(id:Nat)(Q:ye):ye
 | .exit SN,a,rc,o,w=>if SN=id then Q .normal a rc o w else Q (.exit SN) a rc o w
 |e,a,rc,o,w=>Q e a rc o w
variable {fn:FuncId}{Q:ye}{a:Act}{rc:Nat->Prop}{o:aM}{w:ae}
def fJ{c:Code}(h:wq (XW P T i V E rc) fn c (λe a' o' w'=>Q e a' rc o' w') a o w):LU P T i V E fn c Q a rc o w :=
 λb k cs hb hk hc=>h b k cs hb hk λe a' o' w' q=>hc e a' rc o' w' q
def kU{x y:Code}(h:LU P T i V E fn x (SZ (λa' n9 o' w'=>LU P T i V E fn y Q a' n9 o' w') Q) a rc o w):LU P T i V E fn (.seq x y) Q a rc o w:=by
 intro b k cs hb hk hc;refine(cM rc).go rfl (λ_=>aE) (h b (.code y::k) cs hb hk λe a' n9 o' w' q=>?_);cases e with
 |normal=>exact q b k cs hb hk hc
 |exit id=>exact(hc _ _ _ _ _ q).push rfl ar
 |ret=>exact(hc _ _ _ _ _ q).push (y:=.code y) rfl ar
 |goto l=>exact hc _ _ _ _ _ q
 |panic ch=>exact hc _ _ _ _ _ q
 |outgrown=>exact hc _ _ _ _ _ q
def I1{c:Operand}{x y:Code}{t:Bool}(hc:a.eval c=.bool t)(ht:t=true->LU P T i V E fn x Q a rc o w)(hf:t=false->LU P T i V E fn y Q a rc o w):LU P T i V E fn (.cond c x y) Q a rc o w:=by
 intro b k cs hb hk hq;refine(cM rc).go rfl (λ_=>eC hc) ?_;cases t with
 |true=>exact ht rfl b k cs hb hk hq
 |false=>exact hf rfl b k cs hb hk hq
def Ft{id:Nat}{c:Code}(h:LU P T i V E fn c (yf id Q) a rc o w):LU P T i V E fn (.block id c) Q a rc o w:=by
 intro b k cs hb hk hc;refine(cM rc).go rfl (λ_=>fh) (h b (.inBlock id::k) cs hb hk λe a' n9 o' w' q=>?_);cases e with
 |normal=>exact(cM n9).go rfl (λ_=>gw) (hc _ _ _ _ _ q)
 |exit SN =>
  by_cases hid:SN=id
  ·simp only[yf,hid,if_true]at q;exact⟨k,by simp[exitTo,hid],hc _ _ _ _ _ q⟩
  ·simp only[yf,hid,if_false]at q;have⟨k',lD,hg⟩:=hc _ _ _ _ _ q;have:(id==SN)=false:=by simp;exact λh=>hid h.symm
   exact⟨k',by simp[exitTo,this,lD],hg⟩
 |ret=>exact λtodo=>hc _ _ _ _ _ q todo
 |goto l=>exact hc _ _ _ _ _ q
 |panic ch=>exact hc _ _ _ _ _ q
 |outgrown=>exact hc _ _ _ _ _ q
def S0{c:Code}(I:Nat->Act->(Nat->Prop)->aM->ae->Prop){N:Nat}(h0:I N a rc o w)(round:∀n a rc o w,I n a rc o w->LU P T i V E fn c (SZ (λa' n9 o' w'=>∃n',n'<n/\I n' a' n9 o' w') Q) a rc o w):LU P T i V E fn (.loop c) Q a rc o w:=by
 intro b k cs hb hk hc;have key:∀N a rc o w,I N a rc o w->XW P T i V E rc o (G (b.at a (.code c :: .inLoop c::k)) cs) w:=by
  intro N
  induction N using Nat.strongRecOn with
  |ind N ih =>
   intro a rc o w hI;refine round N a rc o w hI b (.inLoop c::k) cs hb hk λe a' n9 o' w' q=>?_;cases e with
   |normal =>
    obtain⟨n',hn,hI'⟩:=q;exact(cM n9).go rfl (λ_=>iM) (ih n' hn a' n9 o' w' hI')
   |exit id=>exact(hc _ _ _ _ _ q).push rfl ar
   |ret=>exact(hc _ _ _ _ _ q).push (y:=.inLoop c) rfl ar
   |goto l=>exact hc _ _ _ _ _ q
   |panic ch=>exact hc _ _ _ _ _ q
   |outgrown=>exact hc _ _ _ _ _ q
 exact(cM rc).go rfl (λ_=>jL) (key N a rc o w h0)
def Fu(P:Program)(T:dj)(i:Nat)(V:Nat->ae->Prop)(E:bL)(f:FuncId)(vs:Array Value)(rc:Nat->Prop)(o:aM)(w:ae)(Post:Value->(Nat->Prop)->aM->ae->Prop):Prop :=
 ∀(c:Frame) (cs:List Frame),(∀v n9 o' w',Post v n9 o' w'->XW P T i V E n9 o' (G (c.finish v) cs) w')->XW P T i V E rc o (G (Frame.enter P f vs .normal) (c::cs)) w
def Fu.mono{f:FuncId}{vs:Array Value}{Post IW:Value->(Nat->Prop)->aM->ae->Prop}(h:Fu P T i V E f vs rc o w Post)(hp:∀v n9 o' w',Post v n9 o' w'->IW v n9 o' w'):Fu P T i V E f vs rc o w IW :=
 λc cs hc=>h c cs λv n9 o' w' q=>hc v n9 o' w' (hp v n9 o' w' q)
def GG{f:FuncId}{fc:Func}{c:Code}{vs:Array Value}{Post:Value->(Nat->Prop)->aM->ae->Prop}(hf:P.funcs[f]?=so fc)(fF:fc.body=so c)(h:LU P T i V E f c (λe a' n9 o' w'=>(e=.normal\/e=.ret)/\a'.defers=[]/\∃v,ResultsC P fc a'.tmps v/\Post v n9 o' w') {tmps:=vs++Array.replicate (fc.ntmps-vs.size) undef,defers:=[]} rc o w):Fu P T i V E f vs rc o w Post:=by
 intro cf cs hc;rw[iN hf fF];have leave:∀(a':Act) (n9:Nat->Prop) (o':aM) (w':ae) (todo:List Item) (v:Value),a'.defers=[]->ResultsC P fc a'.tmps v->Post v n9 o' w'->XW P T i V E n9 o' (G {(base f).at a' todo with mode:=.returning} (cf::cs)) w':=by
  intro a' n9 o' w' todo v hd hr hx;refine(cM n9).go rfl (λw1=>?_) (hc v n9 o' w' hx);rw[stepG_leave (b:=base f) rfl hd hf (hr w1).1 (hr w1).2]
 refine h (base f) [] _ rfl (by simp[base]) λe a' n9 o' w' q=>?_;obtain⟨he,hd,v,hr,hx⟩:=q;rcases he with rfl|rfl
 ·exact(cM n9).go rfl (λ_=>ew) (leave a' n9 o' w' [] v hd hr hx)
 ·exact λtodo=>leave a' n9 o' w' todo v hd hr hx
def vQ(P:Program)(T:dj)(i:Nat)(V:Nat->ae->Prop)(E:bL)(fn:FuncId)(ops:Array Oper)(todo:List Nat)(Q:ye)(a:Act)(rc:Nat->Prop)(o:aM)(w:ae):Prop :=
 ∀(b:Frame) (k:List Item) (cs:List Frame),b.fn=fn->b.kind≠.early->(∀e a' n9 o' w',Q e a' n9 o' w'->um (XW P T i V E n9) b k cs e a' o' w')->XW P T i V E rc o (G (b.at a (.inRegion ops todo::k)) cs) w
def LV{id:Nat}{ops:Array Oper}(h:vQ P T i V E fn ops (List.range ops.size) Q a rc o w):LU P T i V E fn (.region id ops false) Q a rc o w :=
 λb k cs hb hk hc=>(cM rc).go rfl (λ_=>bh) (h b k cs hb hk hc)
def yg{ops:Array Oper}{todo:List Nat}(h:eX (XW P T i V E rc) fn ops todo (λe a' o' w'=>Q e a' rc o' w') a o w):vQ P T i V E fn ops todo Q a rc o w :=
 λb k cs hb hk hc=>h b k cs hb hk λe a' o' w' q=>hc e a' rc o' w' q
def ql{m:Bool}{ops:Array Oper}{j:Nat}{rest:List Nat}{op:Oper}{f:FuncId}{fc:Func}{c:Code}{args:Array Operand}{sE:Array TypeId}{b:Frame}{k:List Item}{cs:List Frame}(ho:ops[j]?=so op)(hw:Region.wanted op (yielded ops a.tmps)=true)(hk:b.kind≠.early)(eW:op.op=.call {callee:=.value (.func f),args,argTypes:=sE})(hf:P.funcs[f]?=so fc)(gN:(fc.name == "runtime.NumGoroutine")=false)(fF:fc.body=so c)(w1:ae):
  stepG P m (G (b.at a (.inRegion ops (j::rest)::k)) cs) w1=.go (G (Frame.enter P f (args.map a.eval) .normal) (b.at a (.inRegion ops (j::rest)::k)::cs)) w1 #[]:=by
 rw[iN hf fF];have:=goes_call (P:=P) (main:=m) (b:=b) (k:=k) (cs:=cs) (w:=w1) (K:=λg' w' es=>stepG P m (G (b.at a (.inRegion ops (j::rest)::k)) cs) w1=.go g' w' es->stepG P m (G (b.at a (.inRegion ops (j::rest)::k)) cs) w1=.go (G ((base f).at {tmps:=args.map a.eval++Array.replicate (fc.ntmps-(args.map a.eval).size) undef,defers:=[]} [.code c]) (b.at a (.inRegion ops (j::rest)::k)::cs)) w1 #[]) ho hw hk eW hf gN fF (λe=>e);cases hg:stepG P m (G (b.at a (.inRegion ops (j::rest)::k)) cs) w1 with
 |go g' w' es=>rw[hg,goes_go]at this;rw[<- this rfl]
 |_=>rw[hg]at this;exact this.elim
def LX{ops:Array Oper}{j:Nat}{rest:List Nat}{op:Oper}{f:FuncId}{fc:Func}{c:Code}{args:Array Operand}{sE:Array TypeId}(ho:ops[j]?=so op)(hw:Region.wanted op (yielded ops a.tmps)=true)(eW:op.op=.call {callee:=.value (.func f),args,argTypes:=sE})(hf:P.funcs[f]?=so fc)(gN:(fc.name == "runtime.NumGoroutine")=false)(fF:fc.body=so c){vs:Array Value}(LQ:args.map a.eval=vs){d:Option Tmp}(hd:op.dst=d)(h:Fu P T i V E f vs rc o w λv n9 o' w'=>vQ P T i V E fn ops rest Q (a.put d v) n9 o' w'):vQ P T i V E fn ops (j::rest) Q a rc o w:=by
 subst LQ hd;intro b k cs hb hk hc;refine(cM rc).go rfl (λw1=>ql ho hw hk eW hf gN fF w1) (h _ _ λv n9 o' w' q=>?_);rw[show(b.at a (.inRegion ops (j::rest)::k)).finish v=b.at (a.put op.dst v) (.inRegion ops rest::k) by rw[eu,ho];rfl];exact q b k cs hb hk hc
def PW{ops:Array Oper}{j:Nat}{rest:List Nat}{op:Oper}(ho:ops[j]?=so op)(hw:Region.wanted op (yielded ops a.tmps)=true){k:Nat}{z:Value}{f:Bool}(yh:T.dep i k)(cJ:∀w1,(execOp a.eval op).run P w1=.ok (.comm #[rcase (T.ch k) z] true (.recv f)) w1)(jb:∀w1,(execOp a.eval op).events P w1 #[]=#[]){d:Option Tmp}(hd:op.dst=d)(h:∀w1,cY T i o rc w w1->V k w1->vQ P T i V E fn ops rest Q (a.put d (recvd f z false)) (λb=>rc b\/b=k) o w1):vQ P T i V E fn ops (j::rest) Q a rc o w:=by
 subst hd;intro b kk cs hb hk hc;refine gM.intro ⟨rfl,.inr (.inl ⟨k,z,f,yh,λw1 _=>?_,λw1 qY hv=>?_⟩)⟩
 ·show stepG P false (G (b.at a (.inRegion ops (j::rest)::kk)) cs) w1=_;rw[stepG_comm ho hw hk (cJ w1),listed_nil (jb w1)]
 ·have e:Go.Conc.served (G (b.at a (.inRegion ops (j::rest)::kk)) cs) (recvd f z false)=G (b.at (a.put op.dst (recvd f z false)) (.inRegion ops rest::kk)) cs:=by
   simp only[Go.Conc.served,G];rw[eu,ho];rfl
  show gM P T i V E ⟨Go.Conc.served (G (b.at a (.inRegion ops (j::rest)::kk)) cs) (recvd f z false),o,_,w1⟩;rw[e];exact h w1 qY hv b kk cs hb hk hc
def Ta(wY:P.follows .mixedOrders=true){id n:Nat}{ops:Array Oper}(hn:ops.size=n+1){v:Nat->Value}{S:ae->Prop}(hS:∀w w1,S w->cY T i o rc w w1->S w1)(h0:S w)(CG:∀(i:Nat) (op:Oper),ops[i]?=so op->∀e∈op.after,e.on<i)(SV:∀D:Nat->Prop,(∀(i:Nat) (op:Oper),ops[i]?=so op->D i->∀e∈op.after,Region.binds .any e=true->D e.on)->D n->∀j,j<=n->D j)(SW:∀i j d,i≠j->gA ops i=so d->gA ops j≠so d)(eW:∀(j:Nat) (op:Oper),j<n->ops[j]?=so op->∀done:List Nat,done.Nodup->j∉done->(∀j∈done,j<n)->(∀e∈op.after,Region.binds .any e=true->e.on∈done)->∀w1,S w1 ->
   Region.wanted op (yielded ops (cG ops v a done).tmps)=true/\(execOp (cG ops v a done).eval op).run P w1=.ok (.value (v j)) w1/\∀e∈listed P fn (cG ops v a done) op w1,NK T i o rc e)(uk:∀w',S w'->vQ P T i V E fn ops [n] Q (cG ops v a (List.range n)) rc o w'):
  LU P T i V E fn (.region id ops true) Q a rc o w:=by
 intro b k cs hb hk hc;refine Wx (cM rc) wY hn hS (λw h=>hS _ _ h (cY.at w _)) (λw=>⟨?_,ar⟩) h0 CG SV SW (λj op h1 h2 done h2' h3 h4 h5 w1 h6=>?_) hb hk λw' hw'=>uk w' hw' b k cs hb hk hc
 ·exact⟨ah _,λ_ _ _ _=>rfl,λb cs ty fz _ h=>⟨cs,h,rfl⟩,λ_ _ _=>rfl,rfl,rfl⟩
 ·have⟨g1,g2,g3⟩:=eW j op h1 h2 done h2' h3 h4 h5 w1 h6;exact⟨g1,g2,.refl _ _,λe he=>by rw[cm];exact g3 e he⟩
end
def wZ{P:Program}{m:Bool}{b:Frame}{a:Act}{cs:List Frame}{todo:List Item}{ds:List Deferred}{sE:Array TypeId}{ty:TypeId}{cns:Array Bool}{c s r:Nat}{tm:Bool}{w:ae}(hd:a.defers={target:=.builtin .close sE ty cns,args:=#[.chan (so c)]}::ds)(hc:w.heap[c]?=so (.chan 0 #[] false s r tm))(hq:(P.funcs[b.fn]?).any (·.norace)=false):
  stepG P m (G {b.at a todo with mode:=.returning} cs) w=.go (G {b.at ⟨a.tmps,ds⟩ todo with mode:=.returning} cs) (w.setChan c 0 #[] true s r tm) (gI c):=by
 have hr:(invoke (.builtin .close sE ty cns) #[.chan (so c)]).run P w=.ok (.value (.tuple #[])) (w.setChan c 0 #[] true s r tm):=by
  simp[invoke,go_sem,run_close_open _ _ hc,World.setChan]
 have he:(invoke (.builtin .close sE ty cns) #[.chan (so c)]).events P w #[]=gI c:=by
  simp[invoke,go_sem,events_close_open _ _ hc,gI]
 have hl:seen P b.fn (gI c)=gI c:=seen_eq hq (by intro e he f;simp only[gI,List.mem_toArray,bM,dh,or_false]at he;rcases he with rfl|rfl<;>simp);simp[G,stepG,unwind,callDeferred,Frame.at,hd,Sem.runT_eq,hr,he,hl,GStep.after]
def Tb(ops:Array Oper)(n:Nat):Bool:=(List.range n).all λj=>(List.range (n+1)).any λi=>decide (j<i)&&match ops[i]? with|none=>false|some op=>op.after.any λe=>Region.binds .any e&&e.on==j
def CI(ops:Array Oper)(n:Nat):Bool :=
 (ops.size==n+1) &&
 (List.range (n+1)).all (λi=>match ops[i]? with
  |none=>false
  |some op=>op.after.all (λe=>decide (e.on<i))&&op.guard.isNone&&(match op.op with|.select ..=>false|_=>true) &&
    (List.range (n+1)).all (λj=>j==i||match gA ops j with
     |none=>true
     |some d=>gA ops i != so d&&(!(op.looksAt ops).contains d||op.after.any (λe=>Region.binds .any e&&e.on==j)))) &&
 Tb ops n
section
variable {ops:Array Oper}{n:Nat}
structure Tc(ops:Array Oper)(n:Nat):Prop where
 size:ops.size=n+1
 low:∀(i:Nat) (op:Oper),ops[i]?=so op->∀e∈op.after,e.on<i
 cov:∀D:Nat->Prop,(∀(i:Nat) (op:Oper),ops[i]?=so op->D i->∀e∈op.after,Region.binds .any e=true->D e.on)->D n->∀j,j<=n->D j
 dst:∀i j d,i≠j->gA ops i=so d->gA ops j≠so d
 guard:∀(i:Nat) (op:Oper),ops[i]?=so op->op.guard=we
 sel:∀(i:Nat) (op:Oper),ops[i]?=so op->∀cs b,op.op≠.select cs b
 look:∀(i:Nat) (op:Oper),ops[i]?=so op->∀j d,j≠i->gA ops j=so d->d∈op.looksAt ops->∃e∈op.after,Region.binds .any e=true/\e.on=j
def AJ(h:CI ops n=true):Tc ops n:=by
 simp only[CI,bf,beq_iff_eq,List.all_eq_true,List.mem_range]at h;obtain⟨⟨hs,h1⟩,h2⟩:=h;have lt:∀(i:Nat) (op:Oper),ops[i]?=so op->i<n+1:=λi op ho=>by have:=(aad.1 ho).1;omega
 have all:∀(i:Nat) (op:Oper),ops[i]?=so op->(((op.after.all (λe=>decide (e.on<i))=true/\op.guard.isNone=true)/\(match op.op with|.select ..=>false|_=>true)=true) /\
   ∀j,j<n+1->(j=i\/(match gA ops j with|none=>true|some d=>gA ops i != so d&&(!(op.looksAt ops).contains d||op.after.any (λe=>Region.binds .any e&&e.on==j)))=true)):=by
  intro i op ho;have:=h1 i (lt i op ho);simp only[ho,bf,List.all_eq_true,List.mem_range,Bool.or_eq_true,beq_iff_eq]at this;exact this
 refine⟨hs,λi op ho e he=>?_,λD hD hn=>?_,λi j d Fv hi hj=>?_,λi op ho=>?_,λi op ho cs b e=>?_,λi op ho j d Bt hj hl=>?_⟩
 ·have:=(all i op ho).1.1.1;rw[jw]at this;simpa using this e he
 ·have key:∀m j,j+m=n->D j:=by
   intro m
   induction m using Nat.strongRecOn with
   |ind m ih =>
    intro j hjm;rcases bg m with rfl|hm
    ·have:j=n:=aa;rw[this];exact hn
    ·unfold Tb at h2;simp only[List.all_eq_true,List.mem_range,List.any_eq_true,bf,decide_eq_true_eq]at h2;have⟨i,hi,Bt,hx⟩:=h2 j aa;cases ho:ops[i]? with
     |none=>rw[ho]at hx;cases hx
     |some op =>
      rw[ho]at hx;simp only[Array.any_eq_true,bf,beq_iff_eq]at hx;obtain⟨q,hq,hb,he⟩:=hx;rw[<- he];exact hD i op ho (ih (n-i) aa i aa) _ (jN hq) hb
  exact λj hj=>key (n-j) j aa
 ·obtain⟨op,ho⟩:∃op,ops[i]?=so op:=by
   cases ho:ops[i]? with
   |none=>simp[gA,ho]at hi
   |some op=>exact⟨op,rfl⟩
  obtain⟨I0,pE⟩:∃op,ops[j]?=so op:=by
   cases ho:ops[j]? with
   |none=>simp[gA,ho]at hj
   |some op=>exact⟨op,rfl⟩
  rcases(all i op ho).2 j (lt j I0 pE)with e|e
  ·exact Fv e.symm
  ·rw[hj]at e;simp only[bf,bne_iff_ne]at e;exact e.1 hi
 ·simpa using(all i op ho).1.1.2
 ·have:=(all i op ho).1.2;rw[e]at this;cases this
 ·obtain⟨I0,pE⟩:∃op,ops[j]?=so op:=by
   cases ho:ops[j]? with
   |none=>simp[gA,ho]at hj
   |some op=>exact⟨op,rfl⟩
  rcases(all i op ho).2 j (lt j I0 pE)with e|e
  ·exact absurd e Bt
  ·rw[hj]at e;simp only[bf,Bool.or_eq_true,eE,List.contains_eq_mem,decide_eq_false_iff_not]at e;rcases e.2 with e|e
   ·exact absurd hl e
   ·simp only[Array.any_eq_true,bf,beq_iff_eq]at e;obtain⟨q,hq,hb,he⟩:=e;exact⟨_,jN hq,hb,he⟩
variable {v:Nat->Value}{a:Act}
def oE{op:Oper}{t:Tmp}(h:Operand.tmp t∈op.op.operands):t∈op.looksAt ops:=by
 unfold Oper.looksAt;refine fN.2 (.inl (List.mem_filterMap.2 ⟨.tmp t,?_,rfl⟩));simpa using h
def Fw(H:Tc ops n){i:Nat}{op:Oper}(ho:ops[i]?=so op){done:List Nat}(vp:done.Nodup)(hi:i∉done)(yh:∀e∈op.after,Region.binds .any e=true->e.on∈done):
  ∀x∈op.op.operands,(cG ops v a done).eval x=(cG ops v a (List.range i)).eval x:=by
 intro x hx;let p:Nat->Bool:=λj=>op.after.any λe=>Region.binds .any e&&e.on==j;have drop:∀l:List Nat,i∉l->(cG ops v a l).eval x=(cG ops v a (l.filter p)).eval x:=by
  intro l YQ;have hp:=(gV p l).symm;rw[jZ H.dst hp,iG];refine pn _ _ λk hk d hd hl=>?_;subst hl;obtain⟨LY,VQ⟩:=aay.1 hk;obtain⟨e,he,hb,rfl⟩:=H.look i op ho k d (λe=>YQ (e▸LY)) hd (oE hx);simp only[p,eE]at VQ;have:(op.after.any λe'=>Region.binds .any e'&&e'.on==e.on)=true:=by
   rw[gP];exact⟨e,he,by simp[hb]⟩
  rw[this]at VQ;cases VQ
 rw[drop done hi,drop (List.range i) ar];have Fx:(done.filter p).Perm ((List.range i).filter p):=by
  refine(dp (vp.filter _) (List.nodup_range.filter _)).2 λj=>?_;simp only[List.mem_filter,List.mem_range];constructor
  ·rintro⟨h1,h2⟩;refine⟨?_,h2⟩;simp only[p,Array.any_eq_true',bf,beq_iff_eq]at h2;obtain⟨e,he,hb,rfl⟩:=h2;exact H.low i op ho e he
  ·rintro⟨h1,h2⟩;refine⟨?_,h2⟩;simp only[p,Array.any_eq_true',bf,beq_iff_eq]at h2;obtain⟨e,he,hb,rfl⟩:=h2;exact yh e he hb
 rw[jZ H.dst Fx]
end
def mU(ok:Oper->Value->Act->Prop)(ops:Array Oper)(K:Act->Prop):List Nat->List Value->Act->Prop
 | [],[],a=>K a
 |j::l,v::vs,a=>(∃op,ops[j]?=so op/\ok op v a)/\mU ok ops K l vs (a.put (gA ops j) v)
 |_,_,_=>False
def cK{ok:Oper->Value->Act->Prop}{ops:Array Oper}{K:Act->Prop}{j:Nat}{l:List Nat}{v:Value}{vs:List Value}{a:Act}{op:Oper}{d:Option Tmp}(ho:ops[j]?=so op)(hd:op.dst=d)(jl:ok op v a)(h:mU ok ops K l vs (a.put d v)):mU ok ops K (j::l) (v::vs) a :=
 ⟨⟨op,ho,jl⟩,by subst hd;simpa[gA,ho] using h⟩
def oF{ok:Oper->Value->Act->Prop}{ops:Array Oper}{K:Act->Prop}{a:Act}(h:K a):mU ok ops K [] [] a:=h
def mU.all{ok:Oper->Value->Act->Prop}{ops:Array Oper}{K:Act->Prop}:∀{m k:Nat} {vs:List Value} {v:Nat->Value} {a:Act},mU ok ops K (List.range' k m) vs (cG ops v a (List.range k))->(∀j,j<m->v (k+j)=vs.getD j undef) ->
  (∀j op,k<=j->j<k+m->ops[j]?=so op->ok op (v j) (cG ops v a (List.range j)))/\K (cG ops v a (List.range (k+m))):=by
 intro m
 induction m with
 |zero =>
  intro k vs v a h hv;cases vs with
  |nil=>exact⟨λj op h1 h2=>aa,h⟩
  |cons x l=>exact h.elim
 |succ m ih =>
  intro k vs v a h hv;cases vs with
  |nil=>rw[iB]at h;exact h.elim
  |cons x l =>
   rw[iB]at h;obtain⟨⟨op,ho,jl⟩,hr⟩:=h;have hx:v k=x:=by have:=hv 0 aa;simpa using this
   have Ba:(cG ops v a (List.range k)).put (gA ops k) x=cG ops v a (List.range (k+1)):=by
    rw[List.range_succ,iG];simp[cG,gA,hx]
   rw[Ba]at hr;have:=ih (k:=k+1) (vs:=l) hr (λj hj=>by have:=hv (j+1) aa;rw[show k+(j+1)=k+1+j by omega]at this;simpa using this);refine⟨λj I0 h1 h2 pE=>?_,by rw[show k+(m+1)=k+1+m by omega];exact this.2⟩;by_cases e:j=k
   ·subst e;rw[ho]at pE;cases pE;rw[hx];exact jl
   ·exact this.1 j I0 aa aa pE
section
variable {P:Program}{m:Bool}{R:aM->ae->ae->Prop}{Gu:aM->ae->ae->Array Event->Prop}{X:aM->aZ->ae->Prop}{fn:FuncId}{Q:Exit->Act->aM->ae->Prop}{a:Act}{o:aM}{w:ae}
def okX(P:Program)(Gu:aM->ae->ae->Array Event->Prop)(X:aM->aZ->ae->Prop)(fn:FuncId)(S:aM->ae->Prop)(op:Oper)(v:Value)(a:Act):Prop :=
 (∀o w1,S o w1->(execOp a.eval op).run P w1=.ok (.value v) w1/\Gu o w1 w1 (listed P fn a op w1)) \/
 (∃f fc c args sE,op.op=.call {callee:=.value (.func f),args,argTypes:=sE}/\P.funcs[f]?=so fc/\(fc.name == "runtime.NumGoroutine")=false/\fc.body=so c/\∀o w,S o w->bA P X f (args.map a.eval) o w λv' o' w'=>v'=v/\S o' w')
def pI{op:Oper}{y:Nat->Option Bool}(h:op.guard=we):Region.wanted op y=true:=by simp[Region.wanted,h]
def pJ{op:Oper}{f:FuncId}{args:Array Operand}{sE:Array TypeId}{a a':Act}(eW:op.op=.call {callee:=.value (.func f),args,argTypes:=sE})(h:∀x∈op.op.operands,a.eval x=a'.eval x):args.map a.eval=args.map a'.eval:=by
 refine eA λx hx=>h x ?_;rw[eW];simp only[Op.operands,Call.operands];simp[hx]
def PX(W:fH P m R Gu X)(wY:P.follows .mixedOrders=true){id n:Nat}{ops:Array Oper}(jl:CI ops n=true)(vs:List Value){S:aM->ae->Prop}(hS:∀o w w1,S o w->R o w w1->S o w1)(hSd:∀o (w:ae),S o w->S o {w with drawn:=w.drawn+1})(hGd:∀w:ae,Gu o w {w with drawn:=w.drawn+1} #[])(h0:S o w)(wV:mU (okX P Gu X fn S) ops (λa'=>∀o w,S o w->eX X fn ops [n] Q a' o w) (List.range n) vs a):wq X fn (.region id ops true) Q a o w:=by
 have H:=AJ jl;rw[iO]at wV;have⟨h1,h2⟩:=mU.all (v:=λj=>vs.getD j undef) (k:=0) (a:=a) wV (λj _=>ar);rw[bt]at h2;refine PV W wY H.size hS hSd hGd h0 H.low H.cov H.dst (λi op hi ho done vp hid cx yh o w rest Wz hk=>?_) h2;have hw:=pI (y:=yielded ops (cG ops (λj=>vs.getD j undef) a done).tmps) (H.guard i op ho);have jb:=Fw (v:=λj=>vs.getD j undef) (a:=a) H ho vp hid yh;have hex:=execOp_congr op (H.sel i op ho) jb;rcases h1 i op (aV _) aa ho with hp|⟨f,fc,c,args,sE,eW,hf,vq,hb,hC⟩
 ·refine lE W ho hw λw1 lA K hK=>?_;have⟨e1,e2⟩:=hp o w1 (hS _ _ _ Wz lA);rw[hex,e1];simp only[uponK_value];refine hK _ _ ⟨?_,by rw[cm];exact hk o w1 (hS _ _ _ Wz lA)⟩;unfold listed at e2 |-;rw[hex];exact e2
 ·refine du W ho hw eW hf vq hb (pJ eW jb) rfl ((hC o w Wz).mono ?_);rintro v' o' w' ⟨rfl,hS'⟩;exact hk o' w' hS'
end
section
variable {P:Program}{T:dj}{i:Nat}{V:Nat->ae->Prop}{E:bL}{fn:FuncId}{a:Act}{rc:Nat->Prop}{o:aM}{w:ae}
def LZ(o:aM)(w:ae):IN T i rc o w {w with drawn:=w.drawn+1} #[]:=⟨⟨ah _,λ_ _ _ _=>rfl,λb cs ty fz _ h=>⟨cs,h,rfl⟩,λ_ _ _=>rfl,rfl,rfl⟩,ar⟩
def vr{Q:Exit->Act->aM->ae->Prop}(wY:P.follows .mixedOrders=true){id n:Nat}{ops:Array Oper}(jl:CI ops n=true)(vs:List Value){S:aM->ae->Prop}(hS:∀o w w1,S o w->cY T i o rc w w1->S o w1)(h0:S o w)(wV:mU (okX P (IN T i rc) (XW P T i V E rc) fn S) ops (λa'=>∀o w,S o w->eX (XW P T i V E rc) fn ops [n] Q a' o w) (List.range n) vs a):wq (XW P T i V E rc) fn (.region id ops true) Q a o w :=
 PX (cM rc) wY jl vs hS (λo w h=>hS _ _ _ h (cY.at w _)) (LZ o) h0 wV
def PY{Q:ye}(wY:P.follows .mixedOrders=true){id n:Nat}{ops:Array Oper}(jl:CI ops n=true)(vs:List Value){S:ae->Prop}(hS:∀w w1,S w->cY T i o rc w w1->S w1)(h0:S w)(wV:mU (λop v a=>∀w1,S w1->(execOp a.eval op).run P w1=.ok (.value v) w1/\∀e∈(execOp a.eval op).events P w1 #[],NK T i o rc e) ops (λa'=>∀w,S w->vQ P T i V E fn ops [n] Q a' rc o w) (List.range n) vs a):LU P T i V E fn (.region id ops true) Q a rc o w:=by
 have H:=AJ jl;rw[iO]at wV;have⟨h1,h2⟩:=mU.all (v:=λj=>vs.getD j undef) (k:=0) (a:=a) wV (λj _=>ar);rw[bt]at h2;refine Ta wY H.size hS h0 H.low H.cov H.dst (λj op hj ho done vp hid cx yh w1 qY=>?_) h2;have jb:=Fw (v:=λj=>vs.getD j undef) (a:=a) H ho vp hid yh;have hex:=execOp_congr op (H.sel j op ho) jb;have⟨e1,e2⟩:=h1 j op (aV _) aa ho w1 qY;refine⟨pI (H.guard j op ho),by rw[hex];exact e1,λe he=>e2 e ?_⟩;have:=mem_listed he;rw[hex]at this;exact this
def kB{S:aM->ae->Prop}{op:Oper}{v:Value}(h:∀o w1,S o w1->(execOp a.eval op).run P w1=.ok (.value v) w1/\∀e∈(execOp a.eval op).events P w1 #[],NK T i o rc e):okX P (IN T i rc) (XW P T i V E rc) fn S op v a :=
 .inl λo w1 hw=>⟨(h o w1 hw).1,.refl _ _,λe he=>by rw[cm];exact(h o w1 hw).2 e (mem_listed he)⟩
end
section
variable {ops:Array Oper}{a:Act}
def sN{v v':Nat->Value}:∀(l:List Nat) {a:Act},(∀j∈l,v j=v' j)->cG ops v a l=cG ops v' a l:=by
 intro l
 induction l with
 |nil=>intro a _;rfl
 |cons i l ih =>
  intro a h;simp only[cG];rw[h i ar];exact ih λj hj=>h j (by simp[hj])
end
section
variable {P:Program}{m:Bool}{R:aM->ae->ae->Prop}{Gu:aM->ae->ae->Array Event->Prop}{X:aM->aZ->ae->Prop}{fn:FuncId}{Q:Exit->Act->aM->ae->Prop}{a:Act}{o:aM}{w:ae}
def Fits(v:Nat->Value)(σ:Nat->Option Value):Prop:=∀j y,σ j=so y->v j=y
end
section
open Go.ConcR (g_of_ofEvents)
structure mE(d:Nat)(S:Nat->Prop)(t:Trace):Prop where
 clean:∀said,¬Race said t
 known:∀i a,touchAt t i=so a->a.loc.isMemory=true->Knows t 0 i\/(uf S a.loc/\a.kind=.atomic)
 over:t.HandedOver
 deaf:Deaf t 0=d
def EvB(S:Nat->Prop)(e:Event):Prop:=∀x,(MemAct.ofEvent e).touch?=so x->uf S x.loc->x.kind≠.plain
section
variable {d:Nat}{S:Nat->Prop}{t u:Trace}
def mE.Sq(h:mE 0 S t):∃B,∀M,Past (uf S) (B+M) t:=by
 obtain⟨B,hB⟩:=@IM (Go.ConcR.Payload.mk 0) t;exact⟨B,λM=>⟨h.clean,h.known,h.over,h.deaf,λop eW=>MemAct.low_mono (Nat.le_add_right _ _) (hB op eW)⟩⟩
def mE.of{B:Nat}(h:Past (uf S) B t):mE 0 S t:=⟨h.clean,h.known,h.over,h.hears⟩
def mE.own(h:mE d S t){fn:FuncId}{pos:String}{es:Array Event}(Iv:∀e∈es,EvB S e):mE (deafBehind d es) S (t++MemOp.ofEvents 0 fn pos es):=by
 have hu:∀op∈MemOp.ofEvents 0 fn pos es,op.g=0:=g_of_ofEvents;refine⟨λsaid=>noRace_append (h.clean said) hu λi a ha op eW b hb hc=>?_,λi a ha hm=>?_,handedOver_app h.over λop eW=>.inl (hu op eW),by rw[Deaf_own,h.deaf]⟩
 ·rcases h.known i a ha hc.2.1 with hk|⟨hsa,hka⟩
  ·exact hk
  ·obtain⟨e,he,rfl⟩:=Go.Conc.mem_ofEvents eW;have hkb:=Iv e he b hb (hc.1▸hsa);obtain⟨_,_,_,ga⟩:=hc;rw[hka]at ga;rcases ga with x|x|⟨_,x,_⟩
   ·cases x
   ·exact absurd x hkb
   ·cases x
 ·have⟨x,hx,YC⟩:=touch_of ha;rcases getElem?_append_cases hx with⟨_,mm⟩|⟨_,hxu⟩
  ·exact(h.known i a (by rw[touchAt_of mm];exact YC) hm).imp (·.app _) id
  ·have:=knows_own hx;rw[hu x hxu]at this;exact .inl this
def mE.mute(h:mE d S t){g:Nat}(hg:g≠0){fn:FuncId}{pos:String}{es:Array Event}(hm:∀e∈es,e.mute=true):mE d S (t++MemOp.ofEvents g fn pos es):=by
 have hu:∀op∈MemOp.ofEvents g fn pos es,op.g=g:=g_of_ofEvents;have hn:∀op∈MemOp.ofEvents g fn pos es,op.act.touch?=we:=λop eW=>by obtain⟨e,he,rfl⟩:=Go.Conc.mem_ofEvents eW;exact touch_mute (hm e he)
 refine⟨λsaid=>noRace_append (h.clean said) hu λi a _ op eW b hb _=>(by rw[hn op eW]at hb;cases hb),λi a ha hm=>?_,handedOver_app h.over λop eW=>.inr (hn op eW),(Deaf_other t hg _ hu).trans h.deaf⟩;have⟨x,hx,YC⟩:=touch_of ha;rcases getElem?_append_cases hx with⟨_,mm⟩|⟨_,hxu⟩
 ·exact(h.known i a (by rw[touchAt_of mm];exact YC) hm).imp (·.app _) id
 ·rw[hn x hxu]at YC;cases YC
end
def BX(P:Program)(Fin:bL)(d:Nat)(S:Nat->Prop)(g:aZ)(w:ae):Prop :=
 ∀(gs:Array aZ) (sl:Option (Nat×Nat)) (t:Trace) (q:Nat->Nat),gs[0]?=so g->Leavers P t gs q->mE d S t->(∀b,w.heap.size<=b->¬S b) ->
  ∃N gH w' rZ t' q' S' g',runNT P N (crowd gs w sl) t=(.next (crowd gH w' rZ),t')/\gH[0]?=so g'/\Leavers P t' gH q'/\mE 0 S' t'/\(∀b,w'.heap.size<=b->¬S' b)/\Fin S' g' w'
section
variable {P:Program}{Fin:bL}{d:Nat}{S:Nat->Prop}{g:aZ}{w:ae}
def BX.fin(h:Fin S g w):BX P Fin 0 S g w:=λgs sl t q h0 hL hP hS=>⟨0,gs,w,sl,t,q,S,g,rfl,h0,hL,hP,hS,h⟩
def BX.step(hs:g.status=.running)(h:∀w1,AtRel w w1->∃g' w' es,stepG P true g w1=.go g' w' es/\(∀e∈es,EvB S e)/\w1.heap.size<=w'.heap.size/\BX P Fin (deafBehind d es) S g' w'):BX P Fin d S g w:=by
 have key:∀(M:Nat) (gs:Array aZ) (w2:ae) (sl:Option (Nat×Nat)) (t:Trace) (q:Nat->Nat),sumTo gs.size q<M->AtRel w w2->gs[0]?=so g->Leavers P t gs q->mE d S t->(∀b,w2.heap.size<=b->¬S b) ->
   ∃N gH w' rZ t' q' S' g',runNT P N (crowd gs w2 sl) t=(.next (crowd gH w' rZ),t')/\gH[0]?=so g'/\Leavers P t' gH q'/\mE 0 S' t'/\(∀b,w'.heap.size<=b->¬S' b)/\Fin S' g' w':=by
  intro M
  induction M with
  |zero=>intro gs w2 sl t q hM;exact absurd hM (er _)
  |succ M ih =>
   intro gs w2 sl t q hM hr h0 hL hP hSh;have YB:∀x∈gs,awake x:=by
    intro x hx;obtain⟨i,hi,rfl⟩:=aaS.1 hx;rcases bg i with rfl|mO
    ·have:gs[0]=g:=by simpa[Array.getElem?_eq_getElem hi] using h0
     rw[this];exact awake_of (.inl hs)
    ·exact awake_of ((hL.old i _ mO (aO hi)).status.elim .inl λx=>.inr (.inr x))
   have⟨i,x,dd,rZ,hi,hx,eH⟩:=crowd_pick (P:=P) (w:=w2) (sl:=sl) YB ⟨0,g,h0,hs⟩;rcases bg i with rfl|mO
   ·obtain rfl:x=g:=by rw[h0]at hi;exact(aT hi).symm
    have⟨g',w',es,e1,e2,e3,e4⟩:=h (w2.at dd) (atRel_trans _ _ _ hr ⟨dd,rfl⟩);have ug:=runT_crowd_go (P:=P) (sl:=rZ) (i:=0) hi (show stepG P (0==0) x (w2.at dd)=_ from e1);have cx:0<gs.size:=(aad.1 h0).1;have⟨N,gH,w3,sl3,t3,q3,S3,g3,k1,k2⟩:=e4 ((gs.map (woken P x g' w')).setIfInBounds 0 g') rZ (t++MemOp.ofEvents 0 x.frame.fn x.frame.place es) q (by simp[cx])
     ⟨λj y hj hy=>by
      have dE:0≠j:=aa;rw[aU dE,aL]at hy;obtain⟨z,hz,rfl⟩:=aaf.1 hy;have hq:=hL.old j z hj hz;rw[woken_quitsD hq,Deaf_other t aa _ g_of_ofEvents];exact hq,λj hj=>by
      rw[Deaf_other t (g':=0) (by simp at hj;omega) _ g_of_ofEvents];exact hL.above j (by simpa using hj)⟩
     (hP.own e2) (λb hb=>hSh b (aY e3 hb))
    exact⟨N+1,gH,w3,sl3,t3,q3,S3,g3,by simp only[runNT,eH,ug];exact k1,k2⟩
   ·have hq:=hL.old i x mO hi;have hi0:(i==0)=false:=eP;have cx:i<gs.size:=(aad.1 hi).1;cases Z2:q i with
    |zero=>rw[Z2]at hq;rw[hq.1]at hx;cases hx
    |succ k =>
     rw[Z2]at hq;rcases hq with⟨hf,_⟩|⟨_,g',es,hm,Z3,Bs⟩
     ·rw[hf]at hx;cases hx
     have ug:=runT_crowd_go (P:=P) (sl:=rZ) (i:=i) hi (by rw[hi0];exact Z3 (w2.at dd));have fy:((gs.map (woken P x g' (w2.at dd))).setIfInBounds i g').size=gs.size:=ar;have ahH:sumTo gs.size (upd q i k)+(k+1)=sumTo gs.size q+k:=by
      have:=sumTo_upd q k id cx;simpa[Z2] using this
     have⟨N,gH,w3,sl3,t3,q3,S3,g3,k1,k2⟩:=ih ((gs.map (woken P x g' (w2.at dd))).setIfInBounds i g') (w2.at dd) rZ (t++MemOp.ofEvents i x.frame.fn x.frame.place es) (upd q i k) (by rw[fy];omega) (atRel_trans _ _ _ hr ⟨dd,rfl⟩)
      (by
       have dE:i≠0:=aa;rw[aU dE,aL,h0];simp[woken_run hs])
      ⟨λj y hj hy=>by
       by_cases Bt:i=j
       ·subst Bt;rw[cj (by simpa using cx)]at hy;obtain rfl:=aT hy;rw[upd_same,Deaf_own];exact Bs
       ·rw[aU Bt,aL]at hy;obtain⟨z,hz,rfl⟩:=aaf.1 hy;have hqj:=hL.old j z hj hz;rw[woken_quitsD hqj,upd_ne q k (bq Bt),Deaf_other t Bt _ g_of_ofEvents];exact hqj,λj hj=>by
       rw[Deaf_other t (g':=i) (by simp at hj;omega) _ g_of_ofEvents];exact hL.above j (by simpa using hj)⟩
      (hP.mute aa hm) hSh
     exact⟨N+1,gH,w3,sl3,t3,q3,S3,g3,by simp only[runNT,eH,ug];exact k1,k2⟩
 intro gs sl t q h0 hL hP hSh;exact key (sumTo gs.size q+1) gs w sl t q (bJ _) (atRel_refl w) h0 hL hP hSh
def BX.mono{adB:bL}(h:BX P Fin d S g w)(hF:∀S g w,Fin S g w->adB S g w):BX P adB d S g w:=by
 intro gs sl t q h0 hL hP hS;have⟨N,gH,w',rZ,t',q',S',g',k1,k2,k3,k4,k5,k6⟩:=h gs sl t q h0 hL hP hS;exact⟨N,gH,w',rZ,t',q',S',g',k1,k2,k3,k4,k5,hF _ _ _ k6⟩
def Bc(P:Program)(Fin:bL)(d:Nat)(S:Nat->Prop)(g:aZ)(w:ae):Prop:=∀w1,AtRel w w1->BX P Fin d S g w1
def Bc.bx(h:Bc P Fin d S g w):BX P Fin d S g w:=h w (atRel_refl w)
def Bc.fin(h:∀w1,AtRel w w1->Fin S g w1):Bc P Fin 0 S g w:=λw1 hw=>BX.fin (h w1 hw)
def Bc.rely{w1:ae}(h:Bc P Fin d S g w)(hr:AtRel w w1):Bc P Fin d S g w1:=λw2 h2=>h w2 (atRel_trans _ _ _ hr h2)
def Bc.step(hs:g.status=.running)(h:∀w1,AtRel w w1->∃g' w' es,stepG P true g w1=.go g' w' es/\(∀e∈es,EvB S e)/\w1.heap.size<=w'.heap.size/\Bc P Fin (deafBehind d es) S g' w'):Bc P Fin d S g w:=by
 intro w1 hw;refine BX.step hs λw2 vh=>?_;have⟨g',w',es,e1,e2,e3,e4⟩:=h w2 (atRel_trans _ _ _ hw vh);exact⟨g',w',es,e1,e2,e3,e4.bx⟩
def Td(P:Program)(Post:Value->ae->Prop)(_:Nat->Prop)(g:aZ)(w:ae):Prop:=∀w1,AtRel w w1->g.status=.running/\∃v,stepG P true g w1=.ended (.done v) w1 #[]/\Post v w1
def BX.call{L:Nat->Bool}{Gm:Nat}(dc:rT P L Gm){Bq:FuncId}{Q:Value->ae->Prop}{c:Frame}{cs:List Frame}{F:jC}{x:aZ×ae}(Gy:Acc (Nx P (kR P Bq Q)) x){gr:aZ}(hK:∀r,F.K r->¬S (F.φ r))(Pu:xX P L Gm (kR P Bq Q) (c::cs) F (x.1,WT x.2 w.tape w.drawn) gr w)(SM:∀v v' F' aX w',Q v aX->(∀f,F'.has f->v'=val f v)->WR F' aX w'->fu F F' x.2 w aX w'->(∀r,F'.K r->¬S (F'.φ r))->BX P Fin 0 S (G (c.finish v') cs) w'):BX P Fin 0 S gr w:=by
 intro gs sl t q h0 hL hP hS;have⟨B,hB⟩:=hP.Sq;have⟨N,gH,w',aX,rZ,t',q',B',F',v,v',k1,k2,k3,k4,k5,k6,k7,k8,k9,Iy,k11,k12,k13⟩:=Ix dc x Gy (sumTo gs.size q+1) (B+w.heap.size) gs gr w sl t q F (bJ _) h0 hL aa (hB w.heap.size) hK hS Pu;have⟨N2,gs2,w2,Wm,t2,q2,S2,g2,l1,l2⟩:=SM v v' F' aX w' k7 k8 k9 Iy k12 gH rZ t' q' k3 k4 (mE.of k6) k13;exact⟨N+N2,gs2,w2,Wm,t2,q2,S2,g2,by rw[runNT_add,k1];exact l1,l2⟩
end
end
def yi(Fin:bL)(b:Nat):Prop:=∀S g w,Fin S g w->¬S b
def Fy(Fin:bL)(o:aM)(w:ae):Nat->Prop:=λb=>b<w.heap.size/\¬o b/\¬yi Fin b
def I2(Fin:bL)(w0:ae):bL:=λS g w=>Fin S g w/\w.os=w0.os/\w.output=w0.output
def GH{Fin:bL}{w w':ae}(h:w'.os=w.os/\w'.output=w.output):I2 Fin w'=I2 Fin w:=by
 funext S g w1;simp only[I2,h.1,h.2]
def uw(Fin:bL)(w:ae):Prop:=∀b,yi Fin b->b<w.heap.size
def uw.up{Fin:bL}{w w':ae}(h:uw Fin w)(hs:w.heap.size<=w'.heap.size):uw Fin w':=λb hb=>bz (h b hb) hs
def uw.at_{Fin:bL}{w w':ae}(h:uw Fin w)(hs:AtRel w w'):uw Fin w':=by obtain⟨d,rfl⟩:=hs;exact h
def uw.back{Fin:bL}{w w':ae}(h:uw Fin w')(hs:AtRel w w'):uw Fin w:=by obtain⟨d,rfl⟩:=hs;exact h
abbrev XB(P:Program)(Fin:bL)(d:Nat):aM->aZ->ae->Prop:=λo g w=>uw Fin w->Bc P (I2 Fin w) d (Fy Fin o w) g w
def WA(o:aM)(e:Event):Prop:=∀x,(MemAct.ofEvent e).touch?=so x->∀a,x.loc=.cell a->x.kind=.plain->o a.block
def EvF(Fin:bL)(o:aM)(e:Event):Prop:=WA (λb=>o b\/yi Fin b) e
def WA.Te{Fin:bL}{o:aM}{e:Event}(h:WA o e):EvF Fin o e:=λx hx a ha hk=>.inl (h x hx a ha hk)
def GuO(Fin:bL)(o:aM)(w w':ae)(es:Array Event):Prop:=(∀e∈es,EvF Fin (grow o w w') e/\e.loc≠.mark .disable/\e.loc≠.mark .enable)/\w.heap.size<=w'.heap.size/\w'.os=w.os/\w'.output=w.output
section
variable {P:Program}{Fin:bL}{d:Nat}{o:aM}{g:aZ}{w w1 w':ae}
def CJ(h:w1.heap.size<=w'.heap.size):Fy Fin (grow o w1 w') w'=Fy Fin o w1:=by
 funext b;simp only[Fy,grow,eq_iff_iff];constructor
 ·rintro⟨h1,h2,h5⟩;exact⟨fA λh3=>h2 (.inr ⟨h3,h1⟩),λh3=>h2 (.inl h3),h5⟩
 ·rintro⟨h1,h2,h5⟩;exact⟨aa,λh3=>h3.elim h2 λh4=>aa,h5⟩
def L1(h:AtRel w w1):Fy Fin o w1=Fy Fin o w:=by obtain⟨d,rfl⟩:=h;rfl
def EvF.evB{e:Event}(h:EvF Fin (grow o w1 w') e)(hs:w1.heap.size<=w'.heap.size):EvB (Fy Fin o w1) e:=by
 intro x hx tJ hk;rw[<- CJ (o:=o) hs]at tJ;cases hl:x.loc with
 |cell a=>rw[hl]at tJ;exact(h x hx a hl hk).elim tJ.2.1 tJ.2.2
 |_=>rw[hl]at tJ;exact tJ
def bY:fH P true (λ_=>AtRel) (GuO Fin) (XB P Fin d) where
 step o g w hs h:=λPZ=>Bc.step hs λw1 hw=>by
  have⟨g',w',es,e1,e2,e3⟩:=h w1 hw;refine⟨g',w',es,e1,λe he=>?_,e2.2.1,?_⟩
  ·rw[<- L1 hw];exact(e2.1 e he).1.evB e2.2.1
  ·rw[deafBehind_still (λe he=>(e2.1 e he).2),<- L1 hw];have:=e3 ((PZ.at_ hw).up e2.2.1);rw[CJ e2.2.1,GH e2.2.2]at this;obtain⟨n,rfl⟩:=hw;exact this
 rely o g w w1 h hr:=by
  intro PZ;show Bc P (I2 Fin w1) d (Fy Fin o w1) g w1;rw[L1 hr];have h':=Bc.rely (h (PZ.back hr)) hr;obtain⟨n,rfl⟩:=hr;exact h'
 idle o w:=⟨ar,ah _,rfl,rfl⟩
def XB.mark(hs:g.status=.running){g':aZ}{d':Nat}{es:Array Event}(Iv:∀e∈es,∃m,e.loc=.mark m)(hd:deafBehind d es=d')(h:∀w1,stepG P true g w1=.go g' w1 es)(hx:XB P Fin d' o g' w):XB P Fin d o g w:=by
 intro PZ;refine Bc.step hs λw1 hw=>⟨g',w1,es,h w1,λe he=>?_,ah _,?_⟩
 ·have⟨m,hm⟩:=Iv e he;obtain⟨loc,wt,sy⟩:=e;subst hm;intro x hx _;cases m<;>simp only[MemAct.ofEvent,MemAct.touch?,aA,reduceCtorEq]at hx;all_goals (subst hx;simp)
 ·rw[hd];exact Bc.rely (hx PZ) hw
end
def Bw:Rn:=⟨id,id,id,id⟩
def By:∀v:Value,val Bw v=v:=by
 intro v;have hl:∀l:List Value,(∀x∈l,val Bw x=x)->l.map (val Bw)=l:=λl h=>by
  conv=>rhs;rw[<- List.map_id l]
  exact bG λx hx=>h x hx
 have ha:∀a:Array Value,(∀x∈a,val Bw x=x)->a.map (val Bw)=a:=λa h=>by
  apply Array.ext';rw[cz];exact hl a.toList λx hx=>h x (by simpa using hx)
 induction v using Value.rec (motive_2:=λa=>a.map (val Bw)=a) (motive_3:=λl=>l.map (val Bw)=l)
 case pointer a=>cases a<;>simp[val,addr,Bw]
 case slice a l c=>cases a<;>simp[val,addr,Bw]
 case map r=>cases r<;>simp[val,Bw]
 case chan r=>cases r<;>simp[val,Bw]
 case func fn a b h1 h2=>rw[val,h1,h2];congr 1;cases fn<;>rfl
 case iface t v h=>rw[val,h]
 case agg a h=>rw[val,h]
 case tuple a h=>rw[val,h]
 case mk l h=>exact ha ⟨l⟩ (λx hx=>by
  have mm:x∈l:=by simpa using hx
  have:∀(l:List Value),l.map (val Bw)=l->∀x∈l,val Bw x=x:=by
   intro l
   induction l with
   |nil=>intro _ x hx;cases hx
   |cons y l ih =>
    intro h x hx;simp only[aC,cy]at h;rcases bM.1 hx with rfl|hx
    ·exact h.1
    ·exact ih h.2 x hx
  exact this l h x mm)
 case nil=>rfl
 case cons x l h1 h2=>rw[aC,h1,h2]
 all_goals simp[val]
def NV(x:Obj):obj Bw x=x:=by
 have e:(val Bw)=id:=funext By;have e2:(entry Bw)=id:=funext λx=>by simp[entry,By]
 cases x<;>first|(simp[obj,e,e2];done)|(simp[obj,addr,Bw];done)
def mI(P:Program)(L:Nat->Bool)(o:aM):jC:=⟨o,id,λn=>L n=true,P.globals.size⟩
structure bO(P:Program)(L:Nat->Bool)(o:aM)(w:ae):Prop where
 shut:∀b,o b->∃x,w.heap[b]?=so x/\fl x=false/\∀f,(mI P L o).has f->obj f x=x
 kp:∀b,b<P.globals.size->o b
 size:P.globals.size<=w.heap.size
section
variable {P:Program}{L:Nat->Bool}{o:aM}{w:ae}
def bO.lt(h:bO P L o w){b:Nat}(hb:o b):b<w.heap.size:=by
 have⟨x,hx,_⟩:=h.shut b hb;exact(aad.1 hx).1
def GI(h:∀b,b<P.globals.size->o b):E1 (mI P L o):=⟨λr _ hg=>hg,.inl λr hr=>⟨h r hr,rfl⟩⟩
def NW:(mI P L o).has Bw:=⟨λ_ _ h=>h,λ_ _=>rfl,λ_ _=>rfl,λ_=>da⟩
def CK(o:aM):∃N:Nat->Bool,∀b,N b=true↔o b:=by
 classical
 exact⟨λb=>decide (o b),ar⟩
def bO.wr(h:bO P L o w){N:Nat->Bool}(hN:∀b,N b=true↔o b):WR (mI P L o) (iU N w) w where
 here r hr:=by rw[kY];exact h.lt hr
 there r hr:=h.lt hr
 inj r s _ _ e:=e
 tO r hr f hf:=by
  have⟨x,hx,_,hc⟩:=h.shut r hr;rw[lU N w ((hN r).2 hr)];show w.heap[r]?=_;rw[hx,aJ,hc f hf]
 RF r hr x hx:=by
  have⟨y,hy,hp,_⟩:=h.shut r hr;rw[lU N w ((hN r).2 hr),hy]at hx;cases hx;exact hp
 os:=rfl
 output:=rfl
 tape:=rfl
 drawn:=rfl
 A3:=GI h.kp
 Gc:=h.size
 Ed:=by rw[kY];exact h.size
def bO.Tf(h:bO P L o w){N:Nat->Bool}(hN:∀b,N b=true↔o b):fI (iU N w):=by
 intro r x hx;by_cases hr:N r=true
 ·have⟨y,hy,hp,_⟩:=h.shut r ((hN r).1 hr);rw[lU N w hr,hy]at hx;cases hx;exact hp
 ·have:(iU N w).heap[r]?=(w.heap[r]?).map λ_=>.cells #[] 0:=by
   simp only[iU,Array.getElem?_mapIdx];cases w.heap[r]?<;>simp[hr]
  rw[this]at hx;cases hw:w.heap[r]? with
  |none=>rw[hw]at hx;cases hx
  |some y=>rw[hw]at hx;cases hx;rfl
def bO.of_heap(h:bO P L o w){w1:ae}(e:w1.heap=w.heap):bO P L o w1:=⟨λb hb=>by rw[e];exact h.shut b hb,h.kp,by rw[e];exact h.size⟩
structure lJ(P:Program)(L:Nat->Bool)(o:aM)(w w' aX:ae)(v:Value):Prop where
 aH:bO P L (grow o w w') w'
 same:∀b,grow o w w' b->w'.heap[b]?=aX.heap[b]?
 rest:∀b,b<w.heap.size->¬o b->w'.heap[b]?=w.heap[b]?
 size:w'.heap.size=aX.heap.size
 iS:w.heap.size<=w'.heap.size
 val:∀f,(mI P L (grow o w w')).has f->Ren.val f v=v
 os:w'.os=w.os
 output:w'.output=w.output
variable {Fin:bL}
def sO(dc:rT P L P.globals.size){f:FuncId}{vs:Array Value}(hL:L f=true)(hF:bO P L o w)(uo:∀g,(mI P L o).has g->vs.map (val g)=vs){R:ae->Value->ae->Prop}(hR:∀wl,LC (R wl))(hRW:∀wl τ d v w',R (WT wl τ d) v w'->R wl v w')(hC:∀wl,wl.heap.size=w.heap.size->(∀b,o b->wl.heap[b]?=w.heap[b]?)->Calls P f vs wl λe w'=>∃v,e=.returned v/\R wl v w'){Post:Value->aM->ae->Prop}(h:∀wl v aX w',wl.heap.size=w.heap.size->(∀b,o b->wl.heap[b]?=w.heap[b]?)->R wl v aX->lJ P L o w w' aX v->Post v (grow o w w') w'):bA P (XB P Fin 0) f vs o w Post:=by
 intro c cs hc;intro PZ;show Bc P (I2 Fin w) 0 (Fy Fin o w) _ w;intro w1 pj;obtain⟨dd,rfl⟩:=pj;have lz:bO P L o (w.at dd):=hF.of_heap rfl;have⟨N,hN⟩:=CK o;have hW:=lz.wr hN;have KX:PF P L P.globals.size (mI P L o):=⟨λr hr=>⟨hF.kp r hr,rfl⟩,rfl,rfl,GI hF.kp⟩;have Em:∀g,(mI P L o).has g->Frame.enter P f vs .normal=frame g (Frame.enter P f vs .normal):=λg hg=>by
  have:=uo g hg;simp only[frame,Frame.enter,Array.map_append,this,Array.map_replicate,lB]
 have SQ:Inv P L P.globals.size [gy] (G (Frame.enter P f vs .normal) [gy]) (iU N (w.at dd)) :=
  ⟨mI P L o,_,[],_,[],w.at dd,rfl,tZ dc hL _,ar,λg hg=>⟨Em g hg,rfl⟩,hW,(lz.Tf hN),KX⟩
 have aW:∀b,o b->(iU N (w.at dd)).heap[b]?=w.heap[b]?:=λb hb=>lU N (w.at dd) ((hN b).2 hb);have fy:(iU N (w.at dd)).heap.size=w.heap.size:=kY _ _;have wu:Good P (kR P f (R (iU N (w.at dd)))) (G (Frame.enter P f vs .normal) [gy]) (iU N (w.at dd)):=by
  refine wo dc (hR _) SQ λτ d=>?_;refine(hC (WT (iU N (w.at dd)) τ d) fy aW).mono ?_;rintro e w' ⟨v,rfl,hv⟩;exact⟨v,rfl,hRW _ _ _ _ _ hv⟩
 have Gy:=Iu dc (Br f _) SQ wu;refine BX.call dc (F:=mI P L o) Gy (λr hr hs=>hs.2.1 hr) ⟨_,[],_,[],rfl,rfl,tZ dc hL _,ar,λg hg=>⟨Em g hg,rfl⟩,hW,(lz.Tf hN),KX,wu⟩ λv v' F' aX w' hQ hv IY hm hS=>?_;have kS:=hm.same fy;have NX:∀r,F'.K r->F'.φ r=r:=λr hr=>by
  rcases kS.2 r hr with h1|h1
  ·exact(hm.φ r h1)
  ·exact h1
 have Ew:w.heap.size<=w'.heap.size:=hm.size;have hK:F'.K=grow o w w':=by
  funext r;simp only[grow,eq_iff_iff];constructor
  ·intro hr;rcases hm.wM r hr with h1|h1
   ·exact .inl h1
   ·refine .inr ⟨by rw[<- fy];exact h1.1,?_⟩;have:=IY.here r hr;rw[<- kS.1];exact this
  ·rintro(h1|h1)
   ·exact hm.K r h1
   ·have⟨r',a,b⟩:=hm.mine r h1.1 h1.2;rw[NX r' a]at b;exact b▸a
 have hG:F'.G=P.globals.size:=hm.G;have hLL:F'.L=λn=>L n=true:=hm.L;have CL:∀f,(mI P L (grow o w w')).has f->F'.has f:=λf hf=>⟨hf.inj,λr hr=>by rw[NX r hr];exact hf.at_ r (hK▸hr),λn hn=>hf.fn n (by rw[hLL]at hn;exact hn),by rw[hG];exact hf.kp⟩;have hid:=CL Bw NW;have xz:v'=v:=(hv Bw hid).trans (By v);subst xz;have CM:∀b,grow o w w' b->w'.heap[b]?=aX.heap[b]?:=λb hb=>by
  have nz:F'.K b:=hK▸hb;have:=IY.tO b nz Bw hid;rw[NX b nz]at this;rw[this];cases aX.heap[b]?<;>simp[NV]
 have Tg:lJ P L o w w' aX v':=by
  refine⟨⟨λb hb=>?_,λb hb=>.inl (hF.kp b hb),aY hF.size Ew⟩,CM,λb h1 h2=>?_,kS.1.symm,Ew,λf hf=>(hv f (CL f hf)).symm,IY.os.trans (hm.R7.trans rfl),IY.output.trans (hm.BO.trans rfl)⟩
  ·have nz:F'.K b:=hK▸hb;have cx:=IY.here b nz;refine⟨aX.heap[b],by rw[CM b hb];exact aO cx,IY.RF b nz _ (aO cx),λf hf=>?_⟩;have:=IY.tO b nz f (CL f hf);rw[NX b nz,CM b hb,aO cx,aJ]at this;exact(aT this).symm
  ·refine hm.rest b λr hr e=>?_;rw[NX r hr]at e;subst e;have:grow o w w' r:=hK▸hr;rcases this with h3|h3
   ·exact h2 h3
   ·omega
 have:=hc v' _ w' (h _ v' aX w' fy aW hQ Tg);have hx:Bc P (I2 Fin w') 0 (Fy Fin (grow o w w') w') (G (c.finish v') cs) w':=this (PZ.up Ew);rw[CJ Ew,GH ⟨Tg.os,Tg.output⟩]at hx;exact hx.bx
end
section
open Go.ConcN.Gen Go.RowKit Go.Conc.Lib Go.ConcR.Gen
open Go.ConcR (KK wgBlock WgAt stA smA rd wr Payload DC0)
variable [Payload]{L:WgLink}
theorem bR{T:dj}{o:Nat->Prop}{w0 w w1:ae}(h:dQ T o w0 w/\WgLive T.ty T.Wg w)(r:dQ T o w w1):dQ T o w0 w1/\WgLive T.ty T.Wg w1:=⟨h.1.trans r,r.wg h.2⟩
theorem L4{T:dj}(hT:T.OK){o:Nat->Prop}(ho:∀b,o b->T.H0<=b){w0 w:ae}{st sm:Int}(h:dQ T o w0 w)(hw:WgAt T.ty T.Wg w st sm)(v:Int):dQ T o w0 (w.setCell (stA T.Wg) (.int .u64 v))/\WgLive T.ty T.Wg (w.setCell (stA T.Wg) (.int .u64 v)) :=
 ⟨h.trans (x8 hT ho (aside_setCell w (stA T.Wg) _) ⟨_,_,hw.setSt v⟩),⟨_,_,hw.setSt v⟩⟩
theorem WB{T:dj}(hT:T.OK){o:Nat->Prop}(ho:∀b,o b->T.H0<=b){w0 w:ae}{st sm:Int}(h:dQ T o w0 w)(hw:WgAt T.ty T.Wg w st sm)(v:Int):dQ T o w0 (w.setCell (smA T.Wg) (.int .u32 v))/\WgLive T.ty T.Wg (w.setCell (smA T.Wg) (.int .u32 v)) :=
 ⟨h.trans (x8 hT ho (aside_setCell w (smA T.Wg) _) ⟨_,_,hw.setSm v⟩),⟨_,_,hw.setSm v⟩⟩
theorem I3{T:dj}{o:Nat->Prop}{a:Addr}(h:a.block=T.Wg):∀e,(e=(⟨.mark (.read a),false,true⟩:Event)\/e=(⟨.mark (.write a),false,true⟩:Event))->EvS T o e:=by
 rintro e (rfl|rfl)
 ·refine⟨λb hb _=>?_,ar,ar,ar⟩;simp only[MemAct.ofEvent,MemAct.touch?,aA]at hb;subst hb;exact .inl ⟨h,ar⟩
 ·refine⟨λb hb _=>?_,ar,ar,ar⟩;simp only[MemAct.ofEvent,MemAct.touch?,aA]at hb;subst hb;exact .inl ⟨h,ar⟩
section
variable {P:Program}{T:dj}{V:Nat->ae->Prop}{ff:Nat->(Nat->Prop)->ae->Prop}{cP Fin:eQ}{Next:eQ}{o:Nat->Prop}{j:Nat}{w0:ae}
 {I4:Frame}{I5:Act}{rI:Array Oper}{I6:Nat}{rh:List Nat}{rW:List Item}{cs:List Frame}
theorem ah7(H:WgLib P L)(hT:T.OK)(ho:∀b,o b->T.H0<=b)(hG:∀w,dQ T o w0 w->di P T (SGo P T V ff j Next) o (G (I4.at (I5.put ((rI[I6]?).bind (·.dst)) (.tuple #[])) (.inRegion rI rh::rW)) cs) w)(w:ae)(hF:dQ T o w0 w/\WgLive T.ty T.Wg w):
  di P T (LK P T V ff j Next) o (G ((base L.add).at ⟨#[.pointer (so ⟨T.Wg,0,we⟩),.int .i64 1,undef,undef,undef,undef,undef,undef,undef,undef,undef,undef,undef,undef,undef,undef,undef,undef,undef,undef,undef,undef,undef,undef,undef,undef,undef,undef,undef,undef,undef,undef,undef,undef,undef,undef,undef,undef,undef,undef,undef,undef,undef,undef,undef,undef,undef,undef,undef,undef,undef,undef,undef,undef,undef,undef,undef,undef,undef,undef,undef,undef,undef,undef,undef,undef,undef,undef,undef,undef,undef,undef,undef,undef,undef,undef,undef,undef,undef,undef,undef,undef,undef,undef,undef,undef,undef,undef,undef,undef,undef,undef,undef,undef,undef,undef,undef,undef,undef,undef,undef,undef,undef,undef,undef,undef,undef,undef,undef,undef,undef,undef,undef,undef,undef,undef,undef],[]⟩ [.code (body_add L)]) (I4.at I5 (.inRegion rI (I6::rh)::rW)::cs)) w:=by
 lib_facts
 simp only[body_add,addFn,bu];refine di.ju (n:=12) ?_
 u_c aE bR hF
 u_cond true bR hF
 u_c aE bR hF
 u_c aE bR hF
 u_reg bR hF
 u_op bR hF
 u_op bR hF
 u_c au bR hF
 u_cond false bR hF
 u_c cB bR hF
 u_c aE bR hF
 u_reg bR hF
 refine cw (λw₁ Po=>di.stop λaoG adC=>?_);replace hF:=bR (bR hF Po) adC;clear Po adC;refine⟨rfl,_,stepG_mark0 .disable ar rfl rfl (by k_ne) rfl H.f_disable (x_disable_n L) (x_disable_b L) (x_disable_x L) (x_disable_f L),di.ju (n:=40) ?_⟩;walk_nrm
 u_c au bR hF
 u_reg bR hF
 u_defer bR hF
 u_c au bR hF
 u_c aE bR hF
 u_reg bR hF
 u_op bR hF
 u_c au bR hF
 u_c aE bR hF
 u_c aE bR hF
 u_reg bR hF
 u_bub bR hF
 u_c au bR hF
 u_cond false bR hF
 u_c cB bR hF
 u_c aE bR hF
 u_reg bR hF
 iterate 6 u_op bR hF
 u_call H.f_uAdd (nm_uAdd L) uAddFn bR hF
 u_c aE bR hF
 u_reg bR hF
 u_op bR hF
 u_c au bR hF
 u_c aE bR hF
 u_reg bR hF
 iterate 4 u_op bR hF
 refine cw (λaoH adD=>di.stop λah8 adE=>?_);replace hF:=bR (bR hF adD) adE;clear adD adE;refine⟨rfl,λv hv hw=>?_⟩;rcases bg v with rfl|hvp
 ·replace hw:WgAt T.ty T.Wg ah8 0 0:=by simpa using hw
  have z:(((0:Nat):Int)+1)*KK=KK:=ar;rw[z];have e0:IntKind.u64.wrap (0+4294967296)=KK:=eB;refine⟨_,(stepG_add_atomic rfl rfl (by k_ne) rfl H.f_addU64 (x_addU64_n L) (x_addU64_b L) (x_addU64_x L) .u64 (x_addU64_f L) rfl rfl hw.cellSt (hw.thaw 0)).trans (by rw[e0];rfl),di.ju (n:=60) ?_⟩;replace hF:=L4 hT ho hF.1 hw KK;clear hw;simp only[KK]at hF |-;walk_nrm
  u_op bR hF
  u_c au bR hF
  u_c stepG_ret' bR hF
  u_leave1 H.f_uAdd bR hF
  u_op bR hF
  u_c au bR hF
  u_c aE bR hF
  u_c aE bR hF
  u_reg bR hF
  iterate 4 u_op bR hF
  u_skip bR hF
  u_skip bR hF
  u_op bR hF
  u_c au bR hF
  u_cond false bR hF
  u_c cB bR hF
  u_c aE bR hF
  u_reg bR hF
  iterate 4 u_op bR hF
  u_c au bR hF
  u_c aE bR hF
  u_reg bR hF
  iterate 4 u_op bR hF
  u_c au bR hF
  u_c aE bR hF
  u_c aE bR hF
  u_reg bR hF
  iterate 10 u_op bR hF
  u_c au bR hF
  u_cond true bR hF
  u_reg bR hF
  iterate 3 u_op bR hF
  u_conv H.underlying_tPU32 H.room_tU32 (WgLive.cell1 hF.2).choose_spec bR hF
  refine cw (λaoJ adF=>di.one rfl λaoK adG=>?_);replace hF:=bR (bR hF adF) adG;clear adF adG;refine⟨_,_,stepG_markAt .read ar rfl rfl (by k_ne) rfl H.f_raceRead (x_raceRead_n L) (x_raceRead_b L) (x_raceRead_x L) (x_raceRead_f L) (ad:=⟨T.Wg,1,we⟩) aK,λe he=>?_,di.ju (n:=50) ?_⟩
  ·rw[Array.mem_singleton]at he;exact I3 rfl e (.inl he)
  walk_nrm
  u_c au bR hF
  u_c aE bR hF
  u_c aE bR hF
  u_reg bR hF
  u_op bR hF
  u_op bR hF
  u_c au bR hF
  u_cond false bR hF
  u_c cB bR hF
  u_c aE bR hF
  u_c aE bR hF
  u_reg bR hF
  iterate 3 u_op bR hF
  u_skip bR hF
  u_skip bR hF
  u_op bR hF
  u_op bR hF
  iterate 4 u_skip bR hF
  u_op bR hF
  u_c au bR hF
  u_cond false bR hF
  u_c cB bR hF
  u_c aE bR hF
  u_c aE bR hF
  u_reg bR hF
  iterate 3 u_op bR hF
  u_skip bR hF
  u_skip bR hF
  u_op bR hF
  u_c au bR hF
  u_cond true bR hF
  u_c stepG_ret' bR hF
  refine cw (λah9 Ti=>di.stop λaia Tj=>?_);replace hF:=bR (bR hF Ti) Tj;clear Ti Tj;refine⟨rfl,_,stepG_unwind_entry (v:=.tuple #[]) (evs:=#[Go.ConcR.mk .enable]) rfl H.f_enable (x_enable_n L) (x_enable_b L) (x_enable_x L) (x_enable_f L) (by simp[Extern.Race.none_]) (by simp[Go.ConcR.mk]) (by simp[Go.ConcR.mk]),di.ju (n:=2) ?_⟩
  u_leave0 H.f_add bR hF
  exact cw λaap aaq=>hG aap (hF.1.trans aaq)
 ·obtain⟨Vv,hVv⟩:∃Vv:Int,Vv=(v:Int)+1:=⟨_,rfl⟩;obtain⟨S,hS⟩:∃S:Int,S=Vv*KK:=⟨_,rfl⟩;have eS:IntKind.u64.wrap ((v:Int)*KK+4294967296)=S:=by rw[IntKind.wrap_u64,hS,hVv];simp only[KK];omega
  rw[<- hVv,<- hS];have a1:S/4294967296=Vv:=by rw[hS];simp only[KK];omega
  have b1:bits .and .u64 S 2147483648=0:=by rw[hS,hVv];have:=st_flag (v+1) 0 aa aa;simpa[KK] using this
  have b2:bits .and .u64 S 2147483647=0:=by rw[hS,hVv];have:=st_waiters (v+1) 0 aa aa;simpa[KK] using this
  have c1:IntKind.i32.wrap Vv=Vv:=by rw[IntKind.wrap_i32];omega
  have hV1:1<Vv:=aa;have q1:(Vv==1)=false:=eP;have q2:decide (Vv=1)=false:=dq aa;have q3:decide (Vv<0)=false:=dq aa;have q4:decide (0<Vv)=true:=cW aa;have q5:(Vv==0)=false:=eP;have q6:decide (Vv=0)=false:=dq aa;refine⟨_,(stepG_add_atomic rfl rfl (by k_ne) rfl H.f_addU64 (x_addU64_n L) (x_addU64_b L) (x_addU64_x L) .u64 (x_addU64_f L) rfl rfl hw.cellSt (hw.thaw 0)).trans (by rw[eS];rfl),di.ju (n:=110) ?_⟩;replace hF:=L4 hT ho hF.1 hw S;clear hw hS hVv eS;walk_nrm
  u_op bR hF
  u_c au bR hF
  u_c stepG_ret' bR hF
  u_leave1 H.f_uAdd bR hF
  u_op bR hF
  u_c au bR hF
  u_c aE bR hF
  u_c aE bR hF
  u_reg bR hF
  iterate 4 u_op bR hF
  u_skip bR hF
  u_skip bR hF
  u_op bR hF
  u_c au bR hF
  u_cnd false bR hF
  u_c cB bR hF
  u_c aE bR hF
  u_reg bR hF
  iterate 4 u_op bR hF
  u_c au bR hF
  u_c aE bR hF
  u_reg bR hF
  iterate 4 u_op bR hF
  u_c au bR hF
  u_c aE bR hF
  u_c aE bR hF
  u_reg bR hF
  iterate 10 u_op bR hF
  u_c au bR hF
  u_cnd false bR hF
  u_c cB bR hF
  u_c aE bR hF
  u_c aE bR hF
  u_reg bR hF
  u_op bR hF
  u_op bR hF
  u_c au bR hF
  u_cnd false bR hF
  u_c cB bR hF
  u_c aE bR hF
  u_c aE bR hF
  u_reg bR hF
  iterate 3 u_op bR hF
  u_skip bR hF
  u_skip bR hF
  u_op bR hF
  u_op bR hF
  iterate 4 u_skip bR hF
  u_op bR hF
  u_c au bR hF
  u_cnd false bR hF
  u_c cB bR hF
  u_c aE bR hF
  u_c aE bR hF
  u_reg bR hF
  iterate 3 u_op bR hF
  u_skip bR hF
  u_skip bR hF
  u_op bR hF
  u_c au bR hF
  u_cnd true bR hF
  u_c stepG_ret' bR hF
  refine cw (λah9 Ti=>di.stop λaia Tj=>?_);replace hF:=bR (bR hF Ti) Tj;clear Ti Tj;refine⟨rfl,_,stepG_unwind_entry (v:=.tuple #[]) (evs:=#[Go.ConcR.mk .enable]) rfl H.f_enable (x_enable_n L) (x_enable_b L) (x_enable_x L) (x_enable_f L) (by simp[Extern.Race.none_]) (by simp[Go.ConcR.mk]) (by simp[Go.ConcR.mk]),di.ju (n:=2) ?_⟩
  u_leave0 H.f_add bR hF
  exact cw λaap aaq=>hG aap (hF.1.trans aaq)
end
end
section
open Go.ConcN.Gen Go.RowKit Go.Conc.Lib Go.ConcR.Gen
open Go.ConcR (KK wgBlock WgAt stA smA rd wr Payload DC0)
theorem CN{w w1:ae}(h:True)(_:AtRel w w1):True:=h
variable [Payload]{L:WgLink}
def Fz(L:WgLink)(T:dj)(w0:ae)(c:Frame)(cs:List Frame):eQ:=λo g w =>
 ∃Ts:Array Value,g=G ((base L.wait).at ⟨Ts,[]⟩ [.code (L7 L),.inLoop (L7 L),.inBlock 0]) (c::cs)/\Ts.size=84/\Ts[0]?=so (.pointer (so ⟨T.Wg,0,we⟩))/\(dQ T o w0 w/\WgLive T.ty T.Wg w)/\∀b,o b->T.H0<=b
def P2(P:Program)(T:dj)(w0:ae)(g1:aZ):eQ:=λo g w=>dQ T o w0 w/\∃n,Goes P true AtRel DC0 (λg' _=>g'=g1) n g w
section
variable {P:Program}{T:dj}{V:Nat->ae->Prop}{ff:Nat->(Nat->Prop)->ae->Prop}{o:Nat->Prop}{w0:ae}
 {I4:Frame}{I5:Act}{rI:Array Oper}{I6:Nat}{rh:List Nat}{rW:List Item}{cs:List Frame}
theorem L5(H:WgLib P L)(hT:T.OK)(g:aZ)(w:ae)(h:Fz L T w0 (I4.at I5 (.inRegion rI (I6::rh)::rW)) cs o g w):
  di P T (RL P T (Fz L T w0 (I4.at I5 (.inRegion rI (I6::rh)::rW)) cs) (P2 P T w0 (G (I4.at (I5.put ((rI[I6]?).bind (·.dst)) (.tuple #[])) (.inRegion rI rh::rW)) cs))) o g w:=by
 lib_facts
 obtain⟨Ts,rfl,aib,t0,hF,ho⟩:=h;obtain⟨v0,v1,v2,v3,v4,v5,v6,v7,v8,v9,v10,v11,v12,v13,v14,v15,v16,v17,v18,v19,v20,v21,v22,v23,v24,v25,v26,v27,v28,v29,v30,v31,v32,v33,v34,v35,v36,v37,v38,v39,v40,v41,v42,v43,v44,v45,v46,v47,v48,v49,v50,v51,v52,v53,v54,v55,v56,v57,v58,v59,v60,v61,v62,v63,v64,v65,v66,v67,v68,v69,v70,v71,v72,v73,v74,v75,v76,v77,v78,v79,v80,v81,v82,v83,rfl⟩:=array84 Ts aib;simp only[List.getElem?_toArray,List.getElem?_cons_zero,aA]at t0;subst t0;refine di.ju (n:=30) ?_;simp only[L7,body_wait,waitFn,bu]
 u_c fh bR hF
 u_c aE bR hF
 u_reg bR hF
 iterate 3 u_op bR hF
 u_call H.f_uLoad (nm_uLoad L) uLoadFn bR hF
 u_c aE bR hF
 u_reg bR hF
 u_op bR hF
 u_c au bR hF
 u_c aE bR hF
 u_reg bR hF
 iterate 3 u_op bR hF
 refine cw (λwA1 xa=>di.stop λwA2 I7=>?_);replace hF:=bR (bR hF xa) I7;clear xa I7;refine⟨rfl,λv hv hw=>?_⟩;rcases bg v with rfl|hvp
 ·replace hw:WgAt T.ty T.Wg wA2 0 0:=by simpa using hw
  refine⟨_,stepG_load_atomic (v:=0) rfl rfl (by k_ne) rfl H.f_loadU64 (x_loadU64_n L) (x_loadU64_b L) (x_loadU64_x L) .u64 (x_loadU64_f L) rfl hw.cellSt,λ_=>di.ju (n:=50) ?_,λh=>absurd rfl h⟩;clear hw;walk_nrm
  u_op bR hF
  u_c au bR hF
  u_c stepG_ret' bR hF
  u_leave1 H.f_uLoad bR hF
  u_op bR hF
  u_c au bR hF
  u_c aE bR hF
  u_reg bR hF
  iterate 4 u_op bR hF
  u_c au bR hF
  u_c aE bR hF
  u_reg bR hF
  iterate 4 u_op bR hF
  u_c au bR hF
  u_c aE bR hF
  u_c aE bR hF
  u_reg bR hF
  u_op bR hF
  u_op bR hF
  u_c au bR hF
  u_cond true bR hF
  u_c aE bR hF
  u_cond true bR hF
  u_c aE bR hF
  u_reg bR hF
  refine cw (λwE1 hE1=>di.stop λwE2 hE2=>?_);replace hF:=bR (bR hF hE1) hE2;clear hE1 hE2;refine⟨rfl,_,stepG_mark0 .enable ar rfl rfl (by k_ne) rfl H.f_enable (x_enable_n L) (x_enable_b L) (x_enable_x L) (x_enable_f L),di.ju (n:=12) ?_⟩;walk_nrm
  u_c au bR hF
  u_reg bR hF
  u_op bR hF
  u_conv H.underlying_tWgP H.room_tWg (WgLive.cell0 hF.2).choose_spec bR hF
  refine cw (λwF1 lz=>di.stop λwF2 rj=>?_);replace hF:=bR (bR hF lz) rj;clear lz rj;refine⟨rfl,_,stepG_markAt .acquire ar rfl rfl (by k_ne) rfl H.f_acquire (x_acquire_n L) (x_acquire_b L) (x_acquire_x L) (x_acquire_f L) (by simp[Act.eval,stA]),hF.1,30,?_⟩;walk_nrm;have hu:True:=trivial
  u_c au CN hu
  u_c aE CN hu
  u_c aE CN hu
  u_reg CN hu
  iterate 8 u_op CN hu
  u_skip CN hu
  u_skip CN hu
  u_op CN hu
  u_c au CN hu
  u_cond false CN hu
  u_c cB CN hu
  u_c stepG_ret' CN hu
  u_leave0 H.f_wait CN hu
  exact cw λ_ _=>rfl
 ·obtain⟨S,hS⟩:∃S:Int,(v:Int)*KK=S:=⟨_,rfl⟩;have a1:S/4294967296=(v:Int):=by rw[<- hS];simp only[KK];omega
  have b1:bits .and .u64 S 2147483648=0:=by rw[<- hS];have:=st_flag v 0 aa aa;simpa[KK] using this
  have b2:bits .and .u64 S 2147483647=0:=by rw[<- hS];have:=st_waiters v 0 aa aa;simpa[KK] using this
  have c1:IntKind.i32.wrap (v:Int)=(v:Int):=by rw[IntKind.wrap_i32];omega
  have w1:IntKind.u64.wrap (S+1)=S+1:=by rw[IntKind.wrap_u64,<- hS];simp only[KK];omega
  have q3:decide ((v:Int)<0)=false:=dq aa;have q4:decide (0<(v:Int))=true:=cW aa;have q5:((v:Int)==0)=false:=eP;have q6:decide ((v:Int)=0)=false:=dq aa;rw[hS]at hw;refine⟨_,stepG_load_atomic (v:=S) rfl rfl (by k_ne) rfl H.f_loadU64 (x_loadU64_n L) (x_loadU64_b L) (x_loadU64_x L) .u64 (x_loadU64_f L) rfl hw.cellSt,λh0=>absurd h0 aa,λ_=>di.ju (n:=60) ?_⟩;clear hw;walk_nrm
  u_op bR hF
  u_c au bR hF
  u_c stepG_ret' bR hF
  u_leave1 H.f_uLoad bR hF
  u_op bR hF
  u_c au bR hF
  u_c aE bR hF
  u_reg bR hF
  iterate 4 u_op bR hF
  u_c au bR hF
  u_c aE bR hF
  u_reg bR hF
  iterate 4 u_op bR hF
  u_c au bR hF
  u_c aE bR hF
  u_c aE bR hF
  u_reg bR hF
  u_op bR hF
  u_op bR hF
  u_c au bR hF
  u_cnd false bR hF
  u_c cB bR hF
  u_c aE bR hF
  u_reg bR hF
  iterate 6 u_op bR hF
  u_call H.f_uCas (nm_uCas L) uCasFn bR hF
  u_c aE bR hF
  u_reg bR hF
  u_op bR hF
  u_c au bR hF
  u_c aE bR hF
  u_reg bR hF
  iterate 5 u_op bR hF
  refine cw (λwB1 hB1=>di.stop λwB2 hB2=>?_);replace hF:=bR (bR hF hB1) hB2;clear hB1 hB2;refine⟨rfl,λv' xz hw=>⟨λe=>?_,λe=>?_⟩⟩
  ·subst e;rw[hS]at hw |-;refine⟨_,(stepG_cas_hit (v:=S) (n:=S+1) rfl rfl (by k_ne) rfl H.f_casU64 (x_casU64_n L) (x_casU64_b L) (x_casU64_x L) .u64 (x_casU64_f L) rfl rfl rfl hw.cellSt (hw.thaw 0)).trans ak,di.ju (n:=70) ?_⟩;replace hF:=L4 hT ho hF.1 hw (S+1);clear hw;walk_nrm
   u_op bR hF
   u_c au bR hF
   u_c stepG_ret' bR hF
   u_leave1 H.f_uCas bR hF
   u_c au bR hF
   u_cond true bR hF
   u_c aE bR hF
   u_c aE bR hF
   u_reg bR hF
   iterate 4 u_op bR hF
   u_c au bR hF
   u_cond true bR hF
   u_reg bR hF
   iterate 3 u_op bR hF
   u_conv H.underlying_tPU32 H.room_tU32 (WgLive.cell1 hF.2).choose_spec bR hF
   refine cw (λwC1 hC1=>di.one rfl λwC2 hC2=>?_);replace hF:=bR (bR hF hC1) hC2;clear hC1 hC2;refine⟨_,_,stepG_markAt .write ar rfl rfl (by k_ne) rfl H.f_raceWrite (x_raceWrite_n L) (x_raceWrite_b L) (x_raceWrite_x L) (x_raceWrite_f L) (ad:=⟨T.Wg,1,we⟩) (by simp[Act.eval]<;>rfl),λe he=>?_,di.ju (n:=50) ?_⟩
   ·rw[Array.mem_singleton]at he;exact I3 rfl e (.inr he)
   u_c au bR hF
   u_c aE bR hF
   u_reg bR hF
   u_op bR hF
   u_c au bR hF
   u_c aE bR hF
   u_c aE bR hF
   u_reg bR hF
   iterate 4 u_op bR hF
   u_skip bR hF
   u_op bR hF
   u_c au bR hF
   u_cond false bR hF
   u_c cB bR hF
   u_c aE bR hF
   u_reg bR hF
   iterate 4 u_op bR hF
   refine cw (λwD1 hD1=>di.stop λwD2 hD2=>?_);replace hF:=bR (bR hF hD1) hD2;clear hD1 hD2;refine⟨rfl,rfl,λ⟨st,hw⟩=>stepG_semacquire_wait rfl rfl rfl H.f_semacquire (x_semacquire_n L) (x_semacquire_b L) (x_semacquire_x L) (x_semacquire_f L) (by simp[Act.eval,smA]) hw.cellSm,λhf=>?_⟩;refine⟨_,(stepG_semacquire (n:=1) rfl rfl (by k_ne) rfl H.f_semacquire (x_semacquire_n L) (x_semacquire_b L) (x_semacquire_x L) (x_semacquire_f L) (by simp[Act.eval,smA]) hf.cellSm (by k_ne) (hf.thaw 1)).trans ak,di.ju (n:=30) ?_⟩;replace hF:=WB hT ho hF.1 hf 0;clear hf;walk_nrm
   u_c au bR hF
   u_c aE bR hF
   u_reg bR hF
   iterate 3 u_op bR hF
   u_call H.f_uLoad (nm_uLoad L) uLoadFn bR hF
   u_c aE bR hF
   u_reg bR hF
   u_op bR hF
   u_c au bR hF
   u_c aE bR hF
   u_reg bR hF
   iterate 3 u_op bR hF
   refine cw (λwG1 hG1=>di.stop λwG2 hG2=>?_);replace hF:=bR (bR hF hG1) hG2;clear hG1 hG2;refine⟨rfl,λhw=>⟨_,stepG_load_atomic (v:=0) rfl rfl (by k_ne) rfl H.f_loadU64 (x_loadU64_n L) (x_loadU64_b L) (x_loadU64_x L) .u64 (x_loadU64_f L) rfl hw.cellSt,di.ju (n:=30) ?_⟩⟩;clear hw;walk_nrm
   u_op bR hF
   u_c au bR hF
   u_c stepG_ret' bR hF
   u_leave1 H.f_uLoad bR hF
   u_op bR hF
   u_op bR hF
   u_c au bR hF
   u_c aE bR hF
   u_cond true bR hF
   u_c aE bR hF
   u_reg bR hF
   refine cw (λwE1 hE1=>di.stop λwE2 hE2=>?_);replace hF:=bR (bR hF hE1) hE2;clear hE1 hE2;refine⟨rfl,_,stepG_mark0 .enable ar rfl rfl (by k_ne) rfl H.f_enable (x_enable_n L) (x_enable_b L) (x_enable_x L) (x_enable_f L),di.ju (n:=12) ?_⟩;walk_nrm
   u_c au bR hF
   u_reg bR hF
   u_op bR hF
   u_conv H.underlying_tWgP H.room_tWg (WgLive.cell0 hF.2).choose_spec bR hF
   refine cw (λwF1 lz=>di.stop λwF2 rj=>?_);replace hF:=bR (bR hF lz) rj;clear lz rj;refine⟨rfl,_,stepG_markAt .acquire ar rfl rfl (by k_ne) rfl H.f_acquire (x_acquire_n L) (x_acquire_b L) (x_acquire_x L) (x_acquire_f L) (by simp[Act.eval,stA]),hF.1,30,?_⟩;walk_nrm;have hu:True:=trivial
   u_c au CN hu
   u_c aE CN hu
   u_c aE CN hu
   u_reg CN hu
   u_op CN hu
   u_c au CN hu
   u_cond false CN hu
   u_c cB CN hu
   u_c stepG_ret' CN hu
   u_leave0 H.f_wait CN hu
   exact cw λ_ _=>rfl
  ·refine⟨_,stepG_cas_miss (v:=(v':Int)*KK) (old:=S) (n:=S+1) rfl rfl (by k_ne) rfl H.f_casU64 (x_casU64_n L) (x_casU64_b L) (x_casU64_x L) .u64 (x_casU64_f L) rfl rfl rfl hw.cellSt (hw.thaw 0) (by rw[<- hS];simp only[KK];omega),di.ju (n:=20) ?_⟩;clear hw;walk_nrm
   u_op bR hF
   u_c au bR hF
   u_c stepG_ret' bR hF
   u_leave1 H.f_uCas bR hF
   u_c au bR hF
   u_cond false bR hF
   u_c cB bR hF
   u_c gw bR hF
   u_c iM bR hF
   exact cw (λwH hH=>di.stop λwI hI=>⟨_,rfl,ar,ar,bR (bR hF hH) hI,ho⟩)
theorem L6(H:WgLib P L)(ho:∀b,o b->T.H0<=b)(w:ae)(hF:dQ T o w0 w/\WgLive T.ty T.Wg w):
  di P T (RN P T (Fz L T w0 (I4.at I5 (.inRegion rI (I6::rh)::rW)) cs)) o
   (G ((base L.wait).at ⟨#[.pointer (so ⟨T.Wg,0,we⟩),undef,undef,undef,undef,undef,undef,undef,undef,undef,undef,undef,undef,undef,undef,undef,undef,undef,undef,undef,undef,undef,undef,undef,undef,undef,undef,undef,undef,undef,undef,undef,undef,undef,undef,undef,undef,undef,undef,undef,undef,undef,undef,undef,undef,undef,undef,undef,undef,undef,undef,undef,undef,undef,undef,undef,undef,undef,undef,undef,undef,undef,undef,undef,undef,undef,undef,undef,undef,undef,undef,undef,undef,undef,undef,undef,undef,undef,undef,undef,undef,undef,undef,undef],[]⟩ [.code (body_wait L)]) (I4.at I5 (.inRegion rI (I6::rh)::rW)::cs)) w:=by
 lib_facts
 simp only[body_wait,waitFn,bu];refine di.ju (n:=3) ?_
 u_c aE bR hF
 u_cond true bR hF
 u_reg bR hF
 refine cw (λwA1 xa=>di.stop λwA2 I7=>?_);replace hF:=bR (bR hF xa) I7;clear xa I7;refine⟨rfl,_,stepG_mark0 .disable ar rfl rfl (by k_ne) rfl H.f_disable (x_disable_n L) (x_disable_b L) (x_disable_x L) (x_disable_f L),di.ju (n:=3) ?_⟩;walk_nrm
 u_c au bR hF
 u_c fh bR hF
 u_c jL bR hF
 exact cw (λwH hH=>di.stop λwI hI=>⟨_,rfl,ar,ar,bR (bR hF hH) hI,ho⟩)
end
end
section
open Go.ConcR (DC0)
section
variable {P:Program}{Fin:bL}{d:Nat}{S:Nat->Prop}{g:aZ}{w:ae}
theorem mE.more{S':Nat->Prop}{t:Trace}(h:mE d S t)(hS:∀b,S b->S' b):mE d S' t :=
 ⟨h.clean,λi a ha hm=>(h.known i a ha hm).imp id λ⟨h1,h2⟩=>⟨by cases hl:a.loc<;>rw[hl]at h1<;>first|exact hS _ h1|exact h1,h2⟩,h.over,h.deaf⟩
theorem BX.less{S':Nat->Prop}(h:BX P Fin d S' g w)(hS:∀b,S b->S' b)(hb:∀b,w.heap.size<=b->¬S' b):BX P Fin d S g w :=
 λgs sl t q h0 hL hP _=>h gs sl t q h0 hL (hP.more hS) hb
theorem Bc.ju{g1:aZ}:∀{n:Nat} {g:aZ} {w:ae},Goes P true AtRel DC0 (λg' _=>g'=g1) n g w->Bc P Fin d S g1 w->Bc P Fin d S g w:=by
 intro n
 induction n with
 |zero =>
  intro g w h hx;have:=h w (atRel_refl w);exact this▸hx
 |succ n ih =>
  intro g w h hx;rcases h with h|⟨hs,h⟩
  ·have:=h w (atRel_refl w);exact this▸hx
  ·refine Bc.step hs λw1 hw=>?_;have:=h w1 hw;cases hg:stepG P true g w1 with
   |go g' w' es =>
    rw[hg,goes_go]at this;obtain⟨⟨rfl,rfl⟩,hG⟩:=this;exact⟨g',w',#[],rfl,ar,ah _,ih hG (hx.rely hw)⟩
   |_=>rw[hg]at this;exact this.elim
variable [Go.ConcR.Payload]
theorem BX.adK(h:∀m0 T0,0<m0->∃(T:dj) (V:Nat->ae->Prop) (ff:Nat->(Nat->Prop)->ae->Prop) (cP P2:eQ) (o0:Nat->Prop),T.m0=m0/\T.T0=T0/\T.OK/\kz T V ff/\T.n<2147483648/\T.Shun=uf S /\
   (∀o g w,cP o g w->di P T (RL P T cP P2) o g w)/\iY P T V ff cP T.n o0 g w/\(∀b,o0 b->T.H0<=b/\b<w.heap.size)/\T.H0<=w.heap.size/\Go.ConcR.WgAt T.ty T.Wg w 0 0 /\
   (∀k,k<T.n->∃s r tm,w.heap[T.ch k]?=so (.chan 0 #[] false s r tm))/\(∀k,k<T.n->T.Idle k w) /\
   (∀o g' w',P2 o g' w'->(∀i,i<T.n->V i w'/\∃(oi:Nat->Prop) (C:Nat),ff i (λb=>oi b/\b≠C) w'/\∀b,oi b->T.H0<=b/\b<w'.heap.size)->dQ T (λ_=>False) w w'->(∀b,o b->T.H0<=b/\b<w'.heap.size) ->
    (∀b cs ty fz,T.Sh b->w.heap[b]?=so (.cells cs ty fz)->∃tE,w'.heap[b]?=so (.cells tE ty fz)/\tE.size=cs.size)->(∀k,k<T.n->∃c s r tm,w'.heap[T.ch k]?=so (.chan 0 #[] c s r tm))->BX P Fin 0 (λb=>S b\/b=T.Wg) g' w')):BX P Fin 0 S g w:=by
 intro gs sl t q h0 hL hP hS;have⟨B,hB⟩:=hP.Sq;have mO:0<gs.size:=(aad.1 h0).1;have⟨T,V,ff,cP,P2,o0,e1,e2,hT,hV,hn,tJ,YN,eH,VL,hH,pk,vO,SK,SM⟩:=h gs.size t.size mO;have⟨N,gH,w',rZ,t',k1,o,g',q',B',j1,j2,j3,j4,j5,j6,j7,j8,j9,j10,j11⟩:=PU (T:=T) hT hV hn YN tJ (B:=B+0) (gs:=gs) (sl:=sl) (t:=t) (q:=q) e1.symm h0 hL (by rw[tJ];exact hB 0) e2.symm eH VL hH pk vO SK;have hWg:T.Wg<T.H0:=hT.wg;have⟨N2,gs2,w2,Wm,t2,q2,S2,g2,l1,l2⟩:=SM o g' w' j3 j7 j8 j9 j10 j11 gH rZ t' q' j2 j4 (mE.of j5) (λb hb=>by
  rintro(h|rfl)
  ·exact hS b (aY j8.size hb) h
  ·have:=j8.size;omega)
 exact⟨N+N2,gs2,w2,Wm,t2,q2,S2,g2,by rw[runNT_add,k1];exact l1,l2⟩
section
variable {T:dj}{cP FA F F':eQ}{o:Nat->Prop}
theorem PD.mono(hF:∀o g w,F o g w->F' o g w){o:Nat->Prop}{g:aZ}{w:ae}:PD P T F o g w->PD P T F' o g w:=λ⟨a,g',b,c⟩=>⟨a,g',b,hF _ _ _ c⟩
theorem YH.mono(hF:∀o g w,F o g w->F' o g w){o:Nat->Prop}{g:aZ}{w:ae}:YH P T F o g w->YH P T F' o g w:=λ⟨a,g',b,c⟩=>⟨a,g',b,c.mono λ_ _ _=>PD.mono hF⟩
theorem SW4.mono(hF:∀o g w,F o g w->F' o g w){o:Nat->Prop}{g:aZ}{w:ae}:SW4 P T F o g w->SW4 P T F' o g w:=λ⟨a,h⟩=>⟨a,λx=>let ⟨g',b,c⟩:=h x;⟨g',b,c.mono λ_ _ _=>YH.mono hF⟩⟩
theorem Z7.mono(hF:∀o g w,F o g w->F' o g w){o:Nat->Prop}{g:aZ}{w:ae}:Z7 P T F o g w->Z7 P T F' o g w:=λ⟨a,b,c,d⟩=>⟨a,b,c,λx=>let ⟨g',e,f⟩:=d x;⟨g',e,f.mono λ_ _ _=>SW4.mono hF⟩⟩
theorem SW2.mono(hA:∀o g w,cP o g w->FA o g w)(hF:∀o g w,F o g w->F' o g w){vs:Nat}{o:Nat->Prop}{g:aZ}{w:ae}:SW2 P T cP F vs o g w->SW2 P T FA F' vs o g w:=λ⟨a,h⟩ =>
 ⟨a,λv hv hw=>⟨λe=>let ⟨g',x,y⟩:=(h v hv hw).1 e;⟨g',x,y.mono λ_ _ _=>Z7.mono hF⟩,λe=>let ⟨g',x,y⟩:=(h v hv hw).2 e;⟨g',x,y.mono hA⟩⟩⟩
theorem RL.mono(hA:∀o g w,cP o g w->FA o g w)(hF:∀o g w,F o g w->F' o g w){o:Nat->Prop}{g:aZ}{w:ae}:RL P T cP F o g w->RL P T FA F' o g w:=λ⟨a,h⟩ =>
 ⟨a,λv hv hw=>let ⟨g',x,y,z⟩:=h v hv hw;⟨g',x,λe=>(y e).mono λ_ _ _=>YH.mono hF,λe=>(z e).mono λ_ _ _=>SW2.mono hA hF⟩⟩
theorem RN.mono(hA:∀o g w,cP o g w->FA o g w){o:Nat->Prop}{g:aZ}{w:ae}:RN P T cP o g w->RN P T FA o g w:=λ⟨a,g',b,c⟩=>⟨a,g',b,c.mono hA⟩
end
end
section
variable {P:Program}{m:Bool}{R:aM->ae->ae->Prop}{Gu:aM->ae->ae->Array Event->Prop}{X:aM->aZ->ae->Prop}{b:Frame}{a:Act}{k:List Item}{cs:List Frame}{o:aM}{w:ae}{ops:Array Oper}{i:Nat}{rest:List Nat}{op:Oper}
theorem still_at(W:fH P m R Gu X){S:ae->Prop}(hS:∀w1,R o w w1->S w1)(ho:ops[i]?=so op)(hw:Region.wanted op (yielded ops a.tmps)=true)(hk:b.kind≠.early)(hg:∀w1,S w1->Gu o w1 w1 (listed P b.fn a op w1))(h:∀w1,S w1->∀K:Act->ae->Prop,(∀a',X o (G (b.at a' (.inRegion ops rest::k)) cs) w->K a' w1)->uponK op a K ((execOp a.eval op).run P w1)):X o (G (b.at a (.inRegion ops (i::rest)::k)) cs) w:=by
 refine W.step o _ w rfl λw1 h1=>?_;have:=h w1 (hS w1 h1) (λa' w'=>w'=w1/\X o (G (b.at a' (.inRegion ops rest::k)) cs) w) λ_ x=>⟨rfl,x⟩;revert this;cases hr:(execOp a.eval op).run P w1 with
 |ok x w' =>
  cases x with
  |value v=>intro q;simp only[uponK_value]at q;obtain⟨rfl,q⟩:=q;exact⟨_,_,_,eG ho hw hk hr,hg _ (hS _ h1),by rw[cm];exact W.rely _ _ _ _ q h1⟩
  |skip=>intro q;simp only[uponK_skip]at q;obtain⟨rfl,q⟩:=q;exact⟨_,_,_,jM ho hw hk hr,hg _ (hS _ h1),by rw[cm];exact W.rely _ _ _ _ q h1⟩
  |_=>intro q;exact q.elim
 |halt _ _=>intro q;exact q.elim
theorem WC(W:fH P m R Gu X)(ho:ops[i]?=so op)(_hn:GF op.op=true)(hw:Region.wanted op (yielded ops a.tmps)=true)(hk:b.kind≠.early)(hg:∀w1,(execOp a.eval op).events P w1 #[]=#[])(h:∀w1,∀K:Act->ae->Prop,(∀a',X o (G (b.at a' (.inRegion ops rest::k)) cs) w->K a' w1)->uponK op a K ((execOp a.eval op).run P w1)):X o (G (b.at a (.inRegion ops (i::rest)::k)) cs) w :=
 still_at W (S:=λ_=>True) (λ_ _=>trivial) ho hw hk (λw1 _=>by rw[listed_nil (hg w1)];exact W.idle _ _) (λw1 _=>h w1)
end
theorem Tk{P:Program}{main:Bool}{b:Frame}{a:Act}{k:List Item}{cs:List Frame}{w:ae}{ops:Array Oper}{i:Nat}{rest:List Nat}{op:Oper}{d:Deferred}{f:Fn}{c:Array Value}(ho:ops[i]?=so op)(hw:Region.wanted op (yielded ops a.tmps)=true)(hk:b.kind≠.early)(hr:(execOp a.eval op).run P w=.ok (.spawn d) w)(he:(execOp a.eval op).events P w #[]=#[])(hd:d.target=.fn f c){dd:Option Tmp}(hdd:op.dst=dd):
  stepG P main (G (b.at a (.inRegion ops (i::rest)::k)) cs) w=.spawn (G (b.at (a.put dd undef) (.inRegion ops rest::k)) cs) (born P d) w #[]:=by
 subst hdd;rw[stepG_spawn ho hw hk hr hd,listed_nil he]
section
variable {P:Program}{T:dj}{Stop:eQ}{b:Frame}{a:Act}{k:List Item}{cs:List Frame}{o:aM}{w:ae}{ops:Array Oper}{i:Nat}{rest:List Nat}{op:Oper}
theorem L8(ho:ops[i]?=so op)(hw:Region.wanted op (yielded ops a.tmps)=true)(hk:b.kind≠.early){d:Option Tmp}(hd:op.dst=d)(x:Obj)(cJ:∀w1,(execOp a.eval op).run P w1=.ok (.value (.pointer (so ⟨w1.heap.size,0,we⟩))) (w1.alloc x))(jb:∀w1,(execOp a.eval op).events P w1 #[]=#[])(h:∀w1,dQ T o w w1->di P T Stop (λb=>o b\/b=w1.heap.size) (G (b.at (a.put d (.pointer (so ⟨w1.heap.size,0,we⟩))) (.inRegion ops rest::k)) cs) (w1.alloc x)):di P T Stop o (G (b.at a (.inRegion ops (i::rest)::k)) cs) w:=by
 subst hd;refine di.step rfl λw1 h1=>⟨_,_,_,eG ho hw hk (cJ w1),⟨ar,λb hb _=>RowKit.Below.heap_alloc w1 x b hb,rfl,rfl⟩,by rw[listed_nil (jb w1)];simp,?_⟩;rw[show grow o w1 (w1.alloc x)=λb=>o b\/b=w1.heap.size from vn o w1 x];exact h w1 h1
theorem L9(A:Nat)(hA:o A)(ho:ops[i]?=so op)(hw:Region.wanted op (yielded ops a.tmps)=true)(hk:b.kind≠.early){d:Option Tmp}(hd:op.dst=d){f:ae->ae}(hf:∀w1,gU A w1 (f w1))(cJ:∀w1,w1.heap[A]?=w.heap[A]?->(execOp a.eval op).run P w1=.ok .skip (f w1))(jb:∀w1,w1.heap[A]?=w.heap[A]?->∀e∈(execOp a.eval op).events P w1 #[],∃ad wt sy,e=⟨.cell ad,wt,sy⟩/\ad.block=A)(h:∀w1,dQ T o w w1->di P T Stop o (G (b.at (a.put d undef) (.inRegion ops rest::k)) cs) (f w1)):di P T Stop o (G (b.at a (.inRegion ops (i::rest)::k)) cs) w:=by
 subst hd;refine di.step rfl λw1 h1=>⟨_,_,_,jM ho hw hk (cJ w1 (h1.own A hA)),⟨bI (hf w1).size.symm,λb hb hn=>(hf w1).heap b λe=>hn (e▸hA),(hf w1).os,(hf w1).output⟩,λe he=>?_,?_⟩
 ·obtain⟨ad,wt,sy,rfl,e2⟩:=jb w1 (h1.own A hA) e (mem_listed he);refine⟨λx hx _=>.inr (.inl ⟨A,.inl hA,?_⟩),ar,ar,ar⟩;simp only[MemAct.ofEvent,MemAct.touch?,aA]at hx;subst hx;exact e2
 ·rw[kJ o (hf w1).size];exact h w1 h1
end
section
variable {P:Program}{Fin:bL}{d:Nat}{b:Frame}{a:Act}{k:List Item}{cs:List Frame}{o:aM}{w:ae}{ops:Array Oper}{i:Nat}{rest:List Nat}{op:Oper}
theorem zD(ho:ops[i]?=so op)(hw:Region.wanted op (yielded ops a.tmps)=true)(hk:b.kind≠.early){dd:Option Tmp}(hd:op.dst=dd)(x:Obj)(f:Nat->Value)(cJ:∀w1,(execOp a.eval op).run P w1=.ok (.value (f w1.heap.size)) (w1.alloc x))(jb:∀w1,(execOp a.eval op).events P w1 #[]=#[])(h:XB P Fin d (λb=>o b\/b=w.heap.size) (G (b.at (a.put dd (f w.heap.size)) (.inRegion ops rest::k)) cs) (w.alloc x)):XB P Fin d o (G (b.at a (.inRegion ops (i::rest)::k)) cs) w:=by
 subst hd;refine bY.step o _ w rfl λw1 h1=>⟨_,_,_,eG ho hw hk (cJ w1),⟨by rw[listed_nil (jb w1)];simp,ar,rfl,rfl⟩,?_⟩;obtain⟨dd,rfl⟩:=h1;rw[show grow o (w.at dd) ((w.at dd).alloc x)=λb=>o b\/b=w.heap.size from vn o (w.at dd) x];exact bY.rely _ _ _ ((w.alloc x).at dd) h ⟨dd,rfl⟩
end
end
section
variable {P:Program}{Fin:bL}{d:Nat}{b:Frame}{a:Act}{k:List Item}{cs:List Frame}{o:aM}{w:ae}{ops:Array Oper}{i:Nat}{rest:List Nat}{op:Oper}{f:FuncId}{fn:Func}{sE:Array TypeId}{as:Array Operand}{e:Array Value->Sem Value}
def Tl{x:Event}(h:x.sync=true):WA o x:=by
 obtain⟨loc,wt,sy⟩:=x;simp only at h;subst h;intro y hy ad hl hk;cases loc with
 |cell c=>simp only[MemAct.ofEvent,MemAct.touch?,aA]at hy;subst hy;simp at hk
 |obj c=>cases wt<;>simp[MemAct.ofEvent,MemAct.touch?]at hy<;>subst hy<;>simp at hk
 |output=>simp only[MemAct.ofEvent,MemAct.touch?,aA]at hy;subst hy;simp at hk
 |goroutines=>simp only[MemAct.ofEvent,MemAct.touch?,aA]at hy;subst hy;simp at hk
 |mark m=>cases m<;>simp[MemAct.ofEvent,MemAct.touch?]at hy<;>subst hy<;>simp at hk
def Bz{ad:Addr}{wt sy:Bool}(h:o ad.block):WA o ⟨.cell ad,wt,sy⟩:=by
 intro y hy c hl hk;simp only[MemAct.ofEvent,MemAct.touch?,aA]at hy;subst hy;cases hl;exact h
def NY{r:Nat}{wt sy:Bool}:WA o ⟨.obj r,wt,sy⟩:=by
 intro y hy c hl hk;cases wt<;>cases sy<;>simp[MemAct.ofEvent,MemAct.touch?]at hy<;>subst hy<;>cases hl
def zE(ho:ops[i]?=so op)(hw:Region.wanted op (yielded ops a.tmps)=true)(hk:b.kind≠.early)(eW:op.op=.call {callee:=.value (.func f),args:=as,argTypes:=sE})(hf:P.funcs[f]?=so fn)(gN:(fn.name == "runtime.NumGoroutine")=false)(hb:fn.body.isNone=true)(hn:Extern.findNext fn=we)(he:Extern.find fn=so e){v:Value}{t:ae->ae}{evs:Array Event}{dd:Option Tmp}(hd:op.dst=dd)(pj:∀n,t (w.at n)=(t w).at n)(fy:(t w).heap.size=w.heap.size)(cJ:∀n,(e (as.map a.eval)).run P (w.at n)=.ok v (t (w.at n)))(jb:∀n,(e (as.map a.eval)).events P (w.at n) #[⟨.mark (.extern f),false,true⟩]=#[⟨.mark (.extern f),false,true⟩]++evs)(hs:∀x∈evs,x.sync=true/\(∀g,x.loc≠.mark (.extern g))/\x.loc≠.mark .disable/\x.loc≠.mark .enable)(h:XB P Fin d o (G (b.at (a.put dd v) (.inRegion ops rest::k)) cs) (t w))(Ss:(t w).os=w.os/\(t w).output=w.output:=by exact⟨rfl,rfl⟩):XB P Fin d o (G (b.at a (.inRegion ops (i::rest)::k)) cs) w:=by
 subst hd;refine bY.step o _ w rfl λw1 h1=>?_;obtain⟨n,rfl⟩:=h1;refine⟨_,_,_,stepG_entry ho hw hk eW hf gN hb hn he (cJ n) (jb n) (λx hx=>⟨(hs x hx).1,(hs x hx).2.1⟩),⟨λx hx=>⟨Tl (hs x hx).1,(hs x hx).2.2⟩,?_,?_⟩,?_⟩
 ·rw[pj n];exact bI fy.symm
 ·rw[pj n];exact Ss
 ·rw[kJ o (by rw[pj n];exact fy),pj n];exact bY.rely _ _ _ _ h ⟨n,rfl⟩
def yj(m:Mark)(hm:m=.disable\/m=.enable)(ho:ops[i]?=so op)(hw:Region.wanted op (yielded ops a.tmps)=true)(hk:b.kind≠.early)(eW:op.op=.call {callee:=.value (.func f),args:=as,argTypes:=sE})(hf:P.funcs[f]?=so fn)(gN:(fn.name == "runtime.NumGoroutine")=false)(hb:fn.body.isNone=true)(hn:Extern.findNext fn=we)(he:Extern.find fn=so (λ_=>do mark m;pure Extern.Race.none_)){dd:Option Tmp}(hd:op.dst=dd){d':Nat}(Wt:deafBehind d #[⟨.mark m,false,true⟩]=d')(h:XB P Fin d' o (G (b.at (a.put dd (.tuple #[])) (.inRegion ops rest::k)) cs) w):XB P Fin d o (G (b.at a (.inRegion ops (i::rest)::k)) cs) w:=by
 subst hd;exact XB.mark rfl (es:=#[⟨.mark m,false,true⟩]) (λx hx=>by simp at hx;subst hx;exact⟨m,rfl⟩) Wt (λw1=>stepG_mark0 m (by rintro g rfl;rcases hm with h|h<;>cases h) ho hw hk eW hf gN hb hn he) h
def CO(mk:Addr->Mark)(hm:∀ad,(∃x,mk ad=.acquire x)\/(∃x,mk ad=.releaseMerge x))(ho:ops[i]?=so op)(hw:Region.wanted op (yielded ops a.tmps)=true)(hk:b.kind≠.early)(eW:op.op=.call {callee:=.value (.func f),args:=as,argTypes:=sE})(hf:P.funcs[f]?=so fn)(gN:(fn.name == "runtime.NumGoroutine")=false)(hb:fn.body.isNone=true)(hn:Extern.findNext fn=we)(he:Extern.find fn=so (Extern.Race.marked mk)){ad:Addr}(hx:(as.map a.eval)[0]?=so (.pointer (so ad))){dd:Option Tmp}(hd:op.dst=dd)(h:XB P Fin d o (G (b.at (a.put dd (.tuple #[])) (.inRegion ops rest::k)) cs) w):XB P Fin d o (G (b.at a (.inRegion ops (i::rest)::k)) cs) w:=by
 subst hd;have Wt:deafBehind d #[⟨.mark (mk ad),false,true⟩]=d:=by rcases hm ad with⟨x,e⟩|⟨x,e⟩<;>rw[e]<;>rfl
 exact XB.mark rfl (es:=#[⟨.mark (mk ad),false,true⟩]) (λx hx=>by simp at hx;subst hx;exact⟨_,rfl⟩) Wt (λw1=>stepG_markAt mk (λad g e=>by rcases hm ad with⟨x,e'⟩|⟨x,e'⟩<;>rw[e']at e<;>cases e) ho hw hk eW hf gN hb hn he hx) h
def I8(ho:ops[i]?=so op)(hw:Region.wanted op (yielded ops a.tmps)=true)(hk:b.kind≠.early){v:Value}{dd:Option Tmp}(hd:op.dst=dd)(hr:∀n,(execOp a.eval op).run P (w.at n)=.ok (.value v) (w.at n))(jb:∀n,∀x∈(execOp a.eval op).events P (w.at n) #[],EvF Fin o x/\x.loc≠.mark .disable/\x.loc≠.mark .enable)(h:XB P Fin d o (G (b.at (a.put dd v) (.inRegion ops rest::k)) cs) w):XB P Fin d o (G (b.at a (.inRegion ops (i::rest)::k)) cs) w:=by
 subst hd;refine bY.step o _ w rfl λw1 h1=>?_;obtain⟨n,rfl⟩:=h1;exact⟨_,_,_,eG ho hw hk (hr n),⟨λx hx=>by rw[cm];exact jb n x (mem_listed hx),ah _,rfl,rfl⟩,by rw[cm];exact bY.rely _ _ _ _ h ⟨n,rfl⟩⟩
def yk(ho:ops[i]?=so op)(hw:Region.wanted op (yielded ops a.tmps)=true)(hk:b.kind≠.early){v:Value}{dd:Option Tmp}(hd:op.dst=dd)(hr:∀n,(execOp a.eval op).run P (w.at n)=.ok (.value v) (w.at n))(jb:∀n,∀x∈(execOp a.eval op).events P (w.at n) #[],WA o x/\x.loc≠.mark .disable/\x.loc≠.mark .enable)(h:XB P Fin d o (G (b.at (a.put dd v) (.inRegion ops rest::k)) cs) w):XB P Fin d o (G (b.at a (.inRegion ops (i::rest)::k)) cs) w :=
 I8 ho hw hk hd hr (λn x hx=>⟨(jb n x hx).1.Te,(jb n x hx).2⟩) h
end
section
variable {P:Program}{L:Nat->Bool}{o:aM}{w:ae}{Fin:bL}{d:Nat}
def Cl(P:Program)(L:Nat->Bool)(o:aM)(v:Value):Prop:=∀f,(mI P L o).has f->val f v=v
structure iz(o:aM)(w wl:ae):Prop where
 size:wl.heap.size=w.heap.size
 heap:∀b,o b->wl.heap[b]?=w.heap[b]?
def iz.cell{wl:ae}(h:iz o w wl){b off:Nat}(hb:o b):wl.cell? ⟨b,off,we⟩=w.cell? ⟨b,off,we⟩:=cell_of (h.heap b hb)
def Ma{o':aM}(h:∀b,o b->o' b){f:Rn}(hf:(mI P L o').has f):(mI P L o).has f:=⟨hf.inj,λr hr=>hf.at_ r (h r hr),hf.fn,hf.kp⟩
def Cl.up{o':aM}{v:Value}(hv:Cl P L o v)(h:∀b,o b->o' b):Cl P L o' v:=λf hf=>hv f (Ma h hf)
def jf{w':ae}:∀b,o b->grow o w w' b:=λ_ h=>.inl h
def WE(hF:bO P L o w){w1 w' wl aX:ae}{F':jC}{v v':Value}(e1:w1.heap=w.heap)(e1o:w1.os=w.os/\w1.output=w.output)(fy:wl.heap.size=w.heap.size)(IY:WR F' aX w')(hm:fu (mI P L o) F' wl w1 aX w')(hv:∀f,F'.has f->v'=val f v)(zb:wl.os=w.os/\wl.output=w.output):
  v'=v/\lJ P L o w w' aX v/\(∀r,F'.K r↔grow o w w' r)/\(∀r,F'.K r->F'.φ r=r):=by
 have aar:wl.heap.size=w1.heap.size:=by rw[e1];exact fy
 have kS:=hm.same aar;have NX:∀r,F'.K r->F'.φ r=r:=λr hr=>by
  rcases kS.2 r hr with h1|h1
  ·exact(hm.φ r h1)
  ·exact h1
 have Ew:w.heap.size<=w'.heap.size:=by rw[<- e1];exact hm.size
 have hK:F'.K=grow o w w':=by
  funext r;simp only[grow,eq_iff_iff];constructor
  ·intro hr;rcases hm.wM r hr with h1|h1
   ·exact .inl h1
   ·refine .inr ⟨by rw[<- fy];exact h1.1,?_⟩;have:=IY.here r hr;rw[<- kS.1];exact this
  ·rintro(h1|h1)
   ·exact hm.K r h1
   ·have⟨r',a,b⟩:=hm.mine r (by rw[e1];exact h1.1) h1.2;rw[NX r' a]at b;exact b▸a
 have hG:F'.G=P.globals.size:=hm.G;have hLL:F'.L=λn=>L n=true:=hm.L;have CL:∀f,(mI P L (grow o w w')).has f->F'.has f:=λf hf=>⟨hf.inj,λr hr=>by rw[NX r hr];exact hf.at_ r (hK▸hr),λn hn=>hf.fn n (by rw[hLL]at hn;exact hn),by rw[hG];exact hf.kp⟩;have hid:=CL Bw NW;have xz:v'=v:=(hv Bw hid).trans (By v);have CM:∀b,grow o w w' b->w'.heap[b]?=aX.heap[b]?:=λb hb=>by
  have nz:F'.K b:=hK▸hb;have:=IY.tO b nz Bw hid;rw[NX b nz]at this;rw[this];cases aX.heap[b]?<;>simp[NV]
 refine⟨xz,⟨⟨λb hb=>?_,λb hb=>.inl (hF.kp b hb),aY hF.size Ew⟩,CM,λb h1 h2=>?_,kS.1.symm,Ew,λf hf=>by rw[<- hv f (CL f hf)];exact xz,?_,?_⟩,λr=>by rw[hK],NX⟩
 ·have nz:F'.K b:=hK▸hb;have cx:=IY.here b nz;refine⟨aX.heap[b],by rw[CM b hb];exact aO cx,IY.RF b nz _ (aO cx),λf hf=>?_⟩;have:=IY.tO b nz f (CL f hf);rw[NX b nz,CM b hb,aO cx,aJ]at this;exact(aT this).symm
 ·rw[<- e1];refine hm.rest b λr hr e=>?_;rw[NX r hr]at e;subst e;have:grow o w w' r:=hK▸hr;rcases this with h3|h3
  ·exact h2 h3
  ·omega
 ·rw[IY.os,hm.R7,zb.1]
 ·rw[IY.output,hm.BO,zb.2]
def Cl.func(hF:bO P L o w){g:Fn}{a b:Array Value}(h:Cl P L o (.func g a b)):∃n,g=.func n/\L n=true:=by
 have⟨N,hN⟩:=CK o;obtain⟨f1,f2,h1,h2,_,hL,hty,hm⟩:=(hF.wr hN).two;have e:=(h f1 h1).trans (h f2 h2).symm;simp only[val,Value.func.injEq]at e;have e:=e.1;cases g with
 |func n =>
  refine⟨n,rfl,aN λhn=>?_⟩;simp only[tL,Fn.func.injEq]at e;exact hL n (λx=>hn x) e
 |via t p n q=>simp only[tL,Fn.via.injEq]at e;exact absurd e.1 (hty t)
 |method s=>simp only[tL,Fn.method.injEq]at e;exact absurd e (hm s)
 |methodOf t s=>simp only[tL,Fn.methodOf.injEq]at e;exact absurd e.2 (hm s)
 |yield l=>simp only[tL,Fn.yield.injEq]at e;exact absurd e (hty l)
def GJ(dc:rT P L P.globals.size)(hF:bO P L o w){ρ:Operand->Value}{op:Oper}(jl:tD L op.op=true)(fw:∀x∈op.op.operands,Cl P L o (ρ x)){R:ae->Next->ae->Prop}(cJ:∀wl,iz o w wl->∃x aX,(execOp ρ op).run P wl=.ok x aX/\R wl x aX)(n:Nat):
  ∃wl x aX w',iz o w wl/\R wl x aX/\(∀e∈(execOp ρ op).events P (w.at n) #[],WA (grow o w w') e/\e.loc≠.mark .disable/\e.loc≠.mark .enable) /\
   ((∃v,x=.value v/\(execOp ρ op).run P (w.at n)=.ok (.value v) w'/\lJ P L o w w' aX v)\/(x=.skip/\(execOp ρ op).run P (w.at n)=.ok .skip w'/\lJ P L o w w' aX undef)\/(∃f as,x=.enter f as)):=by
 have⟨N,hN⟩:=CK o;have lz:bO P L o (w.at n):=hF.of_heap rfl;have hW:=lz.wr hN;have KX:PF P L P.globals.size (mI P L o):=⟨λr hr=>⟨hF.kp r hr,rfl⟩,rfl,rfl,GI hF.kp⟩;have aW:iz o w (iU N (w.at n)):=⟨kY _ _,λb hb=>lU N (w.at n) ((hN b).2 hb)⟩;have⟨x,aX,e1,hR⟩:=cJ _ aW;have hrel:∀f,(mI P L o).has f->Rel P f (jc L f) (execOp ρ op) (execOp ρ op):=λf hf =>
  Cb (KX.ok dc hf) (KX.fn hf) (λm hm as=>dc.call m hm f (KX.ok dc hf) (KX.fn hf) as) op jl (λy hy=>(fw y hy f hf).symm) (λy hy g a b e=>by
   have:=fw y hy;rw[e]at this;exact this.func hF)
 have hc:=xF (jc L) _ _ (mI P L o) (iU N (w.at n)) (w.at n) #[] #[] hrel hW;rw[show((execOp ρ op).runT P (iU N (w.at n)) #[]).1=(execOp ρ op).run P (iU N (w.at n)) by rw[Sem.runT_eq],e1]at hc;obtain⟨F',b,w',ZI,k1,k2,k3,k4,k5,k6⟩:=hc;have YR:(execOp ρ op).run P (w.at n)=.ok b w':=by rw[Sem.runT_eq]at k1;exact congrArg Prod.fst k1
 have Ly:(execOp ρ op).events P (w.at n) #[]=ZI:=by rw[Sem.runT_eq]at k1;exact congrArg Prod.snd k1
 have Tm:∀{v v':Value},(∀f,F'.has f->v'=val f v)->v'=v/\lJ P L o w w' aX v/\(∀r,F'.K r↔grow o w w' r)/\(∀r,F'.K r->F'.φ r=r):=λhv=>WE (w1:=w.at n) hF rfl ⟨rfl,rfl⟩ aW.size k3 k4 hv ⟨rfl,rfl⟩;have⟨f0,kL⟩:=k3.some;obtain⟨-,-,hKg,NX⟩:=Tm (v:=undef) (v':=undef) (λf _=>(lB f).symm);refine⟨_,x,aX,w',aW,hR,λe he=>?_,?_⟩
 ·obtain⟨new,e2,e3⟩:=k5;rw[Ly,e2]at he;have pg:=e3 e (by simpa using he);obtain⟨loc,wt,sy⟩:=e;cases loc with
  |cell ad =>
   obtain⟨r,h1,h2⟩:=pg;rw[NX r h1]at h2;refine⟨Bz ?_,ar,ar⟩;rw[<- h2];exact(hKg r).1 h1
  |obj r=>exact⟨NY,ar,ar⟩
  |output =>
   refine⟨λy hy c hl hk=>?_,ar,ar⟩;simp only[MemAct.ofEvent,MemAct.touch?,aA]at hy;subst hy;cases hl
  |goroutines =>
   refine⟨λy hy c hl hk=>?_,ar,ar⟩;simp only[MemAct.ofEvent,MemAct.touch?,aA]at hy;subst hy;cases hl
  |mark m =>
   have hd:Lg m=true:=pg;cases m<;>first|exact Bool.noConfusion hd|(refine⟨λy hy c hl hk=>?_,ar,ar⟩;simp only[MemAct.ofEvent,MemAct.touch?]at hy;cases hy)
 ·have k2':=k2 f0 kL;cases x with
  |value v =>
   cases b<;>first|exact k2'.elim|skip
   rename_i v';obtain⟨rfl,hb,-⟩:=Tm (v:=v) (v':=v') (λf hf=>k2 f hf);exact .inl ⟨_,rfl,YR,hb⟩
  |skip =>
   cases b<;>first|exact k2'.elim|skip
   obtain⟨-,hb,-⟩:=Tm (v:=undef) (v':=undef) (λf _=>(lB f).symm);exact .inr (.inl ⟨rfl,YR,hb⟩)
  |enter f as=>exact .inr (.inr ⟨f,as,rfl⟩)
  |_=>exact k2'.elim
section
variable {fn:FuncId}{Q:Exit->Act->aM->ae->Prop}{a:Act}{ops:Array Oper}{i:Nat}{rest:List Nat}{op:Oper}
end
end
section
variable {P:Program}{main:Bool}{b:Frame}{a:Act}{k:List Item}{cs:List Frame}{w:ae}
def mV(w:ae)(fn:FuncId)(tmps:Array Value)(ps:Array Tmp)(as bd:Code):ae :=
 (w.alloc (.deferred (so []))).alloc (.loop {state:=.ready,pending:=we,fn,tmps,params:=ps,assign:=as,body:=bd,defers:=w.heap.size})
def Bd{x:Operand}{ps:Array Tmp}{as bd:Code}{g:FuncId}{gc:Func}{c:Code}{cap:Array Value}(tu:b.roundOf=we)(hk:b.kind≠.early)(hm:b.mode=.run)(hx:a.eval x=.func (.func g) #[] cap)(hg:P.funcs[g]?=so gc)(gN:(gc.name == "runtime.NumGoroutine")=false)(hb:gc.body=so c):
  stepG P main (G (b.at a (.code (.rangeFunc x ps as bd)::k)) cs) w =
   .go (G (Frame.enter P g (#[.func (.yield (w.heap.size+1)) #[] #[]]++cap) .normal) (b.at ⟨a.tmps,{target:=.collected w.heap.size,args:=#[]}::a.defers⟩ (.inRangeFunc (w.heap.size+1)::k)::cs)) (mV w b.fn a.tmps ps as bd) #[]:=by
 have lD:(b.kind==CallKind.early)=false:=by simpa using hk
 have hec:∀(fr:Frame) (v:Value),fr.eval (.const v)=v:=λ_ _=>rfl;have aas:¬gc.name= "runtime.NumGoroutine":=by simpa using gN
 have mm:∀fr:Frame,fr.tmps=a.tmps->fr.eval x=.func (.func g) #[] cap:=λfr h=>by
  rw[<- hx];cases x<;>simp[Frame.eval,Act.eval,h]
 simp[G,Frame.at,stepG,stepG.exec,tu,Instr.enterLoop,Sem.runT_eq,go_sem,seen_none,GStep.after,stepG.apply,resolve,Deferred.ofValue,invoke,callFunc,hg,hb,mV,mm,hec,aas,lD]
def dB(w:ae)(l:Nat)(r:Loop):ae:={w with heap:=w.heap.setIfInBounds l (.loop r)}
def j0{l:Nat}{r:Loop}(h:w.heap[l]?=so (.loop r)):(Instr.getLoop l).run P w=.ok r w:=by
 simp[Instr.getLoop,getObj,Sem.run,h,go_sem]
def pq{l:Nat}{x:Obj}(h:w.heap[l]?=so x)(hx:∀c t z,x≠.cells c t z):(getObj l).run P w=.ok x w:=by
 cases x<;>simp_all[getObj,Sem.run]
def qm{l:Nat}{x:Obj}(h:w.heap[l]?=so x)(hx:∀c t z,x≠.cells c t z)(es:Array Event):(getObj l).events P w es=es.push ⟨.obj l,false,x.isChan⟩:=by
 cases x<;>simp_all[getObj,Sem.events,Sem.runT,-Sem.runT_eq]
def gB{l:Nat}{x:Obj}(o:Obj)(h:w.heap[l]?=so x)(hx:∀c t z,x≠.cells c t z):(setObj l o).run P w=.ok () {w with heap:=w.heap.setIfInBounds l o}:=by
 cases x<;>simp_all[setObj,Sem.run]
def kC{l:Nat}{x:Obj}(o:Obj)(h:w.heap[l]?=so x)(hx:∀c t z,x≠.cells c t z)(es:Array Event):(setObj l o).events P w es=es.push ⟨.obj l,true,o.isChan⟩:=by
 cases x<;>simp_all[setObj,Sem.events,Sem.runT,-Sem.runT_eq]
def mW{l:Nat}{r:Loop}(h:w.heap[l]?=so (.loop r))(es:Array Event):(Instr.getLoop l).events P w es=es.push ⟨.obj l,false,false⟩:=by
 simp[Instr.getLoop,qm h ar,pq h ar,Obj.isChan,Result.evThen]
def I9{ops:Array Oper}{i:Nat}{rest:List Nat}{o:Oper}{x y:Operand}{sE:Array TypeId}{l:Nat}{r:Loop}{v:Value}{t:Tmp}(ho:ops[i]?=so o)(hw:Region.wanted o (yielded ops a.tmps)=true)(hk:b.kind≠.early)(eW:o.op=.call {callee:=.value x,args:=#[y],argTypes:=sE})(hx:a.eval x=.func (.yield l) #[] #[])(hy:a.eval y=v)(hl:w.heap[l]?=so (.loop r))(hp:r.params=#[t]):
  ∃es,stepG P main (G (b.at a (.inRegion ops (i::rest)::k)) cs) w=.go (G (Frame.round l r.fn (r.tmps.setIfInBounds t v) r.assign r.body .normal) (b.at a (.inRegion ops (i::rest)::k)::cs)) w es/\∀e∈es,∃wt sy,e=⟨.obj l,wt,sy⟩:=by
 have lD:(b.kind==CallKind.early)=false:=by simpa using hk
 have hr:∀ρ:Operand->Value,ρ x=.func (.yield l) #[] #[]->ρ y=v->(execOp ρ o).run P w=.ok (.round l r.fn (r.tmps.setIfInBounds t v) r.assign r.body) w:=λρ h1 h2=>by
  unfold execOp;simp[eW,resolve,Deferred.ofValue,h1,h2,invoke,Instr.yield,j0 hl,hp,Result.andThen]
 have he:∀ρ:Operand->Value,ρ x=.func (.yield l) #[] #[]->ρ y=v->(execOp ρ o).events P w #[]=#[⟨.obj l,false,false⟩]:=λρ h1 h2=>by
  unfold execOp;simp[eW,resolve,Deferred.ofValue,h1,h2,invoke,Instr.yield,j0 hl,mW hl,hp,Result.evThen]
 refine⟨listed P b.fn a o w,?_,λe WG=>?_⟩
 ·rw[stepG_oper ho hw];simp[stepG.apply,hr _ hx hy,G,Frame.at,lD,GStep.after,listed]
 ·have:=mem_listed WG;rw[he _ hx hy]at this;simp at this;exact⟨_,_,this⟩
def zF{l:Nat}{r:Loop}{tm:Array Value}{fn:FuncId}(hl:w.heap[l]?=so (.loop r))(hs:r.state=.ready):
  ∃es,stepG P main (G {(base fn).at ⟨tm,[]⟩ (.beginRound::k)with roundOf:=so l} cs) w=.go (G {(base fn).at ⟨tm,[]⟩ k with roundOf:=so l} cs) (dB w l {r with state:=.busy}) es/\∀e∈es,∃wt sy,e=⟨.obj l,wt,sy⟩:=by
 have hr:(Instr.beginRound l).run P w=.ok () (dB w l {r with state:=.busy}):=by
  simp[Instr.beginRound,j0 hl,hs,gB _ hl,Result.andThen,dB]
 have he:(Instr.beginRound l).events P w #[]=#[⟨.obj l,false,false⟩,⟨.obj l,true,false⟩]:=by
  simp[Instr.beginRound,j0 hl,mW hl,hs,gB _ hl,kC _ hl,Result.evThen,Obj.isChan]
 refine⟨seen P fn #[⟨.obj l,false,false⟩,⟨.obj l,true,false⟩],?_,λe WG=>?_⟩
 ·simp[G,Frame.at,stepG,stepG.exec,stepG.apply,Sem.runT_eq,hr,he,GStep.after,base,Frame.finish,Result.andThen,Result.evThen]
 ·have:=mem_seen WG;simp at this;rcases this with rfl|rfl<;>exact⟨_,_,rfl⟩
def CP{l:Nat}{r:Loop}{tm:Array Value}{fn:FuncId}{c:Frame}(hl:w.heap[l]?=so (.loop r)):
  ∃es,stepG P main (G {(base fn).at ⟨tm,[]⟩ []with roundOf:=so l} (c::cs)) w=.go (G (c.finish (.bool true)) cs) (dB w l {r with state:=.ready,pending:=we}) es/\∀e∈es,∃wt sy,e=⟨.obj l,wt,sy⟩:=by
 have hr:(Instr.endRound l we).run P w=.ok (.bool true) (dB w l {r with state:=.ready,pending:=we}):=by
  simp[Instr.endRound,j0 hl,gB _ hl,Result.andThen,dB]
 have he:(Instr.endRound l we).events P w #[]=#[⟨.obj l,false,false⟩,⟨.obj l,true,false⟩]:=by
  simp[Instr.endRound,j0 hl,mW hl,gB _ hl,kC _ hl,Result.evThen,Obj.isChan]
 refine⟨seen P fn #[⟨.obj l,false,false⟩,⟨.obj l,true,false⟩],?_,λe WG=>?_⟩
 ·simp[G,Frame.at,stepG,stepG.exec,Sem.runT_eq,hr,he,GStep.after,base,doReturn]
 ·have:=mem_seen WG;simp at this;rcases this with rfl|rfl<;>exact⟨_,_,rfl⟩
def Ey{l:Nat}{r:Loop}(hl:w.heap[l]?=so (.loop r))(hs:r.state=.ready)(hp:r.pending=we)(tu:b.mode=.run):
  ∃es,stepG P main (G (b.at a (.endRangeFunc l::k)) cs) w=.go (G (b.at a k) cs) (dB w l {r with state:=.exhausted}) es/\∀e∈es,∃wt sy,e=⟨.obj l,wt,sy⟩:=by
 have hr:(Instr.endLoop l).run P w=.ok we (dB w l {r with state:=.exhausted}):=by
  simp[Instr.endLoop,j0 hl,gB _ hl,hs,hp,Result.andThen,dB]
 have he:(Instr.endLoop l).events P w #[]=#[⟨.obj l,false,false⟩,⟨.obj l,true,false⟩]:=by
  simp[Instr.endLoop,j0 hl,mW hl,gB _ hl,kC _ hl,hs,hp,Result.evThen,Obj.isChan]
 refine⟨seen P b.fn #[⟨.obj l,false,false⟩,⟨.obj l,true,false⟩],?_,λe WG=>?_⟩
 ·simp[G,Frame.at,stepG,stepG.exec,Sem.runT_eq,hr,he,GStep.after]
 ·have:=mem_seen WG;simp at this;rcases this with rfl|rfl<;>exact⟨_,_,rfl⟩
def Be{r:Nat}{ds:List Deferred}{todo:List Item}(hd:a.defers={target:=.collected r,args:=#[]}::ds)(hl:w.heap[r]?=so (.deferred (so []))):
  ∃es,stepG P main (G {b.at a todo with mode:=.returning} cs) w=.go (G {b.at ⟨a.tmps,ds⟩ todo with mode:=.returning} cs) {w with heap:=w.heap.setIfInBounds r (.deferred we)} es/\∀e∈es,∃wt sy,e=⟨.obj r,wt,sy⟩:=by
 have hr:(Instr.takeDeferred r).run P w=.ok [] {w with heap:=w.heap.setIfInBounds r (.deferred we)}:=by
  simp[Instr.takeDeferred,pq hl,gB _ hl,Result.andThen]
 have he:(Instr.takeDeferred r).events P w #[]=#[⟨.obj r,false,false⟩,⟨.obj r,true,false⟩]:=by
  simp[Instr.takeDeferred,pq hl,qm hl,gB _ hl,kC _ hl,Result.evThen,Obj.isChan]
 refine⟨seen P b.fn #[⟨.obj r,false,false⟩,⟨.obj r,true,false⟩],?_,λe WG=>?_⟩
 ·simp[G,Frame.at,stepG,unwind,hd,Sem.runT_eq,hr,he,GStep.after]
 ·have:=mem_seen WG;simp at this;rcases this with rfl|rfl<;>exact⟨_,_,rfl⟩
end
section
variable {P:Program}{L:Nat->Bool}{o:aM}{w:ae}{Fin:bL}{d:Nat}{b:Frame}{a:Act}{k:List Item}{cs:List Frame}{ops:Array Oper}{i:Nat}{rest:List Nat}{op:Oper}
section
variable {fn:FuncId}{g:aZ}{g':Value->aZ}{gk:aZ}
def BB(dc:rT P L P.globals.size)(hF:bO P L o w)(hs:g.status=.running)(kT:∀w1 v w',(execOp a.eval op).run P w1=.ok (.value v) w'->stepG P true g w1=.go (g' v) w' (listed P fn a op w1))(jl:tD L op.op=true)(fw:∀x∈op.op.operands,Cl P L o (a.eval x)){R:ae->Value->ae->Prop}(cJ:∀wl,iz o w wl->∃v aX,(execOp a.eval op).run P wl=.ok (.value v) aX/\R wl v aX)(h:∀wl v aX w',iz o w wl->R wl v aX->lJ P L o w w' aX v->XB P Fin d (grow o w w') (g' v) w'):XB P Fin d o g w:=by
 refine bY.step o _ w hs λw1 lA=>?_;obtain⟨n,rfl⟩:=lA;obtain⟨wl,x,aX,w',aW,⟨v,rfl,hR⟩,jb,ga⟩:=GJ dc hF jl fw (R:=λwl x aX=>∃v,x=.value v/\R wl v aX) (λwl aW=>by
  have⟨v,aX,e1,e2⟩:=cJ wl aW;exact⟨_,aX,e1,v,rfl,e2⟩) n
 rcases ga with⟨v',xz,hr,hb⟩|⟨xz,_⟩|⟨f,as,xz⟩
 ·cases xz;exact⟨_,_,_,kT _ _ _ hr,⟨λe he=>⟨(jb e (mem_listed he)).1.Te,(jb e (mem_listed he)).2⟩,hb.iS,hb.os,hb.output⟩,h wl v aX w' aW hR hb⟩
 ·cases xz
 ·cases xz
def zG(dc:rT P L P.globals.size)(hF:bO P L o w)(hs:g.status=.running)(kT:∀w1 v w',(execOp a.eval op).run P w1=.ok (.value v) w'->stepG P true g w1=.go (g' v) w' (listed P fn a op w1))(jl:tD L op.op=true)(fw:∀x∈op.op.operands,Cl P L o (a.eval x)){v:Value}(cJ:∀wl,iz o w wl->(execOp a.eval op).run P wl=.ok (.value v) wl)(h:Cl P L o v->XB P Fin d o (g' v) w):XB P Fin d o g w:=by
 refine bY.step o _ w hs λw1 lA=>?_;obtain⟨n,rfl⟩:=lA;obtain⟨wl,x,aX,w',aW,⟨rfl,rfl⟩,jb,ga⟩:=GJ dc hF jl fw (R:=λwl x aX=>x=.value v/\aX=wl) (λwl aW=>⟨_,wl,cJ wl aW,rfl,rfl⟩) n;rcases ga with⟨v',xz,hr,hb⟩|⟨xz,_⟩|⟨f,as,xz⟩
 ·cases xz;have hr0:=cJ (w.at n) ⟨rfl,λ_ _=>rfl⟩;rw[hr]at hr0;cases hr0;have fw:Cl P L o v:=by have:=hb.val;rw[show grow o w (w.at n)=o from kJ o rfl]at this;exact this
  exact⟨_,_,_,kT _ _ _ hr,⟨λe he=>⟨(jb e (mem_listed he)).1.Te,(jb e (mem_listed he)).2⟩,ah _,rfl,rfl⟩,by rw[cm];exact bY.rely _ _ _ _ (h fw) ⟨n,rfl⟩⟩
 ·cases xz
 ·cases xz
def CQ(dc:rT P L P.globals.size)(hF:bO P L o w)(hs:g.status=.running)(kT:∀w1 w',(execOp a.eval op).run P w1=.ok .skip w'->stepG P true g w1=.go gk w' (listed P fn a op w1))(jl:tD L op.op=true)(fw:∀x∈op.op.operands,Cl P L o (a.eval x)){R:ae->ae->Prop}(cJ:∀wl,iz o w wl->∃aX,(execOp a.eval op).run P wl=.ok .skip aX/\R wl aX)(h:∀wl aX w',iz o w wl->R wl aX->lJ P L o w w' aX undef->XB P Fin d (grow o w w') gk w'):XB P Fin d o g w:=by
 refine bY.step o _ w hs λw1 lA=>?_;obtain⟨n,rfl⟩:=lA;obtain⟨wl,x,aX,w',aW,⟨rfl,hR⟩,jb,ga⟩:=GJ dc hF jl fw (R:=λwl x aX=>x=.skip/\R wl aX) (λwl aW=>by
  have⟨aX,e1,e2⟩:=cJ wl aW;exact⟨_,aX,e1,rfl,e2⟩) n
 rcases ga with⟨v',xz,_⟩|⟨_,hr,hb⟩|⟨f,as,xz⟩
 ·cases xz
 ·exact⟨_,_,_,kT _ _ hr,⟨λe he=>⟨(jb e (mem_listed he)).1.Te,(jb e (mem_listed he)).2⟩,hb.iS,hb.os,hb.output⟩,h wl aX w' aW hR hb⟩
 ·cases xz
end
def CR(dc:rT P L P.globals.size)(hF:bO P L o w)(ho:ops[i]?=so op)(hw:Region.wanted op (yielded ops a.tmps)=true)(hk:b.kind≠.early)(jl:tD L op.op=true)(fw:∀x∈op.op.operands,Cl P L o (a.eval x)){dd:Option Tmp}(hd:op.dst=dd){R:ae->Value->ae->Prop}(cJ:∀wl,iz o w wl->∃v aX,(execOp a.eval op).run P wl=.ok (.value v) aX/\R wl v aX)(h:∀wl v aX w',iz o w wl->R wl v aX->lJ P L o w w' aX v->XB P Fin d (grow o w w') (G (b.at (a.put dd v) (.inRegion ops rest::k)) cs) w'):XB P Fin d o (G (b.at a (.inRegion ops (i::rest)::k)) cs) w :=
 BB (g':=λv=>G (b.at (a.put dd v) (.inRegion ops rest::k)) cs) dc hF rfl (λw1 v w' hr=>by subst hd;exact eG ho hw hk hr) jl fw cJ h
def mX(dc:rT P L P.globals.size)(hF:bO P L o w)(ho:ops[i]?=so op)(hw:Region.wanted op (yielded ops a.tmps)=true)(hk:b.kind≠.early)(jl:tD L op.op=true)(fw:∀x∈op.op.operands,Cl P L o (a.eval x)){dd:Option Tmp}(hd:op.dst=dd){v:Value}(cJ:∀wl,iz o w wl->(execOp a.eval op).run P wl=.ok (.value v) wl)(h:Cl P L o v->XB P Fin d o (G (b.at (a.put dd v) (.inRegion ops rest::k)) cs) w):XB P Fin d o (G (b.at a (.inRegion ops (i::rest)::k)) cs) w :=
 zG (g':=λv=>G (b.at (a.put dd v) (.inRegion ops rest::k)) cs) dc hF rfl (λw1 v w' hr=>by subst hd;exact eG ho hw hk hr) jl fw cJ h
def AK(dc:rT P L P.globals.size)(hF:bO P L o w)(ho:ops[i]?=so op)(hw:Region.wanted op (yielded ops a.tmps)=true)(hk:b.kind≠.early)(jl:tD L op.op=true)(fw:∀x∈op.op.operands,Cl P L o (a.eval x)){dd:Option Tmp}(hd:op.dst=dd){R:ae->ae->Prop}(cJ:∀wl,iz o w wl->∃aX,(execOp a.eval op).run P wl=.ok .skip aX/\R wl aX)(h:∀wl aX w',iz o w wl->R wl aX->lJ P L o w w' aX undef->XB P Fin d (grow o w w') (G (b.at (a.put dd undef) (.inRegion ops rest::k)) cs) w'):XB P Fin d o (G (b.at a (.inRegion ops (i::rest)::k)) cs) w :=
 CQ (gk:=G (b.at (a.put dd undef) (.inRegion ops rest::k)) cs) dc hF rfl (λw1 w' hr=>by subst hd;exact jM ho hw hk hr) jl fw cJ h
def lJ.alloc{wl aX w':ae}{v:Value}(h:lJ P L o w w' aX v)(hF:bO P L o w)(ha:iz o w wl){x:Obj}(e:aX=wl.alloc x):w'.heap.size=w.heap.size+1/\(∀b,b<w.heap.size->w'.heap[b]?=w.heap[b]?)/\w'.heap[w.heap.size]?=so x:=by
 have hs:aX.heap.size=w.heap.size+1:=by rw[e];simp[ha.size]
 refine⟨by rw[h.size,hs],λb hb=>?_,?_⟩
 ·by_cases ho:o b
  ·rw[h.same b (.inl ho),e,RowKit.Below.heap_alloc wl x b (by rw[ha.size];exact hb),ha.heap b ho]
  ·exact h.rest b hb ho
 ·rw[h.same _ (.inr ⟨ah _,by rw[h.size,hs];omega⟩),e];show(wl.heap.push x)[w.heap.size]?=_;rw[<- ha.size];simp
def lJ.store{wl aX w':ae}{v:Value}(h:lJ P L o w w' aX v)(ha:iz o w wl){A:Nat}(hA:o A)(hs:aX.heap.size=wl.heap.size)(hh:∀b,b≠A->aX.heap[b]?=wl.heap[b]?):w'.heap.size=w.heap.size/\(∀b,b≠A->w'.heap[b]?=w.heap[b]?)/\w'.heap[A]?=aX.heap[A]?/\grow o w w'=o:=by
 have hz:w'.heap.size=w.heap.size:=by rw[h.size,hs,ha.size]
 refine⟨hz,λb hb=>?_,h.same A (.inl hA),kJ o hz⟩;by_cases cx:b<w.heap.size
 ·by_cases ho:o b
  ·rw[h.same b (.inl ho),hh b hb,ha.heap b ho]
  ·exact h.rest b cx ho
 ·rw[cH aa,cH aa]
def atR(f:FuncId)(l:Nat)(tm:Array Value)(k:List Item):Frame:={(base f).at ⟨tm,[]⟩ k with roundOf:=so l}
theorem round_eq(f:FuncId)(l:Nat)(tm:Array Value)(Qa bd:Code):Frame.round l f tm Qa bd .normal=atR f l tm [.code Qa,.beginRound,.code bd]:=rfl
section
variable {f:FuncId}{l:Nat}{tm:Array Value}{main:Bool}
def yl{id:Nat}{ops:Array Oper}:stepG P main (G (atR f l tm (.code (.region id ops false)::k)) cs) w=.go (G (atR f l tm (.inRegion ops (List.range ops.size)::k)) cs) w #[]:=by simp[G,stepG,stepG.exec,Frame.at,atR]
def r9{ops:Array Oper}:stepG P main (G (atR f l tm (.inRegion ops []::k)) cs) w=.go (G (atR f l tm k) cs) w #[]:=by simp[G,stepG,stepG.exec,Frame.at,atR]
def Ja{id:Nat}{c:Code}:stepG P main (G (atR f l tm (.code (.block id c)::k)) cs) w=.go (G (atR f l tm (.code c :: .inBlock id::k)) cs) w #[]:=by simp[G,stepG,stepG.exec,Frame.at,atR]
def Ez{id:Nat}:stepG P main (G (atR f l tm (.inBlock id::k)) cs) w=.go (G (atR f l tm k) cs) w #[]:=by simp[G,stepG,stepG.exec,Frame.at,atR]
def oG{ops:Array Oper}{i:Nat}{rest:List Nat}{o:Oper}{v:Value}{w':ae}(ho:ops[i]?=so o)(hw:Region.wanted o (yielded ops tm)=true)(vp:∀c,o.op≠.defer c)(hr:(execOp (Act.eval ⟨tm,[]⟩) o).run P w=.ok (.value v) w'){dd:Option Tmp}(hd:o.dst=dd):
  stepG P main (G (atR f l tm (.inRegion ops (i::rest)::k)) cs) w=.go (G (atR f l (Act.put ⟨tm,[]⟩ dd v).tmps (.inRegion ops rest::k)) cs) w' (listed P f ⟨tm,[]⟩ o w):=by
 subst hd;have he:(atR f l tm (.inRegion ops (i::rest)::k)).eval=Act.eval ⟨tm,[]⟩:=by funext x;cases x<;>rfl
 have Ci:(atR f l tm (.inRegion ops (i::rest)::k)).finish v=atR f l (Act.put ⟨tm,[]⟩ o.dst v).tmps (.inRegion ops rest::k):=by
  simp only[Frame.finish,atR,Frame.at,ho,Option.bind_some];cases o.dst<;>rfl
 have Tn:stepG P main (G (atR f l tm (.inRegion ops (i::rest)::k)) cs) w=stepG.apply P true (atR f l tm (.inRegion ops (i::rest)::k)) cs we (execOp (Act.eval ⟨tm,[]⟩) o) w:=by
  have h1:(atR f l tm (.inRegion ops (i::rest)::k)).oper?=so o:=by simp[Frame.oper?,atR,Frame.at,ho]
  have h2:stepG P main (G (atR f l tm (.inRegion ops (i::rest)::k)) cs) w=stepG.oper P true (atR f l tm (.inRegion ops (i::rest)::k)) cs we w:=by
   simp[G,stepG,stepG.exec,Frame.at,atR,ho,hw]
  rw[h2];simp only[stepG.oper,h1,he];split
  ·rename_i eW;exact absurd eW (vp _)
  ·rfl
 rw[Tn,<- Ci];simp[stepG.apply,hr,G,GStep.after,listed,atR,Frame.at,base]
def CS{ops:Array Oper}{i:Nat}{rest:List Nat}{o:Oper}{w':ae}(ho:ops[i]?=so o)(hw:Region.wanted o (yielded ops tm)=true)(vp:∀c,o.op≠.defer c)(hr:(execOp (Act.eval ⟨tm,[]⟩) o).run P w=.ok .skip w'){dd:Option Tmp}(hd:o.dst=dd):
  stepG P main (G (atR f l tm (.inRegion ops (i::rest)::k)) cs) w=.go (G (atR f l (Act.put ⟨tm,[]⟩ dd undef).tmps (.inRegion ops rest::k)) cs) w' (listed P f ⟨tm,[]⟩ o w):=by
 subst hd;have he:(atR f l tm (.inRegion ops (i::rest)::k)).eval=Act.eval ⟨tm,[]⟩:=by funext x;cases x<;>rfl
 have Ci:(atR f l tm (.inRegion ops (i::rest)::k)).finish undef=atR f l (Act.put ⟨tm,[]⟩ o.dst undef).tmps (.inRegion ops rest::k):=by
  simp only[Frame.finish,atR,Frame.at,ho,Option.bind_some];cases o.dst<;>rfl
 have Tn:stepG P main (G (atR f l tm (.inRegion ops (i::rest)::k)) cs) w=stepG.apply P true (atR f l tm (.inRegion ops (i::rest)::k)) cs we (execOp (Act.eval ⟨tm,[]⟩) o) w:=by
  have h1:(atR f l tm (.inRegion ops (i::rest)::k)).oper?=so o:=by simp[Frame.oper?,atR,Frame.at,ho]
  have h2:stepG P main (G (atR f l tm (.inRegion ops (i::rest)::k)) cs) w=stepG.oper P true (atR f l tm (.inRegion ops (i::rest)::k)) cs we w:=by
   simp[G,stepG,stepG.exec,Frame.at,atR,ho,hw]
  rw[h2];simp only[stepG.oper,h1,he];split
  ·rename_i eW;exact absurd eW (vp _)
  ·rfl
 rw[Tn,<- Ci];simp[stepG.apply,hr,G,GStep.after,listed,atR,Frame.at,base]
end
def sd{g g':aZ}{t:ae->ae}{l:Nat}(hs:g.status=.running)(h:∀n,∃es,stepG P true g (w.at n)=.go g' ((t w).at n) es/\∀e∈es,∃wt sy,e=⟨.obj l,wt,sy⟩)(fy:(t w).heap.size=w.heap.size)(hx:XB P Fin d o g' (t w))(Ss:(t w).os=w.os/\(t w).output=w.output:=by exact⟨rfl,rfl⟩):XB P Fin d o g w:=by
 refine bY.step o _ w hs λw1 lA=>?_;obtain⟨n,rfl⟩:=lA;have⟨es,e1,e2⟩:=h n;refine⟨_,_,_,e1,⟨λe he=>?_,bI fy.symm,Ss⟩,?_⟩
 ·obtain⟨wt,sy,rfl⟩:=e2 e he;exact⟨NY,ar,ar⟩
 ·rw[kJ o (show((t w).at n).heap.size=(w.at n).heap.size from fy)];exact bY.rely _ _ _ _ hx ⟨n,rfl⟩
def pK(h:bO P L o w){l:Nat}{x:Obj}(hx:fl x=false)(hc:∀f,obj f x=x)(hl:o l):bO P L o {w with heap:=w.heap.setIfInBounds l x}:=by
 refine⟨λb hb=>?_,h.kp,by simpa using h.size⟩;by_cases e:l=b
 ·subst e;exact⟨x,by rw[cj (h.lt hl)],hx,λf _=>hc f⟩
 ·have⟨y,k1,k2,k3⟩:=h.shut b hb;exact⟨y,by rw[aU e];exact k1,k2,k3⟩
def bO.alloc(h:bO P L o w){x:Obj}(hx:fl x=false)(hc:∀f,(mI P L o).has f->obj f x=x):bO P L (λb=>o b\/b=w.heap.size) (w.alloc x):=by
 refine⟨λb hb=>?_,λb hb=>.inl (h.kp b hb),by have:=h.size;simp;omega⟩;rcases hb with hb|rfl
 ·have⟨y,k1,k2,k3⟩:=h.shut b hb;exact⟨y,by rw[RowKit.Below.heap_alloc w x b (h.lt hb)];exact k1,k2,λf hf=>k3 f (Ma (λ_ hb=>.inl hb) hf)⟩
 ·refine⟨x,?_,hx,λf hf=>hc f (Ma (λ_ hb=>.inl hb) hf)⟩;show(w.heap.push x)[w.heap.size]?=_;simp
def Jb{f:FuncId}{l:Nat}{tm:Array Value}{main:Bool}{r:Loop}(hl:w.heap[l]?=so (.loop r))(hs:r.state=.ready):
  ∃es,stepG P main (G (atR f l tm (.beginRound::k)) cs) w=.go (G (atR f l tm k) cs) (dB w l {r with state:=.busy}) es/\∀e∈es,∃wt sy,e=⟨.obj l,wt,sy⟩:=zF hl hs
def Qb{f:FuncId}{l:Nat}{tm:Array Value}{main:Bool}{r:Loop}{c:Frame}(hl:w.heap[l]?=so (.loop r)):
  ∃es,stepG P main (G (atR f l tm []) (c::cs)) w=.go (G (c.finish (.bool true)) cs) (dB w l {r with state:=.ready,pending:=we}) es/\∀e∈es,∃wt sy,e=⟨.obj l,wt,sy⟩:=CP hl
def Mc{x:Operand}{ps:Array Tmp}{as bd:Code}{g:FuncId}{gc:Func}{c:Code}{cap:Array Value}(tu:b.roundOf=we)(hk:b.kind≠.early)(hm:b.mode=.run)(hx:a.eval x=.func (.func g) #[] cap)(hg:P.funcs[g]?=so gc)(gN:(gc.name == "runtime.NumGoroutine")=false)(hb:gc.body=so c)(h:XB P Fin d (λb=>(o b\/b=w.heap.size)\/b=w.heap.size+1) (G (Frame.enter P g (#[.func (.yield (w.heap.size+1)) #[] #[]]++cap) .normal) (b.at ⟨a.tmps,{target:=.collected w.heap.size,args:=#[]}::a.defers⟩ (.inRangeFunc (w.heap.size+1)::k)::cs)) (mV w b.fn a.tmps ps as bd)):XB P Fin d o (G (b.at a (.code (.rangeFunc x ps as bd)::k)) cs) w:=by
 refine bY.step o _ w rfl λw1 lA=>?_;obtain⟨n,rfl⟩:=lA;refine⟨_,_,_,Bd tu hk hm hx hg gN hb,⟨ar,?_,rfl,rfl⟩,?_⟩
 ·have h1:(mV (w.at n) b.fn a.tmps ps as bd).heap.size=w.heap.size+2:=by simp[mV,World.at]
  rw[h1];exact Nat.le_add_right _ 2
 ·have e:grow o (w.at n) (mV (w.at n) b.fn a.tmps ps as bd)=λb=>(o b\/b=w.heap.size)\/b=w.heap.size+1:=by
   funext y;have h1:(mV (w.at n) b.fn a.tmps ps as bd).heap.size=w.heap.size+2:=by simp[mV,World.at]
   simp only[grow,h1,eq_iff_iff];constructor
   ·rintro(h2|h2)
    ·exact .inl (.inl h2)
    ·have h3:w.heap.size<=y:=h2.1;have:=h2.2;omega
   ·rintro((h2|h2)|h2)
    ·exact .inl h2
    ·exact .inr ⟨bI h2.symm,aa⟩
    ·exact .inr ⟨show w.heap.size<=y by omega,aa⟩
  rw[e];exact bY.rely _ _ _ ((mV w b.fn a.tmps ps as bd).at n) h ⟨n,rfl⟩
section
def dV{k:IntKind}{n:Int}:Cl P L o (.int k n):=λf _=>ar
def mY{x:Bool}:Cl P L o (.bool x):=λf _=>ar
def bQ{x:af}:Cl P L o (.string x):=λf _=>ar
def bX{b off:Nat}(h:o b):Cl P L o (.pointer (so ⟨b,off,we⟩)):=λf hf=>by simp[val,addr,hf.at_ b h,mI]
def dW{b off l c:Nat}(h:o b):Cl P L o (.slice (so ⟨b,off,we⟩) l c):=λf hf=>by simp[val,addr,hf.at_ b h,mI]
def iP{l c:Nat}:Cl P L o (.slice we l c):=λf _=>by simp[val]
def BC:Cl P L o (.pointer we):=λf _=>by simp[val]
def fW{vs:List Value}(h:∀v∈vs,Cl P L o v):Cl P L o (.agg vs.toArray):=λf hf=>by
 simp only[val]
 congr 1
 simp only[List.map_toArray]
 congr 1
 conv=>rhs;rw[<- List.map_id vs]
 exact bG λv hv=>h v hv f hf
end
end
end Go.Ren
namespace Go.Conc
open _root_.Option renaming some → so,none → we
open Go.Ren Go.ConcN
section
variable {P:Program}{L:Nat->Bool}{Fin:bL}{d:Nat}{o:aM}{w:ae}{fn:FuncId}{Q:Exit->Act->aM->ae->Prop}{a:Act}{ops:Array Oper}{i:Nat}{rest:List Nat}{op:Oper}
def dm(dc:rT P L P.globals.size)(hF:bO P L o w)(ho:ops[i]?=so op)(hw:Region.wanted op (yielded ops a.tmps)=true)(jl:tD L op.op=true)(fw:∀x∈op.op.operands,Cl P L o (a.eval x)){dd:Option Tmp}(hd:op.dst=dd){R:ae->Value->ae->Prop}(cJ:∀wl,iz o w wl->∃v aX,(execOp a.eval op).run P wl=.ok (.value v) aX/\R wl v aX)(h:∀wl v aX w',iz o w wl->R wl v aX->lJ P L o w w' aX v->eX (XB P Fin d) fn ops rest Q (a.put dd v) (grow o w w') w'):eX (XB P Fin d) fn ops (i::rest) Q a o w:=by
 intro b k cs hb hk hc;exact CR dc hF ho hw hk jl fw hd cJ λwl v aX w' h1 h2 h3=>h wl v aX w' h1 h2 h3 b k cs hb hk hc
def dK(dc:rT P L P.globals.size)(hF:bO P L o w)(ho:ops[i]?=so op)(hw:Region.wanted op (yielded ops a.tmps)=true)(jl:tD L op.op=true)(fw:∀x∈op.op.operands,Cl P L o (a.eval x)){dd:Option Tmp}(hd:op.dst=dd){v:Value}(cJ:∀wl,iz o w wl->(execOp a.eval op).run P wl=.ok (.value v) wl)(h:Cl P L o v->eX (XB P Fin d) fn ops rest Q (a.put dd v) o w):eX (XB P Fin d) fn ops (i::rest) Q a o w:=by
 intro b k cs hb hk hc;exact mX dc hF ho hw hk jl fw hd cJ λh1=>h h1 b k cs hb hk hc
def dA(dc:rT P L P.globals.size)(hF:bO P L o w)(ho:ops[i]?=so op)(hw:Region.wanted op (yielded ops a.tmps)=true)(jl:tD L op.op=true)(fw:∀x∈op.op.operands,Cl P L o (a.eval x)){dd:Option Tmp}(hd:op.dst=dd){R:ae->ae->Prop}(cJ:∀wl,iz o w wl->∃aX,(execOp a.eval op).run P wl=.ok .skip aX/\R wl aX)(h:∀wl aX w',iz o w wl->R wl aX->lJ P L o w w' aX undef->eX (XB P Fin d) fn ops rest Q (a.put dd undef) (grow o w w') w'):eX (XB P Fin d) fn ops (i::rest) Q a o w:=by
 intro b k cs hb hk hc;exact AK dc hF ho hw hk jl fw hd cJ λwl aX w' h1 h2 h3=>h wl aX w' h1 h2 h3 b k cs hb hk hc
end
section
variable {P:Program}{m:Bool}{b:Frame}{a:Act}{k:List Item}{cs:List Frame}{w:ae}
def CU{o:Oper}{x:Operand}{f:FuncId}{fn:Func}{cap:Array Value}{args:Array Operand}{sE:Array TypeId}(eW:o.op=.call {callee:=.value x,args,argTypes:=sE})(hx:a.eval x=.func (.func f) #[] cap)(hf:P.funcs[f]?=so fn)(gN:(fn.name == "runtime.NumGoroutine")=false)(hb:fn.body.isNone=false):(execOp a.eval o).run P w=.ok (.enter f (args.map a.eval++cap)) w:=by
 have h1:¬fn.name= "runtime.NumGoroutine":=by simpa using gN
 have h2:¬fn.body=we:=by cases hx:fn.body<;>simp_all
 unfold execOp;simp[eW,hx,resolve,Deferred.ofValue,invoke,callFunc,hf,h1,h2]
def ym{o:Oper}{x:Operand}{f:FuncId}{fn:Func}{cap:Array Value}{args:Array Operand}{sE:Array TypeId}(eW:o.op=.call {callee:=.value x,args,argTypes:=sE})(hx:a.eval x=.func (.func f) #[] cap)(hf:P.funcs[f]?=so fn)(gN:(fn.name == "runtime.NumGoroutine")=false)(hb:fn.body.isNone=false)(es:Array Event):(execOp a.eval o).events P w es=es:=by
 have h1:¬fn.name= "runtime.NumGoroutine":=by simpa using gN
 have h2:¬fn.body=we:=by cases hx:fn.body<;>simp_all
 unfold execOp;simp[eW,hx,resolve,Deferred.ofValue,invoke,callFunc,hf,h1,h2]
def Md{R:aM->ae->ae->Prop}{Gu:aM->ae->ae->Array Event->Prop}{X:aM->aZ->ae->Prop}{fn:FuncId}{Q:Exit->Act->aM->ae->Prop}{o:aM}(W:fH P m R Gu X){ops:Array Oper}{i:Nat}{rest:List Nat}{op:Oper}{x:Operand}{cap:Array Value}{f:FuncId}{fc:Func}{c:Code}{args:Array Operand}{sE:Array TypeId}(ho:ops[i]?=so op)(hw:Region.wanted op (yielded ops a.tmps)=true)(eW:op.op=.call {callee:=.value x,args,argTypes:=sE})(hx:a.eval x=.func (.func f) #[] cap)(hf:P.funcs[f]?=so fc)(gN:(fc.name == "runtime.NumGoroutine")=false)(fF:fc.body=so c){vs:Array Value}(LQ:args.map a.eval++cap=vs){d:Option Tmp}(hd:op.dst=d)(h:bA P X f vs o w λv o' w'=>eX X fn ops rest Q (a.put d v) o' w'):eX X fn ops (i::rest) Q a o w:=by
 subst LQ hd;intro b k cs hb hk hc;have nz:fc.body.isNone=false:=by rw[fF];rfl
 refine W.go rfl (λw1=>?_) (h (b.at a (.inRegion ops (i::rest)::k)) cs λv o' w' q=>?_)
 ·rw[stepG_enter ho hw hk (CU eW hx hf gN nz)];have:listed P b.fn a op w1=#[]:=by unfold listed;rw[ym eW hx hf gN nz];exact seen_none P _
  rw[this]
 ·rw[show(b.at a (.inRegion ops (i::rest)::k)).finish v=b.at (a.put op.dst v) (.inRegion ops rest::k) by rw[eu,ho];rfl];exact q b k cs hb hk hc
end
section
variable {P:Program}{m:Bool}{R:aM->ae->ae->Prop}{Gu:aM->ae->ae->Array Event->Prop}{X:aM->aZ->ae->Prop}{o:aM}{w:ae}{f:FuncId}{fc:Func}{Post:Value->aM->ae->Prop}{a:Act}
def jI(X:aM->aZ->ae->Prop)(f:FuncId)(Post:Value->aM->ae->Prop)(a:Act)(o:aM)(w:ae):Prop :=
 ∀(cf:Frame) (cs:List Frame) (todo:List Item),(∀v o2 w2,Post v o2 w2->X o2 (G (cf.finish v) cs) w2)->X o (G {(base f).at a todo with mode:=.returning} (cf::cs)) w
def oH(W:fH P m R Gu X){c:Code}{vs:Array Value}(hf:P.funcs[f]?=so fc)(fF:fc.body=so c)(h:wq X f c (λe a' o' w'=>(e=.normal\/e=.ret)/\jI X f Post a' o' w') {tmps:=vs++Array.replicate (fc.ntmps-vs.size) undef,defers:=[]} o w):bA P X f vs o w Post:=by
 intro cf cs hc;rw[iN hf fF];refine h (base f) [] _ rfl (by simp[base]) λe a' o' w' q=>?_;obtain⟨he,hl⟩:=q;rcases he with rfl|rfl
 ·exact W.go rfl (λ_=>ew) (hl _ _ _ hc)
 ·exact λtodo=>hl _ _ _ hc
def Me(W:fH P m R Gu X)(hf:P.funcs[f]?=so fc)(hd:a.defers=[]){v:Value}(hr:uu P R Gu fc a.tmps o w v)(hx:Post v o w):jI X f Post a o w:=by
 intro cf cs todo hc;refine W.step _ _ _ rfl λw1 h1=>?_;have⟨es,e1,e2⟩:=uq (main:=m) (b:=base f) (a:=a) (todo:=todo) (c:=cf) (cs:=cs) rfl hd hf (hr w1 h1).1;exact⟨_,_,es,e1,(hr w1 h1).2 es e2,by rw[cm];exact W.rely _ _ _ _ (hc v o w hx) h1⟩
def mn(W:fH P m R Gu X)(hf:P.funcs[f]?=so fc)(hd:a.defers=[]){v:Value}(hr:ResultsC P fc a.tmps v)(hx:Post v o w):jI X f Post a o w:=by
 intro cf cs todo hc;refine W.go rfl (λw1=>?_) (hc v o w hx);rw[stepG_leave (b:=base f) rfl hd hf (hr w1).1 (hr w1).2]
def xc{Fin:bL}{tmps:Array Value}{v:Value}(cJ:∀n,(results fc tmps).run P (w.at n)=.ok v (w.at n))(jb:∀n e,e∈(results fc tmps).events P (w.at n) #[]->∃ad wt sy,e=⟨.cell ad,wt,sy⟩/\o ad.block):uu P (λ_=>AtRel) (GuO Fin) fc tmps o w v:=by
 rintro w1 ⟨n,rfl⟩;refine⟨cJ n,λes Iv=>⟨λe he=>?_,ah _,rfl,rfl⟩⟩;obtain⟨ad,wt,sy,rfl,hb⟩:=jb n e (Iv e he);rw[cm];exact⟨(Bz hb).Te,ar,ar⟩
end
section
variable {P:Program}{L:Nat->Bool}{o:aM}{w:ae}
def Jc{f:Rn}{c:Array Value}{j:Nat}{v:Value}(hc:c.map (val f)=c)(hv:val f v=v):(c.setIfInBounds j v).map (val f)=c.setIfInBounds j v:=by
 rw[jW,hc,hv]
def bO.setCell(h:bO P L o w){K off:Nat}{v:Value}(hv:Cl P L o v):bO P L o (w.setCell ⟨K,off,we⟩ v):=by
 refine⟨λb hb=>?_,h.kp,by simpa[World.setCell] using h.size⟩;have⟨y,k1,k2,k3⟩:=h.shut b hb;by_cases e:K=b
 ·subst e;cases y with
  |cells c t z =>
   refine⟨.cells (c.setIfInBounds off v) t z,by simp[World.setCell,aS,k1],rfl,λf hf=>?_⟩;have:=k3 f hf;simp only[obj,Obj.cells.injEq,and_true]at this |-;exact Jc this (hv f hf)
  |_=>exact⟨_,by simp[World.setCell,aS,k1],k2,k3⟩
 ·exact⟨y,by simp[World.setCell,aS,e,k1],k2,k3⟩
end
end Go.Conc
namespace Go.Ren
open _root_.Option renaming some → so,none → we
open Go.Conc Go.ConcN
def BD(ops:Array Oper):Bool :=
 (List.range ops.size).all (λi=>match ops[i]? with
  |none=>false
  |some op=>op.after.all (λe=>!Region.binds .any e||decide (e.on<i))&&(match op.op with|.select ..=>false|_=>true) &&
    (List.range ops.size).all (λj=>j==i||match gA ops j with
     |none=>true
     |some d=>gA ops i != so d&&(!(op.looksAt ops).contains d||op.after.any (λe=>Region.binds .any e&&e.on==j))))
structure yn(ops:Array Oper):Prop where
 low:∀(i:Nat) (op:Oper),ops[i]?=so op->∀e∈op.after,Region.binds .any e=true->e.on<i
 dst:∀i j d,i≠j->gA ops i=so d->gA ops j≠so d
 sel:∀(i:Nat) (op:Oper),ops[i]?=so op->∀cs b,op.op≠.select cs b
 look:∀(i:Nat) (op:Oper),ops[i]?=so op->∀j d,j≠i->gA ops j=so d->d∈op.looksAt ops->∃e∈op.after,Region.binds .any e=true/\e.on=j
section
variable {ops:Array Oper}
def GK(h:BD ops=true):yn ops:=by
 simp only[BD,List.all_eq_true,List.mem_range]at h;have lt:∀(i:Nat) (op:Oper),ops[i]?=so op->i<ops.size:=λi op ho=>(aad.1 ho).1;have all:∀(i:Nat) (op:Oper),ops[i]?=so op->(op.after.all (λe=>!Region.binds .any e||decide (e.on<i))=true/\(match op.op with|.select ..=>false|_=>true)=true) /\
   ∀j,j<ops.size->(j=i\/(match gA ops j with|none=>true|some d=>gA ops i != so d&&(!(op.looksAt ops).contains d||op.after.any (λe=>Region.binds .any e&&e.on==j)))=true):=by
  intro i op ho;have:=h i (lt i op ho);simp only[ho,bf,List.all_eq_true,List.mem_range,Bool.or_eq_true,beq_iff_eq]at this;exact this
 have GL:∀{j d},gA ops j=so d->∃op,ops[j]?=so op:=λ{j d} hj=>by
  cases ho:ops[j]? with
  |none=>simp[gA,ho]at hj
  |some op=>exact⟨op,rfl⟩
 refine⟨λi op ho e he hb=>?_,λi j d Fv hi hj=>?_,λi op ho cs b e=>?_,λi op ho j d Bt hj hl=>?_⟩
 ·have:=(all i op ho).1.1;rw[jw]at this;have:=this e he;simpa[hb] using this
 ·have⟨op,ho⟩:=GL hi;have⟨I0,pE⟩:=GL hj;rcases(all i op ho).2 j (lt j I0 pE)with e|e
  ·exact Fv e.symm
  ·rw[hj]at e;simp only[bf,bne_iff_ne]at e;exact e.1 hi
 ·have:=(all i op ho).1.2;rw[e]at this;cases this
 ·have⟨I0,pE⟩:=GL hj;rcases(all i op ho).2 j (lt j I0 pE)with e|e
  ·exact absurd e Bt
  ·rw[hj]at e;simp only[bf,Bool.or_eq_true,eE,List.contains_eq_mem,decide_eq_false_iff_not]at e;rcases e.2 with e|e
   ·exact absurd hl e
   ·simp only[Array.any_eq_true,bf,beq_iff_eq]at e;obtain⟨q,hq,hb,he⟩:=e;exact⟨_,jN hq,hb,he⟩
variable {v:Nat->Value}{a:Act}
def yo(H:yn ops){i:Nat}{op:Oper}(ho:ops[i]?=so op){done:List Nat}(vp:done.Nodup)(hi:i∉done)(yh:∀e∈op.after,Region.binds .any e=true->e.on∈done):
  ∀x,(∀d,x=.tmp d->d∈op.looksAt ops)->(cG ops v a done).eval x=(cG ops v a (List.range i)).eval x:=by
 intro x hx;let p:Nat->Bool:=λj=>op.after.any λe=>Region.binds .any e&&e.on==j;have drop:∀l:List Nat,i∉l->(cG ops v a l).eval x=(cG ops v a (l.filter p)).eval x:=by
  intro l YQ;have hp:=(gV p l).symm;rw[jZ H.dst hp,iG];refine pn _ _ λk hk d hd hl=>?_;obtain⟨LY,VQ⟩:=aay.1 hk;obtain⟨e,he,hb,rfl⟩:=H.look i op ho k d (λe=>YQ (e▸LY)) hd (hx d hl);simp only[p,eE]at VQ;have:(op.after.any λe'=>Region.binds .any e'&&e'.on==e.on)=true:=by
   rw[gP];exact⟨e,he,by simp[hb]⟩
  rw[this]at VQ;cases VQ
 rw[drop done hi,drop (List.range i) ar];have Fx:(done.filter p).Perm ((List.range i).filter p):=by
  refine(dp (vp.filter _) (List.nodup_range.filter _)).2 λj=>?_;simp only[List.mem_filter,List.mem_range];constructor
  ·rintro⟨h1,h2⟩;refine⟨?_,h2⟩;simp only[p,Array.any_eq_true',bf,beq_iff_eq]at h2;obtain⟨e,he,hb,rfl⟩:=h2;exact H.low i op ho e he hb
  ·rintro⟨h1,h2⟩;refine⟨?_,h2⟩;simp only[p,Array.any_eq_true',bf,beq_iff_eq]at h2;obtain⟨e,he,hb,rfl⟩:=h2;exact yh e he hb
 rw[jZ H.dst Fx]
def Mf(H:yn ops){i:Nat}{op:Oper}(ho:ops[i]?=so op){done:List Nat}(vp:done.Nodup)(hi:i∉done)(yh:∀e∈op.after,Region.binds .any e=true->e.on∈done):
  Region.wanted op (yielded ops (cG ops v a done).tmps)=Region.wanted op (yielded ops (cG ops v a (List.range i)).tmps):=by
 cases hg:op.guard with
 |none=>rw[pI hg,pI hg]
 |some q =>
  obtain⟨g,want⟩:=q;have:yielded ops (cG ops v a done).tmps g=yielded ops (cG ops v a (List.range i)).tmps g:=by
   unfold yielded;cases hd:(ops[g]?).bind (·.dst) with
   |none=>rfl
   |some d =>
    have hl:d∈op.looksAt ops:=by simp[Oper.looksAt,hg,hd]
    have he:=yo (v:=v) (a:=a) H ho vp hi yh (.tmp d) (λd' e=>by cases e;exact hl);have hs:(cG ops v a done).tmps.size=(cG ops v a (List.range i)).tmps.size:=by rw[AI,AI]
    have:(cG ops v a done).tmps[d]?=(cG ops v a (List.range i)).tmps[d]?:=by
     simp only[Act.eval,bU]at he;by_cases h1:d<(cG ops v a done).tmps.size
     ·rw[aO h1,aO (hs▸h1)]at he |-;exact congrArg so he
     ·rw[cH (de h1),cH (de (hs▸h1))]
    simp only[Option.bind_some,this]
  simp only[Region.wanted,hg,this]
end
abbrev Kd:=Option (Option Value)
def od(P:Program)(op:Oper)(a:Act):Value:=match (execOp a.eval op).run P (default:ae) with
 | .ok (.value y) _=>y
 |_=>undef
def CV(P:Program)(kd:Kd)(op:Option Oper)(a:Act)(x:Value):Value:=match kd with
 |some we=>match op with|some op=>od P op a|none=>undef
 |some (so y)=>y
 |none=>x
def Kd.at(kds:List Kd)(j:Nat):Kd:=kds.getD j we
def vR(P:Program)(ops:Array Oper)(kds:List Kd)(v:Nat->Value)(a:Act):Nat->Act
 |0=>a
 |j+1=>(vR P ops kds v a j).put (gA ops j) (CV P (Kd.at kds j) ops[j]? (vR P ops kds v a j) (v j))
def VR(P:Program)(ops:Array Oper)(kds:List Kd)(v:Nat->Value)(a:Act)(j:Nat):Value:=CV P (Kd.at kds j) ops[j]? (vR P ops kds v a j) (v j)
section
variable {P:Program}{ops:Array Oper}{kds:List Kd}{v v':Nat->Value}{a:Act}
def qo:∀j,vR P ops kds v a j=cG ops (VR P ops kds v a) a (List.range j):=by
 intro j
 induction j with
 |zero=>rfl
 |succ j ih =>
  rw[List.range_succ,iG,<- ih];rfl
def FB(H:yn ops){u:Nat->Value}{i:Nat}{op:Oper}(ho:ops[i]?=so op){l:List Nat}(YQ:i∉l){x:Operand}(hx:∀d,x=.tmp d->d∈op.looksAt ops):(cG ops u a l).eval x=(cG ops u a (l.filter λj=>op.after.any λe=>Region.binds .any e&&e.on==j)).eval x:=by
 have hp:=(gV (λj=>op.after.any λe=>Region.binds .any e&&e.on==j) l).symm;rw[jZ H.dst hp,iG];refine pn _ _ λk hk d hd hl=>?_;obtain⟨LY,VQ⟩:=aay.1 hk;obtain⟨e,he,hb,rfl⟩:=H.look i op ho k d (λe=>YQ (e▸LY)) hd (hx d hl);have:(op.after.any λe'=>Region.binds .any e'&&e'.on==e.on)=true:=by
  rw[gP];exact⟨e,he,by simp[hb]⟩
 rw[this]at VQ;cases VQ
def Mg(H:yn ops){done:List Nat}(fw:∀j∈done,∀op,ops[j]?=so op->∀e∈op.after,Region.binds .any e=true->e.on∈done)(hv:∀j∈done,v j=v' j):∀j∈done,VR P ops kds v a j=VR P ops kds v' a j:=by
 intro j
 induction j using Nat.strongRecOn with
 |ind j ih =>
  intro hj;unfold VR;rcases hk:Kd.at kds j with _|_|y
  ·exact hv j hj
  ·cases ho:ops[j]? with
   |none=>rfl
   |some op =>
    simp only[CV];unfold od;rw[execOp_congr op (H.sel j op ho) (ρ:=(vR P ops kds v a j).eval) (ρ':=(vR P ops kds v' a j).eval)];intro x hx;rw[qo,qo,FB H ho ar (λd hd=>by subst hd;exact oE hx),FB H ho ar (λd hd=>by subst hd;exact oE hx) (u:=VR P ops kds v' a)];rw[sN];intro k hk;obtain⟨h1,h2⟩:=aay.1 hk;rw[gP]at h2;obtain⟨e,he,hb⟩:=h2;simp only[bf,beq_iff_eq]at hb;obtain⟨hb,rfl⟩:=hb;exact ih _ (kZ.1 h1) (fw j hj op ho e he hb)
  ·rfl
end
def dL(P:Program)(ok:Oper->Nat->Kd->Act->Prop)(ops:Array Oper)(K:Act->Prop)(v:Nat->Value):List Nat->List Kd->Act->Prop
 | [],[],a=>K a
 |j::l,x::xs,a=>(∃op,ops[j]?=so op/\ok op j x a)/\dL P ok ops K v l xs (a.put (gA ops j) (CV P x ops[j]? a (v j)))
 |_,_,_=>False
def gj{P:Program}{ok:Oper->Nat->Kd->Act->Prop}{ops:Array Oper}{K:Act->Prop}{v:Nat->Value}{j:Nat}{l:List Nat}{x:Kd}{xs:List Kd}{a:Act}{op:Oper}{d:Option Tmp}(ho:ops[j]?=so op)(hd:op.dst=d)(jl:ok op j x a){y:Value}(hy:CV P x (so op) a (v j)=y)(h:dL P ok ops K v l xs (a.put d y)):dL P ok ops K v (j::l) (x::xs) a :=
 ⟨⟨op,ho,jl⟩,by subst hd hy;simpa[gA,ho] using h⟩
def cu{P:Program}{ok:Oper->Nat->Kd->Act->Prop}{ops:Array Oper}{K:Act->Prop}{v:Nat->Value}{a:Act}(h:K a):dL P ok ops K v [] [] a:=h
def dL.all{P:Program}{ok:Oper->Nat->Kd->Act->Prop}{ops:Array Oper}{K:Act->Prop}{kds:List Kd}{v:Nat->Value}{a:Act}:∀{m k:Nat} {xs:List Kd},dL P ok ops K v (List.range' k m) xs (vR P ops kds v a k)->(∀j,j<m->Kd.at kds (k+j)=xs.getD j we) ->
  (∀j op,k<=j->j<k+m->ops[j]?=so op->ok op j (Kd.at kds j) (vR P ops kds v a j))/\K (vR P ops kds v a (k+m)):=by
 intro m
 induction m with
 |zero =>
  intro k xs h hg;cases xs with
  |nil=>exact⟨λj op h1 h2=>aa,h⟩
  |cons x l=>exact h.elim
 |succ m ih =>
  intro k xs h hg;cases xs with
  |nil=>rw[iB]at h;exact h.elim
  |cons x l =>
   rw[iB]at h;obtain⟨⟨op,ho,jl⟩,hr⟩:=h;have hx:Kd.at kds k=x:=by have:=hg 0 aa;simpa using this
   have Ba:(vR P ops kds v a k).put (gA ops k) (CV P x ops[k]? (vR P ops kds v a k) (v k))=vR P ops kds v a (k+1):=by rw[<- hx];rfl
   rw[Ba]at hr;have:=ih (k:=k+1) (xs:=l) hr (λj hj=>by have:=hg (j+1) aa;rw[show k+(j+1)=k+1+j by omega]at this;simpa using this);refine⟨λj I0 h1 h2 pE=>?_,by rw[show k+(m+1)=k+1+m by omega];exact this.2⟩;by_cases e:j=k
   ·subst e;rw[ho]at pE;cases pE;rw[hx];exact jl
   ·exact this.1 j I0 aa aa pE
section
variable {P:Program}{m:Bool}{R:aM->ae->ae->Prop}{Gu:aM->ae->ae->Array Event->Prop}{X:aM->aZ->ae->Prop}{fn:FuncId}{Q:Exit->Act->aM->ae->Prop}{a:Act}{o:aM}{w:ae}
def full_of{n:Nat}{l:List Nat}(h:l.Nodup)(hl:∀x∈l,x<n)(hn:n<=l.length):∀j,j<n->j∈l:=λj hj=>aN λhm=>by
 have:=qk n (j::l) (db.2 ⟨hm,h⟩) (λx hx=>by rcases bM.1 hx with rfl|hx;exact hj;exact hl x hx);simp at this;omega
def Qc{n:Nat}{l:List Nat}(h:l.Nodup)(hl:∀x∈l,x<n)(hf:∀j,j<n->j∈l):l.Perm (List.range n) :=
 (dp h iA).2 λj=>⟨λhj=>kZ.2 (hl j hj),λhj=>hf j (kZ.1 hj)⟩
def fM(σ:Nat->Option Value)(j:Nat)(y:Value):Nat->Option Value:=λi=>if i=j then so y else σ i
def yp(ops:Array Oper)(k j:Nat):Bool:=match ops[k]? with
 |some op=>op.after.any λe=>Region.binds .any e&&e.on==j
 |none=>false
def zH(ops:Array Oper)(k:Nat):List Nat->Nat->Bool
 | [],j=>yp ops k j
 |i::l,j=>yp ops k i&&zH ops i l j
structure zI(ops:Array Oper)(kds:List Kd)(v:Nat->Value)(j:Nat)(σ:Nat->Option Value):Prop where
 fits:Fits v σ
 Jd:∀l i,zH ops j l i=true->Kd.at kds i=we->σ i=so (v i)
 qJ:∀l k,zH ops k l j=true->σ k=we
def zI.done{ops:Array Oper}{kds:List Kd}{v:Nat->Value}{j:Nat}{σ:Nat->Option Value}(h:zI ops kds v j σ)(i:Nat)(hi:yp ops j i=true):Kd.at kds i=we->σ i=so (v i):=h.Jd [] i hi
def zI.xA{ops:Array Oper}{kds:List Kd}{v:Nat->Value}{j:Nat}{σ:Nat->Option Value}(h:zI ops kds v j σ)(k:Nat)(hk:yp ops k j=true):σ k=we:=h.qJ [] k hk
def FC{ops:Array Oper}{done:List Nat}(fw:∀j∈done,∀op,ops[j]?=so op->∀e∈op.after,Region.binds .any e=true->e.on∈done){k j:Nat}(hk:k∈done)(h:yp ops k j=true):j∈done:=by
 cases jl:ops[k]? with
 |none=>simp[yp,jl]at h
 |some opk =>
  simp only[yp,jl,Array.any_eq_true',bf,beq_iff_eq]at h;obtain⟨e,he,hb,rfl⟩:=h;exact fw k hk opk jl e he hb
def xd{ops:Array Oper}{done:List Nat}(fw:∀j∈done,∀op,ops[j]?=so op->∀e∈op.after,Region.binds .any e=true->e.on∈done):∀(l:List Nat) {k j:Nat},k∈done->zH ops k l j=true->j∈done
 | [],k,j,hk,h=>FC fw hk h
 |i::l,k,j,hk,h=>by
  simp only[zH,bf]at h;exact xd fw l (FC fw hk h.1) h.2
def BE(P:Program)(X:aM->aZ->ae->Prop)(fn:FuncId)(ops:Array Oper)(Q:Exit->Act->aM->ae->Prop)(S:(Nat->Option Value)->aM->ae->Prop)(kds:List Kd)(v:Nat->Value)(op:Oper)(j:Nat)(x:Kd)(a:Act):Prop :=
 ∀(A:Act) (rest:List Nat) (σ:Nat->Option Value) (o:aM) (w:ae),(∀y∈op.op.operands,A.eval y=a.eval y)->Region.wanted op (yielded ops A.tmps)=Region.wanted op (yielded ops a.tmps)->zI ops kds v j σ->(x=we->σ j=we)->S σ o w ->
  (∀y o' w',(match x with|some (so z)=>y=z/\S σ o' w' | some we=>y=od P op a/\S σ o' w' | none=>S (fM σ j y) o' w')->eX X fn ops rest Q (A.put op.dst y) o' w')->eX X fn ops (j::rest) Q A o w
def Qd(W:fH P m R Gu X)(wY:P.follows .mixedOrders=true){id:Nat}{ops:Array Oper}(jl:BD ops=true)(kds:List Kd){S:(Nat->Option Value)->aM->ae->Prop}(hS:∀σ o w w1,S σ o w->R o w w1->S σ o w1)(hSd:∀σ o (w:ae),S σ o w->S σ o {w with drawn:=w.drawn+1})(hGd:∀w:ae,Gu o w {w with drawn:=w.drawn+1} #[])(h0:S (λ_=>we) o w)(wV:∀v,dL P (BE P X fn ops Q S kds v) ops (λa'=>∀σ o w,(∀j,j<ops.size->Kd.at kds j=we->σ j=so (v j))->S σ o w->eX X fn ops [] Q a' o w) v (List.range ops.size) kds a):wq X fn (.region id ops true) Q a o w:=by
 have H:=GK jl;generalize hn:ops.size=n at wV;have iJ:∀v,_:=λv=>dL.all (kds:=kds) (v:=v) (k:=0) (m:=n) (a:=a) (by have:=wV v;rw[iO]at this;exact this) (λj _=>by simp[Kd.at]);let T:List Nat->(Nat->Value)->aM->ae->Prop:=λdn v o w=>∃σ,Fits v σ/\(∀j,σ j≠we->j∈dn)/\(∀j∈dn,Kd.at kds j=we->σ j=so (v j))/\S σ o w;have key:∀(fuel t:Nat) (ls:Array Bool) (done:List Nat) (v:Nat->Value) (o:aM) (w:ae),T done v o w->uv ops n ls done->fuel+done.length=n ->
   eX X fn ops (Region.linearise.go .any ops fuel t ls []) Q (cG ops (VR P ops kds v a) a done) o w:=by
  intro fuel
  induction fuel with
  |zero =>
   intro t ls done v o w hw hL YL;have vp:=hL.nd;have cx:=hL.lt;simp only[Region.linearise.go,List.reverse_nil];have hp:done.Perm (List.range n):=Qc vp cx (full_of vp cx aa);obtain⟨σ,hf,h1,h2,Wz⟩:=hw;rw[jZ H.dst hp,<- qo];have:=(iJ v).2;rw[bt]at this;exact this σ o w (λj hj hk=>h2 j (hp.mem_iff.2 (kZ.2 hj)) hk) Wz
  |succ fuel ih =>
   intro t ls done v o w hw hL YL;have⟨i,op,t',h1,h2,ho,h3,el,hL'⟩:=hL.step hn H.low aa fuel t;rw[el];have vp:=hL.nd;have fw:=hL.cl;obtain⟨σ,hf,KY,Cx,Wz⟩:=hw;have eW:=(iJ v).1 i op (aV _) aa ho;have hsi:σ i=we:=aN λh=>h2 (KY i h);refine eW _ _ σ o w (λy hy=>?_) ?_ ⟨hf,λl k hk rV=>Cx _ (by
     have dir:∀k,yp ops i k=true->k∈done:=λk hk=>by
      simp only[yp,ho,Array.any_eq_true',bf,beq_iff_eq]at hk;obtain⟨e,he,hb,rfl⟩:=hk;exact h3 e he hb
     cases l with
     |nil=>exact dir k hk
     |cons i' l =>
      simp only[zH,bf]at hk;exact xd fw l (dir i' hk.1) hk.2) rV,λl k hk=>aN λhsk=>h2 (xd fw l (KY k hsk) hk)⟩ (λ_=>hsi) Wz (λx o1 w1 xy=>?_)
   ·rw[qo];exact yo H ho vp h2 h3 y (λd hd=>by subst hd;exact oE hy)
   ·rw[qo];exact Mf H ho vp h2 h3
   ·
    have xz:∀j∈done,v j=(λj=>if j=i then x else v j) j:=λj hj=>(if_neg (λ(e:j=i)=>h2 (e▸hj))).symm;have eH:=Mg (P:=P) (kds:=kds) (a:=a) H fw xz;have hui:VR P ops kds (λj=>if j=i then x else v j) a i=x:=by
     have ha:Kd.at kds i=so we->od P op (vR P ops kds (λj=>if j=i then x else v j) a i)=od P op (vR P ops kds v a i):=λ_=>by
      unfold od;rw[execOp_congr op (H.sel i op ho) (ρ:=(vR P ops kds (λj=>if j=i then x else v j) a i).eval) (ρ':=(vR P ops kds v a i).eval)];intro y hy;have hy':∀d,y=.tmp d->d∈op.looksAt ops:=λd hd=>by subst hd;exact oE hy
      rw[qo,qo,<- yo H ho vp h2 h3 y hy',<- yo H ho vp h2 h3 y hy',sN done λj hj=>(eH j hj).symm]
     unfold VR;rcases hk:Kd.at kds i with _|_|z
     ·simp[CV]
     ·simp only[hk]at xy;simp only[CV,ho];rw[ha hk];exact xy.1.symm
     ·simp only[hk]at xy;simp only[CV];exact xy.1.symm
    have e2:(cG ops (VR P ops kds v a) a done).put op.dst x=cG ops (VR P ops kds (λj=>if j=i then x else v j) a) a (done++[i]):=by
     rw[iG,sN done λj hj=>(eH j hj).symm];simp[cG,ho,hui]
    rw[e2];refine ih t' _ (done++[i]) _ o1 w1 ?_ hL' eP;have YS:∀j y,j≠i->σ j=so y->(if j=i then x else v j)=y:=λj y e hy=>by rw[if_neg e];exact hf j y hy
    have rest:Kd.at kds i≠we->S σ o1 w1->T (done++[i]) (λj=>if j=i then x else v j) o1 w1:=λhk xy=>by
     refine⟨σ,λj y hy=>?_,λj hj=>fN.2 (.inl (KY j hj)),λj hj SD=>?_,xy⟩
     ·exact YS j y (λe=>by rw[e,hsi]at hy;cases hy) hy
     ·have e:j≠i:=λe=>hk (e▸SD);simp only[if_neg e];rcases fN.1 hj with hj|hj
      ·exact Cx j hj SD
      ·simp at hj;exact absurd hj e
    rcases hk:Kd.at kds i with _|_|z
    ·simp only[hk]at xy;refine⟨fM σ i x,λj y hy=>?_,λj hj=>?_,λj hj SD=>?_,xy⟩
     ·by_cases e:j=i
      ·subst e;simp only[fM,if_true]at hy;simp only[if_true];exact aT hy
      ·simp only[fM,if_neg e]at hy;exact YS j y e hy
     ·by_cases e:j=i
      ·subst e;simp
      ·simp only[fM,if_neg e]at hj;exact fN.2 (.inl (KY j hj))
     ·by_cases e:j=i
      ·subst e;simp[fM]
      ·simp only[fM,if_neg e];rcases fN.1 hj with hj|hj
       ·exact Cx j hj SD
       ·simp at hj;exact absurd hj e
    ·simp only[hk]at xy;exact rest (by rw[hk];simp) xy.2
    ·simp only[hk]at xy;exact rest (by rw[hk];simp) xy.2
 intro b k cs hb hk hc;refine W.step o _ w rfl λw1 qY=>⟨_,_,_,stepG_region_draw,hGd w1,?_⟩;rw[kJ o ak];have SY:∀t,Region.schedule (P.follows .mixedOrders) ops t=Region.linearise.go .any ops n t (Array.replicate n false) []:=by
  intro t;simp[Region.schedule,wY,Region.linearise,hn]
 rw[SY];exact key n (w1.tape w1.drawn (.order b.fn id)) (Array.replicate n false) [] (λ_=>undef) o {w1 with drawn:=w1.drawn+1} ⟨λ_=>we,(λ(j:Nat) (y:Value) hy=>by cases hy),(λj hj=>absurd rfl hj),(λj hj=>by cases hj),hSd _ _ _ (hS _ o w w1 h0 qY)⟩ (uv.zero ops _) ar b k cs hb hk hc
end
section
variable {P:Program}{L:Nat->Bool}{Fin:bL}{d:Nat}{fn:FuncId}{Q:Exit->Act->aM->ae->Prop}{a:Act}{o:aM}{w:ae}{ops:Array Oper}
def BF{l:List Nat}{A:Act}{n:Nat}(h:eX (XB P Fin d) fn ops l Q A o w):eX (XB P Fin d) fn ops l Q A o (w.at n):=λb k cs hb hk hc=>bY.rely _ _ _ _ (h b k cs hb hk hc) ⟨n,rfl⟩
def dH(wY:P.follows .mixedOrders=true){id:Nat}(jl:BD ops=true)(kds:List Kd){S:(Nat->Option Value)->aM->ae->Prop}(h0:S (λ_=>we) o w)(wV:∀v,dL P (BE P (XB P Fin d) fn ops Q S kds v) ops (λa'=>∀σ o w,(∀j,j<ops.size->Kd.at kds j=we->σ j=so (v j))->S σ o w->Q .normal a' o w) v (List.range ops.size) kds a):wq (XB P Fin d) fn (.region id ops true) Q a o w:=by
 refine Qd (R:=λ_=>AtRel) (Gu:=GuO Fin) bY wY jl kds (S:=λσ o w=>∃w0 n,w=w0.at n/\S σ o w0) (λσ o w w1 h hr=>?_) (λσ o w h=>?_) (λw=>⟨ar,ah _,rfl,rfl⟩) ⟨w,w.drawn,rfl,h0⟩ λv=>?_
 ·obtain⟨w0,n,rfl,h⟩:=h;obtain⟨k,rfl⟩:=hr;exact⟨w0,k,rfl,h⟩
 ·obtain⟨w0,n,rfl,h⟩:=h;exact⟨w0,_,rfl,h⟩
 ·have key:∀(l:List Nat) (xs:List Kd) (a:Act),dL P (BE P (XB P Fin d) fn ops Q S kds v) ops (λa'=>∀σ o w,(∀j,j<ops.size->Kd.at kds j=we->σ j=so (v j))->S σ o w->Q .normal a' o w) v l xs a ->
    dL P (BE P (XB P Fin d) fn ops Q (λσ o w=>∃w0 n,w=w0.at n/\S σ o w0) kds v) ops (λa'=>∀σ o w,(∀j,j<ops.size->Kd.at kds j=we->σ j=so (v j))->(∃w0 n,w=w0.at n/\S σ o w0)->eX (XB P Fin d) fn ops [] Q a' o w) v l xs a:=by
   intro l
   induction l with
   |nil =>
    intro xs a h;cases xs with
    |nil =>
     intro σ o w hs hS;obtain⟨w0,n,rfl,hS⟩:=hS;exact BF (ya bY (h σ o w0 hs hS))
    |cons x xs=>exact h.elim
   |cons j l ih =>
    intro xs a h;cases xs with
    |nil=>exact h.elim
    |cons x xs =>
     obtain⟨⟨op,ho,hk⟩,hr⟩:=h;refine⟨⟨op,ho,λA rest σ o w h1 h2 h3 h4 hS hc=>?_⟩,ih xs _ hr⟩;obtain⟨w0,n,rfl,hS⟩:=hS;refine BF (hk A rest σ o w0 h1 h2 h3 h4 hS λy o' w' hy=>hc y o' w' ?_);rcases x with _|_|z
     ·exact⟨w',w'.drawn,rfl,hy⟩
     ·exact⟨hy.1,w',w'.drawn,rfl,hy.2⟩
     ·exact⟨hy.1,w',w'.drawn,rfl,hy.2⟩
  exact key _ _ _ (wV v)
def CW:Op->Bool
 | .select ..=>false
 |_=>true
def se{op:Op}(h:CW op=true):∀cs b,op≠.select cs b:=λcs b e=>by rw[e]at h;cases h
variable {S:(Nat->Option Value)->aM->ae->Prop}{kds:List Kd}{v:Nat->Value}{K:Act->Prop}{j:Nat}{l:List Nat}{xs:List Kd}{op:Oper}{dd:Option Tmp}
def pL(ho:ops[j]?=so op)(hd:op.dst=dd)(hn:CW op.op=true)(hw:Region.wanted op (yielded ops a.tmps)=true){y:Value}(cJ:∀w1,(execOp a.eval op).run P w1=.ok (.value y) w1)(jb:∀w1,(execOp a.eval op).events P w1 #[]=#[])(h:dL P (BE P (XB P Fin d) fn ops Q S kds v) ops K v l xs (a.put dd y)):dL P (BE P (XB P Fin d) fn ops Q S kds v) ops K v (j::l) (so we::xs) a:=by
 refine gj ho hd (λA rest σ o w h1 h2 h3 h4 hS hc=>?_) (y:=y) (by simp only[CV];unfold od;rw[cJ]) h;have hex:=execOp_congr op (se hn) h1;refine lE bY ho (h2.trans hw) λw1 hr K hK=>?_;rw[hex,cJ w1];simp only[uponK_value];refine hK _ _ ⟨?_,?_⟩
 ·have:listed P fn A op w1=#[]:=by unfold listed;rw[hex,jb w1];exact seen_none P _
  rw[this];exact⟨ar,ah _,rfl,rfl⟩
 ·rw[cm];obtain⟨n,rfl⟩:=hr;exact BF (hc y o w ⟨by unfold od;rw[cJ],hS⟩)
def yq(C:Prop)(Y:Value)(ho:ops[j]?=so op)(hd:op.dst=dd)(hn:CW op.op=true)(hw:Region.wanted op (yielded ops a.tmps)=true)(hC:∀σ o w,zI ops kds v j σ->S σ o w->C)(cJ:C->∀w1,(execOp a.eval op).run P w1=.ok (.value Y) w1)(jb:C->∀w1,(execOp a.eval op).events P w1 #[]=#[])(h:∀y,(C->y=Y)->dL P (BE P (XB P Fin d) fn ops Q S kds v) ops K v l xs (a.put dd y)):dL P (BE P (XB P Fin d) fn ops Q S kds v) ops K v (j::l) (so we::xs) a:=by
 refine gj ho hd (λA rest σ o w h1 h2 h3 h4 hS hc=>?_) rfl (h _ λc=>by simp only[CV];unfold od;rw[cJ c]);have c:=hC σ o w h3 hS;have hex:=execOp_congr op (se hn) h1;refine lE bY ho (h2.trans hw) λw1 hr K hK=>?_;rw[hex,cJ c w1];simp only[uponK_value];refine hK _ _ ⟨?_,?_⟩
 ·have:listed P fn A op w1=#[]:=by unfold listed;rw[hex,jb c w1];exact seen_none P _
  rw[this];exact⟨ar,ah _,rfl,rfl⟩
 ·rw[cm];obtain⟨n,rfl⟩:=hr;exact BF (hc Y o w ⟨by unfold od;rw[cJ c],hS⟩)
def pr(ho:ops[j]?=so op)(hd:op.dst=dd)(hw:Region.wanted op (yielded ops a.tmps)=false)(h:dL P (BE P (XB P Fin d) fn ops Q S kds v) ops K v l xs (a.put dd undef)):dL P (BE P (XB P Fin d) fn ops Q S kds v) ops K v (j::l) (so (so undef)::xs) a:=by
 refine gj ho hd (λA rest σ o w h1 h2 h3 h4 hS hc=>?_) rfl h;exact jv bY ho (h2.trans hw) (hc undef o w ⟨rfl,hS⟩)
def bZ(dc:rT P L P.globals.size)(ho:ops[j]?=so op)(hd:op.dst=dd)(hn:CW op.op=true)(hw:Region.wanted op (yielded ops a.tmps)=true)(jl:tD L op.op=true){y:Value}(cJ:∀σ o w,zI ops kds v j σ->S σ o w->bO P L o w/\(∀x∈op.op.operands,Cl P L o (a.eval x))/\∀wl,iz o w wl->(execOp a.eval op).run P wl=.ok (.value y) wl)(h:dL P (BE P (XB P Fin d) fn ops Q S kds v) ops K v l xs (a.put dd y)):dL P (BE P (XB P Fin d) fn ops Q S kds v) ops K v (j::l) (so (so y)::xs) a:=by
 refine gj ho hd (λA rest σ o w h1 h2 h3 h4 hS hc=>?_) rfl h;have⟨hF,fw,hr⟩:=cJ σ o w h3 hS;have hex:=execOp_congr op (se hn) h1;exact dK dc hF ho (h2.trans hw) jl (λx hx=>by rw[h1 x hx];exact fw x hx) rfl (λwl aW=>by rw[hex];exact hr wl aW) λ_=>hc y o w ⟨rfl,hS⟩
def vt(ho:ops[j]?=so op)(hd:op.dst=dd)(hw:Region.wanted op (yielded ops a.tmps)=true){f:FuncId}{fc:Func}{c:Code}{args:Array Operand}{sE:Array TypeId}(eW:op.op=.call {callee:=.value (.func f),args,argTypes:=sE})(hf:P.funcs[f]?=so fc)(gN:(fc.name == "runtime.NumGoroutine")=false)(fF:fc.body=so c){av:Array Value}(has:args.map a.eval=av)(FD:∀σ o w,zI ops kds v j σ->σ j=we->S σ o w->bA P (XB P Fin d) f av o w λy o' w'=>S (fM σ j y) o' w')(h:dL P (BE P (XB P Fin d) fn ops Q S kds v) ops K v l xs (a.put dd (v j))):dL P (BE P (XB P Fin d) fn ops Q S kds v) ops K v (j::l) (we::xs) a:=by
 refine gj ho hd (λA rest σ o w h1 h2 h3 h4 hS hc=>?_) rfl h;exact du bY ho (h2.trans hw) eW hf gN fF ((pJ eW h1).trans has) rfl ((FD σ o w h3 (h4 rfl) hS).mono λy o' w' q=>hc y o' w' q)
def jO(ho:ops[j]?=so op)(hd:op.dst=dd)(hw:Region.wanted op (yielded ops a.tmps)=true){f:FuncId}{fc:Func}{c:Code}{args:Array Operand}{sE:Array TypeId}(eW:op.op=.call {callee:=.value (.func f),args,argTypes:=sE})(hf:P.funcs[f]?=so fc)(gN:(fc.name == "runtime.NumGoroutine")=false)(fF:fc.body=so c){av:Array Value}(has:args.map a.eval=av){y:Value}(FD:∀σ o w,zI ops kds v j σ->S σ o w->bA P (XB P Fin d) f av o w λy' o' w'=>y'=y/\S σ o' w')(h:dL P (BE P (XB P Fin d) fn ops Q S kds v) ops K v l xs (a.put dd y)):dL P (BE P (XB P Fin d) fn ops Q S kds v) ops K v (j::l) (so (so y)::xs) a:=by
 refine gj ho hd (λA rest σ o w h1 h2 h3 h4 hS hc=>?_) rfl h;exact du bY ho (h2.trans hw) eW hf gN fF ((pJ eW h1).trans has) rfl ((FD σ o w h3 hS).mono λy o' w' q=>hc y o' w' q)
def pM(dc:rT P L P.globals.size)(ho:ops[j]?=so op)(hd:op.dst=dd)(hn:CW op.op=true)(hw:Region.wanted op (yielded ops a.tmps)=true)(jl:tD L op.op=true)(cJ:∀σ o w,zI ops kds v j σ->σ j=we->S σ o w->bO P L o w/\(∀x∈op.op.operands,Cl P L o (a.eval x))/\∃R:ae->ae->Prop,(∀wl,iz o w wl->∃aX,(execOp a.eval op).run P wl=.ok .skip aX/\R wl aX)/\∀wl aX w',iz o w wl->R wl aX->lJ P L o w w' aX undef->S (fM σ j undef) (grow o w w') w')(h:dL P (BE P (XB P Fin d) fn ops Q S kds v) ops K v l xs (a.put dd (v j))):dL P (BE P (XB P Fin d) fn ops Q S kds v) ops K v (j::l) (we::xs) a:=by
 refine gj ho hd (λA rest σ o w h1 h2 h3 h4 hS hc=>?_) rfl h;have⟨hF,fw,R,hr,hb⟩:=cJ σ o w h3 (h4 rfl) hS;have hex:=execOp_congr op (se hn) h1;exact dA dc hF ho (h2.trans hw) jl (λx hx=>by rw[h1 x hx];exact fw x hx) rfl (R:=R) (λwl aW=>by rw[hex];exact hr wl aW) λwl aX w' k1 k2 k3=>hc undef _ _ (hb wl aX w' k1 k2 k3)
def qp(dc:rT P L P.globals.size)(ho:ops[j]?=so op)(hd:op.dst=dd)(hn:CW op.op=true)(hw:Region.wanted op (yielded ops a.tmps)=true)(jl:tD L op.op=true)(cJ:∀σ o w,zI ops kds v j σ->σ j=we->S σ o w->bO P L o w/\(∀x∈op.op.operands,Cl P L o (a.eval x))/\∃R:ae->Value->ae->Prop,(∀wl,iz o w wl->∃y aX,(execOp a.eval op).run P wl=.ok (.value y) aX/\R wl y aX)/\∀wl y aX w',iz o w wl->R wl y aX->lJ P L o w w' aX y->S (fM σ j y) (grow o w w') w')(h:dL P (BE P (XB P Fin d) fn ops Q S kds v) ops K v l xs (a.put dd (v j))):dL P (BE P (XB P Fin d) fn ops Q S kds v) ops K v (j::l) (we::xs) a:=by
 refine gj ho hd (λA rest σ o w h1 h2 h3 h4 hS hc=>?_) rfl h;have⟨hF,fw,R,hr,hb⟩:=cJ σ o w h3 (h4 rfl) hS;have hex:=execOp_congr op (se hn) h1;exact dm dc hF ho (h2.trans hw) jl (λx hx=>by rw[h1 x hx];exact fw x hx) rfl (R:=R) (λwl aW=>by rw[hex];exact hr wl aW) λwl y aX w' k1 k2 k3=>hc y _ _ (hb wl y aX w' k1 k2 k3)
end
end Go.Ren
