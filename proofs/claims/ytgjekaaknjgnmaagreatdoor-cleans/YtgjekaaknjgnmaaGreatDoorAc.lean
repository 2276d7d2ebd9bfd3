import Derived.Test.YtgjekaaknjgnmaaGreatDoorAb
import Derived.Conc.CompanyDraw
import Derived.Conc.CompanyMem
import Derived.Conc.CompanyWords
import Derived.Conc.DeferLaws
import Derived.Conc.EntryLaws
import Derived.Conc.Listed
import Derived.Conc.MarkLaws
import Derived.Conc.WgGenN3
import Derived.Deep.OwnRows
set_option linter.all false
set_option maxHeartbeats 32000000
set_option maxRecDepth 100000
namespace Go.Ren
open _root_.Option renaming some → so,none → we
open Go.Conc Go.ConcN
section
open Go.ConcR (KK wgBlock WgAt stA smA rd wr Payload DC0)
variable [Payload]
section
variable {P:Program}{T:dv}{V:Nat->ae->Prop}{fH:Nat->(Nat->Prop)->ae->Prop}{cZ Fin:ft}
theorem PU(hT:T.OK)(hV:kX T V fH)(hn:T.n<2147483648)(XO:∀o g w,cZ o g w->du P T (Rz P T cZ Fin) o g w){Sb:Nat->Prop}(tZ:T.Shun=uJ Sb){B:Nat}{gs:Array aY}{a:aY}{w:ae}{sl:Option (Nat×Nat)}{t:Trace}{q:Nat->Nat}{o0:Nat->Prop}(ew:gs.size=T.m0)(h0:gs[0]?=so a)(hL:Leavers P t gs q)(hP:Past T.Shun B t)(ht:t.size=T.T0)(fe:jC P T V fH cZ T.n o0 a w)(UW:∀b,o0 b->T.H0<=b/\b<w.heap.size)(hH:T.H0<=w.heap.size)(pS:WgAt T.ty T.Wg w 0 0)(IE:∀k,k<T.n->∃s r tm,w.heap[T.ch k]?=so (.chan 0 #[] false s r tm))(SA:∀k,k<T.n->T.Idle k w):
  ∃N ij w' su t',runNT P N (crowd gs w sl) t=(.next (crowd ij w' su),t')/\Joined P T V fH Fin Sb w ij w' t':=by
 have PK:=hT.m0;have key:∀(tag:CTag) (y:kv),kD P T V fH cZ Fin tag o0 a w y->nk T.n tag 0 0->Go.ConcN.Mode 0 (λ_=>(⟨7,0,0⟩:WD)) tag 0 0 ->
   gK P T V fH cZ Fin t w gs w t {j:=0,own:=λz b=>z=0/\o0 b,cl:=λ_=>we,rc:=λ_ _=>False} (λ_=>⟨7,0,0⟩) (λk=>if 0<k/\k<T.m0 then .inr (q k)else .inr 0) tag a y 0 0:=by
  intro tag y hs htg hm;have e:(λb=>0=0/\o0 b)=o0:=by funext b;simp
  refine⟨by simp[ew],h0,by simp only[true_and];exact hs,by rw[hP.hears];exact htg,λk k0 km=>?_,λi hi=>absurd hi (cH _),λk hk=>?_,aj,λi hi=>absurd hi (cH _),λk hk=>hL.above k hk,TI.begin ht hP,⟨λx b hb=>(UW b hb.2).1,λx z b h1 h2=>h1.1.trans h2.1.symm,λx b hb=>.inl hb.1⟩,λz b hb=>(UW b hb.2).2,hH,pS,hm,IE,λi k hr=>hr.elim,λ_ _=>rfl,λi k hr=>hr.elim,λi hi=>absurd hi (cH _),λk hk e=>?_,λi z hi hz=>?_,⟨#[],aj⟩,dU.refl w,rI.refl w,SA⟩
  ·have cR:k<gs.size:=aa;refine⟨gs[k],q k,aO cR,by simp[k0,km],hL.old k _ k0 (aO cR)⟩
  ·have:¬(0<k/\k<T.m0):=by simp only at hk;omega
   simp[this]
  ·have:=lt_of_act? e;omega
  ·have:=lt_size_of_getElem? hz;omega
 have run:∀(tag:CTag) (y:kv),kD P T V fH cZ Fin tag o0 a w y->nk T.n tag 0 0->Go.ConcN.Mode 0 (λ_=>(⟨7,0,0⟩:WD)) tag 0 0->∃N ij w' su t',runNT P N (crowd gs w sl) t=(.next (crowd ij w' su),t')/\Joined P T V fH Fin Sb w ij w' t':=by
  intro tag y hs htg hm;have hI:=key tag y hs htg hm;exact PT hT hV hn XO tZ ht hP _ (PD jz.refl jz.trans oo.back _ (hI.ends hT)) gs w t sl _ _ _ tag a y 0 0 rfl hI
 have kO:∀tag,isOpen tag->pend tag=0->(∀vs,tag≠.w2 vs)->Go.ConcN.Mode 0 (λ_=>(⟨7,0,0⟩:WD)) tag 0 0:=λtag h1 h2 h3=>by
  have:=Mode.opn (j:=0) (D:=λ_=>(⟨7,0,0⟩:WD)) h1 (λi hi=>aa) (λvs e=>absurd e (h3 vs));simpa[Vc,sumTo,h2] using this
 cases hnn:T.n with
 |zero =>
  rw[hnn]at fe;exact run .kd _ (kD.mk (tag:=.kd) aj fe rfl) ⟨hnn.symm,rfl⟩ (kO .kd trivial rfl aj)
 |succ r =>
  rw[hnn]at fe;exact run (.sp r 5) _ (kD.mk (tag:=.sp r 5) aj fe (by simp[kW])) ⟨aa,aa,.inl ⟨rfl,rfl⟩⟩ (kO (.sp r 5) trivial rfl aj)
theorem zK(o:Nat->Prop)(w:ae):grow o w w=o:=by
 funext b;simp only[grow,eq_iff_iff];exact⟨λh=>h.elim id λh=>absurd h.2 aa,.inl⟩
theorem Pz.refl(o:Nat->Prop)(w:ae):Pz T o w w:=⟨af _,λ_ _ _=>rfl,rfl,rfl⟩
theorem du.jW{Stop:ft}{o:Nat->Prop}:∀{n:Nat} {g:aY} {w:ae},Goes P true (dU T o) DC0 (λg w=>du P T Stop o g w) n g w->du P T Stop o g w:=by
 intro n
 induction n with
 |zero=>intro g w h;exact h w (dU.refl w)
 |succ n ih =>
  intro g w h;rcases h with h|⟨hs,h⟩
  ·exact h w (dU.refl w)
  ·refine du.step hs λw1 sL=>?_;have:=h w1 sL;cases hg:stepG P true g w1 with
   |go g' w' es =>
    rw[hg,goes_go]at this;obtain⟨⟨rfl,rfl⟩,hG⟩:=this;exact⟨g',w',#[],rfl,Pz.refl o w',aj,by rw[zK];exact ih hG⟩
   |_=>rw[hg]at this;exact this.elim
theorem du.one{Stop:ft}{o:Nat->Prop}{g:aY}{w:ae}(hs:g.status=.running)(h:∀w1,dU T o w w1->∃g' es,stepG P true g w1=.go g' w1 es/\(∀e∈es,EvS T o e)/\du P T Stop o g' w1):du P T Stop o g w:=by
 refine du.step hs λw1 sL=>?_;obtain⟨g',es,e1,e2,e3⟩:=h w1 sL;exact⟨g',w1,es,e1,Pz.refl o w1,by rw[zK];exact e2,by rw[zK];exact e3⟩
end
end
section
open Go.ConcR (KK wgBlock WgAt stA smA rd wr mk)
section
variable {P:Program}{T:dv}{i:Nat}{V:Nat->ae->Prop}{E:br}{L:Nat->Bool}{Gm:Nat}
def Fh{F:kr}{o rc:Nat->Prop}(hF:∀r,F.K r->o (F.φ r)){e:Event}(h:xT F e):NZ T i o rc e:=by
 obtain⟨loc,wt,sy⟩:=e;cases loc with
 |cell a =>
  obtain⟨r,h1,h2⟩:=h;refine⟨λx hx _=>.inl ⟨a.block,by rw[<- h2];exact hF r h1,?_⟩,aj,aj,aj⟩;simp only[MemAct.ofEvent,MemAct.touch?,ay]at hx;subst hx;rfl
 |obj b =>
  obtain⟨r,h1,h2⟩:=h;refine⟨λx hx _=>.inl ⟨b,by rw[<- h2];exact hF r h1,?_⟩,aj,aj,aj⟩;cases wt<;>cases sy<;>simp only[MemAct.ofEvent,MemAct.touch?,ay]at hx;all_goals first|cases hx;done|skip
  all_goals (subst hx;rfl)
 |output =>
  refine⟨λx hx hm=>?_,aj,aj,aj⟩;simp only[MemAct.ofEvent,MemAct.touch?,ay]at hx;subst hx;cases hm
 |goroutines =>
  refine⟨λx hx hm=>?_,aj,aj,aj⟩;simp only[MemAct.ofEvent,MemAct.touch?,ay]at hx;subst hx;cases hm
 |mark m =>
  have hd:LB m=true:=h;cases m<;>first|exact Bool.noConfusion hd|skip
  all_goals
   refine⟨λx hx hm=>?_,aj,aj,aj⟩;simp only[MemAct.ofEvent,MemAct.touch?]at hx;cases hx
def fT.guW(hT:T.OK){F F':kr}{wl bN w w':ae}{o:Nat->Prop}(h:fT F F' wl w bN w')(W:WR F wl w)(W':WR F' bN w')(hF:∀r,F.K r->o (F.φ r))(ho:∀b,o b->T.H0<=b)(hH:T.H0<=w.heap.size):L3 T i o w w':=by
 have key:∀b,b<w.heap.size->¬o b->w'.heap[b]?=w.heap[b]?:=by
  intro b hb hn;refine h.rest b λr hr e=>?_;rcases h.xh r hr with h1|⟨_,h1⟩
  ·rw[h.φ r h1]at e;exact hn (e▸hF r h1)
  ·omega
 have old:∀b,T.Sh b->w'.heap[b]?=w.heap[b]?:=λb hb=>key b (by have:=(hT.sh b hb).1;omega) (λhx=>by have:=ho b hx;have:=(hT.sh b hb).1;omega);refine⟨h.size,λb h1 h2 _=>key b h1 h2,λb cs ty fz hb hx=>⟨cs,by rw[old b hb];exact hx,rfl⟩,λa ha _=>cell_of (old _ ha),?_,?_⟩
 ·rw[W'.os,h.RR,<- W.os]
 ·rw[W'.output,h.BM,<- W.output]
def fT.owned{F F':kr}{wl bN w w':ae}{o:Nat->Prop}(h:fT F F' wl w bN w')(W':WR F' bN w')(hF:∀r,F.K r->o (F.φ r)):∀r,F'.K r->grow o w w' (F'.φ r):=by
 intro r hr;rcases h.xh r hr with h1|⟨_,h1⟩
 ·rw[h.φ r h1];exact .inl (hF r h1)
 ·exact .inr ⟨h1,W'.there r hr⟩
def aside(o:Nat->Prop)(F:kr):Nat->Prop:=λb=>o b/\∀r,F.K r->F.φ r≠b
def fT.Cr(hT:T.OK)(hi:i<T.n){F F':kr}{wl bN w w':ae}{o rc:Nat->Prop}(h:fT F F' wl w bN w')(W:WR F wl w)(W':WR F' bN w')(hF:∀r,F.K r->o (F.φ r))(ho:∀b,o b->T.H0<=b/\b<w.heap.size)(hH:T.H0<=w.heap.size){o1:Nat->Prop}(Le:∀b,o1 b->o b/\∀r,F.K r->F.φ r≠b):di T i o1 rc w w':=by
 have key:∀b,b<w.heap.size->(∀r,F.K r->F.φ r≠b)->w'.heap[b]?=w.heap[b]?:=by
  intro b hb hn;refine h.rest b λr hr e=>?_;rcases h.xh r hr with h1|⟨_,h1⟩
  ·rw[h.φ r h1]at e;exact hn r h1 e
  ·omega
 have old:∀b,b<T.H0->w'.heap[b]?=w.heap[b]?:=λb hb=>key b aa (λr hr e=>by have:=(ho _ (hF r hr)).1;omega);have pX:∀k,k<T.n->w'.heap[T.ch k]?=w.heap[T.ch k]?:=λk hk=>old _ (hT.ch k hk).1;refine⟨h.size,λb hb=>key b (ho b (Le b hb).1).2 (Le b hb).2,λb h1 _ _ _=>old b h1,λb cs ty fz hb hx=>⟨cs,by rw[old b (hT.sh b hb).1];exact hx,rfl⟩,λa ha=>?_,λk s r tm c hk hh=>⟨c,by rw[pX k hk];exact hh,id⟩,pX i hi,gW (old _ hT.wg),?_,?_⟩
 ·have k1:∀k,T.kM k (.cell a)->w'.cell? a=w.cell? a:=by
   intro k fo;obtain⟨a',e,hs⟩:=hT.ownSh k _ fo;cases e;exact cell_of (old _ (hT.sh _ hs).1)
  rcases ha with ha|⟨k,_,ha⟩
  ·exact k1 i ha
  ·exact k1 k ha
 ·rw[W'.os,h.RR,<- W.os]
 ·rw[W'.output,h.BM,<- W.output]
def di.less{o o1 rc:Nat->Prop}{w w1:ae}(h:di T i o rc w w1)(ho:∀b,o1 b->o b):di T i o1 rc w w1 :=
 ⟨h.size,λb hb=>h.own b (ho b hb),h.ro,h.sh,h.mine,h.chan,h.Cp,h.wg,h.os,h.output⟩
def iA.call(hT:T.OK)(hi:i<T.n)(dp:sJ P L Gm){Bp:FuncId}{Q:Value->ae->Prop}{c:Frame}{cs:List Frame}{rc:Nat->Prop}{w0:ae}{o0:Nat->Prop}{F0:kr}(SB:∀v v' F' o' bN w',Q v bN->(∀f,F'.has f->v'=val f v)->WR F' bN w'->(∀b,o0 b->o' b)->(∀r,F'.K r->o' (F'.φ r))->(∀b,o' b->T.H0<=b/\b<w'.heap.size)->(∀r,F0.K r->F'.K r/\F'.φ r=F0.φ r)->di T i (aside o0 F0) rc w0 w' ->
   iA P T i V E ⟨G (c.finish v') cs,o',rc,w'⟩)(x:aY×ae)(Gv:Acc (Nx P (lN P Bp Q)) x):
  ∀(F:kr) (o:Nat->Prop) (gr:aY) (w:ae),yo P L Gm (lN P Bp Q) (c::cs) F (x.1,WT x.2 w.tape w.drawn) gr w->(∀r,F.K r->o (F.φ r))->(∀b,o b->T.H0<=b/\b<w.heap.size)->T.H0<=w.heap.size->(∀b,o0 b->o b)->(∀r,F0.K r->F.K r/\F.φ r=F0.φ r) ->
   (∀b,aside o0 F0 b->∀r,F.K r->F.φ r≠b)->di T i (aside o0 F0) rc w0 w->iA P T i V E ⟨gr,o,rc,w⟩:=by
 have hS:=Bq (P:=P) Bp Q
 induction Gv with
 |intro x _ ih =>
 intro F o gr w HT hF ho hH NU SC Vz hrel;have cG:gr.status=.running:=yp HT;refine iA.intro ⟨cG,.inl λw1 sL=>?_⟩;have A8:LY F w w1:=⟨sL.size,λr hr=>sL.own _ (hF r hr),sL.os,sL.output⟩;have Pw:=HT.others A8;have Le:∀b,o b->T.H0<=b/\b<w1.heap.size:=λb hb=>⟨(ho b hb).1,bf (ho b hb).2 sL.size⟩;have XQ:T.H0<=w1.heap.size:=aS hH sL.size;have D5:WR F (WT x.2 w1.tape w1.drawn) w1:=by
  obtain⟨_,_,_,_,_,_,_,_,_,hW,_⟩:=Pw;exact hW
 have XR:di T i (aside o0 F0) rc w0 w1:=hrel.trans (sL.less λb hb=>NU b hb.1);have Lp:∀(w':ae),w1.heap.size<=w'.heap.size->∀b,grow o w1 w' b->T.H0<=b/\b<w'.heap.size:=λw' hs b hb=>by
  rcases hb with hb|hb
  ·exact⟨(Le b hb).1,bf (Le b hb).2 hs⟩
  ·exact⟨aa,hb.2⟩
 by_cases hs:lN P Bp Q x.1 x.2
 ·obtain⟨v,v',F',pw,es,e1,e2,e3,e4,e5,e6,e7⟩:=Pw.ret dp (hS.tape _ _ _ _ hs) false;refine⟨_,pw,es,e1,e5.guW hT D5 e4 hF (λb hb=>(ho b hb).1) XQ,λe he=>Fh (e5.owned e4 hF) (e6 e he),?_⟩;refine SB v v' F' _ _ pw e2 e3 e4 (λb hb=>.inl (NU b hb)) (e5.owned e4 hF) (Lp pw e5.size) (λr hr=>⟨e5.K r (SC r hr).1,(e5.φ r (SC r hr).1).trans (SC r hr).2⟩) (XR.trans ?_);exact e5.Cr hT hi D5 e4 hF Le XQ λb hb=>⟨NU b hb.1,Vz b hb⟩
 ·obtain⟨y,F',Rx,pw,es,e1,e2,e3,e4,e5,e6⟩:=Pw.step dp hS (λh=>hs (hS.back h)) false;have hW2:WR F' y.2 pw:=by obtain⟨_,_,_,_,_,_,_,_,_,hW,_⟩:=e3;exact hW
  have hyt:(y.1,WT y.2 pw.tape pw.drawn)=y:=by rw[hW2.tape,hW2.drawn];rfl
  refine⟨Rx,pw,es,e1,e4.guW hT D5 hW2 hF (λb hb=>(ho b hb).1) XQ,λe he=>Fh (e4.owned hW2 hF) (e5 e he),?_⟩;refine ih y (Xx hS e2) F' (grow o w1 pw) Rx pw (by rw[hyt];exact e3) (e4.owned hW2 hF) (Lp pw e4.size) (aS XQ e4.size) (λb hb=>.inl (NU b hb)) (λr hr=>⟨e4.K r (SC r hr).1,(e4.φ r (SC r hr).1).trans (SC r hr).2⟩) (λb hb r hr e=>?_) (XR.trans ?_)
  ·rcases e4.xh r hr with h1|⟨_,h1⟩
   ·rw[e4.φ r h1]at e;exact Vz b hb r h1 e
   ·have:=(Le b (NU b hb.1)).2;omega
  ·exact e4.Cr hT hi D5 hW2 hF Le XQ λb hb=>⟨NU b hb.1,Vz b hb⟩
end
end
abbrev aL:=Nat->Prop
structure gj(P:Program)(m:Bool)(R:aL->ae->ae->Prop)(Gu:aL->ae->ae->Array Event->Prop)(X:aL->aY->ae->Prop):Prop where
 step:∀o g w,g.status=.running->(∀w1,R o w w1->∃g' w' es,stepG P m g w1=.go g' w' es/\Gu o w1 w' es/\X (grow o w1 w') g' w')->X o g w
 rely:∀o g w w1,X o g w->R o w w1->X o g w1
 idle:∀o w,Gu o w w #[]
def cp(o:Nat->Prop)(w:ae):grow o w w=o:=by
 funext b;simp only[grow,eq_iff_iff];exact⟨λh=>h.elim id λh=>absurd h.2 aa,.inl⟩
def iw(o:Nat->Prop){w w':ae}(h:w'.heap.size=w.heap.size):grow o w w'=o:=by
 funext b;simp only[grow,eq_iff_iff];exact⟨λk=>k.elim id λk=>absurd k.2 aa,.inl⟩
def vA(o:Nat->Prop)(w:ae)(x:Obj):grow o w {w with heap:=w.heap.push x}=λb=>o b\/b=w.heap.size:=by
 funext b;simp only[grow,Array.size_push,eq_iff_iff];exact⟨λh=>h.imp id λh=>aa,λh=>h.imp id λh=>aa⟩
def I2(T:dv)(i:Nat)(rc:Nat->Prop)(o:aL)(w w':ae)(es:Array Event):Prop:=L3 T i o w w'/\∀e∈es,NZ T i (grow o w w') rc e
def L3.refl{T:dv}{i:Nat}(o:Nat->Prop)(w:ae):L3 T i o w w:=⟨af _,λ_ _ _ _=>rfl,λb cs ty fz _ h=>⟨cs,h,rfl⟩,λ_ _ _=>rfl,rfl,rfl⟩
def cW{P:Program}{T:dv}{i:Nat}{V:Nat->ae->Prop}{E:br}(rc:Nat->Prop):gj P false (λo=>di T i o rc) (I2 T i rc) (λo g w=>iA P T i V E ⟨g,o,rc,w⟩) where
 step o g w hs h:=iA.intro ⟨hs,.inl λw1 hw=>let ⟨g',w',es,e1,e2,e3⟩:=h w1 hw;⟨g',w',es,e1,e2.1,e2.2,e3⟩⟩
 rely o g w w1 h hr:=h.rely hr
 idle o w:=⟨.refl o w,aj⟩
def agR(T:dv)(o:aL)(w w':ae)(es:Array Event):Prop:=Pz T o w w'/\∀e∈es,EvS T (grow o w w') e
def oH{P:Program}{T:dv}{Stop:ft}:gj P true (λo=>dU T o) (agR T) (λo g w=>du P T Stop o g w) where
 step o g w hs h:=du.step hs λw1 hw=>let ⟨g',w',es,e1,e2,e3⟩:=h w1 hw;⟨g',w',es,e1,e2.1,e2.2,e3⟩
 rely o g w w1 h hr:=h.rely hr
 idle o w:=⟨⟨af _,λ_ _ _=>rfl,rfl,rfl⟩,aj⟩
section
variable {P:Program}{m:Bool}{R:aL->ae->ae->Prop}{Gu:aL->ae->ae->Array Event->Prop}{X:aL->aY->ae->Prop}
def gj.go(W:gj P m R Gu X){o:aL}{g g':aY}{w:ae}(hs:g.status=.running)(h:∀w1,stepG P m g w1=.go g' w1 #[])(hx:X o g' w):X o g w :=
 W.step o g w hs λw1 hw=>⟨g',w1,#[],h w1,W.idle _ _,by rw[cp];exact W.rely _ _ _ _ hx hw⟩
def uR(X:aL->aY->ae->Prop)(b:Frame)(k:List Item)(cs:List Frame):Exit->Act->aL->ae->Prop
 | .normal,a,o,w=>X o (G (b.at a k) cs) w
 | .exit id,a,o,w=>∃k',exitTo id k=so k'/\X o (G (b.at a k') cs) w
 | .ret,a,o,w=>∀todo,X o (G {b.at a todo with mode:=.returning} cs) w
 |_,_,_,_=>False
def uR.push{b:Frame}{y:Item}{k:List Item}{cs:List Frame}{e:Exit}{a:Act}{o:aL}{w:ae}(hy:y.plain=true)(he:e≠.normal)(h:uR X b k cs e a o w):uR X b (y::k) cs e a o w:=by
 cases e with
 |normal=>exact absurd rfl he
 |exit id=>obtain⟨k',hk,hg⟩:=h;exact⟨k',by cases y<;>simp_all[exitTo,Item.plain],hg⟩
 |ret=>exact h
 |goto l=>exact h
 |panic ch=>exact h
 |outgrown=>exact h
def wN(X:aL->aY->ae->Prop)(fn:FuncId)(c:Code)(Q:Exit->Act->aL->ae->Prop)(a:Act)(o:aL)(w:ae):Prop :=
 ∀(b:Frame) (k:List Item) (cs:List Frame),b.fn=fn->b.kind≠.early->(∀e a' o' w',Q e a' o' w'->uR X b k cs e a' o' w')->X o (G (b.at a (.code c::k)) cs) w
def dK(X:aL->aY->ae->Prop)(fn:FuncId)(ops:Array Oper)(todo:List Nat)(Q:Exit->Act->aL->ae->Prop)(a:Act)(o:aL)(w:ae):Prop :=
 ∀(b:Frame) (k:List Item) (cs:List Frame),b.fn=fn->b.kind≠.early->(∀e a' o' w',Q e a' o' w'->uR X b k cs e a' o' w')->X o (G (b.at a (.inRegion ops todo::k)) cs) w
def nu(M:Act->aL->ae->Prop)(Q:Exit->Act->aL->ae->Prop):Exit->Act->aL->ae->Prop
 | .normal,a,o,w=>M a o w
 |e,a,o,w=>Q e a o w
def gL(id:Nat)(Q:Exit->Act->aL->ae->Prop):Exit->Act->aL->ae->Prop
 | .exit SD,a,o,w=>if SD=id then Q .normal a o w else Q (.exit SD) a o w
 |e,a,o,w=>Q e a o w
section rules
variable {fn:FuncId}{Q:Exit->Act->aL->ae->Prop}{a:Act}{o:aL}{w:ae}
def I3{c:Code}{Q':Exit->Act->aL->ae->Prop}(h:wN X fn c Q a o w)(hq:∀e a o w,Q e a o w->Q' e a o w):wN X fn c Q' a o w :=
 λb k cs hb hk hc=>h b k cs hb hk λe a' o' w' q=>hc e a' o' w' (hq e a' o' w' q)
def I4(W:gj P m R Gu X)(h:Q .normal a o w):wN X fn .skip Q a o w:=λb k cs _ _ hc=>W.go rfl (λ_=>cD) (hc _ _ _ _ h)
def Oh(W:gj P m R Gu X)(h:Q .ret a o w):wN X fn .ret Q a o w:=λb k cs _ _ hc=>W.go rfl (λ_=>stepG_ret') (hc _ _ _ _ h _)
def I5(W:gj P m R Gu X){id:Nat}(h:Q (.exit id) a o w):wN X fn (.exit id) Q a o w:=λb k cs _ _ hc=>by
 obtain⟨k',lY,hg⟩:=hc _ _ _ _ h;exact W.go rfl (λ_=>stepG_exit lY) hg
def Bt(W:gj P m R Gu X){x y:Code}(h:wN X fn x (nu (λa' o' w'=>wN X fn y Q a' o' w') Q) a o w):wN X fn (.seq x y) Q a o w:=by
 intro b k cs hb hk hc;refine W.go rfl (λ_=>aE) (h b (.code y::k) cs hb hk λe a' o' w' q=>?_);cases e with
 |normal=>exact q b k cs hb hk hc
 |exit id=>exact(hc _ _ _ _ q).push rfl aj
 |ret=>exact(hc _ _ _ _ q).push (y:=.code y) rfl aj
 |goto l=>exact hc _ _ _ _ q
 |panic ch=>exact hc _ _ _ _ q
 |outgrown=>exact hc _ _ _ _ q
def I6(W:gj P m R Gu X){c:Operand}{x y:Code}{t:Bool}(hc:a.eval c=.bool t)(h:wN X fn (if t then x else y) Q a o w):wN X fn (.cond c x y) Q a o w :=
 λb k cs hb hk hq=>W.go rfl (λ_=>eG hc) (h b k cs hb hk hq)
def Fi(W:gj P m R Gu X){id:Nat}{c:Code}(h:wN X fn c (gL id Q) a o w):wN X fn (.block id c) Q a o w:=by
 intro b k cs hb hk hc;refine W.go rfl (λ_=>fJ) (h b (.inBlock id::k) cs hb hk λe a' o' w' q=>?_);cases e with
 |normal=>exact W.go rfl (λ_=>gX) (hc _ _ _ _ q)
 |exit SD =>
  by_cases hid:SD=id
  ·simp only[gL,hid,if_true]at q;exact⟨k,by simp[exitTo,hid],hc _ _ _ _ q⟩
  ·simp only[gL,hid,if_false]at q;obtain⟨k',lY,hg⟩:=hc _ _ _ _ q;have:(id==SD)=false:=by simp;exact λh=>hid h.symm
   exact⟨k',by simp[exitTo,this,lY],hg⟩
 |ret=>exact λtodo=>hc _ _ _ _ q todo
 |goto l=>exact hc _ _ _ _ q
 |panic ch=>exact hc _ _ _ _ q
 |outgrown=>exact hc _ _ _ _ q
def dQ(W:gj P m R Gu X){c:Code}(I:Nat->Act->aL->ae->Prop){N:Nat}(h0:I N a o w)(round:∀n a o w,I n a o w->wN X fn c (nu (λa' o' w'=>∃n',n'<n/\I n' a' o' w') Q) a o w):wN X fn (.loop c) Q a o w:=by
 intro b k cs hb hk hc;have key:∀N a o w,I N a o w->X o (G (b.at a (.code c :: .inLoop c::k)) cs) w:=by
  intro N
  induction N using Nat.strongRecOn with
  |ind N ih =>
   intro a o w hI;refine round N a o w hI b (.inLoop c::k) cs hb hk λe a' o' w' q=>?_;cases e with
   |normal =>
    obtain⟨n',hn,Sa⟩:=q;exact W.go rfl (λ_=>jq) (ih n' hn a' o' w' Sa)
   |exit id=>exact(hc _ _ _ _ q).push rfl aj
   |ret=>exact(hc _ _ _ _ q).push (y:=.inLoop c) rfl aj
   |goto l=>exact hc _ _ _ _ q
   |panic ch=>exact hc _ _ _ _ q
   |outgrown=>exact hc _ _ _ _ q
 exact W.go rfl (λ_=>kE) (key N a o w h0)
def Cx(W:gj P m R Gu X){id:Nat}{ops:Array Oper}(h:dK X fn ops (List.range ops.size) Q a o w):wN X fn (.region id ops false) Q a o w :=
 λb k cs hb hk hc=>W.go rfl (λ_=>bg) (h b k cs hb hk hc)
def yx(W:gj P m R Gu X){ops:Array Oper}(h:Q .normal a o w):dK X fn ops [] Q a o w:=λb k cs _ _ hc=>W.go rfl (λ_=>ar) (hc _ _ _ _ h)
def mz(W:gj P m R Gu X){ops:Array Oper}{i:Nat}{rest:List Nat}{op:Oper}(ho:ops[i]?=so op)(hw:Region.wanted op (yielded ops a.tmps)=true)(h:∀w1,R o w w1->∀K:Act->ae->Prop,(∀a' w',Gu o w1 w' (listed P fn a op w1)/\dK X fn ops rest Q a' (grow o w1 w') w'->K a' w')->uponK op a K ((execOp a.eval op).run P w1)):dK X fn ops (i::rest) Q a o w:=by
 intro b k cs hb hk hc;refine W.step o _ w rfl λw1 h1=>?_;have:=h w1 h1 _ λ_ _ x=>x;revert this;cases hr:(execOp a.eval op).run P w1 with
 |ok x w' =>
  cases x with
  |value v=>intro q;simp only[uponK_value]at q;exact⟨_,_,_,dP ho hw hk hr,hb▸q.1,q.2 b k cs hb hk hc⟩
  |skip=>intro q;simp only[uponK_skip]at q;exact⟨_,_,_,jl ho hw hk hr,hb▸q.1,q.2 b k cs hb hk hc⟩
  |_=>intro q;exact q.elim
 |halt _ _=>intro q;exact q.elim
def jX(W:gj P m R Gu X){ops:Array Oper}{i:Nat}{rest:List Nat}{op:Oper}(ho:ops[i]?=so op)(hw:Region.wanted op (yielded ops a.tmps)=false)(h:dK X fn ops rest Q (a.put op.dst undef) o w):dK X fn ops (i::rest) Q a o w :=
 λb k cs hb hk hc=>W.go rfl (λ_=>stepG_unwanted ho hw) (h b k cs hb hk hc)
def Mg(W:gj P m R Gu X){ops:Array Oper}{i:Nat}{rest:List Nat}{op:Oper}{f:FuncId}{fc:Func}{c:Code}{args:Array Operand}{tf:Array TypeId}(ho:ops[i]?=so op)(hw:Region.wanted op (yielded ops a.tmps)=true)(fD:op.op=.call {callee:=.value (.func f),args,argTypes:=tf})(hf:P.funcs[f]?=so fc)(iB:(fc.name == "runtime.NumGoroutine")=false)(gb:fc.body=so c)(h:∀(b:Frame) (k:List Item) (cs:List Frame),b.fn=fn->b.kind≠.early->(∀e a' o' w',Q e a' o' w'->uR X b k cs e a' o' w') ->
   X o (G ((base f).at {tmps:=args.map a.eval++Array.replicate (fc.ntmps-(args.map a.eval).size) undef,defers:=[]} [.code c]) (b.at a (.inRegion ops (i::rest)::k)::cs)) w):dK X fn ops (i::rest) Q a o w:=by
 intro b k cs hb hk hc;refine W.go rfl (λw1=>?_) (h b k cs hb hk hc);have:=goes_call (P:=P) (main:=m) (b:=b) (k:=k) (cs:=cs) (w:=w1) (K:=λg' w' es=>stepG P m (G (b.at a (.inRegion ops (i::rest)::k)) cs) w1=.go g' w' es->stepG P m (G (b.at a (.inRegion ops (i::rest)::k)) cs) w1=.go (G ((base f).at {tmps:=args.map a.eval++Array.replicate (fc.ntmps-(args.map a.eval).size) undef,defers:=[]} [.code c]) (b.at a (.inRegion ops (i::rest)::k)::cs)) w1 #[]) ho hw hk fD hf iB gb (λe=>e);cases hg:stepG P m (G (b.at a (.inRegion ops (i::rest)::k)) cs) w1 with
 |go g' w' es=>rw[hg,goes_go]at this;rw[<- this rfl]
 |_=>rw[hg]at this;exact this.elim
end rules
end
def jA(N:Nat->Bool)(w:ae):ae:={w with heap:=w.heap.mapIdx λb o=>if N b then o else .cells #[] 0}
def lZ(N:Nat->Bool)(w:ae):(jA N w).heap.size=w.heap.size:=by simp[jA]
def mF(N:Nat->Bool)(w:ae){b:Nat}(h:N b=true):(jA N w).heap[b]?=w.heap[b]?:=by
 simp only[jA,Array.getElem?_mapIdx,h,if_true];cases w.heap[b]?<;>rfl
def I7(N:Nat->Bool)(f:Rn):Prop:=∀r,N r=true->f.b r=r
def I8(N:Nat->Bool)(w:ae):Prop:=∀b,N b=true->∃x,w.heap[b]?=so x/\fN x=false/\∀f,I7 N f->obj f x=x
section
variable {P:Program}{T:dv}{i:Nat}{V:Nat->ae->Prop}{E:br}{L:Nat->Bool}{N:Nat->Bool}
def Ay(P:Program)(L:Nat->Bool)(N:Nat->Bool):kr:=⟨λr=>N r=true,id,λn=>L n=true,P.globals.size⟩
def I9{f:Rn}(h:(Ay P L N).has f):I7 N f:=λr hr=>h.at_ r hr
def SE(h1:P.globals.size≠1)(h2:∀b,N b=true->P.globals.size<=b):EX (Ay P L N) :=
 ⟨λr hr hg=>hg,.inr ⟨λr hr hn=>by have:=h2 r hn;show False;change r<P.globals.size at hr;omega,h1⟩⟩
def SF{w:ae}(hN:I8 N w)(h1:P.globals.size≠1)(h2:∀b,N b=true->P.globals.size<=b)(h3:P.globals.size<=w.heap.size):WR (Ay P L N) (jA N w) w where
 here r hr:=by obtain⟨x,hx,_⟩:=hN r hr;rw[lZ];exact(aI.1 hx).1
 there r hr:=by obtain⟨x,hx,_⟩:=hN r hr;exact(aI.1 hx).1
 inj r s _ _ h:=h
 uu r hr f hf:=by
  obtain⟨x,hx,_,hc⟩:=hN r hr;rw[mF N w hr];show w.heap[r]?=_;rw[hx,aK,hc f (I9 hf)]
 Rq r hr o ho:=by
  obtain⟨x,hx,hp,_⟩:=hN r hr;rw[mF N w hr,hx]at ho;cases ho;exact hp
 os:=rfl
 output:=rfl
 tape:=rfl
 drawn:=rfl
 AZ:=SE h1 h2
 qt:=h3
 Eb:=by rw[lZ];exact h3
def yy{w:ae}(hN:I8 N w):gh (jA N w):=by
 intro r o ho;by_cases h:N r=true
 ·obtain⟨x,hx,hp,_⟩:=hN r h;rw[mF N w h,hx]at ho;cases ho;exact hp
 ·have:(jA N w).heap[r]?=(w.heap[r]?).map λ_=>.cells #[] 0:=by
   simp only[jA,Array.getElem?_mapIdx];cases w.heap[r]?<;>simp[h]
  rw[this]at ho;cases hw:w.heap[r]? with
  |none=>rw[hw]at ho;cases ho
  |some x=>rw[hw]at ho;cases ho;rfl
structure Cy(T:dv)(i:Nat)(N:Nat->Bool)(o rc o':Nat->Prop)(w w':ae)(F':kr)(bN:ae)(v v':Value):Prop where
 val:∀f,F'.has f->v'=Ren.val f v
 wr:WR F' bN w'
 more:∀b,o b->o' b
 own:∀r,F'.K r->o' (F'.φ r)
 vB:∀b,o' b->T.H0<=b/\b<w'.heap.size
 keep:∀r,N r=true->F'.K r/\F'.φ r=r
 rel:di T i (λb=>o b/\N b=false) rc w w'
def Cy.acE{o rc o':Nat->Prop}{w w' bN:ae}{F':kr}{v v':Value}(h:Cy T i N o rc o' w w' F' bN v v'){f:Rn}(hf:F'.has f):I7 N f:=λr hr=>(hf.at_ r (h.keep r hr).1).trans (h.keep r hr).2
def Cy.plain{o rc o':Nat->Prop}{w w' bN:ae}{F':kr}{v v':Value}(h:Cy T i N o rc o' w w' F' bN v v')(hv:∀f,Ren.val f v=v):v'=v:=by
 obtain⟨f,hf⟩:=h.wr.some;rw[h.val f hf,hv f]
def Cy.stays{o rc o':Nat->Prop}{w w' wl bN:ae}{F':kr}{v v':Value}(h:Cy T i N o rc o' w w' F' bN v v')(tZ:I8 N w)(hwl:∀b,N b=true->wl.heap[b]?=w.heap[b]?)(fe:∀b,N b=true->bN.heap[b]?=wl.heap[b]?):di T i o rc w w':=by
 obtain⟨f,hf⟩:=h.wr.some;refine⟨h.rel.size,λb hb=>?_,h.rel.ro,h.rel.sh,h.rel.mine,h.rel.chan,h.rel.Cp,h.rel.wg,h.rel.os,h.rel.output⟩;by_cases hn:N b=true
 ·obtain⟨x,hx,_,hc⟩:=tZ b hn;have:=h.wr.uu b (h.keep b hn).1 f hf;rw[(h.keep b hn).2,fe b hn,hwl b hn,hx,aK,hc f (h.acE hf)]at this;rw[this,hx]
 ·exact h.rel.own b ⟨hb,by simpa using hn⟩
def Cy.slice{o rc o':Nat->Prop}{w w' bN:ae}{F':kr}{v':Value}{b off l c:Nat}(h:Cy T i N o rc o' w w' F' bN (.slice (so ⟨b,off,we⟩) l c) v'):F'.K b/\v'=.slice (so ⟨F'.φ b,off,we⟩) l c/\o' (F'.φ b):=by
 have hK:F'.K b:=by
  refine aX λhn=>?_;obtain⟨f,g,hf,hg,fu,_⟩:=h.wr.two;have:=(h.val f hf).symm.trans (h.val g hg);simp[Ren.val,addr]at this;exact fu b hn this
 obtain⟨f,hf⟩:=h.wr.some;refine⟨hK,?_,h.own b hK⟩;rw[h.val f hf];simp[Ren.val,addr,hf.at_ b hK]
end
section
variable {P:Program}{m:Bool}{R:aL->ae->ae->Prop}{Gu:aL->ae->ae->Array Event->Prop}{X:aL->aY->ae->Prop}{fn:FuncId}{Q:Exit->Act->aL->ae->Prop}{a:Act}{o:aL}{w:ae}
def Fj(W:gj P m R Gu X){ops:Array Oper}{todo:List Nat}{w1:ae}(h:dK X fn ops todo Q a o w)(hr:R o w w1):dK X fn ops todo Q a o w1:=λb k cs hb hk hc=>W.rely _ _ _ _ (h b k cs hb hk hc) hr
def Mh(W:gj P m R Gu X){S:ae->Prop}(hS:∀w1,R o w w1->S w1){ops:Array Oper}{i:Nat}{rest:List Nat}{op:Oper}(ho:ops[i]?=so op)(hw:Region.wanted op (yielded ops a.tmps)=true){v:Value}(hr:∀w1,S w1->(execOp a.eval op).run P w1=.ok (.value v) w1)(hg:∀w1,S w1->Gu o w1 w1 (listed P fn a op w1))(h:dK X fn ops rest Q (a.put op.dst v) o w):dK X fn ops (i::rest) Q a o w :=
 mz W ho hw λw1 h1 K hK=>by
  rw[hr w1 (hS w1 h1)];simp only[uponK_value];exact hK _ _ ⟨hg w1 (hS w1 h1),by rw[cp];exact Fj W h h1⟩
def Fo(W:gj P m R Gu X){ops:Array Oper}{i:Nat}{rest:List Nat}{op:Oper}(ho:ops[i]?=so op)(hw:Region.wanted op (yielded ops a.tmps)=true){v:Value}(hr:∀w1,(execOp a.eval op).run P w1=.ok (.value v) w1)(hg:∀w1,(execOp a.eval op).events P w1 #[]=#[])(h:dK X fn ops rest Q (a.put op.dst v) o w):dK X fn ops (i::rest) Q a o w :=
 Mh W (S:=λ_=>True) (λ_ _=>trivial) ho hw (λw1 _=>hr w1) (λw1 _=>by rw[listed_nil (hg w1)];exact W.idle _ _) h
def GF:Op->Bool
 | .call c=>match c.callee with|.builtin _=>true|_=>false
 |_=>true
def gq(W:gj P m R Gu X){S:ae->Prop}(hS:∀w1,R o w w1->S w1){ops:Array Oper}{i:Nat}{rest:List Nat}{op:Oper}(ho:ops[i]?=so op)(hw:Region.wanted op (yielded ops a.tmps)=true)(hg:∀w1,S w1->Gu o w1 w1 (listed P fn a op w1))(h:∀w1,S w1->∀K:Act->ae->Prop,(∀a',dK X fn ops rest Q a' o w->K a' w1)->uponK op a K ((execOp a.eval op).run P w1)):dK X fn ops (i::rest) Q a o w :=
 mz W ho hw λw1 h1 K hK=>h w1 (hS w1 h1) K λa' q=>hK a' w1 ⟨hg w1 (hS w1 h1),by rw[cp];exact Fj W q h1⟩
def rW(W:gj P m R Gu X){ops:Array Oper}{i:Nat}{rest:List Nat}{op:Oper}(ho:ops[i]?=so op)(_hn:GF op.op=true)(hw:Region.wanted op (yielded ops a.tmps)=true)(hg:∀w1,(execOp a.eval op).events P w1 #[]=#[])(h:∀w1,∀K:Act->ae->Prop,(∀a',dK X fn ops rest Q a' o w->K a' w1)->uponK op a K ((execOp a.eval op).run P w1)):dK X fn ops (i::rest) Q a o w :=
 gq W (S:=λ_=>True) (λ_ _=>trivial) ho hw (λw1 _=>by rw[listed_nil (hg w1)];exact W.idle _ _) (λw1 _=>h w1)
def bC(P:Program)(X:aL->aY->ae->Prop)(f:FuncId)(vs:Array Value)(o:aL)(w:ae)(Post:Value->aL->ae->Prop):Prop :=
 ∀(c:Frame) (cs:List Frame),(∀v o' w',Post v o' w'->X o' (G (c.finish v) cs) w')->X o (G (Frame.enter P f vs .normal) (c::cs)) w
def bC.mono{f:FuncId}{vs:Array Value}{Post Ja:Value->aL->ae->Prop}(h:bC P X f vs o w Post)(hp:∀v o' w',Post v o' w'->Ja v o' w'):bC P X f vs o w Ja :=
 λc cs hc=>h c cs λv o' w' q=>hc v o' w' (hp v o' w' q)
def jr{f:FuncId}{fc:Func}{c:Code}(hf:P.funcs[f]?=so fc)(gb:fc.body=so c)(as:Array Value):Frame.enter P f as .normal=(base f).at {tmps:=as++Array.replicate (fc.ntmps-as.size) undef,defers:=[]} [.code c]:=by
 simp[Frame.enter,hf,gb,base,Frame.at]
def eH(W:gj P m R Gu X){ops:Array Oper}{i:Nat}{rest:List Nat}{op:Oper}{f:FuncId}{fc:Func}{c:Code}{args:Array Operand}{tf:Array TypeId}(ho:ops[i]?=so op)(hw:Region.wanted op (yielded ops a.tmps)=true)(fD:op.op=.call {callee:=.value (.func f),args,argTypes:=tf})(hf:P.funcs[f]?=so fc)(iB:(fc.name == "runtime.NumGoroutine")=false)(gb:fc.body=so c){vs:Array Value}(Mf:args.map a.eval=vs){d:Option Tmp}(hd:op.dst=d)(h:bC P X f vs o w λv o' w'=>dK X fn ops rest Q (a.put d v) o' w'):dK X fn ops (i::rest) Q a o w:=by
 subst Mf hd;refine Mg W ho hw fD hf iB gb λb k cs hb hk hc=>?_;rw[<- jr hf gb];refine h _ _ λv o' w' q=>?_;rw[show(b.at a (.inRegion ops (i::rest)::k)).finish v=b.at (a.put op.dst v) (.inRegion ops rest::k) by rw[eC,ho];rfl];exact q b k cs hb hk hc
def bt(W:gj P m R Gu X){f:FuncId}{fc:Func}{c:Code}{vs:Array Value}{Post:Value->aL->ae->Prop}(hf:P.funcs[f]?=so fc)(gb:fc.body=so c)(h:wN X f c (λe a' o' w'=>(e=.normal\/e=.ret)/\a'.defers=[]/\∃v,ResultsC P fc a'.tmps v/\Post v o' w') {tmps:=vs++Array.replicate (fc.ntmps-vs.size) undef,defers:=[]} o w):bC P X f vs o w Post:=by
 intro cf cs hc;rw[jr hf gb];have leave:∀(a':Act) (o':aL) (w':ae) (todo:List Item) (v:Value),a'.defers=[]->ResultsC P fc a'.tmps v->Post v o' w'->X o' (G {(base f).at a' todo with mode:=.returning} (cf::cs)) w':=by
  intro a' o' w' todo v hd hr hx;refine W.go rfl (λw1=>?_) (hc v o' w' hx);rw[stepG_leave (b:=base f) rfl hd hf (hr w1).1 (hr w1).2]
 refine h (base f) [] _ rfl (by simp[base]) λe a' o' w' q=>?_;obtain⟨he,hd,v,hr,hx⟩:=q;rcases he with rfl|rfl
 ·exact W.go rfl (λ_=>eD) (leave a' o' w' [] v hd hr hx)
 ·exact λtodo=>leave a' o' w' todo v hd hr hx
def Jb(W:gj P m R Gu X){x y:Code}(M:Act->aL->ae->Prop)(hx:wN X fn x (nu M Q) a o w)(hy:∀a' o' w',M a' o' w'->wN X fn y Q a' o' w'):wN X fn (.seq x y) Q a o w :=
 Bt W (I3 hx λe a' o' w' q=>by cases e<;>first|exact hy _ _ _ q|exact q)
end
section
variable {P:Program}{T:dv}{i:Nat}{V:Nat->ae->Prop}{E:br}{L:Nat->Bool}{N:Nat->Bool}
abbrev XW(P:Program)(T:dv)(i:Nat)(V:Nat->ae->Prop)(E:br)(rc:Nat->Prop):aL->aY->ae->Prop:=λo g w=>iA P T i V E ⟨g,o,rc,w⟩
structure hJ(T:dv)(o:aL)(w:ae):Prop where
 vB:∀b,o b->T.H0<=b/\b<w.heap.size
 size:T.H0<=w.heap.size
structure dc(T:dv)(i:Nat)(rc:Nat->Prop)(o:aL)(w:ae)(o':aL)(w':ae):Prop where
 rel:di T i o rc w w'
 ok:hJ T o' w'
 more:∀b,o b->o' b
def dc.refl{rc:Nat->Prop}{o:aL}{w:ae}(h:hJ T o w):dc T i rc o w o w:=⟨.refl w,h,λ_ h=>h⟩
def dc.trans{rc:Nat->Prop}{o o' o2:aL}{w w' w2:ae}(h:dc T i rc o w o' w')(k:dc T i rc o' w' o2 w2):dc T i rc o w o2 w2:=⟨h.rel.trans (k.rel.less h.more),k.ok,λb hb=>k.more b (h.more b hb)⟩
def Fp{o:aL}(w:ae)(x:Obj)(hH:T.H0<=w.heap.size)(hT:T.OK):L3 T i o w (w.alloc x):=by
 have hh:∀b,b<w.heap.size->(w.alloc x).heap[b]?=w.heap[b]?:=λb hb=>RowKit.Below.heap_alloc w x b hb;refine⟨aj,λb hb _ _=>hh b hb,λb cs ty fz hb hx=>⟨cs,by rw[hh b (by have:=(hT.sh b hb).1;omega)];exact hx,rfl⟩,λa ha _=>cell_of (hh _ (by have:=(hT.sh _ ha).1;omega)),rfl,rfl⟩
def dc.alloc{rc:Nat->Prop}{o:aL}{w w1:ae}(hT:T.OK)(hi:i<T.n)(h:hJ T o w)(hr:di T i o rc w w1)(x:Obj):dc T i rc o w (grow o w1 (w1.alloc x)) (w1.alloc x):=by
 have hh:∀b,b<w1.heap.size->(w1.alloc x).heap[b]?=w1.heap[b]?:=λb hb=>RowKit.Below.heap_alloc w1 x b hb;have hH:=aS h.size hr.size;have old:∀b,b<T.H0->(w1.alloc x).heap[b]?=w1.heap[b]?:=λb hb=>hh b aa;have pX:∀k,k<T.n->(w1.alloc x).heap[T.ch k]?=w1.heap[T.ch k]?:=λk hk=>old _ (hT.ch k hk).1;refine⟨hr.trans ⟨aj,λb hb=>hh b (bf (h.vB b hb).2 hr.size),λb h1 _ _ _=>old b h1,λb cs ty fz hb hx=>⟨cs,by rw[old b (hT.sh b hb).1];exact hx,rfl⟩,λa ha=>?_,λk s r tm c hk hx=>⟨c,by rw[pX k hk];exact hx,id⟩,pX i hi,gW (old _ hT.wg),rfl,rfl⟩,⟨λb hb=>?_,eW⟩,λb hb=>.inl hb⟩
 ·have key:∀k,T.kM k (.cell a)->(w1.alloc x).cell? a=w1.cell? a:=by
   intro k fo;obtain⟨a',e,hs⟩:=hT.ownSh k _ fo;cases e;exact cell_of (old _ (hT.sh _ hs).1)
  rcases ha with ha|⟨k,_,ha⟩
  ·exact key i ha
  ·exact key k ha
 ·rcases hb with hb|hb
  ·have:=h.vB b hb;have:=hr.size;simp;omega
  ·simp at hb |-;omega
def oI(hT:T.OK)(hi:i<T.n){rc:Nat->Prop}{fn:FuncId}{Q:Exit->Act->aL->ae->Prop}{a:Act}{o:aL}{w:ae}(gB:hJ T o w){ops:Array Oper}{j:Nat}{rest:List Nat}{op:Oper}(ho:ops[j]?=so op)(hw:Region.wanted op (yielded ops a.tmps)=true){d:Option Tmp}(hd:op.dst=d)(x:Obj)(cG:∀w1,(execOp a.eval op).run P w1=.ok (.value (.pointer (so ⟨w1.heap.size,0,we⟩))) (w1.alloc x))(jg:∀w1,(execOp a.eval op).events P w1 #[]=#[])(h:∀A o1 w2,dc T i rc o w o1 w2->o1 A->w2.heap[A]?=so x->w.heap.size<=A->(∀b,o1 b↔o b\/b=A)->dK (XW P T i V E rc) fn ops rest Q (a.put d (.pointer (so ⟨A,0,we⟩))) o1 w2):dK (XW P T i V E rc) fn ops (j::rest) Q a o w:=by
 subst hd;refine mz (cW rc) ho hw λw1 mC K hK=>?_;rw[cG w1];simp only[uponK_value];refine hK _ _ ⟨⟨Fp _ _ (aS gB.size mC.size) hT,by rw[listed_nil (jg w1)];simp⟩,h w1.heap.size _ _ (dc.alloc hT hi gB mC x) (.inr ⟨af _,aj⟩) ?_ mC.size λb=>?_⟩
 ·show(w1.heap.push x)[w1.heap.size]?=_;simp
 ·have:=vA o w1 x;exact Iff.of_eq (congrFun this b)
def xz(hT:T.OK)(hi:i<T.n)(dp:sJ P L 0)(HQ:P.globals.size≠1)(Bs:P.globals.size<=T.H0){rc:Nat->Prop}{o:aL}{w:ae}{f:FuncId}{vs:Array Value}(hL:L f=true)(gB:hJ T o w)(hN:∀b,N b=true->o b)(tZ:I8 N w)(uS:∀g,I7 N g->vs.map (val g)=vs){R:ae->Value->ae->Prop}(hR:∀wl,LX (R wl))(hRW:∀wl τ d v w',R (WT wl τ d) v w'->R wl v w')(hC:∀wl,(∀b,N b=true->wl.heap[b]?=w.heap[b]?)->w.heap.size<=wl.heap.size->Calls P f vs wl λe w'=>∃v,e=.returned v/\R wl v w'){Post:Value->aL->ae->Prop}(h:∀wl v v' F' o' bN w',(∀b,N b=true->wl.heap[b]?=w.heap[b]?)->w.heap.size<=wl.heap.size->R wl v bN->Cy T i N o rc o' w w' F' bN v v'->Post v' o' w'):bC P (XW P T i V E rc) f vs o w Post:=by
 intro c cs hc;have hW:=SF (P:=P) (L:=L) tZ HQ (λb hb=>aS Bs (gB.vB b (hN b hb)).1) (aS Bs gB.size);have Li:PF P L 0 (Ay P L N):=⟨λr hr=>absurd hr (cH r),rfl,rfl,SE HQ λb hb=>aS Bs (gB.vB b (hN b hb)).1⟩;have Ej:∀g,(Ay P L N).has g->Frame.enter P f vs .normal=frame g (Frame.enter P f vs .normal):=λg hg=>by
  have:=uS g (I9 hg);simp only[frame,Frame.enter,Array.map_append,this,Array.map_replicate,mo]
 have SG:Inv P L 0 [gY] (G (Frame.enter P f vs .normal) [gY]) (jA N w) :=
  ⟨Ay P L N,_,[],_,[],w,rfl,uF dp hL _,aj,λg hg=>⟨Ej g hg,rfl⟩,hW,yy tZ,Li⟩
 have Jc:Good P (lN P f (R (jA N w))) (G (Frame.enter P f vs .normal) [gY]) (jA N w):=by
  refine wL dp (hR _) SG λτ d=>?_;refine(hC (WT (jA N w) τ d) (λb hb=>mF N w hb) (by show w.heap.size<=(jA N w).heap.size;rw[lZ];exact af _)).mono ?_;rintro e w' ⟨v,rfl,hv⟩;exact⟨v,rfl,hRW _ _ _ _ _ hv⟩
 have Gv:=IG dp (Bq f _) SG Jc;have Fq:WT (jA N w) w.tape w.drawn=jA N w:=rfl;refine iA.call hT hi dp (F0:=Ay P L N) (o0:=o) (w0:=w) (λv v' F' o' bN w' hQ hv Jd hm fo agT Cz hrel=>?_) _ Gv (Ay P L N) o _ w (by
  rw[Fq];exact⟨_,[],_,[],rfl,rfl,uF dp hL _,aj,λg hg=>⟨Ej g hg,rfl⟩,hW,yy tZ,Li,Jc⟩) (λr hr=>hN r hr) gB.vB gB.size (λb hb=>hb) (λr hr=>⟨hr,rfl⟩) (λb hb r hr=>hb.2 r hr) (.refl w)
 refine hc v' o' w' (h (jA N w) v v' F' o' bN w' (λb hb=>mF N w hb) (by rw[lZ];exact af _) hQ ⟨hv,Jd,hm,fo,agT,Cz,hrel.less λb hb=>⟨hb.1,λr hr e=>?_⟩⟩);have:r=b:=e;subst this;have XS:N r=true:=hr;rw[hb.2]at XS;cases XS
def pC(hT:T.OK)(hi:i<T.n)(dp:sJ P L 0)(HQ:P.globals.size≠1)(Bs:P.globals.size<=T.H0){rc:Nat->Prop}{o:aL}{w:ae}{f:FuncId}{vs:Array Value}(hL:L f=true)(gB:hJ T o w)(hN:∀b,N b=true->o b)(tZ:I8 N w)(uS:∀g,I7 N g->vs.map (val g)=vs)(v:Value)(hv:∀f,val f v=v)(hC:∀wl,(∀b,N b=true->wl.heap[b]?=w.heap[b]?)->w.heap.size<=wl.heap.size->Calls P f vs wl λe w'=>e=.returned v/\RowKit.Below wl.heap.size wl w'):
  bC P (XW P T i V E rc) f vs o w λv' o' w'=>v'=v/\dc T i rc o w o' w':=by
 refine xz (R:=λwl u w'=>u=v/\∀b,b<wl.heap.size->w'.heap[b]?=wl.heap[b]?) hT hi dp HQ Bs hL gB hN tZ uS (λwl u w' τ d h=>h) (λwl τ d u w' h=>h) (λwl h1 h2=>(hC wl h1 h2).mono ?_) ?_
 ·rintro e w' ⟨rfl,hb⟩;exact⟨v,rfl,rfl,hb.block⟩
 ·rintro wl u v' F' o' bN w' h1 h2 ⟨rfl,h3⟩ hB;have hrel:=hB.stays tZ h1 (λb hb=>h3 b (by have:=(gB.vB b (hN b hb)).2;omega));exact⟨hB.plain hv,hrel,⟨hB.vB,aS gB.size hrel.size⟩,hB.more⟩
def qQ(hT:T.OK)(hi:i<T.n)(dp:sJ P L 0)(HQ:P.globals.size≠1)(Bs:P.globals.size<=T.H0){rc:Nat->Prop}{o:aL}{w:ae}{f:FuncId}{vs:Array Value}(hL:L f=true)(gB:hJ T o w)(uS:∀g,vs.map (val g)=vs)(v:Value)(hv:∀f,val f v=v)(hC:∀wl,Calls P f vs wl λe w'=>e=.returned v/\RowKit.Below wl.heap.size wl w'):
  bC P (XW P T i V E rc) f vs o w λv' o' w'=>v'=v/\dc T i rc o w o' w' :=
 pC (N:=λ_=>false) hT hi dp HQ Bs hL gB (λb h=>by cases h) (λb h=>by cases h) (λg _=>uS g) v hv λwl _ _=>hC wl
end
section
variable {P:Program}{main:Bool}{b:Frame}{a:Act}{cs:List Frame}{w:ae}
def CB{fn:Func}{todo:List Item}{c:Frame}{v:Value}(hn:b.kind=.normal)(hd:a.defers=[])(hf:P.funcs[b.fn]?=so fn)(hr:(results fn a.tmps).run P w=.ok v w):
  ∃es,stepG P main (G {b.at a todo with mode:=.returning} (c::cs)) w=.go (G (c.finish v) cs) w es/\∀e∈es,e∈(results fn a.tmps).events P w #[] :=
 ⟨_,by simp[G,stepG,unwind,doReturn,Frame.at,hn,hd,hf,hr,GStep.after];rfl,λe he=>mem_seen he⟩
end
section
variable {P:Program}{m:Bool}{R:aL->ae->ae->Prop}{Gu:aL->ae->ae->Array Event->Prop}{X:aL->aY->ae->Prop}{o:aL}{w:ae}
def yz(P:Program)(R:aL->ae->ae->Prop)(Gu:aL->ae->ae->Array Event->Prop)(fc:Func)(tmps:Array Value)(o:aL)(w:ae)(v:Value):Prop :=
 ∀w1,R o w w1->(results fc tmps).run P w1=.ok v w1/\∀es:Array Event,(∀e∈es,e∈(results fc tmps).events P w1 #[])->Gu o w1 w1 es
def kF(W:gj P m R Gu X){f:FuncId}{fc:Func}{c:Code}{vs:Array Value}{Post:Value->aL->ae->Prop}(hf:P.funcs[f]?=so fc)(gb:fc.body=so c)(h:wN X f c (λe a' o' w'=>(e=.normal\/e=.ret)/\a'.defers=[]/\∃v,yz P R Gu fc a'.tmps o' w' v/\Post v o' w') {tmps:=vs++Array.replicate (fc.ntmps-vs.size) undef,defers:=[]} o w):bC P X f vs o w Post:=by
 intro cf cs hc;rw[jr hf gb];have leave:∀(a':Act) (o':aL) (w':ae) (todo:List Item) (v:Value),a'.defers=[]->yz P R Gu fc a'.tmps o' w' v->Post v o' w'->X o' (G {(base f).at a' todo with mode:=.returning} (cf::cs)) w':=by
  intro a' o' w' todo v hd hr hx;refine W.step _ _ _ rfl λw1 h1=>?_;obtain⟨es,e1,e2⟩:=CB (main:=m) (b:=base f) (a:=a') (todo:=todo) (c:=cf) (cs:=cs) rfl hd hf (hr w1 h1).1;exact⟨_,_,es,e1,(hr w1 h1).2 es e2,by rw[cp];exact W.rely _ _ _ _ (hc v o' w' hx) h1⟩
 refine h (base f) [] _ rfl (by simp[base]) λe a' o' w' q=>?_;obtain⟨he,hd,v,hr,hx⟩:=q;rcases he with rfl|rfl
 ·exact W.go rfl (λ_=>eD) (leave a' o' w' [] v hd hr hx)
 ·exact λtodo=>leave a' o' w' todo v hd hr hx
end
section
variable {T:dv}{i:Nat}{N:Nat->Bool}{o rc o':Nat->Prop}{w w' bN:ae}{F':kr}{v v':Value}
def VA{F:kr}{wl w:ae}(W:WR F wl w){b off:Nat}{x:Value}(hK:F.K b)(hx:∀f,val f x=x)(hc:wl.cell? ⟨b,off,we⟩=so x):w.cell? ⟨F.φ b,off,we⟩=so x:=by
 obtain⟨f,hf⟩:=W.some;have h:=W.uu b hK f hf;simp only[World.cell?]at hc |-;rw[h];cases hb:wl.heap[b]? with
 |none=>rw[hb]at hc;cases hc
 |some y =>
  rw[hb]at hc;cases y<;>simp only[aK,obj]at hc |-<;>first|cases hc;done|skip
  simp only[Option.isSome_none,aT,if_false]at hc |-;simp only[aM,hc,aK,hx f]
def Cy.cell(h:Cy T i N o rc o' w w' F' bN v v'){b off:Nat}{x:Value}(hN:N b=true)(hx:∀f,Ren.val f x=x)(hc:bN.cell? ⟨b,off,we⟩=so x):w'.cell? ⟨b,off,we⟩=so x:=by
 have:=VA h.wr (h.keep b hN).1 hx hc;rwa[(h.keep b hN).2]at this
end
section
variable {P:Program}{T:dv}{i:Nat}{V:Nat->ae->Prop}{E:br}{rc o:Nat->Prop}{w w':ae}
structure iH(A:Nat)(w w':ae):Prop where
 size:w'.heap.size=w.heap.size
 heap:∀b,b≠A->w'.heap[b]?=w.heap[b]?
 os:w'.os=w.os
 output:w'.output=w.output
def iH.set(w:ae)(A off:Nat)(v:Value):iH A w (w.setCell ⟨A,off,we⟩ v):=⟨by simp[World.setCell],λb hb=>RowKit.Below.heap_setCell w _ _ b hb,rfl,rfl⟩
def iH.trans{A:Nat}{w w1 w2:ae}(h:iH A w w1)(k:iH A w1 w2):iH A w w2:=⟨k.size.trans h.size,λb hb=>(k.heap b hb).trans (h.heap b hb),k.os.trans h.os,k.output.trans h.output⟩
def iH.guW{A:Nat}(hT:T.OK)(h:iH A w w')(hA:o A)(hA0:T.H0<=A):L3 T i o w w':=by
 have hh:∀b,T.Sh b->w'.heap[b]?=w.heap[b]?:=λb hb=>h.heap b (by have:=(hT.sh b hb).1;omega);exact⟨cF h.size.symm,λb _ hb _=>h.heap b λe=>hb (e▸hA),λb cs ty fz hb hx=>⟨cs,by rw[hh b hb];exact hx,rfl⟩,λa ha _=>cell_of (hh _ ha),h.os,h.output⟩
def iH.Cr{A:Nat}(hT:T.OK)(hi:i<T.n)(h:iH A w w')(hA0:T.H0<=A):di T i (λb=>o b/\b≠A) rc w w':=by
 have old:∀b,b<T.H0->w'.heap[b]?=w.heap[b]?:=λb hb=>h.heap b aa;have pX:∀k,k<T.n->w'.heap[T.ch k]?=w.heap[T.ch k]?:=λk hk=>old _ (hT.ch k hk).1;refine⟨cF h.size.symm,λb hb=>h.heap b hb.2,λb h1 _ _ _=>old b h1,λb cs ty fz hb hx=>⟨cs,by rw[old b (hT.sh b hb).1];exact hx,rfl⟩,λa ha=>?_,λk s r tm c hk hx=>⟨c,by rw[pX k hk];exact hx,id⟩,pX i hi,gW (old _ hT.wg),h.os,h.output⟩;have key:∀k,T.kM k (.cell a)->w'.cell? a=w.cell? a:=by
  intro k fo;obtain⟨a',e,hs⟩:=hT.ownSh k _ fo;cases e;exact cell_of (old _ (hT.sh _ hs).1)
 rcases ha with ha|⟨k,_,ha⟩
 ·exact key i ha
 ·exact key k ha
def yA{ad:Addr}{wt sy:Bool}(h:o ad.block):NZ T i o rc ⟨.cell ad,wt,sy⟩:=by
 refine⟨λx hx _=>.inl ⟨ad.block,h,?_⟩,aj,aj,aj⟩;simp only[MemAct.ofEvent,MemAct.touch?,ay]at hx;subst hx;rfl
structure sw(T:dv)(i:Nat)(rc:Nat->Prop)(A:Nat)(o:aL)(w:ae)(o':aL)(w':ae):Prop where
 rel:di T i (λb=>o b/\b≠A) rc w w'
 ok:hJ T o' w'
 more:∀b,o b->o' b
def dc.xA{A:Nat}{o':aL}(h:dc T i rc o w o' w'):sw T i rc A o w o' w':=⟨h.rel.less λb hb=>hb.1,h.ok,h.more⟩
def sw.trans{A:Nat}{o' o2:aL}{w2:ae}(h:sw T i rc A o w o' w')(k:sw T i rc A o' w' o2 w2):sw T i rc A o w o2 w2:=⟨h.rel.trans (k.rel.less λb hb=>⟨h.more b hb.1,hb.2⟩),k.ok,λb hb=>k.more b (h.more b hb)⟩
def sw.later{A:Nat}{o':aL}(h:sw T i rc A o w o' w')(hA:¬o A):dc T i rc o w o' w':=⟨h.rel.less λb hb=>⟨hb,λe=>hA (e▸hb)⟩,h.ok,h.more⟩
def qT(hT:T.OK)(hi:i<T.n){fn:FuncId}{Q:Exit->Act->aL->ae->Prop}{a:Act}(gB:hJ T o w){ops:Array Oper}{j:Nat}{rest:List Nat}{op:Oper}(ho:ops[j]?=so op)(hw:Region.wanted op (yielded ops a.tmps)=true)(A:Nat)(hA:o A){f:ae->ae}(cG:∀w1,w1.heap[A]?=w.heap[A]?->(execOp a.eval op).run P w1=.ok .skip (f w1))(hf:∀w1,iH A w1 (f w1))(jg:∀w1,w1.heap[A]?=w.heap[A]?->∀e∈(execOp a.eval op).events P w1 #[],∃ad wt sy,e=⟨.cell ad,wt,sy⟩/\ad.block=A)(h:∀w1,w1.heap[A]?=w.heap[A]?->sw T i rc A o w o (f w1)->dK (XW P T i V E rc) fn ops rest Q (a.put op.dst undef) o (f w1)):dK (XW P T i V E rc) fn ops (j::rest) Q a o w:=by
 refine mz (cW rc) ho hw λw1 mC K hK=>?_;have Je:=mC.own A hA;have hA0:=(gB.vB A hA).1;rw[cG w1 Je];simp only[uponK_skip];have hO:=hf w1;refine hK _ _ ⟨⟨hO.guW hT hA hA0,λe he=>?_⟩,?_⟩
 ·obtain⟨ad,wt,sy,rfl,e2⟩:=jg w1 Je e (mem_listed he);exact yA (.inl (by rw[e2];exact hA))
 ·rw[iw o hO.size];refine h w1 Je ⟨(mC.less λb hb=>hb.1).trans (hO.Cr hT hi hA0),⟨λb hb=>?_,?_⟩,λ_ hb=>hb⟩
  ·have:=gB.vB b hb;have:=mC.size;have:=hO.size;omega
  ·have:=gB.size;have:=mC.size;have:=hO.size;omega
def Zg{F:kr}{wl w:ae}(W:WR F wl w){b t n:Nat}{g:Nat->Value}(hK:F.K b)(hg:∀j,j<n->∀f,val f (g j)=g j)(hr:wl.rowIs b t n g):w.rowIs (F.φ b) t n g:=by
 obtain⟨f,hf⟩:=W.some;obtain⟨c,hb,hn,hc⟩:=hr;refine⟨c.map (val f),?_,by simpa using hn,λj hj=>?_⟩
 ·rw[W.uu b hK f hf,hb];rfl
 ·rw[aM,hc j hj,aK,hg j hj f]
end
def cK(ops:Array Oper)(v:Nat->Value)(a:Act):List Nat->Act
 | []=>a
 |i::l=>cK ops v (a.put ((ops[i]?).bind (·.dst)) (v i)) l
def hZ(ops:Array Oper)(i:Nat):Option Tmp:=(ops[i]?).bind (·.dst)
section
variable {ops:Array Oper}{v:Nat->Value}{a:Act}
def jj(a:Act)(l l':List Nat):cK ops v a (l++l')=cK ops v (cK ops v a l) l':=by
 induction l generalizing a with
 |nil=>rfl
 |cons i l ih=>exact ih _
def Az(l:List Nat):∀a:Act,(cK ops v a l).tmps.size=a.tmps.size:=by
 induction l with
 |nil=>intro a;rfl
 |cons i l ih =>
  intro a;simp only[cK];rw[ih];unfold Act.put;split<;>simp
def kQ(hd:∀i j d,i≠j->hZ ops i=so d->hZ ops j≠so d){l l':List Nat}(h:l.Perm l'):∀a:Act,cK ops v a l=cK ops v a l':=by
 induction h with
 |nil=>intro a;rfl
 |cons x _ ih=>intro a;exact ih _
 |swap x y l =>
  intro a;simp only[cK];by_cases e:x=y
  ·subst e;rfl
  ·exact congrArg (λz=>cK ops v z l) (Act.put_comm a (x:=hZ ops y) (y:=hZ ops x) (v y) (v x) (λd Vx=>hd y x d (bw e) Vx))
 |trans _ _ ih1 ih2=>intro a;exact(ih1 a).trans (ih2 a)
def pT{x:Operand}(l:List Nat):∀a:Act,(∀i∈l,∀d,hZ ops i=so d->x≠.tmp d)->(cK ops v a l).eval x=a.eval x:=by
 induction l with
 |nil=>intro a _;rfl
 |cons i l ih =>
  intro a h;simp only[cK];rw[ih _ (λj hj=>h j (by simp[hj]))];exact Act.eval_put (λd Vx=>h i aj d Vx)
end
def uT:∀(n:Nat) (l:List Nat),l.Nodup->(∀x∈l,x<n)->l.length<=n:=by
 intro n
 induction n with
 |zero =>
  intro l _ h;cases l with
  |nil=>simp
  |cons x l=>have:=h x aj;omega
 |succ n ih =>
  intro l hl h;have h1:=ih (l.erase n) (hl.erase n) λx hx=>by
   have vw:=(List.Nodup.mem_erase_iff hl).1 hx;have:=h x vw.2;have:=vw.1;omega
  have h2:l.length<=(l.erase n).length+1:=by
   by_cases hm:n∈l
   ·rw[List.length_erase_of_mem hm];omega
   ·rw[List.erase_of_not_mem hm];omega
  omega
def go_acc(md:Region.Mode)(ops:Array Oper):∀(fuel t:Nat) (ls:Array Bool) (acc:List Nat),Region.linearise.go md ops fuel t ls acc=acc.reverse++Region.linearise.go md ops fuel t ls []:=by
 intro fuel
 induction fuel with
 |zero=>intro t ls acc;simp[Region.linearise.go]
 |succ n ih =>
  intro t ls acc;simp only[Region.linearise.go];split
  ·rename_i i hi;rw[ih _ _ (i::acc),ih _ _ [i]];simp
  ·simp
structure uU(ops:Array Oper)(n:Nat)(ls:Array Bool)(done:List Nat):Prop where
 sz:ls.size=n
 nd:done.Nodup
 got:∀j,ls.getD j false=true↔j∈done
 lt:∀j∈done,j<n
 cl:∀j∈done,∀op,ops[j]?=so op->∀e∈op.after,Region.binds .any e=true->e.on∈done
def uU.zero(ops:Array Oper)(n:Nat):uU ops n (Array.replicate n false) []:=by
 refine⟨aj,List.nodup_nil,λj=>?_,aj,aj⟩;simp only[bV,fi,iff_false];by_cases hj:j<n<;>simp[hj]
def uU.step{ops:Array Oper}{n:Nat}{ls:Array Bool}{done:List Nat}(h:uU ops n ls done)(hn:ops.size=n)(vY:∀(i:Nat) (op:Oper),ops[i]?=so op->∀e∈op.after,Region.binds .any e=true->e.on<i)(hd:done.length<n)(fuel t:Nat):∃i op t',i<n/\i∉done/\ops[i]?=so op/\(∀e∈op.after,Region.binds .any e=true->e.on∈done)/\Region.linearise.go .any ops (fuel+1) t ls []=i::Region.linearise.go .any ops fuel t' (ls.setIfInBounds i true) []/\uU ops n (ls.setIfInBounds i true) (done++[i]):=by
 obtain⟨ew,kL,Zh,cR,fG⟩:=h;simp only[Region.linearise.go];generalize HY:(List.range ops.size).filter (λi=>!ls.getD i true&&((ops[i]?).map (·.after.all λe=>!Region.binds .any e||ls.getD e.on false)).getD false)=rs;have mem:∀i,i∈rs↔i<n/\i∉done/\∃op,ops[i]?=so op/\∀e∈op.after,Region.binds .any e=true->e.on∈done:=by
  intro i;rw[<- HY,gm,bU,hn];constructor
  ·rintro⟨h1,h2⟩;simp only[aU,eJ]at h2;have uO:i<ls.size:=aa;have e1:ls.getD i true=ls.getD i false:=by simp[bV,uO]
   refine⟨h1,λhd=>?_,?_⟩
   ·have:=(Zh i).2 hd;rw[<- e1,h2.1]at this;cases this
   ·cases ho:ops[i]? with
    |none=>rw[ho]at h2;simp at h2
    |some op =>
     rw[ho]at h2;refine⟨op,rfl,λe he RB=>?_⟩;simp only[aK,bc,Array.all_eq_true']at h2;have:=h2.2 e he;simp only[RB,Bool.not_true,Bool.false_or]at this;exact(Zh e.on).1 this
  ·rintro⟨h1,h2,op,ho,h3⟩;have uO:i<ls.size:=aa;have e1:ls.getD i true=ls.getD i false:=by simp[bV,uO]
   refine⟨h1,?_⟩;simp only[aU,eJ];refine⟨?_,?_⟩
   ·rw[e1];cases hx:ls.getD i false with
    |false=>rfl
    |true=>exact absurd ((Zh i).1 hx) h2
   ·rw[ho];simp only[aK,bc,Array.all_eq_true'];intro e he;cases RB:Region.binds .any e with
    |false=>rfl
    |true=>simp only[Bool.not_true,Bool.false_or];exact(Zh e.on).2 (h3 e he RB)
 have fu:rs≠[]:=by
  intro e;have all:∀j,j<n->j∈done:=by
   intro j
   induction j using Nat.strongRecOn with
   |ind j ihj =>
    intro hj;refine aX λhd=>?_;obtain⟨op,ho⟩:∃op,ops[j]?=so op:=⟨ops[j]'aa,aO aa⟩;have:j∈rs:=(mem j).2 ⟨hj,hd,op,ho,λe he hb=>ihj _ (vY j op ho e he hb) (by have:=vY j op ho e he hb;omega)⟩;rw[e]at this;cases this
  have hle:=((dC kL jd).2 λj=>⟨λh=>bU.2 (cR j h),λh=>all j (bU.1 h)⟩).length_eq;simp at hle;omega
 have hlen:0<rs.length:=dF.2 fu;obtain⟨i,hi⟩:∃i,rs[t%rs.length]?=so i:=⟨rs[t%rs.length]'(Nat.mod_lt _ hlen),au _⟩;simp only[hi];rw[go_acc];simp only[List.reverse_cons,List.reverse_nil,List.nil_append,List.cons_append];obtain⟨h1,h2,op,ho,h3⟩:=(mem i).1 (cL hi);refine⟨i,op,t/rs.length,h1,h2,ho,h3,rfl,by simp[ew],gx.2 ⟨kL,aj,λx hx y hy=>by simp at hy;subst hy;rintro rfl;exact h2 hx⟩,λj=>?_,λj hj=>?_,λj hj Jf p6 e he RB=>?_⟩
 ·rw[bG,List.mem_singleton];by_cases Au:i=j
  ·subst Au;simp[bV,show i<ls.size by omega]
  ·rw[bV,aQ Au,<- bV,Zh j];exact⟨.inl,λh=>h.elim (λh=>h) λh=>absurd h.symm Au⟩
 ·rcases bG.1 hj with hj|hj
  ·exact cR j hj
  ·simp at hj;omega
 ·rcases bG.1 hj with hj|hj
  ·exact bG.2 (.inl (fG j hj Jf p6 e he RB))
  ·simp at hj;subst hj;rw[ho]at p6;cases p6;exact bG.2 (.inl (h3 e he RB))
section
variable {P:Program}{m:Bool}{R:aL->ae->ae->Prop}{Gu:aL->ae->ae->Array Event->Prop}{X:aL->aY->ae->Prop}{fn:FuncId}{Q:Exit->Act->aL->ae->Prop}{a:Act}{o:aL}{w:ae}
def VB(W:gj P m R Gu X)(xB:P.follows .mixedOrders=true){id n:Nat}{ops:Array Oper}(hn:ops.size=n+1){v:Nat->Value}{S:ae->Prop}(hS:∀w w1,S w->R o w w1->S w1)(Zi:∀w:ae,S w->S {w with drawn:=w.drawn+1})(Zj:∀w:ae,Gu o w {w with drawn:=w.drawn+1} #[])(h0:S w)(vY:∀(i:Nat) (op:Oper),ops[i]?=so op->∀e∈op.after,e.on<i)(SH:∀D:Nat->Prop,(∀(i:Nat) (op:Oper),ops[i]?=so op->D i->∀e∈op.after,Region.binds .any e=true->D e.on)->D n->∀j,j<=n->D j)(SI:∀i j d,i≠j->hZ ops i=so d->hZ ops j≠so d)(fD:∀(i:Nat) (op:Oper),i<n->ops[i]?=so op->∀done:List Nat,done.Nodup->i∉done->(∀j∈done,j<n)->(∀e∈op.after,Region.binds .any e=true->e.on∈done)->∀w1,S w1 ->
   Region.wanted op (yielded ops (cK ops v a done).tmps)=true/\(execOp (cK ops v a done).eval op).run P w1=.ok (.value (v i)) w1/\Gu o w1 w1 (listed P fn (cK ops v a done) op w1)){b:Frame}{k:List Item}{cs:List Frame}(hb:b.fn=fn)(hk:b.kind≠.early)(rV:∀w',S w'->X o (G (b.at (cK ops v a (List.range n)) (.inRegion ops [n]::k)) cs) w'):
  X o (G (b.at a (.code (.region id ops true)::k)) cs) w:=by
 have key:∀(fuel t:Nat) (ls:Array Bool) (done:List Nat) (w:ae),S w->uU ops (n+1) ls done->(∀j∈done,j<n)->fuel+done.length=n+1 ->
   X o (G (b.at (cK ops v a done) (.inRegion ops (Region.linearise.go .any ops fuel t ls [])::k)) cs) w:=by
  intro fuel
  induction fuel with
  |zero =>
   intro t ls done w hw hL cR XL;have h1:=uT n done hL.nd cR;simp at XL;omega
  |succ fuel ih =>
   intro t ls done w hw hL cR XL;obtain⟨i,op,t',h1,h2,ho,h3,el,hL'⟩:=hL.step hn (λi op ho e he _=>vY i op ho e he) aa fuel t;rw[el];have kL:=hL.nd;have fG:=hL.cl;by_cases pz:i=n
   ·
    subst pz;have all:∀j,j<=i->j∈i::done:=SH (λj=>j∈i::done) (λj Jf p6 hj e he RB=>by
     rcases bq.1 hj with rfl|hj
     ·rw[ho]at p6;cases p6;exact bY _ (h3 e he RB)
     ·exact bY _ (fG j hj Jf p6 e he RB)) aj
    have hp:done.Perm (List.range i):=by
     refine(dC kL jd).2 λj=>?_;rw[bU];constructor
     ·exact cR j
     ·intro hj;rcases bq.1 (all j aa)with e|e
      ·omega
      ·exact e
    have hdl:done.length=i:=by rw[hp.length_eq];simp
    have lE:fuel=0:=aa;subst lE;simp only[Region.linearise.go,List.reverse_nil];rw[kQ SI hp];exact rV w hw
   ·have Zk:i<n:=aa;refine W.step o _ w rfl λw1 sL=>?_;have VC:=hS w w1 hw sL;obtain⟨g1,g2,g3⟩:=fD i op Zk ho done kL h2 cR h3 w1 VC;refine⟨_,w1,_,dP ho g1 hk g2,hb▸g3,?_⟩;rw[cp];have epa:(cK ops v a done).put op.dst (v i)=cK ops v a (done++[i]):=by
     rw[jj];simp[cK,ho]
    rw[epa];clear epa;refine ih t' _ (done++[i]) w1 VC hL' (λj hj=>?_) eW;rcases bG.1 hj with hj|hj
    ·exact cR j hj
    ·simp at hj;omega
 refine W.step o _ w rfl λw1 sL=>⟨_,_,_,stepG_region_draw,Zj w1,?_⟩;rw[iw o aG];have SJ:∀t,Region.schedule (P.follows .mixedOrders) ops t=Region.linearise.go .any ops (n+1) t (Array.replicate (n+1) false) []:=by
  intro t;simp[Region.schedule,xB,Region.linearise,hn]
 rw[SJ];exact key (n+1) (w1.tape w1.drawn (.order b.fn id)) (Array.replicate (n+1) false) [] {w1 with drawn:=w1.drawn+1} (Zi _ (hS w w1 h0 sL)) (uU.zero ops _) aj aj
def PV(W:gj P m R Gu X)(xB:P.follows .mixedOrders=true){id n:Nat}{ops:Array Oper}(hn:ops.size=n+1){v:Nat->Value}{S:aL->ae->Prop}(hS:∀o w w1,S o w->R o w w1->S o w1)(Zi:∀o (w:ae),S o w->S o {w with drawn:=w.drawn+1})(Zj:∀w:ae,Gu o w {w with drawn:=w.drawn+1} #[])(h0:S o w)(vY:∀(i:Nat) (op:Oper),ops[i]?=so op->∀e∈op.after,e.on<i)(SH:∀D:Nat->Prop,(∀(i:Nat) (op:Oper),ops[i]?=so op->D i->∀e∈op.after,Region.binds .any e=true->D e.on)->D n->∀j,j<=n->D j)(SI:∀i j d,i≠j->hZ ops i=so d->hZ ops j≠so d)(fD:∀(i:Nat) (op:Oper),i<n->ops[i]?=so op->∀done:List Nat,done.Nodup->i∉done->(∀j∈done,j<n)->(∀e∈op.after,Region.binds .any e=true->e.on∈done)->∀o w rest,S o w ->
   (∀o' w',S o' w'->dK X fn ops rest Q ((cK ops v a done).put op.dst (v i)) o' w')->dK X fn ops (i::rest) Q (cK ops v a done) o w)(rV:∀o w,S o w->dK X fn ops [n] Q (cK ops v a (List.range n)) o w):
  wN X fn (.region id ops true) Q a o w:=by
 have key:∀(fuel t:Nat) (ls:Array Bool) (done:List Nat) (o:aL) (w:ae),S o w->uU ops (n+1) ls done->(∀j∈done,j<n)->fuel+done.length=n+1 ->
   dK X fn ops (Region.linearise.go .any ops fuel t ls []) Q (cK ops v a done) o w:=by
  intro fuel
  induction fuel with
  |zero =>
   intro t ls done o w hw hL cR XL;have h1:=uT n done hL.nd cR;simp at XL;omega
  |succ fuel ih =>
   intro t ls done o w hw hL cR XL;obtain⟨i,op,t',h1,h2,ho,h3,el,hL'⟩:=hL.step hn (λi op ho e he _=>vY i op ho e he) aa fuel t;rw[el];have kL:=hL.nd;have fG:=hL.cl;by_cases pz:i=n
   ·
    subst pz;have all:∀j,j<=i->j∈i::done:=SH (λj=>j∈i::done) (λj Jf p6 hj e he RB=>by
     rcases bq.1 hj with rfl|hj
     ·rw[ho]at p6;cases p6;exact bY _ (h3 e he RB)
     ·exact bY _ (fG j hj Jf p6 e he RB)) aj
    have hp:done.Perm (List.range i):=by
     refine(dC kL jd).2 λj=>?_;rw[bU];constructor
     ·exact cR j
     ·intro hj;rcases bq.1 (all j aa)with e|e
      ·omega
      ·exact e
    have hdl:done.length=i:=by rw[hp.length_eq];simp
    have lE:fuel=0:=aa;subst lE;simp only[Region.linearise.go,List.reverse_nil];rw[kQ SI hp];exact rV o w hw
   ·have Zk:i<n:=aa;refine fD i op Zk ho done kL h2 cR h3 o w _ hw λo1 w1 VC=>?_;have epa:(cK ops v a done).put op.dst (v i)=cK ops v a (done++[i]):=by
     rw[jj];simp[cK,ho]
    rw[epa];clear epa;refine ih t' _ (done++[i]) o1 w1 VC hL' (λj hj=>?_) eW;rcases bG.1 hj with hj|hj
    ·exact cR j hj
    ·simp at hj;omega
 intro b k cs hb hk hc;refine W.step o _ w rfl λw1 sL=>⟨_,_,_,stepG_region_draw,Zj w1,?_⟩;rw[iw o aG];have SJ:∀t,Region.schedule (P.follows .mixedOrders) ops t=Region.linearise.go .any ops (n+1) t (Array.replicate (n+1) false) []:=by
  intro t;simp[Region.schedule,xB,Region.linearise,hn]
 rw[SJ];exact key (n+1) (w1.tape w1.drawn (.order b.fn id)) (Array.replicate (n+1) false) [] o {w1 with drawn:=w1.drawn+1} (Zi _ _ (hS o w w1 h0 sL)) (uU.zero ops _) aj aj b k cs hb hk hc
end
section
variable {P:Program}{T:dv}{i:Nat}{V:Nat->ae->Prop}{E:br}
abbrev yB:=Exit->Act->(Nat->Prop)->aL->ae->Prop
def Mi(P:Program)(T:dv)(i:Nat)(V:Nat->ae->Prop)(E:br)(fn:FuncId)(c:Code)(Q:yB)(a:Act)(rc:Nat->Prop)(o:aL)(w:ae):Prop :=
 ∀(b:Frame) (k:List Item) (cs:List Frame),b.fn=fn->b.kind≠.early->(∀e a' pd o' w',Q e a' pd o' w'->uR (XW P T i V E pd) b k cs e a' o' w')->XW P T i V E rc o (G (b.at a (.code c::k)) cs) w
def SK(M:Act->(Nat->Prop)->aL->ae->Prop)(Q:yB):yB
 | .normal,a,rc,o,w=>M a rc o w
 |e,a,rc,o,w=>Q e a rc o w
def yC(id:Nat)(Q:yB):yB
 | .exit SD,a,rc,o,w=>if SD=id then Q .normal a rc o w else Q (.exit SD) a rc o w
 |e,a,rc,o,w=>Q e a rc o w
variable {fn:FuncId}{Q:yB}{a:Act}{rc:Nat->Prop}{o:aL}{w:ae}
def gi{c:Code}(h:wN (XW P T i V E rc) fn c (λe a' o' w'=>Q e a' rc o' w') a o w):Mi P T i V E fn c Q a rc o w :=
 λb k cs hb hk hc=>h b k cs hb hk λe a' o' w' q=>hc e a' rc o' w' q
def lO{x y:Code}(h:Mi P T i V E fn x (SK (λa' pd o' w'=>Mi P T i V E fn y Q a' pd o' w') Q) a rc o w):Mi P T i V E fn (.seq x y) Q a rc o w:=by
 intro b k cs hb hk hc;refine(cW rc).go rfl (λ_=>aE) (h b (.code y::k) cs hb hk λe a' pd o' w' q=>?_);cases e with
 |normal=>exact q b k cs hb hk hc
 |exit id=>exact(hc _ _ _ _ _ q).push rfl aj
 |ret=>exact(hc _ _ _ _ _ q).push (y:=.code y) rfl aj
 |goto l=>exact hc _ _ _ _ _ q
 |panic ch=>exact hc _ _ _ _ _ q
 |outgrown=>exact hc _ _ _ _ _ q
def Jg{c:Operand}{x y:Code}{t:Bool}(hc:a.eval c=.bool t)(ht:t=true->Mi P T i V E fn x Q a rc o w)(hf:t=false->Mi P T i V E fn y Q a rc o w):Mi P T i V E fn (.cond c x y) Q a rc o w:=by
 intro b k cs hb hk hq;refine(cW rc).go rfl (λ_=>eG hc) ?_;cases t with
 |true=>exact ht rfl b k cs hb hk hq
 |false=>exact hf rfl b k cs hb hk hq
def Fs{id:Nat}{c:Code}(h:Mi P T i V E fn c (yC id Q) a rc o w):Mi P T i V E fn (.block id c) Q a rc o w:=by
 intro b k cs hb hk hc;refine(cW rc).go rfl (λ_=>fJ) (h b (.inBlock id::k) cs hb hk λe a' pd o' w' q=>?_);cases e with
 |normal=>exact(cW pd).go rfl (λ_=>gX) (hc _ _ _ _ _ q)
 |exit SD =>
  by_cases hid:SD=id
  ·simp only[yC,hid,if_true]at q;exact⟨k,by simp[exitTo,hid],hc _ _ _ _ _ q⟩
  ·simp only[yC,hid,if_false]at q;obtain⟨k',lY,hg⟩:=hc _ _ _ _ _ q;have:(id==SD)=false:=by simp;exact λh=>hid h.symm
   exact⟨k',by simp[exitTo,this,lY],hg⟩
 |ret=>exact λtodo=>hc _ _ _ _ _ q todo
 |goto l=>exact hc _ _ _ _ _ q
 |panic ch=>exact hc _ _ _ _ _ q
 |outgrown=>exact hc _ _ _ _ _ q
def SL{c:Code}(I:Nat->Act->(Nat->Prop)->aL->ae->Prop){N:Nat}(h0:I N a rc o w)(round:∀n a rc o w,I n a rc o w->Mi P T i V E fn c (SK (λa' pd o' w'=>∃n',n'<n/\I n' a' pd o' w') Q) a rc o w):Mi P T i V E fn (.loop c) Q a rc o w:=by
 intro b k cs hb hk hc;have key:∀N a rc o w,I N a rc o w->XW P T i V E rc o (G (b.at a (.code c :: .inLoop c::k)) cs) w:=by
  intro N
  induction N using Nat.strongRecOn with
  |ind N ih =>
   intro a rc o w hI;refine round N a rc o w hI b (.inLoop c::k) cs hb hk λe a' pd o' w' q=>?_;cases e with
   |normal =>
    obtain⟨n',hn,Sa⟩:=q;exact(cW pd).go rfl (λ_=>jq) (ih n' hn a' pd o' w' Sa)
   |exit id=>exact(hc _ _ _ _ _ q).push rfl aj
   |ret=>exact(hc _ _ _ _ _ q).push (y:=.inLoop c) rfl aj
   |goto l=>exact hc _ _ _ _ _ q
   |panic ch=>exact hc _ _ _ _ _ q
   |outgrown=>exact hc _ _ _ _ _ q
 exact(cW rc).go rfl (λ_=>kE) (key N a rc o w h0)
def Ft(P:Program)(T:dv)(i:Nat)(V:Nat->ae->Prop)(E:br)(f:FuncId)(vs:Array Value)(rc:Nat->Prop)(o:aL)(w:ae)(Post:Value->(Nat->Prop)->aL->ae->Prop):Prop :=
 ∀(c:Frame) (cs:List Frame),(∀v pd o' w',Post v pd o' w'->XW P T i V E pd o' (G (c.finish v) cs) w')->XW P T i V E rc o (G (Frame.enter P f vs .normal) (c::cs)) w
def Ft.mono{f:FuncId}{vs:Array Value}{Post Ja:Value->(Nat->Prop)->aL->ae->Prop}(h:Ft P T i V E f vs rc o w Post)(hp:∀v pd o' w',Post v pd o' w'->Ja v pd o' w'):Ft P T i V E f vs rc o w Ja :=
 λc cs hc=>h c cs λv pd o' w' q=>hc v pd o' w' (hp v pd o' w' q)
def GG{f:FuncId}{fc:Func}{c:Code}{vs:Array Value}{Post:Value->(Nat->Prop)->aL->ae->Prop}(hf:P.funcs[f]?=so fc)(gb:fc.body=so c)(h:Mi P T i V E f c (λe a' pd o' w'=>(e=.normal\/e=.ret)/\a'.defers=[]/\∃v,ResultsC P fc a'.tmps v/\Post v pd o' w') {tmps:=vs++Array.replicate (fc.ntmps-vs.size) undef,defers:=[]} rc o w):Ft P T i V E f vs rc o w Post:=by
 intro cf cs hc;rw[jr hf gb];have leave:∀(a':Act) (pd:Nat->Prop) (o':aL) (w':ae) (todo:List Item) (v:Value),a'.defers=[]->ResultsC P fc a'.tmps v->Post v pd o' w'->XW P T i V E pd o' (G {(base f).at a' todo with mode:=.returning} (cf::cs)) w':=by
  intro a' pd o' w' todo v hd hr hx;refine(cW pd).go rfl (λw1=>?_) (hc v pd o' w' hx);rw[stepG_leave (b:=base f) rfl hd hf (hr w1).1 (hr w1).2]
 refine h (base f) [] _ rfl (by simp[base]) λe a' pd o' w' q=>?_;obtain⟨he,hd,v,hr,hx⟩:=q;rcases he with rfl|rfl
 ·exact(cW pd).go rfl (λ_=>eD) (leave a' pd o' w' [] v hd hr hx)
 ·exact λtodo=>leave a' pd o' w' todo v hd hr hx
def vZ(P:Program)(T:dv)(i:Nat)(V:Nat->ae->Prop)(E:br)(fn:FuncId)(ops:Array Oper)(todo:List Nat)(Q:yB)(a:Act)(rc:Nat->Prop)(o:aL)(w:ae):Prop :=
 ∀(b:Frame) (k:List Item) (cs:List Frame),b.fn=fn->b.kind≠.early->(∀e a' pd o' w',Q e a' pd o' w'->uR (XW P T i V E pd) b k cs e a' o' w')->XW P T i V E rc o (G (b.at a (.inRegion ops todo::k)) cs) w
def Mj{id:Nat}{ops:Array Oper}(h:vZ P T i V E fn ops (List.range ops.size) Q a rc o w):Mi P T i V E fn (.region id ops false) Q a rc o w :=
 λb k cs hb hk hc=>(cW rc).go rfl (λ_=>bg) (h b k cs hb hk hc)
def yD{ops:Array Oper}{todo:List Nat}(h:dK (XW P T i V E rc) fn ops todo (λe a' o' w'=>Q e a' rc o' w') a o w):vZ P T i V E fn ops todo Q a rc o w :=
 λb k cs hb hk hc=>h b k cs hb hk λe a' o' w' q=>hc e a' rc o' w' q
def qU{m:Bool}{ops:Array Oper}{j:Nat}{rest:List Nat}{op:Oper}{f:FuncId}{fc:Func}{c:Code}{args:Array Operand}{tf:Array TypeId}{b:Frame}{k:List Item}{cs:List Frame}(ho:ops[j]?=so op)(hw:Region.wanted op (yielded ops a.tmps)=true)(hk:b.kind≠.early)(fD:op.op=.call {callee:=.value (.func f),args,argTypes:=tf})(hf:P.funcs[f]?=so fc)(iB:(fc.name == "runtime.NumGoroutine")=false)(gb:fc.body=so c)(w1:ae):
  stepG P m (G (b.at a (.inRegion ops (j::rest)::k)) cs) w1=.go (G (Frame.enter P f (args.map a.eval) .normal) (b.at a (.inRegion ops (j::rest)::k)::cs)) w1 #[]:=by
 rw[jr hf gb];have:=goes_call (P:=P) (main:=m) (b:=b) (k:=k) (cs:=cs) (w:=w1) (K:=λg' w' es=>stepG P m (G (b.at a (.inRegion ops (j::rest)::k)) cs) w1=.go g' w' es->stepG P m (G (b.at a (.inRegion ops (j::rest)::k)) cs) w1=.go (G ((base f).at {tmps:=args.map a.eval++Array.replicate (fc.ntmps-(args.map a.eval).size) undef,defers:=[]} [.code c]) (b.at a (.inRegion ops (j::rest)::k)::cs)) w1 #[]) ho hw hk fD hf iB gb (λe=>e);cases hg:stepG P m (G (b.at a (.inRegion ops (j::rest)::k)) cs) w1 with
 |go g' w' es=>rw[hg,goes_go]at this;rw[<- this rfl]
 |_=>rw[hg]at this;exact this.elim
def Mk{ops:Array Oper}{j:Nat}{rest:List Nat}{op:Oper}{f:FuncId}{fc:Func}{c:Code}{args:Array Operand}{tf:Array TypeId}(ho:ops[j]?=so op)(hw:Region.wanted op (yielded ops a.tmps)=true)(fD:op.op=.call {callee:=.value (.func f),args,argTypes:=tf})(hf:P.funcs[f]?=so fc)(iB:(fc.name == "runtime.NumGoroutine")=false)(gb:fc.body=so c){vs:Array Value}(Mf:args.map a.eval=vs){d:Option Tmp}(hd:op.dst=d)(h:Ft P T i V E f vs rc o w λv pd o' w'=>vZ P T i V E fn ops rest Q (a.put d v) pd o' w'):vZ P T i V E fn ops (j::rest) Q a rc o w:=by
 subst Mf hd;intro b k cs hb hk hc;refine(cW rc).go rfl (λw1=>qU ho hw hk fD hf iB gb w1) (h _ _ λv pd o' w' q=>?_);rw[show(b.at a (.inRegion ops (j::rest)::k)).finish v=b.at (a.put op.dst v) (.inRegion ops rest::k) by rw[eC,ho];rfl];exact q b k cs hb hk hc
def PW{ops:Array Oper}{j:Nat}{rest:List Nat}{op:Oper}(ho:ops[j]?=so op)(hw:Region.wanted op (yielded ops a.tmps)=true){k:Nat}{z:Value}{f:Bool}(yE:T.dep i k)(cG:∀w1,(execOp a.eval op).run P w1=.ok (.comm #[rcase (T.ch k) z] true (.recv f)) w1)(jg:∀w1,(execOp a.eval op).events P w1 #[]=#[]){d:Option Tmp}(hd:op.dst=d)(h:∀w1,di T i o rc w w1->V k w1->vZ P T i V E fn ops rest Q (a.put d (recvd f z false)) (λb=>rc b\/b=k) o w1):vZ P T i V E fn ops (j::rest) Q a rc o w:=by
 subst hd;intro b kk cs hb hk hc;refine iA.intro ⟨rfl,.inr (.inl ⟨k,z,f,yE,λw1 _=>?_,λw1 sL hv=>?_⟩)⟩
 ·show stepG P false (G (b.at a (.inRegion ops (j::rest)::kk)) cs) w1=_;rw[stepG_comm ho hw hk (cG w1),listed_nil (jg w1)]
 ·have e:Go.Conc.served (G (b.at a (.inRegion ops (j::rest)::kk)) cs) (recvd f z false)=G (b.at (a.put op.dst (recvd f z false)) (.inRegion ops rest::kk)) cs:=by
   simp only[Go.Conc.served,G];rw[eC,ho];rfl
  show iA P T i V E ⟨Go.Conc.served (G (b.at a (.inRegion ops (j::rest)::kk)) cs) (recvd f z false),o,_,w1⟩;rw[e];exact h w1 sL hv b kk cs hb hk hc
def SM(xB:P.follows .mixedOrders=true){id n:Nat}{ops:Array Oper}(hn:ops.size=n+1){v:Nat->Value}{S:ae->Prop}(hS:∀w w1,S w->di T i o rc w w1->S w1)(h0:S w)(vY:∀(i:Nat) (op:Oper),ops[i]?=so op->∀e∈op.after,e.on<i)(SH:∀D:Nat->Prop,(∀(i:Nat) (op:Oper),ops[i]?=so op->D i->∀e∈op.after,Region.binds .any e=true->D e.on)->D n->∀j,j<=n->D j)(SI:∀i j d,i≠j->hZ ops i=so d->hZ ops j≠so d)(fD:∀(j:Nat) (op:Oper),j<n->ops[j]?=so op->∀done:List Nat,done.Nodup->j∉done->(∀j∈done,j<n)->(∀e∈op.after,Region.binds .any e=true->e.on∈done)->∀w1,S w1 ->
   Region.wanted op (yielded ops (cK ops v a done).tmps)=true/\(execOp (cK ops v a done).eval op).run P w1=.ok (.value (v j)) w1/\∀e∈listed P fn (cK ops v a done) op w1,NZ T i o rc e)(rV:∀w',S w'->vZ P T i V E fn ops [n] Q (cK ops v a (List.range n)) rc o w'):
  Mi P T i V E fn (.region id ops true) Q a rc o w:=by
 intro b k cs hb hk hc;refine VB (cW rc) xB hn hS (λw h=>hS _ _ h (di.at w _)) (λw=>⟨?_,aj⟩) h0 vY SH SI (λj op h1 h2 done Zl h3 h4 h5 w1 h6=>?_) hb hk λw' hw'=>rV w' hw' b k cs hb hk hc
 ·exact⟨af _,λ_ _ _ _=>rfl,λb cs ty fz _ h=>⟨cs,h,rfl⟩,λ_ _ _=>rfl,rfl,rfl⟩
 ·obtain⟨g1,g2,g3⟩:=fD j op h1 h2 done Zl h3 h4 h5 w1 h6;exact⟨g1,g2,.refl _ _,λe he=>by rw[cp];exact g3 e he⟩
end
def xC{P:Program}{m:Bool}{b:Frame}{a:Act}{cs:List Frame}{todo:List Item}{ds:List Deferred}{tf:Array TypeId}{ty:TypeId}{cns:Array Bool}{c s r:Nat}{tm:Bool}{w:ae}(hd:a.defers={target:=.builtin .close tf ty cns,args:=#[.chan (so c)]}::ds)(hc:w.heap[c]?=so (.chan 0 #[] false s r tm))(hq:(P.funcs[b.fn]?).any (·.norace)=false):
  stepG P m (G {b.at a todo with mode:=.returning} cs) w=.go (G {b.at ⟨a.tmps,ds⟩ todo with mode:=.returning} cs) (w.setChan c 0 #[] true s r tm) (iv c):=by
 have hr:(invoke (.builtin .close tf ty cns) #[.chan (so c)]).run P w=.ok (.value (.tuple #[])) (w.setChan c 0 #[] true s r tm):=by
  simp[invoke,go_sem,run_close_open _ _ hc,World.setChan]
 have he:(invoke (.builtin .close tf ty cns) #[.chan (so c)]).events P w #[]=iv c:=by
  simp[invoke,go_sem,events_close_open _ _ hc,iv]
 have hl:seen P b.fn (iv c)=iv c:=seen_eq hq (by intro e he f;simp only[iv,List.mem_toArray,bq,fi,or_false]at he;rcases he with rfl|rfl<;>simp);simp[G,stepG,unwind,callDeferred,Frame.at,hd,Sem.runT_eq,hr,he,hl,GStep.after]
def SN(ops:Array Oper)(n:Nat):Bool:=(List.range n).all λj=>(List.range (n+1)).any λi=>decide (j<i)&&match ops[i]? with|none=>false|some op=>op.after.any λe=>Region.binds .any e&&e.on==j
def CC(ops:Array Oper)(n:Nat):Bool :=
 (ops.size==n+1) &&
 (List.range (n+1)).all (λi=>match ops[i]? with
  |none=>false
  |some op=>op.after.all (λe=>decide (e.on<i))&&op.guard.isNone&&(match op.op with|.select ..=>false|_=>true) &&
    (List.range (n+1)).all (λj=>j==i||match hZ ops j with
     |none=>true
     |some d=>hZ ops i != so d&&(!(op.looksAt ops).contains d||op.after.any (λe=>Region.binds .any e&&e.on==j)))) &&
 SN ops n
section
variable {ops:Array Oper}{n:Nat}
structure SO(ops:Array Oper)(n:Nat):Prop where
 size:ops.size=n+1
 low:∀(i:Nat) (op:Oper),ops[i]?=so op->∀e∈op.after,e.on<i
 cov:∀D:Nat->Prop,(∀(i:Nat) (op:Oper),ops[i]?=so op->D i->∀e∈op.after,Region.binds .any e=true->D e.on)->D n->∀j,j<=n->D j
 dst:∀i j d,i≠j->hZ ops i=so d->hZ ops j≠so d
 guard:∀(i:Nat) (op:Oper),ops[i]?=so op->op.guard=we
 sel:∀(i:Nat) (op:Oper),ops[i]?=so op->∀cs b,op.op≠.select cs b
 look:∀(i:Nat) (op:Oper),ops[i]?=so op->∀j d,j≠i->hZ ops j=so d->d∈op.looksAt ops->∃e∈op.after,Region.binds .any e=true/\e.on=j
def AA(h:CC ops n=true):SO ops n:=by
 simp only[CC,aU,beq_iff_eq,List.all_eq_true,List.mem_range]at h;obtain⟨⟨hs,h1⟩,h2⟩:=h;have lt:∀(i:Nat) (op:Oper),ops[i]?=so op->i<n+1:=λi op ho=>by have:=(aI.1 ho).1;omega
 have all:∀(i:Nat) (op:Oper),ops[i]?=so op->(((op.after.all (λe=>decide (e.on<i))=true/\op.guard.isNone=true)/\(match op.op with|.select ..=>false|_=>true)=true) /\
   ∀j,j<n+1->(j=i\/(match hZ ops j with|none=>true|some d=>hZ ops i != so d&&(!(op.looksAt ops).contains d||op.after.any (λe=>Region.binds .any e&&e.on==j)))=true)):=by
  intro i op ho;have:=h1 i (lt i op ho);simp only[ho,aU,List.all_eq_true,List.mem_range,Bool.or_eq_true,beq_iff_eq]at this;exact this
 refine⟨hs,λi op ho e he=>?_,λD hD hn=>?_,λi j d wh hi hj=>?_,λi op ho=>?_,λi op ho cs b e=>?_,λi op ho j d Au hj hl=>?_⟩
 ·have:=(all i op ho).1.1.1;rw[jY]at this;simpa using this e he
 ·have key:∀m j,j+m=n->D j:=by
   intro m
   induction m using Nat.strongRecOn with
   |ind m ih =>
    intro j hjm;rcases bh m with rfl|hm
    ·have:j=n:=aa;rw[this];exact hn
    ·unfold SN at h2;simp only[List.all_eq_true,List.mem_range,List.any_eq_true,aU,decide_eq_true_eq]at h2;obtain⟨i,hi,Au,hx⟩:=h2 j aa;cases ho:ops[i]? with
     |none=>rw[ho]at hx;cases hx
     |some op =>
      rw[ho]at hx;simp only[Array.any_eq_true,aU,beq_iff_eq]at hx;obtain⟨q,hq,hb,he⟩:=hx;rw[<- he];exact hD i op ho (ih (n-i) aa i aa) _ (iN hq) hb
  exact λj hj=>key (n-j) j aa
 ·obtain⟨op,ho⟩:∃op,ops[i]?=so op:=by
   cases ho:ops[i]? with
   |none=>simp[hZ,ho]at hi
   |some op=>exact⟨op,rfl⟩
  obtain⟨Jf,p6⟩:∃op,ops[j]?=so op:=by
   cases ho:ops[j]? with
   |none=>simp[hZ,ho]at hj
   |some op=>exact⟨op,rfl⟩
  rcases(all i op ho).2 j (lt j Jf p6)with e|e
  ·exact wh e.symm
  ·rw[hj]at e;simp only[aU,bne_iff_ne]at e;exact e.1 hi
 ·simpa using(all i op ho).1.1.2
 ·have:=(all i op ho).1.2;rw[e]at this;cases this
 ·obtain⟨Jf,p6⟩:∃op,ops[j]?=so op:=by
   cases ho:ops[j]? with
   |none=>simp[hZ,ho]at hj
   |some op=>exact⟨op,rfl⟩
  rcases(all i op ho).2 j (lt j Jf p6)with e|e
  ·exact absurd e Au
  ·rw[hj]at e;simp only[aU,Bool.or_eq_true,eJ,List.contains_eq_mem,decide_eq_false_iff_not]at e;rcases e.2 with e|e
   ·exact absurd hl e
   ·simp only[Array.any_eq_true,aU,beq_iff_eq]at e;obtain⟨q,hq,hb,he⟩:=e;exact⟨_,iN hq,hb,he⟩
variable {v:Nat->Value}{a:Act}
def pD{op:Oper}{t:Tmp}(h:Operand.tmp t∈op.op.operands):t∈op.looksAt ops:=by
 unfold Oper.looksAt;refine bG.2 (.inl (List.mem_filterMap.2 ⟨.tmp t,?_,rfl⟩));simpa using h
def Fu(H:SO ops n){i:Nat}{op:Oper}(ho:ops[i]?=so op){done:List Nat}(kL:done.Nodup)(hi:i∉done)(yE:∀e∈op.after,Region.binds .any e=true->e.on∈done):
  ∀x∈op.op.operands,(cK ops v a done).eval x=(cK ops v a (List.range i)).eval x:=by
 intro x hx;let p:Nat->Bool:=λj=>op.after.any λe=>Region.binds .any e&&e.on==j;have drop:∀l:List Nat,i∉l->(cK ops v a l).eval x=(cK ops v a (l.filter p)).eval x:=by
  intro l VD;have hp:=(iI p l).symm;rw[kQ H.dst hp,jj];refine pT _ _ λk hk d hd hl=>?_;subst hl;obtain⟨RD,UZ⟩:=gm.1 hk;obtain⟨e,he,hb,rfl⟩:=H.look i op ho k d (λe=>VD (e▸RD)) hd (pD hx);simp only[p,eJ]at UZ;have:(op.after.any λe'=>Region.binds .any e'&&e'.on==e.on)=true:=by
   rw[iC];exact⟨e,he,by simp[hb]⟩
  rw[this]at UZ;cases UZ
 rw[drop done hi,drop (List.range i) aj];have Jh:(done.filter p).Perm ((List.range i).filter p):=by
  refine(dC (kL.filter _) (List.nodup_range.filter _)).2 λj=>?_;simp only[List.mem_filter,List.mem_range];constructor
  ·rintro⟨h1,h2⟩;refine⟨?_,h2⟩;simp only[p,Array.any_eq_true',aU,beq_iff_eq]at h2;obtain⟨e,he,hb,rfl⟩:=h2;exact H.low i op ho e he
  ·rintro⟨h1,h2⟩;refine⟨?_,h2⟩;simp only[p,Array.any_eq_true',aU,beq_iff_eq]at h2;obtain⟨e,he,hb,rfl⟩:=h2;exact yE e he hb
 rw[kQ H.dst Jh]
end
def nL(ok:Oper->Value->Act->Prop)(ops:Array Oper)(K:Act->Prop):List Nat->List Value->Act->Prop
 | [],[],a=>K a
 |j::l,v::vs,a=>(∃op,ops[j]?=so op/\ok op v a)/\nL ok ops K l vs (a.put (hZ ops j) v)
 |_,_,_=>False
def cU{ok:Oper->Value->Act->Prop}{ops:Array Oper}{K:Act->Prop}{j:Nat}{l:List Nat}{v:Value}{vs:List Value}{a:Act}{op:Oper}{d:Option Tmp}(ho:ops[j]?=so op)(hd:op.dst=d)(iS:ok op v a)(h:nL ok ops K l vs (a.put d v)):nL ok ops K (j::l) (v::vs) a :=
 ⟨⟨op,ho,iS⟩,by subst hd;simpa[hZ,ho] using h⟩
def pE{ok:Oper->Value->Act->Prop}{ops:Array Oper}{K:Act->Prop}{a:Act}(h:K a):nL ok ops K [] [] a:=h
def nL.all{ok:Oper->Value->Act->Prop}{ops:Array Oper}{K:Act->Prop}:∀{m k:Nat} {vs:List Value} {v:Nat->Value} {a:Act},nL ok ops K (List.range' k m) vs (cK ops v a (List.range k))->(∀j,j<m->v (k+j)=vs.getD j undef) ->
  (∀j op,k<=j->j<k+m->ops[j]?=so op->ok op (v j) (cK ops v a (List.range j)))/\K (cK ops v a (List.range (k+m))):=by
 intro m
 induction m with
 |zero =>
  intro k vs v a h hv;cases vs with
  |nil=>exact⟨λj op h1 h2=>aa,h⟩
  |cons x l=>exact h.elim
 |succ m ih =>
  intro k vs v a h hv;cases vs with
  |nil=>rw[je]at h;exact h.elim
  |cons x l =>
   rw[je]at h;obtain⟨⟨op,ho,iS⟩,hr⟩:=h;have hx:v k=x:=by have:=hv 0 aa;simpa using this
   have uP:(cK ops v a (List.range k)).put (hZ ops k) x=cK ops v a (List.range (k+1)):=by
    rw[List.range_succ,jj];simp[cK,hZ,hx]
   rw[uP]at hr;have:=ih (k:=k+1) (vs:=l) hr (λj hj=>by have:=hv (j+1) aa;rw[show k+(j+1)=k+1+j by omega]at this;simpa using this);refine⟨λj Jf h1 h2 p6=>?_,by rw[show k+(m+1)=k+1+m by omega];exact this.2⟩;by_cases e:j=k
   ·subst e;rw[ho]at p6;cases p6;rw[hx];exact iS
   ·exact this.1 j Jf aa aa p6
section
variable {P:Program}{m:Bool}{R:aL->ae->ae->Prop}{Gu:aL->ae->ae->Array Event->Prop}{X:aL->aY->ae->Prop}{fn:FuncId}{Q:Exit->Act->aL->ae->Prop}{a:Act}{o:aL}{w:ae}
def okX(P:Program)(Gu:aL->ae->ae->Array Event->Prop)(X:aL->aY->ae->Prop)(fn:FuncId)(S:aL->ae->Prop)(op:Oper)(v:Value)(a:Act):Prop :=
 (∀o w1,S o w1->(execOp a.eval op).run P w1=.ok (.value v) w1/\Gu o w1 w1 (listed P fn a op w1)) \/
 (∃f fc c args tf,op.op=.call {callee:=.value (.func f),args,argTypes:=tf}/\P.funcs[f]?=so fc/\(fc.name == "runtime.NumGoroutine")=false/\fc.body=so c/\∀o w,S o w->bC P X f (args.map a.eval) o w λv' o' w'=>v'=v/\S o' w')
def qd{op:Oper}{y:Nat->Option Bool}(h:op.guard=we):Region.wanted op y=true:=by simp[Region.wanted,h]
def qe{op:Oper}{f:FuncId}{args:Array Operand}{tf:Array TypeId}{a a':Act}(fD:op.op=.call {callee:=.value (.func f),args,argTypes:=tf})(h:∀x∈op.op.operands,a.eval x=a'.eval x):args.map a.eval=args.map a'.eval:=by
 refine eF λx hx=>h x ?_;rw[fD];simp only[Op.operands,Call.operands];simp[hx]
def PX(W:gj P m R Gu X)(xB:P.follows .mixedOrders=true){id n:Nat}{ops:Array Oper}(iS:CC ops n=true)(vs:List Value){S:aL->ae->Prop}(hS:∀o w w1,S o w->R o w w1->S o w1)(Zi:∀o (w:ae),S o w->S o {w with drawn:=w.drawn+1})(Zj:∀w:ae,Gu o w {w with drawn:=w.drawn+1} #[])(h0:S o w)(xy:nL (okX P Gu X fn S) ops (λa'=>∀o w,S o w->dK X fn ops [n] Q a' o w) (List.range n) vs a):wN X fn (.region id ops true) Q a o w:=by
 have H:=AA iS;rw[js]at xy;obtain⟨h1,h2⟩:=nL.all (v:=λj=>vs.getD j undef) (k:=0) (a:=a) xy (λj _=>aj);rw[bD]at h2;refine PV W xB H.size hS Zi Zj h0 H.low H.cov H.dst (λi op hi ho done kL hid cR yE o w rest Zm hk=>?_) h2;have hw:=qd (y:=yielded ops (cK ops (λj=>vs.getD j undef) a done).tmps) (H.guard i op ho);have jg:=Fu (v:=λj=>vs.getD j undef) (a:=a) H ho kL hid yE;have hex:=execOp_congr op (H.sel i op ho) jg;rcases h1 i op (aW _) aa ho with hp|⟨f,fc,c,args,tf,fD,hf,qW,hb,hC⟩
 ·refine mz W ho hw λw1 mC K hK=>?_;obtain⟨e1,e2⟩:=hp o w1 (hS _ _ _ Zm mC);rw[hex,e1];simp only[uponK_value];refine hK _ _ ⟨?_,by rw[cp];exact hk o w1 (hS _ _ _ Zm mC)⟩;unfold listed at e2 |-;rw[hex];exact e2
 ·refine eH W ho hw fD hf qW hb (qe fD jg) rfl ((hC o w Zm).mono ?_);rintro v' o' w' ⟨rfl,hS'⟩;exact hk o' w' hS'
end
section
variable {P:Program}{T:dv}{i:Nat}{V:Nat->ae->Prop}{E:br}{fn:FuncId}{a:Act}{rc:Nat->Prop}{o:aL}{w:ae}
def Ml(o:aL)(w:ae):I2 T i rc o w {w with drawn:=w.drawn+1} #[]:=⟨⟨af _,λ_ _ _ _=>rfl,λb cs ty fz _ h=>⟨cs,h,rfl⟩,λ_ _ _=>rfl,rfl,rfl⟩,aj⟩
def vC{Q:Exit->Act->aL->ae->Prop}(xB:P.follows .mixedOrders=true){id n:Nat}{ops:Array Oper}(iS:CC ops n=true)(vs:List Value){S:aL->ae->Prop}(hS:∀o w w1,S o w->di T i o rc w w1->S o w1)(h0:S o w)(xy:nL (okX P (I2 T i rc) (XW P T i V E rc) fn S) ops (λa'=>∀o w,S o w->dK (XW P T i V E rc) fn ops [n] Q a' o w) (List.range n) vs a):wN (XW P T i V E rc) fn (.region id ops true) Q a o w :=
 PX (cW rc) xB iS vs hS (λo w h=>hS _ _ _ h (di.at w _)) (Ml o) h0 xy
def PY{Q:yB}(xB:P.follows .mixedOrders=true){id n:Nat}{ops:Array Oper}(iS:CC ops n=true)(vs:List Value){S:ae->Prop}(hS:∀w w1,S w->di T i o rc w w1->S w1)(h0:S w)(xy:nL (λop v a=>∀w1,S w1->(execOp a.eval op).run P w1=.ok (.value v) w1/\∀e∈(execOp a.eval op).events P w1 #[],NZ T i o rc e) ops (λa'=>∀w,S w->vZ P T i V E fn ops [n] Q a' rc o w) (List.range n) vs a):Mi P T i V E fn (.region id ops true) Q a rc o w:=by
 have H:=AA iS;rw[js]at xy;obtain⟨h1,h2⟩:=nL.all (v:=λj=>vs.getD j undef) (k:=0) (a:=a) xy (λj _=>aj);rw[bD]at h2;refine SM xB H.size hS h0 H.low H.cov H.dst (λj op hj ho done kL hid cR yE w1 sL=>?_) h2;have jg:=Fu (v:=λj=>vs.getD j undef) (a:=a) H ho kL hid yE;have hex:=execOp_congr op (H.sel j op ho) jg;obtain⟨e1,e2⟩:=h1 j op (aW _) aa ho w1 sL;refine⟨qd (H.guard j op ho),by rw[hex];exact e1,λe he=>e2 e ?_⟩;have:=mem_listed he;rw[hex]at this;exact this
def kY{S:aL->ae->Prop}{op:Oper}{v:Value}(h:∀o w1,S o w1->(execOp a.eval op).run P w1=.ok (.value v) w1/\∀e∈(execOp a.eval op).events P w1 #[],NZ T i o rc e):okX P (I2 T i rc) (XW P T i V E rc) fn S op v a :=
 .inl λo w1 hw=>⟨(h o w1 hw).1,.refl _ _,λe he=>by rw[cp];exact(h o w1 hw).2 e (mem_listed he)⟩
end
section
variable {ops:Array Oper}{a:Act}
def tv{v v':Nat->Value}:∀(l:List Nat) {a:Act},(∀j∈l,v j=v' j)->cK ops v a l=cK ops v' a l:=by
 intro l
 induction l with
 |nil=>intro a _;rfl
 |cons i l ih =>
  intro a h;simp only[cK];rw[h i aj];exact ih λj hj=>h j (by simp[hj])
end
section
variable {P:Program}{m:Bool}{R:aL->ae->ae->Prop}{Gu:aL->ae->ae->Array Event->Prop}{X:aL->aY->ae->Prop}{fn:FuncId}{Q:Exit->Act->aL->ae->Prop}{a:Act}{o:aL}{w:ae}
def Fits(v:Nat->Value)(σ:Nat->Option Value):Prop:=∀j y,σ j=so y->v j=y
end
section
open Go.ConcR (g_of_ofEvents)
structure ny(d:Nat)(S:Nat->Prop)(t:Trace):Prop where
 clean:∀said,¬Race said t
 known:∀i a,touchAt t i=so a->a.loc.isMemory=true->Knows t 0 i\/(uJ S a.loc/\a.kind=.atomic)
 over:t.HandedOver
 deaf:Deaf t 0=d
def EvB(S:Nat->Prop)(e:Event):Prop:=∀x,(MemAct.ofEvent e).touch?=so x->uJ S x.loc->x.kind≠.plain
section
variable {d:Nat}{S:Nat->Prop}{t u:Trace}
def ny.Sj(h:ny 0 S t):∃B,∀M,Past (uJ S) (B+M) t:=by
 obtain⟨B,hB⟩:=@I1 (Go.ConcR.Payload.mk 0) t;exact⟨B,λM=>⟨h.clean,h.known,h.over,h.deaf,λop fD=>MemAct.low_mono (Nat.le_add_right _ _) (hB op fD)⟩⟩
def ny.of{B:Nat}(h:Past (uJ S) B t):ny 0 S t:=⟨h.clean,h.known,h.over,h.hears⟩
def ny.own(h:ny d S t){fn:FuncId}{pos:String}{es:Array Event}(IH:∀e∈es,EvB S e):ny (deafBehind d es) S (t++MemOp.ofEvents 0 fn pos es):=by
 have hu:∀op∈MemOp.ofEvents 0 fn pos es,op.g=0:=g_of_ofEvents;refine⟨λsaid=>noRace_append (h.clean said) hu λi a ha op fD b hb hc=>?_,λi a ha hm=>?_,handedOver_app h.over λop fD=>.inl (hu op fD),by rw[Deaf_own,h.deaf]⟩
 ·rcases h.known i a ha hc.2.1 with hk|⟨hsa,hka⟩
  ·exact hk
  ·obtain⟨e,he,rfl⟩:=Go.Conc.mem_ofEvents fD;have hkb:=IH e he b hb (hc.1▸hsa);obtain⟨_,_,_,iX⟩:=hc;rw[hka]at iX;rcases iX with x|x|⟨_,x,_⟩
   ·cases x
   ·exact absurd x hkb
   ·cases x
 ·obtain⟨x,hx,Xz⟩:=touch_of ha;rcases getElem?_append_cases hx with⟨_,p7⟩|⟨_,hxu⟩
  ·exact(h.known i a (by rw[touchAt_of p7];exact Xz) hm).imp (·.app _) id
  ·have:=knows_own hx;rw[hu x hxu]at this;exact .inl this
def ny.mute(h:ny d S t){g:Nat}(hg:g≠0){fn:FuncId}{pos:String}{es:Array Event}(hm:∀e∈es,e.mute=true):ny d S (t++MemOp.ofEvents g fn pos es):=by
 have hu:∀op∈MemOp.ofEvents g fn pos es,op.g=g:=g_of_ofEvents;have hn:∀op∈MemOp.ofEvents g fn pos es,op.act.touch?=none:=λop fD=>by obtain⟨e,he,rfl⟩:=Go.Conc.mem_ofEvents fD;exact touch_mute (hm e he)
 refine⟨λsaid=>noRace_append (h.clean said) hu λi a _ op fD b hb _=>(by rw[hn op fD]at hb;cases hb),λi a ha hm=>?_,handedOver_app h.over λop fD=>.inr (hn op fD),(Deaf_other t hg _ hu).trans h.deaf⟩;obtain⟨x,hx,Xz⟩:=touch_of ha;rcases getElem?_append_cases hx with⟨_,p7⟩|⟨_,hxu⟩
 ·exact(h.known i a (by rw[touchAt_of p7];exact Xz) hm).imp (·.app _) id
 ·rw[hn x hxu]at Xz;cases Xz
end
def BX(P:Program)(Fin:br)(d:Nat)(S:Nat->Prop)(g:aY)(w:ae):Prop :=
 ∀(gs:Array aY) (sl:Option (Nat×Nat)) (t:Trace) (q:Nat->Nat),gs[0]?=so g->Leavers P t gs q->ny d S t->(∀b,w.heap.size<=b->¬S b) ->
  ∃N ij w' su t' q' S' g',runNT P N (crowd gs w sl) t=(.next (crowd ij w' su),t')/\ij[0]?=so g'/\Leavers P t' ij q'/\ny 0 S' t'/\(∀b,w'.heap.size<=b->¬S' b)/\Fin S' g' w'
section
variable {P:Program}{Fin:br}{d:Nat}{S:Nat->Prop}{g:aY}{w:ae}
def BX.fin(h:Fin S g w):BX P Fin 0 S g w:=λgs sl t q h0 hL hP hS=>⟨0,gs,w,sl,t,q,S,g,rfl,h0,hL,hP,hS,h⟩
def BX.step(hs:g.status=.running)(h:∀w1,AtRel w w1->∃g' w' es,stepG P true g w1=.go g' w' es/\(∀e∈es,EvB S e)/\w1.heap.size<=w'.heap.size/\BX P Fin (deafBehind d es) S g' w'):BX P Fin d S g w:=by
 have key:∀(M:Nat) (gs:Array aY) (w2:ae) (sl:Option (Nat×Nat)) (t:Trace) (q:Nat->Nat),sumTo gs.size q<M->AtRel w w2->gs[0]?=so g->Leavers P t gs q->ny d S t->(∀b,w2.heap.size<=b->¬S b) ->
   ∃N ij w' su t' q' S' g',runNT P N (crowd gs w2 sl) t=(.next (crowd ij w' su),t')/\ij[0]?=so g'/\Leavers P t' ij q'/\ny 0 S' t'/\(∀b,w'.heap.size<=b->¬S' b)/\Fin S' g' w':=by
  intro M
  induction M with
  |zero=>intro gs w2 sl t q hM;exact absurd hM (cH _)
  |succ M ih =>
   intro gs w2 sl t q hM hr h0 hL hP hSh;have Xy:∀x∈gs,awake x:=by
    intro x hx;obtain⟨i,hi,rfl⟩:=jc.1 hx;rcases bh i with rfl|oh
    ·have:gs[0]=g:=by simpa[Array.getElem?_eq_getElem hi] using h0
     rw[this];exact awake_of (.inl hs)
    ·exact awake_of ((hL.old i _ oh (aO hi)).status.elim .inl λx=>.inr (.inr x))
   obtain⟨i,x,dd,su,hi,hx,fe⟩:=crowd_pick (P:=P) (w:=w2) (sl:=sl) Xy ⟨0,g,h0,hs⟩;rcases bh i with rfl|oh
   ·obtain rfl:x=g:=by rw[h0]at hi;exact(aP hi).symm
    obtain⟨g',w',es,e1,e2,e3,e4⟩:=h (w2.at dd) (atRel_trans _ _ _ hr ⟨dd,rfl⟩);have uK:=runT_crowd_go (P:=P) (sl:=su) (i:=0) hi (show stepG P (0==0) x (w2.at dd)=_ from e1);have cR:0<gs.size:=(aI.1 h0).1;obtain⟨N,ij,w3,sl3,t3,q3,S3,g3,k1,k2⟩:=e4 ((gs.map (woken P x g' w')).setIfInBounds 0 g') su (t++MemOp.ofEvents 0 x.frame.fn x.frame.place es) q (by simp[cR])
     ⟨λj y hj hy=>by
      have fu:0≠j:=aa;rw[aQ fu,aM]at hy;obtain⟨z,hz,rfl⟩:=aH.1 hy;have hq:=hL.old j z hj hz;rw[woken_quitsD hq,Deaf_other t aa _ g_of_ofEvents];exact hq,λj hj=>by
      rw[Deaf_other t (g':=0) (by simp at hj;omega) _ g_of_ofEvents];exact hL.above j (by simpa using hj)⟩
     (hP.own e2) (λb hb=>hSh b (aS e3 hb))
    exact⟨N+1,ij,w3,sl3,t3,q3,S3,g3,by simp only[runNT,fe,uK];exact k1,k2⟩
   ·have hq:=hL.old i x oh hi;have hi0:(i==0)=false:=eW;have cR:i<gs.size:=(aI.1 hi).1;cases Se:q i with
    |zero=>rw[Se]at hq;rw[hq.1]at hx;cases hx
    |succ k =>
     rw[Se]at hq;rcases hq with⟨hf,_⟩|⟨_,g',es,hm,Y0,Cm⟩
     ·rw[hf]at hx;cases hx
     have uK:=runT_crowd_go (P:=P) (sl:=su) (i:=i) hi (by rw[hi0];exact Y0 (w2.at dd));have ew:((gs.map (woken P x g' (w2.at dd))).setIfInBounds i g').size=gs.size:=aj;have agw:sumTo gs.size (upd q i k)+(k+1)=sumTo gs.size q+k:=by
      have:=sumTo_upd q k id cR;simpa[Se] using this
     obtain⟨N,ij,w3,sl3,t3,q3,S3,g3,k1,k2⟩:=ih ((gs.map (woken P x g' (w2.at dd))).setIfInBounds i g') (w2.at dd) su (t++MemOp.ofEvents i x.frame.fn x.frame.place es) (upd q i k) (by rw[ew];omega) (atRel_trans _ _ _ hr ⟨dd,rfl⟩)
      (by
       have fu:i≠0:=aa;rw[aQ fu,aM,h0];simp[woken_run hs])
      ⟨λj y hj hy=>by
       by_cases Au:i=j
       ·subst Au;rw[cn (by simpa using cR)]at hy;obtain rfl:=aP hy;rw[upd_same,Deaf_own];exact Cm
       ·rw[aQ Au,aM]at hy;obtain⟨z,hz,rfl⟩:=aH.1 hy;have hqj:=hL.old j z hj hz;rw[woken_quitsD hqj,upd_ne q k (bw Au),Deaf_other t Au _ g_of_ofEvents];exact hqj,λj hj=>by
       rw[Deaf_other t (g':=i) (by simp at hj;omega) _ g_of_ofEvents];exact hL.above j (by simpa using hj)⟩
      (hP.mute aa hm) hSh
     exact⟨N+1,ij,w3,sl3,t3,q3,S3,g3,by simp only[runNT,fe,uK];exact k1,k2⟩
 intro gs sl t q h0 hL hP hSh;exact key (sumTo gs.size q+1) gs w sl t q (bK _) (atRel_refl w) h0 hL hP hSh
def BX.trans{gd:br}(h:BX P (λS g w=>BX P gd 0 S g w) d S g w):BX P gd d S g w:=by
 intro gs sl t q h0 hL hP hS;obtain⟨N,ij,w',su,t',q',S',g',k1,k2,k3,k4,k5,k6⟩:=h gs sl t q h0 hL hP hS;obtain⟨N2,Zf,w2,Sd,t2,q2,S2,g2,l1,l2⟩:=k6 ij su t' q' k2 k3 k4 k5;exact⟨N+N2,Zf,w2,Sd,t2,q2,S2,g2,by rw[runNT_add,k1];exact l1,l2⟩
def BX.mono{gd:br}(h:BX P Fin d S g w)(hF:∀S g w,Fin S g w->gd S g w):BX P gd d S g w:=by
 intro gs sl t q h0 hL hP hS;obtain⟨N,ij,w',su,t',q',S',g',k1,k2,k3,k4,k5,k6⟩:=h gs sl t q h0 hL hP hS;exact⟨N,ij,w',su,t',q',S',g',k1,k2,k3,k4,k5,hF _ _ _ k6⟩
def zt(P:Program)(Fin:br)(d:Nat)(S:Nat->Prop)(g:aY)(w:ae):Prop:=∀w1,AtRel w w1->BX P Fin d S g w1
def zt.bx(h:zt P Fin d S g w):BX P Fin d S g w:=h w (atRel_refl w)
def zt.fin(h:∀w1,AtRel w w1->Fin S g w1):zt P Fin 0 S g w:=λw1 hw=>BX.fin (h w1 hw)
def zt.rely{w1:ae}(h:zt P Fin d S g w)(hr:AtRel w w1):zt P Fin d S g w1:=λw2 h2=>h w2 (atRel_trans _ _ _ hr h2)
def zt.step(hs:g.status=.running)(h:∀w1,AtRel w w1->∃g' w' es,stepG P true g w1=.go g' w' es/\(∀e∈es,EvB S e)/\w1.heap.size<=w'.heap.size/\zt P Fin (deafBehind d es) S g' w'):zt P Fin d S g w:=by
 intro w1 hw;refine BX.step hs λw2 tY=>?_;obtain⟨g',w',es,e1,e2,e3,e4⟩:=h w2 (atRel_trans _ _ _ hw tY);exact⟨g',w',es,e1,e2,e3,e4.bx⟩
def SP(P:Program)(Post:Value->ae->Prop)(_:Nat->Prop)(g:aY)(w:ae):Prop:=∀w1,AtRel w w1->g.status=.running/\∃v,stepG P true g w1=.ended (.done v) w1 #[]/\Post v w1
def BX.call{L:Nat->Bool}{Gm:Nat}(dp:sJ P L Gm){Bp:FuncId}{Q:Value->ae->Prop}{c:Frame}{cs:List Frame}{F:kr}{x:aY×ae}(Gv:Acc (Nx P (lN P Bp Q)) x){gr:aY}(hK:∀r,F.K r->¬S (F.φ r))(HT:yo P L Gm (lN P Bp Q) (c::cs) F (x.1,WT x.2 w.tape w.drawn) gr w)(SB:∀v v' F' bN w',Q v bN->(∀f,F'.has f->v'=val f v)->WR F' bN w'->fT F F' x.2 w bN w'->(∀r,F'.K r->¬S (F'.φ r))->BX P Fin 0 S (G (c.finish v') cs) w'):BX P Fin 0 S gr w:=by
 intro gs sl t q h0 hL hP hS;obtain⟨B,hB⟩:=hP.Sj;obtain⟨N,ij,w',bN,su,t',q',B',F',v,v',k1,k2,k3,k4,k5,k6,k7,k8,k9,IK,k11,k12,k13⟩:=IJ dp x Gv (sumTo gs.size q+1) (B+w.heap.size) gs gr w sl t q F (bK _) h0 hL aa (hB w.heap.size) hK hS HT;obtain⟨N2,Zf,w2,Sd,t2,q2,S2,g2,l1,l2⟩:=SB v v' F' bN w' k7 k8 k9 IK k12 ij su t' q' k3 k4 (ny.of k6) k13;exact⟨N+N2,Zf,w2,Sd,t2,q2,S2,g2,by rw[runNT_add,k1];exact l1,l2⟩
end
end
def nE(Fin:br)(b:Nat):Prop:=∀S g w,Fin S g w->¬S b
def CE(Fin:br)(o:aL)(w:ae):Nat->Prop:=λb=>b<w.heap.size/\¬o b/\¬nE Fin b
def GH(Fin:br)(w0:ae):br:=λS g w=>Fin S g w/\w.os=w0.os/\w.output=w0.output
def yF{Fin:br}{w w':ae}(h:w'.os=w.os/\w'.output=w.output):GH Fin w'=GH Fin w:=by
 funext S g w1;simp only[GH,h.1,h.2]
def uV(Fin:br)(w:ae):Prop:=∀b,nE Fin b->b<w.heap.size
def uV.up{Fin:br}{w w':ae}(h:uV Fin w)(hs:w.heap.size<=w'.heap.size):uV Fin w':=λb hb=>bf (h b hb) hs
def uV.at_{Fin:br}{w w':ae}(h:uV Fin w)(hs:AtRel w w'):uV Fin w':=by obtain⟨d,rfl⟩:=hs;exact h
def uV.back{Fin:br}{w w':ae}(h:uV Fin w')(hs:AtRel w w'):uV Fin w:=by obtain⟨d,rfl⟩:=hs;exact h
abbrev XB(P:Program)(Fin:br)(d:Nat):aL->aY->ae->Prop:=λo g w=>uV Fin w->zt P (GH Fin w) d (CE Fin o w) g w
def XT(o:aL)(e:Event):Prop:=∀x,(MemAct.ofEvent e).touch?=so x->∀a,x.loc=.cell a->x.kind=.plain->o a.block
def EvF(Fin:br)(o:aL)(e:Event):Prop:=XT (λb=>o b\/nE Fin b) e
def XT.PZ{Fin:br}{o:aL}{e:Event}(h:XT o e):EvF Fin o e:=λx hx a ha hk=>.inl (h x hx a ha hk)
def GuO(Fin:br)(o:aL)(w w':ae)(es:Array Event):Prop:=(∀e∈es,EvF Fin (grow o w w') e/\e.loc≠.mark .disable/\e.loc≠.mark .enable)/\w.heap.size<=w'.heap.size/\w'.os=w.os/\w'.output=w.output
section
variable {P:Program}{Fin:br}{d:Nat}{o:aL}{g:aY}{w w1 w':ae}
def CF(h:w1.heap.size<=w'.heap.size):CE Fin (grow o w1 w') w'=CE Fin o w1:=by
 funext b;simp only[CE,grow,eq_iff_iff];constructor
 ·rintro⟨h1,h2,h5⟩;exact⟨fg λh3=>h2 (.inr ⟨h3,h1⟩),λh3=>h2 (.inl h3),h5⟩
 ·rintro⟨h1,h2,h5⟩;exact⟨aa,λh3=>h3.elim h2 λh4=>aa,h5⟩
def Mm(h:AtRel w w1):CE Fin o w1=CE Fin o w:=by obtain⟨d,rfl⟩:=h;rfl
def EvF.evB{e:Event}(h:EvF Fin (grow o w1 w') e)(hs:w1.heap.size<=w'.heap.size):EvB (CE Fin o w1) e:=by
 intro x hx tZ hk;rw[<- CF (o:=o) hs]at tZ;cases hl:x.loc with
 |cell a=>rw[hl]at tZ;exact(h x hx a hl hk).elim tZ.2.1 tZ.2.2
 |_=>rw[hl]at tZ;exact tZ
def bZ:gj P true (λ_=>AtRel) (GuO Fin) (XB P Fin d) where
 step o g w hs h:=λRE=>zt.step hs λw1 hw=>by
  obtain⟨g',w',es,e1,e2,e3⟩:=h w1 hw;refine⟨g',w',es,e1,λe he=>?_,e2.2.1,?_⟩
  ·rw[<- Mm hw];exact(e2.1 e he).1.evB e2.2.1
  ·rw[deafBehind_still (λe he=>(e2.1 e he).2),<- Mm hw];have:=e3 ((RE.at_ hw).up e2.2.1);rw[CF e2.2.1,yF e2.2.2]at this;obtain⟨n,rfl⟩:=hw;exact this
 rely o g w w1 h hr:=by
  intro RE;show zt P (GH Fin w1) d (CE Fin o w1) g w1;rw[Mm hr];have h':=zt.rely (h (RE.back hr)) hr;obtain⟨n,rfl⟩:=hr;exact h'
 idle o w:=⟨aj,af _,rfl,rfl⟩
def XB.mark(hs:g.status=.running){g':aY}{d':Nat}{es:Array Event}(IH:∀e∈es,∃m,e.loc=.mark m)(hd:deafBehind d es=d')(h:∀w1,stepG P true g w1=.go g' w1 es)(hx:XB P Fin d' o g' w):XB P Fin d o g w:=by
 intro RE;refine zt.step hs λw1 hw=>⟨g',w1,es,h w1,λe he=>?_,af _,?_⟩
 ·obtain⟨m,hm⟩:=IH e he;obtain⟨loc,wt,sy⟩:=e;subst hm;intro x hx _;cases m<;>simp only[MemAct.ofEvent,MemAct.touch?,ay,reduceCtorEq]at hx;all_goals (subst hx;simp)
 ·rw[hd];exact zt.rely (hx RE) hw
end
def Bu:Rn:=⟨id,id,id,id⟩
def Bv:∀v:Value,val Bu v=v:=by
 intro v;have hl:∀l:List Value,(∀x∈l,val Bu x=x)->l.map (val Bu)=l:=λl h=>by
  conv=>rhs;rw[<- List.map_id l]
  exact cQ λx hx=>h x hx
 have ha:∀a:Array Value,(∀x∈a,val Bu x=x)->a.map (val Bu)=a:=λa h=>by
  apply kC;rw[cC];exact hl a.toList λx hx=>h x (by simpa using hx)
 induction v using Value.rec (motive_2:=λa=>a.map (val Bu)=a) (motive_3:=λl=>l.map (val Bu)=l)
 case pointer a=>cases a<;>simp[val,addr,Bu]
 case slice a l c=>cases a<;>simp[val,addr,Bu]
 case map r=>cases r<;>simp[val,Bu]
 case chan r=>cases r<;>simp[val,Bu]
 case func fn a b h1 h2=>rw[val,h1,h2];congr 1;cases fn<;>rfl
 case iface t v h=>rw[val,h]
 case agg a h=>rw[val,h]
 case tuple a h=>rw[val,h]
 case mk l h=>exact ha ⟨l⟩ (λx hx=>by
  have p7:x∈l:=by simpa using hx
  have:∀(l:List Value),l.map (val Bu)=l->∀x∈l,val Bu x=x:=by
   intro l
   induction l with
   |nil=>intro _ x hx;cases hx
   |cons y l ih =>
    intro h x hx;simp only[aB,bT]at h;rcases bq.1 hx with rfl|hx
    ·exact h.1
    ·exact ih h.2 x hx
  exact this l h x p7)
 case nil=>rfl
 case cons x l h1 h2=>rw[aB,h1,h2]
 all_goals simp[val]
def Oi(x:Obj):obj Bu x=x:=by
 have e:(val Bu)=id:=funext Bv;have e2:(entry Bu)=id:=funext λx=>by simp[entry,Bv]
 cases x<;>first|(simp[obj,e,e2];done)|(simp[obj,addr,Bu];done)
def nN(P:Program)(L:Nat->Bool)(o:aL):kr:=⟨o,id,λn=>L n=true,P.globals.size⟩
structure bJ(P:Program)(L:Nat->Bool)(o:aL)(w:ae):Prop where
 shut:∀b,o b->∃x,w.heap[b]?=so x/\fN x=false/\∀f,(nN P L o).has f->obj f x=x
 kz:∀b,b<P.globals.size->o b
 size:P.globals.size<=w.heap.size
section
variable {P:Program}{L:Nat->Bool}{o:aL}{w:ae}
def bJ.lt(h:bJ P L o w){b:Nat}(hb:o b):b<w.heap.size:=by
 obtain⟨x,hx,_⟩:=h.shut b hb;exact(aI.1 hx).1
def GI(h:∀b,b<P.globals.size->o b):EX (nN P L o):=⟨λr _ hg=>hg,.inl λr hr=>⟨h r hr,rfl⟩⟩
def Oj:(nN P L o).has Bu:=⟨λ_ _ h=>h,λ_ _=>rfl,λ_ _=>rfl,λ_=>dj⟩
def CG(o:aL):∃N:Nat->Bool,∀b,N b=true↔o b:=by
 classical
 exact⟨λb=>decide (o b),aj⟩
def bJ.wr(h:bJ P L o w){N:Nat->Bool}(hN:∀b,N b=true↔o b):WR (nN P L o) (jA N w) w where
 here r hr:=by rw[lZ];exact h.lt hr
 there r hr:=h.lt hr
 inj r s _ _ e:=e
 uu r hr f hf:=by
  obtain⟨x,hx,_,hc⟩:=h.shut r hr;rw[mF N w ((hN r).2 hr)];show w.heap[r]?=_;rw[hx,aK,hc f hf]
 Rq r hr x hx:=by
  obtain⟨y,hy,hp,_⟩:=h.shut r hr;rw[mF N w ((hN r).2 hr),hy]at hx;cases hx;exact hp
 os:=rfl
 output:=rfl
 tape:=rfl
 drawn:=rfl
 AZ:=GI h.kz
 qt:=h.size
 Eb:=by rw[lZ];exact h.size
def bJ.SQ(h:bJ P L o w){N:Nat->Bool}(hN:∀b,N b=true↔o b):gh (jA N w):=by
 intro r x hx;by_cases hr:N r=true
 ·obtain⟨y,hy,hp,_⟩:=h.shut r ((hN r).1 hr);rw[mF N w hr,hy]at hx;cases hx;exact hp
 ·have:(jA N w).heap[r]?=(w.heap[r]?).map λ_=>.cells #[] 0:=by
   simp only[jA,Array.getElem?_mapIdx];cases w.heap[r]?<;>simp[hr]
  rw[this]at hx;cases hw:w.heap[r]? with
  |none=>rw[hw]at hx;cases hx
  |some y=>rw[hw]at hx;cases hx;rfl
def bJ.of_heap(h:bJ P L o w){w1:ae}(e:w1.heap=w.heap):bJ P L o w1:=⟨λb hb=>by rw[e];exact h.shut b hb,h.kz,by rw[e];exact h.size⟩
structure mG(P:Program)(L:Nat->Bool)(o:aL)(w w' bN:ae)(v:Value):Prop where
 bS:bJ P L (grow o w w') w'
 same:∀b,grow o w w' b->w'.heap[b]?=bN.heap[b]?
 rest:∀b,b<w.heap.size->¬o b->w'.heap[b]?=w.heap[b]?
 size:w'.heap.size=bN.heap.size
 sx:w.heap.size<=w'.heap.size
 val:∀f,(nN P L (grow o w w')).has f->Ren.val f v=v
 os:w'.os=w.os
 output:w'.output=w.output
variable {Fin:br}
def xD(dp:sJ P L P.globals.size){f:FuncId}{vs:Array Value}(hL:L f=true)(hF:bJ P L o w)(uS:∀g,(nN P L o).has g->vs.map (val g)=vs){R:ae->Value->ae->Prop}(hR:∀wl,LX (R wl))(hRW:∀wl τ d v w',R (WT wl τ d) v w'->R wl v w')(hC:∀wl,wl.heap.size=w.heap.size->(∀b,o b->wl.heap[b]?=w.heap[b]?)->Calls P f vs wl λe w'=>∃v,e=.returned v/\R wl v w'){Post:Value->aL->ae->Prop}(h:∀wl v bN w',wl.heap.size=w.heap.size->(∀b,o b->wl.heap[b]?=w.heap[b]?)->R wl v bN->mG P L o w w' bN v->Post v (grow o w w') w'):bC P (XB P Fin 0) f vs o w Post:=by
 intro c cs hc;intro RE;show zt P (GH Fin w) 0 (CE Fin o w) _ w;intro w1 mW;obtain⟨dd,rfl⟩:=mW;have lS:bJ P L o (w.at dd):=hF.of_heap rfl;obtain⟨N,hN⟩:=CG o;have hW:=lS.wr hN;have Li:PF P L P.globals.size (nN P L o):=⟨λr hr=>⟨hF.kz r hr,rfl⟩,rfl,rfl,GI hF.kz⟩;have Ej:∀g,(nN P L o).has g->Frame.enter P f vs .normal=frame g (Frame.enter P f vs .normal):=λg hg=>by
  have:=uS g hg;simp only[frame,Frame.enter,Array.map_append,this,Array.map_replicate,mo]
 have SG:Inv P L P.globals.size [gY] (G (Frame.enter P f vs .normal) [gY]) (jA N (w.at dd)) :=
  ⟨nN P L o,_,[],_,[],w.at dd,rfl,uF dp hL _,aj,λg hg=>⟨Ej g hg,rfl⟩,hW,(lS.SQ hN),Li⟩
 have bu:∀b,o b->(jA N (w.at dd)).heap[b]?=w.heap[b]?:=λb hb=>mF N (w.at dd) ((hN b).2 hb);have ew:(jA N (w.at dd)).heap.size=w.heap.size:=lZ _ _;have Jc:Good P (lN P f (R (jA N (w.at dd)))) (G (Frame.enter P f vs .normal) [gY]) (jA N (w.at dd)):=by
  refine wL dp (hR _) SG λτ d=>?_;refine(hC (WT (jA N (w.at dd)) τ d) ew bu).mono ?_;rintro e w' ⟨v,rfl,hv⟩;exact⟨v,rfl,hRW _ _ _ _ _ hv⟩
 have Gv:=IG dp (Bq f _) SG Jc;refine BX.call dp (F:=nN P L o) Gv (λr hr hs=>hs.2.1 hr) ⟨_,[],_,[],rfl,rfl,uF dp hL _,aj,λg hg=>⟨Ej g hg,rfl⟩,hW,(lS.SQ hN),Li,Jc⟩ λv v' F' bN w' hQ hv Jd hm hS=>?_;have pA:=hm.same ew;have Ol:∀r,F'.K r->F'.φ r=r:=λr hr=>by
  rcases pA.2 r hr with h1|h1
  ·exact(hm.φ r h1)
  ·exact h1
 have Lp:w.heap.size<=w'.heap.size:=hm.size;have hK:F'.K=grow o w w':=by
  funext r;simp only[grow,eq_iff_iff];constructor
  ·intro hr;rcases hm.xh r hr with h1|h1
   ·exact .inl h1
   ·refine .inr ⟨by rw[<- ew];exact h1.1,?_⟩;have:=Jd.here r hr;rw[<- pA.1];exact this
  ·rintro(h1|h1)
   ·exact hm.K r h1
   ·obtain⟨r',a,b⟩:=hm.mine r h1.1 h1.2;rw[Ol r' a]at b;exact b▸a
 have hG:F'.G=P.globals.size:=hm.G;have hLL:F'.L=λn=>L n=true:=hm.L;have Mn:∀f,(nN P L (grow o w w')).has f->F'.has f:=λf hf=>⟨hf.inj,λr hr=>by rw[Ol r hr];exact hf.at_ r (hK▸hr),λn hn=>hf.fn n (by rw[hLL]at hn;exact hn),by rw[hG];exact hf.kz⟩;have hid:=Mn Bu Oj;have wM:v'=v:=(hv Bu hid).trans (Bv v);subst wM;have CH:∀b,grow o w w' b->w'.heap[b]?=bN.heap[b]?:=λb hb=>by
  have nD:F'.K b:=hK▸hb;have:=Jd.uu b nD Bu hid;rw[Ol b nD]at this;rw[this];cases bN.heap[b]?<;>simp[Oi]
 have SS:mG P L o w w' bN v':=by
  refine⟨⟨λb hb=>?_,λb hb=>.inl (hF.kz b hb),aS hF.size Lp⟩,CH,λb h1 h2=>?_,pA.1.symm,Lp,λf hf=>(hv f (Mn f hf)).symm,Jd.os.trans (hm.RR.trans rfl),Jd.output.trans (hm.BM.trans rfl)⟩
  ·have nD:F'.K b:=hK▸hb;have cR:=Jd.here b nD;refine⟨bN.heap[b],by rw[CH b hb];exact aO cR,Jd.Rq b nD _ (aO cR),λf hf=>?_⟩;have:=Jd.uu b nD f (Mn f hf);rw[Ol b nD,CH b hb,aO cR,aK]at this;exact(aP this).symm
  ·refine hm.rest b λr hr e=>?_;rw[Ol r hr]at e;subst e;have:grow o w w' r:=hK▸hr;rcases this with h3|h3
   ·exact h2 h3
   ·omega
 have:=hc v' _ w' (h _ v' bN w' ew bu hQ SS);have hx:zt P (GH Fin w') 0 (CE Fin (grow o w w') w') (G (c.finish v') cs) w':=this (RE.up Lp);rw[CF Lp,yF ⟨SS.os,SS.output⟩]at hx;exact hx.bx
end
section
open Go.ConcN.Gen Go.RowKit Go.Conc.Lib Go.ConcR.Gen
open Go.ConcR (KK wgBlock WgAt stA smA rd wr Payload DC0)
variable [Payload]{L:WgLink}
theorem bR{T:dv}{o:Nat->Prop}{w0 w w1:ae}(h:dU T o w0 w/\WgLive T.ty T.Wg w)(r:dU T o w w1):dU T o w0 w1/\WgLive T.ty T.Wg w1:=⟨h.1.trans r,r.wg h.2⟩
theorem Mo{T:dv}(hT:T.OK){o:Nat->Prop}(ho:∀b,o b->T.H0<=b){w0 w:ae}{st sm:Int}(h:dU T o w0 w)(hw:WgAt T.ty T.Wg w st sm)(v:Int):dU T o w0 (w.setCell (stA T.Wg) (.int .u64 v))/\WgLive T.ty T.Wg (w.setCell (stA T.Wg) (.int .u64 v)) :=
 ⟨h.trans (yu hT ho (aside_setCell w (stA T.Wg) _) ⟨_,_,hw.setSt v⟩),⟨_,_,hw.setSt v⟩⟩
theorem VE{T:dv}(hT:T.OK){o:Nat->Prop}(ho:∀b,o b->T.H0<=b){w0 w:ae}{st sm:Int}(h:dU T o w0 w)(hw:WgAt T.ty T.Wg w st sm)(v:Int):dU T o w0 (w.setCell (smA T.Wg) (.int .u32 v))/\WgLive T.ty T.Wg (w.setCell (smA T.Wg) (.int .u32 v)) :=
 ⟨h.trans (yu hT ho (aside_setCell w (smA T.Wg) _) ⟨_,_,hw.setSm v⟩),⟨_,_,hw.setSm v⟩⟩
theorem Ji{T:dv}{o:Nat->Prop}{a:Addr}(h:a.block=T.Wg):∀e,(e=(⟨.mark (.read a),false,true⟩:Event)\/e=(⟨.mark (.write a),false,true⟩:Event))->EvS T o e:=by
 rintro e (rfl|rfl)
 ·refine⟨λb hb _=>?_,aj,aj,aj⟩;simp only[MemAct.ofEvent,MemAct.touch?,ay]at hb;subst hb;exact .inl ⟨h,aj⟩
 ·refine⟨λb hb _=>?_,aj,aj,aj⟩;simp only[MemAct.ofEvent,MemAct.touch?,ay]at hb;subst hb;exact .inl ⟨h,aj⟩
section
variable {P:Program}{T:dv}{V:Nat->ae->Prop}{fH:Nat->(Nat->Prop)->ae->Prop}{cZ Fin:ft}{Next:ft}{o:Nat->Prop}{j:Nat}{w0:ae}
 {Jj:Frame}{Jk:Act}{sA:Array Oper}{Jl:Nat}{rX:List Nat}{sM:List Item}{cs:List Frame}
theorem agY(H:WgLib P L)(hT:T.OK)(ho:∀b,o b->T.H0<=b)(hG:∀w,dU T o w0 w->du P T (SGo P T V fH j Next) o (G (Jj.at (Jk.put ((sA[Jl]?).bind (·.dst)) (.tuple #[])) (.inRegion sA rX::sM)) cs) w)(w:ae)(hF:dU T o w0 w/\WgLive T.ty T.Wg w):
  du P T (L6 P T V fH j Next) o (G ((base L.add).at ⟨#[.pointer (so ⟨T.Wg,0,we⟩),.int .i64 1,undef,undef,undef,undef,undef,undef,undef,undef,undef,undef,undef,undef,undef,undef,undef,undef,undef,undef,undef,undef,undef,undef,undef,undef,undef,undef,undef,undef,undef,undef,undef,undef,undef,undef,undef,undef,undef,undef,undef,undef,undef,undef,undef,undef,undef,undef,undef,undef,undef,undef,undef,undef,undef,undef,undef,undef,undef,undef,undef,undef,undef,undef,undef,undef,undef,undef,undef,undef,undef,undef,undef,undef,undef,undef,undef,undef,undef,undef,undef,undef,undef,undef,undef,undef,undef,undef,undef,undef,undef,undef,undef,undef,undef,undef,undef,undef,undef,undef,undef,undef,undef,undef,undef,undef,undef,undef,undef,undef,undef,undef,undef,undef,undef,undef,undef],[]⟩ [.code (body_add L)]) (Jj.at Jk (.inRegion sA (Jl::rX)::sM)::cs)) w:=by
 lib_facts
 simp only[body_add,addFn,bc];refine du.jW (n:=12) ?_
 u_c aE bR hF
 u_cond true bR hF
 u_c aE bR hF
 u_c aE bR hF
 u_reg bR hF
 u_op bR hF
 u_op bR hF
 u_c ar bR hF
 u_cond false bR hF
 u_c cD bR hF
 u_c aE bR hF
 u_reg bR hF
 refine cx (λw₁ Pt=>du.stop λalY acJ=>?_);replace hF:=bR (bR hF Pt) acJ;clear Pt acJ;refine⟨rfl,_,stepG_mark0 .disable aj rfl rfl (by k_ne) rfl H.f_disable (x_disable_n L) (x_disable_b L) (x_disable_x L) (x_disable_f L),du.jW (n:=40) ?_⟩;walk_nrm
 u_c ar bR hF
 u_reg bR hF
 u_defer bR hF
 u_c ar bR hF
 u_c aE bR hF
 u_reg bR hF
 u_op bR hF
 u_c ar bR hF
 u_c aE bR hF
 u_c aE bR hF
 u_reg bR hF
 u_bub bR hF
 u_c ar bR hF
 u_cond false bR hF
 u_c cD bR hF
 u_c aE bR hF
 u_reg bR hF
 iterate 6 u_op bR hF
 u_call H.f_uAdd (nm_uAdd L) uAddFn bR hF
 u_c aE bR hF
 u_reg bR hF
 u_op bR hF
 u_c ar bR hF
 u_c aE bR hF
 u_reg bR hF
 iterate 4 u_op bR hF
 refine cx (λalZ acK=>du.stop λagZ acL=>?_);replace hF:=bR (bR hF acK) acL;clear acK acL;refine⟨rfl,λv hv hw=>?_⟩;rcases bh v with rfl|hvp
 ·replace hw:WgAt T.ty T.Wg agZ 0 0:=by simpa using hw
  have z:(((0:Nat):Int)+1)*KK=KK:=aj;rw[z];have e0:IntKind.u64.wrap (0+4294967296)=KK:=iG;refine⟨_,(stepG_add_atomic rfl rfl (by k_ne) rfl H.f_addU64 (x_addU64_n L) (x_addU64_b L) (x_addU64_x L) .u64 (x_addU64_f L) rfl rfl hw.cellSt (hw.thaw 0)).trans (by rw[e0];rfl),du.jW (n:=60) ?_⟩;replace hF:=Mo hT ho hF.1 hw KK;clear hw;simp only[KK]at hF |-;walk_nrm
  u_op bR hF
  u_c ar bR hF
  u_c stepG_ret' bR hF
  u_leave1 H.f_uAdd bR hF
  u_op bR hF
  u_c ar bR hF
  u_c aE bR hF
  u_c aE bR hF
  u_reg bR hF
  iterate 4 u_op bR hF
  u_skip bR hF
  u_skip bR hF
  u_op bR hF
  u_c ar bR hF
  u_cond false bR hF
  u_c cD bR hF
  u_c aE bR hF
  u_reg bR hF
  iterate 4 u_op bR hF
  u_c ar bR hF
  u_c aE bR hF
  u_reg bR hF
  iterate 4 u_op bR hF
  u_c ar bR hF
  u_c aE bR hF
  u_c aE bR hF
  u_reg bR hF
  iterate 10 u_op bR hF
  u_c ar bR hF
  u_cond true bR hF
  u_reg bR hF
  iterate 3 u_op bR hF
  u_conv H.underlying_tPU32 H.room_tU32 (WgLive.cell1 hF.2).choose_spec bR hF
  refine cx (λal0 acN=>du.one rfl λal1 acO=>?_);replace hF:=bR (bR hF acN) acO;clear acN acO;refine⟨_,_,stepG_markAt .read aj rfl rfl (by k_ne) rfl H.f_raceRead (x_raceRead_n L) (x_raceRead_b L) (x_raceRead_x L) (x_raceRead_f L) (ad:=⟨T.Wg,1,we⟩) ax,λe he=>?_,du.jW (n:=50) ?_⟩
  ·rw[Array.mem_singleton]at he;exact Ji rfl e (.inl he)
  walk_nrm
  u_c ar bR hF
  u_c aE bR hF
  u_c aE bR hF
  u_reg bR hF
  u_op bR hF
  u_op bR hF
  u_c ar bR hF
  u_cond false bR hF
  u_c cD bR hF
  u_c aE bR hF
  u_c aE bR hF
  u_reg bR hF
  iterate 3 u_op bR hF
  u_skip bR hF
  u_skip bR hF
  u_op bR hF
  u_op bR hF
  iterate 4 u_skip bR hF
  u_op bR hF
  u_c ar bR hF
  u_cond false bR hF
  u_c cD bR hF
  u_c aE bR hF
  u_c aE bR hF
  u_reg bR hF
  iterate 3 u_op bR hF
  u_skip bR hF
  u_skip bR hF
  u_op bR hF
  u_c ar bR hF
  u_cond true bR hF
  u_c stepG_ret' bR hF
  refine cx (λag0 SU=>du.stop λag1 SV=>?_);replace hF:=bR (bR hF SU) SV;clear SU SV;refine⟨rfl,_,stepG_unwind_entry (v:=.tuple #[]) (evs:=#[Go.ConcR.mk .enable]) rfl H.f_enable (x_enable_n L) (x_enable_b L) (x_enable_x L) (x_enable_f L) (by simp[Extern.Race.none_]) (by simp[Go.ConcR.mk]) (by simp[Go.ConcR.mk]),du.jW (n:=2) ?_⟩
  u_leave0 H.f_add bR hF
  exact cx λZn Zo=>hG Zn (hF.1.trans Zo)
 ·obtain⟨Vv,hVv⟩:∃Vv:Int,Vv=(v:Int)+1:=⟨_,rfl⟩;obtain⟨S,hS⟩:∃S:Int,S=Vv*KK:=⟨_,rfl⟩;have eS:IntKind.u64.wrap ((v:Int)*KK+4294967296)=S:=by rw[IntKind.wrap_u64,hS,hVv];simp only[KK];omega
  rw[<- hVv,<- hS];have a1:S/4294967296=Vv:=by rw[hS];simp only[KK];omega
  have b1:bits .and .u64 S 2147483648=0:=by rw[hS,hVv];have:=st_flag (v+1) 0 aa aa;simpa[KK] using this
  have b2:bits .and .u64 S 2147483647=0:=by rw[hS,hVv];have:=st_waiters (v+1) 0 aa aa;simpa[KK] using this
  have c1:IntKind.i32.wrap Vv=Vv:=by rw[IntKind.wrap_i32];omega
  have XM:1<Vv:=aa;have q1:(Vv==1)=false:=eW;have q2:decide (Vv=1)=false:=cz aa;have q3:decide (Vv<0)=false:=cz aa;have q4:decide (0<Vv)=true:=eY aa;have q5:(Vv==0)=false:=eW;have q6:decide (Vv=0)=false:=cz aa;refine⟨_,(stepG_add_atomic rfl rfl (by k_ne) rfl H.f_addU64 (x_addU64_n L) (x_addU64_b L) (x_addU64_x L) .u64 (x_addU64_f L) rfl rfl hw.cellSt (hw.thaw 0)).trans (by rw[eS];rfl),du.jW (n:=110) ?_⟩;replace hF:=Mo hT ho hF.1 hw S;clear hw hS hVv eS;walk_nrm
  u_op bR hF
  u_c ar bR hF
  u_c stepG_ret' bR hF
  u_leave1 H.f_uAdd bR hF
  u_op bR hF
  u_c ar bR hF
  u_c aE bR hF
  u_c aE bR hF
  u_reg bR hF
  iterate 4 u_op bR hF
  u_skip bR hF
  u_skip bR hF
  u_op bR hF
  u_c ar bR hF
  u_cnd false bR hF
  u_c cD bR hF
  u_c aE bR hF
  u_reg bR hF
  iterate 4 u_op bR hF
  u_c ar bR hF
  u_c aE bR hF
  u_reg bR hF
  iterate 4 u_op bR hF
  u_c ar bR hF
  u_c aE bR hF
  u_c aE bR hF
  u_reg bR hF
  iterate 10 u_op bR hF
  u_c ar bR hF
  u_cnd false bR hF
  u_c cD bR hF
  u_c aE bR hF
  u_c aE bR hF
  u_reg bR hF
  u_op bR hF
  u_op bR hF
  u_c ar bR hF
  u_cnd false bR hF
  u_c cD bR hF
  u_c aE bR hF
  u_c aE bR hF
  u_reg bR hF
  iterate 3 u_op bR hF
  u_skip bR hF
  u_skip bR hF
  u_op bR hF
  u_op bR hF
  iterate 4 u_skip bR hF
  u_op bR hF
  u_c ar bR hF
  u_cnd false bR hF
  u_c cD bR hF
  u_c aE bR hF
  u_c aE bR hF
  u_reg bR hF
  iterate 3 u_op bR hF
  u_skip bR hF
  u_skip bR hF
  u_op bR hF
  u_c ar bR hF
  u_cnd true bR hF
  u_c stepG_ret' bR hF
  refine cx (λag0 SU=>du.stop λag1 SV=>?_);replace hF:=bR (bR hF SU) SV;clear SU SV;refine⟨rfl,_,stepG_unwind_entry (v:=.tuple #[]) (evs:=#[Go.ConcR.mk .enable]) rfl H.f_enable (x_enable_n L) (x_enable_b L) (x_enable_x L) (x_enable_f L) (by simp[Extern.Race.none_]) (by simp[Go.ConcR.mk]) (by simp[Go.ConcR.mk]),du.jW (n:=2) ?_⟩
  u_leave0 H.f_add bR hF
  exact cx λZn Zo=>hG Zn (hF.1.trans Zo)
end
end
section
open Go.ConcN.Gen Go.RowKit Go.Conc.Lib Go.ConcR.Gen
open Go.ConcR (KK wgBlock WgAt stA smA rd wr Payload DC0)
theorem CI{w w1:ae}(h:True)(_:AtRel w w1):True:=h
variable [Payload]{L:WgLink}
def Fv(L:WgLink)(T:dv)(w0:ae)(c:Frame)(cs:List Frame):ft:=λo g w =>
 ∃Ts:Array Value,g=G ((base L.wait).at ⟨Ts,[]⟩ [.code (L7 L),.inLoop (L7 L),.inBlock 0]) (c::cs)/\Ts.size=84/\Ts[0]?=so (.pointer (so ⟨T.Wg,0,we⟩))/\(dU T o w0 w/\WgLive T.ty T.Wg w)/\∀b,o b->T.H0<=b
def P2(P:Program)(T:dv)(w0:ae)(g1:aY):ft:=λo g w=>dU T o w0 w/\∃n,Goes P true AtRel DC0 (λg' _=>g'=g1) n g w
section
variable {P:Program}{T:dv}{V:Nat->ae->Prop}{fH:Nat->(Nat->Prop)->ae->Prop}{o:Nat->Prop}{w0:ae}
 {Jj:Frame}{Jk:Act}{sA:Array Oper}{Jl:Nat}{rX:List Nat}{sM:List Item}{cs:List Frame}
theorem Mp(H:WgLib P L)(hT:T.OK)(g:aY)(w:ae)(h:Fv L T w0 (Jj.at Jk (.inRegion sA (Jl::rX)::sM)) cs o g w):
  du P T (Rz P T (Fv L T w0 (Jj.at Jk (.inRegion sA (Jl::rX)::sM)) cs) (P2 P T w0 (G (Jj.at (Jk.put ((sA[Jl]?).bind (·.dst)) (.tuple #[])) (.inRegion sA rX::sM)) cs))) o g w:=by
 lib_facts
 obtain⟨Ts,rfl,ag2,t0,hF,ho⟩:=h;obtain⟨v0,v1,v2,v3,v4,v5,v6,v7,v8,v9,v10,v11,v12,v13,v14,v15,v16,v17,v18,v19,v20,v21,v22,v23,v24,v25,v26,v27,v28,v29,v30,v31,v32,v33,v34,v35,v36,v37,v38,v39,v40,v41,v42,v43,v44,v45,v46,v47,v48,v49,v50,v51,v52,v53,v54,v55,v56,v57,v58,v59,v60,v61,v62,v63,v64,v65,v66,v67,v68,v69,v70,v71,v72,v73,v74,v75,v76,v77,v78,v79,v80,v81,v82,v83,rfl⟩:=array84 Ts ag2;simp only[List.getElem?_toArray,List.getElem?_cons_zero,ay]at t0;subst t0;refine du.jW (n:=30) ?_;simp only[L7,body_wait,waitFn,bc]
 u_c fJ bR hF
 u_c aE bR hF
 u_reg bR hF
 iterate 3 u_op bR hF
 u_call H.f_uLoad (nm_uLoad L) uLoadFn bR hF
 u_c aE bR hF
 u_reg bR hF
 u_op bR hF
 u_c ar bR hF
 u_c aE bR hF
 u_reg bR hF
 iterate 3 u_op bR hF
 refine cx (λwA1 P4=>du.stop λwA2 Jm=>?_);replace hF:=bR (bR hF P4) Jm;clear P4 Jm;refine⟨rfl,λv hv hw=>?_⟩;rcases bh v with rfl|hvp
 ·replace hw:WgAt T.ty T.Wg wA2 0 0:=by simpa using hw
  refine⟨_,stepG_load_atomic (v:=0) rfl rfl (by k_ne) rfl H.f_loadU64 (x_loadU64_n L) (x_loadU64_b L) (x_loadU64_x L) .u64 (x_loadU64_f L) rfl hw.cellSt,λ_=>du.jW (n:=50) ?_,λh=>absurd rfl h⟩;clear hw;walk_nrm
  u_op bR hF
  u_c ar bR hF
  u_c stepG_ret' bR hF
  u_leave1 H.f_uLoad bR hF
  u_op bR hF
  u_c ar bR hF
  u_c aE bR hF
  u_reg bR hF
  iterate 4 u_op bR hF
  u_c ar bR hF
  u_c aE bR hF
  u_reg bR hF
  iterate 4 u_op bR hF
  u_c ar bR hF
  u_c aE bR hF
  u_c aE bR hF
  u_reg bR hF
  u_op bR hF
  u_op bR hF
  u_c ar bR hF
  u_cond true bR hF
  u_c aE bR hF
  u_cond true bR hF
  u_c aE bR hF
  u_reg bR hF
  refine cx (λwE1 hE1=>du.stop λwE2 hE2=>?_);replace hF:=bR (bR hF hE1) hE2;clear hE1 hE2;refine⟨rfl,_,stepG_mark0 .enable aj rfl rfl (by k_ne) rfl H.f_enable (x_enable_n L) (x_enable_b L) (x_enable_x L) (x_enable_f L),du.jW (n:=12) ?_⟩;walk_nrm
  u_c ar bR hF
  u_reg bR hF
  u_op bR hF
  u_conv H.underlying_tWgP H.room_tWg (WgLive.cell0 hF.2).choose_spec bR hF
  refine cx (λwF1 lS=>du.stop λwF2 rK=>?_);replace hF:=bR (bR hF lS) rK;clear lS rK;refine⟨rfl,_,stepG_markAt .acquire aj rfl rfl (by k_ne) rfl H.f_acquire (x_acquire_n L) (x_acquire_b L) (x_acquire_x L) (x_acquire_f L) (by simp[Act.eval,stA]),hF.1,30,?_⟩;walk_nrm;have hu:True:=trivial
  u_c ar CI hu
  u_c aE CI hu
  u_c aE CI hu
  u_reg CI hu
  iterate 8 u_op CI hu
  u_skip CI hu
  u_skip CI hu
  u_op CI hu
  u_c ar CI hu
  u_cond false CI hu
  u_c cD CI hu
  u_c stepG_ret' CI hu
  u_leave0 H.f_wait CI hu
  exact cx λ_ _=>rfl
 ·obtain⟨S,hS⟩:∃S:Int,(v:Int)*KK=S:=⟨_,rfl⟩;have a1:S/4294967296=(v:Int):=by rw[<- hS];simp only[KK];omega
  have b1:bits .and .u64 S 2147483648=0:=by rw[<- hS];have:=st_flag v 0 aa aa;simpa[KK] using this
  have b2:bits .and .u64 S 2147483647=0:=by rw[<- hS];have:=st_waiters v 0 aa aa;simpa[KK] using this
  have c1:IntKind.i32.wrap (v:Int)=(v:Int):=by rw[IntKind.wrap_i32];omega
  have w1:IntKind.u64.wrap (S+1)=S+1:=by rw[IntKind.wrap_u64,<- hS];simp only[KK];omega
  have q3:decide ((v:Int)<0)=false:=cz aa;have q4:decide (0<(v:Int))=true:=eY aa;have q5:((v:Int)==0)=false:=eW;have q6:decide ((v:Int)=0)=false:=cz aa;rw[hS]at hw;refine⟨_,stepG_load_atomic (v:=S) rfl rfl (by k_ne) rfl H.f_loadU64 (x_loadU64_n L) (x_loadU64_b L) (x_loadU64_x L) .u64 (x_loadU64_f L) rfl hw.cellSt,λh0=>absurd h0 aa,λ_=>du.jW (n:=60) ?_⟩;clear hw;walk_nrm
  u_op bR hF
  u_c ar bR hF
  u_c stepG_ret' bR hF
  u_leave1 H.f_uLoad bR hF
  u_op bR hF
  u_c ar bR hF
  u_c aE bR hF
  u_reg bR hF
  iterate 4 u_op bR hF
  u_c ar bR hF
  u_c aE bR hF
  u_reg bR hF
  iterate 4 u_op bR hF
  u_c ar bR hF
  u_c aE bR hF
  u_c aE bR hF
  u_reg bR hF
  u_op bR hF
  u_op bR hF
  u_c ar bR hF
  u_cnd false bR hF
  u_c cD bR hF
  u_c aE bR hF
  u_reg bR hF
  iterate 6 u_op bR hF
  u_call H.f_uCas (nm_uCas L) uCasFn bR hF
  u_c aE bR hF
  u_reg bR hF
  u_op bR hF
  u_c ar bR hF
  u_c aE bR hF
  u_reg bR hF
  iterate 5 u_op bR hF
  refine cx (λwB1 hB1=>du.stop λwB2 U0=>?_);replace hF:=bR (bR hF hB1) U0;clear hB1 U0;refine⟨rfl,λv' wM hw=>⟨λe=>?_,λe=>?_⟩⟩
  ·subst e;rw[hS]at hw |-;refine⟨_,(stepG_cas_hit (v:=S) (n:=S+1) rfl rfl (by k_ne) rfl H.f_casU64 (x_casU64_n L) (x_casU64_b L) (x_casU64_x L) .u64 (x_casU64_f L) rfl rfl rfl hw.cellSt (hw.thaw 0)).trans aG,du.jW (n:=70) ?_⟩;replace hF:=Mo hT ho hF.1 hw (S+1);clear hw;walk_nrm
   u_op bR hF
   u_c ar bR hF
   u_c stepG_ret' bR hF
   u_leave1 H.f_uCas bR hF
   u_c ar bR hF
   u_cond true bR hF
   u_c aE bR hF
   u_c aE bR hF
   u_reg bR hF
   iterate 4 u_op bR hF
   u_c ar bR hF
   u_cond true bR hF
   u_reg bR hF
   iterate 3 u_op bR hF
   u_conv H.underlying_tPU32 H.room_tU32 (WgLive.cell1 hF.2).choose_spec bR hF
   refine cx (λwC1 hC1=>du.one rfl λwC2 hC2=>?_);replace hF:=bR (bR hF hC1) hC2;clear hC1 hC2;refine⟨_,_,stepG_markAt .write aj rfl rfl (by k_ne) rfl H.f_raceWrite (x_raceWrite_n L) (x_raceWrite_b L) (x_raceWrite_x L) (x_raceWrite_f L) (ad:=⟨T.Wg,1,we⟩) (by simp[Act.eval]<;>rfl),λe he=>?_,du.jW (n:=50) ?_⟩
   ·rw[Array.mem_singleton]at he;exact Ji rfl e (.inr he)
   u_c ar bR hF
   u_c aE bR hF
   u_reg bR hF
   u_op bR hF
   u_c ar bR hF
   u_c aE bR hF
   u_c aE bR hF
   u_reg bR hF
   iterate 4 u_op bR hF
   u_skip bR hF
   u_op bR hF
   u_c ar bR hF
   u_cond false bR hF
   u_c cD bR hF
   u_c aE bR hF
   u_reg bR hF
   iterate 4 u_op bR hF
   refine cx (λwD1 hD1=>du.stop λwD2 hD2=>?_);replace hF:=bR (bR hF hD1) hD2;clear hD1 hD2;refine⟨rfl,rfl,λ⟨st,hw⟩=>stepG_semacquire_wait rfl rfl rfl H.f_semacquire (x_semacquire_n L) (x_semacquire_b L) (x_semacquire_x L) (x_semacquire_f L) (by simp[Act.eval,smA]) hw.cellSm,λhf=>?_⟩;refine⟨_,(stepG_semacquire (n:=1) rfl rfl (by k_ne) rfl H.f_semacquire (x_semacquire_n L) (x_semacquire_b L) (x_semacquire_x L) (x_semacquire_f L) (by simp[Act.eval,smA]) hf.cellSm (by k_ne) (hf.thaw 1)).trans aG,du.jW (n:=30) ?_⟩;replace hF:=VE hT ho hF.1 hf 0;clear hf;walk_nrm
   u_c ar bR hF
   u_c aE bR hF
   u_reg bR hF
   iterate 3 u_op bR hF
   u_call H.f_uLoad (nm_uLoad L) uLoadFn bR hF
   u_c aE bR hF
   u_reg bR hF
   u_op bR hF
   u_c ar bR hF
   u_c aE bR hF
   u_reg bR hF
   iterate 3 u_op bR hF
   refine cx (λwG1 hG1=>du.stop λwG2 hG2=>?_);replace hF:=bR (bR hF hG1) hG2;clear hG1 hG2;refine⟨rfl,λhw=>⟨_,stepG_load_atomic (v:=0) rfl rfl (by k_ne) rfl H.f_loadU64 (x_loadU64_n L) (x_loadU64_b L) (x_loadU64_x L) .u64 (x_loadU64_f L) rfl hw.cellSt,du.jW (n:=30) ?_⟩⟩;clear hw;walk_nrm
   u_op bR hF
   u_c ar bR hF
   u_c stepG_ret' bR hF
   u_leave1 H.f_uLoad bR hF
   u_op bR hF
   u_op bR hF
   u_c ar bR hF
   u_c aE bR hF
   u_cond true bR hF
   u_c aE bR hF
   u_reg bR hF
   refine cx (λwE1 hE1=>du.stop λwE2 hE2=>?_);replace hF:=bR (bR hF hE1) hE2;clear hE1 hE2;refine⟨rfl,_,stepG_mark0 .enable aj rfl rfl (by k_ne) rfl H.f_enable (x_enable_n L) (x_enable_b L) (x_enable_x L) (x_enable_f L),du.jW (n:=12) ?_⟩;walk_nrm
   u_c ar bR hF
   u_reg bR hF
   u_op bR hF
   u_conv H.underlying_tWgP H.room_tWg (WgLive.cell0 hF.2).choose_spec bR hF
   refine cx (λwF1 lS=>du.stop λwF2 rK=>?_);replace hF:=bR (bR hF lS) rK;clear lS rK;refine⟨rfl,_,stepG_markAt .acquire aj rfl rfl (by k_ne) rfl H.f_acquire (x_acquire_n L) (x_acquire_b L) (x_acquire_x L) (x_acquire_f L) (by simp[Act.eval,stA]),hF.1,30,?_⟩;walk_nrm;have hu:True:=trivial
   u_c ar CI hu
   u_c aE CI hu
   u_c aE CI hu
   u_reg CI hu
   u_op CI hu
   u_c ar CI hu
   u_cond false CI hu
   u_c cD CI hu
   u_c stepG_ret' CI hu
   u_leave0 H.f_wait CI hu
   exact cx λ_ _=>rfl
  ·refine⟨_,stepG_cas_miss (v:=(v':Int)*KK) (old:=S) (n:=S+1) rfl rfl (by k_ne) rfl H.f_casU64 (x_casU64_n L) (x_casU64_b L) (x_casU64_x L) .u64 (x_casU64_f L) rfl rfl rfl hw.cellSt (hw.thaw 0) (by rw[<- hS];simp only[KK];omega),du.jW (n:=20) ?_⟩;clear hw;walk_nrm
   u_op bR hF
   u_c ar bR hF
   u_c stepG_ret' bR hF
   u_leave1 H.f_uCas bR hF
   u_c ar bR hF
   u_cond false bR hF
   u_c cD bR hF
   u_c gX bR hF
   u_c jq bR hF
   exact cx (λwH hH=>du.stop λwI hI=>⟨_,rfl,aj,aj,bR (bR hF hH) hI,ho⟩)
theorem Mq(H:WgLib P L)(ho:∀b,o b->T.H0<=b)(w:ae)(hF:dU T o w0 w/\WgLive T.ty T.Wg w):
  du P T (RA P T (Fv L T w0 (Jj.at Jk (.inRegion sA (Jl::rX)::sM)) cs)) o
   (G ((base L.wait).at ⟨#[.pointer (so ⟨T.Wg,0,we⟩),undef,undef,undef,undef,undef,undef,undef,undef,undef,undef,undef,undef,undef,undef,undef,undef,undef,undef,undef,undef,undef,undef,undef,undef,undef,undef,undef,undef,undef,undef,undef,undef,undef,undef,undef,undef,undef,undef,undef,undef,undef,undef,undef,undef,undef,undef,undef,undef,undef,undef,undef,undef,undef,undef,undef,undef,undef,undef,undef,undef,undef,undef,undef,undef,undef,undef,undef,undef,undef,undef,undef,undef,undef,undef,undef,undef,undef,undef,undef,undef,undef,undef,undef],[]⟩ [.code (body_wait L)]) (Jj.at Jk (.inRegion sA (Jl::rX)::sM)::cs)) w:=by
 lib_facts
 simp only[body_wait,waitFn,bc];refine du.jW (n:=3) ?_
 u_c aE bR hF
 u_cond true bR hF
 u_reg bR hF
 refine cx (λwA1 P4=>du.stop λwA2 Jm=>?_);replace hF:=bR (bR hF P4) Jm;clear P4 Jm;refine⟨rfl,_,stepG_mark0 .disable aj rfl rfl (by k_ne) rfl H.f_disable (x_disable_n L) (x_disable_b L) (x_disable_x L) (x_disable_f L),du.jW (n:=3) ?_⟩;walk_nrm
 u_c ar bR hF
 u_c fJ bR hF
 u_c kE bR hF
 exact cx (λwH hH=>du.stop λwI hI=>⟨_,rfl,aj,aj,bR (bR hF hH) hI,ho⟩)
end
end
section
open Go.ConcR (DC0)
section
variable {P:Program}{Fin:br}{d:Nat}{S:Nat->Prop}{g:aY}{w:ae}
theorem ny.more{S':Nat->Prop}{t:Trace}(h:ny d S t)(hS:∀b,S b->S' b):ny d S' t :=
 ⟨h.clean,λi a ha hm=>(h.known i a ha hm).imp id λ⟨h1,h2⟩=>⟨by cases hl:a.loc<;>rw[hl]at h1<;>first|exact hS _ h1|exact h1,h2⟩,h.over,h.deaf⟩
theorem BX.less{S':Nat->Prop}(h:BX P Fin d S' g w)(hS:∀b,S b->S' b)(hb:∀b,w.heap.size<=b->¬S' b):BX P Fin d S g w :=
 λgs sl t q h0 hL hP _=>h gs sl t q h0 hL (hP.more hS) hb
theorem zt.jW{g1:aY}:∀{n:Nat} {g:aY} {w:ae},Goes P true AtRel DC0 (λg' _=>g'=g1) n g w->zt P Fin d S g1 w->zt P Fin d S g w:=by
 intro n
 induction n with
 |zero =>
  intro g w h hx;have:=h w (atRel_refl w);exact this▸hx
 |succ n ih =>
  intro g w h hx;rcases h with h|⟨hs,h⟩
  ·have:=h w (atRel_refl w);exact this▸hx
  ·refine zt.step hs λw1 hw=>?_;have:=h w1 hw;cases hg:stepG P true g w1 with
   |go g' w' es =>
    rw[hg,goes_go]at this;obtain⟨⟨rfl,rfl⟩,hG⟩:=this;exact⟨g',w',#[],rfl,aj,af _,ih hG (hx.rely hw)⟩
   |_=>rw[hg]at this;exact this.elim
variable [Go.ConcR.Payload]
theorem BX.acS(h:∀m0 T0,0<m0->∃(T:dv) (V:Nat->ae->Prop) (fH:Nat->(Nat->Prop)->ae->Prop) (cZ P2:ft) (o0:Nat->Prop),T.m0=m0/\T.T0=T0/\T.OK/\kX T V fH/\T.n<2147483648/\T.Shun=uJ S /\
   (∀o g w,cZ o g w->du P T (Rz P T cZ P2) o g w)/\jC P T V fH cZ T.n o0 g w/\(∀b,o0 b->T.H0<=b/\b<w.heap.size)/\T.H0<=w.heap.size/\Go.ConcR.WgAt T.ty T.Wg w 0 0 /\
   (∀k,k<T.n->∃s r tm,w.heap[T.ch k]?=so (.chan 0 #[] false s r tm))/\(∀k,k<T.n->T.Idle k w) /\
   (∀o g' w',P2 o g' w'->(∀i,i<T.n->V i w'/\∃(oi:Nat->Prop) (C:Nat),fH i (λb=>oi b/\b≠C) w'/\∀b,oi b->T.H0<=b/\b<w'.heap.size)->dU T (λ_=>False) w w'->(∀b,o b->T.H0<=b/\b<w'.heap.size) ->
    (∀b cs ty fz,T.Sh b->w.heap[b]?=so (.cells cs ty fz)->∃tQ,w'.heap[b]?=so (.cells tQ ty fz)/\tQ.size=cs.size)->(∀k,k<T.n->∃c s r tm,w'.heap[T.ch k]?=so (.chan 0 #[] c s r tm))->BX P Fin 0 (λb=>S b\/b=T.Wg) g' w')):BX P Fin 0 S g w:=by
 intro gs sl t q h0 hL hP hS;obtain⟨B,hB⟩:=hP.Sj;have oh:0<gs.size:=(aI.1 h0).1;obtain⟨T,V,fH,cZ,P2,o0,e1,e2,hT,hV,hn,tZ,XO,fe,UW,hH,pS,IE,SA,SB⟩:=h gs.size t.size oh;obtain⟨N,ij,w',su,t',k1,o,g',q',B',j1,j2,j3,j4,j5,j6,j7,j8,j9,j10,j11⟩:=PU (T:=T) hT hV hn XO tZ (B:=B+0) (gs:=gs) (sl:=sl) (t:=t) (q:=q) e1.symm h0 hL (by rw[tZ];exact hB 0) e2.symm fe UW hH pS IE SA;have VF:T.Wg<T.H0:=hT.wg;obtain⟨N2,Zf,w2,Sd,t2,q2,S2,g2,l1,l2⟩:=SB o g' w' j3 j7 j8 j9 j10 j11 ij su t' q' j2 j4 (ny.of j5) (λb hb=>by
  rintro(h|rfl)
  ·exact hS b (aS j8.size hb) h
  ·have:=j8.size;omega)
 exact⟨N+N2,Zf,w2,Sd,t2,q2,S2,g2,by rw[runNT_add,k1];exact l1,l2⟩
section
variable {T:dv}{cZ Fw F F':ft}{o:Nat->Prop}
theorem PE.mono(hF:∀o g w,F o g w->F' o g w){o:Nat->Prop}{g:aY}{w:ae}:PE P T F o g w->PE P T F' o g w:=λ⟨a,g',b,c⟩=>⟨a,g',b,hF _ _ _ c⟩
theorem XE.mono(hF:∀o g w,F o g w->F' o g w){o:Nat->Prop}{g:aY}{w:ae}:XE P T F o g w->XE P T F' o g w:=λ⟨a,g',b,c⟩=>⟨a,g',b,c.mono λ_ _ _=>PE.mono hF⟩
theorem SW4.mono(hF:∀o g w,F o g w->F' o g w){o:Nat->Prop}{g:aY}{w:ae}:SW4 P T F o g w->SW4 P T F' o g w:=λ⟨a,h⟩=>⟨a,λx=>let ⟨g',b,c⟩:=h x;⟨g',b,c.mono λ_ _ _=>XE.mono hF⟩⟩
theorem Y3.mono(hF:∀o g w,F o g w->F' o g w){o:Nat->Prop}{g:aY}{w:ae}:Y3 P T F o g w->Y3 P T F' o g w:=λ⟨a,b,c,d⟩=>⟨a,b,c,λx=>let ⟨g',e,f⟩:=d x;⟨g',e,f.mono λ_ _ _=>SW4.mono hF⟩⟩
theorem SW2.mono(hA:∀o g w,cZ o g w->Fw o g w)(hF:∀o g w,F o g w->F' o g w){vs:Nat}{o:Nat->Prop}{g:aY}{w:ae}:SW2 P T cZ F vs o g w->SW2 P T Fw F' vs o g w:=λ⟨a,h⟩ =>
 ⟨a,λv hv hw=>⟨λe=>let ⟨g',x,y⟩:=(h v hv hw).1 e;⟨g',x,y.mono λ_ _ _=>Y3.mono hF⟩,λe=>let ⟨g',x,y⟩:=(h v hv hw).2 e;⟨g',x,y.mono hA⟩⟩⟩
theorem Rz.mono(hA:∀o g w,cZ o g w->Fw o g w)(hF:∀o g w,F o g w->F' o g w){o:Nat->Prop}{g:aY}{w:ae}:Rz P T cZ F o g w->Rz P T Fw F' o g w:=λ⟨a,h⟩ =>
 ⟨a,λv hv hw=>let ⟨g',x,y,z⟩:=h v hv hw;⟨g',x,λe=>(y e).mono λ_ _ _=>XE.mono hF,λe=>(z e).mono λ_ _ _=>SW2.mono hA hF⟩⟩
theorem RA.mono(hA:∀o g w,cZ o g w->Fw o g w){o:Nat->Prop}{g:aY}{w:ae}:RA P T cZ o g w->RA P T Fw o g w:=λ⟨a,g',b,c⟩=>⟨a,g',b,c.mono hA⟩
end
end
section
variable {P:Program}{m:Bool}{R:aL->ae->ae->Prop}{Gu:aL->ae->ae->Array Event->Prop}{X:aL->aY->ae->Prop}{b:Frame}{a:Act}{k:List Item}{cs:List Frame}{o:aL}{w:ae}{ops:Array Oper}{i:Nat}{rest:List Nat}{op:Oper}
theorem still_at(W:gj P m R Gu X){S:ae->Prop}(hS:∀w1,R o w w1->S w1)(ho:ops[i]?=so op)(hw:Region.wanted op (yielded ops a.tmps)=true)(hk:b.kind≠.early)(hg:∀w1,S w1->Gu o w1 w1 (listed P b.fn a op w1))(h:∀w1,S w1->∀K:Act->ae->Prop,(∀a',X o (G (b.at a' (.inRegion ops rest::k)) cs) w->K a' w1)->uponK op a K ((execOp a.eval op).run P w1)):X o (G (b.at a (.inRegion ops (i::rest)::k)) cs) w:=by
 refine W.step o _ w rfl λw1 h1=>?_;have:=h w1 (hS w1 h1) (λa' w'=>w'=w1/\X o (G (b.at a' (.inRegion ops rest::k)) cs) w) λ_ x=>⟨rfl,x⟩;revert this;cases hr:(execOp a.eval op).run P w1 with
 |ok x w' =>
  cases x with
  |value v=>intro q;simp only[uponK_value]at q;obtain⟨rfl,q⟩:=q;exact⟨_,_,_,dP ho hw hk hr,hg _ (hS _ h1),by rw[cp];exact W.rely _ _ _ _ q h1⟩
  |skip=>intro q;simp only[uponK_skip]at q;obtain⟨rfl,q⟩:=q;exact⟨_,_,_,jl ho hw hk hr,hg _ (hS _ h1),by rw[cp];exact W.rely _ _ _ _ q h1⟩
  |_=>intro q;exact q.elim
 |halt _ _=>intro q;exact q.elim
theorem VG(W:gj P m R Gu X)(ho:ops[i]?=so op)(_hn:GF op.op=true)(hw:Region.wanted op (yielded ops a.tmps)=true)(hk:b.kind≠.early)(hg:∀w1,(execOp a.eval op).events P w1 #[]=#[])(h:∀w1,∀K:Act->ae->Prop,(∀a',X o (G (b.at a' (.inRegion ops rest::k)) cs) w->K a' w1)->uponK op a K ((execOp a.eval op).run P w1)):X o (G (b.at a (.inRegion ops (i::rest)::k)) cs) w :=
 still_at W (S:=λ_=>True) (λ_ _=>trivial) ho hw hk (λw1 _=>by rw[listed_nil (hg w1)];exact W.idle _ _) (λw1 _=>h w1)
end
theorem SW{P:Program}{main:Bool}{b:Frame}{a:Act}{k:List Item}{cs:List Frame}{w:ae}{ops:Array Oper}{i:Nat}{rest:List Nat}{op:Oper}{d:Deferred}{f:Fn}{c:Array Value}(ho:ops[i]?=so op)(hw:Region.wanted op (yielded ops a.tmps)=true)(hk:b.kind≠.early)(hr:(execOp a.eval op).run P w=.ok (.spawn d) w)(he:(execOp a.eval op).events P w #[]=#[])(hd:d.target=.fn f c){dd:Option Tmp}(hdd:op.dst=dd):
  stepG P main (G (b.at a (.inRegion ops (i::rest)::k)) cs) w=.spawn (G (b.at (a.put dd undef) (.inRegion ops rest::k)) cs) (born P d) w #[]:=by
 subst hdd;rw[stepG_spawn ho hw hk hr hd,listed_nil he]
section
variable {P:Program}{T:dv}{Stop:ft}{b:Frame}{a:Act}{k:List Item}{cs:List Frame}{o:aL}{w:ae}{ops:Array Oper}{i:Nat}{rest:List Nat}{op:Oper}
theorem Mr(ho:ops[i]?=so op)(hw:Region.wanted op (yielded ops a.tmps)=true)(hk:b.kind≠.early){d:Option Tmp}(hd:op.dst=d)(x:Obj)(cG:∀w1,(execOp a.eval op).run P w1=.ok (.value (.pointer (so ⟨w1.heap.size,0,we⟩))) (w1.alloc x))(jg:∀w1,(execOp a.eval op).events P w1 #[]=#[])(h:∀w1,dU T o w w1->du P T Stop (λb=>o b\/b=w1.heap.size) (G (b.at (a.put d (.pointer (so ⟨w1.heap.size,0,we⟩))) (.inRegion ops rest::k)) cs) (w1.alloc x)):du P T Stop o (G (b.at a (.inRegion ops (i::rest)::k)) cs) w:=by
 subst hd;refine du.step rfl λw1 h1=>⟨_,_,_,dP ho hw hk (cG w1),⟨aj,λb hb _=>RowKit.Below.heap_alloc w1 x b hb,rfl,rfl⟩,by rw[listed_nil (jg w1)];simp,?_⟩;rw[show grow o w1 (w1.alloc x)=λb=>o b\/b=w1.heap.size from vA o w1 x];exact h w1 h1
theorem Ms(A:Nat)(hA:o A)(ho:ops[i]?=so op)(hw:Region.wanted op (yielded ops a.tmps)=true)(hk:b.kind≠.early){d:Option Tmp}(hd:op.dst=d){f:ae->ae}(hf:∀w1,iH A w1 (f w1))(cG:∀w1,w1.heap[A]?=w.heap[A]?->(execOp a.eval op).run P w1=.ok .skip (f w1))(jg:∀w1,w1.heap[A]?=w.heap[A]?->∀e∈(execOp a.eval op).events P w1 #[],∃ad wt sy,e=⟨.cell ad,wt,sy⟩/\ad.block=A)(h:∀w1,dU T o w w1->du P T Stop o (G (b.at (a.put d undef) (.inRegion ops rest::k)) cs) (f w1)):du P T Stop o (G (b.at a (.inRegion ops (i::rest)::k)) cs) w:=by
 subst hd;refine du.step rfl λw1 h1=>⟨_,_,_,jl ho hw hk (cG w1 (h1.own A hA)),⟨cF (hf w1).size.symm,λb hb hn=>(hf w1).heap b λe=>hn (e▸hA),(hf w1).os,(hf w1).output⟩,λe he=>?_,?_⟩
 ·obtain⟨ad,wt,sy,rfl,e2⟩:=jg w1 (h1.own A hA) e (mem_listed he);refine⟨λx hx _=>.inr (.inl ⟨A,.inl hA,?_⟩),aj,aj,aj⟩;simp only[MemAct.ofEvent,MemAct.touch?,ay]at hx;subst hx;exact e2
 ·rw[iw o (hf w1).size];exact h w1 h1
end
section
variable {P:Program}{Fin:br}{d:Nat}{b:Frame}{a:Act}{k:List Item}{cs:List Frame}{o:aL}{w:ae}{ops:Array Oper}{i:Nat}{rest:List Nat}{op:Oper}
theorem vD(ho:ops[i]?=so op)(hw:Region.wanted op (yielded ops a.tmps)=true)(hk:b.kind≠.early){dd:Option Tmp}(hd:op.dst=dd)(x:Obj)(f:Nat->Value)(cG:∀w1,(execOp a.eval op).run P w1=.ok (.value (f w1.heap.size)) (w1.alloc x))(jg:∀w1,(execOp a.eval op).events P w1 #[]=#[])(h:XB P Fin d (λb=>o b\/b=w.heap.size) (G (b.at (a.put dd (f w.heap.size)) (.inRegion ops rest::k)) cs) (w.alloc x)):XB P Fin d o (G (b.at a (.inRegion ops (i::rest)::k)) cs) w:=by
 subst hd;refine bZ.step o _ w rfl λw1 h1=>⟨_,_,_,dP ho hw hk (cG w1),⟨by rw[listed_nil (jg w1)];simp,aj,rfl,rfl⟩,?_⟩;obtain⟨dd,rfl⟩:=h1;rw[show grow o (w.at dd) ((w.at dd).alloc x)=λb=>o b\/b=w.heap.size from vA o (w.at dd) x];exact bZ.rely _ _ _ ((w.alloc x).at dd) h ⟨dd,rfl⟩
end
end
section
variable {P:Program}{Fin:br}{d:Nat}{b:Frame}{a:Act}{k:List Item}{cs:List Frame}{o:aL}{w:ae}{ops:Array Oper}{i:Nat}{rest:List Nat}{op:Oper}{f:FuncId}{fn:Func}{tf:Array TypeId}{as:Array Operand}{e:Array Value->Sem Value}
def Jn{x:Event}(h:x.sync=true):XT o x:=by
 obtain⟨loc,wt,sy⟩:=x;simp only at h;subst h;intro y hy ad hl hk;cases loc with
 |cell c=>simp only[MemAct.ofEvent,MemAct.touch?,ay]at hy;subst hy;simp at hk
 |obj c=>cases wt<;>simp[MemAct.ofEvent,MemAct.touch?]at hy<;>subst hy<;>simp at hk
 |output=>simp only[MemAct.ofEvent,MemAct.touch?,ay]at hy;subst hy;simp at hk
 |goroutines=>simp only[MemAct.ofEvent,MemAct.touch?,ay]at hy;subst hy;simp at hk
 |mark m=>cases m<;>simp[MemAct.ofEvent,MemAct.touch?]at hy<;>subst hy<;>simp at hk
def tw{ad:Addr}{wt sy:Bool}(h:o ad.block):XT o ⟨.cell ad,wt,sy⟩:=by
 intro y hy c hl hk;simp only[MemAct.ofEvent,MemAct.touch?,ay]at hy;subst hy;cases hl;exact h
def Om{r:Nat}{wt sy:Bool}:XT o ⟨.obj r,wt,sy⟩:=by
 intro y hy c hl hk;cases wt<;>cases sy<;>simp[MemAct.ofEvent,MemAct.touch?]at hy<;>subst hy<;>cases hl
def zL(ho:ops[i]?=so op)(hw:Region.wanted op (yielded ops a.tmps)=true)(hk:b.kind≠.early)(fD:op.op=.call {callee:=.value (.func f),args:=as,argTypes:=tf})(hf:P.funcs[f]?=so fn)(iB:(fn.name == "runtime.NumGoroutine")=false)(hb:fn.body.isNone=true)(hn:Extern.findNext fn=we)(he:Extern.find fn=so e){v:Value}{t:ae->ae}{evs:Array Event}{dd:Option Tmp}(hd:op.dst=dd)(mW:∀n,t (w.at n)=(t w).at n)(ew:(t w).heap.size=w.heap.size)(cG:∀n,(e (as.map a.eval)).run P (w.at n)=.ok v (t (w.at n)))(jg:∀n,(e (as.map a.eval)).events P (w.at n) #[⟨.mark (.extern f),false,true⟩]=#[⟨.mark (.extern f),false,true⟩]++evs)(hs:∀x∈evs,x.sync=true/\(∀g,x.loc≠.mark (.extern g))/\x.loc≠.mark .disable/\x.loc≠.mark .enable)(h:XB P Fin d o (G (b.at (a.put dd v) (.inRegion ops rest::k)) cs) (t w))(Sl:(t w).os=w.os/\(t w).output=w.output:=by exact⟨rfl,rfl⟩):XB P Fin d o (G (b.at a (.inRegion ops (i::rest)::k)) cs) w:=by
 subst hd;refine bZ.step o _ w rfl λw1 h1=>?_;obtain⟨n,rfl⟩:=h1;refine⟨_,_,_,stepG_entry ho hw hk fD hf iB hb hn he (cG n) (jg n) (λx hx=>⟨(hs x hx).1,(hs x hx).2.1⟩),⟨λx hx=>⟨Jn (hs x hx).1,(hs x hx).2.2⟩,?_,?_⟩,?_⟩
 ·rw[mW n];exact cF ew.symm
 ·rw[mW n];exact Sl
 ·rw[iw o (by rw[mW n];exact ew),mW n];exact bZ.rely _ _ _ _ h ⟨n,rfl⟩
def yG(m:Mark)(hm:m=.disable\/m=.enable)(ho:ops[i]?=so op)(hw:Region.wanted op (yielded ops a.tmps)=true)(hk:b.kind≠.early)(fD:op.op=.call {callee:=.value (.func f),args:=as,argTypes:=tf})(hf:P.funcs[f]?=so fn)(iB:(fn.name == "runtime.NumGoroutine")=false)(hb:fn.body.isNone=true)(hn:Extern.findNext fn=we)(he:Extern.find fn=so (λ_=>do mark m;pure Extern.Race.none_)){dd:Option Tmp}(hd:op.dst=dd){d':Nat}(Vx:deafBehind d #[⟨.mark m,false,true⟩]=d')(h:XB P Fin d' o (G (b.at (a.put dd (.tuple #[])) (.inRegion ops rest::k)) cs) w):XB P Fin d o (G (b.at a (.inRegion ops (i::rest)::k)) cs) w:=by
 subst hd;exact XB.mark rfl (es:=#[⟨.mark m,false,true⟩]) (λx hx=>by simp at hx;subst hx;exact⟨m,rfl⟩) Vx (λw1=>stepG_mark0 m (by rintro g rfl;rcases hm with h|h<;>cases h) ho hw hk fD hf iB hb hn he) h
def CJ(mk:Addr->Mark)(hm:∀ad,(∃x,mk ad=.acquire x)\/(∃x,mk ad=.releaseMerge x))(ho:ops[i]?=so op)(hw:Region.wanted op (yielded ops a.tmps)=true)(hk:b.kind≠.early)(fD:op.op=.call {callee:=.value (.func f),args:=as,argTypes:=tf})(hf:P.funcs[f]?=so fn)(iB:(fn.name == "runtime.NumGoroutine")=false)(hb:fn.body.isNone=true)(hn:Extern.findNext fn=we)(he:Extern.find fn=so (Extern.Race.marked mk)){ad:Addr}(hx:(as.map a.eval)[0]?=so (.pointer (so ad))){dd:Option Tmp}(hd:op.dst=dd)(h:XB P Fin d o (G (b.at (a.put dd (.tuple #[])) (.inRegion ops rest::k)) cs) w):XB P Fin d o (G (b.at a (.inRegion ops (i::rest)::k)) cs) w:=by
 subst hd;have Vx:deafBehind d #[⟨.mark (mk ad),false,true⟩]=d:=by rcases hm ad with⟨x,e⟩|⟨x,e⟩<;>rw[e]<;>rfl
 exact XB.mark rfl (es:=#[⟨.mark (mk ad),false,true⟩]) (λx hx=>by simp at hx;subst hx;exact⟨_,rfl⟩) Vx (λw1=>stepG_markAt mk (λad g e=>by rcases hm ad with⟨x,e'⟩|⟨x,e'⟩<;>rw[e']at e<;>cases e) ho hw hk fD hf iB hb hn he hx) h
def Jo(ho:ops[i]?=so op)(hw:Region.wanted op (yielded ops a.tmps)=true)(hk:b.kind≠.early){v:Value}{dd:Option Tmp}(hd:op.dst=dd)(hr:∀n,(execOp a.eval op).run P (w.at n)=.ok (.value v) (w.at n))(jg:∀n,∀x∈(execOp a.eval op).events P (w.at n) #[],EvF Fin o x/\x.loc≠.mark .disable/\x.loc≠.mark .enable)(h:XB P Fin d o (G (b.at (a.put dd v) (.inRegion ops rest::k)) cs) w):XB P Fin d o (G (b.at a (.inRegion ops (i::rest)::k)) cs) w:=by
 subst hd;refine bZ.step o _ w rfl λw1 h1=>?_;obtain⟨n,rfl⟩:=h1;exact⟨_,_,_,dP ho hw hk (hr n),⟨λx hx=>by rw[cp];exact jg n x (mem_listed hx),af _,rfl,rfl⟩,by rw[cp];exact bZ.rely _ _ _ _ h ⟨n,rfl⟩⟩
def CK(ho:ops[i]?=so op)(hw:Region.wanted op (yielded ops a.tmps)=true)(hk:b.kind≠.early){v:Value}{dd:Option Tmp}(hd:op.dst=dd)(hr:∀n,(execOp a.eval op).run P (w.at n)=.ok (.value v) (w.at n))(jg:∀n,∀x∈(execOp a.eval op).events P (w.at n) #[],XT o x/\x.loc≠.mark .disable/\x.loc≠.mark .enable)(h:XB P Fin d o (G (b.at (a.put dd v) (.inRegion ops rest::k)) cs) w):XB P Fin d o (G (b.at a (.inRegion ops (i::rest)::k)) cs) w :=
 Jo ho hw hk hd hr (λn x hx=>⟨(jg n x hx).1.PZ,(jg n x hx).2⟩) h
end
section
variable {P:Program}{L:Nat->Bool}{o:aL}{w:ae}{Fin:br}{d:Nat}
def Cl(P:Program)(L:Nat->Bool)(o:aL)(v:Value):Prop:=∀f,(nN P L o).has f->val f v=v
structure jk(o:aL)(w wl:ae):Prop where
 size:wl.heap.size=w.heap.size
 heap:∀b,o b->wl.heap[b]?=w.heap[b]?
def jk.cell{wl:ae}(h:jk o w wl){b off:Nat}(hb:o b):wl.cell? ⟨b,off,we⟩=w.cell? ⟨b,off,we⟩:=cell_of (h.heap b hb)
def GJ{o':aL}(h:∀b,o b->o' b){f:Rn}(hf:(nN P L o').has f):(nN P L o).has f:=⟨hf.inj,λr hr=>hf.at_ r (h r hr),hf.fn,hf.kz⟩
def Cl.up{o':aL}{v:Value}(hv:Cl P L o v)(h:∀b,o b->o' b):Cl P L o' v:=λf hf=>hv f (GJ h hf)
def qf{w':ae}:∀b,o b->grow o w w' b:=λ_ h=>.inl h
def VH(hF:bJ P L o w){w1 w' wl bN:ae}{F':kr}{v v':Value}(e1:w1.heap=w.heap)(e1o:w1.os=w.os/\w1.output=w.output)(ew:wl.heap.size=w.heap.size)(Jd:WR F' bN w')(hm:fT (nN P L o) F' wl w1 bN w')(hv:∀f,F'.has f->v'=val f v)(Jp:wl.os=w.os/\wl.output=w.output):
  v'=v/\mG P L o w w' bN v/\(∀r,F'.K r↔grow o w w' r)/\(∀r,F'.K r->F'.φ r=r):=by
 have Zp:wl.heap.size=w1.heap.size:=by rw[e1];exact ew
 have pA:=hm.same Zp;have Ol:∀r,F'.K r->F'.φ r=r:=λr hr=>by
  rcases pA.2 r hr with h1|h1
  ·exact(hm.φ r h1)
  ·exact h1
 have Lp:w.heap.size<=w'.heap.size:=by rw[<- e1];exact hm.size
 have hK:F'.K=grow o w w':=by
  funext r;simp only[grow,eq_iff_iff];constructor
  ·intro hr;rcases hm.xh r hr with h1|h1
   ·exact .inl h1
   ·refine .inr ⟨by rw[<- ew];exact h1.1,?_⟩;have:=Jd.here r hr;rw[<- pA.1];exact this
  ·rintro(h1|h1)
   ·exact hm.K r h1
   ·obtain⟨r',a,b⟩:=hm.mine r (by rw[e1];exact h1.1) h1.2;rw[Ol r' a]at b;exact b▸a
 have hG:F'.G=P.globals.size:=hm.G;have hLL:F'.L=λn=>L n=true:=hm.L;have Mn:∀f,(nN P L (grow o w w')).has f->F'.has f:=λf hf=>⟨hf.inj,λr hr=>by rw[Ol r hr];exact hf.at_ r (hK▸hr),λn hn=>hf.fn n (by rw[hLL]at hn;exact hn),by rw[hG];exact hf.kz⟩;have hid:=Mn Bu Oj;have wM:v'=v:=(hv Bu hid).trans (Bv v);have CH:∀b,grow o w w' b->w'.heap[b]?=bN.heap[b]?:=λb hb=>by
  have nD:F'.K b:=hK▸hb;have:=Jd.uu b nD Bu hid;rw[Ol b nD]at this;rw[this];cases bN.heap[b]?<;>simp[Oi]
 refine⟨wM,⟨⟨λb hb=>?_,λb hb=>.inl (hF.kz b hb),aS hF.size Lp⟩,CH,λb h1 h2=>?_,pA.1.symm,Lp,λf hf=>by rw[<- hv f (Mn f hf)];exact wM,?_,?_⟩,λr=>by rw[hK],Ol⟩
 ·have nD:F'.K b:=hK▸hb;have cR:=Jd.here b nD;refine⟨bN.heap[b],by rw[CH b hb];exact aO cR,Jd.Rq b nD _ (aO cR),λf hf=>?_⟩;have:=Jd.uu b nD f (Mn f hf);rw[Ol b nD,CH b hb,aO cR,aK]at this;exact(aP this).symm
 ·rw[<- e1];refine hm.rest b λr hr e=>?_;rw[Ol r hr]at e;subst e;have:grow o w w' r:=hK▸hr;rcases this with h3|h3
  ·exact h2 h3
  ·omega
 ·rw[Jd.os,hm.RR,Jp.1]
 ·rw[Jd.output,hm.BM,Jp.2]
def Cl.func(hF:bJ P L o w){g:Fn}{a b:Array Value}(h:Cl P L o (.func g a b)):∃n,g=.func n/\L n=true:=by
 obtain⟨N,hN⟩:=CG o;obtain⟨f1,f2,h1,h2,_,hL,hty,hm⟩:=(hF.wr hN).two;have e:=(h f1 h1).trans (h f2 h2).symm;simp only[val,Value.func.injEq]at e;have e:=e.1;cases g with
 |func n =>
  refine⟨n,rfl,aX λhn=>?_⟩;simp only[um,Fn.func.injEq]at e;exact hL n (λx=>hn x) e
 |via t p n q=>simp only[um,Fn.via.injEq]at e;exact absurd e.1 (hty t)
 |method s=>simp only[um,Fn.method.injEq]at e;exact absurd e (hm s)
 |methodOf t s=>simp only[um,Fn.methodOf.injEq]at e;exact absurd e.2 (hm s)
 |yield l=>simp only[um,Fn.yield.injEq]at e;exact absurd e (hty l)
def GK(dp:sJ P L P.globals.size)(hF:bJ P L o w){ρ:Operand->Value}{op:Oper}(iS:oC L op.op=true)(fG:∀x∈op.op.operands,Cl P L o (ρ x)){R:ae->Next->ae->Prop}(cG:∀wl,jk o w wl->∃x bN,(execOp ρ op).run P wl=.ok x bN/\R wl x bN)(n:Nat):
  ∃wl x bN w',jk o w wl/\R wl x bN/\(∀e∈(execOp ρ op).events P (w.at n) #[],XT (grow o w w') e/\e.loc≠.mark .disable/\e.loc≠.mark .enable) /\
   ((∃v,x=.value v/\(execOp ρ op).run P (w.at n)=.ok (.value v) w'/\mG P L o w w' bN v)\/(x=.skip/\(execOp ρ op).run P (w.at n)=.ok .skip w'/\mG P L o w w' bN undef)\/(∃f as,x=.enter f as)):=by
 obtain⟨N,hN⟩:=CG o;have lS:bJ P L o (w.at n):=hF.of_heap rfl;have hW:=lS.wr hN;have Li:PF P L P.globals.size (nN P L o):=⟨λr hr=>⟨hF.kz r hr,rfl⟩,rfl,rfl,GI hF.kz⟩;have bu:jk o w (jA N (w.at n)):=⟨lZ _ _,λb hb=>mF N (w.at n) ((hN b).2 hb)⟩;obtain⟨x,bN,e1,hR⟩:=cG _ bu;have hrel:∀f,(nN P L o).has f->Rel P f (jJ L f) (execOp ρ op) (execOp ρ op):=λf hf =>
  B7 (Li.ok dp hf) (Li.fn hf) (λm hm as=>dp.call m hm f (Li.ok dp hf) (Li.fn hf) as) op iS (λy hy=>(fG y hy f hf).symm) (λy hy g a b e=>by
   have:=fG y hy;rw[e]at this;exact this.func hF)
 have hc:=xW (jJ L) _ _ (nN P L o) (jA N (w.at n)) (w.at n) #[] #[] hrel hW;rw[show((execOp ρ op).runT P (jA N (w.at n)) #[]).1=(execOp ρ op).run P (jA N (w.at n)) by rw[Sem.runT_eq],e1]at hc;obtain⟨F',b,w',YH,k1,k2,k3,k4,k5,k6⟩:=hc;have XU:(execOp ρ op).run P (w.at n)=.ok b w':=by rw[Sem.runT_eq]at k1;exact congrArg Prod.fst k1
 have LS:(execOp ρ op).events P (w.at n) #[]=YH:=by rw[Sem.runT_eq]at k1;exact congrArg Prod.snd k1
 have SX:∀{v v':Value},(∀f,F'.has f->v'=val f v)->v'=v/\mG P L o w w' bN v/\(∀r,F'.K r↔grow o w w' r)/\(∀r,F'.K r->F'.φ r=r):=λhv=>VH (w1:=w.at n) hF rfl ⟨rfl,rfl⟩ bu.size k3 k4 hv ⟨rfl,rfl⟩;obtain⟨f0,lE⟩:=k3.some;obtain⟨-,-,hKg,Ol⟩:=SX (v:=undef) (v':=undef) (λf _=>(mo f).symm);refine⟨_,x,bN,w',bu,hR,λe he=>?_,?_⟩
 ·obtain⟨new,e2,e3⟩:=k5;rw[LS,e2]at he;have pz:=e3 e (by simpa using he);obtain⟨loc,wt,sy⟩:=e;cases loc with
  |cell ad =>
   obtain⟨r,h1,h2⟩:=pz;rw[Ol r h1]at h2;refine⟨tw ?_,aj,aj⟩;rw[<- h2];exact(hKg r).1 h1
  |obj r=>exact⟨Om,aj,aj⟩
  |output =>
   refine⟨λy hy c hl hk=>?_,aj,aj⟩;simp only[MemAct.ofEvent,MemAct.touch?,ay]at hy;subst hy;cases hl
  |goroutines =>
   refine⟨λy hy c hl hk=>?_,aj,aj⟩;simp only[MemAct.ofEvent,MemAct.touch?,ay]at hy;subst hy;cases hl
  |mark m =>
   have hd:LB m=true:=pz;cases m<;>first|exact Bool.noConfusion hd|(refine⟨λy hy c hl hk=>?_,aj,aj⟩;simp only[MemAct.ofEvent,MemAct.touch?]at hy;cases hy)
 ·have k2':=k2 f0 lE;cases x with
  |value v =>
   cases b<;>first|exact k2'.elim|skip
   rename_i v';obtain⟨rfl,hb,-⟩:=SX (v:=v) (v':=v') (λf hf=>k2 f hf);exact .inl ⟨_,rfl,XU,hb⟩
  |skip =>
   cases b<;>first|exact k2'.elim|skip
   obtain⟨-,hb,-⟩:=SX (v:=undef) (v':=undef) (λf _=>(mo f).symm);exact .inr (.inl ⟨rfl,XU,hb⟩)
  |enter f as=>exact .inr (.inr ⟨f,as,rfl⟩)
  |_=>exact k2'.elim
section
variable {fn:FuncId}{Q:Exit->Act->aL->ae->Prop}{a:Act}{ops:Array Oper}{i:Nat}{rest:List Nat}{op:Oper}
end
end
section
variable {P:Program}{main:Bool}{b:Frame}{a:Act}{k:List Item}{cs:List Frame}{w:ae}
def nO(w:ae)(fn:FuncId)(tmps:Array Value)(ps:Array Tmp)(as bd:Code):ae :=
 (w.alloc (.deferred (so []))).alloc (.loop {state:=.ready,pending:=we,fn,tmps,params:=ps,assign:=as,body:=bd,defers:=w.heap.size})
def A9{x:Operand}{ps:Array Tmp}{as bd:Code}{g:FuncId}{gc:Func}{c:Code}{cap:Array Value}(vu:b.roundOf=we)(hk:b.kind≠.early)(hm:b.mode=.run)(hx:a.eval x=.func (.func g) #[] cap)(hg:P.funcs[g]?=so gc)(iB:(gc.name == "runtime.NumGoroutine")=false)(hb:gc.body=so c):
  stepG P main (G (b.at a (.code (.rangeFunc x ps as bd)::k)) cs) w =
   .go (G (Frame.enter P g (#[.func (.yield (w.heap.size+1)) #[] #[]]++cap) .normal) (b.at ⟨a.tmps,{target:=.collected w.heap.size,args:=#[]}::a.defers⟩ (.inRangeFunc (w.heap.size+1)::k)::cs)) (nO w b.fn a.tmps ps as bd) #[]:=by
 have lY:(b.kind==CallKind.early)=false:=by simpa using hk
 have hec:∀(fr:Frame) (v:Value),fr.eval (.const v)=v:=λ_ _=>rfl;have Zq:¬gc.name= "runtime.NumGoroutine":=by simpa using iB
 have p7:∀fr:Frame,fr.tmps=a.tmps->fr.eval x=.func (.func g) #[] cap:=λfr h=>by
  rw[<- hx];cases x<;>simp[Frame.eval,Act.eval,h]
 simp[G,Frame.at,stepG,stepG.exec,vu,Instr.enterLoop,Sem.runT_eq,go_sem,seen_none,GStep.after,stepG.apply,resolve,Deferred.ofValue,invoke,callFunc,hg,hb,nO,p7,hec,Zq,lY]
def dL(w:ae)(l:Nat)(r:Loop):ae:={w with heap:=w.heap.setIfInBounds l (.loop r)}
def kR{l:Nat}{r:Loop}(h:w.heap[l]?=so (.loop r)):(Instr.getLoop l).run P w=.ok r w:=by
 simp[Instr.getLoop,getObj,Sem.run,h,go_sem]
def pU{l:Nat}{x:Obj}(h:w.heap[l]?=so x)(hx:∀c t z,x≠.cells c t z):(getObj l).run P w=.ok x w:=by
 cases x<;>simp_all[getObj,Sem.run]
def qX{l:Nat}{x:Obj}(h:w.heap[l]?=so x)(hx:∀c t z,x≠.cells c t z)(es:Array Event):(getObj l).events P w es=es.push ⟨.obj l,false,x.isChan⟩:=by
 cases x<;>simp_all[getObj,Sem.events,Sem.runT,-Sem.runT_eq]
def ia{l:Nat}{x:Obj}(o:Obj)(h:w.heap[l]?=so x)(hx:∀c t z,x≠.cells c t z):(setObj l o).run P w=.ok () {w with heap:=w.heap.setIfInBounds l o}:=by
 cases x<;>simp_all[setObj,Sem.run]
def kZ{l:Nat}{x:Obj}(o:Obj)(h:w.heap[l]?=so x)(hx:∀c t z,x≠.cells c t z)(es:Array Event):(setObj l o).events P w es=es.push ⟨.obj l,true,o.isChan⟩:=by
 cases x<;>simp_all[setObj,Sem.events,Sem.runT,-Sem.runT_eq]
def nP{l:Nat}{r:Loop}(h:w.heap[l]?=so (.loop r))(es:Array Event):(Instr.getLoop l).events P w es=es.push ⟨.obj l,false,false⟩:=by
 simp[Instr.getLoop,qX h aj,pU h aj,Obj.isChan,Result.evThen]
def Jq{ops:Array Oper}{i:Nat}{rest:List Nat}{o:Oper}{x y:Operand}{tf:Array TypeId}{l:Nat}{r:Loop}{v:Value}{t:Tmp}(ho:ops[i]?=so o)(hw:Region.wanted o (yielded ops a.tmps)=true)(hk:b.kind≠.early)(fD:o.op=.call {callee:=.value x,args:=#[y],argTypes:=tf})(hx:a.eval x=.func (.yield l) #[] #[])(hy:a.eval y=v)(hl:w.heap[l]?=so (.loop r))(hp:r.params=#[t]):
  ∃es,stepG P main (G (b.at a (.inRegion ops (i::rest)::k)) cs) w=.go (G (Frame.round l r.fn (r.tmps.setIfInBounds t v) r.assign r.body .normal) (b.at a (.inRegion ops (i::rest)::k)::cs)) w es/\∀e∈es,∃wt sy,e=⟨.obj l,wt,sy⟩:=by
 have lY:(b.kind==CallKind.early)=false:=by simpa using hk
 have hr:∀ρ:Operand->Value,ρ x=.func (.yield l) #[] #[]->ρ y=v->(execOp ρ o).run P w=.ok (.round l r.fn (r.tmps.setIfInBounds t v) r.assign r.body) w:=λρ h1 h2=>by
  unfold execOp;simp[fD,resolve,Deferred.ofValue,h1,h2,invoke,Instr.yield,kR hl,hp,Result.andThen]
 have he:∀ρ:Operand->Value,ρ x=.func (.yield l) #[] #[]->ρ y=v->(execOp ρ o).events P w #[]=#[⟨.obj l,false,false⟩]:=λρ h1 h2=>by
  unfold execOp;simp[fD,resolve,Deferred.ofValue,h1,h2,invoke,Instr.yield,kR hl,nP hl,hp,Result.evThen]
 refine⟨listed P b.fn a o w,?_,λe VI=>?_⟩
 ·rw[stepG_oper ho hw];simp[stepG.apply,hr _ hx hy,G,Frame.at,lY,GStep.after,listed]
 ·have:=mem_listed VI;rw[he _ hx hy]at this;simp at this;exact⟨_,_,this⟩
def zM{l:Nat}{r:Loop}{tm:Array Value}{fn:FuncId}(hl:w.heap[l]?=so (.loop r))(hs:r.state=.ready):
  ∃es,stepG P main (G {(base fn).at ⟨tm,[]⟩ (.beginRound::k)with roundOf:=so l} cs) w=.go (G {(base fn).at ⟨tm,[]⟩ k with roundOf:=so l} cs) (dL w l {r with state:=.busy}) es/\∀e∈es,∃wt sy,e=⟨.obj l,wt,sy⟩:=by
 have hr:(Instr.beginRound l).run P w=.ok () (dL w l {r with state:=.busy}):=by
  simp[Instr.beginRound,kR hl,hs,ia _ hl,Result.andThen,dL]
 have he:(Instr.beginRound l).events P w #[]=#[⟨.obj l,false,false⟩,⟨.obj l,true,false⟩]:=by
  simp[Instr.beginRound,kR hl,nP hl,hs,ia _ hl,kZ _ hl,Result.evThen,Obj.isChan]
 refine⟨seen P fn #[⟨.obj l,false,false⟩,⟨.obj l,true,false⟩],?_,λe VI=>?_⟩
 ·simp[G,Frame.at,stepG,stepG.exec,stepG.apply,Sem.runT_eq,hr,he,GStep.after,base,Frame.finish,Result.andThen,Result.evThen]
 ·have:=mem_seen VI;simp at this;rcases this with rfl|rfl<;>exact⟨_,_,rfl⟩
def CL{l:Nat}{r:Loop}{tm:Array Value}{fn:FuncId}{c:Frame}(hl:w.heap[l]?=so (.loop r)):
  ∃es,stepG P main (G {(base fn).at ⟨tm,[]⟩ []with roundOf:=so l} (c::cs)) w=.go (G (c.finish (.bool true)) cs) (dL w l {r with state:=.ready,pending:=we}) es/\∀e∈es,∃wt sy,e=⟨.obj l,wt,sy⟩:=by
 have hr:(Instr.endRound l we).run P w=.ok (.bool true) (dL w l {r with state:=.ready,pending:=we}):=by
  simp[Instr.endRound,kR hl,ia _ hl,Result.andThen,dL]
 have he:(Instr.endRound l we).events P w #[]=#[⟨.obj l,false,false⟩,⟨.obj l,true,false⟩]:=by
  simp[Instr.endRound,kR hl,nP hl,ia _ hl,kZ _ hl,Result.evThen,Obj.isChan]
 refine⟨seen P fn #[⟨.obj l,false,false⟩,⟨.obj l,true,false⟩],?_,λe VI=>?_⟩
 ·simp[G,Frame.at,stepG,stepG.exec,Sem.runT_eq,hr,he,GStep.after,base,doReturn]
 ·have:=mem_seen VI;simp at this;rcases this with rfl|rfl<;>exact⟨_,_,rfl⟩
def Eo{l:Nat}{r:Loop}(hl:w.heap[l]?=so (.loop r))(hs:r.state=.ready)(hp:r.pending=we)(vu:b.mode=.run):
  ∃es,stepG P main (G (b.at a (.endRangeFunc l::k)) cs) w=.go (G (b.at a k) cs) (dL w l {r with state:=.exhausted}) es/\∀e∈es,∃wt sy,e=⟨.obj l,wt,sy⟩:=by
 have hr:(Instr.endLoop l).run P w=.ok we (dL w l {r with state:=.exhausted}):=by
  simp[Instr.endLoop,kR hl,ia _ hl,hs,hp,Result.andThen,dL]
 have he:(Instr.endLoop l).events P w #[]=#[⟨.obj l,false,false⟩,⟨.obj l,true,false⟩]:=by
  simp[Instr.endLoop,kR hl,nP hl,ia _ hl,kZ _ hl,hs,hp,Result.evThen,Obj.isChan]
 refine⟨seen P b.fn #[⟨.obj l,false,false⟩,⟨.obj l,true,false⟩],?_,λe VI=>?_⟩
 ·simp[G,Frame.at,stepG,stepG.exec,Sem.runT_eq,hr,he,GStep.after]
 ·have:=mem_seen VI;simp at this;rcases this with rfl|rfl<;>exact⟨_,_,rfl⟩
def Ba{r:Nat}{ds:List Deferred}{todo:List Item}(hd:a.defers={target:=.collected r,args:=#[]}::ds)(hl:w.heap[r]?=so (.deferred (so []))):
  ∃es,stepG P main (G {b.at a todo with mode:=.returning} cs) w=.go (G {b.at ⟨a.tmps,ds⟩ todo with mode:=.returning} cs) {w with heap:=w.heap.setIfInBounds r (.deferred we)} es/\∀e∈es,∃wt sy,e=⟨.obj r,wt,sy⟩:=by
 have hr:(Instr.takeDeferred r).run P w=.ok [] {w with heap:=w.heap.setIfInBounds r (.deferred we)}:=by
  simp[Instr.takeDeferred,pU hl,ia _ hl,Result.andThen]
 have he:(Instr.takeDeferred r).events P w #[]=#[⟨.obj r,false,false⟩,⟨.obj r,true,false⟩]:=by
  simp[Instr.takeDeferred,pU hl,qX hl,ia _ hl,kZ _ hl,Result.evThen,Obj.isChan]
 refine⟨seen P b.fn #[⟨.obj r,false,false⟩,⟨.obj r,true,false⟩],?_,λe VI=>?_⟩
 ·simp[G,Frame.at,stepG,unwind,hd,Sem.runT_eq,hr,he,GStep.after]
 ·have:=mem_seen VI;simp at this;rcases this with rfl|rfl<;>exact⟨_,_,rfl⟩
end
section
variable {P:Program}{L:Nat->Bool}{o:aL}{w:ae}{Fin:br}{d:Nat}{b:Frame}{a:Act}{k:List Item}{cs:List Frame}{ops:Array Oper}{i:Nat}{rest:List Nat}{op:Oper}
section
variable {fn:FuncId}{g:aY}{g':Value->aY}{gk:aY}
def Bw(dp:sJ P L P.globals.size)(hF:bJ P L o w)(hs:g.status=.running)(iW:∀w1 v w',(execOp a.eval op).run P w1=.ok (.value v) w'->stepG P true g w1=.go (g' v) w' (listed P fn a op w1))(iS:oC L op.op=true)(fG:∀x∈op.op.operands,Cl P L o (a.eval x)){R:ae->Value->ae->Prop}(cG:∀wl,jk o w wl->∃v bN,(execOp a.eval op).run P wl=.ok (.value v) bN/\R wl v bN)(h:∀wl v bN w',jk o w wl->R wl v bN->mG P L o w w' bN v->XB P Fin d (grow o w w') (g' v) w'):XB P Fin d o g w:=by
 refine bZ.step o _ w hs λw1 mC=>?_;obtain⟨n,rfl⟩:=mC;obtain⟨wl,x,bN,w',bu,⟨v,rfl,hR⟩,jg,iX⟩:=GK dp hF iS fG (R:=λwl x bN=>∃v,x=.value v/\R wl v bN) (λwl bu=>by
  obtain⟨v,bN,e1,e2⟩:=cG wl bu;exact⟨_,bN,e1,v,rfl,e2⟩) n
 rcases iX with⟨v',wM,hr,hb⟩|⟨wM,_⟩|⟨f,as,wM⟩
 ·cases wM;exact⟨_,_,_,iW _ _ _ hr,⟨λe he=>⟨(jg e (mem_listed he)).1.PZ,(jg e (mem_listed he)).2⟩,hb.sx,hb.os,hb.output⟩,h wl v bN w' bu hR hb⟩
 ·cases wM
 ·cases wM
def zO(dp:sJ P L P.globals.size)(hF:bJ P L o w)(hs:g.status=.running)(iW:∀w1 v w',(execOp a.eval op).run P w1=.ok (.value v) w'->stepG P true g w1=.go (g' v) w' (listed P fn a op w1))(iS:oC L op.op=true)(fG:∀x∈op.op.operands,Cl P L o (a.eval x)){v:Value}(cG:∀wl,jk o w wl->(execOp a.eval op).run P wl=.ok (.value v) wl)(h:Cl P L o v->XB P Fin d o (g' v) w):XB P Fin d o g w:=by
 refine bZ.step o _ w hs λw1 mC=>?_;obtain⟨n,rfl⟩:=mC;obtain⟨wl,x,bN,w',bu,⟨rfl,rfl⟩,jg,iX⟩:=GK dp hF iS fG (R:=λwl x bN=>x=.value v/\bN=wl) (λwl bu=>⟨_,wl,cG wl bu,rfl,rfl⟩) n;rcases iX with⟨v',wM,hr,hb⟩|⟨wM,_⟩|⟨f,as,wM⟩
 ·cases wM;have XK:=cG (w.at n) ⟨rfl,λ_ _=>rfl⟩;rw[hr]at XK;cases XK;have fG:Cl P L o v:=by have:=hb.val;rw[show grow o w (w.at n)=o from iw o rfl]at this;exact this
  exact⟨_,_,_,iW _ _ _ hr,⟨λe he=>⟨(jg e (mem_listed he)).1.PZ,(jg e (mem_listed he)).2⟩,af _,rfl,rfl⟩,by rw[cp];exact bZ.rely _ _ _ _ (h fG) ⟨n,rfl⟩⟩
 ·cases wM
 ·cases wM
def CM(dp:sJ P L P.globals.size)(hF:bJ P L o w)(hs:g.status=.running)(iW:∀w1 w',(execOp a.eval op).run P w1=.ok .skip w'->stepG P true g w1=.go gk w' (listed P fn a op w1))(iS:oC L op.op=true)(fG:∀x∈op.op.operands,Cl P L o (a.eval x)){R:ae->ae->Prop}(cG:∀wl,jk o w wl->∃bN,(execOp a.eval op).run P wl=.ok .skip bN/\R wl bN)(h:∀wl bN w',jk o w wl->R wl bN->mG P L o w w' bN undef->XB P Fin d (grow o w w') gk w'):XB P Fin d o g w:=by
 refine bZ.step o _ w hs λw1 mC=>?_;obtain⟨n,rfl⟩:=mC;obtain⟨wl,x,bN,w',bu,⟨rfl,hR⟩,jg,iX⟩:=GK dp hF iS fG (R:=λwl x bN=>x=.skip/\R wl bN) (λwl bu=>by
  obtain⟨bN,e1,e2⟩:=cG wl bu;exact⟨_,bN,e1,rfl,e2⟩) n
 rcases iX with⟨v',wM,_⟩|⟨_,hr,hb⟩|⟨f,as,wM⟩
 ·cases wM
 ·exact⟨_,_,_,iW _ _ hr,⟨λe he=>⟨(jg e (mem_listed he)).1.PZ,(jg e (mem_listed he)).2⟩,hb.sx,hb.os,hb.output⟩,h wl bN w' bu hR hb⟩
 ·cases wM
end
def CN(dp:sJ P L P.globals.size)(hF:bJ P L o w)(ho:ops[i]?=so op)(hw:Region.wanted op (yielded ops a.tmps)=true)(hk:b.kind≠.early)(iS:oC L op.op=true)(fG:∀x∈op.op.operands,Cl P L o (a.eval x)){dd:Option Tmp}(hd:op.dst=dd){R:ae->Value->ae->Prop}(cG:∀wl,jk o w wl->∃v bN,(execOp a.eval op).run P wl=.ok (.value v) bN/\R wl v bN)(h:∀wl v bN w',jk o w wl->R wl v bN->mG P L o w w' bN v->XB P Fin d (grow o w w') (G (b.at (a.put dd v) (.inRegion ops rest::k)) cs) w'):XB P Fin d o (G (b.at a (.inRegion ops (i::rest)::k)) cs) w :=
 Bw (g':=λv=>G (b.at (a.put dd v) (.inRegion ops rest::k)) cs) dp hF rfl (λw1 v w' hr=>by subst hd;exact dP ho hw hk hr) iS fG cG h
def nQ(dp:sJ P L P.globals.size)(hF:bJ P L o w)(ho:ops[i]?=so op)(hw:Region.wanted op (yielded ops a.tmps)=true)(hk:b.kind≠.early)(iS:oC L op.op=true)(fG:∀x∈op.op.operands,Cl P L o (a.eval x)){dd:Option Tmp}(hd:op.dst=dd){v:Value}(cG:∀wl,jk o w wl->(execOp a.eval op).run P wl=.ok (.value v) wl)(h:Cl P L o v->XB P Fin d o (G (b.at (a.put dd v) (.inRegion ops rest::k)) cs) w):XB P Fin d o (G (b.at a (.inRegion ops (i::rest)::k)) cs) w :=
 zO (g':=λv=>G (b.at (a.put dd v) (.inRegion ops rest::k)) cs) dp hF rfl (λw1 v w' hr=>by subst hd;exact dP ho hw hk hr) iS fG cG h
def AB(dp:sJ P L P.globals.size)(hF:bJ P L o w)(ho:ops[i]?=so op)(hw:Region.wanted op (yielded ops a.tmps)=true)(hk:b.kind≠.early)(iS:oC L op.op=true)(fG:∀x∈op.op.operands,Cl P L o (a.eval x)){dd:Option Tmp}(hd:op.dst=dd){R:ae->ae->Prop}(cG:∀wl,jk o w wl->∃bN,(execOp a.eval op).run P wl=.ok .skip bN/\R wl bN)(h:∀wl bN w',jk o w wl->R wl bN->mG P L o w w' bN undef->XB P Fin d (grow o w w') (G (b.at (a.put dd undef) (.inRegion ops rest::k)) cs) w'):XB P Fin d o (G (b.at a (.inRegion ops (i::rest)::k)) cs) w :=
 CM (gk:=G (b.at (a.put dd undef) (.inRegion ops rest::k)) cs) dp hF rfl (λw1 w' hr=>by subst hd;exact jl ho hw hk hr) iS fG cG h
def mG.alloc{wl bN w':ae}{v:Value}(h:mG P L o w w' bN v)(hF:bJ P L o w)(ha:jk o w wl){x:Obj}(e:bN=wl.alloc x):w'.heap.size=w.heap.size+1/\(∀b,b<w.heap.size->w'.heap[b]?=w.heap[b]?)/\w'.heap[w.heap.size]?=so x:=by
 have hs:bN.heap.size=w.heap.size+1:=by rw[e];simp[ha.size]
 refine⟨by rw[h.size,hs],λb hb=>?_,?_⟩
 ·by_cases ho:o b
  ·rw[h.same b (.inl ho),e,RowKit.Below.heap_alloc wl x b (by rw[ha.size];exact hb),ha.heap b ho]
  ·exact h.rest b hb ho
 ·rw[h.same _ (.inr ⟨af _,by rw[h.size,hs];omega⟩),e];show(wl.heap.push x)[w.heap.size]?=_;rw[<- ha.size];simp
def mG.store{wl bN w':ae}{v:Value}(h:mG P L o w w' bN v)(ha:jk o w wl){A:Nat}(hA:o A)(hs:bN.heap.size=wl.heap.size)(hh:∀b,b≠A->bN.heap[b]?=wl.heap[b]?):w'.heap.size=w.heap.size/\(∀b,b≠A->w'.heap[b]?=w.heap[b]?)/\w'.heap[A]?=bN.heap[A]?/\grow o w w'=o:=by
 have hz:w'.heap.size=w.heap.size:=by rw[h.size,hs,ha.size]
 refine⟨hz,λb hb=>?_,h.same A (.inl hA),iw o hz⟩;by_cases cR:b<w.heap.size
 ·by_cases ho:o b
  ·rw[h.same b (.inl ho),hh b hb,ha.heap b ho]
  ·exact h.rest b cR ho
 ·rw[bX aa,bX aa]
def atR(f:FuncId)(l:Nat)(tm:Array Value)(k:List Item):Frame:={(base f).at ⟨tm,[]⟩ k with roundOf:=so l}
theorem round_eq(f:FuncId)(l:Nat)(tm:Array Value)(P5 bd:Code):Frame.round l f tm P5 bd .normal=atR f l tm [.code P5,.beginRound,.code bd]:=rfl
section
variable {f:FuncId}{l:Nat}{tm:Array Value}{main:Bool}
def yH{id:Nat}{ops:Array Oper}:stepG P main (G (atR f l tm (.code (.region id ops false)::k)) cs) w=.go (G (atR f l tm (.inRegion ops (List.range ops.size)::k)) cs) w #[]:=by simp[G,stepG,stepG.exec,Frame.at,atR]
def sQ{ops:Array Oper}:stepG P main (G (atR f l tm (.inRegion ops []::k)) cs) w=.go (G (atR f l tm k) cs) w #[]:=by simp[G,stepG,stepG.exec,Frame.at,atR]
def Jr{id:Nat}{c:Code}:stepG P main (G (atR f l tm (.code (.block id c)::k)) cs) w=.go (G (atR f l tm (.code c :: .inBlock id::k)) cs) w #[]:=by simp[G,stepG,stepG.exec,Frame.at,atR]
def Ep{id:Nat}:stepG P main (G (atR f l tm (.inBlock id::k)) cs) w=.go (G (atR f l tm k) cs) w #[]:=by simp[G,stepG,stepG.exec,Frame.at,atR]
def pF{ops:Array Oper}{i:Nat}{rest:List Nat}{o:Oper}{v:Value}{w':ae}(ho:ops[i]?=so o)(hw:Region.wanted o (yielded ops tm)=true)(kL:∀c,o.op≠.defer c)(hr:(execOp (Act.eval ⟨tm,[]⟩) o).run P w=.ok (.value v) w'){dd:Option Tmp}(hd:o.dst=dd):
  stepG P main (G (atR f l tm (.inRegion ops (i::rest)::k)) cs) w=.go (G (atR f l (Act.put ⟨tm,[]⟩ dd v).tmps (.inRegion ops rest::k)) cs) w' (listed P f ⟨tm,[]⟩ o w):=by
 subst hd;have he:(atR f l tm (.inRegion ops (i::rest)::k)).eval=Act.eval ⟨tm,[]⟩:=by funext x;cases x<;>rfl
 have mV:(atR f l tm (.inRegion ops (i::rest)::k)).finish v=atR f l (Act.put ⟨tm,[]⟩ o.dst v).tmps (.inRegion ops rest::k):=by
  simp only[Frame.finish,atR,Frame.at,ho,Option.bind_some];cases o.dst<;>rfl
 have SY:stepG P main (G (atR f l tm (.inRegion ops (i::rest)::k)) cs) w=stepG.apply P true (atR f l tm (.inRegion ops (i::rest)::k)) cs we (execOp (Act.eval ⟨tm,[]⟩) o) w:=by
  have h1:(atR f l tm (.inRegion ops (i::rest)::k)).oper?=so o:=by simp[Frame.oper?,atR,Frame.at,ho]
  have h2:stepG P main (G (atR f l tm (.inRegion ops (i::rest)::k)) cs) w=stepG.oper P true (atR f l tm (.inRegion ops (i::rest)::k)) cs we w:=by
   simp[G,stepG,stepG.exec,Frame.at,atR,ho,hw]
  rw[h2];simp only[stepG.oper,h1,he];split
  ·rename_i fD;exact absurd fD (kL _)
  ·rfl
 rw[SY,<- mV];simp[stepG.apply,hr,G,GStep.after,listed,atR,Frame.at,base]
def CO{ops:Array Oper}{i:Nat}{rest:List Nat}{o:Oper}{w':ae}(ho:ops[i]?=so o)(hw:Region.wanted o (yielded ops tm)=true)(kL:∀c,o.op≠.defer c)(hr:(execOp (Act.eval ⟨tm,[]⟩) o).run P w=.ok .skip w'){dd:Option Tmp}(hd:o.dst=dd):
  stepG P main (G (atR f l tm (.inRegion ops (i::rest)::k)) cs) w=.go (G (atR f l (Act.put ⟨tm,[]⟩ dd undef).tmps (.inRegion ops rest::k)) cs) w' (listed P f ⟨tm,[]⟩ o w):=by
 subst hd;have he:(atR f l tm (.inRegion ops (i::rest)::k)).eval=Act.eval ⟨tm,[]⟩:=by funext x;cases x<;>rfl
 have mV:(atR f l tm (.inRegion ops (i::rest)::k)).finish undef=atR f l (Act.put ⟨tm,[]⟩ o.dst undef).tmps (.inRegion ops rest::k):=by
  simp only[Frame.finish,atR,Frame.at,ho,Option.bind_some];cases o.dst<;>rfl
 have SY:stepG P main (G (atR f l tm (.inRegion ops (i::rest)::k)) cs) w=stepG.apply P true (atR f l tm (.inRegion ops (i::rest)::k)) cs we (execOp (Act.eval ⟨tm,[]⟩) o) w:=by
  have h1:(atR f l tm (.inRegion ops (i::rest)::k)).oper?=so o:=by simp[Frame.oper?,atR,Frame.at,ho]
  have h2:stepG P main (G (atR f l tm (.inRegion ops (i::rest)::k)) cs) w=stepG.oper P true (atR f l tm (.inRegion ops (i::rest)::k)) cs we w:=by
   simp[G,stepG,stepG.exec,Frame.at,atR,ho,hw]
  rw[h2];simp only[stepG.oper,h1,he];split
  ·rename_i fD;exact absurd fD (kL _)
  ·rfl
 rw[SY,<- mV];simp[stepG.apply,hr,G,GStep.after,listed,atR,Frame.at,base]
end
def sR{g g':aY}{t:ae->ae}{l:Nat}(hs:g.status=.running)(h:∀n,∃es,stepG P true g (w.at n)=.go g' ((t w).at n) es/\∀e∈es,∃wt sy,e=⟨.obj l,wt,sy⟩)(ew:(t w).heap.size=w.heap.size)(hx:XB P Fin d o g' (t w))(Sl:(t w).os=w.os/\(t w).output=w.output:=by exact⟨rfl,rfl⟩):XB P Fin d o g w:=by
 refine bZ.step o _ w hs λw1 mC=>?_;obtain⟨n,rfl⟩:=mC;obtain⟨es,e1,e2⟩:=h n;refine⟨_,_,_,e1,⟨λe he=>?_,cF ew.symm,Sl⟩,?_⟩
 ·obtain⟨wt,sy,rfl⟩:=e2 e he;exact⟨Om,aj,aj⟩
 ·rw[iw o (show((t w).at n).heap.size=(w.at n).heap.size from ew)];exact bZ.rely _ _ _ _ hx ⟨n,rfl⟩
def qg(h:bJ P L o w){l:Nat}{x:Obj}(hx:fN x=false)(hc:∀f,obj f x=x)(hl:o l):bJ P L o {w with heap:=w.heap.setIfInBounds l x}:=by
 refine⟨λb hb=>?_,h.kz,by simpa using h.size⟩;by_cases e:l=b
 ·subst e;exact⟨x,by rw[cn (h.lt hl)],hx,λf _=>hc f⟩
 ·obtain⟨y,k1,k2,k3⟩:=h.shut b hb;exact⟨y,by rw[aQ e];exact k1,k2,k3⟩
def bJ.alloc(h:bJ P L o w){x:Obj}(hx:fN x=false)(hc:∀f,(nN P L o).has f->obj f x=x):bJ P L (λb=>o b\/b=w.heap.size) (w.alloc x):=by
 refine⟨λb hb=>?_,λb hb=>.inl (h.kz b hb),by have:=h.size;simp;omega⟩;rcases hb with hb|rfl
 ·obtain⟨y,k1,k2,k3⟩:=h.shut b hb;exact⟨y,by rw[RowKit.Below.heap_alloc w x b (h.lt hb)];exact k1,k2,λf hf=>k3 f (GJ (λ_ hb=>.inl hb) hf)⟩
 ·refine⟨x,?_,hx,λf hf=>hc f (GJ (λ_ hb=>.inl hb) hf)⟩;show(w.heap.push x)[w.heap.size]?=_;simp
def Js{f:FuncId}{l:Nat}{tm:Array Value}{main:Bool}{r:Loop}(hl:w.heap[l]?=so (.loop r))(hs:r.state=.ready):
  ∃es,stepG P main (G (atR f l tm (.beginRound::k)) cs) w=.go (G (atR f l tm k) cs) (dL w l {r with state:=.busy}) es/\∀e∈es,∃wt sy,e=⟨.obj l,wt,sy⟩:=zM hl hs
def P6{f:FuncId}{l:Nat}{tm:Array Value}{main:Bool}{r:Loop}{c:Frame}(hl:w.heap[l]?=so (.loop r)):
  ∃es,stepG P main (G (atR f l tm []) (c::cs)) w=.go (G (c.finish (.bool true)) cs) (dL w l {r with state:=.ready,pending:=we}) es/\∀e∈es,∃wt sy,e=⟨.obj l,wt,sy⟩:=CL hl
def Mt{x:Operand}{ps:Array Tmp}{as bd:Code}{g:FuncId}{gc:Func}{c:Code}{cap:Array Value}(vu:b.roundOf=we)(hk:b.kind≠.early)(hm:b.mode=.run)(hx:a.eval x=.func (.func g) #[] cap)(hg:P.funcs[g]?=so gc)(iB:(gc.name == "runtime.NumGoroutine")=false)(hb:gc.body=so c)(h:XB P Fin d (λb=>(o b\/b=w.heap.size)\/b=w.heap.size+1) (G (Frame.enter P g (#[.func (.yield (w.heap.size+1)) #[] #[]]++cap) .normal) (b.at ⟨a.tmps,{target:=.collected w.heap.size,args:=#[]}::a.defers⟩ (.inRangeFunc (w.heap.size+1)::k)::cs)) (nO w b.fn a.tmps ps as bd)):XB P Fin d o (G (b.at a (.code (.rangeFunc x ps as bd)::k)) cs) w:=by
 refine bZ.step o _ w rfl λw1 mC=>?_;obtain⟨n,rfl⟩:=mC;refine⟨_,_,_,A9 vu hk hm hx hg iB hb,⟨aj,?_,rfl,rfl⟩,?_⟩
 ·have h1:(nO (w.at n) b.fn a.tmps ps as bd).heap.size=w.heap.size+2:=by simp[nO,World.at]
  rw[h1];exact Nat.le_add_right _ 2
 ·have e:grow o (w.at n) (nO (w.at n) b.fn a.tmps ps as bd)=λb=>(o b\/b=w.heap.size)\/b=w.heap.size+1:=by
   funext y;have h1:(nO (w.at n) b.fn a.tmps ps as bd).heap.size=w.heap.size+2:=by simp[nO,World.at]
   simp only[grow,h1,eq_iff_iff];constructor
   ·rintro(h2|h2)
    ·exact .inl (.inl h2)
    ·have h3:w.heap.size<=y:=h2.1;have:=h2.2;omega
   ·rintro((h2|h2)|h2)
    ·exact .inl h2
    ·exact .inr ⟨cF h2.symm,aa⟩
    ·exact .inr ⟨show w.heap.size<=y by omega,aa⟩
  rw[e];exact bZ.rely _ _ _ ((nO w b.fn a.tmps ps as bd).at n) h ⟨n,rfl⟩
section
def lG{k:IntKind}{n:Int}:Cl P L o (.int k n):=λf _=>aj
def vE{x:Bool}:Cl P L o (.bool x):=λf _=>aj
def dH{x:ag}:Cl P L o (.string x):=λf _=>aj
def gE{b off:Nat}(h:o b):Cl P L o (.pointer (so ⟨b,off,we⟩)):=λf hf=>by simp[val,addr,hf.at_ b h,nN]
def eK{b off l c:Nat}(h:o b):Cl P L o (.slice (so ⟨b,off,we⟩) l c):=λf hf=>by simp[val,addr,hf.at_ b h,nN]
def nR{l c:Nat}:Cl P L o (.slice we l c):=λf _=>by simp[val]
def sB{vs:List Value}(h:∀v∈vs,Cl P L o v):Cl P L o (.agg vs.toArray):=λf hf=>by
 simp only[val]
 congr 1
 simp only[List.map_toArray]
 congr 1
 conv=>rhs;rw[<- List.map_id vs]
 exact cQ λv hv=>h v hv f hf
end
end
end Go.Ren
namespace Go.Conc
open _root_.Option renaming some → so,none → we
open Go.Ren Go.ConcN
section
variable {P:Program}{L:Nat->Bool}{Fin:br}{d:Nat}{o:aL}{w:ae}{fn:FuncId}{Q:Exit->Act->aL->ae->Prop}{a:Act}{ops:Array Oper}{i:Nat}{rest:List Nat}{op:Oper}
def jL(dp:sJ P L P.globals.size)(hF:bJ P L o w)(ho:ops[i]?=so op)(hw:Region.wanted op (yielded ops a.tmps)=true)(iS:oC L op.op=true)(fG:∀x∈op.op.operands,Cl P L o (a.eval x)){dd:Option Tmp}(hd:op.dst=dd){R:ae->Value->ae->Prop}(cG:∀wl,jk o w wl->∃v bN,(execOp a.eval op).run P wl=.ok (.value v) bN/\R wl v bN)(h:∀wl v bN w',jk o w wl->R wl v bN->mG P L o w w' bN v->dK (XB P Fin d) fn ops rest Q (a.put dd v) (grow o w w') w'):dK (XB P Fin d) fn ops (i::rest) Q a o w:=by
 intro b k cs hb hk hc;exact CN dp hF ho hw hk iS fG hd cG λwl v bN w' h1 h2 h3=>h wl v bN w' h1 h2 h3 b k cs hb hk hc
def xE(dp:sJ P L P.globals.size)(hF:bJ P L o w)(ho:ops[i]?=so op)(hw:Region.wanted op (yielded ops a.tmps)=true)(iS:oC L op.op=true)(fG:∀x∈op.op.operands,Cl P L o (a.eval x)){dd:Option Tmp}(hd:op.dst=dd){v:Value}(cG:∀wl,jk o w wl->(execOp a.eval op).run P wl=.ok (.value v) wl)(h:Cl P L o v->dK (XB P Fin d) fn ops rest Q (a.put dd v) o w):dK (XB P Fin d) fn ops (i::rest) Q a o w:=by
 intro b k cs hb hk hc;exact nQ dp hF ho hw hk iS fG hd cG λh1=>h h1 b k cs hb hk hc
def vF(dp:sJ P L P.globals.size)(hF:bJ P L o w)(ho:ops[i]?=so op)(hw:Region.wanted op (yielded ops a.tmps)=true)(iS:oC L op.op=true)(fG:∀x∈op.op.operands,Cl P L o (a.eval x)){dd:Option Tmp}(hd:op.dst=dd){R:ae->ae->Prop}(cG:∀wl,jk o w wl->∃bN,(execOp a.eval op).run P wl=.ok .skip bN/\R wl bN)(h:∀wl bN w',jk o w wl->R wl bN->mG P L o w w' bN undef->dK (XB P Fin d) fn ops rest Q (a.put dd undef) (grow o w w') w'):dK (XB P Fin d) fn ops (i::rest) Q a o w:=by
 intro b k cs hb hk hc;exact AB dp hF ho hw hk iS fG hd cG λwl bN w' h1 h2 h3=>h wl bN w' h1 h2 h3 b k cs hb hk hc
end
section
variable {P:Program}{m:Bool}{b:Frame}{a:Act}{k:List Item}{cs:List Frame}{w:ae}
def CP{o:Oper}{x:Operand}{f:FuncId}{fn:Func}{cap:Array Value}{args:Array Operand}{tf:Array TypeId}(fD:o.op=.call {callee:=.value x,args,argTypes:=tf})(hx:a.eval x=.func (.func f) #[] cap)(hf:P.funcs[f]?=so fn)(iB:(fn.name == "runtime.NumGoroutine")=false)(hb:fn.body.isNone=false):(execOp a.eval o).run P w=.ok (.enter f (args.map a.eval++cap)) w:=by
 have h1:¬fn.name= "runtime.NumGoroutine":=by simpa using iB
 have h2:¬fn.body=none:=by cases hx:fn.body<;>simp_all
 unfold execOp;simp[fD,hx,resolve,Deferred.ofValue,invoke,callFunc,hf,h1,h2]
def yI{o:Oper}{x:Operand}{f:FuncId}{fn:Func}{cap:Array Value}{args:Array Operand}{tf:Array TypeId}(fD:o.op=.call {callee:=.value x,args,argTypes:=tf})(hx:a.eval x=.func (.func f) #[] cap)(hf:P.funcs[f]?=so fn)(iB:(fn.name == "runtime.NumGoroutine")=false)(hb:fn.body.isNone=false)(es:Array Event):(execOp a.eval o).events P w es=es:=by
 have h1:¬fn.name= "runtime.NumGoroutine":=by simpa using iB
 have h2:¬fn.body=none:=by cases hx:fn.body<;>simp_all
 unfold execOp;simp[fD,hx,resolve,Deferred.ofValue,invoke,callFunc,hf,h1,h2]
def Mu{R:aL->ae->ae->Prop}{Gu:aL->ae->ae->Array Event->Prop}{X:aL->aY->ae->Prop}{fn:FuncId}{Q:Exit->Act->aL->ae->Prop}{o:aL}(W:gj P m R Gu X){ops:Array Oper}{i:Nat}{rest:List Nat}{op:Oper}{x:Operand}{cap:Array Value}{f:FuncId}{fc:Func}{c:Code}{args:Array Operand}{tf:Array TypeId}(ho:ops[i]?=so op)(hw:Region.wanted op (yielded ops a.tmps)=true)(fD:op.op=.call {callee:=.value x,args,argTypes:=tf})(hx:a.eval x=.func (.func f) #[] cap)(hf:P.funcs[f]?=so fc)(iB:(fc.name == "runtime.NumGoroutine")=false)(gb:fc.body=so c){vs:Array Value}(Mf:args.map a.eval++cap=vs){d:Option Tmp}(hd:op.dst=d)(h:bC P X f vs o w λv o' w'=>dK X fn ops rest Q (a.put d v) o' w'):dK X fn ops (i::rest) Q a o w:=by
 subst Mf hd;intro b k cs hb hk hc;have nD:fc.body.isNone=false:=by rw[gb];rfl
 refine W.go rfl (λw1=>?_) (h (b.at a (.inRegion ops (i::rest)::k)) cs λv o' w' q=>?_)
 ·rw[stepG_enter ho hw hk (CP fD hx hf iB nD)];have:listed P b.fn a op w1=#[]:=by unfold listed;rw[yI fD hx hf iB nD];exact seen_none P _
  rw[this]
 ·rw[show(b.at a (.inRegion ops (i::rest)::k)).finish v=b.at (a.put op.dst v) (.inRegion ops rest::k) by rw[eC,ho];rfl];exact q b k cs hb hk hc
end
section
variable {P:Program}{m:Bool}{R:aL->ae->ae->Prop}{Gu:aL->ae->ae->Array Event->Prop}{X:aL->aY->ae->Prop}{o:aL}{w:ae}{f:FuncId}{fc:Func}{Post:Value->aL->ae->Prop}{a:Act}
def qh(X:aL->aY->ae->Prop)(f:FuncId)(Post:Value->aL->ae->Prop)(a:Act)(o:aL)(w:ae):Prop :=
 ∀(cf:Frame) (cs:List Frame) (todo:List Item),(∀v o2 w2,Post v o2 w2->X o2 (G (cf.finish v) cs) w2)->X o (G {(base f).at a todo with mode:=.returning} (cf::cs)) w
def Jt(W:gj P m R Gu X){c:Code}{vs:Array Value}(hf:P.funcs[f]?=so fc)(gb:fc.body=so c)(h:wN X f c (λe a' o' w'=>(e=.normal\/e=.ret)/\qh X f Post a' o' w') {tmps:=vs++Array.replicate (fc.ntmps-vs.size) undef,defers:=[]} o w):bC P X f vs o w Post:=by
 intro cf cs hc;rw[jr hf gb];refine h (base f) [] _ rfl (by simp[base]) λe a' o' w' q=>?_;obtain⟨he,hl⟩:=q;rcases he with rfl|rfl
 ·exact W.go rfl (λ_=>eD) (hl _ _ _ hc)
 ·exact λtodo=>hl _ _ _ hc
def Mv(W:gj P m R Gu X)(hf:P.funcs[f]?=so fc)(hd:a.defers=[]){v:Value}(hr:ResultsC P fc a.tmps v)(hx:Post v o w):qh X f Post a o w:=by
 intro cf cs todo hc;refine W.go rfl (λw1=>?_) (hc v o w hx);rw[stepG_leave (b:=base f) rfl hd hf (hr w1).1 (hr w1).2]
def acU{Fin:br}{tmps:Array Value}{v:Value}(cG:∀n,(results fc tmps).run P (w.at n)=.ok v (w.at n))(jg:∀n e,e∈(results fc tmps).events P (w.at n) #[]->∃ad wt sy,e=⟨.cell ad,wt,sy⟩/\o ad.block):yz P (λ_=>AtRel) (GuO Fin) fc tmps o w v:=by
 rintro w1 ⟨n,rfl⟩;refine⟨cG n,λes IH=>⟨λe he=>?_,af _,rfl,rfl⟩⟩;obtain⟨ad,wt,sy,rfl,hb⟩:=jg n e (IH e he);rw[cp];exact⟨(tw hb).PZ,aj,aj⟩
end
section
variable {P:Program}{L:Nat->Bool}{o:aL}{w:ae}
def Ju{f:Rn}{c:Array Value}{j:Nat}{v:Value}(hc:c.map (val f)=c)(hv:val f v=v):(c.setIfInBounds j v).map (val f)=c.setIfInBounds j v:=by
 rw[kN,hc,hv]
def bJ.setCell(h:bJ P L o w){K off:Nat}{v:Value}(hv:Cl P L o v):bJ P L o (w.setCell ⟨K,off,we⟩ v):=by
 refine⟨λb hb=>?_,h.kz,by simpa[World.setCell] using h.size⟩;obtain⟨y,k1,k2,k3⟩:=h.shut b hb;by_cases e:K=b
 ·subst e;cases y with
  |cells c t z =>
   refine⟨.cells (c.setIfInBounds off v) t z,by simp[World.setCell,aR,k1],rfl,λf hf=>?_⟩;have:=k3 f hf;simp only[obj,Obj.cells.injEq,and_true]at this |-;exact Ju this (hv f hf)
  |_=>exact⟨_,by simp[World.setCell,aR,k1],k2,k3⟩
 ·exact⟨y,by simp[World.setCell,aR,e,k1],k2,k3⟩
end
end Go.Conc
