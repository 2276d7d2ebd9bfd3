import Derived.Test.YtgjekaaknjgnmaaGreatDoorAa
import Derived.Conc.Beside
import Derived.Conc.CrowdComm
import Derived.Conc.CrowdRun
import Derived.Conc.CrowdStepC2
set_option linter.all false
set_option maxHeartbeats 32000000
set_option maxRecDepth 100000
namespace Go.Ren
open _root_.Option renaming some → so,none → we
section
open Go.Conc (G)
def gre(τ:Tape)(d:Nat):GStep->GStep
 | .go g w es=>.go g (WT w τ d) es
 | .ended o w es=>.ended o (WT w τ d) es
 |x=>x
def YT(g g':aY):Prop:=(g'.frame.mode=.run\/g'.frame.mode=.returning)\/∃ch,g'={g with frame:={g.frame with mode:=.panicking ch}}
def Kind(g:aY)(w:ae)(c:Nat):GStep->Prop
 | .go g' w' _=>w'.tape=w.tape/\w'.drawn=w.drawn+c/\(g'.status=.running/\g'.dying=we)/\YT g g'
 | .ended ..=>True
 |_=>False
def vv(P:Program)(m:Bool)(g:aY)(w:ae):Prop :=
 ∃c,(∀τ d,oG w c τ d->stepG P m g (WT w τ d)=gre τ (d+c) (stepG P m g w))/\Kind g w c (stepG P m g w)
section
variable {P:Program}{L:Nat->Bool}{Gm:Nat}{F:kr}{wl wr:ae}{f:Rn}
def jK{m:Bool}{g g':aY}(hr:g'.status=.running)(hd:g'.dying=we)(hm:g'.frame.mode=.run\/g'.frame.mode=.returning)(h:∀w,stepG P m g w=.go g' w #[]):vv P m g wl :=
 ⟨0,λτ d _=>by rw[h,h];rfl,by rw[h];exact⟨rfl,rfl,⟨hr,hd⟩,.inl hm⟩⟩
def ym{m:Bool}{g:aY}{o:Outcome}(h:∀w,stepG P m g w=.ended o w #[]):vv P m g wl :=
 ⟨0,λτ d _=>by rw[h,h];rfl,by rw[h];trivial⟩
def YU:Result Next->Prop
 | .ok (.value _) _|.ok .skip _|.ok (.enter ..) _=>True
 | .ok _ _=>False
 | .halt h _=>pN h=true\/∃v,h=.panic v
def uG{fr:Frame}{cs:List Frame}{s:Sem Next}{w w':ae}{el:Array Event}{u:Unsupported}(hu:pN (.unsupported u)=true)(h:s.runT P w #[]=(.halt (.unsupported u) w',el))(hk:fr.kind=.normal):
  stepG.apply P true fr cs we s w=.ended (.unsupported u (fr.pos P)) w' (seen P fr.fn el):=by
 cases u<;>first|exact Bool.noConfusion hu|(simp only[stepG.apply,if_true,h,hk,GStep.after,cw];rfl)
def uH{fr:Frame}{cs:List Frame}{s:Sem Next}{w w':ae}{el:Array Event}{y:String}(h:s.runT P w #[]=(.halt (.stuck y) w',el))(hk:fr.kind=.normal):
  stepG.apply P true fr cs we s w=.ended (.stuck y (fr.pos P)) w' (seen P fr.fn el):=by
 simp only[stepG.apply,if_true,h,hk,GStep.after,cw];rfl
def zH{fr:Frame}{cs:List Frame}{s:Sem Next}{w w':ae}{el:Array Event}{v:Value}(h:s.runT P w #[]=(.halt (.panic v) w',el))(hk:fr.kind=.normal):
  stepG.apply P true fr cs we s w=.go (G (fr.raise [{v,recovered:=false}]) cs) w' (seen P fr.fn el):=by
 simp only[stepG.apply,if_true,h,hk,GStep.after,G,cw];rfl
def R9{fr:Frame}{cs:List Frame}{s:Sem Next}{c:Nat}(hmd:fr.mode=.run)(hk:fr.kind=.normal)(ht:∃ops td k,fr.todo=.inRegion ops td::k)(hD:Cf P s wl #[] c)(hN:YU (s.runT P wl #[]).1):
  (∀τ d,oG wl c τ d->stepG.apply P true fr cs we s (WT wl τ d)=gre τ (d+c) (stepG.apply P true fr cs we s wl))/\Kind (G fr cs) wl c (stepG.apply P true fr cs we s wl):=by
 obtain⟨h1,h2,h3⟩:=hD;have fin:∀v,(G (fr.finish v) cs).frame.mode=.run:=by
  intro v;obtain⟨ops,td,k,ht⟩:=ht;cases td<;>simp[G,Frame.finish,ht,hmd]
 rcases hx:s.runT P wl #[] with⟨r,el⟩;rw[hx]at h1 h2 h3 hN;cases r with
 |ok n w1 =>
  cases n<;>simp only[YU]at hN
  ·refine⟨λτ d hA=>?_,?_⟩
   ·rw[pq hk (h3 τ d hA),pq hk hx];rfl
   ·rw[pq hk hx];exact⟨h1,h2,⟨rfl,rfl⟩,.inl (.inl (fin _))⟩
  ·refine⟨λτ d hA=>?_,?_⟩
   ·rw[qJ hk (h3 τ d hA),qJ hk hx];rfl
   ·rw[qJ hk hx];exact⟨h1,h2,⟨rfl,rfl⟩,.inl (.inl (fin _))⟩
  ·refine⟨λτ d hA=>?_,?_⟩
   ·rw[pr hk ht (h3 τ d hA),pr hk ht hx];rfl
   ·rw[pr hk ht hx];exact⟨h1,h2,⟨rfl,rfl⟩,.inl (.inl rfl)⟩
 |halt h w1 =>
  rcases hN with hN|⟨v,rfl⟩
  ·cases h<;>first|exact Bool.noConfusion hN|skip
   ·refine⟨λτ d hA=>?_,?_⟩
    ·rw[uG hN (h3 τ d hA) hk,uG hN hx hk];rfl
    ·rw[uG hN hx hk];trivial
   ·refine⟨λτ d hA=>?_,?_⟩
    ·rw[uH (h3 τ d hA) hk,uH hx hk];rfl
    ·rw[uH hx hk];trivial
  ·refine⟨λτ d hA=>?_,?_⟩
   ·rw[zH (h3 τ d hA) hk,zH hx hk];rfl
   ·rw[zH hx hk];exact⟨h1,h2,⟨rfl,rfl⟩,.inr ⟨[{v,recovered:=false}],by simp only[G,Frame.raise,hmd]⟩⟩
def LU(dp:sJ P L Gm)(hP:PF P L Gm F)(W:WR F wl wr)(vW:gh wl){m:Bool}{pn ab abr:List Frame}{fr xu:Frame}(Ps:vV Gm L fr)(hr:∀f,F.has f->xu=frame f fr)(NT:ab≠[]\/fr.mode=.run)(iS:∀c∈ab,vV Gm L c):vv P m (G fr (ab++pn)) wl:=by
 obtain⟨f0,lE⟩:=W.some;obtain⟨hd,vu,hk,sr,E7,IC⟩:=Ps;obtain⟨fn,tmps,todo,defers,mode,kind,ro⟩:=fr;simp only at hd vu hk sr E7 IC NT;subst hd vu hk;obtain⟨tr,Ej,wK⟩:∃tr,xu=Fr fn tr todo mode/\∀f,F.has f->tr=tmps.map (val f):=by
  refine⟨tmps.map (val f0),hr f0 lE,λf hf=>?_⟩;have:=(hr f0 lE).symm.trans (hr f hf);simp only[frame,Frame.mk.injEq]at this;exact this.2.1
 rcases IC with IC|IC
 ·subst IC;cases todo with
  |nil=>exact jK (g':=G (Fr fn tmps [] .returning) (ab++pn)) rfl rfl (.inr rfl) (λw=>by simp only[G,stepG,stepG.exec,if_true])
  |cons i k =>
   have hi:=E7 i aj;cases i<;>first|exact Bool.noConfusion hi|skip
   case inBlock id=>exact jK (g':=G (Fr fn tmps k .run) (ab++pn)) rfl rfl (.inl rfl) (λw=>by simp only[G,stepG,stepG.exec])
   case inScope c=>exact jK (g':=G (Fr fn tmps k .run) (ab++pn)) rfl rfl (.inl rfl) (λw=>by simp only[G,stepG,stepG.exec])
   case inLoop c=>exact jK (g':=G (Fr fn tmps (.code c :: .inLoop c::k) .run) (ab++pn)) rfl rfl (.inl rfl) (λw=>by simp only[G,stepG,stepG.exec])
   case code c =>
    have mn:lF Gm L c=true:=hi;cases c<;>first|exact Bool.noConfusion hi|skip
    case skip=>exact jK (g':=G (Fr fn tmps k .run) (ab++pn)) rfl rfl (.inl rfl) (λw=>by simp only[G,stepG,stepG.exec])
    case label l=>exact jK (g':=G (Fr fn tmps k .run) (ab++pn)) rfl rfl (.inl rfl) (λw=>by simp only[G,stepG,stepG.exec])
    case ret=>exact jK (g':=G (Fr fn tmps (.code .ret::k) .returning) (ab++pn)) rfl rfl (.inr rfl) (λw=>by simp only[G,stepG,stepG.exec,if_true])
    case seq a b=>exact jK (g':=G (Fr fn tmps (.code a :: .code b::k) .run) (ab++pn)) rfl rfl (.inl rfl) (λw=>by simp only[G,stepG,stepG.exec])
    case block id c=>exact jK (g':=G (Fr fn tmps (.code c :: .inBlock id::k) .run) (ab++pn)) rfl rfl (.inl rfl) (λw=>by simp only[G,stepG,stepG.exec])
    case loop c=>exact jK (g':=G (Fr fn tmps (.code c :: .inLoop c::k) .run) (ab++pn)) rfl rfl (.inl rfl) (λw=>by simp only[G,stepG,stepG.exec])
    case scope c=>exact jK (g':=G (Fr fn tmps (.code c :: .inScope c::k) .run) (ab++pn)) rfl rfl (.inl rfl) (λw=>by simp only[G,stepG,stepG.exec])
    case refuse w=>exact ym (λw=>by simp only[G,stepG,stepG.exec];rfl)
    case cond c a b =>
     by_cases hb:∃t,Frame.eval (Fr fn tmps (.code (.cond c a b)::k) .run) c=.bool t
     ·obtain⟨t,hb⟩:=hb;exact jK (g':=G (Fr fn tmps (.code (if t then a else b)::k) .run) (ab++pn)) rfl rfl (.inl rfl) (λw=>by simp only[G,stepG,stepG.exec,hb])
     ·refine ym (o:=.stuck "cond: bool expected" (Frame.pos P (Fr fn tmps (.code (.cond c a b)::k) .run))) (λw=>?_);simp only[G,stepG,stepG.exec];cases hv:Frame.eval (Fr fn tmps (.code (.cond c a b)::k) .run) c<;>first|rfl|exact absurd ⟨_,hv⟩ hb
    case exit id =>
     cases hx:exitTo id k with
     |none=>exact ym (λw=>by simp only[G,stepG,stepG.exec,hx,Option.elim_none];rfl)
     |some k2=>exact jK (g':=G (Fr fn tmps k2 .run) (ab++pn)) rfl rfl (.inl rfl) (λw=>by simp only[G,stepG,stepG.exec,hx,Option.elim_some])
    case goto l =>
     cases hx:gotoIn l k with
     |none=>exact ym (λw=>by simp only[G,stepG,stepG.exec,hx,Option.elim_none];rfl)
     |some k2=>exact jK (g':=G (Fr fn tmps k2 .run) (ab++pn)) rfl rfl (.inl rfl) (λw=>by simp only[G,stepG,stepG.exec,hx,Option.elim_some])
    case region id ops draw =>
     cases draw
     ·exact jK (g':=G (Fr fn tmps (.inRegion ops (List.range ops.size)::k) .run) (ab++pn)) rfl rfl (.inl rfl) (λw=>by simp only[G,stepG,stepG.exec,Bool.not_false,if_true])
     ·have e:∀w:ae,stepG P m (G (Fr fn tmps (.code (.region id ops true)::k) .run) (ab++pn)) w=.go (G (Fr fn tmps (.inRegion ops (Region.schedule (P.follows .mixedOrders) ops (Question.cut (.order fn id) (w.tape w.drawn (.order fn id))))::k) .run) (ab++pn)) {w with drawn:=w.drawn+1} #[]:=by
       intro w;simp only[G,stepG,stepG.exec,choose,Sem.run,Question.forced,Bool.not_true,aT,if_false]
      refine⟨1,λτ d hA=>?_,by rw[e];exact⟨rfl,rfl,⟨rfl,rfl⟩,.inl (.inl rfl)⟩⟩;have h0:=hA 0 aa (.order fn id);simp only[Nat.add_zero]at h0;rw[e,e];simp only[WT,h0,gre]
   case inRegion ops todo =>
    cases todo with
    |nil=>exact jK (g':=G (Fr fn tmps k .run) (ab++pn)) rfl rfl (.inl rfl) (λw=>by simp only[G,stepG,stepG.exec])
    |cons i rest =>
     by_cases hw:((ops[i]?).map (Region.wanted · (yielded ops tmps))).getD false=true
     ·obtain⟨o,ho⟩:∃o,ops[i]?=so o:=by
       cases ho:ops[i]? with
       |none=>rw[ho]at hw;cases hw
       |some o=>exact⟨o,rfl⟩
      have NU:uE Gm L o=true:=by
       have eP:ops.all (uE Gm L)=true:=hi;rw[iM]at eP;obtain⟨cR,he⟩:=aI.1 ho;rw[<- he];exact eP i cR
      simp only[uE,aU,Array.all_eq_true']at NU;have hrel:∀f,F.has f->Rel P f (jJ L f) (execOp (Fr fn tmps (.inRegion ops (i::rest)::k) .run).eval o) (execOp (Fr fn tr (.inRegion ops (i::rest)::k) .run).eval o):=by
       intro f hf;have jg:∀g,F.has g->∀x∈o.op.operands,(Fr fn tr (.inRegion ops (i::rest)::k) .run).eval x=val g ((Fr fn tmps (.inRegion ops (i::rest)::k) .run).eval x):=by
        intro g hg x hx;have:=Ca hP dp hg (Fr fn tmps (.inRegion ops (i::rest)::k) .run) x (NU.2 x hx);rw[show frame g (Fr fn tmps (.inRegion ops (i::rest)::k) .run)=Fr fn tr (.inRegion ops (i::rest)::k) .run by rw[wK g hg];rfl]at this;exact this
       exact B7 (PF.ok hP dp hf) (PF.fn hP hf) (λn hn args=>dp.call n hn f (PF.ok hP dp hf) (PF.fn hP hf) args) o NU.1 (jg f hf) (λx hx=>Cb W hP (λg hg=>jg g hg x hx))
      obtain⟨c,hD⟩:=xx _ _ wl #[] (hrel f0 lE);have hC:=xW (λf=>jJ L f) _ _ F wl wr #[] #[] hrel W;have hN:=tq _ _ wl #[] (hrel f0 lE) vW;have ab4:YU ((execOp (Fr fn tmps (.inRegion ops (i::rest)::k) .run).eval o).runT P wl #[]).1:=by
       rcases hx:(execOp (Fr fn tmps (.inRegion ops (i::rest)::k) .run).eval o).runT P wl #[] with⟨r,el⟩;rw[hx]at hC hN;cases r with
       |halt h w1=>exact hN
       |ok n w1 =>
        obtain⟨F',b,pw,YQ,c1,c2,c3,c4,c5,c6⟩:=hC;obtain⟨g0,YR⟩:=c3.some;have Xv:=c2 g0 YR;cases n<;>cases b<;>simp only[jJ]at Xv<;>trivial
      have hl:∀w,stepG P m (G (Fr fn tmps (.inRegion ops (i::rest)::k) .run) (ab++pn)) w=stepG.apply P true (Fr fn tmps (.inRegion ops (i::rest)::k) .run) (ab++pn) we (execOp (Fr fn tmps (.inRegion ops (i::rest)::k) .run).eval o) w:=by
       intro w;simp only[G,stepG,stepG.exec];refine(if_pos hw).trans ?_;simp only[stepG.oper,Frame.oper?,ho]
      obtain⟨a1,a2⟩:=R9 (P:=P) (fr:=Fr fn tmps (.inRegion ops (i::rest)::k) .run) (cs:=ab++pn) rfl rfl ⟨_,_,_,rfl⟩ hD ab4;exact⟨c,λτ d hA=>by rw[hl,hl];exact a1 τ d hA,by rw[hl];exact a2⟩
     ·refine jK (g':=G ((Fr fn tmps (.inRegion ops (i::rest)::k) .run).finish undef) (ab++pn)) rfl rfl (.inl (by simp[G,Frame.finish])) (λw=>?_);simp only[G,stepG,stepG.exec,hw];simp only[aT,if_false]
 ·subst IC;have fu:ab≠[]:=NT.elim id (λh=>by cases h);cases ab with
  |nil=>exact absurd rfl fu
  |cons c0 ab2 =>
   obtain⟨Aq,sO,_⟩:=dp.body fn sr;have hrel:Rel P f0 (V f0) (results Aq tmps) (results Aq tr):=by
    rw[wK f0 lE];exact rT (PF.ok hP dp lE) Aq tmps
   obtain⟨c,h1,h2,h3⟩:=xx _ _ wl #[] hrel;have hN:=tq _ _ wl #[] hrel vW;rcases hx:(results Aq tmps).runT P wl #[] with⟨r,el⟩;rw[hx]at h1 h2 h3 hN;cases r with
   |ok v w1 =>
    have e:∀w w1:ae,(results Aq tmps).runT P w #[]=(.ok v w1,el)->stepG P m (G (Fr fn tmps todo .returning) (c0::ab2++pn)) w=.go (G (c0.finish v) (ab2++pn)) w1 (seen P fn el):=by
     intro w w1 h;simp only[G,stepG,unwind,sO,h,List.cons_append,GStep.after,doReturn,cw]
    refine⟨c,λτ d hA=>?_,?_⟩
    ·rw[e _ _ (h3 τ d hA),e _ _ hx];rfl
    ·rw[e _ _ hx];exact⟨h1,h2,⟨rfl,rfl⟩,.inl (zG (iS c0 aj) v).mode⟩
   |halt h w1 =>
    obtain⟨o,e⟩:∃o,∀w w1:ae,(results Aq tmps).runT P w #[]=(.halt h w1,el)->stepG P m (G (Fr fn tmps todo .returning) (c0::ab2++pn)) w=.ended o w1 (seen P fn el):=by
     cases h<;>exact⟨_,λw w1 hh=>by simp only[G,stepG,unwind,sO,hh,GStep.after,cw];rfl⟩
    refine⟨c,λτ d hA=>?_,?_⟩
    ·rw[e _ _ (h3 τ d hA),e _ _ hx];rfl
    ·rw[e _ _ hx];trivial
end
end
section
open Go.Conc (G)
def kP(P:Program):Nat->aY->ae->Option (aY×ae)
 |0,g,w=>so (g,w)
 |n+1,g,w=>match stepG P true g w with
  | .go g' w' _=>kP P n g' w'
  |_=>we
def gY:Frame:={fn:=0,tmps:=#[],todo:=[.code (.refuse "door")],defers:=[{target:=.nil,args:=#[]}],mode:=.run,kind:=.normal}
def Inv(P:Program)(L:Nat->Bool)(Gm:Nat)(pn:List Frame)(g:aY)(w:ae):Prop :=
 ∃F fr ab xu abr wr,g=G fr (ab++pn)/\vV Gm L fr/\(∀c∈ab,vV Gm L c)/\(∀f,kr.has F f->xu=frame f fr/\abr=ab.map (frame f))/\WR F w wr/\gh w/\PF P L Gm F
def pQ(pn:List Frame)(g:aY):Prop:=∃fr,g=G fr pn/\fr.mode=.returning
def YV(g:aY):Prop:=∃chain,g.frame.mode=.panicking chain
section
variable {P:Program}{L:Nat->Bool}{Gm:Nat}
def Inv.WT{pn:List Frame}{g:aY}{w:ae}(h:Inv P L Gm pn g w)(τ:Tape)(d:Nat):Inv P L Gm pn g (WT w τ d):=by
 obtain⟨F,fr,ab,xu,abr,wr,h1,h2,h3,h4,W,hn,hp⟩:=h;exact⟨F,fr,ab,xu,abr,Ren.WT wr τ d,h1,h2,h3,h4,W.env rfl rfl W.os W.output rfl rfl,gh.heap hn rfl,hp⟩
def Inv.E8(dp:sJ P L Gm){pn:List Frame}{g:aY}{w:ae}(h:Inv P L Gm pn g w)(hb:¬pQ pn g):vv P true g w:=by
 obtain⟨F,fr,ab,xu,abr,wr,rfl,h2,h3,h4,W,hn,hp⟩:=h;refine LU dp hp W hn h2 (λf hf=>(h4 f hf).1) ?_ h3 (abr:=abr);rcases h2.mode with hm|hm
 ·exact .inr hm
 ·refine .inl λe=>hb ⟨fr,by rw[e];rfl,hm⟩
def Ci{P:Program}{L:Nat->Bool}{Gm:Nat}{pn:List Frame}{g:aY}{w:ae}(h:Inv P L Gm pn g w):g.status=.running/\g.dying=none:=by
 obtain⟨F,fr,ab,xu,abr,wr,rfl,_⟩:=h;exact⟨rfl,rfl⟩
def Inv.step(dp:sJ P L Gm){pn:List Frame}{g g1:aY}{w w1:ae}{es:Array Event}(h:Inv P L Gm pn g w)(hb:¬pQ pn g)(hs:stepG P true g w=.go g1 w1 es)(hm:g1.frame.mode=.run\/g1.frame.mode=.returning):Inv P L Gm pn g1 w1:=by
 have hk:=h.E8 dp hb;obtain⟨c,_,hk⟩:=hk;rw[hs]at hk;obtain⟨F,fr,ab,xu,abr,wr,rfl,h2,h3,h4,W,hn,hp⟩:=h;have NT:ab≠[]\/fr.mode=.run:=by
  rcases h2.mode with hm|hm
  ·exact .inr hm
  ·refine .inl λe=>hb ⟨fr,by rw[e];rfl,hm⟩
 obtain⟨F',NR,YN,LP,LQ,qC,mQ,e1,e2,e3,e4,e5,e6,e7,e8,e9,e10,e11⟩:=IB dp hp W hn (m':=true) (csr:=[]) h2 h3 h4 hs hk.2.2.1.1 hk.2.2.1.2 hm NT;exact⟨F',NR,YN,LP,LQ,qC,e1,e2,e3,e5,e6,e11,e9⟩
def As(P:Program)(g:aY):Prop :=
 (∃ab fr chain,g=G fr (ab++[gY])/\fr.mode=.panicking chain/\fr.defers=[]/\(∃fn,P.funcs[fr.fn]?=so fn)/\∀c∈ab,c.defers=[]/\∃fn,P.funcs[c.fn]?=so fn) \/
 (∃chain,g=G {gY with mode:=.panicking chain} [])
def raise_mode(fr:Frame)(ch:List PanicEntry):∃YW,fr.raise ch={fr with mode:=.panicking YW}:=by
 unfold Frame.raise;split<;>exact⟨_,rfl⟩
def Cj{g:aY}(h:As P g)(w:ae):(∃o w' es,stepG P true g w=.ended o w' es)\/∃g' w' es,stepG P true g w=.go g' w' es/\As P g':=by
 rcases h with⟨ab,fr,chain,rfl,hm,hd,⟨fn,hf⟩,tP⟩|⟨chain,rfl⟩
 ·right;have hc:fr.catches P=false:=by simp[Frame.catches,hf]
  cases ab with
  |nil =>
   obtain⟨YW,e⟩:=raise_mode gY chain;refine⟨G {gY with mode:=.panicking YW} [],w,#[],?_,.inr ⟨YW,rfl⟩⟩;rw[<- e];obtain⟨a1,a2,a3,a4,a5,a6,a7⟩:=fr;simp only at hm hd;subst hm hd;simp only[G,stepG,unwind,hc,List.nil_append,aT,if_false]
  |cons c ab =>
   obtain⟨YW,e⟩:=raise_mode c chain;refine⟨G {c with mode:=.panicking YW} (ab++[gY]),w,#[],?_,.inl ⟨ab,_,YW,rfl,rfl,(tP c aj).1,(tP c aj).2,λx hx=>tP x (by simp[hx])⟩⟩;rw[<- e];obtain⟨a1,a2,a3,a4,a5,a6,a7⟩:=fr;simp only at hm hd;subst hm hd;simp only[G,stepG,unwind,hc,List.cons_append,aT,if_false]
 ·left;exact⟨_,_,_,by simp only[G,stepG,gY,unwind,callDeferred];rfl⟩
def Ck:∀(n:Nat) (g:aY) (w:ae) (x:aY×ae),As P g->kP P n g w=so x->As P x.1:=by
 intro n
 induction n with
 |zero=>intro g w x h e;simp only[kP,ay]at e;rw[<- e];exact h
 |succ n ih =>
  intro g w x h e;simp only[kP]at e;rcases Cj h w with⟨o,w',es,hs⟩|⟨g',w',es,hs,h'⟩
  ·rw[hs]at e;cases e
  ·rw[hs]at e;exact ih g' w' x h' e
def Inv.next(dp:sJ P L Gm){g g1:aY}{w w1:ae}{es:Array Event}(h:Inv P L Gm [gY] g w)(hb:¬pQ [gY] g)(hs:stepG P true g w=.go g1 w1 es):Inv P L Gm [gY] g1 w1\/As P g1:=by
 obtain⟨c,_,hk⟩:=h.E8 dp hb;rw[hs]at hk;rcases hk.2.2.2 with hm|⟨ch,hg⟩
 ·exact .inl (h.step dp hb hs hm)
 ·right;obtain⟨F,fr,ab,xu,abr,wr,rfl,h2,h3,h4,W,hn,hp⟩:=h;have fn:∀c,vV Gm L c->∃fn,P.funcs[c.fn]?=so fn:=λc hc=>let ⟨x,hx,_⟩:=dp.body _ hc.fn;⟨x,hx⟩;exact .inl ⟨ab,{fr with mode:=.panicking ch},ch,hg,rfl,h2.defers,fn fr h2,λc hc=>⟨(h3 c hc).defers,fn c (h3 c hc)⟩⟩
def As.mode{g:aY}(h:As P g):YV g:=by
 rcases h with⟨ab,fr,chain,rfl,hm,_⟩|⟨chain,rfl⟩
 ·exact⟨chain,hm⟩
 ·exact⟨chain,rfl⟩
end
end
section
open Go.Conc (G)
structure tt(Stop:aY->ae->Prop):Prop where
 base:∀g w,Stop g w->pQ [gY] g
 tape:∀g w τ d,Stop g w->Stop g (WT w τ d)
def Good(P:Program)(Stop:aY->ae->Prop)(g:aY)(w:ae):Prop :=
 ∀τ d,∃n x,kP P n g (WT w τ d)=so x/\Stop x.1 x.2
section
variable {P:Program}{L:Nat->Bool}{Gm:Nat}{Stop:aY->ae->Prop}
theorem NW(w:ae)(τ D4:Tape)(d d':Nat):WT (WT w τ d) D4 d'=WT w D4 d':=rfl
theorem yn(w:ae):WT w w.tape w.drawn=w:=rfl
def tt.back(hS:tt Stop){g:aY}{w:ae}{τ:Tape}{d:Nat}(h:Stop g (WT w τ d)):Stop g w:=by
 have:=hS.tape g (WT w τ d) w.tape w.drawn h;rwa[NW,yn]at this
def E9{g:aY}(hb:pQ [gY] g)(hI:∃w,Inv P L Gm [gY] g w)(dp:sJ P L Gm):∀n w x,kP P (n+1) g w=so x->¬pQ [gY] x.1:=by
 obtain⟨w0,F,fr,ab,xu,abr,wr,hg,h2,h3,_⟩:=hI;obtain⟨HO,e1,hm⟩:=hb;have tP:ab=[]:=by
  rw[hg]at e1;simp only[G,Goroutine.mk.injEq]at e1;have:=congrArg List.length e1.2.1;simp at this;exact this
 subst tP;have Ps:fr.mode=.returning:=by
  rw[hg]at e1;simp only[G,Goroutine.mk.injEq]at e1;rw[e1.1];exact hm
 subst hg;obtain⟨Aq,sO,_⟩:=dp.body _ h2.fn;obtain⟨hd,vu,hk,sr,E7,_⟩:=h2;obtain⟨fn,tmps,todo,defers,mode,kind,ro⟩:=fr;simp only at hd vu hk Ps sO;subst hd vu hk Ps;intro n w x hx;simp only[kP]at hx;rcases hr:(results Aq tmps).runT P w #[] with⟨r,el⟩;have fe:∀v w1,r=.ok v w1->stepG P true (G (Fr fn tmps todo .returning) ([]++[gY])) w=.go (G (gY.finish v) []) w1 (seen P fn el):=by
  intro v w1 e;subst e;simp only[G,stepG,unwind,sO,hr,List.nil_append,GStep.after,doReturn,cw]
 cases r with
 |ok v w1 =>
  rw[fe v w1 rfl]at hx;simp only[]at hx;have iu:gY.finish v=gY:=rfl;rw[iu]at hx;cases n with
  |zero =>
   simp only[kP,ay]at hx;rw[<- hx];rintro⟨fr2,e2,_⟩;simp only[G,Goroutine.mk.injEq]at e2;exact absurd e2.2.1 aj
  |succ n =>
   simp only[kP]at hx;have:∃o es,stepG P true (G gY []) w1=.ended o w1 es:=⟨_,_,by simp only[G,stepG,gY,stepG.exec];rfl⟩;obtain⟨o,es,he⟩:=this;rw[he]at hx;cases hx
 |halt h w1 =>
  exfalso;have:∃o es,stepG P true (G (Fr fn tmps todo .returning) ([]++[gY])) w=.ended o w1 es:=by
   cases h<;>exact⟨_,_,by simp only[G,stepG,unwind,sO,hr,GStep.after];rfl⟩
  obtain⟨o,es,he⟩:=this;rw[he]at hx;cases hx
def tu(dp:sJ P L Gm)(hS:tt Stop){n:Nat}{g:aY}{w:ae}{x:aY×ae}(hI:Inv P L Gm [gY] g w)(hx:kP P n g w=so x)(hs:Stop x.1 x.2)(hn:¬Stop g w):
  ∃n' g1 w1 es,n=n'+1/\¬pQ [gY] g/\stepG P true g w=.go g1 w1 es/\Inv P L Gm [gY] g1 w1/\kP P n' g1 w1=so x:=by
 cases n with
 |zero =>
  simp only[kP,ay]at hx;rw[<- hx]at hs;exact absurd hs hn
 |succ n =>
  have hb:¬pQ [gY] g:=λhb=>E9 hb ⟨w,hI⟩ dp n w x hx (hS.base _ _ hs);have p7:=hx;simp only[kP]at hx;cases fe:stepG P true g w with
  |go g1 w1 es =>
   rw[fe]at hx;simp only[]at hx;refine⟨n,g1,w1,es,rfl,hb,rfl,?_,hx⟩;rcases hI.next dp hb fe with h|h
   ·exact h
   ·exfalso;obtain⟨ch,hm⟩:=(Ck n g1 w1 x h hx).mode;obtain⟨fr,e,hr⟩:=hS.base _ _ hs;rw[e]at hm;simp only[G]at hm;rw[hr]at hm;cases hm
  |_=>rw[fe]at hx;cases hx
def LV(dp:sJ P L Gm)(hS:tt Stop):∀(n:Nat) (g:aY) (w:ae) (x:aY×ae),Inv P L Gm [gY] g w->kP P n g w=so x->Stop x.1 x.2 ->
  ∀τ d,(∀j q,τ (d+j) q=w.tape (w.drawn+j) q)->∃n' x',kP P n' g (WT w τ d)=so x'/\Stop x'.1 x'.2:=by
 intro n
 induction n with
 |zero =>
  intro g w x hI hx hs τ d _;simp only[kP,ay]at hx;subst hx;exact⟨0,_,rfl,hS.tape _ _ τ d hs⟩
 |succ n ih =>
  intro g w x hI hx hs τ d hA;by_cases hn:Stop g w
  ·exact⟨0,_,rfl,hS.tape _ _ τ d hn⟩
  ·obtain⟨n',g1,w1,es,e1,hb,fe,YX,vw⟩:=tu dp hS hI hx hs hn;obtain rfl:n=n':=aa;obtain⟨c,hc,hk⟩:=hI.E8 dp hb;have h1:=hc τ d (λj _ q=>hA j q);rw[fe]at h1 hk;obtain⟨n2,x2,h2,h3⟩:=ih g1 w1 x YX vw hs τ (d+c) (λj q=>by
    rw[hk.1,hk.2.1,dG,dG];exact hA (c+j) q)
   refine⟨n2+1,x2,?_,h3⟩;simp only[kP,h1,gre];exact h2
end
end
section
open Go.Conc (G)
section
variable {P:Program}{L:Nat->Bool}{Gm:Nat}{Stop:aY->ae->Prop}
def zI(dp:sJ P L Gm)(hS:tt Stop){g g1:aY}{w w1:ae}{es:Array Event}{τ:Tape}{d:Nat}(hI:Inv P L Gm [gY] g w)(hG:Good P Stop g w)(hn:¬Stop g w)(fe:stepG P true g (WT w τ d)=.go g1 w1 es):
  ¬pQ [gY] g/\Inv P L Gm [gY] g1 w1/\Good P Stop g1 w1:=by
 have hnT:∀τ d,¬Stop g (WT w τ d):=λτ d h=>hn (hS.back h);obtain⟨n,x,hx,hs⟩:=hG τ d;obtain⟨n',g1',w1',mQ,e1,hb,El,YX,vw⟩:=tu dp hS (hI.WT τ d) hx hs (hnT τ d);rw[fe]at El;cases El;refine⟨hb,YX,λD4 d'=>?_⟩;obtain⟨c,hc,hk⟩:=(hI.WT τ d).E8 dp hb;have hA:oG (WT w τ d) c (λj q=>if j<c then τ (d+j) q else D4 (d'+(j-c)) q) 0:=by
  intro j hj q;simp only[Nat.zero_add,hj,if_true];rfl
 have h1:=hc _ 0 hA;rw[fe,NW]at h1;simp only[gre,Nat.zero_add]at h1;obtain⟨m,y,hy,hys⟩:=hG (λj q=>if j<c then τ (d+j) q else D4 (d'+(j-c)) q) 0;obtain⟨m',g2,w2,es2,_,_,IF,hI2,UQ⟩:=tu dp hS (hI.WT _ 0) hy hys (hnT _ 0);rw[h1]at IF;cases IF;obtain⟨k,z,hz,YY⟩:=LV dp hS m' g1 _ y hI2 UQ hys D4 d' (λj q=>by
  simp only[WT];rw[if_neg aa]
  congr 1
  omega)
 exact⟨k,z,hz,YY⟩
def Nx(P:Program)(Stop:aY->ae->Prop)(y x:aY×ae):Prop:=¬Stop x.1 x.2/\∃τ d es,stepG P true x.1 (WT x.2 τ d)=.go y.1 y.2 es
def IG(dp:sJ P L Gm)(hS:tt Stop){g:aY}{w:ae}(hI:Inv P L Gm [gY] g w)(hG:Good P Stop g w):Acc (Nx P Stop) (g,w):=by
 refine aX λhna=>?_;have next:∀x:{x:aY×ae // Inv P L Gm [gY] x.1 x.2/\Good P Stop x.1 x.2/\¬Acc (Nx P Stop) x},∃y:{x:aY×ae // Inv P L Gm [gY] x.1 x.2/\Good P Stop x.1 x.2/\¬Acc (Nx P Stop) x},Nx P Stop y.1 x.1:=by
  rintro⟨x,hxI,hxG,hxA⟩;have:∃y,Nx P Stop y x/\¬Acc (Nx P Stop) y:=by
   refine aX λh=>hxA ?_;exact Acc.intro x λy hy=>aX λhc=>h ⟨y,hy,hc⟩
  obtain⟨y,hy,hyA⟩:=this;obtain⟨hn,τ,d,es,fe⟩:=hy;obtain⟨_,h1,h2⟩:=zI dp hS hxI hxG hn fe;exact⟨⟨y,h1,h2,hyA⟩,hn,τ,d,es,fe⟩
 obtain⟨nx,qw⟩:=eU next
 let seq:Nat->{x:aY×ae // Inv P L Gm [gY] x.1 x.2/\Good P Stop x.1 x.2/\¬Acc (Nx P Stop) x}:=λn=>Nat.rec ⟨(g,w),hI,hG,hna⟩ (λ_ x=>nx x) n;have xy:∀n,Nx P Stop (seq (n+1)).1 (seq n).1:=λn=>qw (seq n);have hn:∀n,¬Stop (seq n).1.1 (seq n).1.2:=λn=>(xy n).1;obtain⟨τ,hτ⟩:=eU (λn=>(xy n).2);obtain⟨d,hd⟩:=eU hτ;obtain⟨es,IH⟩:=eU hd;have hdr:∀n,∃c,(∀D4 d',oG (WT (seq n).1.2 (τ n) (d n)) c D4 d'->stepG P true (seq n).1.1 (WT (seq n).1.2 D4 d')=.go (seq (n+1)).1.1 (WT (seq (n+1)).1.2 D4 (d'+c)) (es n)):=by
  intro n;have hb:=(zI dp hS (seq n).2.1 (seq n).2.2.1 (hn n) (IH n)).1;obtain⟨c,hc,_⟩:=((seq n).2.1.WT (τ n) (d n)).E8 dp hb;refine⟨c,λD4 d' hA=>?_⟩;have:=hc D4 d' hA;rw[IH n,NW]at this;exact this
 obtain⟨c,hc⟩:=eU hdr;let D:Nat->Nat:=λn=>Nat.rec 0 (λk x=>x+c k) n;have hD:∀n,D (n+1)=D n+c n:=λn=>rfl;have NX:∀m n,m<=n->D m<=D n:=by
  intro m n h
  induction n with
  |zero =>
   obtain rfl:m=0:=aa;exact af _
  |succ n ih =>
   rcases cg m (n+1)with h1|h1
   ·have:=ih aa;rw[hD];omega
   ·obtain rfl:m=n+1:=aa;exact af _
 have ab6:∀m n j,D m<=j->j<D (m+1)->D n<=j->j<D (n+1)->m=n:=by
  intro m n j h1 h2 h3 h4;rcases dB m n with h|h|h
  ·have:=NX (m+1) n h;omega
  ·exact h
  ·have:=NX (n+1) m h;omega
 have ab7:∃T:Tape,∀n j,j<c n->∀q,T (D n+j) q=τ n (d n+j) q:=by
  classical
  refine⟨λi q=>if h:∃n,D n<=i/\i<D (n+1)then τ h.choose (d h.choose+(i-D h.choose)) q else 0,?_⟩;intro n j hj q;have h:∃k,D k<=D n+j/\D n+j<D (k+1):=⟨n,aa,by rw[hD];omega⟩;have e:h.choose=n:=ab6 _ _ (D n+j) h.choose_spec.1 h.choose_spec.2 aa (by rw[hD];omega);simp only[h,dif_pos];rw[e]
  congr 1
  omega
 obtain⟨T,hT⟩:=ab7;have cG:∀k n,kP P k (seq n).1.1 (WT (seq n).1.2 T (D n))=so ((seq (n+k)).1.1,WT (seq (n+k)).1.2 T (D (n+k))):=by
  intro k
  induction k with
  |zero=>intro n;rfl
  |succ k ih =>
   intro n;have hs:=hc n T (D n) (λj hj q=>hT n j hj q);simp only[kP,hs];have:=ih (n+1);rw[show n+1+k=n+(k+1) by omega]at this;rw[<- hD];exact this
 obtain⟨k,x,hx,hs⟩:=hG T 0;have h0:=cG k 0;simp only[Nat.zero_add]at h0;have e0:kP P k g (WT w T 0)=so ((seq k).1.1,WT (seq k).1.2 T (D k)):=h0;rw[e0]at hx;cases hx;exact hn k (hS.back hs)
end
end
section
open Go.Conc (G)
section
variable {P:Program}{L:Nat->Bool}{Gm:Nat}{Stop:aY->ae->Prop}
def pR{fr:Frame}{cs:List Frame}{w w1:ae}{g1:aY}{es:Array Event}{HO:Frame}{tQ:List Frame}(h:stepG P true (G fr cs) w=.go g1 w1 es)(e:g1=G HO tQ):step P (lone fr cs w)=.next (lone HO tQ w1):=by
 subst e;refine step_lone_go ?_;show(stepG P true (G fr cs) w).bare=_;rw[h];rfl
def kV{fr:Frame}{cs:List Frame}{w w1:ae}{o:Outcome}{es:Array Event}(h:stepG P true (G fr cs) w=.ended o w1 es):step P (lone fr cs w)=.ended o w1:=by
 refine step_lone_ended ?_;show(stepG P true (G fr cs) w).bare=_;rw[h];rfl
def II{fr NR:Frame}{cs uI:List Frame}{w w':ae}(h:lone fr cs w=lone NR uI w'):fr=NR/\cs=uI/\w=w':=by
 simp only[lone,Machine.mk.injEq,Array.mk.injEq,bT,Goroutine.mk.injEq,and_true]at h;exact⟨h.2.1,h.2.2,h.1⟩
def Pu(dp:sJ P L Gm){NR:Frame}{w':ae}(hm:NR.mode=.returning):∀(n:Nat) (fr:Frame) (cs:List Frame) (w:ae),(Inv P L Gm [gY] (G fr cs) w\/As P (G fr cs)) ->
  runN P n (lone fr cs w)=.next (lone NR [gY] w')->kP P n (G fr cs) w=so (G NR [gY],w'):=by
 intro n
 induction n with
 |zero =>
  intro fr cs w _ h;simp only[runN,Stepped.next.injEq]at h;obtain⟨rfl,rfl,rfl⟩:=II h;rfl
 |succ n ih =>
  intro fr cs w hI h;simp only[runN]at h;rcases hI with hI|hF
  ·by_cases hb:pQ [gY] (G fr cs)
   ·exfalso;obtain⟨F,HO,ab,xu,abr,wr,hg,h2,h3,_⟩:=hI;obtain⟨fr2,e1,YO⟩:=hb;simp only[G,Goroutine.mk.injEq]at hg e1;obtain⟨rfl,HP,_⟩:=hg;obtain⟨rfl,rfl,_⟩:=e1;obtain⟨Aq,sO,_⟩:=dp.body _ h2.fn;obtain⟨hd,vu,hk,sr,E7,_⟩:=h2;obtain⟨fn,tmps,todo,defers,mode,kind,ro⟩:=fr;simp only at hd vu hk YO sO;subst hd vu hk YO;rcases hr:(results Aq tmps).runT P w #[] with⟨r,el⟩;cases r with
    |ok v w1 =>
     have fe:stepG P true (G (Fr fn tmps todo .returning) [gY]) w=.go (G gY []) w1 (seen P fn el):=by
      simp only[G,stepG,unwind,sO,hr,GStep.after,doReturn,cw];rfl
     rw[pR fe rfl]at h;simp only[]at h;cases n with
     |zero =>
      simp only[runN,Stepped.next.injEq]at h;have:=(II h).2.1;simp at this
     |succ n =>
      have:∃o es,stepG P true (G gY []) w1=.ended o w1 es:=⟨_,_,by simp only[G,stepG,gY,stepG.exec];rfl⟩;obtain⟨o,es,he⟩:=this;simp only[runN,kV he]at h;cases h
    |halt hh w1 =>
     have:∃o es,stepG P true (G (Fr fn tmps todo .returning) [gY]) w=.ended o w1 es:=by
      cases hh<;>exact⟨_,_,by simp only[G,stepG,unwind,sO,hr,GStep.after];rfl⟩
     obtain⟨o,es,he⟩:=this;rw[kV he]at h;cases h
   ·obtain⟨c,_,hk⟩:=hI.E8 dp hb;cases fe:stepG P true (G fr cs) w with
    |go g1 w1 es =>
     have qw:=hI.next dp hb fe
     obtain⟨HO,tQ,e⟩:∃HO tQ,g1=G HO tQ:=by
      rcases qw with hx|hx
      ·obtain⟨F,HO,ab,xu,abr,wr,hg,_⟩:=hx;exact⟨_,_,hg⟩
      ·rcases hx with⟨ab,HO,ch,hg,_⟩|⟨ch,hg⟩<;>exact⟨_,_,hg⟩
     rw[pR fe e]at h;subst e;simp only[kP,fe];exact ih HO tQ w1 qw h
    |ended o w1 es=>rw[kV fe]at h;cases h
    |_=>rw[fe]at hk;exact hk.elim
  ·rcases Cj hF w with⟨o,w1,es,fe⟩|⟨g1,w1,es,fe,lS⟩
   ·rw[kV fe]at h;cases h
   ·obtain⟨HO,tQ,e⟩:∃HO tQ,g1=G HO tQ:=by
     rcases lS with⟨ab,HO,ch,hg,_⟩|⟨ch,hg⟩<;>exact⟨_,_,hg⟩
    rw[pR fe e]at h;subst e;simp only[kP,fe];exact ih HO tQ w1 (.inr lS) h
def lN(P:Program)(Bp:FuncId)(Q:Value->ae->Prop)(g:aY)(w:ae):Prop :=
 ∃fr v,g=G fr [gY]/\fr.fn=Bp/\fr.mode=.returning/\∀τ d,fr.leaving P (WT w τ d) (.returned v)/\Q v (WT w τ d)
def Bq(Bp:FuncId)(Q:Value->ae->Prop):tt (lN P Bp Q) where
 base g w h:=let ⟨fr,v,e,_,hm,_⟩:=h;⟨fr,e,hm⟩
 tape g w τ d h:=let ⟨fr,v,e,h1,hm,h2⟩:=h;⟨fr,v,e,h1,hm,λD4 d'=>by rw[NW];exact h2 D4 d'⟩
def LX(Q:Value->ae->Prop):Prop:=∀v w τ d,Q v w->Q v (WT w τ d)
def Pv(dp:sJ P L Gm):∀(n:Nat) (g:aY) (w:ae) (x:aY×ae),Inv P L Gm [gY] g w->kP P n g w=so x->pQ [gY] x.1->Inv P L Gm [gY] x.1 x.2:=by
 intro n
 induction n with
 |zero=>intro g w x hI hx _;simp only[kP,ay]at hx;rw[<- hx];exact hI
 |succ n ih =>
  intro g w x hI hx hb;have Gt:¬pQ [gY] g:=λh=>E9 h ⟨w,hI⟩ dp n w x hx hb;simp only[kP]at hx;cases fe:stepG P true g w with
  |go g1 w1 es =>
   rw[fe]at hx;simp only[]at hx;rcases hI.next dp Gt fe with h|h
   ·exact ih g1 w1 x h hx hb
   ·exfalso;obtain⟨ch,hm⟩:=(Ck n g1 w1 x h hx).mode;obtain⟨fr,e,hr⟩:=hb;rw[e]at hm;simp only[G]at hm;rw[hr]at hm;cases hm
  |_=>rw[fe]at hx;cases hx
def wL(dp:sJ P L Gm){Bp:FuncId}{args:Array Value}{w:ae}{Q:Value->ae->Prop}(hQ:LX Q)(hI:Inv P L Gm [gY] (G (Frame.enter P Bp args .normal) [gY]) w)(hC:∀τ d,Calls P Bp args (WT w τ d) λe w'=>∃v,e=.returned v/\Q v w'):Good P (lN P Bp Q) (G (Frame.enter P Bp args .normal) [gY]) w:=by
 intro τ d;obtain⟨e,w',fr,⟨v,rfl,hv⟩,YZ,sr,Xw⟩:=hC τ d [gY];obtain⟨n,hn⟩:=YZ;have hm:fr.mode=.returning:=Xw.1;have hl:=Pu dp hm n _ _ _ (.inl (hI.WT τ d)) hn;have Sa:=Pv dp n _ _ _ (hI.WT τ d) hl ⟨fr,rfl,hm⟩;refine⟨n,_,hl,fr,v,rfl,sr,hm,λD4 d'=>⟨?_,hQ v w' D4 d' hv⟩⟩;obtain⟨_,hd,hk,Aq,sO,qK⟩:=Xw;refine⟨hm,hd,hk,Aq,sO,?_⟩;obtain⟨F,HO,ab,xu,abr,wr,hg,h2,h3,h4,W,vW,hp⟩:=Sa;simp only[G,Goroutine.mk.injEq]at hg;obtain⟨rfl,_⟩:=hg;obtain⟨f0,lE⟩:=W.some;have hrel:=rT (PF.ok hp dp lE) Aq fr.tmps;obtain⟨c,h5,h6,h7⟩:=xx _ _ w' #[] hrel;have mC:((results Aq fr.tmps).runT P w' #[]).1=.ok v w':=by rw[Sem.runT_fst];exact qK
 rw[mC]at h6 h7;have hc0:c=0:=by simp only[Ce]at h6;omega
 subst hc0;have h8:=h7 D4 d' (λj hj=>aa);rw[<- Sem.runT_fst P (results Aq fr.tmps) (WT w' D4 d') #[],h8];rfl
end
end
section
open Go.Conc (G)
def yo(P:Program)(L:Nat->Bool)(Gm:Nat)(Stop:aY->ae->Prop)(csr:List Frame)(F:kr)(x:aY×ae)(gr:aY)(wr:ae):Prop :=
 ∃fr ab xu abr,x.1=G fr (ab++[gY])/\gr=G xu (abr++csr)/\vV Gm L fr/\(∀c∈ab,vV Gm L c)/\(∀f,F.has f->xu=frame f fr/\abr=ab.map (frame f)) /\
  WR F x.2 wr/\gh x.2/\PF P L Gm F/\Good P Stop x.1 x.2
structure LY(F:kr)(wr pw:ae):Prop where
 size:wr.heap.size<=pw.heap.size
 heap:∀r,F.K r->pw.heap[F.φ r]?=wr.heap[F.φ r]?
 os:pw.os=wr.os
 output:pw.output=wr.output
section
variable {P:Program}{L:Nat->Bool}{Gm:Nat}{Stop:aY->ae->Prop}{csr:List Frame}{F:kr}
def Good.WT{g:aY}{w:ae}(h:Good P Stop g w)(τ:Tape)(d:Nat):Good P Stop g (WT w τ d):=λD4 d'=>h D4 d'
def yo.inv{x:aY×ae}{gr:aY}{wr:ae}(h:yo P L Gm Stop csr F x gr wr):Inv P L Gm [gY] x.1 x.2:=by
 obtain⟨fr,ab,xu,abr,h1,h2,h3,h4,h5,W,hn,hp,hg⟩:=h;exact⟨F,fr,ab,xu,abr,wr,h1,h3,h4,h5,W,hn,hp⟩
def yo.others{x:aY×ae}{gr:aY}{wr pw:ae}(h:yo P L Gm Stop csr F x gr wr)(ho:LY F wr pw):yo P L Gm Stop csr F (x.1,WT x.2 pw.tape pw.drawn) gr pw:=by
 obtain⟨fr,ab,xu,abr,h1,h2,h3,h4,h5,W,hn,hp,hg⟩:=h;refine⟨fr,ab,xu,abr,h1,h2,h3,h4,h5,⟨W.here,λr hr=>bf (W.there r hr) ho.size,W.inj,λr hr f hf=>?_,W.Rq,ho.os.trans W.os,ho.output.trans W.output,rfl,rfl,W.AZ,aS W.qt ho.size,W.Eb⟩,gh.heap hn rfl,hp,hg.WT _ _⟩;rw[ho.heap r hr];exact W.uu r hr f hf
def yo.step(dp:sJ P L Gm)(hS:tt Stop){x:aY×ae}{gr:aY}{wr:ae}(h:yo P L Gm Stop csr F x gr wr)(hns:¬Stop x.1 x.2)(m':Bool):
  ∃y F' Rx pw es,stepG P m' gr wr=.go Rx pw es/\Nx P Stop y x/\yo P L Gm Stop csr F' y Rx pw/\fT F F' x.2 wr y.2 pw/\(∀e∈es,xT F' e)/\∀f,F'.has f->F.has f:=by
 have hI:=h.inv;obtain⟨fr,ab,xu,abr,h1,h2,h3,h4,h5,W,hn,hp,hg⟩:=h;obtain⟨g,w⟩:=x;simp only at h1 W hn hg hI hns;subst h1 h2;obtain⟨n,z,hz,YY⟩:=hg w.tape w.drawn;rw[yn]at hz;obtain⟨n',g1,w1,es,_,hb,fe,YX,_⟩:=tu dp hS hI hz YY hns;have hm:g1.frame.mode=.run\/g1.frame.mode=.returning:=by
  obtain⟨F1,HO,ab1,_,_,_,HQ,Le,_⟩:=YX;rw[HQ];exact Le.mode
 have NT:ab≠[]\/fr.mode=.run:=by
  rcases h3.mode with hm|hm
  ·exact .inr hm
  ·exact .inl λe=>hb ⟨fr,by rw[e];rfl,hm⟩
 obtain⟨F',NR,YN,LP,LQ,qC,mQ,e1,e2,e3,e4,e5,e6,e7,e8,e9,e10,e11⟩:=IB dp hp W hn (m':=m') (csr:=csr) h3 h4 h5 fe (Ci YX).1 (Ci YX).2 hm NT;have hG1:Good P Stop g1 w1:=(zI dp hS (τ:=w.tape) (d:=w.drawn) hI hg hns (by rw[yn];exact fe)).2.2;exact⟨(g1,w1),F',G LP (LQ++csr),qC,mQ,e4,⟨hns,w.tape,w.drawn,es,by rw[yn];exact fe⟩,⟨NR,YN,LP,LQ,e1,rfl,e2,e3,e5,e6,e11,e9,hG1⟩,e7,e8,e10⟩
def yo.ret(dp:sJ P L Gm){Bp:FuncId}{Q:Value->ae->Prop}{c:Frame}{cs:List Frame}{x:aY×ae}{gr:aY}{wr:ae}(h:yo P L Gm (lN P Bp Q) (c::cs) F x gr wr)(hs:lN P Bp Q x.1 x.2)(m':Bool):
  ∃v v' F' pw es,stepG P m' gr wr=.go (G (c.finish v') cs) pw es/\Q v x.2/\(∀f,F'.has f->v'=val f v)/\WR F' x.2 pw/\fT F F' x.2 wr x.2 pw/\(∀e∈es,xT F' e)/\∀f,F'.has f->F.has f:=by
 obtain⟨fr,ab,xu,abr,h1,h2,h3,h4,h5,W,hn,hp,hg⟩:=h;obtain⟨HO,v,e1,_,hm,Xw⟩:=hs;have ab8:=Xw x.2.tape x.2.drawn;rw[yn]at ab8;rw[h1]at e1;simp only[G,Goroutine.mk.injEq]at e1;obtain⟨rfl,HP,_⟩:=e1;have tP:ab=[]:=by
  have:=congrArg List.length HP;simp at this;exact this
 subst tP;obtain⟨f0,lE⟩:=W.some;have oE:abr=[]:=(h5 f0 lE).2;subst oE;subst h2;obtain⟨⟨_,_,_,Aq,sO,qK⟩,hQ⟩:=ab8;obtain⟨hd,vu,hk,sr,E7,_⟩:=h3;obtain⟨fn,tmps,todo,defers,mode,kind,ro⟩:=fr;simp only at hd vu hk hm sO qK;subst hd vu hk hm;obtain⟨tr,Ej,wK⟩:∃tr,xu=Fr fn tr todo .returning/\∀f,F.has f->tr=tmps.map (val f):=by
  refine⟨tmps.map (val f0),(h5 f0 lE).1,λf hf=>?_⟩;have:=(h5 f0 lE).1.symm.trans (h5 f hf).1;simp only[frame,Frame.mk.injEq]at this;exact this.2.1
 subst Ej;have hrel:∀f,F.has f->Rel P f (V f) (results Aq tmps) (results Aq tr):=by
  intro f hf;rw[wK f hf];exact rT (PF.ok hp dp hf) Aq tmps
 have hC:=xW (λf=>V f) _ _ F x.2 wr #[] #[] hrel W;rw[Sem.runT_fst,qK]at hC;obtain⟨F',v',pw,YQ,c1,c2,c3,c4,c5,c6⟩:=hC;refine⟨v,v',F',pw,seen P fn YQ,?_,hQ,c2,c3,c4,?_,c6⟩
 ·simp only[G,stepG,unwind,sO,c1,List.nil_append,GStep.after,doReturn,cw]
 ·intro e he;obtain⟨new,rfl,A6⟩:=c5;have:=B9 P fn _ e he;exact A6 e (by simpa using this)
end
end
open Go.Conc
section
open Go.ConcN (sumTo upd sumTo_upd upd_ne upd_same)
def uJ(S:Nat->Prop):Loc->Prop
 | .cell a=>S a.block
 |_=>False
def Fa{S:Nat->Prop}{B:Nat}{F:kr}(hF:∀r,F.K r->¬S (F.φ r)/\F.φ r<B){e:Event}(h:xT F e):EvL (uJ S) B e:=by
 obtain⟨loc,wt,sy⟩:=e;cases loc with
 |cell a =>
  obtain⟨r,h1,h2⟩:=h;have hf:=hF r h1;rw[h2]at hf;refine⟨λx hx hs=>?_,aj,aj,?_⟩
  ·simp only[MemAct.ofEvent,MemAct.touch?,ay]at hx;subst hx;exact absurd hs hf.1
  ·exact hf.2
 |obj b =>
  obtain⟨r,h1,h2⟩:=h;have hf:=hF r h1;rw[h2]at hf;refine⟨λx hx hs=>?_,aj,aj,?_⟩
  ·cases wt<;>cases sy<;>simp only[MemAct.ofEvent,MemAct.touch?,ay]at hx;all_goals first|cases hx;done|skip
   all_goals (subst hx;exact hs.elim)
  ·cases wt<;>cases sy<;>exact hf.2
 |output =>
  refine⟨λx hx hs=>?_,aj,aj,trivial⟩;simp only[MemAct.ofEvent,MemAct.touch?,ay]at hx;subst hx;exact hs.elim
 |goroutines =>
  refine⟨λx hx hs=>?_,aj,aj,trivial⟩;simp only[MemAct.ofEvent,MemAct.touch?,ay]at hx;subst hx;exact hs.elim
 |mark m =>
  have hd:LB m=true:=h;cases m<;>first|exact Bool.noConfusion hd|skip
  all_goals
   refine⟨λx hx hs=>?_,aj,aj,trivial⟩;simp only[MemAct.ofEvent,MemAct.touch?]at hx;cases hx
section
variable {P:Program}{L:Nat->Bool}{Gm:Nat}
def Fb{F:kr}{w:ae}(d:Nat):LY F w (w.at d):=⟨af _,λ_ _=>rfl,rfl,rfl⟩
def Xx{Stop:aY->ae->Prop}(hS:tt Stop){y:aY×ae}{g:aY}{w:ae}{τ:Tape}{d:Nat}(h:Nx P Stop y (g,WT w τ d)):Nx P Stop y (g,w):=by
 obtain⟨hn,D4,d',es,fe⟩:=h;exact⟨λhs=>hn (hS.tape _ _ _ _ hs),D4,d',es,fe⟩
def yp{Stop:aY->ae->Prop}{csr:List Frame}{F:kr}{x:aY×ae}{gr:aY}{w:ae}(h:yo P L Gm Stop csr F x gr w):gr.status=.running:=by
 obtain⟨fr,ab,xu,abr,h1,rfl,_⟩:=h;rfl
def IJ(dp:sJ P L Gm){Bp:FuncId}{Q:Value->ae->Prop}{c:Frame}{cs:List Frame}{S:Nat->Prop}(x:aY×ae)(Gv:Acc (Nx P (lN P Bp Q)) x):
  ∀(M B:Nat) (gs:Array aY) (gr:aY) (w:ae) (sl:Option (Nat×Nat)) (t:Trace) (q:Nat->Nat) (F:kr),sumTo gs.size q<M->gs[0]?=so gr->Leavers P t gs q->w.heap.size<=B->Past (uJ S) B t ->
   (∀r,F.K r->¬S (F.φ r))->(∀b,w.heap.size<=b->¬S b)->yo P L Gm (lN P Bp Q) (c::cs) F (x.1,WT x.2 w.tape w.drawn) gr w ->
   ∃(N:Nat) (ij:Array aY) (w' bN:ae) (su:Option (Nat×Nat)) (t':Trace) (q':Nat->Nat) (B':Nat) (F':kr) (v v':Value),
    runNT P N (crowd gs w sl) t=(.next (crowd ij w' su),t')/\ij.size=gs.size/\ij[0]?=so (G (c.finish v') cs)/\Leavers P t' ij q'/\w'.heap.size<=B'/\Past (uJ S) B' t' /\
    Q v bN/\(∀f,F'.has f->v'=val f v)/\WR F' bN w'/\fT F F' x.2 w bN w'/\(∀f,F'.has f->F.has f)/\(∀r,F'.K r->¬S (F'.φ r))/\(∀b,w'.heap.size<=b->¬S b):=by
 have hS:=Bq (P:=P) Bp Q
 induction Gv with
 |intro x _ ih =>
 intro M
 induction M with
 |zero =>
  intro B gs gr w sl t q F hM;exact absurd hM (cH _)
 |succ M ihM =>
  intro B gs gr w sl t q F hM h0 hL hB hP hK hSb HT;have cG:=yp HT;have Xy:∀g∈gs,awake g:=by
   intro g hg;obtain⟨i,hi,rfl⟩:=jc.1 hg;rcases bh i with rfl|oh
   ·have:gs[0]=gr:=by simpa[Array.getElem?_eq_getElem hi] using h0
    rw[this];exact awake_of (.inl cG)
   ·exact awake_of ((hL.old i _ oh (aO hi)).status.elim .inl λx=>.inr (.inr x))
  obtain⟨i,g,d,su,hi,hg,fe⟩:=crowd_pick (P:=P) (w:=w) (sl:=sl) Xy ⟨0,gr,h0,cG⟩;rcases bh i with rfl|oh
  ·
   obtain rfl:g=gr:=by rw[h0]at hi;exact(aP hi).symm
   have Pw:=HT.others (Fb (F:=F) (w:=w) d);have cR:0<gs.size:=(aI.1 h0).1;have Sc:∀(a':aY) (w':ae) (es:Array Event),Leavers P (t++MemOp.ofEvents 0 g.frame.fn g.frame.place es) ((gs.map (woken P g a' w')).setIfInBounds 0 a') q:=by
    intro a' w' es;refine⟨λj x hj hx=>?_,λj hj=>?_⟩
    ·have fu:0≠j:=aa;rw[aQ fu,aM]at hx;obtain⟨y,hy,rfl⟩:=aH.1 hx;have hq:=hL.old j y hj hy;rw[woken_quitsD hq,Deaf_other t aa _ (λop fD=>by obtain⟨e,_,rfl⟩:=Go.Conc.mem_ofEvents fD;rfl)];exact hq
    ·rw[Deaf_other t (g':=0) (by simp at hj;omega) _ (λop fD=>by obtain⟨e,_,rfl⟩:=Go.Conc.mem_ofEvents fD;rfl)];exact hL.above j (by simpa using hj)
   by_cases hs:lN P Bp Q x.1 x.2
   ·
    obtain⟨v,v',F',pw,es,e1,e2,e3,e4,e5,e6,e7⟩:=Pw.ret dp (hS.tape _ _ _ _ hs) true;have uK:=runT_crowd_go (P:=P) (sl:=su) (i:=0) hi (show stepG P (0==0) g (w.at d)=_ from e1);have hK':∀r,F'.K r->¬S (F'.φ r):=by
     intro r hr;rcases e5.xh r hr with h|h
     ·rw[e5.φ r h];exact hK r h
     ·exact hSb _ h.2
    have nD:∀r,F'.K r->F'.φ r<B+pw.heap.size+1:=λr hr=>by have:=e4.there r hr;omega
    refine⟨1,(gs.map (woken P g (G (c.finish v') cs) pw)).setIfInBounds 0 (G (c.finish v') cs),pw,_,su,t++MemOp.ofEvents 0 g.frame.fn g.frame.place es,q,B+pw.heap.size+1,F',v,v',by simp only[runNT,fe,uK],aj,by simp[cR],Sc _ _ es,aa,(hP.mono aa).own (λe he=>Fa (λr hr=>⟨hK' r hr,nD r hr⟩) (e6 e he)),e2,e3,e4,?_,e7,hK',?_⟩
    ·exact⟨e5.K,e5.φ,e5.L,e5.xh,af _,e5.size,e5.mine,e5.rest,e5.G,e5.AZ,e5.RR,e5.BM,e5.same⟩
    ·intro b hb;exact hSb b (aS e5.size hb)
   ·obtain⟨y,F',Rx,pw,es,e1,e2,e3,e4,e5,e6⟩:=Pw.step dp hS (λh=>hs (hS.back h)) true;have uK:=runT_crowd_go (P:=P) (sl:=su) (i:=0) hi (show stepG P (0==0) g (w.at d)=_ from e1);have hK':∀r,F'.K r->¬S (F'.φ r):=by
     intro r hr;rcases e4.xh r hr with h|h
     ·rw[e4.φ r h];exact hK r h
     ·exact hSb _ h.2
    have D5:WR F' y.2 pw:=by obtain⟨_,_,_,_,_,_,_,_,_,hW,_⟩:=e3;exact hW
    have nD:∀r,F'.K r->F'.φ r<B+pw.heap.size+1:=λr hr=>by have:=D5.there r hr;omega
    have hyt:(y.1,WT y.2 pw.tape pw.drawn)=y:=by rw[D5.tape,D5.drawn];rfl
    have ew:((gs.map (woken P g Rx pw)).setIfInBounds 0 Rx).size=gs.size:=aj;obtain⟨N,ij,w',bN,Sd,t',q',B',F2,v,v',k1,k2,k3,k4,k5,k6,k7,k8,k9,IK,k11,k12,k13⟩:=ih y (Xx hS e2) (sumTo gs.size q+1) (B+pw.heap.size+1) ((gs.map (woken P g Rx pw)).setIfInBounds 0 Rx) Rx pw su (t++MemOp.ofEvents 0 g.frame.fn g.frame.place es) q F' (by rw[ew];exact bK _) (by simp[cR]) (Sc Rx pw es) aa
     ((hP.mono aa).own (λe he=>Fa (λr hr=>⟨hK' r hr,nD r hr⟩) (e5 e he))) hK' (λb hb=>hSb b (aS e4.size hb)) (by rw[hyt];exact e3)
    refine⟨N+1,ij,w',bN,Sd,t',q',B',F2,v,v',by simp only[runNT,fe,uK];exact k1,k2.trans ew,k3,k4,k5,k6,k7,k8,k9,?_,λf hf=>e6 f (k11 f hf),k12,k13⟩;have:=e4.trans IK;exact⟨this.K,this.φ,this.L,this.xh,this.BL,this.size,this.mine,this.rest,this.G,this.AZ,this.RR,this.BM,this.same⟩
  ·
   have hq:=hL.old i g oh hi;have hi0:(i==0)=false:=eW;have cR:i<gs.size:=(aI.1 hi).1;cases Se:q i with
   |zero=>rw[Se]at hq;rw[hq.1]at hg;cases hg
   |succ k =>
    rw[Se]at hq;rcases hq with⟨hf,_⟩|⟨_,g',es,hm,Y0,Cm⟩
    ·rw[hf]at hg;cases hg
    have uK:=runT_crowd_go (P:=P) (sl:=su) (i:=i) hi (by rw[hi0];exact Y0 (w.at d));have ew:((gs.map (woken P g g' (w.at d))).setIfInBounds i g').size=gs.size:=aj;have agw:sumTo gs.size (upd q i k)+(k+1)=sumTo gs.size q+k:=by
     have:=sumTo_upd q k id cR;simpa[Se] using this
    obtain⟨N,ij,w',bN,Sd,t',q',B',F2,v,v',k1,k2,k3,k4,k5,k6,k7,k8,k9,IK,k11,k12,k13⟩:=ihM B ((gs.map (woken P g g' (w.at d))).setIfInBounds i g') gr (w.at d) su (t++MemOp.ofEvents i g.frame.fn g.frame.place es) (upd q i k) F (by rw[ew];omega)
     (by
      have fu:i≠0:=aa;rw[aQ fu,aM,h0];simp[woken_run cG])
     ⟨λj x hj hx=>by
      by_cases Au:i=j
      ·subst Au;rw[cn (by simpa using cR)]at hx;obtain rfl:=aP hx;rw[upd_same,Deaf_own];exact Cm
      ·rw[aQ Au,aM]at hx;obtain⟨y,hy,rfl⟩:=aH.1 hx;have hqj:=hL.old j y hj hy;rw[woken_quitsD hqj,upd_ne q k (bw Au),Deaf_other t Au _ (λop fD=>by obtain⟨e,_,rfl⟩:=Go.Conc.mem_ofEvents fD;rfl)];exact hqj,λj hj=>by
      rw[Deaf_other t (g':=i) (by simp at hj;omega) _ (λop fD=>by obtain⟨e,_,rfl⟩:=Go.Conc.mem_ofEvents fD;rfl)];exact hL.above j (by simpa using hj)⟩
     hB (hP.mute aa hm) hK hSb (HT.others (Fb (F:=F) (w:=w) d))
    exact⟨N+1,ij,w',bN,Sd,t',q',B',F2,v,v',by simp only[runNT,fe,uK];exact k1,k2.trans ew,k3,k4,k5,k6,k7,k8,k9,⟨IK.K,IK.φ,IK.L,IK.xh,IK.BL,IK.size,IK.mine,IK.rest,IK.G,IK.AZ,IK.RR,IK.BM,IK.same⟩,k11,k12,k13⟩
end
end
section
variable {P:Program}{f:Rn}{L:Nat->Bool}{Gm:Nat}
def Fc{n:Nat}{fn:Func}(hf:P.funcs[n]?=so fn)(hb:fn.body.isSome=true)(hn:(fn.name == "runtime.NumGoroutine")=false)(hL:L n=true)(args:Array Value):
  Rel P f (jJ L f) (callFunc n args) (callFunc n (args.map (val f))):=by
 refine ai ee ?_;rintro _ _ ⟨rfl,rfl⟩;have nD:fn.body.isNone=false:=by cases h:fn.body<;>simp_all
 simp only[hf,hn,nD,aT,if_false];exact aC ⟨rfl,hL,rfl⟩
def px{n:Nat}{fn:Func}{e:Array Value->Sem Value}(hf:P.funcs[n]?=so fn)(hb:fn.body=we)(hn:(fn.name == "runtime.NumGoroutine")=false)(hx:(Extern.findNext fn).isNone=true)(he:Extern.find fn=so e)(hh:f.h n=n)(args:Array Value)(hr:Rel P f (V f) (e args) (e (args.map (val f)))):Rel P f (jJ L f) (callFunc n args) (callFunc n (args.map (val f))):=by
 refine ai ee ?_;rintro _ _ ⟨rfl,rfl⟩;have p7:Extern.findNext fn=none:=by simpa using hx
 simp only[hf,hn,hb,p7,he,aT,if_false,Option.isNone_none,if_true];refine ai (A:=λ_ _=>True) ?_ ?_
 ·have:=RX (P:=P) (f:=f) (m:=.extern n) rfl;simp only[LA,hh]at this;exact this
 ·rintro _ _ _;exact ai hr (by rintro v _ rfl;exact aC rfl)
def yq(args:Array Value):Rel P f (V f) (Extern.AbiNoEscape.same args) (Extern.AbiNoEscape.same (args.map (val f))):=by
 obtain⟨l⟩:=args;rcases l with _|⟨x,_|⟨y,l⟩⟩
 ·exact aF
 ·simp only[List.map_toArray,aB,aJ];exact aC rfl
 ·exact aF
def Cn:∀(n:Nat) (a:Addr) (acc:ag),Rel P f Eq (Extern.Bytes.loadBytes a n acc) (Extern.Bytes.loadBytes (addr f a) n acc):=by
 intro n
 induction n with
 |zero=>intro a acc;exact aC rfl
 |succ n ih =>
  intro a acc;unfold Extern.Bytes.loadBytes;refine ai (xX a) ?_;rintro v _ rfl;cases v<;>simp only[cP,da,cm,bI,bP,bj,bH,de,cI,cJ,bL,b7,bE,db,b8]<;>first|exact aF|skip
  rename_i k b;cases k<;>first|exact aF|skip
  rw[<- lu];exact ih _ _
def Av(v:Value):Rel P f Eq (Extern.Bytes.bytesOf v) (Extern.Bytes.bytesOf (val f v)):=by
 cases v<;>simp only[cP,da,cm,bI,bP,bj,bH,de,cI,cJ,bL,b7,bE,db,b8]<;>first|exact aF|exact aC rfl|skip
 rename_i a len cap;cases a with
 |none=>exact aC rfl
 |some a=>exact Cn _ _ _
def IL(args:Array Value):Rel P f (V f) (Extern.BytealgCompare.compare args) (Extern.BytealgCompare.compare (args.map (val f))):=by
 obtain⟨l⟩:=args;rcases l with _|⟨x,_|⟨y,_|⟨z,l⟩⟩⟩
 ·exact aF
 ·exact aF
 ·simp only[List.map_toArray,aB,aJ];refine ai (Av x) ?_;rintro a _ rfl;refine ai (Av y) ?_;rintro b _ rfl;exact aC (by simp[V,goInt])
 ·exact aF
def LZ:∀(n t:Nat) (acc:Array Value),acc.map (val f)=acc->(Extern.BytealgMakeNoZero.digits n t acc).map (val f)=Extern.BytealgMakeNoZero.digits n t acc:=by
 intro n
 induction n with
 |zero=>intro t acc h;exact h
 |succ n ih=>intro t acc h;exact ih _ _ (by simp[Array.map_push,h])
def uL(hf:ov P f)(ps rs:Array TypeId)(args:Array Value):Rel P f (V f) (Extern.BytealgMakeNoZero.makeNoZero ps rs args) (Extern.BytealgMakeNoZero.makeNoZero ps rs (args.map (val f))):=by
 obtain⟨l⟩:=args;rcases l with _|⟨x,_|⟨y,l⟩⟩
 ·exact aF
 ·simp only[List.map_toArray,aB,aJ];cases x<;>first|exact aF|skip
  rename_i k n;cases k<;>first|exact aF|skip
  rw[da];obtain⟨rl⟩:=rs;cases rl with
  |nil=>exact aF
  |cons t rl =>
   refine ai (bp t) ?_;rintro d _ ⟨rfl,_⟩;cases d<;>first|exact aF|skip
   refine fO (b9 hf _) ?_;refine ai (jm _) ?_;rintro c _ rfl;refine ai (uw _) ?_;rintro _ _ _;refine ai (jm _) ?_;rintro b _ rfl;refine ai (A:=AR f) (kU _ (LZ _ _ _ aj).symm) ?_;rintro a _ rfl;exact aC (by simp[V])
 ·exact aF
end
def Px{α β:Type}(I:β->Prop){g:α->β->Option (ForInStep β)}:∀(l:List α) (init r:β),(∀x∈l,∀a s,I a->g x a=so s->I s.value)->I init->forIn (m:=Option) l init g=so r->I r:=by
 intro l
 induction l with
 |nil=>intro init r _ hi h;simp only[List.forIn_nil]at h;cases h;exact hi
 |cons x l ih =>
  intro init r hg hi h;simp only[List.forIn_cons]at h;cases hx:g x init with
  |none=>rw[hx]at h;cases h
  |some s =>
   rw[hx]at h;have hs:=hg x aj init s hi hx;cases s with
   |done b=>cases h;exact hs
   |yield b=>exact ih b r (λy hy=>hg y (by simp[hy])) hs h
def Fe{cs:Array Value}(h:∀c∈cs,Plain c):Plain (.agg cs):=by
 intro f;rw[db]
 congr 1
 apply jH
 ·simp
 ·intro i h1 h2;simp only[Array.getElem_map];exact h _ aj f
def Aw{v:Value}(h:Plain v):∀c∈v.cells,Plain c:=by
 intro c hc f;have:=lC f v;rw[h f]at this;obtain⟨i,hi,rfl⟩:=jc.1 hc;have e:=congrArg (λa:Array Value=>a[i]?) this;simp only[aM,Array.getElem?_eq_getElem hi,aK,ay]at e;exact e.symm
def Co(info:TypeId->Option TypeInfo):Prop:=∀t i z,info t=so i->i.zero=so z->Plain z
def Gw{info:TypeId->Option TypeInfo}(hi:Co info)(d:TypeDesc){i:TypeInfo}{z:Value}(h:Made.reckon info d=so i)(hz:i.zero=so z):Plain z:=by
 cases d
 case pointer e =>
  simp only[Made.reckon,Option.bind_eq_bind,Option.bind_eq_some_iff]at h;obtain⟨j,_,h⟩:=h;split at h
  ·cases h
  ·split at h
   ·cases h
   ·obtain⟨s,_,h⟩:=cY.1 h;cases h;cases hz;exact λf=>aj
  ·obtain⟨s,_,h⟩:=cY.1 h;cases h;cases hz;exact λf=>aj
 case slice e =>
  simp only[Made.reckon,Option.bind_eq_bind,Option.bind_eq_some_iff]at h;obtain⟨j,_,s,_,h⟩:=h;cases h;cases hz;exact λf=>aj
 case map k e =>
  simp only[Made.reckon,Option.bind_eq_bind,Option.bind_eq_some_iff]at h;obtain⟨j,_,s,_,j2,_,s2,_,h⟩:=h;cases h;cases hz;exact λf=>aj
 case chan dir e =>
  simp only[Made.reckon,Option.bind_eq_bind,Option.bind_eq_some_iff]at h;obtain⟨j,_,s,_,h⟩:=h;cases h;cases hz;exact λf=>aj
 case func ps rs v =>
  simp only[Made.reckon,Option.bind_eq_bind,Option.bind_eq_some_iff]at h;obtain⟨s,_,h⟩:=h;cases h;cases hz;exact λf=>aj
 case array n e =>
  simp only[Made.reckon,Option.bind_eq_bind,Option.bind_eq_some_iff]at h;obtain⟨j,hj,s,_,h⟩:=h;cases h;simp only[]at hz;split at hz
  ·cases hz
  ·split at hz
   ·cases hz;exact λf=>aj
   ·obtain⟨y,hy,rfl⟩:=aH.1 hz;refine Fe ?_;intro c hc;simp only[Array.mem_flatten,Array.mem_replicate]at hc;obtain⟨cs,⟨_,rfl⟩,hc⟩:=hc;exact Aw (hi e j y hj hy) c hc
 case struct fs =>
  have h':Made.reckonStruct info fs=so i:=h;unfold Made.reckonStruct at h';obtain⟨r,hr,h'⟩:=cY.1 h';rw[<- gn]at hr;have hI:∀a,r.2.2.2.2.2.2.2.1=so a->∀c∈a,Plain c:=by
   refine Px (λs=>∀a,s.2.2.2.2.2.2.2.1=so a->∀c∈a,Plain c) fs.toList _ r ?_ ?_ hr
   ·intro x hx s st hs hg;obtain⟨j,hj,hg⟩:=cY.1 hg;have fin:∀(n:Nat) a,(if n>Made.mostCells then we else do
      let z <- s.2.2.2.2.2.2.2.1;let y <- j.zero
      pure (z++y.cells):Option (Array Value))=so a->∀c∈a,Plain c:=by
     intro n a ha;split at ha
     ·cases ha
     ·obtain⟨z0,YL,ha⟩:=cY.1 ha;obtain⟨y,hy,ha⟩:=cY.1 ha;cases ha;intro c hc;rcases kT.1 hc with hc|hc
      ·exact hs z0 YL c hc
      ·exact Aw (hi _ j y hj hy) c hc
    dsimp only at hg;split at hg
    ·cases hg
    ·split at hg
     ·cases hg
     ·split at hg
      ·split at hg<;>(cases hg;exact fin _)
      ·obtain⟨tag,_,hg⟩:=cY.1 hg;split at hg<;>(cases hg;exact fin _)
   ·intro a ha;cases ha;simp
  dsimp only at h';have ez:i.zero=r.2.2.2.2.2.2.2.1.map .agg:=by
   split at h'<;>(cases h';rfl)
  rw[ez]at hz;obtain⟨a,ha,rfl⟩:=aH.1 hz;exact Fe (hI a ha)
 all_goals (simp only[Made.reckon]at h;cases h)
def Gy{T:Tables}(h:∀(t:Nat) (i:TypeInfo) (z:Value),T.types[t]?=so i->i.zero=so z->Plain z):∀n,Co (Made.infoAt T n):=by
 intro n
 induction n with
 |zero=>intro t i z hi;cases hi
 |succ n ih =>
  intro t i z hi hz;simp only[Made.infoAt]at hi;split at hi
  ·exact h t i z hi hz
  ·obtain⟨d,_,hd⟩:=cY.1 hi;exact Gw ih d hd hz
def L2{T:Tables}(h:∀(t:Nat) (i:TypeInfo) (z:Value),T.types[t]?=so i->i.zero=so z->Plain z):Co T.info?:=by
 intro t i z hi hz;unfold Tables.info? at hi;split at hi
 ·exact h t i z hi hz
 ·exact Gy h _ t i z hi hz
section
open Go.Conc (G)
section
variable {P:Program}{m:Bool}{R:ae->ae->Prop}{D:ae->ae->Array Event->Prop}{Stop:aY->ae->Prop}
end
def IM{α:Type}(r le:α->α->Prop)(n:Nat)(y x:Nat->α):Prop:=∃i,i<n/\r (y i) (x i)/\∀j,j<n->j≠i->le (y j) (x j)
def Sf{α:Type}{r le:α->α->Prop}(rf:∀a,le a a)(tr:∀a b c,le a b->le b c->le a c)(hle:∀a b c,le b a->r c b->r c a):
  ∀(n:Nat) (x:Nat->α),(∀i,i<n->Acc r (x i))->Acc (IM r le n) x:=by
 intro n
 induction n with
 |zero=>intro x _;exact Acc.intro _ λy hy=>by obtain⟨i,hi,_⟩:=hy;omega
 |succ n ih =>
  have key:∀a,Acc r a->∀v:Nat->α,Acc (IM r le n) v->∀x:Nat->α,le (x n) a->(∀j,j<n->le (x j) (v j))->Acc (IM r le (n+1)) x:=by
   intro a ha
   induction ha with
   |intro a _ iha =>
    intro v hv
    induction hv with
    |intro v wM ihv =>
     intro x Xz Y1;refine Acc.intro _ λy hy=>?_;obtain⟨i,hi,hr,ho⟩:=hy;by_cases pz:i=n
     ·subst pz;exact iha (y i) (hle _ _ _ Xz hr) v (Acc.intro v wM) y (rf _) (λj hj=>tr _ _ _ (ho j aa aa) (Y1 j hj))
     ·have mn:i<n:=aa;refine ihv y ⟨i,mn,hle _ _ _ (Y1 i mn) hr,λj hj Au=>tr _ _ _ (ho j aa Au) (Y1 j hj)⟩ y (tr _ _ _ (ho n aa (bw pz)) Xz) (λj _=>rf _)
  intro x hx;exact key (x n) (hx n aa) x (ih x λi hi=>hx i aa) x (rf _) (λj _=>rf _)
end
section
variable {t u:Trace}{g:Nat}{l:Loc}
end
open Go.ConcN
def IN(l:Loc)(b:Nat):Prop :=
 match l with
 | .cell a=>a.block=b
 | .obj r=>r=b
 |_=>False
def IN.uniq{l:Loc}{b c:Nat}(h:IN l b)(k:IN l c):b=c:=by
 cases l<;>simp only[IN]at h k<;>first|(exact h.elim)|(rw[<- h,<- k])
def IN.Y2{l:Loc}(h:l.isMemory=true):∃b,IN l b:=by
 cases l<;>simp only[Loc.isMemory]at h<;>first|(cases h;done)|exact⟨_,rfl⟩
def uJ.XA{l:Loc}{c:Nat}(h:uJ (λb=>b=c) l):IN l c:=by
 cases l<;>simp only[uJ]at h<;>first|(exact h.elim)|exact h
structure dv where
 T0:Nat
 H0:Nat
 Wg:Nat
 m0:Nat
 n:Nat
 ch:Nat->Nat
 kM:Nat->Loc->Prop
 Shun:Loc->Prop
 Sh:Nat->Prop
 ty:TypeId
 dep:Nat->Nat->Prop
 Idle:Nat->ae->Prop
structure dv.OK(T:dv):Prop where
 m0:0<T.m0
 wg:T.Wg<T.H0
 own:∀k l b,T.kM k l->IN l b->b<T.H0/\b≠T.Wg
 apart:∀k k' l,T.kM k l->T.kM k' l->k=k'
 acf:∀l b,T.Shun l->IN l b->b<T.H0/\b≠T.Wg
 Gz:∀k l,T.kM k l->¬T.Shun l
 ownSh:∀k l,T.kM k l->∃a,l=.cell a/\T.Sh a.block
 sh:∀b,T.Sh b->b<T.H0/\b≠T.Wg/\∀k,k<T.n->T.ch k≠b
 ch:∀k,k<T.n->T.ch k<T.H0/\T.ch k≠T.Wg
 yr:∀k k',k<T.n->k'<T.n->T.ch k=T.ch k'->k=k'
 Sg:∀k,k<T.n->¬T.Shun (.obj (T.ch k))
 dep:∀i k,i<T.n->T.dep i k->k<i
 idle:∀k w w1,(∀a,T.kM k (.cell a)->w1.cell? a=w.cell? a)->(∀b cs ty fz,T.Sh b->w.heap[b]?=so (.cells cs ty fz)->∃tQ,w1.heap[b]?=so (.cells tQ ty fz)/\tQ.size=cs.size)->T.Idle k w->T.Idle k w1
def iv(c:Nat):Array Event:=#[⟨.obj c,false,true⟩,⟨.obj c,true,true⟩]
def dv.RO(T:dv)(l:Loc):Prop:=(∀b,IN l b->b<T.H0/\b≠T.Wg)/\(∀k,¬T.kM k l)/\¬T.Shun l
structure ku where
 j:Nat
 own:Nat->Nat->Prop
 cl:Nat->Option Nat
 rc:Nat->Nat->Prop
structure ku.OK(T:dv)(S:ku):Prop where
 new:∀x b,S.own x b->T.H0<=b
 one:∀x y b,S.own x b->S.own y b->x=y
 mem:∀x b,S.own x b->x=0\/∃i,i<S.j/\x=T.m0+i
def Class(T:dv)(S:ku)(t:Trace)(i:Nat)(g:Nat)(a:Touch):Prop :=
 (uJ (λb=>b=T.Wg) a.loc/\a.kind≠.plain/\(a.kind=.said->g=0))
 \/ (∃x b,S.own x b/\IN a.loc b/\Knows t x i)
 \/ (∃k,T.kM k a.loc/\(S.cl k=we->Knows t (T.m0+k) i)/\(∀p,S.cl k=so p->a.write=true->Before t i p))
 \/ (T.RO a.loc/\a.write=false)
def GB(T:dv)(S:ku)(x:Nat):Prop:=x=0\/∃i,i<S.j/\x=T.m0+i
structure TI(T:dv)(S:ku)(t:Trace):Prop where
 len:T.T0<=t.size
 base:∀x,GB T S x->∀i,i<T.T0->∀a,touchAt t i=so a->a.loc.isMemory=true->Knows t x i\/(T.Shun a.loc/\a.kind=.atomic)
 cls:∀i z a,T.T0<=i->t[i]?=so z->z.act.touch?=so a->a.loc.isMemory=true->Class T S t i z.g a
 XC:∀i k,S.rc i k->∃p,S.cl k=so p/\Knows t (T.m0+i) p
 pos:∀k p,S.cl k=so p->t.act? p=so (.close (T.ch k))/\t.heard p
 nr:∀said,¬Race said t
def yt(T:dv)(S:ku)(x:Nat)(a:Touch):Prop :=
 (uJ (λb=>b=T.Wg) a.loc/\a.kind≠.plain/\(a.kind=.said->x=0))
 \/ (∃b,S.own x b/\IN a.loc b)
 \/ (∃k,x=T.m0+k/\T.kM k a.loc/\S.cl k=we)
 \/ (∃i k,x=T.m0+i/\S.rc i k/\T.kM k a.loc/\a.write=false)
 \/ (T.RO a.loc/\a.write=false)
section
variable {T:dv}{S:ku}{t u:Trace}
def Class.app{i g:Nat}{a:Touch}(h:Class T S t i g a)(u:Trace):Class T S (t++u) i g a:=by
 rcases h with h|⟨x,b,h1,h2,h3⟩|⟨k,h1,h2,h3⟩|h
 ·exact .inl h
 ·exact .inr (.inl ⟨x,b,h1,h2,h3.app u⟩)
 ·exact .inr (.inr (.inl ⟨k,h1,λe=>(h2 e).app u,λp e w=>(h3 p e w).app u⟩))
 ·exact .inr (.inr (.inr h))
def zJ{p:Nat}(hp:p<t.size)(h:t.heard p):(t++u).heard p:=(heard_old hp).2 h
def TI.knows(hT:T.OK)(hS:S.OK T)(h:TI T S t){x:Nat}(hx:GB T S x){said:Bool}{i:Nat}{a b:Touch}(ha:touchAt t i=so a)(hb:b.loc.isMemory=true->yt T S x b)(hc:a.conflicts said b):Knows t x i:=by
 obtain⟨hl,rH,Ry,acg⟩:=hc;have hbm:b.loc.isMemory=true:=by rw[<- hl];exact rH
 have Vr:=hb hbm;obtain⟨c,hc⟩:=IN.Y2 hbm;have Py:IN a.loc c:=by rw[hl];exact hc
 rcases cg i T.T0 with hi|hi
 ·rcases h.base x hx i hi a ha rH with hk|⟨hs,mW⟩
  ·exact hk
  ·exfalso;rw[hl]at hs;have hsb:=hT.acf _ c hs hc;rcases Vr with⟨h1,_⟩|⟨b',h1,h2⟩|⟨k,_,h2,_⟩|⟨_,k,_,_,h2,_⟩|⟨h1,_⟩
   ·exact hsb.2 (hc.uniq h1.XA)
   ·have:=hS.new _ _ h1;have:=hc.uniq h2;omega
   ·exact hT.Gz k _ h2 hs
   ·exact hT.Gz k _ h2 hs
   ·exact h1.2.2 hs
 ·obtain⟨z,hz,vX⟩:=touch_of ha;have fG:=h.cls i z a hi hz vX rH;rcases Vr with⟨h1,h2,h3⟩|⟨b',h1,h2⟩|⟨k,hk,h2,h3⟩|⟨i',k,hk,h1,h2,h3⟩|⟨h1,h2⟩
  ·rcases fG with⟨_,k2,k3⟩|⟨y,b',k1,k2,_⟩|⟨k,k1,_⟩|⟨k1,_⟩
   ·rcases acg with e|e|⟨_,e1,e2⟩
    ·exact absurd e k2
    ·exact absurd e h2
    ·have:=knows_own hz;rw[k3 e1,<- h3 e2]at this;exact this
   ·have:=hS.new _ _ k1;have e:=hc.uniq h1.XA;have e':=Py.uniq k2;have:=hT.wg;omega
   ·exact absurd (hc.uniq h1.XA) (hT.own k _ c k1 Py).2
   ·exact absurd (hc.uniq h1.XA) (k1.1 c Py).2
  ·have nD:=hS.new _ _ h1;have e:=hc.uniq h2;rcases fG with⟨k1,_⟩|⟨y,b'',k1,k2,k3⟩|⟨k,k1,_⟩|⟨k1,_⟩
   ·have:=Py.uniq k1.XA;have:=hT.wg;omega
   ·have e':=Py.uniq k2;obtain rfl:b'=b'':=aa;rw[hS.one _ _ _ h1 k1];exact k3
   ·have:=(hT.own k _ c k1 Py).1;omega
   ·have:=(k1.1 c Py).1;omega
  ·rcases fG with⟨k1,_⟩|⟨y,b'',k1,k2,k3⟩|⟨k',k1,k2,_⟩|⟨k1,_⟩
   ·exact absurd (Py.uniq k1.XA) (hT.own k _ c h2 hc).2
   ·have:=hS.new _ _ k1;have:=Py.uniq k2;have:=(hT.own k _ c h2 hc).1;omega
   ·rw[hl]at k1;obtain rfl:=hT.apart _ _ _ h2 k1;rw[hk];exact k2 h3
   ·rw[hl]at k1;exact absurd h2 (k1.2.1 k)
  ·have Xy:a.write=true:=by
    rcases Ry with e|e
    ·exact e
    ·rw[h3]at e;cases e
   rcases fG with⟨k1,_⟩|⟨y,b'',k1,k2,k3⟩|⟨k',k1,_,k2⟩|⟨k1,_⟩
   ·exact absurd (Py.uniq k1.XA) (hT.own k _ c h2 hc).2
   ·have:=hS.new _ _ k1;have:=Py.uniq k2;have:=(hT.own k _ c h2 hc).1;omega
   ·rw[hl]at k1;obtain rfl:=hT.apart _ _ _ h2 k1;obtain⟨p,hp,IP⟩:=h.XC i' k h1;rw[hk];exact Knows.of_before (k2 p hp Xy) IP
   ·rw[hl]at k1;exact absurd h2 (k1.2.1 k)
  ·have Xy:a.write=true:=by
    rcases Ry with e|e
    ·exact e
    ·rw[h2]at e;cases e
   rcases fG with⟨k1,_⟩|⟨y,b'',k1,k2,k3⟩|⟨k',k1,_⟩|⟨_,k2⟩
   ·exact absurd (Py.uniq k1.XA) (h1.1 c hc).2
   ·have:=hS.new _ _ k1;have:=Py.uniq k2;have:=(h1.1 c hc).1;omega
   ·rw[hl]at k1;exact absurd k1 (h1.2.1 k')
   ·rw[k2]at Xy;cases Xy
def TI.app(hT:T.OK)(hS:S.OK T)(h:TI T S t){x:Nat}(hx:GB T S x)(hu:∀op∈u,op.g=x)(ha:∀op∈u,∀b,op.act.touch?=so b->b.loc.isMemory=true->yt T S x b):TI T S (t++u):=by
 refine⟨by have:=h.len;simp;omega,λy hy i hi a mW hm=>?_,λi z a hi hz vX hm=>?_,λi k hr=>?_,λk p hp=>?_,λsaid=>?_⟩
 ·rw[touchAt_old (by have:=h.len;omega)]at mW;exact(h.base y hy i hi a mW hm).imp (·.app u) id
 ·rcases getElem?_append_cases hz with⟨cR,D2⟩|⟨_,HU⟩
  ·exact(h.cls i z a hi D2 vX hm).app u
  ·have hk:=knows_own hz;rw[hu z HU]at hk |-;rcases ha z HU a vX hm with h1|⟨b,h1,h2⟩|⟨k,h1,h2,h3⟩|⟨i',k,h1,h2,h3,h4⟩|h1
   ·exact .inl h1
   ·exact .inr (.inl ⟨x,b,h1,h2,hk⟩)
   ·exact .inr (.inr (.inl ⟨k,h2,λ_=>by rw[<- h1];exact hk,λp e _=>by rw[h3]at e;cases e⟩))
   ·obtain⟨p,hp,_⟩:=h.XC i' k h2;exact .inr (.inr (.inl ⟨k,h3,λe=>(by rw[hp]at e;cases e),λp _ w=>(by rw[h4]at w;cases w)⟩))
   ·exact .inr (.inr (.inr h1))
 ·obtain⟨p,h1,h2⟩:=h.XC i k hr;exact⟨p,h1,h2.app u⟩
 ·obtain⟨h1,h2⟩:=h.pos k p hp;have:=lt_of_act? h1;exact⟨by rw[act?_old this];exact h1,zJ this h2⟩
 ·exact noRace_append (h.nr said) hu λi a mW op fD b hb hc=>h.knows hT hS hx mW (ha op fD b hb) hc
def TI.mute(h:TI T S t){y:Nat}(hu:∀op∈u,op.g=y)(hn:∀op∈u,op.act.touch?=we):TI T S (t++u):=by
 refine⟨by have:=h.len;simp;omega,λy hy i hi a mW hm=>?_,λi z a hi hz vX hm=>?_,λi k hr=>?_,λk p hp=>?_,λsaid=>?_⟩
 ·rw[touchAt_old (by have:=h.len;omega)]at mW;exact(h.base y hy i hi a mW hm).imp (·.app u) id
 ·rcases getElem?_append_cases hz with⟨cR,D2⟩|⟨_,HU⟩
  ·exact(h.cls i z a hi D2 vX hm).app u
  ·rw[hn z HU]at vX;cases vX
 ·obtain⟨p,h1,h2⟩:=h.XC i k hr;exact⟨p,h1,h2.app u⟩
 ·obtain⟨h1,h2⟩:=h.pos k p hp;have:=lt_of_act? h1;exact⟨by rw[act?_old this];exact h1,zJ this h2⟩
 ·exact noRace_append (h.nr said) hu λi a mW op fD b hb hc=>by rw[hn op fD]at hb;cases hb
def TI.grow(h:TI T S t){own':Nat->Nat->Prop}(ho:∀x b,S.own x b->own' x b):TI T {S with own:=own'} t:=by
 refine⟨h.len,h.base,λi z a hi hz vX hm=>?_,h.XC,h.pos,h.nr⟩;rcases h.cls i z a hi hz vX hm with h1|⟨x,b,h1,h2⟩|h1|h1
 ·exact .inl h1
 ·exact .inr (.inl ⟨x,b,ho _ _ h1,h2⟩)
 ·exact .inr (.inr (.inl h1))
 ·exact .inr (.inr (.inr h1))
def TI.close(h:TI T S t){i:Nat}(hi:i<S.j)(hn:S.cl i=we){z:MemOp}(hg:z.g=T.m0+i)(hz:z.act=.close (T.ch i))(hd:Deaf t (T.m0+i)=0):
  TI T {S with cl:=upd S.cl i (so t.size)} (t++#[z]):=by
 have hzp:(t++#[z])[t.size]?=so z:=by rw[gD (af _)];simp
 have hm:TI T S (t++#[z]):=h.mute (y:=T.m0+i) (λop fD=>by simp at fD;rw[fD];exact hg) (λop fD=>by simp at fD;rw[fD,hz];rfl);refine⟨hm.len,hm.base,λi' y a mn hy hya hme=>?_,λi' k hr=>?_,λk p hp=>?_,hm.nr⟩
 ·
  rcases getElem?_append_cases hy with⟨cR,hy'⟩|⟨_,hyu⟩
  ·rcases h.cls i' y a mn hy' hya hme with h1|⟨x,b,h1,h2,h3⟩|⟨k,h1,h2,h3⟩|h1
   ·exact .inl h1
   ·exact .inr (.inl ⟨x,b,h1,h2,h3.app _⟩)
   ·refine .inr (.inr (.inl ⟨k,h1,λe=>?_,λp e w=>?_⟩))
    ·by_cases hk:k=i
     ·subst hk;simp only[upd_same]at e;cases e
     ·simp only[upd_ne S.cl _ hk]at e;exact(h2 e).app _
    ·by_cases hk:k=i
     ·subst hk;simp only[upd_same,ay]at e;subst e;exact .inr ((h2 hn).hb_new (af _) hzp hg)
     ·simp only[upd_ne S.cl _ hk]at e;exact(h3 p e w).app _
   ·exact .inr (.inr (.inr h1))
  ·have:y=z:=by simpa using hyu
   rw[this,hz]at hya;cases hya
 ·obtain⟨p,h1,h2⟩:=hm.XC i' k hr;refine⟨p,?_,h2⟩;have hk:k≠i:=by rintro rfl;rw[hn]at h1;cases h1
  simp only[upd_ne S.cl _ hk];exact h1
 ·by_cases hk:k=i
  ·subst hk;simp only[upd_same,ay]at hp;subst hp;refine⟨by rw[act?_of hzp,hz],T.m0+k,by simp[Trace.g?,hg],?_⟩;rw[deaf_old (af _)];exact hd
  ·simp only[upd_ne S.cl _ hk]at hp;exact hm.pos k p hp
def TI.recv(h:TI T S t){i k p:Nat}(fG:S.cl k=so p){z:MemOp}(hg:z.g=T.m0+i)(hz:z.act=.recvClosed (T.ch k))(hd:Deaf t (T.m0+i)=0):
  TI T {S with rc:=λa b=>S.rc a b\/(a=i/\b=k)} (t++#[z]):=by
 have hzp:(t++#[z])[t.size]?=so z:=by rw[gD (af _)];simp
 have hm:TI T S (t++#[z]):=h.mute (y:=T.m0+i) (λop fD=>by simp at fD;rw[fD];exact hg) (λop fD=>by simp at fD;rw[fD,hz];rfl);refine⟨hm.len,hm.base,hm.cls,λi' k' hr=>?_,hm.pos,hm.nr⟩;rcases hr with hr|⟨rfl,rfl⟩
 ·exact hm.XC i' k' hr
 ·obtain⟨h1,h2⟩:=hm.pos k' p fG;refine⟨p,fG,t.size,z,hzp,hg,.inr (.single (.inr ⟨.closed h1 (by rw[act?_of hzp,hz]),h2,T.m0+i',by simp[Trace.g?,hg],?_⟩))⟩;rw[deaf_old (af _)];exact hd
def TI.spawn(h:TI T S t){own':Nat->Nat->Prop}{x y:MemOp}(hx:x.g=0/\x.act=.go (T.m0+S.j))(hy:y.g=T.m0+S.j/\y.act=.start)(h0:Deaf t 0=0)(hk:Deaf t (T.m0+S.j)=0)(ho:∀z b,S.own z b->own' z b\/(z=0/\own' (T.m0+S.j) b)):TI T {S with j:=S.j+1,own:=own'} (t++#[x,y]):=by
 have UR:∀op∈#[x,y],op.act.touch?=none:=by
  intro op fD;simp only[List.mem_toArray,bq,fi,or_false]at fD;rcases fD with rfl|rfl
  ·rw[hx.2];rfl
  ·rw[hy.2];rfl
 have Si:∀{i},Knows t 0 i->Knows (t++#[x,y]) (T.m0+S.j) i:=λhh=>fork_knows hx hy h0 hk hh;refine⟨by have:=h.len;simp;omega,λw hw i hi a mW hm=>?_,λi z a hi hz vX hm=>?_,λi k hr=>?_,λk p hp=>?_,λsaid=>?_⟩
 ·rw[touchAt_old (by have:=h.len;omega)]at mW;by_cases US:w=T.m0+S.j
  ·subst US;exact(h.base 0 (.inl rfl) i hi a mW hm).imp Si id
  ·have hw':GB T S w:=by
    rcases hw with rfl|⟨i',mn,rfl⟩
    ·exact .inl rfl
    ·exact .inr ⟨i',by simp only at mn;omega,rfl⟩
   exact(h.base w hw' i hi a mW hm).imp (·.app _) id
 ·rcases getElem?_append_cases hz with⟨cR,D2⟩|⟨_,HU⟩
  ·rcases h.cls i z a hi D2 vX hm with h1|⟨w,b,h1,h2,h3⟩|⟨k,h1,h2,h3⟩|h1
   ·exact .inl h1
   ·rcases ho w b h1 with h4|⟨rfl,h4⟩
    ·exact .inr (.inl ⟨w,b,h4,h2,h3.app _⟩)
    ·exact .inr (.inl ⟨_,b,h4,h2,Si h3⟩)
   ·exact .inr (.inr (.inl ⟨k,h1,λe=>(h2 e).app _,λp e w=>(h3 p e w).app _⟩))
   ·exact .inr (.inr (.inr h1))
  ·rw[UR z HU]at vX;cases vX
 ·obtain⟨p,h1,h2⟩:=h.XC i k hr;exact⟨p,h1,h2.app _⟩
 ·obtain⟨h1,h2⟩:=h.pos k p hp;have:=lt_of_act? h1;exact⟨by rw[act?_old this];exact h1,zJ this h2⟩
 ·have e:t++#[x,y]=(t++#[x])++#[y]:=by apply kC;simp
  rw[e];refine noRace_append (g:=T.m0+S.j) (noRace_append (g:=0) (h.nr said) (λop fD=>by simp at fD;rw[fD];exact hx.1) (λi a _ op fD b hb _=>?_)) (λop fD=>by simp at fD;rw[fD];exact hy.1) (λi a _ op fD b hb _=>?_)
  ·rw[UR op (by simp at fD |-;exact .inl fD)]at hb;cases hb
  ·rw[UR op (by simp at fD |-;exact .inr fD)]at hb;cases hb
def TI.Sj{Sb:Nat->Prop}(tZ:T.Shun=uJ Sb)(h:TI T S t){t0:Trace}{B B':Nat}(hold:∃U,t=t0++U)(h0:t0.size=T.T0)(hP:Past T.Shun B t0){q:Nat}(hq:t.act? q=so (.mark (.acquire (Go.ConcR.stA T.Wg))))(hqg:t.g? q=so 0)(hqh:t.heard q)(norel:∀k,T.T0<=k->t.act? k≠so (.mark (.release (Go.ConcR.stA T.Wg))))(rel:∀i,i<S.j->∃r,T.T0<=r/\r<q/\RelBy (Go.ConcR.stA T.Wg) t (T.m0+i) r/\∀i' a,r<i'->t.g? i'=so (T.m0+i)->touchAt t i'=so a->uJ (λb=>b=T.Wg) a.loc/\a.kind=.atomic)(UT:∀i z,T.T0<=i->t[i]?=so z->z.g=0\/(∃k,k<S.j/\z.g=T.m0+k)\/z.act.touch?=we)(hears:Deaf t 0=0)(seen:∀op∈t,op.act.low B'):Past (uJ λb=>Sb b\/b=T.Wg) B' t:=by
 have Vs:∀i r,RelBy (Go.ConcR.stA T.Wg) t (T.m0+i) r->T.T0<=r->r<q->HappensBefore t r q:=λi r hr h1 h2 =>
  .single (.inr ⟨.marked h2 (.inr hr.act) hq (λk k1 _=>norel k aa),hr.heard,hqh⟩)
 have kq:∀i,HappensBefore t i q->Knows t 0 i:=λi hh=>by
  obtain⟨z,hz,hg⟩:=aH.1 hqg;exact⟨q,z,hz,hg,.inr hh⟩
 have shn:∀{l:Loc},uJ (λb=>b=T.Wg) l->uJ (λb=>Sb b\/b=T.Wg) l:=λ{l} hl=>by cases l<;>simp only[uJ]at hl |-<;>first|(exact hl.elim)|exact .inr hl
 have sho:∀{l:Loc},T.Shun l->uJ (λb=>Sb b\/b=T.Wg) l:=λ{l} hl=>by rw[tZ]at hl;cases l<;>simp only[uJ]at hl |-<;>first|(exact hl.elim)|exact .inl hl
 refine⟨h.nr,λi a ha hm=>?_,λi g hg fu hc=>?_,hears,seen⟩
 ·rcases cg i T.T0 with hi|hi
  ·exact(h.base 0 (.inl rfl) i hi a ha hm).imp id λx=>⟨sho x.1,x.2⟩
  ·obtain⟨z,hz,vX⟩:=touch_of ha;rcases UT i z hi hz with e|⟨k,hk,e⟩|e
   ·have:=knows_own hz;rw[e]at this;exact .inl this
   ·obtain⟨r,r1,r2,r3,r4⟩:=rel k hk;have NY:t.g? i=so (T.m0+k):=by simp[Trace.g?,hz,e]
    rcases dB i r with cR|rfl|hgt
    ·exact .inl (kq i (.trans (.single (.inl ⟨cR,_,NY,r3.g⟩)) (Vs k r r3 r1 r2)))
    ·exact .inl (kq i (Vs k i r3 r1 r2))
    ·have:=r4 i a hgt NY ha;exact .inr ⟨shn this.1,this.2⟩
   ·rw[e]at vX;cases vX
 ·obtain⟨U,rfl⟩:=hold;rcases cg i T.T0 with hi|hi
  ·obtain⟨j,hj,hb⟩:=hP.over i g (by rw[<- g?_old (u:=U) aa];exact hg) fu ((counts_old aa).1 hc);have HV:j<t0.size:=by
    obtain⟨z,hz,_⟩:=aH.1 hj;exact lt_size_of_getElem? hz
   exact⟨j,by rw[g?_old HV];exact hj,hb_app U hb⟩
  ·obtain⟨z,hz,XD⟩:=aH.1 hg;rcases UT i z hi hz with e|⟨k,hk,e⟩|e
   ·exact absurd (XD.symm.trans e) fu
   ·obtain⟨r,r1,r2,r3,r4⟩:=rel k hk;rcases dB i r with cR|rfl|hgt
    ·exact⟨q,hqg,.trans (.single (.inl ⟨cR,_,by rw[hg,<- XD,e],r3.g⟩)) (Vs k r r3 r1 r2)⟩
    ·exact⟨q,hqg,Vs k i r3 r1 r2⟩
    ·exact absurd hc (r3.after i hgt (by rw[hg,<- XD,e]))
   ·obtain⟨a,ha,_⟩:=hc;obtain⟨y,hy,hya⟩:=touch_of ha;rw[hz]at hy;cases hy;rw[e]at hya;cases hya
def TI.begin{t0:Trace}{B:Nat}(h0:t0.size=T.T0)(hP:Past T.Shun B t0){own:Nat->Nat->Prop}:TI T {j:=0,own:=own,cl:=λ_=>we,rc:=λ_ _=>False} t0:=by
 refine⟨aa,λx hx i hi a ha hm=>?_,λi z a hi hz=>?_,λi k hr=>hr.elim,λk p hp=>(by cases hp),hP.clean⟩
 ·rcases hx with rfl|⟨i',mn,_⟩
  ·exact hP.known i a ha hm
  ·exact absurd mn (cH _)
 ·have:=lt_size_of_getElem? hz;omega
end
section
open Go.ConcR (KK wgBlock WgAt stA smA rd wr mk)
structure di(T:dv)(i:Nat)(o rc:Nat->Prop)(w w1:ae):Prop where
 size:w.heap.size<=w1.heap.size
 own:∀b,o b->w1.heap[b]?=w.heap[b]?
 ro:∀b,b<T.H0->b≠T.Wg->¬T.Sh b->(∀k,k<T.n->b≠T.ch k)->w1.heap[b]?=w.heap[b]?
 sh:∀b cs ty fz,T.Sh b->w.heap[b]?=so (.cells cs ty fz)->∃tQ,w1.heap[b]?=so (.cells tQ ty fz)/\tQ.size=cs.size
 mine:∀a,(T.kM i (.cell a)\/∃k,rc k/\T.kM k (.cell a))->w1.cell? a=w.cell? a
 chan:∀k s r tm c,k<T.n->w.heap[T.ch k]?=so (.chan 0 #[] c s r tm)->∃c1,w1.heap[T.ch k]?=so (.chan 0 #[] c1 s r tm)/\(c=true->c1=true)
 Cp:w1.heap[T.ch i]?=w.heap[T.ch i]?
 wg:WgLive T.ty T.Wg w->WgLive T.ty T.Wg w1
 os:w1.os=w.os
 output:w1.output=w.output
structure L3(T:dv)(i:Nat)(o:Nat->Prop)(w w':ae):Prop where
 size:w.heap.size<=w'.heap.size
 rest:∀b,b<w.heap.size->¬o b->¬T.Sh b->w'.heap[b]?=w.heap[b]?
 sh:∀b cs ty fz,T.Sh b->w.heap[b]?=so (.cells cs ty fz)->∃tQ,w'.heap[b]?=so (.cells tQ ty fz)/\tQ.size=cs.size
 cells:∀a,T.Sh a.block->¬T.kM i (.cell a)->w'.cell? a=w.cell? a
 os:w'.os=w.os
 output:w'.output=w.output
structure dU(T:dv)(o:Nat->Prop)(w w1:ae):Prop where
 size:w.heap.size<=w1.heap.size
 own:∀b,o b->w1.heap[b]?=w.heap[b]?
 ro:∀b,b<T.H0->b≠T.Wg->¬T.Sh b->(∀k,k<T.n->b≠T.ch k)->w1.heap[b]?=w.heap[b]?
 wg:WgLive T.ty T.Wg w->WgLive T.ty T.Wg w1
 os:w1.os=w.os
 output:w1.output=w.output
structure Pz(T:dv)(o:Nat->Prop)(w w':ae):Prop where
 size:w.heap.size<=w'.heap.size
 rest:∀b,b<w.heap.size->¬o b->w'.heap[b]?=w.heap[b]?
 os:w'.os=w.os
 output:w'.output=w.output
def NZ(T:dv)(i:Nat)(o rc:Nat->Prop)(e:Event):Prop :=
 (∀a,(MemAct.ofEvent e).touch?=so a->a.loc.isMemory=true->(∃b,o b/\IN a.loc b)\/T.kM i a.loc\/(∃k,rc k/\T.kM k a.loc/\a.write=false)\/(T.RO a.loc/\a.write=false))
 /\ e.loc≠.mark .disable/\e.loc≠.mark .enable/\(∀x,e.loc≠.mark (.release x))
def EvS(T:dv)(o:Nat->Prop)(e:Event):Prop :=
 (∀a,(MemAct.ofEvent e).touch?=so a->a.loc.isMemory=true->(uJ (λb=>b=T.Wg) a.loc/\a.kind≠.plain)\/(∃b,o b/\IN a.loc b)\/(T.RO a.loc/\a.write=false))
 /\ e.loc≠.mark .disable/\e.loc≠.mark .enable/\(∀x,e.loc≠.mark (.release x))
def grow(o:Nat->Prop)(w w':ae):Nat->Prop:=λb=>o b\/(w.heap.size<=b/\b<w'.heap.size)
section
variable {T:dv}{i:Nat}{o rc:Nat->Prop}{w w1 w2:ae}
def di.refl(w:ae):di T i o rc w w:=⟨af _,λ_ _=>rfl,λ_ _ _ _ _=>rfl,λb cs ty fz _ h=>⟨cs,h,rfl⟩,λ_ _=>rfl,λk s r tm c _ h=>⟨c,h,id⟩,rfl,id,rfl,rfl⟩
def di.trans(h:di T i o rc w w1)(k:di T i o rc w1 w2):di T i o rc w w2:=by
 refine⟨aS h.size k.size,λb hb=>(k.own b hb).trans (h.own b hb),λb a1 a2 a3 a4=>(k.ro b a1 a2 a3 a4).trans (h.ro b a1 a2 a3 a4),λb cs ty fz hb hh=>?_,λa ha=>(k.mine a ha).trans (h.mine a ha),λj s r tm c hj hh=>?_,k.Cp.trans h.Cp,λx=>k.wg (h.wg x),k.os.trans h.os,k.output.trans h.output⟩
 ·obtain⟨c1,e1,e2⟩:=h.sh b cs ty fz hb hh;obtain⟨c2,e3,e4⟩:=k.sh b c1 ty fz hb e1;exact⟨c2,e3,e4.trans e2⟩
 ·obtain⟨c1,e1,e2⟩:=h.chan j s r tm c hj hh;obtain⟨c2,e3,e4⟩:=k.chan j s r tm c1 hj e1;exact⟨c2,e3,λx=>e4 (e2 x)⟩
def di.at(w:ae)(d:Nat):di T i o rc w (w.at d):=⟨af _,λ_ _=>rfl,λ_ _ _ _ _=>rfl,λb cs ty fz _ h=>⟨cs,h,rfl⟩,λ_ _=>rfl,λk s r tm c _ h=>⟨c,h,id⟩,rfl,id,rfl,rfl⟩
def dU.refl(w:ae):dU T o w w:=⟨af _,λ_ _=>rfl,λ_ _ _ _ _=>rfl,id,rfl,rfl⟩
def dU.trans(h:dU T o w w1)(k:dU T o w1 w2):dU T o w w2 :=
 ⟨aS h.size k.size,λb hb=>(k.own b hb).trans (h.own b hb),λb a1 a2 a3 a4=>(k.ro b a1 a2 a3 a4).trans (h.ro b a1 a2 a3 a4),λx=>k.wg (h.wg x),k.os.trans h.os,k.output.trans h.output⟩
def dU.at(w:ae)(d:Nat):dU T o w (w.at d):=⟨af _,λ_ _=>rfl,λ_ _ _ _ _=>rfl,id,rfl,rfl⟩
def gW{w w':ae}(e:w'.heap[T.Wg]?=w.heap[T.Wg]?)(h:WgLive T.ty T.Wg w):WgLive T.ty T.Wg w':=by
 obtain⟨st,sm,hl⟩:=h;exact⟨st,sm,by unfold WgAt at hl |-;rw[e];exact hl⟩
def cell_of{w w':ae}{a:Addr}(e:w'.heap[a.block]?=w.heap[a.block]?):w'.cell? a=w.cell? a:=by simp[World.cell?,e]
structure rI(T:dv)(j:Nat)(w w':ae):Prop where
 D6:∀b cs ty fz,T.Sh b->w.heap[b]?=so (.cells cs ty fz)->∃tQ,w'.heap[b]?=so (.cells tQ ty fz)/\tQ.size=cs.size
 idle:∀k a,j<=k->T.kM k (.cell a)->w'.cell? a=w.cell? a
def rI.refl{j:Nat}(w:ae):rI T j w w:=⟨λb cs ty fz _ h=>⟨cs,h,rfl⟩,λ_ _ _ _=>rfl⟩
def rI.trans{j:Nat}{w w1 w2:ae}(h:rI T j w w1)(k:rI T j w1 w2):rI T j w w2:=by
 refine⟨λb cs ty fz hb hh=>?_,λi a hi ha=>(k.idle i a hi ha).trans (h.idle i a hi ha)⟩;obtain⟨c1,e1,e2⟩:=h.D6 b cs ty fz hb hh;obtain⟨c2,e3,e4⟩:=k.D6 b c1 ty fz hb e1;exact⟨c2,e3,e4.trans e2⟩
def rI.mono{j j':Nat}{w w1:ae}(h:rI T j w w1)(hj:j<=j'):rI T j' w w1:=⟨h.D6,λi a hi ha=>h.idle i a (aS hj hi) ha⟩
def rI.Cq(hT:T.OK){j:Nat}{w w1:ae}(h:∀b,T.Sh b->w1.heap[b]?=w.heap[b]?):rI T j w w1:=by
 refine⟨λb cs ty fz hb hx=>⟨cs,by rw[h b hb];exact hx,rfl⟩,λk a _ ha=>?_⟩;obtain⟨a',e,hs⟩:=hT.ownSh k _ ha;cases e;exact cell_of (h _ hs)
def L3.keep(hT:T.OK){j:Nat}(h:L3 T i o w w1)(hi:i<j):rI T j w w1:=by
 refine⟨h.sh,λk a hk ha=>?_⟩;obtain⟨a',e,hs⟩:=hT.ownSh k _ ha;cases e;exact h.cells a hs λhx=>by have:=hT.apart _ _ _ ha hx;omega
def L3.Cr(hT:T.OK){j:Nat}{oj UU:Nat->Prop}(h:L3 T i o w w1)(hj:j≠i)(uM:j<T.n)(hH:T.H0<=w.heap.size)(ho:∀b,o b->T.H0<=b)(hoj:∀b,oj b->T.H0<=b/\b<w.heap.size/\¬o b)(PC:¬UU i):di T j oj UU w w1:=by
 have nsh:∀b,T.H0<=b->¬T.Sh b:=λb hb hs=>by have:=(hT.sh b hs).1;omega
 have no:∀b,b<T.H0->¬o b:=λb hb hs=>by have:=ho b hs;omega
 have pX:∀k,k<T.n->w1.heap[T.ch k]?=w.heap[T.ch k]?:=λk hk=>h.rest _ (by have:=(hT.ch k hk).1;omega) (no _ (hT.ch k hk).1) (λhs=>(hT.sh _ hs).2.2 k hk rfl);refine⟨h.size,λb hb=>h.rest b (hoj b hb).2.1 (hoj b hb).2.2 (nsh b (hoj b hb).1),λb h1 _ h3 _=>h.rest b aa (no b h1) h3,h.sh,λa ha=>?_,λk s r tm c hk hh=>⟨c,by rw[pX k hk];exact hh,id⟩,pX j uM,gW (h.rest _ (by have:=hT.wg;omega) (no _ hT.wg) (λhs=>(hT.sh _ hs).2.1 rfl)),h.os,h.output⟩;have key:∀k,k≠i->T.kM k (.cell a)->w1.cell? a=w.cell? a:=by
  intro k hk fo;obtain⟨a',e,hs⟩:=hT.ownSh k _ fo;cases e;exact h.cells a hs λhi=>hk (hT.apart _ _ _ fo hi)
 rcases ha with ha|⟨k,hk,ha⟩
 ·exact key j hj ha
 ·exact key k (λe=>PC (e▸hk)) ha
def L3.L4(hT:T.OK){o0:Nat->Prop}(h:L3 T i o w w1)(hH:T.H0<=w.heap.size)(ho:∀b,o b->T.H0<=b)(UW:∀b,o0 b->T.H0<=b/\b<w.heap.size/\¬o b):dU T o0 w w1:=by
 have nsh:∀b,T.H0<=b->¬T.Sh b:=λb hb hs=>by have:=(hT.sh b hs).1;omega
 have no:∀b,b<T.H0->¬o b:=λb hb hs=>by have:=ho b hs;omega
 exact⟨h.size,λb hb=>h.rest b (UW b hb).2.1 (UW b hb).2.2 (nsh b (UW b hb).1),λb h1 _ h3 _=>h.rest b aa (no b h1) h3,gW (h.rest _ (by have:=hT.wg;omega) (no _ hT.wg) (λhs=>(hT.sh _ hs).2.1 rfl)),h.os,h.output⟩
def Pz.Cr(hT:T.OK){o0:Nat->Prop}(h:Pz T o0 w w1)(hi:i<T.n)(hH:T.H0<=w.heap.size)(UW:∀b,o0 b->T.H0<=b)(ho:∀b,o b->T.H0<=b/\b<w.heap.size/\¬o0 b):di T i o rc w w1:=by
 have old:∀b,b<T.H0->w1.heap[b]?=w.heap[b]?:=λb hb=>h.rest b aa (λhs=>by have:=UW b hs;omega);have pX:∀k,k<T.n->w1.heap[T.ch k]?=w.heap[T.ch k]?:=λk hk=>old _ (hT.ch k hk).1;refine⟨h.size,λb hb=>h.rest b (ho b hb).2.1 (ho b hb).2.2,λb h1 _ _ _=>old b h1,λb cs ty fz hb hh=>⟨cs,by rw[old b (hT.sh b hb).1];exact hh,rfl⟩,λa ha=>?_,λk s r tm c hk hh=>⟨c,by rw[pX k hk];exact hh,id⟩,pX i hi,gW (old _ hT.wg),h.os,h.output⟩;have key:∀k,T.kM k (.cell a)->w1.cell? a=w.cell? a:=by
  intro k fo;obtain⟨a',e,hs⟩:=hT.ownSh k _ fo;cases e;exact cell_of (old _ (hT.sh _ hs).1)
 rcases ha with ha|⟨k,_,ha⟩
 ·exact key i ha
 ·exact key k ha
def N7(hT:T.OK)(hi:i<T.n)(ho:∀b,o b->T.H0<=b)(h:Aside T.Wg w w1)(hl:WgLive T.ty T.Wg w1):di T i o rc w w1:=by
 have pX:∀k,k<T.n->w1.heap[T.ch k]?=w.heap[T.ch k]?:=λk hk=>h.block _ (hT.ch k hk).2;refine⟨cF h.size.symm,λb hb=>h.block b (by have:=ho b hb;have:=hT.wg;omega),λb _ h2 _ _=>h.block b h2,λb cs ty fz hb hh=>⟨cs,by rw[h.block b (hT.sh b hb).2.1];exact hh,rfl⟩,λa ha=>?_,λk s r tm c hk hh=>⟨c,by rw[pX k hk];exact hh,id⟩,pX i hi,λ_=>hl,h.os,h.output⟩;have key:∀k,T.kM k (.cell a)->w1.cell? a=w.cell? a:=by
  intro k fo;obtain⟨a',e,hs⟩:=hT.ownSh k _ fo;cases e;exact cell_of (h.block _ (hT.sh _ hs).2.1)
 rcases ha with ha|⟨k,_,ha⟩
 ·exact key i ha
 ·exact key k ha
def yu(hT:T.OK)(ho:∀b,o b->T.H0<=b)(h:Aside T.Wg w w1)(hl:WgLive T.ty T.Wg w1):dU T o w w1 :=
 ⟨cF h.size.symm,λb hb=>h.block b (by have:=ho b hb;have:=hT.wg;omega),λb _ h2 _ _=>h.block b h2,λ_=>hl,h.os,h.output⟩
def p8(w:ae)(c:Nat)(s r:Nat)(tm:Bool)(b:Nat)(hb:b≠c):(w.setChan c 0 #[] true s r tm).heap[b]?=w.heap[b]?:=by
 simp only[World.setChan];rw[aQ (bw hb)]
def L5(hT:T.OK){j:Nat}(hj:j<T.n)(Au:j≠i)(hi:i<T.n)(ho:∀b,o b->T.H0<=b){s r:Nat}{tm:Bool}(hc:w.heap[T.ch i]?=so (.chan 0 #[] false s r tm)):di T j o rc w (w.setChan (T.ch i) 0 #[] true s r tm):=by
 have hh:=p8 w (T.ch i) s r tm;have cR:T.ch i<w.heap.size:=(aI.1 hc).1;refine⟨by simp[World.setChan],λb hb=>hh b (by have:=ho b hb;have:=(hT.ch i hi).1;omega),λb _ _ _ h4=>hh b (h4 i hi),λb cs ty fz hb hx=>⟨cs,by rw[hh b (bw ((hT.sh b hb).2.2 i hi))];exact hx,rfl⟩,λa ha=>?_,λk s' r' tm' c hk hx=>?_,hh _ (λe=>Au (hT.yr _ _ hj hi e)),gW (hh _ (bw (hT.ch i hi).2)),rfl,rfl⟩
 ·have key:∀k,T.kM k (.cell a)->(w.setChan (T.ch i) 0 #[] true s r tm).cell? a=w.cell? a:=by
   intro k fo;obtain⟨a',e,hs⟩:=hT.ownSh k _ fo;cases e;exact cell_of (hh _ (bw ((hT.sh _ hs).2.2 i hi)))
  rcases ha with ha|⟨k,_,ha⟩
  ·exact key j ha
  ·exact key k ha
 ·by_cases e:k=i
  ·subst e;rw[hc]at hx;cases hx;exact⟨true,by simp[World.setChan,cR],λx=>rfl⟩
  ·exact⟨c,by rw[hh _ (λx=>e (hT.yr _ _ hk hi x))];exact hx,id⟩
def Cs(hT:T.OK)(hi:i<T.n)(ho:∀b,o b->T.H0<=b){s r:Nat}{tm:Bool}:dU T o w (w.setChan (T.ch i) 0 #[] true s r tm):=by
 have hh:=p8 w (T.ch i) s r tm;exact⟨by simp[World.setChan],λb hb=>hh b (by have:=ho b hb;have:=(hT.ch i hi).1;omega),λb _ _ _ h4=>hh b (h4 i hi),gW (hh _ (bw (hT.ch i hi).2)),rfl,rfl⟩
end
structure Lg where
 g:aY
 o:Nat->Prop
 rc:Nat->Prop
 w:ae
def Em(P:Program)(T:dv)(i:Nat)(V:Nat->ae->Prop)(E:br)(X:Lg->Prop)(x:Lg):Prop :=
 x.g.status=.running /\
 ((∀w1,di T i x.o x.rc x.w w1->∃g' w' es,stepG P false x.g w1=.go g' w' es/\L3 T i x.o w1 w'/\(∀e∈es,NZ T i (grow x.o w1 w') x.rc e)/\X ⟨g',grow x.o w1 w',x.rc,w'⟩)
 \/ (∃k z f,T.dep i k/\(∀w1,di T i x.o x.rc x.w w1->stepG P false x.g w1=.comm x.g #[rcase (T.ch k) z] true (.recv f) w1 #[]) /\
   (∀w1,di T i x.o x.rc x.w w1->V k w1->X ⟨Go.Conc.served x.g (recvd f z false),x.o,λb=>x.rc b\/b=k,w1⟩))
 \/ (mayWake P x.g=true/\∀w1,di T i x.o x.rc x.w w1->∀s r tm,w1.heap[T.ch i]?=so (.chan 0 #[] false s r tm) ->
   ∃g',stepG P false x.g w1=.go g' (w1.setChan (T.ch i) 0 #[] true s r tm) (iv (T.ch i))/\g'.status=.running/\V i w1/\E x.o g' (w1.setChan (T.ch i) 0 #[] true s r tm)))
def iA(P:Program)(T:dv)(i:Nat)(V:Nat->ae->Prop)(E:br)(x:Lg):Prop :=
 ∀X:Lg->Prop,(∀x,Em P T i V E X x->X x)->X x
section
variable {P:Program}{T:dv}{i:Nat}{V:Nat->ae->Prop}{E:br}
def Em.mono{X Y:Lg->Prop}(h:∀x,X x->Y x){x:Lg}(hx:Em P T i V E X x):Em P T i V E Y x:=by
 obtain⟨hr,h1|⟨k,z,f,h1,h2,h3⟩|h1⟩:=hx
 ·refine⟨hr,.inl λw1 hw=>?_⟩;obtain⟨g',w',es,e1,e2,e3,e4⟩:=h1 w1 hw;exact⟨g',w',es,e1,e2,e3,h _ e4⟩
 ·exact⟨hr,.inr (.inl ⟨k,z,f,h1,h2,λw1 hw hv=>h _ (h3 w1 hw hv)⟩)⟩
 ·exact⟨hr,.inr (.inr h1)⟩
def Em.rely{X:Lg->Prop}{x:Lg}(hx:Em P T i V E X x){w1:ae}(hr:di T i x.o x.rc x.w w1):Em P T i V E X ⟨x.g,x.o,x.rc,w1⟩:=by
 obtain⟨hs,h1|⟨k,z,f,h1,h2,h3⟩|⟨hm,h1⟩⟩:=hx
 ·exact⟨hs,.inl λw2 hw=>h1 w2 (hr.trans hw)⟩
 ·exact⟨hs,.inr (.inl ⟨k,z,f,h1,λw2 hw=>h2 w2 (hr.trans hw),λw2 hw hv=>h3 w2 (hr.trans hw) hv⟩)⟩
 ·exact⟨hs,.inr (.inr ⟨hm,λw2 hw=>h1 w2 (hr.trans hw)⟩)⟩
def iA.intro{x:Lg}(h:Em P T i V E (iA P T i V E) x):iA P T i V E x:=λX hX=>hX x (h.mono λy hy=>hy X hX)
def iA.look{x:Lg}(h:iA P T i V E x):Em P T i V E (iA P T i V E) x :=
 (h (λx=>iA P T i V E x/\Em P T i V E (iA P T i V E) x) λx hx=>⟨.intro (hx.mono λ_ hy=>hy.1),hx.mono λ_ hy=>hy.1⟩).2
def iA.rely{x:Lg}(h:iA P T i V E x){w1:ae}(hr:di T i x.o x.rc x.w w1):iA P T i V E ⟨x.g,x.o,x.rc,w1⟩:=.intro (h.look.rely hr)
def Ax(P:Program)(T:dv)(i:Nat)(V:Nat->ae->Prop)(y x:Lg):Prop :=
 (∃w1 es s r tm,di T i x.o x.rc x.w w1/\stepG P false x.g w1=.go y.g y.w es/\y.o=grow x.o w1 y.w/\y.rc=x.rc/\w1.heap[T.ch i]?=so (.chan 0 #[] false s r tm)/\y.w.heap[T.ch i]?=w1.heap[T.ch i]?)
 \/ (∃k z f,T.dep i k/\di T i x.o x.rc x.w y.w/\V k y.w/\stepG P false x.g y.w=.comm x.g #[rcase (T.ch k) z] true (.recv f) y.w #[]/\y.g=Go.Conc.served x.g (recvd f z false)/\y.o=x.o/\(y.rc=λb=>x.rc b\/b=k)/\∃s r tm,y.w.heap[T.ch i]?=so (.chan 0 #[] false s r tm))
def iA.acc(hT:T.OK)(hi:i<T.n){x:Lg}(h:iA P T i V E x):Acc (Ax P T i V) x:=by
 refine h (λx=>Acc (Ax P T i V) x) λx hx=>Acc.intro x λy hy=>?_;obtain⟨hs,h1|⟨k,z,f,h1,h2,h3⟩|⟨hm,h1⟩⟩:=hx
 ·rcases hy with⟨w1,es,s,r,tm,r1,r2,r3,r4,r5,r6⟩|⟨k,z,f,r0,r1,r2,r3,_⟩
  ·obtain⟨g',w',mQ,e1,e2,e3,e4⟩:=h1 w1 r1;rw[r2]at e1;cases e1;have:y=⟨y.g,grow x.o w1 y.w,x.rc,y.w⟩:=by rw[<- r3,<- r4]
   rw[this];exact e4
  ·obtain⟨g',w',mQ,e1,_⟩:=h1 y.w r1;rw[r3]at e1;cases e1
 ·rcases hy with⟨w1,es,s,r,tm,r1,r2,_⟩|⟨k',z',f',r0,r1,r2,r3,r4,r5,r6,_⟩
  ·have:=h2 w1 r1;rw[r2]at this;cases this
  ·have e:=h2 y.w r1;rw[r3]at e;simp only[GStep.comm.injEq,Array.mk.injEq,bT,rcase,CommCase.mk.injEq,Value.chan.injEq,ay,and_true,true_and,CommShape.recv.injEq]at e;obtain⟨⟨e1,e2⟩,e3⟩:=e;have lY:=hT.dep i k' hi r0;have hk:=hT.dep i k hi h1;obtain rfl:=hT.yr k' k aa aa e1;subst e2 e3;have:=h3 y.w r1 r2;have ey:y=⟨Go.Conc.served x.g (recvd f' z' false),x.o,λb=>x.rc b\/b=k',y.w⟩:=by rw[<- r4,<- r5,<- r6]
   rw[ey];exact this
 ·rcases hy with⟨w1,es,s,r,tm,r1,r2,r3,r4,r5,r6⟩|⟨k,z,f,r0,r1,r2,r3,acj⟩
  ·exfalso;obtain⟨g',e1,_⟩:=h1 w1 r1 s r tm r5;rw[r2]at e1;simp only[GStep.go.injEq]at e1;have cR:T.ch i<w1.heap.size:=(aI.1 r5).1;rw[e1.2.1,r5]at r6;simp[World.setChan,cR]at r6
  ·exfalso;obtain⟨_,_,_,s,r,tm,hc⟩:=acj;obtain⟨g',e1,_⟩:=h1 y.w r1 s r tm hc;rw[r3]at e1;cases e1
end
end
section
open Go.ConcR (KK wgBlock WgAt stA smA rd wr mk)
section
variable {α β:Type}(r le:α->α->Prop)(r0:β->β->Prop)(N:Nat)
def Ends(x:Nat×(Nat->α)×β):Prop:=(∀i,i<N->Acc r (x.2.1 i))/\Acc r0 x.2.2
def LT3(y x:Nat×(Nat->α)×β):Prop :=
 Ends r r0 N y/\(y.1<x.1\/(y.1=x.1/\IM r le N y.2.1 x.2.1)\/(y.1=x.1/\(∀i,i<N->le (y.2.1 i) (x.2.1 i))/\r0 y.2.2 x.2.2))
variable {r le r0 N}
def PD(rf:∀a,le a a)(tr:∀a b c,le a b->le b c->le a c)(hle:∀a b c,le b a->r c b->r c a):∀x,Ends r r0 N x->Acc (LT3 r le r0 N) x:=by
 have main:∀n,∀x:Nat×(Nat->α)×β,x.1=n->Ends r r0 N x->Acc (LT3 r le r0 N) x:=by
  intro n
  induction n using Nat.strongRecOn with
  |ind n ih =>
  have key:∀v:Nat->α,Acc (IM r le N) v->∀b:β,Acc r0 b->∀xs:Nat->α,(∀i,i<N->le (xs i) (v i))->Acc (LT3 r le r0 N) (n,xs,b):=by
   intro v hv
   induction hv with
   |intro v wM ihv =>
   intro b hb
   induction hb with
   |intro b nD ihb =>
   intro xs hxs;refine Acc.intro _ λy hy=>?_;obtain⟨hE,h1|⟨h1,i,hi,hr,ho⟩|⟨h1,h2,h3⟩⟩:=hy
   ·exact ih y.1 h1 y rfl hE
   ·have:=ihv y.2.1 ⟨i,hi,hle _ _ _ (hxs i hi) hr,λj hj Au=>tr _ _ _ (ho j hj Au) (hxs j hj)⟩ y.2.2 hE.2 y.2.1 (λ_ _=>rf _);have e:y=(n,y.2.1,y.2.2):=by rw[<- show y.1=n from h1]
    rw[e];exact this
   ·have:=ihb y.2.2 h3 y.2.1 (λj hj=>tr _ _ _ (h2 j hj) (hxs j hj));have e:y=(n,y.2.1,y.2.2):=by rw[<- show y.1=n from h1]
    rw[e];exact this
  intro x hx hE;have e:x=(n,x.2.1,x.2.2):=by rw[<- hx]
  rw[e];exact key x.2.1 (Sf rf tr hle N x.2.1 hE.1) x.2.2 hE.2 x.2.1 (λ_ _=>rf _)
 exact λx hE=>main x.1 x rfl hE
end
abbrev mE:=(Nat×Lg×Bool) ⊕ Nat
def oo(P:Program)(T:dv)(V:Nat->ae->Prop):mE->mE->Prop
 | .inl (i',y,tb),.inl (i,x,ta)=>i'=i/\(Ax P T i V y x\/(ta=false/\tb=true/\y.g=x.g/\y.o=x.o/\y.rc=x.rc/\di T i x.o x.rc x.w y.w))
 | .inr m',.inr m=>m'<m
 |_,_=>False
def jz(T:dv):mE->mE->Prop
 | .inl (i',y,tb),.inl (i,x,ta)=>i'=i/\tb=ta/\y.g=x.g/\y.o=x.o/\y.rc=x.rc/\di T i x.o x.rc x.w y.w
 | .inr m',.inr m=>m'=m
 |_,_=>False
section
variable {P:Program}{T:dv}{V:Nat->ae->Prop}
def jz.refl:∀a:mE,jz T a a
 | .inl (i,x,t)=>⟨rfl,rfl,rfl,rfl,rfl,di.refl _⟩
 | .inr m=>rfl
def jz.trans:∀a b c:mE,jz T a b->jz T b c->jz T a c
 | .inl (i1,x1,t1),.inl (i2,x2,t2),.inl (i3,x3,t3),h,k=>by
  obtain⟨rfl,rfl,h3,h4,h5,h6⟩:=h;obtain⟨rfl,rfl,k3,k4,k5,k6⟩:=k;refine⟨rfl,rfl,h3.trans k3,h4.trans k4,h5.trans k5,?_⟩;rw[k4,k5]at h6;exact k6.trans h6
 | .inr m,.inr m',.inr m'',h,k=>Eq.trans h k
 | .inl _,.inr _,_,h,_=>h.elim
 | .inr _,.inl _,_,h,_=>h.elim
 | .inl _,.inl _,.inr _,_,k=>k.elim
 | .inr _,.inr _,.inl _,_,k=>k.elim
def Ax.back{i:Nat}{z y x:Lg}(h:Ax P T i V z y)(e1:y.g=x.g)(e2:y.o=x.o)(e3:y.rc=x.rc)(hr:di T i x.o x.rc x.w y.w):Ax P T i V z x:=by
 rcases h with⟨w1,es,s,r,tm,r1,r2,r3,r4,r5⟩|⟨k,z',f,r0,r1,r2,r3,r4,r5,r6,r7⟩
 ·rw[e2,e3]at r1;rw[e1]at r2;rw[e2]at r3;rw[e3]at r4;exact .inl ⟨w1,es,s,r,tm,hr.trans r1,r2,r3,r4,r5⟩
 ·rw[e2,e3]at r1;rw[e1]at r3 r4;rw[e2]at r5;rw[e3]at r6;exact .inr ⟨k,z',f,r0,hr.trans r1,r2,r3,r4,r5,r6,r7⟩
def oo.back:∀a b c:mE,jz T b a->oo P T V c b->oo P T V c a
 | .inl (i1,x1,t1),.inl (i2,x2,t2),.inl (i3,x3,t3),h,k=>by
  obtain⟨rfl,rfl,h3,h4,h5,h6⟩:=h;obtain⟨rfl,k⟩:=k;refine⟨rfl,?_⟩;rcases k with k|⟨k1,k2,k3,k4,k5,k6⟩
  ·exact .inl (k.back h3 h4 h5 h6)
  ·rw[h4,h5]at k6;exact .inr ⟨k1,k2,k3.trans h3,k4.trans h4,k5.trans h5,h6.trans k6⟩
 | .inr m,.inr m',.inr m'',h,k=>by
  have h:m'=m:=h;subst h;exact k
 | .inl _,.inr _,_,h,_=>h.elim
 | .inr _,.inl _,_,h,_=>h.elim
 | .inl _,.inl _,.inr _,_,k=>k.elim
 | .inr _,.inr _,.inl _,_,k=>k.elim
def Vt{i:Nat}{x:Lg}(h:Acc (Ax P T i V) x):∀t,Acc (oo P T V) (.inl (i,x,t)):=by
 have ack:∀x,(∀y,Ax P T i V y x->∀t,Acc (oo P T V) (.inl (i,y,t)))->Acc (oo P T V) (.inl (i,x,true)):=by
  intro x hx;refine Acc.intro _ λy hy=>?_;rcases y with⟨i',y,tb⟩|m
  ·obtain⟨rfl,h1⟩:=hy;rcases h1 with h1|⟨h1,_⟩
   ·exact hx y h1 tb
   ·cases h1
  ·exact hy.elim
 induction h with
 |intro x hx ih =>
  intro t;refine Acc.intro _ λy hy=>?_;rcases y with⟨i',y,tb⟩|m
  ·obtain⟨rfl,h1⟩:=hy;rcases h1 with h1|⟨_,rfl,k3,k4,k5,k6⟩
   ·exact ih y h1 tb
   ·exact ack y λz hz=>ih z (hz.back k3 k4 k5 k6)
  ·exact hy.elim
def Br(m:Nat):Acc (oo P T V) (.inr m):=by
 induction m using Nat.strongRecOn with
 |ind m ih =>
  refine Acc.intro _ λy hy=>?_;rcases y with y|m'
  ·obtain⟨i',y,tb⟩:=y;exact hy.elim
  ·exact ih m' hy
end
structure SAt where
 g:aY
 o:Nat->Prop
 w:ae
abbrev ft:=br
def du(P:Program)(T:dv)(Stop:ft)(o:Nat->Prop)(g:aY)(w:ae):Prop :=
 ∀X:br,(∀o g w,(∀w1,dU T o w w1->Stop o g w1)->X o g w) ->
  (∀o g w,g.status=.running->(∀w1,dU T o w w1->∃g' w' es,stepG P true g w1=.go g' w' es/\Pz T o w1 w'/\(∀e∈es,EvS T (grow o w1 w') e)/\X (grow o w1 w') g' w')->X o g w)->X o g w
section
variable {P:Program}{T:dv}{Stop:ft}
def du.stop{o:Nat->Prop}{g:aY}{w:ae}(h:∀w1,dU T o w w1->Stop o g w1):du P T Stop o g w:=λX h1 _=>h1 o g w h
def du.step{o:Nat->Prop}{g:aY}{w:ae}(hs:g.status=.running)(h:∀w1,dU T o w w1->∃g' w' es,stepG P true g w1=.go g' w' es/\Pz T o w1 w'/\(∀e∈es,EvS T (grow o w1 w') e)/\du P T Stop (grow o w1 w') g' w'):du P T Stop o g w:=by
 intro X h1 h2;refine h2 o g w hs λw1 hw=>?_;obtain⟨g',w',es,e1,e2,e3,e4⟩:=h w1 hw;exact⟨g',w',es,e1,e2,e3,e4 X h1 h2⟩
def du.look{o:Nat->Prop}{g:aY}{w:ae}(h:du P T Stop o g w):(∀w1,dU T o w w1->Stop o g w1)\/(g.status=.running/\∀w1,dU T o w w1->∃g' w' es,stepG P true g w1=.go g' w' es/\Pz T o w1 w'/\(∀e∈es,EvS T (grow o w1 w') e)/\du P T Stop (grow o w1 w') g' w'):=by
 refine(h (λo g w=>du P T Stop o g w/\((∀w1,dU T o w w1->Stop o g w1)\/(g.status=.running/\∀w1,dU T o w w1->∃g' w' es,stepG P true g w1=.go g' w' es/\Pz T o w1 w'/\(∀e∈es,EvS T (grow o w1 w') e)/\du P T Stop (grow o w1 w') g' w'))) ?_ ?_).2
 ·intro o g w h;exact⟨.stop h,.inl h⟩
 ·intro o g w hs h;have h':∀w1,dU T o w w1->∃g' w' es,stepG P true g w1=.go g' w' es/\Pz T o w1 w'/\(∀e∈es,EvS T (grow o w1 w') e)/\du P T Stop (grow o w1 w') g' w':=λw1 hw=>let ⟨g',w',es,a,b,c,d⟩:=h w1 hw;⟨g',w',es,a,b,c,d.1⟩;exact⟨.step hs h',.inr ⟨hs,h'⟩⟩
def du.rely{o:Nat->Prop}{g:aY}{w w1:ae}(h:du P T Stop o g w)(hr:dU T o w w1):du P T Stop o g w1:=by
 rcases h.look with h|⟨hs,h⟩
 ·exact .stop λw2 h2=>h w2 (hr.trans h2)
 ·exact .step hs λw2 h2=>h w2 (hr.trans h2)
def du.mono{IQ:ft}{o:Nat->Prop}{g:aY}{w:ae}(h:du P T Stop o g w)(hS:∀o g w,Stop o g w->IQ o g w):du P T IQ o g w :=
 h _ (λo g w h=>.stop λw1 hw=>hS _ _ _ (h w1 hw)) (λo g w hs h=>.step hs h)
def du.trans{IQ:ft}{o:Nat->Prop}{g:aY}{w:ae}(h:du P T (λo g w=>du P T IQ o g w) o g w):du P T IQ o g w :=
 h _ (λo g w h=>h w (dU.refl w)) (λo g w hs h=>.step hs h)
def du.running{o:Nat->Prop}{g:aY}{w:ae}(h:du P T Stop o g w)(hS:∀o g w,Stop o g w->g.status=.running):g.status=.running:=by
 rcases h.look with h|⟨hs,_⟩
 ·exact hS _ _ _ (h w (dU.refl w))
 ·exact hs
def N9(P:Program)(T:dv)(Stop:ft)(y x:SAt):Prop :=
 ¬(∀w1,dU T x.o x.w w1->Stop x.o x.g w1)/\∃w1 es,dU T x.o x.w w1/\stepG P true x.g w1=.go y.g y.w es/\y.o=grow x.o w1 y.w
def du.acc{o:Nat->Prop}{g:aY}{w:ae}(h:du P T Stop o g w):Acc (N9 P T Stop) ⟨g,o,w⟩:=by
 refine h (λo g w=>Acc (N9 P T Stop) ⟨g,o,w⟩) ?_ ?_
 ·intro o g w h;exact Acc.intro _ λy hy=>absurd h hy.1
 ·intro o g w hs h;refine Acc.intro _ λy hy=>?_;obtain⟨_,w1,es,hr,fe,ho⟩:=hy;obtain⟨g',w',mQ,e1,_,_,e3⟩:=h w1 hr;simp only at fe ho;rw[fe]at e1;cases e1;have e:y=⟨y.g,grow o w1 y.w,y.w⟩:=by rw[<- ho]
  rw[e];exact e3
end
abbrev kv:=(ft×SAt) ⊕ Nat
def nI(P:Program)(T:dv):kv->kv->Prop
 | .inl (S',y),.inl (S,x)=>S'=S/\N9 P T S y x
 | .inr _,.inl _=>True
 |_,_=>False
def IS{P:Program}{T:dv}(m:Nat):Acc (nI P T) (.inr m):=Acc.intro _ λy hy=>by
 rcases y with⟨S',y⟩|m'
 ·exact hy.elim
 ·exact hy.elim
def Sk{P:Program}{T:dv}{S:ft}{x:SAt}(h:Acc (N9 P T S) x):Acc (nI P T) (.inl (S,x)):=by
 induction h with
 |intro x hx ih =>
  refine Acc.intro _ λy hy=>?_;rcases y with⟨S',y⟩|m
  ·obtain⟨e,h⟩:=hy;rw[e];exact ih y h
  ·exact IS m
end
section
open Go.ConcR (KK wgBlock WgAt stA smA rd wr mk Payload)
variable [Payload]
abbrev rU:Nat->Loc->Prop:=λ_ _=>False
section
variable (P:Program)(T:dv)(V:Nat->ae->Prop)(fH:Nat->(Nat->Prop)->ae->Prop)(cZ Fin:ft)
def En(i:Nat)(o:Nat->Prop)(g:aY)(w:ae):Prop :=
 ∃C v m,o C/\Goes P false (RW T.ty T.Wg C 0 0 (1-1)) (DWs T.Wg rU rU C 0 1) (AtR0 P T.ty T.Wg C 0 0 1 v) m g w/\fH i (λb=>o b/\b≠C) w
def PE:ft:=λo g w=>g.status=.running/\∃g',stepG P true g w=.go g' w #[mk (.acquire (stA T.Wg))]/\Fin o g' w
def XE:ft:=λo g w=>g.status=.running/\∃g',stepG P true g w=.go g' w #[mk .enable]/\du P T (PE P T Fin) o g' w
def SW4:ft:=λo g w=>g.status=.running/\(WgAt T.ty T.Wg w 0 0->∃g',stepG P true g w=.go g' w #[rd (stA T.Wg)]/\du P T (XE P T Fin) o g' w)
def Y3:ft:=λo g w=>g.status=.running/\g.offers=we /\
 ((∃st,WgAt T.ty T.Wg w st 0)->stepG P true g w=.go {g with status:=.blocked} w #[]) /\
 (WgAt T.ty T.Wg w 0 1->∃g',stepG P true g w=.go g' (w.setCell (smA T.Wg) (.int .u32 0)) (semEvents (smA T.Wg))/\du P T (SW4 P T Fin) o g' (w.setCell (smA T.Wg) (.int .u32 0)))
def SW2(vs:Nat):ft:=λo g w=>g.status=.running/\∀v:Nat,v<2147483648->WgAt T.ty T.Wg w (v*KK) 0 ->
 (v=vs->∃g',stepG P true g w=.go g' (w.setCell (stA T.Wg) (.int .u64 (v*KK+1))) #[rd (stA T.Wg),wr (stA T.Wg)]/\du P T (Y3 P T Fin) o g' (w.setCell (stA T.Wg) (.int .u64 (v*KK+1)))) /\
 (v≠vs->∃g',stepG P true g w=.go g' w #[rd (stA T.Wg)]/\du P T cZ o g' w)
def Rz:ft:=λo g w=>g.status=.running/\∀v:Nat,v<2147483648->WgAt T.ty T.Wg w (v*KK) 0 ->
 ∃g',stepG P true g w=.go g' w #[rd (stA T.Wg)]/\(v=0->du P T (XE P T Fin) o g' w)/\(v≠0->du P T (SW2 P T cZ Fin v) o g' w)
def RA:ft:=λo g w=>g.status=.running/\∃g',stepG P true g w=.go g' w #[mk .disable]/\du P T cZ o g' w
def SGo(j:Nat)(Next:ft):ft:=λo g w=>g.status=.running/\∃g' child hand,stepG P true g w=.spawn g' child w #[]/\(∀b,hand b->o b) /\
 (∀w1,dU T o w w1->T.Idle j w1->iA P T j V (En P T fH j) ⟨child,hand,λ_=>False,w1⟩)/\Next (λb=>o b/\¬hand b) g' w
def Y4(j:Nat)(Next:ft):ft:=λo g w=>g.status=.running/\∃g',stepG P true g w=.go g' w #[mk .enable]/\du P T (SGo P T V fH j Next) o g' w
def SA1(j:Nat)(Next:ft):ft:=λo g w=>g.status=.running/\∀v:Nat,v<2147483647->WgAt T.ty T.Wg w (v*KK) 0 ->
 ∃g',stepG P true g w=.go g' (w.setCell (stA T.Wg) (.int .u64 ((v+1)*KK))) #[rd (stA T.Wg),wr (stA T.Wg)]/\du P T (Y4 P T V fH j Next) o g' (w.setCell (stA T.Wg) (.int .u64 ((v+1)*KK)))
def L6(j:Nat)(Next:ft):ft:=λo g w=>g.status=.running/\∃g',stepG P true g w=.go g' w #[mk .disable]/\du P T (SA1 P T V fH j Next) o g' w
def jC:Nat->ft
 |0=>du P T (RA P T cZ)
 |r+1=>du P T (L6 P T V fH (T.n-(r+1)) (jC r))
def kW:CTag->ft
 | .sp r s=>if s=5 then L6 P T V fH (T.n-(r+1)) (jC P T V fH cZ r)else if s=4 then SA1 P T V fH (T.n-(r+1)) (jC P T V fH cZ r)
   else if s=3 then Y4 P T V fH (T.n-(r+1)) (jC P T V fH cZ r)else SGo P T V fH (T.n-(r+1)) (jC P T V fH cZ r)
 | .kd=>RA P T cZ
 | .w1=>Rz P T cZ Fin
 | .w2 vs=>SW2 P T cZ Fin vs
 | .w3|.blk=>Y3 P T Fin
 | .w4=>SW4 P T Fin
 | .ke=>XE P T Fin
 | .acq=>PE P T Fin
 | .anch|.ret=>λ_ _ _=>False
def nk(n:Nat):CTag->Nat->Nat->Prop
 | .sp r s,j,d=>r<n/\j=n-(r+1)/\((s=5/\d=0)\/(s=4/\d=1)\/(s=3/\d=1)\/(s=2/\d=0))
 | .kd,j,d=>j=n/\d=0
 | .w1,j,d|.w2 _,j,d|.w3,j,d|.blk,j,d|.w4,j,d|.ke,j,d=>j=n/\d=1
 | .acq,j,d=>j=n/\d=0
 | .anch,_,_|.ret,_,_=>False
def kD(tag:CTag)(o:Nat->Prop)(a:aY)(w:ae)(y:kv):Prop :=
 match tag with
 | .blk=>∃a0,a={a0 with status:=.blocked}/\(∀w1,dU T o w w1->Y3 P T Fin o a0 w1)/\y=.inr 0
 |tag=>du P T (kW P T V fH cZ Fin tag) o a w/\y=.inl (kW P T V fH cZ Fin tag,⟨a,o,w⟩)
def Lh(i:Nat)(o rc:Nat->Prop)(cl:Nat->Option Nat)(d:WD)(ld:mE)(g:aY)(w:ae):Prop :=
 (cl i=we/\d.stage=7/\d.deaf=0/\∃g0 tr,ld=.inl (i,⟨g0,o,rc,w⟩,tr)/\iA P T i V (En P T fH i) ⟨g0,o,rc,w⟩ /\
  ((g=g0/\tr=false)\/(tr=true/\∃k z f,T.dep i k/\(∀w1,di T i o rc w w1->stepG P false g0 w1=.comm g0 #[rcase (T.ch k) z] true (.recv f) w1 #[]) /\
   ((g=parked g0 #[rcase (T.ch k) z] (.recv f)/\cl k=we)\/(g={parked g0 #[rcase (T.ch k) z] (.recv f)with status:=.running}/\(cl k).isSome=true)))))
 \/ ((cl i).isSome=true/\ld=.inr d.fuel/\V i w/\∃C v,o C/\WSit P T.ty T.Wg C 0 rU rU 0 1 v d.stage d.fuel d.deaf g w/\fH i (λb=>o b/\b≠C) w)
end
structure kX(T:dv)(V:Nat->ae->Prop)(fH:Nat->(Nat->Prop)->ae->Prop):Prop where
 v:∀k w w1,(∀a,T.kM k (.cell a)->w1.cell? a=w.cell? a)->V k w->V k w1
 val:∀k o w w1,(∀a,T.kM k (.cell a)->w1.cell? a=w.cell? a)->(∀b,o b->w1.heap[b]?=w.heap[b]?)->fH k o w->fH k o w1
section
variable {P:Program}{T:dv}{V:Nat->ae->Prop}{fH:Nat->(Nat->Prop)->ae->Prop}{cZ Fin:ft}
theorem di.rw{i:Nat}{o rc:Nat->Prop}{w w1:ae}(h:di T i o rc w w1){C:Nat}(hC:o C):RW T.ty T.Wg C 0 0 (1-1) w w1 :=
 ⟨λb hb=>absurd hb (cH _),h.wg,λ⟨cs,h1,h2⟩=>⟨cs,(h.own C hC).trans h1,h2⟩,cell_of_block (h.own C hC) 0⟩
theorem yv{g0:aY}{c:Nat}{z:Value}{f:Bool}{w:ae}{s r:Nat}{tm b:Bool}(hc:w.heap[c]?=so (.chan 0 #[] b s r tm)):
  (parked g0 #[rcase c z] (.recv f)).again w=if b=true then {parked g0 #[rcase c z] (.recv f)with status:=.running} else parked g0 #[rcase c z] (.recv f):=by
 cases b
 ·exact again_recv_open hc
 ·exact again_recv_closed hc
def nt(w:ae):mE->mE
 | .inl (i,x,tr)=>.inl (i,{x with w:=w},tr)
 | .inr m=>.inr m
theorem Lh.IT(hV:kX T V fH){i:Nat}{o rc:Nat->Prop}{cl cl':Nat->Option Nat}{d:WD}{ld:mE}{g:aY}{w w':ae}(h:Lh P T V fH i o rc cl d ld g w)(hr:di T i o rc w w'){x x':aY}(fG:cl' i=cl i)(IC:∀k,(cl k).isSome=true->(cl' k).isSome=true)(hw:∀k,cl k=we->T.dep i k->cl' k=we\/(mayWake P x=true/\x'.status=.running))(IE:∀k,T.dep i k->∃s r tm,w'.heap[T.ch k]?=so (.chan 0 #[] (cl' k).isSome s r tm)):
  jz T (nt w' ld) ld/\Lh P T V fH i o rc cl' d (nt w' ld) (woken P x x' w' g) w':=by
 rcases h with⟨h1,h2,h3,g0,tr,h4,h5,h6⟩|⟨h1,h2,h3,C,v,h4,h5,h6⟩
 ·refine⟨by rw[h4];exact⟨rfl,rfl,rfl,rfl,rfl,hr⟩,.inl ⟨fG.trans h1,h2,h3,g0,tr,by rw[h4];rfl,h5.rely hr,?_⟩⟩;have acn:g0.status=.running:=h5.look.1;rcases h6 with⟨h6,h6t⟩|⟨h6,k,z,f,h7,h8,h9⟩
  ·left;rw[h6,woken_running acn];exact⟨rfl,h6t⟩
  ·refine .inr ⟨h6,k,z,f,h7,λw1 sL=>h8 w1 (hr.trans sL),?_⟩;rcases h9 with⟨h9,vx⟩|⟨h9,vx⟩
   ·obtain⟨s,r,tm,hc⟩:=IE k h7;rcases hw k vx h7 with hn|⟨hm,hx⟩
    ·left;refine⟨?_,hn⟩;rw[hn]at hc;rw[h9];unfold woken;split
     ·rw[yv hc];simp
     ·rfl
    ·have e:woken P x x' w' g=g.again w':=by unfold woken;simp[hm,hx]
     rw[e,h9,yv hc];cases alB:cl' k with
     |none=>left;simp
     |some p=>right;simp
   ·right;rw[h9,woken_running rfl];exact⟨rfl,IC k vx⟩
 ·have pA:∀a,T.kM i (.cell a)->w'.cell? a=w.cell? a:=λa ha=>hr.mine a (.inl ha);have e2:nt w' ld=ld:=by rw[h2];rfl
  rw[e2];refine⟨jz.refl ld,.inr ⟨by rw[fG];exact h1,h2,hV.v i w w' pA h3,C,v,h4,?_,hV.val i _ w w' pA (λb hb=>hr.own b hb.1) h6⟩⟩;rw[h5.woken];exact h5.rely (hr.rw h4)
theorem Lh.status{i:Nat}{o rc:Nat->Prop}{cl:Nat->Option Nat}{d:WD}{ld:mE}{g:aY}{w:ae}(h:Lh P T V fH i o rc cl d ld g w):
  g.status=.running\/g.status=.finished\/(g.status=.blocked/\cl i=we/\∃k,T.dep i k/\cl k=we):=by
 rcases h with⟨h1,h2,h3,g0,tr,h4,h5,h6⟩|⟨h1,h2,h3,C,v,h4,h5,h6⟩
 ·rcases h6 with⟨h6,_⟩|⟨h6,k,z,f,h7,h8,⟨h9,vx⟩|⟨h9,_⟩⟩
  ·left;rw[h6];exact h5.look.1
  ·exact .inr (.inr ⟨by rw[h9];rfl,h1,k,h7,vx⟩)
  ·left;rw[h9]
 ·exact h5.status.imp id .inl
theorem Lh.acc(hT:T.OK){i:Nat}(hi:i<T.n){o rc:Nat->Prop}{cl:Nat->Option Nat}{d:WD}{ld:mE}{g:aY}{w:ae}(h:Lh P T V fH i o rc cl d ld g w):Acc (oo P T V) ld:=by
 rcases h with⟨h1,h2,h3,g0,tr,h4,h5,h6⟩|⟨h1,h2,h3,C,v,h4,h5,h6⟩
 ·rw[h4];exact Vt (h5.acc hT hi) tr
 ·rw[h2];exact Br _
theorem kD.acc{tag:CTag}{o:Nat->Prop}{a:aY}{w:ae}{y:kv}(h:kD P T V fH cZ Fin tag o a w y):Acc (nI P T) y:=by
 cases tag
 case blk=>obtain⟨a0,_,_,e⟩:=h;rw[e];exact IS 0
 all_goals (obtain⟨h1,e⟩:=h;rw[e];exact Sk h1.acc)
structure gK(P:Program)(T:dv)(V:Nat->ae->Prop)(fH:Nat->(Nat->Prop)->ae->Prop)(cZ Fin:ft)(t0:Trace)(w0:ae)(gs:Array aY)(w:ae)(t:Trace)(S:ku)(D:Nat->WD)(x:Nat->mE)(tag:CTag)(a:aY)(y:kv)(st sm:Int):Prop where
 size:gs.size=T.m0+S.j
 Ff:gs[0]?=so a
 L8:kD P T V fH cZ Fin tag (S.own 0) a w y
 uN:nk T.n tag S.j (Deaf t 0)
 old:∀k,0<k->k<T.m0->∃g q,gs[k]?=so g/\x k=.inr q/\QuitsD P q (Deaf t k) g
 wk:∀i,i<S.j->∃g,gs[T.m0+i]?=so g/\Lh P T V fH i (S.own (T.m0+i)) (S.rc i) S.cl (D i) (x (T.m0+i)) g w
 rest:∀k,T.m0+S.j<=k->x k=.inr 0
 zero:x 0=.inr 0
 deafW:∀i,i<S.j->Deaf t (T.m0+i)=(D i).deaf
 above:∀k,gs.size<=k->Deaf t k=0
 ti:TI T S t
 tR:S.OK T
 lt:∀z b,S.own z b->b<w.heap.size
 h0:T.H0<=w.heap.size
 wg:WgAt T.ty T.Wg w st sm
 mode:Go.ConcN.Mode S.j D tag st sm
 chan:∀k,k<T.n->∃s r tm,w.heap[T.ch k]?=so (.chan 0 #[] (S.cl k).isSome s r tm)
 UX:∀i k,S.rc i k->(S.cl k).isSome=true
 Y5:∀k,S.j<=k->S.cl k=we
 UU:∀i k,S.rc i k->i<S.j
 rel:∀i,i<S.j->(D i).stage<=6->∃r,T.T0<=r/\RelBy (stA T.Wg) t (T.m0+i) r/\∀i' a,r<i'->t.g? i'=so (T.m0+i)->touchAt t i'=so a->uJ (λb=>b=T.Wg) a.loc/\a.kind=.atomic
 norel:∀k,T.T0<=k->t.act? k≠so (.mark (.release (stA T.Wg)))
 UT:∀i z,T.T0<=i->t[i]?=so z->z.g=0\/(∃k,k<S.j/\z.g=T.m0+k)\/z.act.touch?=we
 ext:∃U,t=t0++U
 same:dU T (λ_=>False) w0 w
 D6:rI T S.j w0 w
 idle0:∀k,k<T.n->T.Idle k w0
def nJ(S:ku):Nat:=sumTo S.j λi=>if S.cl i=we then 1 else 0
def p9(T:dv)(S:ku)(D:Nat->WD)(tag:CTag):Nat:=phi T.n (Vc S.j D) tag+Ssum S.j D+nJ S
end
end
section
open Go.ConcR (KK wgBlock WgAt stA smA rd wr mk Payload g_of_ofEvents loc_of_ofEvent)
variable [Payload]
section
variable {P:Program}{T:dv}{V:Nat->ae->Prop}{fH:Nat->(Nat->Prop)->ae->Prop}{cZ Fin:ft}{t0:Trace}{w0:ae}
 {gs:Array aY}{w w':ae}{t:Trace}{S S':ku}{D:Nat->WD}{x:Nat->mE}{tag:CTag}{a:aY}{y:kv}{st sm:Int}{sl:Option (Nat×Nat)}
theorem nK{tag:CTag}{o:Nat->Prop}{g:aY}{w:ae}(h:kW P T V fH cZ Fin tag o g w):g.status=.running:=by
 cases tag<;>simp only[kW]at h
 case sp r s =>
  split at h
  ·exact h.1
  ·split at h
   ·exact h.1
   ·split at h<;>exact h.1
 all_goals exact h.1
theorem kD.eq{tag:CTag}(fu:tag≠.blk){o:Nat->Prop}{a:aY}{w:ae}{y:kv}:kD P T V fH cZ Fin tag o a w y=(du P T (kW P T V fH cZ Fin tag) o a w/\y=.inl (kW P T V fH cZ Fin tag,⟨a,o,w⟩)):=by
 cases tag<;>first|rfl|exact absurd rfl fu
theorem kD.IT{tag:CTag}{o:Nat->Prop}{a:aY}{y:kv}(h:kD P T V fH cZ Fin tag o a w y)(hr:dU T o w w')(u u':aY):
  ∃tag' y',kD P T V fH cZ Fin tag' o (woken P u u' w' a) w' y'/\(tag'=tag\/(tag=.blk/\tag'=.w3))/\(mayWake P u=true->u'.status=.running->tag'≠.blk):=by
 by_cases hb:tag=.blk
 ·subst hb;obtain⟨a0,h1,h2,h3⟩:=h;have hs:=h2 w (dU.refl w);by_cases hw:(mayWake P u&&u'.status != .blocked&&u'.status != .waiting)=true
  ·refine⟨.w3,_,⟨?_,rfl⟩,.inr ⟨rfl,rfl⟩,λ_ _=>aj⟩;have e:woken P u u' w' a=a0:=by
    unfold woken;rw[if_pos hw,h1];have h4:=hs.1;have h5:=hs.2.1;obtain⟨fr,cs,stt,dy,of⟩:=a0;simp only at h4 h5;subst h4 h5;rfl
   rw[e];exact .stop λw1 sL=>h2 w1 (hr.trans sL)
  ·refine⟨.blk,_,⟨a0,?_,λw1 sL=>h2 w1 (hr.trans sL),rfl⟩,.inl rfl,λh1 h2=>absurd ?_ hw⟩
   ·unfold woken;rw[if_neg hw,h1]
   ·simp[h1,h2]
 ·rw[kD.eq hb]at h;obtain⟨h1,h2⟩:=h;have cG:=h1.running λo g w hh=>nK hh;refine⟨tag,.inl (kW P T V fH cZ Fin tag,⟨a,o,w'⟩),?_,.inl rfl,λ_ _=>hb⟩;rw[kD.eq hb,woken_running cG];exact⟨h1.rely hr,rfl⟩
theorem qc{α:Type}{gs:Array α}(f:α->α)(p k:Nat)(u:α)(h:p≠k):((gs.map f).setIfInBounds p u)[k]?=(gs[k]?).map f:=by
 rw[aQ h,aM]
theorem vy{es:Array Event}{g:Nat}{fn:FuncId}{pos:String}(h:∀k,T.T0<=k->t.act? k≠so (.mark (.release (stA T.Wg))))(hu:∀e∈es,e.loc≠.mark (.release (stA T.Wg))):
  ∀k,T.T0<=k->(t++MemOp.ofEvents g fn pos es).act? k≠so (.mark (.release (stA T.Wg))):=by
 intro k hk e;obtain⟨op,ho,XF⟩:=aH.1 e;rcases getElem?_append_cases ho with⟨cR,p6⟩|⟨_,Sl⟩
 ·exact h k hk (by rw[act?_of p6,XF])
 ·obtain⟨ev,jg,rfl⟩:=Go.Conc.mem_ofEvents Sl;exact hu ev jg (loc_of_ofEvent XF)
theorem vz{u:Trace}{j:Nat}(h:∀i z,T.T0<=i->t[i]?=so z->z.g=0\/(∃k,k<j/\z.g=T.m0+k)\/z.act.touch?=we)(hu:∀z∈u,z.g=0\/(∃k,k<j/\z.g=T.m0+k)\/z.act.touch?=we):
  ∀i z,T.T0<=i->(t++u)[i]?=so z->z.g=0\/(∃k,k<j/\z.g=T.m0+k)\/z.act.touch?=none:=by
 intro i z hi hz;rcases getElem?_append_cases hz with⟨cR,D2⟩|⟨_,HU⟩
 ·exact h i z hi D2
 ·exact hu z HU
theorem sP{i g:Nat}{u:Trace}(h:∃r,T.T0<=r/\RelBy (stA T.Wg) t (T.m0+i) r/\∀i' a,r<i'->t.g? i'=so (T.m0+i)->touchAt t i'=so a->uJ (λb=>b=T.Wg) a.loc/\a.kind=.atomic)(hu:∀op∈u,op.g=g)(hg:g≠T.m0+i):∃r,T.T0<=r/\RelBy (stA T.Wg) (t++u) (T.m0+i) r/\∀i' a,r<i'->(t++u).g? i'=so (T.m0+i)->touchAt (t++u) i'=so a->uJ (λb=>b=T.Wg) a.loc/\a.kind=.atomic:=by
 obtain⟨r,h1,h2,h3⟩:=h;refine⟨r,h1,h2.appOther hu hg,λi' a mn NY hta=>?_⟩;obtain⟨z,hz,XD⟩:=aH.1 NY;rcases getElem?_append_cases hz with⟨cR,D2⟩|⟨_,HU⟩
 ·exact h3 i' a mn (by simp[Trace.g?,D2,XD]) (by rw[<- touchAt_old (u:=u) cR];exact hta)
 ·rw[hu z HU]at XD;exact absurd XD hg
theorem gK.worker(hT:T.OK)(hV:kX T V fH)(h:gK P T V fH cZ Fin t0 w0 gs w t S D x tag a y st sm){i:Nat}(hi:i<S.j)(uM:S.j<=T.n){g g':aY}{es:Array Event}(hg:gs[T.m0+i]?=so g)(hgo:stepG P false g w=.go g' w' es){d':WD}{ld':mE}{st' sm':Int}(hj:S'.j=S.j)(PG:TI T S' (t++MemOp.ofEvents (T.m0+i) g.frame.fn g.frame.place es))(agF:S'.OK T)(Oa:S'.own 0=S.own 0)(acp:∀k,k≠i->S'.own (T.m0+k)=S.own (T.m0+k))(acr:∀k,k≠i->S'.rc k=S.rc k)(Y6:∀k,k≠i->S'.cl k=S.cl k)(cR:∀z b,S'.own z b->b<w'.heap.size)(ew:w.heap.size<=w'.heap.size)(acs:dU T (S.own 0) w w')(Sm:∀k,k<S.j->k≠i->di T k (S.own (T.m0+k)) (S.rc k) w w')(pA:dU T (λ_=>False) w w')(PH:rI T S.j w w')(IC:∀k,(S.cl k).isSome=true->(S'.cl k).isSome=true)(PI:Lh P T V fH i (S'.own (T.m0+i)) (S'.rc i) S'.cl d' ld' g' w')(acu:S'.cl i=S.cl i\/(mayWake P g=true/\g'.status=.running))(XG:∀k,k<T.n->∃s r tm,w'.heap[T.ch k]?=so (.chan 0 #[] (S'.cl k).isSome s r tm))(Y7:∀i k,S'.rc i k->(S'.cl k).isSome=true)(hrel:d'.stage<=6->∃r,T.T0<=r/\RelBy (stA T.Wg) (t++MemOp.ofEvents (T.m0+i) g.frame.fn g.frame.place es) (T.m0+i) r/\∀i' a,r<i'->(t++MemOp.ofEvents (T.m0+i) g.frame.fn g.frame.place es).g? i'=so (T.m0+i)->touchAt (t++MemOp.ofEvents (T.m0+i) g.frame.fn g.frame.place es) i'=so a->uJ (λb=>b=T.Wg) a.loc/\a.kind=.atomic)(acv:deafBehind (D i).deaf es=d'.deaf)(L9:∀e∈es,e.loc≠.mark (.release (stA T.Wg)))(pS:WgAt T.ty T.Wg w' st' sm')(kO:∀tag',(tag'=tag\/(tag=.blk/\tag'=.w3))->(mayWake P g=true->g'.status=.running->tag'≠.blk)->Go.ConcN.Mode S.j (upd D i d') tag' st' sm'):
  ∃ij tag' a' y',runT P (crowd gs w sl) (T.m0+i)=(.next (crowd ij w' sl),MemOp.ofEvents (T.m0+i) g.frame.fn g.frame.place es)/\(tag'=tag\/(tag=.blk/\tag'=.w3)) /\
   gK P T V fH cZ Fin t0 w0 ij w' (t++MemOp.ofEvents (T.m0+i) g.frame.fn g.frame.place es) S' (upd D i d') (upd (λk=>nt w' (x k)) (T.m0+i) ld') tag' a' y' st' sm'/\∀k,k≠T.m0+i->jz T (nt w' (x k)) (x k):=by
 have PK:=hT.m0;have XH:T.m0+i≠0:=aa;have Li:(T.m0+i==0)=false:=eW;obtain⟨tag',y',Lj,HW,Ma⟩:=h.L8.IT acs g g';have cG:=runT_crowd_go (P:=P) (sl:=sl) (i:=T.m0+i) hg (by rw[Li];exact hgo);have A7:T.m0+i<gs.size:=by rw[h.size];omega
 have hu:∀op∈MemOp.ofEvents (T.m0+i) g.frame.fn g.frame.place es,op.g=T.m0+i:=g_of_ofEvents;have Ll:∀k,k≠T.m0+i->Deaf (t++MemOp.ofEvents (T.m0+i) g.frame.fn g.frame.place es) k=Deaf t k:=λk hk=>Deaf_other t (bw hk) _ hu;have om:∀k,k<S.j->k≠i->jz T (nt w' (x (T.m0+k))) (x (T.m0+k))/\∃gk,gs[T.m0+k]?=so gk/\Lh P T V fH k (S'.own (T.m0+k)) (S'.rc k) S'.cl (D k) (nt w' (x (T.m0+k))) (woken P g g' w' gk) w':=by
  intro k hk PL;obtain⟨gk,h1,h2⟩:=h.wk k hk;obtain⟨h3,h4⟩:=h2.IT (cl':=S'.cl) hV (Sm k hk PL) (x:=g) (x':=g') (Y6 k PL) IC (λk' hn _=>by
   by_cases e:k'=i
   ·subst e;rcases acu with hw|hw
    ·exact .inl (hw.trans hn)
    ·exact .inr hw
   ·exact .inl ((Y6 k' e).trans hn)) (λk' hd=>XG k' (by have:=hT.dep k k' aa hd;omega))
  refine⟨h3,gk,h1,?_⟩;rw[acp k PL,acr k PL];exact h4
 refine⟨_,tag',woken P g g' w' a,y',cG,HW,?_,?_⟩
 ·refine⟨by simp[h.size,hj],?_,by rw[Oa];exact Lj,?_,λk k0 km=>?_,λk hk=>?_,λk hk=>?_,?_,λk hk=>?_,λk hk=>?_,PG,agF,cR,aS h.h0 ew,pS,by rw[hj];exact kO tag' HW Ma,XG,Y7,λk hk=>?_,λi' k hr=>?_,λk hk fe=>?_,vy h.norel L9,?_,?_,h.same.trans pA,by rw[hj];exact h.D6.trans PH,h.idle0⟩
  ·rw[qc _ _ _ _ XH,h.Ff];rfl
  ·rw[Ll 0 (bw XH),hj];have:=h.uN;rcases HW with rfl|⟨rfl,rfl⟩
   ·exact this
   ·exact this
  ·obtain⟨gk,q,h1,h2,h3⟩:=h.old k k0 km;have fu:T.m0+i≠k:=aa;refine⟨gk,q,by rw[qc _ _ _ _ fu,h1,aK,woken_quitsD h3],by rw[upd_ne _ _ (bw fu),h2];rfl,by rw[Ll k (bw fu)];exact h3⟩
  ·rw[hj]at hk;by_cases e:k=i
   ·subst e;exact⟨g',by simp[A7],by rw[upd_same,upd_same];exact PI⟩
   ·obtain⟨_,gk,h1,h2⟩:=om k hk e;have fu:T.m0+i≠T.m0+k:=aa;exact⟨_,by rw[qc _ _ _ _ fu,h1];rfl,by rw[upd_ne _ _ e,upd_ne _ _ (bw fu)];exact h2⟩
  ·rw[hj]at hk;rw[upd_ne _ _ aa,h.rest k hk];rfl
  ·rw[upd_ne _ _ (bw XH),h.zero];rfl
  ·rw[hj]at hk;by_cases e:k=i
   ·subst e;rw[Deaf_own,h.deafW k hk,upd_same];exact acv
   ·rw[Ll _ aa,h.deafW k hk,upd_ne _ _ e]
  ·have lY:gs.size<=k:=by simpa using hk
   rw[Ll k (by rw[h.size]at lY;omega)];exact h.above k lY
  ·rw[hj]at hk;rw[Y6 k aa];exact h.Y5 k hk
  ·rw[hj];by_cases e:i'=i
   ·subst e;exact hi
   ·rw[acr i' e]at hr;exact h.UU i' k hr
  ·rw[hj]at hk;by_cases e:k=i
   ·subst e;rw[upd_same]at fe;exact hrel fe
   ·rw[upd_ne _ _ e]at fe;exact sP (h.rel k hk fe) hu aa
  ·rw[hj];exact vz h.UT λz hz=>.inr (.inl ⟨i,hi,hu z hz⟩)
  ·obtain⟨U,hU⟩:=h.ext;exact⟨U++MemOp.ofEvents (T.m0+i) g.frame.fn g.frame.place es,by rw[hU,dN]⟩
 ·intro k hk;rcases bh k with rfl|oh
  ·rw[h.zero];exact rfl
  ·rcases cg k T.m0 with uO | XI
   ·obtain⟨gk,q,_,h2,_⟩:=h.old k oh uO;rw[h2];exact rfl
   ·rcases cg k (T.m0+S.j)with HN|Bs
    ·have:=(om (k-T.m0) aa aa).1;rw[show T.m0+(k-T.m0)=k by omega]at this;exact this
    ·rw[h.rest k Bs];exact rfl
end
end
section
open Go.ConcR (KK wgBlock WgAt stA smA rd wr mk Payload g_of_ofEvents loc_of_ofEvent)
variable [Payload]
section
variable {P:Program}{T:dv}{V:Nat->ae->Prop}{fH:Nat->(Nat->Prop)->ae->Prop}{cZ Fin:ft}{t0:Trace}{w0:ae}
 {gs:Array aY}{w w':ae}{t:Trace}{S S':ku}{D:Nat->WD}{x:Nat->mE}{tag:CTag}{a:aY}{y:kv}{st sm:Int}{sl:Option (Nat×Nat)}
theorem gK.Y8(hT:T.OK)(hV:kX T V fH)(h:gK P T V fH cZ Fin t0 w0 gs w t S D x tag a y st sm)(uM:S.j<=T.n){k:Nat}(k0:0<k)(km:k<T.m0){g:aY}(hg:gs[k]?=so g)(cG:g.status=.running):
  ∃ij tag' a' y' x' ops,runT P (crowd gs w sl) k=(.next (crowd ij w sl),ops)/\(tag'=tag\/(tag=.blk/\tag'=.w3)) /\
   gK P T V fH cZ Fin t0 w0 ij w (t++ops) S D x' tag' a' y' st sm/\oo P T V (x' k) (x k)/\∀k',k'≠k->jz T (x' k') (x k'):=by
 obtain⟨g1,q,h1,h2,h3⟩:=h.old k k0 km;rw[hg]at h1;cases h1;obtain⟨q',g',es,hm,fe,hq⟩:∃q' g' es,(∀e∈es,Event.mute e=true)/\(∀w,stepG P false g w=.go g' w es)/\QuitsD P q' (deafBehind (Deaf t k) es) g'/\q=q'+1:=by
  cases q with
  |zero=>rw[h3.1]at cG;cases cG
  |succ q' =>
   rcases h3 with⟨hf,_⟩|⟨_,g',es,hm,fe,hq⟩
   ·rw[hf]at cG;cases cG
   ·exact⟨q',g',es,hm,fe,hq,rfl⟩
 obtain⟨hq,rfl⟩:=hq;have Li:(k==0)=false:=eW;have Lc:k≠0:=aa;have uK:=runT_crowd_go (P:=P) (sl:=sl) (i:=k) hg (by rw[Li];exact fe w);obtain⟨tag',y',Lj,HW,Ma⟩:=h.L8.IT (dU.refl w) g g';have hu:∀op∈MemOp.ofEvents k g.frame.fn g.frame.place es,op.g=k:=g_of_ofEvents;have hn:∀op∈MemOp.ofEvents k g.frame.fn g.frame.place es,op.act.touch?=none:=λop fD=>by obtain⟨e,he,rfl⟩:=Go.Conc.mem_ofEvents fD;exact touch_mute (hm e he)
 have Ll:∀k',k'≠k->Deaf (t++MemOp.ofEvents k g.frame.fn g.frame.place es) k'=Deaf t k':=λk' hk=>Deaf_other t (bw hk) _ hu;have A7:k<gs.size:=(aI.1 hg).1;have om:∀i,i<S.j->jz T (nt w (x (T.m0+i))) (x (T.m0+i))/\∃gk,gs[T.m0+i]?=so gk/\Lh P T V fH i (S.own (T.m0+i)) (S.rc i) S.cl (D i) (nt w (x (T.m0+i))) (woken P g g' w gk) w:=by
  intro i hi;obtain⟨gk,h1,h2⟩:=h.wk i hi;obtain⟨h3,h4⟩:=h2.IT (cl':=S.cl) hV (di.refl w) (x:=g) (x':=g') rfl (λ_ hk=>hk) (λk' hn _=>.inl hn) (λk' hd=>h.chan k' (by have:=hT.dep i k' aa hd;omega));exact⟨h3,gk,h1,h4⟩
 refine⟨_,tag',woken P g g' w a,y',upd (λk=>nt w (x k)) k (.inr q'),_,uK,HW,?_,?_,?_⟩
 ·refine⟨by simp[h.size],?_,Lj,?_,λk' k0' km'=>?_,λi hi=>?_,λk' lY=>?_,?_,λi hi=>?_,λk' lY=>?_,h.ti.mute hu hn,h.tR,h.lt,h.h0,h.wg,h.mode.retag HW,h.chan,h.UX,h.Y5,h.UU,λi hi fe=>sP (h.rel i hi fe) hu aa,vy h.norel λe he hl=>?_,vz h.UT λz hz=>.inr (.inr (hn z hz)),?_,h.same,h.D6,h.idle0⟩
  ·rw[qc _ _ _ _ Lc,h.Ff];rfl
  ·rw[Ll 0 (bw Lc)];have:=h.uN;rcases HW with rfl|⟨rfl,rfl⟩
   ·exact this
   ·exact this
  ·by_cases e:k'=k
   ·subst e;exact⟨g',q',by simp[A7],by rw[upd_same],by rw[Deaf_own];exact hq⟩
   ·obtain⟨gk,q,h1,h2,h3⟩:=h.old k' k0' km';exact⟨gk,q,by rw[qc _ _ _ _ (bw e),h1,aK,woken_quitsD h3],by rw[upd_ne _ _ e,h2];rfl,by rw[Ll k' e];exact h3⟩
  ·obtain⟨_,gk,h1,h2⟩:=om i hi;have fu:k≠T.m0+i:=aa;exact⟨_,by rw[qc _ _ _ _ fu,h1];rfl,by rw[upd_ne _ _ (bw fu)];exact h2⟩
  ·rw[upd_ne _ _ aa,h.rest k' lY];rfl
  ·rw[upd_ne _ _ (bw Lc),h.zero];rfl
  ·rw[Ll _ aa];exact h.deafW i hi
  ·have XJ:gs.size<=k':=by simpa using lY
   rw[Ll k' aa];exact h.above k' XJ
  ·have:=hm e he;obtain⟨loc,qC,sy⟩:=e;simp only at hl;subst hl;simp[Event.mute]at this
  ·obtain⟨U,hU⟩:=h.ext;exact⟨U++MemOp.ofEvents k g.frame.fn g.frame.place es,by rw[hU,dN]⟩
 ·rw[upd_same,h2];exact bK _
 ·intro k' lY;rw[upd_ne _ _ lY];rcases bh k' with rfl|oh
  ·rw[h.zero];exact rfl
  ·rcases cg k' T.m0 with uO | XI
   ·obtain⟨gk,q,_,h2,_⟩:=h.old k' oh uO;rw[h2];exact rfl
   ·rcases cg k' (T.m0+S.j)with HN|Bs
    ·have:=(om (k'-T.m0) aa).1;rw[show T.m0+(k'-T.m0)=k' by omega]at this;exact this
    ·rw[h.rest k' Bs];exact rfl
theorem gK.Sn(h:gK P T V fH cZ Fin t0 w0 gs w t S D x tag a y st sm)(p c:Nat):partners (gs.setIfInBounds p ph) c true=[]:=by
 refine partners_nil λj g hg=>?_;rcases getElem?_stand gs p j g hg with⟨_,rfl⟩|⟨_,GC⟩
 ·exact offersAt_ph c true
 ·have cR:j<T.m0+S.j:=by have:=(aI.1 GC).1;rw[h.size]at this;exact this
  rcases bh j with rfl|oh
  ·rw[h.Ff]at GC;cases GC;by_cases hb:tag=.blk
   ·subst hb;obtain⟨a0,h1,h2,_⟩:=h.L8;have ho:=(h2 w (dU.refl w)).2.1;rw[h1];simp[offersAt,ho]
   ·have hs:=h.L8;rw[kD.eq hb]at hs;exact offersAt_of_not_blocked (by rw[hs.1.running λo g w hh=>nK hh];simp) c true
  ·rcases cg j T.m0 with hj|hj
   ·obtain⟨g1,q,h1,_,h3⟩:=h.old j oh hj;rw[GC]at h1;cases h1;exact offersAt_of_not_blocked (by rcases h3.status with e|e<;>rw[e]<;>simp) c true
   ·obtain⟨g1,h1,h2⟩:=h.wk (j-T.m0) aa;rw[show T.m0+(j-T.m0)=j by omega,GC]at h1;cases h1;rcases h2 with⟨_,_,_,g0,tr,_,h5,h6⟩|⟨_,_,_,C,v,_,h5,_⟩
    ·rcases h6 with⟨h6,_⟩|⟨_,k,z,f,_,_,⟨h9,_⟩|⟨h9,_⟩⟩
     ·rw[h6];exact offersAt_of_not_blocked (by rw[h5.look.1];simp) c true
     ·rw[h9];exact offersAt_parked_recv' _ _ _ _ _
     ·rw[h9];exact offersAt_of_not_blocked aj c true
    ·exact offersAt_of_not_blocked (by rcases h5.status with e|e<;>rw[e]<;>simp) c true
theorem gK.put(h:gK P T V fH cZ Fin t0 w0 gs w t S D x tag a y st sm)(PK:0<T.m0){i:Nat}(hi:i<S.j){g':aY}{ld':mE}{u:Trace}(hj:S'.j=S.j)(fo:S'.own=S.own)(fG:S'.cl=S.cl)(PC:∀k,k≠i->S'.rc k=S.rc k)(Y7:∀i k,S'.rc i k->(S.cl k).isSome=true)(PG:TI T S' (t++u))(hu:∀op∈u,op.g=T.m0+i)(hq:∀op∈u,∀m,op.act≠.mark m)(h7:(D i).stage=7)(PI:Lh P T V fH i (S.own (T.m0+i)) (S'.rc i) S.cl (D i) ld' g' w):
  gK P T V fH cZ Fin t0 w0 (gs.setIfInBounds (T.m0+i) g') w (t++u) S' D (upd x (T.m0+i) ld') tag a y st sm:=by
 have A7:T.m0+i<gs.size:=by rw[h.size];omega
 have XH:T.m0+i≠0:=aa;have Vu:∀k,Deaf (t++u) k=Deaf t k:=λk=>Deaf_still t k u λop fD=>⟨hq op fD _,hq op fD _⟩;refine⟨by simp[h.size,hj],?_,by rw[fo];exact h.L8,by rw[Vu,hj];exact h.uN,λk k0 km=>?_,λk hk=>?_,λk hk=>?_,?_,λk hk=>?_,λk hk=>?_,PG,?_,λz b hb=>h.lt z b (by rw[<- fo];exact hb),h.h0,h.wg,by rw[hj];exact h.mode,by rw[fG];exact h.chan,by rw[fG];exact Y7,by rw[hj,fG];exact h.Y5,λi' k hr=>?_,λk hk fe=>?_,λk hk e=>?_,?_,?_,h.same,by rw[hj];exact h.D6,h.idle0⟩
 ·rw[aQ XH];exact h.Ff
 ·obtain⟨gk,q,h1,h2,h3⟩:=h.old k k0 km;exact⟨gk,q,by rw[aQ aa];exact h1,by rw[upd_ne _ _ aa];exact h2,by rw[Vu];exact h3⟩
 ·rw[hj]at hk;by_cases e:k=i
  ·subst e;exact⟨g',by simp[A7],by rw[upd_same,fo,fG];exact PI⟩
  ·obtain⟨gk,h1,h2⟩:=h.wk k hk;exact⟨gk,by rw[aQ aa];exact h1,by rw[upd_ne _ _ aa,fo,fG,PC k e];exact h2⟩
 ·rw[hj]at hk;rw[upd_ne _ _ aa];exact h.rest k hk
 ·rw[upd_ne _ _ (bw XH)];exact h.zero
 ·rw[hj]at hk;rw[Vu];exact h.deafW k hk
 ·rw[Vu];exact h.above k (by simpa using hk)
 ·exact⟨λz b hb=>h.tR.new z b (by rw[<- fo];exact hb),λz z' b h1 h2=>h.tR.one z z' b (by rw[<- fo];exact h1) (by rw[<- fo];exact h2),λz b hb=>by rw[hj];exact h.tR.mem z b (by rw[<- fo];exact hb)⟩
 ·rw[hj];by_cases e:i'=i
  ·subst e;exact hi
  ·rw[PC i' e]at hr;exact h.UU i' k hr
 ·rw[hj]at hk;have PL:k≠i:=by rintro rfl;omega
  exact sP (h.rel k hk fe) hu aa
 ·obtain⟨op,ho,XF⟩:=aH.1 e;rcases getElem?_append_cases ho with⟨cR,p6⟩|⟨_,Sl⟩
  ·exact h.norel k hk (by rw[act?_of p6,XF])
  ·exact hq op Sl _ XF
 ·rw[hj];exact vz h.UT λz hz=>.inr (.inl ⟨i,hi,hu z hz⟩)
 ·obtain⟨U,hU⟩:=h.ext;exact⟨U++u,by rw[hU,dN]⟩
end
end
section
open Go.ConcR (KK wgBlock WgAt stA smA rd wr mk Payload g_of_ofEvents loc_of_ofEvent)
variable [Payload]
def Ct(P:Program)(T:dv)(V:Nat->ae->Prop)(p:Nat)(S S':ku)(D D':Nat->WD)(tag tag':CTag)(x x':Nat->mE):Prop :=
 p9 T S' D' tag'<p9 T S D tag\/(p9 T S' D' tag'=p9 T S D tag/\oo P T V (x' p) (x p)/\∀k,k≠p->jz T (x' k) (x k))
section
variable {P:Program}{T:dv}{V:Nat->ae->Prop}{fH:Nat->(Nat->Prop)->ae->Prop}{cZ Fin:ft}{t0:Trace}{w0:ae}
 {gs:Array aY}{w w':ae}{t:Trace}{S S':ku}{D:Nat->WD}{x:Nat->mE}{tag:CTag}{a:aY}{y:kv}{st sm:Int}{sl:Option (Nat×Nat)}
theorem Cu{α:Type}(f:Nat->α)(i:Nat):upd f i (f i)=f:=by
 funext k;by_cases e:k=i
 ·subst e;rw[upd_same]
 ·rw[upd_ne _ _ e]
theorem PM{i:Nat}{o rc:Nat->Prop}{es:Array Event}(h:∀e∈es,NZ T i o rc e)(d:Nat):deafBehind d es=d:=deafBehind_still (λe he=>⟨(h e he).2.1,(h e he).2.2.1⟩) d
theorem IU{i:Nat}(hT:T.OK)(hS:S.OK T)(hi:i<S.j)(hh:T.H0<=w.heap.size)(hl:∀z b,S.own z b->b<w.heap.size):({S with own:=upd S.own (T.m0+i) (grow (S.own (T.m0+i)) w w')}:ku).OK T:=by
 have key:∀z b,(upd S.own (T.m0+i) (grow (S.own (T.m0+i)) w w')) z b->S.own z b\/(z=T.m0+i/\w.heap.size<=b):=by
  intro z b hb;by_cases e:z=T.m0+i
  ·subst e;rw[upd_same]at hb;exact hb.imp id λhh=>⟨rfl,hh.1⟩
  ·rw[upd_ne _ _ e]at hb;exact .inl hb
 refine⟨λz b hb=>?_,λz z' b h1 h2=>?_,λz b hb=>?_⟩
 ·rcases key z b hb with h|⟨_,h⟩
  ·exact hS.new z b h
  ·omega
 ·rcases key z b h1 with h1|⟨e1,h1⟩<;>rcases key z' b h2 with h2|⟨e2,h2⟩
  ·exact hS.one z z' b h1 h2
  ·have:=hl z b h1;omega
  ·have:=hl z' b h2;omega
  ·rw[e1,e2]
 ·rcases key z b hb with h|⟨e,_⟩
  ·exact hS.mem z b h
  ·exact .inr ⟨i,hi,e⟩
theorem Fg{tag':CTag}(hs:tag'=tag\/(tag=.blk/\tag'=.w3)):p9 T S D tag'=p9 T S D tag:=by simp only[p9,phi_retag _ _ hs]
theorem gK.Vw(hT:T.OK)(hV:kX T V fH)(h:gK P T V fH cZ Fin t0 w0 gs w t S D x tag a y st sm)(uM:S.j<=T.n){i:Nat}(hi:i<S.j){g g0 g':aY}{es:Array Event}{tr:Bool}(hg:gs[T.m0+i]?=so g)(fG:S.cl i=we)(h7:(D i).stage=7)(D3:(D i).deaf=0)(hx:x (T.m0+i)=.inl (i,⟨g0,S.own (T.m0+i),S.rc i,w⟩,tr))(agG:stepG P false g0 w=.go g' w' es)(hgo:stepG P false g w=.go g' w' es)(Lm:L3 T i (S.own (T.m0+i)) w w')(jg:∀e∈es,NZ T i (grow (S.own (T.m0+i)) w w') (S.rc i) e)(IV:iA P T i V (En P T fH i) ⟨g',grow (S.own (T.m0+i)) w w',S.rc i,w'⟩):
  ∃ij w' S' D' x' tag' a' y' st' sm' ops,runT P (crowd gs w sl) (T.m0+i)=(.next (crowd ij w' sl),ops)/\S'.j=S.j/\gK P T V fH cZ Fin t0 w0 ij w' (t++ops) S' D' x' tag' a' y' st' sm'/\Ct P T V (T.m0+i) S S' D D' tag tag' x x':=by
 have pz:i<T.n:=aa;have hoH:∀b,S.own (T.m0+i) b->T.H0<=b:=λb hb=>h.tR.new _ b hb;have nch:∀k,k<T.n->w'.heap[T.ch k]?=w.heap[T.ch k]?:=λk hk=>Lm.rest _ (by have:=(hT.ch k hk).1;have:=h.h0;omega) (λhb=>by have:=hoH _ hb;have:=(hT.ch k hk).1;omega) (λhs=>(hT.sh _ hs).2.2 k hk rfl);have Y9:w'.heap[T.Wg]?=w.heap[T.Wg]?:=Lm.rest _ (by have:=hT.wg;have:=h.h0;omega) (λhb=>by have:=hoH _ hb;have:=hT.wg;omega) (λhs=>(hT.sh _ hs).2.1 rfl);have agH:∀k,¬S.rc k i:=λk hk=>by have:=h.UX k i hk;rw[fG]at this;cases this
 have A8:∀z,z≠T.m0+i->∀b,S.own z b->T.H0<=b/\b<w.heap.size/\¬S.own (T.m0+i) b:=λz hz b hb=>⟨h.tR.new z b hb,h.lt z b hb,λnD=>hz (h.tR.one _ _ _ hb nD)⟩;have PK:=hT.m0;have PG:TI T {S with own:=upd S.own (T.m0+i) (grow (S.own (T.m0+i)) w w')} (t++MemOp.ofEvents (T.m0+i) g.frame.fn g.frame.place es):=by
  refine(h.ti.grow (own':=upd S.own (T.m0+i) (grow (S.own (T.m0+i)) w w')) λz b hb=>?_).app hT (IU hT h.tR hi h.h0 h.lt) (x:=T.m0+i) (.inr ⟨i,hi,rfl⟩) g_of_ofEvents λop fD b hb hm=>?_
  ·by_cases e:z=T.m0+i
   ·subst e;rw[upd_same];exact .inl hb
   ·rw[upd_ne _ _ e];exact hb
  ·obtain⟨e,he,rfl⟩:=Go.Conc.mem_ofEvents fD;rcases(jg e he).1 b hb hm with⟨c,h1,h2⟩|h1|⟨k,h1,h2,h3⟩|h1
   ·exact .inr (.inl ⟨c,by simp only[upd_same];exact h1,h2⟩)
   ·exact .inr (.inr (.inl ⟨i,rfl,h1,fG⟩))
   ·exact .inr (.inr (.inr (.inl ⟨i,k,rfl,h1,h2,h3⟩)))
   ·exact .inr (.inr (.inr (.inr h1)))
 obtain⟨ij,tag',a',y',r1,r2,r3,r4⟩:=gK.worker (sl:=sl) hT hV h hi uM hg hgo (S':={S with own:=upd S.own (T.m0+i) (grow (S.own (T.m0+i)) w w')}) (d':=D i) (ld':=.inl (i,⟨g',grow (S.own (T.m0+i)) w w',S.rc i,w'⟩,false)) (st':=st) (sm':=sm) rfl PG (IU hT h.tR hi h.h0 h.lt)
  (by simp only;rw[upd_ne _ _ aa]) (λk hk=>by simp only;rw[upd_ne _ _ aa]) (λ_ _=>rfl) (λ_ _=>rfl)
  (λz b hb=>by
   simp only at hb;by_cases e:z=T.m0+i
   ·subst e;rw[upd_same]at hb;rcases hb with hb|hb
    ·exact bf (h.lt _ b hb) Lm.size
    ·exact hb.2
   ·rw[upd_ne _ _ e]at hb;exact bf (h.lt _ b hb) Lm.size)
  Lm.size (Lm.L4 hT h.h0 hoH (A8 0 aa)) (λk hk PL=>Lm.Cr hT PL aa h.h0 hoH (A8 _ aa) (agH k)) (Lm.L4 hT h.h0 hoH (λ_ hb=>hb.elim)) (Lm.keep hT hi) (λ_ hk=>hk)
  (.inl ⟨fG,h7,D3,g',false,by simp only[upd_same],by simp only[upd_same];exact IV,.inl ⟨rfl,rfl⟩⟩) (.inl rfl) (λk hk=>by rw[nch k hk];exact h.chan k hk) h.UX (λh6=>aa) (by rw[PM jg]) (λe he=>(jg e he).2.2.2 _) (h.wg.of_block Y9)
  (λtag' ht _=>by rw[Cu];exact h.mode.retag ht)
 refine⟨ij,w',{S with own:=upd S.own (T.m0+i) (grow (S.own (T.m0+i)) w w')},upd D i (D i),_,tag',a',y',st,sm,_,r1,rfl,r3,.inr ⟨?_,?_,λk hk=>by rw[upd_ne _ _ hk];exact r4 k hk⟩⟩
 ·rw[Cu];show p9 T {S with own:=upd S.own (T.m0+i) (grow (S.own (T.m0+i)) w w')} D tag'=p9 T S D tag;rw[<- Fg (T:=T) (S:=S) (D:=D) r2];rfl
 ·rw[upd_same,hx];obtain⟨s,r,tm,hc⟩:=h.chan i pz;rw[fG]at hc;exact⟨rfl,.inl (.inl ⟨w,es,s,r,tm,di.refl w,agG,rfl,rfl,hc,nch i pz⟩)⟩
theorem gK.PN(hT:T.OK)(hV:kX T V fH)(h:gK P T V fH cZ Fin t0 w0 gs w t S D x tag a y st sm)(uM:S.j<=T.n){i:Nat}(hi:i<S.j){g g':aY}(hg:gs[T.m0+i]?=so g)(fG:S.cl i=we)(h7:(D i).stage=7)(D3:(D i).deaf=0){s r:Nat}{tm:Bool}(hc:w.heap[T.ch i]?=so (.chan 0 #[] false s r tm))(hgo:stepG P false g w=.go g' (w.setChan (T.ch i) 0 #[] true s r tm) (iv (T.ch i)))(hmw:mayWake P g=true)(Sp:g'.status=.running)(hVi:V i w)(hE:En P T fH i (S.own (T.m0+i)) g' (w.setChan (T.ch i) 0 #[] true s r tm)):
  ∃ij w' S' D' x' tag' a' y' st' sm' ops,runT P (crowd gs w sl) (T.m0+i)=(.next (crowd ij w' sl),ops)/\S'.j=S.j/\gK P T V fH cZ Fin t0 w0 ij w' (t++ops) S' D' x' tag' a' y' st' sm'/\Ct P T V (T.m0+i) S S' D D' tag tag' x x':=by
 have pz:i<T.n:=aa;have PK:=hT.m0;have hh:=p8 w (T.ch i) s r tm;have ew:(w.setChan (T.ch i) 0 #[] true s r tm).heap.size=w.heap.size:=by simp[World.setChan]
 have cR:T.ch i<w.heap.size:=(aI.1 hc).1;obtain⟨C,v,m,e1,e2,e3⟩:=hE;have Sq:MemOp.ofEvents (T.m0+i) g.frame.fn g.frame.place (iv (T.ch i))=#[{g:=T.m0+i,fn:=g.frame.fn,pos:=g.frame.place,act:=.access ⟨.obj (T.ch i),false,true⟩}]++#[{g:=T.m0+i,fn:=g.frame.fn,pos:=g.frame.place,act:=.close (T.ch i)}]:=by rw[ofEvents_eq];simp[MemAct.ofEvent,iv]
 have PG:TI T {S with cl:=upd S.cl i (so (t.size+1))} (t++MemOp.ofEvents (T.m0+i) g.frame.fn g.frame.place (iv (T.ch i))):=by
  rw[Sq,<- dN];have hd1:Deaf (t++#[({g:=T.m0+i,fn:=g.frame.fn,pos:=g.frame.place,act:=.access ⟨.obj (T.ch i),false,true⟩}:MemOp)]) (T.m0+i)=0:=by
   have:=Deaf_own t (T.m0+i) g.frame.fn g.frame.place #[⟨.obj (T.ch i),false,true⟩];rw[h.deafW i hi,D3]at this;simpa[MemOp.ofEvents,MemAct.ofEvent,deafBehind] using this
  have h1:TI T S (t++#[({g:=T.m0+i,fn:=g.frame.fn,pos:=g.frame.place,act:=.access ⟨.obj (T.ch i),false,true⟩}:MemOp)]):=by
   refine h.ti.app hT h.tR (x:=T.m0+i) (.inr ⟨i,hi,rfl⟩) (λop fD=>by simp at fD;rw[fD]) λop fD b hb hm=>?_;simp at fD;subst fD;simp only[MemAct.touch?,ay]at hb;subst hb;refine .inr (.inr (.inr (.inr ⟨⟨λb hb=>?_,λk hk=>?_,hT.Sg i pz⟩,rfl⟩)))
   ·have:T.ch i=b:=hb;subst this;exact hT.ch i pz
   ·obtain⟨a',e,_⟩:=hT.ownSh k _ hk;cases e
  have h2:=h1.close hi fG (z:={g:=T.m0+i,fn:=g.frame.fn,pos:=g.frame.place,act:=.close (T.ch i)}) rfl rfl hd1;simpa using h2
 have ji:∀a,T.kM i (.cell a)->(w.setChan (T.ch i) 0 #[] true s r tm).cell? a=w.cell? a:=λa ha=>by
  obtain⟨a',e,hs⟩:=hT.ownSh i _ ha;cases e;exact cell_of (hh _ (bw ((hT.sh _ hs).2.2 i pz)))
 obtain⟨ij,tag',a',y',r1,r2,r3,r4⟩:=gK.worker (sl:=sl) hT hV h hi uM hg hgo (S':={S with cl:=upd S.cl i (so (t.size+1))}) (d':=⟨7,m,0⟩) (ld':=.inr m) (st':=st) (sm':=sm) rfl PG ⟨h.tR.new,h.tR.one,h.tR.mem⟩
  rfl (λ_ _=>rfl) (λ_ _=>rfl) (λk hk=>by simp only;rw[upd_ne _ _ hk]) (λz b hb=>by rw[ew];exact h.lt z b hb) (cF ew.symm) (Cs hT pz (λb hb=>h.tR.new _ b hb))
  (λk hk PL=>L5 hT aa PL pz (λb hb=>h.tR.new _ b hb) hc) (Cs hT pz (λ_ hb=>hb.elim)) (rI.Cq hT λb hb=>hh b (bw ((hT.sh b hb).2.2 i pz)))
  (λk hk=>by
   simp only;by_cases e:k=i
   ·subst e;rw[upd_same];rfl
   ·rw[upd_ne _ _ e];exact hk)
  (.inr ⟨by simp only;rw[upd_same];rfl,rfl,hV.v i w _ ji hVi,C,v,e1,.r0 e2,e3⟩) (.inr ⟨hmw,Sp⟩)
  (λk hk=>by
   by_cases e:k=i
   ·subst e;exact⟨s,r,tm,by simp[World.setChan,cR,upd_same]⟩
   ·obtain⟨s',r',tm',lY⟩:=h.chan k hk;exact⟨s',r',tm',by simp only;rw[upd_ne _ _ e,hh _ (λx=>e (hT.yr _ _ hk pz x))];exact lY⟩)
  (λi' k hk=>by
   simp only;by_cases e:k=i
   ·subst e;rw[upd_same];rfl
   ·rw[upd_ne _ _ e];exact h.UX i' k hk)
  (λh6=>by simp at h6) (by rw[D3];simp[deafBehind,iv]) (λe he=>by simp[iv]at he;rcases he with rfl|rfl<;>simp) (h.wg.of_block (hh _ (bw (hT.ch i pz).2)))
  (λtag' ht _=>by
   have:=h.mode.same (i:=i) m 0;rw[h7]at this;exact this.retag ht)
 refine⟨ij,_,{S with cl:=upd S.cl i (so (t.size+1))},upd D i ⟨7,m,0⟩,_,tag',a',y',st,sm,_,r1,rfl,r3,.inl ?_⟩;have ev:=Vc_upd D (⟨7,m,0⟩:WD) hi;have es:=sumTo_upd D (⟨7,m,0⟩:WD) WD.stage hi;have el:=sumTo_upd S.cl (so (t.size+1)) (λc=>if c=we then 1 else 0) hi;have c1:cnt (D i)=1:=by simp[cnt,h7]
 have c2:cnt (⟨7,m,0⟩:WD)=1:=rfl;have hv:Vc S.j (upd D i ⟨7,m,0⟩)=Vc S.j D:=aa;simp only[fG,if_true,h7]at el es;have hl:nJ {S with cl:=upd S.cl i (so (t.size+1))}+1=nJ S:=by
  simp only[nJ];simpa using el
 simp only[p9];rw[hv,phi_retag _ _ r2];simp only[Ssum]at *;omega
end
end
section
open Go.ConcR (KK wgBlock WgAt stA smA rd wr mk Payload g_of_ofEvents loc_of_ofEvent)
variable [Payload]
section
variable {P:Program}{T:dv}{V:Nat->ae->Prop}{fH:Nat->(Nat->Prop)->ae->Prop}{cZ Fin:ft}{t0:Trace}{w0:ae}
 {gs:Array aY}{w w':ae}{t:Trace}{S S':ku}{D:Nat->WD}{x:Nat->mE}{tag:CTag}{a:aY}{y:kv}{st sm:Int}{sl:Option (Nat×Nat)}
theorem gK.Sr(hT:T.OK)(h:gK P T V fH cZ Fin t0 w0 gs w t S D x tag a y st sm)(uM:S.j<=T.n){i:Nat}(hi:i<S.j){g g0:aY}{tr:Bool}(hg:gs[T.m0+i]?=so g)(fG:S.cl i=we)(h7:(D i).stage=7)(D3:(D i).deaf=0)(hx:x (T.m0+i)=.inl (i,⟨g0,S.own (T.m0+i),S.rc i,w⟩,tr))(IV:iA P T i V (En P T fH i) ⟨g0,S.own (T.m0+i),S.rc i,w⟩){k:Nat}{z:Value}{f:Bool}(hk:T.dep i k)(hcm:∀w1,di T i (S.own (T.m0+i)) (S.rc i) w w1->stepG P false g0 w1=.comm g0 #[rcase (T.ch k) z] true (.recv f) w1 #[])(qw:∀w1,di T i (S.own (T.m0+i)) (S.rc i) w w1->V k w1->iA P T i V (En P T fH i) ⟨Go.Conc.served g0 (recvd f z false),S.own (T.m0+i),λb=>S.rc i b\/b=k,w1⟩)(hgg:stepG P false g w=stepG P false g0 w)(wK:S.cl k=we->tr=false):
  ∃ij w' S' D' x' tag' a' y' st' sm' ops,runT P (crowd gs w sl) (T.m0+i)=(.next (crowd ij w' sl),ops)/\S'.j=S.j/\gK P T V fH cZ Fin t0 w0 ij w' (t++ops) S' D' x' tag' a' y' st' sm'/\Ct P T V (T.m0+i) S S' D D' tag tag' x x':=by
 have pz:i<T.n:=aa;have PL:=hT.dep i k pz hk;have IP:k<T.n:=aa;have PK:=hT.m0;have Li:(T.m0+i==0)=false:=eW;have fe:stepG P (T.m0+i==0) g w=.comm g0 #[rcase (T.ch k) z] true (.recv f) w #[]:=by rw[Li,hgg];exact hcm w (di.refl w)
 have e0:MemOp.ofEvents (T.m0+i) g.frame.fn g.frame.place #[]=#[]:=by rw[ofEvents_eq];simp
 obtain⟨s,r,tm,hc⟩:=h.chan k IP;cases HX:S.cl k with
 |none =>
  rw[HX]at hc;have cG:=crowd_waits (P:=P) (sl:=sl) hg fe (λcc LD=>by simp at LD;subst LD;exact ways_recv_none hc (h.Sn _ _));rw[e0]at cG;have uP:=h.put PK hi (S':=S) (g':=parked g0 #[rcase (T.ch k) z] (.recv f)) (ld':=.inl (i,⟨g0,S.own (T.m0+i),S.rc i,w⟩,true)) (u:=#[]) rfl rfl rfl (λ_ _=>rfl) h.UX (by simpa using h.ti) aj aj h7
   (.inl ⟨fG,h7,D3,g0,true,rfl,IV,.inr ⟨rfl,k,z,f,hk,hcm,.inl ⟨rfl,HX⟩⟩⟩)
  refine⟨_,w,S,D,_,tag,a,y,st,sm,#[],cG,rfl,uP,.inr ⟨rfl,?_,λk' lY=>by rw[upd_ne _ _ lY];exact jz.refl _⟩⟩;rw[upd_same,hx,wK HX];exact⟨rfl,.inr ⟨rfl,rfl,rfl,rfl,rfl,di.refl w⟩⟩
 |some p =>
  rw[HX]at hc;have cG:=crowd_recv_closed (P:=P) (sl:=sl) hg fe hc (h.Sn _ _);rw[e0,finishComm_recv]at cG;have hkj:k<S.j:=aa;have hVk:V k w:=by
   obtain⟨gk,_,h2⟩:=h.wk k hkj;rcases h2 with⟨h3,_⟩|⟨_,_,h3,_⟩
   ·rw[HX]at h3;cases h3
   ·exact h3
  have erc:({S with rc:=λa b=>S.rc a b\/(a=i/\b=k)}:ku).rc i=λb=>S.rc i b\/b=k:=by funext b;simp
  have PG:=h.ti.recv (i:=i) HX (z:={g:=T.m0+i,fn:=g0.frame.fn,pos:=g0.frame.place,act:=.recvClosed (T.ch k)}) rfl rfl (by rw[h.deafW i hi,D3]);have uP:=h.put PK hi (S':={S with rc:=λa b=>S.rc a b\/(a=i/\b=k)}) (g':=Go.Conc.served g0 (recvd f z false)) (ld':=.inl (i,⟨Go.Conc.served g0 (recvd f z false),S.own (T.m0+i),λb=>S.rc i b\/b=k,w⟩,false))
   (u:=#[{g:=T.m0+i,fn:=g0.frame.fn,pos:=g0.frame.place,act:=.recvClosed (T.ch k)}]) rfl rfl rfl (λk' lY=>by funext b;simp[lY])
   (λi' k' hr=>by
    rcases hr with hr|⟨_,rfl⟩
    ·exact h.UX i' k' hr
    ·rw[HX];rfl) PG (λop fD=>by simp at fD;rw[fD]) (λop fD m=>by simp at fD;rw[fD];simp) h7
   (.inl ⟨fG,h7,D3,Go.Conc.served g0 (recvd f z false),false,by rw[erc],by rw[erc];exact qw w (di.refl w) hVk,.inl ⟨rfl,rfl⟩⟩)
  have eo:(#[]:Array MemOp)++#[({g:=T.m0+i,fn:=g0.frame.fn,pos:=g0.frame.place,act:=.recvClosed (T.ch k)}:MemOp)]=#[{g:=T.m0+i,fn:=g0.frame.fn,pos:=g0.frame.place,act:=.recvClosed (T.ch k)}]:=aj;rw[eo]at cG;refine⟨_,w,{S with rc:=λa b=>S.rc a b\/(a=i/\b=k)},D,_,tag,a,y,st,sm,_,cG,rfl,uP,.inr ⟨rfl,?_,λk' lY=>by rw[upd_ne _ _ lY];exact jz.refl _⟩⟩;rw[upd_same,hx];obtain⟨s',r',tm',hci⟩:=h.chan i pz;rw[fG]at hci;exact⟨rfl,.inl (.inr ⟨k,z,f,hk,di.refl w,hVk,hcm w (di.refl w),rfl,rfl,rfl,s',r',tm',hci⟩)⟩
theorem gK.Ss(hT:T.OK)(hV:kX T V fH)(h:gK P T V fH cZ Fin t0 w0 gs w t S D x tag a y st sm)(uM:S.j<=T.n){i:Nat}(hi:i<S.j){g:aY}(hg:gs[T.m0+i]?=so g)(cG:g.status=.running)(fG:S.cl i=we):
  ∃ij w' S' D' x' tag' a' y' st' sm' ops,runT P (crowd gs w sl) (T.m0+i)=(.next (crowd ij w' sl),ops)/\S'.j=S.j/\gK P T V fH cZ Fin t0 w0 ij w' (t++ops) S' D' x' tag' a' y' st' sm'/\Ct P T V (T.m0+i) S S' D D' tag tag' x x':=by
 have pz:i<T.n:=aa;obtain⟨g1,e1,hw⟩:=h.wk i hi;rw[hg]at e1;cases e1;rcases hw with⟨_,h7,D3,g0,tr,hx,IV,Oc⟩|⟨h1,_⟩
 ·have XK:g0.status=.running:=IV.look.1;have hgg:stepG P false g w=stepG P false g0 w:=by
   rcases Oc with⟨rfl,_⟩|⟨_,k,z,f,_,_,⟨rfl,_⟩|⟨rfl,_⟩⟩
   ·rfl
   ·cases cG
   ·rw[stepG_tries]
    congr 1
    obtain⟨fr,cs,stt,dy,of⟩:=g0;simp only at XK;subst XK;rfl
  obtain⟨_,h1|⟨k,z,f,h1,h2,h3⟩|⟨hmw,h1⟩⟩:=IV.look
  ·obtain⟨g',w',es,e1,e2,e3,e4⟩:=h1 w (di.refl w);exact h.Vw hT hV uM hi hg fG h7 D3 hx e1 (hgg.trans e1) e2 e3 e4
  ·refine h.Sr hT uM hi hg fG h7 D3 hx IV h1 h2 h3 hgg λHX=>?_;rcases Oc with⟨_,ht⟩|⟨_,k',z',f',Vx,agK,⟨rfl,_⟩|⟨_,rJ⟩⟩
   ·exact ht
   ·cases cG
   ·exfalso;have ea:=h2 w (di.refl w);have eb:=agK w (di.refl w);simp only at ea;rw[ea]at eb;simp only[GStep.comm.injEq,Array.mk.injEq,bT,rcase,CommCase.mk.injEq,Value.chan.injEq,ay,and_true,true_and,CommShape.recv.injEq]at eb;have k1:=hT.dep i k pz h1;have k2:=hT.dep i k' pz Vx;obtain rfl:=hT.yr k k' aa aa eb.1.1;rw[HX]at rJ;cases rJ
  ·obtain⟨s,r,tm,hc⟩:=h.chan i pz;rw[fG]at hc;obtain⟨g',e1,e2,e3,e4⟩:=h1 w (di.refl w) s r tm hc;refine h.PN hT hV uM hi hg fG h7 D3 hc (hgg.trans e1) ?_ e2 e3 e4;rcases Oc with⟨rfl,_⟩|⟨_,k,z,f,_,_,⟨rfl,_⟩|⟨rfl,_⟩⟩
   ·exact hmw
   ·cases cG
   ·exact hmw
 ·rw[fG]at h1;cases h1
end
end
section
open Go.ConcR (KK wgBlock WgAt stA smA rd wr mk Payload DC0 Bk bk_of_mute g_of_ofEvents loc_of_ofEvent ofEvent_loc_mark)
variable [Payload]
structure Za(T:dv)(S:ku)(i C:Nat)(w w':ae):Prop where
 L4:dU T (S.own 0) w w'
 Cr:∀k,k<S.j->k≠i->di T k (S.own (T.m0+k)) (S.rc k) w w'
 same:dU T (λ_=>False) w w'
 D6:rI T S.j w w'
 size:w'.heap.size=w.heap.size
 chan:∀k,k<T.n->w'.heap[T.ch k]?=w.heap[T.ch k]?
 cells:∀a,T.kM i (.cell a)->w'.cell? a=w.cell? a
 own:∀b,S.own (T.m0+i) b->b≠C->w'.heap[b]?=w.heap[b]?
section
variable {P:Program}{T:dv}{V:Nat->ae->Prop}{fH:Nat->(Nat->Prop)->ae->Prop}{cZ Fin:ft}{t0:Trace}{w0:ae}
 {gs:Array aY}{w w':ae}{t:Trace}{S S':ku}{D:Nat->WD}{x:Nat->mE}{tag:CTag}{a:aY}{y:kv}{st sm:Int}{sl:Option (Nat×Nat)}
theorem Od(hT:T.OK)(hS:S.OK T)(uM:S.j<=T.n){i C:Nat}(h:Aside T.Wg w w')(hl:WgLive T.ty T.Wg w'):Za T S i C w w':=by
 have fo:∀z b,S.own z b->b≠T.Wg:=λz b hb=>by have:=hS.new z b hb;have:=hT.wg;omega
 refine⟨yu hT (λb hb=>hS.new _ b hb) h hl,λk hk _=>N7 hT aa (λb hb=>hS.new _ b hb) h hl,yu hT (λ_ hb=>hb.elim) h hl,rI.Cq hT (λb hb=>h.block b (hT.sh b hb).2.1),h.size,λk hk=>h.block _ (hT.ch k hk).2,λa ha=>?_,λb hb _=>h.block b (fo _ b hb)⟩;obtain⟨a',e,hs⟩:=hT.ownSh i _ ha;cases e;exact cell_of (h.block _ (hT.sh _ hs).2.1)
theorem PO(hT:T.OK)(h:gK P T V fH cZ Fin t0 w0 gs w t S D x tag a y st sm)(uM:S.j<=T.n){i C:Nat}(hi:i<S.j)(hC:S.own (T.m0+i) C)(PC:∀k,S.rc k i->True)(Oe:AsideCell C 0 (1-1) w w'):Za T S i C w w'/\w'.heap[T.Wg]?=w.heap[T.Wg]?:=by
 have PK:=hT.m0;have hCH:=h.tR.new _ C hC;have old:∀b,b<T.H0->w'.heap[b]?=w.heap[b]?:=λb hb=>Oe.block b aa;have hg:Pz T (λb=>b=C) w w':=⟨cF Oe.size.symm,λb _ hb=>Oe.block b hb,Oe.os,Oe.output⟩;have Mc:∀z,z≠T.m0+i->∀b,S.own z b->b≠C:=λz hz b hb e=>hz (h.tR.one _ _ _ hb (e▸hC));refine⟨⟨⟨hg.size,λb hb=>Oe.block b (Mc 0 aa b hb),λb h1 _ _ _=>old b h1,gW (old _ hT.wg),Oe.os,Oe.output⟩,λk hk PL=>hg.Cr hT aa h.h0 (λb hb=>by rw[hb];exact hCH) (λb hb=>⟨h.tR.new _ b hb,h.lt _ b hb,Mc _ aa b hb⟩),⟨hg.size,λ_ hb=>hb.elim,λb h1 _ _ _=>old b h1,gW (old _ hT.wg),Oe.os,Oe.output⟩,
  rI.Cq hT (λb hb=>old b (hT.sh b hb).1),Oe.size,λk hk=>old _ (hT.ch k hk).1,λa ha=>?_,λb _ hb=>Oe.block b hb⟩,old _ hT.wg⟩
 obtain⟨a',e,hs⟩:=hT.ownSh i _ ha;cases e;exact cell_of (old _ (hT.sh _ hs).1)
theorem Md{i:Nat}(hi:i<S.j){d':WD}{tag':CTag}{x':Nat->mE}(hs:tag'=tag\/(tag=.blk/\tag'=.w3))(h1:d'.stage<(D i).stage)(h2:cnt d'<=cnt (D i)):Ct P T V (T.m0+i) S S D (upd D i d') tag tag' x x':=by
 left;have e1:=sumTo_upd D d' cnt hi;have e2:=sumTo_upd D d' WD.stage hi;simp only[p9];rw[phi_retag _ _ hs];simp only[Vc,Ssum]at *;have:=phi_mono T.n (v':=sumTo S.j λa=>cnt (upd D i d' a)) (v:=sumTo S.j λa=>cnt (D a)) aa tag;omega
theorem PQ{i:Nat}(hi:i<S.j){m':Nat}{dd:Nat}{tag':CTag}{x':Nat->mE}(hs:tag'=tag\/(tag=.blk/\tag'=.w3))(hx:x (T.m0+i)=.inr (D i).fuel)(p7:x' (T.m0+i)=.inr m')(hm:m'<(D i).fuel)(ho:∀k,k≠T.m0+i->jz T (x' k) (x k)):
  Ct P T V (T.m0+i) S S D (upd D i ⟨(D i).stage,m',dd⟩) tag tag' x x':=by
 refine .inr ⟨?_,by rw[hx,p7];exact hm,ho⟩;have e1:=sumTo_upd D (⟨(D i).stage,m',dd⟩:WD) cnt hi;have e2:=sumTo_upd D (⟨(D i).stage,m',dd⟩:WD) WD.stage hi;have ec:cnt (⟨(D i).stage,m',dd⟩:WD)=cnt (D i):=rfl;simp only[p9];rw[phi_retag _ _ hs];have ev:Vc S.j (upd D i ⟨(D i).stage,m',dd⟩)=Vc S.j D:=by simp only[Vc]at *;omega
 have mQ:Ssum S.j (upd D i ⟨(D i).stage,m',dd⟩)=Ssum S.j D:=by simp only[Ssum]at *;omega
 rw[ev,mQ]
theorem Cv{z:Nat}{fn:FuncId}{pos:String}{es:Array Event}(h:∀e∈es,Bk T.Wg e):∀op∈MemOp.ofEvents z fn pos es,∀b,op.act.touch?=so b->b.loc.isMemory=true->yt T S z b:=by
 intro op fD b hb _;obtain⟨e,he,rfl⟩:=Go.Conc.mem_ofEvents fD;rcases h e he with h1|h1|⟨a,qC,rfl,ha⟩
 ·simp only[ofEvent_loc_mark h1]at hb;cases hb
 ·simp only[ofEvent_loc_mark h1]at hb;cases hb
 ·simp only[ofEvent_cell0,MemAct.touch?,ay]at hb;subst hb;exact .inl ⟨ha,aj,aj⟩
theorem Su{i d:Nat}(h:∃r,T.T0<=r/\RelBy (stA T.Wg) t (T.m0+i) r/\∀i' a,r<i'->t.g? i'=so (T.m0+i)->touchAt t i'=so a->uJ (λb=>b=T.Wg) a.loc/\a.kind=.atomic)(Zb:Deaf t (T.m0+i)=d)(fn:FuncId)(pos:String){es:Array Event}(IH:∀e∈es,Bk T.Wg e)(hd:∀j e,es[j]?=so e->(MemAct.ofEvent e).touch?=we\/0<deafBehind d (es.extract 0 j)):
  ∃r,T.T0<=r/\RelBy (stA T.Wg) (t++MemOp.ofEvents (T.m0+i) fn pos es) (T.m0+i) r/\∀i' a,r<i'->(t++MemOp.ofEvents (T.m0+i) fn pos es).g? i'=so (T.m0+i)->touchAt (t++MemOp.ofEvents (T.m0+i) fn pos es) i'=so a->uJ (λb=>b=T.Wg) a.loc/\a.kind=.atomic:=by
 obtain⟨r,h1,h2,h3⟩:=h;refine⟨r,h1,h2.book Zb fn pos IH hd,λi' a mn NY hta=>?_⟩;obtain⟨z,hz,vX⟩:=touch_of hta;rcases getElem?_append_cases hz with⟨cR,D2⟩|⟨_,HU⟩
 ·exact h3 i' a mn (by rw[<- g?_old (u:=MemOp.ofEvents (T.m0+i) fn pos es) cR];exact NY) (by rw[touchAt_of D2];exact vX)
 ·obtain⟨e,he,rfl⟩:=Go.Conc.mem_ofEvents HU;rcases IH e he with k1|k1|⟨ad,qC,rfl,ha⟩
  ·simp only[ofEvent_loc_mark k1]at vX;cases vX
  ·simp only[ofEvent_loc_mark k1]at vX;cases vX
  ·simp only[ofEvent_cell0,MemAct.touch?,ay]at vX;subst vX;exact⟨ha,rfl⟩
theorem gK.Sw(hT:T.OK)(hV:kX T V fH)(hn:T.n<2147483648)(h:gK P T V fH cZ Fin t0 w0 gs w t S D x tag a y st sm)(uM:S.j<=T.n){i:Nat}(hi:i<S.j){g:aY}(hg:gs[T.m0+i]?=so g)(cG:g.status=.running)(fG:(S.cl i).isSome=true)(ajh:Vc S.j D+pend tag<=T.n):
  ∃ij w' S' D' x' tag' a' y' st' sm' ops,runT P (crowd gs w sl) (T.m0+i)=(.next (crowd ij w' sl),ops)/\S'.j=S.j/\gK P T V fH cZ Fin t0 w0 ij w' (t++ops) S' D' x' tag' a' y' st' sm'/\Ct P T V (T.m0+i) S S' D D' tag tag' x x':=by
 have pz:i<T.n:=aa;obtain⟨g1,e1,hw⟩:=h.wk i hi;rw[hg]at e1;cases e1;rcases hw with⟨h1,_⟩|⟨_,hx,hVi,C,v,hC,hs,qP⟩
 ·rw[h1]at fG;cases fG
 have hVj:=Vc_le S.j D;have step:∀{g':aY} {w':ae} {es:Array Event} {d':WD} {st' sm':Int},stepG P false g w=.go g' w' es->Za T S i C w w'->WgAt T.ty T.Wg w' st' sm'->TI T S (t++MemOp.ofEvents (T.m0+i) g.frame.fn g.frame.place es) ->
   WSit P T.ty T.Wg C 0 rU rU 0 1 v d'.stage d'.fuel d'.deaf g' w'->deafBehind (D i).deaf es=d'.deaf->(∀e∈es,e.loc≠.mark (.release (stA T.Wg))) ->
   (d'.stage<=6->∃r,T.T0<=r/\RelBy (stA T.Wg) (t++MemOp.ofEvents (T.m0+i) g.frame.fn g.frame.place es) (T.m0+i) r/\∀i' a,r<i'->(t++MemOp.ofEvents (T.m0+i) g.frame.fn g.frame.place es).g? i'=so (T.m0+i)->touchAt (t++MemOp.ofEvents (T.m0+i) g.frame.fn g.frame.place es) i'=so a->uJ (λb=>b=T.Wg) a.loc/\a.kind=.atomic) ->
   (∀tag',(tag'=tag\/(tag=.blk/\tag'=.w3))->(mayWake P g=true->g'.status=.running->tag'≠.blk)->Go.ConcN.Mode S.j (upd D i d') tag' st' sm') ->
   ((d'.stage<(D i).stage/\cnt d'<=cnt (D i))\/(d'.stage=(D i).stage/\d'.fuel<(D i).fuel)) ->
   ∃ij w' S' D' x' tag' a' y' st' sm' ops,runT P (crowd gs w sl) (T.m0+i)=(.next (crowd ij w' sl),ops)/\S'.j=S.j/\gK P T V fH cZ Fin t0 w0 ij w' (t++ops) S' D' x' tag' a' y' st' sm'/\Ct P T V (T.m0+i) S S' D D' tag tag' x x':=by
  intro g' w' es d' st' sm' hgo Ln IW PG rJ hdd hnr acz Cw cR;obtain⟨ij,tag',a',y',r1,r2,r3,r4⟩:=gK.worker (sl:=sl) hT hV h hi uM hg hgo (S':=S) (d':=d') (ld':=.inr d'.fuel) (st':=st') (sm':=sm') rfl PG h.tR rfl (λ_ _=>rfl) (λ_ _=>rfl) (λ_ _=>rfl) (λz b hb=>by rw[Ln.size];exact h.lt z b hb) (cF Ln.size.symm) Ln.L4 Ln.Cr Ln.same Ln.D6 (λ_ hk=>hk)
   (.inr ⟨fG,rfl,hV.v i w w' Ln.cells hVi,C,v,hC,rJ,hV.val i _ w w' Ln.cells (λb hb=>Ln.own b hb.1 hb.2) qP⟩) (.inl rfl) (λk hk=>by rw[Ln.chan k hk];exact h.chan k hk) h.UX acz hdd hnr IW Cw
  refine⟨ij,w',S,upd D i d',_,tag',a',y',st',sm',_,r1,rfl,r3,?_⟩;rcases cR with⟨q1,q2⟩|⟨q1,q2⟩
  ·exact Md hi r2 q1 q2
  ·have e:d'=⟨(D i).stage,d'.fuel,d'.deaf⟩:=by rw[<- q1]
   rw[e];exact PQ hi r2 hx (by rw[<- e,upd_same]) q2 (λk hk=>by rw[upd_ne _ _ hk];exact r4 k hk)
 have Zb:=h.deafW i hi;generalize fe:(D i).stage=s at hs step;generalize XL:(D i).fuel=m at hs step;generalize hde:(D i).deaf=dd at hs step;rw[hde]at Zb;have aji:(MemOp.ofEvents (T.m0+i) g.frame.fn g.frame.place #[])=#[]:=by rw[ofEvents_eq];simp
 have book:∀{g':aY} {w':ae} {es:Array Event} {s' m' dd':Nat} {st' sm':Int},stepG P false g w=.go g' w' es->Aside T.Wg w w'->WgAt T.ty T.Wg w' st' sm'->(∀e∈es,Bk T.Wg e) ->
   (∀jx e,es[jx]?=so e->(MemAct.ofEvent e).touch?=we\/0<deafBehind dd (es.extract 0 jx))->WSit P T.ty T.Wg C 0 rU rU 0 1 v s' m' dd' g' w'->deafBehind dd es=dd'->s<=6 ->
   (∀tag',(tag'=tag\/(tag=.blk/\tag'=.w3))->(mayWake P g=true->g'.status=.running->tag'≠.blk)->Go.ConcN.Mode S.j (upd D i ⟨s',m',dd'⟩) tag' st' sm')->((s'<s/\cnt ⟨s',m',dd'⟩<=cnt (D i))\/(s'=s/\m'<m)) ->
   ∃ij w' S' D' x' tag' a' y' st' sm' ops,runT P (crowd gs w sl) (T.m0+i)=(.next (crowd ij w' sl),ops)/\S'.j=S.j/\gK P T V fH cZ Fin t0 w0 ij w' (t++ops) S' D' x' tag' a' y' st' sm'/\Ct P T V (T.m0+i) S S' D D' tag tag' x x':=by
  intro g' w' es s' m' dd' st' sm' hgo Zc IW fP hd rJ hdd h6 Cw cR;exact step (d':=⟨s',m',dd'⟩) hgo (Od hT h.tR uM Zc ⟨_,_,IW⟩) IW (h.ti.app hT h.tR (x:=T.m0+i) (.inr ⟨i,hi,rfl⟩) g_of_ofEvents (Cv fP)) rJ hdd (λe he=>norel_of_Bk fP e he)
   (λ_=>Su (h.rel i hi aa) Zb _ _ fP hd) Cw cR
 have idle:∀{g':aY} {m':Nat},stepG P false g w=.go g' w #[]->WSit P T.ty T.Wg C 0 rU rU 0 1 v s m' dd g' w->m'<m->s<=6 ->
   ∃ij w' S' D' x' tag' a' y' st' sm' ops,runT P (crowd gs w sl) (T.m0+i)=(.next (crowd ij w' sl),ops)/\S'.j=S.j/\gK P T V fH cZ Fin t0 w0 ij w' (t++ops) S' D' x' tag' a' y' st' sm'/\Ct P T V (T.m0+i) S S' D D' tag tag' x x':=by
  intro g' m' hgo rJ hm h6;exact book hgo (.refl T.Wg w) h.wg aj aj rJ rfl h6 (λtag' ht _=>by have:=h.mode.same (i:=i) m' dd;rw[fe]at this;exact this.retag ht) (.inr ⟨rfl,hm⟩)
 cases hs with
 |r0 uQ =>
  rcases Goes.cases uQ with pY|⟨m',rfl,iW⟩
  ·obtain⟨_,_,g',hgo,m₂,hk⟩:=pY w (RW.refl w);refine step (d':=⟨6,m₂,0⟩) hgo (Od hT h.tR uM (.refl T.Wg w) ⟨_,_,h.wg⟩) h.wg (h.ti.mute (y:=T.m0+i) g_of_ofEvents λop fD=>?_) (.k1 hk) rfl (by intro e he;simp at he;subst he;simp[Go.ConcR.mk]) (λ_=>⟨t.size,h.ti.len,RelBy.new Zb _ _,λi' b mn _ htb=>?_⟩)
    (λtag' ht _=>(h.mode.counted hi aa (.inl rfl) _ _).retag ht) (.inl ⟨aj,by simp[cnt,fe]⟩)
   ·obtain⟨e,he,rfl⟩:=Go.Conc.mem_ofEvents fD;simp at he;subst he;rfl
   ·obtain⟨z,hz,_⟩:=touch_of htb;have:=lt_size_of_getElem? hz;rw[ofEvents_eq]at this;simp at this;omega
  ·obtain⟨g',w',es,hgo,⟨Oe,jg⟩,GC⟩:=iW w (RW.refl w);obtain⟨Ln,Y9⟩:=PO hT h uM hi hC (λ_ _=>trivial) Oe;refine step (d':=⟨7,m',0⟩) hgo Ln (h.wg.of_block Y9) (h.ti.app hT h.tR (x:=T.m0+i) (.inr ⟨i,hi,rfl⟩) g_of_ofEvents λop fD b hb hm=>?_) (.r0 GC) (deafBehind_idle (λe he=>⟨(jg e he).2.1,(jg e he).2.2.1⟩) 0) (λe he=>(jg e he).2.2.2) (λh6=>by simp at h6)
    (λtag' ht _=>by have:=h.mode.same (i:=i) m' 0;rw[fe]at this;exact this.retag ht) (.inr ⟨rfl,aj⟩)
   obtain⟨e,he,rfl⟩:=Go.Conc.mem_ofEvents fD;rcases((jg e he).1 g.frame.fn g.frame.place).2 b hb with⟨⟨ad,e1,e2⟩,h2,h3⟩|h2|⟨h2,_⟩
   ·refine .inl ⟨?_,h2,λe=>absurd e h3⟩;rw[e1];exact e2
   ·exact h2.elim
   ·exact h2.elim
 |k1 uQ =>
  rcases Goes.cases uQ with pY|⟨m',rfl,iW⟩
  ·obtain⟨_,g',hgo,m₂,hk⟩:=pY w (RW.refl w);exact book hgo (.refl T.Wg w) h.wg (by intro e he;simp at he;subst he;exact .inl rfl) (by intro jx e he;exact .inl (by have:=fI he;simp at this;subst this;rfl)) (.d1 hk) rfl aa
    (λtag' ht _=>(h.mode.counted hi aa (.inr rfl) _ _).retag ht) (.inl ⟨aa,by simp[cnt,fe]⟩)
  ·obtain⟨g',w',es,hgo,⟨rfl,rfl⟩,GC⟩:=iW w (RW.refl w);exact idle hgo (.k1 GC) aa aa
 |d1 uQ =>
  rcases Goes.cases uQ with pY|⟨m',rfl,iW⟩
  ·obtain⟨_,eP⟩:=pY w (RW.refl w);have Of:cnt (D i)=1:=by simp[cnt,fe]
   have XM:1<=Vc S.j D:=by have:=le_sumTo (f:=λx=>cnt (D x)) hi;simp only[Vc];omega
   have bk2:∀e∈#[rd (stA T.Wg),wr (stA T.Wg)],Bk T.Wg e:=bk_rw;have df2:∀jx e,(#[rd (stA T.Wg),wr (stA T.Wg)]:Array Event)[jx]?=so e->(MemAct.ofEvent e).touch?=we\/0<deafBehind 1 ((#[rd (stA T.Wg),wr (stA T.Wg)]:Array Event).extract 0 jx):=by
    intro jx e he
    match jx,he with
    |0,_=>exact .inr (by simp[deafBehind])
    |1,_=>exact .inr (by simp[deafBehind,rd])
    |jx+2,he=>simp at he
   have hq0:∀q,cnt (⟨1,q,1⟩:WD)=0:=λ_=>rfl;have opq:∀q,OpenSt S.j D->OpenSt S.j (upd D i ⟨1,q,1⟩):=λq hh b hb=>by
    by_cases e:b=i
    ·subst e;rw[upd_same];simp
    ·rw[upd_ne D _ e];exact hh b hb
   have kO:=h.mode;have pS:=h.wg;cases kO with
   |opn h1 h2 h3 =>
    obtain⟨n1,UY⟩:∃n1,Vc S.j D+pend tag=n1+1:=⟨Vc S.j D+pend tag-1,aa⟩;rw[UY]at pS;have sL:WgAt T.ty T.Wg w (((n1:Nat)+1)*KK+((0:Nat):Int)) 0:=by simpa using pS
    obtain⟨g',hgo,_,hq⟩:=eP n1 0 aa aa sL;obtain⟨q,hq⟩:=hq aa;have wM:Vc S.j (upd D i ⟨1,q,1⟩)+pend tag=n1:=by have:=Vc_upd D (⟨1,q,1⟩:WD) hi;have:=hq0 q;omega
    refine book hgo (aside_setCell w (stA T.Wg) _) (pS.setSt _) bk2 df2 (.quit hq) rfl aa (λtag' ht _=>Mode.retag ?_ ht) (.inl ⟨aa,by simp[cnt]⟩);have e:((n1:Nat):Int)*KK+((0:Nat):Int)=((Vc S.j (upd D i ⟨1,q,1⟩)+pend tag:Nat):Int)*KK:=by rw[wM];simp
    rw[e];exact .opn h1 (opq q h2) (λvs ev=>by have:=h3 vs ev;omega)
   |reg h1 h2 h3 =>
    obtain⟨n1,UY⟩:∃n1,Vc S.j D=n1+1:=⟨Vc S.j D-1,aa⟩;rw[UY]at pS;have sL:WgAt T.ty T.Wg w (((n1:Nat)+1)*KK+((1:Nat):Int)) 0:=by simpa using pS
    obtain⟨g',hgo,hl,hq⟩:=eP n1 1 aa aa sL;by_cases RV:n1=0
    ·subst RV;obtain⟨m₂,hk⟩:=hl ⟨rfl,rfl⟩;refine book hgo (aside_setCell w (stA T.Wg) _) (pS.setSt _) bk2 df2 (.d2 hk) rfl aa (λtag' ht _=>Mode.retag ?_ ht) (.inl ⟨aa,by simp[cnt]⟩);have A8:∀b,b<S.j->b≠i->(D b).stage=1:=λb hb e=>by
      have c0:=others_uncounted hi UY Of b hb e;have:=h2 b hb;simp only[cnt]at c0;split at c0<;>omega
     have:=Mode.last (j:=S.j) (D:=upd D i ⟨4,m₂,1⟩) (tag:=tag) i h1 hi (by rw[upd_same];simp) (λb hb e=>by rw[upd_ne D _ e];exact A8 b hb e);rw[upd_same]at this;simpa using this
    ·obtain⟨q,hq⟩:=hq aa;have wM:Vc S.j (upd D i ⟨1,q,1⟩)=n1:=by have:=Vc_upd D (⟨1,q,1⟩:WD) hi;have:=hq0 q;omega
     refine book hgo (aside_setCell w (stA T.Wg) _) (pS.setSt _) bk2 df2 (.quit hq) rfl aa (λtag' ht _=>Mode.retag ?_ ht) (.inl ⟨aa,by simp[cnt]⟩);have e:((n1:Nat):Int)*KK+((1:Nat):Int)=((Vc S.j (upd D i ⟨1,q,1⟩):Nat):Int)*KK+1:=by rw[wM];simp
     rw[e];exact .reg h1 (opq q h2) aa
   |last L _ h2 h3 h4 =>
    by_cases e:i=L
    ·subst e;omega
    ·have:=h4 i hi e;omega
   |sema h2=>have:=h2 i hi;omega
   |fin _ h2=>have:=h2 i hi;omega
  ·obtain⟨g',w',es,hgo,⟨rfl,rfl⟩,GC⟩:=iW w (RW.refl w);exact idle hgo (.d1 GC) aa aa
 |d2 uQ =>
  rcases Goes.cases uQ with pY|⟨m',rfl,iW⟩
  ·obtain⟨_,p7⟩:=pY w (RW.refl w);obtain⟨GD,A8,e1,e2⟩:=h.mode.isLast hi aa;have pS:=h.wg;rw[e1,e2]at pS;simp only[fe]at pS;have IX:WgAt T.ty T.Wg w 1 0:=by simpa using pS
   obtain⟨g',hgo,m₂,hk⟩:=p7 IX;refine book hgo (.refl T.Wg w) IX bk_rd (by intro jx e he;match jx,he with|0,_=>exact .inr (by simp[deafBehind])|jx+1,he=>simp at he) (.d3 hk) rfl aa (λtag' ht _=>Mode.retag ?_ ht) (.inl ⟨aa,by simp[cnt]⟩);have:=Mode.last (j:=S.j) (D:=upd D i ⟨3,m₂,1⟩) (tag:=tag) i GD hi (by rw[upd_same];simp) (λb hb e=>by rw[upd_ne D _ e];exact A8 b hb e);rw[upd_same]at this;simpa using this
  ·obtain⟨g',w',es,hgo,⟨rfl,rfl⟩,GC⟩:=iW w (RW.refl w);exact idle hgo (.d2 GC) aa aa
 |d3 uQ =>
  rcases Goes.cases uQ with pY|⟨m',rfl,iW⟩
  ·obtain⟨_,p7⟩:=pY w (RW.refl w);obtain⟨GD,A8,e1,e2⟩:=h.mode.isLast hi aa;have pS:=h.wg;rw[e1,e2]at pS;simp only[fe]at pS;have IX:WgAt T.ty T.Wg w 1 0:=by simpa using pS
   obtain⟨g',hgo,m₂,hk⟩:=p7 IX;refine book hgo (aside_setCell w (stA T.Wg) _) (IX.setSt 0) (by intro e he;simp at he;subst he;exact bk_cell _ _ rfl) (by intro jx e he;match jx,he with|0,_=>exact .inr (by simp[deafBehind])|jx+1,he=>simp at he) (.d4 hk) rfl aa (λtag' ht _=>Mode.retag ?_ ht) (.inl ⟨aa,by simp[cnt]⟩);have:=Mode.last (j:=S.j) (D:=upd D i ⟨2,m₂,1⟩) (tag:=tag) i GD hi (by rw[upd_same];simp) (λb hb e=>by rw[upd_ne D _ e];exact A8 b hb e);rw[upd_same]at this;simpa using this
  ·obtain⟨g',w',es,hgo,⟨rfl,rfl⟩,GC⟩:=iW w (RW.refl w);exact idle hgo (.d3 GC) aa aa
 |d4 uQ =>
  rcases Goes.cases uQ with pY|⟨m',rfl,iW⟩
  ·obtain⟨_,hmw,p7⟩:=pY w (RW.refl w);obtain⟨GD,A8,e1,e2⟩:=h.mode.isLast hi aa;have pS:=h.wg;rw[e1,e2]at pS;simp only[fe]at pS;have IX:WgAt T.ty T.Wg w 0 0:=by simpa using pS
   obtain⟨g',hgo,q,hq⟩:=p7 IX;have Sp:g'.status=.running:=by
    cases q with
    |zero=>exact absurd hq.2 iG
    |succ q=>exact hq.elim (λx=>absurd x.2 iG) (λx=>x.1)
   refine book hgo (aside_setCell w (smA T.Wg) _) (IX.setSm 1) (es:=semEvents (smA T.Wg)) bk_sem ?_ (.quit hq) (by simp[deafBehind,semEvents]) aa ?_ (.inl ⟨aa,by simp[cnt]⟩)
   ·intro jx e he
    match jx,he with
    |0,he=>simp[semEvents]at he;subst he;exact .inl rfl
    |1,_=>exact .inr (by simp[deafBehind,semEvents])
    |2,_=>exact .inr (by simp[deafBehind,semEvents])
    |3,he=>simp[semEvents]at he;subst he;exact .inl rfl
    |jx+4,he=>simp[semEvents]at he
   ·intro tag' ht hw;have Gt:=hw hmw Sp;have e3:tag'=.w3:=by
     rcases ht with rfl|⟨_,rfl⟩
     ·cases tag'<;>first|rfl|exact GD.elim|exact absurd rfl Gt
     ·rfl
    subst e3;exact .sema λb hb=>by
     by_cases e:b=i
     ·subst e;rw[upd_same]
     ·rw[upd_ne D _ e];exact A8 b hb e
  ·obtain⟨g',w',es,hgo,⟨rfl,rfl⟩,GC⟩:=iW w (RW.refl w);exact idle hgo (.d4 GC) aa aa
 |quit hq =>
  cases m with
  |zero=>rw[hq.1]at cG;cases cG
  |succ q =>
   rcases hq with⟨hf,_⟩|⟨_,g',es,XN,iW,Cm⟩
   ·rw[hf]at cG;cases cG
   ·have fP:∀e∈es,Bk T.Wg e:=λe he=>bk_of_mute (XN e he);refine book (iW w) (.refl T.Wg w) h.wg fP (λjx e he=>.inl (touch_mute (XN e (fI he)))) (.quit Cm) rfl aa (λtag' ht _=>by have:=h.mode.same (i:=i) q (deafBehind dd es);rw[fe]at this;exact this.retag ht) (.inr ⟨rfl,aa⟩)
end
end
section
open Go.ConcR (KK wgBlock WgAt stA smA rd wr mk Payload DC0 Bk g_of_ofEvents loc_of_ofEvent ofEvent_loc_mark)
variable [Payload]
section
variable {P:Program}{T:dv}{V:Nat->ae->Prop}{fH:Nat->(Nat->Prop)->ae->Prop}{cZ Fin:ft}{t0:Trace}{w0:ae}
 {gs:Array aY}{w w':ae}{t:Trace}{S S':ku}{D:Nat->WD}{x:Nat->mE}{tag:CTag}{a:aY}{y:kv}{st sm:Int}{sl:Option (Nat×Nat)}
theorem Sx(hT:T.OK)(hS:S.OK T){o':Nat->Prop}(hh:T.H0<=w.heap.size)(hl:∀z b,S.own z b->b<w.heap.size)(ho:∀b,o' b->S.own 0 b\/w.heap.size<=b):({S with own:=upd S.own 0 o'}:ku).OK T:=by
 have key:∀z b,(upd S.own 0 o') z b->S.own z b\/(z=0/\w.heap.size<=b):=by
  intro z b hb;by_cases e:z=0
  ·subst e;rw[upd_same]at hb;exact(ho b hb).imp id λhh=>⟨rfl,hh⟩
  ·rw[upd_ne _ _ e]at hb;exact .inl hb
 refine⟨λz b hb=>?_,λz z' b h1 h2=>?_,λz b hb=>?_⟩
 ·rcases key z b hb with h|⟨_,h⟩
  ·exact hS.new z b h
  ·omega
 ·rcases key z b h1 with h1|⟨e1,h1⟩<;>rcases key z' b h2 with h2|⟨e2,h2⟩
  ·exact hS.one z z' b h1 h2
  ·have:=hl z b h1;omega
  ·have:=hl z' b h2;omega
  ·rw[e1,e2]
 ·rcases key z b hb with h|⟨e,_⟩
  ·exact hS.mem z b h
  ·exact .inl e
theorem gK.main(hT:T.OK)(hV:kX T V fH)(h:gK P T V fH cZ Fin t0 w0 gs w t S D x tag a y st sm)(uM:S.j<=T.n){a':aY}{es:Array Event}(hgo:stepG P true a w=.go a' w' es){o':Nat->Prop}{tag':CTag}{y':kv}{st' sm':Int}(ho:∀b,S.own 0 b->o' b)(A6:∀b,o' b->S.own 0 b\/(w.heap.size<=b/\b<w'.heap.size))(Vr:∀op∈MemOp.ofEvents 0 a.frame.fn a.frame.place es,∀b,op.act.touch?=so b->b.loc.isMemory=true->yt T {S with own:=upd S.own 0 o'} 0 b)(ew:w.heap.size<=w'.heap.size)(Sm:∀k,k<S.j->di T k (S.own (T.m0+k)) (S.rc k) w w')(pA:dU T (λ_=>False) w w')(PH:rI T S.j w w')(IE:∀k,k<T.n->w'.heap[T.ch k]?=w.heap[T.ch k]?)(IY:kD P T V fH cZ Fin tag' o' a' w' y')(Zd:nk T.n tag' S.j (deafBehind (Deaf t 0) es))(L9:∀e∈es,e.loc≠.mark (.release (stA T.Wg)))(pS:WgAt T.ty T.Wg w' st' sm')(kO:Go.ConcN.Mode S.j D tag' st' sm'):
  ∃ij,runT P (crowd gs w sl) 0=(.next (crowd ij w' sl),MemOp.ofEvents 0 a.frame.fn a.frame.place es) /\
   gK P T V fH cZ Fin t0 w0 ij w' (t++MemOp.ofEvents 0 a.frame.fn a.frame.place es) {S with own:=upd S.own 0 o'} D (λk=>nt w' (x k)) tag' a' y' st' sm'/\∀k,jz T (nt w' (x k)) (x k):=by
 have PK:=hT.m0;have cG:=runT_crowd_go (P:=P) (sl:=sl) (i:=0) h.Ff (show stepG P (0==0) a w=_ from hgo);have A7:0<gs.size:=by rw[h.size];omega
 have hu:∀op∈MemOp.ofEvents 0 a.frame.fn a.frame.place es,op.g=0:=g_of_ofEvents;have Ll:∀k,k≠0->Deaf (t++MemOp.ofEvents 0 a.frame.fn a.frame.place es) k=Deaf t k:=λk hk=>Deaf_other t (bw hk) _ hu;have hso:=Sx hT h.tR h.h0 h.lt λb hb=>(A6 b hb).imp id λhh=>hh.1;have om:∀k,k<S.j->jz T (nt w' (x (T.m0+k))) (x (T.m0+k))/\∃gk,gs[T.m0+k]?=so gk/\Lh P T V fH k (S.own (T.m0+k)) (S.rc k) S.cl (D k) (nt w' (x (T.m0+k))) (woken P a a' w' gk) w':=by
  intro k hk;obtain⟨gk,h1,h2⟩:=h.wk k hk;obtain⟨h3,h4⟩:=h2.IT (cl':=S.cl) hV (Sm k hk) (x:=a) (x':=a') rfl (λ_ hk=>hk) (λk' hn _=>.inl hn) (λk' hd=>by
   have lY:k'<T.n:=by have:=hT.dep k k' aa hd;omega
   rw[IE k' lY];exact h.chan k' lY)
  exact⟨h3,gk,h1,h4⟩
 refine⟨_,cG,?_,?_⟩
 ·refine⟨by simp[h.size],by simp[A7],by simp only[upd_same];exact IY,by rw[Deaf_own];exact Zd,λk k0 km=>?_,λk hk=>?_,λk hk=>?_,?_,λk hk=>?_,λk hk=>?_,?_,hso,λz b hb=>?_,aS h.h0 ew,pS,kO,λk hk=>by rw[IE k hk];exact h.chan k hk,h.UX,h.Y5,h.UU,λk hk fe=>sP (h.rel k hk fe) hu aa,vy h.norel L9,vz h.UT λz hz=>.inl (hu z hz),?_,h.same.trans pA,h.D6.trans PH,h.idle0⟩
  ·obtain⟨gk,q,h1,h2,h3⟩:=h.old k k0 km;have fu:0≠k:=aa;exact⟨gk,q,by rw[qc _ _ _ _ fu,h1,aK,woken_quitsD h3],by rw[h2];rfl,by rw[Ll k (bw fu)];exact h3⟩
  ·obtain⟨_,gk,h1,h2⟩:=om k hk;have fu:0≠T.m0+k:=aa;exact⟨_,by rw[qc _ _ _ _ fu,h1];rfl,by simp only;rw[upd_ne _ _ (bw fu)];exact h2⟩
  ·rw[h.rest k hk];rfl
  ·rw[h.zero];rfl
  ·rw[Ll _ aa];exact h.deafW k hk
  ·have lY:gs.size<=k:=by simpa using hk
   rw[Ll k aa];exact h.above k lY
  ·refine(h.ti.grow (own':=upd S.own 0 o') λz b hb=>?_).app hT hso (x:=0) (.inl rfl) hu Vr;by_cases e:z=0
   ·subst e;rw[upd_same];exact ho b hb
   ·rw[upd_ne _ _ e];exact hb
  ·simp only at hb;by_cases e:z=0
   ·subst e;rw[upd_same]at hb;rcases A6 b hb with hb|hb
    ·exact bf (h.lt _ b hb) ew
    ·exact hb.2
   ·rw[upd_ne _ _ e]at hb;exact bf (h.lt _ b hb) ew
  ·obtain⟨U,hU⟩:=h.ext;exact⟨U++MemOp.ofEvents 0 a.frame.fn a.frame.place es,by rw[hU,dN]⟩
 ·intro k;rcases bh k with rfl|oh
  ·rw[h.zero];exact rfl
  ·rcases cg k T.m0 with uO | XI
   ·obtain⟨gk,q,_,h2,_⟩:=h.old k oh uO;rw[h2];exact rfl
   ·rcases cg k (T.m0+S.j)with HN|Bs
    ·have:=(om (k-T.m0) aa).1;rw[show T.m0+(k-T.m0)=k by omega]at this;exact this
    ·rw[h.rest k Bs];exact rfl
theorem IZ{gs:Array aY}(a' child:aY){k:Nat}(hk:k<gs.size)(h0:0≠k):((gs.setIfInBounds 0 a').push child)[k]?=gs[k]?:=by
 rw[dX,if_neg eW,aQ h0]
theorem PR{gs:Array aY}(a' child:aY):((gs.setIfInBounds 0 a').push child)[gs.size]?=so child:=by
 rw[dX,if_pos aj]
theorem gK.spawn(hT:T.OK)(h:gK P T V fH cZ Fin t0 w0 gs w t S D x tag a y st sm)(uM:S.j<T.n){a' child:aY}{hand:Nat->Prop}(xU:stepG P true a w=.spawn a' child w #[])(hh:∀b,hand b->S.own 0 b)(IV:iA P T S.j V (En P T fH S.j) ⟨child,hand,λ_=>False,w⟩)(D3:Deaf t 0=0){tag':CTag}{y':kv}(IY:kD P T V fH cZ Fin tag' (λb=>S.own 0 b/\¬hand b) a' w y')(Zd:nk T.n tag' (S.j+1) 0)(kO:Go.ConcN.Mode (S.j+1) (upd D S.j ⟨7,0,0⟩) tag' st sm):
  ∃ij S' x' ops,runT P (crowd gs w sl) 0=(.next (crowd ij w sl),ops)/\S'.j=S.j+1/\S'.cl=S.cl/\gK P T V fH cZ Fin t0 w0 ij w (t++ops) S' (upd D S.j ⟨7,0,0⟩) x' tag' a' y' st sm:=by
 have PK:=hT.m0;have cG:=runT_crowd_spawn (P:=P) (sl:=sl) (i:=0) h.Ff (show stepG P (0==0) a w=_ from xU);have tS:=h.size;have Sq:((MemOp.ofEvents 0 a.frame.fn a.frame.place #[]).push {g:=0,fn:=a.frame.fn,pos:=a.frame.place,act:=.go gs.size} |>.push {g:=gs.size,fn:=child.frame.fn,pos:=a.frame.place,act:=.start}) =
   #[({g:=0,fn:=a.frame.fn,pos:=a.frame.place,act:=.go (T.m0+S.j)}:MemOp),{g:=T.m0+S.j,fn:=child.frame.fn,pos:=a.frame.place,act:=.start}]:=by
  rw[ofEvents_eq,tS];simp
 rw[Sq]at cG;have UR:∀op∈#[({g:=0,fn:=a.frame.fn,pos:=a.frame.place,act:=.go (T.m0+S.j)}:MemOp),{g:=T.m0+S.j,fn:=child.frame.fn,pos:=a.frame.place,act:=.start}],op.act.touch?=we/\∀m,op.act≠.mark m:=by
  intro op fD;simp only[List.mem_toArray,bq,fi,or_false]at fD;rcases fD with rfl|rfl
  ·exact⟨rfl,λm=>aj⟩
  ·exact⟨rfl,λm=>aj⟩
 have Vu:∀k,Deaf (t++#[({g:=0,fn:=a.frame.fn,pos:=a.frame.place,act:=.go (T.m0+S.j)}:MemOp),{g:=T.m0+S.j,fn:=child.frame.fn,pos:=a.frame.place,act:=.start}]) k=Deaf t k:=λk=>Deaf_still t k _ λop fD=>⟨(UR op fD).2 _,(UR op fD).2 _⟩;have A7:0<gs.size:=by rw[tS];omega
 have fG:S.cl S.j=none:=h.Y5 _ (af _);have PC:S.rc S.j=λ_=>False:=by funext b;simp;exact λhb=>absurd (h.UU _ _ hb) (Nat.lt_irrefl _)
 have e1:∀z,z≠T.m0+S.j->z≠0->upd (upd S.own 0 (λb=>S.own 0 b/\¬hand b)) (T.m0+S.j) hand z=S.own z:=λz h1 h2=>by rw[upd_ne _ _ h1,upd_ne _ _ h2]
 have e2:upd (upd S.own 0 (λb=>S.own 0 b/\¬hand b)) (T.m0+S.j) hand 0=λb=>S.own 0 b/\¬hand b:=by rw[upd_ne _ _ aa,upd_same]
 have e3:upd (upd S.own 0 (λb=>S.own 0 b/\¬hand b)) (T.m0+S.j) hand (T.m0+S.j)=hand:=upd_same _ _ _;have key:∀z b,upd (upd S.own 0 (λb=>S.own 0 b/\¬hand b)) (T.m0+S.j) hand z b->(z=T.m0+S.j/\hand b)\/(z≠T.m0+S.j/\S.own z b/\(z=0->¬hand b)):=by
  intro z b hb;by_cases h1:z=T.m0+S.j
  ·subst h1;rw[e3]at hb;exact .inl ⟨rfl,hb⟩
  ·by_cases h2:z=0
   ·subst h2;rw[e2]at hb;exact .inr ⟨h1,hb.1,λ_=>hb.2⟩
   ·rw[e1 z h1 h2]at hb;exact .inr ⟨h1,hb,λe=>absurd e h2⟩
 have noj:∀b,¬S.own (T.m0+S.j) b:=λb hb=>by
  rcases h.tR.mem _ b hb with e|⟨i',mn,e⟩
  ·omega
  ·omega
 refine⟨_,{S with j:=S.j+1,own:=upd (upd S.own 0 (λb=>S.own 0 b/\¬hand b)) (T.m0+S.j) hand},upd x (T.m0+S.j) (.inl (S.j,⟨child,hand,λ_=>False,w⟩,false)),_,cG,rfl,rfl,?_⟩;refine⟨by simp[tS];omega,?_,by simp only;rw[e2];exact IY,by rw[Vu,D3];exact Zd,λk k0 km=>?_,λk hk=>?_,λk hk=>?_,?_,λk hk=>?_,λk hk=>?_,?_,⟨λz b hb=>?_,λz z' b h1 h2=>?_,λz b hb=>?_⟩,λz b hb=>?_,h.h0,h.wg,kO,h.chan,h.UX,λk hk=>h.Y5 k (by simp only at hk;omega),λi' k hr=>by have:=h.UU i' k hr;simp only;omega,λk hk fe=>?_,λk hk e=>?_,?_,?_,h.same,h.D6.mono (Nat.le_succ _),h.idle0⟩
 ·rw[dE (by simpa using A7),<- aO];simp[A7]
 ·obtain⟨gk,q,h1,h2,h3⟩:=h.old k k0 km;refine⟨gk,q,?_,by rw[upd_ne _ _ aa];exact h2,by rw[Vu];exact h3⟩;rw[IZ a' child (by rw[tS];omega) aa];exact h1
 ·simp only at hk |-;by_cases e:k=S.j
  ·subst e;refine⟨child,?_,.inl ⟨fG,by rw[upd_same],by rw[upd_same],child,false,by rw[upd_same,e3,PC],by rw[e3,PC];exact IV,.inl ⟨rfl,rfl⟩⟩⟩;rw[<- tS];exact PR a' child
  ·obtain⟨gk,h1,h2⟩:=h.wk k aa;refine⟨gk,?_,by rw[e1 _ aa aa,upd_ne D _ e,upd_ne x _ aa];exact h2⟩;rw[IZ a' child (by rw[tS];omega) aa];exact h1
 ·simp only at hk;rw[upd_ne _ _ aa];exact h.rest k aa
 ·rw[upd_ne _ _ aa];exact h.zero
 ·simp only at hk;rw[Vu];by_cases e:k=S.j
  ·subst e;rw[upd_same];exact h.above _ (by rw[tS];exact af _)
  ·rw[upd_ne _ _ e];exact h.deafW k aa
 ·rw[Vu];exact h.above k (by simp at hk;omega)
 ·exact h.ti.spawn (own':=upd (upd S.own 0 (λb=>S.own 0 b/\¬hand b)) (T.m0+S.j) hand) ⟨rfl,rfl⟩ ⟨rfl,rfl⟩ D3 (h.above _ (by rw[tS];exact af _)) λz b hb=>by
   by_cases h1:z=T.m0+S.j
   ·subst h1;exact absurd hb (noj b)
   ·by_cases h2:z=0
    ·subst h2;by_cases h3:hand b
     ·exact .inr ⟨rfl,by rw[e3];exact h3⟩
     ·exact .inl (by rw[e2];exact⟨hb,h3⟩)
    ·exact .inl (by rw[e1 z h1 h2];exact hb)
 ·rcases key z b hb with⟨_,h1⟩|⟨_,h1,_⟩
  ·exact h.tR.new 0 b (hh b h1)
  ·exact h.tR.new z b h1
 ·rcases key z b h1 with⟨k1,k2⟩|⟨k1,k2,k3⟩<;>rcases key z' b h2 with⟨l1,l2⟩|⟨l1,l2,l3⟩
  ·rw[k1,l1]
  ·have:=h.tR.one _ _ _ (hh b k2) l2;exact absurd k2 (l3 this.symm)
  ·have:=h.tR.one _ _ _ (hh b l2) k2;exact absurd l2 (k3 this.symm)
  ·exact h.tR.one _ _ _ k2 l2
 ·rcases key z b hb with⟨h1,_⟩|⟨_,h1,_⟩
  ·exact .inr ⟨S.j,bK _,h1⟩
  ·rcases h.tR.mem z b h1 with e|⟨i',mn,e⟩
   ·exact .inl e
   ·exact .inr ⟨i',Nat.lt_succ_of_lt mn,e⟩
 ·rcases key z b hb with⟨_,h1⟩|⟨_,h1,_⟩
  ·exact h.lt 0 b (hh b h1)
  ·exact h.lt z b h1
 ·simp only at hk;by_cases e:k=S.j
  ·subst e;rw[upd_same]at fe;simp at fe
  ·rw[upd_ne _ _ e]at fe;obtain⟨r,r1,r2,r3⟩:=h.rel k aa fe;refine⟨r,r1,r2.app λi' mn NY hc=>?_,λi' b mn NY hta=>?_⟩
   ·obtain⟨b,hb,_⟩:=hc;obtain⟨z,hz,vX⟩:=touch_of hb;rcases getElem?_append_cases hz with⟨cR,_⟩|⟨_,HU⟩
    ·omega
    ·rw[(UR z HU).1]at vX;cases vX
   ·obtain⟨z,hz,vX⟩:=touch_of hta;rcases getElem?_append_cases hz with⟨cR,D2⟩|⟨_,HU⟩
    ·refine r3 i' b mn ?_ (by rw[touchAt_of D2];exact vX);rw[<- NY];simp[Trace.g?,hz,D2]
    ·rw[(UR z HU).1]at vX;cases vX
 ·obtain⟨op,ho,XF⟩:=aH.1 e;rcases getElem?_append_cases ho with⟨cR,p6⟩|⟨_,Sl⟩
  ·exact h.norel k hk (by rw[act?_of p6,XF])
  ·exact(UR op Sl).2 _ XF
 ·exact vz (λi z hi hz=>(h.UT i z hi hz).imp id λhh=>hh.imp (λ⟨k,hk,e⟩=>⟨k,Nat.lt_succ_of_lt hk,e⟩) id) λz hz=>.inr (.inr (UR z hz).1)
 ·obtain⟨U,hU⟩:=h.ext;exact⟨U++#[({g:=0,fn:=a.frame.fn,pos:=a.frame.place,act:=.go (T.m0+S.j)}:MemOp),{g:=T.m0+S.j,fn:=child.frame.fn,pos:=a.frame.place,act:=.start}],by rw[hU,dN]⟩
end
end
section
open Go.ConcR (KK wgBlock WgAt stA smA rd wr mk Payload DC0 Bk g_of_ofEvents loc_of_ofEvent ofEvent_loc_mark)
variable [Payload]
def Og(P:Program)(T:dv)(S S':ku)(D D':Nat->WD)(tag tag':CTag)(x x':Nat->mE)(y y':kv):Prop :=
 p9 T S' D' tag'<p9 T S D tag\/(p9 T S' D' tag'=p9 T S D tag/\(∀k,jz T (x' k) (x k))/\nI P T y' y)
section
variable {P:Program}{T:dv}{V:Nat->ae->Prop}{fH:Nat->(Nat->Prop)->ae->Prop}{cZ Fin:ft}{t0:Trace}{w0:ae}
 {gs:Array aY}{w w':ae}{t:Trace}{S S':ku}{D:Nat->WD}{x:Nat->mE}{tag:CTag}{a:aY}{y:kv}{st sm:Int}{sl:Option (Nat×Nat)}
theorem nk.le{n:Nat}{tag:CTag}{j d:Nat}(h:nk n tag j d):j<=n:=by
 cases tag<;>simp only[nk]at h<;>omega
theorem nk.pend{n:Nat}{tag:CTag}{j d v:Nat}(h:nk n tag j d)(hv:v<=j):v+pend tag<=n:=by
 cases tag<;>simp only[nk,ConcN.pend]at h |-
 case sp r s=>split<;>omega
 all_goals omega
theorem kD.mk{tag:CTag}(fu:tag≠.blk){Stop:ft}{o:Nat->Prop}{a:aY}{w:ae}(h:du P T Stop o a w)(e:kW P T V fH cZ Fin tag=Stop):kD P T V fH cZ Fin tag o a w (.inl (Stop,⟨a,o,w⟩)):=by
 rw[kD.eq fu,e];exact⟨h,rfl⟩
theorem I0{o':Nat->Prop}{fn:FuncId}{pos:String}{es:Array Event}(h:∀e∈es,EvS T o' e):∀op∈MemOp.ofEvents 0 fn pos es,∀b,op.act.touch?=so b->b.loc.isMemory=true->yt T {S with own:=upd S.own 0 o'} 0 b:=by
 intro op fD b hb hm;obtain⟨e,he,rfl⟩:=Go.Conc.mem_ofEvents fD;rcases(h e he).1 b hb hm with⟨h1,h2⟩|⟨c,h1,h2⟩|h1
 ·exact .inl ⟨h1,h2,λ_=>rfl⟩
 ·exact .inr (.inl ⟨c,by simp only[upd_same];exact h1,h2⟩)
 ·exact .inr (.inr (.inr (.inr h1)))
theorem gK.Sy(hT:T.OK)(hV:kX T V fH)(hn:T.n<2147483648)(XO:∀o g w,cZ o g w->du P T (Rz P T cZ Fin) o g w)(h:gK P T V fH cZ Fin t0 w0 gs w t S D x tag a y st sm)(cG:a.status=.running):
  (tag=.acq/\∃g',stepG P true a w=.go g' w #[Go.ConcR.mk (.acquire (stA T.Wg))]/\Fin (S.own 0) g' w) \/
  ∃ij w' S' D' x' tag' a' y' st' sm' ops,runT P (crowd gs w sl) 0=(.next (crowd ij w' sl),ops)/\gK P T V fH cZ Fin t0 w0 ij w' (t++ops) S' D' x' tag' a' y' st' sm'/\Og P T S S' D D' tag tag' x x' y y':=by
 have PK:=hT.m0;have uM:=h.uN.le;have hVj:=Vc_le S.j D;have Oa:∀b,S.own 0 b->T.H0<=b:=λb hb=>h.tR.new 0 b hb;have Gt:tag≠.blk:=by
  rintro rfl;obtain⟨a0,h1,_⟩:=h.L8;rw[h1]at cG;cases cG
 have IY:=h.L8;rw[kD.eq Gt]at IY;obtain⟨hsr,hy⟩:=IY;have book:∀{a':aY} {w':ae} {es:Array Event} {tag':CTag} {y':kv} {st' sm':Int},stepG P true a w=.go a' w' es->Aside T.Wg w w'->WgAt T.ty T.Wg w' st' sm'->(∀e∈es,Bk T.Wg e)->kD P T V fH cZ Fin tag' (S.own 0) a' w' y' ->
   nk T.n tag' S.j (deafBehind (Deaf t 0) es)->Go.ConcN.Mode S.j D tag' st' sm'->(phi T.n (Vc S.j D) tag'<phi T.n (Vc S.j D) tag\/(phi T.n (Vc S.j D) tag'=phi T.n (Vc S.j D) tag/\nI P T y' y)) ->
   ∃ij w' S' D' x' tag' a' y' st' sm' ops,runT P (crowd gs w sl) 0=(.next (crowd ij w' sl),ops)/\gK P T V fH cZ Fin t0 w0 ij w' (t++ops) S' D' x' tag' a' y' st' sm'/\Og P T S S' D D' tag tag' x x' y y':=by
  intro a' w' es tag' y' st' sm' hgo Zc IW fP rJ htg Cw cR;obtain⟨ij,r1,r2,r3⟩:=h.main (sl:=sl) hT hV uM hgo (o':=S.own 0) (tag':=tag') (y':=y') (st':=st') (sm':=sm') (λ_ hb=>hb) (λ_ hb=>.inl hb) (by rw[Cu];exact Cv fP) (cF Zc.size.symm) (λk hk=>N7 hT aa (λb hb=>h.tR.new _ b hb) Zc ⟨_,_,IW⟩) (yu hT (λ_ hb=>hb.elim) Zc ⟨_,_,IW⟩)
   (rI.Cq hT λb hb=>Zc.block b (hT.sh b hb).2.1) (λk hk=>Zc.block _ (hT.ch k hk).2) rJ htg (λe he=>norel_of_Bk fP e he) IW Cw
  refine⟨ij,w',_,D,_,tag',a',y',st',sm',_,r1,r2,?_⟩;rcases cR with cR|⟨cR,hl⟩
  ·left;show phi T.n (Vc S.j D) tag'+Ssum S.j D+nJ S<phi T.n (Vc S.j D) tag+Ssum S.j D+nJ S;omega
  ·right;refine⟨?_,r3,hl⟩;show phi T.n (Vc S.j D) tag'+Ssum S.j D+nJ S=phi T.n (Vc S.j D) tag+Ssum S.j D+nJ S;omega
 by_cases pY:∀w1,dU T (S.own 0) w w1->kW P T V fH cZ Fin tag (S.own 0) a w1
 ·have fe:=pY w (dU.refl w);have qx:=h.uN;have kO:=h.mode;have pS:=h.wg;cases tag with
  |blk=>exact absurd rfl Gt
  |anch=>exact fe.elim
  |ret=>exact fe.elim
  |sp r s =>
   simp only[nk]at qx;obtain⟨hr,hj,hsd⟩:=qx;right;rcases hsd with⟨rfl,hd⟩|⟨rfl,hd⟩|⟨rfl,hd⟩|⟨rfl,hd⟩
   ·have El:L6 P T V fH (T.n-(r+1)) (jC P T V fH cZ r) (S.own 0) a w:=by simpa[kW] using fe
    obtain⟨_,a',hgo,hk⟩:=El;exact book hgo (.refl T.Wg w) pS bk_dis (kD.mk (tag:=.sp r 4) aj hk (by simp[kW])) ⟨hr,hj,.inr (.inl ⟨rfl,by rw[hd];rfl⟩)⟩ (kO.reopen trivial trivial rfl aj) (.inl (by simp only[phi];omega))
   ·have El:SA1 P T V fH (T.n-(r+1)) (jC P T V fH cZ r) (S.own 0) a w:=by simpa[kW] using fe
    obtain⟨_,eP⟩:=El;obtain⟨ho,e1,e2,_⟩:=kO.open_inv trivial;rw[e1,e2]at pS;obtain⟨a',hgo,hk⟩:=eP (Vc S.j D) aa (by simpa[pend] using pS);refine book hgo (aside_setCell w (stA T.Wg) _) (pS.setSt _) bk_rw (kD.mk (tag:=.sp r 3) aj hk (by simp[kW])) ⟨hr,hj,.inr (.inr (.inl ⟨rfl,by rw[hd];simp[deafBehind,Go.ConcR.rd,Go.ConcR.wr]⟩))⟩ ?_ (.inl (by simp only[phi];omega));have e:(((Vc S.j D:Nat):Int)+1)*KK=((Vc S.j D+pend (.sp r 3):Nat):Int)*KK:=by simp[pend]
    rw[e];exact .opn trivial ho aj
   ·have El:Y4 P T V fH (T.n-(r+1)) (jC P T V fH cZ r) (S.own 0) a w:=by simpa[kW] using fe
    obtain⟨_,a',hgo,hk⟩:=El;exact book hgo (.refl T.Wg w) pS bk_en (kD.mk (tag:=.sp r 2) aj hk (by simp[kW])) ⟨hr,hj,.inr (.inr (.inr ⟨rfl,by rw[hd];rfl⟩))⟩ (kO.reopen trivial trivial rfl aj) (.inl (by simp only[phi];omega))
   ·have El:SGo P T V fH (T.n-(r+1)) (jC P T V fH cZ r) (S.own 0) a w:=by simpa[kW] using fe
    obtain⟨_,a',child,hand,xU,hh,IV,qw⟩:=El;obtain⟨ho,e1,e2,_⟩:=kO.open_inv trivial;have eV:Vc (S.j+1) (upd D S.j ⟨7,0,0⟩)=Vc S.j D+1:=by
     simp only[Vc,sumTo,upd_same];rw[sumTo_upd_out D _ cnt (af _)];rfl
    have eS:Ssum (S.j+1) (upd D S.j ⟨7,0,0⟩)=Ssum S.j D+7:=by
     simp only[Ssum,sumTo,upd_same];rw[sumTo_upd_out D _ WD.stage (af _)]
    have p6:OpenSt (S.j+1) (upd D S.j ⟨7,0,0⟩):=λb hb=>by
     by_cases e:b=S.j
     ·subst e;rw[upd_same];simp
     ·rw[upd_ne D _ e];exact ho b aa
    have XP:∀tag',isOpen tag'->pend tag'=0->(∀vs,tag'≠.w2 vs)->Go.ConcN.Mode (S.j+1) (upd D S.j ⟨7,0,0⟩) tag' st sm:=by
     intro tag' h1 h2 h3;have:=Mode.opn (j:=S.j+1) (D:=upd D S.j ⟨7,0,0⟩) (tag:=tag') h1 p6 (λvs e=>absurd e (h3 vs));rw[eV,h2]at this;rw[e1,e2];simpa[pend] using this
    rw[<- hj]at IV;have less:∀(S':ku) (tag':CTag) (x':Nat->mE) (y':kv),S'.j=S.j+1->S'.cl=S.cl->phi T.n (Vc S.j D+1) tag'+8<phi T.n (Vc S.j D) (.sp r 2)->Og P T S S' D (upd D S.j ⟨7,0,0⟩) (.sp r 2) tag' x x' y y':=by
     intro S' tag' x' y' e3 e4 e5;left;have el:nJ S'<=nJ S+1:=by
      simp only[nJ,e3,e4,sumTo];split<;>omega
     simp only[p9,e3,eV,eS];omega
    cases r with
    |zero =>
     have hk:du P T (RA P T cZ) (λb=>S.own 0 b/\¬hand b) a' w:=qw;obtain⟨ij,S',x',ops,r1,r2,r3,r4⟩:=h.spawn (sl:=sl) hT aa xU hh (IV w (dU.refl w) (hT.idle S.j w0 w (λa ha=>h.D6.idle S.j a (af _) ha) h.D6.D6 (h.idle0 S.j aa))) hd (tag':=.kd) (y':=.inl (RA P T cZ,⟨a',λb=>S.own 0 b/\¬hand b,w⟩)) (kD.mk (tag:=.kd) aj hk rfl) ⟨aa,rfl⟩ (XP .kd trivial rfl aj);exact⟨ij,w,S',_,x',.kd,a',_,st,sm,ops,r1,r4,less S' .kd x' _ r2 r3 (by simp only[phi];omega)⟩
    |succ r =>
     have hk:du P T (L6 P T V fH (T.n-(r+1)) (jC P T V fH cZ r)) (λb=>S.own 0 b/\¬hand b) a' w:=qw;obtain⟨ij,S',x',ops,r1,r2,r3,r4⟩:=h.spawn (sl:=sl) hT aa xU hh (IV w (dU.refl w) (hT.idle S.j w0 w (λa ha=>h.D6.idle S.j a (af _) ha) h.D6.D6 (h.idle0 S.j aa))) hd (tag':=.sp r 5) (y':=.inl (L6 P T V fH (T.n-(r+1)) (jC P T V fH cZ r),⟨a',λb=>S.own 0 b/\¬hand b,w⟩)) (kD.mk (tag:=.sp r 5) aj hk (by simp[kW])) ⟨aa,aa,.inl ⟨rfl,rfl⟩⟩ (XP (.sp r 5) trivial rfl aj);exact⟨ij,w,S',_,x',.sp r 5,a',_,st,sm,ops,r1,r4,less S' (.sp r 5) x' _ r2 r3 (by simp only[phi];omega)⟩
  |kd =>
   simp only[nk]at qx;obtain⟨_,a',hgo,hk⟩:=fe;have lY:du P T (Rz P T cZ Fin) (S.own 0) a' w:=(hk.mono XO).trans;exact .inr (book hgo (.refl T.Wg w) pS bk_dis (kD.mk (tag:=.w1) aj lY rfl) ⟨qx.1,by rw[qx.2];rfl⟩ (kO.reopen trivial trivial rfl aj) (.inl (by simp only[phi];omega)))
  |w1 =>
   simp only[nk]at qx;obtain⟨_,eP⟩:=fe;obtain⟨ho,e1,e2,_⟩:=kO.open_inv trivial;rw[e1,e2]at pS;obtain⟨a',hgo,h0,fu⟩:=eP (Vc S.j D) aa (by simpa[pend] using pS);have Me:WgAt T.ty T.Wg w (((Vc S.j D:Nat):Int)*KK) 0:=by simpa[pend] using pS
   by_cases hv:Vc S.j D=0
   ·refine .inr (book hgo (.refl T.Wg w) (by rw[hv]at Me;simpa using Me) bk_rd (kD.mk (tag:=.ke) aj (h0 hv) rfl) ⟨qx.1,by rw[qx.2];simp[deafBehind,Go.ConcR.rd]⟩ (.fin trivial (allQuit_of ho hv)) (.inl (by simp only[phi];omega)))
   ·have:=Mode.opn (j:=S.j) (D:=D) (tag:=.w2 (Vc S.j D)) trivial ho (λvs e=>by cases e;omega);refine .inr (book hgo (.refl T.Wg w) Me bk_rd (kD.mk (tag:=.w2 (Vc S.j D)) aj (fu hv) rfl) ⟨qx.1,by rw[qx.2];simp[deafBehind,Go.ConcR.rd]⟩ (by simpa[pend] using this) (.inl (by simp only[phi];omega)))
  |w2 vs =>
   simp only[nk]at qx;obtain⟨_,eP⟩:=fe;obtain⟨ho,e1,e2,Mf⟩:=kO.open_inv trivial;have Mf:=Mf vs rfl;rw[e1,e2]at pS;have Me:WgAt T.ty T.Wg w (((Vc S.j D:Nat):Int)*KK) 0:=by simpa[pend] using pS
   obtain⟨Ze,agM⟩:=eP (Vc S.j D) aa Me;by_cases hv:Vc S.j D=vs
   ·obtain⟨a',hgo,hk⟩:=Ze hv;exact .inr (book hgo (aside_setCell w (stA T.Wg) _) (Me.setSt _) bk_rw (kD.mk (tag:=.w3) aj hk rfl) ⟨qx.1,by rw[qx.2];simp[deafBehind,Go.ConcR.rd,Go.ConcR.wr]⟩ (.reg trivial ho aa) (.inl (by simp only[phi];omega)))
   ·obtain⟨a',hgo,hk⟩:=agM hv;have lY:du P T (Rz P T cZ Fin) (S.own 0) a' w:=(hk.mono XO).trans;have:=Mode.opn (j:=S.j) (D:=D) (tag:=.w1) trivial ho (λvs e=>by cases e);exact .inr (book hgo (.refl T.Wg w) Me bk_rd (kD.mk (tag:=.w1) aj lY rfl) ⟨qx.1,by rw[qx.2];simp[deafBehind,Go.ConcR.rd]⟩ (by simpa[pend] using this) (.inl (by simp only[phi];omega)))
  |w3 =>
   simp only[nk]at qx;obtain⟨_,Vk,PS,pB⟩:=fe;have blocks:∀sm',sm'=0->WgAt T.ty T.Wg w st sm'->Go.ConcN.Mode S.j D .blk st sm'->∃ij w' S' D' x' tag' a' y' st' sm' ops,runT P (crowd gs w sl) 0=(.next (crowd ij w' sl),ops)/\gK P T V fH cZ Fin t0 w0 ij w' (t++ops) S' D' x' tag' a' y' st' sm'/\Og P T S S' D D' .w3 tag' x x' y y':=by
    intro sm' e hw hm;subst e;refine book (PS ⟨_,hw⟩) (.refl T.Wg w) hw aj (tag':=.blk) (y':=.inr 0) ⟨a,rfl,pY,rfl⟩ ⟨qx.1,by rw[qx.2];rfl⟩ hm (.inr ⟨rfl,?_⟩);rw[hy];exact trivial
   cases kO with
   |opn h1 _ _=>exact h1.elim
   |reg h1 h2 h3=>exact .inr (blocks _ rfl pS (.reg trivial h2 h3))
   |last L h1 h2 h3 h4=>exact .inr (blocks _ rfl pS (.last L trivial h2 h3 h4))
   |sema h2 =>
    obtain⟨a',hgo,hk⟩:=pB pS;exact .inr (book hgo (aside_setCell w (smA T.Wg) _) (pS.setSm 0) bk_sem (kD.mk (tag:=.w4) aj hk rfl) ⟨qx.1,by rw[qx.2];simp[deafBehind,semEvents]⟩ (.fin trivial h2) (.inl (by simp only[phi];omega)))
   |fin h1 _=>exact h1.elim
  |w4 =>
   simp only[nk]at qx;obtain⟨_,eP⟩:=fe;obtain⟨hq,e1,e2⟩:=kO.fin_inv trivial;rw[e1,e2]at pS;obtain⟨a',hgo,hk⟩:=eP pS;exact .inr (book hgo (.refl T.Wg w) pS bk_rd (kD.mk (tag:=.ke) aj hk rfl) ⟨qx.1,by rw[qx.2];simp[deafBehind,Go.ConcR.rd]⟩ (.fin trivial hq) (.inl (by simp only[phi];omega)))
  |ke =>
   simp only[nk]at qx;obtain⟨_,a',hgo,hk⟩:=fe;obtain⟨hq,e1,e2⟩:=kO.fin_inv trivial;rw[e1,e2]at pS;exact .inr (book hgo (.refl T.Wg w) pS bk_en (kD.mk (tag:=.acq) aj hk rfl) ⟨qx.1,by rw[qx.2];rfl⟩ (.fin trivial hq) (.inl (by simp only[phi];omega)))
  |acq =>
   obtain⟨_,a',hgo,hk⟩:=fe;exact .inl ⟨rfl,a',hgo,hk⟩
 ·
  rcases hsr.look with hs|⟨_,iW⟩
  ·exact absurd hs pY
  obtain⟨a',w',es,hgo,Lm,jg,hk⟩:=iW w (dU.refl w);have old:∀b,b<T.H0->w'.heap[b]?=w.heap[b]?:=λb hb=>Lm.rest b (by have:=h.h0;omega) (λnD=>by have:=Oa b nD;omega);obtain⟨ij,r1,r2,r3⟩:=h.main (sl:=sl) hT hV uM hgo (o':=grow (S.own 0) w w') (tag':=tag) (y':=.inl (kW P T V fH cZ Fin tag,⟨a',grow (S.own 0) w w',w'⟩)) (st':=st) (sm':=sm) (λ_ hb=>.inl hb) (λ_ hb=>hb) (I0 jg) Lm.size
   (λk hk=>Lm.Cr hT aa h.h0 Oa (λb hb=>⟨h.tR.new _ b hb,h.lt _ b hb,λnD=>by have:=h.tR.one _ _ _ hb nD;omega⟩)) ⟨Lm.size,λ_ hb=>hb.elim,λb h1 _ _ _=>old b h1,gW (old _ hT.wg),Lm.os,Lm.output⟩
   (rI.Cq hT λb hb=>old b (hT.sh b hb).1) (λk hk=>old _ (hT.ch k hk).1) (kD.mk Gt hk rfl) (by rw[deafBehind_still (λe he=>⟨(jg e he).2.1,(jg e he).2.2.1⟩)];exact h.uN) (λe he=>(jg e he).2.2.2 _) (h.wg.of_block (old _ hT.wg)) h.mode
  refine .inr ⟨ij,w',_,D,_,tag,a',_,st,sm,_,r1,r2,.inr ⟨rfl,r3,?_⟩⟩;rw[hy];exact⟨rfl,pY,w,es,dU.refl w,hgo,rfl⟩
end
end
section
open Go.ConcR (KK wgBlock WgAt stA smA rd wr Payload DC0 Bk g_of_ofEvents loc_of_ofEvent ofEvent_loc_mark)
variable [Payload]
theorem I1(t:Trace):∃M,∀op∈t,op.act.low M:=by
 have one:∀x:MemAct,∃M,x.low M:=by
  intro x;cases x with
  |access e =>
   obtain⟨loc,qC,sy⟩:=e;cases loc with
   |cell a=>exact⟨a.block+1,bK _⟩
   |obj r=>exact⟨r+1,bK _⟩
   |_=>exact⟨0,trivial⟩
  |mark m =>
   cases m
   case acquire a=>exact⟨a.block+1,bK _⟩
   case release a=>exact⟨a.block+1,bK _⟩
   case releaseMerge a=>exact⟨a.block+1,bK _⟩
   case read a=>exact⟨a.block+1,bK _⟩
   case write a=>exact⟨a.block+1,bK _⟩
   all_goals exact⟨0,trivial⟩
  |go _=>exact⟨0,trivial⟩
  |start=>exact⟨0,trivial⟩
  |send c _=>exact⟨c+1,bK _⟩
  |sendDone c _=>exact⟨c+1,bK _⟩
  |recv c _ _=>exact⟨c+1,bK _⟩
  |recvDone c _=>exact⟨c+1,bK _⟩
  |close c=>exact⟨c+1,bK _⟩
  |recvClosed c=>exact⟨c+1,bK _⟩
 have key:∀l:List MemOp,∃M,∀op∈l,op.act.low M:=by
  intro l
  induction l with
  |nil=>exact⟨0,aj⟩
  |cons z l ih =>
   obtain⟨M,hM⟩:=ih;obtain⟨M',hM'⟩:=one z.act;refine⟨M+M',λop fD=>?_⟩;simp only[bq]at fD;rcases fD with rfl|fD
   ·exact MemAct.low_mono aa hM'
   ·exact MemAct.low_mono aa (hM op fD)
 obtain⟨M,hM⟩:=key t.toList;exact⟨M,λop fD=>hM op (by simpa using fD)⟩
def Sz(w:ae):kv->kv
 | .inl (S,x)=>.inl (S,{x with w:=w})
 | .inr m=>.inr m
section
variable {P:Program}{T:dv}{V:Nat->ae->Prop}{fH:Nat->(Nat->Prop)->ae->Prop}{cZ Fin:ft}{t0:Trace}{w0:ae}
 {gs:Array aY}{w w':ae}{t:Trace}{S S':ku}{D:Nat->WD}{x:Nat->mE}{tag:CTag}{a:aY}{y:kv}{st sm:Int}{sl:Option (Nat×Nat)}
theorem Lh.rely(hV:kX T V fH){i:Nat}{o rc:Nat->Prop}{cl:Nat->Option Nat}{d:WD}{ld:mE}{g:aY}{w w':ae}(h:Lh P T V fH i o rc cl d ld g w)(hr:di T i o rc w w'):
  jz T (nt w' ld) ld/\Lh P T V fH i o rc cl d (nt w' ld) g w':=by
 rcases h with⟨h1,h2,h3,g0,tr,h4,h5,h6⟩|⟨h1,h2,h3,C,v,h4,h5,h6⟩
 ·refine⟨by rw[h4];exact⟨rfl,rfl,rfl,rfl,rfl,hr⟩,.inl ⟨h1,h2,h3,g0,tr,by rw[h4];rfl,h5.rely hr,?_⟩⟩;exact h6.imp id λ⟨q1,k,z,f,q2,q3,q4⟩=>⟨q1,k,z,f,q2,λw1 sL=>q3 w1 (hr.trans sL),q4⟩
 ·have pA:∀a,T.kM i (.cell a)->w'.cell? a=w.cell? a:=λa ha=>hr.mine a (.inl ha);have e2:nt w' ld=ld:=by rw[h2];rfl
  rw[e2];exact⟨jz.refl ld,.inr ⟨h1,h2,hV.v i w w' pA h3,C,v,h4,h5.rely (hr.rw h4),hV.val i _ w w' pA (λb hb=>hr.own b hb.1) h6⟩⟩
theorem gK.at(hV:kX T V fH)(h:gK P T V fH cZ Fin t0 w0 gs w t S D x tag a y st sm)(d:Nat):
  gK P T V fH cZ Fin t0 w0 gs (w.at d) t S D (λk=>nt (w.at d) (x k)) tag a (Sz (w.at d) y) st sm/\∀k,jz T (nt (w.at d) (x k)) (x k):=by
 have IY:kD P T V fH cZ Fin tag (S.own 0) a (w.at d) (Sz (w.at d) y):=by
  by_cases hb:tag=.blk
  ·subst hb;obtain⟨a0,h1,h2,h3⟩:=h.L8;exact⟨a0,h1,λw1 sL=>h2 w1 ((dU.at w d).trans sL),by rw[h3];rfl⟩
  ·have hs:=h.L8;rw[kD.eq hb]at hs |-;exact⟨hs.1.rely (dU.at w d),by rw[hs.2];rfl⟩
 refine⟨⟨h.size,h.Ff,IY,h.uN,λk k0 km=>?_,λk hk=>?_,λk hk=>by rw[h.rest k hk];rfl,by rw[h.zero];rfl,h.deafW,h.above,h.ti,h.tR,h.lt,h.h0,h.wg,h.mode,h.chan,h.UX,h.Y5,h.UU,h.rel,h.norel,h.UT,h.ext,h.same.trans (dU.at w d),⟨h.D6.D6,h.D6.idle⟩,h.idle0⟩,λk=>?_⟩
 ·obtain⟨g,q,h1,h2,h3⟩:=h.old k k0 km;exact⟨g,q,h1,by rw[h2];rfl,h3⟩
 ·obtain⟨g,h1,h2⟩:=h.wk k hk;exact⟨g,h1,(h2.rely hV (di.at w d)).2⟩
 ·rcases bh k with rfl|oh
  ·rw[h.zero];exact rfl
  ·rcases cg k T.m0 with uO | XI
   ·obtain⟨gk,q,_,h2,_⟩:=h.old k oh uO;rw[h2];exact rfl
   ·rcases cg k (T.m0+S.j)with HN|Bs
    ·obtain⟨g,_,h2⟩:=h.wk (k-T.m0) aa;have:=(h2.rely hV (di.at w d)).1;rw[show T.m0+(k-T.m0)=k by omega]at this;exact this
    ·rw[h.rest k Bs];exact rfl
theorem nI.back{y' y'':kv}(h:gK P T V fH cZ Fin t0 w0 gs w t S D x tag a y st sm)(d:Nat)(k:nI P T y'' (Sz (w.at d) y)):nI P T y'' y:=by
 by_cases hb:tag=.blk
 ·subst hb;obtain⟨a0,_,_,h3⟩:=h.L8;rw[h3]at k |-;exact k
 ·have hs:=h.L8;rw[kD.eq hb]at hs;rw[hs.2]at k |-;rcases y'' with⟨S'',z⟩|m
  ·obtain⟨e,k1,w1,es,k2,k3,k4⟩:=k;exact⟨e,λhh=>k1 λw1 sL=>hh w1 ((dU.at w d).trans sL),w1,es,(dU.at w d).trans k2,k3,k4⟩
  ·exact trivial
theorem gK.ends(hT:T.OK)(h:gK P T V fH cZ Fin t0 w0 gs w t S D x tag a y st sm):Ends (oo P T V) (nI P T) (T.m0+T.n) (p9 T S D tag,x,y):=by
 refine⟨λk hk=>?_,h.L8.acc⟩;show Acc (oo P T V) (x k);rcases bh k with rfl|oh
 ·rw[h.zero];exact Br 0
 ·rcases cg k T.m0 with uO | XI
  ·obtain⟨gk,q,_,h2,_⟩:=h.old k oh uO;rw[h2];exact Br q
  ·rcases cg k (T.m0+S.j)with HN|Bs
   ·obtain⟨g,_,h2⟩:=h.wk (k-T.m0) aa;have:=h2.acc hT aa;rw[show T.m0+(k-T.m0)=k by omega]at this;exact this
   ·rw[h.rest k Bs];exact Br 0
theorem gK.awake(h:gK P T V fH cZ Fin t0 w0 gs w t S D x tag a y st sm):∀g∈gs,awake g:=by
 intro g hg tm;obtain⟨k,hk⟩:=Array.mem_iff_getElem?.1 hg;have cR:k<T.m0+S.j:=by have:=(aI.1 hk).1;rw[h.size]at this;exact this
 rcases bh k with rfl|oh
 ·rw[h.Ff]at hk;cases hk;by_cases hb:tag=.blk
  ·subst hb;obtain⟨a0,h1,_⟩:=h.L8;rw[h1];simp
  ·have hs:=h.L8;rw[kD.eq hb]at hs;rw[hs.1.running λo g w hh=>nK hh];simp
 ·rcases cg k T.m0 with uO | XI
  ·obtain⟨gk,q,h1,_,h3⟩:=h.old k oh uO;rw[hk]at h1;cases h1;rcases h3.status with e|e<;>rw[e]<;>simp
  ·obtain⟨gk,h1,h2⟩:=h.wk (k-T.m0) aa;rw[show T.m0+(k-T.m0)=k by omega,hk]at h1;cases h1;rcases h2.status with e|e|⟨e,_⟩<;>rw[e]<;>simp
theorem gK.Vy(hT:T.OK)(h:gK P T V fH cZ Fin t0 w0 gs w t S D x tag a y st sm):∃(i:Nat) (g:aY),gs[i]?=so g/\g.status=.running:=by
 by_cases hb:tag=.blk
 ·subst hb;have uM:=h.uN.le;have shut:∀i,i<S.j->(S.cl i).isSome=true->(D i).stage≠1->∃(i:Nat) (g:aY),gs[i]?=so g/\g.status=.running:=by
   intro i hi hc hs;obtain⟨g,h1,h2⟩:=h.wk i hi;rcases h2 with⟨h3,_⟩|⟨_,_,_,C,v,_,h5,_⟩
   ·rw[h3]at hc;cases hc
   ·exact⟨_,g,h1,h5.running_of hs⟩
  have acC:∀m i,i<S.j->i<=m->S.cl i=we->∃(i:Nat) (g:aY),gs[i]?=so g/\g.status=.running:=by
   intro m
   induction m with
   |zero =>
    intro i hi hm hc;obtain⟨g,h1,h2⟩:=h.wk i hi;rcases h2.status with e|e|⟨_,_,k,hd,_⟩
    ·exact⟨_,g,h1,e⟩
    ·exfalso;rcases h2 with⟨_,_,_,g0,tr,_,h5,h6⟩|⟨h3,_⟩
     ·rcases h6 with⟨h6,_⟩|⟨_,k,z,f,_,_,⟨h9,_⟩|⟨h9,_⟩⟩
      ·rw[h6,h5.look.1]at e;cases e
      ·rw[h9]at e;cases e
      ·rw[h9]at e;cases e
     ·rw[hc]at h3;cases h3
    ·have:=hT.dep i k aa hd;omega
   |succ m ih =>
    intro i hi hm hc;obtain⟨g,h1,h2⟩:=h.wk i hi;rcases h2.status with e|e|⟨_,_,k,hd,hk⟩
    ·exact⟨_,g,h1,e⟩
    ·exfalso;rcases h2 with⟨_,_,_,g0,tr,_,h5,h6⟩|⟨h3,_⟩
     ·rcases h6 with⟨h6,_⟩|⟨_,k,z,f,_,_,⟨h9,_⟩|⟨h9,_⟩⟩
      ·rw[h6,h5.look.1]at e;cases e
      ·rw[h9]at e;cases e
      ·rw[h9]at e;cases e
     ·rw[hc]at h3;cases h3
    ·have:=hT.dep i k aa hd;exact ih k aa aa hk
  have any:∀i,i<S.j->(D i).stage≠1->∃(i:Nat) (g:aY),gs[i]?=so g/\g.status=.running:=by
   intro i hi hs;cases hc:S.cl i with
   |none=>exact acC i i hi (af _) hc
   |some p=>exact shut i hi (by rw[hc];rfl) hs
  have kO:=h.mode;cases kO with
  |opn h1 _ _=>exact h1.elim
  |reg _ _ h3 =>
   obtain⟨i,hi,h5⟩:=exists_counted h3;exact any i hi aa
  |last L _ h2 h3 _=>exact any L h2 aa
  |fin h1 _=>exact h1.elim
 ·have hs:=h.L8;rw[kD.eq hb]at hs;exact⟨0,a,h.Ff,hs.1.running λo g w hh=>nK hh⟩
def Joined(P:Program)(T:dv)(V:Nat->ae->Prop)(fH:Nat->(Nat->Prop)->ae->Prop)(Fin:ft)(Sb:Nat->Prop)(w0:ae)(gs:Array aY)(w:ae)(t:Trace):Prop :=
 ∃o g' q B',gs.size=T.m0+T.n/\gs[0]?=so g'/\Fin o g' w/\Leavers P t gs q/\Past (uJ λb=>Sb b\/b=T.Wg) B' t/\w.heap.size<=B'/\(∀i,i<T.n->V i w/\∃(oi:Nat->Prop) (C:Nat),fH i (λb=>oi b/\b≠C) w/\∀b,oi b->T.H0<=b/\b<w.heap.size) /\
  dU T (λ_=>False) w0 w/\(∀b,o b->T.H0<=b/\b<w.heap.size)/\(∀b cs ty fz,T.Sh b->w0.heap[b]?=so (.cells cs ty fz)->∃tQ,w.heap[b]?=so (.cells tQ ty fz)/\tQ.size=cs.size)/\(∀k,k<T.n->∃c s r tm,w.heap[T.ch k]?=so (.chan 0 #[] c s r tm))
theorem gK.final(hT:T.OK){Sb:Nat->Prop}(tZ:T.Shun=uJ Sb){B:Nat}(h0:t0.size=T.T0)(hP:Past T.Shun B t0)(h:gK P T V fH cZ Fin t0 w0 gs w t S D x .acq a y st sm){g':aY}(hgo:stepG P true a w=.go g' w #[Go.ConcR.mk (.acquire (stA T.Wg))])(hF:Fin (S.own 0) g' w):
  ∃ij ops,runT P (crowd gs w sl) 0=(.next (crowd ij w sl),ops)/\Joined P T V fH Fin Sb w0 ij w (t++ops):=by
 have PK:=hT.m0;have qx:=h.uN;simp only[nk]at qx;obtain⟨hj,D3⟩:=qx;have cG:=runT_crowd_go (P:=P) (sl:=sl) (i:=0) h.Ff (show stepG P (0==0) a w=_ from hgo);have hu:∀op∈MemOp.ofEvents 0 a.frame.fn a.frame.place #[Go.ConcR.mk (.acquire (stA T.Wg))],op.g=0:=g_of_ofEvents;have Sq:MemOp.ofEvents 0 a.frame.fn a.frame.place #[Go.ConcR.mk (.acquire (stA T.Wg))]=#[{g:=0,fn:=a.frame.fn,pos:=a.frame.place,act:=.mark (.acquire (stA T.Wg))}]:=by rw[ofEvents_eq];simp[Go.ConcR.ofEvent_mk]
 have Ll:∀k,k≠0->Deaf (t++MemOp.ofEvents 0 a.frame.fn a.frame.place #[Go.ConcR.mk (.acquire (stA T.Wg))]) k=Deaf t k:=λk hk=>Deaf_other t (bw hk) _ hu;have hq:∀i,i<S.j->(D i).stage=1:=(h.mode.fin_inv trivial).1;have rV:(t++MemOp.ofEvents 0 a.frame.fn a.frame.place #[Go.ConcR.mk (.acquire (stA T.Wg))])[t.size]?=so {g:=0,fn:=a.frame.fn,pos:=a.frame.place,act:=.mark (.acquire (stA T.Wg))}:=by rw[Sq,gD (af _)];simp
 obtain⟨M,hM⟩:=I1 (t++MemOp.ofEvents 0 a.frame.fn a.frame.place #[Go.ConcR.mk (.acquire (stA T.Wg))]);have PI:∀i,i<S.j->∃g C v,gs[T.m0+i]?=so g/\V i w/\S.own (T.m0+i) C/\QuitsD P (D i).fuel (D i).deaf g/\fH i (λb=>S.own (T.m0+i) b/\b≠C) w/\v=C:=by
  intro i hi;obtain⟨g,h1,h2⟩:=h.wk i hi;rcases h2 with⟨_,h3,_⟩|⟨_,_,h3,C,v,h4,h5,h6⟩
  ·have:=hq i hi;omega
  ·exact⟨g,C,C,h1,h3,h4,h5.quits (hq i hi),h6,rfl⟩
 have PG:TI T S (t++MemOp.ofEvents 0 a.frame.fn a.frame.place #[Go.ConcR.mk (.acquire (stA T.Wg))]):=h.ti.mute hu λop fD=>by
  obtain⟨e,he,rfl⟩:=Go.Conc.mem_ofEvents fD;simp at he;subst he;rfl
 have agO:∃U,t++MemOp.ofEvents 0 a.frame.fn a.frame.place #[Go.ConcR.mk (.acquire (stA T.Wg))]=t0++U:=by
  obtain⟨U,hU⟩:=h.ext;exact⟨U++MemOp.ofEvents 0 a.frame.fn a.frame.place #[Go.ConcR.mk (.acquire (stA T.Wg))],by rw[hU,dN]⟩
 have acD:=TI.Sj (B':=M+w.heap.size) tZ PG agO h0 hP (q:=t.size) (by rw[act?_of rV]) (by simp[Trace.g?,rV]) ⟨0,by simp[Trace.g?,rV],by rw[deaf_old (af _)];exact D3⟩
  (vy h.norel λe he=>by simp at he;subst he;simp[Go.ConcR.mk])
  (λi hi=>by
   obtain⟨r,r1,r2,r3⟩:=h.rel i hi (by rw[hq i hi];omega);have hr:r<t.size:=lt_of_act? r2.act;obtain⟨r',r1',r2',r3'⟩:=sP (t:=t) (u:=MemOp.ofEvents 0 a.frame.fn a.frame.place #[Go.ConcR.mk (.acquire (stA T.Wg))]) ⟨r,r1,r2,r3⟩ hu aa;refine⟨r',r1',?_,r2',r3'⟩;have hg:=r2'.g;rcases cg r' t.size with cR|XI
   ·exact cR
   ·exfalso;obtain⟨z,hz,XD⟩:=aH.1 hg;rcases getElem?_append_cases hz with⟨cR,_⟩|⟨_,HU⟩
    ·omega
    ·have:=hu z HU;omega)
  (vz h.UT λz hz=>.inl (hu z hz)) (by rw[Deaf_own,D3];simp[deafBehind,Go.ConcR.mk]) (λop fD=>MemAct.low_mono aa (hM op fD))
 have A7:0<gs.size:=by rw[h.size];omega
 refine⟨_,_,cG,S.own 0,g',λk=>if k<T.m0 then(match x k with|.inr q=>q|.inl _=>0) else(D (k-T.m0)).fuel,M+w.heap.size,by simp[h.size,hj],by simp[A7],hF,⟨λk g k0 hk=>?_,λk hk=>?_⟩,acD,aa,λi hi=>?_,h.same,λb hb=>⟨h.tR.new _ b hb,h.lt _ b hb⟩,h.D6.D6,λk hk=>⟨_,h.chan k hk⟩⟩
 ·have fu:0≠k:=aa;rw[qc _ _ _ _ fu]at hk;obtain⟨g1,HQ,rfl⟩:=aH.1 hk;rw[Ll k (bw fu)];have cR:k<T.m0+S.j:=by have:=(aI.1 HQ).1;rw[h.size]at this;exact this
  by_cases hkm:k<T.m0
  ·obtain⟨g2,q,h1,h2,h3⟩:=h.old k k0 hkm;rw[HQ]at h1;cases h1;rw[woken_quitsD h3,if_pos hkm,h2];exact h3
  ·obtain⟨g2,C,v,h1,_,_,h3,_⟩:=PI (k-T.m0) aa;have e:T.m0+(k-T.m0)=k:=aa;rw[e,HQ]at h1;cases h1;rw[woken_quitsD h3,if_neg hkm];have:=h.deafW (k-T.m0) aa;rw[e]at this;rw[this];exact h3
 ·have lY:gs.size<=k:=by simpa using hk
  rw[Ll k aa];exact h.above k lY
 ·obtain⟨g,C,v,_,h2,h3,_,h4,_⟩:=PI i aa;exact⟨h2,S.own (T.m0+i),C,h4,λb hb=>⟨h.tR.new _ b hb,h.lt _ b hb⟩⟩
theorem PT(hT:T.OK)(hV:kX T V fH)(hn:T.n<2147483648)(XO:∀o g w,cZ o g w->du P T (Rz P T cZ Fin) o g w){Sb:Nat->Prop}(tZ:T.Shun=uJ Sb){B:Nat}(h0:t0.size=T.T0)(hP:Past T.Shun B t0):
  ∀μ,Acc (LT3 (oo P T V) (jz T) (nI P T) (T.m0+T.n)) μ->∀(gs:Array aY) (w:ae) (t:Trace) (sl:Option (Nat×Nat)) (S:ku) (D:Nat->WD) (x:Nat->mE) (tag:CTag) (a:aY) (y:kv) (st sm:Int),
   μ=(p9 T S D tag,x,y)->gK P T V fH cZ Fin t0 w0 gs w t S D x tag a y st sm ->
   ∃N ij w' su t',runNT P N (crowd gs w sl) t=(.next (crowd ij w' su),t')/\Joined P T V fH Fin Sb w0 ij w' t':=by
 intro μ hμ
 induction hμ with
 |intro μ _ ih =>
 intro gs w t sl S D x tag a y st sm e h;subst e;have PK:=hT.m0;obtain⟨i,g,d,su,hi,cG,iW⟩:=crowd_pick (P:=P) (w:=w) (sl:=sl) h.awake (h.Vy hT);obtain⟨mW,cR⟩:=h.at hV d;have uM:=h.uN.le;have more:∀{ij:Array aY} {w':ae} {S':ku} {D':Nat->WD} {x':Nat->mE} {tag':CTag} {a':aY} {y':kv} {st' sm':Int} {ops:Array MemOp},runT P (crowd gs (w.at d) su) i=(.next (crowd ij w' su),ops)->gK P T V fH cZ Fin t0 w0 ij w' (t++ops) S' D' x' tag' a' y' st' sm' ->
   LT3 (oo P T V) (jz T) (nI P T) (T.m0+T.n) (p9 T S' D' tag',x',y') (p9 T S D tag,x,y)->∃N ij w' su t',runNT P N (crowd gs w sl) t=(.next (crowd ij w' su),t')/\Joined P T V fH Fin Sb w0 ij w' t':=by
  intro ij w' S' D' x' tag' a' y' st' sm' ops r1 r2 r3;obtain⟨N,Zf,w2,Sd,t2,q1,q2⟩:=ih _ r3 ij w' (t++ops) su S' D' x' tag' a' y' st' sm' rfl r2;exact⟨N+1,Zf,w2,Sd,t2,by simp only[runNT,iW,r1];exact q1,q2⟩
 have worker:∀p,p<T.m0+T.n->∀{S':ku} {D':Nat->WD} {x':Nat->mE} {tag':CTag} {y':kv},Ends (oo P T V) (nI P T) (T.m0+T.n) (p9 T S' D' tag',x',y')->Ct P T V p S S' D D' tag tag' (λk=>nt (w.at d) (x k)) x'->LT3 (oo P T V) (jz T) (nI P T) (T.m0+T.n) (p9 T S' D' tag',x',y') (p9 T S D tag,x,y):=by
  intro p hp S' D' x' tag' y' hE hl;refine⟨hE,?_⟩;rcases hl with hl|⟨e1,e2,e3⟩
  ·exact .inl hl
  ·exact .inr (.inl ⟨e1,p,hp,oo.back _ _ _ (cR p) e2,λk _ hk=>jz.trans _ _ _ (e3 k hk) (cR k)⟩)
 rcases bh i with rfl|oh
 ·have e:g=a:=by rw[h.Ff]at hi;exact(aP hi).symm
  subst e;rcases mW.Sy (sl:=su) hT hV hn XO cG with⟨rfl,g',hgo,hF⟩|⟨ij,w',S',D',x',tag',a',y',st',sm',ops,r1,r2,r3⟩
  ·obtain⟨ij,ops,r1,r2⟩:=mW.final (sl:=su) hT tZ h0 hP hgo hF;exact⟨1,ij,_,su,_,by simp only[runNT,iW,r1],r2⟩
  ·refine more r1 r2 ⟨r2.ends hT,?_⟩;rcases r3 with r3|⟨e1,e2,e3⟩
   ·exact .inl r3
   ·exact .inr (.inr ⟨e1,λk _=>jz.trans _ _ _ (e2 k) (cR k),nI.back (y':=y') h d e3⟩)
 ·rcases cg i T.m0 with uO | XI
  ·obtain⟨ij,tag',a',y',x',ops,r1,r2,r3,r4,r5⟩:=mW.Y8 (sl:=su) hT hV uM oh uO hi cG;refine more r1 r3 (worker i aa (r3.ends hT) (.inr ⟨by rw[Fg r2],r4,r5⟩))
  ·have alO:i<T.m0+S.j:=by have:=(aI.1 hi).1;rw[h.size]at this;exact this
   obtain⟨k,rfl⟩:∃k,i=T.m0+k:=⟨i-T.m0,aa⟩;have hk:k<S.j:=aa;cases hc:S.cl k with
   |none =>
    obtain⟨ij,w',S',D',x',tag',a',y',st',sm',ops,r1,r2,r3,r4⟩:=mW.Ss (sl:=su) hT hV uM hk hi cG hc;exact more r1 r3 (worker _ aa (r3.ends hT) r4)
   |some p =>
    obtain⟨ij,w',S',D',x',tag',a',y',st',sm',ops,r1,r2,r3,r4⟩:=mW.Sw (sl:=su) hT hV hn uM hk hi cG (by rw[hc];rfl) (h.uN.pend (Vc_le _ _));exact more r1 r3 (worker _ aa (r3.ends hT) r4)
end
end
end Go.Ren
