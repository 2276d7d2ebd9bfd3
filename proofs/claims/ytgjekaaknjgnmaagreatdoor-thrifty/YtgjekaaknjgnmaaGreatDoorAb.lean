import Derived.Test.YtgjekaaknjgnmaaGreatDoorAa
import Derived.Conc.Beside
import Derived.Conc.CrowdComm
import Derived.Conc.CrowdRun
import Derived.Conc.CrowdStepC2
set_option linter.all false
set_option maxHeartbeats 40000000
set_option maxRecDepth 200000
namespace Go.Ren
open _root_.Option renaming some → so,none → we
section
open Go.Conc (G)
def gre(τ:Tape)(d:Nat):GStep->GStep
 | .go g w es=>.go g (WT w τ d) es
 | .ended o w es=>.ended o (WT w τ d) es
 |x=>x
def ZV(g g':aZ):Prop:=(g'.frame.mode=.run\/g'.frame.mode=.returning)\/∃ch,g'={g with frame:={g.frame with mode:=.panicking ch}}
def Kind(g:aZ)(w:ae)(c:Nat):GStep->Prop
 | .go g' w' _=>w'.tape=w.tape/\w'.drawn=w.drawn+c/\(g'.status=.running/\g'.dying=we)/\ZV g g'
 | .ended ..=>True
 |_=>False
def vk(P:Program)(m:Bool)(g:aZ)(w:ae):Prop :=
 ∃c,(∀τ d,gf w c τ d->stepG P m g (WT w τ d)=gre τ (d+c) (stepG P m g w))/\Kind g w c (stepG P m g w)
section
variable {P:Program}{L:Nat->Bool}{Gm:Nat}{F:jC}{wl wr:ae}{f:Rn}
def jd{m:Bool}{g g':aZ}(hr:g'.status=.running)(hd:g'.dying=we)(hm:g'.frame.mode=.run\/g'.frame.mode=.returning)(h:∀w,stepG P m g w=.go g' w #[]):vk P m g wl :=
 ⟨0,λτ d _=>by rw[h,h];rfl,by rw[h];exact⟨rfl,rfl,⟨hr,hd⟩,.inl hm⟩⟩
def xV{m:Bool}{g:aZ}{o:Outcome}(h:∀w,stepG P m g w=.ended o w #[]):vk P m g wl :=
 ⟨0,λτ d _=>by rw[h,h];rfl,by rw[h];trivial⟩
def ZW:Result Next->Prop
 | .ok (.value _) _|.ok .skip _|.ok (.enter ..) _=>True
 | .ok _ _=>False
 | .halt h _=>oY h=true\/∃v,h=.panic v
def ua{fr:Frame}{cs:List Frame}{s:Sem Next}{w w':ae}{el:Array Event}{u:Unsupported}(hu:oY (.unsupported u)=true)(h:s.runT P w #[]=(.halt (.unsupported u) w',el))(hk:fr.kind=.normal):
  stepG.apply P true fr cs we s w=.ended (.unsupported u (fr.pos P)) w' (seen P fr.fn el):=by
 cases u<;>first|exact Bool.noConfusion hu|(simp only[stepG.apply,if_true,h,hk,GStep.after,cv];rfl)
def ub{fr:Frame}{cs:List Frame}{s:Sem Next}{w w':ae}{el:Array Event}{y:String}(h:s.runT P w #[]=(.halt (.stuck y) w',el))(hk:fr.kind=.normal):
  stepG.apply P true fr cs we s w=.ended (.stuck y (fr.pos P)) w' (seen P fr.fn el):=by
 simp only[stepG.apply,if_true,h,hk,GStep.after,cv];rfl
def zv{fr:Frame}{cs:List Frame}{s:Sem Next}{w w':ae}{el:Array Event}{v:Value}(h:s.runT P w #[]=(.halt (.panic v) w',el))(hk:fr.kind=.normal):
  stepG.apply P true fr cs we s w=.go (G (fr.raise [{v,recovered:=false}]) cs) w' (seen P fr.fn el):=by
 simp only[stepG.apply,if_true,h,hk,GStep.after,G,cv];rfl
def Sk{fr:Frame}{cs:List Frame}{s:Sem Next}{c:Nat}(hmd:fr.mode=.run)(hk:fr.kind=.normal)(ht:∃ops td k,fr.todo=.inRegion ops td::k)(hD:Ck P s wl #[] c)(hN:ZW (s.runT P wl #[]).1):
  (∀τ d,gf wl c τ d->stepG.apply P true fr cs we s (WT wl τ d)=gre τ (d+c) (stepG.apply P true fr cs we s wl))/\Kind (G fr cs) wl c (stepG.apply P true fr cs we s wl):=by
 obtain⟨h1,h2,h3⟩:=hD;have fin:∀v,(G (fr.finish v) cs).frame.mode=.run:=by
  intro v;obtain⟨ops,td,k,ht⟩:=ht;cases td<;>simp[G,Frame.finish,ht,hmd]
 rcases hx:s.runT P wl #[] with⟨r,el⟩;rw[hx]at h1 h2 h3 hN;cases r with
 |ok n w1 =>
  cases n<;>simp only[ZW]at hN
  ·refine⟨λτ d hA=>?_,?_⟩
   ·rw[ow hk (h3 τ d hA),ow hk hx];rfl
   ·rw[ow hk hx];exact⟨h1,h2,⟨rfl,rfl⟩,.inl (.inl (fin _))⟩
  ·refine⟨λτ d hA=>?_,?_⟩
   ·rw[qg hk (h3 τ d hA),qg hk hx];rfl
   ·rw[qg hk hx];exact⟨h1,h2,⟨rfl,rfl⟩,.inl (.inl (fin _))⟩
  ·refine⟨λτ d hA=>?_,?_⟩
   ·rw[oy hk ht (h3 τ d hA),oy hk ht hx];rfl
   ·rw[oy hk ht hx];exact⟨h1,h2,⟨rfl,rfl⟩,.inl (.inl rfl)⟩
 |halt h w1 =>
  rcases hN with hN|⟨v,rfl⟩
  ·cases h<;>first|exact Bool.noConfusion hN|skip
   ·refine⟨λτ d hA=>?_,?_⟩
    ·rw[ua hN (h3 τ d hA) hk,ua hN hx hk];rfl
    ·rw[ua hN hx hk];trivial
   ·refine⟨λτ d hA=>?_,?_⟩
    ·rw[ub (h3 τ d hA) hk,ub hx hk];rfl
    ·rw[ub hx hk];trivial
  ·refine⟨λτ d hA=>?_,?_⟩
   ·rw[zv (h3 τ d hA) hk,zv hx hk];rfl
   ·rw[zv hx hk];exact⟨h1,h2,⟨rfl,rfl⟩,.inr ⟨[{v,recovered:=false}],by simp only[G,Frame.raise,hmd]⟩⟩
def LA(dc:rT P L Gm)(hP:PF P L Gm F)(W:WR F wl wr)(vN:fI wl){m:Bool}{ov ab abr:List Frame}{fr wT:Frame}(Yy:vM Gm L fr)(hr:∀f,F.has f->wT=frame f fr)(Wk:ab≠[]\/fr.mode=.run)(jl:∀c∈ab,vM Gm L c):vk P m (G fr (ab++ov)) wl:=by
 have⟨f0,kL⟩:=W.some;obtain⟨hd,tu,hk,rG,Ir,Is⟩:=Yy;obtain⟨fn,tmps,todo,defers,mode,kind,ro⟩:=fr;simp only at hd tu hk rG Ir Is Wk;subst hd tu hk;obtain⟨tr,Em,wm⟩:∃tr,wT=Fr fn tr todo mode/\∀f,F.has f->tr=tmps.map (val f):=by
  refine⟨tmps.map (val f0),hr f0 kL,λf hf=>?_⟩;have:=(hr f0 kL).symm.trans (hr f hf);simp only[frame,Frame.mk.injEq]at this;exact this.2.1
 rcases Is with Is|Is
 ·subst Is;cases todo with
  |nil=>exact jd (g':=G (Fr fn tmps [] .returning) (ab++ov)) rfl rfl (.inr rfl) (λw=>by simp only[G,stepG,stepG.exec,if_true])
  |cons i k =>
   have hi:=Ir i ar;cases i<;>first|exact Bool.noConfusion hi|skip
   case inBlock id=>exact jd (g':=G (Fr fn tmps k .run) (ab++ov)) rfl rfl (.inl rfl) (λw=>by simp only[G,stepG,stepG.exec])
   case inScope c=>exact jd (g':=G (Fr fn tmps k .run) (ab++ov)) rfl rfl (.inl rfl) (λw=>by simp only[G,stepG,stepG.exec])
   case inLoop c=>exact jd (g':=G (Fr fn tmps (.code c :: .inLoop c::k) .run) (ab++ov)) rfl rfl (.inl rfl) (λw=>by simp only[G,stepG,stepG.exec])
   case code c =>
    have ml:kM Gm L c=true:=hi;cases c<;>first|exact Bool.noConfusion hi|skip
    case skip=>exact jd (g':=G (Fr fn tmps k .run) (ab++ov)) rfl rfl (.inl rfl) (λw=>by simp only[G,stepG,stepG.exec])
    case label l=>exact jd (g':=G (Fr fn tmps k .run) (ab++ov)) rfl rfl (.inl rfl) (λw=>by simp only[G,stepG,stepG.exec])
    case ret=>exact jd (g':=G (Fr fn tmps (.code .ret::k) .returning) (ab++ov)) rfl rfl (.inr rfl) (λw=>by simp only[G,stepG,stepG.exec,if_true])
    case seq a b=>exact jd (g':=G (Fr fn tmps (.code a :: .code b::k) .run) (ab++ov)) rfl rfl (.inl rfl) (λw=>by simp only[G,stepG,stepG.exec])
    case block id c=>exact jd (g':=G (Fr fn tmps (.code c :: .inBlock id::k) .run) (ab++ov)) rfl rfl (.inl rfl) (λw=>by simp only[G,stepG,stepG.exec])
    case loop c=>exact jd (g':=G (Fr fn tmps (.code c :: .inLoop c::k) .run) (ab++ov)) rfl rfl (.inl rfl) (λw=>by simp only[G,stepG,stepG.exec])
    case scope c=>exact jd (g':=G (Fr fn tmps (.code c :: .inScope c::k) .run) (ab++ov)) rfl rfl (.inl rfl) (λw=>by simp only[G,stepG,stepG.exec])
    case refuse w=>exact xV (λw=>by simp only[G,stepG,stepG.exec];rfl)
    case cond c a b =>
     by_cases hb:∃t,Frame.eval (Fr fn tmps (.code (.cond c a b)::k) .run) c=.bool t
     ·obtain⟨t,hb⟩:=hb;exact jd (g':=G (Fr fn tmps (.code (if t then a else b)::k) .run) (ab++ov)) rfl rfl (.inl rfl) (λw=>by simp only[G,stepG,stepG.exec,hb])
     ·refine xV (o:=.stuck "cond: bool expected" (Frame.pos P (Fr fn tmps (.code (.cond c a b)::k) .run))) (λw=>?_);simp only[G,stepG,stepG.exec];cases hv:Frame.eval (Fr fn tmps (.code (.cond c a b)::k) .run) c<;>first|rfl|exact absurd ⟨_,hv⟩ hb
    case exit id =>
     cases hx:exitTo id k with
     |none=>exact xV (λw=>by simp only[G,stepG,stepG.exec,hx,Option.elim_none];rfl)
     |some k2=>exact jd (g':=G (Fr fn tmps k2 .run) (ab++ov)) rfl rfl (.inl rfl) (λw=>by simp only[G,stepG,stepG.exec,hx,Option.elim_some])
    case goto l =>
     cases hx:gotoIn l k with
     |none=>exact xV (λw=>by simp only[G,stepG,stepG.exec,hx,Option.elim_none];rfl)
     |some k2=>exact jd (g':=G (Fr fn tmps k2 .run) (ab++ov)) rfl rfl (.inl rfl) (λw=>by simp only[G,stepG,stepG.exec,hx,Option.elim_some])
    case region id ops draw =>
     cases draw
     ·exact jd (g':=G (Fr fn tmps (.inRegion ops (List.range ops.size)::k) .run) (ab++ov)) rfl rfl (.inl rfl) (λw=>by simp only[G,stepG,stepG.exec,Bool.not_false,if_true])
     ·have e:∀w:ae,stepG P m (G (Fr fn tmps (.code (.region id ops true)::k) .run) (ab++ov)) w=.go (G (Fr fn tmps (.inRegion ops (Region.schedule (P.follows .mixedOrders) ops (Question.cut (.order fn id) (w.tape w.drawn (.order fn id))))::k) .run) (ab++ov)) {w with drawn:=w.drawn+1} #[]:=by
       intro w;simp only[G,stepG,stepG.exec,choose,Sem.run,Question.forced,Bool.not_true,aQ,if_false]
      refine⟨1,λτ d hA=>?_,by rw[e];exact⟨rfl,rfl,⟨rfl,rfl⟩,.inl (.inl rfl)⟩⟩;have h0:=hA 0 aa (.order fn id);simp only[Nat.add_zero]at h0;rw[e,e];simp only[WT,h0,gre]
   case inRegion ops todo =>
    cases todo with
    |nil=>exact jd (g':=G (Fr fn tmps k .run) (ab++ov)) rfl rfl (.inl rfl) (λw=>by simp only[G,stepG,stepG.exec])
    |cons i rest =>
     by_cases hw:((ops[i]?).map (Region.wanted · (yielded ops tmps))).getD false=true
     ·obtain⟨o,ho⟩:∃o,ops[i]?=so o:=by
       cases ho:ops[i]? with
       |none=>rw[ho]at hw;cases hw
       |some o=>exact⟨o,rfl⟩
      have NG:tY Gm L o=true:=by
       have iJ:ops.all (tY Gm L)=true:=hi;rw[ig]at iJ;obtain⟨cx,he⟩:=aad.1 ho;rw[<- he];exact iJ i cx
      simp only[tY,bf,Array.all_eq_true']at NG;have hrel:∀f,F.has f->Rel P f (jc L f) (execOp (Fr fn tmps (.inRegion ops (i::rest)::k) .run).eval o) (execOp (Fr fn tr (.inRegion ops (i::rest)::k) .run).eval o):=by
       intro f hf;have jb:∀g,F.has g->∀x∈o.op.operands,(Fr fn tr (.inRegion ops (i::rest)::k) .run).eval x=val g ((Fr fn tmps (.inRegion ops (i::rest)::k) .run).eval x):=by
        intro g hg x hx;have:=Ce hP dc hg (Fr fn tmps (.inRegion ops (i::rest)::k) .run) x (NG.2 x hx);rw[show frame g (Fr fn tmps (.inRegion ops (i::rest)::k) .run)=Fr fn tr (.inRegion ops (i::rest)::k) .run by rw[wm g hg];rfl]at this;exact this
       exact Cb (PF.ok hP dc hf) (PF.fn hP hf) (λn hn args=>dc.call n hn f (PF.ok hP dc hf) (PF.fn hP hf) args) o NG.1 (jb f hf) (λx hx=>Cf W hP (λg hg=>jb g hg x hx))
      have⟨c,hD⟩:=wU _ _ wl #[] (hrel f0 kL);have hC:=xF (λf=>jc L f) _ _ F wl wr #[] #[] hrel W;have hN:=sI _ _ wl #[] (hrel f0 kL) vN;have acV:ZW ((execOp (Fr fn tmps (.inRegion ops (i::rest)::k) .run).eval o).runT P wl #[]).1:=by
       rcases hx:(execOp (Fr fn tmps (.inRegion ops (i::rest)::k) .run).eval o).runT P wl #[] with⟨r,el⟩;rw[hx]at hC hN;cases r with
       |halt h w1=>exact hN
       |ok n w1 =>
        obtain⟨F',b,oz,ZS,c1,c2,c3,c4,c5,c6⟩:=hC;have⟨g0,ZT⟩:=c3.some;have En:=c2 g0 ZT;cases n<;>cases b<;>simp only[jc]at En<;>trivial
      have hl:∀w,stepG P m (G (Fr fn tmps (.inRegion ops (i::rest)::k) .run) (ab++ov)) w=stepG.apply P true (Fr fn tmps (.inRegion ops (i::rest)::k) .run) (ab++ov) we (execOp (Fr fn tmps (.inRegion ops (i::rest)::k) .run).eval o) w:=by
       intro w;simp only[G,stepG,stepG.exec];refine(if_pos hw).trans ?_;simp only[stepG.oper,Frame.oper?,ho]
      have⟨a1,a2⟩:=Sk (P:=P) (fr:=Fr fn tmps (.inRegion ops (i::rest)::k) .run) (cs:=ab++ov) rfl rfl ⟨_,_,_,rfl⟩ hD acV;exact⟨c,λτ d hA=>by rw[hl,hl];exact a1 τ d hA,by rw[hl];exact a2⟩
     ·refine jd (g':=G ((Fr fn tmps (.inRegion ops (i::rest)::k) .run).finish undef) (ab++ov)) rfl rfl (.inl (by simp[G,Frame.finish])) (λw=>?_);simp only[G,stepG,stepG.exec,hw];simp only[aQ,if_false]
 ·subst Is;have dE:ab≠[]:=Wk.elim id (λh=>by cases h);cases ab with
  |nil=>exact absurd rfl dE
  |cons c0 ab2 =>
   have⟨AA,rY,_⟩:=dc.body fn rG;have hrel:Rel P f0 (V f0) (results AA tmps) (results AA tr):=by
    rw[wm f0 kL];exact qW (PF.ok hP dc kL) AA tmps
   have⟨c,h1,h2,h3⟩:=wU _ _ wl #[] hrel;have hN:=sI _ _ wl #[] hrel vN;rcases hx:(results AA tmps).runT P wl #[] with⟨r,el⟩;rw[hx]at h1 h2 h3 hN;cases r with
   |ok v w1 =>
    have e:∀w w1:ae,(results AA tmps).runT P w #[]=(.ok v w1,el)->stepG P m (G (Fr fn tmps todo .returning) (c0::ab2++ov)) w=.go (G (c0.finish v) (ab2++ov)) w1 (seen P fn el):=by
     intro w w1 h;simp only[G,stepG,unwind,rY,h,List.cons_append,GStep.after,doReturn,cv]
    refine⟨c,λτ d hA=>?_,?_⟩
    ·rw[e _ _ (h3 τ d hA),e _ _ hx];rfl
    ·rw[e _ _ hx];exact⟨h1,h2,⟨rfl,rfl⟩,.inl (zt (jl c0 ar) v).mode⟩
   |halt h w1 =>
    obtain⟨o,e⟩:∃o,∀w w1:ae,(results AA tmps).runT P w #[]=(.halt h w1,el)->stepG P m (G (Fr fn tmps todo .returning) (c0::ab2++ov)) w=.ended o w1 (seen P fn el):=by
     cases h<;>exact⟨_,λw w1 hh=>by simp only[G,stepG,unwind,rY,hh,GStep.after,cv];rfl⟩
    refine⟨c,λτ d hA=>?_,?_⟩
    ·rw[e _ _ (h3 τ d hA),e _ _ hx];rfl
    ·rw[e _ _ hx];trivial
end
end
section
open Go.Conc (G)
def jY(P:Program):Nat->aZ->ae->Option (aZ×ae)
 |0,g,w=>so (g,w)
 |n+1,g,w=>match stepG P true g w with
  | .go g' w' _=>jY P n g' w'
  |_=>we
def gy:Frame:={fn:=0,tmps:=#[],todo:=[.code (.refuse "door")],defers:=[{target:=.nil,args:=#[]}],mode:=.run,kind:=.normal}
def Inv(P:Program)(L:Nat->Bool)(Gm:Nat)(ov:List Frame)(g:aZ)(w:ae):Prop :=
 ∃F fr ab wT abr wr,g=G fr (ab++ov)/\vM Gm L fr/\(∀c∈ab,vM Gm L c)/\(∀f,jC.has F f->wT=frame f fr/\abr=ab.map (frame f))/\WR F w wr/\fI w/\PF P L Gm F
def pe(ov:List Frame)(g:aZ):Prop:=∃fr,g=G fr ov/\fr.mode=.returning
def ZX(g:aZ):Prop:=∃chain,g.frame.mode=.panicking chain
section
variable {P:Program}{L:Nat->Bool}{Gm:Nat}
def Inv.WT{ov:List Frame}{g:aZ}{w:ae}(h:Inv P L Gm ov g w)(τ:Tape)(d:Nat):Inv P L Gm ov g (WT w τ d):=by
 obtain⟨F,fr,ab,wT,abr,wr,h1,h2,h3,h4,W,hn,hp⟩:=h;exact⟨F,fr,ab,wT,abr,Ren.WT wr τ d,h1,h2,h3,h4,W.env rfl rfl W.os W.output rfl rfl,fI.heap hn rfl,hp⟩
def Inv.Fb(dc:rT P L Gm){ov:List Frame}{g:aZ}{w:ae}(h:Inv P L Gm ov g w)(hb:¬pe ov g):vk P true g w:=by
 obtain⟨F,fr,ab,wT,abr,wr,rfl,h2,h3,h4,W,hn,hp⟩:=h;refine LA dc hp W hn h2 (λf hf=>(h4 f hf).1) ?_ h3 (abr:=abr);rcases h2.mode with hm|hm
 ·exact .inr hm
 ·refine .inl λe=>hb ⟨fr,by rw[e];rfl,hm⟩
def Co{P:Program}{L:Nat->Bool}{Gm:Nat}{ov:List Frame}{g:aZ}{w:ae}(h:Inv P L Gm ov g w):g.status=.running/\g.dying=we:=by
 obtain⟨F,fr,ab,wT,abr,wr,rfl,_⟩:=h;exact⟨rfl,rfl⟩
def Inv.step(dc:rT P L Gm){ov:List Frame}{g g1:aZ}{w w1:ae}{es:Array Event}(h:Inv P L Gm ov g w)(hb:¬pe ov g)(hs:stepG P true g w=.go g1 w1 es)(hm:g1.frame.mode=.run\/g1.frame.mode=.returning):Inv P L Gm ov g1 w1:=by
 have hk:=h.Fb dc hb;obtain⟨c,_,hk⟩:=hk;rw[hs]at hk;obtain⟨F,fr,ab,wT,abr,wr,rfl,h2,h3,h4,W,hn,hp⟩:=h;have Wk:ab≠[]\/fr.mode=.run:=by
  rcases h2.mode with hm|hm
  ·exact .inr hm
  ·refine .inl λe=>hb ⟨fr,by rw[e];rfl,hm⟩
 have⟨F',ND,ZQ,Lv,Lw,p9,mh,e1,e2,e3,e4,e5,e6,e7,e8,e9,KU,Pp⟩:=Iq dc hp W hn (m':=true) (csr:=[]) h2 h3 h4 hs hk.2.2.1.1 hk.2.2.1.2 hm Wk;exact⟨F',ND,ZQ,Lv,Lw,p9,e1,e2,e3,e5,e6,Pp,e9⟩
def AD(P:Program)(g:aZ):Prop :=
 (∃ab fr chain,g=G fr (ab++[gy])/\fr.mode=.panicking chain/\fr.defers=[]/\(∃fn,P.funcs[fr.fn]?=so fn)/\∀c∈ab,c.defers=[]/\∃fn,P.funcs[c.fn]?=so fn) \/
 (∃chain,g=G {gy with mode:=.panicking chain} [])
def raise_mode(fr:Frame)(ch:List PanicEntry):∃ZY,fr.raise ch={fr with mode:=.panicking ZY}:=by
 unfold Frame.raise;split<;>exact⟨_,rfl⟩
def Cp{g:aZ}(h:AD P g)(w:ae):(∃o w' es,stepG P true g w=.ended o w' es)\/∃g' w' es,stepG P true g w=.go g' w' es/\AD P g':=by
 rcases h with⟨ab,fr,chain,rfl,hm,hd,⟨fn,hf⟩,rU⟩|⟨chain,rfl⟩
 ·right;have hc:fr.catches P=false:=by simp[Frame.catches,hf]
  cases ab with
  |nil =>
   have⟨ZY,e⟩:=raise_mode gy chain;refine⟨G {gy with mode:=.panicking ZY} [],w,#[],?_,.inr ⟨ZY,rfl⟩⟩;rw[<- e];obtain⟨a1,a2,a3,a4,a5,a6,a7⟩:=fr;simp only at hm hd;subst hm hd;simp only[G,stepG,unwind,hc,List.nil_append,aQ,if_false]
  |cons c ab =>
   have⟨ZY,e⟩:=raise_mode c chain;refine⟨G {c with mode:=.panicking ZY} (ab++[gy]),w,#[],?_,.inl ⟨ab,_,ZY,rfl,rfl,(rU c ar).1,(rU c ar).2,λx hx=>rU x (by simp[hx])⟩⟩;rw[<- e];obtain⟨a1,a2,a3,a4,a5,a6,a7⟩:=fr;simp only at hm hd;subst hm hd;simp only[G,stepG,unwind,hc,List.cons_append,aQ,if_false]
 ·left;exact⟨_,_,_,by simp only[G,stepG,gy,unwind,callDeferred];rfl⟩
def Cq:∀(n:Nat) (g:aZ) (w:ae) (x:aZ×ae),AD P g->jY P n g w=so x->AD P x.1:=by
 intro n
 induction n with
 |zero=>intro g w x h e;simp only[jY,aA]at e;rw[<- e];exact h
 |succ n ih =>
  intro g w x h e;simp only[jY]at e;rcases Cp h w with⟨o,w',es,hs⟩|⟨g',w',es,hs,h'⟩
  ·rw[hs]at e;cases e
  ·rw[hs]at e;exact ih g' w' x h' e
def Inv.next(dc:rT P L Gm){g g1:aZ}{w w1:ae}{es:Array Event}(h:Inv P L Gm [gy] g w)(hb:¬pe [gy] g)(hs:stepG P true g w=.go g1 w1 es):Inv P L Gm [gy] g1 w1\/AD P g1:=by
 have⟨c,_,hk⟩:=h.Fb dc hb;rw[hs]at hk;rcases hk.2.2.2 with hm|⟨ch,hg⟩
 ·exact .inl (h.step dc hb hs hm)
 ·right;obtain⟨F,fr,ab,wT,abr,wr,rfl,h2,h3,h4,W,hn,hp⟩:=h;have fn:∀c,vM Gm L c->∃fn,P.funcs[c.fn]?=so fn:=λc hc=>let ⟨x,hx,_⟩:=dc.body _ hc.fn;⟨x,hx⟩;exact .inl ⟨ab,{fr with mode:=.panicking ch},ch,hg,rfl,h2.defers,fn fr h2,λc hc=>⟨(h3 c hc).defers,fn c (h3 c hc)⟩⟩
def AD.mode{g:aZ}(h:AD P g):ZX g:=by
 rcases h with⟨ab,fr,chain,rfl,hm,_⟩|⟨chain,rfl⟩
 ·exact⟨chain,hm⟩
 ·exact⟨chain,rfl⟩
end
end
section
open Go.Conc (G)
structure sJ(Stop:aZ->ae->Prop):Prop where
 base:∀g w,Stop g w->pe [gy] g
 tape:∀g w τ d,Stop g w->Stop g (WT w τ d)
def Good(P:Program)(Stop:aZ->ae->Prop)(g:aZ)(w:ae):Prop :=
 ∀τ d,∃n x,jY P n g (WT w τ d)=so x/\Stop x.1 x.2
section
variable {P:Program}{L:Nat->Bool}{Gm:Nat}{Stop:aZ->ae->Prop}
theorem NI(w:ae)(τ D3:Tape)(d d':Nat):WT (WT w τ d) D3 d'=WT w D3 d':=rfl
theorem xW(w:ae):WT w w.tape w.drawn=w:=rfl
def sJ.back(hS:sJ Stop){g:aZ}{w:ae}{τ:Tape}{d:Nat}(h:Stop g (WT w τ d)):Stop g w:=by
 have:=hS.tape g (WT w τ d) w.tape w.drawn h;rwa[NI,xW]at this
def Fc{g:aZ}(hb:pe [gy] g)(hI:∃w,Inv P L Gm [gy] g w)(dc:rT P L Gm):∀n w x,jY P (n+1) g w=so x->¬pe [gy] x.1:=by
 obtain⟨w0,F,fr,ab,wT,abr,wr,hg,h2,h3,_⟩:=hI;obtain⟨HL,e1,hm⟩:=hb;have rU:ab=[]:=by
  rw[hg]at e1;simp only[G,Goroutine.mk.injEq]at e1;have:=congrArg List.length e1.2.1;simp at this;exact this
 subst rU;have Yy:fr.mode=.returning:=by
  rw[hg]at e1;simp only[G,Goroutine.mk.injEq]at e1;rw[e1.1];exact hm
 subst hg;have⟨AA,rY,_⟩:=dc.body _ h2.fn;obtain⟨hd,tu,hk,rG,Ir,_⟩:=h2;obtain⟨fn,tmps,todo,defers,mode,kind,ro⟩:=fr;simp only at hd tu hk Yy rY;subst hd tu hk Yy;intro n w x hx;simp only[jY]at hx;rcases hr:(results AA tmps).runT P w #[] with⟨r,el⟩;have eH:∀v w1,r=.ok v w1->stepG P true (G (Fr fn tmps todo .returning) ([]++[gy])) w=.go (G (gy.finish v) []) w1 (seen P fn el):=by
  intro v w1 e;subst e;simp only[G,stepG,unwind,rY,hr,List.nil_append,GStep.after,doReturn,cv]
 cases r with
 |ok v w1 =>
  rw[eH v w1 rfl]at hx;simp only[]at hx;have kN:gy.finish v=gy:=rfl;rw[kN]at hx;cases n with
  |zero =>
   simp only[jY,aA]at hx;rw[<- hx];rintro⟨fr2,e2,_⟩;simp only[G,Goroutine.mk.injEq]at e2;exact absurd e2.2.1 ar
  |succ n =>
   simp only[jY]at hx;have:∃o es,stepG P true (G gy []) w1=.ended o w1 es:=⟨_,_,by simp only[G,stepG,gy,stepG.exec];rfl⟩;obtain⟨o,es,he⟩:=this;rw[he]at hx;cases hx
 |halt h w1 =>
  exfalso;have:∃o es,stepG P true (G (Fr fn tmps todo .returning) ([]++[gy])) w=.ended o w1 es:=by
   cases h<;>exact⟨_,_,by simp only[G,stepG,unwind,rY,hr,GStep.after];rfl⟩
  obtain⟨o,es,he⟩:=this;rw[he]at hx;cases hx
def sK(dc:rT P L Gm)(hS:sJ Stop){n:Nat}{g:aZ}{w:ae}{x:aZ×ae}(hI:Inv P L Gm [gy] g w)(hx:jY P n g w=so x)(hs:Stop x.1 x.2)(hn:¬Stop g w):
  ∃n' g1 w1 es,n=n'+1/\¬pe [gy] g/\stepG P true g w=.go g1 w1 es/\Inv P L Gm [gy] g1 w1/\jY P n' g1 w1=so x:=by
 cases n with
 |zero =>
  simp only[jY,aA]at hx;rw[<- hx]at hs;exact absurd hs hn
 |succ n =>
  have hb:¬pe [gy] g:=λhb=>Fc hb ⟨w,hI⟩ dc n w x hx (hS.base _ _ hs);have mm:=hx;simp only[jY]at hx;cases eH:stepG P true g w with
  |go g1 w1 es =>
   rw[eH]at hx;simp only[]at hx;refine⟨n,g1,w1,es,rfl,hb,rfl,?_,hx⟩;rcases hI.next dc hb eH with h|h
   ·exact h
   ·exfalso;obtain⟨ch,hm⟩:=(Cq n g1 w1 x h hx).mode;have⟨fr,e,hr⟩:=hS.base _ _ hs;rw[e]at hm;simp only[G]at hm;rw[hr]at hm;cases hm
  |_=>rw[eH]at hx;cases hx
def LB(dc:rT P L Gm)(hS:sJ Stop):∀(n:Nat) (g:aZ) (w:ae) (x:aZ×ae),Inv P L Gm [gy] g w->jY P n g w=so x->Stop x.1 x.2 ->
  ∀τ d,(∀j q,τ (d+j) q=w.tape (w.drawn+j) q)->∃n' x',jY P n' g (WT w τ d)=so x'/\Stop x'.1 x'.2:=by
 intro n
 induction n with
 |zero =>
  intro g w x hI hx hs τ d _;simp only[jY,aA]at hx;subst hx;exact⟨0,_,rfl,hS.tape _ _ τ d hs⟩
 |succ n ih =>
  intro g w x hI hx hs τ d hA;by_cases hn:Stop g w
  ·exact⟨0,_,rfl,hS.tape _ _ τ d hn⟩
  ·have⟨n',g1,w1,es,e1,hb,eH,ZZ,xy⟩:=sK dc hS hI hx hs hn;obtain rfl:n=n':=aa;have⟨c,hc,hk⟩:=hI.Fb dc hb;have h1:=hc τ d (λj _ q=>hA j q);rw[eH]at h1 hk;have⟨n2,x2,h2,h3⟩:=ih g1 w1 x ZZ xy hs τ (d+c) (λj q=>by
    rw[hk.1,hk.2.1,dS,dS];exact hA (c+j) q)
   refine⟨n2+1,x2,?_,h3⟩;simp only[jY,h1,gre];exact h2
end
end
section
open Go.Conc (G)
section
variable {P:Program}{L:Nat->Bool}{Gm:Nat}{Stop:aZ->ae->Prop}
def zw(dc:rT P L Gm)(hS:sJ Stop){g g1:aZ}{w w1:ae}{es:Array Event}{τ:Tape}{d:Nat}(hI:Inv P L Gm [gy] g w)(hG:Good P Stop g w)(hn:¬Stop g w)(eH:stepG P true g (WT w τ d)=.go g1 w1 es):
  ¬pe [gy] g/\Inv P L Gm [gy] g1 w1/\Good P Stop g1 w1:=by
 have hnT:∀τ d,¬Stop g (WT w τ d):=λτ d h=>hn (hS.back h);have⟨n,x,hx,hs⟩:=hG τ d;have⟨n',g1',w1',mh,e1,hb,Ep,ZZ,xy⟩:=sK dc hS (hI.WT τ d) hx hs (hnT τ d);rw[eH]at Ep;cases Ep;refine⟨hb,ZZ,λD3 d'=>?_⟩;obtain⟨c,hc,hk⟩:=(hI.WT τ d).Fb dc hb;have hA:gf (WT w τ d) c (λj q=>if j<c then τ (d+j) q else D3 (d'+(j-c)) q) 0:=by
  intro j hj q;simp only[Nat.zero_add,hj,if_true];rfl
 have h1:=hc _ 0 hA;rw[eH,NI]at h1;simp only[gre,Nat.zero_add]at h1;have⟨m,y,hy,hys⟩:=hG (λj q=>if j<c then τ (d+j) q else D3 (d'+(j-c)) q) 0;have⟨m',g2,w2,es2,_,_,Er,hI2,hy2⟩:=sK dc hS (hI.WT _ 0) hy hys (hnT _ 0);rw[h1]at Er;cases Er;have⟨k,z,hz,Z0⟩:=LB dc hS m' g1 _ y hI2 hy2 hys D3 d' (λj q=>by
  simp only[WT];rw[if_neg aa]
  congr 1
  omega)
 exact⟨k,z,hz,Z0⟩
def Nx(P:Program)(Stop:aZ->ae->Prop)(y x:aZ×ae):Prop:=¬Stop x.1 x.2/\∃τ d es,stepG P true x.1 (WT x.2 τ d)=.go y.1 y.2 es
def Iu(dc:rT P L Gm)(hS:sJ Stop){g:aZ}{w:ae}(hI:Inv P L Gm [gy] g w)(hG:Good P Stop g w):Acc (Nx P Stop) (g,w):=by
 refine aN λhna=>?_;have next:∀x:{x:aZ×ae // Inv P L Gm [gy] x.1 x.2/\Good P Stop x.1 x.2/\¬Acc (Nx P Stop) x},∃y:{x:aZ×ae // Inv P L Gm [gy] x.1 x.2/\Good P Stop x.1 x.2/\¬Acc (Nx P Stop) x},Nx P Stop y.1 x.1:=by
  rintro⟨x,hxI,hxG,hxA⟩;have:∃y,Nx P Stop y x/\¬Acc (Nx P Stop) y:=by
   refine aN λh=>hxA ?_;exact Acc.intro x λy hy=>aN λhc=>h ⟨y,hy,hc⟩
  obtain⟨y,hy,hyA⟩:=this;obtain⟨hn,τ,d,es,eH⟩:=hy;have⟨_,h1,h2⟩:=zw dc hS hxI hxG hn eH;exact⟨⟨y,h1,h2,hyA⟩,hn,τ,d,es,eH⟩
 have⟨nx,A7⟩:=eI next
 let seq:Nat->{x:aZ×ae // Inv P L Gm [gy] x.1 x.2/\Good P Stop x.1 x.2/\¬Acc (Nx P Stop) x}:=λn=>Nat.rec ⟨(g,w),hI,hG,hna⟩ (λ_ x=>nx x) n;have wV:∀n,Nx P Stop (seq (n+1)).1 (seq n).1:=λn=>A7 (seq n);have hn:∀n,¬Stop (seq n).1.1 (seq n).1.2:=λn=>(wV n).1;obtain⟨τ,hτ⟩:=eI (λn=>(wV n).2);have⟨d,hd⟩:=eI hτ;have⟨es,Iv⟩:=eI hd;have hdr:∀n,∃c,(∀D3 d',gf (WT (seq n).1.2 (τ n) (d n)) c D3 d'->stepG P true (seq n).1.1 (WT (seq n).1.2 D3 d')=.go (seq (n+1)).1.1 (WT (seq (n+1)).1.2 D3 (d'+c)) (es n)):=by
  intro n;have hb:=(zw dc hS (seq n).2.1 (seq n).2.2.1 (hn n) (Iv n)).1;obtain⟨c,hc,_⟩:=((seq n).2.1.WT (τ n) (d n)).Fb dc hb;refine⟨c,λD3 d' hA=>?_⟩;have:=hc D3 d' hA;rw[Iv n,NI]at this;exact this
 have⟨c,hc⟩:=eI hdr;let D:Nat->Nat:=λn=>Nat.rec 0 (λk x=>x+c k) n;have hD:∀n,D (n+1)=D n+c n:=λn=>rfl;have NJ:∀m n,m<=n->D m<=D n:=by
  intro m n h
  induction n with
  |zero =>
   obtain rfl:m=0:=aa;exact ah _
  |succ n ih =>
   rcases cd m (n+1)with h1|h1
   ·have:=ih aa;rw[hD];omega
   ·obtain rfl:m=n+1:=aa;exact ah _
 have acW:∀m n j,D m<=j->j<D (m+1)->D n<=j->j<D (n+1)->m=n:=by
  intro m n j h1 h2 h3 h4;rcases fZ m n with h|h|h
  ·have:=NJ (m+1) n h;omega
  ·exact h
  ·have:=NJ (n+1) m h;omega
 have acX:∃T:Tape,∀n j,j<c n->∀q,T (D n+j) q=τ n (d n+j) q:=by
  classical
  refine⟨λi q=>if h:∃n,D n<=i/\i<D (n+1)then τ h.choose (d h.choose+(i-D h.choose)) q else 0,?_⟩;intro n j hj q;have h:∃k,D k<=D n+j/\D n+j<D (k+1):=⟨n,aa,by rw[hD];omega⟩;have e:h.choose=n:=acW _ _ (D n+j) h.choose_spec.1 h.choose_spec.2 aa (by rw[hD];omega);simp only[h,dif_pos];rw[e]
  congr 1
  omega
 obtain⟨T,hT⟩:=acX;have cJ:∀k n,jY P k (seq n).1.1 (WT (seq n).1.2 T (D n))=so ((seq (n+k)).1.1,WT (seq (n+k)).1.2 T (D (n+k))):=by
  intro k
  induction k with
  |zero=>intro n;rfl
  |succ k ih =>
   intro n;have hs:=hc n T (D n) (λj hj q=>hT n j hj q);simp only[jY,hs];have:=ih (n+1);rw[show n+1+k=n+(k+1) by omega]at this;rw[<- hD];exact this
 have⟨k,x,hx,hs⟩:=hG T 0;have h0:=cJ k 0;simp only[Nat.zero_add]at h0;have e0:jY P k g (WT w T 0)=so ((seq k).1.1,WT (seq k).1.2 T (D k)):=h0;rw[e0]at hx;cases hx;exact hn k (hS.back hs)
end
end
section
open Go.Conc (G)
section
variable {P:Program}{L:Nat->Bool}{Gm:Nat}{Stop:aZ->ae->Prop}
def pf{fr:Frame}{cs:List Frame}{w w1:ae}{g1:aZ}{es:Array Event}{HL:Frame}{tE:List Frame}(h:stepG P true (G fr cs) w=.go g1 w1 es)(e:g1=G HL tE):step P (lone fr cs w)=.next (lone HL tE w1):=by
 subst e;refine step_lone_go ?_;show(stepG P true (G fr cs) w).bare=_;rw[h];rfl
def ku{fr:Frame}{cs:List Frame}{w w1:ae}{o:Outcome}{es:Array Event}(h:stepG P true (G fr cs) w=.ended o w1 es):step P (lone fr cs w)=.ended o w1:=by
 refine step_lone_ended ?_;show(stepG P true (G fr cs) w).bare=_;rw[h];rfl
def Iw{fr ND:Frame}{cs D4:List Frame}{w w':ae}(h:lone fr cs w=lone ND D4 w'):fr=ND/\cs=D4/\w=w':=by
 simp only[lone,Machine.mk.injEq,Array.mk.injEq,cy,Goroutine.mk.injEq,and_true]at h;exact⟨h.2.1,h.2.2,h.1⟩
def Pq(dc:rT P L Gm){ND:Frame}{w':ae}(hm:ND.mode=.returning):∀(n:Nat) (fr:Frame) (cs:List Frame) (w:ae),(Inv P L Gm [gy] (G fr cs) w\/AD P (G fr cs)) ->
  runN P n (lone fr cs w)=.next (lone ND [gy] w')->jY P n (G fr cs) w=so (G ND [gy],w'):=by
 intro n
 induction n with
 |zero =>
  intro fr cs w _ h;simp only[runN,Stepped.next.injEq]at h;obtain⟨rfl,rfl,rfl⟩:=Iw h;rfl
 |succ n ih =>
  intro fr cs w hI h;simp only[runN]at h;rcases hI with hI|hF
  ·by_cases hb:pe [gy] (G fr cs)
   ·exfalso;obtain⟨F,HL,ab,wT,abr,wr,hg,h2,h3,_⟩:=hI;obtain⟨fr2,e1,VH⟩:=hb;simp only[G,Goroutine.mk.injEq]at hg e1;obtain⟨rfl,Pr,_⟩:=hg;obtain⟨rfl,rfl,_⟩:=e1;have⟨AA,rY,_⟩:=dc.body _ h2.fn;obtain⟨hd,tu,hk,rG,Ir,_⟩:=h2;obtain⟨fn,tmps,todo,defers,mode,kind,ro⟩:=fr;simp only at hd tu hk VH rY;subst hd tu hk VH;rcases hr:(results AA tmps).runT P w #[] with⟨r,el⟩;cases r with
    |ok v w1 =>
     have eH:stepG P true (G (Fr fn tmps todo .returning) [gy]) w=.go (G gy []) w1 (seen P fn el):=by
      simp only[G,stepG,unwind,rY,hr,GStep.after,doReturn,cv];rfl
     rw[pf eH rfl]at h;simp only[]at h;cases n with
     |zero =>
      simp only[runN,Stepped.next.injEq]at h;have:=(Iw h).2.1;simp at this
     |succ n =>
      have:∃o es,stepG P true (G gy []) w1=.ended o w1 es:=⟨_,_,by simp only[G,stepG,gy,stepG.exec];rfl⟩;obtain⟨o,es,he⟩:=this;simp only[runN,ku he]at h;cases h
    |halt hh w1 =>
     have:∃o es,stepG P true (G (Fr fn tmps todo .returning) [gy]) w=.ended o w1 es:=by
      cases hh<;>exact⟨_,_,by simp only[G,stepG,unwind,rY,hr,GStep.after];rfl⟩
     obtain⟨o,es,he⟩:=this;rw[ku he]at h;cases h
   ·have⟨c,_,hk⟩:=hI.Fb dc hb;cases eH:stepG P true (G fr cs) w with
    |go g1 w1 es =>
     have A7:=hI.next dc hb eH
     obtain⟨HL,tE,e⟩:∃HL tE,g1=G HL tE:=by
      rcases A7 with hx|hx
      ·obtain⟨F,HL,ab,wT,abr,wr,hg,_⟩:=hx;exact⟨_,_,hg⟩
      ·rcases hx with⟨ab,HL,ch,hg,_⟩|⟨ch,hg⟩<;>exact⟨_,_,hg⟩
     rw[pf eH e]at h;subst e;simp only[jY,eH];exact ih HL tE w1 A7 h
    |ended o w1 es=>rw[ku eH]at h;cases h
    |_=>rw[eH]at hk;exact hk.elim
  ·rcases Cp hF w with⟨o,w1,es,eH⟩|⟨g1,w1,es,eH,lz⟩
   ·rw[ku eH]at h;cases h
   ·obtain⟨HL,tE,e⟩:∃HL tE,g1=G HL tE:=by
     rcases lz with⟨ab,HL,ch,hg,_⟩|⟨ch,hg⟩<;>exact⟨_,_,hg⟩
    rw[pf eH e]at h;subst e;simp only[jY,eH];exact ih HL tE w1 (.inr lz) h
def kR(P:Program)(Bq:FuncId)(Q:Value->ae->Prop)(g:aZ)(w:ae):Prop :=
 ∃fr v,g=G fr [gy]/\fr.fn=Bq/\fr.mode=.returning/\∀τ d,fr.leaving P (WT w τ d) (.returned v)/\Q v (WT w τ d)
def Br(Bq:FuncId)(Q:Value->ae->Prop):sJ (kR P Bq Q) where
 base g w h:=let ⟨fr,v,e,_,hm,_⟩:=h;⟨fr,e,hm⟩
 tape g w τ d h:=let ⟨fr,v,e,h1,hm,h2⟩:=h;⟨fr,v,e,h1,hm,λD3 d'=>by rw[NI];exact h2 D3 d'⟩
def LC(Q:Value->ae->Prop):Prop:=∀v w τ d,Q v w->Q v (WT w τ d)
def Ps(dc:rT P L Gm):∀(n:Nat) (g:aZ) (w:ae) (x:aZ×ae),Inv P L Gm [gy] g w->jY P n g w=so x->pe [gy] x.1->Inv P L Gm [gy] x.1 x.2:=by
 intro n
 induction n with
 |zero=>intro g w x hI hx _;simp only[jY,aA]at hx;rw[<- hx];exact hI
 |succ n ih =>
  intro g w x hI hx hb;have Gv:¬pe [gy] g:=λh=>Fc h ⟨w,hI⟩ dc n w x hx hb;simp only[jY]at hx;cases eH:stepG P true g w with
  |go g1 w1 es =>
   rw[eH]at hx;simp only[]at hx;rcases hI.next dc Gv eH with h|h
   ·exact ih g1 w1 x h hx hb
   ·exfalso;obtain⟨ch,hm⟩:=(Cq n g1 w1 x h hx).mode;obtain⟨fr,e,hr⟩:=hb;rw[e]at hm;simp only[G]at hm;rw[hr]at hm;cases hm
  |_=>rw[eH]at hx;cases hx
def wo(dc:rT P L Gm){Bq:FuncId}{args:Array Value}{w:ae}{Q:Value->ae->Prop}(hQ:LC Q)(hI:Inv P L Gm [gy] (G (Frame.enter P Bq args .normal) [gy]) w)(hC:∀τ d,Calls P Bq args (WT w τ d) λe w'=>∃v,e=.returned v/\Q v w'):Good P (kR P Bq Q) (G (Frame.enter P Bq args .normal) [gy]) w:=by
 intro τ d;obtain⟨e,w',fr,⟨v,rfl,hv⟩,Z1,rG,hlv⟩:=hC τ d [gy];obtain⟨n,hn⟩:=Z1;have hm:fr.mode=.returning:=hlv.1;have hl:=Pq dc hm n _ _ _ (.inl (hI.WT τ d)) hn;have hI':=Ps dc n _ _ _ (hI.WT τ d) hl ⟨fr,rfl,hm⟩;refine⟨n,_,hl,fr,v,rfl,rG,hm,λD3 d'=>⟨?_,hQ v w' D3 d' hv⟩⟩;obtain⟨_,hd,hk,AA,rY,tF⟩:=hlv;refine⟨hm,hd,hk,AA,rY,?_⟩;obtain⟨F,HL,ab,wT,abr,wr,hg,h2,h3,h4,W,vN,hp⟩:=hI';simp only[G,Goroutine.mk.injEq]at hg;obtain⟨rfl,_⟩:=hg;have⟨f0,kL⟩:=W.some;have hrel:=qW (PF.ok hp dc kL) AA fr.tmps;have⟨c,h5,h6,h7⟩:=wU _ _ w' #[] hrel;have lA:((results AA fr.tmps).runT P w' #[]).1=.ok v w':=by rw[Sem.runT_fst];exact tF
 rw[lA]at h6 h7;have Pt:c=0:=by simp only[Cj]at h6;omega
 subst Pt;have h8:=h7 D3 d' (λj hj=>aa);rw[<- Sem.runT_fst P (results AA fr.tmps) (WT w' D3 d') #[],h8];rfl
end
end
section
open Go.Conc (G)
def xX(P:Program)(L:Nat->Bool)(Gm:Nat)(Stop:aZ->ae->Prop)(csr:List Frame)(F:jC)(x:aZ×ae)(gr:aZ)(wr:ae):Prop :=
 ∃fr ab wT abr,x.1=G fr (ab++[gy])/\gr=G wT (abr++csr)/\vM Gm L fr/\(∀c∈ab,vM Gm L c)/\(∀f,F.has f->wT=frame f fr/\abr=ab.map (frame f)) /\
  WR F x.2 wr/\fI x.2/\PF P L Gm F/\Good P Stop x.1 x.2
structure LD(F:jC)(wr oz:ae):Prop where
 size:wr.heap.size<=oz.heap.size
 heap:∀r,F.K r->oz.heap[F.φ r]?=wr.heap[F.φ r]?
 os:oz.os=wr.os
 output:oz.output=wr.output
section
variable {P:Program}{L:Nat->Bool}{Gm:Nat}{Stop:aZ->ae->Prop}{csr:List Frame}{F:jC}
def Good.WT{g:aZ}{w:ae}(h:Good P Stop g w)(τ:Tape)(d:Nat):Good P Stop g (WT w τ d):=λD3 d'=>h D3 d'
def xX.inv{x:aZ×ae}{gr:aZ}{wr:ae}(h:xX P L Gm Stop csr F x gr wr):Inv P L Gm [gy] x.1 x.2:=by
 obtain⟨fr,ab,wT,abr,h1,h2,h3,h4,h5,W,hn,hp,hg⟩:=h;exact⟨F,fr,ab,wT,abr,wr,h1,h3,h4,h5,W,hn,hp⟩
def xX.others{x:aZ×ae}{gr:aZ}{wr oz:ae}(h:xX P L Gm Stop csr F x gr wr)(ho:LD F wr oz):xX P L Gm Stop csr F (x.1,WT x.2 oz.tape oz.drawn) gr oz:=by
 obtain⟨fr,ab,wT,abr,h1,h2,h3,h4,h5,W,hn,hp,hg⟩:=h;refine⟨fr,ab,wT,abr,h1,h2,h3,h4,h5,⟨W.here,λr hr=>bz (W.there r hr) ho.size,W.inj,λr hr f hf=>?_,W.RF,ho.os.trans W.os,ho.output.trans W.output,rfl,rfl,W.A3,aY W.Gc ho.size,W.Ed⟩,fI.heap hn rfl,hp,hg.WT _ _⟩;rw[ho.heap r hr];exact W.tO r hr f hf
def xX.step(dc:rT P L Gm)(hS:sJ Stop){x:aZ×ae}{gr:aZ}{wr:ae}(h:xX P L Gm Stop csr F x gr wr)(Yz:¬Stop x.1 x.2)(m':Bool):
  ∃y F' RJ oz es,stepG P m' gr wr=.go RJ oz es/\Nx P Stop y x/\xX P L Gm Stop csr F' y RJ oz/\fu F F' x.2 wr y.2 oz/\(∀e∈es,xD F' e)/\∀f,F'.has f->F.has f:=by
 have hI:=h.inv;obtain⟨fr,ab,wT,abr,h1,h2,h3,h4,h5,W,hn,hp,hg⟩:=h;obtain⟨g,w⟩:=x;simp only at h1 W hn hg hI Yz;subst h1 h2;have⟨n,z,hz,Z0⟩:=hg w.tape w.drawn;rw[xW]at hz;have⟨n',g1,w1,es,_,hb,eH,ZZ,_⟩:=sK dc hS hI hz Z0 Yz;have hm:g1.frame.mode=.run\/g1.frame.mode=.returning:=by
  obtain⟨F1,HL,ab1,_,_,_,HM,Gw,_⟩:=ZZ;rw[HM];exact Gw.mode
 have Wk:ab≠[]\/fr.mode=.run:=by
  rcases h3.mode with hm|hm
  ·exact .inr hm
  ·exact .inl λe=>hb ⟨fr,by rw[e];rfl,hm⟩
 have⟨F',ND,ZQ,Lv,Lw,p9,mh,e1,e2,e3,e4,e5,e6,e7,e8,e9,KU,Pp⟩:=Iq dc hp W hn (m':=m') (csr:=csr) h3 h4 h5 eH (Co ZZ).1 (Co ZZ).2 hm Wk;have hG1:Good P Stop g1 w1:=(zw dc hS (τ:=w.tape) (d:=w.drawn) hI hg Yz (by rw[xW];exact eH)).2.2;exact⟨(g1,w1),F',G Lv (Lw++csr),p9,mh,e4,⟨Yz,w.tape,w.drawn,es,by rw[xW];exact eH⟩,⟨ND,ZQ,Lv,Lw,e1,rfl,e2,e3,e5,e6,Pp,e9,hG1⟩,e7,e8,KU⟩
def xX.ret(dc:rT P L Gm){Bq:FuncId}{Q:Value->ae->Prop}{c:Frame}{cs:List Frame}{x:aZ×ae}{gr:aZ}{wr:ae}(h:xX P L Gm (kR P Bq Q) (c::cs) F x gr wr)(hs:kR P Bq Q x.1 x.2)(m':Bool):
  ∃v v' F' oz es,stepG P m' gr wr=.go (G (c.finish v') cs) oz es/\Q v x.2/\(∀f,F'.has f->v'=val f v)/\WR F' x.2 oz/\fu F F' x.2 wr x.2 oz/\(∀e∈es,xD F' e)/\∀f,F'.has f->F.has f:=by
 obtain⟨fr,ab,wT,abr,h1,h2,h3,h4,h5,W,hn,hp,hg⟩:=h;obtain⟨HL,v,e1,_,hm,hlv⟩:=hs;have acZ:=hlv x.2.tape x.2.drawn;rw[xW]at acZ;rw[h1]at e1;simp only[G,Goroutine.mk.injEq]at e1;obtain⟨rfl,Pr,_⟩:=e1;have rU:ab=[]:=by
  have:=congrArg List.length Pr;simp at this;exact this
 subst rU;have⟨f0,kL⟩:=W.some;have nJ:abr=[]:=(h5 f0 kL).2;subst nJ;subst h2;obtain⟨⟨_,_,_,AA,rY,tF⟩,hQ⟩:=acZ;obtain⟨hd,tu,hk,rG,Ir,_⟩:=h3;obtain⟨fn,tmps,todo,defers,mode,kind,ro⟩:=fr;simp only at hd tu hk hm rY tF;subst hd tu hk hm;obtain⟨tr,Em,wm⟩:∃tr,wT=Fr fn tr todo .returning/\∀f,F.has f->tr=tmps.map (val f):=by
  refine⟨tmps.map (val f0),(h5 f0 kL).1,λf hf=>?_⟩;have:=(h5 f0 kL).1.symm.trans (h5 f hf).1;simp only[frame,Frame.mk.injEq]at this;exact this.2.1
 subst Em;have hrel:∀f,F.has f->Rel P f (V f) (results AA tmps) (results AA tr):=by
  intro f hf;rw[wm f hf];exact qW (PF.ok hp dc hf) AA tmps
 have hC:=xF (λf=>V f) _ _ F x.2 wr #[] #[] hrel W;rw[Sem.runT_fst,tF]at hC;obtain⟨F',v',oz,ZS,c1,c2,c3,c4,c5,c6⟩:=hC;refine⟨v,v',F',oz,seen P fn ZS,?_,hQ,c2,c3,c4,?_,c6⟩
 ·simp only[G,stepG,unwind,rY,c1,List.nil_append,GStep.after,doReturn,cv]
 ·intro e he;obtain⟨new,rfl,zu⟩:=c5;have:=Cd P fn _ e he;exact zu e (by simpa using this)
end
end
open Go.Conc
section
open Go.ConcN (sumTo upd sumTo_upd upd_ne upd_same)
def uf(S:Nat->Prop):Loc->Prop
 | .cell a=>S a.block
 |_=>False
def Fe{S:Nat->Prop}{B:Nat}{F:jC}(hF:∀r,F.K r->¬S (F.φ r)/\F.φ r<B){e:Event}(h:xD F e):EvL (uf S) B e:=by
 obtain⟨loc,wt,sy⟩:=e;cases loc with
 |cell a =>
  obtain⟨r,h1,h2⟩:=h;have hf:=hF r h1;rw[h2]at hf;refine⟨λx hx hs=>?_,ar,ar,?_⟩
  ·simp only[MemAct.ofEvent,MemAct.touch?,aA]at hx;subst hx;exact absurd hs hf.1
  ·exact hf.2
 |obj b =>
  obtain⟨r,h1,h2⟩:=h;have hf:=hF r h1;rw[h2]at hf;refine⟨λx hx hs=>?_,ar,ar,?_⟩
  ·cases wt<;>cases sy<;>simp only[MemAct.ofEvent,MemAct.touch?,aA]at hx;all_goals first|cases hx;done|skip
   all_goals (subst hx;exact hs.elim)
  ·cases wt<;>cases sy<;>exact hf.2
 |output =>
  refine⟨λx hx hs=>?_,ar,ar,trivial⟩;simp only[MemAct.ofEvent,MemAct.touch?,aA]at hx;subst hx;exact hs.elim
 |goroutines =>
  refine⟨λx hx hs=>?_,ar,ar,trivial⟩;simp only[MemAct.ofEvent,MemAct.touch?,aA]at hx;subst hx;exact hs.elim
 |mark m =>
  have hd:Lg m=true:=h;cases m<;>first|exact Bool.noConfusion hd|skip
  all_goals
   refine⟨λx hx hs=>?_,ar,ar,trivial⟩;simp only[MemAct.ofEvent,MemAct.touch?]at hx;cases hx
section
variable {P:Program}{L:Nat->Bool}{Gm:Nat}
def Ff{F:jC}{w:ae}(d:Nat):LD F w (w.at d):=⟨ah _,λ_ _=>rfl,rfl,rfl⟩
def YA{Stop:aZ->ae->Prop}(hS:sJ Stop){y:aZ×ae}{g:aZ}{w:ae}{τ:Tape}{d:Nat}(h:Nx P Stop y (g,WT w τ d)):Nx P Stop y (g,w):=by
 obtain⟨hn,D3,d',es,eH⟩:=h;exact⟨λhs=>hn (hS.tape _ _ _ _ hs),D3,d',es,eH⟩
def xY{Stop:aZ->ae->Prop}{csr:List Frame}{F:jC}{x:aZ×ae}{gr:aZ}{w:ae}(h:xX P L Gm Stop csr F x gr w):gr.status=.running:=by
 obtain⟨fr,ab,wT,abr,h1,rfl,_⟩:=h;rfl
def Ix(dc:rT P L Gm){Bq:FuncId}{Q:Value->ae->Prop}{c:Frame}{cs:List Frame}{S:Nat->Prop}(x:aZ×ae)(Gy:Acc (Nx P (kR P Bq Q)) x):
  ∀(M B:Nat) (gs:Array aZ) (gr:aZ) (w:ae) (sl:Option (Nat×Nat)) (t:Trace) (q:Nat->Nat) (F:jC),sumTo gs.size q<M->gs[0]?=so gr->Leavers P t gs q->w.heap.size<=B->Past (uf S) B t ->
   (∀r,F.K r->¬S (F.φ r))->(∀b,w.heap.size<=b->¬S b)->xX P L Gm (kR P Bq Q) (c::cs) F (x.1,WT x.2 w.tape w.drawn) gr w ->
   ∃(N:Nat) (gH:Array aZ) (w' aX:ae) (rZ:Option (Nat×Nat)) (t':Trace) (q':Nat->Nat) (B':Nat) (F':jC) (v v':Value),
    runNT P N (crowd gs w sl) t=(.next (crowd gH w' rZ),t')/\gH.size=gs.size/\gH[0]?=so (G (c.finish v') cs)/\Leavers P t' gH q'/\w'.heap.size<=B'/\Past (uf S) B' t' /\
    Q v aX/\(∀f,F'.has f->v'=val f v)/\WR F' aX w'/\fu F F' x.2 w aX w'/\(∀f,F'.has f->F.has f)/\(∀r,F'.K r->¬S (F'.φ r))/\(∀b,w'.heap.size<=b->¬S b):=by
 have hS:=Br (P:=P) Bq Q
 induction Gy with
 |intro x _ ih =>
 intro M
 induction M with
 |zero =>
  intro B gs gr w sl t q F hM;exact absurd hM (er _)
 |succ M ihM =>
  intro B gs gr w sl t q F hM h0 hL hB hP hK hSb Pu;have cJ:=xY Pu;have YB:∀g∈gs,awake g:=by
   intro g hg;obtain⟨i,hi,rfl⟩:=aaS.1 hg;rcases bg i with rfl|mO
   ·have:gs[0]=gr:=by simpa[Array.getElem?_eq_getElem hi] using h0
    rw[this];exact awake_of (.inl cJ)
   ·exact awake_of ((hL.old i _ mO (aO hi)).status.elim .inl λx=>.inr (.inr x))
  have⟨i,g,d,rZ,hi,hg,eH⟩:=crowd_pick (P:=P) (w:=w) (sl:=sl) YB ⟨0,gr,h0,cJ⟩;rcases bg i with rfl|mO
  ·
   obtain rfl:g=gr:=by rw[h0]at hi;exact(aT hi).symm
   have Pv:=Pu.others (Ff (F:=F) (w:=w) d);have cx:0<gs.size:=(aad.1 h0).1;have Sl:∀(a':aZ) (w':ae) (es:Array Event),Leavers P (t++MemOp.ofEvents 0 g.frame.fn g.frame.place es) ((gs.map (woken P g a' w')).setIfInBounds 0 a') q:=by
    intro a' w' es;refine⟨λj x hj hx=>?_,λj hj=>?_⟩
    ·have dE:0≠j:=aa;rw[aU dE,aL]at hx;obtain⟨y,hy,rfl⟩:=aaf.1 hx;have hq:=hL.old j y hj hy;rw[woken_quitsD hq,Deaf_other t aa _ (λop eW=>by obtain⟨e,_,rfl⟩:=Go.Conc.mem_ofEvents eW;rfl)];exact hq
    ·rw[Deaf_other t (g':=0) (by simp at hj;omega) _ (λop eW=>by obtain⟨e,_,rfl⟩:=Go.Conc.mem_ofEvents eW;rfl)];exact hL.above j (by simpa using hj)
   by_cases hs:kR P Bq Q x.1 x.2
   ·
    have⟨v,v',F',oz,es,e1,e2,e3,e4,e5,e6,e7⟩:=Pv.ret dc (hS.tape _ _ _ _ hs) true;have ug:=runT_crowd_go (P:=P) (sl:=rZ) (i:=0) hi (show stepG P (0==0) g (w.at d)=_ from e1);have hK':∀r,F'.K r->¬S (F'.φ r):=by
     intro r hr;rcases e5.wM r hr with h|h
     ·rw[e5.φ r h];exact hK r h
     ·exact hSb _ h.2
    have nz:∀r,F'.K r->F'.φ r<B+oz.heap.size+1:=λr hr=>by have:=e4.there r hr;omega
    refine⟨1,(gs.map (woken P g (G (c.finish v') cs) oz)).setIfInBounds 0 (G (c.finish v') cs),oz,_,rZ,t++MemOp.ofEvents 0 g.frame.fn g.frame.place es,q,B+oz.heap.size+1,F',v,v',by simp only[runNT,eH,ug],ar,by simp[cx],Sl _ _ es,aa,(hP.mono aa).own (λe he=>Fe (λr hr=>⟨hK' r hr,nz r hr⟩) (e6 e he)),e2,e3,e4,?_,e7,hK',?_⟩
    ·exact⟨e5.K,e5.φ,e5.L,e5.wM,ah _,e5.size,e5.mine,e5.rest,e5.G,e5.A3,e5.R7,e5.BO,e5.same⟩
    ·intro b hb;exact hSb b (aY e5.size hb)
   ·have⟨y,F',RJ,oz,es,e1,e2,e3,e4,e5,e6⟩:=Pv.step dc hS (λh=>hs (hS.back h)) true;have ug:=runT_crowd_go (P:=P) (sl:=rZ) (i:=0) hi (show stepG P (0==0) g (w.at d)=_ from e1);have hK':∀r,F'.K r->¬S (F'.φ r):=by
     intro r hr;rcases e4.wM r hr with h|h
     ·rw[e4.φ r h];exact hK r h
     ·exact hSb _ h.2
    have tG:WR F' y.2 oz:=by obtain⟨_,_,_,_,_,_,_,_,_,hW,_⟩:=e3;exact hW
    have nz:∀r,F'.K r->F'.φ r<B+oz.heap.size+1:=λr hr=>by have:=tG.there r hr;omega
    have hyt:(y.1,WT y.2 oz.tape oz.drawn)=y:=by rw[tG.tape,tG.drawn];rfl
    have fy:((gs.map (woken P g RJ oz)).setIfInBounds 0 RJ).size=gs.size:=ar;have⟨N,gH,w',aX,Wm,t',q',B',F2,v,v',k1,k2,k3,k4,k5,k6,k7,k8,k9,Iy,k11,k12,k13⟩:=ih y (YA hS e2) (sumTo gs.size q+1) (B+oz.heap.size+1) ((gs.map (woken P g RJ oz)).setIfInBounds 0 RJ) RJ oz rZ (t++MemOp.ofEvents 0 g.frame.fn g.frame.place es) q F' (by rw[fy];exact bJ _) (by simp[cx]) (Sl RJ oz es) aa
     ((hP.mono aa).own (λe he=>Fe (λr hr=>⟨hK' r hr,nz r hr⟩) (e5 e he))) hK' (λb hb=>hSb b (aY e4.size hb)) (by rw[hyt];exact e3)
    refine⟨N+1,gH,w',aX,Wm,t',q',B',F2,v,v',by simp only[runNT,eH,ug];exact k1,k2.trans fy,k3,k4,k5,k6,k7,k8,k9,?_,λf hf=>e6 f (k11 f hf),k12,k13⟩;have:=e4.trans Iy;exact⟨this.K,this.φ,this.L,this.wM,this.BN,this.size,this.mine,this.rest,this.G,this.A3,this.R7,this.BO,this.same⟩
  ·
   have hq:=hL.old i g mO hi;have hi0:(i==0)=false:=eP;have cx:i<gs.size:=(aad.1 hi).1;cases Z2:q i with
   |zero=>rw[Z2]at hq;rw[hq.1]at hg;cases hg
   |succ k =>
    rw[Z2]at hq;rcases hq with⟨hf,_⟩|⟨_,g',es,hm,Z3,Bs⟩
    ·rw[hf]at hg;cases hg
    have ug:=runT_crowd_go (P:=P) (sl:=rZ) (i:=i) hi (by rw[hi0];exact Z3 (w.at d));have fy:((gs.map (woken P g g' (w.at d))).setIfInBounds i g').size=gs.size:=ar;have ahH:sumTo gs.size (upd q i k)+(k+1)=sumTo gs.size q+k:=by
     have:=sumTo_upd q k id cx;simpa[Z2] using this
    have⟨N,gH,w',aX,Wm,t',q',B',F2,v,v',k1,k2,k3,k4,k5,k6,k7,k8,k9,Iy,k11,k12,k13⟩:=ihM B ((gs.map (woken P g g' (w.at d))).setIfInBounds i g') gr (w.at d) rZ (t++MemOp.ofEvents i g.frame.fn g.frame.place es) (upd q i k) F (by rw[fy];omega)
     (by
      have dE:i≠0:=aa;rw[aU dE,aL,h0];simp[woken_run cJ])
     ⟨λj x hj hx=>by
      by_cases Bt:i=j
      ·subst Bt;rw[cj (by simpa using cx)]at hx;obtain rfl:=aT hx;rw[upd_same,Deaf_own];exact Bs
      ·rw[aU Bt,aL]at hx;obtain⟨y,hy,rfl⟩:=aaf.1 hx;have hqj:=hL.old j y hj hy;rw[woken_quitsD hqj,upd_ne q k (bq Bt),Deaf_other t Bt _ (λop eW=>by obtain⟨e,_,rfl⟩:=Go.Conc.mem_ofEvents eW;rfl)];exact hqj,λj hj=>by
      rw[Deaf_other t (g':=i) (by simp at hj;omega) _ (λop eW=>by obtain⟨e,_,rfl⟩:=Go.Conc.mem_ofEvents eW;rfl)];exact hL.above j (by simpa using hj)⟩
     hB (hP.mute aa hm) hK hSb (Pu.others (Ff (F:=F) (w:=w) d))
    exact⟨N+1,gH,w',aX,Wm,t',q',B',F2,v,v',by simp only[runNT,eH,ug];exact k1,k2.trans fy,k3,k4,k5,k6,k7,k8,k9,⟨Iy.K,Iy.φ,Iy.L,Iy.wM,Iy.BN,Iy.size,Iy.mine,Iy.rest,Iy.G,Iy.A3,Iy.R7,Iy.BO,Iy.same⟩,k11,k12,k13⟩
end
end
section
variable {P:Program}{f:Rn}{L:Nat->Bool}{Gm:Nat}
def Fg{n:Nat}{fn:Func}(hf:P.funcs[n]?=so fn)(hb:fn.body.isSome=true)(hn:(fn.name == "runtime.NumGoroutine")=false)(hL:L n=true)(args:Array Value):
  Rel P f (jc L f) (callFunc n args) (callFunc n (args.map (val f))):=by
 refine aj dU ?_;rintro _ _ ⟨rfl,rfl⟩;have nz:fn.body.isNone=false:=by cases h:fn.body<;>simp_all
 simp only[hf,hn,nz,aQ,if_false];exact aD ⟨rfl,hL,rfl⟩
def oB{n:Nat}{fn:Func}{e:Array Value->Sem Value}(hf:P.funcs[n]?=so fn)(hb:fn.body=we)(hn:(fn.name == "runtime.NumGoroutine")=false)(hx:(Extern.findNext fn).isNone=true)(he:Extern.find fn=so e)(hh:f.h n=n)(args:Array Value)(hr:Rel P f (V f) (e args) (e (args.map (val f)))):Rel P f (jc L f) (callFunc n args) (callFunc n (args.map (val f))):=by
 refine aj dU ?_;rintro _ _ ⟨rfl,rfl⟩;have mm:Extern.findNext fn=we:=by simpa using hx
 simp only[hf,hn,hb,mm,he,aQ,if_false,Option.isNone_none,if_true];refine aj (A:=λ_ _=>True) ?_ ?_
 ·have:=R9 (P:=P) (f:=f) (m:=.extern n) rfl;simp only[Le,hh]at this;exact this
 ·rintro _ _ _;exact aj hr (by rintro v _ rfl;exact aD rfl)
def xZ(args:Array Value):Rel P f (V f) (Extern.AbiNoEscape.same args) (Extern.AbiNoEscape.same (args.map (val f))):=by
 obtain⟨l⟩:=args;rcases l with _|⟨x,_|⟨y,l⟩⟩
 ·exact aF
 ·simp only[List.map_toArray,aC,aP];exact aD rfl
 ·exact aF
def Cr:∀(n:Nat) (a:Addr) (acc:af),Rel P f Eq (Extern.Bytes.loadBytes a n acc) (Extern.Bytes.loadBytes (addr f a) n acc):=by
 intro n
 induction n with
 |zero=>intro a acc;exact aD rfl
 |succ n ih =>
  intro a acc;unfold Extern.Bytes.loadBytes;refine aj (xG a) ?_;rintro v _ rfl;cases v<;>simp only[cI,cQ,cg,bH,bN,bj,bF,cV,cE,cF,bK,b6,bw,cR,b8]<;>first|exact aF|skip
  rename_i k b;cases k<;>first|exact aF|skip
  rw[<- kG];exact ih _ _
def AE(v:Value):Rel P f Eq (Extern.Bytes.bytesOf v) (Extern.Bytes.bytesOf (val f v)):=by
 cases v<;>simp only[cI,cQ,cg,bH,bN,bj,bF,cV,cE,cF,bK,b6,bw,cR,b8]<;>first|exact aF|exact aD rfl|skip
 rename_i a len cap;cases a with
 |none=>exact aD rfl
 |some a=>exact Cr _ _ _
def Iz(args:Array Value):Rel P f (V f) (Extern.BytealgCompare.compare args) (Extern.BytealgCompare.compare (args.map (val f))):=by
 obtain⟨l⟩:=args;rcases l with _|⟨x,_|⟨y,_|⟨z,l⟩⟩⟩
 ·exact aF
 ·exact aF
 ·simp only[List.map_toArray,aC,aP];refine aj (AE x) ?_;rintro a _ rfl;refine aj (AE y) ?_;rintro b _ rfl;exact aD (by simp[V,goInt])
 ·exact aF
def LF:∀(n t:Nat) (acc:Array Value),acc.map (val f)=acc->(Extern.BytealgMakeNoZero.digits n t acc).map (val f)=Extern.BytealgMakeNoZero.digits n t acc:=by
 intro n
 induction n with
 |zero=>intro t acc h;exact h
 |succ n ih=>intro t acc h;exact ih _ _ (by simp[Array.map_push,h])
def uh(hf:nF P f)(ps rs:Array TypeId)(args:Array Value):Rel P f (V f) (Extern.BytealgMakeNoZero.makeNoZero ps rs args) (Extern.BytealgMakeNoZero.makeNoZero ps rs (args.map (val f))):=by
 obtain⟨l⟩:=args;rcases l with _|⟨x,_|⟨y,l⟩⟩
 ·exact aF
 ·simp only[List.map_toArray,aC,aP];cases x<;>first|exact aF|skip
  rename_i k n;cases k<;>first|exact aF|skip
  rw[cQ];obtain⟨rl⟩:=rs;cases rl with
  |nil=>exact aF
  |cons t rl =>
   refine aj (bo t) ?_;rintro d _ ⟨rfl,_⟩;cases d<;>first|exact aF|skip
   refine fo (b9 hf _) ?_;refine aj (iK _) ?_;rintro c _ rfl;refine aj (tR _) ?_;rintro _ _ _;refine aj (iK _) ?_;rintro b _ rfl;refine aj (A:=AR f) (kr _ (LF _ _ _ ar).symm) ?_;rintro a _ rfl;exact aD (by simp[V])
 ·exact aF
end
def Pw{α β:Type}(I:β->Prop){g:α->β->Option (ForInStep β)}:∀(l:List α) (init r:β),(∀x∈l,∀a s,I a->g x a=so s->I s.value)->I init->forIn (m:=Option) l init g=so r->I r:=by
 intro l
 induction l with
 |nil=>intro init r _ hi h;simp only[List.forIn_nil]at h;cases h;exact hi
 |cons x l ih =>
  intro init r hg hi h;simp only[List.forIn_cons]at h;cases hx:g x init with
  |none=>rw[hx]at h;cases h
  |some s =>
   rw[hx]at h;have hs:=hg x ar init s hi hx;cases s with
   |done b=>cases h;exact hs
   |yield b=>exact ih b r (λy hy=>hg y (by simp[hy])) hs h
def Fh{cs:Array Value}(h:∀c∈cs,Plain c):Plain (.agg cs):=by
 intro f;rw[cR]
 congr 1
 apply ja
 ·simp
 ·intro i h1 h2;simp only[Array.getElem_map];exact h _ ar f
def AF{v:Value}(h:Plain v):∀c∈v.cells,Plain c:=by
 intro c hc f;have:=kI f v;rw[h f]at this;obtain⟨i,hi,rfl⟩:=aaS.1 hc;have e:=congrArg (λa:Array Value=>a[i]?) this;simp only[aL,Array.getElem?_eq_getElem hi,aJ,aA]at e;exact e.symm
def Cs(info:TypeId->Option TypeInfo):Prop:=∀t i z,info t=so i->i.zero=so z->Plain z
def Gz{info:TypeId->Option TypeInfo}(hi:Cs info)(d:TypeDesc){i:TypeInfo}{z:Value}(h:Made.reckon info d=so i)(hz:i.zero=so z):Plain z:=by
 cases d
 case pointer e =>
  simp only[Made.reckon,Option.bind_eq_bind,Option.bind_eq_some_iff]at h;obtain⟨j,_,h⟩:=h;split at h
  ·cases h
  ·split at h
   ·cases h
   ·obtain⟨s,_,h⟩:=aam.1 h;cases h;cases hz;exact λf=>ar
  ·obtain⟨s,_,h⟩:=aam.1 h;cases h;cases hz;exact λf=>ar
 case slice e =>
  simp only[Made.reckon,Option.bind_eq_bind,Option.bind_eq_some_iff]at h;obtain⟨j,_,s,_,h⟩:=h;cases h;cases hz;exact λf=>ar
 case map k e =>
  simp only[Made.reckon,Option.bind_eq_bind,Option.bind_eq_some_iff]at h;obtain⟨j,_,s,_,j2,_,s2,_,h⟩:=h;cases h;cases hz;exact λf=>ar
 case chan dir e =>
  simp only[Made.reckon,Option.bind_eq_bind,Option.bind_eq_some_iff]at h;obtain⟨j,_,s,_,h⟩:=h;cases h;cases hz;exact λf=>ar
 case func ps rs v =>
  simp only[Made.reckon,Option.bind_eq_bind,Option.bind_eq_some_iff]at h;obtain⟨s,_,h⟩:=h;cases h;cases hz;exact λf=>ar
 case array n e =>
  simp only[Made.reckon,Option.bind_eq_bind,Option.bind_eq_some_iff]at h;obtain⟨j,hj,s,_,h⟩:=h;cases h;simp only[]at hz;split at hz
  ·cases hz
  ·split at hz
   ·cases hz;exact λf=>ar
   ·obtain⟨y,hy,rfl⟩:=aaf.1 hz;refine Fh ?_;intro c hc;simp only[Array.mem_flatten,Array.mem_replicate]at hc;obtain⟨cs,⟨_,rfl⟩,hc⟩:=hc;exact AF (hi e j y hj hy) c hc
 case struct fs =>
  have h':Made.reckonStruct info fs=so i:=h;unfold Made.reckonStruct at h';obtain⟨r,hr,h'⟩:=aam.1 h';rw[<- fR]at hr;have hI:∀a,r.2.2.2.2.2.2.2.1=so a->∀c∈a,Plain c:=by
   refine Pw (λs=>∀a,s.2.2.2.2.2.2.2.1=so a->∀c∈a,Plain c) fs.toList _ r ?_ ?_ hr
   ·intro x hx s st hs hg;obtain⟨j,hj,hg⟩:=aam.1 hg;have fin:∀(n:Nat) a,(if n>Made.mostCells then we else do
      let z <- s.2.2.2.2.2.2.2.1;let y <- j.zero
      pure (z++y.cells):Option (Array Value))=so a->∀c∈a,Plain c:=by
     intro n a ha;split at ha
     ·cases ha
     ·obtain⟨z0,ZO,ha⟩:=aam.1 ha;obtain⟨y,hy,ha⟩:=aam.1 ha;cases ha;intro c hc;rcases aaT.1 hc with hc|hc
      ·exact hs z0 ZO c hc
      ·exact AF (hi _ j y hj hy) c hc
    dsimp only at hg;split at hg
    ·cases hg
    ·split at hg
     ·cases hg
     ·split at hg
      ·split at hg<;>(cases hg;exact fin _)
      ·obtain⟨tag,_,hg⟩:=aam.1 hg;split at hg<;>(cases hg;exact fin _)
   ·intro a ha;cases ha;simp
  dsimp only at h';have ez:i.zero=r.2.2.2.2.2.2.2.1.map .agg:=by
   split at h'<;>(cases h';rfl)
  rw[ez]at hz;obtain⟨a,ha,rfl⟩:=aaf.1 hz;exact Fh (hI a ha)
 all_goals (simp only[Made.reckon]at h;cases h)
def GA{T:Tables}(h:∀(t:Nat) (i:TypeInfo) (z:Value),T.types[t]?=so i->i.zero=so z->Plain z):∀n,Cs (Made.infoAt T n):=by
 intro n
 induction n with
 |zero=>intro t i z hi;cases hi
 |succ n ih =>
  intro t i z hi hz;simp only[Made.infoAt]at hi;split at hi
  ·exact h t i z hi hz
  ·obtain⟨d,_,hd⟩:=aam.1 hi;exact Gz ih d hd hz
def LG{T:Tables}(h:∀(t:Nat) (i:TypeInfo) (z:Value),T.types[t]?=so i->i.zero=so z->Plain z):Cs T.info?:=by
 intro t i z hi hz;unfold Tables.info? at hi;split at hi
 ·exact h t i z hi hz
 ·exact GA h _ t i z hi hz
section
open Go.Conc (G)
section
variable {P:Program}{m:Bool}{R:ae->ae->Prop}{D:ae->ae->Array Event->Prop}{Stop:aZ->ae->Prop}
end
def IA{α:Type}(r le:α->α->Prop)(n:Nat)(y x:Nat->α):Prop:=∃i,i<n/\r (y i) (x i)/\∀j,j<n->j≠i->le (y j) (x j)
def Sm{α:Type}{r le:α->α->Prop}(rf:∀a,le a a)(tr:∀a b c,le a b->le b c->le a c)(hle:∀a b c,le b a->r c b->r c a):
  ∀(n:Nat) (x:Nat->α),(∀i,i<n->Acc r (x i))->Acc (IA r le n) x:=by
 intro n
 induction n with
 |zero=>intro x _;exact Acc.intro _ λy hy=>by obtain⟨i,hi,_⟩:=hy;omega
 |succ n ih =>
  have key:∀a,Acc r a->∀v:Nat->α,Acc (IA r le n) v->∀x:Nat->α,le (x n) a->(∀j,j<n->le (x j) (v j))->Acc (IA r le (n+1)) x:=by
   intro a ha
   induction ha with
   |intro a _ iha =>
    intro v hv
    induction hv with
    |intro v xz ihv =>
     intro x YC hxv;refine Acc.intro _ λy hy=>?_;obtain⟨i,hi,hr,ho⟩:=hy;by_cases pg:i=n
     ·subst pg;exact iha (y i) (hle _ _ _ YC hr) v (Acc.intro v xz) y (rf _) (λj hj=>tr _ _ _ (ho j aa aa) (hxv j hj))
     ·have ml:i<n:=aa;refine ihv y ⟨i,ml,hle _ _ _ (hxv i ml) hr,λj hj Bt=>tr _ _ _ (ho j aa Bt) (hxv j hj)⟩ y (tr _ _ _ (ho n aa (bq pg)) YC) (λj _=>rf _)
  intro x hx;exact key (x n) (hx n aa) x (ih x λi hi=>hx i aa) x (rf _) (λj _=>rf _)
end
section
variable {t u:Trace}{g:Nat}{l:Loc}
end
open Go.ConcN
def IB(l:Loc)(b:Nat):Prop :=
 match l with
 | .cell a=>a.block=b
 | .obj r=>r=b
 |_=>False
def IB.uniq{l:Loc}{b c:Nat}(h:IB l b)(k:IB l c):b=c:=by
 cases l<;>simp only[IB]at h k<;>first|(exact h.elim)|(rw[<- h,<- k])
def IB.Z4{l:Loc}(h:l.isMemory=true):∃b,IB l b:=by
 cases l<;>simp only[Loc.isMemory]at h<;>first|(cases h;done)|exact⟨_,rfl⟩
def uf.YD{l:Loc}{c:Nat}(h:uf (λb=>b=c) l):IB l c:=by
 cases l<;>simp only[uf]at h<;>first|(exact h.elim)|exact h
structure dj where
 T0:Nat
 H0:Nat
 Wg:Nat
 m0:Nat
 n:Nat
 ch:Nat->Nat
 jV:Nat->Loc->Prop
 Shun:Loc->Prop
 Sh:Nat->Prop
 ty:TypeId
 dep:Nat->Nat->Prop
 Idle:Nat->ae->Prop
structure dj.OK(T:dj):Prop where
 m0:0<T.m0
 wg:T.Wg<T.H0
 own:∀k l b,T.jV k l->IB l b->b<T.H0/\b≠T.Wg
 apart:∀k k' l,T.jV k l->T.jV k' l->k=k'
 ac6:∀l b,T.Shun l->IB l b->b<T.H0/\b≠T.Wg
 GB:∀k l,T.jV k l->¬T.Shun l
 ownSh:∀k l,T.jV k l->∃a,l=.cell a/\T.Sh a.block
 sh:∀b,T.Sh b->b<T.H0/\b≠T.Wg/\∀k,k<T.n->T.ch k≠b
 ch:∀k,k<T.n->T.ch k<T.H0/\T.ch k≠T.Wg
 x6:∀k k',k<T.n->k'<T.n->T.ch k=T.ch k'->k=k'
 Sn:∀k,k<T.n->¬T.Shun (.obj (T.ch k))
 dep:∀i k,i<T.n->T.dep i k->k<i
 idle:∀k w w1,(∀a,T.jV k (.cell a)->w1.cell? a=w.cell? a)->(∀b cs ty fz,T.Sh b->w.heap[b]?=so (.cells cs ty fz)->∃tE,w1.heap[b]?=so (.cells tE ty fz)/\tE.size=cs.size)->T.Idle k w->T.Idle k w1
def gI(c:Nat):Array Event:=#[⟨.obj c,false,true⟩,⟨.obj c,true,true⟩]
def dj.RO(T:dj)(l:Loc):Prop:=(∀b,IB l b->b<T.H0/\b≠T.Wg)/\(∀k,¬T.jV k l)/\¬T.Shun l
structure jD where
 j:Nat
 own:Nat->Nat->Prop
 cl:Nat->Option Nat
 rc:Nat->Nat->Prop
structure jD.OK(T:dj)(S:jD):Prop where
 new:∀x b,S.own x b->T.H0<=b
 one:∀x y b,S.own x b->S.own y b->x=y
 mem:∀x b,S.own x b->x=0\/∃i,i<S.j/\x=T.m0+i
def Class(T:dj)(S:jD)(t:Trace)(i:Nat)(g:Nat)(a:Touch):Prop :=
 (uf (λb=>b=T.Wg) a.loc/\a.kind≠.plain/\(a.kind=.said->g=0))
 \/ (∃x b,S.own x b/\IB a.loc b/\Knows t x i)
 \/ (∃k,T.jV k a.loc/\(S.cl k=we->Knows t (T.m0+k) i)/\(∀p,S.cl k=so p->a.write=true->Before t i p))
 \/ (T.RO a.loc/\a.write=false)
def GC(T:dj)(S:jD)(x:Nat):Prop:=x=0\/∃i,i<S.j/\x=T.m0+i
structure TI(T:dj)(S:jD)(t:Trace):Prop where
 len:T.T0<=t.size
 base:∀x,GC T S x->∀i,i<T.T0->∀a,touchAt t i=so a->a.loc.isMemory=true->Knows t x i\/(T.Shun a.loc/\a.kind=.atomic)
 cls:∀i z a,T.T0<=i->t[i]?=so z->z.act.touch?=so a->a.loc.isMemory=true->Class T S t i z.g a
 YE:∀i k,S.rc i k->∃p,S.cl k=so p/\Knows t (T.m0+i) p
 pos:∀k p,S.cl k=so p->t.act? p=so (.close (T.ch k))/\t.heard p
 nr:∀said,¬Race said t
def x7(T:dj)(S:jD)(x:Nat)(a:Touch):Prop :=
 (uf (λb=>b=T.Wg) a.loc/\a.kind≠.plain/\(a.kind=.said->x=0))
 \/ (∃b,S.own x b/\IB a.loc b)
 \/ (∃k,x=T.m0+k/\T.jV k a.loc/\S.cl k=we)
 \/ (∃i k,x=T.m0+i/\S.rc i k/\T.jV k a.loc/\a.write=false)
 \/ (T.RO a.loc/\a.write=false)
section
variable {T:dj}{S:jD}{t u:Trace}
def Class.app{i g:Nat}{a:Touch}(h:Class T S t i g a)(u:Trace):Class T S (t++u) i g a:=by
 rcases h with h|⟨x,b,h1,h2,h3⟩|⟨k,h1,h2,h3⟩|h
 ·exact .inl h
 ·exact .inr (.inl ⟨x,b,h1,h2,h3.app u⟩)
 ·exact .inr (.inr (.inl ⟨k,h1,λe=>(h2 e).app u,λp e w=>(h3 p e w).app u⟩))
 ·exact .inr (.inr (.inr h))
def zx{p:Nat}(hp:p<t.size)(h:t.heard p):(t++u).heard p:=(heard_old hp).2 h
def TI.knows(hT:T.OK)(hS:S.OK T)(h:TI T S t){x:Nat}(hx:GC T S x){said:Bool}{i:Nat}{a b:Touch}(ha:touchAt t i=so a)(hb:b.loc.isMemory=true->x7 T S x b)(hc:a.conflicts said b):Knows t x i:=by
 obtain⟨hl,Z5,zy,ac7⟩:=hc;have hbm:b.loc.isMemory=true:=by rw[<- hl];exact Z5
 have Px:=hb hbm;have⟨c,hc⟩:=IB.Z4 hbm;have Py:IB a.loc c:=by rw[hl];exact hc
 rcases cd i T.T0 with hi|hi
 ·rcases h.base x hx i hi a ha Z5 with hk|⟨hs,pj⟩
  ·exact hk
  ·exfalso;rw[hl]at hs;have YF:=hT.ac6 _ c hs hc;rcases Px with⟨h1,_⟩|⟨b',h1,h2⟩|⟨k,_,h2,_⟩|⟨_,k,_,_,h2,_⟩|⟨h1,_⟩
   ·exact YF.2 (hc.uniq h1.YD)
   ·have:=hS.new _ _ h1;have:=hc.uniq h2;omega
   ·exact hT.GB k _ h2 hs
   ·exact hT.GB k _ h2 hs
   ·exact h1.2.2 hs
 ·have⟨z,hz,vP⟩:=touch_of ha;have fw:=h.cls i z a hi hz vP Z5;rcases Px with⟨h1,h2,h3⟩|⟨b',h1,h2⟩|⟨k,hk,h2,h3⟩|⟨i',k,hk,h1,h2,h3⟩|⟨h1,h2⟩
  ·rcases fw with⟨_,k2,k3⟩|⟨y,b',k1,k2,_⟩|⟨k,k1,_⟩|⟨k1,_⟩
   ·rcases ac7 with e|e|⟨_,e1,e2⟩
    ·exact absurd e k2
    ·exact absurd e h2
    ·have:=knows_own hz;rw[k3 e1,<- h3 e2]at this;exact this
   ·have:=hS.new _ _ k1;have e:=hc.uniq h1.YD;have e':=Py.uniq k2;have:=hT.wg;omega
   ·exact absurd (hc.uniq h1.YD) (hT.own k _ c k1 Py).2
   ·exact absurd (hc.uniq h1.YD) (k1.1 c Py).2
  ·have nz:=hS.new _ _ h1;have e:=hc.uniq h2;rcases fw with⟨k1,_⟩|⟨y,b'',k1,k2,k3⟩|⟨k,k1,_⟩|⟨k1,_⟩
   ·have:=Py.uniq k1.YD;have:=hT.wg;omega
   ·have e':=Py.uniq k2;obtain rfl:b'=b'':=aa;rw[hS.one _ _ _ h1 k1];exact k3
   ·have:=(hT.own k _ c k1 Py).1;omega
   ·have:=(k1.1 c Py).1;omega
  ·rcases fw with⟨k1,_⟩|⟨y,b'',k1,k2,k3⟩|⟨k',k1,k2,_⟩|⟨k1,_⟩
   ·exact absurd (Py.uniq k1.YD) (hT.own k _ c h2 hc).2
   ·have:=hS.new _ _ k1;have:=Py.uniq k2;have:=(hT.own k _ c h2 hc).1;omega
   ·rw[hl]at k1;obtain rfl:=hT.apart _ _ _ h2 k1;rw[hk];exact k2 h3
   ·rw[hl]at k1;exact absurd h2 (k1.2.1 k)
  ·have YB:a.write=true:=by
    rcases zy with e|e
    ·exact e
    ·rw[h3]at e;cases e
   rcases fw with⟨k1,_⟩|⟨y,b'',k1,k2,k3⟩|⟨k',k1,_,k2⟩|⟨k1,_⟩
   ·exact absurd (Py.uniq k1.YD) (hT.own k _ c h2 hc).2
   ·have:=hS.new _ _ k1;have:=Py.uniq k2;have:=(hT.own k _ c h2 hc).1;omega
   ·rw[hl]at k1;obtain rfl:=hT.apart _ _ _ h2 k1;have⟨p,hp,Fi⟩:=h.YE i' k h1;rw[hk];exact Knows.of_before (k2 p hp YB) Fi
   ·rw[hl]at k1;exact absurd h2 (k1.2.1 k)
  ·have YB:a.write=true:=by
    rcases zy with e|e
    ·exact e
    ·rw[h2]at e;cases e
   rcases fw with⟨k1,_⟩|⟨y,b'',k1,k2,k3⟩|⟨k',k1,_⟩|⟨_,k2⟩
   ·exact absurd (Py.uniq k1.YD) (h1.1 c hc).2
   ·have:=hS.new _ _ k1;have:=Py.uniq k2;have:=(h1.1 c hc).1;omega
   ·rw[hl]at k1;exact absurd k1 (h1.2.1 k')
   ·rw[k2]at YB;cases YB
def TI.app(hT:T.OK)(hS:S.OK T)(h:TI T S t){x:Nat}(hx:GC T S x)(hu:∀op∈u,op.g=x)(ha:∀op∈u,∀b,op.act.touch?=so b->b.loc.isMemory=true->x7 T S x b):TI T S (t++u):=by
 refine⟨by have:=h.len;simp;omega,λy hy i hi a pj hm=>?_,λi z a hi hz vP hm=>?_,λi k hr=>?_,λk p hp=>?_,λsaid=>?_⟩
 ·rw[touchAt_old (by have:=h.len;omega)]at pj;exact(h.base y hy i hi a pj hm).imp (·.app u) id
 ·rcases getElem?_append_cases hz with⟨cx,DZ⟩|⟨_,HN⟩
  ·exact(h.cls i z a hi DZ vP hm).app u
  ·have hk:=knows_own hz;rw[hu z HN]at hk |-;rcases ha z HN a vP hm with h1|⟨b,h1,h2⟩|⟨k,h1,h2,h3⟩|⟨i',k,h1,h2,h3,h4⟩|h1
   ·exact .inl h1
   ·exact .inr (.inl ⟨x,b,h1,h2,hk⟩)
   ·exact .inr (.inr (.inl ⟨k,h2,λ_=>by rw[<- h1];exact hk,λp e _=>by rw[h3]at e;cases e⟩))
   ·have⟨p,hp,_⟩:=h.YE i' k h2;exact .inr (.inr (.inl ⟨k,h3,λe=>(by rw[hp]at e;cases e),λp _ w=>(by rw[h4]at w;cases w)⟩))
   ·exact .inr (.inr (.inr h1))
 ·have⟨p,h1,h2⟩:=h.YE i k hr;exact⟨p,h1,h2.app u⟩
 ·have⟨h1,h2⟩:=h.pos k p hp;have:=lt_of_act? h1;exact⟨by rw[act?_old this];exact h1,zx this h2⟩
 ·exact noRace_append (h.nr said) hu λi a pj op eW b hb hc=>h.knows hT hS hx pj (ha op eW b hb) hc
def TI.mute(h:TI T S t){y:Nat}(hu:∀op∈u,op.g=y)(hn:∀op∈u,op.act.touch?=we):TI T S (t++u):=by
 refine⟨by have:=h.len;simp;omega,λy hy i hi a pj hm=>?_,λi z a hi hz vP hm=>?_,λi k hr=>?_,λk p hp=>?_,λsaid=>?_⟩
 ·rw[touchAt_old (by have:=h.len;omega)]at pj;exact(h.base y hy i hi a pj hm).imp (·.app u) id
 ·rcases getElem?_append_cases hz with⟨cx,DZ⟩|⟨_,HN⟩
  ·exact(h.cls i z a hi DZ vP hm).app u
  ·rw[hn z HN]at vP;cases vP
 ·have⟨p,h1,h2⟩:=h.YE i k hr;exact⟨p,h1,h2.app u⟩
 ·have⟨h1,h2⟩:=h.pos k p hp;have:=lt_of_act? h1;exact⟨by rw[act?_old this];exact h1,zx this h2⟩
 ·exact noRace_append (h.nr said) hu λi a pj op eW b hb hc=>by rw[hn op eW]at hb;cases hb
def TI.grow(h:TI T S t){own':Nat->Nat->Prop}(ho:∀x b,S.own x b->own' x b):TI T {S with own:=own'} t:=by
 refine⟨h.len,h.base,λi z a hi hz vP hm=>?_,h.YE,h.pos,h.nr⟩;rcases h.cls i z a hi hz vP hm with h1|⟨x,b,h1,h2⟩|h1|h1
 ·exact .inl h1
 ·exact .inr (.inl ⟨x,b,ho _ _ h1,h2⟩)
 ·exact .inr (.inr (.inl h1))
 ·exact .inr (.inr (.inr h1))
def TI.close(h:TI T S t){i:Nat}(hi:i<S.j)(hn:S.cl i=we){z:MemOp}(hg:z.g=T.m0+i)(hz:z.act=.close (T.ch i))(hd:Deaf t (T.m0+i)=0):
  TI T {S with cl:=upd S.cl i (so t.size)} (t++#[z]):=by
 have hzp:(t++#[z])[t.size]?=so z:=by rw[gh (ah _)];simp
 have hm:TI T S (t++#[z]):=h.mute (y:=T.m0+i) (λop eW=>by simp at eW;rw[eW];exact hg) (λop eW=>by simp at eW;rw[eW,hz];rfl);refine⟨hm.len,hm.base,λi' y a ml hy hya hme=>?_,λi' k hr=>?_,λk p hp=>?_,hm.nr⟩
 ·
  rcases getElem?_append_cases hy with⟨cx,hy'⟩|⟨_,hyu⟩
  ·rcases h.cls i' y a ml hy' hya hme with h1|⟨x,b,h1,h2,h3⟩|⟨k,h1,h2,h3⟩|h1
   ·exact .inl h1
   ·exact .inr (.inl ⟨x,b,h1,h2,h3.app _⟩)
   ·refine .inr (.inr (.inl ⟨k,h1,λe=>?_,λp e w=>?_⟩))
    ·by_cases hk:k=i
     ·subst hk;simp only[upd_same]at e;cases e
     ·simp only[upd_ne S.cl _ hk]at e;exact(h2 e).app _
    ·by_cases hk:k=i
     ·subst hk;simp only[upd_same,aA]at e;subst e;exact .inr ((h2 hn).hb_new (ah _) hzp hg)
     ·simp only[upd_ne S.cl _ hk]at e;exact(h3 p e w).app _
   ·exact .inr (.inr (.inr h1))
  ·have:y=z:=by simpa using hyu
   rw[this,hz]at hya;cases hya
 ·have⟨p,h1,h2⟩:=hm.YE i' k hr;refine⟨p,?_,h2⟩;have hk:k≠i:=by rintro rfl;rw[hn]at h1;cases h1
  simp only[upd_ne S.cl _ hk];exact h1
 ·by_cases hk:k=i
  ·subst hk;simp only[upd_same,aA]at hp;subst hp;refine⟨by rw[act?_of hzp,hz],T.m0+k,by simp[Trace.g?,hg],?_⟩;rw[deaf_old (ah _)];exact hd
  ·simp only[upd_ne S.cl _ hk]at hp;exact hm.pos k p hp
def TI.recv(h:TI T S t){i k p:Nat}(fw:S.cl k=so p){z:MemOp}(hg:z.g=T.m0+i)(hz:z.act=.recvClosed (T.ch k))(hd:Deaf t (T.m0+i)=0):
  TI T {S with rc:=λa b=>S.rc a b\/(a=i/\b=k)} (t++#[z]):=by
 have hzp:(t++#[z])[t.size]?=so z:=by rw[gh (ah _)];simp
 have hm:TI T S (t++#[z]):=h.mute (y:=T.m0+i) (λop eW=>by simp at eW;rw[eW];exact hg) (λop eW=>by simp at eW;rw[eW,hz];rfl);refine⟨hm.len,hm.base,hm.cls,λi' k' hr=>?_,hm.pos,hm.nr⟩;rcases hr with hr|⟨rfl,rfl⟩
 ·exact hm.YE i' k' hr
 ·have⟨h1,h2⟩:=hm.pos k' p fw;refine⟨p,fw,t.size,z,hzp,hg,.inr (.single (.inr ⟨.closed h1 (by rw[act?_of hzp,hz]),h2,T.m0+i',by simp[Trace.g?,hg],?_⟩))⟩;rw[deaf_old (ah _)];exact hd
def TI.spawn(h:TI T S t){own':Nat->Nat->Prop}{x y:MemOp}(hx:x.g=0/\x.act=.go (T.m0+S.j))(hy:y.g=T.m0+S.j/\y.act=.start)(h0:Deaf t 0=0)(hk:Deaf t (T.m0+S.j)=0)(ho:∀z b,S.own z b->own' z b\/(z=0/\own' (T.m0+S.j) b)):TI T {S with j:=S.j+1,own:=own'} (t++#[x,y]):=by
 have Bu:∀op∈#[x,y],op.act.touch?=we:=by
  intro op eW;simp only[List.mem_toArray,bM,dh,or_false]at eW;rcases eW with rfl|rfl
  ·rw[hx.2];rfl
  ·rw[hy.2];rfl
 have Sp:∀{i},Knows t 0 i->Knows (t++#[x,y]) (T.m0+S.j) i:=λhh=>fork_knows hx hy h0 hk hh;refine⟨by have:=h.len;simp;omega,λw hw i hi a pj hm=>?_,λi z a hi hz vP hm=>?_,λi k hr=>?_,λk p hp=>?_,λsaid=>?_⟩
 ·rw[touchAt_old (by have:=h.len;omega)]at pj;by_cases Z6:w=T.m0+S.j
  ·subst Z6;exact(h.base 0 (.inl rfl) i hi a pj hm).imp Sp id
  ·have hw':GC T S w:=by
    rcases hw with rfl|⟨i',ml,rfl⟩
    ·exact .inl rfl
    ·exact .inr ⟨i',by simp only at ml;omega,rfl⟩
   exact(h.base w hw' i hi a pj hm).imp (·.app _) id
 ·rcases getElem?_append_cases hz with⟨cx,DZ⟩|⟨_,HN⟩
  ·rcases h.cls i z a hi DZ vP hm with h1|⟨w,b,h1,h2,h3⟩|⟨k,h1,h2,h3⟩|h1
   ·exact .inl h1
   ·rcases ho w b h1 with h4|⟨rfl,h4⟩
    ·exact .inr (.inl ⟨w,b,h4,h2,h3.app _⟩)
    ·exact .inr (.inl ⟨_,b,h4,h2,Sp h3⟩)
   ·exact .inr (.inr (.inl ⟨k,h1,λe=>(h2 e).app _,λp e w=>(h3 p e w).app _⟩))
   ·exact .inr (.inr (.inr h1))
  ·rw[Bu z HN]at vP;cases vP
 ·have⟨p,h1,h2⟩:=h.YE i k hr;exact⟨p,h1,h2.app _⟩
 ·have⟨h1,h2⟩:=h.pos k p hp;have:=lt_of_act? h1;exact⟨by rw[act?_old this];exact h1,zx this h2⟩
 ·have e:t++#[x,y]=(t++#[x])++#[y]:=by apply Array.ext';simp
  rw[e];refine noRace_append (g:=T.m0+S.j) (noRace_append (g:=0) (h.nr said) (λop eW=>by simp at eW;rw[eW];exact hx.1) (λi a _ op eW b hb _=>?_)) (λop eW=>by simp at eW;rw[eW];exact hy.1) (λi a _ op eW b hb _=>?_)
  ·rw[Bu op (by simp at eW |-;exact .inl eW)]at hb;cases hb
  ·rw[Bu op (by simp at eW |-;exact .inr eW)]at hb;cases hb
def TI.Sq{Sb:Nat->Prop}(tJ:T.Shun=uf Sb)(h:TI T S t){t0:Trace}{B B':Nat}(hold:∃U,t=t0++U)(h0:t0.size=T.T0)(hP:Past T.Shun B t0){q:Nat}(hq:t.act? q=so (.mark (.acquire (Go.ConcR.stA T.Wg))))(hqg:t.g? q=so 0)(hqh:t.heard q)(norel:∀k,T.T0<=k->t.act? k≠so (.mark (.release (Go.ConcR.stA T.Wg))))(rel:∀i,i<S.j->∃r,T.T0<=r/\r<q/\RelBy (Go.ConcR.stA T.Wg) t (T.m0+i) r/\∀i' a,r<i'->t.g? i'=so (T.m0+i)->touchAt t i'=so a->uf (λb=>b=T.Wg) a.loc/\a.kind=.atomic)(VI:∀i z,T.T0<=i->t[i]?=so z->z.g=0\/(∃k,k<S.j/\z.g=T.m0+k)\/z.act.touch?=we)(hears:Deaf t 0=0)(seen:∀op∈t,op.act.low B'):Past (uf λb=>Sb b\/b=T.Wg) B' t:=by
 have Wn:∀i r,RelBy (Go.ConcR.stA T.Wg) t (T.m0+i) r->T.T0<=r->r<q->HappensBefore t r q:=λi r hr h1 h2 =>
  .single (.inr ⟨.marked h2 (.inr hr.act) hq (λk k1 _=>norel k aa),hr.heard,hqh⟩)
 have kq:∀i,HappensBefore t i q->Knows t 0 i:=λi hh=>by
  obtain⟨z,hz,hg⟩:=aaf.1 hqg;exact⟨q,z,hz,hg,.inr hh⟩
 have shn:∀{l:Loc},uf (λb=>b=T.Wg) l->uf (λb=>Sb b\/b=T.Wg) l:=λ{l} hl=>by cases l<;>simp only[uf]at hl |-<;>first|(exact hl.elim)|exact .inr hl
 have sho:∀{l:Loc},T.Shun l->uf (λb=>Sb b\/b=T.Wg) l:=λ{l} hl=>by rw[tJ]at hl;cases l<;>simp only[uf]at hl |-<;>first|(exact hl.elim)|exact .inl hl
 refine⟨h.nr,λi a ha hm=>?_,λi g hg dE hc=>?_,hears,seen⟩
 ·rcases cd i T.T0 with hi|hi
  ·exact(h.base 0 (.inl rfl) i hi a ha hm).imp id λx=>⟨sho x.1,x.2⟩
  ·have⟨z,hz,vP⟩:=touch_of ha;rcases VI i z hi hz with e|⟨k,hk,e⟩|e
   ·have:=knows_own hz;rw[e]at this;exact .inl this
   ·have⟨r,r1,r2,r3,r4⟩:=rel k hk;have Wo:t.g? i=so (T.m0+k):=by simp[Trace.g?,hz,e]
    rcases fZ i r with cx|rfl|hgt
    ·exact .inl (kq i (.trans (.single (.inl ⟨cx,_,Wo,r3.g⟩)) (Wn k r r3 r1 r2)))
    ·exact .inl (kq i (Wn k i r3 r1 r2))
    ·have:=r4 i a hgt Wo ha;exact .inr ⟨shn this.1,this.2⟩
   ·rw[e]at vP;cases vP
 ·obtain⟨U,rfl⟩:=hold;rcases cd i T.T0 with hi|hi
  ·have⟨j,hj,hb⟩:=hP.over i g (by rw[<- g?_old (u:=U) aa];exact hg) dE ((counts_old aa).1 hc);have VJ:j<t0.size:=by
    obtain⟨z,hz,_⟩:=aaf.1 hj;exact lt_size_of_getElem? hz
   exact⟨j,by rw[g?_old VJ];exact hj,hb_app U hb⟩
  ·obtain⟨z,hz,YG⟩:=aaf.1 hg;rcases VI i z hi hz with e|⟨k,hk,e⟩|e
   ·exact absurd (YG.symm.trans e) dE
   ·have⟨r,r1,r2,r3,r4⟩:=rel k hk;rcases fZ i r with cx|rfl|hgt
    ·exact⟨q,hqg,.trans (.single (.inl ⟨cx,_,by rw[hg,<- YG,e],r3.g⟩)) (Wn k r r3 r1 r2)⟩
    ·exact⟨q,hqg,Wn k i r3 r1 r2⟩
    ·exact absurd hc (r3.after i hgt (by rw[hg,<- YG,e]))
   ·obtain⟨a,ha,_⟩:=hc;have⟨y,hy,hya⟩:=touch_of ha;rw[hz]at hy;cases hy;rw[e]at hya;cases hya
def TI.begin{t0:Trace}{B:Nat}(h0:t0.size=T.T0)(hP:Past T.Shun B t0){own:Nat->Nat->Prop}:TI T {j:=0,own:=own,cl:=λ_=>we,rc:=λ_ _=>False} t0:=by
 refine⟨aa,λx hx i hi a ha hm=>?_,λi z a hi hz=>?_,λi k hr=>hr.elim,λk p hp=>(by cases hp),hP.clean⟩
 ·rcases hx with rfl|⟨i',ml,_⟩
  ·exact hP.known i a ha hm
  ·exact absurd ml (er _)
 ·have:=lt_size_of_getElem? hz;omega
end
section
open Go.ConcR (KK wgBlock WgAt stA smA rd wr mk)
structure cY(T:dj)(i:Nat)(o rc:Nat->Prop)(w w1:ae):Prop where
 size:w.heap.size<=w1.heap.size
 own:∀b,o b->w1.heap[b]?=w.heap[b]?
 ro:∀b,b<T.H0->b≠T.Wg->¬T.Sh b->(∀k,k<T.n->b≠T.ch k)->w1.heap[b]?=w.heap[b]?
 sh:∀b cs ty fz,T.Sh b->w.heap[b]?=so (.cells cs ty fz)->∃tE,w1.heap[b]?=so (.cells tE ty fz)/\tE.size=cs.size
 mine:∀a,(T.jV i (.cell a)\/∃k,rc k/\T.jV k (.cell a))->w1.cell? a=w.cell? a
 chan:∀k s r tm c,k<T.n->w.heap[T.ch k]?=so (.chan 0 #[] c s r tm)->∃c1,w1.heap[T.ch k]?=so (.chan 0 #[] c1 s r tm)/\(c=true->c1=true)
 Ct:w1.heap[T.ch i]?=w.heap[T.ch i]?
 wg:WgLive T.ty T.Wg w->WgLive T.ty T.Wg w1
 os:w1.os=w.os
 output:w1.output=w.output
structure LH(T:dj)(i:Nat)(o:Nat->Prop)(w w':ae):Prop where
 size:w.heap.size<=w'.heap.size
 rest:∀b,b<w.heap.size->¬o b->¬T.Sh b->w'.heap[b]?=w.heap[b]?
 sh:∀b cs ty fz,T.Sh b->w.heap[b]?=so (.cells cs ty fz)->∃tE,w'.heap[b]?=so (.cells tE ty fz)/\tE.size=cs.size
 cells:∀a,T.Sh a.block->¬T.jV i (.cell a)->w'.cell? a=w.cell? a
 os:w'.os=w.os
 output:w'.output=w.output
structure dQ(T:dj)(o:Nat->Prop)(w w1:ae):Prop where
 size:w.heap.size<=w1.heap.size
 own:∀b,o b->w1.heap[b]?=w.heap[b]?
 ro:∀b,b<T.H0->b≠T.Wg->¬T.Sh b->(∀k,k<T.n->b≠T.ch k)->w1.heap[b]?=w.heap[b]?
 wg:WgLive T.ty T.Wg w->WgLive T.ty T.Wg w1
 os:w1.os=w.os
 output:w1.output=w.output
structure Pz(T:dj)(o:Nat->Prop)(w w':ae):Prop where
 size:w.heap.size<=w'.heap.size
 rest:∀b,b<w.heap.size->¬o b->w'.heap[b]?=w.heap[b]?
 os:w'.os=w.os
 output:w'.output=w.output
def NK(T:dj)(i:Nat)(o rc:Nat->Prop)(e:Event):Prop :=
 (∀a,(MemAct.ofEvent e).touch?=so a->a.loc.isMemory=true->(∃b,o b/\IB a.loc b)\/T.jV i a.loc\/(∃k,rc k/\T.jV k a.loc/\a.write=false)\/(T.RO a.loc/\a.write=false))
 /\ e.loc≠.mark .disable/\e.loc≠.mark .enable/\(∀x,e.loc≠.mark (.release x))
def EvS(T:dj)(o:Nat->Prop)(e:Event):Prop :=
 (∀a,(MemAct.ofEvent e).touch?=so a->a.loc.isMemory=true->(uf (λb=>b=T.Wg) a.loc/\a.kind≠.plain)\/(∃b,o b/\IB a.loc b)\/(T.RO a.loc/\a.write=false))
 /\ e.loc≠.mark .disable/\e.loc≠.mark .enable/\(∀x,e.loc≠.mark (.release x))
def grow(o:Nat->Prop)(w w':ae):Nat->Prop:=λb=>o b\/(w.heap.size<=b/\b<w'.heap.size)
section
variable {T:dj}{i:Nat}{o rc:Nat->Prop}{w w1 w2:ae}
def cY.refl(w:ae):cY T i o rc w w:=⟨ah _,λ_ _=>rfl,λ_ _ _ _ _=>rfl,λb cs ty fz _ h=>⟨cs,h,rfl⟩,λ_ _=>rfl,λk s r tm c _ h=>⟨c,h,id⟩,rfl,id,rfl,rfl⟩
def cY.trans(h:cY T i o rc w w1)(k:cY T i o rc w1 w2):cY T i o rc w w2:=by
 refine⟨aY h.size k.size,λb hb=>(k.own b hb).trans (h.own b hb),λb a1 a2 a3 a4=>(k.ro b a1 a2 a3 a4).trans (h.ro b a1 a2 a3 a4),λb cs ty fz hb hh=>?_,λa ha=>(k.mine a ha).trans (h.mine a ha),λj s r tm c hj hh=>?_,k.Ct.trans h.Ct,λx=>k.wg (h.wg x),k.os.trans h.os,k.output.trans h.output⟩
 ·have⟨c1,e1,e2⟩:=h.sh b cs ty fz hb hh;have⟨c2,e3,e4⟩:=k.sh b c1 ty fz hb e1;exact⟨c2,e3,e4.trans e2⟩
 ·have⟨c1,e1,e2⟩:=h.chan j s r tm c hj hh;have⟨c2,e3,e4⟩:=k.chan j s r tm c1 hj e1;exact⟨c2,e3,λx=>e4 (e2 x)⟩
def cY.at(w:ae)(d:Nat):cY T i o rc w (w.at d):=⟨ah _,λ_ _=>rfl,λ_ _ _ _ _=>rfl,λb cs ty fz _ h=>⟨cs,h,rfl⟩,λ_ _=>rfl,λk s r tm c _ h=>⟨c,h,id⟩,rfl,id,rfl,rfl⟩
def dQ.refl(w:ae):dQ T o w w:=⟨ah _,λ_ _=>rfl,λ_ _ _ _ _=>rfl,id,rfl,rfl⟩
def dQ.trans(h:dQ T o w w1)(k:dQ T o w1 w2):dQ T o w w2 :=
 ⟨aY h.size k.size,λb hb=>(k.own b hb).trans (h.own b hb),λb a1 a2 a3 a4=>(k.ro b a1 a2 a3 a4).trans (h.ro b a1 a2 a3 a4),λx=>k.wg (h.wg x),k.os.trans h.os,k.output.trans h.output⟩
def dQ.at(w:ae)(d:Nat):dQ T o w (w.at d):=⟨ah _,λ_ _=>rfl,λ_ _ _ _ _=>rfl,id,rfl,rfl⟩
def gv{w w':ae}(e:w'.heap[T.Wg]?=w.heap[T.Wg]?)(h:WgLive T.ty T.Wg w):WgLive T.ty T.Wg w':=by
 obtain⟨st,sm,hl⟩:=h;exact⟨st,sm,by unfold WgAt at hl |-;rw[e];exact hl⟩
def cell_of{w w':ae}{a:Addr}(e:w'.heap[a.block]?=w.heap[a.block]?):w'.cell? a=w.cell? a:=by simp[World.cell?,e]
structure qH(T:dj)(j:Nat)(w w':ae):Prop where
 D5:∀b cs ty fz,T.Sh b->w.heap[b]?=so (.cells cs ty fz)->∃tE,w'.heap[b]?=so (.cells tE ty fz)/\tE.size=cs.size
 idle:∀k a,j<=k->T.jV k (.cell a)->w'.cell? a=w.cell? a
def qH.refl{j:Nat}(w:ae):qH T j w w:=⟨λb cs ty fz _ h=>⟨cs,h,rfl⟩,λ_ _ _ _=>rfl⟩
def qH.trans{j:Nat}{w w1 w2:ae}(h:qH T j w w1)(k:qH T j w1 w2):qH T j w w2:=by
 refine⟨λb cs ty fz hb hh=>?_,λi a hi ha=>(k.idle i a hi ha).trans (h.idle i a hi ha)⟩;have⟨c1,e1,e2⟩:=h.D5 b cs ty fz hb hh;have⟨c2,e3,e4⟩:=k.D5 b c1 ty fz hb e1;exact⟨c2,e3,e4.trans e2⟩
def qH.mono{j j':Nat}{w w1:ae}(h:qH T j w w1)(hj:j<=j'):qH T j' w w1:=⟨h.D5,λi a hi ha=>h.idle i a (aY hj hi) ha⟩
def qH.Cu(hT:T.OK){j:Nat}{w w1:ae}(h:∀b,T.Sh b->w1.heap[b]?=w.heap[b]?):qH T j w w1:=by
 refine⟨λb cs ty fz hb hx=>⟨cs,by rw[h b hb];exact hx,rfl⟩,λk a _ ha=>?_⟩;have⟨a',e,hs⟩:=hT.ownSh k _ ha;cases e;exact cell_of (h _ hs)
def LH.keep(hT:T.OK){j:Nat}(h:LH T i o w w1)(hi:i<j):qH T j w w1:=by
 refine⟨h.sh,λk a hk ha=>?_⟩;have⟨a',e,hs⟩:=hT.ownSh k _ ha;cases e;exact h.cells a hs λhx=>by have:=hT.apart _ _ _ ha hx;omega
def LH.Cv(hT:T.OK){j:Nat}{oj VK:Nat->Prop}(h:LH T i o w w1)(hj:j≠i)(tK:j<T.n)(hH:T.H0<=w.heap.size)(ho:∀b,o b->T.H0<=b)(hoj:∀b,oj b->T.H0<=b/\b<w.heap.size/\¬o b)(GD:¬VK i):cY T j oj VK w w1:=by
 have nsh:∀b,T.H0<=b->¬T.Sh b:=λb hb hs=>by have:=(hT.sh b hs).1;omega
 have no:∀b,b<T.H0->¬o b:=λb hb hs=>by have:=ho b hs;omega
 have pz:∀k,k<T.n->w1.heap[T.ch k]?=w.heap[T.ch k]?:=λk hk=>h.rest _ (by have:=(hT.ch k hk).1;omega) (no _ (hT.ch k hk).1) (λhs=>(hT.sh _ hs).2.2 k hk rfl);refine⟨h.size,λb hb=>h.rest b (hoj b hb).2.1 (hoj b hb).2.2 (nsh b (hoj b hb).1),λb h1 _ h3 _=>h.rest b aa (no b h1) h3,h.sh,λa ha=>?_,λk s r tm c hk hh=>⟨c,by rw[pz k hk];exact hh,id⟩,pz j tK,gv (h.rest _ (by have:=hT.wg;omega) (no _ hT.wg) (λhs=>(hT.sh _ hs).2.1 rfl)),h.os,h.output⟩;have key:∀k,k≠i->T.jV k (.cell a)->w1.cell? a=w.cell? a:=by
  intro k hk fq;have⟨a',e,hs⟩:=hT.ownSh k _ fq;cases e;exact h.cells a hs λhi=>hk (hT.apart _ _ _ fq hi)
 rcases ha with ha|⟨k,hk,ha⟩
 ·exact key j hj ha
 ·exact key k (λe=>GD (e▸hk)) ha
def LH.LI(hT:T.OK){o0:Nat->Prop}(h:LH T i o w w1)(hH:T.H0<=w.heap.size)(ho:∀b,o b->T.H0<=b)(VL:∀b,o0 b->T.H0<=b/\b<w.heap.size/\¬o b):dQ T o0 w w1:=by
 have nsh:∀b,T.H0<=b->¬T.Sh b:=λb hb hs=>by have:=(hT.sh b hs).1;omega
 have no:∀b,b<T.H0->¬o b:=λb hb hs=>by have:=ho b hs;omega
 exact⟨h.size,λb hb=>h.rest b (VL b hb).2.1 (VL b hb).2.2 (nsh b (VL b hb).1),λb h1 _ h3 _=>h.rest b aa (no b h1) h3,gv (h.rest _ (by have:=hT.wg;omega) (no _ hT.wg) (λhs=>(hT.sh _ hs).2.1 rfl)),h.os,h.output⟩
def Pz.Cv(hT:T.OK){o0:Nat->Prop}(h:Pz T o0 w w1)(hi:i<T.n)(hH:T.H0<=w.heap.size)(VL:∀b,o0 b->T.H0<=b)(ho:∀b,o b->T.H0<=b/\b<w.heap.size/\¬o0 b):cY T i o rc w w1:=by
 have old:∀b,b<T.H0->w1.heap[b]?=w.heap[b]?:=λb hb=>h.rest b aa (λhs=>by have:=VL b hs;omega);have pz:∀k,k<T.n->w1.heap[T.ch k]?=w.heap[T.ch k]?:=λk hk=>old _ (hT.ch k hk).1;refine⟨h.size,λb hb=>h.rest b (ho b hb).2.1 (ho b hb).2.2,λb h1 _ _ _=>old b h1,λb cs ty fz hb hh=>⟨cs,by rw[old b (hT.sh b hb).1];exact hh,rfl⟩,λa ha=>?_,λk s r tm c hk hh=>⟨c,by rw[pz k hk];exact hh,id⟩,pz i hi,gv (old _ hT.wg),h.os,h.output⟩;have key:∀k,T.jV k (.cell a)->w1.cell? a=w.cell? a:=by
  intro k fq;have⟨a',e,hs⟩:=hT.ownSh k _ fq;cases e;exact cell_of (old _ (hT.sh _ hs).1)
 rcases ha with ha|⟨k,_,ha⟩
 ·exact key i ha
 ·exact key k ha
def NL(hT:T.OK)(hi:i<T.n)(ho:∀b,o b->T.H0<=b)(h:Aside T.Wg w w1)(hl:WgLive T.ty T.Wg w1):cY T i o rc w w1:=by
 have pz:∀k,k<T.n->w1.heap[T.ch k]?=w.heap[T.ch k]?:=λk hk=>h.block _ (hT.ch k hk).2;refine⟨bI h.size.symm,λb hb=>h.block b (by have:=ho b hb;have:=hT.wg;omega),λb _ h2 _ _=>h.block b h2,λb cs ty fz hb hh=>⟨cs,by rw[h.block b (hT.sh b hb).2.1];exact hh,rfl⟩,λa ha=>?_,λk s r tm c hk hh=>⟨c,by rw[pz k hk];exact hh,id⟩,pz i hi,λ_=>hl,h.os,h.output⟩;have key:∀k,T.jV k (.cell a)->w1.cell? a=w.cell? a:=by
  intro k fq;have⟨a',e,hs⟩:=hT.ownSh k _ fq;cases e;exact cell_of (h.block _ (hT.sh _ hs).2.1)
 rcases ha with ha|⟨k,_,ha⟩
 ·exact key i ha
 ·exact key k ha
def x8(hT:T.OK)(ho:∀b,o b->T.H0<=b)(h:Aside T.Wg w w1)(hl:WgLive T.ty T.Wg w1):dQ T o w w1 :=
 ⟨bI h.size.symm,λb hb=>h.block b (by have:=ho b hb;have:=hT.wg;omega),λb _ h2 _ _=>h.block b h2,λ_=>hl,h.os,h.output⟩
def pF(w:ae)(c:Nat)(s r:Nat)(tm:Bool)(b:Nat)(hb:b≠c):(w.setChan c 0 #[] true s r tm).heap[b]?=w.heap[b]?:=by
 simp only[World.setChan];rw[aU (bq hb)]
def LJ(hT:T.OK){j:Nat}(hj:j<T.n)(Bt:j≠i)(hi:i<T.n)(ho:∀b,o b->T.H0<=b){s r:Nat}{tm:Bool}(hc:w.heap[T.ch i]?=so (.chan 0 #[] false s r tm)):cY T j o rc w (w.setChan (T.ch i) 0 #[] true s r tm):=by
 have hh:=pF w (T.ch i) s r tm;have cx:T.ch i<w.heap.size:=(aad.1 hc).1;refine⟨by simp[World.setChan],λb hb=>hh b (by have:=ho b hb;have:=(hT.ch i hi).1;omega),λb _ _ _ h4=>hh b (h4 i hi),λb cs ty fz hb hx=>⟨cs,by rw[hh b (bq ((hT.sh b hb).2.2 i hi))];exact hx,rfl⟩,λa ha=>?_,λk s' r' tm' c hk hx=>?_,hh _ (λe=>Bt (hT.x6 _ _ hj hi e)),gv (hh _ (bq (hT.ch i hi).2)),rfl,rfl⟩
 ·have key:∀k,T.jV k (.cell a)->(w.setChan (T.ch i) 0 #[] true s r tm).cell? a=w.cell? a:=by
   intro k fq;have⟨a',e,hs⟩:=hT.ownSh k _ fq;cases e;exact cell_of (hh _ (bq ((hT.sh _ hs).2.2 i hi)))
  rcases ha with ha|⟨k,_,ha⟩
  ·exact key j ha
  ·exact key k ha
 ·by_cases e:k=i
  ·subst e;rw[hc]at hx;cases hx;exact⟨true,by simp[World.setChan,cx],λx=>rfl⟩
  ·exact⟨c,by rw[hh _ (λx=>e (hT.x6 _ _ hk hi x))];exact hx,id⟩
def Cw(hT:T.OK)(hi:i<T.n)(ho:∀b,o b->T.H0<=b){s r:Nat}{tm:Bool}:dQ T o w (w.setChan (T.ch i) 0 #[] true s r tm):=by
 have hh:=pF w (T.ch i) s r tm;exact⟨by simp[World.setChan],λb hb=>hh b (by have:=ho b hb;have:=(hT.ch i hi).1;omega),λb _ _ _ h4=>hh b (h4 i hi),gv (hh _ (bq (hT.ch i hi).2)),rfl,rfl⟩
end
structure KV where
 g:aZ
 o:Nat->Prop
 rc:Nat->Prop
 w:ae
def Es(P:Program)(T:dj)(i:Nat)(V:Nat->ae->Prop)(E:bL)(X:KV->Prop)(x:KV):Prop :=
 x.g.status=.running /\
 ((∀w1,cY T i x.o x.rc x.w w1->∃g' w' es,stepG P false x.g w1=.go g' w' es/\LH T i x.o w1 w'/\(∀e∈es,NK T i (grow x.o w1 w') x.rc e)/\X ⟨g',grow x.o w1 w',x.rc,w'⟩)
 \/ (∃k z f,T.dep i k/\(∀w1,cY T i x.o x.rc x.w w1->stepG P false x.g w1=.comm x.g #[rcase (T.ch k) z] true (.recv f) w1 #[]) /\
   (∀w1,cY T i x.o x.rc x.w w1->V k w1->X ⟨Go.Conc.served x.g (recvd f z false),x.o,λb=>x.rc b\/b=k,w1⟩))
 \/ (mayWake P x.g=true/\∀w1,cY T i x.o x.rc x.w w1->∀s r tm,w1.heap[T.ch i]?=so (.chan 0 #[] false s r tm) ->
   ∃g',stepG P false x.g w1=.go g' (w1.setChan (T.ch i) 0 #[] true s r tm) (gI (T.ch i))/\g'.status=.running/\V i w1/\E x.o g' (w1.setChan (T.ch i) 0 #[] true s r tm)))
def gM(P:Program)(T:dj)(i:Nat)(V:Nat->ae->Prop)(E:bL)(x:KV):Prop :=
 ∀X:KV->Prop,(∀x,Es P T i V E X x->X x)->X x
section
variable {P:Program}{T:dj}{i:Nat}{V:Nat->ae->Prop}{E:bL}
def Es.mono{X Y:KV->Prop}(h:∀x,X x->Y x){x:KV}(hx:Es P T i V E X x):Es P T i V E Y x:=by
 obtain⟨hr,h1|⟨k,z,f,h1,h2,h3⟩|h1⟩:=hx
 ·refine⟨hr,.inl λw1 hw=>?_⟩;have⟨g',w',es,e1,e2,e3,e4⟩:=h1 w1 hw;exact⟨g',w',es,e1,e2,e3,h _ e4⟩
 ·exact⟨hr,.inr (.inl ⟨k,z,f,h1,h2,λw1 hw hv=>h _ (h3 w1 hw hv)⟩)⟩
 ·exact⟨hr,.inr (.inr h1)⟩
def Es.rely{X:KV->Prop}{x:KV}(hx:Es P T i V E X x){w1:ae}(hr:cY T i x.o x.rc x.w w1):Es P T i V E X ⟨x.g,x.o,x.rc,w1⟩:=by
 obtain⟨hs,h1|⟨k,z,f,h1,h2,h3⟩|⟨hm,h1⟩⟩:=hx
 ·exact⟨hs,.inl λw2 hw=>h1 w2 (hr.trans hw)⟩
 ·exact⟨hs,.inr (.inl ⟨k,z,f,h1,λw2 hw=>h2 w2 (hr.trans hw),λw2 hw hv=>h3 w2 (hr.trans hw) hv⟩)⟩
 ·exact⟨hs,.inr (.inr ⟨hm,λw2 hw=>h1 w2 (hr.trans hw)⟩)⟩
def gM.intro{x:KV}(h:Es P T i V E (gM P T i V E) x):gM P T i V E x:=λX hX=>hX x (h.mono λy hy=>hy X hX)
def gM.look{x:KV}(h:gM P T i V E x):Es P T i V E (gM P T i V E) x :=
 (h (λx=>gM P T i V E x/\Es P T i V E (gM P T i V E) x) λx hx=>⟨.intro (hx.mono λ_ hy=>hy.1),hx.mono λ_ hy=>hy.1⟩).2
def gM.rely{x:KV}(h:gM P T i V E x){w1:ae}(hr:cY T i x.o x.rc x.w w1):gM P T i V E ⟨x.g,x.o,x.rc,w1⟩:=.intro (h.look.rely hr)
def AG(P:Program)(T:dj)(i:Nat)(V:Nat->ae->Prop)(y x:KV):Prop :=
 (∃w1 es s r tm,cY T i x.o x.rc x.w w1/\stepG P false x.g w1=.go y.g y.w es/\y.o=grow x.o w1 y.w/\y.rc=x.rc/\w1.heap[T.ch i]?=so (.chan 0 #[] false s r tm)/\y.w.heap[T.ch i]?=w1.heap[T.ch i]?)
 \/ (∃k z f,T.dep i k/\cY T i x.o x.rc x.w y.w/\V k y.w/\stepG P false x.g y.w=.comm x.g #[rcase (T.ch k) z] true (.recv f) y.w #[]/\y.g=Go.Conc.served x.g (recvd f z false)/\y.o=x.o/\(y.rc=λb=>x.rc b\/b=k)/\∃s r tm,y.w.heap[T.ch i]?=so (.chan 0 #[] false s r tm))
def gM.acc(hT:T.OK)(hi:i<T.n){x:KV}(h:gM P T i V E x):Acc (AG P T i V) x:=by
 refine h (λx=>Acc (AG P T i V) x) λx hx=>Acc.intro x λy hy=>?_;obtain⟨hs,h1|⟨k,z,f,h1,h2,h3⟩|⟨hm,h1⟩⟩:=hx
 ·rcases hy with⟨w1,es,s,r,tm,r1,r2,r3,r4,r5,r6⟩|⟨k,z,f,r0,r1,r2,r3,_⟩
  ·have⟨g',w',mh,e1,e2,e3,e4⟩:=h1 w1 r1;rw[r2]at e1;cases e1;have:y=⟨y.g,grow x.o w1 y.w,x.rc,y.w⟩:=by rw[<- r3,<- r4]
   rw[this];exact e4
  ·have⟨g',w',mh,e1,_⟩:=h1 y.w r1;rw[r3]at e1;cases e1
 ·rcases hy with⟨w1,es,s,r,tm,r1,r2,_⟩|⟨k',z',f',r0,r1,r2,r3,r4,r5,r6,_⟩
  ·have:=h2 w1 r1;rw[r2]at this;cases this
  ·have e:=h2 y.w r1;rw[r3]at e;simp only[GStep.comm.injEq,Array.mk.injEq,cy,rcase,CommCase.mk.injEq,Value.chan.injEq,aA,and_true,true_and,CommShape.recv.injEq]at e;obtain⟨⟨e1,e2⟩,e3⟩:=e;have lD:=hT.dep i k' hi r0;have hk:=hT.dep i k hi h1;obtain rfl:=hT.x6 k' k aa aa e1;subst e2 e3;have:=h3 y.w r1 r2;have ey:y=⟨Go.Conc.served x.g (recvd f' z' false),x.o,λb=>x.rc b\/b=k',y.w⟩:=by rw[<- r4,<- r5,<- r6]
   rw[ey];exact this
 ·rcases hy with⟨w1,es,s,r,tm,r1,r2,r3,r4,r5,r6⟩|⟨k,z,f,r0,r1,r2,r3,ada⟩
  ·exfalso;have⟨g',e1,_⟩:=h1 w1 r1 s r tm r5;rw[r2]at e1;simp only[GStep.go.injEq]at e1;have cx:T.ch i<w1.heap.size:=(aad.1 r5).1;rw[e1.2.1,r5]at r6;simp[World.setChan,cx]at r6
  ·exfalso;obtain⟨_,_,_,s,r,tm,hc⟩:=ada;have⟨g',e1,_⟩:=h1 y.w r1 s r tm hc;rw[r3]at e1;cases e1
end
end
section
open Go.ConcR (KK wgBlock WgAt stA smA rd wr mk)
section
variable {α β:Type}(r le:α->α->Prop)(r0:β->β->Prop)(N:Nat)
def Ends(x:Nat×(Nat->α)×β):Prop:=(∀i,i<N->Acc r (x.2.1 i))/\Acc r0 x.2.2
def LT3(y x:Nat×(Nat->α)×β):Prop :=
 Ends r r0 N y/\(y.1<x.1\/(y.1=x.1/\IA r le N y.2.1 x.2.1)\/(y.1=x.1/\(∀i,i<N->le (y.2.1 i) (x.2.1 i))/\r0 y.2.2 x.2.2))
variable {r le r0 N}
def PC(rf:∀a,le a a)(tr:∀a b c,le a b->le b c->le a c)(hle:∀a b c,le b a->r c b->r c a):∀x,Ends r r0 N x->Acc (LT3 r le r0 N) x:=by
 have main:∀n,∀x:Nat×(Nat->α)×β,x.1=n->Ends r r0 N x->Acc (LT3 r le r0 N) x:=by
  intro n
  induction n using Nat.strongRecOn with
  |ind n ih =>
  have key:∀v:Nat->α,Acc (IA r le N) v->∀b:β,Acc r0 b->∀xs:Nat->α,(∀i,i<N->le (xs i) (v i))->Acc (LT3 r le r0 N) (n,xs,b):=by
   intro v hv
   induction hv with
   |intro v xz ihv =>
   intro b hb
   induction hb with
   |intro b nz ihb =>
   intro xs hxs;refine Acc.intro _ λy hy=>?_;obtain⟨hE,h1|⟨h1,i,hi,hr,ho⟩|⟨h1,h2,h3⟩⟩:=hy
   ·exact ih y.1 h1 y rfl hE
   ·have:=ihv y.2.1 ⟨i,hi,hle _ _ _ (hxs i hi) hr,λj hj Bt=>tr _ _ _ (ho j hj Bt) (hxs j hj)⟩ y.2.2 hE.2 y.2.1 (λ_ _=>rf _);have e:y=(n,y.2.1,y.2.2):=by rw[<- show y.1=n from h1]
    rw[e];exact this
   ·have:=ihb y.2.2 h3 y.2.1 (λj hj=>tr _ _ _ (h2 j hj) (hxs j hj));have e:y=(n,y.2.1,y.2.2):=by rw[<- show y.1=n from h1]
    rw[e];exact this
  intro x hx hE;have e:x=(n,x.2.1,x.2.2):=by rw[<- hx]
  rw[e];exact key x.2.1 (Sm rf tr hle N x.2.1 hE.1) x.2.2 hE.2 x.2.1 (λ_ _=>rf _)
 exact λx hE=>main x.1 x rfl hE
end
abbrev lN:=(Nat×KV×Bool) ⊕ Nat
def nC(P:Program)(T:dj)(V:Nat->ae->Prop):lN->lN->Prop
 | .inl (i',y,tb),.inl (i,x,ta)=>i'=i/\(AG P T i V y x\/(ta=false/\tb=true/\y.g=x.g/\y.o=x.o/\y.rc=x.rc/\cY T i x.o x.rc x.w y.w))
 | .inr m',.inr m=>m'<m
 |_,_=>False
def iT(T:dj):lN->lN->Prop
 | .inl (i',y,tb),.inl (i,x,ta)=>i'=i/\tb=ta/\y.g=x.g/\y.o=x.o/\y.rc=x.rc/\cY T i x.o x.rc x.w y.w
 | .inr m',.inr m=>m'=m
 |_,_=>False
section
variable {P:Program}{T:dj}{V:Nat->ae->Prop}
def iT.refl:∀a:lN,iT T a a
 | .inl (i,x,t)=>⟨rfl,rfl,rfl,rfl,rfl,cY.refl _⟩
 | .inr m=>rfl
def iT.trans:∀a b c:lN,iT T a b->iT T b c->iT T a c
 | .inl (i1,x1,t1),.inl (i2,x2,t2),.inl (i3,x3,t3),h,k=>by
  obtain⟨rfl,rfl,h3,h4,h5,h6⟩:=h;obtain⟨rfl,rfl,k3,k4,k5,k6⟩:=k;refine⟨rfl,rfl,h3.trans k3,h4.trans k4,h5.trans k5,?_⟩;rw[k4,k5]at h6;exact k6.trans h6
 | .inr m,.inr m',.inr m'',h,k=>Eq.trans h k
 | .inl _,.inr _,_,h,_=>h.elim
 | .inr _,.inl _,_,h,_=>h.elim
 | .inl _,.inl _,.inr _,_,k=>k.elim
 | .inr _,.inr _,.inl _,_,k=>k.elim
def AG.back{i:Nat}{z y x:KV}(h:AG P T i V z y)(e1:y.g=x.g)(e2:y.o=x.o)(e3:y.rc=x.rc)(hr:cY T i x.o x.rc x.w y.w):AG P T i V z x:=by
 rcases h with⟨w1,es,s,r,tm,r1,r2,r3,r4,r5⟩|⟨k,z',f,r0,r1,r2,r3,r4,r5,r6,r7⟩
 ·rw[e2,e3]at r1;rw[e1]at r2;rw[e2]at r3;rw[e3]at r4;exact .inl ⟨w1,es,s,r,tm,hr.trans r1,r2,r3,r4,r5⟩
 ·rw[e2,e3]at r1;rw[e1]at r3 r4;rw[e2]at r5;rw[e3]at r6;exact .inr ⟨k,z',f,r0,hr.trans r1,r2,r3,r4,r5,r6,r7⟩
def nC.back:∀a b c:lN,iT T b a->nC P T V c b->nC P T V c a
 | .inl (i1,x1,t1),.inl (i2,x2,t2),.inl (i3,x3,t3),h,k=>by
  obtain⟨rfl,rfl,h3,h4,h5,h6⟩:=h;obtain⟨rfl,k⟩:=k;refine⟨rfl,?_⟩;rcases k with k|⟨k1,k2,k3,k4,k5,k6⟩
  ·exact .inl (k.back h3 h4 h5 h6)
  ·rw[h4,h5]at k6;exact .inr ⟨k1,k2,k3.trans h3,k4.trans h4,k5.trans h5,h6.trans k6⟩
 | .inr m,.inr m',.inr m'',h,k=>by
  have h:m'=m:=h;subst h;exact k
 | .inl _,.inr _,_,h,_=>h.elim
 | .inr _,.inl _,_,h,_=>h.elim
 | .inl _,.inl _,.inr _,_,k=>k.elim
 | .inr _,.inr _,.inl _,_,k=>k.elim
def Wq{i:Nat}{x:KV}(h:Acc (AG P T i V) x):∀t,Acc (nC P T V) (.inl (i,x,t)):=by
 have adb:∀x,(∀y,AG P T i V y x->∀t,Acc (nC P T V) (.inl (i,y,t)))->Acc (nC P T V) (.inl (i,x,true)):=by
  intro x hx;refine Acc.intro _ λy hy=>?_;rcases y with⟨i',y,tb⟩|m
  ·obtain⟨rfl,h1⟩:=hy;rcases h1 with h1|⟨h1,_⟩
   ·exact hx y h1 tb
   ·cases h1
  ·exact hy.elim
 induction h with
 |intro x hx ih =>
  intro t;refine Acc.intro _ λy hy=>?_;rcases y with⟨i',y,tb⟩|m
  ·obtain⟨rfl,h1⟩:=hy;rcases h1 with h1|⟨_,rfl,k3,k4,k5,k6⟩
   ·exact ih y h1 tb
   ·exact adb y λz hz=>ih z (hz.back k3 k4 k5 k6)
  ·exact hy.elim
def Bv(m:Nat):Acc (nC P T V) (.inr m):=by
 induction m using Nat.strongRecOn with
 |ind m ih =>
  refine Acc.intro _ λy hy=>?_;rcases y with y|m'
  ·obtain⟨i',y,tb⟩:=y;exact hy.elim
  ·exact ih m' hy
end
structure SAt where
 g:aZ
 o:Nat->Prop
 w:ae
abbrev eQ:=bL
def di(P:Program)(T:dj)(Stop:eQ)(o:Nat->Prop)(g:aZ)(w:ae):Prop :=
 ∀X:bL,(∀o g w,(∀w1,dQ T o w w1->Stop o g w1)->X o g w) ->
  (∀o g w,g.status=.running->(∀w1,dQ T o w w1->∃g' w' es,stepG P true g w1=.go g' w' es/\Pz T o w1 w'/\(∀e∈es,EvS T (grow o w1 w') e)/\X (grow o w1 w') g' w')->X o g w)->X o g w
section
variable {P:Program}{T:dj}{Stop:eQ}
def di.stop{o:Nat->Prop}{g:aZ}{w:ae}(h:∀w1,dQ T o w w1->Stop o g w1):di P T Stop o g w:=λX h1 _=>h1 o g w h
def di.step{o:Nat->Prop}{g:aZ}{w:ae}(hs:g.status=.running)(h:∀w1,dQ T o w w1->∃g' w' es,stepG P true g w1=.go g' w' es/\Pz T o w1 w'/\(∀e∈es,EvS T (grow o w1 w') e)/\di P T Stop (grow o w1 w') g' w'):di P T Stop o g w:=by
 intro X h1 h2;refine h2 o g w hs λw1 hw=>?_;have⟨g',w',es,e1,e2,e3,e4⟩:=h w1 hw;exact⟨g',w',es,e1,e2,e3,e4 X h1 h2⟩
def di.look{o:Nat->Prop}{g:aZ}{w:ae}(h:di P T Stop o g w):(∀w1,dQ T o w w1->Stop o g w1)\/(g.status=.running/\∀w1,dQ T o w w1->∃g' w' es,stepG P true g w1=.go g' w' es/\Pz T o w1 w'/\(∀e∈es,EvS T (grow o w1 w') e)/\di P T Stop (grow o w1 w') g' w'):=by
 refine(h (λo g w=>di P T Stop o g w/\((∀w1,dQ T o w w1->Stop o g w1)\/(g.status=.running/\∀w1,dQ T o w w1->∃g' w' es,stepG P true g w1=.go g' w' es/\Pz T o w1 w'/\(∀e∈es,EvS T (grow o w1 w') e)/\di P T Stop (grow o w1 w') g' w'))) ?_ ?_).2
 ·intro o g w h;exact⟨.stop h,.inl h⟩
 ·intro o g w hs h;have h':∀w1,dQ T o w w1->∃g' w' es,stepG P true g w1=.go g' w' es/\Pz T o w1 w'/\(∀e∈es,EvS T (grow o w1 w') e)/\di P T Stop (grow o w1 w') g' w':=λw1 hw=>let ⟨g',w',es,a,b,c,d⟩:=h w1 hw;⟨g',w',es,a,b,c,d.1⟩;exact⟨.step hs h',.inr ⟨hs,h'⟩⟩
def di.rely{o:Nat->Prop}{g:aZ}{w w1:ae}(h:di P T Stop o g w)(hr:dQ T o w w1):di P T Stop o g w1:=by
 rcases h.look with h|⟨hs,h⟩
 ·exact .stop λw2 h2=>h w2 (hr.trans h2)
 ·exact .step hs λw2 h2=>h w2 (hr.trans h2)
def di.mono{IC:eQ}{o:Nat->Prop}{g:aZ}{w:ae}(h:di P T Stop o g w)(hS:∀o g w,Stop o g w->IC o g w):di P T IC o g w :=
 h _ (λo g w h=>.stop λw1 hw=>hS _ _ _ (h w1 hw)) (λo g w hs h=>.step hs h)
def di.trans{IC:eQ}{o:Nat->Prop}{g:aZ}{w:ae}(h:di P T (λo g w=>di P T IC o g w) o g w):di P T IC o g w :=
 h _ (λo g w h=>h w (dQ.refl w)) (λo g w hs h=>.step hs h)
def di.running{o:Nat->Prop}{g:aZ}{w:ae}(h:di P T Stop o g w)(hS:∀o g w,Stop o g w->g.status=.running):g.status=.running:=by
 rcases h.look with h|⟨hs,_⟩
 ·exact hS _ _ _ (h w (dQ.refl w))
 ·exact hs
def NN(P:Program)(T:dj)(Stop:eQ)(y x:SAt):Prop :=
 ¬(∀w1,dQ T x.o x.w w1->Stop x.o x.g w1)/\∃w1 es,dQ T x.o x.w w1/\stepG P true x.g w1=.go y.g y.w es/\y.o=grow x.o w1 y.w
def di.acc{o:Nat->Prop}{g:aZ}{w:ae}(h:di P T Stop o g w):Acc (NN P T Stop) ⟨g,o,w⟩:=by
 refine h (λo g w=>Acc (NN P T Stop) ⟨g,o,w⟩) ?_ ?_
 ·intro o g w h;exact Acc.intro _ λy hy=>absurd h hy.1
 ·intro o g w hs h;refine Acc.intro _ λy hy=>?_;obtain⟨_,w1,es,hr,eH,ho⟩:=hy;have⟨g',w',mh,e1,_,_,e3⟩:=h w1 hr;simp only at eH ho;rw[eH]at e1;cases e1;have e:y=⟨y.g,grow o w1 y.w,y.w⟩:=by rw[<- ho]
  rw[e];exact e3
end
abbrev jE:=(eQ×SAt) ⊕ Nat
def mP(P:Program)(T:dj):jE->jE->Prop
 | .inl (S',y),.inl (S,x)=>S'=S/\NN P T S y x
 | .inr _,.inl _=>True
 |_,_=>False
def ID{P:Program}{T:dj}(m:Nat):Acc (mP P T) (.inr m):=Acc.intro _ λy hy=>by
 rcases y with⟨S',y⟩|m'
 ·exact hy.elim
 ·exact hy.elim
def Sr{P:Program}{T:dj}{S:eQ}{x:SAt}(h:Acc (NN P T S) x):Acc (mP P T) (.inl (S,x)):=by
 induction h with
 |intro x hx ih =>
  refine Acc.intro _ λy hy=>?_;rcases y with⟨S',y⟩|m
  ·obtain⟨e,h⟩:=hy;rw[e];exact ih y h
  ·exact ID m
end
section
open Go.ConcR (KK wgBlock WgAt stA smA rd wr mk Payload)
variable [Payload]
abbrev qX:Nat->Loc->Prop:=λ_ _=>False
section
variable (P:Program)(T:dj)(V:Nat->ae->Prop)(ff:Nat->(Nat->Prop)->ae->Prop)(cP Fin:eQ)
def Et(i:Nat)(o:Nat->Prop)(g:aZ)(w:ae):Prop :=
 ∃C v m,o C/\Goes P false (RW T.ty T.Wg C 0 0 (1-1)) (DWs T.Wg qX qX C 0 1) (AtR0 P T.ty T.Wg C 0 0 1 v) m g w/\ff i (λb=>o b/\b≠C) w
def PD:eQ:=λo g w=>g.status=.running/\∃g',stepG P true g w=.go g' w #[mk (.acquire (stA T.Wg))]/\Fin o g' w
def YH:eQ:=λo g w=>g.status=.running/\∃g',stepG P true g w=.go g' w #[mk .enable]/\di P T (PD P T Fin) o g' w
def SW4:eQ:=λo g w=>g.status=.running/\(WgAt T.ty T.Wg w 0 0->∃g',stepG P true g w=.go g' w #[rd (stA T.Wg)]/\di P T (YH P T Fin) o g' w)
def Z7:eQ:=λo g w=>g.status=.running/\g.offers=we /\
 ((∃st,WgAt T.ty T.Wg w st 0)->stepG P true g w=.go {g with status:=.blocked} w #[]) /\
 (WgAt T.ty T.Wg w 0 1->∃g',stepG P true g w=.go g' (w.setCell (smA T.Wg) (.int .u32 0)) (semEvents (smA T.Wg))/\di P T (SW4 P T Fin) o g' (w.setCell (smA T.Wg) (.int .u32 0)))
def SW2(vs:Nat):eQ:=λo g w=>g.status=.running/\∀v:Nat,v<2147483648->WgAt T.ty T.Wg w (v*KK) 0 ->
 (v=vs->∃g',stepG P true g w=.go g' (w.setCell (stA T.Wg) (.int .u64 (v*KK+1))) #[rd (stA T.Wg),wr (stA T.Wg)]/\di P T (Z7 P T Fin) o g' (w.setCell (stA T.Wg) (.int .u64 (v*KK+1)))) /\
 (v≠vs->∃g',stepG P true g w=.go g' w #[rd (stA T.Wg)]/\di P T cP o g' w)
def RL:eQ:=λo g w=>g.status=.running/\∀v:Nat,v<2147483648->WgAt T.ty T.Wg w (v*KK) 0 ->
 ∃g',stepG P true g w=.go g' w #[rd (stA T.Wg)]/\(v=0->di P T (YH P T Fin) o g' w)/\(v≠0->di P T (SW2 P T cP Fin v) o g' w)
def RN:eQ:=λo g w=>g.status=.running/\∃g',stepG P true g w=.go g' w #[mk .disable]/\di P T cP o g' w
def SGo(j:Nat)(Next:eQ):eQ:=λo g w=>g.status=.running/\∃g' child hand,stepG P true g w=.spawn g' child w #[]/\(∀b,hand b->o b) /\
 (∀w1,dQ T o w w1->T.Idle j w1->gM P T j V (Et P T ff j) ⟨child,hand,λ_=>False,w1⟩)/\Next (λb=>o b/\¬hand b) g' w
def Z8(j:Nat)(Next:eQ):eQ:=λo g w=>g.status=.running/\∃g',stepG P true g w=.go g' w #[mk .enable]/\di P T (SGo P T V ff j Next) o g' w
def SA1(j:Nat)(Next:eQ):eQ:=λo g w=>g.status=.running/\∀v:Nat,v<2147483647->WgAt T.ty T.Wg w (v*KK) 0 ->
 ∃g',stepG P true g w=.go g' (w.setCell (stA T.Wg) (.int .u64 ((v+1)*KK))) #[rd (stA T.Wg),wr (stA T.Wg)]/\di P T (Z8 P T V ff j Next) o g' (w.setCell (stA T.Wg) (.int .u64 ((v+1)*KK)))
def LK(j:Nat)(Next:eQ):eQ:=λo g w=>g.status=.running/\∃g',stepG P true g w=.go g' w #[mk .disable]/\di P T (SA1 P T V ff j Next) o g' w
def iY:Nat->eQ
 |0=>di P T (RN P T cP)
 |r+1=>di P T (LK P T V ff (T.n-(r+1)) (iY r))
def kx:CTag->eQ
 | .sp r s=>if s=5 then LK P T V ff (T.n-(r+1)) (iY P T V ff cP r)else if s=4 then SA1 P T V ff (T.n-(r+1)) (iY P T V ff cP r)
   else if s=3 then Z8 P T V ff (T.n-(r+1)) (iY P T V ff cP r)else SGo P T V ff (T.n-(r+1)) (iY P T V ff cP r)
 | .kd=>RN P T cP
 | .w1=>RL P T cP Fin
 | .w2 vs=>SW2 P T cP Fin vs
 | .w3|.blk=>Z7 P T Fin
 | .w4=>SW4 P T Fin
 | .ke=>YH P T Fin
 | .acq=>PD P T Fin
 | .anch|.ret=>λ_ _ _=>False
def mC(n:Nat):CTag->Nat->Nat->Prop
 | .sp r s,j,d=>r<n/\j=n-(r+1)/\((s=5/\d=0)\/(s=4/\d=1)\/(s=3/\d=1)\/(s=2/\d=0))
 | .kd,j,d=>j=n/\d=0
 | .w1,j,d|.w2 _,j,d|.w3,j,d|.blk,j,d|.w4,j,d|.ke,j,d=>j=n/\d=1
 | .acq,j,d=>j=n/\d=0
 | .anch,_,_|.ret,_,_=>False
def jK(tag:CTag)(o:Nat->Prop)(a:aZ)(w:ae)(y:jE):Prop :=
 match tag with
 | .blk=>∃a0,a={a0 with status:=.blocked}/\(∀w1,dQ T o w w1->Z7 P T Fin o a0 w1)/\y=.inr 0
 |tag=>di P T (kx P T V ff cP Fin tag) o a w/\y=.inl (kx P T V ff cP Fin tag,⟨a,o,w⟩)
def KW(i:Nat)(o rc:Nat->Prop)(cl:Nat->Option Nat)(d:WD)(ld:lN)(g:aZ)(w:ae):Prop :=
 (cl i=we/\d.stage=7/\d.deaf=0/\∃g0 tr,ld=.inl (i,⟨g0,o,rc,w⟩,tr)/\gM P T i V (Et P T ff i) ⟨g0,o,rc,w⟩ /\
  ((g=g0/\tr=false)\/(tr=true/\∃k z f,T.dep i k/\(∀w1,cY T i o rc w w1->stepG P false g0 w1=.comm g0 #[rcase (T.ch k) z] true (.recv f) w1 #[]) /\
   ((g=parked g0 #[rcase (T.ch k) z] (.recv f)/\cl k=we)\/(g={parked g0 #[rcase (T.ch k) z] (.recv f)with status:=.running}/\(cl k).isSome=true)))))
 \/ ((cl i).isSome=true/\ld=.inr d.fuel/\V i w/\∃C v,o C/\WSit P T.ty T.Wg C 0 qX qX 0 1 v d.stage d.fuel d.deaf g w/\ff i (λb=>o b/\b≠C) w)
end
structure kz(T:dj)(V:Nat->ae->Prop)(ff:Nat->(Nat->Prop)->ae->Prop):Prop where
 v:∀k w w1,(∀a,T.jV k (.cell a)->w1.cell? a=w.cell? a)->V k w->V k w1
 val:∀k o w w1,(∀a,T.jV k (.cell a)->w1.cell? a=w.cell? a)->(∀b,o b->w1.heap[b]?=w.heap[b]?)->ff k o w->ff k o w1
section
variable {P:Program}{T:dj}{V:Nat->ae->Prop}{ff:Nat->(Nat->Prop)->ae->Prop}{cP Fin:eQ}
theorem cY.rw{i:Nat}{o rc:Nat->Prop}{w w1:ae}(h:cY T i o rc w w1){C:Nat}(hC:o C):RW T.ty T.Wg C 0 0 (1-1) w w1 :=
 ⟨λb hb=>absurd hb (er _),h.wg,λ⟨cs,h1,h2⟩=>⟨cs,(h.own C hC).trans h1,h2⟩,cell_of_block (h.own C hC) 0⟩
theorem x9{g0:aZ}{c:Nat}{z:Value}{f:Bool}{w:ae}{s r:Nat}{tm b:Bool}(hc:w.heap[c]?=so (.chan 0 #[] b s r tm)):
  (parked g0 #[rcase c z] (.recv f)).again w=if b=true then {parked g0 #[rcase c z] (.recv f)with status:=.running} else parked g0 #[rcase c z] (.recv f):=by
 cases b
 ·exact again_recv_open hc
 ·exact again_recv_closed hc
def mD(w:ae):lN->lN
 | .inl (i,x,tr)=>.inl (i,{x with w:=w},tr)
 | .inr m=>.inr m
theorem KW.PE(hV:kz T V ff){i:Nat}{o rc:Nat->Prop}{cl cl':Nat->Option Nat}{d:WD}{ld:lN}{g:aZ}{w w':ae}(h:KW P T V ff i o rc cl d ld g w)(hr:cY T i o rc w w'){x x':aZ}(fw:cl' i=cl i)(Is:∀k,(cl k).isSome=true->(cl' k).isSome=true)(hw:∀k,cl k=we->T.dep i k->cl' k=we\/(mayWake P x=true/\x'.status=.running))(vO:∀k,T.dep i k->∃s r tm,w'.heap[T.ch k]?=so (.chan 0 #[] (cl' k).isSome s r tm)):
  iT T (mD w' ld) ld/\KW P T V ff i o rc cl' d (mD w' ld) (woken P x x' w' g) w':=by
 rcases h with⟨h1,h2,h3,g0,tr,h4,h5,h6⟩|⟨h1,h2,h3,C,v,h4,h5,h6⟩
 ·refine⟨by rw[h4];exact⟨rfl,rfl,rfl,rfl,rfl,hr⟩,.inl ⟨fw.trans h1,h2,h3,g0,tr,by rw[h4];rfl,h5.rely hr,?_⟩⟩;have adf:g0.status=.running:=h5.look.1;rcases h6 with⟨h6,h6t⟩|⟨h6,k,z,f,h7,h8,h9⟩
  ·left;rw[h6,woken_running adf];exact⟨rfl,h6t⟩
  ·refine .inr ⟨h6,k,z,f,h7,λw1 qY=>h8 w1 (hr.trans qY),?_⟩;rcases h9 with⟨h9,nD⟩|⟨h9,nD⟩
   ·have⟨s,r,tm,hc⟩:=vO k h7;rcases hw k nD h7 with hn|⟨hm,hx⟩
    ·left;refine⟨?_,hn⟩;rw[hn]at hc;rw[h9];unfold woken;split
     ·rw[x9 hc];simp
     ·rfl
    ·have e:woken P x x' w' g=g.again w':=by unfold woken;simp[hm,hx]
     rw[e,h9,x9 hc];cases aol:cl' k with
     |none=>left;simp
     |some p=>right;simp
   ·right;rw[h9,woken_running rfl];exact⟨rfl,Is k nD⟩
 ·have kS:∀a,T.jV i (.cell a)->w'.cell? a=w.cell? a:=λa ha=>hr.mine a (.inl ha);have e2:mD w' ld=ld:=by rw[h2];rfl
  rw[e2];refine⟨iT.refl ld,.inr ⟨by rw[fw];exact h1,h2,hV.v i w w' kS h3,C,v,h4,?_,hV.val i _ w w' kS (λb hb=>hr.own b hb.1) h6⟩⟩;rw[h5.woken];exact h5.rely (hr.rw h4)
theorem KW.status{i:Nat}{o rc:Nat->Prop}{cl:Nat->Option Nat}{d:WD}{ld:lN}{g:aZ}{w:ae}(h:KW P T V ff i o rc cl d ld g w):
  g.status=.running\/g.status=.finished\/(g.status=.blocked/\cl i=we/\∃k,T.dep i k/\cl k=we):=by
 rcases h with⟨h1,h2,h3,g0,tr,h4,h5,h6⟩|⟨h1,h2,h3,C,v,h4,h5,h6⟩
 ·rcases h6 with⟨h6,_⟩|⟨h6,k,z,f,h7,h8,⟨h9,nD⟩|⟨h9,_⟩⟩
  ·left;rw[h6];exact h5.look.1
  ·exact .inr (.inr ⟨by rw[h9];rfl,h1,k,h7,nD⟩)
  ·left;rw[h9]
 ·exact h5.status.imp id .inl
theorem KW.acc(hT:T.OK){i:Nat}(hi:i<T.n){o rc:Nat->Prop}{cl:Nat->Option Nat}{d:WD}{ld:lN}{g:aZ}{w:ae}(h:KW P T V ff i o rc cl d ld g w):Acc (nC P T V) ld:=by
 rcases h with⟨h1,h2,h3,g0,tr,h4,h5,h6⟩|⟨h1,h2,h3,C,v,h4,h5,h6⟩
 ·rw[h4];exact Wq (h5.acc hT hi) tr
 ·rw[h2];exact Bv _
theorem jK.acc{tag:CTag}{o:Nat->Prop}{a:aZ}{w:ae}{y:jE}(h:jK P T V ff cP Fin tag o a w y):Acc (mP P T) y:=by
 cases tag
 case blk=>obtain⟨a0,_,_,e⟩:=h;rw[e];exact ID 0
 all_goals (obtain⟨h1,e⟩:=h;rw[e];exact Sr h1.acc)
structure gn(P:Program)(T:dj)(V:Nat->ae->Prop)(ff:Nat->(Nat->Prop)->ae->Prop)(cP Fin:eQ)(t0:Trace)(w0:ae)(gs:Array aZ)(w:ae)(t:Trace)(S:jD)(D:Nat->WD)(x:Nat->lN)(tag:CTag)(a:aZ)(y:jE)(st sm:Int):Prop where
 size:gs.size=T.m0+S.j
 Fj:gs[0]?=so a
 LL:jK P T V ff cP Fin tag (S.own 0) a w y
 ui:mC T.n tag S.j (Deaf t 0)
 old:∀k,0<k->k<T.m0->∃g q,gs[k]?=so g/\x k=.inr q/\QuitsD P q (Deaf t k) g
 wk:∀i,i<S.j->∃g,gs[T.m0+i]?=so g/\KW P T V ff i (S.own (T.m0+i)) (S.rc i) S.cl (D i) (x (T.m0+i)) g w
 rest:∀k,T.m0+S.j<=k->x k=.inr 0
 zero:x 0=.inr 0
 deafW:∀i,i<S.j->Deaf t (T.m0+i)=(D i).deaf
 above:∀k,gs.size<=k->Deaf t k=0
 ti:TI T S t
 tw:S.OK T
 lt:∀z b,S.own z b->b<w.heap.size
 h0:T.H0<=w.heap.size
 wg:WgAt T.ty T.Wg w st sm
 mode:Go.ConcN.Mode S.j D tag st sm
 chan:∀k,k<T.n->∃s r tm,w.heap[T.ch k]?=so (.chan 0 #[] (S.cl k).isSome s r tm)
 VM:∀i k,S.rc i k->(S.cl k).isSome=true
 Z9:∀k,S.j<=k->S.cl k=we
 VK:∀i k,S.rc i k->i<S.j
 rel:∀i,i<S.j->(D i).stage<=6->∃r,T.T0<=r/\RelBy (stA T.Wg) t (T.m0+i) r/\∀i' a,r<i'->t.g? i'=so (T.m0+i)->touchAt t i'=so a->uf (λb=>b=T.Wg) a.loc/\a.kind=.atomic
 norel:∀k,T.T0<=k->t.act? k≠so (.mark (.release (stA T.Wg)))
 VI:∀i z,T.T0<=i->t[i]?=so z->z.g=0\/(∃k,k<S.j/\z.g=T.m0+k)\/z.act.touch?=we
 ext:∃U,t=t0++U
 same:dQ T (λ_=>False) w0 w
 D5:qH T S.j w0 w
 idle0:∀k,k<T.n->T.Idle k w0
def mQ(S:jD):Nat:=sumTo S.j λi=>if S.cl i=we then 1 else 0
def pG(T:dj)(S:jD)(D:Nat->WD)(tag:CTag):Nat:=phi T.n (Vc S.j D) tag+Ssum S.j D+mQ S
end
end
section
open Go.ConcR (KK wgBlock WgAt stA smA rd wr mk Payload g_of_ofEvents loc_of_ofEvent)
variable [Payload]
section
variable {P:Program}{T:dj}{V:Nat->ae->Prop}{ff:Nat->(Nat->Prop)->ae->Prop}{cP Fin:eQ}{t0:Trace}{w0:ae}
 {gs:Array aZ}{w w':ae}{t:Trace}{S S':jD}{D:Nat->WD}{x:Nat->lN}{tag:CTag}{a:aZ}{y:jE}{st sm:Int}{sl:Option (Nat×Nat)}
theorem mR{tag:CTag}{o:Nat->Prop}{g:aZ}{w:ae}(h:kx P T V ff cP Fin tag o g w):g.status=.running:=by
 cases tag<;>simp only[kx]at h
 case sp r s =>
  split at h
  ·exact h.1
  ·split at h
   ·exact h.1
   ·split at h<;>exact h.1
 all_goals exact h.1
theorem jK.eq{tag:CTag}(dE:tag≠.blk){o:Nat->Prop}{a:aZ}{w:ae}{y:jE}:jK P T V ff cP Fin tag o a w y=(di P T (kx P T V ff cP Fin tag) o a w/\y=.inl (kx P T V ff cP Fin tag,⟨a,o,w⟩)):=by
 cases tag<;>first|rfl|exact absurd rfl dE
theorem jK.PE{tag:CTag}{o:Nat->Prop}{a:aZ}{y:jE}(h:jK P T V ff cP Fin tag o a w y)(hr:dQ T o w w')(u u':aZ):
  ∃tag' y',jK P T V ff cP Fin tag' o (woken P u u' w' a) w' y'/\(tag'=tag\/(tag=.blk/\tag'=.w3))/\(mayWake P u=true->u'.status=.running->tag'≠.blk):=by
 by_cases hb:tag=.blk
 ·subst hb;obtain⟨a0,h1,h2,h3⟩:=h;have hs:=h2 w (dQ.refl w);by_cases hw:(mayWake P u&&u'.status != .blocked&&u'.status != .waiting)=true
  ·refine⟨.w3,_,⟨?_,rfl⟩,.inr ⟨rfl,rfl⟩,λ_ _=>ar⟩;have e:woken P u u' w' a=a0:=by
    unfold woken;rw[if_pos hw,h1];have h4:=hs.1;have h5:=hs.2.1;obtain⟨fr,cs,stt,dy,of⟩:=a0;simp only at h4 h5;subst h4 h5;rfl
   rw[e];exact .stop λw1 qY=>h2 w1 (hr.trans qY)
  ·refine⟨.blk,_,⟨a0,?_,λw1 qY=>h2 w1 (hr.trans qY),rfl⟩,.inl rfl,λh1 h2=>absurd ?_ hw⟩
   ·unfold woken;rw[if_neg hw,h1]
   ·simp[h1,h2]
 ·rw[jK.eq hb]at h;obtain⟨h1,h2⟩:=h;have cJ:=h1.running λo g w hh=>mR hh;refine⟨tag,.inl (kx P T V ff cP Fin tag,⟨a,o,w'⟩),?_,.inl rfl,λ_ _=>hb⟩;rw[jK.eq hb,woken_running cJ];exact⟨h1.rely hr,rfl⟩
theorem pH{α:Type}{gs:Array α}(f:α->α)(p k:Nat)(u:α)(h:p≠k):((gs.map f).setIfInBounds p u)[k]?=(gs[k]?).map f:=by
 rw[aU h,aL]
theorem vl{es:Array Event}{g:Nat}{fn:FuncId}{pos:String}(h:∀k,T.T0<=k->t.act? k≠so (.mark (.release (stA T.Wg))))(hu:∀e∈es,e.loc≠.mark (.release (stA T.Wg))):
  ∀k,T.T0<=k->(t++MemOp.ofEvents g fn pos es).act? k≠so (.mark (.release (stA T.Wg))):=by
 intro k hk e;obtain⟨op,ho,YI⟩:=aaf.1 e;rcases getElem?_append_cases ho with⟨cx,pE⟩|⟨_,Ss⟩
 ·exact h k hk (by rw[act?_of pE,YI])
 ·obtain⟨ev,jb,rfl⟩:=Go.Conc.mem_ofEvents Ss;exact hu ev jb (loc_of_ofEvent YI)
theorem vm{u:Trace}{j:Nat}(h:∀i z,T.T0<=i->t[i]?=so z->z.g=0\/(∃k,k<j/\z.g=T.m0+k)\/z.act.touch?=we)(hu:∀z∈u,z.g=0\/(∃k,k<j/\z.g=T.m0+k)\/z.act.touch?=we):
  ∀i z,T.T0<=i->(t++u)[i]?=so z->z.g=0\/(∃k,k<j/\z.g=T.m0+k)\/z.act.touch?=we:=by
 intro i z hi hz;rcases getElem?_append_cases hz with⟨cx,DZ⟩|⟨_,HN⟩
 ·exact h i z hi DZ
 ·exact hu z HN
theorem r8{i g:Nat}{u:Trace}(h:∃r,T.T0<=r/\RelBy (stA T.Wg) t (T.m0+i) r/\∀i' a,r<i'->t.g? i'=so (T.m0+i)->touchAt t i'=so a->uf (λb=>b=T.Wg) a.loc/\a.kind=.atomic)(hu:∀op∈u,op.g=g)(hg:g≠T.m0+i):∃r,T.T0<=r/\RelBy (stA T.Wg) (t++u) (T.m0+i) r/\∀i' a,r<i'->(t++u).g? i'=so (T.m0+i)->touchAt (t++u) i'=so a->uf (λb=>b=T.Wg) a.loc/\a.kind=.atomic:=by
 obtain⟨r,h1,h2,h3⟩:=h;refine⟨r,h1,h2.appOther hu hg,λi' a ml Wo YJ=>?_⟩;obtain⟨z,hz,YG⟩:=aaf.1 Wo;rcases getElem?_append_cases hz with⟨cx,DZ⟩|⟨_,HN⟩
 ·exact h3 i' a ml (by simp[Trace.g?,DZ,YG]) (by rw[<- touchAt_old (u:=u) cx];exact YJ)
 ·rw[hu z HN]at YG;exact absurd YG hg
theorem gn.worker(hT:T.OK)(hV:kz T V ff)(h:gn P T V ff cP Fin t0 w0 gs w t S D x tag a y st sm){i:Nat}(hi:i<S.j)(tK:S.j<=T.n){g g':aZ}{es:Array Event}(hg:gs[T.m0+i]?=so g)(hgo:stepG P false g w=.go g' w' es){d':WD}{ld':lN}{st' sm':Int}(hj:S'.j=S.j)(PG:TI T S' (t++MemOp.ofEvents (T.m0+i) g.frame.fn g.frame.place es))(ahQ:S'.OK T)(NO:S'.own 0=S.own 0)(adg:∀k,k≠i->S'.own (T.m0+k)=S.own (T.m0+k))(adh:∀k,k≠i->S'.rc k=S.rc k)(aaa:∀k,k≠i->S'.cl k=S.cl k)(cx:∀z b,S'.own z b->b<w'.heap.size)(fy:w.heap.size<=w'.heap.size)(adi:dQ T (S.own 0) w w')(Su:∀k,k<S.j->k≠i->cY T k (S.own (T.m0+k)) (S.rc k) w w')(kS:dQ T (λ_=>False) w w')(PH:qH T S.j w w')(Is:∀k,(S.cl k).isSome=true->(S'.cl k).isSome=true)(PI:KW P T V ff i (S'.own (T.m0+i)) (S'.rc i) S'.cl d' ld' g' w')(adj:S'.cl i=S.cl i\/(mayWake P g=true/\g'.status=.running))(YK:∀k,k<T.n->∃s r tm,w'.heap[T.ch k]?=so (.chan 0 #[] (S'.cl k).isSome s r tm))(Sw:∀i k,S'.rc i k->(S'.cl k).isSome=true)(hrel:d'.stage<=6->∃r,T.T0<=r/\RelBy (stA T.Wg) (t++MemOp.ofEvents (T.m0+i) g.frame.fn g.frame.place es) (T.m0+i) r/\∀i' a,r<i'->(t++MemOp.ofEvents (T.m0+i) g.frame.fn g.frame.place es).g? i'=so (T.m0+i)->touchAt (t++MemOp.ofEvents (T.m0+i) g.frame.fn g.frame.place es) i'=so a->uf (λb=>b=T.Wg) a.loc/\a.kind=.atomic)(adk:deafBehind (D i).deaf es=d'.deaf)(LM:∀e∈es,e.loc≠.mark (.release (stA T.Wg)))(pk:WgAt T.ty T.Wg w' st' sm')(jX:∀tag',(tag'=tag\/(tag=.blk/\tag'=.w3))->(mayWake P g=true->g'.status=.running->tag'≠.blk)->Go.ConcN.Mode S.j (upd D i d') tag' st' sm'):
  ∃gH tag' a' y',runT P (crowd gs w sl) (T.m0+i)=(.next (crowd gH w' sl),MemOp.ofEvents (T.m0+i) g.frame.fn g.frame.place es)/\(tag'=tag\/(tag=.blk/\tag'=.w3)) /\
   gn P T V ff cP Fin t0 w0 gH w' (t++MemOp.ofEvents (T.m0+i) g.frame.fn g.frame.place es) S' (upd D i d') (upd (λk=>mD w' (x k)) (T.m0+i) ld') tag' a' y' st' sm'/\∀k,k≠T.m0+i->iT T (mD w' (x k)) (x k):=by
 have NP:=hT.m0;have VN:T.m0+i≠0:=aa;have KX:(T.m0+i==0)=false:=eP;have⟨tag',y',KY,Cx,hs3⟩:=h.LL.PE adi g g';have cJ:=runT_crowd_go (P:=P) (sl:=sl) (i:=T.m0+i) hg (by rw[KX];exact hgo);have A8:T.m0+i<gs.size:=by rw[h.size];omega
 have hu:∀op∈MemOp.ofEvents (T.m0+i) g.frame.fn g.frame.place es,op.g=T.m0+i:=g_of_ofEvents;have KZ:∀k,k≠T.m0+i->Deaf (t++MemOp.ofEvents (T.m0+i) g.frame.fn g.frame.place es) k=Deaf t k:=λk hk=>Deaf_other t (bq hk) _ hu;have Eu:∀k,k<S.j->k≠i->iT T (mD w' (x (T.m0+k))) (x (T.m0+k))/\∃gk,gs[T.m0+k]?=so gk/\KW P T V ff k (S'.own (T.m0+k)) (S'.rc k) S'.cl (D k) (mD w' (x (T.m0+k))) (woken P g g' w' gk) w':=by
  intro k hk PK;have⟨gk,h1,h2⟩:=h.wk k hk;have⟨h3,h4⟩:=h2.PE (cl':=S'.cl) hV (Su k hk PK) (x:=g) (x':=g') (aaa k PK) Is (λk' hn _=>by
   by_cases e:k'=i
   ·subst e;rcases adj with hw|hw
    ·exact .inl (hw.trans hn)
    ·exact .inr hw
   ·exact .inl ((aaa k' e).trans hn)) (λk' hd=>YK k' (by have:=hT.dep k k' aa hd;omega))
  refine⟨h3,gk,h1,?_⟩;rw[adg k PK,adh k PK];exact h4
 refine⟨_,tag',woken P g g' w' a,y',cJ,Cx,?_,?_⟩
 ·refine⟨by simp[h.size,hj],?_,by rw[NO];exact KY,?_,λk k0 km=>?_,λk hk=>?_,λk hk=>?_,?_,λk hk=>?_,λk hk=>?_,PG,ahQ,cx,aY h.h0 fy,pk,by rw[hj];exact jX tag' Cx hs3,YK,Sw,λk hk=>?_,λi' k hr=>?_,λk hk eH=>?_,vl h.norel LM,?_,?_,h.same.trans kS,by rw[hj];exact h.D5.trans PH,h.idle0⟩
  ·rw[pH _ _ _ _ VN,h.Fj];rfl
  ·rw[KZ 0 (bq VN),hj];have:=h.ui;rcases Cx with rfl|⟨rfl,rfl⟩
   ·exact this
   ·exact this
  ·have⟨gk,q,h1,h2,h3⟩:=h.old k k0 km;have dE:T.m0+i≠k:=aa;refine⟨gk,q,by rw[pH _ _ _ _ dE,h1,aJ,woken_quitsD h3],by rw[upd_ne _ _ (bq dE),h2];rfl,by rw[KZ k (bq dE)];exact h3⟩
  ·rw[hj]at hk;by_cases e:k=i
   ·subst e;exact⟨g',by simp[A8],by rw[upd_same,upd_same];exact PI⟩
   ·have⟨_,gk,h1,h2⟩:=Eu k hk e;have dE:T.m0+i≠T.m0+k:=aa;exact⟨_,by rw[pH _ _ _ _ dE,h1];rfl,by rw[upd_ne _ _ e,upd_ne _ _ (bq dE)];exact h2⟩
  ·rw[hj]at hk;rw[upd_ne _ _ aa,h.rest k hk];rfl
  ·rw[upd_ne _ _ (bq VN),h.zero];rfl
  ·rw[hj]at hk;by_cases e:k=i
   ·subst e;rw[Deaf_own,h.deafW k hk,upd_same];exact adk
   ·rw[KZ _ aa,h.deafW k hk,upd_ne _ _ e]
  ·have lD:gs.size<=k:=by simpa using hk
   rw[KZ k (by rw[h.size]at lD;omega)];exact h.above k lD
  ·rw[hj]at hk;rw[aaa k aa];exact h.Z9 k hk
  ·rw[hj];by_cases e:i'=i
   ·subst e;exact hi
   ·rw[adh i' e]at hr;exact h.VK i' k hr
  ·rw[hj]at hk;by_cases e:k=i
   ·subst e;rw[upd_same]at eH;exact hrel eH
   ·rw[upd_ne _ _ e]at eH;exact r8 (h.rel k hk eH) hu aa
  ·rw[hj];exact vm h.VI λz hz=>.inr (.inl ⟨i,hi,hu z hz⟩)
  ·have⟨U,hU⟩:=h.ext;exact⟨U++MemOp.ofEvents (T.m0+i) g.frame.fn g.frame.place es,by rw[hU,dF]⟩
 ·intro k hk;rcases bg k with rfl|mO
  ·rw[h.zero];exact rfl
  ·rcases cd k T.m0 with qh | PL
   ·have⟨gk,q,_,h2,_⟩:=h.old k mO qh;rw[h2];exact rfl
   ·rcases cd k (T.m0+S.j)with Ny|za
    ·have:=(Eu (k-T.m0) aa aa).1;rw[show T.m0+(k-T.m0)=k by omega]at this;exact this
    ·rw[h.rest k za];exact rfl
end
end
section
open Go.ConcR (KK wgBlock WgAt stA smA rd wr mk Payload g_of_ofEvents loc_of_ofEvent)
variable [Payload]
section
variable {P:Program}{T:dj}{V:Nat->ae->Prop}{ff:Nat->(Nat->Prop)->ae->Prop}{cP Fin:eQ}{t0:Trace}{w0:ae}
 {gs:Array aZ}{w w':ae}{t:Trace}{S S':jD}{D:Nat->WD}{x:Nat->lN}{tag:CTag}{a:aZ}{y:jE}{st sm:Int}{sl:Option (Nat×Nat)}
theorem gn.aab(hT:T.OK)(hV:kz T V ff)(h:gn P T V ff cP Fin t0 w0 gs w t S D x tag a y st sm)(tK:S.j<=T.n){k:Nat}(k0:0<k)(km:k<T.m0){g:aZ}(hg:gs[k]?=so g)(cJ:g.status=.running):
  ∃gH tag' a' y' x' ops,runT P (crowd gs w sl) k=(.next (crowd gH w sl),ops)/\(tag'=tag\/(tag=.blk/\tag'=.w3)) /\
   gn P T V ff cP Fin t0 w0 gH w (t++ops) S D x' tag' a' y' st sm/\nC P T V (x' k) (x k)/\∀k',k'≠k->iT T (x' k') (x k'):=by
 have⟨g1,q,h1,h2,h3⟩:=h.old k k0 km;rw[hg]at h1;cases h1;obtain⟨q',g',es,hm,eH,hq⟩:∃q' g' es,(∀e∈es,Event.mute e=true)/\(∀w,stepG P false g w=.go g' w es)/\QuitsD P q' (deafBehind (Deaf t k) es) g'/\q=q'+1:=by
  cases q with
  |zero=>rw[h3.1]at cJ;cases cJ
  |succ q' =>
   rcases h3 with⟨hf,_⟩|⟨_,g',es,hm,eH,hq⟩
   ·rw[hf]at cJ;cases cJ
   ·exact⟨q',g',es,hm,eH,hq,rfl⟩
 obtain⟨hq,rfl⟩:=hq;have KX:(k==0)=false:=eP;have HY:k≠0:=aa;have ug:=runT_crowd_go (P:=P) (sl:=sl) (i:=k) hg (by rw[KX];exact eH w);have⟨tag',y',KY,Cx,hs3⟩:=h.LL.PE (dQ.refl w) g g';have hu:∀op∈MemOp.ofEvents k g.frame.fn g.frame.place es,op.g=k:=g_of_ofEvents;have hn:∀op∈MemOp.ofEvents k g.frame.fn g.frame.place es,op.act.touch?=we:=λop eW=>by obtain⟨e,he,rfl⟩:=Go.Conc.mem_ofEvents eW;exact touch_mute (hm e he)
 have KZ:∀k',k'≠k->Deaf (t++MemOp.ofEvents k g.frame.fn g.frame.place es) k'=Deaf t k':=λk' hk=>Deaf_other t (bq hk) _ hu;have A8:k<gs.size:=(aad.1 hg).1;have Eu:∀i,i<S.j->iT T (mD w (x (T.m0+i))) (x (T.m0+i))/\∃gk,gs[T.m0+i]?=so gk/\KW P T V ff i (S.own (T.m0+i)) (S.rc i) S.cl (D i) (mD w (x (T.m0+i))) (woken P g g' w gk) w:=by
  intro i hi;have⟨gk,h1,h2⟩:=h.wk i hi;have⟨h3,h4⟩:=h2.PE (cl':=S.cl) hV (cY.refl w) (x:=g) (x':=g') rfl (λ_ hk=>hk) (λk' hn _=>.inl hn) (λk' hd=>h.chan k' (by have:=hT.dep i k' aa hd;omega));exact⟨h3,gk,h1,h4⟩
 refine⟨_,tag',woken P g g' w a,y',upd (λk=>mD w (x k)) k (.inr q'),_,ug,Cx,?_,?_,?_⟩
 ·refine⟨by simp[h.size],?_,KY,?_,λk' k0' km'=>?_,λi hi=>?_,λk' lD=>?_,?_,λi hi=>?_,λk' lD=>?_,h.ti.mute hu hn,h.tw,h.lt,h.h0,h.wg,h.mode.retag Cx,h.chan,h.VM,h.Z9,h.VK,λi hi eH=>r8 (h.rel i hi eH) hu aa,vl h.norel λe he hl=>?_,vm h.VI λz hz=>.inr (.inr (hn z hz)),?_,h.same,h.D5,h.idle0⟩
  ·rw[pH _ _ _ _ HY,h.Fj];rfl
  ·rw[KZ 0 (bq HY)];have:=h.ui;rcases Cx with rfl|⟨rfl,rfl⟩
   ·exact this
   ·exact this
  ·by_cases e:k'=k
   ·subst e;exact⟨g',q',by simp[A8],by rw[upd_same],by rw[Deaf_own];exact hq⟩
   ·have⟨gk,q,h1,h2,h3⟩:=h.old k' k0' km';exact⟨gk,q,by rw[pH _ _ _ _ (bq e),h1,aJ,woken_quitsD h3],by rw[upd_ne _ _ e,h2];rfl,by rw[KZ k' e];exact h3⟩
  ·have⟨_,gk,h1,h2⟩:=Eu i hi;have dE:k≠T.m0+i:=aa;exact⟨_,by rw[pH _ _ _ _ dE,h1];rfl,by rw[upd_ne _ _ (bq dE)];exact h2⟩
  ·rw[upd_ne _ _ aa,h.rest k' lD];rfl
  ·rw[upd_ne _ _ (bq HY),h.zero];rfl
  ·rw[KZ _ aa];exact h.deafW i hi
  ·have Sx:gs.size<=k':=by simpa using lD
   rw[KZ k' aa];exact h.above k' Sx
  ·have:=hm e he;obtain⟨loc,p9,sy⟩:=e;simp only at hl;subst hl;simp[Event.mute]at this
  ·have⟨U,hU⟩:=h.ext;exact⟨U++MemOp.ofEvents k g.frame.fn g.frame.place es,by rw[hU,dF]⟩
 ·rw[upd_same,h2];exact bJ _
 ·intro k' lD;rw[upd_ne _ _ lD];rcases bg k' with rfl|mO
  ·rw[h.zero];exact rfl
  ·rcases cd k' T.m0 with qh | PL
   ·have⟨gk,q,_,h2,_⟩:=h.old k' mO qh;rw[h2];exact rfl
   ·rcases cd k' (T.m0+S.j)with Ny|za
    ·have:=(Eu (k'-T.m0) aa).1;rw[show T.m0+(k'-T.m0)=k' by omega]at this;exact this
    ·rw[h.rest k' za];exact rfl
theorem gn.Sy(h:gn P T V ff cP Fin t0 w0 gs w t S D x tag a y st sm)(p c:Nat):partners (gs.setIfInBounds p ph) c true=[]:=by
 refine partners_nil λj g hg=>?_;rcases getElem?_stand gs p j g hg with⟨_,rfl⟩|⟨_,D6⟩
 ·exact offersAt_ph c true
 ·have cx:j<T.m0+S.j:=by have:=(aad.1 D6).1;rw[h.size]at this;exact this
  rcases bg j with rfl|mO
  ·rw[h.Fj]at D6;cases D6;by_cases hb:tag=.blk
   ·subst hb;have⟨a0,h1,h2,_⟩:=h.LL;have ho:=(h2 w (dQ.refl w)).2.1;rw[h1];simp[offersAt,ho]
   ·have hs:=h.LL;rw[jK.eq hb]at hs;exact offersAt_of_not_blocked (by rw[hs.1.running λo g w hh=>mR hh];simp) c true
  ·rcases cd j T.m0 with hj|hj
   ·have⟨g1,q,h1,_,h3⟩:=h.old j mO hj;rw[D6]at h1;cases h1;exact offersAt_of_not_blocked (by rcases h3.status with e|e<;>rw[e]<;>simp) c true
   ·have⟨g1,h1,h2⟩:=h.wk (j-T.m0) aa;rw[show T.m0+(j-T.m0)=j by omega,D6]at h1;cases h1;rcases h2 with⟨_,_,_,g0,tr,_,h5,h6⟩|⟨_,_,_,C,v,_,h5,_⟩
    ·rcases h6 with⟨h6,_⟩|⟨_,k,z,f,_,_,⟨h9,_⟩|⟨h9,_⟩⟩
     ·rw[h6];exact offersAt_of_not_blocked (by rw[h5.look.1];simp) c true
     ·rw[h9];exact offersAt_parked_recv' _ _ _ _ _
     ·rw[h9];exact offersAt_of_not_blocked ar c true
    ·exact offersAt_of_not_blocked (by rcases h5.status with e|e<;>rw[e]<;>simp) c true
theorem gn.put(h:gn P T V ff cP Fin t0 w0 gs w t S D x tag a y st sm)(NP:0<T.m0){i:Nat}(hi:i<S.j){g':aZ}{ld':lN}{u:Trace}(hj:S'.j=S.j)(fq:S'.own=S.own)(fw:S'.cl=S.cl)(GD:∀k,k≠i->S'.rc k=S.rc k)(Sw:∀i k,S'.rc i k->(S.cl k).isSome=true)(PG:TI T S' (t++u))(hu:∀op∈u,op.g=T.m0+i)(hq:∀op∈u,∀m,op.act≠.mark m)(h7:(D i).stage=7)(PI:KW P T V ff i (S.own (T.m0+i)) (S'.rc i) S.cl (D i) ld' g' w):
  gn P T V ff cP Fin t0 w0 (gs.setIfInBounds (T.m0+i) g') w (t++u) S' D (upd x (T.m0+i) ld') tag a y st sm:=by
 have A8:T.m0+i<gs.size:=by rw[h.size];omega
 have VN:T.m0+i≠0:=aa;have Wr:∀k,Deaf (t++u) k=Deaf t k:=λk=>Deaf_still t k u λop eW=>⟨hq op eW _,hq op eW _⟩;refine⟨by simp[h.size,hj],?_,by rw[fq];exact h.LL,by rw[Wr,hj];exact h.ui,λk k0 km=>?_,λk hk=>?_,λk hk=>?_,?_,λk hk=>?_,λk hk=>?_,PG,?_,λz b hb=>h.lt z b (by rw[<- fq];exact hb),h.h0,h.wg,by rw[hj];exact h.mode,by rw[fw];exact h.chan,by rw[fw];exact Sw,by rw[hj,fw];exact h.Z9,λi' k hr=>?_,λk hk eH=>?_,λk hk e=>?_,?_,?_,h.same,by rw[hj];exact h.D5,h.idle0⟩
 ·rw[aU VN];exact h.Fj
 ·have⟨gk,q,h1,h2,h3⟩:=h.old k k0 km;exact⟨gk,q,by rw[aU aa];exact h1,by rw[upd_ne _ _ aa];exact h2,by rw[Wr];exact h3⟩
 ·rw[hj]at hk;by_cases e:k=i
  ·subst e;exact⟨g',by simp[A8],by rw[upd_same,fq,fw];exact PI⟩
  ·have⟨gk,h1,h2⟩:=h.wk k hk;exact⟨gk,by rw[aU aa];exact h1,by rw[upd_ne _ _ aa,fq,fw,GD k e];exact h2⟩
 ·rw[hj]at hk;rw[upd_ne _ _ aa];exact h.rest k hk
 ·rw[upd_ne _ _ (bq VN)];exact h.zero
 ·rw[hj]at hk;rw[Wr];exact h.deafW k hk
 ·rw[Wr];exact h.above k (by simpa using hk)
 ·exact⟨λz b hb=>h.tw.new z b (by rw[<- fq];exact hb),λz z' b h1 h2=>h.tw.one z z' b (by rw[<- fq];exact h1) (by rw[<- fq];exact h2),λz b hb=>by rw[hj];exact h.tw.mem z b (by rw[<- fq];exact hb)⟩
 ·rw[hj];by_cases e:i'=i
  ·subst e;exact hi
  ·rw[GD i' e]at hr;exact h.VK i' k hr
 ·rw[hj]at hk;have PK:k≠i:=by rintro rfl;omega
  exact r8 (h.rel k hk eH) hu aa
 ·obtain⟨op,ho,YI⟩:=aaf.1 e;rcases getElem?_append_cases ho with⟨cx,pE⟩|⟨_,Ss⟩
  ·exact h.norel k hk (by rw[act?_of pE,YI])
  ·exact hq op Ss _ YI
 ·rw[hj];exact vm h.VI λz hz=>.inr (.inl ⟨i,hi,hu z hz⟩)
 ·have⟨U,hU⟩:=h.ext;exact⟨U++u,by rw[hU,dF]⟩
end
end
section
open Go.ConcR (KK wgBlock WgAt stA smA rd wr mk Payload g_of_ofEvents loc_of_ofEvent)
variable [Payload]
def Cy(P:Program)(T:dj)(V:Nat->ae->Prop)(p:Nat)(S S':jD)(D D':Nat->WD)(tag tag':CTag)(x x':Nat->lN):Prop :=
 pG T S' D' tag'<pG T S D tag\/(pG T S' D' tag'=pG T S D tag/\nC P T V (x' p) (x p)/\∀k,k≠p->iT T (x' k) (x k))
section
variable {P:Program}{T:dj}{V:Nat->ae->Prop}{ff:Nat->(Nat->Prop)->ae->Prop}{cP Fin:eQ}{t0:Trace}{w0:ae}
 {gs:Array aZ}{w w':ae}{t:Trace}{S S':jD}{D:Nat->WD}{x:Nat->lN}{tag:CTag}{a:aZ}{y:jE}{st sm:Int}{sl:Option (Nat×Nat)}
theorem Cz{α:Type}(f:Nat->α)(i:Nat):upd f i (f i)=f:=by
 funext k;by_cases e:k=i
 ·subst e;rw[upd_same]
 ·rw[upd_ne _ _ e]
theorem PM{i:Nat}{o rc:Nat->Prop}{es:Array Event}(h:∀e∈es,NK T i o rc e)(d:Nat):deafBehind d es=d:=deafBehind_still (λe he=>⟨(h e he).2.1,(h e he).2.2.1⟩) d
theorem IE{i:Nat}(hT:T.OK)(hS:S.OK T)(hi:i<S.j)(hh:T.H0<=w.heap.size)(hl:∀z b,S.own z b->b<w.heap.size):({S with own:=upd S.own (T.m0+i) (grow (S.own (T.m0+i)) w w')}:jD).OK T:=by
 have key:∀z b,(upd S.own (T.m0+i) (grow (S.own (T.m0+i)) w w')) z b->S.own z b\/(z=T.m0+i/\w.heap.size<=b):=by
  intro z b hb;by_cases e:z=T.m0+i
  ·subst e;rw[upd_same]at hb;exact hb.imp id λhh=>⟨rfl,hh.1⟩
  ·rw[upd_ne _ _ e]at hb;exact .inl hb
 refine⟨λz b hb=>?_,λz z' b h1 h2=>?_,λz b hb=>?_⟩
 ·rcases key z b hb with h|⟨_,h⟩
  ·exact hS.new z b h
  ·omega
 ·rcases key z b h1 with h1|⟨e1,h1⟩<;>rcases key z' b h2 with h2|⟨e2,h2⟩
  ·exact hS.one z z' b h1 h2
  ·have:=hl z b h1;omega
  ·have:=hl z' b h2;omega
  ·rw[e1,e2]
 ·rcases key z b hb with h|⟨e,_⟩
  ·exact hS.mem z b h
  ·exact .inr ⟨i,hi,e⟩
theorem Fl{tag':CTag}(hs:tag'=tag\/(tag=.blk/\tag'=.w3)):pG T S D tag'=pG T S D tag:=by simp only[pG,phi_retag _ _ hs]
theorem gn.Ws(hT:T.OK)(hV:kz T V ff)(h:gn P T V ff cP Fin t0 w0 gs w t S D x tag a y st sm)(tK:S.j<=T.n){i:Nat}(hi:i<S.j){g g0 g':aZ}{es:Array Event}{tr:Bool}(hg:gs[T.m0+i]?=so g)(fw:S.cl i=we)(h7:(D i).stage=7)(D2:(D i).deaf=0)(hx:x (T.m0+i)=.inl (i,⟨g0,S.own (T.m0+i),S.rc i,w⟩,tr))(ahR:stepG P false g0 w=.go g' w' es)(hgo:stepG P false g w=.go g' w' es)(K0:LH T i (S.own (T.m0+i)) w w')(jb:∀e∈es,NK T i (grow (S.own (T.m0+i)) w w') (S.rc i) e)(K1:gM P T i V (Et P T ff i) ⟨g',grow (S.own (T.m0+i)) w w',S.rc i,w'⟩):
  ∃gH w' S' D' x' tag' a' y' st' sm' ops,runT P (crowd gs w sl) (T.m0+i)=(.next (crowd gH w' sl),ops)/\S'.j=S.j/\gn P T V ff cP Fin t0 w0 gH w' (t++ops) S' D' x' tag' a' y' st' sm'/\Cy P T V (T.m0+i) S S' D D' tag tag' x x':=by
 have pg:i<T.n:=aa;have hoH:∀b,S.own (T.m0+i) b->T.H0<=b:=λb hb=>h.tw.new _ b hb;have nch:∀k,k<T.n->w'.heap[T.ch k]?=w.heap[T.ch k]?:=λk hk=>K0.rest _ (by have:=(hT.ch k hk).1;have:=h.h0;omega) (λhb=>by have:=hoH _ hb;have:=(hT.ch k hk).1;omega) (λhs=>(hT.sh _ hs).2.2 k hk rfl);have aac:w'.heap[T.Wg]?=w.heap[T.Wg]?:=K0.rest _ (by have:=hT.wg;have:=h.h0;omega) (λhb=>by have:=hoH _ hb;have:=hT.wg;omega) (λhs=>(hT.sh _ hs).2.1 rfl);have ahS:∀k,¬S.rc k i:=λk hk=>by have:=h.VM k i hk;rw[fw]at this;cases this
 have A9:∀z,z≠T.m0+i->∀b,S.own z b->T.H0<=b/\b<w.heap.size/\¬S.own (T.m0+i) b:=λz hz b hb=>⟨h.tw.new z b hb,h.lt z b hb,λnz=>hz (h.tw.one _ _ _ hb nz)⟩;have NP:=hT.m0;have PG:TI T {S with own:=upd S.own (T.m0+i) (grow (S.own (T.m0+i)) w w')} (t++MemOp.ofEvents (T.m0+i) g.frame.fn g.frame.place es):=by
  refine(h.ti.grow (own':=upd S.own (T.m0+i) (grow (S.own (T.m0+i)) w w')) λz b hb=>?_).app hT (IE hT h.tw hi h.h0 h.lt) (x:=T.m0+i) (.inr ⟨i,hi,rfl⟩) g_of_ofEvents λop eW b hb hm=>?_
  ·by_cases e:z=T.m0+i
   ·subst e;rw[upd_same];exact .inl hb
   ·rw[upd_ne _ _ e];exact hb
  ·obtain⟨e,he,rfl⟩:=Go.Conc.mem_ofEvents eW;rcases(jb e he).1 b hb hm with⟨c,h1,h2⟩|h1|⟨k,h1,h2,h3⟩|h1
   ·exact .inr (.inl ⟨c,by simp only[upd_same];exact h1,h2⟩)
   ·exact .inr (.inr (.inl ⟨i,rfl,h1,fw⟩))
   ·exact .inr (.inr (.inr (.inl ⟨i,k,rfl,h1,h2,h3⟩)))
   ·exact .inr (.inr (.inr (.inr h1)))
 have⟨gH,tag',a',y',r1,r2,r3,r4⟩:=gn.worker (sl:=sl) hT hV h hi tK hg hgo (S':={S with own:=upd S.own (T.m0+i) (grow (S.own (T.m0+i)) w w')}) (d':=D i) (ld':=.inl (i,⟨g',grow (S.own (T.m0+i)) w w',S.rc i,w'⟩,false)) (st':=st) (sm':=sm) rfl PG (IE hT h.tw hi h.h0 h.lt)
  (by simp only;rw[upd_ne _ _ aa]) (λk hk=>by simp only;rw[upd_ne _ _ aa]) (λ_ _=>rfl) (λ_ _=>rfl)
  (λz b hb=>by
   simp only at hb;by_cases e:z=T.m0+i
   ·subst e;rw[upd_same]at hb;rcases hb with hb|hb
    ·exact bz (h.lt _ b hb) K0.size
    ·exact hb.2
   ·rw[upd_ne _ _ e]at hb;exact bz (h.lt _ b hb) K0.size)
  K0.size (K0.LI hT h.h0 hoH (A9 0 aa)) (λk hk PK=>K0.Cv hT PK aa h.h0 hoH (A9 _ aa) (ahS k)) (K0.LI hT h.h0 hoH (λ_ hb=>hb.elim)) (K0.keep hT hi) (λ_ hk=>hk)
  (.inl ⟨fw,h7,D2,g',false,by simp only[upd_same],by simp only[upd_same];exact K1,.inl ⟨rfl,rfl⟩⟩) (.inl rfl) (λk hk=>by rw[nch k hk];exact h.chan k hk) h.VM (λh6=>aa) (by rw[PM jb]) (λe he=>(jb e he).2.2.2 _) (h.wg.of_block aac)
  (λtag' ht _=>by rw[Cz];exact h.mode.retag ht)
 refine⟨gH,w',{S with own:=upd S.own (T.m0+i) (grow (S.own (T.m0+i)) w w')},upd D i (D i),_,tag',a',y',st,sm,_,r1,rfl,r3,.inr ⟨?_,?_,λk hk=>by rw[upd_ne _ _ hk];exact r4 k hk⟩⟩
 ·rw[Cz];show pG T {S with own:=upd S.own (T.m0+i) (grow (S.own (T.m0+i)) w w')} D tag'=pG T S D tag;rw[<- Fl (T:=T) (S:=S) (D:=D) r2];rfl
 ·rw[upd_same,hx];have⟨s,r,tm,hc⟩:=h.chan i pg;rw[fw]at hc;exact⟨rfl,.inl (.inl ⟨w,es,s,r,tm,cY.refl w,ahR,rfl,rfl,hc,nch i pg⟩)⟩
theorem gn.PN(hT:T.OK)(hV:kz T V ff)(h:gn P T V ff cP Fin t0 w0 gs w t S D x tag a y st sm)(tK:S.j<=T.n){i:Nat}(hi:i<S.j){g g':aZ}(hg:gs[T.m0+i]?=so g)(fw:S.cl i=we)(h7:(D i).stage=7)(D2:(D i).deaf=0){s r:Nat}{tm:Bool}(hc:w.heap[T.ch i]?=so (.chan 0 #[] false s r tm))(hgo:stepG P false g w=.go g' (w.setChan (T.ch i) 0 #[] true s r tm) (gI (T.ch i)))(hmw:mayWake P g=true)(Sz:g'.status=.running)(hVi:V i w)(hE:Et P T ff i (S.own (T.m0+i)) g' (w.setChan (T.ch i) 0 #[] true s r tm)):
  ∃gH w' S' D' x' tag' a' y' st' sm' ops,runT P (crowd gs w sl) (T.m0+i)=(.next (crowd gH w' sl),ops)/\S'.j=S.j/\gn P T V ff cP Fin t0 w0 gH w' (t++ops) S' D' x' tag' a' y' st' sm'/\Cy P T V (T.m0+i) S S' D D' tag tag' x x':=by
 have pg:i<T.n:=aa;have NP:=hT.m0;have hh:=pF w (T.ch i) s r tm;have fy:(w.setChan (T.ch i) 0 #[] true s r tm).heap.size=w.heap.size:=by simp[World.setChan]
 have cx:T.ch i<w.heap.size:=(aad.1 hc).1;obtain⟨C,v,m,e1,e2,e3⟩:=hE;have SB:MemOp.ofEvents (T.m0+i) g.frame.fn g.frame.place (gI (T.ch i))=#[{g:=T.m0+i,fn:=g.frame.fn,pos:=g.frame.place,act:=.access ⟨.obj (T.ch i),false,true⟩}]++#[{g:=T.m0+i,fn:=g.frame.fn,pos:=g.frame.place,act:=.close (T.ch i)}]:=by rw[ofEvents_eq];simp[MemAct.ofEvent,gI]
 have PG:TI T {S with cl:=upd S.cl i (so (t.size+1))} (t++MemOp.ofEvents (T.m0+i) g.frame.fn g.frame.place (gI (T.ch i))):=by
  rw[SB,<- dF];have hd1:Deaf (t++#[({g:=T.m0+i,fn:=g.frame.fn,pos:=g.frame.place,act:=.access ⟨.obj (T.ch i),false,true⟩}:MemOp)]) (T.m0+i)=0:=by
   have:=Deaf_own t (T.m0+i) g.frame.fn g.frame.place #[⟨.obj (T.ch i),false,true⟩];rw[h.deafW i hi,D2]at this;simpa[MemOp.ofEvents,MemAct.ofEvent,deafBehind] using this
  have h1:TI T S (t++#[({g:=T.m0+i,fn:=g.frame.fn,pos:=g.frame.place,act:=.access ⟨.obj (T.ch i),false,true⟩}:MemOp)]):=by
   refine h.ti.app hT h.tw (x:=T.m0+i) (.inr ⟨i,hi,rfl⟩) (λop eW=>by simp at eW;rw[eW]) λop eW b hb hm=>?_;simp at eW;subst eW;simp only[MemAct.touch?,aA]at hb;subst hb;refine .inr (.inr (.inr (.inr ⟨⟨λb hb=>?_,λk hk=>?_,hT.Sn i pg⟩,rfl⟩)))
   ·have:T.ch i=b:=hb;subst this;exact hT.ch i pg
   ·have⟨a',e,_⟩:=hT.ownSh k _ hk;cases e
  have h2:=h1.close hi fw (z:={g:=T.m0+i,fn:=g.frame.fn,pos:=g.frame.place,act:=.close (T.ch i)}) rfl rfl hd1;simpa using h2
 have lT:∀a,T.jV i (.cell a)->(w.setChan (T.ch i) 0 #[] true s r tm).cell? a=w.cell? a:=λa ha=>by
  have⟨a',e,hs⟩:=hT.ownSh i _ ha;cases e;exact cell_of (hh _ (bq ((hT.sh _ hs).2.2 i pg)))
 have⟨gH,tag',a',y',r1,r2,r3,r4⟩:=gn.worker (sl:=sl) hT hV h hi tK hg hgo (S':={S with cl:=upd S.cl i (so (t.size+1))}) (d':=⟨7,m,0⟩) (ld':=.inr m) (st':=st) (sm':=sm) rfl PG ⟨h.tw.new,h.tw.one,h.tw.mem⟩
  rfl (λ_ _=>rfl) (λ_ _=>rfl) (λk hk=>by simp only;rw[upd_ne _ _ hk]) (λz b hb=>by rw[fy];exact h.lt z b hb) (bI fy.symm) (Cw hT pg (λb hb=>h.tw.new _ b hb))
  (λk hk PK=>LJ hT aa PK pg (λb hb=>h.tw.new _ b hb) hc) (Cw hT pg (λ_ hb=>hb.elim)) (qH.Cu hT λb hb=>hh b (bq ((hT.sh b hb).2.2 i pg)))
  (λk hk=>by
   simp only;by_cases e:k=i
   ·subst e;rw[upd_same];rfl
   ·rw[upd_ne _ _ e];exact hk)
  (.inr ⟨by simp only;rw[upd_same];rfl,rfl,hV.v i w _ lT hVi,C,v,e1,.r0 e2,e3⟩) (.inr ⟨hmw,Sz⟩)
  (λk hk=>by
   by_cases e:k=i
   ·subst e;exact⟨s,r,tm,by simp[World.setChan,cx,upd_same]⟩
   ·have⟨s',r',tm',lD⟩:=h.chan k hk;exact⟨s',r',tm',by simp only;rw[upd_ne _ _ e,hh _ (λx=>e (hT.x6 _ _ hk pg x))];exact lD⟩)
  (λi' k hk=>by
   simp only;by_cases e:k=i
   ·subst e;rw[upd_same];rfl
   ·rw[upd_ne _ _ e];exact h.VM i' k hk)
  (λh6=>by simp at h6) (by rw[D2];simp[deafBehind,gI]) (λe he=>by simp[gI]at he;rcases he with rfl|rfl<;>simp) (h.wg.of_block (hh _ (bq (hT.ch i pg).2)))
  (λtag' ht _=>by
   have:=h.mode.same (i:=i) m 0;rw[h7]at this;exact this.retag ht)
 refine⟨gH,_,{S with cl:=upd S.cl i (so (t.size+1))},upd D i ⟨7,m,0⟩,_,tag',a',y',st,sm,_,r1,rfl,r3,.inl ?_⟩;have ev:=Vc_upd D (⟨7,m,0⟩:WD) hi;have es:=sumTo_upd D (⟨7,m,0⟩:WD) WD.stage hi;have el:=sumTo_upd S.cl (so (t.size+1)) (λc=>if c=we then 1 else 0) hi;have c1:cnt (D i)=1:=by simp[cnt,h7]
 have c2:cnt (⟨7,m,0⟩:WD)=1:=rfl;have hv:Vc S.j (upd D i ⟨7,m,0⟩)=Vc S.j D:=aa;simp only[fw,if_true,h7]at el es;have hl:mQ {S with cl:=upd S.cl i (so (t.size+1))}+1=mQ S:=by
  simp only[mQ];simpa using el
 simp only[pG];rw[hv,phi_retag _ _ r2];simp only[Ssum]at *;omega
end
end
section
open Go.ConcR (KK wgBlock WgAt stA smA rd wr mk Payload g_of_ofEvents loc_of_ofEvent)
variable [Payload]
section
variable {P:Program}{T:dj}{V:Nat->ae->Prop}{ff:Nat->(Nat->Prop)->ae->Prop}{cP Fin:eQ}{t0:Trace}{w0:ae}
 {gs:Array aZ}{w w':ae}{t:Trace}{S S':jD}{D:Nat->WD}{x:Nat->lN}{tag:CTag}{a:aZ}{y:jE}{st sm:Int}{sl:Option (Nat×Nat)}
theorem gn.SC(hT:T.OK)(h:gn P T V ff cP Fin t0 w0 gs w t S D x tag a y st sm)(tK:S.j<=T.n){i:Nat}(hi:i<S.j){g g0:aZ}{tr:Bool}(hg:gs[T.m0+i]?=so g)(fw:S.cl i=we)(h7:(D i).stage=7)(D2:(D i).deaf=0)(hx:x (T.m0+i)=.inl (i,⟨g0,S.own (T.m0+i),S.rc i,w⟩,tr))(K1:gM P T i V (Et P T ff i) ⟨g0,S.own (T.m0+i),S.rc i,w⟩){k:Nat}{z:Value}{f:Bool}(hk:T.dep i k)(hcm:∀w1,cY T i (S.own (T.m0+i)) (S.rc i) w w1->stepG P false g0 w1=.comm g0 #[rcase (T.ch k) z] true (.recv f) w1 #[])(A7:∀w1,cY T i (S.own (T.m0+i)) (S.rc i) w w1->V k w1->gM P T i V (Et P T ff i) ⟨Go.Conc.served g0 (recvd f z false),S.own (T.m0+i),λb=>S.rc i b\/b=k,w1⟩)(hgg:stepG P false g w=stepG P false g0 w)(wm:S.cl k=we->tr=false):
  ∃gH w' S' D' x' tag' a' y' st' sm' ops,runT P (crowd gs w sl) (T.m0+i)=(.next (crowd gH w' sl),ops)/\S'.j=S.j/\gn P T V ff cP Fin t0 w0 gH w' (t++ops) S' D' x' tag' a' y' st' sm'/\Cy P T V (T.m0+i) S S' D D' tag tag' x x':=by
 have pg:i<T.n:=aa;have PK:=hT.dep i k pg hk;have Fi:k<T.n:=aa;have NP:=hT.m0;have KX:(T.m0+i==0)=false:=eP;have eH:stepG P (T.m0+i==0) g w=.comm g0 #[rcase (T.ch k) z] true (.recv f) w #[]:=by rw[KX,hgg];exact hcm w (cY.refl w)
 have e0:MemOp.ofEvents (T.m0+i) g.frame.fn g.frame.place #[]=#[]:=by rw[ofEvents_eq];simp
 have⟨s,r,tm,hc⟩:=h.chan k Fi;cases IF:S.cl k with
 |none =>
  rw[IF]at hc;have cJ:=crowd_waits (P:=P) (sl:=sl) hg eH (λcc Li=>by simp at Li;subst Li;exact ways_recv_none hc (h.Sy _ _));rw[e0]at cJ;have Ba:=h.put NP hi (S':=S) (g':=parked g0 #[rcase (T.ch k) z] (.recv f)) (ld':=.inl (i,⟨g0,S.own (T.m0+i),S.rc i,w⟩,true)) (u:=#[]) rfl rfl rfl (λ_ _=>rfl) h.VM (by simpa using h.ti) ar ar h7
   (.inl ⟨fw,h7,D2,g0,true,rfl,K1,.inr ⟨rfl,k,z,f,hk,hcm,.inl ⟨rfl,IF⟩⟩⟩)
  refine⟨_,w,S,D,_,tag,a,y,st,sm,#[],cJ,rfl,Ba,.inr ⟨rfl,?_,λk' lD=>by rw[upd_ne _ _ lD];exact iT.refl _⟩⟩;rw[upd_same,hx,wm IF];exact⟨rfl,.inr ⟨rfl,rfl,rfl,rfl,rfl,cY.refl w⟩⟩
 |some p =>
  rw[IF]at hc;have cJ:=crowd_recv_closed (P:=P) (sl:=sl) hg eH hc (h.Sy _ _);rw[e0,finishComm_recv]at cJ;have SD:k<S.j:=aa;have hVk:V k w:=by
   have⟨gk,_,h2⟩:=h.wk k SD;rcases h2 with⟨h3,_⟩|⟨_,_,h3,_⟩
   ·rw[IF]at h3;cases h3
   ·exact h3
  have erc:({S with rc:=λa b=>S.rc a b\/(a=i/\b=k)}:jD).rc i=λb=>S.rc i b\/b=k:=by funext b;simp
  have PG:=h.ti.recv (i:=i) IF (z:={g:=T.m0+i,fn:=g0.frame.fn,pos:=g0.frame.place,act:=.recvClosed (T.ch k)}) rfl rfl (by rw[h.deafW i hi,D2]);have Ba:=h.put NP hi (S':={S with rc:=λa b=>S.rc a b\/(a=i/\b=k)}) (g':=Go.Conc.served g0 (recvd f z false)) (ld':=.inl (i,⟨Go.Conc.served g0 (recvd f z false),S.own (T.m0+i),λb=>S.rc i b\/b=k,w⟩,false))
   (u:=#[{g:=T.m0+i,fn:=g0.frame.fn,pos:=g0.frame.place,act:=.recvClosed (T.ch k)}]) rfl rfl rfl (λk' lD=>by funext b;simp[lD])
   (λi' k' hr=>by
    rcases hr with hr|⟨_,rfl⟩
    ·exact h.VM i' k' hr
    ·rw[IF];rfl) PG (λop eW=>by simp at eW;rw[eW]) (λop eW m=>by simp at eW;rw[eW];simp) h7
   (.inl ⟨fw,h7,D2,Go.Conc.served g0 (recvd f z false),false,by rw[erc],by rw[erc];exact A7 w (cY.refl w) hVk,.inl ⟨rfl,rfl⟩⟩)
  have eo:(#[]:Array MemOp)++#[({g:=T.m0+i,fn:=g0.frame.fn,pos:=g0.frame.place,act:=.recvClosed (T.ch k)}:MemOp)]=#[{g:=T.m0+i,fn:=g0.frame.fn,pos:=g0.frame.place,act:=.recvClosed (T.ch k)}]:=ar;rw[eo]at cJ;refine⟨_,w,{S with rc:=λa b=>S.rc a b\/(a=i/\b=k)},D,_,tag,a,y,st,sm,_,cJ,rfl,Ba,.inr ⟨rfl,?_,λk' lD=>by rw[upd_ne _ _ lD];exact iT.refl _⟩⟩;rw[upd_same,hx];have⟨s',r',tm',hci⟩:=h.chan i pg;rw[fw]at hci;exact⟨rfl,.inl (.inr ⟨k,z,f,hk,cY.refl w,hVk,hcm w (cY.refl w),rfl,rfl,rfl,s',r',tm',hci⟩)⟩
theorem gn.SE(hT:T.OK)(hV:kz T V ff)(h:gn P T V ff cP Fin t0 w0 gs w t S D x tag a y st sm)(tK:S.j<=T.n){i:Nat}(hi:i<S.j){g:aZ}(hg:gs[T.m0+i]?=so g)(cJ:g.status=.running)(fw:S.cl i=we):
  ∃gH w' S' D' x' tag' a' y' st' sm' ops,runT P (crowd gs w sl) (T.m0+i)=(.next (crowd gH w' sl),ops)/\S'.j=S.j/\gn P T V ff cP Fin t0 w0 gH w' (t++ops) S' D' x' tag' a' y' st' sm'/\Cy P T V (T.m0+i) S S' D D' tag tag' x x':=by
 have pg:i<T.n:=aa;have⟨g1,e1,hw⟩:=h.wk i hi;rw[hg]at e1;cases e1;rcases hw with⟨_,h7,D2,g0,tr,hx,K1,RP⟩|⟨h1,_⟩
 ·have hr0:g0.status=.running:=K1.look.1;have hgg:stepG P false g w=stepG P false g0 w:=by
   rcases RP with⟨rfl,_⟩|⟨_,k,z,f,_,_,⟨rfl,_⟩|⟨rfl,_⟩⟩
   ·rfl
   ·cases cJ
   ·rw[stepG_tries]
    congr 1
    obtain⟨fr,cs,stt,dy,of⟩:=g0;simp only at hr0;subst hr0;rfl
  obtain⟨_,h1|⟨k,z,f,h1,h2,h3⟩|⟨hmw,h1⟩⟩:=K1.look
  ·have⟨g',w',es,e1,e2,e3,e4⟩:=h1 w (cY.refl w);exact h.Ws hT hV tK hi hg fw h7 D2 hx e1 (hgg.trans e1) e2 e3 e4
  ·refine h.SC hT tK hi hg fw h7 D2 hx K1 h1 h2 h3 hgg λIF=>?_;rcases RP with⟨_,ht⟩|⟨_,k',z',f',Wt,ahU,⟨rfl,_⟩|⟨_,sL⟩⟩
   ·exact ht
   ·cases cJ
   ·exfalso;have ea:=h2 w (cY.refl w);have eb:=ahU w (cY.refl w);simp only at ea;rw[ea]at eb;simp only[GStep.comm.injEq,Array.mk.injEq,cy,rcase,CommCase.mk.injEq,Value.chan.injEq,aA,and_true,true_and,CommShape.recv.injEq]at eb;have k1:=hT.dep i k pg h1;have k2:=hT.dep i k' pg Wt;obtain rfl:=hT.x6 k k' aa aa eb.1.1;rw[IF]at sL;cases sL
  ·have⟨s,r,tm,hc⟩:=h.chan i pg;rw[fw]at hc;have⟨g',e1,e2,e3,e4⟩:=h1 w (cY.refl w) s r tm hc;refine h.PN hT hV tK hi hg fw h7 D2 hc (hgg.trans e1) ?_ e2 e3 e4;rcases RP with⟨rfl,_⟩|⟨_,k,z,f,_,_,⟨rfl,_⟩|⟨rfl,_⟩⟩
   ·exact hmw
   ·cases cJ
   ·exact hmw
 ·rw[fw]at h1;cases h1
end
end
section
open Go.ConcR (KK wgBlock WgAt stA smA rd wr mk Payload DC0 Bk bk_of_mute g_of_ofEvents loc_of_ofEvent ofEvent_loc_mark)
variable [Payload]
structure aae(T:dj)(S:jD)(i C:Nat)(w w':ae):Prop where
 LI:dQ T (S.own 0) w w'
 Cv:∀k,k<S.j->k≠i->cY T k (S.own (T.m0+k)) (S.rc k) w w'
 same:dQ T (λ_=>False) w w'
 D5:qH T S.j w w'
 size:w'.heap.size=w.heap.size
 chan:∀k,k<T.n->w'.heap[T.ch k]?=w.heap[T.ch k]?
 cells:∀a,T.jV i (.cell a)->w'.cell? a=w.cell? a
 own:∀b,S.own (T.m0+i) b->b≠C->w'.heap[b]?=w.heap[b]?
section
variable {P:Program}{T:dj}{V:Nat->ae->Prop}{ff:Nat->(Nat->Prop)->ae->Prop}{cP Fin:eQ}{t0:Trace}{w0:ae}
 {gs:Array aZ}{w w':ae}{t:Trace}{S S':jD}{D:Nat->WD}{x:Nat->lN}{tag:CTag}{a:aZ}{y:jE}{st sm:Int}{sl:Option (Nat×Nat)}
theorem NQ(hT:T.OK)(hS:S.OK T)(tK:S.j<=T.n){i C:Nat}(h:Aside T.Wg w w')(hl:WgLive T.ty T.Wg w'):aae T S i C w w':=by
 have fq:∀z b,S.own z b->b≠T.Wg:=λz b hb=>by have:=hS.new z b hb;have:=hT.wg;omega
 refine⟨x8 hT (λb hb=>hS.new _ b hb) h hl,λk hk _=>NL hT aa (λb hb=>hS.new _ b hb) h hl,x8 hT (λ_ hb=>hb.elim) h hl,qH.Cu hT (λb hb=>h.block b (hT.sh b hb).2.1),h.size,λk hk=>h.block _ (hT.ch k hk).2,λa ha=>?_,λb hb _=>h.block b (fq _ b hb)⟩;have⟨a',e,hs⟩:=hT.ownSh i _ ha;cases e;exact cell_of (h.block _ (hT.sh _ hs).2.1)
theorem PO(hT:T.OK)(h:gn P T V ff cP Fin t0 w0 gs w t S D x tag a y st sm)(tK:S.j<=T.n){i C:Nat}(hi:i<S.j)(hC:S.own (T.m0+i) C)(GD:∀k,S.rc k i->True)(NR:AsideCell C 0 (1-1) w w'):aae T S i C w w'/\w'.heap[T.Wg]?=w.heap[T.Wg]?:=by
 have NP:=hT.m0;have hCH:=h.tw.new _ C hC;have old:∀b,b<T.H0->w'.heap[b]?=w.heap[b]?:=λb hb=>NR.block b aa;have hg:Pz T (λb=>b=C) w w':=⟨bI NR.size.symm,λb _ hb=>NR.block b hb,NR.os,NR.output⟩;have LN:∀z,z≠T.m0+i->∀b,S.own z b->b≠C:=λz hz b hb e=>hz (h.tw.one _ _ _ hb (e▸hC));refine⟨⟨⟨hg.size,λb hb=>NR.block b (LN 0 aa b hb),λb h1 _ _ _=>old b h1,gv (old _ hT.wg),NR.os,NR.output⟩,λk hk PK=>hg.Cv hT aa h.h0 (λb hb=>by rw[hb];exact hCH) (λb hb=>⟨h.tw.new _ b hb,h.lt _ b hb,LN _ aa b hb⟩),⟨hg.size,λ_ hb=>hb.elim,λb h1 _ _ _=>old b h1,gv (old _ hT.wg),NR.os,NR.output⟩,
  qH.Cu hT (λb hb=>old b (hT.sh b hb).1),NR.size,λk hk=>old _ (hT.ch k hk).1,λa ha=>?_,λb _ hb=>NR.block b hb⟩,old _ hT.wg⟩
 have⟨a',e,hs⟩:=hT.ownSh i _ ha;cases e;exact cell_of (old _ (hT.sh _ hs).1)
theorem LO{i:Nat}(hi:i<S.j){d':WD}{tag':CTag}{x':Nat->lN}(hs:tag'=tag\/(tag=.blk/\tag'=.w3))(h1:d'.stage<(D i).stage)(h2:cnt d'<=cnt (D i)):Cy P T V (T.m0+i) S S D (upd D i d') tag tag' x x':=by
 left;have e1:=sumTo_upd D d' cnt hi;have e2:=sumTo_upd D d' WD.stage hi;simp only[pG];rw[phi_retag _ _ hs];simp only[Vc,Ssum]at *;have:=phi_mono T.n (v':=sumTo S.j λa=>cnt (upd D i d' a)) (v:=sumTo S.j λa=>cnt (D a)) aa tag;omega
theorem PQ{i:Nat}(hi:i<S.j){m':Nat}{dd:Nat}{tag':CTag}{x':Nat->lN}(hs:tag'=tag\/(tag=.blk/\tag'=.w3))(hx:x (T.m0+i)=.inr (D i).fuel)(mm:x' (T.m0+i)=.inr m')(hm:m'<(D i).fuel)(ho:∀k,k≠T.m0+i->iT T (x' k) (x k)):
  Cy P T V (T.m0+i) S S D (upd D i ⟨(D i).stage,m',dd⟩) tag tag' x x':=by
 refine .inr ⟨?_,by rw[hx,mm];exact hm,ho⟩;have e1:=sumTo_upd D (⟨(D i).stage,m',dd⟩:WD) cnt hi;have e2:=sumTo_upd D (⟨(D i).stage,m',dd⟩:WD) WD.stage hi;have ec:cnt (⟨(D i).stage,m',dd⟩:WD)=cnt (D i):=rfl;simp only[pG];rw[phi_retag _ _ hs];have ev:Vc S.j (upd D i ⟨(D i).stage,m',dd⟩)=Vc S.j D:=by simp only[Vc]at *;omega
 have mh:Ssum S.j (upd D i ⟨(D i).stage,m',dd⟩)=Ssum S.j D:=by simp only[Ssum]at *;omega
 rw[ev,mh]
theorem CB{z:Nat}{fn:FuncId}{pos:String}{es:Array Event}(h:∀e∈es,Bk T.Wg e):∀op∈MemOp.ofEvents z fn pos es,∀b,op.act.touch?=so b->b.loc.isMemory=true->x7 T S z b:=by
 intro op eW b hb _;obtain⟨e,he,rfl⟩:=Go.Conc.mem_ofEvents eW;rcases h e he with h1|h1|⟨a,p9,rfl,ha⟩
 ·simp only[ofEvent_loc_mark h1]at hb;cases hb
 ·simp only[ofEvent_loc_mark h1]at hb;cases hb
 ·simp only[ofEvent_cell0,MemAct.touch?,aA]at hb;subst hb;exact .inl ⟨ha,ar,ar⟩
theorem SF{i d:Nat}(h:∃r,T.T0<=r/\RelBy (stA T.Wg) t (T.m0+i) r/\∀i' a,r<i'->t.g? i'=so (T.m0+i)->touchAt t i'=so a->uf (λb=>b=T.Wg) a.loc/\a.kind=.atomic)(hdk:Deaf t (T.m0+i)=d)(fn:FuncId)(pos:String){es:Array Event}(Iv:∀e∈es,Bk T.Wg e)(hd:∀j e,es[j]?=so e->(MemAct.ofEvent e).touch?=we\/0<deafBehind d (es.extract 0 j)):
  ∃r,T.T0<=r/\RelBy (stA T.Wg) (t++MemOp.ofEvents (T.m0+i) fn pos es) (T.m0+i) r/\∀i' a,r<i'->(t++MemOp.ofEvents (T.m0+i) fn pos es).g? i'=so (T.m0+i)->touchAt (t++MemOp.ofEvents (T.m0+i) fn pos es) i'=so a->uf (λb=>b=T.Wg) a.loc/\a.kind=.atomic:=by
 obtain⟨r,h1,h2,h3⟩:=h;refine⟨r,h1,h2.book hdk fn pos Iv hd,λi' a ml Wo YJ=>?_⟩;have⟨z,hz,vP⟩:=touch_of YJ;rcases getElem?_append_cases hz with⟨cx,DZ⟩|⟨_,HN⟩
 ·exact h3 i' a ml (by rw[<- g?_old (u:=MemOp.ofEvents (T.m0+i) fn pos es) cx];exact Wo) (by rw[touchAt_of DZ];exact vP)
 ·obtain⟨e,he,rfl⟩:=Go.Conc.mem_ofEvents HN;rcases Iv e he with k1|k1|⟨ad,p9,rfl,ha⟩
  ·simp only[ofEvent_loc_mark k1]at vP;cases vP
  ·simp only[ofEvent_loc_mark k1]at vP;cases vP
  ·simp only[ofEvent_cell0,MemAct.touch?,aA]at vP;subst vP;exact⟨ha,rfl⟩
theorem gn.SG(hT:T.OK)(hV:kz T V ff)(hn:T.n<2147483648)(h:gn P T V ff cP Fin t0 w0 gs w t S D x tag a y st sm)(tK:S.j<=T.n){i:Nat}(hi:i<S.j){g:aZ}(hg:gs[T.m0+i]?=so g)(cJ:g.status=.running)(fw:(S.cl i).isSome=true)(alA:Vc S.j D+pend tag<=T.n):
  ∃gH w' S' D' x' tag' a' y' st' sm' ops,runT P (crowd gs w sl) (T.m0+i)=(.next (crowd gH w' sl),ops)/\S'.j=S.j/\gn P T V ff cP Fin t0 w0 gH w' (t++ops) S' D' x' tag' a' y' st' sm'/\Cy P T V (T.m0+i) S S' D D' tag tag' x x':=by
 have pg:i<T.n:=aa;have⟨g1,e1,hw⟩:=h.wk i hi;rw[hg]at e1;cases e1;rcases hw with⟨h1,_⟩|⟨_,hx,hVi,C,v,hC,hs,nK⟩
 ·rw[h1]at fw;cases fw
 have hVj:=Vc_le S.j D;have step:∀{g':aZ} {w':ae} {es:Array Event} {d':WD} {st' sm':Int},stepG P false g w=.go g' w' es->aae T S i C w w'->WgAt T.ty T.Wg w' st' sm'->TI T S (t++MemOp.ofEvents (T.m0+i) g.frame.fn g.frame.place es) ->
   WSit P T.ty T.Wg C 0 qX qX 0 1 v d'.stage d'.fuel d'.deaf g' w'->deafBehind (D i).deaf es=d'.deaf->(∀e∈es,e.loc≠.mark (.release (stA T.Wg))) ->
   (d'.stage<=6->∃r,T.T0<=r/\RelBy (stA T.Wg) (t++MemOp.ofEvents (T.m0+i) g.frame.fn g.frame.place es) (T.m0+i) r/\∀i' a,r<i'->(t++MemOp.ofEvents (T.m0+i) g.frame.fn g.frame.place es).g? i'=so (T.m0+i)->touchAt (t++MemOp.ofEvents (T.m0+i) g.frame.fn g.frame.place es) i'=so a->uf (λb=>b=T.Wg) a.loc/\a.kind=.atomic) ->
   (∀tag',(tag'=tag\/(tag=.blk/\tag'=.w3))->(mayWake P g=true->g'.status=.running->tag'≠.blk)->Go.ConcN.Mode S.j (upd D i d') tag' st' sm') ->
   ((d'.stage<(D i).stage/\cnt d'<=cnt (D i))\/(d'.stage=(D i).stage/\d'.fuel<(D i).fuel)) ->
   ∃gH w' S' D' x' tag' a' y' st' sm' ops,runT P (crowd gs w sl) (T.m0+i)=(.next (crowd gH w' sl),ops)/\S'.j=S.j/\gn P T V ff cP Fin t0 w0 gH w' (t++ops) S' D' x' tag' a' y' st' sm'/\Cy P T V (T.m0+i) S S' D D' tag tag' x x':=by
  intro g' w' es d' st' sm' hgo K2 IG PG sL hdd hnr ado CC cx;have⟨gH,tag',a',y',r1,r2,r3,r4⟩:=gn.worker (sl:=sl) hT hV h hi tK hg hgo (S':=S) (d':=d') (ld':=.inr d'.fuel) (st':=st') (sm':=sm') rfl PG h.tw rfl (λ_ _=>rfl) (λ_ _=>rfl) (λ_ _=>rfl) (λz b hb=>by rw[K2.size];exact h.lt z b hb) (bI K2.size.symm) K2.LI K2.Cv K2.same K2.D5 (λ_ hk=>hk)
   (.inr ⟨fw,rfl,hV.v i w w' K2.cells hVi,C,v,hC,sL,hV.val i _ w w' K2.cells (λb hb=>K2.own b hb.1 hb.2) nK⟩) (.inl rfl) (λk hk=>by rw[K2.chan k hk];exact h.chan k hk) h.VM ado hdd hnr IG CC
  refine⟨gH,w',S,upd D i d',_,tag',a',y',st',sm',_,r1,rfl,r3,?_⟩;rcases cx with⟨q1,q2⟩|⟨q1,q2⟩
  ·exact LO hi r2 q1 q2
  ·have e:d'=⟨(D i).stage,d'.fuel,d'.deaf⟩:=by rw[<- q1]
   rw[e];exact PQ hi r2 hx (by rw[<- e,upd_same]) q2 (λk hk=>by rw[upd_ne _ _ hk];exact r4 k hk)
 have hdk:=h.deafW i hi;generalize eH:(D i).stage=s at hs step;generalize YL:(D i).fuel=m at hs step;generalize hde:(D i).deaf=dd at hs step;rw[hde]at hdk;have alB:(MemOp.ofEvents (T.m0+i) g.frame.fn g.frame.place #[])=#[]:=by rw[ofEvents_eq];simp
 have book:∀{g':aZ} {w':ae} {es:Array Event} {s' m' dd':Nat} {st' sm':Int},stepG P false g w=.go g' w' es->Aside T.Wg w w'->WgAt T.ty T.Wg w' st' sm'->(∀e∈es,Bk T.Wg e) ->
   (∀jx e,es[jx]?=so e->(MemAct.ofEvent e).touch?=we\/0<deafBehind dd (es.extract 0 jx))->WSit P T.ty T.Wg C 0 qX qX 0 1 v s' m' dd' g' w'->deafBehind dd es=dd'->s<=6 ->
   (∀tag',(tag'=tag\/(tag=.blk/\tag'=.w3))->(mayWake P g=true->g'.status=.running->tag'≠.blk)->Go.ConcN.Mode S.j (upd D i ⟨s',m',dd'⟩) tag' st' sm')->((s'<s/\cnt ⟨s',m',dd'⟩<=cnt (D i))\/(s'=s/\m'<m)) ->
   ∃gH w' S' D' x' tag' a' y' st' sm' ops,runT P (crowd gs w sl) (T.m0+i)=(.next (crowd gH w' sl),ops)/\S'.j=S.j/\gn P T V ff cP Fin t0 w0 gH w' (t++ops) S' D' x' tag' a' y' st' sm'/\Cy P T V (T.m0+i) S S' D D' tag tag' x x':=by
  intro g' w' es s' m' dd' st' sm' hgo hAs IG bP hd sL hdd h6 CC cx;exact step (d':=⟨s',m',dd'⟩) hgo (NQ hT h.tw tK hAs ⟨_,_,IG⟩) IG (h.ti.app hT h.tw (x:=T.m0+i) (.inr ⟨i,hi,rfl⟩) g_of_ofEvents (CB bP)) sL hdd (λe he=>norel_of_Bk bP e he)
   (λ_=>SF (h.rel i hi aa) hdk _ _ bP hd) CC cx
 have idle:∀{g':aZ} {m':Nat},stepG P false g w=.go g' w #[]->WSit P T.ty T.Wg C 0 qX qX 0 1 v s m' dd g' w->m'<m->s<=6 ->
   ∃gH w' S' D' x' tag' a' y' st' sm' ops,runT P (crowd gs w sl) (T.m0+i)=(.next (crowd gH w' sl),ops)/\S'.j=S.j/\gn P T V ff cP Fin t0 w0 gH w' (t++ops) S' D' x' tag' a' y' st' sm'/\Cy P T V (T.m0+i) S S' D D' tag tag' x x':=by
  intro g' m' hgo sL hm h6;exact book hgo (.refl T.Wg w) h.wg ar ar sL rfl h6 (λtag' ht _=>by have:=h.mode.same (i:=i) m' dd;rw[eH]at this;exact this.retag ht) (.inr ⟨rfl,hm⟩)
 cases hs with
 |r0 uj =>
  rcases Goes.cases uj with pA|⟨m',rfl,kT⟩
  ·obtain⟨_,_,g',hgo,m₂,hk⟩:=pA w (RW.refl w);refine step (d':=⟨6,m₂,0⟩) hgo (NQ hT h.tw tK (.refl T.Wg w) ⟨_,_,h.wg⟩) h.wg (h.ti.mute (y:=T.m0+i) g_of_ofEvents λop eW=>?_) (.k1 hk) rfl (by intro e he;simp at he;subst he;simp[Go.ConcR.mk]) (λ_=>⟨t.size,h.ti.len,RelBy.new hdk _ _,λi' b ml _ htb=>?_⟩)
    (λtag' ht _=>(h.mode.counted hi aa (.inl rfl) _ _).retag ht) (.inl ⟨ar,by simp[cnt,eH]⟩)
   ·obtain⟨e,he,rfl⟩:=Go.Conc.mem_ofEvents eW;simp at he;subst he;rfl
   ·have⟨z,hz,_⟩:=touch_of htb;have:=lt_size_of_getElem? hz;rw[ofEvents_eq]at this;simp at this;omega
  ·have⟨g',w',es,hgo,⟨NR,jb⟩,D6⟩:=kT w (RW.refl w);have⟨K2,aac⟩:=PO hT h tK hi hC (λ_ _=>trivial) NR;refine step (d':=⟨7,m',0⟩) hgo K2 (h.wg.of_block aac) (h.ti.app hT h.tw (x:=T.m0+i) (.inr ⟨i,hi,rfl⟩) g_of_ofEvents λop eW b hb hm=>?_) (.r0 D6) (deafBehind_idle (λe he=>⟨(jb e he).2.1,(jb e he).2.2.1⟩) 0) (λe he=>(jb e he).2.2.2) (λh6=>by simp at h6)
    (λtag' ht _=>by have:=h.mode.same (i:=i) m' 0;rw[eH]at this;exact this.retag ht) (.inr ⟨rfl,ar⟩)
   obtain⟨e,he,rfl⟩:=Go.Conc.mem_ofEvents eW;rcases((jb e he).1 g.frame.fn g.frame.place).2 b hb with⟨⟨ad,e1,e2⟩,h2,h3⟩|h2|⟨h2,_⟩
   ·refine .inl ⟨?_,h2,λe=>absurd e h3⟩;rw[e1];exact e2
   ·exact h2.elim
   ·exact h2.elim
 |k1 uj =>
  rcases Goes.cases uj with pA|⟨m',rfl,kT⟩
  ·obtain⟨_,g',hgo,m₂,hk⟩:=pA w (RW.refl w);exact book hgo (.refl T.Wg w) h.wg (by intro e he;simp at he;subst he;exact .inl rfl) (by intro jx e he;exact .inl (by have:=fg he;simp at this;subst this;rfl)) (.d1 hk) rfl aa
    (λtag' ht _=>(h.mode.counted hi aa (.inr rfl) _ _).retag ht) (.inl ⟨aa,by simp[cnt,eH]⟩)
  ·obtain⟨g',w',es,hgo,⟨rfl,rfl⟩,D6⟩:=kT w (RW.refl w);exact idle hgo (.k1 D6) aa aa
 |d1 uj =>
  rcases Goes.cases uj with pA|⟨m',rfl,kT⟩
  ·have⟨_,iJ⟩:=pA w (RW.refl w);have Wu:cnt (D i)=1:=by simp[cnt,eH]
   have hV1:1<=Vc S.j D:=by have:=le_sumTo (f:=λx=>cnt (D x)) hi;simp only[Vc];omega
   have bk2:∀e∈#[rd (stA T.Wg),wr (stA T.Wg)],Bk T.Wg e:=bk_rw;have df2:∀jx e,(#[rd (stA T.Wg),wr (stA T.Wg)]:Array Event)[jx]?=so e->(MemAct.ofEvent e).touch?=we\/0<deafBehind 1 ((#[rd (stA T.Wg),wr (stA T.Wg)]:Array Event).extract 0 jx):=by
    intro jx e he
    match jx,he with
    |0,_=>exact .inr (by simp[deafBehind])
    |1,_=>exact .inr (by simp[deafBehind,rd])
    |jx+2,he=>simp at he
   have hq0:∀q,cnt (⟨1,q,1⟩:WD)=0:=λ_=>rfl;have opq:∀q,OpenSt S.j D->OpenSt S.j (upd D i ⟨1,q,1⟩):=λq hh b hb=>by
    by_cases e:b=i
    ·subst e;rw[upd_same];simp
    ·rw[upd_ne D _ e];exact hh b hb
   have jX:=h.mode;have pk:=h.wg;cases jX with
   |opn h1 h2 h3 =>
    obtain⟨n1,hn1⟩:∃n1,Vc S.j D+pend tag=n1+1:=⟨Vc S.j D+pend tag-1,aa⟩;rw[hn1]at pk;have qY:WgAt T.ty T.Wg w (((n1:Nat)+1)*KK+((0:Nat):Int)) 0:=by simpa using pk
    have⟨g',hgo,_,hq⟩:=iJ n1 0 aa aa qY;have⟨q,hq⟩:=hq aa;have xz:Vc S.j (upd D i ⟨1,q,1⟩)+pend tag=n1:=by have:=Vc_upd D (⟨1,q,1⟩:WD) hi;have:=hq0 q;omega
    refine book hgo (aside_setCell w (stA T.Wg) _) (pk.setSt _) bk2 df2 (.quit hq) rfl aa (λtag' ht _=>Mode.retag ?_ ht) (.inl ⟨aa,by simp[cnt]⟩);have e:((n1:Nat):Int)*KK+((0:Nat):Int)=((Vc S.j (upd D i ⟨1,q,1⟩)+pend tag:Nat):Int)*KK:=by rw[xz];simp
    rw[e];exact .opn h1 (opq q h2) (λvs ev=>by have:=h3 vs ev;omega)
   |reg h1 h2 h3 =>
    obtain⟨n1,hn1⟩:∃n1,Vc S.j D=n1+1:=⟨Vc S.j D-1,aa⟩;rw[hn1]at pk;have qY:WgAt T.ty T.Wg w (((n1:Nat)+1)*KK+((1:Nat):Int)) 0:=by simpa using pk
    have⟨g',hgo,hl,hq⟩:=iJ n1 1 aa aa qY;by_cases O4:n1=0
    ·subst O4;obtain⟨m₂,hk⟩:=hl ⟨rfl,rfl⟩;refine book hgo (aside_setCell w (stA T.Wg) _) (pk.setSt _) bk2 df2 (.d2 hk) rfl aa (λtag' ht _=>Mode.retag ?_ ht) (.inl ⟨aa,by simp[cnt]⟩);have A9:∀b,b<S.j->b≠i->(D b).stage=1:=λb hb e=>by
      have c0:=others_uncounted hi hn1 Wu b hb e;have:=h2 b hb;simp only[cnt]at c0;split at c0<;>omega
     have:=Mode.last (j:=S.j) (D:=upd D i ⟨4,m₂,1⟩) (tag:=tag) i h1 hi (by rw[upd_same];simp) (λb hb e=>by rw[upd_ne D _ e];exact A9 b hb e);rw[upd_same]at this;simpa using this
    ·have⟨q,hq⟩:=hq aa;have xz:Vc S.j (upd D i ⟨1,q,1⟩)=n1:=by have:=Vc_upd D (⟨1,q,1⟩:WD) hi;have:=hq0 q;omega
     refine book hgo (aside_setCell w (stA T.Wg) _) (pk.setSt _) bk2 df2 (.quit hq) rfl aa (λtag' ht _=>Mode.retag ?_ ht) (.inl ⟨aa,by simp[cnt]⟩);have e:((n1:Nat):Int)*KK+((1:Nat):Int)=((Vc S.j (upd D i ⟨1,q,1⟩):Nat):Int)*KK+1:=by rw[xz];simp
     rw[e];exact .reg h1 (opq q h2) aa
   |last L _ h2 h3 h4 =>
    by_cases e:i=L
    ·subst e;omega
    ·have:=h4 i hi e;omega
   |sema h2=>have:=h2 i hi;omega
   |fin _ h2=>have:=h2 i hi;omega
  ·obtain⟨g',w',es,hgo,⟨rfl,rfl⟩,D6⟩:=kT w (RW.refl w);exact idle hgo (.d1 D6) aa aa
 |d2 uj =>
  rcases Goes.cases uj with pA|⟨m',rfl,kT⟩
  ·have⟨_,mm⟩:=pA w (RW.refl w);have⟨Ev,A9,e1,e2⟩:=h.mode.isLast hi aa;have pk:=h.wg;rw[e1,e2]at pk;simp only[eH]at pk;have IH:WgAt T.ty T.Wg w 1 0:=by simpa using pk
   obtain⟨g',hgo,m₂,hk⟩:=mm IH;refine book hgo (.refl T.Wg w) IH bk_rd (by intro jx e he;match jx,he with|0,_=>exact .inr (by simp[deafBehind])|jx+1,he=>simp at he) (.d3 hk) rfl aa (λtag' ht _=>Mode.retag ?_ ht) (.inl ⟨aa,by simp[cnt]⟩);have:=Mode.last (j:=S.j) (D:=upd D i ⟨3,m₂,1⟩) (tag:=tag) i Ev hi (by rw[upd_same];simp) (λb hb e=>by rw[upd_ne D _ e];exact A9 b hb e);rw[upd_same]at this;simpa using this
  ·obtain⟨g',w',es,hgo,⟨rfl,rfl⟩,D6⟩:=kT w (RW.refl w);exact idle hgo (.d2 D6) aa aa
 |d3 uj =>
  rcases Goes.cases uj with pA|⟨m',rfl,kT⟩
  ·have⟨_,mm⟩:=pA w (RW.refl w);have⟨Ev,A9,e1,e2⟩:=h.mode.isLast hi aa;have pk:=h.wg;rw[e1,e2]at pk;simp only[eH]at pk;have IH:WgAt T.ty T.Wg w 1 0:=by simpa using pk
   obtain⟨g',hgo,m₂,hk⟩:=mm IH;refine book hgo (aside_setCell w (stA T.Wg) _) (IH.setSt 0) (by intro e he;simp at he;subst he;exact bk_cell _ _ rfl) (by intro jx e he;match jx,he with|0,_=>exact .inr (by simp[deafBehind])|jx+1,he=>simp at he) (.d4 hk) rfl aa (λtag' ht _=>Mode.retag ?_ ht) (.inl ⟨aa,by simp[cnt]⟩);have:=Mode.last (j:=S.j) (D:=upd D i ⟨2,m₂,1⟩) (tag:=tag) i Ev hi (by rw[upd_same];simp) (λb hb e=>by rw[upd_ne D _ e];exact A9 b hb e);rw[upd_same]at this;simpa using this
  ·obtain⟨g',w',es,hgo,⟨rfl,rfl⟩,D6⟩:=kT w (RW.refl w);exact idle hgo (.d3 D6) aa aa
 |d4 uj =>
  rcases Goes.cases uj with pA|⟨m',rfl,kT⟩
  ·have⟨_,hmw,mm⟩:=pA w (RW.refl w);have⟨Ev,A9,e1,e2⟩:=h.mode.isLast hi aa;have pk:=h.wg;rw[e1,e2]at pk;simp only[eH]at pk;have IH:WgAt T.ty T.Wg w 0 0:=by simpa using pk
   have⟨g',hgo,q,hq⟩:=mm IH;have Sz:g'.status=.running:=by
    cases q with
    |zero=>exact absurd hq.2 eB
    |succ q=>exact hq.elim (λx=>absurd x.2 eB) (λx=>x.1)
   refine book hgo (aside_setCell w (smA T.Wg) _) (IH.setSm 1) (es:=semEvents (smA T.Wg)) bk_sem ?_ (.quit hq) (by simp[deafBehind,semEvents]) aa ?_ (.inl ⟨aa,by simp[cnt]⟩)
   ·intro jx e he
    match jx,he with
    |0,he=>simp[semEvents]at he;subst he;exact .inl rfl
    |1,_=>exact .inr (by simp[deafBehind,semEvents])
    |2,_=>exact .inr (by simp[deafBehind,semEvents])
    |3,he=>simp[semEvents]at he;subst he;exact .inl rfl
    |jx+4,he=>simp[semEvents]at he
   ·intro tag' ht hw;have Gv:=hw hmw Sz;have e3:tag'=.w3:=by
     rcases ht with rfl|⟨_,rfl⟩
     ·cases tag'<;>first|rfl|exact Ev.elim|exact absurd rfl Gv
     ·rfl
    subst e3;exact .sema λb hb=>by
     by_cases e:b=i
     ·subst e;rw[upd_same]
     ·rw[upd_ne D _ e];exact A9 b hb e
  ·obtain⟨g',w',es,hgo,⟨rfl,rfl⟩,D6⟩:=kT w (RW.refl w);exact idle hgo (.d4 D6) aa aa
 |quit hq =>
  cases m with
  |zero=>rw[hq.1]at cJ;cases cJ
  |succ q =>
   rcases hq with⟨hf,_⟩|⟨_,g',es,YM,kT,Bs⟩
   ·rw[hf]at cJ;cases cJ
   ·have bP:∀e∈es,Bk T.Wg e:=λe he=>bk_of_mute (YM e he);refine book (kT w) (.refl T.Wg w) h.wg bP (λjx e he=>.inl (touch_mute (YM e (fg he)))) (.quit Bs) rfl aa (λtag' ht _=>by have:=h.mode.same (i:=i) q (deafBehind dd es);rw[eH]at this;exact this.retag ht) (.inr ⟨rfl,aa⟩)
end
end
section
open Go.ConcR (KK wgBlock WgAt stA smA rd wr mk Payload DC0 Bk g_of_ofEvents loc_of_ofEvent ofEvent_loc_mark)
variable [Payload]
section
variable {P:Program}{T:dj}{V:Nat->ae->Prop}{ff:Nat->(Nat->Prop)->ae->Prop}{cP Fin:eQ}{t0:Trace}{w0:ae}
 {gs:Array aZ}{w w':ae}{t:Trace}{S S':jD}{D:Nat->WD}{x:Nat->lN}{tag:CTag}{a:aZ}{y:jE}{st sm:Int}{sl:Option (Nat×Nat)}
theorem SH(hT:T.OK)(hS:S.OK T){o':Nat->Prop}(hh:T.H0<=w.heap.size)(hl:∀z b,S.own z b->b<w.heap.size)(ho:∀b,o' b->S.own 0 b\/w.heap.size<=b):({S with own:=upd S.own 0 o'}:jD).OK T:=by
 have key:∀z b,(upd S.own 0 o') z b->S.own z b\/(z=0/\w.heap.size<=b):=by
  intro z b hb;by_cases e:z=0
  ·subst e;rw[upd_same]at hb;exact(ho b hb).imp id λhh=>⟨rfl,hh⟩
  ·rw[upd_ne _ _ e]at hb;exact .inl hb
 refine⟨λz b hb=>?_,λz z' b h1 h2=>?_,λz b hb=>?_⟩
 ·rcases key z b hb with h|⟨_,h⟩
  ·exact hS.new z b h
  ·omega
 ·rcases key z b h1 with h1|⟨e1,h1⟩<;>rcases key z' b h2 with h2|⟨e2,h2⟩
  ·exact hS.one z z' b h1 h2
  ·have:=hl z b h1;omega
  ·have:=hl z' b h2;omega
  ·rw[e1,e2]
 ·rcases key z b hb with h|⟨e,_⟩
  ·exact hS.mem z b h
  ·exact .inl e
theorem gn.main(hT:T.OK)(hV:kz T V ff)(h:gn P T V ff cP Fin t0 w0 gs w t S D x tag a y st sm)(tK:S.j<=T.n){a':aZ}{es:Array Event}(hgo:stepG P true a w=.go a' w' es){o':Nat->Prop}{tag':CTag}{y':jE}{st' sm':Int}(ho:∀b,S.own 0 b->o' b)(zu:∀b,o' b->S.own 0 b\/(w.heap.size<=b/\b<w'.heap.size))(Px:∀op∈MemOp.ofEvents 0 a.frame.fn a.frame.place es,∀b,op.act.touch?=so b->b.loc.isMemory=true->x7 T {S with own:=upd S.own 0 o'} 0 b)(fy:w.heap.size<=w'.heap.size)(Su:∀k,k<S.j->cY T k (S.own (T.m0+k)) (S.rc k) w w')(kS:dQ T (λ_=>False) w w')(PH:qH T S.j w w')(vO:∀k,k<T.n->w'.heap[T.ch k]?=w.heap[T.ch k]?)(II:jK P T V ff cP Fin tag' o' a' w' y')(aah:mC T.n tag' S.j (deafBehind (Deaf t 0) es))(LM:∀e∈es,e.loc≠.mark (.release (stA T.Wg)))(pk:WgAt T.ty T.Wg w' st' sm')(jX:Go.ConcN.Mode S.j D tag' st' sm'):
  ∃gH,runT P (crowd gs w sl) 0=(.next (crowd gH w' sl),MemOp.ofEvents 0 a.frame.fn a.frame.place es) /\
   gn P T V ff cP Fin t0 w0 gH w' (t++MemOp.ofEvents 0 a.frame.fn a.frame.place es) {S with own:=upd S.own 0 o'} D (λk=>mD w' (x k)) tag' a' y' st' sm'/\∀k,iT T (mD w' (x k)) (x k):=by
 have NP:=hT.m0;have cJ:=runT_crowd_go (P:=P) (sl:=sl) (i:=0) h.Fj (show stepG P (0==0) a w=_ from hgo);have A8:0<gs.size:=by rw[h.size];omega
 have hu:∀op∈MemOp.ofEvents 0 a.frame.fn a.frame.place es,op.g=0:=g_of_ofEvents;have KZ:∀k,k≠0->Deaf (t++MemOp.ofEvents 0 a.frame.fn a.frame.place es) k=Deaf t k:=λk hk=>Deaf_other t (bq hk) _ hu;have RQ:=SH hT h.tw h.h0 h.lt λb hb=>(zu b hb).imp id λhh=>hh.1;have Eu:∀k,k<S.j->iT T (mD w' (x (T.m0+k))) (x (T.m0+k))/\∃gk,gs[T.m0+k]?=so gk/\KW P T V ff k (S.own (T.m0+k)) (S.rc k) S.cl (D k) (mD w' (x (T.m0+k))) (woken P a a' w' gk) w':=by
  intro k hk;have⟨gk,h1,h2⟩:=h.wk k hk;have⟨h3,h4⟩:=h2.PE (cl':=S.cl) hV (Su k hk) (x:=a) (x':=a') rfl (λ_ hk=>hk) (λk' hn _=>.inl hn) (λk' hd=>by
   have lD:k'<T.n:=by have:=hT.dep k k' aa hd;omega
   rw[vO k' lD];exact h.chan k' lD)
  exact⟨h3,gk,h1,h4⟩
 refine⟨_,cJ,?_,?_⟩
 ·refine⟨by simp[h.size],by simp[A8],by simp only[upd_same];exact II,by rw[Deaf_own];exact aah,λk k0 km=>?_,λk hk=>?_,λk hk=>?_,?_,λk hk=>?_,λk hk=>?_,?_,RQ,λz b hb=>?_,aY h.h0 fy,pk,jX,λk hk=>by rw[vO k hk];exact h.chan k hk,h.VM,h.Z9,h.VK,λk hk eH=>r8 (h.rel k hk eH) hu aa,vl h.norel LM,vm h.VI λz hz=>.inl (hu z hz),?_,h.same.trans kS,h.D5.trans PH,h.idle0⟩
  ·have⟨gk,q,h1,h2,h3⟩:=h.old k k0 km;have dE:0≠k:=aa;exact⟨gk,q,by rw[pH _ _ _ _ dE,h1,aJ,woken_quitsD h3],by rw[h2];rfl,by rw[KZ k (bq dE)];exact h3⟩
  ·have⟨_,gk,h1,h2⟩:=Eu k hk;have dE:0≠T.m0+k:=aa;exact⟨_,by rw[pH _ _ _ _ dE,h1];rfl,by simp only;rw[upd_ne _ _ (bq dE)];exact h2⟩
  ·rw[h.rest k hk];rfl
  ·rw[h.zero];rfl
  ·rw[KZ _ aa];exact h.deafW k hk
  ·have lD:gs.size<=k:=by simpa using hk
   rw[KZ k aa];exact h.above k lD
  ·refine(h.ti.grow (own':=upd S.own 0 o') λz b hb=>?_).app hT RQ (x:=0) (.inl rfl) hu Px;by_cases e:z=0
   ·subst e;rw[upd_same];exact ho b hb
   ·rw[upd_ne _ _ e];exact hb
  ·simp only at hb;by_cases e:z=0
   ·subst e;rw[upd_same]at hb;rcases zu b hb with hb|hb
    ·exact bz (h.lt _ b hb) fy
    ·exact hb.2
   ·rw[upd_ne _ _ e]at hb;exact bz (h.lt _ b hb) fy
  ·have⟨U,hU⟩:=h.ext;exact⟨U++MemOp.ofEvents 0 a.frame.fn a.frame.place es,by rw[hU,dF]⟩
 ·intro k;rcases bg k with rfl|mO
  ·rw[h.zero];exact rfl
  ·rcases cd k T.m0 with qh | PL
   ·have⟨gk,q,_,h2,_⟩:=h.old k mO qh;rw[h2];exact rfl
   ·rcases cd k (T.m0+S.j)with Ny|za
    ·have:=(Eu (k-T.m0) aa).1;rw[show T.m0+(k-T.m0)=k by omega]at this;exact this
    ·rw[h.rest k za];exact rfl
theorem IJ{gs:Array aZ}(a' child:aZ){k:Nat}(hk:k<gs.size)(h0:0≠k):((gs.setIfInBounds 0 a').push child)[k]?=gs[k]?:=by
 rw[fG,if_neg eP,aU h0]
theorem PR{gs:Array aZ}(a' child:aZ):((gs.setIfInBounds 0 a').push child)[gs.size]?=so child:=by
 rw[fG,if_pos ar]
theorem gn.spawn(hT:T.OK)(h:gn P T V ff cP Fin t0 w0 gs w t S D x tag a y st sm)(tK:S.j<T.n){a' child:aZ}{hand:Nat->Prop}(vJ:stepG P true a w=.spawn a' child w #[])(hh:∀b,hand b->S.own 0 b)(K1:gM P T S.j V (Et P T ff S.j) ⟨child,hand,λ_=>False,w⟩)(D2:Deaf t 0=0){tag':CTag}{y':jE}(II:jK P T V ff cP Fin tag' (λb=>S.own 0 b/\¬hand b) a' w y')(aah:mC T.n tag' (S.j+1) 0)(jX:Go.ConcN.Mode (S.j+1) (upd D S.j ⟨7,0,0⟩) tag' st sm):
  ∃gH S' x' ops,runT P (crowd gs w sl) 0=(.next (crowd gH w sl),ops)/\S'.j=S.j+1/\S'.cl=S.cl/\gn P T V ff cP Fin t0 w0 gH w (t++ops) S' (upd D S.j ⟨7,0,0⟩) x' tag' a' y' st sm:=by
 have NP:=hT.m0;have cJ:=runT_crowd_spawn (P:=P) (sl:=sl) (i:=0) h.Fj (show stepG P (0==0) a w=_ from vJ);have qZ:=h.size;have SB:((MemOp.ofEvents 0 a.frame.fn a.frame.place #[]).push {g:=0,fn:=a.frame.fn,pos:=a.frame.place,act:=.go gs.size} |>.push {g:=gs.size,fn:=child.frame.fn,pos:=a.frame.place,act:=.start}) =
   #[({g:=0,fn:=a.frame.fn,pos:=a.frame.place,act:=.go (T.m0+S.j)}:MemOp),{g:=T.m0+S.j,fn:=child.frame.fn,pos:=a.frame.place,act:=.start}]:=by
  rw[ofEvents_eq,qZ];simp
 rw[SB]at cJ;have Bu:∀op∈#[({g:=0,fn:=a.frame.fn,pos:=a.frame.place,act:=.go (T.m0+S.j)}:MemOp),{g:=T.m0+S.j,fn:=child.frame.fn,pos:=a.frame.place,act:=.start}],op.act.touch?=we/\∀m,op.act≠.mark m:=by
  intro op eW;simp only[List.mem_toArray,bM,dh,or_false]at eW;rcases eW with rfl|rfl
  ·exact⟨rfl,λm=>ar⟩
  ·exact⟨rfl,λm=>ar⟩
 have Wr:∀k,Deaf (t++#[({g:=0,fn:=a.frame.fn,pos:=a.frame.place,act:=.go (T.m0+S.j)}:MemOp),{g:=T.m0+S.j,fn:=child.frame.fn,pos:=a.frame.place,act:=.start}]) k=Deaf t k:=λk=>Deaf_still t k _ λop eW=>⟨(Bu op eW).2 _,(Bu op eW).2 _⟩;have A8:0<gs.size:=by rw[qZ];omega
 have fw:S.cl S.j=we:=h.Z9 _ (ah _);have GD:S.rc S.j=λ_=>False:=by funext b;simp;exact λhb=>absurd (h.VK _ _ hb) (Nat.lt_irrefl _)
 have e1:∀z,z≠T.m0+S.j->z≠0->upd (upd S.own 0 (λb=>S.own 0 b/\¬hand b)) (T.m0+S.j) hand z=S.own z:=λz h1 h2=>by rw[upd_ne _ _ h1,upd_ne _ _ h2]
 have e2:upd (upd S.own 0 (λb=>S.own 0 b/\¬hand b)) (T.m0+S.j) hand 0=λb=>S.own 0 b/\¬hand b:=by rw[upd_ne _ _ aa,upd_same]
 have e3:upd (upd S.own 0 (λb=>S.own 0 b/\¬hand b)) (T.m0+S.j) hand (T.m0+S.j)=hand:=upd_same _ _ _;have key:∀z b,upd (upd S.own 0 (λb=>S.own 0 b/\¬hand b)) (T.m0+S.j) hand z b->(z=T.m0+S.j/\hand b)\/(z≠T.m0+S.j/\S.own z b/\(z=0->¬hand b)):=by
  intro z b hb;by_cases h1:z=T.m0+S.j
  ·subst h1;rw[e3]at hb;exact .inl ⟨rfl,hb⟩
  ·by_cases h2:z=0
   ·subst h2;rw[e2]at hb;exact .inr ⟨h1,hb.1,λ_=>hb.2⟩
   ·rw[e1 z h1 h2]at hb;exact .inr ⟨h1,hb,λe=>absurd e h2⟩
 have noj:∀b,¬S.own (T.m0+S.j) b:=λb hb=>by
  rcases h.tw.mem _ b hb with e|⟨i',ml,e⟩
  ·omega
  ·omega
 refine⟨_,{S with j:=S.j+1,own:=upd (upd S.own 0 (λb=>S.own 0 b/\¬hand b)) (T.m0+S.j) hand},upd x (T.m0+S.j) (.inl (S.j,⟨child,hand,λ_=>False,w⟩,false)),_,cJ,rfl,rfl,?_⟩;refine⟨by simp[qZ];omega,?_,by simp only;rw[e2];exact II,by rw[Wr,D2];exact aah,λk k0 km=>?_,λk hk=>?_,λk hk=>?_,?_,λk hk=>?_,λk hk=>?_,?_,⟨λz b hb=>?_,λz z' b h1 h2=>?_,λz b hb=>?_⟩,λz b hb=>?_,h.h0,h.wg,jX,h.chan,h.VM,λk hk=>h.Z9 k (by simp only at hk;omega),λi' k hr=>by have:=h.VK i' k hr;simp only;omega,λk hk eH=>?_,λk hk e=>?_,?_,?_,h.same,h.D5.mono (Nat.le_succ _),h.idle0⟩
 ·rw[dt (by simpa using A8),<- aO];simp[A8]
 ·have⟨gk,q,h1,h2,h3⟩:=h.old k k0 km;refine⟨gk,q,?_,by rw[upd_ne _ _ aa];exact h2,by rw[Wr];exact h3⟩;rw[IJ a' child (by rw[qZ];omega) aa];exact h1
 ·simp only at hk |-;by_cases e:k=S.j
  ·subst e;refine⟨child,?_,.inl ⟨fw,by rw[upd_same],by rw[upd_same],child,false,by rw[upd_same,e3,GD],by rw[e3,GD];exact K1,.inl ⟨rfl,rfl⟩⟩⟩;rw[<- qZ];exact PR a' child
  ·have⟨gk,h1,h2⟩:=h.wk k aa;refine⟨gk,?_,by rw[e1 _ aa aa,upd_ne D _ e,upd_ne x _ aa];exact h2⟩;rw[IJ a' child (by rw[qZ];omega) aa];exact h1
 ·simp only at hk;rw[upd_ne _ _ aa];exact h.rest k aa
 ·rw[upd_ne _ _ aa];exact h.zero
 ·simp only at hk;rw[Wr];by_cases e:k=S.j
  ·subst e;rw[upd_same];exact h.above _ (by rw[qZ];exact ah _)
  ·rw[upd_ne _ _ e];exact h.deafW k aa
 ·rw[Wr];exact h.above k (by simp at hk;omega)
 ·exact h.ti.spawn (own':=upd (upd S.own 0 (λb=>S.own 0 b/\¬hand b)) (T.m0+S.j) hand) ⟨rfl,rfl⟩ ⟨rfl,rfl⟩ D2 (h.above _ (by rw[qZ];exact ah _)) λz b hb=>by
   by_cases h1:z=T.m0+S.j
   ·subst h1;exact absurd hb (noj b)
   ·by_cases h2:z=0
    ·subst h2;by_cases h3:hand b
     ·exact .inr ⟨rfl,by rw[e3];exact h3⟩
     ·exact .inl (by rw[e2];exact⟨hb,h3⟩)
    ·exact .inl (by rw[e1 z h1 h2];exact hb)
 ·rcases key z b hb with⟨_,h1⟩|⟨_,h1,_⟩
  ·exact h.tw.new 0 b (hh b h1)
  ·exact h.tw.new z b h1
 ·rcases key z b h1 with⟨k1,k2⟩|⟨k1,k2,k3⟩<;>rcases key z' b h2 with⟨l1,l2⟩|⟨l1,l2,l3⟩
  ·rw[k1,l1]
  ·have:=h.tw.one _ _ _ (hh b k2) l2;exact absurd k2 (l3 this.symm)
  ·have:=h.tw.one _ _ _ (hh b l2) k2;exact absurd l2 (k3 this.symm)
  ·exact h.tw.one _ _ _ k2 l2
 ·rcases key z b hb with⟨h1,_⟩|⟨_,h1,_⟩
  ·exact .inr ⟨S.j,bJ _,h1⟩
  ·rcases h.tw.mem z b h1 with e|⟨i',ml,e⟩
   ·exact .inl e
   ·exact .inr ⟨i',Nat.lt_succ_of_lt ml,e⟩
 ·rcases key z b hb with⟨_,h1⟩|⟨_,h1,_⟩
  ·exact h.lt 0 b (hh b h1)
  ·exact h.lt z b h1
 ·simp only at hk;by_cases e:k=S.j
  ·subst e;rw[upd_same]at eH;simp at eH
  ·rw[upd_ne _ _ e]at eH;have⟨r,r1,r2,r3⟩:=h.rel k aa eH;refine⟨r,r1,r2.app λi' ml Wo hc=>?_,λi' b ml Wo YJ=>?_⟩
   ·obtain⟨b,hb,_⟩:=hc;have⟨z,hz,vP⟩:=touch_of hb;rcases getElem?_append_cases hz with⟨cx,_⟩|⟨_,HN⟩
    ·omega
    ·rw[(Bu z HN).1]at vP;cases vP
   ·have⟨z,hz,vP⟩:=touch_of YJ;rcases getElem?_append_cases hz with⟨cx,DZ⟩|⟨_,HN⟩
    ·refine r3 i' b ml ?_ (by rw[touchAt_of DZ];exact vP);rw[<- Wo];simp[Trace.g?,hz,DZ]
    ·rw[(Bu z HN).1]at vP;cases vP
 ·obtain⟨op,ho,YI⟩:=aaf.1 e;rcases getElem?_append_cases ho with⟨cx,pE⟩|⟨_,Ss⟩
  ·exact h.norel k hk (by rw[act?_of pE,YI])
  ·exact(Bu op Ss).2 _ YI
 ·exact vm (λi z hi hz=>(h.VI i z hi hz).imp id λhh=>hh.imp (λ⟨k,hk,e⟩=>⟨k,Nat.lt_succ_of_lt hk,e⟩) id) λz hz=>.inr (.inr (Bu z hz).1)
 ·have⟨U,hU⟩:=h.ext;exact⟨U++#[({g:=0,fn:=a.frame.fn,pos:=a.frame.place,act:=.go (T.m0+S.j)}:MemOp),{g:=T.m0+S.j,fn:=child.frame.fn,pos:=a.frame.place,act:=.start}],by rw[hU,dF]⟩
end
end
section
open Go.ConcR (KK wgBlock WgAt stA smA rd wr mk Payload DC0 Bk g_of_ofEvents loc_of_ofEvent ofEvent_loc_mark)
variable [Payload]
def NT(P:Program)(T:dj)(S S':jD)(D D':Nat->WD)(tag tag':CTag)(x x':Nat->lN)(y y':jE):Prop :=
 pG T S' D' tag'<pG T S D tag\/(pG T S' D' tag'=pG T S D tag/\(∀k,iT T (x' k) (x k))/\mP P T y' y)
section
variable {P:Program}{T:dj}{V:Nat->ae->Prop}{ff:Nat->(Nat->Prop)->ae->Prop}{cP Fin:eQ}{t0:Trace}{w0:ae}
 {gs:Array aZ}{w w':ae}{t:Trace}{S S':jD}{D:Nat->WD}{x:Nat->lN}{tag:CTag}{a:aZ}{y:jE}{st sm:Int}{sl:Option (Nat×Nat)}
theorem mC.le{n:Nat}{tag:CTag}{j d:Nat}(h:mC n tag j d):j<=n:=by
 cases tag<;>simp only[mC]at h<;>omega
theorem mC.pend{n:Nat}{tag:CTag}{j d v:Nat}(h:mC n tag j d)(hv:v<=j):v+pend tag<=n:=by
 cases tag<;>simp only[mC,ConcN.pend]at h |-
 case sp r s=>split<;>omega
 all_goals omega
theorem jK.mk{tag:CTag}(dE:tag≠.blk){Stop:eQ}{o:Nat->Prop}{a:aZ}{w:ae}(h:di P T Stop o a w)(e:kx P T V ff cP Fin tag=Stop):jK P T V ff cP Fin tag o a w (.inl (Stop,⟨a,o,w⟩)):=by
 rw[jK.eq dE,e];exact⟨h,rfl⟩
theorem IK{o':Nat->Prop}{fn:FuncId}{pos:String}{es:Array Event}(h:∀e∈es,EvS T o' e):∀op∈MemOp.ofEvents 0 fn pos es,∀b,op.act.touch?=so b->b.loc.isMemory=true->x7 T {S with own:=upd S.own 0 o'} 0 b:=by
 intro op eW b hb hm;obtain⟨e,he,rfl⟩:=Go.Conc.mem_ofEvents eW;rcases(h e he).1 b hb hm with⟨h1,h2⟩|⟨c,h1,h2⟩|h1
 ·exact .inl ⟨h1,h2,λ_=>rfl⟩
 ·exact .inr (.inl ⟨c,by simp only[upd_same];exact h1,h2⟩)
 ·exact .inr (.inr (.inr (.inr h1)))
theorem gn.SI(hT:T.OK)(hV:kz T V ff)(hn:T.n<2147483648)(YN:∀o g w,cP o g w->di P T (RL P T cP Fin) o g w)(h:gn P T V ff cP Fin t0 w0 gs w t S D x tag a y st sm)(cJ:a.status=.running):
  (tag=.acq/\∃g',stepG P true a w=.go g' w #[Go.ConcR.mk (.acquire (stA T.Wg))]/\Fin (S.own 0) g' w) \/
  ∃gH w' S' D' x' tag' a' y' st' sm' ops,runT P (crowd gs w sl) 0=(.next (crowd gH w' sl),ops)/\gn P T V ff cP Fin t0 w0 gH w' (t++ops) S' D' x' tag' a' y' st' sm'/\NT P T S S' D D' tag tag' x x' y y':=by
 have NP:=hT.m0;have tK:=h.ui.le;have hVj:=Vc_le S.j D;have NO:∀b,S.own 0 b->T.H0<=b:=λb hb=>h.tw.new 0 b hb;have Gv:tag≠.blk:=by
  rintro rfl;have⟨a0,h1,_⟩:=h.LL;rw[h1]at cJ;cases cJ
 have II:=h.LL;rw[jK.eq Gv]at II;obtain⟨IL,hy⟩:=II;have book:∀{a':aZ} {w':ae} {es:Array Event} {tag':CTag} {y':jE} {st' sm':Int},stepG P true a w=.go a' w' es->Aside T.Wg w w'->WgAt T.ty T.Wg w' st' sm'->(∀e∈es,Bk T.Wg e)->jK P T V ff cP Fin tag' (S.own 0) a' w' y' ->
   mC T.n tag' S.j (deafBehind (Deaf t 0) es)->Go.ConcN.Mode S.j D tag' st' sm'->(phi T.n (Vc S.j D) tag'<phi T.n (Vc S.j D) tag\/(phi T.n (Vc S.j D) tag'=phi T.n (Vc S.j D) tag/\mP P T y' y)) ->
   ∃gH w' S' D' x' tag' a' y' st' sm' ops,runT P (crowd gs w sl) 0=(.next (crowd gH w' sl),ops)/\gn P T V ff cP Fin t0 w0 gH w' (t++ops) S' D' x' tag' a' y' st' sm'/\NT P T S S' D D' tag tag' x x' y y':=by
  intro a' w' es tag' y' st' sm' hgo hAs IG bP sL htg CC cx;have⟨gH,r1,r2,r3⟩:=h.main (sl:=sl) hT hV tK hgo (o':=S.own 0) (tag':=tag') (y':=y') (st':=st') (sm':=sm') (λ_ hb=>hb) (λ_ hb=>.inl hb) (by rw[Cz];exact CB bP) (bI hAs.size.symm) (λk hk=>NL hT aa (λb hb=>h.tw.new _ b hb) hAs ⟨_,_,IG⟩) (x8 hT (λ_ hb=>hb.elim) hAs ⟨_,_,IG⟩)
   (qH.Cu hT λb hb=>hAs.block b (hT.sh b hb).2.1) (λk hk=>hAs.block _ (hT.ch k hk).2) sL htg (λe he=>norel_of_Bk bP e he) IG CC
  refine⟨gH,w',_,D,_,tag',a',y',st',sm',_,r1,r2,?_⟩;rcases cx with cx|⟨cx,hl⟩
  ·left;show phi T.n (Vc S.j D) tag'+Ssum S.j D+mQ S<phi T.n (Vc S.j D) tag+Ssum S.j D+mQ S;omega
  ·right;refine⟨?_,r3,hl⟩;show phi T.n (Vc S.j D) tag'+Ssum S.j D+mQ S=phi T.n (Vc S.j D) tag+Ssum S.j D+mQ S;omega
 by_cases pA:∀w1,dQ T (S.own 0) w w1->kx P T V ff cP Fin tag (S.own 0) a w1
 ·have eH:=pA w (dQ.refl w);have sD:=h.ui;have jX:=h.mode;have pk:=h.wg;cases tag with
  |blk=>exact absurd rfl Gv
  |anch=>exact eH.elim
  |ret=>exact eH.elim
  |sp r s =>
   simp only[mC]at sD;obtain⟨hr,hj,hsd⟩:=sD;right;rcases hsd with⟨rfl,hd⟩|⟨rfl,hd⟩|⟨rfl,hd⟩|⟨rfl,hd⟩
   ·have Ep:LK P T V ff (T.n-(r+1)) (iY P T V ff cP r) (S.own 0) a w:=by simpa[kx] using eH
    obtain⟨_,a',hgo,hk⟩:=Ep;exact book hgo (.refl T.Wg w) pk bk_dis (jK.mk (tag:=.sp r 4) ar hk (by simp[kx])) ⟨hr,hj,.inr (.inl ⟨rfl,by rw[hd];rfl⟩)⟩ (jX.reopen trivial trivial rfl ar) (.inl (by simp only[phi];omega))
   ·have Ep:SA1 P T V ff (T.n-(r+1)) (iY P T V ff cP r) (S.own 0) a w:=by simpa[kx] using eH
    obtain⟨_,iJ⟩:=Ep;have⟨ho,e1,e2,_⟩:=jX.open_inv trivial;rw[e1,e2]at pk;have⟨a',hgo,hk⟩:=iJ (Vc S.j D) aa (by simpa[pend] using pk);refine book hgo (aside_setCell w (stA T.Wg) _) (pk.setSt _) bk_rw (jK.mk (tag:=.sp r 3) ar hk (by simp[kx])) ⟨hr,hj,.inr (.inr (.inl ⟨rfl,by rw[hd];simp[deafBehind,Go.ConcR.rd,Go.ConcR.wr]⟩))⟩ ?_ (.inl (by simp only[phi];omega));have e:(((Vc S.j D:Nat):Int)+1)*KK=((Vc S.j D+pend (.sp r 3):Nat):Int)*KK:=by simp[pend]
    rw[e];exact .opn trivial ho ar
   ·have Ep:Z8 P T V ff (T.n-(r+1)) (iY P T V ff cP r) (S.own 0) a w:=by simpa[kx] using eH
    obtain⟨_,a',hgo,hk⟩:=Ep;exact book hgo (.refl T.Wg w) pk bk_en (jK.mk (tag:=.sp r 2) ar hk (by simp[kx])) ⟨hr,hj,.inr (.inr (.inr ⟨rfl,by rw[hd];rfl⟩))⟩ (jX.reopen trivial trivial rfl ar) (.inl (by simp only[phi];omega))
   ·have Ep:SGo P T V ff (T.n-(r+1)) (iY P T V ff cP r) (S.own 0) a w:=by simpa[kx] using eH
    obtain⟨_,a',child,hand,vJ,hh,K1,A7⟩:=Ep;have⟨ho,e1,e2,_⟩:=jX.open_inv trivial;have eV:Vc (S.j+1) (upd D S.j ⟨7,0,0⟩)=Vc S.j D+1:=by
     simp only[Vc,sumTo,upd_same];rw[sumTo_upd_out D _ cnt (ah _)];rfl
    have eS:Ssum (S.j+1) (upd D S.j ⟨7,0,0⟩)=Ssum S.j D+7:=by
     simp only[Ssum,sumTo,upd_same];rw[sumTo_upd_out D _ WD.stage (ah _)]
    have pE:OpenSt (S.j+1) (upd D S.j ⟨7,0,0⟩):=λb hb=>by
     by_cases e:b=S.j
     ·subst e;rw[upd_same];simp
     ·rw[upd_ne D _ e];exact ho b aa
    have YO:∀tag',isOpen tag'->pend tag'=0->(∀vs,tag'≠.w2 vs)->Go.ConcN.Mode (S.j+1) (upd D S.j ⟨7,0,0⟩) tag' st sm:=by
     intro tag' h1 h2 h3;have:=Mode.opn (j:=S.j+1) (D:=upd D S.j ⟨7,0,0⟩) (tag:=tag') h1 pE (λvs e=>absurd e (h3 vs));rw[eV,h2]at this;rw[e1,e2];simpa[pend] using this
    rw[<- hj]at K1;have less:∀(S':jD) (tag':CTag) (x':Nat->lN) (y':jE),S'.j=S.j+1->S'.cl=S.cl->phi T.n (Vc S.j D+1) tag'+8<phi T.n (Vc S.j D) (.sp r 2)->NT P T S S' D (upd D S.j ⟨7,0,0⟩) (.sp r 2) tag' x x' y y':=by
     intro S' tag' x' y' e3 e4 e5;left;have el:mQ S'<=mQ S+1:=by
      simp only[mQ,e3,e4,sumTo];split<;>omega
     simp only[pG,e3,eV,eS];omega
    cases r with
    |zero =>
     have hk:di P T (RN P T cP) (λb=>S.own 0 b/\¬hand b) a' w:=A7;have⟨gH,S',x',ops,r1,r2,r3,r4⟩:=h.spawn (sl:=sl) hT aa vJ hh (K1 w (dQ.refl w) (hT.idle S.j w0 w (λa ha=>h.D5.idle S.j a (ah _) ha) h.D5.D5 (h.idle0 S.j aa))) hd (tag':=.kd) (y':=.inl (RN P T cP,⟨a',λb=>S.own 0 b/\¬hand b,w⟩)) (jK.mk (tag:=.kd) ar hk rfl) ⟨aa,rfl⟩ (YO .kd trivial rfl ar);exact⟨gH,w,S',_,x',.kd,a',_,st,sm,ops,r1,r4,less S' .kd x' _ r2 r3 (by simp only[phi];omega)⟩
    |succ r =>
     have hk:di P T (LK P T V ff (T.n-(r+1)) (iY P T V ff cP r)) (λb=>S.own 0 b/\¬hand b) a' w:=A7;have⟨gH,S',x',ops,r1,r2,r3,r4⟩:=h.spawn (sl:=sl) hT aa vJ hh (K1 w (dQ.refl w) (hT.idle S.j w0 w (λa ha=>h.D5.idle S.j a (ah _) ha) h.D5.D5 (h.idle0 S.j aa))) hd (tag':=.sp r 5) (y':=.inl (LK P T V ff (T.n-(r+1)) (iY P T V ff cP r),⟨a',λb=>S.own 0 b/\¬hand b,w⟩)) (jK.mk (tag:=.sp r 5) ar hk (by simp[kx])) ⟨aa,aa,.inl ⟨rfl,rfl⟩⟩ (YO (.sp r 5) trivial rfl ar);exact⟨gH,w,S',_,x',.sp r 5,a',_,st,sm,ops,r1,r4,less S' (.sp r 5) x' _ r2 r3 (by simp only[phi];omega)⟩
  |kd =>
   simp only[mC]at sD;obtain⟨_,a',hgo,hk⟩:=eH;have lD:di P T (RL P T cP Fin) (S.own 0) a' w:=(hk.mono YN).trans;exact .inr (book hgo (.refl T.Wg w) pk bk_dis (jK.mk (tag:=.w1) ar lD rfl) ⟨sD.1,by rw[sD.2];rfl⟩ (jX.reopen trivial trivial rfl ar) (.inl (by simp only[phi];omega)))
  |w1 =>
   simp only[mC]at sD;obtain⟨_,iJ⟩:=eH;have⟨ho,e1,e2,_⟩:=jX.open_inv trivial;rw[e1,e2]at pk;have⟨a',hgo,h0,dE⟩:=iJ (Vc S.j D) aa (by simpa[pend] using pk);have LP:WgAt T.ty T.Wg w (((Vc S.j D:Nat):Int)*KK) 0:=by simpa[pend] using pk
   by_cases hv:Vc S.j D=0
   ·refine .inr (book hgo (.refl T.Wg w) (by rw[hv]at LP;simpa using LP) bk_rd (jK.mk (tag:=.ke) ar (h0 hv) rfl) ⟨sD.1,by rw[sD.2];simp[deafBehind,Go.ConcR.rd]⟩ (.fin trivial (allQuit_of ho hv)) (.inl (by simp only[phi];omega)))
   ·have:=Mode.opn (j:=S.j) (D:=D) (tag:=.w2 (Vc S.j D)) trivial ho (λvs e=>by cases e;omega);refine .inr (book hgo (.refl T.Wg w) LP bk_rd (jK.mk (tag:=.w2 (Vc S.j D)) ar (dE hv) rfl) ⟨sD.1,by rw[sD.2];simp[deafBehind,Go.ConcR.rd]⟩ (by simpa[pend] using this) (.inl (by simp only[phi];omega)))
  |w2 vs =>
   simp only[mC]at sD;obtain⟨_,iJ⟩:=eH;have⟨ho,e1,e2,LQ⟩:=jX.open_inv trivial;have LQ:=LQ vs rfl;rw[e1,e2]at pk;have LP:WgAt T.ty T.Wg w (((Vc S.j D:Nat):Int)*KK) 0:=by simpa[pend] using pk
   have⟨hit,aai⟩:=iJ (Vc S.j D) aa LP;by_cases hv:Vc S.j D=vs
   ·have⟨a',hgo,hk⟩:=hit hv;exact .inr (book hgo (aside_setCell w (stA T.Wg) _) (LP.setSt _) bk_rw (jK.mk (tag:=.w3) ar hk rfl) ⟨sD.1,by rw[sD.2];simp[deafBehind,Go.ConcR.rd,Go.ConcR.wr]⟩ (.reg trivial ho aa) (.inl (by simp only[phi];omega)))
   ·have⟨a',hgo,hk⟩:=aai hv;have lD:di P T (RL P T cP Fin) (S.own 0) a' w:=(hk.mono YN).trans;have:=Mode.opn (j:=S.j) (D:=D) (tag:=.w1) trivial ho (λvs e=>by cases e);exact .inr (book hgo (.refl T.Wg w) LP bk_rd (jK.mk (tag:=.w1) ar lD rfl) ⟨sD.1,by rw[sD.2];simp[deafBehind,Go.ConcR.rd]⟩ (by simpa[pend] using this) (.inl (by simp only[phi];omega)))
  |w3 =>
   simp only[mC]at sD;obtain⟨_,Wd,PS,nZ⟩:=eH;have blocks:∀sm',sm'=0->WgAt T.ty T.Wg w st sm'->Go.ConcN.Mode S.j D .blk st sm'->∃gH w' S' D' x' tag' a' y' st' sm' ops,runT P (crowd gs w sl) 0=(.next (crowd gH w' sl),ops)/\gn P T V ff cP Fin t0 w0 gH w' (t++ops) S' D' x' tag' a' y' st' sm'/\NT P T S S' D D' .w3 tag' x x' y y':=by
    intro sm' e hw hm;subst e;refine book (PS ⟨_,hw⟩) (.refl T.Wg w) hw ar (tag':=.blk) (y':=.inr 0) ⟨a,rfl,pA,rfl⟩ ⟨sD.1,by rw[sD.2];rfl⟩ hm (.inr ⟨rfl,?_⟩);rw[hy];exact trivial
   cases jX with
   |opn h1 _ _=>exact h1.elim
   |reg h1 h2 h3=>exact .inr (blocks _ rfl pk (.reg trivial h2 h3))
   |last L h1 h2 h3 h4=>exact .inr (blocks _ rfl pk (.last L trivial h2 h3 h4))
   |sema h2 =>
    have⟨a',hgo,hk⟩:=nZ pk;exact .inr (book hgo (aside_setCell w (smA T.Wg) _) (pk.setSm 0) bk_sem (jK.mk (tag:=.w4) ar hk rfl) ⟨sD.1,by rw[sD.2];simp[deafBehind,semEvents]⟩ (.fin trivial h2) (.inl (by simp only[phi];omega)))
   |fin h1 _=>exact h1.elim
  |w4 =>
   simp only[mC]at sD;obtain⟨_,iJ⟩:=eH;have⟨hq,e1,e2⟩:=jX.fin_inv trivial;rw[e1,e2]at pk;have⟨a',hgo,hk⟩:=iJ pk;exact .inr (book hgo (.refl T.Wg w) pk bk_rd (jK.mk (tag:=.ke) ar hk rfl) ⟨sD.1,by rw[sD.2];simp[deafBehind,Go.ConcR.rd]⟩ (.fin trivial hq) (.inl (by simp only[phi];omega)))
  |ke =>
   simp only[mC]at sD;obtain⟨_,a',hgo,hk⟩:=eH;have⟨hq,e1,e2⟩:=jX.fin_inv trivial;rw[e1,e2]at pk;exact .inr (book hgo (.refl T.Wg w) pk bk_en (jK.mk (tag:=.acq) ar hk rfl) ⟨sD.1,by rw[sD.2];rfl⟩ (.fin trivial hq) (.inl (by simp only[phi];omega)))
  |acq =>
   obtain⟨_,a',hgo,hk⟩:=eH;exact .inl ⟨rfl,a',hgo,hk⟩
 ·
  rcases IL.look with hs|⟨_,kT⟩
  ·exact absurd hs pA
  have⟨a',w',es,hgo,K0,jb,hk⟩:=kT w (dQ.refl w);have old:∀b,b<T.H0->w'.heap[b]?=w.heap[b]?:=λb hb=>K0.rest b (by have:=h.h0;omega) (λnz=>by have:=NO b nz;omega);have⟨gH,r1,r2,r3⟩:=h.main (sl:=sl) hT hV tK hgo (o':=grow (S.own 0) w w') (tag':=tag) (y':=.inl (kx P T V ff cP Fin tag,⟨a',grow (S.own 0) w w',w'⟩)) (st':=st) (sm':=sm) (λ_ hb=>.inl hb) (λ_ hb=>hb) (IK jb) K0.size
   (λk hk=>K0.Cv hT aa h.h0 NO (λb hb=>⟨h.tw.new _ b hb,h.lt _ b hb,λnz=>by have:=h.tw.one _ _ _ hb nz;omega⟩)) ⟨K0.size,λ_ hb=>hb.elim,λb h1 _ _ _=>old b h1,gv (old _ hT.wg),K0.os,K0.output⟩
   (qH.Cu hT λb hb=>old b (hT.sh b hb).1) (λk hk=>old _ (hT.ch k hk).1) (jK.mk Gv hk rfl) (by rw[deafBehind_still (λe he=>⟨(jb e he).2.1,(jb e he).2.2.1⟩)];exact h.ui) (λe he=>(jb e he).2.2.2 _) (h.wg.of_block (old _ hT.wg)) h.mode
  refine .inr ⟨gH,w',_,D,_,tag,a',_,st,sm,_,r1,r2,.inr ⟨rfl,r3,?_⟩⟩;rw[hy];exact⟨rfl,pA,w,es,dQ.refl w,hgo,rfl⟩
end
end
section
open Go.ConcR (KK wgBlock WgAt stA smA rd wr Payload DC0 Bk g_of_ofEvents loc_of_ofEvent ofEvent_loc_mark)
variable [Payload]
theorem IM(t:Trace):∃M,∀op∈t,op.act.low M:=by
 have one:∀x:MemAct,∃M,x.low M:=by
  intro x;cases x with
  |access e =>
   obtain⟨loc,p9,sy⟩:=e;cases loc with
   |cell a=>exact⟨a.block+1,bJ _⟩
   |obj r=>exact⟨r+1,bJ _⟩
   |_=>exact⟨0,trivial⟩
  |mark m =>
   cases m
   case acquire a=>exact⟨a.block+1,bJ _⟩
   case release a=>exact⟨a.block+1,bJ _⟩
   case releaseMerge a=>exact⟨a.block+1,bJ _⟩
   case read a=>exact⟨a.block+1,bJ _⟩
   case write a=>exact⟨a.block+1,bJ _⟩
   all_goals exact⟨0,trivial⟩
  |go _=>exact⟨0,trivial⟩
  |start=>exact⟨0,trivial⟩
  |send c _=>exact⟨c+1,bJ _⟩
  |sendDone c _=>exact⟨c+1,bJ _⟩
  |recv c _ _=>exact⟨c+1,bJ _⟩
  |recvDone c _=>exact⟨c+1,bJ _⟩
  |close c=>exact⟨c+1,bJ _⟩
  |recvClosed c=>exact⟨c+1,bJ _⟩
 have key:∀l:List MemOp,∃M,∀op∈l,op.act.low M:=by
  intro l
  induction l with
  |nil=>exact⟨0,ar⟩
  |cons z l ih =>
   obtain⟨M,hM⟩:=ih;have⟨M',hM'⟩:=one z.act;refine⟨M+M',λop eW=>?_⟩;simp only[bM]at eW;rcases eW with rfl|eW
   ·exact MemAct.low_mono aa hM'
   ·exact MemAct.low_mono aa (hM op eW)
 have⟨M,hM⟩:=key t.toList;exact⟨M,λop eW=>hM op (by simpa using eW)⟩
def SJ(w:ae):jE->jE
 | .inl (S,x)=>.inl (S,{x with w:=w})
 | .inr m=>.inr m
section
variable {P:Program}{T:dj}{V:Nat->ae->Prop}{ff:Nat->(Nat->Prop)->ae->Prop}{cP Fin:eQ}{t0:Trace}{w0:ae}
 {gs:Array aZ}{w w':ae}{t:Trace}{S S':jD}{D:Nat->WD}{x:Nat->lN}{tag:CTag}{a:aZ}{y:jE}{st sm:Int}{sl:Option (Nat×Nat)}
theorem KW.rely(hV:kz T V ff){i:Nat}{o rc:Nat->Prop}{cl:Nat->Option Nat}{d:WD}{ld:lN}{g:aZ}{w w':ae}(h:KW P T V ff i o rc cl d ld g w)(hr:cY T i o rc w w'):
  iT T (mD w' ld) ld/\KW P T V ff i o rc cl d (mD w' ld) g w':=by
 rcases h with⟨h1,h2,h3,g0,tr,h4,h5,h6⟩|⟨h1,h2,h3,C,v,h4,h5,h6⟩
 ·refine⟨by rw[h4];exact⟨rfl,rfl,rfl,rfl,rfl,hr⟩,.inl ⟨h1,h2,h3,g0,tr,by rw[h4];rfl,h5.rely hr,?_⟩⟩;exact h6.imp id λ⟨q1,k,z,f,q2,q3,q4⟩=>⟨q1,k,z,f,q2,λw1 qY=>q3 w1 (hr.trans qY),q4⟩
 ·have kS:∀a,T.jV i (.cell a)->w'.cell? a=w.cell? a:=λa ha=>hr.mine a (.inl ha);have e2:mD w' ld=ld:=by rw[h2];rfl
  rw[e2];exact⟨iT.refl ld,.inr ⟨h1,h2,hV.v i w w' kS h3,C,v,h4,h5.rely (hr.rw h4),hV.val i _ w w' kS (λb hb=>hr.own b hb.1) h6⟩⟩
theorem gn.at(hV:kz T V ff)(h:gn P T V ff cP Fin t0 w0 gs w t S D x tag a y st sm)(d:Nat):
  gn P T V ff cP Fin t0 w0 gs (w.at d) t S D (λk=>mD (w.at d) (x k)) tag a (SJ (w.at d) y) st sm/\∀k,iT T (mD (w.at d) (x k)) (x k):=by
 have II:jK P T V ff cP Fin tag (S.own 0) a (w.at d) (SJ (w.at d) y):=by
  by_cases hb:tag=.blk
  ·subst hb;have⟨a0,h1,h2,h3⟩:=h.LL;exact⟨a0,h1,λw1 qY=>h2 w1 ((dQ.at w d).trans qY),by rw[h3];rfl⟩
  ·have hs:=h.LL;rw[jK.eq hb]at hs |-;exact⟨hs.1.rely (dQ.at w d),by rw[hs.2];rfl⟩
 refine⟨⟨h.size,h.Fj,II,h.ui,λk k0 km=>?_,λk hk=>?_,λk hk=>by rw[h.rest k hk];rfl,by rw[h.zero];rfl,h.deafW,h.above,h.ti,h.tw,h.lt,h.h0,h.wg,h.mode,h.chan,h.VM,h.Z9,h.VK,h.rel,h.norel,h.VI,h.ext,h.same.trans (dQ.at w d),⟨h.D5.D5,h.D5.idle⟩,h.idle0⟩,λk=>?_⟩
 ·have⟨g,q,h1,h2,h3⟩:=h.old k k0 km;exact⟨g,q,h1,by rw[h2];rfl,h3⟩
 ·have⟨g,h1,h2⟩:=h.wk k hk;exact⟨g,h1,(h2.rely hV (cY.at w d)).2⟩
 ·rcases bg k with rfl|mO
  ·rw[h.zero];exact rfl
  ·rcases cd k T.m0 with qh | PL
   ·have⟨gk,q,_,h2,_⟩:=h.old k mO qh;rw[h2];exact rfl
   ·rcases cd k (T.m0+S.j)with Ny|za
    ·have⟨g,_,h2⟩:=h.wk (k-T.m0) aa;have:=(h2.rely hV (cY.at w d)).1;rw[show T.m0+(k-T.m0)=k by omega]at this;exact this
    ·rw[h.rest k za];exact rfl
theorem mP.back{y' y'':jE}(h:gn P T V ff cP Fin t0 w0 gs w t S D x tag a y st sm)(d:Nat)(k:mP P T y'' (SJ (w.at d) y)):mP P T y'' y:=by
 by_cases hb:tag=.blk
 ·subst hb;have⟨a0,_,_,h3⟩:=h.LL;rw[h3]at k |-;exact k
 ·have hs:=h.LL;rw[jK.eq hb]at hs;rw[hs.2]at k |-;rcases y'' with⟨S'',z⟩|m
  ·obtain⟨e,k1,w1,es,k2,k3,k4⟩:=k;exact⟨e,λhh=>k1 λw1 qY=>hh w1 ((dQ.at w d).trans qY),w1,es,(dQ.at w d).trans k2,k3,k4⟩
  ·exact trivial
theorem gn.ends(hT:T.OK)(h:gn P T V ff cP Fin t0 w0 gs w t S D x tag a y st sm):Ends (nC P T V) (mP P T) (T.m0+T.n) (pG T S D tag,x,y):=by
 refine⟨λk hk=>?_,h.LL.acc⟩;show Acc (nC P T V) (x k);rcases bg k with rfl|mO
 ·rw[h.zero];exact Bv 0
 ·rcases cd k T.m0 with qh | PL
  ·have⟨gk,q,_,h2,_⟩:=h.old k mO qh;rw[h2];exact Bv q
  ·rcases cd k (T.m0+S.j)with Ny|za
   ·have⟨g,_,h2⟩:=h.wk (k-T.m0) aa;have:=h2.acc hT aa;rw[show T.m0+(k-T.m0)=k by omega]at this;exact this
   ·rw[h.rest k za];exact Bv 0
theorem gn.awake(h:gn P T V ff cP Fin t0 w0 gs w t S D x tag a y st sm):∀g∈gs,awake g:=by
 intro g hg tm;have⟨k,hk⟩:=Array.mem_iff_getElem?.1 hg;have cx:k<T.m0+S.j:=by have:=(aad.1 hk).1;rw[h.size]at this;exact this
 rcases bg k with rfl|mO
 ·rw[h.Fj]at hk;cases hk;by_cases hb:tag=.blk
  ·subst hb;have⟨a0,h1,_⟩:=h.LL;rw[h1];simp
  ·have hs:=h.LL;rw[jK.eq hb]at hs;rw[hs.1.running λo g w hh=>mR hh];simp
 ·rcases cd k T.m0 with qh | PL
  ·have⟨gk,q,h1,_,h3⟩:=h.old k mO qh;rw[hk]at h1;cases h1;rcases h3.status with e|e<;>rw[e]<;>simp
  ·have⟨gk,h1,h2⟩:=h.wk (k-T.m0) aa;rw[show T.m0+(k-T.m0)=k by omega,hk]at h1;cases h1;rcases h2.status with e|e|⟨e,_⟩<;>rw[e]<;>simp
theorem gn.Wv(hT:T.OK)(h:gn P T V ff cP Fin t0 w0 gs w t S D x tag a y st sm):∃(i:Nat) (g:aZ),gs[i]?=so g/\g.status=.running:=by
 by_cases hb:tag=.blk
 ·subst hb;have tK:=h.ui.le;have shut:∀i,i<S.j->(S.cl i).isSome=true->(D i).stage≠1->∃(i:Nat) (g:aZ),gs[i]?=so g/\g.status=.running:=by
   intro i hi hc hs;have⟨g,h1,h2⟩:=h.wk i hi;rcases h2 with⟨h3,_⟩|⟨_,_,_,C,v,_,h5,_⟩
   ·rw[h3]at hc;cases hc
   ·exact⟨_,g,h1,h5.running_of hs⟩
  have adq:∀m i,i<S.j->i<=m->S.cl i=we->∃(i:Nat) (g:aZ),gs[i]?=so g/\g.status=.running:=by
   intro m
   induction m with
   |zero =>
    intro i hi hm hc;have⟨g,h1,h2⟩:=h.wk i hi;rcases h2.status with e|e|⟨_,_,k,hd,_⟩
    ·exact⟨_,g,h1,e⟩
    ·exfalso;rcases h2 with⟨_,_,_,g0,tr,_,h5,h6⟩|⟨h3,_⟩
     ·rcases h6 with⟨h6,_⟩|⟨_,k,z,f,_,_,⟨h9,_⟩|⟨h9,_⟩⟩
      ·rw[h6,h5.look.1]at e;cases e
      ·rw[h9]at e;cases e
      ·rw[h9]at e;cases e
     ·rw[hc]at h3;cases h3
    ·have:=hT.dep i k aa hd;omega
   |succ m ih =>
    intro i hi hm hc;have⟨g,h1,h2⟩:=h.wk i hi;rcases h2.status with e|e|⟨_,_,k,hd,hk⟩
    ·exact⟨_,g,h1,e⟩
    ·exfalso;rcases h2 with⟨_,_,_,g0,tr,_,h5,h6⟩|⟨h3,_⟩
     ·rcases h6 with⟨h6,_⟩|⟨_,k,z,f,_,_,⟨h9,_⟩|⟨h9,_⟩⟩
      ·rw[h6,h5.look.1]at e;cases e
      ·rw[h9]at e;cases e
      ·rw[h9]at e;cases e
     ·rw[hc]at h3;cases h3
    ·have:=hT.dep i k aa hd;exact ih k aa aa hk
  have any:∀i,i<S.j->(D i).stage≠1->∃(i:Nat) (g:aZ),gs[i]?=so g/\g.status=.running:=by
   intro i hi hs;cases hc:S.cl i with
   |none=>exact adq i i hi (ah _) hc
   |some p=>exact shut i hi (by rw[hc];rfl) hs
  have jX:=h.mode;cases jX with
  |opn h1 _ _=>exact h1.elim
  |reg _ _ h3 =>
   have⟨i,hi,h5⟩:=exists_counted h3;exact any i hi aa
  |last L _ h2 h3 _=>exact any L h2 aa
  |fin h1 _=>exact h1.elim
 ·have hs:=h.LL;rw[jK.eq hb]at hs;exact⟨0,a,h.Fj,hs.1.running λo g w hh=>mR hh⟩
def Joined(P:Program)(T:dj)(V:Nat->ae->Prop)(ff:Nat->(Nat->Prop)->ae->Prop)(Fin:eQ)(Sb:Nat->Prop)(w0:ae)(gs:Array aZ)(w:ae)(t:Trace):Prop :=
 ∃o g' q B',gs.size=T.m0+T.n/\gs[0]?=so g'/\Fin o g' w/\Leavers P t gs q/\Past (uf λb=>Sb b\/b=T.Wg) B' t/\w.heap.size<=B'/\(∀i,i<T.n->V i w/\∃(oi:Nat->Prop) (C:Nat),ff i (λb=>oi b/\b≠C) w/\∀b,oi b->T.H0<=b/\b<w.heap.size) /\
  dQ T (λ_=>False) w0 w/\(∀b,o b->T.H0<=b/\b<w.heap.size)/\(∀b cs ty fz,T.Sh b->w0.heap[b]?=so (.cells cs ty fz)->∃tE,w.heap[b]?=so (.cells tE ty fz)/\tE.size=cs.size)/\(∀k,k<T.n->∃c s r tm,w.heap[T.ch k]?=so (.chan 0 #[] c s r tm))
theorem gn.final(hT:T.OK){Sb:Nat->Prop}(tJ:T.Shun=uf Sb){B:Nat}(h0:t0.size=T.T0)(hP:Past T.Shun B t0)(h:gn P T V ff cP Fin t0 w0 gs w t S D x .acq a y st sm){g':aZ}(hgo:stepG P true a w=.go g' w #[Go.ConcR.mk (.acquire (stA T.Wg))])(hF:Fin (S.own 0) g' w):
  ∃gH ops,runT P (crowd gs w sl) 0=(.next (crowd gH w sl),ops)/\Joined P T V ff Fin Sb w0 gH w (t++ops):=by
 have NP:=hT.m0;have sD:=h.ui;simp only[mC]at sD;obtain⟨hj,D2⟩:=sD;have cJ:=runT_crowd_go (P:=P) (sl:=sl) (i:=0) h.Fj (show stepG P (0==0) a w=_ from hgo);have hu:∀op∈MemOp.ofEvents 0 a.frame.fn a.frame.place #[Go.ConcR.mk (.acquire (stA T.Wg))],op.g=0:=g_of_ofEvents;have SB:MemOp.ofEvents 0 a.frame.fn a.frame.place #[Go.ConcR.mk (.acquire (stA T.Wg))]=#[{g:=0,fn:=a.frame.fn,pos:=a.frame.place,act:=.mark (.acquire (stA T.Wg))}]:=by rw[ofEvents_eq];simp[Go.ConcR.ofEvent_mk]
 have KZ:∀k,k≠0->Deaf (t++MemOp.ofEvents 0 a.frame.fn a.frame.place #[Go.ConcR.mk (.acquire (stA T.Wg))]) k=Deaf t k:=λk hk=>Deaf_other t (bq hk) _ hu;have hq:∀i,i<S.j->(D i).stage=1:=(h.mode.fin_inv trivial).1;have uk:(t++MemOp.ofEvents 0 a.frame.fn a.frame.place #[Go.ConcR.mk (.acquire (stA T.Wg))])[t.size]?=so {g:=0,fn:=a.frame.fn,pos:=a.frame.place,act:=.mark (.acquire (stA T.Wg))}:=by rw[SB,gh (ah _)];simp
 have⟨M,hM⟩:=IM (t++MemOp.ofEvents 0 a.frame.fn a.frame.place #[Go.ConcR.mk (.acquire (stA T.Wg))]);have PI:∀i,i<S.j->∃g C v,gs[T.m0+i]?=so g/\V i w/\S.own (T.m0+i) C/\QuitsD P (D i).fuel (D i).deaf g/\ff i (λb=>S.own (T.m0+i) b/\b≠C) w/\v=C:=by
  intro i hi;have⟨g,h1,h2⟩:=h.wk i hi;rcases h2 with⟨_,h3,_⟩|⟨_,_,h3,C,v,h4,h5,h6⟩
  ·have:=hq i hi;omega
  ·exact⟨g,C,C,h1,h3,h4,h5.quits (hq i hi),h6,rfl⟩
 have PG:TI T S (t++MemOp.ofEvents 0 a.frame.fn a.frame.place #[Go.ConcR.mk (.acquire (stA T.Wg))]):=h.ti.mute hu λop eW=>by
  obtain⟨e,he,rfl⟩:=Go.Conc.mem_ofEvents eW;simp at he;subst he;rfl
 have ahY:∃U,t++MemOp.ofEvents 0 a.frame.fn a.frame.place #[Go.ConcR.mk (.acquire (stA T.Wg))]=t0++U:=by
  have⟨U,hU⟩:=h.ext;exact⟨U++MemOp.ofEvents 0 a.frame.fn a.frame.place #[Go.ConcR.mk (.acquire (stA T.Wg))],by rw[hU,dF]⟩
 have adr:=TI.Sq (B':=M+w.heap.size) tJ PG ahY h0 hP (q:=t.size) (by rw[act?_of uk]) (by simp[Trace.g?,uk]) ⟨0,by simp[Trace.g?,uk],by rw[deaf_old (ah _)];exact D2⟩
  (vl h.norel λe he=>by simp at he;subst he;simp[Go.ConcR.mk])
  (λi hi=>by
   have⟨r,r1,r2,r3⟩:=h.rel i hi (by rw[hq i hi];omega);have hr:r<t.size:=lt_of_act? r2.act;have⟨r',r1',r2',r3'⟩:=r8 (t:=t) (u:=MemOp.ofEvents 0 a.frame.fn a.frame.place #[Go.ConcR.mk (.acquire (stA T.Wg))]) ⟨r,r1,r2,r3⟩ hu aa;refine⟨r',r1',?_,r2',r3'⟩;have hg:=r2'.g;rcases cd r' t.size with cx|PL
   ·exact cx
   ·exfalso;obtain⟨z,hz,YG⟩:=aaf.1 hg;rcases getElem?_append_cases hz with⟨cx,_⟩|⟨_,HN⟩
    ·omega
    ·have:=hu z HN;omega)
  (vm h.VI λz hz=>.inl (hu z hz)) (by rw[Deaf_own,D2];simp[deafBehind,Go.ConcR.mk]) (λop eW=>MemAct.low_mono aa (hM op eW))
 have A8:0<gs.size:=by rw[h.size];omega
 refine⟨_,_,cJ,S.own 0,g',λk=>if k<T.m0 then(match x k with|.inr q=>q|.inl _=>0) else(D (k-T.m0)).fuel,M+w.heap.size,by simp[h.size,hj],by simp[A8],hF,⟨λk g k0 hk=>?_,λk hk=>?_⟩,adr,aa,λi hi=>?_,h.same,λb hb=>⟨h.tw.new _ b hb,h.lt _ b hb⟩,h.D5.D5,λk hk=>⟨_,h.chan k hk⟩⟩
 ·have dE:0≠k:=aa;rw[pH _ _ _ _ dE]at hk;obtain⟨g1,HM,rfl⟩:=aaf.1 hk;rw[KZ k (bq dE)];have cx:k<T.m0+S.j:=by have:=(aad.1 HM).1;rw[h.size]at this;exact this
  by_cases hkm:k<T.m0
  ·have⟨g2,q,h1,h2,h3⟩:=h.old k k0 hkm;rw[HM]at h1;cases h1;rw[woken_quitsD h3,if_pos hkm,h2];exact h3
  ·have⟨g2,C,v,h1,_,_,h3,_⟩:=PI (k-T.m0) aa;have e:T.m0+(k-T.m0)=k:=aa;rw[e,HM]at h1;cases h1;rw[woken_quitsD h3,if_neg hkm];have:=h.deafW (k-T.m0) aa;rw[e]at this;rw[this];exact h3
 ·have lD:gs.size<=k:=by simpa using hk
  rw[KZ k aa];exact h.above k lD
 ·have⟨g,C,v,_,h2,h3,_,h4,_⟩:=PI i aa;exact⟨h2,S.own (T.m0+i),C,h4,λb hb=>⟨h.tw.new _ b hb,h.lt _ b hb⟩⟩
theorem PT(hT:T.OK)(hV:kz T V ff)(hn:T.n<2147483648)(YN:∀o g w,cP o g w->di P T (RL P T cP Fin) o g w){Sb:Nat->Prop}(tJ:T.Shun=uf Sb){B:Nat}(h0:t0.size=T.T0)(hP:Past T.Shun B t0):
  ∀μ,Acc (LT3 (nC P T V) (iT T) (mP P T) (T.m0+T.n)) μ->∀(gs:Array aZ) (w:ae) (t:Trace) (sl:Option (Nat×Nat)) (S:jD) (D:Nat->WD) (x:Nat->lN) (tag:CTag) (a:aZ) (y:jE) (st sm:Int),
   μ=(pG T S D tag,x,y)->gn P T V ff cP Fin t0 w0 gs w t S D x tag a y st sm ->
   ∃N gH w' rZ t',runNT P N (crowd gs w sl) t=(.next (crowd gH w' rZ),t')/\Joined P T V ff Fin Sb w0 gH w' t':=by
 intro μ hμ
 induction hμ with
 |intro μ _ ih =>
 intro gs w t sl S D x tag a y st sm e h;subst e;have NP:=hT.m0;have⟨i,g,d,rZ,hi,cJ,kT⟩:=crowd_pick (P:=P) (w:=w) (sl:=sl) h.awake (h.Wv hT);have⟨pj,cx⟩:=h.at hV d;have tK:=h.ui.le;have more:∀{gH:Array aZ} {w':ae} {S':jD} {D':Nat->WD} {x':Nat->lN} {tag':CTag} {a':aZ} {y':jE} {st' sm':Int} {ops:Array MemOp},runT P (crowd gs (w.at d) rZ) i=(.next (crowd gH w' rZ),ops)->gn P T V ff cP Fin t0 w0 gH w' (t++ops) S' D' x' tag' a' y' st' sm' ->
   LT3 (nC P T V) (iT T) (mP P T) (T.m0+T.n) (pG T S' D' tag',x',y') (pG T S D tag,x,y)->∃N gH w' rZ t',runNT P N (crowd gs w sl) t=(.next (crowd gH w' rZ),t')/\Joined P T V ff Fin Sb w0 gH w' t':=by
  intro gH w' S' D' x' tag' a' y' st' sm' ops r1 r2 r3;have⟨N,gs2,w2,Wm,t2,q1,q2⟩:=ih _ r3 gH w' (t++ops) rZ S' D' x' tag' a' y' st' sm' rfl r2;exact⟨N+1,gs2,w2,Wm,t2,by simp only[runNT,kT,r1];exact q1,q2⟩
 have worker:∀p,p<T.m0+T.n->∀{S':jD} {D':Nat->WD} {x':Nat->lN} {tag':CTag} {y':jE},Ends (nC P T V) (mP P T) (T.m0+T.n) (pG T S' D' tag',x',y')->Cy P T V p S S' D D' tag tag' (λk=>mD (w.at d) (x k)) x'->LT3 (nC P T V) (iT T) (mP P T) (T.m0+T.n) (pG T S' D' tag',x',y') (pG T S D tag,x,y):=by
  intro p hp S' D' x' tag' y' hE hl;refine⟨hE,?_⟩;rcases hl with hl|⟨e1,e2,e3⟩
  ·exact .inl hl
  ·exact .inr (.inl ⟨e1,p,hp,nC.back _ _ _ (cx p) e2,λk _ hk=>iT.trans _ _ _ (e3 k hk) (cx k)⟩)
 rcases bg i with rfl|mO
 ·have e:g=a:=by rw[h.Fj]at hi;exact(aT hi).symm
  subst e;rcases pj.SI (sl:=rZ) hT hV hn YN cJ with⟨rfl,g',hgo,hF⟩|⟨gH,w',S',D',x',tag',a',y',st',sm',ops,r1,r2,r3⟩
  ·have⟨gH,ops,r1,r2⟩:=pj.final (sl:=rZ) hT tJ h0 hP hgo hF;exact⟨1,gH,_,rZ,_,by simp only[runNT,kT,r1],r2⟩
  ·refine more r1 r2 ⟨r2.ends hT,?_⟩;rcases r3 with r3|⟨e1,e2,e3⟩
   ·exact .inl r3
   ·exact .inr (.inr ⟨e1,λk _=>iT.trans _ _ _ (e2 k) (cx k),mP.back (y':=y') h d e3⟩)
 ·rcases cd i T.m0 with qh | PL
  ·have⟨gH,tag',a',y',x',ops,r1,r2,r3,r4,r5⟩:=pj.aab (sl:=rZ) hT hV tK mO qh hi cJ;refine more r1 r3 (worker i aa (r3.ends hT) (.inr ⟨by rw[Fl r2],r4,r5⟩))
  ·have aox:i<T.m0+S.j:=by have:=(aad.1 hi).1;rw[h.size]at this;exact this
   obtain⟨k,rfl⟩:∃k,i=T.m0+k:=⟨i-T.m0,aa⟩;have hk:k<S.j:=aa;cases hc:S.cl k with
   |none =>
    have⟨gH,w',S',D',x',tag',a',y',st',sm',ops,r1,r2,r3,r4⟩:=pj.SE (sl:=rZ) hT hV tK hk hi cJ hc;exact more r1 r3 (worker _ aa (r3.ends hT) r4)
   |some p =>
    have⟨gH,w',S',D',x',tag',a',y',st',sm',ops,r1,r2,r3,r4⟩:=pj.SG (sl:=rZ) hT hV hn tK hk hi cJ (by rw[hc];rfl) (h.ui.pend (Vc_le _ _));exact more r1 r3 (worker _ aa (r3.ends hT) r4)
end
end
end Go.Ren
