import Derived.Test.YtgjekaaknjgnmaaGreatDoorAa
import Derived.Conc.Beside
import Derived.Conc.CrowdComm
import Derived.Conc.CrowdRun
import Derived.Conc.CrowdStepC2
set_option linter.all false
set_option maxHeartbeats 40000000
set_option maxRecDepth 200000
namespace Go.Ren
section
open Go.Conc (G)
def gre(τ:Tape)(d:Nat):GStep->GStep
 | .go g w es=>.go g (WT w τ d) es
 | .ended o w es=>.ended o (WT w τ d) es
 |x=>x
def Y1(g g':aX):Prop:=(g'.frame.mode=.run\/g'.frame.mode=.returning)\/∃ch,g'={g with frame:={g.frame with mode:=.panicking ch}}
def Kind(g:aX)(w:ae)(c:Nat):GStep->Prop
 | .go g' w' _=>w'.tape=w.tape/\w'.drawn=w.drawn+c/\(g'.status=.running/\g'.dying=none)/\Y1 g g'
 | .ended ..=>True
 |_=>False
def uV(P:Program)(m:Bool)(g:aX)(w:ae):Prop :=
 ∃c,(∀τ d,gd w c τ d->stepG P m g (WT w τ d)=gre τ (d+c) (stepG P m g w))/\Kind g w c (stepG P m g w)
section
variable {P:Program} {L:Nat->Bool} {Gm:Nat} {F:jE} {wl wr:ae} {f:Rn}
theorem ji{m:Bool}{g g':aX}(hr:g'.status=.running)(hd:g'.dying=none)(hm:g'.frame.mode=.run\/g'.frame.mode=.returning)(h:∀w,stepG P m g w=.go g' w #[]):uV P m g wl :=
 ⟨0,fun τ d _=>by rw[h,h];rfl,by rw[h];exact⟨rfl,rfl,⟨hr,hd⟩,.inl hm⟩⟩
theorem xK{m:Bool}{g:aX}{o:Outcome}(h:∀w,stepG P m g w=.ended o w #[]):uV P m g wl :=
 ⟨0,fun τ d _=>by rw[h,h];rfl,by rw[h];trivial⟩
def Y2:Result Next->Prop
 | .ok (.value _) _|.ok .skip _|.ok (.enter ..) _=>True
 | .ok _ _=>False
 | .halt h _=>oY h=true\/∃v,h=.panic v
theorem tU{fr:Frame}{cs:List Frame}{s:Sem Next}{w w':ae}{el:Array Event}{u:Unsupported}(hu:oY (.unsupported u)=true)(h:s.runT P w #[]=(.halt (.unsupported u) w',el))(hk:fr.kind=.normal):
  stepG.apply P true fr cs none s w=.ended (.unsupported u (fr.pos P)) w' (seen P fr.fn el):=by
 cases u<;>first|exact Bool.noConfusion hu|(simp only[stepG.apply,if_true,h,hk,GStep.after,cq];rfl)
theorem tV{fr:Frame}{cs:List Frame}{s:Sem Next}{w w':ae}{el:Array Event}{y:String}(h:s.runT P w #[]=(.halt (.stuck y) w',el))(hk:fr.kind=.normal):
  stepG.apply P true fr cs none s w=.ended (.stuck y (fr.pos P)) w' (seen P fr.fn el):=by
 simp only[stepG.apply,if_true,h,hk,GStep.after,cq];rfl
theorem zi{fr:Frame}{cs:List Frame}{s:Sem Next}{w w':ae}{el:Array Event}{v:Value}(h:s.runT P w #[]=(.halt (.panic v) w',el))(hk:fr.kind=.normal):
  stepG.apply P true fr cs none s w=.go (G (fr.raise [{v,recovered:=false}]) cs) w' (seen P fr.fn el):=by
 simp only[stepG.apply,if_true,h,hk,GStep.after,G,cq];rfl
theorem Rt{fr:Frame}{cs:List Frame}{s:Sem Next}{c:Nat}(hmd:fr.mode=.run)(hk:fr.kind=.normal)(ht:∃ops td k,fr.todo=.inRegion ops td::k)(hD:B0 P s wl #[] c)(hN:Y2 (s.runT P wl #[]).1):
  (∀τ d,gd wl c τ d->stepG.apply P true fr cs none s (WT wl τ d)=gre τ (d+c) (stepG.apply P true fr cs none s wl))/\Kind (G fr cs) wl c (stepG.apply P true fr cs none s wl):=by
 obtain⟨h1,h2,h3⟩:=hD;have fin:∀v,(G (fr.finish v) cs).frame.mode=.run:=by
  intro v;obtain⟨ops,td,k,ht⟩:=ht;cases td<;>simp[G,Frame.finish,ht,hmd]
 rcases hx:s.runT P wl #[] with⟨r,el⟩;rw[hx] at h1 h2 h3 hN;cases r with
 |ok n w1 =>
  cases n<;>simp only[Y2] at hN
  ·refine⟨fun τ d hA=>?_,?_⟩
   ·rw[ot hk (h3 τ d hA),ot hk hx];rfl
   ·rw[ot hk hx];exact⟨h1,h2,⟨rfl,rfl⟩,.inl (.inl (fin _))⟩
  ·refine⟨fun τ d hA=>?_,?_⟩
   ·rw[qd hk (h3 τ d hA),qd hk hx];rfl
   ·rw[qd hk hx];exact⟨h1,h2,⟨rfl,rfl⟩,.inl (.inl (fin _))⟩
  ·refine⟨fun τ d hA=>?_,?_⟩
   ·rw[ov hk ht (h3 τ d hA),ov hk ht hx];rfl
   ·rw[ov hk ht hx];exact⟨h1,h2,⟨rfl,rfl⟩,.inl (.inl rfl)⟩
 |halt h w1 =>
  rcases hN with hN|⟨v,rfl⟩
  ·cases h<;>first|exact Bool.noConfusion hN|skip
   ·refine⟨fun τ d hA=>?_,?_⟩
    ·rw[tU hN (h3 τ d hA) hk,tU hN hx hk];rfl
    ·rw[tU hN hx hk];trivial
   ·refine⟨fun τ d hA=>?_,?_⟩
    ·rw[tV (h3 τ d hA) hk,tV hx hk];rfl
    ·rw[tV hx hk];trivial
  ·refine⟨fun τ d hA=>?_,?_⟩
   ·rw[zi (h3 τ d hA) hk,zi hx hk];rfl
   ·rw[zi hx hk];exact⟨h1,h2,⟨rfl,rfl⟩,.inr ⟨[{v,recovered:=false}],by simp only[G,Frame.raise,hmd]⟩⟩
theorem Lj(db:rL P L Gm)(hP:PF P L Gm F)(W:WR F wl wr)(vB:fI wl){m:Bool}{oq ab abr:List Frame}{fr wJ:Frame}(XF:vA Gm L fr)(hr:∀f,F.has f->wJ=frame f fr)(Vn:ab≠[]\/fr.mode=.run)(je:∀c∈ab,vA Gm L c):uV P m (G fr (ab++oq)) wl:=by
 obtain⟨f0,kI⟩:=W.some;obtain⟨hd,rT,hk,qC,Ni,Gf⟩:=XF;obtain⟨fn,tmps,todo,defers,mode,kind,ro⟩:=fr;simp only at hd rT hk qC Ni Gf Vn;subst hd rT hk;obtain⟨tr,D4,vT⟩:∃tr,wJ=Fr fn tr todo mode/\∀f,F.has f->tr=tmps.map (val f):=by
  refine⟨tmps.map (val f0),hr f0 kI,fun f hf=>?_⟩;have:=(hr f0 kI).symm.trans (hr f hf);simp only[frame,Frame.mk.injEq] at this;exact this.2.1
 rcases Gf with Gf|Gf
 ·subst Gf;cases todo with
  |nil=>exact ji (g':=G (Fr fn tmps [] .returning) (ab++oq)) rfl rfl (.inr rfl) (fun w=>by simp only[G,stepG,stepG.exec,if_true])
  |cons i k =>
   have hi:=Ni i aj;cases i<;>first|exact Bool.noConfusion hi|skip
   case inBlock id=>exact ji (g':=G (Fr fn tmps k .run) (ab++oq)) rfl rfl (.inl rfl) (fun w=>by simp only[G,stepG,stepG.exec])
   case inScope c=>exact ji (g':=G (Fr fn tmps k .run) (ab++oq)) rfl rfl (.inl rfl) (fun w=>by simp only[G,stepG,stepG.exec])
   case inLoop c=>exact ji (g':=G (Fr fn tmps (.code c :: .inLoop c::k) .run) (ab++oq)) rfl rfl (.inl rfl) (fun w=>by simp only[G,stepG,stepG.exec])
   case code c =>
    have ma:kJ Gm L c=true:=hi;cases c<;>first|exact Bool.noConfusion hi|skip
    case skip=>exact ji (g':=G (Fr fn tmps k .run) (ab++oq)) rfl rfl (.inl rfl) (fun w=>by simp only[G,stepG,stepG.exec])
    case label l=>exact ji (g':=G (Fr fn tmps k .run) (ab++oq)) rfl rfl (.inl rfl) (fun w=>by simp only[G,stepG,stepG.exec])
    case ret=>exact ji (g':=G (Fr fn tmps (.code .ret::k) .returning) (ab++oq)) rfl rfl (.inr rfl) (fun w=>by simp only[G,stepG,stepG.exec,if_true])
    case seq a b=>exact ji (g':=G (Fr fn tmps (.code a :: .code b::k) .run) (ab++oq)) rfl rfl (.inl rfl) (fun w=>by simp only[G,stepG,stepG.exec])
    case block id c=>exact ji (g':=G (Fr fn tmps (.code c :: .inBlock id::k) .run) (ab++oq)) rfl rfl (.inl rfl) (fun w=>by simp only[G,stepG,stepG.exec])
    case loop c=>exact ji (g':=G (Fr fn tmps (.code c :: .inLoop c::k) .run) (ab++oq)) rfl rfl (.inl rfl) (fun w=>by simp only[G,stepG,stepG.exec])
    case scope c=>exact ji (g':=G (Fr fn tmps (.code c :: .inScope c::k) .run) (ab++oq)) rfl rfl (.inl rfl) (fun w=>by simp only[G,stepG,stepG.exec])
    case refuse w=>exact xK (fun w=>by simp only[G,stepG,stepG.exec];rfl)
    case cond c a b =>
     by_cases hb:∃t,Frame.eval (Fr fn tmps (.code (.cond c a b)::k) .run) c=.bool t
     ·obtain⟨t,hb⟩:=hb;exact ji (g':=G (Fr fn tmps (.code (if t then a else b)::k) .run) (ab++oq)) rfl rfl (.inl rfl) (fun w=>by simp only[G,stepG,stepG.exec,hb])
     ·refine xK (o:=.stuck "cond: bool expected" (Frame.pos P (Fr fn tmps (.code (.cond c a b)::k) .run))) (fun w=>?_);simp only[G,stepG,stepG.exec];cases hv:Frame.eval (Fr fn tmps (.code (.cond c a b)::k) .run) c<;>first|rfl|exact absurd ⟨_,hv⟩ hb
    case exit id =>
     cases hx:exitTo id k with
     |none=>exact xK (fun w=>by simp only[G,stepG,stepG.exec,hx,Option.elim_none];rfl)
     |some k2=>exact ji (g':=G (Fr fn tmps k2 .run) (ab++oq)) rfl rfl (.inl rfl) (fun w=>by simp only[G,stepG,stepG.exec,hx,Option.elim_some])
    case goto l =>
     cases hx:gotoIn l k with
     |none=>exact xK (fun w=>by simp only[G,stepG,stepG.exec,hx,Option.elim_none];rfl)
     |some k2=>exact ji (g':=G (Fr fn tmps k2 .run) (ab++oq)) rfl rfl (.inl rfl) (fun w=>by simp only[G,stepG,stepG.exec,hx,Option.elim_some])
    case region id ops draw =>
     cases draw
     ·exact ji (g':=G (Fr fn tmps (.inRegion ops (List.range ops.size)::k) .run) (ab++oq)) rfl rfl (.inl rfl) (fun w=>by simp only[G,stepG,stepG.exec,Bool.not_false,if_true])
     ·have e:∀w:ae,stepG P m (G (Fr fn tmps (.code (.region id ops true)::k) .run) (ab++oq)) w=.go (G (Fr fn tmps (.inRegion ops (Region.schedule (P.follows .mixedOrders) ops (Question.cut (.order fn id) (w.tape w.drawn (.order fn id))))::k) .run) (ab++oq)) {w with drawn:=w.drawn+1} #[]:=by
       intro w;simp only[G,stepG,stepG.exec,choose,Sem.run,Question.forced,Bool.not_true,aL,if_false]
      refine⟨1,fun τ d hA=>?_,by rw[e];exact⟨rfl,rfl,⟨rfl,rfl⟩,.inl (.inl rfl)⟩⟩;have h0:=hA 0 aa (.order fn id);simp only[Nat.add_zero] at h0;rw[e,e];simp only[WT,h0,gre]
   case inRegion ops todo =>
    cases todo with
    |nil=>exact ji (g':=G (Fr fn tmps k .run) (ab++oq)) rfl rfl (.inl rfl) (fun w=>by simp only[G,stepG,stepG.exec])
    |cons i rest =>
     by_cases hw:((ops[i]?).map (Region.wanted · (yielded ops tmps))).getD false=true
     ·obtain⟨o,ho⟩:∃o,ops[i]?=some o:=by
       cases ho:ops[i]? with
       |none=>rw[ho] at hw;cases hw
       |some o=>exact⟨o,rfl⟩
      have Nj:tS Gm L o=true:=by
       have iB:ops.all (tS Gm L)=true:=hi;rw[im] at iB;obtain⟨cy,he⟩:=Array.getElem?_eq_some_iff.1 ho;rw[<- he];exact iB i cy
      simp only[tS,a8,Array.all_eq_true'] at Nj;have hrel:∀f,F.has f->Rel P f (jh L f) (execOp (Fr fn tmps (.inRegion ops (i::rest)::k) .run).eval o) (execOp (Fr fn tr (.inRegion ops (i::rest)::k) .run).eval o):=by
       intro f hf;have jg:∀g,F.has g->∀x∈o.op.operands,(Fr fn tr (.inRegion ops (i::rest)::k) .run).eval x=val g ((Fr fn tmps (.inRegion ops (i::rest)::k) .run).eval x):=by
        intro g hg x hx;have:=BT hP db hg (Fr fn tmps (.inRegion ops (i::rest)::k) .run) x (Nj.2 x hx);rw[show frame g (Fr fn tmps (.inRegion ops (i::rest)::k) .run)=Fr fn tr (.inRegion ops (i::rest)::k) .run by rw[vT g hg];rfl] at this;exact this
       exact BQ (PF.ok hP db hf) (PF.fn hP hf) (fun n hn args=>db.call n hn f (PF.ok hP db hf) (PF.fn hP hf) args) o Nj.1 (jg f hf) (fun x hx=>BU W hP (fun g hg=>jg g hg x hx))
      obtain⟨c,hD⟩:=wK _ _ wl #[] (hrel f0 kI);have hC:=xq (fun f=>jh L f) _ _ F wl wr #[] #[] hrel W;have hN:=sE _ _ wl #[] (hrel f0 kI) vB;have abZ:Y2 ((execOp (Fr fn tmps (.inRegion ops (i::rest)::k) .run).eval o).runT P wl #[]).1:=by
       rcases hx:(execOp (Fr fn tmps (.inRegion ops (i::rest)::k) .run).eval o).runT P wl #[] with⟨r,el⟩;rw[hx] at hC hN;cases r with
       |halt h w1=>exact hN
       |ok n w1 =>
        obtain⟨F',b,ow,YY,c1,c2,c3,c4,c5,c6⟩:=hC;obtain⟨g0,YZ⟩:=c3.some;have KI:=c2 g0 YZ;cases n<;>cases b<;>simp only[jh] at KI<;>trivial
      have hl:∀w,stepG P m (G (Fr fn tmps (.inRegion ops (i::rest)::k) .run) (ab++oq)) w=stepG.apply P true (Fr fn tmps (.inRegion ops (i::rest)::k) .run) (ab++oq) none (execOp (Fr fn tmps (.inRegion ops (i::rest)::k) .run).eval o) w:=by
       intro w;simp only[G,stepG,stepG.exec];refine(if_pos hw).trans ?_;simp only[stepG.oper,Frame.oper?,ho]
      obtain⟨a1,a2⟩:=Rt (P:=P) (fr:=Fr fn tmps (.inRegion ops (i::rest)::k) .run) (cs:=ab++oq) rfl rfl ⟨_,_,_,rfl⟩ hD abZ;exact⟨c,fun τ d hA=>by rw[hl,hl];exact a1 τ d hA,by rw[hl];exact a2⟩
     ·refine ji (g':=G ((Fr fn tmps (.inRegion ops (i::rest)::k) .run).finish undef) (ab++oq)) rfl rfl (.inl (by simp[G,Frame.finish])) (fun w=>?_);simp only[G,stepG,stepG.exec,hw];simp only[aL,if_false]
 ·subst Gf;have dH:ab≠[]:=Vn.elim id (fun h=>by cases h);cases ab with
  |nil=>exact absurd rfl dH
  |cons c0 ab2 =>
   obtain⟨Ag,rS,_⟩:=db.body fn qC;have hrel:Rel P f0 (V f0) (results Ag tmps) (results Ag tr):=by
    rw[vT f0 kI];exact qT (PF.ok hP db kI) Ag tmps
   obtain⟨c,h1,h2,h3⟩:=wK _ _ wl #[] hrel;have hN:=sE _ _ wl #[] hrel vB;rcases hx:(results Ag tmps).runT P wl #[] with⟨r,el⟩;rw[hx] at h1 h2 h3 hN;cases r with
   |ok v w1 =>
    have e:∀w w1:ae,(results Ag tmps).runT P w #[]=(.ok v w1,el)->stepG P m (G (Fr fn tmps todo .returning) (c0::ab2++oq)) w=.go (G (c0.finish v) (ab2++oq)) w1 (seen P fn el):=by
     intro w w1 h;simp only[G,stepG,unwind,rS,h,List.cons_append,GStep.after,doReturn,cq]
    refine⟨c,fun τ d hA=>?_,?_⟩
    ·rw[e _ _ (h3 τ d hA),e _ _ hx];rfl
    ·rw[e _ _ hx];exact⟨h1,h2,⟨rfl,rfl⟩,.inl (zf (je c0 aj) v).mode⟩
   |halt h w1 =>
    obtain⟨o,e⟩:∃o,∀w w1:ae,(results Ag tmps).runT P w #[]=(.halt h w1,el)->stepG P m (G (Fr fn tmps todo .returning) (c0::ab2++oq)) w=.ended o w1 (seen P fn el):=by
     cases h<;>exact⟨_,fun w w1 hh=>by simp only[G,stepG,unwind,rS,hh,GStep.after,cq];rfl⟩
    refine⟨c,fun τ d hA=>?_,?_⟩
    ·rw[e _ _ (h3 τ d hA),e _ _ hx];rfl
    ·rw[e _ _ hx];trivial
end
end
section
open Go.Conc (G)
def jZ(P:Program):Nat->aX->ae->Option (aX×ae)
 |0,g,w=>some (g,w)
 |n+1,g,w=>match stepG P true g w with
  | .go g' w' _=>jZ P n g' w'
  |_=>none
def gy:Frame:={fn:=0,tmps:=#[],todo:=[.code (.refuse "door")],defers:=[{target:=.nil,args:=#[]}],mode:=.run,kind:=.normal}
def Inv(P:Program)(L:Nat->Bool)(Gm:Nat)(oq:List Frame)(g:aX)(w:ae):Prop :=
 ∃F fr ab wJ abr wr,g=G fr (ab++oq)/\vA Gm L fr/\(∀c∈ab,vA Gm L c)/\(∀f,jE.has F f->wJ=frame f fr/\abr=ab.map (frame f))/\WR F w wr/\fI w/\PF P L Gm F
def pe(oq:List Frame)(g:aX):Prop:=∃fr,g=G fr oq/\fr.mode=.returning
def Y3(g:aX):Prop:=∃chain,g.frame.mode=.panicking chain
section
variable {P:Program} {L:Nat->Bool} {Gm:Nat}
theorem Inv.WT{oq:List Frame}{g:aX}{w:ae}(h:Inv P L Gm oq g w)(τ:Tape)(d:Nat):Inv P L Gm oq g (WT w τ d):=by
 obtain⟨F,fr,ab,wJ,abr,wr,h1,h2,h3,h4,W,hn,hp⟩:=h;exact⟨F,fr,ab,wJ,abr,Ren.WT wr τ d,h1,h2,h3,h4,W.env rfl rfl W.os W.output rfl rfl,fI.heap hn rfl,hp⟩
theorem Inv.ES(db:rL P L Gm){oq:List Frame}{g:aX}{w:ae}(h:Inv P L Gm oq g w)(hb:¬pe oq g):uV P true g w:=by
 obtain⟨F,fr,ab,wJ,abr,wr,rfl,h2,h3,h4,W,hn,hp⟩:=h;refine Lj db hp W hn h2 (fun f hf=>(h4 f hf).1) ?_ h3 (abr:=abr);rcases h2.mode with hm|hm
 ·exact .inr hm
 ·refine .inl fun e=>hb ⟨fr,by rw[e];rfl,hm⟩
theorem B5{P:Program}{L:Nat->Bool}{Gm:Nat}{oq:List Frame}{g:aX}{w:ae}(h:Inv P L Gm oq g w):g.status=.running/\g.dying=none:=by
 obtain⟨F,fr,ab,wJ,abr,wr,rfl,_⟩:=h;exact⟨rfl,rfl⟩
theorem Inv.step(db:rL P L Gm){oq:List Frame}{g g1:aX}{w w1:ae}{es:Array Event}(h:Inv P L Gm oq g w)(hb:¬pe oq g)(hs:stepG P true g w=.go g1 w1 es)(hm:g1.frame.mode=.run\/g1.frame.mode=.returning):Inv P L Gm oq g1 w1:=by
 have hk:=h.ES db hb;obtain⟨c,_,hk⟩:=hk;rw[hs] at hk;obtain⟨F,fr,ab,wJ,abr,wr,rfl,h2,h3,h4,W,hn,hp⟩:=h;have Vn:ab≠[]\/fr.mode=.run:=by
  rcases h2.mode with hm|hm
  ·exact .inr hm
  ·refine .inl fun e=>hb ⟨fr,by rw[e];rfl,hm⟩
 obtain⟨F',Ng,YW,Le,Lg,p6,lY,e1,e2,e3,e4,e5,e6,e7,e8,e9,XG,Rv⟩:=H7 db hp W hn (m':=true) (csr:=[]) h2 h3 h4 hs hk.2.2.1.1 hk.2.2.1.2 hm Vn;exact⟨F',Ng,YW,Le,Lg,p6,e1,e2,e3,e5,e6,Rv,e9⟩
def Ai(P:Program)(g:aX):Prop :=
 (∃ab fr chain,g=G fr (ab++[gy])/\fr.mode=.panicking chain/\fr.defers=[]/\(∃fn,P.funcs[fr.fn]?=some fn)/\∀c∈ab,c.defers=[]/\∃fn,P.funcs[c.fn]?=some fn) \/
 (∃chain,g=G {gy with mode:=.panicking chain} [])
theorem raise_mode(fr:Frame)(ch:List PanicEntry):∃Y4,fr.raise ch={fr with mode:=.panicking Y4}:=by
 unfold Frame.raise;split<;>exact⟨_,rfl⟩
theorem B7{g:aX}(h:Ai P g)(w:ae):(∃o w' es,stepG P true g w=.ended o w' es)\/∃g' w' es,stepG P true g w=.go g' w' es/\Ai P g':=by
 rcases h with⟨ab,fr,chain,rfl,hm,hd,⟨fn,hf⟩,rM⟩|⟨chain,rfl⟩
 ·right;have hc:fr.catches P=false:=by simp[Frame.catches,hf]
  cases ab with
  |nil =>
   obtain⟨Y4,e⟩:=raise_mode gy chain;refine⟨G {gy with mode:=.panicking Y4} [],w,#[],?_,.inr ⟨Y4,rfl⟩⟩;rw[<- e];obtain⟨a1,a2,a3,a4,a5,a6,a7⟩:=fr;simp only at hm hd;subst hm hd;simp only[G,stepG,unwind,hc,List.nil_append,aL,if_false]
  |cons c ab =>
   obtain⟨Y4,e⟩:=raise_mode c chain;refine⟨G {c with mode:=.panicking Y4} (ab++[gy]),w,#[],?_,.inl ⟨ab,_,Y4,rfl,rfl,(rM c aj).1,(rM c aj).2,fun x hx=>rM x (by simp[hx])⟩⟩;rw[<- e];obtain⟨a1,a2,a3,a4,a5,a6,a7⟩:=fr;simp only at hm hd;subst hm hd;simp only[G,stepG,unwind,hc,List.cons_append,aL,if_false]
 ·left;exact⟨_,_,_,by simp only[G,stepG,gy,unwind,callDeferred];rfl⟩
theorem B8:∀(n:Nat) (g:aX) (w:ae) (x:aX×ae),Ai P g->jZ P n g w=some x->Ai P x.1:=by
 intro n
 induction n with
 |zero=>intro g w x h e;simp only[jZ,ay] at e;rw[<- e];exact h
 |succ n ih =>
  intro g w x h e;simp only[jZ] at e;rcases B7 h w with⟨o,w',es,hs⟩|⟨g',w',es,hs,h'⟩
  ·rw[hs] at e;cases e
  ·rw[hs] at e;exact ih g' w' x h' e
theorem Inv.next(db:rL P L Gm){g g1:aX}{w w1:ae}{es:Array Event}(h:Inv P L Gm [gy] g w)(hb:¬pe [gy] g)(hs:stepG P true g w=.go g1 w1 es):Inv P L Gm [gy] g1 w1\/Ai P g1:=by
 obtain⟨c,_,hk⟩:=h.ES db hb;rw[hs] at hk;rcases hk.2.2.2 with hm|⟨ch,hg⟩
 ·exact .inl (h.step db hb hs hm)
 ·right;obtain⟨F,fr,ab,wJ,abr,wr,rfl,h2,h3,h4,W,hn,hp⟩:=h;have fn:∀c,vA Gm L c->∃fn,P.funcs[c.fn]?=some fn:=fun c hc=>let ⟨x,hx,_⟩:=db.body _ hc.fn;⟨x,hx⟩;exact .inl ⟨ab,{fr with mode:=.panicking ch},ch,hg,rfl,h2.defers,fn fr h2,fun c hc=>⟨(h3 c hc).defers,fn c (h3 c hc)⟩⟩
theorem Ai.mode{g:aX}(h:Ai P g):Y3 g:=by
 rcases h with⟨ab,fr,chain,rfl,hm,_⟩|⟨chain,rfl⟩
 ·exact⟨chain,hm⟩
 ·exact⟨chain,rfl⟩
end
end
section
open Go.Conc (G)
structure sF(Stop:aX->ae->Prop):Prop where
 base:∀g w,Stop g w->pe [gy] g
 tape:∀g w τ d,Stop g w->Stop g (WT w τ d)
def Good(P:Program)(Stop:aX->ae->Prop)(g:aX)(w:ae):Prop :=
 ∀τ d,∃n x,jZ P n g (WT w τ d)=some x/\Stop x.1 x.2
section
variable {P:Program} {L:Nat->Bool} {Gm:Nat} {Stop:aX->ae->Prop}
theorem Nl(w:ae)(τ DH:Tape)(d d':Nat):WT (WT w τ d) DH d'=WT w DH d':=rfl
theorem xL(w:ae):WT w w.tape w.drawn=w:=rfl
theorem sF.back(hS:sF Stop){g:aX}{w:ae}{τ:Tape}{d:Nat}(h:Stop g (WT w τ d)):Stop g w:=by
 have:=hS.tape g (WT w τ d) w.tape w.drawn h;rwa[Nl,xL] at this
theorem ET{g:aX}(hb:pe [gy] g)(hI:∃w,Inv P L Gm [gy] g w)(db:rL P L Gm):∀n w x,jZ P (n+1) g w=some x->¬pe [gy] x.1:=by
 obtain⟨w0,F,fr,ab,wJ,abr,wr,hg,h2,h3,_⟩:=hI;obtain⟨Hs,e1,hm⟩:=hb;have rM:ab=[]:=by
  rw[hg] at e1;simp only[G,Goroutine.mk.injEq] at e1;have:=congrArg List.length e1.2.1;simp at this;exact this
 subst rM;have XF:fr.mode=.returning:=by
  rw[hg] at e1;simp only[G,Goroutine.mk.injEq] at e1;rw[e1.1];exact hm
 subst hg;obtain⟨Ag,rS,_⟩:=db.body _ h2.fn;obtain⟨hd,rT,hk,qC,Ni,_⟩:=h2;obtain⟨fn,tmps,todo,defers,mode,kind,ro⟩:=fr;simp only at hd rT hk XF rS;subst hd rT hk XF;intro n w x hx;simp only[jZ] at hx;rcases hr:(results Ag tmps).runT P w #[] with⟨r,el⟩;have eG:∀v w1,r=.ok v w1->stepG P true (G (Fr fn tmps todo .returning) ([]++[gy])) w=.go (G (gy.finish v) []) w1 (seen P fn el):=by
  intro v w1 e;subst e;simp only[G,stepG,unwind,rS,hr,List.nil_append,GStep.after,doReturn,cq]
 cases r with
 |ok v w1 =>
  rw[eG v w1 rfl] at hx;simp only[] at hx;have kT:gy.finish v=gy:=rfl;rw[kT] at hx;cases n with
  |zero =>
   simp only[jZ,ay] at hx;rw[<- hx];rintro⟨fr2,e2,_⟩;simp only[G,Goroutine.mk.injEq] at e2;exact absurd e2.2.1 aj
  |succ n =>
   simp only[jZ] at hx;have:∃o es,stepG P true (G gy []) w1=.ended o w1 es:=⟨_,_,by simp only[G,stepG,gy,stepG.exec];rfl⟩;obtain⟨o,es,he⟩:=this;rw[he] at hx;cases hx
 |halt h w1 =>
  exfalso;have:∃o es,stepG P true (G (Fr fn tmps todo .returning) ([]++[gy])) w=.ended o w1 es:=by
   cases h<;>exact⟨_,_,by simp only[G,stepG,unwind,rS,hr,GStep.after];rfl⟩
  obtain⟨o,es,he⟩:=this;rw[he] at hx;cases hx
theorem sG(db:rL P L Gm)(hS:sF Stop){n:Nat}{g:aX}{w:ae}{x:aX×ae}(hI:Inv P L Gm [gy] g w)(hx:jZ P n g w=some x)(hs:Stop x.1 x.2)(hn:¬Stop g w):
  ∃n' g1 w1 es,n=n'+1/\¬pe [gy] g/\stepG P true g w=.go g1 w1 es/\Inv P L Gm [gy] g1 w1/\jZ P n' g1 w1=some x:=by
 cases n with
 |zero =>
  simp only[jZ,ay] at hx;rw[<- hx] at hs;exact absurd hs hn
 |succ n =>
  have hb:¬pe [gy] g:=fun hb=>ET hb ⟨w,hI⟩ db n w x hx (hS.base _ _ hs);have mf:=hx;simp only[jZ] at hx;cases eG:stepG P true g w with
  |go g1 w1 es =>
   rw[eG] at hx;simp only[] at hx;refine⟨n,g1,w1,es,rfl,hb,rfl,?_,hx⟩;rcases hI.next db hb eG with h|h
   ·exact h
   ·exfalso;obtain⟨ch,hm⟩:=(B8 n g1 w1 x h hx).mode;obtain⟨fr,e,hr⟩:=hS.base _ _ hs;rw[e] at hm;simp only[G] at hm;rw[hr] at hm;cases hm
  |_=>rw[eG] at hx;cases hx
theorem Ll(db:rL P L Gm)(hS:sF Stop):∀(n:Nat) (g:aX) (w:ae) (x:aX×ae),Inv P L Gm [gy] g w->jZ P n g w=some x->Stop x.1 x.2 ->
  ∀τ d,(∀j q,τ (d+j) q=w.tape (w.drawn+j) q)->∃n' x',jZ P n' g (WT w τ d)=some x'/\Stop x'.1 x'.2:=by
 intro n
 induction n with
 |zero =>
  intro g w x hI hx hs τ d _;simp only[jZ,ay] at hx;subst hx;exact⟨0,_,rfl,hS.tape _ _ τ d hs⟩
 |succ n ih =>
  intro g w x hI hx hs τ d hA;by_cases hn:Stop g w
  ·exact⟨0,_,rfl,hS.tape _ _ τ d hn⟩
  ·obtain⟨n',g1,w1,es,e1,hb,eG,Y5,xk⟩:=sG db hS hI hx hs hn;obtain rfl:n=n':=aa;obtain⟨c,hc,hk⟩:=hI.ES db hb;have h1:=hc τ d (fun j _ q=>hA j q);rw[eG] at h1 hk;obtain⟨n2,x2,h2,h3⟩:=ih g1 w1 x Y5 xk hs τ (d+c) (fun j q=>by
    rw[hk.1,hk.2.1,dM,dM];exact hA (c+j) q)
   refine⟨n2+1,x2,?_,h3⟩;simp only[jZ,h1,gre];exact h2
end
end
section
open Go.Conc (G)
section
variable {P:Program} {L:Nat->Bool} {Gm:Nat} {Stop:aX->ae->Prop}
theorem zj(db:rL P L Gm)(hS:sF Stop){g g1:aX}{w w1:ae}{es:Array Event}{τ:Tape}{d:Nat}(hI:Inv P L Gm [gy] g w)(hG:Good P Stop g w)(hn:¬Stop g w)(eG:stepG P true g (WT w τ d)=.go g1 w1 es):
  ¬pe [gy] g/\Inv P L Gm [gy] g1 w1/\Good P Stop g1 w1:=by
 have hnT:∀τ d,¬Stop g (WT w τ d):=fun τ d h=>hn (hS.back h);obtain⟨n,x,hx,hs⟩:=hG τ d;obtain⟨n',g1',w1',lY,e1,hb,D6,Y5,xk⟩:=sG db hS (hI.WT τ d) hx hs (hnT τ d);rw[eG] at D6;cases D6;refine⟨hb,Y5,fun DH d'=>?_⟩;obtain⟨c,hc,hk⟩:=(hI.WT τ d).ES db hb;have hA:gd (WT w τ d) c (fun j q=>if j<c then τ (d+j) q else DH (d'+(j-c)) q) 0:=by
  intro j hj q;simp only[Nat.zero_add,hj,if_true];rfl
 have h1:=hc _ 0 hA;rw[eG,Nl] at h1;simp only[gre,Nat.zero_add] at h1;obtain⟨m,y,hy,hys⟩:=hG (fun j q=>if j<c then τ (d+j) q else DH (d'+(j-c)) q) 0;obtain⟨m',g2,w2,es2,_,_,Ia,Ic,hy2⟩:=sG db hS (hI.WT _ 0) hy hys (hnT _ 0);rw[h1] at Ia;cases Ia;obtain⟨k,z,hz,Y6⟩:=Ll db hS m' g1 _ y Ic hy2 hys DH d' (fun j q=>by
  simp only[WT];rw[if_neg aa]
  congr 1
  omega)
 exact⟨k,z,hz,Y6⟩
def Nx(P:Program)(Stop:aX->ae->Prop)(y x:aX×ae):Prop:=¬Stop x.1 x.2/\∃τ d es,stepG P true x.1 (WT x.2 τ d)=.go y.1 y.2 es
theorem Ie(db:rL P L Gm)(hS:sF Stop){g:aX}{w:ae}(hI:Inv P L Gm [gy] g w)(hG:Good P Stop g w):Acc (Nx P Stop) (g,w):=by
 refine aZ fun hna=>?_;have next:∀x:{x:aX×ae // Inv P L Gm [gy] x.1 x.2/\Good P Stop x.1 x.2/\¬Acc (Nx P Stop) x},∃y:{x:aX×ae // Inv P L Gm [gy] x.1 x.2/\Good P Stop x.1 x.2/\¬Acc (Nx P Stop) x},Nx P Stop y.1 x.1:=by
  rintro⟨x,hxI,hxG,hxA⟩;have:∃y,Nx P Stop y x/\¬Acc (Nx P Stop) y:=by
   refine aZ fun h=>hxA ?_;exact Acc.intro x fun y hy=>aZ fun hc=>h ⟨y,hy,hc⟩
  obtain⟨y,hy,hyA⟩:=this;obtain⟨hn,τ,d,es,eG⟩:=hy;obtain⟨_,h1,h2⟩:=zj db hS hxI hxG hn eG;exact⟨⟨y,h1,h2,hyA⟩,hn,τ,d,es,eG⟩
 obtain⟨nx,EU⟩:=eK next
 let seq:Nat->{x:aX×ae // Inv P L Gm [gy] x.1 x.2/\Good P Stop x.1 x.2/\¬Acc (Nx P Stop) x}:=fun n=>Nat.rec ⟨(g,w),hI,hG,hna⟩ (fun _ x=>nx x) n;have wL:∀n,Nx P Stop (seq (n+1)).1 (seq n).1:=fun n=>EU (seq n);have hn:∀n,¬Stop (seq n).1.1 (seq n).1.2:=fun n=>(wL n).1;obtain⟨τ,hτ⟩:=eK (fun n=>(wL n).2);obtain⟨d,hd⟩:=eK hτ;obtain⟨es,Ig⟩:=eK hd;have hdr:∀n,∃c,(∀DH d',gd (WT (seq n).1.2 (τ n) (d n)) c DH d'->stepG P true (seq n).1.1 (WT (seq n).1.2 DH d')=.go (seq (n+1)).1.1 (WT (seq (n+1)).1.2 DH (d'+c)) (es n)):=by
  intro n;have hb:=(zj db hS (seq n).2.1 (seq n).2.2.1 (hn n) (Ig n)).1;obtain⟨c,hc,_⟩:=((seq n).2.1.WT (τ n) (d n)).ES db hb;refine⟨c,fun DH d' hA=>?_⟩;have:=hc DH d' hA;rw[Ig n,Nl] at this;exact this
 obtain⟨c,hc⟩:=eK hdr;let D:Nat->Nat:=fun n=>Nat.rec 0 (fun k x=>x+c k) n;have hD:∀n,D (n+1)=D n+c n:=fun n=>rfl;have Nn:∀m n,m<=n->D m<=D n:=by
  intro m n h
  induction n with
  |zero =>
   obtain rfl:m=0:=aa;exact ag _
  |succ n ih =>
   rcases b5 m (n+1) with h1|h1
   ·have:=ih aa;rw[hD];omega
   ·obtain rfl:m=n+1:=aa;exact ag _
 have ab0:∀m n j,D m<=j->j<D (m+1)->D n<=j->j<D (n+1)->m=n:=by
  intro m n j h1 h2 h3 h4;rcases fW m n with h|h|h
  ·have:=Nn (m+1) n h;omega
  ·exact h
  ·have:=Nn (n+1) m h;omega
 have ab3:∃T:Tape,∀n j,j<c n->∀q,T (D n+j) q=τ n (d n+j) q:=by
  classical
  refine⟨fun i q=>if h:∃n,D n<=i/\i<D (n+1) then τ h.choose (d h.choose+(i-D h.choose)) q else 0,?_⟩;intro n j hj q;have h:∃k,D k<=D n+j/\D n+j<D (k+1):=⟨n,aa,by rw[hD];omega⟩;have e:h.choose=n:=ab0 _ _ (D n+j) h.choose_spec.1 h.choose_spec.2 aa (by rw[hD];omega);simp only[h,dif_pos];rw[e]
  congr 1
  omega
 obtain⟨T,hT⟩:=ab3;have cJ:∀k n,jZ P k (seq n).1.1 (WT (seq n).1.2 T (D n))=some ((seq (n+k)).1.1,WT (seq (n+k)).1.2 T (D (n+k))):=by
  intro k
  induction k with
  |zero=>intro n;rfl
  |succ k ih =>
   intro n;have hs:=hc n T (D n) (fun j hj q=>hT n j hj q);simp only[jZ,hs];have:=ih (n+1);rw[show n+1+k=n+(k+1) by omega] at this;rw[<- hD];exact this
 obtain⟨k,x,hx,hs⟩:=hG T 0;have h0:=cJ k 0;simp only[Nat.zero_add] at h0;have e0:jZ P k g (WT w T 0)=some ((seq k).1.1,WT (seq k).1.2 T (D k)):=h0;rw[e0] at hx;cases hx;exact hn k (hS.back hs)
end
end
section
open Go.Conc (G)
section
variable {P:Program} {L:Nat->Bool} {Gm:Nat} {Stop:aX->ae->Prop}
theorem pf{fr:Frame}{cs:List Frame}{w w1:ae}{g1:aX}{es:Array Event}{Hs:Frame}{tx:List Frame}(h:stepG P true (G fr cs) w=.go g1 w1 es)(e:g1=G Hs tx):step P (lone fr cs w)=.next (lone Hs tx w1):=by
 subst e;refine step_lone_go ?_;show(stepG P true (G fr cs) w).bare=_;rw[h];rfl
theorem ku{fr:Frame}{cs:List Frame}{w w1:ae}{o:Outcome}{es:Array Event}(h:stepG P true (G fr cs) w=.ended o w1 es):step P (lone fr cs w)=.ended o w1:=by
 refine step_lone_ended ?_;show(stepG P true (G fr cs) w).bare=_;rw[h];rfl
theorem Ih{fr Ng:Frame}{cs DI:List Frame}{w w':ae}(h:lone fr cs w=lone Ng DI w'):fr=Ng/\cs=DI/\w=w':=by
 simp only[lone,Machine.mk.injEq,Array.mk.injEq,cv,Goroutine.mk.injEq,and_true] at h;exact⟨h.2.1,h.2.2,h.1⟩
theorem OW(db:rL P L Gm){Ng:Frame}{w':ae}(hm:Ng.mode=.returning):∀(n:Nat) (fr:Frame) (cs:List Frame) (w:ae),(Inv P L Gm [gy] (G fr cs) w\/Ai P (G fr cs)) ->
  runN P n (lone fr cs w)=.next (lone Ng [gy] w')->jZ P n (G fr cs) w=some (G Ng [gy],w'):=by
 intro n
 induction n with
 |zero =>
  intro fr cs w _ h;simp only[runN,Stepped.next.injEq] at h;obtain⟨rfl,rfl,rfl⟩:=Ih h;rfl
 |succ n ih =>
  intro fr cs w hI h;simp only[runN] at h;rcases hI with hI|hF
  ·by_cases hb:pe [gy] (G fr cs)
   ·exfalso;obtain⟨F,Hs,ab,wJ,abr,wr,hg,h2,h3,_⟩:=hI;obtain⟨fr2,e1,XE⟩:=hb;simp only[G,Goroutine.mk.injEq] at hg e1;obtain⟨rfl,OX,_⟩:=hg;obtain⟨rfl,rfl,_⟩:=e1;obtain⟨Ag,rS,_⟩:=db.body _ h2.fn;obtain⟨hd,rT,hk,qC,Ni,_⟩:=h2;obtain⟨fn,tmps,todo,defers,mode,kind,ro⟩:=fr;simp only at hd rT hk XE rS;subst hd rT hk XE;rcases hr:(results Ag tmps).runT P w #[] with⟨r,el⟩;cases r with
    |ok v w1 =>
     have eG:stepG P true (G (Fr fn tmps todo .returning) [gy]) w=.go (G gy []) w1 (seen P fn el):=by
      simp only[G,stepG,unwind,rS,hr,GStep.after,doReturn,cq];rfl
     rw[pf eG rfl] at h;simp only[] at h;cases n with
     |zero =>
      simp only[runN,Stepped.next.injEq] at h;have:=(Ih h).2.1;simp at this
     |succ n =>
      have:∃o es,stepG P true (G gy []) w1=.ended o w1 es:=⟨_,_,by simp only[G,stepG,gy,stepG.exec];rfl⟩;obtain⟨o,es,he⟩:=this;simp only[runN,ku he] at h;cases h
    |halt hh w1 =>
     have:∃o es,stepG P true (G (Fr fn tmps todo .returning) [gy]) w=.ended o w1 es:=by
      cases hh<;>exact⟨_,_,by simp only[G,stepG,unwind,rS,hr,GStep.after];rfl⟩
     obtain⟨o,es,he⟩:=this;rw[ku he] at h;cases h
   ·obtain⟨c,_,hk⟩:=hI.ES db hb;cases eG:stepG P true (G fr cs) w with
    |go g1 w1 es =>
     have EU:=hI.next db hb eG
     obtain⟨Hs,tx,e⟩:∃Hs tx,g1=G Hs tx:=by
      rcases EU with hx|hx
      ·obtain⟨F,Hs,ab,wJ,abr,wr,hg,_⟩:=hx;exact⟨_,_,hg⟩
      ·rcases hx with⟨ab,Hs,ch,hg,_⟩|⟨ch,hg⟩<;>exact⟨_,_,hg⟩
     rw[pf eG e] at h;subst e;simp only[jZ,eG];exact ih Hs tx w1 EU h
    |ended o w1 es=>rw[ku eG] at h;cases h
    |_=>rw[eG] at hk;exact hk.elim
  ·rcases B7 hF w with⟨o,w1,es,eG⟩|⟨g1,w1,es,eG,lv⟩
   ·rw[ku eG] at h;cases h
   ·obtain⟨Hs,tx,e⟩:∃Hs tx,g1=G Hs tx:=by
     rcases lv with⟨ab,Hs,ch,hg,_⟩|⟨ch,hg⟩<;>exact⟨_,_,hg⟩
    rw[pf eG e] at h;subst e;simp only[jZ,eG];exact ih Hs tx w1 (.inr lv) h
def kO(P:Program)(A9:FuncId)(Q:Value->ae->Prop)(g:aX)(w:ae):Prop :=
 ∃fr v,g=G fr [gy]/\fr.fn=A9/\fr.mode=.returning/\∀τ d,fr.leaving P (WT w τ d) (.returned v)/\Q v (WT w τ d)
theorem Ba(A9:FuncId)(Q:Value->ae->Prop):sF (kO P A9 Q) where
 base g w h:=let ⟨fr,v,e,_,hm,_⟩:=h;⟨fr,e,hm⟩
 tape g w τ d h:=let ⟨fr,v,e,h1,hm,h2⟩:=h;⟨fr,v,e,h1,hm,fun DH d'=>by rw[Nl];exact h2 DH d'⟩
def Lm(Q:Value->ae->Prop):Prop:=∀v w τ d,Q v w->Q v (WT w τ d)
theorem OY(db:rL P L Gm):∀(n:Nat) (g:aX) (w:ae) (x:aX×ae),Inv P L Gm [gy] g w->jZ P n g w=some x->pe [gy] x.1->Inv P L Gm [gy] x.1 x.2:=by
 intro n
 induction n with
 |zero=>intro g w x hI hx _;simp only[jZ,ay] at hx;rw[<- hx];exact hI
 |succ n ih =>
  intro g w x hI hx hb;have Gh:¬pe [gy] g:=fun h=>ET h ⟨w,hI⟩ db n w x hx hb;simp only[jZ] at hx;cases eG:stepG P true g w with
  |go g1 w1 es =>
   rw[eG] at hx;simp only[] at hx;rcases hI.next db Gh eG with h|h
   ·exact ih g1 w1 x h hx hb
   ·exfalso;obtain⟨ch,hm⟩:=(B8 n g1 w1 x h hx).mode;obtain⟨fr,e,hr⟩:=hb;rw[e] at hm;simp only[G] at hm;rw[hr] at hm;cases hm
  |_=>rw[eG] at hx;cases hx
theorem vU(db:rL P L Gm){A9:FuncId}{args:Array Value}{w:ae}{Q:Value->ae->Prop}(hQ:Lm Q)(hI:Inv P L Gm [gy] (G (Frame.enter P A9 args .normal) [gy]) w)(hC:∀τ d,Calls P A9 args (WT w τ d) fun e w'=>∃v,e=.returned v/\Q v w'):Good P (kO P A9 Q) (G (Frame.enter P A9 args .normal) [gy]) w:=by
 intro τ d;obtain⟨e,w',fr,⟨v,rfl,hv⟩,Y7,qC,hlv⟩:=hC τ d [gy];obtain⟨n,hn⟩:=Y7;have hm:fr.mode=.returning:=hlv.1;have hl:=OW db hm n _ _ _ (.inl (hI.WT τ d)) hn;have hI':=OY db n _ _ _ (hI.WT τ d) hl ⟨fr,rfl,hm⟩;refine⟨n,_,hl,fr,v,rfl,qC,hm,fun DH d'=>⟨?_,hQ v w' DH d' hv⟩⟩;obtain⟨_,hd,hk,Ag,rS,wM⟩:=hlv;refine⟨hm,hd,hk,Ag,rS,?_⟩;obtain⟨F,Hs,ab,wJ,abr,wr,hg,h2,h3,h4,W,vB,hp⟩:=hI';simp only[G,Goroutine.mk.injEq] at hg;obtain⟨rfl,_⟩:=hg;obtain⟨f0,kI⟩:=W.some;have hrel:=qT (PF.ok hp db kI) Ag fr.tmps;obtain⟨c,h5,h6,h7⟩:=wK _ _ w' #[] hrel;have ly:((results Ag fr.tmps).runT P w' #[]).1=.ok v w':=by rw[Sem.runT_fst];exact wM
 rw[ly] at h6 h7;have OZ:c=0:=by simp only[BZ] at h6;omega
 subst OZ;have h8:=h7 DH d' (fun j hj=>aa);rw[<- Sem.runT_fst P (results Ag fr.tmps) (WT w' DH d') #[],h8];rfl
end
end
section
open Go.Conc (G)
def xM(P:Program)(L:Nat->Bool)(Gm:Nat)(Stop:aX->ae->Prop)(csr:List Frame)(F:jE)(x:aX×ae)(gr:aX)(wr:ae):Prop :=
 ∃fr ab wJ abr,x.1=G fr (ab++[gy])/\gr=G wJ (abr++csr)/\vA Gm L fr/\(∀c∈ab,vA Gm L c)/\(∀f,F.has f->wJ=frame f fr/\abr=ab.map (frame f)) /\
  WR F x.2 wr/\fI x.2/\PF P L Gm F/\Good P Stop x.1 x.2
structure Ln(F:jE)(wr ow:ae):Prop where
 size:wr.heap.size<=ow.heap.size
 heap:∀r,F.K r->ow.heap[F.φ r]?=wr.heap[F.φ r]?
 os:ow.os=wr.os
 output:ow.output=wr.output
section
variable {P:Program} {L:Nat->Bool} {Gm:Nat} {Stop:aX->ae->Prop} {csr:List Frame} {F:jE}
theorem Good.WT{g:aX}{w:ae}(h:Good P Stop g w)(τ:Tape)(d:Nat):Good P Stop g (WT w τ d):=fun DH d'=>h DH d'
theorem xM.inv{x:aX×ae}{gr:aX}{wr:ae}(h:xM P L Gm Stop csr F x gr wr):Inv P L Gm [gy] x.1 x.2:=by
 obtain⟨fr,ab,wJ,abr,h1,h2,h3,h4,h5,W,hn,hp,hg⟩:=h;exact⟨F,fr,ab,wJ,abr,wr,h1,h3,h4,h5,W,hn,hp⟩
theorem xM.others{x:aX×ae}{gr:aX}{wr ow:ae}(h:xM P L Gm Stop csr F x gr wr)(ho:Ln F wr ow):xM P L Gm Stop csr F (x.1,WT x.2 ow.tape ow.drawn) gr ow:=by
 obtain⟨fr,ab,wJ,abr,h1,h2,h3,h4,h5,W,hn,hp,hg⟩:=h;refine⟨fr,ab,wJ,abr,h1,h2,h3,h4,h5,⟨W.here,fun r hr=>bw (W.there r hr) ho.size,W.inj,fun r hr f hf=>?_,W.QU,ho.os.trans W.os,ho.output.trans W.output,rfl,rfl,W.AL,aW W.EI ho.size,W.DT⟩,fI.heap hn rfl,hp,hg.WT _ _⟩;rw[ho.heap r hr];exact W.tJ r hr f hf
theorem xM.step(db:rL P L Gm)(hS:sF Stop){x:aX×ae}{gr:aX}{wr:ae}(h:xM P L Gm Stop csr F x gr wr)(XH:¬Stop x.1 x.2)(m':Bool):
  ∃y F' QY ow es,stepG P m' gr wr=.go QY ow es/\Nx P Stop y x/\xM P L Gm Stop csr F' y QY ow/\fw F F' x.2 wr y.2 ow/\(∀e∈es,xo F' e)/\∀f,F'.has f->F.has f:=by
 have hI:=h.inv;obtain⟨fr,ab,wJ,abr,h1,h2,h3,h4,h5,W,hn,hp,hg⟩:=h;obtain⟨g,w⟩:=x;simp only at h1 W hn hg hI XH;subst h1 h2;obtain⟨n,z,hz,Y6⟩:=hg w.tape w.drawn;rw[xL] at hz;obtain⟨n',g1,w1,es,_,hb,eG,Y5,_⟩:=sG db hS hI hz Y6 XH;have hm:g1.frame.mode=.run\/g1.frame.mode=.returning:=by
  obtain⟨F1,Hs,ab1,_,_,_,KJ,Gi,_⟩:=Y5;rw[KJ];exact Gi.mode
 have Vn:ab≠[]\/fr.mode=.run:=by
  rcases h3.mode with hm|hm
  ·exact .inr hm
  ·exact .inl fun e=>hb ⟨fr,by rw[e];rfl,hm⟩
 obtain⟨F',Ng,YW,Le,Lg,p6,lY,e1,e2,e3,e4,e5,e6,e7,e8,e9,XG,Rv⟩:=H7 db hp W hn (m':=m') (csr:=csr) h3 h4 h5 eG (B5 Y5).1 (B5 Y5).2 hm Vn;have hG1:Good P Stop g1 w1:=(zj db hS (τ:=w.tape) (d:=w.drawn) hI hg XH (by rw[xL];exact eG)).2.2;exact⟨(g1,w1),F',G Le (Lg++csr),p6,lY,e4,⟨XH,w.tape,w.drawn,es,by rw[xL];exact eG⟩,⟨Ng,YW,Le,Lg,e1,rfl,e2,e3,e5,e6,Rv,e9,hG1⟩,e7,e8,XG⟩
theorem xM.ret(db:rL P L Gm){A9:FuncId}{Q:Value->ae->Prop}{c:Frame}{cs:List Frame}{x:aX×ae}{gr:aX}{wr:ae}(h:xM P L Gm (kO P A9 Q) (c::cs) F x gr wr)(hs:kO P A9 Q x.1 x.2)(m':Bool):
  ∃v v' F' ow es,stepG P m' gr wr=.go (G (c.finish v') cs) ow es/\Q v x.2/\(∀f,F'.has f->v'=val f v)/\WR F' x.2 ow/\fw F F' x.2 wr x.2 ow/\(∀e∈es,xo F' e)/\∀f,F'.has f->F.has f:=by
 obtain⟨fr,ab,wJ,abr,h1,h2,h3,h4,h5,W,hn,hp,hg⟩:=h;obtain⟨Hs,v,e1,_,hm,hlv⟩:=hs;have ab5:=hlv x.2.tape x.2.drawn;rw[xL] at ab5;rw[h1] at e1;simp only[G,Goroutine.mk.injEq] at e1;obtain⟨rfl,OX,_⟩:=e1;have rM:ab=[]:=by
  have:=congrArg List.length OX;simp at this;exact this
 subst rM;obtain⟨f0,kI⟩:=W.some;have nI:abr=[]:=(h5 f0 kI).2;subst nI;subst h2;obtain⟨⟨_,_,_,Ag,rS,wM⟩,hQ⟩:=ab5;obtain⟨hd,rT,hk,qC,Ni,_⟩:=h3;obtain⟨fn,tmps,todo,defers,mode,kind,ro⟩:=fr;simp only at hd rT hk hm rS wM;subst hd rT hk hm;obtain⟨tr,D4,vT⟩:∃tr,wJ=Fr fn tr todo .returning/\∀f,F.has f->tr=tmps.map (val f):=by
  refine⟨tmps.map (val f0),(h5 f0 kI).1,fun f hf=>?_⟩;have:=(h5 f0 kI).1.symm.trans (h5 f hf).1;simp only[frame,Frame.mk.injEq] at this;exact this.2.1
 subst D4;have hrel:∀f,F.has f->Rel P f (V f) (results Ag tmps) (results Ag tr):=by
  intro f hf;rw[vT f hf];exact qT (PF.ok hp db hf) Ag tmps
 have hC:=xq (fun f=>V f) _ _ F x.2 wr #[] #[] hrel W;rw[Sem.runT_fst,wM] at hC;obtain⟨F',v',ow,YY,c1,c2,c3,c4,c5,c6⟩:=hC;refine⟨v,v',F',ow,seen P fn YY,?_,hQ,c2,c3,c4,?_,c6⟩
 ·simp only[G,stepG,unwind,rS,c1,List.nil_append,GStep.after,doReturn,cq]
 ·intro e he;obtain⟨new,rfl,zh⟩:=c5;have:=BS P fn _ e he;exact zh e (by simpa using this)
end
end
open Go.Conc
section
open Go.ConcN (sumTo upd sumTo_upd upd_ne upd_same)
def tW(S:Nat->Prop):Loc->Prop
 | .cell a=>S a.block
 |_=>False
theorem EV{S:Nat->Prop}{B:Nat}{F:jE}(hF:∀r,F.K r->¬S (F.φ r)/\F.φ r<B){e:Event}(h:xo F e):EvL (tW S) B e:=by
 obtain⟨loc,wt,sy⟩:=e;cases loc with
 |cell a =>
  obtain⟨r,h1,h2⟩:=h;have hf:=hF r h1;rw[h2] at hf;refine⟨fun x hx hs=>?_,aj,aj,?_⟩
  ·simp only[MemAct.ofEvent,MemAct.touch?,ay] at hx;subst hx;exact absurd hs hf.1
  ·exact hf.2
 |obj b =>
  obtain⟨r,h1,h2⟩:=h;have hf:=hF r h1;rw[h2] at hf;refine⟨fun x hx hs=>?_,aj,aj,?_⟩
  ·cases wt<;>cases sy<;>simp only[MemAct.ofEvent,MemAct.touch?,ay] at hx;all_goals first|cases hx;done|skip
   all_goals (subst hx;exact hs.elim)
  ·cases wt<;>cases sy<;>exact hf.2
 |output =>
  refine⟨fun x hx hs=>?_,aj,aj,trivial⟩;simp only[MemAct.ofEvent,MemAct.touch?,ay] at hx;subst hx;exact hs.elim
 |goroutines =>
  refine⟨fun x hx hs=>?_,aj,aj,trivial⟩;simp only[MemAct.ofEvent,MemAct.touch?,ay] at hx;subst hx;exact hs.elim
 |mark m =>
  have hd:K0 m=true:=h;cases m<;>first|exact Bool.noConfusion hd|skip
  all_goals
   refine⟨fun x hx hs=>?_,aj,aj,trivial⟩;simp only[MemAct.ofEvent,MemAct.touch?] at hx;cases hx
section
variable {P:Program} {L:Nat->Bool} {Gm:Nat}
theorem EW{F:jE}{w:ae}(d:Nat):Ln F w (w.at d):=⟨ag _,fun _ _=>rfl,rfl,rfl⟩
theorem XI{Stop:aX->ae->Prop}(hS:sF Stop){y:aX×ae}{g:aX}{w:ae}{τ:Tape}{d:Nat}(h:Nx P Stop y (g,WT w τ d)):Nx P Stop y (g,w):=by
 obtain⟨hn,DH,d',es,eG⟩:=h;exact⟨fun hs=>hn (hS.tape _ _ _ _ hs),DH,d',es,eG⟩
theorem xN{Stop:aX->ae->Prop}{csr:List Frame}{F:jE}{x:aX×ae}{gr:aX}{w:ae}(h:xM P L Gm Stop csr F x gr w):gr.status=.running:=by
 obtain⟨fr,ab,wJ,abr,h1,rfl,_⟩:=h;rfl
theorem Ii(db:rL P L Gm){A9:FuncId}{Q:Value->ae->Prop}{c:Frame}{cs:List Frame}{S:Nat->Prop}(x:aX×ae)(Gj:Acc (Nx P (kO P A9 Q)) x):
  ∀(M B:Nat) (gs:Array aX) (gr:aX) (w:ae) (sl:Option (Nat×Nat)) (t:Trace) (q:Nat->Nat) (F:jE),sumTo gs.size q<M->gs[0]?=some gr->Leavers P t gs q->w.heap.size<=B->Past (tW S) B t ->
   (∀r,F.K r->¬S (F.φ r))->(∀b,w.heap.size<=b->¬S b)->xM P L Gm (kO P A9 Q) (c::cs) F (x.1,WT x.2 w.tape w.drawn) gr w ->
   ∃(N:Nat) (gK:Array aX) (w' aV:ae) (rU:Option (Nat×Nat)) (t':Trace) (q':Nat->Nat) (B':Nat) (F':jE) (v v':Value),
    runNT P N (crowd gs w sl) t=(.next (crowd gK w' rU),t')/\gK.size=gs.size/\gK[0]?=some (G (c.finish v') cs)/\Leavers P t' gK q'/\w'.heap.size<=B'/\Past (tW S) B' t' /\
    Q v aV/\(∀f,F'.has f->v'=val f v)/\WR F' aV w'/\fw F F' x.2 w aV w'/\(∀f,F'.has f->F.has f)/\(∀r,F'.K r->¬S (F'.φ r))/\(∀b,w'.heap.size<=b->¬S b):=by
 have hS:=Ba (P:=P) A9 Q
 induction Gj with
 |intro x _ ih =>
 intro M
 induction M with
 |zero =>
  intro B gs gr w sl t q F hM;exact absurd hM (dZ _)
 |succ M ihM =>
  intro B gs gr w sl t q F hM h0 hL hB hP hK hSb O0;have cJ:=xN O0;have XJ:∀g∈gs,awake g:=by
   intro g hg;obtain⟨i,hi,rfl⟩:=Array.mem_iff_getElem.1 hg;rcases bg i with rfl|nt
   ·have:gs[0]=gr:=by simpa[Array.getElem?_eq_getElem hi] using h0
    rw[this];exact awake_of (.inl cJ)
   ·exact awake_of ((hL.old i _ nt (aN hi)).status.elim .inl fun x=>.inr (.inr x))
  obtain⟨i,g,d,rU,hi,hg,eG⟩:=crowd_pick (P:=P) (w:=w) (sl:=sl) XJ ⟨0,gr,h0,cJ⟩;rcases bg i with rfl|nt
  ·
   obtain rfl:g=gr:=by rw[h0] at hi;exact(aQ hi).symm
   have O1:=O0.others (EW (F:=F) (w:=w) d);have cy:0<gs.size:=(Array.getElem?_eq_some_iff.1 h0).1;have Rw:∀(a':aX) (w':ae) (es:Array Event),Leavers P (t++MemOp.ofEvents 0 g.frame.fn g.frame.place es) ((gs.map (woken P g a' w')).setIfInBounds 0 a') q:=by
    intro a' w' es;refine⟨fun j x hj hx=>?_,fun j hj=>?_⟩
    ·have dH:0≠j:=aa;rw[aS dH,aK] at hx;obtain⟨y,hy,rfl⟩:=Option.map_eq_some_iff.1 hx;have hq:=hL.old j y hj hy;rw[woken_quitsD hq,Deaf_other t aa _ (fun op eP=>by obtain⟨e,_,rfl⟩:=Go.Conc.mem_ofEvents eP;rfl)];exact hq
    ·rw[Deaf_other t (g':=0) (by simp at hj;omega) _ (fun op eP=>by obtain⟨e,_,rfl⟩:=Go.Conc.mem_ofEvents eP;rfl)];exact hL.above j (by simpa using hj)
   by_cases hs:kO P A9 Q x.1 x.2
   ·
    obtain⟨v,v',F',ow,es,e1,e2,e3,e4,e5,e6,e7⟩:=O1.ret db (hS.tape _ _ _ _ hs) true;have tX:=runT_crowd_go (P:=P) (sl:=rU) (i:=0) hi (show stepG P (0==0) g (w.at d)=_ from e1);have hK':∀r,F'.K r->¬S (F'.φ r):=by
     intro r hr;rcases e5.wz r hr with h|h
     ·rw[e5.φ r h];exact hK r h
     ·exact hSb _ h.2
    have nn:∀r,F'.K r->F'.φ r<B+ow.heap.size+1:=fun r hr=>by have:=e4.there r hr;omega
    refine⟨1,(gs.map (woken P g (G (c.finish v') cs) ow)).setIfInBounds 0 (G (c.finish v') cs),ow,_,rU,t++MemOp.ofEvents 0 g.frame.fn g.frame.place es,q,B+ow.heap.size+1,F',v,v',by simp only[runNT,eG,tX],aj,by simp[cy],Rw _ _ es,aa,(hP.mono aa).own (fun e he=>EV (fun r hr=>⟨hK' r hr,nn r hr⟩) (e6 e he)),e2,e3,e4,?_,e7,hK',?_⟩
    ·exact⟨e5.K,e5.φ,e5.L,e5.wz,ag _,e5.size,e5.mine,e5.rest,e5.G,e5.AL,e5.Rg,e5.Bv,e5.same⟩
    ·intro b hb;exact hSb b (aW e5.size hb)
   ·obtain⟨y,F',QY,ow,es,e1,e2,e3,e4,e5,e6⟩:=O1.step db hS (fun h=>hs (hS.back h)) true;have tX:=runT_crowd_go (P:=P) (sl:=rU) (i:=0) hi (show stepG P (0==0) g (w.at d)=_ from e1);have hK':∀r,F'.K r->¬S (F'.φ r):=by
     intro r hr;rcases e4.wz r hr with h|h
     ·rw[e4.φ r h];exact hK r h
     ·exact hSb _ h.2
    have tA:WR F' y.2 ow:=by obtain⟨_,_,_,_,_,_,_,_,_,hW,_⟩:=e3;exact hW
    have nn:∀r,F'.K r->F'.φ r<B+ow.heap.size+1:=fun r hr=>by have:=tA.there r hr;omega
    have hyt:(y.1,WT y.2 ow.tape ow.drawn)=y:=by rw[tA.tape,tA.drawn];rfl
    have fE:((gs.map (woken P g QY ow)).setIfInBounds 0 QY).size=gs.size:=aj;obtain⟨N,gK,w',aV,Vp,t',q',B',F2,v,v',k1,k2,k3,k4,k5,k6,k7,k8,k9,Ij,k11,k12,k13⟩:=ih y (XI hS e2) (sumTo gs.size q+1) (B+ow.heap.size+1) ((gs.map (woken P g QY ow)).setIfInBounds 0 QY) QY ow rU (t++MemOp.ofEvents 0 g.frame.fn g.frame.place es) q F' (by rw[fE];exact bH _) (by simp[cy]) (Rw QY ow es) aa
     ((hP.mono aa).own (fun e he=>EV (fun r hr=>⟨hK' r hr,nn r hr⟩) (e5 e he))) hK' (fun b hb=>hSb b (aW e4.size hb)) (by rw[hyt];exact e3)
    refine⟨N+1,gK,w',aV,Vp,t',q',B',F2,v,v',by simp only[runNT,eG,tX];exact k1,k2.trans fE,k3,k4,k5,k6,k7,k8,k9,?_,fun f hf=>e6 f (k11 f hf),k12,k13⟩;have:=e4.trans Ij;exact⟨this.K,this.φ,this.L,this.wz,this.Bu,this.size,this.mine,this.rest,this.G,this.AL,this.Rg,this.Bv,this.same⟩
  ·
   have hq:=hL.old i g nt hi;have hi0:(i==0)=false:=dV;have cy:i<gs.size:=(Array.getElem?_eq_some_iff.1 hi).1;cases Y8:q i with
   |zero=>rw[Y8] at hq;rw[hq.1] at hg;cases hg
   |succ k =>
    rw[Y8] at hq;rcases hq with⟨hf,_⟩|⟨_,g',es,hm,Y9,Bc⟩
    ·rw[hf] at hg;cases hg
    have tX:=runT_crowd_go (P:=P) (sl:=rU) (i:=i) hi (by rw[hi0];exact Y9 (w.at d));have fE:((gs.map (woken P g g' (w.at d))).setIfInBounds i g').size=gs.size:=aj;have agA:sumTo gs.size (upd q i k)+(k+1)=sumTo gs.size q+k:=by
     have:=sumTo_upd q k id cy;simpa[Y8] using this
    obtain⟨N,gK,w',aV,Vp,t',q',B',F2,v,v',k1,k2,k3,k4,k5,k6,k7,k8,k9,Ij,k11,k12,k13⟩:=ihM B ((gs.map (woken P g g' (w.at d))).setIfInBounds i g') gr (w.at d) rU (t++MemOp.ofEvents i g.frame.fn g.frame.place es) (upd q i k) F (by rw[fE];omega)
     (by
      have dH:i≠0:=aa;rw[aS dH,aK,h0];simp[woken_run cJ])
     ⟨fun j x hj hx=>by
      by_cases Bd:i=j
      ·subst Bd;rw[b7 (by simpa using cy)] at hx;obtain rfl:=aQ hx;rw[upd_same,Deaf_own];exact Bc
      ·rw[aS Bd,aK] at hx;obtain⟨y,hy,rfl⟩:=Option.map_eq_some_iff.1 hx;have hqj:=hL.old j y hj hy;rw[woken_quitsD hqj,upd_ne q k (bp Bd),Deaf_other t Bd _ (fun op eP=>by obtain⟨e,_,rfl⟩:=Go.Conc.mem_ofEvents eP;rfl)];exact hqj,fun j hj=>by
      rw[Deaf_other t (g':=i) (by simp at hj;omega) _ (fun op eP=>by obtain⟨e,_,rfl⟩:=Go.Conc.mem_ofEvents eP;rfl)];exact hL.above j (by simpa using hj)⟩
     hB (hP.mute aa hm) hK hSb (O0.others (EW (F:=F) (w:=w) d))
    exact⟨N+1,gK,w',aV,Vp,t',q',B',F2,v,v',by simp only[runNT,eG,tX];exact k1,k2.trans fE,k3,k4,k5,k6,k7,k8,k9,⟨Ij.K,Ij.φ,Ij.L,Ij.wz,Ij.Bu,Ij.size,Ij.mine,Ij.rest,Ij.G,Ij.AL,Ij.Rg,Ij.Bv,Ij.same⟩,k11,k12,k13⟩
end
end
section
variable {P:Program} {f:Rn} {L:Nat->Bool} {Gm:Nat}
theorem EX{n:Nat}{fn:Func}(hf:P.funcs[n]?=some fn)(hb:fn.body.isSome=true)(hn:(fn.name == "runtime.NumGoroutine")=false)(hL:L n=true)(args:Array Value):
  Rel P f (jh L f) (callFunc n args) (callFunc n (args.map (val f))):=by
 refine ai dR ?_;rintro _ _ ⟨rfl,rfl⟩;have nn:fn.body.isNone=false:=by cases h:fn.body<;>simp_all
 simp only[hf,hn,nn,aL,if_false];exact aC ⟨rfl,hL,rfl⟩
theorem oy{n:Nat}{fn:Func}{e:Array Value->Sem Value}(hf:P.funcs[n]?=some fn)(hb:fn.body=none)(hn:(fn.name == "runtime.NumGoroutine")=false)(hx:(Extern.findNext fn).isNone=true)(he:Extern.find fn=some e)(hh:f.h n=n)(args:Array Value)(hr:Rel P f (V f) (e args) (e (args.map (val f)))):Rel P f (jh L f) (callFunc n args) (callFunc n (args.map (val f))):=by
 refine ai dR ?_;rintro _ _ ⟨rfl,rfl⟩;have mf:Extern.findNext fn=none:=by simpa using hx
 simp only[hf,hn,hb,mf,he,aL,if_false,Option.isNone_none,if_true];refine ai (A:=fun _ _=>True) ?_ ?_
 ·have:=Ri (P:=P) (f:=f) (m:=.extern n) rfl;simp only[KZ,hh] at this;exact this
 ·rintro _ _ _;exact ai hr (by rintro v _ rfl;exact aC rfl)
theorem xO(args:Array Value):Rel P f (V f) (Extern.AbiNoEscape.same args) (Extern.AbiNoEscape.same (args.map (val f))):=by
 obtain⟨l⟩:=args;rcases l with _|⟨x,_|⟨y,l⟩⟩
 ·exact aE
 ·simp only[List.map_toArray,aA,aP];exact aC rfl
 ·exact aE
theorem B9:∀(n:Nat) (a:Addr) (acc:af),Rel P f Eq (Extern.Bytes.loadBytes a n acc) (Extern.Bytes.loadBytes (addr f a) n acc):=by
 intro n
 induction n with
 |zero=>intro a acc;exact aC rfl
 |succ n ih =>
  intro a acc;unfold Extern.Bytes.loadBytes;refine ai (xr a) ?_;rintro v _ rfl;cases v<;>simp only[cI,cP,b6,bF,bL,bh,bE,cT,cD,cE,bI,bX,bu,cQ,bY]<;>first|exact aE|skip
  rename_i k b;cases k<;>first|exact aE|skip
  rw[<- kE];exact ih _ _
theorem Aj(v:Value):Rel P f Eq (Extern.Bytes.bytesOf v) (Extern.Bytes.bytesOf (val f v)):=by
 cases v<;>simp only[cI,cP,b6,bF,bL,bh,bE,cT,cD,cE,bI,bX,bu,cQ,bY]<;>first|exact aE|exact aC rfl|skip
 rename_i a len cap;cases a with
 |none=>exact aC rfl
 |some a=>exact B9 _ _ _
theorem Ik(args:Array Value):Rel P f (V f) (Extern.BytealgCompare.compare args) (Extern.BytealgCompare.compare (args.map (val f))):=by
 obtain⟨l⟩:=args;rcases l with _|⟨x,_|⟨y,_|⟨z,l⟩⟩⟩
 ·exact aE
 ·exact aE
 ·simp only[List.map_toArray,aA,aP];refine ai (Aj x) ?_;rintro a _ rfl;refine ai (Aj y) ?_;rintro b _ rfl;exact aC (by simp[V,goInt])
 ·exact aE
theorem Lp:∀(n t:Nat) (acc:Array Value),acc.map (val f)=acc->(Extern.BytealgMakeNoZero.digits n t acc).map (val f)=Extern.BytealgMakeNoZero.digits n t acc:=by
 intro n
 induction n with
 |zero=>intro t acc h;exact h
 |succ n ih=>intro t acc h;exact ih _ _ (by simp[Array.map_push,h])
theorem tY(hf:nE P f)(ps rs:Array TypeId)(args:Array Value):Rel P f (V f) (Extern.BytealgMakeNoZero.makeNoZero ps rs args) (Extern.BytealgMakeNoZero.makeNoZero ps rs (args.map (val f))):=by
 obtain⟨l⟩:=args;rcases l with _|⟨x,_|⟨y,l⟩⟩
 ·exact aE
 ·simp only[List.map_toArray,aA,aP];cases x<;>first|exact aE|skip
  rename_i k n;cases k<;>first|exact aE|skip
  rw[cP];obtain⟨rl⟩:=rs;cases rl with
  |nil=>exact aE
  |cons t rl =>
   refine ai (bj t) ?_;rintro d _ ⟨rfl,_⟩;cases d<;>first|exact aE|skip
   refine fj (bZ hf _) ?_;refine ai (iJ _) ?_;rintro c _ rfl;refine ai (tL _) ?_;rintro _ _ _;refine ai (iJ _) ?_;rintro b _ rfl;refine ai (A:=AR f) (kr _ (Lp _ _ _ aj).symm) ?_;rintro a _ rfl;exact aC (by simp[V])
 ·exact aE
end
theorem O2{α β:Type}(I:β->Prop){g:α->β->Option (ForInStep β)}:∀(l:List α) (init r:β),(∀x∈l,∀a s,I a->g x a=some s->I s.value)->I init->forIn (m:=Option) l init g=some r->I r:=by
 intro l
 induction l with
 |nil=>intro init r _ hi h;simp only[List.forIn_nil] at h;cases h;exact hi
 |cons x l ih =>
  intro init r hg hi h;simp only[List.forIn_cons] at h;cases hx:g x init with
  |none=>rw[hx] at h;cases h
  |some s =>
   rw[hx] at h;have hs:=hg x aj init s hi hx;cases s with
   |done b=>cases h;exact hs
   |yield b=>exact ih b r (fun y hy=>hg y (by simp[hy])) hs h
theorem EY{cs:Array Value}(h:∀c∈cs,Plain c):Plain (.agg cs):=by
 intro f;rw[cQ]
 congr 1
 apply jf
 ·simp
 ·intro i h1 h2;simp only[Array.getElem_map];exact h _ aj f
theorem Ak{v:Value}(h:Plain v):∀c∈v.cells,Plain c:=by
 intro c hc f;have:=kG f v;rw[h f] at this;obtain⟨i,hi,rfl⟩:=Array.mem_iff_getElem.1 hc;have e:=congrArg (fun a:Array Value=>a[i]?) this;simp only[aK,Array.getElem?_eq_getElem hi,aJ,ay] at e;exact e.symm
def Ca(info:TypeId->Option TypeInfo):Prop:=∀t i z,info t=some i->i.zero=some z->Plain z
theorem Gk{info:TypeId->Option TypeInfo}(hi:Ca info)(d:TypeDesc){i:TypeInfo}{z:Value}(h:Made.reckon info d=some i)(hz:i.zero=some z):Plain z:=by
 cases d
 case pointer e =>
  simp only[Made.reckon,Option.bind_eq_bind,Option.bind_eq_some_iff] at h;obtain⟨j,_,h⟩:=h;split at h
  ·cases h
  ·split at h
   ·cases h
   ·obtain⟨s,_,h⟩:=Option.bind_eq_some_iff.1 h;cases h;cases hz;exact fun f=>aj
  ·obtain⟨s,_,h⟩:=Option.bind_eq_some_iff.1 h;cases h;cases hz;exact fun f=>aj
 case slice e =>
  simp only[Made.reckon,Option.bind_eq_bind,Option.bind_eq_some_iff] at h;obtain⟨j,_,s,_,h⟩:=h;cases h;cases hz;exact fun f=>aj
 case map k e =>
  simp only[Made.reckon,Option.bind_eq_bind,Option.bind_eq_some_iff] at h;obtain⟨j,_,s,_,j2,_,s2,_,h⟩:=h;cases h;cases hz;exact fun f=>aj
 case chan dir e =>
  simp only[Made.reckon,Option.bind_eq_bind,Option.bind_eq_some_iff] at h;obtain⟨j,_,s,_,h⟩:=h;cases h;cases hz;exact fun f=>aj
 case func ps rs v =>
  simp only[Made.reckon,Option.bind_eq_bind,Option.bind_eq_some_iff] at h;obtain⟨s,_,h⟩:=h;cases h;cases hz;exact fun f=>aj
 case array n e =>
  simp only[Made.reckon,Option.bind_eq_bind,Option.bind_eq_some_iff] at h;obtain⟨j,hj,s,_,h⟩:=h;cases h;simp only[] at hz;split at hz
  ·cases hz
  ·split at hz
   ·cases hz;exact fun f=>aj
   ·obtain⟨y,hy,rfl⟩:=Option.map_eq_some_iff.1 hz;refine EY ?_;intro c hc;simp only[Array.mem_flatten,Array.mem_replicate] at hc;obtain⟨cs,⟨_,rfl⟩,hc⟩:=hc;exact Ak (hi e j y hj hy) c hc
 case struct fs =>
  have h':Made.reckonStruct info fs=some i:=h;unfold Made.reckonStruct at h';obtain⟨r,hr,h'⟩:=Option.bind_eq_some_iff.1 h';rw[<- fO] at hr;have hI:∀a,r.2.2.2.2.2.2.2.1=some a->∀c∈a,Plain c:=by
   refine O2 (fun s=>∀a,s.2.2.2.2.2.2.2.1=some a->∀c∈a,Plain c) fs.toList _ r ?_ ?_ hr
   ·intro x hx s st hs hg;obtain⟨j,hj,hg⟩:=Option.bind_eq_some_iff.1 hg;have fin:∀(n:Nat) a,(if n>Made.mostCells then none else do
      let z <- s.2.2.2.2.2.2.2.1;let y <- j.zero
      pure (z++y.cells):Option (Array Value))=some a->∀c∈a,Plain c:=by
     intro n a ha;split at ha
     ·cases ha
     ·obtain⟨z0,YU,ha⟩:=Option.bind_eq_some_iff.1 ha;obtain⟨y,hy,ha⟩:=Option.bind_eq_some_iff.1 ha;cases ha;intro c hc;rcases Array.mem_append.1 hc with hc|hc
      ·exact hs z0 YU c hc
      ·exact Ak (hi _ j y hj hy) c hc
    dsimp only at hg;split at hg
    ·cases hg
    ·split at hg
     ·cases hg
     ·split at hg
      ·split at hg<;>(cases hg;exact fin _)
      ·obtain⟨tag,_,hg⟩:=Option.bind_eq_some_iff.1 hg;split at hg<;>(cases hg;exact fin _)
   ·intro a ha;cases ha;simp
  dsimp only at h';have ez:i.zero=r.2.2.2.2.2.2.2.1.map .agg:=by
   split at h'<;>(cases h';rfl)
  rw[ez] at hz;obtain⟨a,ha,rfl⟩:=Option.map_eq_some_iff.1 hz;exact EY (hI a ha)
 all_goals (simp only[Made.reckon] at h;cases h)
theorem Gl{T:Tables}(h:∀(t:Nat) (i:TypeInfo) (z:Value),T.types[t]?=some i->i.zero=some z->Plain z):∀n,Ca (Made.infoAt T n):=by
 intro n
 induction n with
 |zero=>intro t i z hi;cases hi
 |succ n ih =>
  intro t i z hi hz;simp only[Made.infoAt] at hi;split at hi
  ·exact h t i z hi hz
  ·obtain⟨d,_,hd⟩:=Option.bind_eq_some_iff.1 hi;exact Gk ih d hd hz
theorem Lq{T:Tables}(h:∀(t:Nat) (i:TypeInfo) (z:Value),T.types[t]?=some i->i.zero=some z->Plain z):Ca T.info?:=by
 intro t i z hi hz;unfold Tables.info? at hi;split at hi
 ·exact h t i z hi hz
 ·exact Gl h _ t i z hi hz
section
open Go.Conc (G)
section
variable {P:Program} {m:Bool} {R:ae->ae->Prop} {D:ae->ae->Array Event->Prop} {Stop:aX->ae->Prop}
end
def Il{α:Type}(r le:α->α->Prop)(n:Nat)(y x:Nat->α):Prop:=∃i,i<n/\r (y i) (x i)/\∀j,j<n->j≠i->le (y j) (x j)
theorem Rx{α:Type}{r le:α->α->Prop}(rf:∀a,le a a)(tr:∀a b c,le a b->le b c->le a c)(hle:∀a b c,le b a->r c b->r c a):
  ∀(n:Nat) (x:Nat->α),(∀i,i<n->Acc r (x i))->Acc (Il r le n) x:=by
 intro n
 induction n with
 |zero=>intro x _;exact Acc.intro _ fun y hy=>by obtain⟨i,hi,_⟩:=hy;omega
 |succ n ih =>
  have key:∀a,Acc r a->∀v:Nat->α,Acc (Il r le n) v->∀x:Nat->α,le (x n) a->(∀j,j<n->le (x j) (v j))->Acc (Il r le (n+1)) x:=by
   intro a ha
   induction ha with
   |intro a _ iha =>
    intro v hv
    induction hv with
    |intro v xl ihv =>
     intro x XK hxv;refine Acc.intro _ fun y hy=>?_;obtain⟨i,hi,hr,ho⟩:=hy;by_cases rN:i=n
     ·subst rN;exact iha (y i) (hle _ _ _ XK hr) v (Acc.intro v xl) y (rf _) (fun j hj=>tr _ _ _ (ho j aa aa) (hxv j hj))
     ·have ma:i<n:=aa;refine ihv y ⟨i,ma,hle _ _ _ (hxv i ma) hr,fun j hj Bd=>tr _ _ _ (ho j aa Bd) (hxv j hj)⟩ y (tr _ _ _ (ho n aa (bp rN)) XK) (fun j _=>rf _)
  intro x hx;exact key (x n) (hx n aa) x (ih x fun i hi=>hx i aa) x (rf _) (fun j _=>rf _)
end
section
variable {t u:Trace} {g:Nat} {l:Loc}
end
open Go.ConcN
def Im(l:Loc)(b:Nat):Prop :=
 match l with
 | .cell a=>a.block=b
 | .obj r=>r=b
 |_=>False
theorem Im.uniq{l:Loc}{b c:Nat}(h:Im l b)(k:Im l c):b=c:=by
 cases l<;>simp only[Im] at h k<;>first|(exact h.elim)|(rw[<- h,<- k])
theorem Im.Za{l:Loc}(h:l.isMemory=true):∃b,Im l b:=by
 cases l<;>simp only[Loc.isMemory] at h<;>first|(cases h;done)|exact⟨_,rfl⟩
theorem tW.XL{l:Loc}{c:Nat}(h:tW (fun b=>b=c) l):Im l c:=by
 cases l<;>simp only[tW] at h<;>first|(exact h.elim)|exact h
structure dm where
 T0:Nat
 H0:Nat
 Wg:Nat
 m0:Nat
 n:Nat
 ch:Nat->Nat
 jW:Nat->Loc->Prop
 Shun:Loc->Prop
 Sh:Nat->Prop
 ty:TypeId
 dep:Nat->Nat->Prop
 Idle:Nat->ae->Prop
structure dm.OK(T:dm):Prop where
 m0:0<T.m0
 wg:T.Wg<T.H0
 own:∀k l b,T.jW k l->Im l b->b<T.H0/\b≠T.Wg
 apart:∀k k' l,T.jW k l->T.jW k' l->k=k'
 acd:∀l b,T.Shun l->Im l b->b<T.H0/\b≠T.Wg
 Gn:∀k l,T.jW k l->¬T.Shun l
 ownSh:∀k l,T.jW k l->∃a,l=.cell a/\T.Sh a.block
 sh:∀b,T.Sh b->b<T.H0/\b≠T.Wg/\∀k,k<T.n->T.ch k≠b
 ch:∀k,k<T.n->T.ch k<T.H0/\T.ch k≠T.Wg
 xP:∀k k',k<T.n->k'<T.n->T.ch k=T.ch k'->k=k'
 Ry:∀k,k<T.n->¬T.Shun (.obj (T.ch k))
 dep:∀i k,i<T.n->T.dep i k->k<i
 idle:∀k w w1,(∀a,T.jW k (.cell a)->w1.cell? a=w.cell? a)->(∀b cs ty fz,T.Sh b->w.heap[b]?=some (.cells cs ty fz)->∃tx,w1.heap[b]?=some (.cells tx ty fz)/\tx.size=cs.size)->T.Idle k w->T.Idle k w1
def gL(c:Nat):Array Event:=#[⟨.obj c,false,true⟩,⟨.obj c,true,true⟩]
def dm.RO(T:dm)(l:Loc):Prop:=(∀b,Im l b->b<T.H0/\b≠T.Wg)/\(∀k,¬T.jW k l)/\¬T.Shun l
structure jF where
 j:Nat
 own:Nat->Nat->Prop
 cl:Nat->Option Nat
 rc:Nat->Nat->Prop
structure jF.OK(T:dm)(S:jF):Prop where
 new:∀x b,S.own x b->T.H0<=b
 one:∀x y b,S.own x b->S.own y b->x=y
 mem:∀x b,S.own x b->x=0\/∃i,i<S.j/\x=T.m0+i
def Class(T:dm)(S:jF)(t:Trace)(i:Nat)(g:Nat)(a:Touch):Prop :=
 (tW (fun b=>b=T.Wg) a.loc/\a.kind≠.plain/\(a.kind=.said->g=0))
 \/ (∃x b,S.own x b/\Im a.loc b/\Knows t x i)
 \/ (∃k,T.jW k a.loc/\(S.cl k=none->Knows t (T.m0+k) i)/\(∀p,S.cl k=some p->a.write=true->Before t i p))
 \/ (T.RO a.loc/\a.write=false)
def Gp(T:dm)(S:jF)(x:Nat):Prop:=x=0\/∃i,i<S.j/\x=T.m0+i
structure TI(T:dm)(S:jF)(t:Trace):Prop where
 len:T.T0<=t.size
 base:∀x,Gp T S x->∀i,i<T.T0->∀a,touchAt t i=some a->a.loc.isMemory=true->Knows t x i\/(T.Shun a.loc/\a.kind=.atomic)
 cls:∀i z a,T.T0<=i->t[i]?=some z->z.act.touch?=some a->a.loc.isMemory=true->Class T S t i z.g a
 XM:∀i k,S.rc i k->∃p,S.cl k=some p/\Knows t (T.m0+i) p
 pos:∀k p,S.cl k=some p->t.act? p=some (.close (T.ch k))/\t.heard p
 nr:∀said,¬Race said t
def xQ(T:dm)(S:jF)(x:Nat)(a:Touch):Prop :=
 (tW (fun b=>b=T.Wg) a.loc/\a.kind≠.plain/\(a.kind=.said->x=0))
 \/ (∃b,S.own x b/\Im a.loc b)
 \/ (∃k,x=T.m0+k/\T.jW k a.loc/\S.cl k=none)
 \/ (∃i k,x=T.m0+i/\S.rc i k/\T.jW k a.loc/\a.write=false)
 \/ (T.RO a.loc/\a.write=false)
section
variable {T:dm} {S:jF} {t u:Trace}
theorem Class.app{i g:Nat}{a:Touch}(h:Class T S t i g a)(u:Trace):Class T S (t++u) i g a:=by
 rcases h with h|⟨x,b,h1,h2,h3⟩|⟨k,h1,h2,h3⟩|h
 ·exact .inl h
 ·exact .inr (.inl ⟨x,b,h1,h2,h3.app u⟩)
 ·exact .inr (.inr (.inl ⟨k,h1,fun e=>(h2 e).app u,fun p e w=>(h3 p e w).app u⟩))
 ·exact .inr (.inr (.inr h))
theorem zk{p:Nat}(hp:p<t.size)(h:t.heard p):(t++u).heard p:=(heard_old hp).2 h
theorem TI.knows(hT:T.OK)(hS:S.OK T)(h:TI T S t){x:Nat}(hx:Gp T S x){said:Bool}{i:Nat}{a b:Touch}(ha:touchAt t i=some a)(hb:b.loc.isMemory=true->xQ T S x b)(hc:a.conflicts said b):Knows t x i:=by
 obtain⟨hl,Zb,uW,ace⟩:=hc;have hbm:b.loc.isMemory=true:=by rw[<- hl];exact Zb
 have O3:=hb hbm;obtain⟨c,hc⟩:=Im.Za hbm;have O4:Im a.loc c:=by rw[hl];exact hc
 rcases b5 i T.T0 with hi|hi
 ·rcases h.base x hx i hi a ha Zb with hk|⟨hs,pg⟩
  ·exact hk
  ·exfalso;rw[hl] at hs;have XN:=hT.acd _ c hs hc;rcases O3 with⟨h1,_⟩|⟨b',h1,h2⟩|⟨k,_,h2,_⟩|⟨_,k,_,_,h2,_⟩|⟨h1,_⟩
   ·exact XN.2 (hc.uniq h1.XL)
   ·have:=hS.new _ _ h1;have:=hc.uniq h2;omega
   ·exact hT.Gn k _ h2 hs
   ·exact hT.Gn k _ h2 hs
   ·exact h1.2.2 hs
 ·obtain⟨z,hz,vD⟩:=touch_of ha;have fu:=h.cls i z a hi hz vD Zb;rcases O3 with⟨h1,h2,h3⟩|⟨b',h1,h2⟩|⟨k,hk,h2,h3⟩|⟨i',k,hk,h1,h2,h3⟩|⟨h1,h2⟩
  ·rcases fu with⟨_,k2,k3⟩|⟨y,b',k1,k2,_⟩|⟨k,k1,_⟩|⟨k1,_⟩
   ·rcases ace with e|e|⟨_,e1,e2⟩
    ·exact absurd e k2
    ·exact absurd e h2
    ·have:=knows_own hz;rw[k3 e1,<- h3 e2] at this;exact this
   ·have:=hS.new _ _ k1;have e:=hc.uniq h1.XL;have e':=O4.uniq k2;have:=hT.wg;omega
   ·exact absurd (hc.uniq h1.XL) (hT.own k _ c k1 O4).2
   ·exact absurd (hc.uniq h1.XL) (k1.1 c O4).2
  ·have nn:=hS.new _ _ h1;have e:=hc.uniq h2;rcases fu with⟨k1,_⟩|⟨y,b'',k1,k2,k3⟩|⟨k,k1,_⟩|⟨k1,_⟩
   ·have:=O4.uniq k1.XL;have:=hT.wg;omega
   ·have e':=O4.uniq k2;obtain rfl:b'=b'':=aa;rw[hS.one _ _ _ h1 k1];exact k3
   ·have:=(hT.own k _ c k1 O4).1;omega
   ·have:=(k1.1 c O4).1;omega
  ·rcases fu with⟨k1,_⟩|⟨y,b'',k1,k2,k3⟩|⟨k',k1,k2,_⟩|⟨k1,_⟩
   ·exact absurd (O4.uniq k1.XL) (hT.own k _ c h2 hc).2
   ·have:=hS.new _ _ k1;have:=O4.uniq k2;have:=(hT.own k _ c h2 hc).1;omega
   ·rw[hl] at k1;obtain rfl:=hT.apart _ _ _ h2 k1;rw[hk];exact k2 h3
   ·rw[hl] at k1;exact absurd h2 (k1.2.1 k)
  ·have XJ:a.write=true:=by
    rcases uW with e|e
    ·exact e
    ·rw[h3] at e;cases e
   rcases fu with⟨k1,_⟩|⟨y,b'',k1,k2,k3⟩|⟨k',k1,_,k2⟩|⟨k1,_⟩
   ·exact absurd (O4.uniq k1.XL) (hT.own k _ c h2 hc).2
   ·have:=hS.new _ _ k1;have:=O4.uniq k2;have:=(hT.own k _ c h2 hc).1;omega
   ·rw[hl] at k1;obtain rfl:=hT.apart _ _ _ h2 k1;obtain⟨p,hp,Io⟩:=h.XM i' k h1;rw[hk];exact Knows.of_before (k2 p hp XJ) Io
   ·rw[hl] at k1;exact absurd h2 (k1.2.1 k)
  ·have XJ:a.write=true:=by
    rcases uW with e|e
    ·exact e
    ·rw[h2] at e;cases e
   rcases fu with⟨k1,_⟩|⟨y,b'',k1,k2,k3⟩|⟨k',k1,_⟩|⟨_,k2⟩
   ·exact absurd (O4.uniq k1.XL) (h1.1 c hc).2
   ·have:=hS.new _ _ k1;have:=O4.uniq k2;have:=(h1.1 c hc).1;omega
   ·rw[hl] at k1;exact absurd k1 (h1.2.1 k')
   ·rw[k2] at XJ;cases XJ
theorem TI.app(hT:T.OK)(hS:S.OK T)(h:TI T S t){x:Nat}(hx:Gp T S x)(hu:∀op∈u,op.g=x)(ha:∀op∈u,∀b,op.act.touch?=some b->b.loc.isMemory=true->xQ T S x b):TI T S (t++u):=by
 refine⟨by have:=h.len;simp;omega,fun y hy i hi a pg hm=>?_,fun i z a hi hz vD hm=>?_,fun i k hr=>?_,fun k p hp=>?_,fun said=>?_⟩
 ·rw[touchAt_old (by have:=h.len;omega)] at pg;exact(h.base y hy i hi a pg hm).imp (·.app u) id
 ·rcases getElem?_append_cases hz with⟨cy,DF⟩|⟨_,Ht⟩
  ·exact(h.cls i z a hi DF vD hm).app u
  ·have hk:=knows_own hz;rw[hu z Ht] at hk |-;rcases ha z Ht a vD hm with h1|⟨b,h1,h2⟩|⟨k,h1,h2,h3⟩|⟨i',k,h1,h2,h3,h4⟩|h1
   ·exact .inl h1
   ·exact .inr (.inl ⟨x,b,h1,h2,hk⟩)
   ·exact .inr (.inr (.inl ⟨k,h2,fun _=>by rw[<- h1];exact hk,fun p e _=>by rw[h3] at e;cases e⟩))
   ·obtain⟨p,hp,_⟩:=h.XM i' k h2;exact .inr (.inr (.inl ⟨k,h3,fun e=>(by rw[hp] at e;cases e),fun p _ w=>(by rw[h4] at w;cases w)⟩))
   ·exact .inr (.inr (.inr h1))
 ·obtain⟨p,h1,h2⟩:=h.XM i k hr;exact⟨p,h1,h2.app u⟩
 ·obtain⟨h1,h2⟩:=h.pos k p hp;have:=lt_of_act? h1;exact⟨by rw[act?_old this];exact h1,zk this h2⟩
 ·exact noRace_append (h.nr said) hu fun i a pg op eP b hb hc=>h.knows hT hS hx pg (ha op eP b hb) hc
theorem TI.mute(h:TI T S t){y:Nat}(hu:∀op∈u,op.g=y)(hn:∀op∈u,op.act.touch?=none):TI T S (t++u):=by
 refine⟨by have:=h.len;simp;omega,fun y hy i hi a pg hm=>?_,fun i z a hi hz vD hm=>?_,fun i k hr=>?_,fun k p hp=>?_,fun said=>?_⟩
 ·rw[touchAt_old (by have:=h.len;omega)] at pg;exact(h.base y hy i hi a pg hm).imp (·.app u) id
 ·rcases getElem?_append_cases hz with⟨cy,DF⟩|⟨_,Ht⟩
  ·exact(h.cls i z a hi DF vD hm).app u
  ·rw[hn z Ht] at vD;cases vD
 ·obtain⟨p,h1,h2⟩:=h.XM i k hr;exact⟨p,h1,h2.app u⟩
 ·obtain⟨h1,h2⟩:=h.pos k p hp;have:=lt_of_act? h1;exact⟨by rw[act?_old this];exact h1,zk this h2⟩
 ·exact noRace_append (h.nr said) hu fun i a pg op eP b hb hc=>by rw[hn op eP] at hb;cases hb
theorem TI.grow(h:TI T S t){own':Nat->Nat->Prop}(ho:∀x b,S.own x b->own' x b):TI T {S with own:=own'} t:=by
 refine⟨h.len,h.base,fun i z a hi hz vD hm=>?_,h.XM,h.pos,h.nr⟩;rcases h.cls i z a hi hz vD hm with h1|⟨x,b,h1,h2⟩|h1|h1
 ·exact .inl h1
 ·exact .inr (.inl ⟨x,b,ho _ _ h1,h2⟩)
 ·exact .inr (.inr (.inl h1))
 ·exact .inr (.inr (.inr h1))
theorem TI.close(h:TI T S t){i:Nat}(hi:i<S.j)(hn:S.cl i=none){z:MemOp}(hg:z.g=T.m0+i)(hz:z.act=.close (T.ch i))(hd:Deaf t (T.m0+i)=0):
  TI T {S with cl:=upd S.cl i (some t.size)} (t++#[z]):=by
 have hzp:(t++#[z])[t.size]?=some z:=by rw[gf (ag _)];simp
 have hm:TI T S (t++#[z]):=h.mute (y:=T.m0+i) (fun op eP=>by simp at eP;rw[eP];exact hg) (fun op eP=>by simp at eP;rw[eP,hz];rfl);refine⟨hm.len,hm.base,fun i' y a ma hy hya hme=>?_,fun i' k hr=>?_,fun k p hp=>?_,hm.nr⟩
 ·
  rcases getElem?_append_cases hy with⟨cy,hy'⟩|⟨_,hyu⟩
  ·rcases h.cls i' y a ma hy' hya hme with h1|⟨x,b,h1,h2,h3⟩|⟨k,h1,h2,h3⟩|h1
   ·exact .inl h1
   ·exact .inr (.inl ⟨x,b,h1,h2,h3.app _⟩)
   ·refine .inr (.inr (.inl ⟨k,h1,fun e=>?_,fun p e w=>?_⟩))
    ·by_cases hk:k=i
     ·subst hk;simp only[upd_same] at e;cases e
     ·simp only[upd_ne S.cl _ hk] at e;exact(h2 e).app _
    ·by_cases hk:k=i
     ·subst hk;simp only[upd_same,ay] at e;subst e;exact .inr ((h2 hn).hb_new (ag _) hzp hg)
     ·simp only[upd_ne S.cl _ hk] at e;exact(h3 p e w).app _
   ·exact .inr (.inr (.inr h1))
  ·have:y=z:=by simpa using hyu
   rw[this,hz] at hya;cases hya
 ·obtain⟨p,h1,h2⟩:=hm.XM i' k hr;refine⟨p,?_,h2⟩;have hk:k≠i:=by rintro rfl;rw[hn] at h1;cases h1
  simp only[upd_ne S.cl _ hk];exact h1
 ·by_cases hk:k=i
  ·subst hk;simp only[upd_same,ay] at hp;subst hp;refine⟨by rw[act?_of hzp,hz],T.m0+k,by simp[Trace.g?,hg],?_⟩;rw[deaf_old (ag _)];exact hd
  ·simp only[upd_ne S.cl _ hk] at hp;exact hm.pos k p hp
theorem TI.recv(h:TI T S t){i k p:Nat}(fu:S.cl k=some p){z:MemOp}(hg:z.g=T.m0+i)(hz:z.act=.recvClosed (T.ch k))(hd:Deaf t (T.m0+i)=0):
  TI T {S with rc:=fun a b=>S.rc a b\/(a=i/\b=k)} (t++#[z]):=by
 have hzp:(t++#[z])[t.size]?=some z:=by rw[gf (ag _)];simp
 have hm:TI T S (t++#[z]):=h.mute (y:=T.m0+i) (fun op eP=>by simp at eP;rw[eP];exact hg) (fun op eP=>by simp at eP;rw[eP,hz];rfl);refine⟨hm.len,hm.base,hm.cls,fun i' k' hr=>?_,hm.pos,hm.nr⟩;rcases hr with hr|⟨rfl,rfl⟩
 ·exact hm.XM i' k' hr
 ·obtain⟨h1,h2⟩:=hm.pos k' p fu;refine⟨p,fu,t.size,z,hzp,hg,.inr (.single (.inr ⟨.closed h1 (by rw[act?_of hzp,hz]),h2,T.m0+i',by simp[Trace.g?,hg],?_⟩))⟩;rw[deaf_old (ag _)];exact hd
theorem TI.spawn(h:TI T S t){own':Nat->Nat->Prop}{x y:MemOp}(hx:x.g=0/\x.act=.go (T.m0+S.j))(hy:y.g=T.m0+S.j/\y.act=.start)(h0:Deaf t 0=0)(hk:Deaf t (T.m0+S.j)=0)(ho:∀z b,S.own z b->own' z b\/(z=0/\own' (T.m0+S.j) b)):TI T {S with j:=S.j+1,own:=own'} (t++#[x,y]):=by
 have No:∀op∈#[x,y],op.act.touch?=none:=by
  intro op eP;simp only[List.mem_toArray,bJ,dh,or_false] at eP;rcases eP with rfl|rfl
  ·rw[hx.2];rfl
  ·rw[hy.2];rfl
 have Rz:∀{i},Knows t 0 i->Knows (t++#[x,y]) (T.m0+S.j) i:=fun hh=>fork_knows hx hy h0 hk hh;refine⟨by have:=h.len;simp;omega,fun w hw i hi a pg hm=>?_,fun i z a hi hz vD hm=>?_,fun i k hr=>?_,fun k p hp=>?_,fun said=>?_⟩
 ·rw[touchAt_old (by have:=h.len;omega)] at pg;by_cases hwj:w=T.m0+S.j
  ·subst hwj;exact(h.base 0 (.inl rfl) i hi a pg hm).imp Rz id
  ·have hw':Gp T S w:=by
    rcases hw with rfl|⟨i',ma,rfl⟩
    ·exact .inl rfl
    ·exact .inr ⟨i',by simp only at ma;omega,rfl⟩
   exact(h.base w hw' i hi a pg hm).imp (·.app _) id
 ·rcases getElem?_append_cases hz with⟨cy,DF⟩|⟨_,Ht⟩
  ·rcases h.cls i z a hi DF vD hm with h1|⟨w,b,h1,h2,h3⟩|⟨k,h1,h2,h3⟩|h1
   ·exact .inl h1
   ·rcases ho w b h1 with h4|⟨rfl,h4⟩
    ·exact .inr (.inl ⟨w,b,h4,h2,h3.app _⟩)
    ·exact .inr (.inl ⟨_,b,h4,h2,Rz h3⟩)
   ·exact .inr (.inr (.inl ⟨k,h1,fun e=>(h2 e).app _,fun p e w=>(h3 p e w).app _⟩))
   ·exact .inr (.inr (.inr h1))
  ·rw[No z Ht] at vD;cases vD
 ·obtain⟨p,h1,h2⟩:=h.XM i k hr;exact⟨p,h1,h2.app _⟩
 ·obtain⟨h1,h2⟩:=h.pos k p hp;have:=lt_of_act? h1;exact⟨by rw[act?_old this];exact h1,zk this h2⟩
 ·have e:t++#[x,y]=(t++#[x])++#[y]:=by apply Array.ext';simp
  rw[e];refine noRace_append (g:=T.m0+S.j) (noRace_append (g:=0) (h.nr said) (fun op eP=>by simp at eP;rw[eP];exact hx.1) (fun i a _ op eP b hb _=>?_)) (fun op eP=>by simp at eP;rw[eP];exact hy.1) (fun i a _ op eP b hb _=>?_)
  ·rw[No op (by simp at eP |-;exact .inl eP)] at hb;cases hb
  ·rw[No op (by simp at eP |-;exact .inr eP)] at hb;cases hb
theorem TI.RA{Sb:Nat->Prop}(tf:T.Shun=tW Sb)(h:TI T S t){t0:Trace}{B B':Nat}(hold:∃U,t=t0++U)(h0:t0.size=T.T0)(hP:Past T.Shun B t0){q:Nat}(hq:t.act? q=some (.mark (.acquire (Go.ConcR.stA T.Wg))))(hqg:t.g? q=some 0)(hqh:t.heard q)(norel:∀k,T.T0<=k->t.act? k≠some (.mark (.release (Go.ConcR.stA T.Wg))))(rel:∀i,i<S.j->∃r,T.T0<=r/\r<q/\RelBy (Go.ConcR.stA T.Wg) t (T.m0+i) r/\∀i' a,r<i'->t.g? i'=some (T.m0+i)->touchAt t i'=some a->tW (fun b=>b=T.Wg) a.loc/\a.kind=.atomic)(UC:∀i z,T.T0<=i->t[i]?=some z->z.g=0\/(∃k,k<S.j/\z.g=T.m0+k)\/z.act.touch?=none)(hears:Deaf t 0=0)(seen:∀op∈t,op.act.low B'):Past (tW fun b=>Sb b\/b=T.Wg) B' t:=by
 have Vq:∀i r,RelBy (Go.ConcR.stA T.Wg) t (T.m0+i) r->T.T0<=r->r<q->HappensBefore t r q:=fun i r hr h1 h2 =>
  .single (.inr ⟨.marked h2 (.inr hr.act) hq (fun k k1 _=>norel k aa),hr.heard,hqh⟩)
 have kq:∀i,HappensBefore t i q->Knows t 0 i:=fun i hh=>by
  obtain⟨z,hz,hg⟩:=Option.map_eq_some_iff.1 hqg;exact⟨q,z,hz,hg,.inr hh⟩
 have shn:∀{l:Loc},tW (fun b=>b=T.Wg) l->tW (fun b=>Sb b\/b=T.Wg) l:=fun {l} hl=>by cases l<;>simp only[tW] at hl |-<;>first|(exact hl.elim)|exact .inr hl
 have sho:∀{l:Loc},T.Shun l->tW (fun b=>Sb b\/b=T.Wg) l:=fun {l} hl=>by rw[tf] at hl;cases l<;>simp only[tW] at hl |-<;>first|(exact hl.elim)|exact .inl hl
 refine⟨h.nr,fun i a ha hm=>?_,fun i g hg dH hc=>?_,hears,seen⟩
 ·rcases b5 i T.T0 with hi|hi
  ·exact(h.base 0 (.inl rfl) i hi a ha hm).imp id fun x=>⟨sho x.1,x.2⟩
  ·obtain⟨z,hz,vD⟩:=touch_of ha;rcases UC i z hi hz with e|⟨k,hk,e⟩|e
   ·have:=knows_own hz;rw[e] at this;exact .inl this
   ·obtain⟨r,r1,r2,r3,r4⟩:=rel k hk;have Vr:t.g? i=some (T.m0+k):=by simp[Trace.g?,hz,e]
    rcases fW i r with cy|rfl|hgt
    ·exact .inl (kq i (.trans (.single (.inl ⟨cy,_,Vr,r3.g⟩)) (Vq k r r3 r1 r2)))
    ·exact .inl (kq i (Vq k i r3 r1 r2))
    ·have:=r4 i a hgt Vr ha;exact .inr ⟨shn this.1,this.2⟩
   ·rw[e] at vD;cases vD
 ·obtain⟨U,rfl⟩:=hold;rcases b5 i T.T0 with hi|hi
  ·obtain⟨j,hj,hb⟩:=hP.over i g (by rw[<- g?_old (u:=U) aa];exact hg) dH ((counts_old aa).1 hc);have UD:j<t0.size:=by
    obtain⟨z,hz,_⟩:=Option.map_eq_some_iff.1 hj;exact lt_size_of_getElem? hz
   exact⟨j,by rw[g?_old UD];exact hj,hb_app U hb⟩
  ·obtain⟨z,hz,XO⟩:=Option.map_eq_some_iff.1 hg;rcases UC i z hi hz with e|⟨k,hk,e⟩|e
   ·exact absurd (XO.symm.trans e) dH
   ·obtain⟨r,r1,r2,r3,r4⟩:=rel k hk;rcases fW i r with cy|rfl|hgt
    ·exact⟨q,hqg,.trans (.single (.inl ⟨cy,_,by rw[hg,<- XO,e],r3.g⟩)) (Vq k r r3 r1 r2)⟩
    ·exact⟨q,hqg,Vq k i r3 r1 r2⟩
    ·exact absurd hc (r3.after i hgt (by rw[hg,<- XO,e]))
   ·obtain⟨a,ha,_⟩:=hc;obtain⟨y,hy,hya⟩:=touch_of ha;rw[hz] at hy;cases hy;rw[e] at hya;cases hya
theorem TI.begin{t0:Trace}{B:Nat}(h0:t0.size=T.T0)(hP:Past T.Shun B t0){own:Nat->Nat->Prop}:TI T {j:=0,own:=own,cl:=fun _=>none,rc:=fun _ _=>False} t0:=by
 refine⟨aa,fun x hx i hi a ha hm=>?_,fun i z a hi hz=>?_,fun i k hr=>hr.elim,fun k p hp=>(by cases hp),hP.clean⟩
 ·rcases hx with rfl|⟨i',ma,_⟩
  ·exact hP.known i a ha hm
  ·exact absurd ma (dZ _)
 ·have:=lt_size_of_getElem? hz;omega
end
section
open Go.ConcR (KK wgBlock WgAt stA smA rd wr mk)
structure cW(T:dm)(i:Nat)(o rc:Nat->Prop)(w w1:ae):Prop where
 size:w.heap.size<=w1.heap.size
 own:∀b,o b->w1.heap[b]?=w.heap[b]?
 ro:∀b,b<T.H0->b≠T.Wg->¬T.Sh b->(∀k,k<T.n->b≠T.ch k)->w1.heap[b]?=w.heap[b]?
 sh:∀b cs ty fz,T.Sh b->w.heap[b]?=some (.cells cs ty fz)->∃tx,w1.heap[b]?=some (.cells tx ty fz)/\tx.size=cs.size
 mine:∀a,(T.jW i (.cell a)\/∃k,rc k/\T.jW k (.cell a))->w1.cell? a=w.cell? a
 chan:∀k s r tm c,k<T.n->w.heap[T.ch k]?=some (.chan 0 #[] c s r tm)->∃c1,w1.heap[T.ch k]?=some (.chan 0 #[] c1 s r tm)/\(c=true->c1=true)
 Cb:w1.heap[T.ch i]?=w.heap[T.ch i]?
 wg:WgLive T.ty T.Wg w->WgLive T.ty T.Wg w1
 os:w1.os=w.os
 output:w1.output=w.output
structure Lr(T:dm)(i:Nat)(o:Nat->Prop)(w w':ae):Prop where
 size:w.heap.size<=w'.heap.size
 rest:∀b,b<w.heap.size->¬o b->¬T.Sh b->w'.heap[b]?=w.heap[b]?
 sh:∀b cs ty fz,T.Sh b->w.heap[b]?=some (.cells cs ty fz)->∃tx,w'.heap[b]?=some (.cells tx ty fz)/\tx.size=cs.size
 cells:∀a,T.Sh a.block->¬T.jW i (.cell a)->w'.cell? a=w.cell? a
 os:w'.os=w.os
 output:w'.output=w.output
structure dL(T:dm)(o:Nat->Prop)(w w1:ae):Prop where
 size:w.heap.size<=w1.heap.size
 own:∀b,o b->w1.heap[b]?=w.heap[b]?
 ro:∀b,b<T.H0->b≠T.Wg->¬T.Sh b->(∀k,k<T.n->b≠T.ch k)->w1.heap[b]?=w.heap[b]?
 wg:WgLive T.ty T.Wg w->WgLive T.ty T.Wg w1
 os:w1.os=w.os
 output:w1.output=w.output
structure O5(T:dm)(o:Nat->Prop)(w w':ae):Prop where
 size:w.heap.size<=w'.heap.size
 rest:∀b,b<w.heap.size->¬o b->w'.heap[b]?=w.heap[b]?
 os:w'.os=w.os
 output:w'.output=w.output
def Np(T:dm)(i:Nat)(o rc:Nat->Prop)(e:Event):Prop :=
 (∀a,(MemAct.ofEvent e).touch?=some a->a.loc.isMemory=true->(∃b,o b/\Im a.loc b)\/T.jW i a.loc\/(∃k,rc k/\T.jW k a.loc/\a.write=false)\/(T.RO a.loc/\a.write=false))
 /\ e.loc≠.mark .disable/\e.loc≠.mark .enable/\(∀x,e.loc≠.mark (.release x))
def EvS(T:dm)(o:Nat->Prop)(e:Event):Prop :=
 (∀a,(MemAct.ofEvent e).touch?=some a->a.loc.isMemory=true->(tW (fun b=>b=T.Wg) a.loc/\a.kind≠.plain)\/(∃b,o b/\Im a.loc b)\/(T.RO a.loc/\a.write=false))
 /\ e.loc≠.mark .disable/\e.loc≠.mark .enable/\(∀x,e.loc≠.mark (.release x))
def grow(o:Nat->Prop)(w w':ae):Nat->Prop:=fun b=>o b\/(w.heap.size<=b/\b<w'.heap.size)
section
variable {T:dm} {i:Nat} {o rc:Nat->Prop} {w w1 w2:ae}
theorem cW.refl(w:ae):cW T i o rc w w:=⟨ag _,fun _ _=>rfl,fun _ _ _ _ _=>rfl,fun b cs ty fz _ h=>⟨cs,h,rfl⟩,fun _ _=>rfl,fun k s r tm c _ h=>⟨c,h,id⟩,rfl,id,rfl,rfl⟩
theorem cW.trans(h:cW T i o rc w w1)(k:cW T i o rc w1 w2):cW T i o rc w w2:=by
 refine⟨aW h.size k.size,fun b hb=>(k.own b hb).trans (h.own b hb),fun b a1 a2 a3 a4=>(k.ro b a1 a2 a3 a4).trans (h.ro b a1 a2 a3 a4),fun b cs ty fz hb hh=>?_,fun a ha=>(k.mine a ha).trans (h.mine a ha),fun j s r tm c hj hh=>?_,k.Cb.trans h.Cb,fun x=>k.wg (h.wg x),k.os.trans h.os,k.output.trans h.output⟩
 ·obtain⟨c1,e1,e2⟩:=h.sh b cs ty fz hb hh;obtain⟨c2,e3,e4⟩:=k.sh b c1 ty fz hb e1;exact⟨c2,e3,e4.trans e2⟩
 ·obtain⟨c1,e1,e2⟩:=h.chan j s r tm c hj hh;obtain⟨c2,e3,e4⟩:=k.chan j s r tm c1 hj e1;exact⟨c2,e3,fun x=>e4 (e2 x)⟩
theorem cW.at(w:ae)(d:Nat):cW T i o rc w (w.at d):=⟨ag _,fun _ _=>rfl,fun _ _ _ _ _=>rfl,fun b cs ty fz _ h=>⟨cs,h,rfl⟩,fun _ _=>rfl,fun k s r tm c _ h=>⟨c,h,id⟩,rfl,id,rfl,rfl⟩
theorem dL.refl(w:ae):dL T o w w:=⟨ag _,fun _ _=>rfl,fun _ _ _ _ _=>rfl,id,rfl,rfl⟩
theorem dL.trans(h:dL T o w w1)(k:dL T o w1 w2):dL T o w w2 :=
 ⟨aW h.size k.size,fun b hb=>(k.own b hb).trans (h.own b hb),fun b a1 a2 a3 a4=>(k.ro b a1 a2 a3 a4).trans (h.ro b a1 a2 a3 a4),fun x=>k.wg (h.wg x),k.os.trans h.os,k.output.trans h.output⟩
theorem dL.at(w:ae)(d:Nat):dL T o w (w.at d):=⟨ag _,fun _ _=>rfl,fun _ _ _ _ _=>rfl,id,rfl,rfl⟩
theorem gu{w w':ae}(e:w'.heap[T.Wg]?=w.heap[T.Wg]?)(h:WgLive T.ty T.Wg w):WgLive T.ty T.Wg w':=by
 obtain⟨st,sm,hl⟩:=h;exact⟨st,sm,by unfold WgAt at hl |-;rw[e];exact hl⟩
theorem cell_of{w w':ae}{a:Addr}(e:w'.heap[a.block]?=w.heap[a.block]?):w'.cell? a=w.cell? a:=by simp[World.cell?,e]
structure qD(T:dm)(j:Nat)(w w':ae):Prop where
 DJ:∀b cs ty fz,T.Sh b->w.heap[b]?=some (.cells cs ty fz)->∃tx,w'.heap[b]?=some (.cells tx ty fz)/\tx.size=cs.size
 idle:∀k a,j<=k->T.jW k (.cell a)->w'.cell? a=w.cell? a
theorem qD.refl{j:Nat}(w:ae):qD T j w w:=⟨fun b cs ty fz _ h=>⟨cs,h,rfl⟩,fun _ _ _ _=>rfl⟩
theorem qD.trans{j:Nat}{w w1 w2:ae}(h:qD T j w w1)(k:qD T j w1 w2):qD T j w w2:=by
 refine⟨fun b cs ty fz hb hh=>?_,fun i a hi ha=>(k.idle i a hi ha).trans (h.idle i a hi ha)⟩;obtain⟨c1,e1,e2⟩:=h.DJ b cs ty fz hb hh;obtain⟨c2,e3,e4⟩:=k.DJ b c1 ty fz hb e1;exact⟨c2,e3,e4.trans e2⟩
theorem qD.mono{j j':Nat}{w w1:ae}(h:qD T j w w1)(hj:j<=j'):qD T j' w w1:=⟨h.DJ,fun i a hi ha=>h.idle i a (aW hj hi) ha⟩
theorem qD.Cc(hT:T.OK){j:Nat}{w w1:ae}(h:∀b,T.Sh b->w1.heap[b]?=w.heap[b]?):qD T j w w1:=by
 refine⟨fun b cs ty fz hb hx=>⟨cs,by rw[h b hb];exact hx,rfl⟩,fun k a _ ha=>?_⟩;obtain⟨a',e,hs⟩:=hT.ownSh k _ ha;cases e;exact cell_of (h _ hs)
theorem Lr.keep(hT:T.OK){j:Nat}(h:Lr T i o w w1)(hi:i<j):qD T j w w1:=by
 refine⟨h.sh,fun k a hk ha=>?_⟩;obtain⟨a',e,hs⟩:=hT.ownSh k _ ha;cases e;exact h.cells a hs fun hx=>by have:=hT.apart _ _ _ ha hx;omega
theorem Lr.Cd(hT:T.OK){j:Nat}{oj UE:Nat->Prop}(h:Lr T i o w w1)(hj:j≠i)(tD:j<T.n)(hH:T.H0<=w.heap.size)(ho:∀b,o b->T.H0<=b)(hoj:∀b,oj b->T.H0<=b/\b<w.heap.size/\¬o b)(Gq:¬UE i):cW T j oj UE w w1:=by
 have nsh:∀b,T.H0<=b->¬T.Sh b:=fun b hb hs=>by have:=(hT.sh b hs).1;omega
 have no:∀b,b<T.H0->¬o b:=fun b hb hs=>by have:=ho b hs;omega
 have pv:∀k,k<T.n->w1.heap[T.ch k]?=w.heap[T.ch k]?:=fun k hk=>h.rest _ (by have:=(hT.ch k hk).1;omega) (no _ (hT.ch k hk).1) (fun hs=>(hT.sh _ hs).2.2 k hk rfl);refine⟨h.size,fun b hb=>h.rest b (hoj b hb).2.1 (hoj b hb).2.2 (nsh b (hoj b hb).1),fun b h1 _ h3 _=>h.rest b aa (no b h1) h3,h.sh,fun a ha=>?_,fun k s r tm c hk hh=>⟨c,by rw[pv k hk];exact hh,id⟩,pv j tD,gu (h.rest _ (by have:=hT.wg;omega) (no _ hT.wg) (fun hs=>(hT.sh _ hs).2.1 rfl)),h.os,h.output⟩;have key:∀k,k≠i->T.jW k (.cell a)->w1.cell? a=w.cell? a:=by
  intro k hk fq;obtain⟨a',e,hs⟩:=hT.ownSh k _ fq;cases e;exact h.cells a hs fun hi=>hk (hT.apart _ _ _ fq hi)
 rcases ha with ha|⟨k,hk,ha⟩
 ·exact key j hj ha
 ·exact key k (fun e=>Gq (e▸hk)) ha
theorem Lr.Ls(hT:T.OK){o0:Nat->Prop}(h:Lr T i o w w1)(hH:T.H0<=w.heap.size)(ho:∀b,o b->T.H0<=b)(UF:∀b,o0 b->T.H0<=b/\b<w.heap.size/\¬o b):dL T o0 w w1:=by
 have nsh:∀b,T.H0<=b->¬T.Sh b:=fun b hb hs=>by have:=(hT.sh b hs).1;omega
 have no:∀b,b<T.H0->¬o b:=fun b hb hs=>by have:=ho b hs;omega
 exact⟨h.size,fun b hb=>h.rest b (UF b hb).2.1 (UF b hb).2.2 (nsh b (UF b hb).1),fun b h1 _ h3 _=>h.rest b aa (no b h1) h3,gu (h.rest _ (by have:=hT.wg;omega) (no _ hT.wg) (fun hs=>(hT.sh _ hs).2.1 rfl)),h.os,h.output⟩
theorem O5.Cd(hT:T.OK){o0:Nat->Prop}(h:O5 T o0 w w1)(hi:i<T.n)(hH:T.H0<=w.heap.size)(UF:∀b,o0 b->T.H0<=b)(ho:∀b,o b->T.H0<=b/\b<w.heap.size/\¬o0 b):cW T i o rc w w1:=by
 have old:∀b,b<T.H0->w1.heap[b]?=w.heap[b]?:=fun b hb=>h.rest b aa (fun hs=>by have:=UF b hs;omega);have pv:∀k,k<T.n->w1.heap[T.ch k]?=w.heap[T.ch k]?:=fun k hk=>old _ (hT.ch k hk).1;refine⟨h.size,fun b hb=>h.rest b (ho b hb).2.1 (ho b hb).2.2,fun b h1 _ _ _=>old b h1,fun b cs ty fz hb hh=>⟨cs,by rw[old b (hT.sh b hb).1];exact hh,rfl⟩,fun a ha=>?_,fun k s r tm c hk hh=>⟨c,by rw[pv k hk];exact hh,id⟩,pv i hi,gu (old _ hT.wg),h.os,h.output⟩;have key:∀k,T.jW k (.cell a)->w1.cell? a=w.cell? a:=by
  intro k fq;obtain⟨a',e,hs⟩:=hT.ownSh k _ fq;cases e;exact cell_of (old _ (hT.sh _ hs).1)
 rcases ha with ha|⟨k,_,ha⟩
 ·exact key i ha
 ·exact key k ha
theorem Nq(hT:T.OK)(hi:i<T.n)(ho:∀b,o b->T.H0<=b)(h:Aside T.Wg w w1)(hl:WgLive T.ty T.Wg w1):cW T i o rc w w1:=by
 have pv:∀k,k<T.n->w1.heap[T.ch k]?=w.heap[T.ch k]?:=fun k hk=>h.block _ (hT.ch k hk).2;refine⟨bG h.size.symm,fun b hb=>h.block b (by have:=ho b hb;have:=hT.wg;omega),fun b _ h2 _ _=>h.block b h2,fun b cs ty fz hb hh=>⟨cs,by rw[h.block b (hT.sh b hb).2.1];exact hh,rfl⟩,fun a ha=>?_,fun k s r tm c hk hh=>⟨c,by rw[pv k hk];exact hh,id⟩,pv i hi,fun _=>hl,h.os,h.output⟩;have key:∀k,T.jW k (.cell a)->w1.cell? a=w.cell? a:=by
  intro k fq;obtain⟨a',e,hs⟩:=hT.ownSh k _ fq;cases e;exact cell_of (h.block _ (hT.sh _ hs).2.1)
 rcases ha with ha|⟨k,_,ha⟩
 ·exact key i ha
 ·exact key k ha
theorem xR(hT:T.OK)(ho:∀b,o b->T.H0<=b)(h:Aside T.Wg w w1)(hl:WgLive T.ty T.Wg w1):dL T o w w1 :=
 ⟨bG h.size.symm,fun b hb=>h.block b (by have:=ho b hb;have:=hT.wg;omega),fun b _ h2 _ _=>h.block b h2,fun _=>hl,h.os,h.output⟩
theorem pE(w:ae)(c:Nat)(s r:Nat)(tm:Bool)(b:Nat)(hb:b≠c):(w.setChan c 0 #[] true s r tm).heap[b]?=w.heap[b]?:=by
 simp only[World.setChan];rw[aS (bp hb)]
theorem Lt(hT:T.OK){j:Nat}(hj:j<T.n)(Bd:j≠i)(hi:i<T.n)(ho:∀b,o b->T.H0<=b){s r:Nat}{tm:Bool}(hc:w.heap[T.ch i]?=some (.chan 0 #[] false s r tm)):cW T j o rc w (w.setChan (T.ch i) 0 #[] true s r tm):=by
 have hh:=pE w (T.ch i) s r tm;have cy:T.ch i<w.heap.size:=(Array.getElem?_eq_some_iff.1 hc).1;refine⟨by simp[World.setChan],fun b hb=>hh b (by have:=ho b hb;have:=(hT.ch i hi).1;omega),fun b _ _ _ h4=>hh b (h4 i hi),fun b cs ty fz hb hx=>⟨cs,by rw[hh b (bp ((hT.sh b hb).2.2 i hi))];exact hx,rfl⟩,fun a ha=>?_,fun k s' r' tm' c hk hx=>?_,hh _ (fun e=>Bd (hT.xP _ _ hj hi e)),gu (hh _ (bp (hT.ch i hi).2)),rfl,rfl⟩
 ·have key:∀k,T.jW k (.cell a)->(w.setChan (T.ch i) 0 #[] true s r tm).cell? a=w.cell? a:=by
   intro k fq;obtain⟨a',e,hs⟩:=hT.ownSh k _ fq;cases e;exact cell_of (hh _ (bp ((hT.sh _ hs).2.2 i hi)))
  rcases ha with ha|⟨k,_,ha⟩
  ·exact key j ha
  ·exact key k ha
 ·by_cases e:k=i
  ·subst e;rw[hc] at hx;cases hx;exact⟨true,by simp[World.setChan,cy],fun x=>rfl⟩
  ·exact⟨c,by rw[hh _ (fun x=>e (hT.xP _ _ hk hi x))];exact hx,id⟩
theorem Ce(hT:T.OK)(hi:i<T.n)(ho:∀b,o b->T.H0<=b){s r:Nat}{tm:Bool}:dL T o w (w.setChan (T.ch i) 0 #[] true s r tm):=by
 have hh:=pE w (T.ch i) s r tm;exact⟨by simp[World.setChan],fun b hb=>hh b (by have:=ho b hb;have:=(hT.ch i hi).1;omega),fun b _ _ _ h4=>hh b (h4 i hi),gu (hh _ (bp (hT.ch i hi).2)),rfl,rfl⟩
end
structure KL where
 g:aX
 o:Nat->Prop
 rc:Nat->Prop
 w:ae
def D7(P:Program)(T:dm)(i:Nat)(V:Nat->ae->Prop)(E:bK)(X:KL->Prop)(x:KL):Prop :=
 x.g.status=.running /\
 ((∀w1,cW T i x.o x.rc x.w w1->∃g' w' es,stepG P false x.g w1=.go g' w' es/\Lr T i x.o w1 w'/\(∀e∈es,Np T i (grow x.o w1 w') x.rc e)/\X ⟨g',grow x.o w1 w',x.rc,w'⟩)
 \/ (∃k z f,T.dep i k/\(∀w1,cW T i x.o x.rc x.w w1->stepG P false x.g w1=.comm x.g #[rcase (T.ch k) z] true (.recv f) w1 #[]) /\
   (∀w1,cW T i x.o x.rc x.w w1->V k w1->X ⟨Go.Conc.served x.g (recvd f z false),x.o,fun b=>x.rc b\/b=k,w1⟩))
 \/ (mayWake P x.g=true/\∀w1,cW T i x.o x.rc x.w w1->∀s r tm,w1.heap[T.ch i]?=some (.chan 0 #[] false s r tm) ->
   ∃g',stepG P false x.g w1=.go g' (w1.setChan (T.ch i) 0 #[] true s r tm) (gL (T.ch i))/\g'.status=.running/\V i w1/\E x.o g' (w1.setChan (T.ch i) 0 #[] true s r tm)))
def gO(P:Program)(T:dm)(i:Nat)(V:Nat->ae->Prop)(E:bK)(x:KL):Prop :=
 ∀X:KL->Prop,(∀x,D7 P T i V E X x->X x)->X x
section
variable {P:Program} {T:dm} {i:Nat} {V:Nat->ae->Prop} {E:bK}
theorem D7.mono{X Y:KL->Prop}(h:∀x,X x->Y x){x:KL}(hx:D7 P T i V E X x):D7 P T i V E Y x:=by
 obtain⟨hr,h1|⟨k,z,f,h1,h2,h3⟩|h1⟩:=hx
 ·refine⟨hr,.inl fun w1 hw=>?_⟩;obtain⟨g',w',es,e1,e2,e3,e4⟩:=h1 w1 hw;exact⟨g',w',es,e1,e2,e3,h _ e4⟩
 ·exact⟨hr,.inr (.inl ⟨k,z,f,h1,h2,fun w1 hw hv=>h _ (h3 w1 hw hv)⟩)⟩
 ·exact⟨hr,.inr (.inr h1)⟩
theorem D7.rely{X:KL->Prop}{x:KL}(hx:D7 P T i V E X x){w1:ae}(hr:cW T i x.o x.rc x.w w1):D7 P T i V E X ⟨x.g,x.o,x.rc,w1⟩:=by
 obtain⟨hs,h1|⟨k,z,f,h1,h2,h3⟩|⟨hm,h1⟩⟩:=hx
 ·exact⟨hs,.inl fun w2 hw=>h1 w2 (hr.trans hw)⟩
 ·exact⟨hs,.inr (.inl ⟨k,z,f,h1,fun w2 hw=>h2 w2 (hr.trans hw),fun w2 hw hv=>h3 w2 (hr.trans hw) hv⟩)⟩
 ·exact⟨hs,.inr (.inr ⟨hm,fun w2 hw=>h1 w2 (hr.trans hw)⟩)⟩
theorem gO.intro{x:KL}(h:D7 P T i V E (gO P T i V E) x):gO P T i V E x:=fun X hX=>hX x (h.mono fun y hy=>hy X hX)
theorem gO.look{x:KL}(h:gO P T i V E x):D7 P T i V E (gO P T i V E) x :=
 (h (fun x=>gO P T i V E x/\D7 P T i V E (gO P T i V E) x) fun x hx=>⟨.intro (hx.mono fun _ hy=>hy.1),hx.mono fun _ hy=>hy.1⟩).2
theorem gO.rely{x:KL}(h:gO P T i V E x){w1:ae}(hr:cW T i x.o x.rc x.w w1):gO P T i V E ⟨x.g,x.o,x.rc,w1⟩:=.intro (h.look.rely hr)
def Al(P:Program)(T:dm)(i:Nat)(V:Nat->ae->Prop)(y x:KL):Prop :=
 (∃w1 es s r tm,cW T i x.o x.rc x.w w1/\stepG P false x.g w1=.go y.g y.w es/\y.o=grow x.o w1 y.w/\y.rc=x.rc/\w1.heap[T.ch i]?=some (.chan 0 #[] false s r tm)/\y.w.heap[T.ch i]?=w1.heap[T.ch i]?)
 \/ (∃k z f,T.dep i k/\cW T i x.o x.rc x.w y.w/\V k y.w/\stepG P false x.g y.w=.comm x.g #[rcase (T.ch k) z] true (.recv f) y.w #[]/\y.g=Go.Conc.served x.g (recvd f z false)/\y.o=x.o/\(y.rc=fun b=>x.rc b\/b=k)/\∃s r tm,y.w.heap[T.ch i]?=some (.chan 0 #[] false s r tm))
theorem gO.acc(hT:T.OK)(hi:i<T.n){x:KL}(h:gO P T i V E x):Acc (Al P T i V) x:=by
 refine h (fun x=>Acc (Al P T i V) x) fun x hx=>Acc.intro x fun y hy=>?_;obtain⟨hs,h1|⟨k,z,f,h1,h2,h3⟩|⟨hm,h1⟩⟩:=hx
 ·rcases hy with⟨w1,es,s,r,tm,r1,r2,r3,r4,r5,r6⟩|⟨k,z,f,r0,r1,r2,r3,_⟩
  ·obtain⟨g',w',lY,e1,e2,e3,e4⟩:=h1 w1 r1;rw[r2] at e1;cases e1;have:y=⟨y.g,grow x.o w1 y.w,x.rc,y.w⟩:=by rw[<- r3,<- r4]
   rw[this];exact e4
  ·obtain⟨g',w',lY,e1,_⟩:=h1 y.w r1;rw[r3] at e1;cases e1
 ·rcases hy with⟨w1,es,s,r,tm,r1,r2,_⟩|⟨k',z',f',r0,r1,r2,r3,r4,r5,r6,_⟩
  ·have:=h2 w1 r1;rw[r2] at this;cases this
  ·have e:=h2 y.w r1;rw[r3] at e;simp only[GStep.comm.injEq,Array.mk.injEq,cv,rcase,CommCase.mk.injEq,Value.chan.injEq,ay,and_true,true_and,CommShape.recv.injEq] at e;obtain⟨⟨e1,e2⟩,e3⟩:=e;have lP:=hT.dep i k' hi r0;have hk:=hT.dep i k hi h1;obtain rfl:=hT.xP k' k aa aa e1;subst e2 e3;have:=h3 y.w r1 r2;have ey:y=⟨Go.Conc.served x.g (recvd f' z' false),x.o,fun b=>x.rc b\/b=k',y.w⟩:=by rw[<- r4,<- r5,<- r6]
   rw[ey];exact this
 ·rcases hy with⟨w1,es,s,r,tm,r1,r2,r3,r4,r5,r6⟩|⟨k,z,f,r0,r1,r2,r3,ach⟩
  ·exfalso;obtain⟨g',e1,_⟩:=h1 w1 r1 s r tm r5;rw[r2] at e1;simp only[GStep.go.injEq] at e1;have cy:T.ch i<w1.heap.size:=(Array.getElem?_eq_some_iff.1 r5).1;rw[e1.2.1,r5] at r6;simp[World.setChan,cy] at r6
  ·exfalso;obtain⟨_,_,_,s,r,tm,hc⟩:=ach;obtain⟨g',e1,_⟩:=h1 y.w r1 s r tm hc;rw[r3] at e1;cases e1
end
end
section
open Go.ConcR (KK wgBlock WgAt stA smA rd wr mk)
section
variable {α β:Type} (r le:α->α->Prop) (r0:β->β->Prop) (N:Nat)
def Ends(x:Nat×(Nat->α)×β):Prop:=(∀i,i<N->Acc r (x.2.1 i))/\Acc r0 x.2.2
def LT3(y x:Nat×(Nat->α)×β):Prop :=
 Ends r r0 N y/\(y.1<x.1\/(y.1=x.1/\Il r le N y.2.1 x.2.1)\/(y.1=x.1/\(∀i,i<N->le (y.2.1 i) (x.2.1 i))/\r0 y.2.2 x.2.2))
variable {r le r0 N}
theorem O6(rf:∀a,le a a)(tr:∀a b c,le a b->le b c->le a c)(hle:∀a b c,le b a->r c b->r c a):∀x,Ends r r0 N x->Acc (LT3 r le r0 N) x:=by
 have main:∀n,∀x:Nat×(Nat->α)×β,x.1=n->Ends r r0 N x->Acc (LT3 r le r0 N) x:=by
  intro n
  induction n using Nat.strongRecOn with
  |ind n ih =>
  have key:∀v:Nat->α,Acc (Il r le N) v->∀b:β,Acc r0 b->∀xs:Nat->α,(∀i,i<N->le (xs i) (v i))->Acc (LT3 r le r0 N) (n,xs,b):=by
   intro v hv
   induction hv with
   |intro v xl ihv =>
   intro b hb
   induction hb with
   |intro b nn ihb =>
   intro xs hxs;refine Acc.intro _ fun y hy=>?_;obtain⟨hE,h1|⟨h1,i,hi,hr,ho⟩|⟨h1,h2,h3⟩⟩:=hy
   ·exact ih y.1 h1 y rfl hE
   ·have:=ihv y.2.1 ⟨i,hi,hle _ _ _ (hxs i hi) hr,fun j hj Bd=>tr _ _ _ (ho j hj Bd) (hxs j hj)⟩ y.2.2 hE.2 y.2.1 (fun _ _=>rf _);have e:y=(n,y.2.1,y.2.2):=by rw[<- show y.1=n from h1]
    rw[e];exact this
   ·have:=ihb y.2.2 h3 y.2.1 (fun j hj=>tr _ _ _ (h2 j hj) (hxs j hj));have e:y=(n,y.2.1,y.2.2):=by rw[<- show y.1=n from h1]
    rw[e];exact this
  intro x hx hE;have e:x=(n,x.2.1,x.2.2):=by rw[<- hx]
  rw[e];exact key x.2.1 (Rx rf tr hle N x.2.1 hE.1) x.2.2 hE.2 x.2.1 (fun _ _=>rf _)
 exact fun x hE=>main x.1 x rfl hE
end
abbrev lJ:=(Nat×KL×Bool) ⊕ Nat
def nz(P:Program)(T:dm)(V:Nat->ae->Prop):lJ->lJ->Prop
 | .inl (i',y,tb),.inl (i,x,ta)=>i'=i/\(Al P T i V y x\/(ta=false/\tb=true/\y.g=x.g/\y.o=x.o/\y.rc=x.rc/\cW T i x.o x.rc x.w y.w))
 | .inr m',.inr m=>m'<m
 |_,_=>False
def iT(T:dm):lJ->lJ->Prop
 | .inl (i',y,tb),.inl (i,x,ta)=>i'=i/\tb=ta/\y.g=x.g/\y.o=x.o/\y.rc=x.rc/\cW T i x.o x.rc x.w y.w
 | .inr m',.inr m=>m'=m
 |_,_=>False
section
variable {P:Program} {T:dm} {V:Nat->ae->Prop}
theorem iT.refl:∀a:lJ,iT T a a
 | .inl (i,x,t)=>⟨rfl,rfl,rfl,rfl,rfl,cW.refl _⟩
 | .inr m=>rfl
theorem iT.trans:∀a b c:lJ,iT T a b->iT T b c->iT T a c
 | .inl (i1,x1,t1),.inl (i2,x2,t2),.inl (i3,x3,t3),h,k=>by
  obtain⟨rfl,rfl,h3,h4,h5,h6⟩:=h;obtain⟨rfl,rfl,k3,k4,k5,k6⟩:=k;refine⟨rfl,rfl,h3.trans k3,h4.trans k4,h5.trans k5,?_⟩;rw[k4,k5] at h6;exact k6.trans h6
 | .inr m,.inr m',.inr m'',h,k=>Eq.trans h k
 | .inl _,.inr _,_,h,_=>h.elim
 | .inr _,.inl _,_,h,_=>h.elim
 | .inl _,.inl _,.inr _,_,k=>k.elim
 | .inr _,.inr _,.inl _,_,k=>k.elim
theorem Al.back{i:Nat}{z y x:KL}(h:Al P T i V z y)(e1:y.g=x.g)(e2:y.o=x.o)(e3:y.rc=x.rc)(hr:cW T i x.o x.rc x.w y.w):Al P T i V z x:=by
 rcases h with⟨w1,es,s,r,tm,r1,r2,r3,r4,r5⟩|⟨k,z',f,r0,r1,r2,r3,r4,r5,r6,r7⟩
 ·rw[e2,e3] at r1;rw[e1] at r2;rw[e2] at r3;rw[e3] at r4;exact .inl ⟨w1,es,s,r,tm,hr.trans r1,r2,r3,r4,r5⟩
 ·rw[e2,e3] at r1;rw[e1] at r3 r4;rw[e2] at r5;rw[e3] at r6;exact .inr ⟨k,z',f,r0,hr.trans r1,r2,r3,r4,r5,r6,r7⟩
theorem nz.back:∀a b c:lJ,iT T b a->nz P T V c b->nz P T V c a
 | .inl (i1,x1,t1),.inl (i2,x2,t2),.inl (i3,x3,t3),h,k=>by
  obtain⟨rfl,rfl,h3,h4,h5,h6⟩:=h;obtain⟨rfl,k⟩:=k;refine⟨rfl,?_⟩;rcases k with k|⟨k1,k2,k3,k4,k5,k6⟩
  ·exact .inl (k.back h3 h4 h5 h6)
  ·rw[h4,h5] at k6;exact .inr ⟨k1,k2,k3.trans h3,k4.trans h4,k5.trans h5,h6.trans k6⟩
 | .inr m,.inr m',.inr m'',h,k=>by
  have h:m'=m:=h;subst h;exact k
 | .inl _,.inr _,_,h,_=>h.elim
 | .inr _,.inl _,_,h,_=>h.elim
 | .inl _,.inl _,.inr _,_,k=>k.elim
 | .inr _,.inr _,.inl _,_,k=>k.elim
theorem Vs{i:Nat}{x:KL}(h:Acc (Al P T i V) x):∀t,Acc (nz P T V) (.inl (i,x,t)):=by
 have aci:∀x,(∀y,Al P T i V y x->∀t,Acc (nz P T V) (.inl (i,y,t)))->Acc (nz P T V) (.inl (i,x,true)):=by
  intro x hx;refine Acc.intro _ fun y hy=>?_;rcases y with⟨i',y,tb⟩|m
  ·obtain⟨rfl,h1⟩:=hy;rcases h1 with h1|⟨h1,_⟩
   ·exact hx y h1 tb
   ·cases h1
  ·exact hy.elim
 induction h with
 |intro x hx ih =>
  intro t;refine Acc.intro _ fun y hy=>?_;rcases y with⟨i',y,tb⟩|m
  ·obtain⟨rfl,h1⟩:=hy;rcases h1 with h1|⟨_,rfl,k3,k4,k5,k6⟩
   ·exact ih y h1 tb
   ·exact aci y fun z hz=>ih z (hz.back k3 k4 k5 k6)
  ·exact hy.elim
theorem Be(m:Nat):Acc (nz P T V) (.inr m):=by
 induction m using Nat.strongRecOn with
 |ind m ih =>
  refine Acc.intro _ fun y hy=>?_;rcases y with y|m'
  ·obtain⟨i',y,tb⟩:=y;exact hy.elim
  ·exact ih m' hy
end
structure SAt where
 g:aX
 o:Nat->Prop
 w:ae
abbrev eQ:=bK
def di(P:Program)(T:dm)(Stop:eQ)(o:Nat->Prop)(g:aX)(w:ae):Prop :=
 ∀X:bK,(∀o g w,(∀w1,dL T o w w1->Stop o g w1)->X o g w) ->
  (∀o g w,g.status=.running->(∀w1,dL T o w w1->∃g' w' es,stepG P true g w1=.go g' w' es/\O5 T o w1 w'/\(∀e∈es,EvS T (grow o w1 w') e)/\X (grow o w1 w') g' w')->X o g w)->X o g w
section
variable {P:Program} {T:dm} {Stop:eQ}
theorem di.stop{o:Nat->Prop}{g:aX}{w:ae}(h:∀w1,dL T o w w1->Stop o g w1):di P T Stop o g w:=fun X h1 _=>h1 o g w h
theorem di.step{o:Nat->Prop}{g:aX}{w:ae}(hs:g.status=.running)(h:∀w1,dL T o w w1->∃g' w' es,stepG P true g w1=.go g' w' es/\O5 T o w1 w'/\(∀e∈es,EvS T (grow o w1 w') e)/\di P T Stop (grow o w1 w') g' w'):di P T Stop o g w:=by
 intro X h1 h2;refine h2 o g w hs fun w1 hw=>?_;obtain⟨g',w',es,e1,e2,e3,e4⟩:=h w1 hw;exact⟨g',w',es,e1,e2,e3,e4 X h1 h2⟩
theorem di.look{o:Nat->Prop}{g:aX}{w:ae}(h:di P T Stop o g w):(∀w1,dL T o w w1->Stop o g w1)\/(g.status=.running/\∀w1,dL T o w w1->∃g' w' es,stepG P true g w1=.go g' w' es/\O5 T o w1 w'/\(∀e∈es,EvS T (grow o w1 w') e)/\di P T Stop (grow o w1 w') g' w'):=by
 refine(h (fun o g w=>di P T Stop o g w/\((∀w1,dL T o w w1->Stop o g w1)\/(g.status=.running/\∀w1,dL T o w w1->∃g' w' es,stepG P true g w1=.go g' w' es/\O5 T o w1 w'/\(∀e∈es,EvS T (grow o w1 w') e)/\di P T Stop (grow o w1 w') g' w'))) ?_ ?_).2
 ·intro o g w h;exact⟨.stop h,.inl h⟩
 ·intro o g w hs h;have h':∀w1,dL T o w w1->∃g' w' es,stepG P true g w1=.go g' w' es/\O5 T o w1 w'/\(∀e∈es,EvS T (grow o w1 w') e)/\di P T Stop (grow o w1 w') g' w':=fun w1 hw=>let ⟨g',w',es,a,b,c,d⟩:=h w1 hw;⟨g',w',es,a,b,c,d.1⟩;exact⟨.step hs h',.inr ⟨hs,h'⟩⟩
theorem di.rely{o:Nat->Prop}{g:aX}{w w1:ae}(h:di P T Stop o g w)(hr:dL T o w w1):di P T Stop o g w1:=by
 rcases h.look with h|⟨hs,h⟩
 ·exact .stop fun w2 h2=>h w2 (hr.trans h2)
 ·exact .step hs fun w2 h2=>h w2 (hr.trans h2)
theorem di.mono{Ip:eQ}{o:Nat->Prop}{g:aX}{w:ae}(h:di P T Stop o g w)(hS:∀o g w,Stop o g w->Ip o g w):di P T Ip o g w :=
 h _ (fun o g w h=>.stop fun w1 hw=>hS _ _ _ (h w1 hw)) (fun o g w hs h=>.step hs h)
theorem di.trans{Ip:eQ}{o:Nat->Prop}{g:aX}{w:ae}(h:di P T (fun o g w=>di P T Ip o g w) o g w):di P T Ip o g w :=
 h _ (fun o g w h=>h w (dL.refl w)) (fun o g w hs h=>.step hs h)
theorem di.running{o:Nat->Prop}{g:aX}{w:ae}(h:di P T Stop o g w)(hS:∀o g w,Stop o g w->g.status=.running):g.status=.running:=by
 rcases h.look with h|⟨hs,_⟩
 ·exact hS _ _ _ (h w (dL.refl w))
 ·exact hs
def Nr(P:Program)(T:dm)(Stop:eQ)(y x:SAt):Prop :=
 ¬(∀w1,dL T x.o x.w w1->Stop x.o x.g w1)/\∃w1 es,dL T x.o x.w w1/\stepG P true x.g w1=.go y.g y.w es/\y.o=grow x.o w1 y.w
theorem di.acc{o:Nat->Prop}{g:aX}{w:ae}(h:di P T Stop o g w):Acc (Nr P T Stop) ⟨g,o,w⟩:=by
 refine h (fun o g w=>Acc (Nr P T Stop) ⟨g,o,w⟩) ?_ ?_
 ·intro o g w h;exact Acc.intro _ fun y hy=>absurd h hy.1
 ·intro o g w hs h;refine Acc.intro _ fun y hy=>?_;obtain⟨_,w1,es,hr,eG,ho⟩:=hy;obtain⟨g',w',lY,e1,_,_,e3⟩:=h w1 hr;simp only at eG ho;rw[eG] at e1;cases e1;have e:y=⟨y.g,grow o w1 y.w,y.w⟩:=by rw[<- ho]
  rw[e];exact e3
end
abbrev jG:=(eQ×SAt) ⊕ Nat
def mK(P:Program)(T:dm):jG->jG->Prop
 | .inl (S',y),.inl (S,x)=>S'=S/\Nr P T S y x
 | .inr _,.inl _=>True
 |_,_=>False
theorem Iq{P:Program}{T:dm}(m:Nat):Acc (mK P T) (.inr m):=Acc.intro _ fun y hy=>by
 rcases y with⟨S',y⟩|m'
 ·exact hy.elim
 ·exact hy.elim
theorem RD{P:Program}{T:dm}{S:eQ}{x:SAt}(h:Acc (Nr P T S) x):Acc (mK P T) (.inl (S,x)):=by
 induction h with
 |intro x hx ih =>
  refine Acc.intro _ fun y hy=>?_;rcases y with⟨S',y⟩|m
  ·obtain⟨e,h⟩:=hy;rw[e];exact ih y h
  ·exact Iq m
end
section
open Go.ConcR (KK wgBlock WgAt stA smA rd wr mk Payload)
variable [Payload]
abbrev qU:Nat->Loc->Prop:=fun _ _=>False
section
variable (P:Program) (T:dm) (V:Nat->ae->Prop) (fa:Nat->(Nat->Prop)->ae->Prop) (cO Fin:eQ)
def D8(i:Nat)(o:Nat->Prop)(g:aX)(w:ae):Prop :=
 ∃C v m,o C/\Goes P false (RW T.ty T.Wg C 0 0 (1-1)) (DWs T.Wg qU qU C 0 1) (AtR0 P T.ty T.Wg C 0 0 1 v) m g w/\fa i (fun b=>o b/\b≠C) w
def O7:eQ:=fun o g w=>g.status=.running/\∃g',stepG P true g w=.go g' w #[mk (.acquire (stA T.Wg))]/\Fin o g' w
def XP:eQ:=fun o g w=>g.status=.running/\∃g',stepG P true g w=.go g' w #[mk .enable]/\di P T (O7 P T Fin) o g' w
def SW4:eQ:=fun o g w=>g.status=.running/\(WgAt T.ty T.Wg w 0 0->∃g',stepG P true g w=.go g' w #[rd (stA T.Wg)]/\di P T (XP P T Fin) o g' w)
def Zc:eQ:=fun o g w=>g.status=.running/\g.offers=none /\
 ((∃st,WgAt T.ty T.Wg w st 0)->stepG P true g w=.go {g with status:=.blocked} w #[]) /\
 (WgAt T.ty T.Wg w 0 1->∃g',stepG P true g w=.go g' (w.setCell (smA T.Wg) (.int .u32 0)) (semEvents (smA T.Wg))/\di P T (SW4 P T Fin) o g' (w.setCell (smA T.Wg) (.int .u32 0)))
def SW2(vs:Nat):eQ:=fun o g w=>g.status=.running/\∀v:Nat,v<2147483648->WgAt T.ty T.Wg w (v*KK) 0 ->
 (v=vs->∃g',stepG P true g w=.go g' (w.setCell (stA T.Wg) (.int .u64 (v*KK+1))) #[rd (stA T.Wg),wr (stA T.Wg)]/\di P T (Zc P T Fin) o g' (w.setCell (stA T.Wg) (.int .u64 (v*KK+1)))) /\
 (v≠vs->∃g',stepG P true g w=.go g' w #[rd (stA T.Wg)]/\di P T cO o g' w)
def QZ:eQ:=fun o g w=>g.status=.running/\∀v:Nat,v<2147483648->WgAt T.ty T.Wg w (v*KK) 0 ->
 ∃g',stepG P true g w=.go g' w #[rd (stA T.Wg)]/\(v=0->di P T (XP P T Fin) o g' w)/\(v≠0->di P T (SW2 P T cO Fin v) o g' w)
def Q0:eQ:=fun o g w=>g.status=.running/\∃g',stepG P true g w=.go g' w #[mk .disable]/\di P T cO o g' w
def SGo(j:Nat)(Next:eQ):eQ:=fun o g w=>g.status=.running/\∃g' child hand,stepG P true g w=.spawn g' child w #[]/\(∀b,hand b->o b) /\
 (∀w1,dL T o w w1->T.Idle j w1->gO P T j V (D8 P T fa j) ⟨child,hand,fun _=>False,w1⟩)/\Next (fun b=>o b/\¬hand b) g' w
def Zd(j:Nat)(Next:eQ):eQ:=fun o g w=>g.status=.running/\∃g',stepG P true g w=.go g' w #[mk .enable]/\di P T (SGo P T V fa j Next) o g' w
def SA1(j:Nat)(Next:eQ):eQ:=fun o g w=>g.status=.running/\∀v:Nat,v<2147483647->WgAt T.ty T.Wg w (v*KK) 0 ->
 ∃g',stepG P true g w=.go g' (w.setCell (stA T.Wg) (.int .u64 ((v+1)*KK))) #[rd (stA T.Wg),wr (stA T.Wg)]/\di P T (Zd P T V fa j Next) o g' (w.setCell (stA T.Wg) (.int .u64 ((v+1)*KK)))
def Lu(j:Nat)(Next:eQ):eQ:=fun o g w=>g.status=.running/\∃g',stepG P true g w=.go g' w #[mk .disable]/\di P T (SA1 P T V fa j Next) o g' w
def jb:Nat->eQ
 |0=>di P T (Q0 P T cO)
 |r+1=>di P T (Lu P T V fa (T.n-(r+1)) (jb r))
def kx:CTag->eQ
 | .sp r s=>if s=5 then Lu P T V fa (T.n-(r+1)) (jb P T V fa cO r) else if s=4 then SA1 P T V fa (T.n-(r+1)) (jb P T V fa cO r)
   else if s=3 then Zd P T V fa (T.n-(r+1)) (jb P T V fa cO r) else SGo P T V fa (T.n-(r+1)) (jb P T V fa cO r)
 | .kd=>Q0 P T cO
 | .w1=>QZ P T cO Fin
 | .w2 vs=>SW2 P T cO Fin vs
 | .w3|.blk=>Zc P T Fin
 | .w4=>SW4 P T Fin
 | .ke=>XP P T Fin
 | .acq=>O7 P T Fin
 | .anch|.ret=>fun _ _ _=>False
def mz(n:Nat):CTag->Nat->Nat->Prop
 | .sp r s,j,d=>r<n/\j=n-(r+1)/\((s=5/\d=0)\/(s=4/\d=1)\/(s=3/\d=1)\/(s=2/\d=0))
 | .kd,j,d=>j=n/\d=0
 | .w1,j,d|.w2 _,j,d|.w3,j,d|.blk,j,d|.w4,j,d|.ke,j,d=>j=n/\d=1
 | .acq,j,d=>j=n/\d=0
 | .anch,_,_|.ret,_,_=>False
def jL(tag:CTag)(o:Nat->Prop)(a:aX)(w:ae)(y:jG):Prop :=
 match tag with
 | .blk=>∃a0,a={a0 with status:=.blocked}/\(∀w1,dL T o w w1->Zc P T Fin o a0 w1)/\y=.inr 0
 |tag=>di P T (kx P T V fa cO Fin tag) o a w/\y=.inl (kx P T V fa cO Fin tag,⟨a,o,w⟩)
def KM(i:Nat)(o rc:Nat->Prop)(cl:Nat->Option Nat)(d:WD)(ld:lJ)(g:aX)(w:ae):Prop :=
 (cl i=none/\d.stage=7/\d.deaf=0/\∃g0 tr,ld=.inl (i,⟨g0,o,rc,w⟩,tr)/\gO P T i V (D8 P T fa i) ⟨g0,o,rc,w⟩ /\
  ((g=g0/\tr=false)\/(tr=true/\∃k z f,T.dep i k/\(∀w1,cW T i o rc w w1->stepG P false g0 w1=.comm g0 #[rcase (T.ch k) z] true (.recv f) w1 #[]) /\
   ((g=parked g0 #[rcase (T.ch k) z] (.recv f)/\cl k=none)\/(g={parked g0 #[rcase (T.ch k) z] (.recv f) with status:=.running}/\(cl k).isSome=true)))))
 \/ ((cl i).isSome=true/\ld=.inr d.fuel/\V i w/\∃C v,o C/\WSit P T.ty T.Wg C 0 qU qU 0 1 v d.stage d.fuel d.deaf g w/\fa i (fun b=>o b/\b≠C) w)
end
structure ky(T:dm)(V:Nat->ae->Prop)(fa:Nat->(Nat->Prop)->ae->Prop):Prop where
 v:∀k w w1,(∀a,T.jW k (.cell a)->w1.cell? a=w.cell? a)->V k w->V k w1
 val:∀k o w w1,(∀a,T.jW k (.cell a)->w1.cell? a=w.cell? a)->(∀b,o b->w1.heap[b]?=w.heap[b]?)->fa k o w->fa k o w1
section
variable {P:Program} {T:dm} {V:Nat->ae->Prop} {fa:Nat->(Nat->Prop)->ae->Prop} {cO Fin:eQ}
theorem cW.rw{i:Nat}{o rc:Nat->Prop}{w w1:ae}(h:cW T i o rc w w1){C:Nat}(hC:o C):RW T.ty T.Wg C 0 0 (1-1) w w1 :=
 ⟨fun b hb=>absurd hb (dZ _),h.wg,fun⟨cs,h1,h2⟩=>⟨cs,(h.own C hC).trans h1,h2⟩,cell_of_block (h.own C hC) 0⟩
theorem xS{g0:aX}{c:Nat}{z:Value}{f:Bool}{w:ae}{s r:Nat}{tm b:Bool}(hc:w.heap[c]?=some (.chan 0 #[] b s r tm)):
  (parked g0 #[rcase c z] (.recv f)).again w=if b=true then {parked g0 #[rcase c z] (.recv f) with status:=.running} else parked g0 #[rcase c z] (.recv f):=by
 cases b
 ·exact again_recv_open hc
 ·exact again_recv_closed hc
def mA(w:ae):lJ->lJ
 | .inl (i,x,tr)=>.inl (i,{x with w:=w},tr)
 | .inr m=>.inr m
theorem KM.O8(hV:ky T V fa){i:Nat}{o rc:Nat->Prop}{cl cl':Nat->Option Nat}{d:WD}{ld:lJ}{g:aX}{w w':ae}(h:KM P T V fa i o rc cl d ld g w)(hr:cW T i o rc w w'){x x':aX}(fu:cl' i=cl i)(Gf:∀k,(cl k).isSome=true->(cl' k).isSome=true)(hw:∀k,cl k=none->T.dep i k->cl' k=none\/(mayWake P x=true/\x'.status=.running))(vC:∀k,T.dep i k->∃s r tm,w'.heap[T.ch k]?=some (.chan 0 #[] (cl' k).isSome s r tm)):
  iT T (mA w' ld) ld/\KM P T V fa i o rc cl' d (mA w' ld) (woken P x x' w' g) w':=by
 rcases h with⟨h1,h2,h3,g0,tr,h4,h5,h6⟩|⟨h1,h2,h3,C,v,h4,h5,h6⟩
 ·refine⟨by rw[h4];exact⟨rfl,rfl,rfl,rfl,rfl,hr⟩,.inl ⟨fu.trans h1,h2,h3,g0,tr,by rw[h4];rfl,h5.rely hr,?_⟩⟩;have ack:g0.status=.running:=h5.look.1;rcases h6 with⟨h6,h6t⟩|⟨h6,k,z,f,h7,h8,h9⟩
  ·left;rw[h6,woken_running ack];exact⟨rfl,h6t⟩
  ·refine .inr ⟨h6,k,z,f,h7,fun w1 qW=>h8 w1 (hr.trans qW),?_⟩;rcases h9 with⟨h9,nA⟩|⟨h9,nA⟩
   ·obtain⟨s,r,tm,hc⟩:=vC k h7;rcases hw k nA h7 with hn|⟨hm,hx⟩
    ·left;refine⟨?_,hn⟩;rw[hn] at hc;rw[h9];unfold woken;split
     ·rw[xS hc];simp
     ·rfl
    ·have e:woken P x x' w' g=g.again w':=by unfold woken;simp[hm,hx]
     rw[e,h9,xS hc];cases amY:cl' k with
     |none=>left;simp
     |some p=>right;simp
   ·right;rw[h9,woken_running rfl];exact⟨rfl,Gf k nA⟩
 ·have oz:∀a,T.jW i (.cell a)->w'.cell? a=w.cell? a:=fun a ha=>hr.mine a (.inl ha);have e2:mA w' ld=ld:=by rw[h2];rfl
  rw[e2];refine⟨iT.refl ld,.inr ⟨by rw[fu];exact h1,h2,hV.v i w w' oz h3,C,v,h4,?_,hV.val i _ w w' oz (fun b hb=>hr.own b hb.1) h6⟩⟩;rw[h5.woken];exact h5.rely (hr.rw h4)
theorem KM.status{i:Nat}{o rc:Nat->Prop}{cl:Nat->Option Nat}{d:WD}{ld:lJ}{g:aX}{w:ae}(h:KM P T V fa i o rc cl d ld g w):
  g.status=.running\/g.status=.finished\/(g.status=.blocked/\cl i=none/\∃k,T.dep i k/\cl k=none):=by
 rcases h with⟨h1,h2,h3,g0,tr,h4,h5,h6⟩|⟨h1,h2,h3,C,v,h4,h5,h6⟩
 ·rcases h6 with⟨h6,_⟩|⟨h6,k,z,f,h7,h8,⟨h9,nA⟩|⟨h9,_⟩⟩
  ·left;rw[h6];exact h5.look.1
  ·exact .inr (.inr ⟨by rw[h9];rfl,h1,k,h7,nA⟩)
  ·left;rw[h9]
 ·exact h5.status.imp id .inl
theorem KM.acc(hT:T.OK){i:Nat}(hi:i<T.n){o rc:Nat->Prop}{cl:Nat->Option Nat}{d:WD}{ld:lJ}{g:aX}{w:ae}(h:KM P T V fa i o rc cl d ld g w):Acc (nz P T V) ld:=by
 rcases h with⟨h1,h2,h3,g0,tr,h4,h5,h6⟩|⟨h1,h2,h3,C,v,h4,h5,h6⟩
 ·rw[h4];exact Vs (h5.acc hT hi) tr
 ·rw[h2];exact Be _
theorem jL.acc{tag:CTag}{o:Nat->Prop}{a:aX}{w:ae}{y:jG}(h:jL P T V fa cO Fin tag o a w y):Acc (mK P T) y:=by
 cases tag
 case blk=>obtain⟨a0,_,_,e⟩:=h;rw[e];exact Iq 0
 all_goals (obtain⟨h1,e⟩:=h;rw[e];exact RD h1.acc)
structure gl(P:Program)(T:dm)(V:Nat->ae->Prop)(fa:Nat->(Nat->Prop)->ae->Prop)(cO Fin:eQ)(t0:Trace)(w0:ae)(gs:Array aX)(w:ae)(t:Trace)(S:jF)(D:Nat->WD)(x:Nat->lJ)(tag:CTag)(a:aX)(y:jG)(st sm:Int):Prop where
 size:gs.size=T.m0+S.j
 EZ:gs[0]?=some a
 Lv:jL P T V fa cO Fin tag (S.own 0) a w y
 tZ:mz T.n tag S.j (Deaf t 0)
 old:∀k,0<k->k<T.m0->∃g q,gs[k]?=some g/\x k=.inr q/\QuitsD P q (Deaf t k) g
 wk:∀i,i<S.j->∃g,gs[T.m0+i]?=some g/\KM P T V fa i (S.own (T.m0+i)) (S.rc i) S.cl (D i) (x (T.m0+i)) g w
 rest:∀k,T.m0+S.j<=k->x k=.inr 0
 zero:x 0=.inr 0
 deafW:∀i,i<S.j->Deaf t (T.m0+i)=(D i).deaf
 above:∀k,gs.size<=k->Deaf t k=0
 ti:TI T S t
 tg:S.OK T
 lt:∀z b,S.own z b->b<w.heap.size
 h0:T.H0<=w.heap.size
 wg:WgAt T.ty T.Wg w st sm
 mode:Go.ConcN.Mode S.j D tag st sm
 chan:∀k,k<T.n->∃s r tm,w.heap[T.ch k]?=some (.chan 0 #[] (S.cl k).isSome s r tm)
 UG:∀i k,S.rc i k->(S.cl k).isSome=true
 Ze:∀k,S.j<=k->S.cl k=none
 UE:∀i k,S.rc i k->i<S.j
 rel:∀i,i<S.j->(D i).stage<=6->∃r,T.T0<=r/\RelBy (stA T.Wg) t (T.m0+i) r/\∀i' a,r<i'->t.g? i'=some (T.m0+i)->touchAt t i'=some a->tW (fun b=>b=T.Wg) a.loc/\a.kind=.atomic
 norel:∀k,T.T0<=k->t.act? k≠some (.mark (.release (stA T.Wg)))
 UC:∀i z,T.T0<=i->t[i]?=some z->z.g=0\/(∃k,k<S.j/\z.g=T.m0+k)\/z.act.touch?=none
 ext:∃U,t=t0++U
 same:dL T (fun _=>False) w0 w
 DJ:qD T S.j w0 w
 idle0:∀k,k<T.n->T.Idle k w0
def mL(S:jF):Nat:=sumTo S.j fun i=>if S.cl i=none then 1 else 0
def pF(T:dm)(S:jF)(D:Nat->WD)(tag:CTag):Nat:=phi T.n (Vc S.j D) tag+Ssum S.j D+mL S
end
end
section
open Go.ConcR (KK wgBlock WgAt stA smA rd wr mk Payload g_of_ofEvents loc_of_ofEvent)
variable [Payload]
section
variable {P:Program} {T:dm} {V:Nat->ae->Prop} {fa:Nat->(Nat->Prop)->ae->Prop} {cO Fin:eQ} {t0:Trace} {w0:ae}
 {gs:Array aX} {w w':ae} {t:Trace} {S S':jF} {D:Nat->WD} {x:Nat->lJ} {tag:CTag} {a:aX} {y:jG} {st sm:Int} {sl:Option (Nat×Nat)}
theorem mM{tag:CTag}{o:Nat->Prop}{g:aX}{w:ae}(h:kx P T V fa cO Fin tag o g w):g.status=.running:=by
 cases tag<;>simp only[kx] at h
 case sp r s =>
  split at h
  ·exact h.1
  ·split at h
   ·exact h.1
   ·split at h<;>exact h.1
 all_goals exact h.1
theorem jL.eq{tag:CTag}(dH:tag≠.blk){o:Nat->Prop}{a:aX}{w:ae}{y:jG}:jL P T V fa cO Fin tag o a w y=(di P T (kx P T V fa cO Fin tag) o a w/\y=.inl (kx P T V fa cO Fin tag,⟨a,o,w⟩)):=by
 cases tag<;>first|rfl|exact absurd rfl dH
theorem jL.O8{tag:CTag}{o:Nat->Prop}{a:aX}{y:jG}(h:jL P T V fa cO Fin tag o a w y)(hr:dL T o w w')(u u':aX):
  ∃tag' y',jL P T V fa cO Fin tag' o (woken P u u' w' a) w' y'/\(tag'=tag\/(tag=.blk/\tag'=.w3))/\(mayWake P u=true->u'.status=.running->tag'≠.blk):=by
 by_cases hb:tag=.blk
 ·subst hb;obtain⟨a0,h1,h2,h3⟩:=h;have hs:=h2 w (dL.refl w);by_cases hw:(mayWake P u&&u'.status != .blocked&&u'.status != .waiting)=true
  ·refine⟨.w3,_,⟨?_,rfl⟩,.inr ⟨rfl,rfl⟩,fun _ _=>aj⟩;have e:woken P u u' w' a=a0:=by
    unfold woken;rw[if_pos hw,h1];have h4:=hs.1;have h5:=hs.2.1;obtain⟨fr,cs,stt,dy,of⟩:=a0;simp only at h4 h5;subst h4 h5;rfl
   rw[e];exact .stop fun w1 qW=>h2 w1 (hr.trans qW)
  ·refine⟨.blk,_,⟨a0,?_,fun w1 qW=>h2 w1 (hr.trans qW),rfl⟩,.inl rfl,fun h1 h2=>absurd ?_ hw⟩
   ·unfold woken;rw[if_neg hw,h1]
   ·simp[h1,h2]
 ·rw[jL.eq hb] at h;obtain⟨h1,h2⟩:=h;have cJ:=h1.running fun o g w hh=>mM hh;refine⟨tag,.inl (kx P T V fa cO Fin tag,⟨a,o,w'⟩),?_,.inl rfl,fun _ _=>hb⟩;rw[jL.eq hb,woken_running cJ];exact⟨h1.rely hr,rfl⟩
theorem pG{α:Type}{gs:Array α}(f:α->α)(p k:Nat)(u:α)(h:p≠k):((gs.map f).setIfInBounds p u)[k]?=(gs[k]?).map f:=by
 rw[aS h,aK]
theorem uX{es:Array Event}{g:Nat}{fn:FuncId}{pos:String}(h:∀k,T.T0<=k->t.act? k≠some (.mark (.release (stA T.Wg))))(hu:∀e∈es,e.loc≠.mark (.release (stA T.Wg))):
  ∀k,T.T0<=k->(t++MemOp.ofEvents g fn pos es).act? k≠some (.mark (.release (stA T.Wg))):=by
 intro k hk e;obtain⟨op,ho,XQ⟩:=Option.map_eq_some_iff.1 e;rcases getElem?_append_cases ho with⟨cy,pD⟩|⟨_,RE⟩
 ·exact h k hk (by rw[act?_of pD,XQ])
 ·obtain⟨ev,jg,rfl⟩:=Go.Conc.mem_ofEvents RE;exact hu ev jg (loc_of_ofEvent XQ)
theorem uY{u:Trace}{j:Nat}(h:∀i z,T.T0<=i->t[i]?=some z->z.g=0\/(∃k,k<j/\z.g=T.m0+k)\/z.act.touch?=none)(hu:∀z∈u,z.g=0\/(∃k,k<j/\z.g=T.m0+k)\/z.act.touch?=none):
  ∀i z,T.T0<=i->(t++u)[i]?=some z->z.g=0\/(∃k,k<j/\z.g=T.m0+k)\/z.act.touch?=none:=by
 intro i z hi hz;rcases getElem?_append_cases hz with⟨cy,DF⟩|⟨_,Ht⟩
 ·exact h i z hi DF
 ·exact hu z Ht
theorem rV{i g:Nat}{u:Trace}(h:∃r,T.T0<=r/\RelBy (stA T.Wg) t (T.m0+i) r/\∀i' a,r<i'->t.g? i'=some (T.m0+i)->touchAt t i'=some a->tW (fun b=>b=T.Wg) a.loc/\a.kind=.atomic)(hu:∀op∈u,op.g=g)(hg:g≠T.m0+i):∃r,T.T0<=r/\RelBy (stA T.Wg) (t++u) (T.m0+i) r/\∀i' a,r<i'->(t++u).g? i'=some (T.m0+i)->touchAt (t++u) i'=some a->tW (fun b=>b=T.Wg) a.loc/\a.kind=.atomic:=by
 obtain⟨r,h1,h2,h3⟩:=h;refine⟨r,h1,h2.appOther hu hg,fun i' a ma Vr XR=>?_⟩;obtain⟨z,hz,XO⟩:=Option.map_eq_some_iff.1 Vr;rcases getElem?_append_cases hz with⟨cy,DF⟩|⟨_,Ht⟩
 ·exact h3 i' a ma (by simp[Trace.g?,DF,XO]) (by rw[<- touchAt_old (u:=u) cy];exact XR)
 ·rw[hu z Ht] at XO;exact absurd XO hg
theorem gl.worker(hT:T.OK)(hV:ky T V fa)(h:gl P T V fa cO Fin t0 w0 gs w t S D x tag a y st sm){i:Nat}(hi:i<S.j)(tD:S.j<=T.n){g g':aX}{es:Array Event}(hg:gs[T.m0+i]?=some g)(hgo:stepG P false g w=.go g' w' es){d':WD}{ld':lJ}{st' sm':Int}(hj:S'.j=S.j)(O9:TI T S' (t++MemOp.ofEvents (T.m0+i) g.frame.fn g.frame.place es))(agJ:S'.OK T)(Ns:S'.own 0=S.own 0)(acm:∀k,k≠i->S'.own (T.m0+k)=S.own (T.m0+k))(acn:∀k,k≠i->S'.rc k=S.rc k)(Zf:∀k,k≠i->S'.cl k=S.cl k)(cy:∀z b,S'.own z b->b<w'.heap.size)(fE:w.heap.size<=w'.heap.size)(aco:dL T (S.own 0) w w')(RF:∀k,k<S.j->k≠i->cW T k (S.own (T.m0+k)) (S.rc k) w w')(oz:dL T (fun _=>False) w w')(Pb:qD T S.j w w')(Gf:∀k,(S.cl k).isSome=true->(S'.cl k).isSome=true)(Pd:KM P T V fa i (S'.own (T.m0+i)) (S'.rc i) S'.cl d' ld' g' w')(acp:S'.cl i=S.cl i\/(mayWake P g=true/\g'.status=.running))(XS:∀k,k<T.n->∃s r tm,w'.heap[T.ch k]?=some (.chan 0 #[] (S'.cl k).isSome s r tm))(RG:∀i k,S'.rc i k->(S'.cl k).isSome=true)(hrel:d'.stage<=6->∃r,T.T0<=r/\RelBy (stA T.Wg) (t++MemOp.ofEvents (T.m0+i) g.frame.fn g.frame.place es) (T.m0+i) r/\∀i' a,r<i'->(t++MemOp.ofEvents (T.m0+i) g.frame.fn g.frame.place es).g? i'=some (T.m0+i)->touchAt (t++MemOp.ofEvents (T.m0+i) g.frame.fn g.frame.place es) i'=some a->tW (fun b=>b=T.Wg) a.loc/\a.kind=.atomic)(acr:deafBehind (D i).deaf es=d'.deaf)(Lw:∀e∈es,e.loc≠.mark (.release (stA T.Wg)))(pj:WgAt T.ty T.Wg w' st' sm')(jY:∀tag',(tag'=tag\/(tag=.blk/\tag'=.w3))->(mayWake P g=true->g'.status=.running->tag'≠.blk)->Go.ConcN.Mode S.j (upd D i d') tag' st' sm'):
  ∃gK tag' a' y',runT P (crowd gs w sl) (T.m0+i)=(.next (crowd gK w' sl),MemOp.ofEvents (T.m0+i) g.frame.fn g.frame.place es)/\(tag'=tag\/(tag=.blk/\tag'=.w3)) /\
   gl P T V fa cO Fin t0 w0 gK w' (t++MemOp.ofEvents (T.m0+i) g.frame.fn g.frame.place es) S' (upd D i d') (upd (fun k=>mA w' (x k)) (T.m0+i) ld') tag' a' y' st' sm'/\∀k,k≠T.m0+i->iT T (mA w' (x k)) (x k):=by
 have Lx:=hT.m0;have UH:T.m0+i≠0:=aa;have KN:(T.m0+i==0)=false:=dV;obtain⟨tag',y',KO,uZ,hs3⟩:=h.Lv.O8 aco g g';have cJ:=runT_crowd_go (P:=P) (sl:=sl) (i:=T.m0+i) hg (by rw[KN];exact hgo);have AQ:T.m0+i<gs.size:=by rw[h.size];omega
 have hu:∀op∈MemOp.ofEvents (T.m0+i) g.frame.fn g.frame.place es,op.g=T.m0+i:=g_of_ofEvents;have KP:∀k,k≠T.m0+i->Deaf (t++MemOp.ofEvents (T.m0+i) g.frame.fn g.frame.place es) k=Deaf t k:=fun k hk=>Deaf_other t (bp hk) _ hu;have Hu:∀k,k<S.j->k≠i->iT T (mA w' (x (T.m0+k))) (x (T.m0+k))/\∃gk,gs[T.m0+k]?=some gk/\KM P T V fa k (S'.own (T.m0+k)) (S'.rc k) S'.cl (D k) (mA w' (x (T.m0+k))) (woken P g g' w' gk) w':=by
  intro k hk Pe;obtain⟨gk,h1,h2⟩:=h.wk k hk;obtain⟨h3,h4⟩:=h2.O8 (cl':=S'.cl) hV (RF k hk Pe) (x:=g) (x':=g') (Zf k Pe) Gf (fun k' hn _=>by
   by_cases e:k'=i
   ·subst e;rcases acp with hw|hw
    ·exact .inl (hw.trans hn)
    ·exact .inr hw
   ·exact .inl ((Zf k' e).trans hn)) (fun k' hd=>XS k' (by have:=hT.dep k k' aa hd;omega))
  refine⟨h3,gk,h1,?_⟩;rw[acm k Pe,acn k Pe];exact h4
 refine⟨_,tag',woken P g g' w' a,y',cJ,uZ,?_,?_⟩
 ·refine⟨by simp[h.size,hj],?_,by rw[Ns];exact KO,?_,fun k k0 km=>?_,fun k hk=>?_,fun k hk=>?_,?_,fun k hk=>?_,fun k hk=>?_,O9,agJ,cy,aW h.h0 fE,pj,by rw[hj];exact jY tag' uZ hs3,XS,RG,fun k hk=>?_,fun i' k hr=>?_,fun k hk eG=>?_,uX h.norel Lw,?_,?_,h.same.trans oz,by rw[hj];exact h.DJ.trans Pb,h.idle0⟩
  ·rw[pG _ _ _ _ UH,h.EZ];rfl
  ·rw[KP 0 (bp UH),hj];have:=h.tZ;rcases uZ with rfl|⟨rfl,rfl⟩
   ·exact this
   ·exact this
  ·obtain⟨gk,q,h1,h2,h3⟩:=h.old k k0 km;have dH:T.m0+i≠k:=aa;refine⟨gk,q,by rw[pG _ _ _ _ dH,h1,aJ,woken_quitsD h3],by rw[upd_ne _ _ (bp dH),h2];rfl,by rw[KP k (bp dH)];exact h3⟩
  ·rw[hj] at hk;by_cases e:k=i
   ·subst e;exact⟨g',by simp[AQ],by rw[upd_same,upd_same];exact Pd⟩
   ·obtain⟨_,gk,h1,h2⟩:=Hu k hk e;have dH:T.m0+i≠T.m0+k:=aa;exact⟨_,by rw[pG _ _ _ _ dH,h1];rfl,by rw[upd_ne _ _ e,upd_ne _ _ (bp dH)];exact h2⟩
  ·rw[hj] at hk;rw[upd_ne _ _ aa,h.rest k hk];rfl
  ·rw[upd_ne _ _ (bp UH),h.zero];rfl
  ·rw[hj] at hk;by_cases e:k=i
   ·subst e;rw[Deaf_own,h.deafW k hk,upd_same];exact acr
   ·rw[KP _ aa,h.deafW k hk,upd_ne _ _ e]
  ·have lP:gs.size<=k:=by simpa using hk
   rw[KP k (by rw[h.size] at lP;omega)];exact h.above k lP
  ·rw[hj] at hk;rw[Zf k aa];exact h.Ze k hk
  ·rw[hj];by_cases e:i'=i
   ·subst e;exact hi
   ·rw[acn i' e] at hr;exact h.UE i' k hr
  ·rw[hj] at hk;by_cases e:k=i
   ·subst e;rw[upd_same] at eG;exact hrel eG
   ·rw[upd_ne _ _ e] at eG;exact rV (h.rel k hk eG) hu aa
  ·rw[hj];exact uY h.UC fun z hz=>.inr (.inl ⟨i,hi,hu z hz⟩)
  ·obtain⟨U,hU⟩:=h.ext;exact⟨U++MemOp.ofEvents (T.m0+i) g.frame.fn g.frame.place es,by rw[hU,dE]⟩
 ·intro k hk;rcases bg k with rfl|nt
  ·rw[h.zero];exact rfl
  ·rcases b5 k T.m0 with qe | Pf
   ·obtain⟨gk,q,_,h2,_⟩:=h.old k nt qe;rw[h2];exact rfl
   ·rcases b5 k (T.m0+S.j) with QX|DK
    ·have:=(Hu (k-T.m0) aa aa).1;rw[show T.m0+(k-T.m0)=k by omega] at this;exact this
    ·rw[h.rest k DK];exact rfl
end
end
section
open Go.ConcR (KK wgBlock WgAt stA smA rd wr mk Payload g_of_ofEvents loc_of_ofEvent)
variable [Payload]
section
variable {P:Program} {T:dm} {V:Nat->ae->Prop} {fa:Nat->(Nat->Prop)->ae->Prop} {cO Fin:eQ} {t0:Trace} {w0:ae}
 {gs:Array aX} {w w':ae} {t:Trace} {S S':jF} {D:Nat->WD} {x:Nat->lJ} {tag:CTag} {a:aX} {y:jG} {st sm:Int} {sl:Option (Nat×Nat)}
theorem gl.Zg(hT:T.OK)(hV:ky T V fa)(h:gl P T V fa cO Fin t0 w0 gs w t S D x tag a y st sm)(tD:S.j<=T.n){k:Nat}(k0:0<k)(km:k<T.m0){g:aX}(hg:gs[k]?=some g)(cJ:g.status=.running):
  ∃gK tag' a' y' x' ops,runT P (crowd gs w sl) k=(.next (crowd gK w sl),ops)/\(tag'=tag\/(tag=.blk/\tag'=.w3)) /\
   gl P T V fa cO Fin t0 w0 gK w (t++ops) S D x' tag' a' y' st sm/\nz P T V (x' k) (x k)/\∀k',k'≠k->iT T (x' k') (x k'):=by
 obtain⟨g1,q,h1,h2,h3⟩:=h.old k k0 km;rw[hg] at h1;cases h1;obtain⟨q',g',es,hm,eG,hq⟩:∃q' g' es,(∀e∈es,Event.mute e=true)/\(∀w,stepG P false g w=.go g' w es)/\QuitsD P q' (deafBehind (Deaf t k) es) g'/\q=q'+1:=by
  cases q with
  |zero=>rw[h3.1] at cJ;cases cJ
  |succ q' =>
   rcases h3 with⟨hf,_⟩|⟨_,g',es,hm,eG,hq⟩
   ·rw[hf] at cJ;cases cJ
   ·exact⟨q',g',es,hm,eG,hq,rfl⟩
 obtain⟨hq,rfl⟩:=hq;have KN:(k==0)=false:=dV;have HH:k≠0:=aa;have tX:=runT_crowd_go (P:=P) (sl:=sl) (i:=k) hg (by rw[KN];exact eG w);obtain⟨tag',y',KO,uZ,hs3⟩:=h.Lv.O8 (dL.refl w) g g';have hu:∀op∈MemOp.ofEvents k g.frame.fn g.frame.place es,op.g=k:=g_of_ofEvents;have hn:∀op∈MemOp.ofEvents k g.frame.fn g.frame.place es,op.act.touch?=none:=fun op eP=>by obtain⟨e,he,rfl⟩:=Go.Conc.mem_ofEvents eP;exact touch_mute (hm e he)
 have KP:∀k',k'≠k->Deaf (t++MemOp.ofEvents k g.frame.fn g.frame.place es) k'=Deaf t k':=fun k' hk=>Deaf_other t (bp hk) _ hu;have AQ:k<gs.size:=(Array.getElem?_eq_some_iff.1 hg).1;have Hu:∀i,i<S.j->iT T (mA w (x (T.m0+i))) (x (T.m0+i))/\∃gk,gs[T.m0+i]?=some gk/\KM P T V fa i (S.own (T.m0+i)) (S.rc i) S.cl (D i) (mA w (x (T.m0+i))) (woken P g g' w gk) w:=by
  intro i hi;obtain⟨gk,h1,h2⟩:=h.wk i hi;obtain⟨h3,h4⟩:=h2.O8 (cl':=S.cl) hV (cW.refl w) (x:=g) (x':=g') rfl (fun _ hk=>hk) (fun k' hn _=>.inl hn) (fun k' hd=>h.chan k' (by have:=hT.dep i k' aa hd;omega));exact⟨h3,gk,h1,h4⟩
 refine⟨_,tag',woken P g g' w a,y',upd (fun k=>mA w (x k)) k (.inr q'),_,tX,uZ,?_,?_,?_⟩
 ·refine⟨by simp[h.size],?_,KO,?_,fun k' k0' km'=>?_,fun i hi=>?_,fun k' lP=>?_,?_,fun i hi=>?_,fun k' lP=>?_,h.ti.mute hu hn,h.tg,h.lt,h.h0,h.wg,h.mode.retag uZ,h.chan,h.UG,h.Ze,h.UE,fun i hi eG=>rV (h.rel i hi eG) hu aa,uX h.norel fun e he hl=>?_,uY h.UC fun z hz=>.inr (.inr (hn z hz)),?_,h.same,h.DJ,h.idle0⟩
  ·rw[pG _ _ _ _ HH,h.EZ];rfl
  ·rw[KP 0 (bp HH)];have:=h.tZ;rcases uZ with rfl|⟨rfl,rfl⟩
   ·exact this
   ·exact this
  ·by_cases e:k'=k
   ·subst e;exact⟨g',q',by simp[AQ],by rw[upd_same],by rw[Deaf_own];exact hq⟩
   ·obtain⟨gk,q,h1,h2,h3⟩:=h.old k' k0' km';exact⟨gk,q,by rw[pG _ _ _ _ (bp e),h1,aJ,woken_quitsD h3],by rw[upd_ne _ _ e,h2];rfl,by rw[KP k' e];exact h3⟩
  ·obtain⟨_,gk,h1,h2⟩:=Hu i hi;have dH:k≠T.m0+i:=aa;exact⟨_,by rw[pG _ _ _ _ dH,h1];rfl,by rw[upd_ne _ _ (bp dH)];exact h2⟩
  ·rw[upd_ne _ _ aa,h.rest k' lP];rfl
  ·rw[upd_ne _ _ (bp HH),h.zero];rfl
  ·rw[KP _ aa];exact h.deafW i hi
  ·have RH:gs.size<=k':=by simpa using lP
   rw[KP k' aa];exact h.above k' RH
  ·have:=hm e he;obtain⟨loc,p6,sy⟩:=e;simp only at hl;subst hl;simp[Event.mute] at this
  ·obtain⟨U,hU⟩:=h.ext;exact⟨U++MemOp.ofEvents k g.frame.fn g.frame.place es,by rw[hU,dE]⟩
 ·rw[upd_same,h2];exact bH _
 ·intro k' lP;rw[upd_ne _ _ lP];rcases bg k' with rfl|nt
  ·rw[h.zero];exact rfl
  ·rcases b5 k' T.m0 with qe | Pf
   ·obtain⟨gk,q,_,h2,_⟩:=h.old k' nt qe;rw[h2];exact rfl
   ·rcases b5 k' (T.m0+S.j) with QX|DK
    ·have:=(Hu (k'-T.m0) aa).1;rw[show T.m0+(k'-T.m0)=k' by omega] at this;exact this
    ·rw[h.rest k' DK];exact rfl
theorem gl.RJ(h:gl P T V fa cO Fin t0 w0 gs w t S D x tag a y st sm)(p c:Nat):partners (gs.setIfInBounds p ph) c true=[]:=by
 refine partners_nil fun j g hg=>?_;rcases getElem?_stand gs p j g hg with⟨_,rfl⟩|⟨_,Am⟩
 ·exact offersAt_ph c true
 ·have cy:j<T.m0+S.j:=by have:=(Array.getElem?_eq_some_iff.1 Am).1;rw[h.size] at this;exact this
  rcases bg j with rfl|nt
  ·rw[h.EZ] at Am;cases Am;by_cases hb:tag=.blk
   ·subst hb;obtain⟨a0,h1,h2,_⟩:=h.Lv;have ho:=(h2 w (dL.refl w)).2.1;rw[h1];simp[offersAt,ho]
   ·have hs:=h.Lv;rw[jL.eq hb] at hs;exact offersAt_of_not_blocked (by rw[hs.1.running fun o g w hh=>mM hh];simp) c true
  ·rcases b5 j T.m0 with hj|hj
   ·obtain⟨g1,q,h1,_,h3⟩:=h.old j nt hj;rw[Am] at h1;cases h1;exact offersAt_of_not_blocked (by rcases h3.status with e|e<;>rw[e]<;>simp) c true
   ·obtain⟨g1,h1,h2⟩:=h.wk (j-T.m0) aa;rw[show T.m0+(j-T.m0)=j by omega,Am] at h1;cases h1;rcases h2 with⟨_,_,_,g0,tr,_,h5,h6⟩|⟨_,_,_,C,v,_,h5,_⟩
    ·rcases h6 with⟨h6,_⟩|⟨_,k,z,f,_,_,⟨h9,_⟩|⟨h9,_⟩⟩
     ·rw[h6];exact offersAt_of_not_blocked (by rw[h5.look.1];simp) c true
     ·rw[h9];exact offersAt_parked_recv' _ _ _ _ _
     ·rw[h9];exact offersAt_of_not_blocked aj c true
    ·exact offersAt_of_not_blocked (by rcases h5.status with e|e<;>rw[e]<;>simp) c true
theorem gl.put(h:gl P T V fa cO Fin t0 w0 gs w t S D x tag a y st sm)(Lx:0<T.m0){i:Nat}(hi:i<S.j){g':aX}{ld':lJ}{u:Trace}(hj:S'.j=S.j)(fq:S'.own=S.own)(fu:S'.cl=S.cl)(Gq:∀k,k≠i->S'.rc k=S.rc k)(RG:∀i k,S'.rc i k->(S.cl k).isSome=true)(O9:TI T S' (t++u))(hu:∀op∈u,op.g=T.m0+i)(hq:∀op∈u,∀m,op.act≠.mark m)(h7:(D i).stage=7)(Pd:KM P T V fa i (S.own (T.m0+i)) (S'.rc i) S.cl (D i) ld' g' w):
  gl P T V fa cO Fin t0 w0 (gs.setIfInBounds (T.m0+i) g') w (t++u) S' D (upd x (T.m0+i) ld') tag a y st sm:=by
 have AQ:T.m0+i<gs.size:=by rw[h.size];omega
 have UH:T.m0+i≠0:=aa;have Vt:∀k,Deaf (t++u) k=Deaf t k:=fun k=>Deaf_still t k u fun op eP=>⟨hq op eP _,hq op eP _⟩;refine⟨by simp[h.size,hj],?_,by rw[fq];exact h.Lv,by rw[Vt,hj];exact h.tZ,fun k k0 km=>?_,fun k hk=>?_,fun k hk=>?_,?_,fun k hk=>?_,fun k hk=>?_,O9,?_,fun z b hb=>h.lt z b (by rw[<- fq];exact hb),h.h0,h.wg,by rw[hj];exact h.mode,by rw[fu];exact h.chan,by rw[fu];exact RG,by rw[hj,fu];exact h.Ze,fun i' k hr=>?_,fun k hk eG=>?_,fun k hk e=>?_,?_,?_,h.same,by rw[hj];exact h.DJ,h.idle0⟩
 ·rw[aS UH];exact h.EZ
 ·obtain⟨gk,q,h1,h2,h3⟩:=h.old k k0 km;exact⟨gk,q,by rw[aS aa];exact h1,by rw[upd_ne _ _ aa];exact h2,by rw[Vt];exact h3⟩
 ·rw[hj] at hk;by_cases e:k=i
  ·subst e;exact⟨g',by simp[AQ],by rw[upd_same,fq,fu];exact Pd⟩
  ·obtain⟨gk,h1,h2⟩:=h.wk k hk;exact⟨gk,by rw[aS aa];exact h1,by rw[upd_ne _ _ aa,fq,fu,Gq k e];exact h2⟩
 ·rw[hj] at hk;rw[upd_ne _ _ aa];exact h.rest k hk
 ·rw[upd_ne _ _ (bp UH)];exact h.zero
 ·rw[hj] at hk;rw[Vt];exact h.deafW k hk
 ·rw[Vt];exact h.above k (by simpa using hk)
 ·exact⟨fun z b hb=>h.tg.new z b (by rw[<- fq];exact hb),fun z z' b h1 h2=>h.tg.one z z' b (by rw[<- fq];exact h1) (by rw[<- fq];exact h2),fun z b hb=>by rw[hj];exact h.tg.mem z b (by rw[<- fq];exact hb)⟩
 ·rw[hj];by_cases e:i'=i
  ·subst e;exact hi
  ·rw[Gq i' e] at hr;exact h.UE i' k hr
 ·rw[hj] at hk;have Pe:k≠i:=by rintro rfl;omega
  exact rV (h.rel k hk eG) hu aa
 ·obtain⟨op,ho,XQ⟩:=Option.map_eq_some_iff.1 e;rcases getElem?_append_cases ho with⟨cy,pD⟩|⟨_,RE⟩
  ·exact h.norel k hk (by rw[act?_of pD,XQ])
  ·exact hq op RE _ XQ
 ·rw[hj];exact uY h.UC fun z hz=>.inr (.inl ⟨i,hi,hu z hz⟩)
 ·obtain⟨U,hU⟩:=h.ext;exact⟨U++u,by rw[hU,dE]⟩
end
end
section
open Go.ConcR (KK wgBlock WgAt stA smA rd wr mk Payload g_of_ofEvents loc_of_ofEvent)
variable [Payload]
def Cf(P:Program)(T:dm)(V:Nat->ae->Prop)(p:Nat)(S S':jF)(D D':Nat->WD)(tag tag':CTag)(x x':Nat->lJ):Prop :=
 pF T S' D' tag'<pF T S D tag\/(pF T S' D' tag'=pF T S D tag/\nz P T V (x' p) (x p)/\∀k,k≠p->iT T (x' k) (x k))
section
variable {P:Program} {T:dm} {V:Nat->ae->Prop} {fa:Nat->(Nat->Prop)->ae->Prop} {cO Fin:eQ} {t0:Trace} {w0:ae}
 {gs:Array aX} {w w':ae} {t:Trace} {S S':jF} {D:Nat->WD} {x:Nat->lJ} {tag:CTag} {a:aX} {y:jG} {st sm:Int} {sl:Option (Nat×Nat)}
theorem Cg{α:Type}(f:Nat->α)(i:Nat):upd f i (f i)=f:=by
 funext k;by_cases e:k=i
 ·subst e;rw[upd_same]
 ·rw[upd_ne _ _ e]
theorem Pg{i:Nat}{o rc:Nat->Prop}{es:Array Event}(h:∀e∈es,Np T i o rc e)(d:Nat):deafBehind d es=d:=deafBehind_still (fun e he=>⟨(h e he).2.1,(h e he).2.2.1⟩) d
theorem Ir{i:Nat}(hT:T.OK)(hS:S.OK T)(hi:i<S.j)(hh:T.H0<=w.heap.size)(hl:∀z b,S.own z b->b<w.heap.size):({S with own:=upd S.own (T.m0+i) (grow (S.own (T.m0+i)) w w')}:jF).OK T:=by
 have key:∀z b,(upd S.own (T.m0+i) (grow (S.own (T.m0+i)) w w')) z b->S.own z b\/(z=T.m0+i/\w.heap.size<=b):=by
  intro z b hb;by_cases e:z=T.m0+i
  ·subst e;rw[upd_same] at hb;exact hb.imp id fun hh=>⟨rfl,hh.1⟩
  ·rw[upd_ne _ _ e] at hb;exact .inl hb
 refine⟨fun z b hb=>?_,fun z z' b h1 h2=>?_,fun z b hb=>?_⟩
 ·rcases key z b hb with h|⟨_,h⟩
  ·exact hS.new z b h
  ·omega
 ·rcases key z b h1 with h1|⟨e1,h1⟩<;>rcases key z' b h2 with h2|⟨e2,h2⟩
  ·exact hS.one z z' b h1 h2
  ·have:=hl z b h1;omega
  ·have:=hl z' b h2;omega
  ·rw[e1,e2]
 ·rcases key z b hb with h|⟨e,_⟩
  ·exact hS.mem z b h
  ·exact .inr ⟨i,hi,e⟩
theorem E0{tag':CTag}(hs:tag'=tag\/(tag=.blk/\tag'=.w3)):pF T S D tag'=pF T S D tag:=by simp only[pF,phi_retag _ _ hs]
theorem gl.Vu(hT:T.OK)(hV:ky T V fa)(h:gl P T V fa cO Fin t0 w0 gs w t S D x tag a y st sm)(tD:S.j<=T.n){i:Nat}(hi:i<S.j){g g0 g':aX}{es:Array Event}{tr:Bool}(hg:gs[T.m0+i]?=some g)(fu:S.cl i=none)(h7:(D i).stage=7)(DG:(D i).deaf=0)(hx:x (T.m0+i)=.inl (i,⟨g0,S.own (T.m0+i),S.rc i,w⟩,tr))(agK:stepG P false g0 w=.go g' w' es)(hgo:stepG P false g w=.go g' w' es)(KQ:Lr T i (S.own (T.m0+i)) w w')(jg:∀e∈es,Np T i (grow (S.own (T.m0+i)) w w') (S.rc i) e)(KR:gO P T i V (D8 P T fa i) ⟨g',grow (S.own (T.m0+i)) w w',S.rc i,w'⟩):
  ∃gK w' S' D' x' tag' a' y' st' sm' ops,runT P (crowd gs w sl) (T.m0+i)=(.next (crowd gK w' sl),ops)/\S'.j=S.j/\gl P T V fa cO Fin t0 w0 gK w' (t++ops) S' D' x' tag' a' y' st' sm'/\Cf P T V (T.m0+i) S S' D D' tag tag' x x':=by
 have rN:i<T.n:=aa;have hoH:∀b,S.own (T.m0+i) b->T.H0<=b:=fun b hb=>h.tg.new _ b hb;have nch:∀k,k<T.n->w'.heap[T.ch k]?=w.heap[T.ch k]?:=fun k hk=>KQ.rest _ (by have:=(hT.ch k hk).1;have:=h.h0;omega) (fun hb=>by have:=hoH _ hb;have:=(hT.ch k hk).1;omega) (fun hs=>(hT.sh _ hs).2.2 k hk rfl);have Zh:w'.heap[T.Wg]?=w.heap[T.Wg]?:=KQ.rest _ (by have:=hT.wg;have:=h.h0;omega) (fun hb=>by have:=hoH _ hb;have:=hT.wg;omega) (fun hs=>(hT.sh _ hs).2.1 rfl);have agL:∀k,¬S.rc k i:=fun k hk=>by have:=h.UG k i hk;rw[fu] at this;cases this
 have AS:∀z,z≠T.m0+i->∀b,S.own z b->T.H0<=b/\b<w.heap.size/\¬S.own (T.m0+i) b:=fun z hz b hb=>⟨h.tg.new z b hb,h.lt z b hb,fun nn=>hz (h.tg.one _ _ _ hb nn)⟩;have Lx:=hT.m0;have O9:TI T {S with own:=upd S.own (T.m0+i) (grow (S.own (T.m0+i)) w w')} (t++MemOp.ofEvents (T.m0+i) g.frame.fn g.frame.place es):=by
  refine(h.ti.grow (own':=upd S.own (T.m0+i) (grow (S.own (T.m0+i)) w w')) fun z b hb=>?_).app hT (Ir hT h.tg hi h.h0 h.lt) (x:=T.m0+i) (.inr ⟨i,hi,rfl⟩) g_of_ofEvents fun op eP b hb hm=>?_
  ·by_cases e:z=T.m0+i
   ·subst e;rw[upd_same];exact .inl hb
   ·rw[upd_ne _ _ e];exact hb
  ·obtain⟨e,he,rfl⟩:=Go.Conc.mem_ofEvents eP;rcases(jg e he).1 b hb hm with⟨c,h1,h2⟩|h1|⟨k,h1,h2,h3⟩|h1
   ·exact .inr (.inl ⟨c,by simp only[upd_same];exact h1,h2⟩)
   ·exact .inr (.inr (.inl ⟨i,rfl,h1,fu⟩))
   ·exact .inr (.inr (.inr (.inl ⟨i,k,rfl,h1,h2,h3⟩)))
   ·exact .inr (.inr (.inr (.inr h1)))
 obtain⟨gK,tag',a',y',r1,r2,r3,r4⟩:=gl.worker (sl:=sl) hT hV h hi tD hg hgo (S':={S with own:=upd S.own (T.m0+i) (grow (S.own (T.m0+i)) w w')}) (d':=D i) (ld':=.inl (i,⟨g',grow (S.own (T.m0+i)) w w',S.rc i,w'⟩,false)) (st':=st) (sm':=sm) rfl O9 (Ir hT h.tg hi h.h0 h.lt)
  (by simp only;rw[upd_ne _ _ aa]) (fun k hk=>by simp only;rw[upd_ne _ _ aa]) (fun _ _=>rfl) (fun _ _=>rfl)
  (fun z b hb=>by
   simp only at hb;by_cases e:z=T.m0+i
   ·subst e;rw[upd_same] at hb;rcases hb with hb|hb
    ·exact bw (h.lt _ b hb) KQ.size
    ·exact hb.2
   ·rw[upd_ne _ _ e] at hb;exact bw (h.lt _ b hb) KQ.size)
  KQ.size (KQ.Ls hT h.h0 hoH (AS 0 aa)) (fun k hk Pe=>KQ.Cd hT Pe aa h.h0 hoH (AS _ aa) (agL k)) (KQ.Ls hT h.h0 hoH (fun _ hb=>hb.elim)) (KQ.keep hT hi) (fun _ hk=>hk)
  (.inl ⟨fu,h7,DG,g',false,by simp only[upd_same],by simp only[upd_same];exact KR,.inl ⟨rfl,rfl⟩⟩) (.inl rfl) (fun k hk=>by rw[nch k hk];exact h.chan k hk) h.UG (fun h6=>aa) (by rw[Pg jg]) (fun e he=>(jg e he).2.2.2 _) (h.wg.of_block Zh)
  (fun tag' ht _=>by rw[Cg];exact h.mode.retag ht)
 refine⟨gK,w',{S with own:=upd S.own (T.m0+i) (grow (S.own (T.m0+i)) w w')},upd D i (D i),_,tag',a',y',st,sm,_,r1,rfl,r3,.inr ⟨?_,?_,fun k hk=>by rw[upd_ne _ _ hk];exact r4 k hk⟩⟩
 ·rw[Cg];show pF T {S with own:=upd S.own (T.m0+i) (grow (S.own (T.m0+i)) w w')} D tag'=pF T S D tag;rw[<- E0 (T:=T) (S:=S) (D:=D) r2];rfl
 ·rw[upd_same,hx];obtain⟨s,r,tm,hc⟩:=h.chan i rN;rw[fu] at hc;exact⟨rfl,.inl (.inl ⟨w,es,s,r,tm,cW.refl w,agK,rfl,rfl,hc,nch i rN⟩)⟩
theorem gl.Ph(hT:T.OK)(hV:ky T V fa)(h:gl P T V fa cO Fin t0 w0 gs w t S D x tag a y st sm)(tD:S.j<=T.n){i:Nat}(hi:i<S.j){g g':aX}(hg:gs[T.m0+i]?=some g)(fu:S.cl i=none)(h7:(D i).stage=7)(DG:(D i).deaf=0){s r:Nat}{tm:Bool}(hc:w.heap[T.ch i]?=some (.chan 0 #[] false s r tm))(hgo:stepG P false g w=.go g' (w.setChan (T.ch i) 0 #[] true s r tm) (gL (T.ch i)))(XT:mayWake P g=true)(RL:g'.status=.running)(hVi:V i w)(hE:D8 P T fa i (S.own (T.m0+i)) g' (w.setChan (T.ch i) 0 #[] true s r tm)):
  ∃gK w' S' D' x' tag' a' y' st' sm' ops,runT P (crowd gs w sl) (T.m0+i)=(.next (crowd gK w' sl),ops)/\S'.j=S.j/\gl P T V fa cO Fin t0 w0 gK w' (t++ops) S' D' x' tag' a' y' st' sm'/\Cf P T V (T.m0+i) S S' D D' tag tag' x x':=by
 have rN:i<T.n:=aa;have Lx:=hT.m0;have hh:=pE w (T.ch i) s r tm;have fE:(w.setChan (T.ch i) 0 #[] true s r tm).heap.size=w.heap.size:=by simp[World.setChan]
 have cy:T.ch i<w.heap.size:=(Array.getElem?_eq_some_iff.1 hc).1;obtain⟨C,v,m,e1,e2,e3⟩:=hE;have RN:MemOp.ofEvents (T.m0+i) g.frame.fn g.frame.place (gL (T.ch i))=#[{g:=T.m0+i,fn:=g.frame.fn,pos:=g.frame.place,act:=.access ⟨.obj (T.ch i),false,true⟩}]++#[{g:=T.m0+i,fn:=g.frame.fn,pos:=g.frame.place,act:=.close (T.ch i)}]:=by rw[ofEvents_eq];simp[MemAct.ofEvent,gL]
 have O9:TI T {S with cl:=upd S.cl i (some (t.size+1))} (t++MemOp.ofEvents (T.m0+i) g.frame.fn g.frame.place (gL (T.ch i))):=by
  rw[RN,<- dE];have hd1:Deaf (t++#[({g:=T.m0+i,fn:=g.frame.fn,pos:=g.frame.place,act:=.access ⟨.obj (T.ch i),false,true⟩}:MemOp)]) (T.m0+i)=0:=by
   have:=Deaf_own t (T.m0+i) g.frame.fn g.frame.place #[⟨.obj (T.ch i),false,true⟩];rw[h.deafW i hi,DG] at this;simpa[MemOp.ofEvents,MemAct.ofEvent,deafBehind] using this
  have h1:TI T S (t++#[({g:=T.m0+i,fn:=g.frame.fn,pos:=g.frame.place,act:=.access ⟨.obj (T.ch i),false,true⟩}:MemOp)]):=by
   refine h.ti.app hT h.tg (x:=T.m0+i) (.inr ⟨i,hi,rfl⟩) (fun op eP=>by simp at eP;rw[eP]) fun op eP b hb hm=>?_;simp at eP;subst eP;simp only[MemAct.touch?,ay] at hb;subst hb;refine .inr (.inr (.inr (.inr ⟨⟨fun b hb=>?_,fun k hk=>?_,hT.Ry i rN⟩,rfl⟩)))
   ·have:T.ch i=b:=hb;subst this;exact hT.ch i rN
   ·obtain⟨a',e,_⟩:=hT.ownSh k _ hk;cases e
  have h2:=h1.close hi fu (z:={g:=T.m0+i,fn:=g.frame.fn,pos:=g.frame.place,act:=.close (T.ch i)}) rfl rfl hd1;simpa using h2
 have lQ:∀a,T.jW i (.cell a)->(w.setChan (T.ch i) 0 #[] true s r tm).cell? a=w.cell? a:=fun a ha=>by
  obtain⟨a',e,hs⟩:=hT.ownSh i _ ha;cases e;exact cell_of (hh _ (bp ((hT.sh _ hs).2.2 i rN)))
 obtain⟨gK,tag',a',y',r1,r2,r3,r4⟩:=gl.worker (sl:=sl) hT hV h hi tD hg hgo (S':={S with cl:=upd S.cl i (some (t.size+1))}) (d':=⟨7,m,0⟩) (ld':=.inr m) (st':=st) (sm':=sm) rfl O9 ⟨h.tg.new,h.tg.one,h.tg.mem⟩
  rfl (fun _ _=>rfl) (fun _ _=>rfl) (fun k hk=>by simp only;rw[upd_ne _ _ hk]) (fun z b hb=>by rw[fE];exact h.lt z b hb) (bG fE.symm) (Ce hT rN (fun b hb=>h.tg.new _ b hb))
  (fun k hk Pe=>Lt hT aa Pe rN (fun b hb=>h.tg.new _ b hb) hc) (Ce hT rN (fun _ hb=>hb.elim)) (qD.Cc hT fun b hb=>hh b (bp ((hT.sh b hb).2.2 i rN)))
  (fun k hk=>by
   simp only;by_cases e:k=i
   ·subst e;rw[upd_same];rfl
   ·rw[upd_ne _ _ e];exact hk)
  (.inr ⟨by simp only;rw[upd_same];rfl,rfl,hV.v i w _ lQ hVi,C,v,e1,.r0 e2,e3⟩) (.inr ⟨XT,RL⟩)
  (fun k hk=>by
   by_cases e:k=i
   ·subst e;exact⟨s,r,tm,by simp[World.setChan,cy,upd_same]⟩
   ·obtain⟨s',r',tm',lP⟩:=h.chan k hk;exact⟨s',r',tm',by simp only;rw[upd_ne _ _ e,hh _ (fun x=>e (hT.xP _ _ hk rN x))];exact lP⟩)
  (fun i' k hk=>by
   simp only;by_cases e:k=i
   ·subst e;rw[upd_same];rfl
   ·rw[upd_ne _ _ e];exact h.UG i' k hk)
  (fun h6=>by simp at h6) (by rw[DG];simp[deafBehind,gL]) (fun e he=>by simp[gL] at he;rcases he with rfl|rfl<;>simp) (h.wg.of_block (hh _ (bp (hT.ch i rN).2)))
  (fun tag' ht _=>by
   have:=h.mode.same (i:=i) m 0;rw[h7] at this;exact this.retag ht)
 refine⟨gK,_,{S with cl:=upd S.cl i (some (t.size+1))},upd D i ⟨7,m,0⟩,_,tag',a',y',st,sm,_,r1,rfl,r3,.inl ?_⟩;have ev:=Vc_upd D (⟨7,m,0⟩:WD) hi;have es:=sumTo_upd D (⟨7,m,0⟩:WD) WD.stage hi;have el:=sumTo_upd S.cl (some (t.size+1)) (fun c=>if c=none then 1 else 0) hi;have c1:cnt (D i)=1:=by simp[cnt,h7]
 have c2:cnt (⟨7,m,0⟩:WD)=1:=rfl;have hv:Vc S.j (upd D i ⟨7,m,0⟩)=Vc S.j D:=aa;simp only[fu,if_true,h7] at el es;have hl:mL {S with cl:=upd S.cl i (some (t.size+1))}+1=mL S:=by
  simp only[mL];simpa using el
 simp only[pF];rw[hv,phi_retag _ _ r2];simp only[Ssum] at *;omega
end
end
section
open Go.ConcR (KK wgBlock WgAt stA smA rd wr mk Payload g_of_ofEvents loc_of_ofEvent)
variable [Payload]
section
variable {P:Program} {T:dm} {V:Nat->ae->Prop} {fa:Nat->(Nat->Prop)->ae->Prop} {cO Fin:eQ} {t0:Trace} {w0:ae}
 {gs:Array aX} {w w':ae} {t:Trace} {S S':jF} {D:Nat->WD} {x:Nat->lJ} {tag:CTag} {a:aX} {y:jG} {st sm:Int} {sl:Option (Nat×Nat)}
theorem gl.RP(hT:T.OK)(h:gl P T V fa cO Fin t0 w0 gs w t S D x tag a y st sm)(tD:S.j<=T.n){i:Nat}(hi:i<S.j){g g0:aX}{tr:Bool}(hg:gs[T.m0+i]?=some g)(fu:S.cl i=none)(h7:(D i).stage=7)(DG:(D i).deaf=0)(hx:x (T.m0+i)=.inl (i,⟨g0,S.own (T.m0+i),S.rc i,w⟩,tr))(KR:gO P T i V (D8 P T fa i) ⟨g0,S.own (T.m0+i),S.rc i,w⟩){k:Nat}{z:Value}{f:Bool}(hk:T.dep i k)(hcm:∀w1,cW T i (S.own (T.m0+i)) (S.rc i) w w1->stepG P false g0 w1=.comm g0 #[rcase (T.ch k) z] true (.recv f) w1 #[])(EU:∀w1,cW T i (S.own (T.m0+i)) (S.rc i) w w1->V k w1->gO P T i V (D8 P T fa i) ⟨Go.Conc.served g0 (recvd f z false),S.own (T.m0+i),fun b=>S.rc i b\/b=k,w1⟩)(hgg:stepG P false g w=stepG P false g0 w)(vT:S.cl k=none->tr=false):
  ∃gK w' S' D' x' tag' a' y' st' sm' ops,runT P (crowd gs w sl) (T.m0+i)=(.next (crowd gK w' sl),ops)/\S'.j=S.j/\gl P T V fa cO Fin t0 w0 gK w' (t++ops) S' D' x' tag' a' y' st' sm'/\Cf P T V (T.m0+i) S S' D D' tag tag' x x':=by
 have rN:i<T.n:=aa;have Pe:=hT.dep i k rN hk;have Io:k<T.n:=aa;have Lx:=hT.m0;have KN:(T.m0+i==0)=false:=dV;have eG:stepG P (T.m0+i==0) g w=.comm g0 #[rcase (T.ch k) z] true (.recv f) w #[]:=by rw[KN,hgg];exact hcm w (cW.refl w)
 have e0:MemOp.ofEvents (T.m0+i) g.frame.fn g.frame.place #[]=#[]:=by rw[ofEvents_eq];simp
 obtain⟨s,r,tm,hc⟩:=h.chan k Io;cases Hv:S.cl k with
 |none =>
  rw[Hv] at hc;have cJ:=crowd_waits (P:=P) (sl:=sl) hg eG (fun cc K2=>by simp at K2;subst K2;exact ways_recv_none hc (h.RJ _ _));rw[e0] at cJ;have AT:=h.put Lx hi (S':=S) (g':=parked g0 #[rcase (T.ch k) z] (.recv f)) (ld':=.inl (i,⟨g0,S.own (T.m0+i),S.rc i,w⟩,true)) (u:=#[]) rfl rfl rfl (fun _ _=>rfl) h.UG (by simpa using h.ti) aj aj h7
   (.inl ⟨fu,h7,DG,g0,true,rfl,KR,.inr ⟨rfl,k,z,f,hk,hcm,.inl ⟨rfl,Hv⟩⟩⟩)
  refine⟨_,w,S,D,_,tag,a,y,st,sm,#[],cJ,rfl,AT,.inr ⟨rfl,?_,fun k' lP=>by rw[upd_ne _ _ lP];exact iT.refl _⟩⟩;rw[upd_same,hx,vT Hv];exact⟨rfl,.inr ⟨rfl,rfl,rfl,rfl,rfl,cW.refl w⟩⟩
 |some p =>
  rw[Hv] at hc;have cJ:=crowd_recv_closed (P:=P) (sl:=sl) hg eG hc (h.RJ _ _);rw[e0,finishComm_recv] at cJ;have RQ:k<S.j:=aa;have hVk:V k w:=by
   obtain⟨gk,_,h2⟩:=h.wk k RQ;rcases h2 with⟨h3,_⟩|⟨_,_,h3,_⟩
   ·rw[Hv] at h3;cases h3
   ·exact h3
  have erc:({S with rc:=fun a b=>S.rc a b\/(a=i/\b=k)}:jF).rc i=fun b=>S.rc i b\/b=k:=by funext b;simp
  have O9:=h.ti.recv (i:=i) Hv (z:={g:=T.m0+i,fn:=g0.frame.fn,pos:=g0.frame.place,act:=.recvClosed (T.ch k)}) rfl rfl (by rw[h.deafW i hi,DG]);have AT:=h.put Lx hi (S':={S with rc:=fun a b=>S.rc a b\/(a=i/\b=k)}) (g':=Go.Conc.served g0 (recvd f z false)) (ld':=.inl (i,⟨Go.Conc.served g0 (recvd f z false),S.own (T.m0+i),fun b=>S.rc i b\/b=k,w⟩,false))
   (u:=#[{g:=T.m0+i,fn:=g0.frame.fn,pos:=g0.frame.place,act:=.recvClosed (T.ch k)}]) rfl rfl rfl (fun k' lP=>by funext b;simp[lP])
   (fun i' k' hr=>by
    rcases hr with hr|⟨_,rfl⟩
    ·exact h.UG i' k' hr
    ·rw[Hv];rfl) O9 (fun op eP=>by simp at eP;rw[eP]) (fun op eP m=>by simp at eP;rw[eP];simp) h7
   (.inl ⟨fu,h7,DG,Go.Conc.served g0 (recvd f z false),false,by rw[erc],by rw[erc];exact EU w (cW.refl w) hVk,.inl ⟨rfl,rfl⟩⟩)
  have eo:(#[]:Array MemOp)++#[({g:=T.m0+i,fn:=g0.frame.fn,pos:=g0.frame.place,act:=.recvClosed (T.ch k)}:MemOp)]=#[{g:=T.m0+i,fn:=g0.frame.fn,pos:=g0.frame.place,act:=.recvClosed (T.ch k)}]:=aj;rw[eo] at cJ;refine⟨_,w,{S with rc:=fun a b=>S.rc a b\/(a=i/\b=k)},D,_,tag,a,y,st,sm,_,cJ,rfl,AT,.inr ⟨rfl,?_,fun k' lP=>by rw[upd_ne _ _ lP];exact iT.refl _⟩⟩;rw[upd_same,hx];obtain⟨s',r',tm',hci⟩:=h.chan i rN;rw[fu] at hci;exact⟨rfl,.inl (.inr ⟨k,z,f,hk,cW.refl w,hVk,hcm w (cW.refl w),rfl,rfl,rfl,s',r',tm',hci⟩)⟩
theorem gl.RR(hT:T.OK)(hV:ky T V fa)(h:gl P T V fa cO Fin t0 w0 gs w t S D x tag a y st sm)(tD:S.j<=T.n){i:Nat}(hi:i<S.j){g:aX}(hg:gs[T.m0+i]?=some g)(cJ:g.status=.running)(fu:S.cl i=none):
  ∃gK w' S' D' x' tag' a' y' st' sm' ops,runT P (crowd gs w sl) (T.m0+i)=(.next (crowd gK w' sl),ops)/\S'.j=S.j/\gl P T V fa cO Fin t0 w0 gK w' (t++ops) S' D' x' tag' a' y' st' sm'/\Cf P T V (T.m0+i) S S' D D' tag tag' x x':=by
 have rN:i<T.n:=aa;obtain⟨g1,e1,hw⟩:=h.wk i hi;rw[hg] at e1;cases e1;rcases hw with⟨_,h7,DG,g0,tr,hx,KR,Q1⟩|⟨h1,_⟩
 ·have hr0:g0.status=.running:=KR.look.1;have hgg:stepG P false g w=stepG P false g0 w:=by
   rcases Q1 with⟨rfl,_⟩|⟨_,k,z,f,_,_,⟨rfl,_⟩|⟨rfl,_⟩⟩
   ·rfl
   ·cases cJ
   ·rw[stepG_tries]
    congr 1
    obtain⟨fr,cs,stt,dy,of⟩:=g0;simp only at hr0;subst hr0;rfl
  obtain⟨_,h1|⟨k,z,f,h1,h2,h3⟩|⟨XT,h1⟩⟩:=KR.look
  ·obtain⟨g',w',es,e1,e2,e3,e4⟩:=h1 w (cW.refl w);exact h.Vu hT hV tD hi hg fu h7 DG hx e1 (hgg.trans e1) e2 e3 e4
  ·refine h.RP hT tD hi hg fu h7 DG hx KR h1 h2 h3 hgg fun Hv=>?_;rcases Q1 with⟨_,ht⟩|⟨_,k',z',f',Vw,agN,⟨rfl,_⟩|⟨_,sH⟩⟩
   ·exact ht
   ·cases cJ
   ·exfalso;have ea:=h2 w (cW.refl w);have eb:=agN w (cW.refl w);simp only at ea;rw[ea] at eb;simp only[GStep.comm.injEq,Array.mk.injEq,cv,rcase,CommCase.mk.injEq,Value.chan.injEq,ay,and_true,true_and,CommShape.recv.injEq] at eb;have k1:=hT.dep i k rN h1;have k2:=hT.dep i k' rN Vw;obtain rfl:=hT.xP k k' aa aa eb.1.1;rw[Hv] at sH;cases sH
  ·obtain⟨s,r,tm,hc⟩:=h.chan i rN;rw[fu] at hc;obtain⟨g',e1,e2,e3,e4⟩:=h1 w (cW.refl w) s r tm hc;refine h.Ph hT hV tD hi hg fu h7 DG hc (hgg.trans e1) ?_ e2 e3 e4;rcases Q1 with⟨rfl,_⟩|⟨_,k,z,f,_,_,⟨rfl,_⟩|⟨rfl,_⟩⟩
   ·exact XT
   ·cases cJ
   ·exact XT
 ·rw[fu] at h1;cases h1
end
end
section
open Go.ConcR (KK wgBlock WgAt stA smA rd wr mk Payload DC0 Bk bk_of_mute g_of_ofEvents loc_of_ofEvent ofEvent_loc_mark)
variable [Payload]
structure Zi(T:dm)(S:jF)(i C:Nat)(w w':ae):Prop where
 Ls:dL T (S.own 0) w w'
 Cd:∀k,k<S.j->k≠i->cW T k (S.own (T.m0+k)) (S.rc k) w w'
 same:dL T (fun _=>False) w w'
 DJ:qD T S.j w w'
 size:w'.heap.size=w.heap.size
 chan:∀k,k<T.n->w'.heap[T.ch k]?=w.heap[T.ch k]?
 cells:∀a,T.jW i (.cell a)->w'.cell? a=w.cell? a
 own:∀b,S.own (T.m0+i) b->b≠C->w'.heap[b]?=w.heap[b]?
section
variable {P:Program} {T:dm} {V:Nat->ae->Prop} {fa:Nat->(Nat->Prop)->ae->Prop} {cO Fin:eQ} {t0:Trace} {w0:ae}
 {gs:Array aX} {w w':ae} {t:Trace} {S S':jF} {D:Nat->WD} {x:Nat->lJ} {tag:CTag} {a:aX} {y:jG} {st sm:Int} {sl:Option (Nat×Nat)}
theorem Nt(hT:T.OK)(hS:S.OK T)(tD:S.j<=T.n){i C:Nat}(h:Aside T.Wg w w')(hl:WgLive T.ty T.Wg w'):Zi T S i C w w':=by
 have fq:∀z b,S.own z b->b≠T.Wg:=fun z b hb=>by have:=hS.new z b hb;have:=hT.wg;omega
 refine⟨xR hT (fun b hb=>hS.new _ b hb) h hl,fun k hk _=>Nq hT aa (fun b hb=>hS.new _ b hb) h hl,xR hT (fun _ hb=>hb.elim) h hl,qD.Cc hT (fun b hb=>h.block b (hT.sh b hb).2.1),h.size,fun k hk=>h.block _ (hT.ch k hk).2,fun a ha=>?_,fun b hb _=>h.block b (fq _ b hb)⟩;obtain⟨a',e,hs⟩:=hT.ownSh i _ ha;cases e;exact cell_of (h.block _ (hT.sh _ hs).2.1)
theorem Pj(hT:T.OK)(h:gl P T V fa cO Fin t0 w0 gs w t S D x tag a y st sm)(tD:S.j<=T.n){i C:Nat}(hi:i<S.j)(hC:S.own (T.m0+i) C)(Gq:∀k,S.rc k i->True)(Nu:AsideCell C 0 (1-1) w w'):Zi T S i C w w'/\w'.heap[T.Wg]?=w.heap[T.Wg]?:=by
 have Lx:=hT.m0;have hCH:=h.tg.new _ C hC;have old:∀b,b<T.H0->w'.heap[b]?=w.heap[b]?:=fun b hb=>Nu.block b aa;have hg:O5 T (fun b=>b=C) w w':=⟨bG Nu.size.symm,fun b _ hb=>Nu.block b hb,Nu.os,Nu.output⟩;have Ly:∀z,z≠T.m0+i->∀b,S.own z b->b≠C:=fun z hz b hb e=>hz (h.tg.one _ _ _ hb (e▸hC));refine⟨⟨⟨hg.size,fun b hb=>Nu.block b (Ly 0 aa b hb),fun b h1 _ _ _=>old b h1,gu (old _ hT.wg),Nu.os,Nu.output⟩,fun k hk Pe=>hg.Cd hT aa h.h0 (fun b hb=>by rw[hb];exact hCH) (fun b hb=>⟨h.tg.new _ b hb,h.lt _ b hb,Ly _ aa b hb⟩),⟨hg.size,fun _ hb=>hb.elim,fun b h1 _ _ _=>old b h1,gu (old _ hT.wg),Nu.os,Nu.output⟩,
  qD.Cc hT (fun b hb=>old b (hT.sh b hb).1),Nu.size,fun k hk=>old _ (hT.ch k hk).1,fun a ha=>?_,fun b _ hb=>Nu.block b hb⟩,old _ hT.wg⟩
 obtain⟨a',e,hs⟩:=hT.ownSh i _ ha;cases e;exact cell_of (old _ (hT.sh _ hs).1)
theorem LA{i:Nat}(hi:i<S.j){d':WD}{tag':CTag}{x':Nat->lJ}(hs:tag'=tag\/(tag=.blk/\tag'=.w3))(h1:d'.stage<(D i).stage)(h2:cnt d'<=cnt (D i)):Cf P T V (T.m0+i) S S D (upd D i d') tag tag' x x':=by
 left;have e1:=sumTo_upd D d' cnt hi;have e2:=sumTo_upd D d' WD.stage hi;simp only[pF];rw[phi_retag _ _ hs];simp only[Vc,Ssum] at *;have:=phi_mono T.n (v':=sumTo S.j fun a=>cnt (upd D i d' a)) (v:=sumTo S.j fun a=>cnt (D a)) aa tag;omega
theorem Pk{i:Nat}(hi:i<S.j){m':Nat}{dd:Nat}{tag':CTag}{x':Nat->lJ}(hs:tag'=tag\/(tag=.blk/\tag'=.w3))(hx:x (T.m0+i)=.inr (D i).fuel)(mf:x' (T.m0+i)=.inr m')(hm:m'<(D i).fuel)(ho:∀k,k≠T.m0+i->iT T (x' k) (x k)):
  Cf P T V (T.m0+i) S S D (upd D i ⟨(D i).stage,m',dd⟩) tag tag' x x':=by
 refine .inr ⟨?_,by rw[hx,mf];exact hm,ho⟩;have e1:=sumTo_upd D (⟨(D i).stage,m',dd⟩:WD) cnt hi;have e2:=sumTo_upd D (⟨(D i).stage,m',dd⟩:WD) WD.stage hi;have ec:cnt (⟨(D i).stage,m',dd⟩:WD)=cnt (D i):=rfl;simp only[pF];rw[phi_retag _ _ hs];have ev:Vc S.j (upd D i ⟨(D i).stage,m',dd⟩)=Vc S.j D:=by simp only[Vc] at *;omega
 have lY:Ssum S.j (upd D i ⟨(D i).stage,m',dd⟩)=Ssum S.j D:=by simp only[Ssum] at *;omega
 rw[ev,lY]
theorem Ch{z:Nat}{fn:FuncId}{pos:String}{es:Array Event}(h:∀e∈es,Bk T.Wg e):∀op∈MemOp.ofEvents z fn pos es,∀b,op.act.touch?=some b->b.loc.isMemory=true->xQ T S z b:=by
 intro op eP b hb _;obtain⟨e,he,rfl⟩:=Go.Conc.mem_ofEvents eP;rcases h e he with h1|h1|⟨a,p6,rfl,ha⟩
 ·simp only[ofEvent_loc_mark h1] at hb;cases hb
 ·simp only[ofEvent_loc_mark h1] at hb;cases hb
 ·simp only[ofEvent_cell0,MemAct.touch?,ay] at hb;subst hb;exact .inl ⟨ha,aj,aj⟩
theorem RS{i d:Nat}(h:∃r,T.T0<=r/\RelBy (stA T.Wg) t (T.m0+i) r/\∀i' a,r<i'->t.g? i'=some (T.m0+i)->touchAt t i'=some a->tW (fun b=>b=T.Wg) a.loc/\a.kind=.atomic)(Zj:Deaf t (T.m0+i)=d)(fn:FuncId)(pos:String){es:Array Event}(Ig:∀e∈es,Bk T.Wg e)(hd:∀j e,es[j]?=some e->(MemAct.ofEvent e).touch?=none\/0<deafBehind d (es.extract 0 j)):
  ∃r,T.T0<=r/\RelBy (stA T.Wg) (t++MemOp.ofEvents (T.m0+i) fn pos es) (T.m0+i) r/\∀i' a,r<i'->(t++MemOp.ofEvents (T.m0+i) fn pos es).g? i'=some (T.m0+i)->touchAt (t++MemOp.ofEvents (T.m0+i) fn pos es) i'=some a->tW (fun b=>b=T.Wg) a.loc/\a.kind=.atomic:=by
 obtain⟨r,h1,h2,h3⟩:=h;refine⟨r,h1,h2.book Zj fn pos Ig hd,fun i' a ma Vr XR=>?_⟩;obtain⟨z,hz,vD⟩:=touch_of XR;rcases getElem?_append_cases hz with⟨cy,DF⟩|⟨_,Ht⟩
 ·exact h3 i' a ma (by rw[<- g?_old (u:=MemOp.ofEvents (T.m0+i) fn pos es) cy];exact Vr) (by rw[touchAt_of DF];exact vD)
 ·obtain⟨e,he,rfl⟩:=Go.Conc.mem_ofEvents Ht;rcases Ig e he with k1|k1|⟨ad,p6,rfl,ha⟩
  ·simp only[ofEvent_loc_mark k1] at vD;cases vD
  ·simp only[ofEvent_loc_mark k1] at vD;cases vD
  ·simp only[ofEvent_cell0,MemAct.touch?,ay] at vD;subst vD;exact⟨ha,rfl⟩
theorem gl.RU(hT:T.OK)(hV:ky T V fa)(hn:T.n<2147483648)(h:gl P T V fa cO Fin t0 w0 gs w t S D x tag a y st sm)(tD:S.j<=T.n){i:Nat}(hi:i<S.j){g:aX}(hg:gs[T.m0+i]?=some g)(cJ:g.status=.running)(fu:(S.cl i).isSome=true)(akj:Vc S.j D+pend tag<=T.n):
  ∃gK w' S' D' x' tag' a' y' st' sm' ops,runT P (crowd gs w sl) (T.m0+i)=(.next (crowd gK w' sl),ops)/\S'.j=S.j/\gl P T V fa cO Fin t0 w0 gK w' (t++ops) S' D' x' tag' a' y' st' sm'/\Cf P T V (T.m0+i) S S' D D' tag tag' x x':=by
 have rN:i<T.n:=aa;obtain⟨g1,e1,hw⟩:=h.wk i hi;rw[hg] at e1;cases e1;rcases hw with⟨h1,_⟩|⟨_,hx,hVi,C,v,hC,hs,oB⟩
 ·rw[h1] at fu;cases fu
 have hVj:=Vc_le S.j D;have step:∀{g':aX} {w':ae} {es:Array Event} {d':WD} {st' sm':Int},stepG P false g w=.go g' w' es->Zi T S i C w w'->WgAt T.ty T.Wg w' st' sm'->TI T S (t++MemOp.ofEvents (T.m0+i) g.frame.fn g.frame.place es) ->
   WSit P T.ty T.Wg C 0 qU qU 0 1 v d'.stage d'.fuel d'.deaf g' w'->deafBehind (D i).deaf es=d'.deaf->(∀e∈es,e.loc≠.mark (.release (stA T.Wg))) ->
   (d'.stage<=6->∃r,T.T0<=r/\RelBy (stA T.Wg) (t++MemOp.ofEvents (T.m0+i) g.frame.fn g.frame.place es) (T.m0+i) r/\∀i' a,r<i'->(t++MemOp.ofEvents (T.m0+i) g.frame.fn g.frame.place es).g? i'=some (T.m0+i)->touchAt (t++MemOp.ofEvents (T.m0+i) g.frame.fn g.frame.place es) i'=some a->tW (fun b=>b=T.Wg) a.loc/\a.kind=.atomic) ->
   (∀tag',(tag'=tag\/(tag=.blk/\tag'=.w3))->(mayWake P g=true->g'.status=.running->tag'≠.blk)->Go.ConcN.Mode S.j (upd D i d') tag' st' sm') ->
   ((d'.stage<(D i).stage/\cnt d'<=cnt (D i))\/(d'.stage=(D i).stage/\d'.fuel<(D i).fuel)) ->
   ∃gK w' S' D' x' tag' a' y' st' sm' ops,runT P (crowd gs w sl) (T.m0+i)=(.next (crowd gK w' sl),ops)/\S'.j=S.j/\gl P T V fa cO Fin t0 w0 gK w' (t++ops) S' D' x' tag' a' y' st' sm'/\Cf P T V (T.m0+i) S S' D D' tag tag' x x':=by
  intro g' w' es d' st' sm' hgo KS Is O9 sH hdd hnr acx Ci cy;obtain⟨gK,tag',a',y',r1,r2,r3,r4⟩:=gl.worker (sl:=sl) hT hV h hi tD hg hgo (S':=S) (d':=d') (ld':=.inr d'.fuel) (st':=st') (sm':=sm') rfl O9 h.tg rfl (fun _ _=>rfl) (fun _ _=>rfl) (fun _ _=>rfl) (fun z b hb=>by rw[KS.size];exact h.lt z b hb) (bG KS.size.symm) KS.Ls KS.Cd KS.same KS.DJ (fun _ hk=>hk)
   (.inr ⟨fu,rfl,hV.v i w w' KS.cells hVi,C,v,hC,sH,hV.val i _ w w' KS.cells (fun b hb=>KS.own b hb.1 hb.2) oB⟩) (.inl rfl) (fun k hk=>by rw[KS.chan k hk];exact h.chan k hk) h.UG acx hdd hnr Is Ci
  refine⟨gK,w',S,upd D i d',_,tag',a',y',st',sm',_,r1,rfl,r3,?_⟩;rcases cy with⟨q1,q2⟩|⟨q1,q2⟩
  ·exact LA hi r2 q1 q2
  ·have e:d'=⟨(D i).stage,d'.fuel,d'.deaf⟩:=by rw[<- q1]
   rw[e];exact Pk hi r2 hx (by rw[<- e,upd_same]) q2 (fun k hk=>by rw[upd_ne _ _ hk];exact r4 k hk)
 have Zj:=h.deafW i hi;generalize eG:(D i).stage=s at hs step;generalize XU:(D i).fuel=m at hs step;generalize hde:(D i).deaf=dd at hs step;rw[hde] at Zj;have akk:(MemOp.ofEvents (T.m0+i) g.frame.fn g.frame.place #[])=#[]:=by rw[ofEvents_eq];simp
 have book:∀{g':aX} {w':ae} {es:Array Event} {s' m' dd':Nat} {st' sm':Int},stepG P false g w=.go g' w' es->Aside T.Wg w w'->WgAt T.ty T.Wg w' st' sm'->(∀e∈es,Bk T.Wg e) ->
   (∀jx e,es[jx]?=some e->(MemAct.ofEvent e).touch?=none\/0<deafBehind dd (es.extract 0 jx))->WSit P T.ty T.Wg C 0 qU qU 0 1 v s' m' dd' g' w'->deafBehind dd es=dd'->s<=6 ->
   (∀tag',(tag'=tag\/(tag=.blk/\tag'=.w3))->(mayWake P g=true->g'.status=.running->tag'≠.blk)->Go.ConcN.Mode S.j (upd D i ⟨s',m',dd'⟩) tag' st' sm')->((s'<s/\cnt ⟨s',m',dd'⟩<=cnt (D i))\/(s'=s/\m'<m)) ->
   ∃gK w' S' D' x' tag' a' y' st' sm' ops,runT P (crowd gs w sl) (T.m0+i)=(.next (crowd gK w' sl),ops)/\S'.j=S.j/\gl P T V fa cO Fin t0 w0 gK w' (t++ops) S' D' x' tag' a' y' st' sm'/\Cf P T V (T.m0+i) S S' D D' tag tag' x x':=by
  intro g' w' es s' m' dd' st' sm' hgo Zk Is bN hd sH hdd h6 Ci cy;exact step (d':=⟨s',m',dd'⟩) hgo (Nt hT h.tg tD Zk ⟨_,_,Is⟩) Is (h.ti.app hT h.tg (x:=T.m0+i) (.inr ⟨i,hi,rfl⟩) g_of_ofEvents (Ch bN)) sH hdd (fun e he=>norel_of_Bk bN e he)
   (fun _=>RS (h.rel i hi aa) Zj _ _ bN hd) Ci cy
 have idle:∀{g':aX} {m':Nat},stepG P false g w=.go g' w #[]->WSit P T.ty T.Wg C 0 qU qU 0 1 v s m' dd g' w->m'<m->s<=6 ->
   ∃gK w' S' D' x' tag' a' y' st' sm' ops,runT P (crowd gs w sl) (T.m0+i)=(.next (crowd gK w' sl),ops)/\S'.j=S.j/\gl P T V fa cO Fin t0 w0 gK w' (t++ops) S' D' x' tag' a' y' st' sm'/\Cf P T V (T.m0+i) S S' D D' tag tag' x x':=by
  intro g' m' hgo sH hm h6;exact book hgo (.refl T.Wg w) h.wg aj aj sH rfl h6 (fun tag' ht _=>by have:=h.mode.same (i:=i) m' dd;rw[eG] at this;exact this.retag ht) (.inr ⟨rfl,hm⟩)
 cases hs with
 |r0 ua =>
  rcases Goes.cases ua with pw|⟨m',rfl,kP⟩
  ·obtain⟨_,_,g',hgo,m₂,hk⟩:=pw w (RW.refl w);refine step (d':=⟨6,m₂,0⟩) hgo (Nt hT h.tg tD (.refl T.Wg w) ⟨_,_,h.wg⟩) h.wg (h.ti.mute (y:=T.m0+i) g_of_ofEvents fun op eP=>?_) (.k1 hk) rfl (by intro e he;simp at he;subst he;simp[Go.ConcR.mk]) (fun _=>⟨t.size,h.ti.len,RelBy.new Zj _ _,fun i' b ma _ htb=>?_⟩)
    (fun tag' ht _=>(h.mode.counted hi aa (.inl rfl) _ _).retag ht) (.inl ⟨aj,by simp[cnt,eG]⟩)
   ·obtain⟨e,he,rfl⟩:=Go.Conc.mem_ofEvents eP;simp at he;subst he;rfl
   ·obtain⟨z,hz,_⟩:=touch_of htb;have:=lt_size_of_getElem? hz;rw[ofEvents_eq] at this;simp at this;omega
  ·obtain⟨g',w',es,hgo,⟨Nu,jg⟩,Am⟩:=kP w (RW.refl w);obtain⟨KS,Zh⟩:=Pj hT h tD hi hC (fun _ _=>trivial) Nu;refine step (d':=⟨7,m',0⟩) hgo KS (h.wg.of_block Zh) (h.ti.app hT h.tg (x:=T.m0+i) (.inr ⟨i,hi,rfl⟩) g_of_ofEvents fun op eP b hb hm=>?_) (.r0 Am) (deafBehind_idle (fun e he=>⟨(jg e he).2.1,(jg e he).2.2.1⟩) 0) (fun e he=>(jg e he).2.2.2) (fun h6=>by simp at h6)
    (fun tag' ht _=>by have:=h.mode.same (i:=i) m' 0;rw[eG] at this;exact this.retag ht) (.inr ⟨rfl,aj⟩)
   obtain⟨e,he,rfl⟩:=Go.Conc.mem_ofEvents eP;rcases((jg e he).1 g.frame.fn g.frame.place).2 b hb with⟨⟨ad,e1,e2⟩,h2,h3⟩|h2|⟨h2,_⟩
   ·refine .inl ⟨?_,h2,fun e=>absurd e h3⟩;rw[e1];exact e2
   ·exact h2.elim
   ·exact h2.elim
 |k1 ua =>
  rcases Goes.cases ua with pw|⟨m',rfl,kP⟩
  ·obtain⟨_,g',hgo,m₂,hk⟩:=pw w (RW.refl w);exact book hgo (.refl T.Wg w) h.wg (by intro e he;simp at he;subst he;exact .inl rfl) (by intro jx e he;exact .inl (by have:=dW he;simp at this;subst this;rfl)) (.d1 hk) rfl aa
    (fun tag' ht _=>(h.mode.counted hi aa (.inr rfl) _ _).retag ht) (.inl ⟨aa,by simp[cnt,eG]⟩)
  ·obtain⟨g',w',es,hgo,⟨rfl,rfl⟩,Am⟩:=kP w (RW.refl w);exact idle hgo (.k1 Am) aa aa
 |d1 ua =>
  rcases Goes.cases ua with pw|⟨m',rfl,kP⟩
  ·obtain⟨_,iB⟩:=pw w (RW.refl w);have Vx:cnt (D i)=1:=by simp[cnt,eG]
   have hV1:1<=Vc S.j D:=by have:=le_sumTo (f:=fun x=>cnt (D x)) hi;simp only[Vc];omega
   have bk2:∀e∈#[rd (stA T.Wg),wr (stA T.Wg)],Bk T.Wg e:=bk_rw;have df2:∀jx e,(#[rd (stA T.Wg),wr (stA T.Wg)]:Array Event)[jx]?=some e->(MemAct.ofEvent e).touch?=none\/0<deafBehind 1 ((#[rd (stA T.Wg),wr (stA T.Wg)]:Array Event).extract 0 jx):=by
    intro jx e he
    match jx,he with
    |0,_=>exact .inr (by simp[deafBehind])
    |1,_=>exact .inr (by simp[deafBehind,rd])
    |jx+2,he=>simp at he
   have hq0:∀q,cnt (⟨1,q,1⟩:WD)=0:=fun _=>rfl;have opq:∀q,OpenSt S.j D->OpenSt S.j (upd D i ⟨1,q,1⟩):=fun q hh b hb=>by
    by_cases e:b=i
    ·subst e;rw[upd_same];simp
    ·rw[upd_ne D _ e];exact hh b hb
   have jY:=h.mode;have pj:=h.wg;cases jY with
   |opn h1 h2 h3 =>
    obtain⟨n1,hn1⟩:∃n1,Vc S.j D+pend tag=n1+1:=⟨Vc S.j D+pend tag-1,aa⟩;rw[hn1] at pj;have qW:WgAt T.ty T.Wg w (((n1:Nat)+1)*KK+((0:Nat):Int)) 0:=by simpa using pj
    obtain⟨g',hgo,_,hq⟩:=iB n1 0 aa aa qW;obtain⟨q,hq⟩:=hq aa;have xl:Vc S.j (upd D i ⟨1,q,1⟩)+pend tag=n1:=by have:=Vc_upd D (⟨1,q,1⟩:WD) hi;have:=hq0 q;omega
    refine book hgo (aside_setCell w (stA T.Wg) _) (pj.setSt _) bk2 df2 (.quit hq) rfl aa (fun tag' ht _=>Mode.retag ?_ ht) (.inl ⟨aa,by simp[cnt]⟩);have e:((n1:Nat):Int)*KK+((0:Nat):Int)=((Vc S.j (upd D i ⟨1,q,1⟩)+pend tag:Nat):Int)*KK:=by rw[xl];simp
    rw[e];exact .opn h1 (opq q h2) (fun vs ev=>by have:=h3 vs ev;omega)
   |reg h1 h2 h3 =>
    obtain⟨n1,hn1⟩:∃n1,Vc S.j D=n1+1:=⟨Vc S.j D-1,aa⟩;rw[hn1] at pj;have qW:WgAt T.ty T.Wg w (((n1:Nat)+1)*KK+((1:Nat):Int)) 0:=by simpa using pj
    obtain⟨g',hgo,hl,hq⟩:=iB n1 1 aa aa qW;by_cases OE:n1=0
    ·subst OE;obtain⟨m₂,hk⟩:=hl ⟨rfl,rfl⟩;refine book hgo (aside_setCell w (stA T.Wg) _) (pj.setSt _) bk2 df2 (.d2 hk) rfl aa (fun tag' ht _=>Mode.retag ?_ ht) (.inl ⟨aa,by simp[cnt]⟩);have AS:∀b,b<S.j->b≠i->(D b).stage=1:=fun b hb e=>by
      have c0:=others_uncounted hi hn1 Vx b hb e;have:=h2 b hb;simp only[cnt] at c0;split at c0<;>omega
     have:=Mode.last (j:=S.j) (D:=upd D i ⟨4,m₂,1⟩) (tag:=tag) i h1 hi (by rw[upd_same];simp) (fun b hb e=>by rw[upd_ne D _ e];exact AS b hb e);rw[upd_same] at this;simpa using this
    ·obtain⟨q,hq⟩:=hq aa;have xl:Vc S.j (upd D i ⟨1,q,1⟩)=n1:=by have:=Vc_upd D (⟨1,q,1⟩:WD) hi;have:=hq0 q;omega
     refine book hgo (aside_setCell w (stA T.Wg) _) (pj.setSt _) bk2 df2 (.quit hq) rfl aa (fun tag' ht _=>Mode.retag ?_ ht) (.inl ⟨aa,by simp[cnt]⟩);have e:((n1:Nat):Int)*KK+((1:Nat):Int)=((Vc S.j (upd D i ⟨1,q,1⟩):Nat):Int)*KK+1:=by rw[xl];simp
     rw[e];exact .reg h1 (opq q h2) aa
   |last L _ h2 h3 h4 =>
    by_cases e:i=L
    ·subst e;omega
    ·have:=h4 i hi e;omega
   |sema h2=>have:=h2 i hi;omega
   |fin _ h2=>have:=h2 i hi;omega
  ·obtain⟨g',w',es,hgo,⟨rfl,rfl⟩,Am⟩:=kP w (RW.refl w);exact idle hgo (.d1 Am) aa aa
 |d2 ua =>
  rcases Goes.cases ua with pw|⟨m',rfl,kP⟩
  ·obtain⟨_,mf⟩:=pw w (RW.refl w);obtain⟨sx,AS,e1,e2⟩:=h.mode.isLast hi aa;have pj:=h.wg;rw[e1,e2] at pj;simp only[eG] at pj;have It:WgAt T.ty T.Wg w 1 0:=by simpa using pj
   obtain⟨g',hgo,m₂,hk⟩:=mf It;refine book hgo (.refl T.Wg w) It bk_rd (by intro jx e he;match jx,he with|0,_=>exact .inr (by simp[deafBehind])|jx+1,he=>simp at he) (.d3 hk) rfl aa (fun tag' ht _=>Mode.retag ?_ ht) (.inl ⟨aa,by simp[cnt]⟩);have:=Mode.last (j:=S.j) (D:=upd D i ⟨3,m₂,1⟩) (tag:=tag) i sx hi (by rw[upd_same];simp) (fun b hb e=>by rw[upd_ne D _ e];exact AS b hb e);rw[upd_same] at this;simpa using this
  ·obtain⟨g',w',es,hgo,⟨rfl,rfl⟩,Am⟩:=kP w (RW.refl w);exact idle hgo (.d2 Am) aa aa
 |d3 ua =>
  rcases Goes.cases ua with pw|⟨m',rfl,kP⟩
  ·obtain⟨_,mf⟩:=pw w (RW.refl w);obtain⟨sx,AS,e1,e2⟩:=h.mode.isLast hi aa;have pj:=h.wg;rw[e1,e2] at pj;simp only[eG] at pj;have It:WgAt T.ty T.Wg w 1 0:=by simpa using pj
   obtain⟨g',hgo,m₂,hk⟩:=mf It;refine book hgo (aside_setCell w (stA T.Wg) _) (It.setSt 0) (by intro e he;simp at he;subst he;exact bk_cell _ _ rfl) (by intro jx e he;match jx,he with|0,_=>exact .inr (by simp[deafBehind])|jx+1,he=>simp at he) (.d4 hk) rfl aa (fun tag' ht _=>Mode.retag ?_ ht) (.inl ⟨aa,by simp[cnt]⟩);have:=Mode.last (j:=S.j) (D:=upd D i ⟨2,m₂,1⟩) (tag:=tag) i sx hi (by rw[upd_same];simp) (fun b hb e=>by rw[upd_ne D _ e];exact AS b hb e);rw[upd_same] at this;simpa using this
  ·obtain⟨g',w',es,hgo,⟨rfl,rfl⟩,Am⟩:=kP w (RW.refl w);exact idle hgo (.d3 Am) aa aa
 |d4 ua =>
  rcases Goes.cases ua with pw|⟨m',rfl,kP⟩
  ·obtain⟨_,XT,mf⟩:=pw w (RW.refl w);obtain⟨sx,AS,e1,e2⟩:=h.mode.isLast hi aa;have pj:=h.wg;rw[e1,e2] at pj;simp only[eG] at pj;have It:WgAt T.ty T.Wg w 0 0:=by simpa using pj
   obtain⟨g',hgo,q,hq⟩:=mf It;have RL:g'.status=.running:=by
    cases q with
    |zero=>exact absurd hq.2 eu
    |succ q=>exact hq.elim (fun x=>absurd x.2 eu) (fun x=>x.1)
   refine book hgo (aside_setCell w (smA T.Wg) _) (It.setSm 1) (es:=semEvents (smA T.Wg)) bk_sem ?_ (.quit hq) (by simp[deafBehind,semEvents]) aa ?_ (.inl ⟨aa,by simp[cnt]⟩)
   ·intro jx e he
    match jx,he with
    |0,he=>simp[semEvents] at he;subst he;exact .inl rfl
    |1,_=>exact .inr (by simp[deafBehind,semEvents])
    |2,_=>exact .inr (by simp[deafBehind,semEvents])
    |3,he=>simp[semEvents] at he;subst he;exact .inl rfl
    |jx+4,he=>simp[semEvents] at he
   ·intro tag' ht hw;have Gh:=hw XT RL;have e3:tag'=.w3:=by
     rcases ht with rfl|⟨_,rfl⟩
     ·cases tag'<;>first|rfl|exact sx.elim|exact absurd rfl Gh
     ·rfl
    subst e3;exact .sema fun b hb=>by
     by_cases e:b=i
     ·subst e;rw[upd_same]
     ·rw[upd_ne D _ e];exact AS b hb e
  ·obtain⟨g',w',es,hgo,⟨rfl,rfl⟩,Am⟩:=kP w (RW.refl w);exact idle hgo (.d4 Am) aa aa
 |quit hq =>
  cases m with
  |zero=>rw[hq.1] at cJ;cases cJ
  |succ q =>
   rcases hq with⟨hf,_⟩|⟨_,g',es,XV,kP,Bc⟩
   ·rw[hf] at cJ;cases cJ
   ·have bN:∀e∈es,Bk T.Wg e:=fun e he=>bk_of_mute (XV e he);refine book (kP w) (.refl T.Wg w) h.wg bN (fun jx e he=>.inl (touch_mute (XV e (dW he)))) (.quit Bc) rfl aa (fun tag' ht _=>by have:=h.mode.same (i:=i) q (deafBehind dd es);rw[eG] at this;exact this.retag ht) (.inr ⟨rfl,aa⟩)
end
end
section
open Go.ConcR (KK wgBlock WgAt stA smA rd wr mk Payload DC0 Bk g_of_ofEvents loc_of_ofEvent ofEvent_loc_mark)
variable [Payload]
section
variable {P:Program} {T:dm} {V:Nat->ae->Prop} {fa:Nat->(Nat->Prop)->ae->Prop} {cO Fin:eQ} {t0:Trace} {w0:ae}
 {gs:Array aX} {w w':ae} {t:Trace} {S S':jF} {D:Nat->WD} {x:Nat->lJ} {tag:CTag} {a:aX} {y:jG} {st sm:Int} {sl:Option (Nat×Nat)}
theorem RV(hT:T.OK)(hS:S.OK T){o':Nat->Prop}(hh:T.H0<=w.heap.size)(hl:∀z b,S.own z b->b<w.heap.size)(ho:∀b,o' b->S.own 0 b\/w.heap.size<=b):({S with own:=upd S.own 0 o'}:jF).OK T:=by
 have key:∀z b,(upd S.own 0 o') z b->S.own z b\/(z=0/\w.heap.size<=b):=by
  intro z b hb;by_cases e:z=0
  ·subst e;rw[upd_same] at hb;exact(ho b hb).imp id fun hh=>⟨rfl,hh⟩
  ·rw[upd_ne _ _ e] at hb;exact .inl hb
 refine⟨fun z b hb=>?_,fun z z' b h1 h2=>?_,fun z b hb=>?_⟩
 ·rcases key z b hb with h|⟨_,h⟩
  ·exact hS.new z b h
  ·omega
 ·rcases key z b h1 with h1|⟨e1,h1⟩<;>rcases key z' b h2 with h2|⟨e2,h2⟩
  ·exact hS.one z z' b h1 h2
  ·have:=hl z b h1;omega
  ·have:=hl z' b h2;omega
  ·rw[e1,e2]
 ·rcases key z b hb with h|⟨e,_⟩
  ·exact hS.mem z b h
  ·exact .inl e
theorem gl.main(hT:T.OK)(hV:ky T V fa)(h:gl P T V fa cO Fin t0 w0 gs w t S D x tag a y st sm)(tD:S.j<=T.n){a':aX}{es:Array Event}(hgo:stepG P true a w=.go a' w' es){o':Nat->Prop}{tag':CTag}{y':jG}{st' sm':Int}(ho:∀b,S.own 0 b->o' b)(zh:∀b,o' b->S.own 0 b\/(w.heap.size<=b/\b<w'.heap.size))(O3:∀op∈MemOp.ofEvents 0 a.frame.fn a.frame.place es,∀b,op.act.touch?=some b->b.loc.isMemory=true->xQ T {S with own:=upd S.own 0 o'} 0 b)(fE:w.heap.size<=w'.heap.size)(RF:∀k,k<S.j->cW T k (S.own (T.m0+k)) (S.rc k) w w')(oz:dL T (fun _=>False) w w')(Pb:qD T S.j w w')(vC:∀k,k<T.n->w'.heap[T.ch k]?=w.heap[T.ch k]?)(Iu:jL P T V fa cO Fin tag' o' a' w' y')(Zl:mz T.n tag' S.j (deafBehind (Deaf t 0) es))(Lw:∀e∈es,e.loc≠.mark (.release (stA T.Wg)))(pj:WgAt T.ty T.Wg w' st' sm')(jY:Go.ConcN.Mode S.j D tag' st' sm'):
  ∃gK,runT P (crowd gs w sl) 0=(.next (crowd gK w' sl),MemOp.ofEvents 0 a.frame.fn a.frame.place es) /\
   gl P T V fa cO Fin t0 w0 gK w' (t++MemOp.ofEvents 0 a.frame.fn a.frame.place es) {S with own:=upd S.own 0 o'} D (fun k=>mA w' (x k)) tag' a' y' st' sm'/\∀k,iT T (mA w' (x k)) (x k):=by
 have Lx:=hT.m0;have cJ:=runT_crowd_go (P:=P) (sl:=sl) (i:=0) h.EZ (show stepG P (0==0) a w=_ from hgo);have AQ:0<gs.size:=by rw[h.size];omega
 have hu:∀op∈MemOp.ofEvents 0 a.frame.fn a.frame.place es,op.g=0:=g_of_ofEvents;have KP:∀k,k≠0->Deaf (t++MemOp.ofEvents 0 a.frame.fn a.frame.place es) k=Deaf t k:=fun k hk=>Deaf_other t (bp hk) _ hu;have Q2:=RV hT h.tg h.h0 h.lt fun b hb=>(zh b hb).imp id fun hh=>hh.1;have Hu:∀k,k<S.j->iT T (mA w' (x (T.m0+k))) (x (T.m0+k))/\∃gk,gs[T.m0+k]?=some gk/\KM P T V fa k (S.own (T.m0+k)) (S.rc k) S.cl (D k) (mA w' (x (T.m0+k))) (woken P a a' w' gk) w':=by
  intro k hk;obtain⟨gk,h1,h2⟩:=h.wk k hk;obtain⟨h3,h4⟩:=h2.O8 (cl':=S.cl) hV (RF k hk) (x:=a) (x':=a') rfl (fun _ hk=>hk) (fun k' hn _=>.inl hn) (fun k' hd=>by
   have lP:k'<T.n:=by have:=hT.dep k k' aa hd;omega
   rw[vC k' lP];exact h.chan k' lP)
  exact⟨h3,gk,h1,h4⟩
 refine⟨_,cJ,?_,?_⟩
 ·refine⟨by simp[h.size],by simp[AQ],by simp only[upd_same];exact Iu,by rw[Deaf_own];exact Zl,fun k k0 km=>?_,fun k hk=>?_,fun k hk=>?_,?_,fun k hk=>?_,fun k hk=>?_,?_,Q2,fun z b hb=>?_,aW h.h0 fE,pj,jY,fun k hk=>by rw[vC k hk];exact h.chan k hk,h.UG,h.Ze,h.UE,fun k hk eG=>rV (h.rel k hk eG) hu aa,uX h.norel Lw,uY h.UC fun z hz=>.inl (hu z hz),?_,h.same.trans oz,h.DJ.trans Pb,h.idle0⟩
  ·obtain⟨gk,q,h1,h2,h3⟩:=h.old k k0 km;have dH:0≠k:=aa;exact⟨gk,q,by rw[pG _ _ _ _ dH,h1,aJ,woken_quitsD h3],by rw[h2];rfl,by rw[KP k (bp dH)];exact h3⟩
  ·obtain⟨_,gk,h1,h2⟩:=Hu k hk;have dH:0≠T.m0+k:=aa;exact⟨_,by rw[pG _ _ _ _ dH,h1];rfl,by simp only;rw[upd_ne _ _ (bp dH)];exact h2⟩
  ·rw[h.rest k hk];rfl
  ·rw[h.zero];rfl
  ·rw[KP _ aa];exact h.deafW k hk
  ·have lP:gs.size<=k:=by simpa using hk
   rw[KP k aa];exact h.above k lP
  ·refine(h.ti.grow (own':=upd S.own 0 o') fun z b hb=>?_).app hT Q2 (x:=0) (.inl rfl) hu O3;by_cases e:z=0
   ·subst e;rw[upd_same];exact ho b hb
   ·rw[upd_ne _ _ e];exact hb
  ·simp only at hb;by_cases e:z=0
   ·subst e;rw[upd_same] at hb;rcases zh b hb with hb|hb
    ·exact bw (h.lt _ b hb) fE
    ·exact hb.2
   ·rw[upd_ne _ _ e] at hb;exact bw (h.lt _ b hb) fE
  ·obtain⟨U,hU⟩:=h.ext;exact⟨U++MemOp.ofEvents 0 a.frame.fn a.frame.place es,by rw[hU,dE]⟩
 ·intro k;rcases bg k with rfl|nt
  ·rw[h.zero];exact rfl
  ·rcases b5 k T.m0 with qe | Pf
   ·obtain⟨gk,q,_,h2,_⟩:=h.old k nt qe;rw[h2];exact rfl
   ·rcases b5 k (T.m0+S.j) with QX|DK
    ·have:=(Hu (k-T.m0) aa).1;rw[show T.m0+(k-T.m0)=k by omega] at this;exact this
    ·rw[h.rest k DK];exact rfl
theorem Iv{gs:Array aX}(a' child:aX){k:Nat}(hk:k<gs.size)(h0:0≠k):((gs.setIfInBounds 0 a').push child)[k]?=gs[k]?:=by
 rw[fG,if_neg dV,aS h0]
theorem Pm{gs:Array aX}(a' child:aX):((gs.setIfInBounds 0 a').push child)[gs.size]?=some child:=by
 rw[fG,if_pos aj]
theorem gl.spawn(hT:T.OK)(h:gl P T V fa cO Fin t0 w0 gs w t S D x tag a y st sm)(tD:S.j<T.n){a' child:aX}{hand:Nat->Prop}(vx:stepG P true a w=.spawn a' child w #[])(hh:∀b,hand b->S.own 0 b)(KR:gO P T S.j V (D8 P T fa S.j) ⟨child,hand,fun _=>False,w⟩)(DG:Deaf t 0=0){tag':CTag}{y':jG}(Iu:jL P T V fa cO Fin tag' (fun b=>S.own 0 b/\¬hand b) a' w y')(Zl:mz T.n tag' (S.j+1) 0)(jY:Go.ConcN.Mode (S.j+1) (upd D S.j ⟨7,0,0⟩) tag' st sm):
  ∃gK S' x' ops,runT P (crowd gs w sl) 0=(.next (crowd gK w sl),ops)/\S'.j=S.j+1/\S'.cl=S.cl/\gl P T V fa cO Fin t0 w0 gK w (t++ops) S' (upd D S.j ⟨7,0,0⟩) x' tag' a' y' st sm:=by
 have Lx:=hT.m0;have cJ:=runT_crowd_spawn (P:=P) (sl:=sl) (i:=0) h.EZ (show stepG P (0==0) a w=_ from vx);have qX:=h.size;have RN:((MemOp.ofEvents 0 a.frame.fn a.frame.place #[]).push {g:=0,fn:=a.frame.fn,pos:=a.frame.place,act:=.go gs.size} |>.push {g:=gs.size,fn:=child.frame.fn,pos:=a.frame.place,act:=.start}) =
   #[({g:=0,fn:=a.frame.fn,pos:=a.frame.place,act:=.go (T.m0+S.j)}:MemOp),{g:=T.m0+S.j,fn:=child.frame.fn,pos:=a.frame.place,act:=.start}]:=by
  rw[ofEvents_eq,qX];simp
 rw[RN] at cJ;have No:∀op∈#[({g:=0,fn:=a.frame.fn,pos:=a.frame.place,act:=.go (T.m0+S.j)}:MemOp),{g:=T.m0+S.j,fn:=child.frame.fn,pos:=a.frame.place,act:=.start}],op.act.touch?=none/\∀m,op.act≠.mark m:=by
  intro op eP;simp only[List.mem_toArray,bJ,dh,or_false] at eP;rcases eP with rfl|rfl
  ·exact⟨rfl,fun m=>aj⟩
  ·exact⟨rfl,fun m=>aj⟩
 have Vt:∀k,Deaf (t++#[({g:=0,fn:=a.frame.fn,pos:=a.frame.place,act:=.go (T.m0+S.j)}:MemOp),{g:=T.m0+S.j,fn:=child.frame.fn,pos:=a.frame.place,act:=.start}]) k=Deaf t k:=fun k=>Deaf_still t k _ fun op eP=>⟨(No op eP).2 _,(No op eP).2 _⟩;have AQ:0<gs.size:=by rw[qX];omega
 have fu:S.cl S.j=none:=h.Ze _ (ag _);have Gq:S.rc S.j=fun _=>False:=by funext b;simp;exact fun hb=>absurd (h.UE _ _ hb) (Nat.lt_irrefl _)
 have e1:∀z,z≠T.m0+S.j->z≠0->upd (upd S.own 0 (fun b=>S.own 0 b/\¬hand b)) (T.m0+S.j) hand z=S.own z:=fun z h1 h2=>by rw[upd_ne _ _ h1,upd_ne _ _ h2]
 have e2:upd (upd S.own 0 (fun b=>S.own 0 b/\¬hand b)) (T.m0+S.j) hand 0=fun b=>S.own 0 b/\¬hand b:=by rw[upd_ne _ _ aa,upd_same]
 have e3:upd (upd S.own 0 (fun b=>S.own 0 b/\¬hand b)) (T.m0+S.j) hand (T.m0+S.j)=hand:=upd_same _ _ _;have key:∀z b,upd (upd S.own 0 (fun b=>S.own 0 b/\¬hand b)) (T.m0+S.j) hand z b->(z=T.m0+S.j/\hand b)\/(z≠T.m0+S.j/\S.own z b/\(z=0->¬hand b)):=by
  intro z b hb;by_cases h1:z=T.m0+S.j
  ·subst h1;rw[e3] at hb;exact .inl ⟨rfl,hb⟩
  ·by_cases h2:z=0
   ·subst h2;rw[e2] at hb;exact .inr ⟨h1,hb.1,fun _=>hb.2⟩
   ·rw[e1 z h1 h2] at hb;exact .inr ⟨h1,hb,fun e=>absurd e h2⟩
 have noj:∀b,¬S.own (T.m0+S.j) b:=fun b hb=>by
  rcases h.tg.mem _ b hb with e|⟨i',ma,e⟩
  ·omega
  ·omega
 refine⟨_,{S with j:=S.j+1,own:=upd (upd S.own 0 (fun b=>S.own 0 b/\¬hand b)) (T.m0+S.j) hand},upd x (T.m0+S.j) (.inl (S.j,⟨child,hand,fun _=>False,w⟩,false)),_,cJ,rfl,rfl,?_⟩;refine⟨by simp[qX];omega,?_,by simp only;rw[e2];exact Iu,by rw[Vt,DG];exact Zl,fun k k0 km=>?_,fun k hk=>?_,fun k hk=>?_,?_,fun k hk=>?_,fun k hk=>?_,?_,⟨fun z b hb=>?_,fun z z' b h1 h2=>?_,fun z b hb=>?_⟩,fun z b hb=>?_,h.h0,h.wg,jY,h.chan,h.UG,fun k hk=>h.Ze k (by simp only at hk;omega),fun i' k hr=>by have:=h.UE i' k hr;simp only;omega,fun k hk eG=>?_,fun k hk e=>?_,?_,?_,h.same,h.DJ.mono (Nat.le_succ _),h.idle0⟩
 ·rw[dz (by simpa using AQ),<- aN];simp[AQ]
 ·obtain⟨gk,q,h1,h2,h3⟩:=h.old k k0 km;refine⟨gk,q,?_,by rw[upd_ne _ _ aa];exact h2,by rw[Vt];exact h3⟩;rw[Iv a' child (by rw[qX];omega) aa];exact h1
 ·simp only at hk |-;by_cases e:k=S.j
  ·subst e;refine⟨child,?_,.inl ⟨fu,by rw[upd_same],by rw[upd_same],child,false,by rw[upd_same,e3,Gq],by rw[e3,Gq];exact KR,.inl ⟨rfl,rfl⟩⟩⟩;rw[<- qX];exact Pm a' child
  ·obtain⟨gk,h1,h2⟩:=h.wk k aa;refine⟨gk,?_,by rw[e1 _ aa aa,upd_ne D _ e,upd_ne x _ aa];exact h2⟩;rw[Iv a' child (by rw[qX];omega) aa];exact h1
 ·simp only at hk;rw[upd_ne _ _ aa];exact h.rest k aa
 ·rw[upd_ne _ _ aa];exact h.zero
 ·simp only at hk;rw[Vt];by_cases e:k=S.j
  ·subst e;rw[upd_same];exact h.above _ (by rw[qX];exact ag _)
  ·rw[upd_ne _ _ e];exact h.deafW k aa
 ·rw[Vt];exact h.above k (by simp at hk;omega)
 ·exact h.ti.spawn (own':=upd (upd S.own 0 (fun b=>S.own 0 b/\¬hand b)) (T.m0+S.j) hand) ⟨rfl,rfl⟩ ⟨rfl,rfl⟩ DG (h.above _ (by rw[qX];exact ag _)) fun z b hb=>by
   by_cases h1:z=T.m0+S.j
   ·subst h1;exact absurd hb (noj b)
   ·by_cases h2:z=0
    ·subst h2;by_cases h3:hand b
     ·exact .inr ⟨rfl,by rw[e3];exact h3⟩
     ·exact .inl (by rw[e2];exact⟨hb,h3⟩)
    ·exact .inl (by rw[e1 z h1 h2];exact hb)
 ·rcases key z b hb with⟨_,h1⟩|⟨_,h1,_⟩
  ·exact h.tg.new 0 b (hh b h1)
  ·exact h.tg.new z b h1
 ·rcases key z b h1 with⟨k1,k2⟩|⟨k1,k2,k3⟩<;>rcases key z' b h2 with⟨l1,l2⟩|⟨l1,l2,l3⟩
  ·rw[k1,l1]
  ·have:=h.tg.one _ _ _ (hh b k2) l2;exact absurd k2 (l3 this.symm)
  ·have:=h.tg.one _ _ _ (hh b l2) k2;exact absurd l2 (k3 this.symm)
  ·exact h.tg.one _ _ _ k2 l2
 ·rcases key z b hb with⟨h1,_⟩|⟨_,h1,_⟩
  ·exact .inr ⟨S.j,bH _,h1⟩
  ·rcases h.tg.mem z b h1 with e|⟨i',ma,e⟩
   ·exact .inl e
   ·exact .inr ⟨i',Nat.lt_succ_of_lt ma,e⟩
 ·rcases key z b hb with⟨_,h1⟩|⟨_,h1,_⟩
  ·exact h.lt 0 b (hh b h1)
  ·exact h.lt z b h1
 ·simp only at hk;by_cases e:k=S.j
  ·subst e;rw[upd_same] at eG;simp at eG
  ·rw[upd_ne _ _ e] at eG;obtain⟨r,r1,r2,r3⟩:=h.rel k aa eG;refine⟨r,r1,r2.app fun i' ma Vr hc=>?_,fun i' b ma Vr XR=>?_⟩
   ·obtain⟨b,hb,_⟩:=hc;obtain⟨z,hz,vD⟩:=touch_of hb;rcases getElem?_append_cases hz with⟨cy,_⟩|⟨_,Ht⟩
    ·omega
    ·rw[(No z Ht).1] at vD;cases vD
   ·obtain⟨z,hz,vD⟩:=touch_of XR;rcases getElem?_append_cases hz with⟨cy,DF⟩|⟨_,Ht⟩
    ·refine r3 i' b ma ?_ (by rw[touchAt_of DF];exact vD);rw[<- Vr];simp[Trace.g?,hz,DF]
    ·rw[(No z Ht).1] at vD;cases vD
 ·obtain⟨op,ho,XQ⟩:=Option.map_eq_some_iff.1 e;rcases getElem?_append_cases ho with⟨cy,pD⟩|⟨_,RE⟩
  ·exact h.norel k hk (by rw[act?_of pD,XQ])
  ·exact(No op RE).2 _ XQ
 ·exact uY (fun i z hi hz=>(h.UC i z hi hz).imp id fun hh=>hh.imp (fun⟨k,hk,e⟩=>⟨k,Nat.lt_succ_of_lt hk,e⟩) id) fun z hz=>.inr (.inr (No z hz).1)
 ·obtain⟨U,hU⟩:=h.ext;exact⟨U++#[({g:=0,fn:=a.frame.fn,pos:=a.frame.place,act:=.go (T.m0+S.j)}:MemOp),{g:=T.m0+S.j,fn:=child.frame.fn,pos:=a.frame.place,act:=.start}],by rw[hU,dE]⟩
end
end
section
open Go.ConcR (KK wgBlock WgAt stA smA rd wr mk Payload DC0 Bk g_of_ofEvents loc_of_ofEvent ofEvent_loc_mark)
variable [Payload]
def Nv(P:Program)(T:dm)(S S':jF)(D D':Nat->WD)(tag tag':CTag)(x x':Nat->lJ)(y y':jG):Prop :=
 pF T S' D' tag'<pF T S D tag\/(pF T S' D' tag'=pF T S D tag/\(∀k,iT T (x' k) (x k))/\mK P T y' y)
section
variable {P:Program} {T:dm} {V:Nat->ae->Prop} {fa:Nat->(Nat->Prop)->ae->Prop} {cO Fin:eQ} {t0:Trace} {w0:ae}
 {gs:Array aX} {w w':ae} {t:Trace} {S S':jF} {D:Nat->WD} {x:Nat->lJ} {tag:CTag} {a:aX} {y:jG} {st sm:Int} {sl:Option (Nat×Nat)}
theorem mz.le{n:Nat}{tag:CTag}{j d:Nat}(h:mz n tag j d):j<=n:=by
 cases tag<;>simp only[mz] at h<;>omega
theorem mz.pend{n:Nat}{tag:CTag}{j d v:Nat}(h:mz n tag j d)(hv:v<=j):v+pend tag<=n:=by
 cases tag<;>simp only[mz,ConcN.pend] at h |-
 case sp r s=>split<;>omega
 all_goals omega
theorem jL.mk{tag:CTag}(dH:tag≠.blk){Stop:eQ}{o:Nat->Prop}{a:aX}{w:ae}(h:di P T Stop o a w)(e:kx P T V fa cO Fin tag=Stop):jL P T V fa cO Fin tag o a w (.inl (Stop,⟨a,o,w⟩)):=by
 rw[jL.eq dH,e];exact⟨h,rfl⟩
theorem Iw{o':Nat->Prop}{fn:FuncId}{pos:String}{es:Array Event}(h:∀e∈es,EvS T o' e):∀op∈MemOp.ofEvents 0 fn pos es,∀b,op.act.touch?=some b->b.loc.isMemory=true->xQ T {S with own:=upd S.own 0 o'} 0 b:=by
 intro op eP b hb hm;obtain⟨e,he,rfl⟩:=Go.Conc.mem_ofEvents eP;rcases(h e he).1 b hb hm with⟨h1,h2⟩|⟨c,h1,h2⟩|h1
 ·exact .inl ⟨h1,h2,fun _=>rfl⟩
 ·exact .inr (.inl ⟨c,by simp only[upd_same];exact h1,h2⟩)
 ·exact .inr (.inr (.inr (.inr h1)))
theorem gl.RX(hT:T.OK)(hV:ky T V fa)(hn:T.n<2147483648)(XX:∀o g w,cO o g w->di P T (QZ P T cO Fin) o g w)(h:gl P T V fa cO Fin t0 w0 gs w t S D x tag a y st sm)(cJ:a.status=.running):
  (tag=.acq/\∃g',stepG P true a w=.go g' w #[Go.ConcR.mk (.acquire (stA T.Wg))]/\Fin (S.own 0) g' w) \/
  ∃gK w' S' D' x' tag' a' y' st' sm' ops,runT P (crowd gs w sl) 0=(.next (crowd gK w' sl),ops)/\gl P T V fa cO Fin t0 w0 gK w' (t++ops) S' D' x' tag' a' y' st' sm'/\Nv P T S S' D D' tag tag' x x' y y':=by
 have Lx:=hT.m0;have tD:=h.tZ.le;have hVj:=Vc_le S.j D;have Ns:∀b,S.own 0 b->T.H0<=b:=fun b hb=>h.tg.new 0 b hb;have Gh:tag≠.blk:=by
  rintro rfl;obtain⟨a0,h1,_⟩:=h.Lv;rw[h1] at cJ;cases cJ
 have Iu:=h.Lv;rw[jL.eq Gh] at Iu;obtain⟨Q3,hy⟩:=Iu;have book:∀{a':aX} {w':ae} {es:Array Event} {tag':CTag} {y':jG} {st' sm':Int},stepG P true a w=.go a' w' es->Aside T.Wg w w'->WgAt T.ty T.Wg w' st' sm'->(∀e∈es,Bk T.Wg e)->jL P T V fa cO Fin tag' (S.own 0) a' w' y' ->
   mz T.n tag' S.j (deafBehind (Deaf t 0) es)->Go.ConcN.Mode S.j D tag' st' sm'->(phi T.n (Vc S.j D) tag'<phi T.n (Vc S.j D) tag\/(phi T.n (Vc S.j D) tag'=phi T.n (Vc S.j D) tag/\mK P T y' y)) ->
   ∃gK w' S' D' x' tag' a' y' st' sm' ops,runT P (crowd gs w sl) 0=(.next (crowd gK w' sl),ops)/\gl P T V fa cO Fin t0 w0 gK w' (t++ops) S' D' x' tag' a' y' st' sm'/\Nv P T S S' D D' tag tag' x x' y y':=by
  intro a' w' es tag' y' st' sm' hgo Zk Is bN sH htg Ci cy;obtain⟨gK,r1,r2,r3⟩:=h.main (sl:=sl) hT hV tD hgo (o':=S.own 0) (tag':=tag') (y':=y') (st':=st') (sm':=sm') (fun _ hb=>hb) (fun _ hb=>.inl hb) (by rw[Cg];exact Ch bN) (bG Zk.size.symm) (fun k hk=>Nq hT aa (fun b hb=>h.tg.new _ b hb) Zk ⟨_,_,Is⟩) (xR hT (fun _ hb=>hb.elim) Zk ⟨_,_,Is⟩)
   (qD.Cc hT fun b hb=>Zk.block b (hT.sh b hb).2.1) (fun k hk=>Zk.block _ (hT.ch k hk).2) sH htg (fun e he=>norel_of_Bk bN e he) Is Ci
  refine⟨gK,w',_,D,_,tag',a',y',st',sm',_,r1,r2,?_⟩;rcases cy with cy|⟨cy,hl⟩
  ·left;show phi T.n (Vc S.j D) tag'+Ssum S.j D+mL S<phi T.n (Vc S.j D) tag+Ssum S.j D+mL S;omega
  ·right;refine⟨?_,r3,hl⟩;show phi T.n (Vc S.j D) tag'+Ssum S.j D+mL S=phi T.n (Vc S.j D) tag+Ssum S.j D+mL S;omega
 by_cases pw:∀w1,dL T (S.own 0) w w1->kx P T V fa cO Fin tag (S.own 0) a w1
 ·have eG:=pw w (dL.refl w);have tB:=h.tZ;have jY:=h.mode;have pj:=h.wg;cases tag with
  |blk=>exact absurd rfl Gh
  |anch=>exact eG.elim
  |ret=>exact eG.elim
  |sp r s =>
   simp only[mz] at tB;obtain⟨hr,hj,hsd⟩:=tB;right;rcases hsd with⟨rfl,hd⟩|⟨rfl,hd⟩|⟨rfl,hd⟩|⟨rfl,hd⟩
   ·have D6:Lu P T V fa (T.n-(r+1)) (jb P T V fa cO r) (S.own 0) a w:=by simpa[kx] using eG
    obtain⟨_,a',hgo,hk⟩:=D6;exact book hgo (.refl T.Wg w) pj bk_dis (jL.mk (tag:=.sp r 4) aj hk (by simp[kx])) ⟨hr,hj,.inr (.inl ⟨rfl,by rw[hd];rfl⟩)⟩ (jY.reopen trivial trivial rfl aj) (.inl (by simp only[phi];omega))
   ·have D6:SA1 P T V fa (T.n-(r+1)) (jb P T V fa cO r) (S.own 0) a w:=by simpa[kx] using eG
    obtain⟨_,iB⟩:=D6;obtain⟨ho,e1,e2,_⟩:=jY.open_inv trivial;rw[e1,e2] at pj;obtain⟨a',hgo,hk⟩:=iB (Vc S.j D) aa (by simpa[pend] using pj);refine book hgo (aside_setCell w (stA T.Wg) _) (pj.setSt _) bk_rw (jL.mk (tag:=.sp r 3) aj hk (by simp[kx])) ⟨hr,hj,.inr (.inr (.inl ⟨rfl,by rw[hd];simp[deafBehind,Go.ConcR.rd,Go.ConcR.wr]⟩))⟩ ?_ (.inl (by simp only[phi];omega));have e:(((Vc S.j D:Nat):Int)+1)*KK=((Vc S.j D+pend (.sp r 3):Nat):Int)*KK:=by simp[pend]
    rw[e];exact .opn trivial ho aj
   ·have D6:Zd P T V fa (T.n-(r+1)) (jb P T V fa cO r) (S.own 0) a w:=by simpa[kx] using eG
    obtain⟨_,a',hgo,hk⟩:=D6;exact book hgo (.refl T.Wg w) pj bk_en (jL.mk (tag:=.sp r 2) aj hk (by simp[kx])) ⟨hr,hj,.inr (.inr (.inr ⟨rfl,by rw[hd];rfl⟩))⟩ (jY.reopen trivial trivial rfl aj) (.inl (by simp only[phi];omega))
   ·have D6:SGo P T V fa (T.n-(r+1)) (jb P T V fa cO r) (S.own 0) a w:=by simpa[kx] using eG
    obtain⟨_,a',child,hand,vx,hh,KR,EU⟩:=D6;obtain⟨ho,e1,e2,_⟩:=jY.open_inv trivial;have eV:Vc (S.j+1) (upd D S.j ⟨7,0,0⟩)=Vc S.j D+1:=by
     simp only[Vc,sumTo,upd_same];rw[sumTo_upd_out D _ cnt (ag _)];rfl
    have eS:Ssum (S.j+1) (upd D S.j ⟨7,0,0⟩)=Ssum S.j D+7:=by
     simp only[Ssum,sumTo,upd_same];rw[sumTo_upd_out D _ WD.stage (ag _)]
    have pD:OpenSt (S.j+1) (upd D S.j ⟨7,0,0⟩):=fun b hb=>by
     by_cases e:b=S.j
     ·subst e;rw[upd_same];simp
     ·rw[upd_ne D _ e];exact ho b aa
    have XY:∀tag',isOpen tag'->pend tag'=0->(∀vs,tag'≠.w2 vs)->Go.ConcN.Mode (S.j+1) (upd D S.j ⟨7,0,0⟩) tag' st sm:=by
     intro tag' h1 h2 h3;have:=Mode.opn (j:=S.j+1) (D:=upd D S.j ⟨7,0,0⟩) (tag:=tag') h1 pD (fun vs e=>absurd e (h3 vs));rw[eV,h2] at this;rw[e1,e2];simpa[pend] using this
    rw[<- hj] at KR;have less:∀(S':jF) (tag':CTag) (x':Nat->lJ) (y':jG),S'.j=S.j+1->S'.cl=S.cl->phi T.n (Vc S.j D+1) tag'+8<phi T.n (Vc S.j D) (.sp r 2)->Nv P T S S' D (upd D S.j ⟨7,0,0⟩) (.sp r 2) tag' x x' y y':=by
     intro S' tag' x' y' e3 e4 e5;left;have el:mL S'<=mL S+1:=by
      simp only[mL,e3,e4,sumTo];split<;>omega
     simp only[pF,e3,eV,eS];omega
    cases r with
    |zero =>
     have hk:di P T (Q0 P T cO) (fun b=>S.own 0 b/\¬hand b) a' w:=EU;obtain⟨gK,S',x',ops,r1,r2,r3,r4⟩:=h.spawn (sl:=sl) hT aa vx hh (KR w (dL.refl w) (hT.idle S.j w0 w (fun a ha=>h.DJ.idle S.j a (ag _) ha) h.DJ.DJ (h.idle0 S.j aa))) hd (tag':=.kd) (y':=.inl (Q0 P T cO,⟨a',fun b=>S.own 0 b/\¬hand b,w⟩)) (jL.mk (tag:=.kd) aj hk rfl) ⟨aa,rfl⟩ (XY .kd trivial rfl aj);exact⟨gK,w,S',_,x',.kd,a',_,st,sm,ops,r1,r4,less S' .kd x' _ r2 r3 (by simp only[phi];omega)⟩
    |succ r =>
     have hk:di P T (Lu P T V fa (T.n-(r+1)) (jb P T V fa cO r)) (fun b=>S.own 0 b/\¬hand b) a' w:=EU;obtain⟨gK,S',x',ops,r1,r2,r3,r4⟩:=h.spawn (sl:=sl) hT aa vx hh (KR w (dL.refl w) (hT.idle S.j w0 w (fun a ha=>h.DJ.idle S.j a (ag _) ha) h.DJ.DJ (h.idle0 S.j aa))) hd (tag':=.sp r 5) (y':=.inl (Lu P T V fa (T.n-(r+1)) (jb P T V fa cO r),⟨a',fun b=>S.own 0 b/\¬hand b,w⟩)) (jL.mk (tag:=.sp r 5) aj hk (by simp[kx])) ⟨aa,aa,.inl ⟨rfl,rfl⟩⟩ (XY (.sp r 5) trivial rfl aj);exact⟨gK,w,S',_,x',.sp r 5,a',_,st,sm,ops,r1,r4,less S' (.sp r 5) x' _ r2 r3 (by simp only[phi];omega)⟩
  |kd =>
   simp only[mz] at tB;obtain⟨_,a',hgo,hk⟩:=eG;have lP:di P T (QZ P T cO Fin) (S.own 0) a' w:=(hk.mono XX).trans;exact .inr (book hgo (.refl T.Wg w) pj bk_dis (jL.mk (tag:=.w1) aj lP rfl) ⟨tB.1,by rw[tB.2];rfl⟩ (jY.reopen trivial trivial rfl aj) (.inl (by simp only[phi];omega)))
  |w1 =>
   simp only[mz] at tB;obtain⟨_,iB⟩:=eG;obtain⟨ho,e1,e2,_⟩:=jY.open_inv trivial;rw[e1,e2] at pj;obtain⟨a',hgo,h0,dH⟩:=iB (Vc S.j D) aa (by simpa[pend] using pj);have LB:WgAt T.ty T.Wg w (((Vc S.j D:Nat):Int)*KK) 0:=by simpa[pend] using pj
   by_cases hv:Vc S.j D=0
   ·refine .inr (book hgo (.refl T.Wg w) (by rw[hv] at LB;simpa using LB) bk_rd (jL.mk (tag:=.ke) aj (h0 hv) rfl) ⟨tB.1,by rw[tB.2];simp[deafBehind,Go.ConcR.rd]⟩ (.fin trivial (allQuit_of ho hv)) (.inl (by simp only[phi];omega)))
   ·have:=Mode.opn (j:=S.j) (D:=D) (tag:=.w2 (Vc S.j D)) trivial ho (fun vs e=>by cases e;omega);refine .inr (book hgo (.refl T.Wg w) LB bk_rd (jL.mk (tag:=.w2 (Vc S.j D)) aj (dH hv) rfl) ⟨tB.1,by rw[tB.2];simp[deafBehind,Go.ConcR.rd]⟩ (by simpa[pend] using this) (.inl (by simp only[phi];omega)))
  |w2 vs =>
   simp only[mz] at tB;obtain⟨_,iB⟩:=eG;obtain⟨ho,e1,e2,xT⟩:=jY.open_inv trivial;have xT:=xT vs rfl;rw[e1,e2] at pj;have LB:WgAt T.ty T.Wg w (((Vc S.j D:Nat):Int)*KK) 0:=by simpa[pend] using pj
   obtain⟨hit,Zm⟩:=iB (Vc S.j D) aa LB;by_cases hv:Vc S.j D=vs
   ·obtain⟨a',hgo,hk⟩:=hit hv;exact .inr (book hgo (aside_setCell w (stA T.Wg) _) (LB.setSt _) bk_rw (jL.mk (tag:=.w3) aj hk rfl) ⟨tB.1,by rw[tB.2];simp[deafBehind,Go.ConcR.rd,Go.ConcR.wr]⟩ (.reg trivial ho aa) (.inl (by simp only[phi];omega)))
   ·obtain⟨a',hgo,hk⟩:=Zm hv;have lP:di P T (QZ P T cO Fin) (S.own 0) a' w:=(hk.mono XX).trans;have:=Mode.opn (j:=S.j) (D:=D) (tag:=.w1) trivial ho (fun vs e=>by cases e);exact .inr (book hgo (.refl T.Wg w) LB bk_rd (jL.mk (tag:=.w1) aj lP rfl) ⟨tB.1,by rw[tB.2];simp[deafBehind,Go.ConcR.rd]⟩ (by simpa[pend] using this) (.inl (by simp only[phi];omega)))
  |w3 =>
   simp only[mz] at tB;obtain⟨_,Vh,Pn,nX⟩:=eG;have blocks:∀sm',sm'=0->WgAt T.ty T.Wg w st sm'->Go.ConcN.Mode S.j D .blk st sm'->∃gK w' S' D' x' tag' a' y' st' sm' ops,runT P (crowd gs w sl) 0=(.next (crowd gK w' sl),ops)/\gl P T V fa cO Fin t0 w0 gK w' (t++ops) S' D' x' tag' a' y' st' sm'/\Nv P T S S' D D' .w3 tag' x x' y y':=by
    intro sm' e hw hm;subst e;refine book (Pn ⟨_,hw⟩) (.refl T.Wg w) hw aj (tag':=.blk) (y':=.inr 0) ⟨a,rfl,pw,rfl⟩ ⟨tB.1,by rw[tB.2];rfl⟩ hm (.inr ⟨rfl,?_⟩);rw[hy];exact trivial
   cases jY with
   |opn h1 _ _=>exact h1.elim
   |reg h1 h2 h3=>exact .inr (blocks _ rfl pj (.reg trivial h2 h3))
   |last L h1 h2 h3 h4=>exact .inr (blocks _ rfl pj (.last L trivial h2 h3 h4))
   |sema h2 =>
    obtain⟨a',hgo,hk⟩:=nX pj;exact .inr (book hgo (aside_setCell w (smA T.Wg) _) (pj.setSm 0) bk_sem (jL.mk (tag:=.w4) aj hk rfl) ⟨tB.1,by rw[tB.2];simp[deafBehind,semEvents]⟩ (.fin trivial h2) (.inl (by simp only[phi];omega)))
   |fin h1 _=>exact h1.elim
  |w4 =>
   simp only[mz] at tB;obtain⟨_,iB⟩:=eG;obtain⟨hq,e1,e2⟩:=jY.fin_inv trivial;rw[e1,e2] at pj;obtain⟨a',hgo,hk⟩:=iB pj;exact .inr (book hgo (.refl T.Wg w) pj bk_rd (jL.mk (tag:=.ke) aj hk rfl) ⟨tB.1,by rw[tB.2];simp[deafBehind,Go.ConcR.rd]⟩ (.fin trivial hq) (.inl (by simp only[phi];omega)))
  |ke =>
   simp only[mz] at tB;obtain⟨_,a',hgo,hk⟩:=eG;obtain⟨hq,e1,e2⟩:=jY.fin_inv trivial;rw[e1,e2] at pj;exact .inr (book hgo (.refl T.Wg w) pj bk_en (jL.mk (tag:=.acq) aj hk rfl) ⟨tB.1,by rw[tB.2];rfl⟩ (.fin trivial hq) (.inl (by simp only[phi];omega)))
  |acq =>
   obtain⟨_,a',hgo,hk⟩:=eG;exact .inl ⟨rfl,a',hgo,hk⟩
 ·
  rcases Q3.look with hs|⟨_,kP⟩
  ·exact absurd hs pw
  obtain⟨a',w',es,hgo,KQ,jg,hk⟩:=kP w (dL.refl w);have old:∀b,b<T.H0->w'.heap[b]?=w.heap[b]?:=fun b hb=>KQ.rest b (by have:=h.h0;omega) (fun nn=>by have:=Ns b nn;omega);obtain⟨gK,r1,r2,r3⟩:=h.main (sl:=sl) hT hV tD hgo (o':=grow (S.own 0) w w') (tag':=tag) (y':=.inl (kx P T V fa cO Fin tag,⟨a',grow (S.own 0) w w',w'⟩)) (st':=st) (sm':=sm) (fun _ hb=>.inl hb) (fun _ hb=>hb) (Iw jg) KQ.size
   (fun k hk=>KQ.Cd hT aa h.h0 Ns (fun b hb=>⟨h.tg.new _ b hb,h.lt _ b hb,fun nn=>by have:=h.tg.one _ _ _ hb nn;omega⟩)) ⟨KQ.size,fun _ hb=>hb.elim,fun b h1 _ _ _=>old b h1,gu (old _ hT.wg),KQ.os,KQ.output⟩
   (qD.Cc hT fun b hb=>old b (hT.sh b hb).1) (fun k hk=>old _ (hT.ch k hk).1) (jL.mk Gh hk rfl) (by rw[deafBehind_still (fun e he=>⟨(jg e he).2.1,(jg e he).2.2.1⟩)];exact h.tZ) (fun e he=>(jg e he).2.2.2 _) (h.wg.of_block (old _ hT.wg)) h.mode
  refine .inr ⟨gK,w',_,D,_,tag,a',_,st,sm,_,r1,r2,.inr ⟨rfl,r3,?_⟩⟩;rw[hy];exact⟨rfl,pw,w,es,dL.refl w,hgo,rfl⟩
end
end
end Go.Ren
