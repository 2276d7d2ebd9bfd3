import Derived.Test.YtgjekaaknjgnmaaGreatDoorAa
import Derived.Conc.Beside
import Derived.Conc.CrowdComm
import Derived.Conc.CrowdRun
import Derived.Conc.CrowdStepC2
set_option linter.all false
set_option maxHeartbeats 40000000
set_option maxRecDepth 200000
namespace Go.Ren
section
open Go.Conc (G)
def ZW(τ:Tape)(d:Nat):GStep->GStep
 | .go g w es=>.go g (WT w τ d) es
 | .ended o w es=>.ended o (WT w τ d) es
 |x=>x
def WU(g g':aS):Prop:=(g'.frame.mode=.run\/g'.frame.mode=.returning)\/∃ch,g'={g with frame:={g.frame with mode:=.panicking ch}}
def Kind(g:aS)(w:ae)(c:Nat):GStep->Prop
 | .go g' w' _=>w'.tape=w.tape/\w'.drawn=w.drawn+c/\(g'.status=.running/\g'.dying=none)/\WU g g'
 | .ended ..=>True
 |_=>False
def tG(P:Program)(m:Bool)(g:aS)(w:ae):Prop :=
 ∃c,(∀τ d,fX w c τ d->stepG P m g (WT w τ d)=ZW τ (d+c) (stepG P m g w))/\Kind g w c (stepG P m g w)
section
variable {P:Program} {L:Nat->Bool} {Gm:Nat} {F:iZ} {wl wr:ae} {f:Rn}
theorem iJ{m:Bool}{g g':aS}(hr:g'.status=.running)(hd:g'.dying=none)(hm:g'.frame.mode=.run\/g'.frame.mode=.returning)(h:∀w,stepG P m g w=.go g' w #[]):tG P m g wl :=
 ⟨0,fun τ d _=>by rw[h,h];rfl,by rw[h];exact⟨rfl,rfl,⟨hr,hd⟩,.inl hm⟩⟩
theorem vX{m:Bool}{g:aS}{o:Outcome}(h:∀w,stepG P m g w=.ended o w #[]):tG P m g wl :=
 ⟨0,fun τ d _=>by rw[h,h];rfl,by rw[h];trivial⟩
def WV:Result Next->Prop
 | .ok (.value _) _|.ok .skip _|.ok (.enter ..) _=>True
 | .ok _ _=>False
 | .halt h _=>nN h=true\/∃v,h=.panic v
theorem sI{fr:Frame}{cs:List Frame}{s:Sem Next}{w w':ae}{el:Array Event}{u:Unsupported}(hu:nN (.unsupported u)=true)(h:s.runT P w #[]=(.halt (.unsupported u) w',el))(hk:fr.kind=.normal):
  stepG.apply P true fr cs none s w=.ended (.unsupported u (fr.pos P)) w' (seen P fr.fn el):=by
 cases u<;>first|exact Bool.noConfusion hu|(simp only[stepG.apply,if_true,h,hk,GStep.after,aab];rfl)
theorem sJ{fr:Frame}{cs:List Frame}{s:Sem Next}{w w':ae}{el:Array Event}{y:String}(h:s.runT P w #[]=(.halt (.stuck y) w',el))(hk:fr.kind=.normal):
  stepG.apply P true fr cs none s w=.ended (.stuck y (fr.pos P)) w' (seen P fr.fn el):=by
 simp only[stepG.apply,if_true,h,hk,GStep.after,aab];rfl
theorem xN{fr:Frame}{cs:List Frame}{s:Sem Next}{w w':ae}{el:Array Event}{v:Value}(h:s.runT P w #[]=(.halt (.panic v) w',el))(hk:fr.kind=.normal):
  stepG.apply P true fr cs none s w=.go (G (fr.raise [{v,recovered:=false}]) cs) w' (seen P fr.fn el):=by
 simp only[stepG.apply,if_true,h,hk,GStep.after,G,aab];rfl
theorem Pq{fr:Frame}{cs:List Frame}{s:Sem Next}{c:Nat}(hmd:fr.mode=.run)(hk:fr.kind=.normal)(ht:∃ops td k,fr.todo=.inRegion ops td::k)(hD:AS P s wl #[] c)(hN:WV (s.runT P wl #[]).1):
  (∀τ d,fX wl c τ d->stepG.apply P true fr cs none s (WT wl τ d)=ZW τ (d+c) (stepG.apply P true fr cs none s wl))/\Kind (G fr cs) wl c (stepG.apply P true fr cs none s wl):=by
 obtain⟨h1,h2,h3⟩:=hD;have fin:∀v,(G (fr.finish v) cs).frame.mode=.run:=by
  intro v;obtain⟨ops,td,k,ht⟩:=ht;cases td<;>simp[G,Frame.finish,ht,hmd]
 rcases hx:s.runT P wl #[] with⟨r,el⟩;rw[hx] at h1 h2 h3 hN;cases r with
 |ok n w1 =>
  cases n<;>simp only[WV] at hN
  ·refine⟨fun τ d hA=>?_,?_⟩
   ·rw[ni hk (h3 τ d hA),ni hk hx];rfl
   ·rw[ni hk hx];exact⟨h1,h2,⟨rfl,rfl⟩,.inl (.inl (fin _))⟩
  ·refine⟨fun τ d hA=>?_,?_⟩
   ·rw[oZ hk (h3 τ d hA),oZ hk hx];rfl
   ·rw[oZ hk hx];exact⟨h1,h2,⟨rfl,rfl⟩,.inl (.inl (fin _))⟩
  ·refine⟨fun τ d hA=>?_,?_⟩
   ·rw[nj hk ht (h3 τ d hA),nj hk ht hx];rfl
   ·rw[nj hk ht hx];exact⟨h1,h2,⟨rfl,rfl⟩,.inl (.inl rfl)⟩
 |halt h w1 =>
  rcases hN with hN|⟨v,rfl⟩
  ·cases h<;>first|exact Bool.noConfusion hN|skip
   ·refine⟨fun τ d hA=>?_,?_⟩
    ·rw[sI hN (h3 τ d hA) hk,sI hN hx hk];rfl
    ·rw[sI hN hx hk];trivial
   ·refine⟨fun τ d hA=>?_,?_⟩
    ·rw[sJ (h3 τ d hA) hk,sJ hx hk];rfl
    ·rw[sJ hx hk];trivial
  ·refine⟨fun τ d hA=>?_,?_⟩
   ·rw[xN (h3 τ d hA) hk,xN hx hk];rfl
   ·rw[xN hx hk];exact⟨h1,h2,⟨rfl,rfl⟩,.inr ⟨[{v,recovered:=false}],by simp only[G,Frame.raise,hmd]⟩⟩
theorem JI(cH:qf P L Gm)(hP:PF P L Gm F)(W:WR F wl wr)(ug:fe wl){m:Bool}{nh ab abr:List Frame}{fr vi:Frame}(Vt:uf Gm L fr)(hr:∀f,F.has f->vi=frame f fr)(Tm:ab≠[]\/fr.mode=.run)(ja:∀c∈ab,uf Gm L c):tG P m (G fr (ab++nh)) wl:=by
 obtain⟨f0,jW⟩:=W.some;obtain⟨hd,uG,hk,pZ,Ly,GD⟩:=Vt;obtain⟨fn,tmps,todo,defers,mode,kind,ro⟩:=fr;simp only at hd uG hk pZ Ly GD Tm;subst hd uG hk;obtain⟨tr,CL,uF⟩:∃tr,vi=Fr fn tr todo mode/\∀f,F.has f->tr=tmps.map (val f):=by
  refine⟨tmps.map (val f0),hr f0 jW,fun f hf=>?_⟩;have:=(hr f0 jW).symm.trans (hr f hf);simp only[frame,Frame.mk.injEq] at this;exact this.2.1
 rcases GD with GD|GD
 ·subst GD;cases todo with
  |nil=>exact iJ (g':=G (Fr fn tmps [] .returning) (ab++nh)) rfl rfl (.inr rfl) (fun w=>by simp only[G,stepG,stepG.exec,if_true])
  |cons i k =>
   have hi:=Ly i an;cases i<;>first|exact Bool.noConfusion hi|skip
   case inBlock id=>exact iJ (g':=G (Fr fn tmps k .run) (ab++nh)) rfl rfl (.inl rfl) (fun w=>by simp only[G,stepG,stepG.exec])
   case inScope c=>exact iJ (g':=G (Fr fn tmps k .run) (ab++nh)) rfl rfl (.inl rfl) (fun w=>by simp only[G,stepG,stepG.exec])
   case inLoop c=>exact iJ (g':=G (Fr fn tmps (.code c :: .inLoop c::k) .run) (ab++nh)) rfl rfl (.inl rfl) (fun w=>by simp only[G,stepG,stepG.exec])
   case code c =>
    have lQ:jX Gm L c=true:=hi;cases c<;>first|exact Bool.noConfusion hi|skip
    case skip=>exact iJ (g':=G (Fr fn tmps k .run) (ab++nh)) rfl rfl (.inl rfl) (fun w=>by simp only[G,stepG,stepG.exec])
    case label l=>exact iJ (g':=G (Fr fn tmps k .run) (ab++nh)) rfl rfl (.inl rfl) (fun w=>by simp only[G,stepG,stepG.exec])
    case ret=>exact iJ (g':=G (Fr fn tmps (.code .ret::k) .returning) (ab++nh)) rfl rfl (.inr rfl) (fun w=>by simp only[G,stepG,stepG.exec,if_true])
    case seq a b=>exact iJ (g':=G (Fr fn tmps (.code a :: .code b::k) .run) (ab++nh)) rfl rfl (.inl rfl) (fun w=>by simp only[G,stepG,stepG.exec])
    case block id c=>exact iJ (g':=G (Fr fn tmps (.code c :: .inBlock id::k) .run) (ab++nh)) rfl rfl (.inl rfl) (fun w=>by simp only[G,stepG,stepG.exec])
    case loop c=>exact iJ (g':=G (Fr fn tmps (.code c :: .inLoop c::k) .run) (ab++nh)) rfl rfl (.inl rfl) (fun w=>by simp only[G,stepG,stepG.exec])
    case scope c=>exact iJ (g':=G (Fr fn tmps (.code c :: .inScope c::k) .run) (ab++nh)) rfl rfl (.inl rfl) (fun w=>by simp only[G,stepG,stepG.exec])
    case refuse w=>exact vX (fun w=>by simp only[G,stepG,stepG.exec];rfl)
    case cond c a b =>
     by_cases hb:∃t,Frame.eval (Fr fn tmps (.code (.cond c a b)::k) .run) c=.bool t
     ·obtain⟨t,hb⟩:=hb;exact iJ (g':=G (Fr fn tmps (.code (if t then a else b)::k) .run) (ab++nh)) rfl rfl (.inl rfl) (fun w=>by simp only[G,stepG,stepG.exec,hb])
     ·refine vX (o:=.stuck "cond: bool expected" (Frame.pos P (Fr fn tmps (.code (.cond c a b)::k) .run))) (fun w=>?_);simp only[G,stepG,stepG.exec];cases hv:Frame.eval (Fr fn tmps (.code (.cond c a b)::k) .run) c<;>first|rfl|exact absurd ⟨_,hv⟩ hb
    case exit id =>
     cases hx:exitTo id k with
     |none=>exact vX (fun w=>by simp only[G,stepG,stepG.exec,hx,Option.elim_none];rfl)
     |some k2=>exact iJ (g':=G (Fr fn tmps k2 .run) (ab++nh)) rfl rfl (.inl rfl) (fun w=>by simp only[G,stepG,stepG.exec,hx,Option.elim_some])
    case goto l =>
     cases hx:gotoIn l k with
     |none=>exact vX (fun w=>by simp only[G,stepG,stepG.exec,hx,Option.elim_none];rfl)
     |some k2=>exact iJ (g':=G (Fr fn tmps k2 .run) (ab++nh)) rfl rfl (.inl rfl) (fun w=>by simp only[G,stepG,stepG.exec,hx,Option.elim_some])
    case region id ops draw =>
     cases draw
     ·exact iJ (g':=G (Fr fn tmps (.inRegion ops (List.range ops.size)::k) .run) (ab++nh)) rfl rfl (.inl rfl) (fun w=>by simp only[G,stepG,stepG.exec,Bool.not_false,if_true])
     ·have e:∀w:ae,stepG P m (G (Fr fn tmps (.code (.region id ops true)::k) .run) (ab++nh)) w=.go (G (Fr fn tmps (.inRegion ops (Region.schedule (P.follows .mixedOrders) ops (Question.cut (.order fn id) (w.tape w.drawn (.order fn id))))::k) .run) (ab++nh)) {w with drawn:=w.drawn+1} #[]:=by
       intro w;simp only[G,stepG,stepG.exec,choose,Sem.run,Question.forced,Bool.not_true,fl,if_false]
      refine⟨1,fun τ d hA=>?_,by rw[e];exact⟨rfl,rfl,⟨rfl,rfl⟩,.inl (.inl rfl)⟩⟩;have h0:=hA 0 aa (.order fn id);simp only[Nat.add_zero] at h0;rw[e,e];simp only[WT,h0,ZW]
   case inRegion ops todo =>
    cases todo with
    |nil=>exact iJ (g':=G (Fr fn tmps k .run) (ab++nh)) rfl rfl (.inl rfl) (fun w=>by simp only[G,stepG,stepG.exec])
    |cons i rest =>
     by_cases hw:((ops[i]?).map (Region.wanted · (yielded ops tmps))).getD false=true
     ·obtain⟨o,ho⟩:∃o,ops[i]?=some o:=by
       cases ho:ops[i]? with
       |none=>rw[ho] at hw;cases hw
       |some o=>exact⟨o,rfl⟩
      have LA:sG Gm L o=true:=by
       have gY:ops.all (sG Gm L)=true:=hi;rw[gD] at gY;obtain⟨bZ,he⟩:=Array.getElem?_eq_some_iff.1 ho;rw[<- he];exact gY i bZ
      simp only[sG,kD,Array.all_eq_true'] at LA;have hrel:∀f,F.has f->Rel P f (iI L f) (execOp (Fr fn tmps (.inRegion ops (i::rest)::k) .run).eval o) (execOp (Fr fn tr (.inRegion ops (i::rest)::k) .run).eval o):=by
       intro f hf;have iH:∀g,F.has g->∀x∈o.op.operands,(Fr fn tr (.inRegion ops (i::rest)::k) .run).eval x=val g ((Fr fn tmps (.inRegion ops (i::rest)::k) .run).eval x):=by
        intro g hg x hx;have:=AL hP cH hg (Fr fn tmps (.inRegion ops (i::rest)::k) .run) x (LA.2 x hx);rw[show frame g (Fr fn tmps (.inRegion ops (i::rest)::k) .run)=Fr fn tr (.inRegion ops (i::rest)::k) .run by rw[uF g hg];rfl] at this;exact this
       exact AI (PF.ok hP cH hf) (PF.fn hP hf) (fun n hn args=>cH.call n hn f (PF.ok hP cH hf) (PF.fn hP hf) args) o LA.1 (iH f hf) (fun x hx=>AM W hP (fun g hg=>iH g hg x hx))
      obtain⟨c,hD⟩:=vj _ _ wl #[] (hrel f0 jW);have hC:=vH (fun f=>iI L f) _ _ F wl wr #[] #[] hrel W;have hN:=qT _ _ wl #[] (hrel f0 jW) ug;have ZX:WV ((execOp (Fr fn tmps (.inRegion ops (i::rest)::k) .run).eval o).runT P wl #[]).1:=by
       rcases hx:(execOp (Fr fn tmps (.inRegion ops (i::rest)::k) .run).eval o).runT P wl #[] with⟨r,el⟩;rw[hx] at hC hN;cases r with
       |halt h w1=>exact hN
       |ok n w1 =>
        obtain⟨F',b,nk,WM,c1,c2,c3,c4,c5,c6⟩:=hC;obtain⟨g0,WO⟩:=c3.some;have JG:=c2 g0 WO;cases n<;>cases b<;>simp only[iI] at JG<;>trivial
      have hl:∀w,stepG P m (G (Fr fn tmps (.inRegion ops (i::rest)::k) .run) (ab++nh)) w=stepG.apply P true (Fr fn tmps (.inRegion ops (i::rest)::k) .run) (ab++nh) none (execOp (Fr fn tmps (.inRegion ops (i::rest)::k) .run).eval o) w:=by
       intro w;simp only[G,stepG,stepG.exec];refine(if_pos hw).trans ?_;simp only[stepG.oper,Frame.oper?,ho]
      obtain⟨a1,a2⟩:=Pq (P:=P) (fr:=Fr fn tmps (.inRegion ops (i::rest)::k) .run) (cs:=ab++nh) rfl rfl ⟨_,_,_,rfl⟩ hD ZX;exact⟨c,fun τ d hA=>by rw[hl,hl];exact a1 τ d hA,by rw[hl];exact a2⟩
     ·refine iJ (g':=G ((Fr fn tmps (.inRegion ops (i::rest)::k) .run).finish undef) (ab++nh)) rfl rfl (.inl (by simp[G,Frame.finish])) (fun w=>?_);simp only[G,stepG,stepG.exec,hw];simp only[fl,if_false]
 ·subst GD;have cV:ab≠[]:=Tm.elim id (fun h=>by cases h);cases ab with
  |nil=>exact absurd rfl cV
  |cons c0 Y5 =>
   obtain⟨yL,ql,_⟩:=cH.body fn pZ;have hrel:Rel P f0 (V f0) (results yL tmps) (results yL tr):=by
    rw[uF f0 jW];exact pM (PF.ok hP cH jW) yL tmps
   obtain⟨c,h1,h2,h3⟩:=vj _ _ wl #[] hrel;have hN:=qT _ _ wl #[] hrel ug;rcases hx:(results yL tmps).runT P wl #[] with⟨r,el⟩;rw[hx] at h1 h2 h3 hN;cases r with
   |ok v w1 =>
    have e:∀w w1:ae,(results yL tmps).runT P w #[]=(.ok v w1,el)->stepG P m (G (Fr fn tmps todo .returning) (c0::Y5++nh)) w=.go (G (c0.finish v) (Y5++nh)) w1 (seen P fn el):=by
     intro w w1 h;simp only[G,stepG,unwind,ql,h,List.cons_append,GStep.after,doReturn,aab]
    refine⟨c,fun τ d hA=>?_,?_⟩
    ·rw[e _ _ (h3 τ d hA),e _ _ hx];rfl
    ·rw[e _ _ hx];exact⟨h1,h2,⟨rfl,rfl⟩,.inl (xM (ja c0 an) v).mode⟩
   |halt h w1 =>
    obtain⟨o,e⟩:∃o,∀w w1:ae,(results yL tmps).runT P w #[]=(.halt h w1,el)->stepG P m (G (Fr fn tmps todo .returning) (c0::Y5++nh)) w=.ended o w1 (seen P fn el):=by
     cases h<;>exact⟨_,fun w w1 hh=>by simp only[G,stepG,unwind,ql,hh,GStep.after,aab];rfl⟩
    refine⟨c,fun τ d hA=>?_,?_⟩
    ·rw[e _ _ (h3 τ d hA),e _ _ hx];rfl
    ·rw[e _ _ hx];trivial
end
end
section
open Go.Conc (G)
def jy(P:Program):Nat->aS->ae->Option (aS×ae)
 |0,g,w=>some (g,w)
 |n+1,g,w=>match stepG P true g w with
  | .go g' w' _=>jy P n g' w'
  |_=>none
def fS:Frame:={fn:=0,tmps:=#[],todo:=[.code (.refuse "door")],defers:=[{target:=.nil,args:=#[]}],mode:=.run,kind:=.normal}
def Inv(P:Program)(L:Nat->Bool)(Gm:Nat)(nh:List Frame)(g:aS)(w:ae):Prop :=
 ∃F fr ab vi abr wr,g=G fr (ab++nh)/\uf Gm L fr/\(∀c∈ab,uf Gm L c)/\(∀f,iZ.has F f->vi=frame f fr/\abr=ab.map (frame f))/\WR F w wr/\fe w/\PF P L Gm F
def nQ(nh:List Frame)(g:aS):Prop:=∃fr,g=G fr nh/\fr.mode=.returning
def WW(g:aS):Prop:=∃chain,g.frame.mode=.panicking chain
section
variable {P:Program} {L:Nat->Bool} {Gm:Nat}
theorem Inv.WT{nh:List Frame}{g:aS}{w:ae}(h:Inv P L Gm nh g w)(τ:Tape)(d:Nat):Inv P L Gm nh g (WT w τ d):=by
 obtain⟨F,fr,ab,vi,abr,wr,h1,h2,h3,h4,W,hn,hp⟩:=h;exact⟨F,fr,ab,vi,abr,Ren.WT wr τ d,h1,h2,h3,h4,W.env rfl rfl W.os W.output rfl rfl,fe.heap hn rfl,hp⟩
theorem Inv.Dy(cH:qf P L Gm){nh:List Frame}{g:aS}{w:ae}(h:Inv P L Gm nh g w)(hb:¬nQ nh g):tG P true g w:=by
 obtain⟨F,fr,ab,vi,abr,wr,rfl,h2,h3,h4,W,hn,hp⟩:=h;refine JI cH hp W hn h2 (fun f hf=>(h4 f hf).1) ?_ h3 (abr:=abr);rcases h2.mode with hm|hm
 ·exact .inr hm
 ·refine .inl fun e=>hb ⟨fr,by rw[e];rfl,hm⟩
theorem AV{P:Program}{L:Nat->Bool}{Gm:Nat}{nh:List Frame}{g:aS}{w:ae}(h:Inv P L Gm nh g w):g.status=.running/\g.dying=none:=by
 obtain⟨F,fr,ab,vi,abr,wr,rfl,_⟩:=h;exact⟨rfl,rfl⟩
theorem Inv.step(cH:qf P L Gm){nh:List Frame}{g g1:aS}{w w1:ae}{es:Array Event}(h:Inv P L Gm nh g w)(hb:¬nQ nh g)(hs:stepG P true g w=.go g1 w1 es)(hm:g1.frame.mode=.run\/g1.frame.mode=.returning):Inv P L Gm nh g1 w1:=by
 have hk:=h.Dy cH hb;obtain⟨c,_,hk⟩:=hk;rw[hs] at hk;obtain⟨F,fr,ab,vi,abr,wr,rfl,h2,h3,h4,W,hn,hp⟩:=h;have Tm:ab≠[]\/fr.mode=.run:=by
  rcases h2.mode with hm|hm
  ·exact .inr hm
  ·refine .inl fun e=>hb ⟨fr,by rw[e];rfl,hm⟩
 obtain⟨F',Lw,WK,JD,JE,oT,lB,e1,e2,e3,e4,e5,e6,e7,e8,e9,Vu,Pr⟩:=GC cH hp W hn (m':=true) (csr:=[]) h2 h3 h4 hs hk.2.2.1.1 hk.2.2.1.2 hm Tm;exact⟨F',Lw,WK,JD,JE,oT,e1,e2,e3,e5,e6,Pr,e9⟩
def yN(P:Program)(g:aS):Prop :=
 (∃ab fr chain,g=G fr (ab++[fS])/\fr.mode=.panicking chain/\fr.defers=[]/\(∃fn,P.funcs[fr.fn]?=some fn)/\∀c∈ab,c.defers=[]/\∃fn,P.funcs[c.fn]?=some fn) \/
 (∃chain,g=G {fS with mode:=.panicking chain} [])
theorem raise_mode(fr:Frame)(ch:List PanicEntry):∃WX,fr.raise ch={fr with mode:=.panicking WX}:=by
 unfold Frame.raise;split<;>exact⟨_,rfl⟩
theorem AW{g:aS}(h:yN P g)(w:ae):(∃o w' es,stepG P true g w=.ended o w' es)\/∃g' w' es,stepG P true g w=.go g' w' es/\yN P g':=by
 rcases h with⟨ab,fr,chain,rfl,hm,hd,⟨fn,hf⟩,qg⟩|⟨chain,rfl⟩
 ·right;have hc:fr.catches P=false:=by simp[Frame.catches,hf]
  cases ab with
  |nil =>
   obtain⟨WX,e⟩:=raise_mode fS chain;refine⟨G {fS with mode:=.panicking WX} [],w,#[],?_,.inr ⟨WX,rfl⟩⟩;rw[<- e];obtain⟨a1,a2,a3,a4,a5,a6,a7⟩:=fr;simp only at hm hd;subst hm hd;simp only[G,stepG,unwind,hc,List.nil_append,fl,if_false]
  |cons c ab =>
   obtain⟨WX,e⟩:=raise_mode c chain;refine⟨G {c with mode:=.panicking WX} (ab++[fS]),w,#[],?_,.inl ⟨ab,_,WX,rfl,rfl,(qg c an).1,(qg c an).2,fun x hx=>qg x (by simp[hx])⟩⟩;rw[<- e];obtain⟨a1,a2,a3,a4,a5,a6,a7⟩:=fr;simp only at hm hd;subst hm hd;simp only[G,stepG,unwind,hc,List.cons_append,fl,if_false]
 ·left;exact⟨_,_,_,by simp only[G,stepG,fS,unwind,callDeferred];rfl⟩
theorem AX:∀(n:Nat) (g:aS) (w:ae) (x:aS×ae),yN P g->jy P n g w=some x->yN P x.1:=by
 intro n
 induction n with
 |zero=>intro g w x h e;simp only[jy,en] at e;rw[<- e];exact h
 |succ n ih =>
  intro g w x h e;simp only[jy] at e;rcases AW h w with⟨o,w',es,hs⟩|⟨g',w',es,hs,h'⟩
  ·rw[hs] at e;cases e
  ·rw[hs] at e;exact ih g' w' x h' e
theorem Inv.next(cH:qf P L Gm){g g1:aS}{w w1:ae}{es:Array Event}(h:Inv P L Gm [fS] g w)(hb:¬nQ [fS] g)(hs:stepG P true g w=.go g1 w1 es):Inv P L Gm [fS] g1 w1\/yN P g1:=by
 obtain⟨c,_,hk⟩:=h.Dy cH hb;rw[hs] at hk;rcases hk.2.2.2 with hm|⟨ch,hg⟩
 ·exact .inl (h.step cH hb hs hm)
 ·right;obtain⟨F,fr,ab,vi,abr,wr,rfl,h2,h3,h4,W,hn,hp⟩:=h;have fn:∀c,uf Gm L c->∃fn,P.funcs[c.fn]?=some fn:=fun c hc=>let ⟨x,hx,_⟩:=cH.body _ hc.fn;⟨x,hx⟩;exact .inl ⟨ab,{fr with mode:=.panicking ch},ch,hg,rfl,h2.defers,fn fr h2,fun c hc=>⟨(h3 c hc).defers,fn c (h3 c hc)⟩⟩
theorem yN.mode{g:aS}(h:yN P g):WW g:=by
 rcases h with⟨ab,fr,chain,rfl,hm,_⟩|⟨chain,rfl⟩
 ·exact⟨chain,hm⟩
 ·exact⟨chain,rfl⟩
end
end
section
open Go.Conc (G)
structure qU(Stop:aS->ae->Prop):Prop where
 base:∀g w,Stop g w->nQ [fS] g
 tape:∀g w τ d,Stop g w->Stop g (WT w τ d)
def Good(P:Program)(Stop:aS->ae->Prop)(g:aS)(w:ae):Prop :=
 ∀τ d,∃n x,jy P n g (WT w τ d)=some x/\Stop x.1 x.2
section
variable {P:Program} {L:Nat->Bool} {Gm:Nat} {Stop:aS->ae->Prop}
theorem LC(w:ae)(τ Cs:Tape)(d d':Nat):WT (WT w τ d) Cs d'=WT w Cs d':=rfl
theorem vY(w:ae):WT w w.tape w.drawn=w:=rfl
theorem qU.back(hS:qU Stop){g:aS}{w:ae}{τ:Tape}{d:Nat}(h:Stop g (WT w τ d)):Stop g w:=by
 have:=hS.tape g (WT w τ d) w.tape w.drawn h;rwa[LC,vY] at this
theorem Dz{g:aS}(hb:nQ [fS] g)(hI:∃w,Inv P L Gm [fS] g w)(cH:qf P L Gm):∀n w x,jy P (n+1) g w=some x->¬nQ [fS] x.1:=by
 obtain⟨w0,F,fr,ab,vi,abr,wr,hg,h2,h3,_⟩:=hI;obtain⟨FQ,e1,hm⟩:=hb;have qg:ab=[]:=by
  rw[hg] at e1;simp only[G,Goroutine.mk.injEq] at e1;have:=congrArg List.length e1.2.1;simp at this;exact this
 subst qg;have Vt:fr.mode=.returning:=by
  rw[hg] at e1;simp only[G,Goroutine.mk.injEq] at e1;rw[e1.1];exact hm
 subst hg;obtain⟨yL,ql,_⟩:=cH.body _ h2.fn;obtain⟨hd,uG,hk,pZ,Ly,_⟩:=h2;obtain⟨fn,tmps,todo,defers,mode,kind,ro⟩:=fr;simp only at hd uG hk Vt ql;subst hd uG hk Vt;intro n w x hx;simp only[jy] at hx;rcases hr:(results yL tmps).runT P w #[] with⟨r,el⟩;have dW:∀v w1,r=.ok v w1->stepG P true (G (Fr fn tmps todo .returning) ([]++[fS])) w=.go (G (fS.finish v) []) w1 (seen P fn el):=by
  intro v w1 e;subst e;simp only[G,stepG,unwind,ql,hr,List.nil_append,GStep.after,doReturn,aab]
 cases r with
 |ok v w1 =>
  rw[dW v w1 rfl] at hx;simp only[] at hx;have pF:fS.finish v=fS:=rfl;rw[pF] at hx;cases n with
  |zero =>
   simp only[jy,en] at hx;rw[<- hx];rintro⟨fr2,e2,_⟩;simp only[G,Goroutine.mk.injEq] at e2;exact absurd e2.2.1 an
  |succ n =>
   simp only[jy] at hx;have:∃o es,stepG P true (G fS []) w1=.ended o w1 es:=⟨_,_,by simp only[G,stepG,fS,stepG.exec];rfl⟩;obtain⟨o,es,he⟩:=this;rw[he] at hx;cases hx
 |halt h w1 =>
  exfalso;have:∃o es,stepG P true (G (Fr fn tmps todo .returning) ([]++[fS])) w=.ended o w1 es:=by
   cases h<;>exact⟨_,_,by simp only[G,stepG,unwind,ql,hr,GStep.after];rfl⟩
  obtain⟨o,es,he⟩:=this;rw[he] at hx;cases hx
theorem qW(cH:qf P L Gm)(hS:qU Stop){n:Nat}{g:aS}{w:ae}{x:aS×ae}(hI:Inv P L Gm [fS] g w)(hx:jy P n g w=some x)(hs:Stop x.1 x.2)(hn:¬Stop g w):
  ∃n' g1 w1 es,n=n'+1/\¬nQ [fS] g/\stepG P true g w=.go g1 w1 es/\Inv P L Gm [fS] g1 w1/\jy P n' g1 w1=some x:=by
 cases n with
 |zero =>
  simp only[jy,en] at hx;rw[<- hx] at hs;exact absurd hs hn
 |succ n =>
  have hb:¬nQ [fS] g:=fun hb=>Dz hb ⟨w,hI⟩ cH n w x hx (hS.base _ _ hs);have kB:=hx;simp only[jy] at hx;cases dW:stepG P true g w with
  |go g1 w1 es =>
   rw[dW] at hx;simp only[] at hx;refine⟨n,g1,w1,es,rfl,hb,rfl,?_,hx⟩;rcases hI.next cH hb dW with h|h
   ·exact h
   ·exfalso;obtain⟨ch,hm⟩:=(AX n g1 w1 x h hx).mode;obtain⟨fr,e,hr⟩:=hS.base _ _ hs;rw[e] at hm;simp only[G] at hm;rw[hr] at hm;cases hm
  |_=>rw[dW] at hx;cases hx
theorem JJ(cH:qf P L Gm)(hS:qU Stop):∀(n:Nat) (g:aS) (w:ae) (x:aS×ae),Inv P L Gm [fS] g w->jy P n g w=some x->Stop x.1 x.2 ->
  ∀τ d,(∀j q,τ (d+j) q=w.tape (w.drawn+j) q)->∃n' x',jy P n' g (WT w τ d)=some x'/\Stop x'.1 x'.2:=by
 intro n
 induction n with
 |zero =>
  intro g w x hI hx hs τ d _;simp only[jy,en] at hx;subst hx;exact⟨0,_,rfl,hS.tape _ _ τ d hs⟩
 |succ n ih =>
  intro g w x hI hx hs τ d hA;by_cases hn:Stop g w
  ·exact⟨0,_,rfl,hS.tape _ _ τ d hn⟩
  ·obtain⟨n',g1,w1,es,e1,hb,dW,WY,ui⟩:=qW cH hS hI hx hs hn;obtain rfl:n=n':=aa;obtain⟨c,hc,hk⟩:=hI.Dy cH hb;have h1:=hc τ d (fun j _ q=>hA j q);rw[dW] at h1 hk;obtain⟨n2,x2,h2,h3⟩:=ih g1 w1 x WY ui hs τ (d+c) (fun j q=>by
    rw[hk.1,hk.2.1,de,de];exact hA (c+j) q)
   refine⟨n2+1,x2,?_,h3⟩;simp only[jy,h1,ZW];exact h2
end
end
section
open Go.Conc (G)
section
variable {P:Program} {L:Nat->Bool} {Gm:Nat} {Stop:aS->ae->Prop}
theorem xO(cH:qf P L Gm)(hS:qU Stop){g g1:aS}{w w1:ae}{es:Array Event}{τ:Tape}{d:Nat}(hI:Inv P L Gm [fS] g w)(hG:Good P Stop g w)(hn:¬Stop g w)(dW:stepG P true g (WT w τ d)=.go g1 w1 es):
  ¬nQ [fS] g/\Inv P L Gm [fS] g1 w1/\Good P Stop g1 w1:=by
 have hnT:∀τ d,¬Stop g (WT w τ d):=fun τ d h=>hn (hS.back h);obtain⟨n,x,hx,hs⟩:=hG τ d;obtain⟨n',g1',w1',lB,e1,hb,CO,WY,ui⟩:=qW cH hS (hI.WT τ d) hx hs (hnT τ d);rw[dW] at CO;cases CO;refine⟨hb,WY,fun Cs d'=>?_⟩;obtain⟨c,hc,hk⟩:=(hI.WT τ d).Dy cH hb;have hA:fX (WT w τ d) c (fun j q=>if j<c then τ (d+j) q else Cs (d'+(j-c)) q) 0:=by
  intro j hj q;simp only[Nat.zero_add,hj,if_true];rfl
 have h1:=hc _ 0 hA;rw[dW,LC] at h1;simp only[ZW,Nat.zero_add] at h1;obtain⟨m,y,hy,hys⟩:=hG (fun j q=>if j<c then τ (d+j) q else Cs (d'+(j-c)) q) 0;obtain⟨m',g2,w2,es2,_,_,GH,ZY,Y6⟩:=qW cH hS (hI.WT _ 0) hy hys (hnT _ 0);rw[h1] at GH;cases GH;obtain⟨k,z,hz,WZ⟩:=JJ cH hS m' g1 _ y ZY Y6 hys Cs d' (fun j q=>by
  simp only[WT];rw[if_neg aa]
  congr 1
  omega)
 exact⟨k,z,hz,WZ⟩
def Nx(P:Program)(Stop:aS->ae->Prop)(y x:aS×ae):Prop:=¬Stop x.1 x.2/\∃τ d es,stepG P true x.1 (WT x.2 τ d)=.go y.1 y.2 es
theorem GI(cH:qf P L Gm)(hS:qU Stop){g:aS}{w:ae}(hI:Inv P L Gm [fS] g w)(hG:Good P Stop g w):Acc (Nx P Stop) (g,w):=by
 refine aO fun hna=>?_;have next:∀x:{x:aS×ae // Inv P L Gm [fS] x.1 x.2/\Good P Stop x.1 x.2/\¬Acc (Nx P Stop) x},∃y:{x:aS×ae // Inv P L Gm [fS] x.1 x.2/\Good P Stop x.1 x.2/\¬Acc (Nx P Stop) x},Nx P Stop y.1 x.1:=by
  rintro⟨x,hxI,hxG,hxA⟩;have:∃y,Nx P Stop y x/\¬Acc (Nx P Stop) y:=by
   refine aO fun h=>hxA ?_;exact Acc.intro x fun y hy=>aO fun hc=>h ⟨y,hy,hc⟩
  obtain⟨y,hy,hyA⟩:=this;obtain⟨hn,τ,d,es,dW⟩:=hy;obtain⟨_,h1,h2⟩:=xO cH hS hxI hxG hn dW;exact⟨⟨y,h1,h2,hyA⟩,hn,τ,d,es,dW⟩
 obtain⟨nx,xP⟩:=dO next
 let seq:Nat->{x:aS×ae // Inv P L Gm [fS] x.1 x.2/\Good P Stop x.1 x.2/\¬Acc (Nx P Stop) x}:=fun n=>Nat.rec ⟨(g,w),hI,hG,hna⟩ (fun _ x=>nx x) n;have vk:∀n,Nx P Stop (seq (n+1)).1 (seq n).1:=fun n=>xP (seq n);have hn:∀n,¬Stop (seq n).1.1 (seq n).1.2:=fun n=>(vk n).1;obtain⟨τ,hτ⟩:=dO (fun n=>(vk n).2);obtain⟨d,hd⟩:=dO hτ;obtain⟨es,GJ⟩:=dO hd;have hdr:∀n,∃c,(∀Cs d',fX (WT (seq n).1.2 (τ n) (d n)) c Cs d'->stepG P true (seq n).1.1 (WT (seq n).1.2 Cs d')=.go (seq (n+1)).1.1 (WT (seq (n+1)).1.2 Cs (d'+c)) (es n)):=by
  intro n;have hb:=(xO cH hS (seq n).2.1 (seq n).2.2.1 (hn n) (GJ n)).1;obtain⟨c,hc,_⟩:=((seq n).2.1.WT (τ n) (d n)).Dy cH hb;refine⟨c,fun Cs d' hA=>?_⟩;have:=hc Cs d' hA;rw[GJ n,LC] at this;exact this
 obtain⟨c,hc⟩:=dO hdr;let D:Nat->Nat:=fun n=>Nat.rec 0 (fun k x=>x+c k) n;have hD:∀n,D (n+1)=D n+c n:=fun n=>rfl;have LD:∀m n,m<=n->D m<=D n:=by
  intro m n h
  induction n with
  |zero =>
   obtain rfl:m=0:=aa;exact ag _
  |succ n ih =>
   rcases bP m (n+1) with h1|h1
   ·have:=ih aa;rw[hD];omega
   ·obtain rfl:m=n+1:=aa;exact ag _
 have ZZ:∀m n j,D m<=j->j<D (m+1)->D n<=j->j<D (n+1)->m=n:=by
  intro m n j h1 h2 h3 h4;rcases gE m n with h|h|h
  ·have:=LD (m+1) n h;omega
  ·exact h
  ·have:=LD (n+1) m h;omega
 have Z0:∃T:Tape,∀n j,j<c n->∀q,T (D n+j) q=τ n (d n+j) q:=by
  classical
  refine⟨fun i q=>if h:∃n,D n<=i/\i<D (n+1) then τ h.choose (d h.choose+(i-D h.choose)) q else 0,?_⟩;intro n j hj q;have h:∃k,D k<=D n+j/\D n+j<D (k+1):=⟨n,aa,by rw[hD];omega⟩;have e:h.choose=n:=ZZ _ _ (D n+j) h.choose_spec.1 h.choose_spec.2 aa (by rw[hD];omega);simp only[h,dif_pos];rw[e]
  congr 1
  omega
 obtain⟨T,hT⟩:=Z0;have cm:∀k n,jy P k (seq n).1.1 (WT (seq n).1.2 T (D n))=some ((seq (n+k)).1.1,WT (seq (n+k)).1.2 T (D (n+k))):=by
  intro k
  induction k with
  |zero=>intro n;rfl
  |succ k ih =>
   intro n;have hs:=hc n T (D n) (fun j hj q=>hT n j hj q);simp only[jy,hs];have:=ih (n+1);rw[show n+1+k=n+(k+1) by omega] at this;rw[<- hD];exact this
 obtain⟨k,x,hx,hs⟩:=hG T 0;have h0:=cm k 0;simp only[Nat.zero_add] at h0;have e0:jy P k g (WT w T 0)=some ((seq k).1.1,WT (seq k).1.2 T (D k)):=h0;rw[e0] at hx;cases hx;exact hn k (hS.back hs)
end
end
section
open Go.Conc (G)
section
variable {P:Program} {L:Nat->Bool} {Gm:Nat} {Stop:aS->ae->Prop}
theorem nR{fr:Frame}{cs:List Frame}{w w1:ae}{g1:aS}{es:Array Event}{FQ:Frame}{rW:List Frame}(h:stepG P true (G fr cs) w=.go g1 w1 es)(e:g1=G FQ rW):step P (lone fr cs w)=.next (lone FQ rW w1):=by
 subst e;refine step_lone_go ?_;show(stepG P true (G fr cs) w).bare=_;rw[h];rfl
theorem jH{fr:Frame}{cs:List Frame}{w w1:ae}{o:Outcome}{es:Array Event}(h:stepG P true (G fr cs) w=.ended o w1 es):step P (lone fr cs w)=.ended o w1:=by
 refine step_lone_ended ?_;show(stepG P true (G fr cs) w).bare=_;rw[h];rfl
theorem GK{fr Lw:Frame}{cs Ct:List Frame}{w w':ae}(h:lone fr cs w=lone Lw Ct w'):fr=Lw/\cs=Ct/\w=w':=by
 simp only[lone,Machine.mk.injEq,Array.mk.injEq,aac,Goroutine.mk.injEq,and_true] at h;exact⟨h.2.1,h.2.2,h.1⟩
theorem MV(cH:qf P L Gm){Lw:Frame}{w':ae}(hm:Lw.mode=.returning):∀(n:Nat) (fr:Frame) (cs:List Frame) (w:ae),(Inv P L Gm [fS] (G fr cs) w\/yN P (G fr cs)) ->
  runN P n (lone fr cs w)=.next (lone Lw [fS] w')->jy P n (G fr cs) w=some (G Lw [fS],w'):=by
 intro n
 induction n with
 |zero =>
  intro fr cs w _ h;simp only[runN,Stepped.next.injEq] at h;obtain⟨rfl,rfl,rfl⟩:=GK h;rfl
 |succ n ih =>
  intro fr cs w hI h;simp only[runN] at h;rcases hI with hI|hF
  ·by_cases hb:nQ [fS] (G fr cs)
   ·exfalso;obtain⟨F,FQ,ab,vi,abr,wr,hg,h2,h3,_⟩:=hI;obtain⟨fr2,e1,Y3⟩:=hb;simp only[G,Goroutine.mk.injEq] at hg e1;obtain⟨rfl,Ps,_⟩:=hg;obtain⟨rfl,rfl,_⟩:=e1;obtain⟨yL,ql,_⟩:=cH.body _ h2.fn;obtain⟨hd,uG,hk,pZ,Ly,_⟩:=h2;obtain⟨fn,tmps,todo,defers,mode,kind,ro⟩:=fr;simp only at hd uG hk Y3 ql;subst hd uG hk Y3;rcases hr:(results yL tmps).runT P w #[] with⟨r,el⟩;cases r with
    |ok v w1 =>
     have dW:stepG P true (G (Fr fn tmps todo .returning) [fS]) w=.go (G fS []) w1 (seen P fn el):=by
      simp only[G,stepG,unwind,ql,hr,GStep.after,doReturn,aab];rfl
     rw[nR dW rfl] at h;simp only[] at h;cases n with
     |zero =>
      simp only[runN,Stepped.next.injEq] at h;have:=(GK h).2.1;simp at this
     |succ n =>
      have:∃o es,stepG P true (G fS []) w1=.ended o w1 es:=⟨_,_,by simp only[G,stepG,fS,stepG.exec];rfl⟩;obtain⟨o,es,he⟩:=this;simp only[runN,jH he] at h;cases h
    |halt hh w1 =>
     have:∃o es,stepG P true (G (Fr fn tmps todo .returning) [fS]) w=.ended o w1 es:=by
      cases hh<;>exact⟨_,_,by simp only[G,stepG,unwind,ql,hr,GStep.after];rfl⟩
     obtain⟨o,es,he⟩:=this;rw[jH he] at h;cases h
   ·obtain⟨c,_,hk⟩:=hI.Dy cH hb;cases dW:stepG P true (G fr cs) w with
    |go g1 w1 es =>
     have xP:=hI.next cH hb dW
     obtain⟨FQ,rW,e⟩:∃FQ rW,g1=G FQ rW:=by
      rcases xP with hx|hx
      ·obtain⟨F,FQ,ab,vi,abr,wr,hg,_⟩:=hx;exact⟨_,_,hg⟩
      ·rcases hx with⟨ab,FQ,ch,hg,_⟩|⟨ch,hg⟩<;>exact⟨_,_,hg⟩
     rw[nR dW e] at h;subst e;simp only[jy,dW];exact ih FQ rW w1 xP h
    |ended o w1 es=>rw[jH dW] at h;cases h
    |_=>rw[dW] at hk;exact hk.elim
  ·rcases AW hF w with⟨o,w1,es,dW⟩|⟨g1,w1,es,dW,mw⟩
   ·rw[jH dW] at h;cases h
   ·obtain⟨FQ,rW,e⟩:∃FQ rW,g1=G FQ rW:=by
     rcases mw with⟨ab,FQ,ch,hg,_⟩|⟨ch,hg⟩<;>exact⟨_,_,hg⟩
    rw[nR dW e] at h;subst e;simp only[jy,dW];exact ih FQ rW w1 (.inr mw) h
def kg(P:Program)(zS:FuncId)(Q:Value->ae->Prop)(g:aS)(w:ae):Prop :=
 ∃fr v,g=G fr [fS]/\fr.fn=zS/\fr.mode=.returning/\∀τ d,fr.leaving P (WT w τ d) (.returned v)/\Q v (WT w τ d)
theorem zT(zS:FuncId)(Q:Value->ae->Prop):qU (kg P zS Q) where
 base g w h:=let ⟨fr,v,e,_,hm,_⟩:=h;⟨fr,e,hm⟩
 tape g w τ d h:=let ⟨fr,v,e,h1,hm,h2⟩:=h;⟨fr,v,e,h1,hm,fun Cs d'=>by rw[LC];exact h2 Cs d'⟩
def JK(Q:Value->ae->Prop):Prop:=∀v w τ d,Q v w->Q v (WT w τ d)
theorem MW(cH:qf P L Gm):∀(n:Nat) (g:aS) (w:ae) (x:aS×ae),Inv P L Gm [fS] g w->jy P n g w=some x->nQ [fS] x.1->Inv P L Gm [fS] x.1 x.2:=by
 intro n
 induction n with
 |zero=>intro g w x hI hx _;simp only[jy,en] at hx;rw[<- hx];exact hI
 |succ n ih =>
  intro g w x hI hx hb;have EK:¬nQ [fS] g:=fun h=>Dz h ⟨w,hI⟩ cH n w x hx hb;simp only[jy] at hx;cases dW:stepG P true g w with
  |go g1 w1 es =>
   rw[dW] at hx;simp only[] at hx;rcases hI.next cH EK dW with h|h
   ·exact ih g1 w1 x h hx hb
   ·exfalso;obtain⟨ch,hm⟩:=(AX n g1 w1 x h hx).mode;obtain⟨fr,e,hr⟩:=hb;rw[e] at hm;simp only[G] at hm;rw[hr] at hm;cases hm
  |_=>rw[dW] at hx;cases hx
theorem uH(cH:qf P L Gm){zS:FuncId}{args:Array Value}{w:ae}{Q:Value->ae->Prop}(hQ:JK Q)(hI:Inv P L Gm [fS] (G (Frame.enter P zS args .normal) [fS]) w)(hC:∀τ d,Calls P zS args (WT w τ d) fun e w'=>∃v,e=.returned v/\Q v w'):Good P (kg P zS Q) (G (Frame.enter P zS args .normal) [fS]) w:=by
 intro τ d;obtain⟨e,w',fr,⟨v,rfl,hv⟩,W8,pZ,hlv⟩:=hC τ d [fS];obtain⟨n,hn⟩:=W8;have hm:fr.mode=.returning:=hlv.1;have hl:=MV cH hm n _ _ _ (.inl (hI.WT τ d)) hn;have Z1:=MW cH n _ _ _ (hI.WT τ d) hl ⟨fr,rfl,hm⟩;refine⟨n,_,hl,fr,v,rfl,pZ,hm,fun Cs d'=>⟨?_,hQ v w' Cs d' hv⟩⟩;obtain⟨_,hd,hk,yL,ql,xQ⟩:=hlv;refine⟨hm,hd,hk,yL,ql,?_⟩;obtain⟨F,FQ,ab,vi,abr,wr,hg,h2,h3,h4,W,ug,hp⟩:=Z1;simp only[G,Goroutine.mk.injEq] at hg;obtain⟨rfl,_⟩:=hg;obtain⟨f0,jW⟩:=W.some;have hrel:=pM (PF.ok hp cH jW) yL fr.tmps;obtain⟨c,h5,h6,h7⟩:=vj _ _ w' #[] hrel;have kR:((results yL fr.tmps).runT P w' #[]).1=.ok v w':=by rw[Sem.runT_fst];exact xQ
 rw[kR] at h6 h7;have MX:c=0:=by simp only[AQ] at h6;omega
 subst MX;have h8:=h7 Cs d' (fun j hj=>aa);rw[<- Sem.runT_fst P (results yL fr.tmps) (WT w' Cs d') #[],h8];rfl
end
end
section
open Go.Conc (G)
def vZ(P:Program)(L:Nat->Bool)(Gm:Nat)(Stop:aS->ae->Prop)(csr:List Frame)(F:iZ)(x:aS×ae)(gr:aS)(wr:ae):Prop :=
 ∃fr ab vi abr,x.1=G fr (ab++[fS])/\gr=G vi (abr++csr)/\uf Gm L fr/\(∀c∈ab,uf Gm L c)/\(∀f,F.has f->vi=frame f fr/\abr=ab.map (frame f)) /\
  WR F x.2 wr/\fe x.2/\PF P L Gm F/\Good P Stop x.1 x.2
structure JL(F:iZ)(wr nk:ae):Prop where
 size:wr.heap.size<=nk.heap.size
 heap:∀r,F.K r->nk.heap[F.φ r]?=wr.heap[F.φ r]?
 os:nk.os=wr.os
 output:nk.output=wr.output
section
variable {P:Program} {L:Nat->Bool} {Gm:Nat} {Stop:aS->ae->Prop} {csr:List Frame} {F:iZ}
theorem Good.WT{g:aS}{w:ae}(h:Good P Stop g w)(τ:Tape)(d:Nat):Good P Stop g (WT w τ d):=fun Cs d'=>h Cs d'
theorem vZ.inv{x:aS×ae}{gr:aS}{wr:ae}(h:vZ P L Gm Stop csr F x gr wr):Inv P L Gm [fS] x.1 x.2:=by
 obtain⟨fr,ab,vi,abr,h1,h2,h3,h4,h5,W,hn,hp,hg⟩:=h;exact⟨F,fr,ab,vi,abr,wr,h1,h3,h4,h5,W,hn,hp⟩
theorem vZ.others{x:aS×ae}{gr:aS}{wr nk:ae}(h:vZ P L Gm Stop csr F x gr wr)(ho:JL F wr nk):vZ P L Gm Stop csr F (x.1,WT x.2 nk.tape nk.drawn) gr nk:=by
 obtain⟨fr,ab,vi,abr,h1,h2,h3,h4,h5,W,hn,hp,hg⟩:=h;refine⟨fr,ab,vi,abr,h1,h2,h3,h4,h5,⟨W.here,fun r hr=>bm (W.there r hr) ho.size,W.inj,fun r hr f hf=>?_,W.OT,ho.os.trans W.os,ho.output.trans W.output,rfl,rfl,W.zu,aR W.Eu ho.size,W.CC⟩,fe.heap hn rfl,hp,hg.WT _ _⟩;rw[ho.heap r hr];exact W.sr r hr f hf
theorem vZ.step(cH:qf P L Gm)(hS:qU Stop){x:aS×ae}{gr:aS}{wr:ae}(h:vZ P L Gm Stop csr F x gr wr)(Vw:¬Stop x.1 x.2)(m':Bool):
  ∃y F' OW nk es,stepG P m' gr wr=.go OW nk es/\Nx P Stop y x/\vZ P L Gm Stop csr F' y OW nk/\eJ F F' x.2 wr y.2 nk/\(∀e∈es,vF F' e)/\∀f,F'.has f->F.has f:=by
 have hI:=h.inv;obtain⟨fr,ab,vi,abr,h1,h2,h3,h4,h5,W,hn,hp,hg⟩:=h;obtain⟨g,w⟩:=x;simp only at h1 W hn hg hI Vw;subst h1 h2;obtain⟨n,z,hz,WZ⟩:=hg w.tape w.drawn;rw[vY] at hz;obtain⟨n',g1,w1,es,_,hb,dW,WY,_⟩:=qW cH hS hI hz WZ Vw;have hm:g1.frame.mode=.run\/g1.frame.mode=.returning:=by
  obtain⟨F1,FQ,ab1,_,_,_,I3,EL,_⟩:=WY;rw[I3];exact EL.mode
 have Tm:ab≠[]\/fr.mode=.run:=by
  rcases h3.mode with hm|hm
  ·exact .inr hm
  ·exact .inl fun e=>hb ⟨fr,by rw[e];rfl,hm⟩
 obtain⟨F',Lw,WK,JD,JE,oT,lB,e1,e2,e3,e4,e5,e6,e7,e8,e9,Vu,Pr⟩:=GC cH hp W hn (m':=m') (csr:=csr) h3 h4 h5 dW (AV WY).1 (AV WY).2 hm Tm;have hG1:Good P Stop g1 w1:=(xO cH hS (τ:=w.tape) (d:=w.drawn) hI hg Vw (by rw[vY];exact dW)).2.2;exact⟨(g1,w1),F',G JD (JE++csr),oT,lB,e4,⟨Vw,w.tape,w.drawn,es,by rw[vY];exact dW⟩,⟨Lw,WK,JD,JE,e1,rfl,e2,e3,e5,e6,Pr,e9,hG1⟩,e7,e8,Vu⟩
theorem vZ.ret(cH:qf P L Gm){zS:FuncId}{Q:Value->ae->Prop}{c:Frame}{cs:List Frame}{x:aS×ae}{gr:aS}{wr:ae}(h:vZ P L Gm (kg P zS Q) (c::cs) F x gr wr)(hs:kg P zS Q x.1 x.2)(m':Bool):
  ∃v v' F' nk es,stepG P m' gr wr=.go (G (c.finish v') cs) nk es/\Q v x.2/\(∀f,F'.has f->v'=val f v)/\WR F' x.2 nk/\eJ F F' x.2 wr x.2 nk/\(∀e∈es,vF F' e)/\∀f,F'.has f->F.has f:=by
 obtain⟨fr,ab,vi,abr,h1,h2,h3,h4,h5,W,hn,hp,hg⟩:=h;obtain⟨FQ,v,e1,_,hm,hlv⟩:=hs;have Z2:=hlv x.2.tape x.2.drawn;rw[vY] at Z2;rw[h1] at e1;simp only[G,Goroutine.mk.injEq] at e1;obtain⟨rfl,Ps,_⟩:=e1;have qg:ab=[]:=by
  have:=congrArg List.length Ps;simp at this;exact this
 subst qg;obtain⟨f0,jW⟩:=W.some;have mG:abr=[]:=(h5 f0 jW).2;subst mG;subst h2;obtain⟨⟨_,_,_,yL,ql,xQ⟩,hQ⟩:=Z2;obtain⟨hd,uG,hk,pZ,Ly,_⟩:=h3;obtain⟨fn,tmps,todo,defers,mode,kind,ro⟩:=fr;simp only at hd uG hk hm ql xQ;subst hd uG hk hm;obtain⟨tr,CL,uF⟩:∃tr,vi=Fr fn tr todo .returning/\∀f,F.has f->tr=tmps.map (val f):=by
  refine⟨tmps.map (val f0),(h5 f0 jW).1,fun f hf=>?_⟩;have:=(h5 f0 jW).1.symm.trans (h5 f hf).1;simp only[frame,Frame.mk.injEq] at this;exact this.2.1
 subst CL;have hrel:∀f,F.has f->Rel P f (V f) (results yL tmps) (results yL tr):=by
  intro f hf;rw[uF f hf];exact pM (PF.ok hp cH hf) yL tmps
 have hC:=vH (fun f=>V f) _ _ F x.2 wr #[] #[] hrel W;rw[Sem.runT_fst,xQ] at hC;obtain⟨F',v',nk,WM,c1,c2,c3,c4,c5,c6⟩:=hC;refine⟨v,v',F',nk,seen P fn WM,?_,hQ,c2,c3,c4,?_,c6⟩
 ·simp only[G,stepG,unwind,ql,c1,List.nil_append,GStep.after,doReturn,aab]
 ·intro e he;obtain⟨new,rfl,CM⟩:=c5;have:=AK P fn _ e he;exact CM e (by simpa using this)
end
end
open Go.Conc
section
open Go.ConcN (sumTo upd sumTo_upd upd_ne upd_same)
def sK(S:Nat->Prop):Loc->Prop
 | .cell a=>S a.block
 |_=>False
theorem DC{S:Nat->Prop}{B:Nat}{F:iZ}(hF:∀r,F.K r->¬S (F.φ r)/\F.φ r<B){e:Event}(h:vF F e):EvL (sK S) B e:=by
 obtain⟨loc,wt,sy⟩:=e;cases loc with
 |cell a =>
  obtain⟨r,h1,h2⟩:=h;have hf:=hF r h1;rw[h2] at hf;refine⟨fun x hx hs=>?_,an,an,?_⟩
  ·simp only[MemAct.ofEvent,MemAct.touch?,en] at hx;subst hx;exact absurd hs hf.1
  ·exact hf.2
 |obj b =>
  obtain⟨r,h1,h2⟩:=h;have hf:=hF r h1;rw[h2] at hf;refine⟨fun x hx hs=>?_,an,an,?_⟩
  ·cases wt<;>cases sy<;>simp only[MemAct.ofEvent,MemAct.touch?,en] at hx;all_goals first|cases hx;done|skip
   all_goals (subst hx;exact hs.elim)
  ·cases wt<;>cases sy<;>exact hf.2
 |output =>
  refine⟨fun x hx hs=>?_,an,an,trivial⟩;simp only[MemAct.ofEvent,MemAct.touch?,en] at hx;subst hx;exact hs.elim
 |goroutines =>
  refine⟨fun x hx hs=>?_,an,an,trivial⟩;simp only[MemAct.ofEvent,MemAct.touch?,en] at hx;subst hx;exact hs.elim
 |mark m =>
  have hd:Jp m=true:=h;cases m<;>first|exact Bool.noConfusion hd|skip
  all_goals
   refine⟨fun x hx hs=>?_,an,an,trivial⟩;simp only[MemAct.ofEvent,MemAct.touch?] at hx;cases hx
section
variable {P:Program} {L:Nat->Bool} {Gm:Nat}
theorem DD{F:iZ}{w:ae}(d:Nat):JL F w (w.at d):=⟨ag _,fun _ _=>rfl,rfl,rfl⟩
theorem Vx{Stop:aS->ae->Prop}(hS:qU Stop){y:aS×ae}{g:aS}{w:ae}{τ:Tape}{d:Nat}(h:Nx P Stop y (g,WT w τ d)):Nx P Stop y (g,w):=by
 obtain⟨hn,Cs,d',es,dW⟩:=h;exact⟨fun hs=>hn (hS.tape _ _ _ _ hs),Cs,d',es,dW⟩
theorem wb{Stop:aS->ae->Prop}{csr:List Frame}{F:iZ}{x:aS×ae}{gr:aS}{w:ae}(h:vZ P L Gm Stop csr F x gr w):gr.status=.running:=by
 obtain⟨fr,ab,vi,abr,h1,rfl,_⟩:=h;rfl
theorem GL(cH:qf P L Gm){zS:FuncId}{Q:Value->ae->Prop}{c:Frame}{cs:List Frame}{S:Nat->Prop}(x:aS×ae)(EM:Acc (Nx P (kg P zS Q)) x):
  ∀(M B:Nat) (gs:Array aS) (gr:aS) (w:ae) (sl:Option (Nat×Nat)) (t:Trace) (q:Nat->Nat) (F:iZ),sumTo gs.size q<M->gs[0]?=some gr->Leavers P t gs q->w.heap.size<=B->Past (sK S) B t ->
   (∀r,F.K r->¬S (F.φ r))->(∀b,w.heap.size<=b->¬S b)->vZ P L Gm (kg P zS Q) (c::cs) F (x.1,WT x.2 w.tape w.drawn) gr w ->
   ∃(N:Nat) (gd:Array aS) (w' aI:ae) (qm:Option (Nat×Nat)) (t':Trace) (q':Nat->Nat) (B':Nat) (F':iZ) (v v':Value),
    runNT P N (crowd gs w sl) t=(.next (crowd gd w' qm),t')/\gd.size=gs.size/\gd[0]?=some (G (c.finish v') cs)/\Leavers P t' gd q'/\w'.heap.size<=B'/\Past (sK S) B' t' /\
    Q v aI/\(∀f,F'.has f->v'=val f v)/\WR F' aI w'/\eJ F F' x.2 w aI w'/\(∀f,F'.has f->F.has f)/\(∀r,F'.K r->¬S (F'.φ r))/\(∀b,w'.heap.size<=b->¬S b):=by
 have hS:=zT (P:=P) zS Q
 induction EM with
 |intro x _ ih =>
 intro M
 induction M with
 |zero =>
  intro B gs gr w sl t q F hM;exact absurd hM (dE _)
 |succ M ihM =>
  intro B gs gr w sl t q F hM h0 hL hB hP hK Z3 MY;have cm:=wb MY;have Vy:∀g∈gs,awake g:=by
   intro g hg;obtain⟨i,hi,rfl⟩:=Array.mem_iff_getElem.1 hg;rcases aZ i with rfl|nS
   ·have:gs[0]=gr:=by simpa[Array.getElem?_eq_getElem hi] using h0
    rw[this];exact awake_of (.inl cm)
   ·exact awake_of ((hL.old i _ nS (aG hi)).status.elim .inl fun x=>.inr (.inr x))
  obtain⟨i,g,d,qm,hi,hg,dW⟩:=crowd_pick (P:=P) (w:=w) (sl:=sl) Vy ⟨0,gr,h0,cm⟩;rcases aZ i with rfl|nS
  ·
   obtain rfl:g=gr:=by rw[h0] at hi;exact(aK hi).symm
   have MZ:=MY.others (DD (F:=F) (w:=w) d);have bZ:0<gs.size:=(Array.getElem?_eq_some_iff.1 h0).1;have Pt:∀(a':aS) (w':ae) (es:Array Event),Leavers P (t++MemOp.ofEvents 0 g.frame.fn g.frame.place es) ((gs.map (woken P g a' w')).setIfInBounds 0 a') q:=by
    intro a' w' es;refine⟨fun j x hj hx=>?_,fun j hj=>?_⟩
    ·have cV:0≠j:=aa;rw[aJ cV,br] at hx;obtain⟨y,hy,rfl⟩:=Option.map_eq_some_iff.1 hx;have hq:=hL.old j y hj hy;rw[woken_quitsD hq,Deaf_other t aa _ (fun op eu=>by obtain⟨e,_,rfl⟩:=Go.Conc.mem_ofEvents eu;rfl)];exact hq
    ·rw[Deaf_other t (g':=0) (by simp at hj;omega) _ (fun op eu=>by obtain⟨e,_,rfl⟩:=Go.Conc.mem_ofEvents eu;rfl)];exact hL.above j (by simpa using hj)
   by_cases hs:kg P zS Q x.1 x.2
   ·
    obtain⟨v,v',F',nk,es,e1,e2,e3,e4,e5,e6,e7⟩:=MZ.ret cH (hS.tape _ _ _ _ hs) true;have sL:=runT_crowd_go (P:=P) (sl:=qm) (i:=0) hi (show stepG P (0==0) g (w.at d)=_ from e1);have Z4:∀r,F'.K r->¬S (F'.φ r):=by
     intro r hr;rcases e5.vb r hr with h|h
     ·rw[e5.φ r h];exact hK r h
     ·exact Z3 _ h.2
    have mo:∀r,F'.K r->F'.φ r<B+nk.heap.size+1:=fun r hr=>by have:=e4.there r hr;omega
    refine⟨1,(gs.map (woken P g (G (c.finish v') cs) nk)).setIfInBounds 0 (G (c.finish v') cs),nk,_,qm,t++MemOp.ofEvents 0 g.frame.fn g.frame.place es,q,B+nk.heap.size+1,F',v,v',by simp only[runNT,dW,sL],an,by simp[bZ],Pt _ _ es,aa,(hP.mono aa).own (fun e he=>DC (fun r hr=>⟨Z4 r hr,mo r hr⟩) (e6 e he)),e2,e3,e4,?_,e7,Z4,?_⟩
    ·exact⟨e5.K,e5.φ,e5.L,e5.vb,ag _,e5.size,e5.mine,e5.rest,e5.G,e5.zu,e5.Pb,e5.Ao,e5.same⟩
    ·intro b hb;exact Z3 b (aR e5.size hb)
   ·obtain⟨y,F',OW,nk,es,e1,e2,e3,e4,e5,e6⟩:=MZ.step cH hS (fun h=>hs (hS.back h)) true;have sL:=runT_crowd_go (P:=P) (sl:=qm) (i:=0) hi (show stepG P (0==0) g (w.at d)=_ from e1);have Z4:∀r,F'.K r->¬S (F'.φ r):=by
     intro r hr;rcases e4.vb r hr with h|h
     ·rw[e4.φ r h];exact hK r h
     ·exact Z3 _ h.2
    have qX:WR F' y.2 nk:=by obtain⟨_,_,_,_,_,_,_,_,_,hW,_⟩:=e3;exact hW
    have mo:∀r,F'.K r->F'.φ r<B+nk.heap.size+1:=fun r hr=>by have:=qX.there r hr;omega
    have hyt:(y.1,WT y.2 nk.tape nk.drawn)=y:=by rw[qX.tape,qX.drawn];rfl
    have ft:((gs.map (woken P g OW nk)).setIfInBounds 0 OW).size=gs.size:=an;obtain⟨N,gd,w',aI,To,t',q',B',F2,v,v',k1,k2,k3,k4,k5,k6,k7,k8,k9,GM,k11,Z5,Z6⟩:=ih y (Vx hS e2) (sumTo gs.size q+1) (B+nk.heap.size+1) ((gs.map (woken P g OW nk)).setIfInBounds 0 OW) OW nk qm (t++MemOp.ofEvents 0 g.frame.fn g.frame.place es) q F' (by rw[ft];exact bz _) (by simp[bZ]) (Pt OW nk es) aa
     ((hP.mono aa).own (fun e he=>DC (fun r hr=>⟨Z4 r hr,mo r hr⟩) (e5 e he))) Z4 (fun b hb=>Z3 b (aR e4.size hb)) (by rw[hyt];exact e3)
    refine⟨N+1,gd,w',aI,To,t',q',B',F2,v,v',by simp only[runNT,dW,sL];exact k1,k2.trans ft,k3,k4,k5,k6,k7,k8,k9,?_,fun f hf=>e6 f (k11 f hf),Z5,Z6⟩;have:=e4.trans GM;exact⟨this.K,this.φ,this.L,this.vb,this.An,this.size,this.mine,this.rest,this.G,this.zu,this.Pb,this.Ao,this.same⟩
  ·
   have hq:=hL.old i g nS hi;have Z7:(i==0)=false:=eR;have bZ:i<gs.size:=(Array.getElem?_eq_some_iff.1 hi).1;cases Xa:q i with
   |zero=>rw[Xa] at hq;rw[hq.1] at hg;cases hg
   |succ k =>
    rw[Xa] at hq;rcases hq with⟨hf,_⟩|⟨_,g',es,hm,Xb,EN⟩
    ·rw[hf] at hg;cases hg
    have sL:=runT_crowd_go (P:=P) (sl:=qm) (i:=i) hi (by rw[Z7];exact Xb (w.at d));have ft:((gs.map (woken P g g' (w.at d))).setIfInBounds i g').size=gs.size:=an;have aep:sumTo gs.size (upd q i k)+(k+1)=sumTo gs.size q+k:=by
     have:=sumTo_upd q k id bZ;simpa[Xa] using this
    obtain⟨N,gd,w',aI,To,t',q',B',F2,v,v',k1,k2,k3,k4,k5,k6,k7,k8,k9,GM,k11,Z5,Z6⟩:=ihM B ((gs.map (woken P g g' (w.at d))).setIfInBounds i g') gr (w.at d) qm (t++MemOp.ofEvents i g.frame.fn g.frame.place es) (upd q i k) F (by rw[ft];omega)
     (by
      have cV:i≠0:=aa;rw[aJ cV,br,h0];simp[woken_run cm])
     ⟨fun j x hj hx=>by
      by_cases uI:i=j
      ·subst uI;rw[bR (by simpa using bZ)] at hx;obtain rfl:=aK hx;rw[upd_same,Deaf_own];exact EN
      ·rw[aJ uI,br] at hx;obtain⟨y,hy,rfl⟩:=Option.map_eq_some_iff.1 hx;have Z8:=hL.old j y hj hy;rw[woken_quitsD Z8,upd_ne q k (bc uI),Deaf_other t uI _ (fun op eu=>by obtain⟨e,_,rfl⟩:=Go.Conc.mem_ofEvents eu;rfl)];exact Z8,fun j hj=>by
      rw[Deaf_other t (g':=i) (by simp at hj;omega) _ (fun op eu=>by obtain⟨e,_,rfl⟩:=Go.Conc.mem_ofEvents eu;rfl)];exact hL.above j (by simpa using hj)⟩
     hB (hP.mute aa hm) hK Z3 (MY.others (DD (F:=F) (w:=w) d))
    exact⟨N+1,gd,w',aI,To,t',q',B',F2,v,v',by simp only[runNT,dW,sL];exact k1,k2.trans ft,k3,k4,k5,k6,k7,k8,k9,⟨GM.K,GM.φ,GM.L,GM.vb,GM.An,GM.size,GM.mine,GM.rest,GM.G,GM.zu,GM.Pb,GM.Ao,GM.same⟩,k11,Z5,Z6⟩
end
end
section
variable {P:Program} {f:Rn} {L:Nat->Bool} {Gm:Nat}
theorem DF{n:Nat}{fn:Func}(hf:P.funcs[n]?=some fn)(hb:fn.body.isSome=true)(hn:(fn.name == "runtime.NumGoroutine")=false)(hL:L n=true)(args:Array Value):
  Rel P f (iI L f) (callFunc n args) (callFunc n (args.map (val f))):=by
 refine aj dt ?_;rintro _ _ ⟨rfl,rfl⟩;have mo:fn.body.isNone=false:=by cases h:fn.body<;>simp_all
 simp only[hf,hn,mo,fl,if_false];exact au ⟨rfl,hL,rfl⟩
theorem nn{n:Nat}{fn:Func}{e:Array Value->Sem Value}(hf:P.funcs[n]?=some fn)(hb:fn.body=none)(hn:(fn.name == "runtime.NumGoroutine")=false)(hx:(Extern.findNext fn).isNone=true)(he:Extern.find fn=some e)(hh:f.h n=n)(args:Array Value)(hr:Rel P f (V f) (e args) (e (args.map (val f)))):Rel P f (iI L f) (callFunc n args) (callFunc n (args.map (val f))):=by
 refine aj dt ?_;rintro _ _ ⟨rfl,rfl⟩;have kB:Extern.findNext fn=none:=by simpa using hx
 simp only[hf,hn,hb,kB,he,fl,if_false,Option.isNone_none,if_true];refine aj (A:=fun _ _=>True) ?_ ?_
 ·have:=Pf (P:=P) (f:=f) (m:=.extern n) rfl;simp only[Jo,hh] at this;exact this
 ·rintro _ _ _;exact aj hr (by rintro v _ rfl;exact au rfl)
theorem we(args:Array Value):Rel P f (V f) (Extern.AbiNoEscape.same args) (Extern.AbiNoEscape.same (args.map (val f))):=by
 obtain⟨l⟩:=args;rcases l with _|⟨x,_|⟨y,l⟩⟩
 ·exact az
 ·simp only[List.map_toArray,bU,oe];exact au rfl
 ·exact az
theorem AY:∀(n:Nat) (a:Addr) (acc:ah),Rel P f Eq (Extern.Bytes.loadBytes a n acc) (Extern.Bytes.loadBytes (addr f a) n acc):=by
 intro n
 induction n with
 |zero=>intro a acc;exact au rfl
 |succ n ih =>
  intro a acc;unfold Extern.Bytes.loadBytes;refine aj (vI a) ?_;rintro v _ rfl;cases v<;>simp only[cg,cy,bQ,bw,bC,aW,bt,cC,b7,b8,bB,bI,bj,cz,bL]<;>first|exact az|skip
  rename_i k b;cases k<;>first|exact az|skip
  rw[<- jP];exact ih _ _
theorem yO(v:Value):Rel P f Eq (Extern.Bytes.bytesOf v) (Extern.Bytes.bytesOf (val f v)):=by
 cases v<;>simp only[cg,cy,bQ,bw,bC,aW,bt,cC,b7,b8,bB,bI,bj,cz,bL]<;>first|exact az|exact au rfl|skip
 rename_i a len cap;cases a with
 |none=>exact au rfl
 |some a=>exact AY _ _ _
theorem GN(args:Array Value):Rel P f (V f) (Extern.BytealgCompare.compare args) (Extern.BytealgCompare.compare (args.map (val f))):=by
 obtain⟨l⟩:=args;rcases l with _|⟨x,_|⟨y,_|⟨z,l⟩⟩⟩
 ·exact az
 ·exact az
 ·simp only[List.map_toArray,bU,oe];refine aj (yO x) ?_;rintro a _ rfl;refine aj (yO y) ?_;rintro b _ rfl;exact au (by simp[V,goInt])
 ·exact az
theorem JM:∀(n t:Nat) (acc:Array Value),acc.map (val f)=acc->(Extern.BytealgMakeNoZero.digits n t acc).map (val f)=Extern.BytealgMakeNoZero.digits n t acc:=by
 intro n
 induction n with
 |zero=>intro t acc h;exact h
 |succ n ih=>intro t acc h;exact ih _ _ (by simp[Array.map_push,h])
theorem sM(hf:mC P f)(ps rs:Array TypeId)(args:Array Value):Rel P f (V f) (Extern.BytealgMakeNoZero.makeNoZero ps rs args) (Extern.BytealgMakeNoZero.makeNoZero ps rs (args.map (val f))):=by
 obtain⟨l⟩:=args;rcases l with _|⟨x,_|⟨y,l⟩⟩
 ·exact az
 ·simp only[List.map_toArray,bU,oe];cases x<;>first|exact az|skip
  rename_i k n;cases k<;>first|exact az|skip
  rw[cy];obtain⟨rl⟩:=rs;cases rl with
  |nil=>exact az
  |cons t rl =>
   refine aj (aY t) ?_;rintro d _ ⟨rfl,_⟩;cases d<;>first|exact az|skip
   refine eG (bM hf _) ?_;refine aj (gZ _) ?_;rintro c _ rfl;refine aj (sw _) ?_;rintro _ _ _;refine aj (gZ _) ?_;rintro b _ rfl;refine aj (A:=AR f) (jG _ (JM _ _ _ an).symm) ?_;rintro a _ rfl;exact au (by simp[V])
 ·exact az
end
theorem M0{α β:Type}(I:β->Prop){g:α->β->Option (ForInStep β)}:∀(l:List α) (init r:β),(∀x∈l,∀a s,I a->g x a=some s->I s.value)->I init->forIn (m:=Option) l init g=some r->I r:=by
 intro l
 induction l with
 |nil=>intro init r _ hi h;simp only[List.forIn_nil] at h;cases h;exact hi
 |cons x l ih =>
  intro init r hg hi h;simp only[List.forIn_cons] at h;cases hx:g x init with
  |none=>rw[hx] at h;cases h
  |some s =>
   rw[hx] at h;have hs:=hg x an init s hi hx;cases s with
   |done b=>cases h;exact hs
   |yield b=>exact ih b r (fun y hy=>hg y (by simp[hy])) hs h
theorem DG{cs:Array Value}(h:∀c∈cs,Plain c):Plain (.agg cs):=by
 intro f;rw[cz]
 congr 1
 apply iF
 ·simp
 ·intro i h1 h2;simp only[Array.getElem_map];exact h _ an f
theorem yP{v:Value}(h:Plain v):∀c∈v.cells,Plain c:=by
 intro c hc f;have:=jT f v;rw[h f] at this;obtain⟨i,hi,rfl⟩:=Array.mem_iff_getElem.1 hc;have e:=congrArg (fun a:Array Value=>a[i]?) this;simp only[br,Array.getElem?_eq_getElem hi,cR,en] at e;exact e.symm
def AZ(info:TypeId->Option TypeInfo):Prop:=∀t i z,info t=some i->i.zero=some z->Plain z
theorem EO{info:TypeId->Option TypeInfo}(hi:AZ info)(d:TypeDesc){i:TypeInfo}{z:Value}(h:Made.reckon info d=some i)(hz:i.zero=some z):Plain z:=by
 cases d
 case pointer e =>
  simp only[Made.reckon,Option.bind_eq_bind,Option.bind_eq_some_iff] at h;obtain⟨j,_,h⟩:=h;split at h
  ·cases h
  ·split at h
   ·cases h
   ·obtain⟨s,_,h⟩:=Option.bind_eq_some_iff.1 h;cases h;cases hz;exact fun f=>an
  ·obtain⟨s,_,h⟩:=Option.bind_eq_some_iff.1 h;cases h;cases hz;exact fun f=>an
 case slice e =>
  simp only[Made.reckon,Option.bind_eq_bind,Option.bind_eq_some_iff] at h;obtain⟨j,_,s,_,h⟩:=h;cases h;cases hz;exact fun f=>an
 case map k e =>
  simp only[Made.reckon,Option.bind_eq_bind,Option.bind_eq_some_iff] at h;obtain⟨j,_,s,_,j2,_,s2,_,h⟩:=h;cases h;cases hz;exact fun f=>an
 case chan dir e =>
  simp only[Made.reckon,Option.bind_eq_bind,Option.bind_eq_some_iff] at h;obtain⟨j,_,s,_,h⟩:=h;cases h;cases hz;exact fun f=>an
 case func ps rs v =>
  simp only[Made.reckon,Option.bind_eq_bind,Option.bind_eq_some_iff] at h;obtain⟨s,_,h⟩:=h;cases h;cases hz;exact fun f=>an
 case array n e =>
  simp only[Made.reckon,Option.bind_eq_bind,Option.bind_eq_some_iff] at h;obtain⟨j,hj,s,_,h⟩:=h;cases h;simp only[] at hz;split at hz
  ·cases hz
  ·split at hz
   ·cases hz;exact fun f=>an
   ·obtain⟨y,hy,rfl⟩:=Option.map_eq_some_iff.1 hz;refine DG ?_;intro c hc;simp only[Array.mem_flatten,Array.mem_replicate] at hc;obtain⟨cs,⟨_,rfl⟩,hc⟩:=hc;exact yP (hi e j y hj hy) c hc
 case struct fs =>
  have h':Made.reckonStruct info fs=some i:=h;unfold Made.reckonStruct at h';obtain⟨r,hr,h'⟩:=Option.bind_eq_some_iff.1 h';rw[<- fj] at hr;have hI:∀a,r.2.2.2.2.2.2.2.1=some a->∀c∈a,Plain c:=by
   refine M0 (fun s=>∀a,s.2.2.2.2.2.2.2.1=some a->∀c∈a,Plain c) fs.toList _ r ?_ ?_ hr
   ·intro x hx s st hs hg;obtain⟨j,hj,hg⟩:=Option.bind_eq_some_iff.1 hg;have fin:∀(n:Nat) a,(if n>Made.mostCells then none else do
      let z <- s.2.2.2.2.2.2.2.1;let y <- j.zero
      pure (z++y.cells):Option (Array Value))=some a->∀c∈a,Plain c:=by
     intro n a ha;split at ha
     ·cases ha
     ·obtain⟨z0,WI,ha⟩:=Option.bind_eq_some_iff.1 ha;obtain⟨y,hy,ha⟩:=Option.bind_eq_some_iff.1 ha;cases ha;intro c hc;rcases Array.mem_append.1 hc with hc|hc
      ·exact hs z0 WI c hc
      ·exact yP (hi _ j y hj hy) c hc
    dsimp only at hg;split at hg
    ·cases hg
    ·split at hg
     ·cases hg
     ·split at hg
      ·split at hg<;>(cases hg;exact fin _)
      ·obtain⟨tag,_,hg⟩:=Option.bind_eq_some_iff.1 hg;split at hg<;>(cases hg;exact fin _)
   ·intro a ha;cases ha;simp
  dsimp only at h';have ez:i.zero=r.2.2.2.2.2.2.2.1.map .agg:=by
   split at h'<;>(cases h';rfl)
  rw[ez] at hz;obtain⟨a,ha,rfl⟩:=Option.map_eq_some_iff.1 hz;exact DG (hI a ha)
 all_goals (simp only[Made.reckon] at h;cases h)
theorem EP{T:Tables}(h:∀(t:Nat) (i:TypeInfo) (z:Value),T.types[t]?=some i->i.zero=some z->Plain z):∀n,AZ (Made.infoAt T n):=by
 intro n
 induction n with
 |zero=>intro t i z hi;cases hi
 |succ n ih =>
  intro t i z hi hz;simp only[Made.infoAt] at hi;split at hi
  ·exact h t i z hi hz
  ·obtain⟨d,_,hd⟩:=Option.bind_eq_some_iff.1 hi;exact EO ih d hd hz
theorem JN{T:Tables}(h:∀(t:Nat) (i:TypeInfo) (z:Value),T.types[t]?=some i->i.zero=some z->Plain z):AZ T.info?:=by
 intro t i z hi hz;unfold Tables.info? at hi;split at hi
 ·exact h t i z hi hz
 ·exact EP h _ t i z hi hz
section
open Go.Conc (G)
section
variable {P:Program} {m:Bool} {R:ae->ae->Prop} {D:ae->ae->Array Event->Prop} {Stop:aS->ae->Prop}
end
def GO{α:Type}(r le:α->α->Prop)(n:Nat)(y x:Nat->α):Prop:=∃i,i<n/\r (y i) (x i)/\∀j,j<n->j≠i->le (y j) (x j)
theorem Pu{α:Type}{r le:α->α->Prop}(rf:∀a,le a a)(tr:∀a b c,le a b->le b c->le a c)(hle:∀a b c,le b a->r c b->r c a):
  ∀(n:Nat) (x:Nat->α),(∀i,i<n->Acc r (x i))->Acc (GO r le n) x:=by
 intro n
 induction n with
 |zero=>intro x _;exact Acc.intro _ fun y hy=>by obtain⟨i,hi,_⟩:=hy;omega
 |succ n ih =>
  have key:∀a,Acc r a->∀v:Nat->α,Acc (GO r le n) v->∀x:Nat->α,le (x n) a->(∀j,j<n->le (x j) (v j))->Acc (GO r le (n+1)) x:=by
   intro a ha
   induction ha with
   |intro a _ iha =>
    intro v hv
    induction hv with
    |intro v vD ihv =>
     intro x Vz hxv;refine Acc.intro _ fun y hy=>?_;obtain⟨i,hi,hr,ho⟩:=hy;by_cases pd:i=n
     ·subst pd;exact iha (y i) (hle _ _ _ Vz hr) v (Acc.intro v vD) y (rf _) (fun j hj=>tr _ _ _ (ho j aa aa) (hxv j hj))
     ·have lQ:i<n:=aa;refine ihv y ⟨i,lQ,hle _ _ _ (hxv i lQ) hr,fun j hj uI=>tr _ _ _ (ho j aa uI) (hxv j hj)⟩ y (tr _ _ _ (ho n aa (bc pd)) Vz) (fun j _=>rf _)
  intro x hx;exact key (x n) (hx n aa) x (ih x fun i hi=>hx i aa) x (rf _) (fun j _=>rf _)
end
section
variable {t u:Trace} {g:Nat} {l:Loc}
end
open Go.ConcN
def GP(l:Loc)(b:Nat):Prop :=
 match l with
 | .cell a=>a.block=b
 | .obj r=>r=b
 |_=>False
theorem GP.uniq{l:Loc}{b c:Nat}(h:GP l b)(k:GP l c):b=c:=by
 cases l<;>simp only[GP] at h k<;>first|(exact h.elim)|(rw[<- h,<- k])
theorem GP.Xc{l:Loc}(h:l.isMemory=true):∃b,GP l b:=by
 cases l<;>simp only[Loc.isMemory] at h<;>first|(cases h;done)|exact⟨_,rfl⟩
theorem sK.VA{l:Loc}{c:Nat}(h:sK (fun b=>b=c) l):GP l c:=by
 cases l<;>simp only[sK] at h<;>first|(exact h.elim)|exact h
structure cP where
 T0:Nat
 H0:Nat
 Wg:Nat
 m0:Nat
 n:Nat
 ch:Nat->Nat
 js:Nat->Loc->Prop
 Shun:Loc->Prop
 Sh:Nat->Prop
 ty:TypeId
 dep:Nat->Nat->Prop
 Idle:Nat->ae->Prop
structure cP.OK(T:cP):Prop where
 m0:0<T.m0
 wg:T.Wg<T.H0
 own:∀k l b,T.js k l->GP l b->b<T.H0/\b≠T.Wg
 apart:∀k k' l,T.js k l->T.js k' l->k=k'
 Z9:∀l b,T.Shun l->GP l b->b<T.H0/\b≠T.Wg
 ER:∀k l,T.js k l->¬T.Shun l
 ownSh:∀k l,T.js k l->∃a,l=.cell a/\T.Sh a.block
 sh:∀b,T.Sh b->b<T.H0/\b≠T.Wg/\∀k,k<T.n->T.ch k≠b
 ch:∀k,k<T.n->T.ch k<T.H0/\T.ch k≠T.Wg
 wh:∀k k',k<T.n->k'<T.n->T.ch k=T.ch k'->k=k'
 Pv:∀k,k<T.n->¬T.Shun (.obj (T.ch k))
 dep:∀i k,i<T.n->T.dep i k->k<i
 idle:∀k w w1,(∀a,T.js k (.cell a)->w1.cell? a=w.cell? a)->(∀b cs ty fz,T.Sh b->w.heap[b]?=some (.cells cs ty fz)->∃rW,w1.heap[b]?=some (.cells rW ty fz)/\rW.size=cs.size)->T.Idle k w->T.Idle k w1
def gf(c:Nat):Array Event:=#[⟨.obj c,false,true⟩,⟨.obj c,true,true⟩]
def cP.RO(T:cP)(l:Loc):Prop:=(∀b,GP l b->b<T.H0/\b≠T.Wg)/\(∀k,¬T.js k l)/\¬T.Shun l
structure jb where
 j:Nat
 own:Nat->Nat->Prop
 cl:Nat->Option Nat
 rc:Nat->Nat->Prop
structure jb.OK(T:cP)(S:jb):Prop where
 new:∀x b,S.own x b->T.H0<=b
 one:∀x y b,S.own x b->S.own y b->x=y
 mem:∀x b,S.own x b->x=0\/∃i,i<S.j/\x=T.m0+i
def Class(T:cP)(S:jb)(t:Trace)(i:Nat)(g:Nat)(a:Touch):Prop :=
 (sK (fun b=>b=T.Wg) a.loc/\a.kind≠.plain/\(a.kind=.said->g=0))
 \/ (∃x b,S.own x b/\GP a.loc b/\Knows t x i)
 \/ (∃k,T.js k a.loc/\(S.cl k=none->Knows t (T.m0+k) i)/\(∀p,S.cl k=some p->a.write=true->Before t i p))
 \/ (T.RO a.loc/\a.write=false)
def ES(T:cP)(S:jb)(x:Nat):Prop:=x=0\/∃i,i<S.j/\x=T.m0+i
structure TI(T:cP)(S:jb)(t:Trace):Prop where
 len:T.T0<=t.size
 base:∀x,ES T S x->∀i,i<T.T0->∀a,touchAt t i=some a->a.loc.isMemory=true->Knows t x i\/(T.Shun a.loc/\a.kind=.atomic)
 cls:∀i z a,T.T0<=i->t[i]?=some z->z.act.touch?=some a->a.loc.isMemory=true->Class T S t i z.g a
 VB:∀i k,S.rc i k->∃p,S.cl k=some p/\Knows t (T.m0+i) p
 pos:∀k p,S.cl k=some p->t.act? p=some (.close (T.ch k))/\t.heard p
 nr:∀said,¬Race said t
def wi(T:cP)(S:jb)(x:Nat)(a:Touch):Prop :=
 (sK (fun b=>b=T.Wg) a.loc/\a.kind≠.plain/\(a.kind=.said->x=0))
 \/ (∃b,S.own x b/\GP a.loc b)
 \/ (∃k,x=T.m0+k/\T.js k a.loc/\S.cl k=none)
 \/ (∃i k,x=T.m0+i/\S.rc i k/\T.js k a.loc/\a.write=false)
 \/ (T.RO a.loc/\a.write=false)
section
variable {T:cP} {S:jb} {t u:Trace}
theorem Class.app{i g:Nat}{a:Touch}(h:Class T S t i g a)(u:Trace):Class T S (t++u) i g a:=by
 rcases h with h|⟨x,b,h1,h2,h3⟩|⟨k,h1,h2,h3⟩|h
 ·exact .inl h
 ·exact .inr (.inl ⟨x,b,h1,h2,h3.app u⟩)
 ·exact .inr (.inr (.inl ⟨k,h1,fun e=>(h2 e).app u,fun p e w=>(h3 p e w).app u⟩))
 ·exact .inr (.inr (.inr h))
theorem xR{p:Nat}(hp:p<t.size)(h:t.heard p):(t++u).heard p:=(heard_old hp).2 h
theorem TI.knows(hT:T.OK)(hS:S.OK T)(h:TI T S t){x:Nat}(hx:ES T S x){said:Bool}{i:Nat}{a b:Touch}(ha:touchAt t i=some a)(hb:b.loc.isMemory=true->wi T S x b)(hc:a.conflicts said b):Knows t x i:=by
 obtain⟨hl,Xd,CP,aaa⟩:=hc;have hbm:b.loc.isMemory=true:=by rw[<- hl];exact Xd
 have JO:=hb hbm;obtain⟨c,hc⟩:=GP.Xc hbm;have M1:GP a.loc c:=by rw[hl];exact hc
 rcases bP i T.T0 with hi|hi
 ·rcases h.base x hx i hi a ha Xd with hk|⟨hs,nT⟩
  ·exact hk
  ·exfalso;rw[hl] at hs;have VC:=hT.Z9 _ c hs hc;rcases JO with⟨h1,_⟩|⟨b',h1,h2⟩|⟨k,_,h2,_⟩|⟨_,k,_,_,h2,_⟩|⟨h1,_⟩
   ·exact VC.2 (hc.uniq h1.VA)
   ·have:=hS.new _ _ h1;have:=hc.uniq h2;omega
   ·exact hT.ER k _ h2 hs
   ·exact hT.ER k _ h2 hs
   ·exact h1.2.2 hs
 ·obtain⟨z,hz,uj⟩:=touch_of ha;have eY:=h.cls i z a hi hz uj Xd;rcases JO with⟨h1,h2,h3⟩|⟨b',h1,h2⟩|⟨k,hk,h2,h3⟩|⟨i',k,hk,h1,h2,h3⟩|⟨h1,h2⟩
  ·rcases eY with⟨_,k2,k3⟩|⟨y,b',k1,k2,_⟩|⟨k,k1,_⟩|⟨k1,_⟩
   ·rcases aaa with e|e|⟨_,e1,e2⟩
    ·exact absurd e k2
    ·exact absurd e h2
    ·have:=knows_own hz;rw[k3 e1,<- h3 e2] at this;exact this
   ·have:=hS.new _ _ k1;have e:=hc.uniq h1.VA;have e':=M1.uniq k2;have:=hT.wg;omega
   ·exact absurd (hc.uniq h1.VA) (hT.own k _ c k1 M1).2
   ·exact absurd (hc.uniq h1.VA) (k1.1 c M1).2
  ·have mo:=hS.new _ _ h1;have e:=hc.uniq h2;rcases eY with⟨k1,_⟩|⟨y,b'',k1,k2,k3⟩|⟨k,k1,_⟩|⟨k1,_⟩
   ·have:=M1.uniq k1.VA;have:=hT.wg;omega
   ·have e':=M1.uniq k2;obtain rfl:b'=b'':=aa;rw[hS.one _ _ _ h1 k1];exact k3
   ·have:=(hT.own k _ c k1 M1).1;omega
   ·have:=(k1.1 c M1).1;omega
  ·rcases eY with⟨k1,_⟩|⟨y,b'',k1,k2,k3⟩|⟨k',k1,k2,_⟩|⟨k1,_⟩
   ·exact absurd (M1.uniq k1.VA) (hT.own k _ c h2 hc).2
   ·have:=hS.new _ _ k1;have:=M1.uniq k2;have:=(hT.own k _ c h2 hc).1;omega
   ·rw[hl] at k1;obtain rfl:=hT.apart _ _ _ h2 k1;rw[hk];exact k2 h3
   ·rw[hl] at k1;exact absurd h2 (k1.2.1 k)
  ·have Vy:a.write=true:=by
    rcases CP with e|e
    ·exact e
    ·rw[h3] at e;cases e
   rcases eY with⟨k1,_⟩|⟨y,b'',k1,k2,k3⟩|⟨k',k1,_,k2⟩|⟨k1,_⟩
   ·exact absurd (M1.uniq k1.VA) (hT.own k _ c h2 hc).2
   ·have:=hS.new _ _ k1;have:=M1.uniq k2;have:=(hT.own k _ c h2 hc).1;omega
   ·rw[hl] at k1;obtain rfl:=hT.apart _ _ _ h2 k1;obtain⟨p,hp,I4⟩:=h.VB i' k h1;rw[hk];exact Knows.of_before (k2 p hp Vy) I4
   ·rw[hl] at k1;exact absurd h2 (k1.2.1 k)
  ·have Vy:a.write=true:=by
    rcases CP with e|e
    ·exact e
    ·rw[h2] at e;cases e
   rcases eY with⟨k1,_⟩|⟨y,b'',k1,k2,k3⟩|⟨k',k1,_⟩|⟨_,k2⟩
   ·exact absurd (M1.uniq k1.VA) (h1.1 c hc).2
   ·have:=hS.new _ _ k1;have:=M1.uniq k2;have:=(h1.1 c hc).1;omega
   ·rw[hl] at k1;exact absurd k1 (h1.2.1 k')
   ·rw[k2] at Vy;cases Vy
theorem TI.app(hT:T.OK)(hS:S.OK T)(h:TI T S t){x:Nat}(hx:ES T S x)(hu:∀op∈u,op.g=x)(ha:∀op∈u,∀b,op.act.touch?=some b->b.loc.isMemory=true->wi T S x b):TI T S (t++u):=by
 refine⟨by have:=h.len;simp;omega,fun y hy i hi a nT hm=>?_,fun i z a hi hz uj hm=>?_,fun i k hr=>?_,fun k p hp=>?_,fun said=>?_⟩
 ·rw[touchAt_old (by have:=h.len;omega)] at nT;exact(h.base y hy i hi a nT hm).imp (·.app u) id
 ·rcases getElem?_append_cases hz with⟨bZ,Cq⟩|⟨_,FR⟩
  ·exact(h.cls i z a hi Cq uj hm).app u
  ·have hk:=knows_own hz;rw[hu z FR] at hk |-;rcases ha z FR a uj hm with h1|⟨b,h1,h2⟩|⟨k,h1,h2,h3⟩|⟨i',k,h1,h2,h3,h4⟩|h1
   ·exact .inl h1
   ·exact .inr (.inl ⟨x,b,h1,h2,hk⟩)
   ·exact .inr (.inr (.inl ⟨k,h2,fun _=>by rw[<- h1];exact hk,fun p e _=>by rw[h3] at e;cases e⟩))
   ·obtain⟨p,hp,_⟩:=h.VB i' k h2;exact .inr (.inr (.inl ⟨k,h3,fun e=>(by rw[hp] at e;cases e),fun p _ w=>(by rw[h4] at w;cases w)⟩))
   ·exact .inr (.inr (.inr h1))
 ·obtain⟨p,h1,h2⟩:=h.VB i k hr;exact⟨p,h1,h2.app u⟩
 ·obtain⟨h1,h2⟩:=h.pos k p hp;have:=lt_of_act? h1;exact⟨by rw[act?_old this];exact h1,xR this h2⟩
 ·exact noRace_append (h.nr said) hu fun i a nT op eu b hb hc=>h.knows hT hS hx nT (ha op eu b hb) hc
theorem TI.mute(h:TI T S t){y:Nat}(hu:∀op∈u,op.g=y)(hn:∀op∈u,op.act.touch?=none):TI T S (t++u):=by
 refine⟨by have:=h.len;simp;omega,fun y hy i hi a nT hm=>?_,fun i z a hi hz uj hm=>?_,fun i k hr=>?_,fun k p hp=>?_,fun said=>?_⟩
 ·rw[touchAt_old (by have:=h.len;omega)] at nT;exact(h.base y hy i hi a nT hm).imp (·.app u) id
 ·rcases getElem?_append_cases hz with⟨bZ,Cq⟩|⟨_,FR⟩
  ·exact(h.cls i z a hi Cq uj hm).app u
  ·rw[hn z FR] at uj;cases uj
 ·obtain⟨p,h1,h2⟩:=h.VB i k hr;exact⟨p,h1,h2.app u⟩
 ·obtain⟨h1,h2⟩:=h.pos k p hp;have:=lt_of_act? h1;exact⟨by rw[act?_old this];exact h1,xR this h2⟩
 ·exact noRace_append (h.nr said) hu fun i a nT op eu b hb hc=>by rw[hn op eu] at hb;cases hb
theorem TI.grow(h:TI T S t){own':Nat->Nat->Prop}(ho:∀x b,S.own x b->own' x b):TI T {S with own:=own'} t:=by
 refine⟨h.len,h.base,fun i z a hi hz uj hm=>?_,h.VB,h.pos,h.nr⟩;rcases h.cls i z a hi hz uj hm with h1|⟨x,b,h1,h2⟩|h1|h1
 ·exact .inl h1
 ·exact .inr (.inl ⟨x,b,ho _ _ h1,h2⟩)
 ·exact .inr (.inr (.inl h1))
 ·exact .inr (.inr (.inr h1))
theorem TI.close(h:TI T S t){i:Nat}(hi:i<S.j)(hn:S.cl i=none){z:MemOp}(hg:z.g=T.m0+i)(hz:z.act=.close (T.ch i))(hd:Deaf t (T.m0+i)=0):
  TI T {S with cl:=upd S.cl i (some t.size)} (t++#[z]):=by
 have hzp:(t++#[z])[t.size]?=some z:=by rw[fF (ag _)];simp
 have hm:TI T S (t++#[z]):=h.mute (y:=T.m0+i) (fun op eu=>by simp at eu;rw[eu];exact hg) (fun op eu=>by simp at eu;rw[eu,hz];rfl);refine⟨hm.len,hm.base,fun i' y a lQ hy Y7 hme=>?_,fun i' k hr=>?_,fun k p hp=>?_,hm.nr⟩
 ·
  rcases getElem?_append_cases hy with⟨bZ,Y8⟩|⟨_,hyu⟩
  ·rcases h.cls i' y a lQ Y8 Y7 hme with h1|⟨x,b,h1,h2,h3⟩|⟨k,h1,h2,h3⟩|h1
   ·exact .inl h1
   ·exact .inr (.inl ⟨x,b,h1,h2,h3.app _⟩)
   ·refine .inr (.inr (.inl ⟨k,h1,fun e=>?_,fun p e w=>?_⟩))
    ·by_cases hk:k=i
     ·subst hk;simp only[upd_same] at e;cases e
     ·simp only[upd_ne S.cl _ hk] at e;exact(h2 e).app _
    ·by_cases hk:k=i
     ·subst hk;simp only[upd_same,en] at e;subst e;exact .inr ((h2 hn).hb_new (ag _) hzp hg)
     ·simp only[upd_ne S.cl _ hk] at e;exact(h3 p e w).app _
   ·exact .inr (.inr (.inr h1))
  ·have:y=z:=by simpa using hyu
   rw[this,hz] at Y7;cases Y7
 ·obtain⟨p,h1,h2⟩:=hm.VB i' k hr;refine⟨p,?_,h2⟩;have hk:k≠i:=by rintro rfl;rw[hn] at h1;cases h1
  simp only[upd_ne S.cl _ hk];exact h1
 ·by_cases hk:k=i
  ·subst hk;simp only[upd_same,en] at hp;subst hp;refine⟨by rw[act?_of hzp,hz],T.m0+k,by simp[Trace.g?,hg],?_⟩;rw[deaf_old (ag _)];exact hd
  ·simp only[upd_ne S.cl _ hk] at hp;exact hm.pos k p hp
theorem TI.recv(h:TI T S t){i k p:Nat}(eY:S.cl k=some p){z:MemOp}(hg:z.g=T.m0+i)(hz:z.act=.recvClosed (T.ch k))(hd:Deaf t (T.m0+i)=0):
  TI T {S with rc:=fun a b=>S.rc a b\/(a=i/\b=k)} (t++#[z]):=by
 have hzp:(t++#[z])[t.size]?=some z:=by rw[fF (ag _)];simp
 have hm:TI T S (t++#[z]):=h.mute (y:=T.m0+i) (fun op eu=>by simp at eu;rw[eu];exact hg) (fun op eu=>by simp at eu;rw[eu,hz];rfl);refine⟨hm.len,hm.base,hm.cls,fun i' k' hr=>?_,hm.pos,hm.nr⟩;rcases hr with hr|⟨rfl,rfl⟩
 ·exact hm.VB i' k' hr
 ·obtain⟨h1,h2⟩:=hm.pos k' p eY;refine⟨p,eY,t.size,z,hzp,hg,.inr (.single (.inr ⟨.closed h1 (by rw[act?_of hzp,hz]),h2,T.m0+i',by simp[Trace.g?,hg],?_⟩))⟩;rw[deaf_old (ag _)];exact hd
theorem TI.spawn(h:TI T S t){own':Nat->Nat->Prop}{x y:MemOp}(hx:x.g=0/\x.act=.go (T.m0+S.j))(hy:y.g=T.m0+S.j/\y.act=.start)(h0:Deaf t 0=0)(hk:Deaf t (T.m0+S.j)=0)(ho:∀z b,S.own z b->own' z b\/(z=0/\own' (T.m0+S.j) b)):TI T {S with j:=S.j+1,own:=own'} (t++#[x,y]):=by
 have SC:∀op∈#[x,y],op.act.touch?=none:=by
  intro op eu;simp only[List.mem_toArray,gQ,aad,or_false] at eu;rcases eu with rfl|rfl
  ·rw[hx.2];rfl
  ·rw[hy.2];rfl
 have hfk:∀{i},Knows t 0 i->Knows (t++#[x,y]) (T.m0+S.j) i:=fun hh=>fork_knows hx hy h0 hk hh;refine⟨by have:=h.len;simp;omega,fun w hw i hi a nT hm=>?_,fun i z a hi hz uj hm=>?_,fun i k hr=>?_,fun k p hp=>?_,fun said=>?_⟩
 ·rw[touchAt_old (by have:=h.len;omega)] at nT;by_cases hwj:w=T.m0+S.j
  ·subst hwj;exact(h.base 0 (.inl rfl) i hi a nT hm).imp hfk id
  ·have hw':ES T S w:=by
    rcases hw with rfl|⟨i',lQ,rfl⟩
    ·exact .inl rfl
    ·exact .inr ⟨i',by simp only at lQ;omega,rfl⟩
   exact(h.base w hw' i hi a nT hm).imp (·.app _) id
 ·rcases getElem?_append_cases hz with⟨bZ,Cq⟩|⟨_,FR⟩
  ·rcases h.cls i z a hi Cq uj hm with h1|⟨w,b,h1,h2,h3⟩|⟨k,h1,h2,h3⟩|h1
   ·exact .inl h1
   ·rcases ho w b h1 with h4|⟨rfl,h4⟩
    ·exact .inr (.inl ⟨w,b,h4,h2,h3.app _⟩)
    ·exact .inr (.inl ⟨_,b,h4,h2,hfk h3⟩)
   ·exact .inr (.inr (.inl ⟨k,h1,fun e=>(h2 e).app _,fun p e w=>(h3 p e w).app _⟩))
   ·exact .inr (.inr (.inr h1))
  ·rw[SC z FR] at uj;cases uj
 ·obtain⟨p,h1,h2⟩:=h.VB i k hr;exact⟨p,h1,h2.app _⟩
 ·obtain⟨h1,h2⟩:=h.pos k p hp;have:=lt_of_act? h1;exact⟨by rw[act?_old this];exact h1,xR this h2⟩
 ·have e:t++#[x,y]=(t++#[x])++#[y]:=by apply Array.ext';simp
  rw[e];refine noRace_append (g:=T.m0+S.j) (noRace_append (g:=0) (h.nr said) (fun op eu=>by simp at eu;rw[eu];exact hx.1) (fun i a _ op eu b hb _=>?_)) (fun op eu=>by simp at eu;rw[eu];exact hy.1) (fun i a _ op eu b hb _=>?_)
  ·rw[SC op (by simp at eu |-;exact .inl eu)] at hb;cases hb
  ·rw[SC op (by simp at eu |-;exact .inr eu)] at hb;cases hb
theorem TI.Pw{Sb:Nat->Prop}(se:T.Shun=sK Sb)(h:TI T S t){t0:Trace}{B B':Nat}(hold:∃U,t=t0++U)(h0:t0.size=T.T0)(hP:Past T.Shun B t0){q:Nat}(hq:t.act? q=some (.mark (.acquire (Go.ConcR.stA T.Wg))))(hqg:t.g? q=some 0)(hqh:t.heard q)(norel:∀k,T.T0<=k->t.act? k≠some (.mark (.release (Go.ConcR.stA T.Wg))))(rel:∀i,i<S.j->∃r,T.T0<=r/\r<q/\RelBy (Go.ConcR.stA T.Wg) t (T.m0+i) r/\∀i' a,r<i'->t.g? i'=some (T.m0+i)->touchAt t i'=some a->sK (fun b=>b=T.Wg) a.loc/\a.kind=.atomic)(SD:∀i z,T.T0<=i->t[i]?=some z->z.g=0\/(∃k,k<S.j/\z.g=T.m0+k)\/z.act.touch?=none)(hears:Deaf t 0=0)(seen:∀op∈t,op.act.low B'):Past (sK fun b=>Sb b\/b=T.Wg) B' t:=by
 have Tp:∀i r,RelBy (Go.ConcR.stA T.Wg) t (T.m0+i) r->T.T0<=r->r<q->HappensBefore t r q:=fun i r hr h1 h2 =>
  .single (.inr ⟨.marked h2 (.inr hr.act) hq (fun k k1 _=>norel k aa),hr.heard,hqh⟩)
 have kq:∀i,HappensBefore t i q->Knows t 0 i:=fun i hh=>by
  obtain⟨z,hz,hg⟩:=Option.map_eq_some_iff.1 hqg;exact⟨q,z,hz,hg,.inr hh⟩
 have shn:∀{l:Loc},sK (fun b=>b=T.Wg) l->sK (fun b=>Sb b\/b=T.Wg) l:=fun {l} hl=>by cases l<;>simp only[sK] at hl |-<;>first|(exact hl.elim)|exact .inr hl
 have sho:∀{l:Loc},T.Shun l->sK (fun b=>Sb b\/b=T.Wg) l:=fun {l} hl=>by rw[se] at hl;cases l<;>simp only[sK] at hl |-<;>first|(exact hl.elim)|exact .inl hl
 refine⟨h.nr,fun i a ha hm=>?_,fun i g hg cV hc=>?_,hears,seen⟩
 ·rcases bP i T.T0 with hi|hi
  ·exact(h.base 0 (.inl rfl) i hi a ha hm).imp id fun x=>⟨sho x.1,x.2⟩
  ·obtain⟨z,hz,uj⟩:=touch_of ha;rcases SD i z hi hz with e|⟨k,hk,e⟩|e
   ·have:=knows_own hz;rw[e] at this;exact .inl this
   ·obtain⟨r,r1,r2,r3,r4⟩:=rel k hk;have Tq:t.g? i=some (T.m0+k):=by simp[Trace.g?,hz,e]
    rcases gE i r with bZ|rfl|hgt
    ·exact .inl (kq i (.trans (.single (.inl ⟨bZ,_,Tq,r3.g⟩)) (Tp k r r3 r1 r2)))
    ·exact .inl (kq i (Tp k i r3 r1 r2))
    ·have:=r4 i a hgt Tq ha;exact .inr ⟨shn this.1,this.2⟩
   ·rw[e] at uj;cases uj
 ·obtain⟨U,rfl⟩:=hold;rcases bP i T.T0 with hi|hi
  ·obtain⟨j,hj,hb⟩:=hP.over i g (by rw[<- g?_old (u:=U) aa];exact hg) cV ((counts_old aa).1 hc);have SE:j<t0.size:=by
    obtain⟨z,hz,_⟩:=Option.map_eq_some_iff.1 hj;exact lt_size_of_getElem? hz
   exact⟨j,by rw[g?_old SE];exact hj,hb_app U hb⟩
  ·obtain⟨z,hz,VD⟩:=Option.map_eq_some_iff.1 hg;rcases SD i z hi hz with e|⟨k,hk,e⟩|e
   ·exact absurd (VD.symm.trans e) cV
   ·obtain⟨r,r1,r2,r3,r4⟩:=rel k hk;rcases gE i r with bZ|rfl|hgt
    ·exact⟨q,hqg,.trans (.single (.inl ⟨bZ,_,by rw[hg,<- VD,e],r3.g⟩)) (Tp k r r3 r1 r2)⟩
    ·exact⟨q,hqg,Tp k i r3 r1 r2⟩
    ·exact absurd hc (r3.after i hgt (by rw[hg,<- VD,e]))
   ·obtain⟨a,ha,_⟩:=hc;obtain⟨y,hy,Y7⟩:=touch_of ha;rw[hz] at hy;cases hy;rw[e] at Y7;cases Y7
theorem TI.begin{t0:Trace}{B:Nat}(h0:t0.size=T.T0)(hP:Past T.Shun B t0){own:Nat->Nat->Prop}:TI T {j:=0,own:=own,cl:=fun _=>none,rc:=fun _ _=>False} t0:=by
 refine⟨aa,fun x hx i hi a ha hm=>?_,fun i z a hi hz=>?_,fun i k hr=>hr.elim,fun k p hp=>(by cases hp),hP.clean⟩
 ·rcases hx with rfl|⟨i',lQ,_⟩
  ·exact hP.known i a ha hm
  ·exact absurd lQ (dE _)
 ·have:=lt_size_of_getElem? hz;omega
end
section
open Go.ConcR (KK wgBlock WgAt stA smA rd wr mk)
structure cF(T:cP)(i:Nat)(o rc:Nat->Prop)(w w1:ae):Prop where
 size:w.heap.size<=w1.heap.size
 own:∀b,o b->w1.heap[b]?=w.heap[b]?
 ro:∀b,b<T.H0->b≠T.Wg->¬T.Sh b->(∀k,k<T.n->b≠T.ch k)->w1.heap[b]?=w.heap[b]?
 sh:∀b cs ty fz,T.Sh b->w.heap[b]?=some (.cells cs ty fz)->∃rW,w1.heap[b]?=some (.cells rW ty fz)/\rW.size=cs.size
 mine:∀a,(T.js i (.cell a)\/∃k,rc k/\T.js k (.cell a))->w1.cell? a=w.cell? a
 chan:∀k s r tm c,k<T.n->w.heap[T.ch k]?=some (.chan 0 #[] c s r tm)->∃c1,w1.heap[T.ch k]?=some (.chan 0 #[] c1 s r tm)/\(c=true->c1=true)
 A0:w1.heap[T.ch i]?=w.heap[T.ch i]?
 wg:WgLive T.ty T.Wg w->WgLive T.ty T.Wg w1
 os:w1.os=w.os
 output:w1.output=w.output
structure JP(T:cP)(i:Nat)(o:Nat->Prop)(w w':ae):Prop where
 size:w.heap.size<=w'.heap.size
 rest:∀b,b<w.heap.size->¬o b->¬T.Sh b->w'.heap[b]?=w.heap[b]?
 sh:∀b cs ty fz,T.Sh b->w.heap[b]?=some (.cells cs ty fz)->∃rW,w'.heap[b]?=some (.cells rW ty fz)/\rW.size=cs.size
 cells:∀a,T.Sh a.block->¬T.js i (.cell a)->w'.cell? a=w.cell? a
 os:w'.os=w.os
 output:w'.output=w.output
structure dc(T:cP)(o:Nat->Prop)(w w1:ae):Prop where
 size:w.heap.size<=w1.heap.size
 own:∀b,o b->w1.heap[b]?=w.heap[b]?
 ro:∀b,b<T.H0->b≠T.Wg->¬T.Sh b->(∀k,k<T.n->b≠T.ch k)->w1.heap[b]?=w.heap[b]?
 wg:WgLive T.ty T.Wg w->WgLive T.ty T.Wg w1
 os:w1.os=w.os
 output:w1.output=w.output
structure M3(T:cP)(o:Nat->Prop)(w w':ae):Prop where
 size:w.heap.size<=w'.heap.size
 rest:∀b,b<w.heap.size->¬o b->w'.heap[b]?=w.heap[b]?
 os:w'.os=w.os
 output:w'.output=w.output
def LF(T:cP)(i:Nat)(o rc:Nat->Prop)(e:Event):Prop :=
 (∀a,(MemAct.ofEvent e).touch?=some a->a.loc.isMemory=true->(∃b,o b/\GP a.loc b)\/T.js i a.loc\/(∃k,rc k/\T.js k a.loc/\a.write=false)\/(T.RO a.loc/\a.write=false))
 /\ e.loc≠.mark .disable/\e.loc≠.mark .enable/\(∀x,e.loc≠.mark (.release x))
def EvS(T:cP)(o:Nat->Prop)(e:Event):Prop :=
 (∀a,(MemAct.ofEvent e).touch?=some a->a.loc.isMemory=true->(sK (fun b=>b=T.Wg) a.loc/\a.kind≠.plain)\/(∃b,o b/\GP a.loc b)\/(T.RO a.loc/\a.write=false))
 /\ e.loc≠.mark .disable/\e.loc≠.mark .enable/\(∀x,e.loc≠.mark (.release x))
def grow(o:Nat->Prop)(w w':ae):Nat->Prop:=fun b=>o b\/(w.heap.size<=b/\b<w'.heap.size)
section
variable {T:cP} {i:Nat} {o rc:Nat->Prop} {w w1 w2:ae}
theorem cF.refl(w:ae):cF T i o rc w w:=⟨ag _,fun _ _=>rfl,fun _ _ _ _ _=>rfl,fun b cs ty fz _ h=>⟨cs,h,rfl⟩,fun _ _=>rfl,fun k s r tm c _ h=>⟨c,h,id⟩,rfl,id,rfl,rfl⟩
theorem cF.trans(h:cF T i o rc w w1)(k:cF T i o rc w1 w2):cF T i o rc w w2:=by
 refine⟨aR h.size k.size,fun b hb=>(k.own b hb).trans (h.own b hb),fun b a1 a2 a3 a4=>(k.ro b a1 a2 a3 a4).trans (h.ro b a1 a2 a3 a4),fun b cs ty fz hb hh=>?_,fun a ha=>(k.mine a ha).trans (h.mine a ha),fun j s r tm c hj hh=>?_,k.A0.trans h.A0,fun x=>k.wg (h.wg x),k.os.trans h.os,k.output.trans h.output⟩
 ·obtain⟨c1,e1,e2⟩:=h.sh b cs ty fz hb hh;obtain⟨c2,e3,e4⟩:=k.sh b c1 ty fz hb e1;exact⟨c2,e3,e4.trans e2⟩
 ·obtain⟨c1,e1,e2⟩:=h.chan j s r tm c hj hh;obtain⟨c2,e3,e4⟩:=k.chan j s r tm c1 hj e1;exact⟨c2,e3,fun x=>e4 (e2 x)⟩
theorem cF.at(w:ae)(d:Nat):cF T i o rc w (w.at d):=⟨ag _,fun _ _=>rfl,fun _ _ _ _ _=>rfl,fun b cs ty fz _ h=>⟨cs,h,rfl⟩,fun _ _=>rfl,fun k s r tm c _ h=>⟨c,h,id⟩,rfl,id,rfl,rfl⟩
theorem dc.refl(w:ae):dc T o w w:=⟨ag _,fun _ _=>rfl,fun _ _ _ _ _=>rfl,id,rfl,rfl⟩
theorem dc.trans(h:dc T o w w1)(k:dc T o w1 w2):dc T o w w2 :=
 ⟨aR h.size k.size,fun b hb=>(k.own b hb).trans (h.own b hb),fun b a1 a2 a3 a4=>(k.ro b a1 a2 a3 a4).trans (h.ro b a1 a2 a3 a4),fun x=>k.wg (h.wg x),k.os.trans h.os,k.output.trans h.output⟩
theorem dc.at(w:ae)(d:Nat):dc T o w (w.at d):=⟨ag _,fun _ _=>rfl,fun _ _ _ _ _=>rfl,id,rfl,rfl⟩
theorem fQ{w w':ae}(e:w'.heap[T.Wg]?=w.heap[T.Wg]?)(h:WgLive T.ty T.Wg w):WgLive T.ty T.Wg w':=by
 obtain⟨st,sm,hl⟩:=h;exact⟨st,sm,by unfold WgAt at hl |-;rw[e];exact hl⟩
theorem cell_of{w w':ae}{a:Addr}(e:w'.heap[a.block]?=w.heap[a.block]?):w'.cell? a=w.cell? a:=by simp[World.cell?,e]
structure pG(T:cP)(j:Nat)(w w':ae):Prop where
 Cu:∀b cs ty fz,T.Sh b->w.heap[b]?=some (.cells cs ty fz)->∃rW,w'.heap[b]?=some (.cells rW ty fz)/\rW.size=cs.size
 idle:∀k a,j<=k->T.js k (.cell a)->w'.cell? a=w.cell? a
theorem pG.refl{j:Nat}(w:ae):pG T j w w:=⟨fun b cs ty fz _ h=>⟨cs,h,rfl⟩,fun _ _ _ _=>rfl⟩
theorem pG.trans{j:Nat}{w w1 w2:ae}(h:pG T j w w1)(k:pG T j w1 w2):pG T j w w2:=by
 refine⟨fun b cs ty fz hb hh=>?_,fun i a hi ha=>(k.idle i a hi ha).trans (h.idle i a hi ha)⟩;obtain⟨c1,e1,e2⟩:=h.Cu b cs ty fz hb hh;obtain⟨c2,e3,e4⟩:=k.Cu b c1 ty fz hb e1;exact⟨c2,e3,e4.trans e2⟩
theorem pG.mono{j j':Nat}{w w1:ae}(h:pG T j w w1)(hj:j<=j'):pG T j' w w1:=⟨h.Cu,fun i a hi ha=>h.idle i a (aR hj hi) ha⟩
theorem pG.A1(hT:T.OK){j:Nat}{w w1:ae}(h:∀b,T.Sh b->w1.heap[b]?=w.heap[b]?):pG T j w w1:=by
 refine⟨fun b cs ty fz hb hx=>⟨cs,by rw[h b hb];exact hx,rfl⟩,fun k a _ ha=>?_⟩;obtain⟨a',e,hs⟩:=hT.ownSh k _ ha;cases e;exact cell_of (h _ hs)
theorem JP.keep(hT:T.OK){j:Nat}(h:JP T i o w w1)(hi:i<j):pG T j w w1:=by
 refine⟨h.sh,fun k a hk ha=>?_⟩;obtain⟨a',e,hs⟩:=hT.ownSh k _ ha;cases e;exact h.cells a hs fun hx=>by have:=hT.apart _ _ _ ha hx;omega
theorem JP.A2(hT:T.OK){j:Nat}{oj SF:Nat->Prop}(h:JP T i o w w1)(hj:j≠i)(sf:j<T.n)(hH:T.H0<=w.heap.size)(ho:∀b,o b->T.H0<=b)(hoj:∀b,oj b->T.H0<=b/\b<w.heap.size/\¬o b)(DH:¬SF i):cF T j oj SF w w1:=by
 have nsh:∀b,T.H0<=b->¬T.Sh b:=fun b hb hs=>by have:=(hT.sh b hs).1;omega
 have no:∀b,b<T.H0->¬o b:=fun b hb hs=>by have:=ho b hs;omega
 have nZ:∀k,k<T.n->w1.heap[T.ch k]?=w.heap[T.ch k]?:=fun k hk=>h.rest _ (by have:=(hT.ch k hk).1;omega) (no _ (hT.ch k hk).1) (fun hs=>(hT.sh _ hs).2.2 k hk rfl);refine⟨h.size,fun b hb=>h.rest b (hoj b hb).2.1 (hoj b hb).2.2 (nsh b (hoj b hb).1),fun b h1 _ h3 _=>h.rest b aa (no b h1) h3,h.sh,fun a ha=>?_,fun k s r tm c hk hh=>⟨c,by rw[nZ k hk];exact hh,id⟩,nZ j sf,fQ (h.rest _ (by have:=hT.wg;omega) (no _ hT.wg) (fun hs=>(hT.sh _ hs).2.1 rfl)),h.os,h.output⟩;have key:∀k,k≠i->T.js k (.cell a)->w1.cell? a=w.cell? a:=by
  intro k hk eH;obtain⟨a',e,hs⟩:=hT.ownSh k _ eH;cases e;exact h.cells a hs fun hi=>hk (hT.apart _ _ _ eH hi)
 rcases ha with ha|⟨k,hk,ha⟩
 ·exact key j hj ha
 ·exact key k (fun e=>DH (e▸hk)) ha
theorem JP.JQ(hT:T.OK){o0:Nat->Prop}(h:JP T i o w w1)(hH:T.H0<=w.heap.size)(ho:∀b,o b->T.H0<=b)(SG:∀b,o0 b->T.H0<=b/\b<w.heap.size/\¬o b):dc T o0 w w1:=by
 have nsh:∀b,T.H0<=b->¬T.Sh b:=fun b hb hs=>by have:=(hT.sh b hs).1;omega
 have no:∀b,b<T.H0->¬o b:=fun b hb hs=>by have:=ho b hs;omega
 exact⟨h.size,fun b hb=>h.rest b (SG b hb).2.1 (SG b hb).2.2 (nsh b (SG b hb).1),fun b h1 _ h3 _=>h.rest b aa (no b h1) h3,fQ (h.rest _ (by have:=hT.wg;omega) (no _ hT.wg) (fun hs=>(hT.sh _ hs).2.1 rfl)),h.os,h.output⟩
theorem M3.A2(hT:T.OK){o0:Nat->Prop}(h:M3 T o0 w w1)(hi:i<T.n)(hH:T.H0<=w.heap.size)(SG:∀b,o0 b->T.H0<=b)(ho:∀b,o b->T.H0<=b/\b<w.heap.size/\¬o0 b):cF T i o rc w w1:=by
 have old:∀b,b<T.H0->w1.heap[b]?=w.heap[b]?:=fun b hb=>h.rest b aa (fun hs=>by have:=SG b hs;omega);have nZ:∀k,k<T.n->w1.heap[T.ch k]?=w.heap[T.ch k]?:=fun k hk=>old _ (hT.ch k hk).1;refine⟨h.size,fun b hb=>h.rest b (ho b hb).2.1 (ho b hb).2.2,fun b h1 _ _ _=>old b h1,fun b cs ty fz hb hh=>⟨cs,by rw[old b (hT.sh b hb).1];exact hh,rfl⟩,fun a ha=>?_,fun k s r tm c hk hh=>⟨c,by rw[nZ k hk];exact hh,id⟩,nZ i hi,fQ (old _ hT.wg),h.os,h.output⟩;have key:∀k,T.js k (.cell a)->w1.cell? a=w.cell? a:=by
  intro k eH;obtain⟨a',e,hs⟩:=hT.ownSh k _ eH;cases e;exact cell_of (old _ (hT.sh _ hs).1)
 rcases ha with ha|⟨k,_,ha⟩
 ·exact key i ha
 ·exact key k ha
theorem LG(hT:T.OK)(hi:i<T.n)(ho:∀b,o b->T.H0<=b)(h:Aside T.Wg w w1)(hl:WgLive T.ty T.Wg w1):cF T i o rc w w1:=by
 have nZ:∀k,k<T.n->w1.heap[T.ch k]?=w.heap[T.ch k]?:=fun k hk=>h.block _ (hT.ch k hk).2;refine⟨bq h.size.symm,fun b hb=>h.block b (by have:=ho b hb;have:=hT.wg;omega),fun b _ h2 _ _=>h.block b h2,fun b cs ty fz hb hh=>⟨cs,by rw[h.block b (hT.sh b hb).2.1];exact hh,rfl⟩,fun a ha=>?_,fun k s r tm c hk hh=>⟨c,by rw[nZ k hk];exact hh,id⟩,nZ i hi,fun _=>hl,h.os,h.output⟩;have key:∀k,T.js k (.cell a)->w1.cell? a=w.cell? a:=by
  intro k eH;obtain⟨a',e,hs⟩:=hT.ownSh k _ eH;cases e;exact cell_of (h.block _ (hT.sh _ hs).2.1)
 rcases ha with ha|⟨k,_,ha⟩
 ·exact key i ha
 ·exact key k ha
theorem wj(hT:T.OK)(ho:∀b,o b->T.H0<=b)(h:Aside T.Wg w w1)(hl:WgLive T.ty T.Wg w1):dc T o w w1 :=
 ⟨bq h.size.symm,fun b hb=>h.block b (by have:=ho b hb;have:=hT.wg;omega),fun b _ h2 _ _=>h.block b h2,fun _=>hl,h.os,h.output⟩
theorem oo(w:ae)(c:Nat)(s r:Nat)(tm:Bool)(b:Nat)(hb:b≠c):(w.setChan c 0 #[] true s r tm).heap[b]?=w.heap[b]?:=by
 simp only[World.setChan];rw[aJ (bc hb)]
theorem JR(hT:T.OK){j:Nat}(hj:j<T.n)(uI:j≠i)(hi:i<T.n)(ho:∀b,o b->T.H0<=b){s r:Nat}{tm:Bool}(hc:w.heap[T.ch i]?=some (.chan 0 #[] false s r tm)):cF T j o rc w (w.setChan (T.ch i) 0 #[] true s r tm):=by
 have hh:=oo w (T.ch i) s r tm;have bZ:T.ch i<w.heap.size:=(Array.getElem?_eq_some_iff.1 hc).1;refine⟨by simp[World.setChan],fun b hb=>hh b (by have:=ho b hb;have:=(hT.ch i hi).1;omega),fun b _ _ _ h4=>hh b (h4 i hi),fun b cs ty fz hb hx=>⟨cs,by rw[hh b (bc ((hT.sh b hb).2.2 i hi))];exact hx,rfl⟩,fun a ha=>?_,fun k s' r' tm' c hk hx=>?_,hh _ (fun e=>uI (hT.wh _ _ hj hi e)),fQ (hh _ (bc (hT.ch i hi).2)),rfl,rfl⟩
 ·have key:∀k,T.js k (.cell a)->(w.setChan (T.ch i) 0 #[] true s r tm).cell? a=w.cell? a:=by
   intro k eH;obtain⟨a',e,hs⟩:=hT.ownSh k _ eH;cases e;exact cell_of (hh _ (bc ((hT.sh _ hs).2.2 i hi)))
  rcases ha with ha|⟨k,_,ha⟩
  ·exact key j ha
  ·exact key k ha
 ·by_cases e:k=i
  ·subst e;rw[hc] at hx;cases hx;exact⟨true,by simp[World.setChan,bZ],fun x=>rfl⟩
  ·exact⟨c,by rw[hh _ (fun x=>e (hT.wh _ _ hk hi x))];exact hx,id⟩
theorem A3(hT:T.OK)(hi:i<T.n)(ho:∀b,o b->T.H0<=b){s r:Nat}{tm:Bool}:dc T o w (w.setChan (T.ch i) 0 #[] true s r tm):=by
 have hh:=oo w (T.ch i) s r tm;exact⟨by simp[World.setChan],fun b hb=>hh b (by have:=ho b hb;have:=(hT.ch i hi).1;omega),fun b _ _ _ h4=>hh b (h4 i hi),fQ (hh _ (bc (hT.ch i hi).2)),rfl,rfl⟩
end
structure I5 where
 g:aS
 o:Nat->Prop
 rc:Nat->Prop
 w:ae
def CQ(P:Program)(T:cP)(i:Nat)(V:Nat->ae->Prop)(E:bH)(X:I5->Prop)(x:I5):Prop :=
 x.g.status=.running /\
 ((∀w1,cF T i x.o x.rc x.w w1->∃g' w' es,stepG P false x.g w1=.go g' w' es/\JP T i x.o w1 w'/\(∀e∈es,LF T i (grow x.o w1 w') x.rc e)/\X ⟨g',grow x.o w1 w',x.rc,w'⟩)
 \/ (∃k z f,T.dep i k/\(∀w1,cF T i x.o x.rc x.w w1->stepG P false x.g w1=.comm x.g #[rcase (T.ch k) z] true (.recv f) w1 #[]) /\
   (∀w1,cF T i x.o x.rc x.w w1->V k w1->X ⟨Go.Conc.served x.g (recvd f z false),x.o,fun b=>x.rc b\/b=k,w1⟩))
 \/ (mayWake P x.g=true/\∀w1,cF T i x.o x.rc x.w w1->∀s r tm,w1.heap[T.ch i]?=some (.chan 0 #[] false s r tm) ->
   ∃g',stepG P false x.g w1=.go g' (w1.setChan (T.ch i) 0 #[] true s r tm) (gf (T.ch i))/\g'.status=.running/\V i w1/\E x.o g' (w1.setChan (T.ch i) 0 #[] true s r tm)))
def gj(P:Program)(T:cP)(i:Nat)(V:Nat->ae->Prop)(E:bH)(x:I5):Prop :=
 ∀X:I5->Prop,(∀x,CQ P T i V E X x->X x)->X x
section
variable {P:Program} {T:cP} {i:Nat} {V:Nat->ae->Prop} {E:bH}
theorem CQ.mono{X Y:I5->Prop}(h:∀x,X x->Y x){x:I5}(hx:CQ P T i V E X x):CQ P T i V E Y x:=by
 obtain⟨hr,h1|⟨k,z,f,h1,h2,h3⟩|h1⟩:=hx
 ·refine⟨hr,.inl fun w1 hw=>?_⟩;obtain⟨g',w',es,e1,e2,e3,e4⟩:=h1 w1 hw;exact⟨g',w',es,e1,e2,e3,h _ e4⟩
 ·exact⟨hr,.inr (.inl ⟨k,z,f,h1,h2,fun w1 hw hv=>h _ (h3 w1 hw hv)⟩)⟩
 ·exact⟨hr,.inr (.inr h1)⟩
theorem CQ.rely{X:I5->Prop}{x:I5}(hx:CQ P T i V E X x){w1:ae}(hr:cF T i x.o x.rc x.w w1):CQ P T i V E X ⟨x.g,x.o,x.rc,w1⟩:=by
 obtain⟨hs,h1|⟨k,z,f,h1,h2,h3⟩|⟨hm,h1⟩⟩:=hx
 ·exact⟨hs,.inl fun w2 hw=>h1 w2 (hr.trans hw)⟩
 ·exact⟨hs,.inr (.inl ⟨k,z,f,h1,fun w2 hw=>h2 w2 (hr.trans hw),fun w2 hw hv=>h3 w2 (hr.trans hw) hv⟩)⟩
 ·exact⟨hs,.inr (.inr ⟨hm,fun w2 hw=>h1 w2 (hr.trans hw)⟩)⟩
theorem gj.intro{x:I5}(h:CQ P T i V E (gj P T i V E) x):gj P T i V E x:=fun X hX=>hX x (h.mono fun y hy=>hy X hX)
theorem gj.look{x:I5}(h:gj P T i V E x):CQ P T i V E (gj P T i V E) x :=
 (h (fun x=>gj P T i V E x/\CQ P T i V E (gj P T i V E) x) fun x hx=>⟨.intro (hx.mono fun _ hy=>hy.1),hx.mono fun _ hy=>hy.1⟩).2
theorem gj.rely{x:I5}(h:gj P T i V E x){w1:ae}(hr:cF T i x.o x.rc x.w w1):gj P T i V E ⟨x.g,x.o,x.rc,w1⟩:=.intro (h.look.rely hr)
def yQ(P:Program)(T:cP)(i:Nat)(V:Nat->ae->Prop)(y x:I5):Prop :=
 (∃w1 es s r tm,cF T i x.o x.rc x.w w1/\stepG P false x.g w1=.go y.g y.w es/\y.o=grow x.o w1 y.w/\y.rc=x.rc/\w1.heap[T.ch i]?=some (.chan 0 #[] false s r tm)/\y.w.heap[T.ch i]?=w1.heap[T.ch i]?)
 \/ (∃k z f,T.dep i k/\cF T i x.o x.rc x.w y.w/\V k y.w/\stepG P false x.g y.w=.comm x.g #[rcase (T.ch k) z] true (.recv f) y.w #[]/\y.g=Go.Conc.served x.g (recvd f z false)/\y.o=x.o/\(y.rc=fun b=>x.rc b\/b=k)/\∃s r tm,y.w.heap[T.ch i]?=some (.chan 0 #[] false s r tm))
theorem gj.acc(hT:T.OK)(hi:i<T.n){x:I5}(h:gj P T i V E x):Acc (yQ P T i V) x:=by
 refine h (fun x=>Acc (yQ P T i V) x) fun x hx=>Acc.intro x fun y hy=>?_;obtain⟨hs,h1|⟨k,z,f,h1,h2,h3⟩|⟨hm,h1⟩⟩:=hx
 ·rcases hy with⟨w1,es,s,r,tm,r1,r2,r3,r4,r5,r6⟩|⟨k,z,f,r0,r1,r2,r3,_⟩
  ·obtain⟨g',w',lB,e1,e2,e3,e4⟩:=h1 w1 r1;rw[r2] at e1;cases e1;have:y=⟨y.g,grow x.o w1 y.w,x.rc,y.w⟩:=by rw[<- r3,<- r4]
   rw[this];exact e4
  ·obtain⟨g',w',lB,e1,_⟩:=h1 y.w r1;rw[r3] at e1;cases e1
 ·rcases hy with⟨w1,es,s,r,tm,r1,r2,_⟩|⟨k',z',f',r0,r1,r2,r3,r4,r5,r6,_⟩
  ·have:=h2 w1 r1;rw[r2] at this;cases this
  ·have e:=h2 y.w r1;rw[r3] at e;simp only[GStep.comm.injEq,Array.mk.injEq,aac,rcase,CommCase.mk.injEq,Value.chan.injEq,en,and_true,true_and,CommShape.recv.injEq] at e;obtain⟨⟨e1,e2⟩,e3⟩:=e;have kY:=hT.dep i k' hi r0;have hk:=hT.dep i k hi h1;obtain rfl:=hT.wh k' k aa aa e1;subst e2 e3;have:=h3 y.w r1 r2;have ey:y=⟨Go.Conc.served x.g (recvd f' z' false),x.o,fun b=>x.rc b\/b=k',y.w⟩:=by rw[<- r4,<- r5,<- r6]
   rw[ey];exact this
 ·rcases hy with⟨w1,es,s,r,tm,r1,r2,r3,r4,r5,r6⟩|⟨k,z,f,r0,r1,r2,r3,aaf⟩
  ·exfalso;obtain⟨g',e1,_⟩:=h1 w1 r1 s r tm r5;rw[r2] at e1;simp only[GStep.go.injEq] at e1;have bZ:T.ch i<w1.heap.size:=(Array.getElem?_eq_some_iff.1 r5).1;rw[e1.2.1,r5] at r6;simp[World.setChan,bZ] at r6
  ·exfalso;obtain⟨_,_,_,s,r,tm,hc⟩:=aaf;obtain⟨g',e1,_⟩:=h1 y.w r1 s r tm hc;rw[r3] at e1;cases e1
end
end
section
open Go.ConcR (KK wgBlock WgAt stA smA rd wr mk)
section
variable {α β:Type} (r le:α->α->Prop) (r0:β->β->Prop) (N:Nat)
def Ends(x:Nat×(Nat->α)×β):Prop:=(∀i,i<N->Acc r (x.2.1 i))/\Acc r0 x.2.2
def Y9(y x:Nat×(Nat->α)×β):Prop :=
 Ends r r0 N y/\(y.1<x.1\/(y.1=x.1/\GO r le N y.2.1 x.2.1)\/(y.1=x.1/\(∀i,i<N->le (y.2.1 i) (x.2.1 i))/\r0 y.2.2 x.2.2))
variable {r le r0 N}
theorem M4(rf:∀a,le a a)(tr:∀a b c,le a b->le b c->le a c)(hle:∀a b c,le b a->r c b->r c a):∀x,Ends r r0 N x->Acc (Y9 r le r0 N) x:=by
 have main:∀n,∀x:Nat×(Nat->α)×β,x.1=n->Ends r r0 N x->Acc (Y9 r le r0 N) x:=by
  intro n
  induction n using Nat.strongRecOn with
  |ind n ih =>
  have key:∀v:Nat->α,Acc (GO r le N) v->∀b:β,Acc r0 b->∀xs:Nat->α,(∀i,i<N->le (xs i) (v i))->Acc (Y9 r le r0 N) (n,xs,b):=by
   intro v hv
   induction hv with
   |intro v vD ihv =>
   intro b hb
   induction hb with
   |intro b mo ihb =>
   intro xs hxs;refine Acc.intro _ fun y hy=>?_;obtain⟨hE,h1|⟨h1,i,hi,hr,ho⟩|⟨h1,h2,h3⟩⟩:=hy
   ·exact ih y.1 h1 y rfl hE
   ·have:=ihv y.2.1 ⟨i,hi,hle _ _ _ (hxs i hi) hr,fun j hj uI=>tr _ _ _ (ho j hj uI) (hxs j hj)⟩ y.2.2 hE.2 y.2.1 (fun _ _=>rf _);have e:y=(n,y.2.1,y.2.2):=by rw[<- show y.1=n from h1]
    rw[e];exact this
   ·have:=ihb y.2.2 h3 y.2.1 (fun j hj=>tr _ _ _ (h2 j hj) (hxs j hj));have e:y=(n,y.2.1,y.2.2):=by rw[<- show y.1=n from h1]
    rw[e];exact this
  intro x hx hE;have e:x=(n,x.2.1,x.2.2):=by rw[<- hx]
  rw[e];exact key x.2.1 (Pu rf tr hle N x.2.1 hE.1) x.2.2 hE.2 x.2.1 (fun _ _=>rf _)
 exact fun x hE=>main x.1 x rfl hE
end
abbrev kV:=(Nat×I5×Bool) ⊕ Nat
def mA(P:Program)(T:cP)(V:Nat->ae->Prop):kV->kV->Prop
 | .inl (i',y,tb),.inl (i,x,ta)=>i'=i/\(yQ P T i V y x\/(ta=false/\tb=true/\y.g=x.g/\y.o=x.o/\y.rc=x.rc/\cF T i x.o x.rc x.w y.w))
 | .inr m',.inr m=>m'<m
 |_,_=>False
def iy(T:cP):kV->kV->Prop
 | .inl (i',y,tb),.inl (i,x,ta)=>i'=i/\tb=ta/\y.g=x.g/\y.o=x.o/\y.rc=x.rc/\cF T i x.o x.rc x.w y.w
 | .inr m',.inr m=>m'=m
 |_,_=>False
section
variable {P:Program} {T:cP} {V:Nat->ae->Prop}
theorem iy.refl:∀a:kV,iy T a a
 | .inl (i,x,t)=>⟨rfl,rfl,rfl,rfl,rfl,cF.refl _⟩
 | .inr m=>rfl
theorem iy.trans:∀a b c:kV,iy T a b->iy T b c->iy T a c
 | .inl (i1,x1,t1),.inl (i2,x2,t2),.inl (i3,x3,t3),h,k=>by
  obtain⟨rfl,rfl,h3,h4,h5,h6⟩:=h;obtain⟨rfl,rfl,k3,k4,k5,k6⟩:=k;refine⟨rfl,rfl,h3.trans k3,h4.trans k4,h5.trans k5,?_⟩;rw[k4,k5] at h6;exact k6.trans h6
 | .inr m,.inr m',.inr m'',h,k=>Eq.trans h k
 | .inl _,.inr _,_,h,_=>h.elim
 | .inr _,.inl _,_,h,_=>h.elim
 | .inl _,.inl _,.inr _,_,k=>k.elim
 | .inr _,.inr _,.inl _,_,k=>k.elim
theorem yQ.back{i:Nat}{z y x:I5}(h:yQ P T i V z y)(e1:y.g=x.g)(e2:y.o=x.o)(e3:y.rc=x.rc)(hr:cF T i x.o x.rc x.w y.w):yQ P T i V z x:=by
 rcases h with⟨w1,es,s,r,tm,r1,r2,r3,r4,r5⟩|⟨k,z',f,r0,r1,r2,r3,r4,r5,r6,r7⟩
 ·rw[e2,e3] at r1;rw[e1] at r2;rw[e2] at r3;rw[e3] at r4;exact .inl ⟨w1,es,s,r,tm,hr.trans r1,r2,r3,r4,r5⟩
 ·rw[e2,e3] at r1;rw[e1] at r3 r4;rw[e2] at r5;rw[e3] at r6;exact .inr ⟨k,z',f,r0,hr.trans r1,r2,r3,r4,r5,r6,r7⟩
theorem mA.back:∀a b c:kV,iy T b a->mA P T V c b->mA P T V c a
 | .inl (i1,x1,t1),.inl (i2,x2,t2),.inl (i3,x3,t3),h,k=>by
  obtain⟨rfl,rfl,h3,h4,h5,h6⟩:=h;obtain⟨rfl,k⟩:=k;refine⟨rfl,?_⟩;rcases k with k|⟨k1,k2,k3,k4,k5,k6⟩
  ·exact .inl (k.back h3 h4 h5 h6)
  ·rw[h4,h5] at k6;exact .inr ⟨k1,k2,k3.trans h3,k4.trans h4,k5.trans h5,h6.trans k6⟩
 | .inr m,.inr m',.inr m'',h,k=>by
  have h:m'=m:=h;subst h;exact k
 | .inl _,.inr _,_,h,_=>h.elim
 | .inr _,.inl _,_,h,_=>h.elim
 | .inl _,.inl _,.inr _,_,k=>k.elim
 | .inr _,.inr _,.inl _,_,k=>k.elim
theorem Tr{i:Nat}{x:I5}(h:Acc (yQ P T i V) x):∀t,Acc (mA P T V) (.inl (i,x,t)):=by
 have aag:∀x,(∀y,yQ P T i V y x->∀t,Acc (mA P T V) (.inl (i,y,t)))->Acc (mA P T V) (.inl (i,x,true)):=by
  intro x hx;refine Acc.intro _ fun y hy=>?_;rcases y with⟨i',y,tb⟩|m
  ·obtain⟨rfl,h1⟩:=hy;rcases h1 with h1|⟨h1,_⟩
   ·exact hx y h1 tb
   ·cases h1
  ·exact hy.elim
 induction h with
 |intro x hx ih =>
  intro t;refine Acc.intro _ fun y hy=>?_;rcases y with⟨i',y,tb⟩|m
  ·obtain⟨rfl,h1⟩:=hy;rcases h1 with h1|⟨_,rfl,k3,k4,k5,k6⟩
   ·exact ih y h1 tb
   ·exact aag y fun z hz=>ih z (hz.back k3 k4 k5 k6)
  ·exact hy.elim
theorem zU(m:Nat):Acc (mA P T V) (.inr m):=by
 induction m using Nat.strongRecOn with
 |ind m ih =>
  refine Acc.intro _ fun y hy=>?_;rcases y with y|m'
  ·obtain⟨i',y,tb⟩:=y;exact hy.elim
  ·exact ih m' hy
end
structure SAt where
 g:aS
 o:Nat->Prop
 w:ae
abbrev dV:=bH
def cM(P:Program)(T:cP)(Stop:dV)(o:Nat->Prop)(g:aS)(w:ae):Prop :=
 ∀X:bH,(∀o g w,(∀w1,dc T o w w1->Stop o g w1)->X o g w) ->
  (∀o g w,g.status=.running->(∀w1,dc T o w w1->∃g' w' es,stepG P true g w1=.go g' w' es/\M3 T o w1 w'/\(∀e∈es,EvS T (grow o w1 w') e)/\X (grow o w1 w') g' w')->X o g w)->X o g w
section
variable {P:Program} {T:cP} {Stop:dV}
theorem cM.stop{o:Nat->Prop}{g:aS}{w:ae}(h:∀w1,dc T o w w1->Stop o g w1):cM P T Stop o g w:=fun X h1 _=>h1 o g w h
theorem cM.step{o:Nat->Prop}{g:aS}{w:ae}(hs:g.status=.running)(h:∀w1,dc T o w w1->∃g' w' es,stepG P true g w1=.go g' w' es/\M3 T o w1 w'/\(∀e∈es,EvS T (grow o w1 w') e)/\cM P T Stop (grow o w1 w') g' w'):cM P T Stop o g w:=by
 intro X h1 h2;refine h2 o g w hs fun w1 hw=>?_;obtain⟨g',w',es,e1,e2,e3,e4⟩:=h w1 hw;exact⟨g',w',es,e1,e2,e3,e4 X h1 h2⟩
theorem cM.look{o:Nat->Prop}{g:aS}{w:ae}(h:cM P T Stop o g w):(∀w1,dc T o w w1->Stop o g w1)\/(g.status=.running/\∀w1,dc T o w w1->∃g' w' es,stepG P true g w1=.go g' w' es/\M3 T o w1 w'/\(∀e∈es,EvS T (grow o w1 w') e)/\cM P T Stop (grow o w1 w') g' w'):=by
 refine(h (fun o g w=>cM P T Stop o g w/\((∀w1,dc T o w w1->Stop o g w1)\/(g.status=.running/\∀w1,dc T o w w1->∃g' w' es,stepG P true g w1=.go g' w' es/\M3 T o w1 w'/\(∀e∈es,EvS T (grow o w1 w') e)/\cM P T Stop (grow o w1 w') g' w'))) ?_ ?_).2
 ·intro o g w h;exact⟨.stop h,.inl h⟩
 ·intro o g w hs h;have h':∀w1,dc T o w w1->∃g' w' es,stepG P true g w1=.go g' w' es/\M3 T o w1 w'/\(∀e∈es,EvS T (grow o w1 w') e)/\cM P T Stop (grow o w1 w') g' w':=fun w1 hw=>let ⟨g',w',es,a,b,c,d⟩:=h w1 hw;⟨g',w',es,a,b,c,d.1⟩;exact⟨.step hs h',.inr ⟨hs,h'⟩⟩
theorem cM.rely{o:Nat->Prop}{g:aS}{w w1:ae}(h:cM P T Stop o g w)(hr:dc T o w w1):cM P T Stop o g w1:=by
 rcases h.look with h|⟨hs,h⟩
 ·exact .stop fun w2 h2=>h w2 (hr.trans h2)
 ·exact .step hs fun w2 h2=>h w2 (hr.trans h2)
theorem cM.mono{GQ:dV}{o:Nat->Prop}{g:aS}{w:ae}(h:cM P T Stop o g w)(hS:∀o g w,Stop o g w->GQ o g w):cM P T GQ o g w :=
 h _ (fun o g w h=>.stop fun w1 hw=>hS _ _ _ (h w1 hw)) (fun o g w hs h=>.step hs h)
theorem cM.trans{GQ:dV}{o:Nat->Prop}{g:aS}{w:ae}(h:cM P T (fun o g w=>cM P T GQ o g w) o g w):cM P T GQ o g w :=
 h _ (fun o g w h=>h w (dc.refl w)) (fun o g w hs h=>.step hs h)
theorem cM.running{o:Nat->Prop}{g:aS}{w:ae}(h:cM P T Stop o g w)(hS:∀o g w,Stop o g w->g.status=.running):g.status=.running:=by
 rcases h.look with h|⟨hs,_⟩
 ·exact hS _ _ _ (h w (dc.refl w))
 ·exact hs
def LH(P:Program)(T:cP)(Stop:dV)(y x:SAt):Prop :=
 ¬(∀w1,dc T x.o x.w w1->Stop x.o x.g w1)/\∃w1 es,dc T x.o x.w w1/\stepG P true x.g w1=.go y.g y.w es/\y.o=grow x.o w1 y.w
theorem cM.acc{o:Nat->Prop}{g:aS}{w:ae}(h:cM P T Stop o g w):Acc (LH P T Stop) ⟨g,o,w⟩:=by
 refine h (fun o g w=>Acc (LH P T Stop) ⟨g,o,w⟩) ?_ ?_
 ·intro o g w h;exact Acc.intro _ fun y hy=>absurd h hy.1
 ·intro o g w hs h;refine Acc.intro _ fun y hy=>?_;obtain⟨_,w1,es,hr,dW,ho⟩:=hy;obtain⟨g',w',lB,e1,_,_,e3⟩:=h w1 hr;simp only at dW ho;rw[dW] at e1;cases e1;have e:y=⟨y.g,grow o w1 y.w,y.w⟩:=by rw[<- ho]
  rw[e];exact e3
end
abbrev jc:=(dV×SAt) ⊕ Nat
def lV(P:Program)(T:cP):jc->jc->Prop
 | .inl (S',y),.inl (S,x)=>S'=S/\LH P T S y x
 | .inr _,.inl _=>True
 |_,_=>False
theorem GR{P:Program}{T:cP}(m:Nat):Acc (lV P T) (.inr m):=Acc.intro _ fun y hy=>by
 rcases y with⟨S',y⟩|m'
 ·exact hy.elim
 ·exact hy.elim
theorem Px{P:Program}{T:cP}{S:dV}{x:SAt}(h:Acc (LH P T S) x):Acc (lV P T) (.inl (S,x)):=by
 induction h with
 |intro x hx ih =>
  refine Acc.intro _ fun y hy=>?_;rcases y with⟨S',y⟩|m
  ·obtain⟨e,h⟩:=hy;rw[e];exact ih y h
  ·exact GR m
end
section
open Go.ConcR (KK wgBlock WgAt stA smA rd wr mk Payload)
variable [Payload]
abbrev pN:Nat->Loc->Prop:=fun _ _=>False
section
variable (P:Program) (T:cP) (V:Nat->ae->Prop) (ek:Nat->(Nat->Prop)->ae->Prop) (cx Fin:dV)
def CR(i:Nat)(o:Nat->Prop)(g:aS)(w:ae):Prop :=
 ∃C v m,o C/\Goes P false (RW T.ty T.Wg C 0 0 (1-1)) (DWs T.Wg pN pN C 0 1) (AtR0 P T.ty T.Wg C 0 0 1 v) m g w/\ek i (fun b=>o b/\b≠C) w
def M5:dV:=fun o g w=>g.status=.running/\∃g',stepG P true g w=.go g' w #[mk (.acquire (stA T.Wg))]/\Fin o g' w
def VE:dV:=fun o g w=>g.status=.running/\∃g',stepG P true g w=.go g' w #[mk .enable]/\cM P T (M5 P T Fin) o g' w
def Za:dV:=fun o g w=>g.status=.running/\(WgAt T.ty T.Wg w 0 0->∃g',stepG P true g w=.go g' w #[rd (stA T.Wg)]/\cM P T (VE P T Fin) o g' w)
def Xe:dV:=fun o g w=>g.status=.running/\g.offers=none /\
 ((∃st,WgAt T.ty T.Wg w st 0)->stepG P true g w=.go {g with status:=.blocked} w #[]) /\
 (WgAt T.ty T.Wg w 0 1->∃g',stepG P true g w=.go g' (w.setCell (smA T.Wg) (.int .u32 0)) (semEvents (smA T.Wg))/\cM P T (Za P T Fin) o g' (w.setCell (smA T.Wg) (.int .u32 0)))
def Zb(vs:Nat):dV:=fun o g w=>g.status=.running/\∀v:Nat,v<2147483648->WgAt T.ty T.Wg w (v*KK) 0 ->
 (v=vs->∃g',stepG P true g w=.go g' (w.setCell (stA T.Wg) (.int .u64 (v*KK+1))) #[rd (stA T.Wg),wr (stA T.Wg)]/\cM P T (Xe P T Fin) o g' (w.setCell (stA T.Wg) (.int .u64 (v*KK+1)))) /\
 (v≠vs->∃g',stepG P true g w=.go g' w #[rd (stA T.Wg)]/\cM P T cx o g' w)
def OX:dV:=fun o g w=>g.status=.running/\∀v:Nat,v<2147483648->WgAt T.ty T.Wg w (v*KK) 0 ->
 ∃g',stepG P true g w=.go g' w #[rd (stA T.Wg)]/\(v=0->cM P T (VE P T Fin) o g' w)/\(v≠0->cM P T (Zb P T cx Fin v) o g' w)
def OY:dV:=fun o g w=>g.status=.running/\∃g',stepG P true g w=.go g' w #[mk .disable]/\cM P T cx o g' w
def SGo(j:Nat)(Next:dV):dV:=fun o g w=>g.status=.running/\∃g' child hand,stepG P true g w=.spawn g' child w #[]/\(∀b,hand b->o b) /\
 (∀w1,dc T o w w1->T.Idle j w1->gj P T j V (CR P T ek j) ⟨child,hand,fun _=>False,w1⟩)/\Next (fun b=>o b/\¬hand b) g' w
def Xf(j:Nat)(Next:dV):dV:=fun o g w=>g.status=.running/\∃g',stepG P true g w=.go g' w #[mk .enable]/\cM P T (SGo P T V ek j Next) o g' w
def SA1(j:Nat)(Next:dV):dV:=fun o g w=>g.status=.running/\∀v:Nat,v<2147483647->WgAt T.ty T.Wg w (v*KK) 0 ->
 ∃g',stepG P true g w=.go g' (w.setCell (stA T.Wg) (.int .u64 ((v+1)*KK))) #[rd (stA T.Wg),wr (stA T.Wg)]/\cM P T (Xf P T V ek j Next) o g' (w.setCell (stA T.Wg) (.int .u64 ((v+1)*KK)))
def JS(j:Nat)(Next:dV):dV:=fun o g w=>g.status=.running/\∃g',stepG P true g w=.go g' w #[mk .disable]/\cM P T (SA1 P T V ek j Next) o g' w
def iC:Nat->dV
 |0=>cM P T (OY P T cx)
 |r+1=>cM P T (JS P T V ek (T.n-(r+1)) (iC r))
def jI:CTag->dV
 | .sp r s=>if s=5 then JS P T V ek (T.n-(r+1)) (iC P T V ek cx r) else if s=4 then SA1 P T V ek (T.n-(r+1)) (iC P T V ek cx r)
   else if s=3 then Xf P T V ek (T.n-(r+1)) (iC P T V ek cx r) else SGo P T V ek (T.n-(r+1)) (iC P T V ek cx r)
 | .kd=>OY P T cx
 | .w1=>OX P T cx Fin
 | .w2 vs=>Zb P T cx Fin vs
 | .w3|.blk=>Xe P T Fin
 | .w4=>Za P T Fin
 | .ke=>VE P T Fin
 | .acq=>M5 P T Fin
 | .anch|.ret=>fun _ _ _=>False
def lK(n:Nat):CTag->Nat->Nat->Prop
 | .sp r s,j,d=>r<n/\j=n-(r+1)/\((s=5/\d=0)\/(s=4/\d=1)\/(s=3/\d=1)\/(s=2/\d=0))
 | .kd,j,d=>j=n/\d=0
 | .w1,j,d|.w2 _,j,d|.w3,j,d|.blk,j,d|.w4,j,d|.ke,j,d=>j=n/\d=1
 | .acq,j,d=>j=n/\d=0
 | .anch,_,_|.ret,_,_=>False
def ji(tag:CTag)(o:Nat->Prop)(a:aS)(w:ae)(y:jc):Prop :=
 match tag with
 | .blk=>∃a0,a={a0 with status:=.blocked}/\(∀w1,dc T o w w1->Xe P T Fin o a0 w1)/\y=.inr 0
 |tag=>cM P T (jI P T V ek cx Fin tag) o a w/\y=.inl (jI P T V ek cx Fin tag,⟨a,o,w⟩)
def I6(i:Nat)(o rc:Nat->Prop)(cl:Nat->Option Nat)(d:WD)(ld:kV)(g:aS)(w:ae):Prop :=
 (cl i=none/\d.stage=7/\d.deaf=0/\∃g0 tr,ld=.inl (i,⟨g0,o,rc,w⟩,tr)/\gj P T i V (CR P T ek i) ⟨g0,o,rc,w⟩ /\
  ((g=g0/\tr=false)\/(tr=true/\∃k z f,T.dep i k/\(∀w1,cF T i o rc w w1->stepG P false g0 w1=.comm g0 #[rcase (T.ch k) z] true (.recv f) w1 #[]) /\
   ((g=parked g0 #[rcase (T.ch k) z] (.recv f)/\cl k=none)\/(g={parked g0 #[rcase (T.ch k) z] (.recv f) with status:=.running}/\(cl k).isSome=true)))))
 \/ ((cl i).isSome=true/\ld=.inr d.fuel/\V i w/\∃C v,o C/\WSit P T.ty T.Wg C 0 pN pN 0 1 v d.stage d.fuel d.deaf g w/\ek i (fun b=>o b/\b≠C) w)
end
structure jJ(T:cP)(V:Nat->ae->Prop)(ek:Nat->(Nat->Prop)->ae->Prop):Prop where
 v:∀k w w1,(∀a,T.js k (.cell a)->w1.cell? a=w.cell? a)->V k w->V k w1
 val:∀k o w w1,(∀a,T.js k (.cell a)->w1.cell? a=w.cell? a)->(∀b,o b->w1.heap[b]?=w.heap[b]?)->ek k o w->ek k o w1
section
variable {P:Program} {T:cP} {V:Nat->ae->Prop} {ek:Nat->(Nat->Prop)->ae->Prop} {cx Fin:dV}
theorem cF.rw{i:Nat}{o rc:Nat->Prop}{w w1:ae}(h:cF T i o rc w w1){C:Nat}(hC:o C):RW T.ty T.Wg C 0 0 (1-1) w w1 :=
 ⟨fun b hb=>absurd hb (dE _),h.wg,fun⟨cs,h1,h2⟩=>⟨cs,(h.own C hC).trans h1,h2⟩,cell_of_block (h.own C hC) 0⟩
theorem wm{g0:aS}{c:Nat}{z:Value}{f:Bool}{w:ae}{s r:Nat}{tm b:Bool}(hc:w.heap[c]?=some (.chan 0 #[] b s r tm)):
  (parked g0 #[rcase c z] (.recv f)).again w=if b=true then {parked g0 #[rcase c z] (.recv f) with status:=.running} else parked g0 #[rcase c z] (.recv f):=by
 cases b
 ·exact again_recv_open hc
 ·exact again_recv_closed hc
def lM(w:ae):kV->kV
 | .inl (i,x,tr)=>.inl (i,{x with w:=w},tr)
 | .inr m=>.inr m
theorem I6.M6(hV:jJ T V ek){i:Nat}{o rc:Nat->Prop}{cl cl':Nat->Option Nat}{d:WD}{ld:kV}{g:aS}{w w':ae}(h:I6 P T V ek i o rc cl d ld g w)(hr:cF T i o rc w w'){x x':aS}(eY:cl' i=cl i)(GD:∀k,(cl k).isSome=true->(cl' k).isSome=true)(hw:∀k,cl k=none->T.dep i k->cl' k=none\/(mayWake P x=true/\x'.status=.running))(uh:∀k,T.dep i k->∃s r tm,w'.heap[T.ch k]?=some (.chan 0 #[] (cl' k).isSome s r tm)):
  iy T (lM w' ld) ld/\I6 P T V ek i o rc cl' d (lM w' ld) (woken P x x' w' g) w':=by
 rcases h with⟨h1,h2,h3,g0,tr,h4,h5,h6⟩|⟨h1,h2,h3,C,v,h4,h5,h6⟩
 ·refine⟨by rw[h4];exact⟨rfl,rfl,rfl,rfl,rfl,hr⟩,.inl ⟨eY.trans h1,h2,h3,g0,tr,by rw[h4];rfl,h5.rely hr,?_⟩⟩;have aai:g0.status=.running:=h5.look.1;rcases h6 with⟨h6,h6t⟩|⟨h6,k,z,f,h7,h8,h9⟩
  ·left;rw[h6,woken_running aai];exact⟨rfl,h6t⟩
  ·refine .inr ⟨h6,k,z,f,h7,fun w1 pO=>h8 w1 (hr.trans pO),?_⟩;rcases h9 with⟨h9,oq⟩|⟨h9,oq⟩
   ·obtain⟨s,r,tm,hc⟩:=uh k h7;rcases hw k oq h7 with hn|⟨hm,hx⟩
    ·left;refine⟨?_,hn⟩;rw[hn] at hc;rw[h9];unfold woken;split
     ·rw[wm hc];simp
     ·rfl
    ·have e:woken P x x' w' g=g.again w':=by unfold woken;simp[hm,hx]
     rw[e,h9,wm hc];cases akw:cl' k with
     |none=>left;simp
     |some p=>right;simp
   ·right;rw[h9,woken_running rfl];exact⟨rfl,GD k oq⟩
 ·have nt:∀a,T.js i (.cell a)->w'.cell? a=w.cell? a:=fun a ha=>hr.mine a (.inl ha);have e2:lM w' ld=ld:=by rw[h2];rfl
  rw[e2];refine⟨iy.refl ld,.inr ⟨by rw[eY];exact h1,h2,hV.v i w w' nt h3,C,v,h4,?_,hV.val i _ w w' nt (fun b hb=>hr.own b hb.1) h6⟩⟩;rw[h5.woken];exact h5.rely (hr.rw h4)
theorem I6.status{i:Nat}{o rc:Nat->Prop}{cl:Nat->Option Nat}{d:WD}{ld:kV}{g:aS}{w:ae}(h:I6 P T V ek i o rc cl d ld g w):
  g.status=.running\/g.status=.finished\/(g.status=.blocked/\cl i=none/\∃k,T.dep i k/\cl k=none):=by
 rcases h with⟨h1,h2,h3,g0,tr,h4,h5,h6⟩|⟨h1,h2,h3,C,v,h4,h5,h6⟩
 ·rcases h6 with⟨h6,_⟩|⟨h6,k,z,f,h7,h8,⟨h9,oq⟩|⟨h9,_⟩⟩
  ·left;rw[h6];exact h5.look.1
  ·exact .inr (.inr ⟨by rw[h9];rfl,h1,k,h7,oq⟩)
  ·left;rw[h9]
 ·exact h5.status.imp id .inl
theorem I6.acc(hT:T.OK){i:Nat}(hi:i<T.n){o rc:Nat->Prop}{cl:Nat->Option Nat}{d:WD}{ld:kV}{g:aS}{w:ae}(h:I6 P T V ek i o rc cl d ld g w):Acc (mA P T V) ld:=by
 rcases h with⟨h1,h2,h3,g0,tr,h4,h5,h6⟩|⟨h1,h2,h3,C,v,h4,h5,h6⟩
 ·rw[h4];exact Tr (h5.acc hT hi) tr
 ·rw[h2];exact zU _
theorem ji.acc{tag:CTag}{o:Nat->Prop}{a:aS}{w:ae}{y:jc}(h:ji P T V ek cx Fin tag o a w y):Acc (lV P T) y:=by
 cases tag
 case blk=>obtain⟨a0,_,_,e⟩:=h;rw[e];exact GR 0
 all_goals (obtain⟨h1,e⟩:=h;rw[e];exact Px h1.acc)
structure fJ(P:Program)(T:cP)(V:Nat->ae->Prop)(ek:Nat->(Nat->Prop)->ae->Prop)(cx Fin:dV)(t0:Trace)(w0:ae)(gs:Array aS)(w:ae)(t:Trace)(S:jb)(D:Nat->WD)(x:Nat->kV)(tag:CTag)(a:aS)(y:jc)(st sm:Int):Prop where
 size:gs.size=T.m0+S.j
 DI:gs[0]?=some a
 JU:ji P T V ek cx Fin tag (S.own 0) a w y
 sN:lK T.n tag S.j (Deaf t 0)
 old:∀k,0<k->k<T.m0->∃g q,gs[k]?=some g/\x k=.inr q/\QuitsD P q (Deaf t k) g
 wk:∀i,i<S.j->∃g,gs[T.m0+i]?=some g/\I6 P T V ek i (S.own (T.m0+i)) (S.rc i) S.cl (D i) (x (T.m0+i)) g w
 rest:∀k,T.m0+S.j<=k->x k=.inr 0
 zero:x 0=.inr 0
 deafW:∀i,i<S.j->Deaf t (T.m0+i)=(D i).deaf
 above:∀k,gs.size<=k->Deaf t k=0
 ti:TI T S t
 rQ:S.OK T
 lt:∀z b,S.own z b->b<w.heap.size
 h0:T.H0<=w.heap.size
 wg:WgAt T.ty T.Wg w st sm
 mode:Go.ConcN.Mode S.j D tag st sm
 chan:∀k,k<T.n->∃s r tm,w.heap[T.ch k]?=some (.chan 0 #[] (S.cl k).isSome s r tm)
 SH:∀i k,S.rc i k->(S.cl k).isSome=true
 Xg:∀k,S.j<=k->S.cl k=none
 SF:∀i k,S.rc i k->i<S.j
 rel:∀i,i<S.j->(D i).stage<=6->∃r,T.T0<=r/\RelBy (stA T.Wg) t (T.m0+i) r/\∀i' a,r<i'->t.g? i'=some (T.m0+i)->touchAt t i'=some a->sK (fun b=>b=T.Wg) a.loc/\a.kind=.atomic
 norel:∀k,T.T0<=k->t.act? k≠some (.mark (.release (stA T.Wg)))
 SD:∀i z,T.T0<=i->t[i]?=some z->z.g=0\/(∃k,k<S.j/\z.g=T.m0+k)\/z.act.touch?=none
 ext:∃U,t=t0++U
 same:dc T (fun _=>False) w0 w
 Cu:pG T S.j w0 w
 idle0:∀k,k<T.n->T.Idle k w0
def lW(S:jb):Nat:=sumTo S.j fun i=>if S.cl i=none then 1 else 0
def ot(T:cP)(S:jb)(D:Nat->WD)(tag:CTag):Nat:=phi T.n (Vc S.j D) tag+Ssum S.j D+lW S
end
end
section
open Go.ConcR (KK wgBlock WgAt stA smA rd wr mk Payload g_of_ofEvents loc_of_ofEvent)
variable [Payload]
section
variable {P:Program} {T:cP} {V:Nat->ae->Prop} {ek:Nat->(Nat->Prop)->ae->Prop} {cx Fin:dV} {t0:Trace} {w0:ae}
 {gs:Array aS} {w w':ae} {t:Trace} {S S':jb} {D:Nat->WD} {x:Nat->kV} {tag:CTag} {a:aS} {y:jc} {st sm:Int} {sl:Option (Nat×Nat)}
theorem lX{tag:CTag}{o:Nat->Prop}{g:aS}{w:ae}(h:jI P T V ek cx Fin tag o g w):g.status=.running:=by
 cases tag<;>simp only[jI] at h
 case sp r s =>
  split at h
  ·exact h.1
  ·split at h
   ·exact h.1
   ·split at h<;>exact h.1
 all_goals exact h.1
theorem ji.eq{tag:CTag}(cV:tag≠.blk){o:Nat->Prop}{a:aS}{w:ae}{y:jc}:ji P T V ek cx Fin tag o a w y=(cM P T (jI P T V ek cx Fin tag) o a w/\y=.inl (jI P T V ek cx Fin tag,⟨a,o,w⟩)):=by
 cases tag<;>first|rfl|exact absurd rfl cV
theorem ji.M6{tag:CTag}{o:Nat->Prop}{a:aS}{y:jc}(h:ji P T V ek cx Fin tag o a w y)(hr:dc T o w w')(u u':aS):
  ∃tag' y',ji P T V ek cx Fin tag' o (woken P u u' w' a) w' y'/\(tag'=tag\/(tag=.blk/\tag'=.w3))/\(mayWake P u=true->u'.status=.running->tag'≠.blk):=by
 by_cases hb:tag=.blk
 ·subst hb;obtain⟨a0,h1,h2,h3⟩:=h;have hs:=h2 w (dc.refl w);by_cases hw:(mayWake P u&&u'.status != .blocked&&u'.status != .waiting)=true
  ·refine⟨.w3,_,⟨?_,rfl⟩,.inr ⟨rfl,rfl⟩,fun _ _=>an⟩;have e:woken P u u' w' a=a0:=by
    unfold woken;rw[if_pos hw,h1];have h4:=hs.1;have h5:=hs.2.1;obtain⟨fr,cs,stt,dy,of⟩:=a0;simp only at h4 h5;subst h4 h5;rfl
   rw[e];exact .stop fun w1 pO=>h2 w1 (hr.trans pO)
  ·refine⟨.blk,_,⟨a0,?_,fun w1 pO=>h2 w1 (hr.trans pO),rfl⟩,.inl rfl,fun h1 h2=>absurd ?_ hw⟩
   ·unfold woken;rw[if_neg hw,h1]
   ·simp[h1,h2]
 ·rw[ji.eq hb] at h;obtain⟨h1,h2⟩:=h;have cm:=h1.running fun o g w hh=>lX hh;refine⟨tag,.inl (jI P T V ek cx Fin tag,⟨a,o,w'⟩),?_,.inl rfl,fun _ _=>hb⟩;rw[ji.eq hb,woken_running cm];exact⟨h1.rely hr,rfl⟩
theorem ov{α:Type}{gs:Array α}(f:α->α)(p k:Nat)(u:α)(h:p≠k):((gs.map f).setIfInBounds p u)[k]?=(gs[k]?).map f:=by
 rw[aJ h,br]
theorem tH{es:Array Event}{g:Nat}{fn:FuncId}{pos:String}(h:∀k,T.T0<=k->t.act? k≠some (.mark (.release (stA T.Wg))))(hu:∀e∈es,e.loc≠.mark (.release (stA T.Wg))):
  ∀k,T.T0<=k->(t++MemOp.ofEvents g fn pos es).act? k≠some (.mark (.release (stA T.Wg))):=by
 intro k hk e;obtain⟨op,ho,VF⟩:=Option.map_eq_some_iff.1 e;rcases getElem?_append_cases ho with⟨bZ,mr⟩|⟨_,Py⟩
 ·exact h k hk (by rw[act?_of mr,VF])
 ·obtain⟨ev,iH,rfl⟩:=Go.Conc.mem_ofEvents Py;exact hu ev iH (loc_of_ofEvent VF)
theorem tI{u:Trace}{j:Nat}(h:∀i z,T.T0<=i->t[i]?=some z->z.g=0\/(∃k,k<j/\z.g=T.m0+k)\/z.act.touch?=none)(hu:∀z∈u,z.g=0\/(∃k,k<j/\z.g=T.m0+k)\/z.act.touch?=none):
  ∀i z,T.T0<=i->(t++u)[i]?=some z->z.g=0\/(∃k,k<j/\z.g=T.m0+k)\/z.act.touch?=none:=by
 intro i z hi hz;rcases getElem?_append_cases hz with⟨bZ,Cq⟩|⟨_,FR⟩
 ·exact h i z hi Cq
 ·exact hu z FR
theorem qo{i g:Nat}{u:Trace}(h:∃r,T.T0<=r/\RelBy (stA T.Wg) t (T.m0+i) r/\∀i' a,r<i'->t.g? i'=some (T.m0+i)->touchAt t i'=some a->sK (fun b=>b=T.Wg) a.loc/\a.kind=.atomic)(hu:∀op∈u,op.g=g)(hg:g≠T.m0+i):∃r,T.T0<=r/\RelBy (stA T.Wg) (t++u) (T.m0+i) r/\∀i' a,r<i'->(t++u).g? i'=some (T.m0+i)->touchAt (t++u) i'=some a->sK (fun b=>b=T.Wg) a.loc/\a.kind=.atomic:=by
 obtain⟨r,h1,h2,h3⟩:=h;refine⟨r,h1,h2.appOther hu hg,fun i' a lQ Tq hta=>?_⟩;obtain⟨z,hz,VD⟩:=Option.map_eq_some_iff.1 Tq;rcases getElem?_append_cases hz with⟨bZ,Cq⟩|⟨_,FR⟩
 ·exact h3 i' a lQ (by simp[Trace.g?,Cq,VD]) (by rw[<- touchAt_old (u:=u) bZ];exact hta)
 ·rw[hu z FR] at VD;exact absurd VD hg
theorem fJ.worker(hT:T.OK)(hV:jJ T V ek)(h:fJ P T V ek cx Fin t0 w0 gs w t S D x tag a y st sm){i:Nat}(hi:i<S.j)(sf:S.j<=T.n){g g':aS}{es:Array Event}(hg:gs[T.m0+i]?=some g)(hgo:stepG P false g w=.go g' w' es){d':WD}{ld':kV}{st' sm':Int}(hj:S'.j=S.j)(M7:TI T S' (t++MemOp.ofEvents (T.m0+i) g.frame.fn g.frame.place es))(aey:S'.OK T)(LI:S'.own 0=S.own 0)(aak:∀k,k≠i->S'.own (T.m0+k)=S.own (T.m0+k))(aal:∀k,k≠i->S'.rc k=S.rc k)(Xh:∀k,k≠i->S'.cl k=S.cl k)(bZ:∀z b,S'.own z b->b<w'.heap.size)(ft:w.heap.size<=w'.heap.size)(aam:dc T (S.own 0) w w')(Pz:∀k,k<S.j->k≠i->cF T k (S.own (T.m0+k)) (S.rc k) w w')(nt:dc T (fun _=>False) w w')(M8:pG T S.j w w')(GD:∀k,(S.cl k).isSome=true->(S'.cl k).isSome=true)(M9:I6 P T V ek i (S'.own (T.m0+i)) (S'.rc i) S'.cl d' ld' g' w')(aan:S'.cl i=S.cl i\/(mayWake P g=true/\g'.status=.running))(VG:∀k,k<T.n->∃s r tm,w'.heap[T.ch k]?=some (.chan 0 #[] (S'.cl k).isSome s r tm))(PC:∀i k,S'.rc i k->(S'.cl k).isSome=true)(hrel:d'.stage<=6->∃r,T.T0<=r/\RelBy (stA T.Wg) (t++MemOp.ofEvents (T.m0+i) g.frame.fn g.frame.place es) (T.m0+i) r/\∀i' a,r<i'->(t++MemOp.ofEvents (T.m0+i) g.frame.fn g.frame.place es).g? i'=some (T.m0+i)->touchAt (t++MemOp.ofEvents (T.m0+i) g.frame.fn g.frame.place es) i'=some a->sK (fun b=>b=T.Wg) a.loc/\a.kind=.atomic)(aao:deafBehind (D i).deaf es=d'.deaf)(JV:∀e∈es,e.loc≠.mark (.release (stA T.Wg)))(nU:WgAt T.ty T.Wg w' st' sm')(jw:∀tag',(tag'=tag\/(tag=.blk/\tag'=.w3))->(mayWake P g=true->g'.status=.running->tag'≠.blk)->Go.ConcN.Mode S.j (upd D i d') tag' st' sm'):
  ∃gd tag' a' y',runT P (crowd gs w sl) (T.m0+i)=(.next (crowd gd w' sl),MemOp.ofEvents (T.m0+i) g.frame.fn g.frame.place es)/\(tag'=tag\/(tag=.blk/\tag'=.w3)) /\
   fJ P T V ek cx Fin t0 w0 gd w' (t++MemOp.ofEvents (T.m0+i) g.frame.fn g.frame.place es) S' (upd D i d') (upd (fun k=>lM w' (x k)) (T.m0+i) ld') tag' a' y' st' sm'/\∀k,k≠T.m0+i->iy T (lM w' (x k)) (x k):=by
 have LJ:=hT.m0;have VH:T.m0+i≠0:=aa;have I7:(T.m0+i==0)=false:=eR;obtain⟨tag',y',I8,A4,hs3⟩:=h.JU.M6 aam g g';have cm:=runT_crowd_go (P:=P) (sl:=sl) (i:=T.m0+i) hg (by rw[I7];exact hgo);have zA:T.m0+i<gs.size:=by rw[h.size];omega
 have hu:∀op∈MemOp.ofEvents (T.m0+i) g.frame.fn g.frame.place es,op.g=T.m0+i:=g_of_ofEvents;have I9:∀k,k≠T.m0+i->Deaf (t++MemOp.ofEvents (T.m0+i) g.frame.fn g.frame.place es) k=Deaf t k:=fun k hk=>Deaf_other t (bc hk) _ hu;have Ja:∀k,k<S.j->k≠i->iy T (lM w' (x (T.m0+k))) (x (T.m0+k))/\∃gk,gs[T.m0+k]?=some gk/\I6 P T V ek k (S'.own (T.m0+k)) (S'.rc k) S'.cl (D k) (lM w' (x (T.m0+k))) (woken P g g' w' gk) w':=by
  intro k hk Na;obtain⟨gk,h1,h2⟩:=h.wk k hk;obtain⟨h3,h4⟩:=h2.M6 (cl':=S'.cl) hV (Pz k hk Na) (x:=g) (x':=g') (Xh k Na) GD (fun k' hn _=>by
   by_cases e:k'=i
   ·subst e;rcases aan with hw|hw
    ·exact .inl (hw.trans hn)
    ·exact .inr hw
   ·exact .inl ((Xh k' e).trans hn)) (fun k' hd=>VG k' (by have:=hT.dep k k' aa hd;omega))
  refine⟨h3,gk,h1,?_⟩;rw[aak k Na,aal k Na];exact h4
 refine⟨_,tag',woken P g g' w' a,y',cm,A4,?_,?_⟩
 ·refine⟨by simp[h.size,hj],?_,by rw[LI];exact I8,?_,fun k k0 km=>?_,fun k hk=>?_,fun k hk=>?_,?_,fun k hk=>?_,fun k hk=>?_,M7,aey,bZ,aR h.h0 ft,nU,by rw[hj];exact jw tag' A4 hs3,VG,PC,fun k hk=>?_,fun i' k hr=>?_,fun k hk dW=>?_,tH h.norel JV,?_,?_,h.same.trans nt,by rw[hj];exact h.Cu.trans M8,h.idle0⟩
  ·rw[ov _ _ _ _ VH,h.DI];rfl
  ·rw[I9 0 (bc VH),hj];have:=h.sN;rcases A4 with rfl|⟨rfl,rfl⟩
   ·exact this
   ·exact this
  ·obtain⟨gk,q,h1,h2,h3⟩:=h.old k k0 km;have cV:T.m0+i≠k:=aa;refine⟨gk,q,by rw[ov _ _ _ _ cV,h1,cR,woken_quitsD h3],by rw[upd_ne _ _ (bc cV),h2];rfl,by rw[I9 k (bc cV)];exact h3⟩
  ·rw[hj] at hk;by_cases e:k=i
   ·subst e;exact⟨g',by simp[zA],by rw[upd_same,upd_same];exact M9⟩
   ·obtain⟨_,gk,h1,h2⟩:=Ja k hk e;have cV:T.m0+i≠T.m0+k:=aa;exact⟨_,by rw[ov _ _ _ _ cV,h1];rfl,by rw[upd_ne _ _ e,upd_ne _ _ (bc cV)];exact h2⟩
  ·rw[hj] at hk;rw[upd_ne _ _ aa,h.rest k hk];rfl
  ·rw[upd_ne _ _ (bc VH),h.zero];rfl
  ·rw[hj] at hk;by_cases e:k=i
   ·subst e;rw[Deaf_own,h.deafW k hk,upd_same];exact aao
   ·rw[I9 _ aa,h.deafW k hk,upd_ne _ _ e]
  ·have kY:gs.size<=k:=by simpa using hk
   rw[I9 k (by rw[h.size] at kY;omega)];exact h.above k kY
  ·rw[hj] at hk;rw[Xh k aa];exact h.Xg k hk
  ·rw[hj];by_cases e:i'=i
   ·subst e;exact hi
   ·rw[aal i' e] at hr;exact h.SF i' k hr
  ·rw[hj] at hk;by_cases e:k=i
   ·subst e;rw[upd_same] at dW;exact hrel dW
   ·rw[upd_ne _ _ e] at dW;exact qo (h.rel k hk dW) hu aa
  ·rw[hj];exact tI h.SD fun z hz=>.inr (.inl ⟨i,hi,hu z hz⟩)
  ·obtain⟨U,hU⟩:=h.ext;exact⟨U++MemOp.ofEvents (T.m0+i) g.frame.fn g.frame.place es,by rw[hU,cY]⟩
 ·intro k hk;rcases aZ k with rfl|nS
  ·rw[h.zero];exact rfl
  ·rcases bP k T.m0 with lE | Nc
   ·obtain⟨gk,q,_,h2,_⟩:=h.old k nS lE;rw[h2];exact rfl
   ·rcases bP k (T.m0+S.j) with Ge|Cv
    ·have:=(Ja (k-T.m0) aa aa).1;rw[show T.m0+(k-T.m0)=k by omega] at this;exact this
    ·rw[h.rest k Cv];exact rfl
end
end
section
open Go.ConcR (KK wgBlock WgAt stA smA rd wr mk Payload g_of_ofEvents loc_of_ofEvent)
variable [Payload]
section
variable {P:Program} {T:cP} {V:Nat->ae->Prop} {ek:Nat->(Nat->Prop)->ae->Prop} {cx Fin:dV} {t0:Trace} {w0:ae}
 {gs:Array aS} {w w':ae} {t:Trace} {S S':jb} {D:Nat->WD} {x:Nat->kV} {tag:CTag} {a:aS} {y:jc} {st sm:Int} {sl:Option (Nat×Nat)}
theorem fJ.Xi(hT:T.OK)(hV:jJ T V ek)(h:fJ P T V ek cx Fin t0 w0 gs w t S D x tag a y st sm)(sf:S.j<=T.n){k:Nat}(k0:0<k)(km:k<T.m0){g:aS}(hg:gs[k]?=some g)(cm:g.status=.running):
  ∃gd tag' a' y' x' ops,runT P (crowd gs w sl) k=(.next (crowd gd w sl),ops)/\(tag'=tag\/(tag=.blk/\tag'=.w3)) /\
   fJ P T V ek cx Fin t0 w0 gd w (t++ops) S D x' tag' a' y' st sm/\mA P T V (x' k) (x k)/\∀k',k'≠k->iy T (x' k') (x k'):=by
 obtain⟨g1,q,h1,h2,h3⟩:=h.old k k0 km;rw[hg] at h1;cases h1;obtain⟨q',g',es,hm,dW,hq⟩:∃q' g' es,(∀e∈es,Event.mute e=true)/\(∀w,stepG P false g w=.go g' w es)/\QuitsD P q' (deafBehind (Deaf t k) es) g'/\q=q'+1:=by
  cases q with
  |zero=>rw[h3.1] at cm;cases cm
  |succ q' =>
   rcases h3 with⟨hf,_⟩|⟨_,g',es,hm,dW,hq⟩
   ·rw[hf] at cm;cases cm
   ·exact⟨q',g',es,hm,dW,hq,rfl⟩
 obtain⟨hq,rfl⟩:=hq;have I7:(k==0)=false:=eR;have Gc:k≠0:=aa;have sL:=runT_crowd_go (P:=P) (sl:=sl) (i:=k) hg (by rw[I7];exact dW w);obtain⟨tag',y',I8,A4,hs3⟩:=h.JU.M6 (dc.refl w) g g';have hu:∀op∈MemOp.ofEvents k g.frame.fn g.frame.place es,op.g=k:=g_of_ofEvents;have hn:∀op∈MemOp.ofEvents k g.frame.fn g.frame.place es,op.act.touch?=none:=fun op eu=>by obtain⟨e,he,rfl⟩:=Go.Conc.mem_ofEvents eu;exact touch_mute (hm e he)
 have I9:∀k',k'≠k->Deaf (t++MemOp.ofEvents k g.frame.fn g.frame.place es) k'=Deaf t k':=fun k' hk=>Deaf_other t (bc hk) _ hu;have zA:k<gs.size:=(Array.getElem?_eq_some_iff.1 hg).1;have Ja:∀i,i<S.j->iy T (lM w (x (T.m0+i))) (x (T.m0+i))/\∃gk,gs[T.m0+i]?=some gk/\I6 P T V ek i (S.own (T.m0+i)) (S.rc i) S.cl (D i) (lM w (x (T.m0+i))) (woken P g g' w gk) w:=by
  intro i hi;obtain⟨gk,h1,h2⟩:=h.wk i hi;obtain⟨h3,h4⟩:=h2.M6 (cl':=S.cl) hV (cF.refl w) (x:=g) (x':=g') rfl (fun _ hk=>hk) (fun k' hn _=>.inl hn) (fun k' hd=>h.chan k' (by have:=hT.dep i k' aa hd;omega));exact⟨h3,gk,h1,h4⟩
 refine⟨_,tag',woken P g g' w a,y',upd (fun k=>lM w (x k)) k (.inr q'),_,sL,A4,?_,?_,?_⟩
 ·refine⟨by simp[h.size],?_,I8,?_,fun k' k0' km'=>?_,fun i hi=>?_,fun k' kY=>?_,?_,fun i hi=>?_,fun k' kY=>?_,h.ti.mute hu hn,h.rQ,h.lt,h.h0,h.wg,h.mode.retag A4,h.chan,h.SH,h.Xg,h.SF,fun i hi dW=>qo (h.rel i hi dW) hu aa,tH h.norel fun e he hl=>?_,tI h.SD fun z hz=>.inr (.inr (hn z hz)),?_,h.same,h.Cu,h.idle0⟩
  ·rw[ov _ _ _ _ Gc,h.DI];rfl
  ·rw[I9 0 (bc Gc)];have:=h.sN;rcases A4 with rfl|⟨rfl,rfl⟩
   ·exact this
   ·exact this
  ·by_cases e:k'=k
   ·subst e;exact⟨g',q',by simp[zA],by rw[upd_same],by rw[Deaf_own];exact hq⟩
   ·obtain⟨gk,q,h1,h2,h3⟩:=h.old k' k0' km';exact⟨gk,q,by rw[ov _ _ _ _ (bc e),h1,cR,woken_quitsD h3],by rw[upd_ne _ _ e,h2];rfl,by rw[I9 k' e];exact h3⟩
  ·obtain⟨_,gk,h1,h2⟩:=Ja i hi;have cV:k≠T.m0+i:=aa;exact⟨_,by rw[ov _ _ _ _ cV,h1];rfl,by rw[upd_ne _ _ (bc cV)];exact h2⟩
  ·rw[upd_ne _ _ aa,h.rest k' kY];rfl
  ·rw[upd_ne _ _ (bc Gc),h.zero];rfl
  ·rw[I9 _ aa];exact h.deafW i hi
  ·have PD:gs.size<=k':=by simpa using kY
   rw[I9 k' aa];exact h.above k' PD
  ·have:=hm e he;obtain⟨loc,oT,sy⟩:=e;simp only at hl;subst hl;simp[Event.mute] at this
  ·obtain⟨U,hU⟩:=h.ext;exact⟨U++MemOp.ofEvents k g.frame.fn g.frame.place es,by rw[hU,cY]⟩
 ·rw[upd_same,h2];exact bz _
 ·intro k' kY;rw[upd_ne _ _ kY];rcases aZ k' with rfl|nS
  ·rw[h.zero];exact rfl
  ·rcases bP k' T.m0 with lE | Nc
   ·obtain⟨gk,q,_,h2,_⟩:=h.old k' nS lE;rw[h2];exact rfl
   ·rcases bP k' (T.m0+S.j) with Ge|Cv
    ·have:=(Ja (k'-T.m0) aa).1;rw[show T.m0+(k'-T.m0)=k' by omega] at this;exact this
    ·rw[h.rest k' Cv];exact rfl
theorem fJ.PE(h:fJ P T V ek cx Fin t0 w0 gs w t S D x tag a y st sm)(p c:Nat):partners (gs.setIfInBounds p ph) c true=[]:=by
 refine partners_nil fun j g hg=>?_;rcases getElem?_stand gs p j g hg with⟨_,rfl⟩|⟨_,Cw⟩
 ·exact offersAt_ph c true
 ·have bZ:j<T.m0+S.j:=by have:=(Array.getElem?_eq_some_iff.1 Cw).1;rw[h.size] at this;exact this
  rcases aZ j with rfl|nS
  ·rw[h.DI] at Cw;cases Cw;by_cases hb:tag=.blk
   ·subst hb;obtain⟨a0,h1,h2,_⟩:=h.JU;have ho:=(h2 w (dc.refl w)).2.1;rw[h1];simp[offersAt,ho]
   ·have hs:=h.JU;rw[ji.eq hb] at hs;exact offersAt_of_not_blocked (by rw[hs.1.running fun o g w hh=>lX hh];simp) c true
  ·rcases bP j T.m0 with hj|hj
   ·obtain⟨g1,q,h1,_,h3⟩:=h.old j nS hj;rw[Cw] at h1;cases h1;exact offersAt_of_not_blocked (by rcases h3.status with e|e<;>rw[e]<;>simp) c true
   ·obtain⟨g1,h1,h2⟩:=h.wk (j-T.m0) aa;rw[show T.m0+(j-T.m0)=j by omega,Cw] at h1;cases h1;rcases h2 with⟨_,_,_,g0,tr,_,h5,h6⟩|⟨_,_,_,C,v,_,h5,_⟩
    ·rcases h6 with⟨h6,_⟩|⟨_,k,z,f,_,_,⟨h9,_⟩|⟨h9,_⟩⟩
     ·rw[h6];exact offersAt_of_not_blocked (by rw[h5.look.1];simp) c true
     ·rw[h9];exact offersAt_parked_recv' _ _ _ _ _
     ·rw[h9];exact offersAt_of_not_blocked an c true
    ·exact offersAt_of_not_blocked (by rcases h5.status with e|e<;>rw[e]<;>simp) c true
theorem fJ.put(h:fJ P T V ek cx Fin t0 w0 gs w t S D x tag a y st sm)(LJ:0<T.m0){i:Nat}(hi:i<S.j){g':aS}{ld':kV}{u:Trace}(hj:S'.j=S.j)(eH:S'.own=S.own)(eY:S'.cl=S.cl)(DH:∀k,k≠i->S'.rc k=S.rc k)(PC:∀i k,S'.rc i k->(S.cl k).isSome=true)(M7:TI T S' (t++u))(hu:∀op∈u,op.g=T.m0+i)(hq:∀op∈u,∀m,op.act≠.mark m)(h7:(D i).stage=7)(M9:I6 P T V ek i (S.own (T.m0+i)) (S'.rc i) S.cl (D i) ld' g' w):
  fJ P T V ek cx Fin t0 w0 (gs.setIfInBounds (T.m0+i) g') w (t++u) S' D (upd x (T.m0+i) ld') tag a y st sm:=by
 have zA:T.m0+i<gs.size:=by rw[h.size];omega
 have VH:T.m0+i≠0:=aa;have Tt:∀k,Deaf (t++u) k=Deaf t k:=fun k=>Deaf_still t k u fun op eu=>⟨hq op eu _,hq op eu _⟩;refine⟨by simp[h.size,hj],?_,by rw[eH];exact h.JU,by rw[Tt,hj];exact h.sN,fun k k0 km=>?_,fun k hk=>?_,fun k hk=>?_,?_,fun k hk=>?_,fun k hk=>?_,M7,?_,fun z b hb=>h.lt z b (by rw[<- eH];exact hb),h.h0,h.wg,by rw[hj];exact h.mode,by rw[eY];exact h.chan,by rw[eY];exact PC,by rw[hj,eY];exact h.Xg,fun i' k hr=>?_,fun k hk dW=>?_,fun k hk e=>?_,?_,?_,h.same,by rw[hj];exact h.Cu,h.idle0⟩
 ·rw[aJ VH];exact h.DI
 ·obtain⟨gk,q,h1,h2,h3⟩:=h.old k k0 km;exact⟨gk,q,by rw[aJ aa];exact h1,by rw[upd_ne _ _ aa];exact h2,by rw[Tt];exact h3⟩
 ·rw[hj] at hk;by_cases e:k=i
  ·subst e;exact⟨g',by simp[zA],by rw[upd_same,eH,eY];exact M9⟩
  ·obtain⟨gk,h1,h2⟩:=h.wk k hk;exact⟨gk,by rw[aJ aa];exact h1,by rw[upd_ne _ _ aa,eH,eY,DH k e];exact h2⟩
 ·rw[hj] at hk;rw[upd_ne _ _ aa];exact h.rest k hk
 ·rw[upd_ne _ _ (bc VH)];exact h.zero
 ·rw[hj] at hk;rw[Tt];exact h.deafW k hk
 ·rw[Tt];exact h.above k (by simpa using hk)
 ·exact⟨fun z b hb=>h.rQ.new z b (by rw[<- eH];exact hb),fun z z' b h1 h2=>h.rQ.one z z' b (by rw[<- eH];exact h1) (by rw[<- eH];exact h2),fun z b hb=>by rw[hj];exact h.rQ.mem z b (by rw[<- eH];exact hb)⟩
 ·rw[hj];by_cases e:i'=i
  ·subst e;exact hi
  ·rw[DH i' e] at hr;exact h.SF i' k hr
 ·rw[hj] at hk;have Na:k≠i:=by rintro rfl;omega
  exact qo (h.rel k hk dW) hu aa
 ·obtain⟨op,ho,VF⟩:=Option.map_eq_some_iff.1 e;rcases getElem?_append_cases ho with⟨bZ,mr⟩|⟨_,Py⟩
  ·exact h.norel k hk (by rw[act?_of mr,VF])
  ·exact hq op Py _ VF
 ·rw[hj];exact tI h.SD fun z hz=>.inr (.inl ⟨i,hi,hu z hz⟩)
 ·obtain⟨U,hU⟩:=h.ext;exact⟨U++u,by rw[hU,cY]⟩
end
end
section
open Go.ConcR (KK wgBlock WgAt stA smA rd wr mk Payload g_of_ofEvents loc_of_ofEvent)
variable [Payload]
def A5(P:Program)(T:cP)(V:Nat->ae->Prop)(p:Nat)(S S':jb)(D D':Nat->WD)(tag tag':CTag)(x x':Nat->kV):Prop :=
 ot T S' D' tag'<ot T S D tag\/(ot T S' D' tag'=ot T S D tag/\mA P T V (x' p) (x p)/\∀k,k≠p->iy T (x' k) (x k))
section
variable {P:Program} {T:cP} {V:Nat->ae->Prop} {ek:Nat->(Nat->Prop)->ae->Prop} {cx Fin:dV} {t0:Trace} {w0:ae}
 {gs:Array aS} {w w':ae} {t:Trace} {S S':jb} {D:Nat->WD} {x:Nat->kV} {tag:CTag} {a:aS} {y:jc} {st sm:Int} {sl:Option (Nat×Nat)}
theorem A6{α:Type}(f:Nat->α)(i:Nat):upd f i (f i)=f:=by
 funext k;by_cases e:k=i
 ·subst e;rw[upd_same]
 ·rw[upd_ne _ _ e]
theorem Nd{i:Nat}{o rc:Nat->Prop}{es:Array Event}(h:∀e∈es,LF T i o rc e)(d:Nat):deafBehind d es=d:=deafBehind_still (fun e he=>⟨(h e he).2.1,(h e he).2.2.1⟩) d
theorem GU{i:Nat}(hT:T.OK)(hS:S.OK T)(hi:i<S.j)(hh:T.H0<=w.heap.size)(hl:∀z b,S.own z b->b<w.heap.size):({S with own:=upd S.own (T.m0+i) (grow (S.own (T.m0+i)) w w')}:jb).OK T:=by
 have key:∀z b,(upd S.own (T.m0+i) (grow (S.own (T.m0+i)) w w')) z b->S.own z b\/(z=T.m0+i/\w.heap.size<=b):=by
  intro z b hb;by_cases e:z=T.m0+i
  ·subst e;rw[upd_same] at hb;exact hb.imp id fun hh=>⟨rfl,hh.1⟩
  ·rw[upd_ne _ _ e] at hb;exact .inl hb
 refine⟨fun z b hb=>?_,fun z z' b h1 h2=>?_,fun z b hb=>?_⟩
 ·rcases key z b hb with h|⟨_,h⟩
  ·exact hS.new z b h
  ·omega
 ·rcases key z b h1 with h1|⟨e1,h1⟩<;>rcases key z' b h2 with h2|⟨e2,h2⟩
  ·exact hS.one z z' b h1 h2
  ·have:=hl z b h1;omega
  ·have:=hl z' b h2;omega
  ·rw[e1,e2]
 ·rcases key z b hb with h|⟨e,_⟩
  ·exact hS.mem z b h
  ·exact .inr ⟨i,hi,e⟩
theorem DJ{tag':CTag}(hs:tag'=tag\/(tag=.blk/\tag'=.w3)):ot T S D tag'=ot T S D tag:=by simp only[ot,phi_retag _ _ hs]
theorem fJ.Tu(hT:T.OK)(hV:jJ T V ek)(h:fJ P T V ek cx Fin t0 w0 gs w t S D x tag a y st sm)(sf:S.j<=T.n){i:Nat}(hi:i<S.j){g g0 g':aS}{es:Array Event}{tr:Bool}(hg:gs[T.m0+i]?=some g)(eY:S.cl i=none)(h7:(D i).stage=7)(Cr:(D i).deaf=0)(hx:x (T.m0+i)=.inl (i,⟨g0,S.own (T.m0+i),S.rc i,w⟩,tr))(aez:stepG P false g0 w=.go g' w' es)(hgo:stepG P false g w=.go g' w' es)(Jb:JP T i (S.own (T.m0+i)) w w')(iH:∀e∈es,LF T i (grow (S.own (T.m0+i)) w w') (S.rc i) e)(Jc:gj P T i V (CR P T ek i) ⟨g',grow (S.own (T.m0+i)) w w',S.rc i,w'⟩):
  ∃gd w' S' D' x' tag' a' y' st' sm' ops,runT P (crowd gs w sl) (T.m0+i)=(.next (crowd gd w' sl),ops)/\S'.j=S.j/\fJ P T V ek cx Fin t0 w0 gd w' (t++ops) S' D' x' tag' a' y' st' sm'/\A5 P T V (T.m0+i) S S' D D' tag tag' x x':=by
 have pd:i<T.n:=aa;have hoH:∀b,S.own (T.m0+i) b->T.H0<=b:=fun b hb=>h.rQ.new _ b hb;have nch:∀k,k<T.n->w'.heap[T.ch k]?=w.heap[T.ch k]?:=fun k hk=>Jb.rest _ (by have:=(hT.ch k hk).1;have:=h.h0;omega) (fun hb=>by have:=hoH _ hb;have:=(hT.ch k hk).1;omega) (fun hs=>(hT.sh _ hs).2.2 k hk rfl);have Xj:w'.heap[T.Wg]?=w.heap[T.Wg]?:=Jb.rest _ (by have:=hT.wg;have:=h.h0;omega) (fun hb=>by have:=hoH _ hb;have:=hT.wg;omega) (fun hs=>(hT.sh _ hs).2.1 rfl);have aeA:∀k,¬S.rc k i:=fun k hk=>by have:=h.SH k i hk;rw[eY] at this;cases this
 have zC:∀z,z≠T.m0+i->∀b,S.own z b->T.H0<=b/\b<w.heap.size/\¬S.own (T.m0+i) b:=fun z hz b hb=>⟨h.rQ.new z b hb,h.lt z b hb,fun mo=>hz (h.rQ.one _ _ _ hb mo)⟩;have LJ:=hT.m0;have M7:TI T {S with own:=upd S.own (T.m0+i) (grow (S.own (T.m0+i)) w w')} (t++MemOp.ofEvents (T.m0+i) g.frame.fn g.frame.place es):=by
  refine(h.ti.grow (own':=upd S.own (T.m0+i) (grow (S.own (T.m0+i)) w w')) fun z b hb=>?_).app hT (GU hT h.rQ hi h.h0 h.lt) (x:=T.m0+i) (.inr ⟨i,hi,rfl⟩) g_of_ofEvents fun op eu b hb hm=>?_
  ·by_cases e:z=T.m0+i
   ·subst e;rw[upd_same];exact .inl hb
   ·rw[upd_ne _ _ e];exact hb
  ·obtain⟨e,he,rfl⟩:=Go.Conc.mem_ofEvents eu;rcases(iH e he).1 b hb hm with⟨c,h1,h2⟩|h1|⟨k,h1,h2,h3⟩|h1
   ·exact .inr (.inl ⟨c,by simp only[upd_same];exact h1,h2⟩)
   ·exact .inr (.inr (.inl ⟨i,rfl,h1,eY⟩))
   ·exact .inr (.inr (.inr (.inl ⟨i,k,rfl,h1,h2,h3⟩)))
   ·exact .inr (.inr (.inr (.inr h1)))
 obtain⟨gd,tag',a',y',r1,r2,r3,r4⟩:=fJ.worker (sl:=sl) hT hV h hi sf hg hgo (S':={S with own:=upd S.own (T.m0+i) (grow (S.own (T.m0+i)) w w')}) (d':=D i) (ld':=.inl (i,⟨g',grow (S.own (T.m0+i)) w w',S.rc i,w'⟩,false)) (st':=st) (sm':=sm) rfl M7 (GU hT h.rQ hi h.h0 h.lt)
  (by simp only;rw[upd_ne _ _ aa]) (fun k hk=>by simp only;rw[upd_ne _ _ aa]) (fun _ _=>rfl) (fun _ _=>rfl)
  (fun z b hb=>by
   simp only at hb;by_cases e:z=T.m0+i
   ·subst e;rw[upd_same] at hb;rcases hb with hb|hb
    ·exact bm (h.lt _ b hb) Jb.size
    ·exact hb.2
   ·rw[upd_ne _ _ e] at hb;exact bm (h.lt _ b hb) Jb.size)
  Jb.size (Jb.JQ hT h.h0 hoH (zC 0 aa)) (fun k hk Na=>Jb.A2 hT Na aa h.h0 hoH (zC _ aa) (aeA k)) (Jb.JQ hT h.h0 hoH (fun _ hb=>hb.elim)) (Jb.keep hT hi) (fun _ hk=>hk)
  (.inl ⟨eY,h7,Cr,g',false,by simp only[upd_same],by simp only[upd_same];exact Jc,.inl ⟨rfl,rfl⟩⟩) (.inl rfl) (fun k hk=>by rw[nch k hk];exact h.chan k hk) h.SH (fun h6=>aa) (by rw[Nd iH]) (fun e he=>(iH e he).2.2.2 _) (h.wg.of_block Xj)
  (fun tag' ht _=>by rw[A6];exact h.mode.retag ht)
 refine⟨gd,w',{S with own:=upd S.own (T.m0+i) (grow (S.own (T.m0+i)) w w')},upd D i (D i),_,tag',a',y',st,sm,_,r1,rfl,r3,.inr ⟨?_,?_,fun k hk=>by rw[upd_ne _ _ hk];exact r4 k hk⟩⟩
 ·rw[A6];show ot T {S with own:=upd S.own (T.m0+i) (grow (S.own (T.m0+i)) w w')} D tag'=ot T S D tag;rw[<- DJ (T:=T) (S:=S) (D:=D) r2];rfl
 ·rw[upd_same,hx];obtain⟨s,r,tm,hc⟩:=h.chan i pd;rw[eY] at hc;exact⟨rfl,.inl (.inl ⟨w,es,s,r,tm,cF.refl w,aez,rfl,rfl,hc,nch i pd⟩)⟩
theorem fJ.Nf(hT:T.OK)(hV:jJ T V ek)(h:fJ P T V ek cx Fin t0 w0 gs w t S D x tag a y st sm)(sf:S.j<=T.n){i:Nat}(hi:i<S.j){g g':aS}(hg:gs[T.m0+i]?=some g)(eY:S.cl i=none)(h7:(D i).stage=7)(Cr:(D i).deaf=0){s r:Nat}{tm:Bool}(hc:w.heap[T.ch i]?=some (.chan 0 #[] false s r tm))(hgo:stepG P false g w=.go g' (w.setChan (T.ch i) 0 #[] true s r tm) (gf (T.ch i)))(Zc:mayWake P g=true)(PG:g'.status=.running)(hVi:V i w)(hE:CR P T ek i (S.own (T.m0+i)) g' (w.setChan (T.ch i) 0 #[] true s r tm)):
  ∃gd w' S' D' x' tag' a' y' st' sm' ops,runT P (crowd gs w sl) (T.m0+i)=(.next (crowd gd w' sl),ops)/\S'.j=S.j/\fJ P T V ek cx Fin t0 w0 gd w' (t++ops) S' D' x' tag' a' y' st' sm'/\A5 P T V (T.m0+i) S S' D D' tag tag' x x':=by
 have pd:i<T.n:=aa;have LJ:=hT.m0;have hh:=oo w (T.ch i) s r tm;have ft:(w.setChan (T.ch i) 0 #[] true s r tm).heap.size=w.heap.size:=by simp[World.setChan]
 have bZ:T.ch i<w.heap.size:=(Array.getElem?_eq_some_iff.1 hc).1;obtain⟨C,v,m,e1,e2,e3⟩:=hE;have PH:MemOp.ofEvents (T.m0+i) g.frame.fn g.frame.place (gf (T.ch i))=#[{g:=T.m0+i,fn:=g.frame.fn,pos:=g.frame.place,act:=.access ⟨.obj (T.ch i),false,true⟩}]++#[{g:=T.m0+i,fn:=g.frame.fn,pos:=g.frame.place,act:=.close (T.ch i)}]:=by rw[ofEvents_eq];simp[MemAct.ofEvent,gf]
 have M7:TI T {S with cl:=upd S.cl i (some (t.size+1))} (t++MemOp.ofEvents (T.m0+i) g.frame.fn g.frame.place (gf (T.ch i))):=by
  rw[PH,<- cY];have Zd:Deaf (t++#[({g:=T.m0+i,fn:=g.frame.fn,pos:=g.frame.place,act:=.access ⟨.obj (T.ch i),false,true⟩}:MemOp)]) (T.m0+i)=0:=by
   have:=Deaf_own t (T.m0+i) g.frame.fn g.frame.place #[⟨.obj (T.ch i),false,true⟩];rw[h.deafW i hi,Cr] at this;simpa[MemOp.ofEvents,MemAct.ofEvent,deafBehind] using this
  have h1:TI T S (t++#[({g:=T.m0+i,fn:=g.frame.fn,pos:=g.frame.place,act:=.access ⟨.obj (T.ch i),false,true⟩}:MemOp)]):=by
   refine h.ti.app hT h.rQ (x:=T.m0+i) (.inr ⟨i,hi,rfl⟩) (fun op eu=>by simp at eu;rw[eu]) fun op eu b hb hm=>?_;simp at eu;subst eu;simp only[MemAct.touch?,en] at hb;subst hb;refine .inr (.inr (.inr (.inr ⟨⟨fun b hb=>?_,fun k hk=>?_,hT.Pv i pd⟩,rfl⟩)))
   ·have:T.ch i=b:=hb;subst this;exact hT.ch i pd
   ·obtain⟨a',e,_⟩:=hT.ownSh k _ hk;cases e
  have h2:=h1.close hi eY (z:={g:=T.m0+i,fn:=g.frame.fn,pos:=g.frame.place,act:=.close (T.ch i)}) rfl rfl Zd;simpa using h2
 have kZ:∀a,T.js i (.cell a)->(w.setChan (T.ch i) 0 #[] true s r tm).cell? a=w.cell? a:=fun a ha=>by
  obtain⟨a',e,hs⟩:=hT.ownSh i _ ha;cases e;exact cell_of (hh _ (bc ((hT.sh _ hs).2.2 i pd)))
 obtain⟨gd,tag',a',y',r1,r2,r3,r4⟩:=fJ.worker (sl:=sl) hT hV h hi sf hg hgo (S':={S with cl:=upd S.cl i (some (t.size+1))}) (d':=⟨7,m,0⟩) (ld':=.inr m) (st':=st) (sm':=sm) rfl M7 ⟨h.rQ.new,h.rQ.one,h.rQ.mem⟩
  rfl (fun _ _=>rfl) (fun _ _=>rfl) (fun k hk=>by simp only;rw[upd_ne _ _ hk]) (fun z b hb=>by rw[ft];exact h.lt z b hb) (bq ft.symm) (A3 hT pd (fun b hb=>h.rQ.new _ b hb))
  (fun k hk Na=>JR hT aa Na pd (fun b hb=>h.rQ.new _ b hb) hc) (A3 hT pd (fun _ hb=>hb.elim)) (pG.A1 hT fun b hb=>hh b (bc ((hT.sh b hb).2.2 i pd)))
  (fun k hk=>by
   simp only;by_cases e:k=i
   ·subst e;rw[upd_same];rfl
   ·rw[upd_ne _ _ e];exact hk)
  (.inr ⟨by simp only;rw[upd_same];rfl,rfl,hV.v i w _ kZ hVi,C,v,e1,.r0 e2,e3⟩) (.inr ⟨Zc,PG⟩)
  (fun k hk=>by
   by_cases e:k=i
   ·subst e;exact⟨s,r,tm,by simp[World.setChan,bZ,upd_same]⟩
   ·obtain⟨s',r',tm',kY⟩:=h.chan k hk;exact⟨s',r',tm',by simp only;rw[upd_ne _ _ e,hh _ (fun x=>e (hT.wh _ _ hk pd x))];exact kY⟩)
  (fun i' k hk=>by
   simp only;by_cases e:k=i
   ·subst e;rw[upd_same];rfl
   ·rw[upd_ne _ _ e];exact h.SH i' k hk)
  (fun h6=>by simp at h6) (by rw[Cr];simp[deafBehind,gf]) (fun e he=>by simp[gf] at he;rcases he with rfl|rfl<;>simp) (h.wg.of_block (hh _ (bc (hT.ch i pd).2)))
  (fun tag' ht _=>by
   have:=h.mode.same (i:=i) m 0;rw[h7] at this;exact this.retag ht)
 refine⟨gd,_,{S with cl:=upd S.cl i (some (t.size+1))},upd D i ⟨7,m,0⟩,_,tag',a',y',st,sm,_,r1,rfl,r3,.inl ?_⟩;have ev:=Vc_upd D (⟨7,m,0⟩:WD) hi;have es:=sumTo_upd D (⟨7,m,0⟩:WD) WD.stage hi;have el:=sumTo_upd S.cl (some (t.size+1)) (fun c=>if c=none then 1 else 0) hi;have c1:cnt (D i)=1:=by simp[cnt,h7]
 have c2:cnt (⟨7,m,0⟩:WD)=1:=rfl;have hv:Vc S.j (upd D i ⟨7,m,0⟩)=Vc S.j D:=aa;simp only[eY,if_true,h7] at el es;have hl:lW {S with cl:=upd S.cl i (some (t.size+1))}+1=lW S:=by
  simp only[lW];simpa using el
 simp only[ot];rw[hv,phi_retag _ _ r2];simp only[Ssum] at *;omega
end
end
section
open Go.ConcR (KK wgBlock WgAt stA smA rd wr mk Payload g_of_ofEvents loc_of_ofEvent)
variable [Payload]
section
variable {P:Program} {T:cP} {V:Nat->ae->Prop} {ek:Nat->(Nat->Prop)->ae->Prop} {cx Fin:dV} {t0:Trace} {w0:ae}
 {gs:Array aS} {w w':ae} {t:Trace} {S S':jb} {D:Nat->WD} {x:Nat->kV} {tag:CTag} {a:aS} {y:jc} {st sm:Int} {sl:Option (Nat×Nat)}
theorem fJ.PI(hT:T.OK)(h:fJ P T V ek cx Fin t0 w0 gs w t S D x tag a y st sm)(sf:S.j<=T.n){i:Nat}(hi:i<S.j){g g0:aS}{tr:Bool}(hg:gs[T.m0+i]?=some g)(eY:S.cl i=none)(h7:(D i).stage=7)(Cr:(D i).deaf=0)(hx:x (T.m0+i)=.inl (i,⟨g0,S.own (T.m0+i),S.rc i,w⟩,tr))(Jc:gj P T i V (CR P T ek i) ⟨g0,S.own (T.m0+i),S.rc i,w⟩){k:Nat}{z:Value}{f:Bool}(hk:T.dep i k)(hcm:∀w1,cF T i (S.own (T.m0+i)) (S.rc i) w w1->stepG P false g0 w1=.comm g0 #[rcase (T.ch k) z] true (.recv f) w1 #[])(xP:∀w1,cF T i (S.own (T.m0+i)) (S.rc i) w w1->V k w1->gj P T i V (CR P T ek i) ⟨Go.Conc.served g0 (recvd f z false),S.own (T.m0+i),fun b=>S.rc i b\/b=k,w1⟩)(hgg:stepG P false g w=stepG P false g0 w)(uF:S.cl k=none->tr=false):
  ∃gd w' S' D' x' tag' a' y' st' sm' ops,runT P (crowd gs w sl) (T.m0+i)=(.next (crowd gd w' sl),ops)/\S'.j=S.j/\fJ P T V ek cx Fin t0 w0 gd w' (t++ops) S' D' x' tag' a' y' st' sm'/\A5 P T V (T.m0+i) S S' D D' tag tag' x x':=by
 have pd:i<T.n:=aa;have Na:=hT.dep i k pd hk;have I4:k<T.n:=aa;have LJ:=hT.m0;have I7:(T.m0+i==0)=false:=eR;have dW:stepG P (T.m0+i==0) g w=.comm g0 #[rcase (T.ch k) z] true (.recv f) w #[]:=by rw[I7,hgg];exact hcm w (cF.refl w)
 have e0:MemOp.ofEvents (T.m0+i) g.frame.fn g.frame.place #[]=#[]:=by rw[ofEvents_eq];simp
 obtain⟨s,r,tm,hc⟩:=h.chan k I4;cases SI:S.cl k with
 |none =>
  rw[SI] at hc;have cm:=crowd_waits (P:=P) (sl:=sl) hg dW (fun cc Js=>by simp at Js;subst Js;exact ways_recv_none hc (h.PE _ _));rw[e0] at cm;have zE:=h.put LJ hi (S':=S) (g':=parked g0 #[rcase (T.ch k) z] (.recv f)) (ld':=.inl (i,⟨g0,S.own (T.m0+i),S.rc i,w⟩,true)) (u:=#[]) rfl rfl rfl (fun _ _=>rfl) h.SH (by simpa using h.ti) an an h7
   (.inl ⟨eY,h7,Cr,g0,true,rfl,Jc,.inr ⟨rfl,k,z,f,hk,hcm,.inl ⟨rfl,SI⟩⟩⟩)
  refine⟨_,w,S,D,_,tag,a,y,st,sm,#[],cm,rfl,zE,.inr ⟨rfl,?_,fun k' kY=>by rw[upd_ne _ _ kY];exact iy.refl _⟩⟩;rw[upd_same,hx,uF SI];exact⟨rfl,.inr ⟨rfl,rfl,rfl,rfl,rfl,cF.refl w⟩⟩
 |some p =>
  rw[SI] at hc;have cm:=crowd_recv_closed (P:=P) (sl:=sl) hg dW hc (h.PE _ _);rw[e0,finishComm_recv] at cm;have PK:k<S.j:=aa;have hVk:V k w:=by
   obtain⟨gk,_,h2⟩:=h.wk k PK;rcases h2 with⟨h3,_⟩|⟨_,_,h3,_⟩
   ·rw[SI] at h3;cases h3
   ·exact h3
  have erc:({S with rc:=fun a b=>S.rc a b\/(a=i/\b=k)}:jb).rc i=fun b=>S.rc i b\/b=k:=by funext b;simp
  have M7:=h.ti.recv (i:=i) SI (z:={g:=T.m0+i,fn:=g0.frame.fn,pos:=g0.frame.place,act:=.recvClosed (T.ch k)}) rfl rfl (by rw[h.deafW i hi,Cr]);have zE:=h.put LJ hi (S':={S with rc:=fun a b=>S.rc a b\/(a=i/\b=k)}) (g':=Go.Conc.served g0 (recvd f z false)) (ld':=.inl (i,⟨Go.Conc.served g0 (recvd f z false),S.own (T.m0+i),fun b=>S.rc i b\/b=k,w⟩,false))
   (u:=#[{g:=T.m0+i,fn:=g0.frame.fn,pos:=g0.frame.place,act:=.recvClosed (T.ch k)}]) rfl rfl rfl (fun k' kY=>by funext b;simp[kY])
   (fun i' k' hr=>by
    rcases hr with hr|⟨_,rfl⟩
    ·exact h.SH i' k' hr
    ·rw[SI];rfl) M7 (fun op eu=>by simp at eu;rw[eu]) (fun op eu m=>by simp at eu;rw[eu];simp) h7
   (.inl ⟨eY,h7,Cr,Go.Conc.served g0 (recvd f z false),false,by rw[erc],by rw[erc];exact xP w (cF.refl w) hVk,.inl ⟨rfl,rfl⟩⟩)
  have eo:(#[]:Array MemOp)++#[({g:=T.m0+i,fn:=g0.frame.fn,pos:=g0.frame.place,act:=.recvClosed (T.ch k)}:MemOp)]=#[{g:=T.m0+i,fn:=g0.frame.fn,pos:=g0.frame.place,act:=.recvClosed (T.ch k)}]:=an;rw[eo] at cm;refine⟨_,w,{S with rc:=fun a b=>S.rc a b\/(a=i/\b=k)},D,_,tag,a,y,st,sm,_,cm,rfl,zE,.inr ⟨rfl,?_,fun k' kY=>by rw[upd_ne _ _ kY];exact iy.refl _⟩⟩;rw[upd_same,hx];obtain⟨s',r',tm',hci⟩:=h.chan i pd;rw[eY] at hci;exact⟨rfl,.inl (.inr ⟨k,z,f,hk,cF.refl w,hVk,hcm w (cF.refl w),rfl,rfl,rfl,s',r',tm',hci⟩)⟩
theorem fJ.PL(hT:T.OK)(hV:jJ T V ek)(h:fJ P T V ek cx Fin t0 w0 gs w t S D x tag a y st sm)(sf:S.j<=T.n){i:Nat}(hi:i<S.j){g:aS}(hg:gs[T.m0+i]?=some g)(cm:g.status=.running)(eY:S.cl i=none):
  ∃gd w' S' D' x' tag' a' y' st' sm' ops,runT P (crowd gs w sl) (T.m0+i)=(.next (crowd gd w' sl),ops)/\S'.j=S.j/\fJ P T V ek cx Fin t0 w0 gd w' (t++ops) S' D' x' tag' a' y' st' sm'/\A5 P T V (T.m0+i) S S' D D' tag tag' x x':=by
 have pd:i<T.n:=aa;obtain⟨g1,e1,hw⟩:=h.wk i hi;rw[hg] at e1;cases e1;rcases hw with⟨_,h7,Cr,g0,tr,hx,Jc,OZ⟩|⟨h1,_⟩
 ·have hr0:g0.status=.running:=Jc.look.1;have hgg:stepG P false g w=stepG P false g0 w:=by
   rcases OZ with⟨rfl,_⟩|⟨_,k,z,f,_,_,⟨rfl,_⟩|⟨rfl,_⟩⟩
   ·rfl
   ·cases cm
   ·rw[stepG_tries]
    congr 1
    obtain⟨fr,cs,stt,dy,of⟩:=g0;simp only at hr0;subst hr0;rfl
  obtain⟨_,h1|⟨k,z,f,h1,h2,h3⟩|⟨Zc,h1⟩⟩:=Jc.look
  ·obtain⟨g',w',es,e1,e2,e3,e4⟩:=h1 w (cF.refl w);exact h.Tu hT hV sf hi hg eY h7 Cr hx e1 (hgg.trans e1) e2 e3 e4
  ·refine h.PI hT sf hi hg eY h7 Cr hx Jc h1 h2 h3 hgg fun SI=>?_;rcases OZ with⟨_,ht⟩|⟨_,k',z',f',Tv,aeC,⟨rfl,_⟩|⟨_,rX⟩⟩
   ·exact ht
   ·cases cm
   ·exfalso;have ea:=h2 w (cF.refl w);have eb:=aeC w (cF.refl w);simp only at ea;rw[ea] at eb;simp only[GStep.comm.injEq,Array.mk.injEq,aac,rcase,CommCase.mk.injEq,Value.chan.injEq,en,and_true,true_and,CommShape.recv.injEq] at eb;have k1:=hT.dep i k pd h1;have k2:=hT.dep i k' pd Tv;obtain rfl:=hT.wh k k' aa aa eb.1.1;rw[SI] at rX;cases rX
  ·obtain⟨s,r,tm,hc⟩:=h.chan i pd;rw[eY] at hc;obtain⟨g',e1,e2,e3,e4⟩:=h1 w (cF.refl w) s r tm hc;refine h.Nf hT hV sf hi hg eY h7 Cr hc (hgg.trans e1) ?_ e2 e3 e4;rcases OZ with⟨rfl,_⟩|⟨_,k,z,f,_,_,⟨rfl,_⟩|⟨rfl,_⟩⟩
   ·exact Zc
   ·cases cm
   ·exact Zc
 ·rw[eY] at h1;cases h1
end
end
section
open Go.ConcR (KK wgBlock WgAt stA smA rd wr mk Payload DC0 Bk bk_of_mute g_of_ofEvents loc_of_ofEvent ofEvent_loc_mark)
variable [Payload]
structure Xk(T:cP)(S:jb)(i C:Nat)(w w':ae):Prop where
 JQ:dc T (S.own 0) w w'
 A2:∀k,k<S.j->k≠i->cF T k (S.own (T.m0+k)) (S.rc k) w w'
 same:dc T (fun _=>False) w w'
 Cu:pG T S.j w w'
 size:w'.heap.size=w.heap.size
 chan:∀k,k<T.n->w'.heap[T.ch k]?=w.heap[T.ch k]?
 cells:∀a,T.js i (.cell a)->w'.cell? a=w.cell? a
 own:∀b,S.own (T.m0+i) b->b≠C->w'.heap[b]?=w.heap[b]?
section
variable {P:Program} {T:cP} {V:Nat->ae->Prop} {ek:Nat->(Nat->Prop)->ae->Prop} {cx Fin:dV} {t0:Trace} {w0:ae}
 {gs:Array aS} {w w':ae} {t:Trace} {S S':jb} {D:Nat->WD} {x:Nat->kV} {tag:CTag} {a:aS} {y:jc} {st sm:Int} {sl:Option (Nat×Nat)}
theorem LK(hT:T.OK)(hS:S.OK T)(sf:S.j<=T.n){i C:Nat}(h:Aside T.Wg w w')(hl:WgLive T.ty T.Wg w'):Xk T S i C w w':=by
 have eH:∀z b,S.own z b->b≠T.Wg:=fun z b hb=>by have:=hS.new z b hb;have:=hT.wg;omega
 refine⟨wj hT (fun b hb=>hS.new _ b hb) h hl,fun k hk _=>LG hT aa (fun b hb=>hS.new _ b hb) h hl,wj hT (fun _ hb=>hb.elim) h hl,pG.A1 hT (fun b hb=>h.block b (hT.sh b hb).2.1),h.size,fun k hk=>h.block _ (hT.ch k hk).2,fun a ha=>?_,fun b hb _=>h.block b (eH _ b hb)⟩;obtain⟨a',e,hs⟩:=hT.ownSh i _ ha;cases e;exact cell_of (h.block _ (hT.sh _ hs).2.1)
theorem Ng(hT:T.OK)(h:fJ P T V ek cx Fin t0 w0 gs w t S D x tag a y st sm)(sf:S.j<=T.n){i C:Nat}(hi:i<S.j)(hC:S.own (T.m0+i) C)(DH:∀k,S.rc k i->True)(LL:AsideCell C 0 (1-1) w w'):Xk T S i C w w'/\w'.heap[T.Wg]?=w.heap[T.Wg]?:=by
 have LJ:=hT.m0;have Ze:=h.rQ.new _ C hC;have old:∀b,b<T.H0->w'.heap[b]?=w.heap[b]?:=fun b hb=>LL.block b aa;have hg:M3 T (fun b=>b=C) w w':=⟨bq LL.size.symm,fun b _ hb=>LL.block b hb,LL.os,LL.output⟩;have JW:∀z,z≠T.m0+i->∀b,S.own z b->b≠C:=fun z hz b hb e=>hz (h.rQ.one _ _ _ hb (e▸hC));refine⟨⟨⟨hg.size,fun b hb=>LL.block b (JW 0 aa b hb),fun b h1 _ _ _=>old b h1,fQ (old _ hT.wg),LL.os,LL.output⟩,fun k hk Na=>hg.A2 hT aa h.h0 (fun b hb=>by rw[hb];exact Ze) (fun b hb=>⟨h.rQ.new _ b hb,h.lt _ b hb,JW _ aa b hb⟩),⟨hg.size,fun _ hb=>hb.elim,fun b h1 _ _ _=>old b h1,fQ (old _ hT.wg),LL.os,LL.output⟩,
  pG.A1 hT (fun b hb=>old b (hT.sh b hb).1),LL.size,fun k hk=>old _ (hT.ch k hk).1,fun a ha=>?_,fun b _ hb=>LL.block b hb⟩,old _ hT.wg⟩
 obtain⟨a',e,hs⟩:=hT.ownSh i _ ha;cases e;exact cell_of (old _ (hT.sh _ hs).1)
theorem JX{i:Nat}(hi:i<S.j){d':WD}{tag':CTag}{x':Nat->kV}(hs:tag'=tag\/(tag=.blk/\tag'=.w3))(h1:d'.stage<(D i).stage)(h2:cnt d'<=cnt (D i)):A5 P T V (T.m0+i) S S D (upd D i d') tag tag' x x':=by
 left;have e1:=sumTo_upd D d' cnt hi;have e2:=sumTo_upd D d' WD.stage hi;simp only[ot];rw[phi_retag _ _ hs];simp only[Vc,Ssum] at *;have:=phi_mono T.n (v':=sumTo S.j fun a=>cnt (upd D i d' a)) (v:=sumTo S.j fun a=>cnt (D a)) aa tag;omega
theorem Nh{i:Nat}(hi:i<S.j){m':Nat}{dd:Nat}{tag':CTag}{x':Nat->kV}(hs:tag'=tag\/(tag=.blk/\tag'=.w3))(hx:x (T.m0+i)=.inr (D i).fuel)(kB:x' (T.m0+i)=.inr m')(hm:m'<(D i).fuel)(ho:∀k,k≠T.m0+i->iy T (x' k) (x k)):
  A5 P T V (T.m0+i) S S D (upd D i ⟨(D i).stage,m',dd⟩) tag tag' x x':=by
 refine .inr ⟨?_,by rw[hx,kB];exact hm,ho⟩;have e1:=sumTo_upd D (⟨(D i).stage,m',dd⟩:WD) cnt hi;have e2:=sumTo_upd D (⟨(D i).stage,m',dd⟩:WD) WD.stage hi;have ec:cnt (⟨(D i).stage,m',dd⟩:WD)=cnt (D i):=rfl;simp only[ot];rw[phi_retag _ _ hs];have ev:Vc S.j (upd D i ⟨(D i).stage,m',dd⟩)=Vc S.j D:=by simp only[Vc] at *;omega
 have lB:Ssum S.j (upd D i ⟨(D i).stage,m',dd⟩)=Ssum S.j D:=by simp only[Ssum] at *;omega
 rw[ev,lB]
theorem A7{z:Nat}{fn:FuncId}{pos:String}{es:Array Event}(h:∀e∈es,Bk T.Wg e):∀op∈MemOp.ofEvents z fn pos es,∀b,op.act.touch?=some b->b.loc.isMemory=true->wi T S z b:=by
 intro op eu b hb _;obtain⟨e,he,rfl⟩:=Go.Conc.mem_ofEvents eu;rcases h e he with h1|h1|⟨a,oT,rfl,ha⟩
 ·simp only[ofEvent_loc_mark h1] at hb;cases hb
 ·simp only[ofEvent_loc_mark h1] at hb;cases hb
 ·simp only[ofEvent_cell0,MemAct.touch?,en] at hb;subst hb;exact .inl ⟨ha,an,an⟩
theorem PM{i d:Nat}(h:∃r,T.T0<=r/\RelBy (stA T.Wg) t (T.m0+i) r/\∀i' a,r<i'->t.g? i'=some (T.m0+i)->touchAt t i'=some a->sK (fun b=>b=T.Wg) a.loc/\a.kind=.atomic)(Xl:Deaf t (T.m0+i)=d)(fn:FuncId)(pos:String){es:Array Event}(GJ:∀e∈es,Bk T.Wg e)(hd:∀j e,es[j]?=some e->(MemAct.ofEvent e).touch?=none\/0<deafBehind d (es.extract 0 j)):
  ∃r,T.T0<=r/\RelBy (stA T.Wg) (t++MemOp.ofEvents (T.m0+i) fn pos es) (T.m0+i) r/\∀i' a,r<i'->(t++MemOp.ofEvents (T.m0+i) fn pos es).g? i'=some (T.m0+i)->touchAt (t++MemOp.ofEvents (T.m0+i) fn pos es) i'=some a->sK (fun b=>b=T.Wg) a.loc/\a.kind=.atomic:=by
 obtain⟨r,h1,h2,h3⟩:=h;refine⟨r,h1,h2.book Xl fn pos GJ hd,fun i' a lQ Tq hta=>?_⟩;obtain⟨z,hz,uj⟩:=touch_of hta;rcases getElem?_append_cases hz with⟨bZ,Cq⟩|⟨_,FR⟩
 ·exact h3 i' a lQ (by rw[<- g?_old (u:=MemOp.ofEvents (T.m0+i) fn pos es) bZ];exact Tq) (by rw[touchAt_of Cq];exact uj)
 ·obtain⟨e,he,rfl⟩:=Go.Conc.mem_ofEvents FR;rcases GJ e he with k1|k1|⟨ad,oT,rfl,ha⟩
  ·simp only[ofEvent_loc_mark k1] at uj;cases uj
  ·simp only[ofEvent_loc_mark k1] at uj;cases uj
  ·simp only[ofEvent_cell0,MemAct.touch?,en] at uj;subst uj;exact⟨ha,rfl⟩
theorem fJ.PN(hT:T.OK)(hV:jJ T V ek)(hn:T.n<2147483648)(h:fJ P T V ek cx Fin t0 w0 gs w t S D x tag a y st sm)(sf:S.j<=T.n){i:Nat}(hi:i<S.j){g:aS}(hg:gs[T.m0+i]?=some g)(cm:g.status=.running)(eY:(S.cl i).isSome=true)(ahS:Vc S.j D+pend tag<=T.n):
  ∃gd w' S' D' x' tag' a' y' st' sm' ops,runT P (crowd gs w sl) (T.m0+i)=(.next (crowd gd w' sl),ops)/\S'.j=S.j/\fJ P T V ek cx Fin t0 w0 gd w' (t++ops) S' D' x' tag' a' y' st' sm'/\A5 P T V (T.m0+i) S S' D D' tag tag' x x':=by
 have pd:i<T.n:=aa;obtain⟨g1,e1,hw⟩:=h.wk i hi;rw[hg] at e1;cases e1;rcases hw with⟨h1,_⟩|⟨_,hx,hVi,C,v,hC,hs,ow⟩
 ·rw[h1] at eY;cases eY
 have hVj:=Vc_le S.j D;have step:∀{g':aS} {w':ae} {es:Array Event} {d':WD} {st' sm':Int},stepG P false g w=.go g' w' es->Xk T S i C w w'->WgAt T.ty T.Wg w' st' sm'->TI T S (t++MemOp.ofEvents (T.m0+i) g.frame.fn g.frame.place es) ->
   WSit P T.ty T.Wg C 0 pN pN 0 1 v d'.stage d'.fuel d'.deaf g' w'->deafBehind (D i).deaf es=d'.deaf->(∀e∈es,e.loc≠.mark (.release (stA T.Wg))) ->
   (d'.stage<=6->∃r,T.T0<=r/\RelBy (stA T.Wg) (t++MemOp.ofEvents (T.m0+i) g.frame.fn g.frame.place es) (T.m0+i) r/\∀i' a,r<i'->(t++MemOp.ofEvents (T.m0+i) g.frame.fn g.frame.place es).g? i'=some (T.m0+i)->touchAt (t++MemOp.ofEvents (T.m0+i) g.frame.fn g.frame.place es) i'=some a->sK (fun b=>b=T.Wg) a.loc/\a.kind=.atomic) ->
   (∀tag',(tag'=tag\/(tag=.blk/\tag'=.w3))->(mayWake P g=true->g'.status=.running->tag'≠.blk)->Go.ConcN.Mode S.j (upd D i d') tag' st' sm') ->
   ((d'.stage<(D i).stage/\cnt d'<=cnt (D i))\/(d'.stage=(D i).stage/\d'.fuel<(D i).fuel)) ->
   ∃gd w' S' D' x' tag' a' y' st' sm' ops,runT P (crowd gs w sl) (T.m0+i)=(.next (crowd gd w' sl),ops)/\S'.j=S.j/\fJ P T V ek cx Fin t0 w0 gd w' (t++ops) S' D' x' tag' a' y' st' sm'/\A5 P T V (T.m0+i) S S' D D' tag tag' x x':=by
  intro g' w' es d' st' sm' hgo Ni GV M7 rX hdd hnr aat A8 bZ;obtain⟨gd,tag',a',y',r1,r2,r3,r4⟩:=fJ.worker (sl:=sl) hT hV h hi sf hg hgo (S':=S) (d':=d') (ld':=.inr d'.fuel) (st':=st') (sm':=sm') rfl M7 h.rQ rfl (fun _ _=>rfl) (fun _ _=>rfl) (fun _ _=>rfl) (fun z b hb=>by rw[Ni.size];exact h.lt z b hb) (bq Ni.size.symm) Ni.JQ Ni.A2 Ni.same Ni.Cu (fun _ hk=>hk)
   (.inr ⟨eY,rfl,hV.v i w w' Ni.cells hVi,C,v,hC,rX,hV.val i _ w w' Ni.cells (fun b hb=>Ni.own b hb.1 hb.2) ow⟩) (.inl rfl) (fun k hk=>by rw[Ni.chan k hk];exact h.chan k hk) h.SH aat hdd hnr GV A8
  refine⟨gd,w',S,upd D i d',_,tag',a',y',st',sm',_,r1,rfl,r3,?_⟩;rcases bZ with⟨q1,q2⟩|⟨q1,q2⟩
  ·exact JX hi r2 q1 q2
  ·have e:d'=⟨(D i).stage,d'.fuel,d'.deaf⟩:=by rw[<- q1]
   rw[e];exact Nh hi r2 hx (by rw[<- e,upd_same]) q2 (fun k hk=>by rw[upd_ne _ _ hk];exact r4 k hk)
 have Xl:=h.deafW i hi;generalize dW:(D i).stage=s at hs step;generalize VI:(D i).fuel=m at hs step;generalize hde:(D i).deaf=dd at hs step;rw[hde] at Xl;have ahT:(MemOp.ofEvents (T.m0+i) g.frame.fn g.frame.place #[])=#[]:=by rw[ofEvents_eq];simp
 have book:∀{g':aS} {w':ae} {es:Array Event} {s' m' dd':Nat} {st' sm':Int},stepG P false g w=.go g' w' es->Aside T.Wg w w'->WgAt T.ty T.Wg w' st' sm'->(∀e∈es,Bk T.Wg e) ->
   (∀jx e,es[jx]?=some e->(MemAct.ofEvent e).touch?=none\/0<deafBehind dd (es.extract 0 jx))->WSit P T.ty T.Wg C 0 pN pN 0 1 v s' m' dd' g' w'->deafBehind dd es=dd'->s<=6 ->
   (∀tag',(tag'=tag\/(tag=.blk/\tag'=.w3))->(mayWake P g=true->g'.status=.running->tag'≠.blk)->Go.ConcN.Mode S.j (upd D i ⟨s',m',dd'⟩) tag' st' sm')->((s'<s/\cnt ⟨s',m',dd'⟩<=cnt (D i))\/(s'=s/\m'<m)) ->
   ∃gd w' S' D' x' tag' a' y' st' sm' ops,runT P (crowd gs w sl) (T.m0+i)=(.next (crowd gd w' sl),ops)/\S'.j=S.j/\fJ P T V ek cx Fin t0 w0 gd w' (t++ops) S' D' x' tag' a' y' st' sm'/\A5 P T V (T.m0+i) S S' D D' tag tag' x x':=by
  intro g' w' es s' m' dd' st' sm' hgo Xm GV ba hd rX hdd h6 A8 bZ;exact step (d':=⟨s',m',dd'⟩) hgo (LK hT h.rQ sf Xm ⟨_,_,GV⟩) GV (h.ti.app hT h.rQ (x:=T.m0+i) (.inr ⟨i,hi,rfl⟩) g_of_ofEvents (A7 ba)) rX hdd (fun e he=>norel_of_Bk ba e he)
   (fun _=>PM (h.rel i hi aa) Xl _ _ ba hd) A8 bZ
 have idle:∀{g':aS} {m':Nat},stepG P false g w=.go g' w #[]->WSit P T.ty T.Wg C 0 pN pN 0 1 v s m' dd g' w->m'<m->s<=6 ->
   ∃gd w' S' D' x' tag' a' y' st' sm' ops,runT P (crowd gs w sl) (T.m0+i)=(.next (crowd gd w' sl),ops)/\S'.j=S.j/\fJ P T V ek cx Fin t0 w0 gd w' (t++ops) S' D' x' tag' a' y' st' sm'/\A5 P T V (T.m0+i) S S' D D' tag tag' x x':=by
  intro g' m' hgo rX hm h6;exact book hgo (.refl T.Wg w) h.wg an an rX rfl h6 (fun tag' ht _=>by have:=h.mode.same (i:=i) m' dd;rw[dW] at this;exact this.retag ht) (.inr ⟨rfl,hm⟩)
 cases hs with
 |r0 sO =>
  rcases Goes.cases sO with n9|⟨m',rfl,ki⟩
  ·obtain⟨_,_,g',hgo,m₂,hk⟩:=n9 w (RW.refl w);refine step (d':=⟨6,m₂,0⟩) hgo (LK hT h.rQ sf (.refl T.Wg w) ⟨_,_,h.wg⟩) h.wg (h.ti.mute (y:=T.m0+i) g_of_ofEvents fun op eu=>?_) (.k1 hk) rfl (by intro e he;simp at he;subst he;simp[Go.ConcR.mk]) (fun _=>⟨t.size,h.ti.len,RelBy.new Xl _ _,fun i' b lQ _ htb=>?_⟩)
    (fun tag' ht _=>(h.mode.counted hi aa (.inl rfl) _ _).retag ht) (.inl ⟨an,by simp[cnt,dW]⟩)
   ·obtain⟨e,he,rfl⟩:=Go.Conc.mem_ofEvents eu;simp at he;subst he;rfl
   ·obtain⟨z,hz,_⟩:=touch_of htb;have:=lt_size_of_getElem? hz;rw[ofEvents_eq] at this;simp at this;omega
  ·obtain⟨g',w',es,hgo,⟨LL,iH⟩,Cw⟩:=ki w (RW.refl w);obtain⟨Ni,Xj⟩:=Ng hT h sf hi hC (fun _ _=>trivial) LL;refine step (d':=⟨7,m',0⟩) hgo Ni (h.wg.of_block Xj) (h.ti.app hT h.rQ (x:=T.m0+i) (.inr ⟨i,hi,rfl⟩) g_of_ofEvents fun op eu b hb hm=>?_) (.r0 Cw) (deafBehind_idle (fun e he=>⟨(iH e he).2.1,(iH e he).2.2.1⟩) 0) (fun e he=>(iH e he).2.2.2) (fun h6=>by simp at h6)
    (fun tag' ht _=>by have:=h.mode.same (i:=i) m' 0;rw[dW] at this;exact this.retag ht) (.inr ⟨rfl,an⟩)
   obtain⟨e,he,rfl⟩:=Go.Conc.mem_ofEvents eu;rcases((iH e he).1 g.frame.fn g.frame.place).2 b hb with⟨⟨ad,e1,e2⟩,h2,h3⟩|h2|⟨h2,_⟩
   ·refine .inl ⟨?_,h2,fun e=>absurd e h3⟩;rw[e1];exact e2
   ·exact h2.elim
   ·exact h2.elim
 |k1 sO =>
  rcases Goes.cases sO with n9|⟨m',rfl,ki⟩
  ·obtain⟨_,g',hgo,m₂,hk⟩:=n9 w (RW.refl w);exact book hgo (.refl T.Wg w) h.wg (by intro e he;simp at he;subst he;exact .inl rfl) (by intro jx e he;exact .inl (by have:=ew he;simp at this;subst this;rfl)) (.d1 hk) rfl aa
    (fun tag' ht _=>(h.mode.counted hi aa (.inr rfl) _ _).retag ht) (.inl ⟨aa,by simp[cnt,dW]⟩)
  ·obtain⟨g',w',es,hgo,⟨rfl,rfl⟩,Cw⟩:=ki w (RW.refl w);exact idle hgo (.k1 Cw) aa aa
 |d1 sO =>
  rcases Goes.cases sO with n9|⟨m',rfl,ki⟩
  ·obtain⟨_,gY⟩:=n9 w (RW.refl w);have Zf:cnt (D i)=1:=by simp[cnt,dW]
   have hV1:1<=Vc S.j D:=by have:=le_sumTo (f:=fun x=>cnt (D x)) hi;simp only[Vc];omega
   have bk2:∀e∈#[rd (stA T.Wg),wr (stA T.Wg)],Bk T.Wg e:=bk_rw;have df2:∀jx e,(#[rd (stA T.Wg),wr (stA T.Wg)]:Array Event)[jx]?=some e->(MemAct.ofEvent e).touch?=none\/0<deafBehind 1 ((#[rd (stA T.Wg),wr (stA T.Wg)]:Array Event).extract 0 jx):=by
    intro jx e he
    match jx,he with
    |0,_=>exact .inr (by simp[deafBehind])
    |1,_=>exact .inr (by simp[deafBehind,rd])
    |jx+2,he=>simp at he
   have hq0:∀q,cnt (⟨1,q,1⟩:WD)=0:=fun _=>rfl;have opq:∀q,OpenSt S.j D->OpenSt S.j (upd D i ⟨1,q,1⟩):=fun q hh b hb=>by
    by_cases e:b=i
    ·subst e;rw[upd_same];simp
    ·rw[upd_ne D _ e];exact hh b hb
   have jw:=h.mode;have nU:=h.wg;cases jw with
   |opn h1 h2 h3 =>
    obtain⟨n1,O0⟩:∃n1,Vc S.j D+pend tag=n1+1:=⟨Vc S.j D+pend tag-1,aa⟩;rw[O0] at nU;have pO:WgAt T.ty T.Wg w (((n1:Nat)+1)*KK+((0:Nat):Int)) 0:=by simpa using nU
    obtain⟨g',hgo,_,hq⟩:=gY n1 0 aa aa pO;obtain⟨q,hq⟩:=hq aa;have vD:Vc S.j (upd D i ⟨1,q,1⟩)+pend tag=n1:=by have:=Vc_upd D (⟨1,q,1⟩:WD) hi;have:=hq0 q;omega
    refine book hgo (aside_setCell w (stA T.Wg) _) (nU.setSt _) bk2 df2 (.quit hq) rfl aa (fun tag' ht _=>Mode.retag ?_ ht) (.inl ⟨aa,by simp[cnt]⟩);have e:((n1:Nat):Int)*KK+((0:Nat):Int)=((Vc S.j (upd D i ⟨1,q,1⟩)+pend tag:Nat):Int)*KK:=by rw[vD];simp
    rw[e];exact .opn h1 (opq q h2) (fun vs ev=>by have:=h3 vs ev;omega)
   |reg h1 h2 h3 =>
    obtain⟨n1,O0⟩:∃n1,Vc S.j D=n1+1:=⟨Vc S.j D-1,aa⟩;rw[O0] at nU;have pO:WgAt T.ty T.Wg w (((n1:Nat)+1)*KK+((1:Nat):Int)) 0:=by simpa using nU
    obtain⟨g',hgo,hl,hq⟩:=gY n1 1 aa aa pO;by_cases ME:n1=0
    ·subst ME;obtain⟨m₂,hk⟩:=hl ⟨rfl,rfl⟩;refine book hgo (aside_setCell w (stA T.Wg) _) (nU.setSt _) bk2 df2 (.d2 hk) rfl aa (fun tag' ht _=>Mode.retag ?_ ht) (.inl ⟨aa,by simp[cnt]⟩);have zC:∀b,b<S.j->b≠i->(D b).stage=1:=fun b hb e=>by
      have c0:=others_uncounted hi O0 Zf b hb e;have:=h2 b hb;simp only[cnt] at c0;split at c0<;>omega
     have:=Mode.last (j:=S.j) (D:=upd D i ⟨4,m₂,1⟩) (tag:=tag) i h1 hi (by rw[upd_same];simp) (fun b hb e=>by rw[upd_ne D _ e];exact zC b hb e);rw[upd_same] at this;simpa using this
    ·obtain⟨q,hq⟩:=hq aa;have vD:Vc S.j (upd D i ⟨1,q,1⟩)=n1:=by have:=Vc_upd D (⟨1,q,1⟩:WD) hi;have:=hq0 q;omega
     refine book hgo (aside_setCell w (stA T.Wg) _) (nU.setSt _) bk2 df2 (.quit hq) rfl aa (fun tag' ht _=>Mode.retag ?_ ht) (.inl ⟨aa,by simp[cnt]⟩);have e:((n1:Nat):Int)*KK+((1:Nat):Int)=((Vc S.j (upd D i ⟨1,q,1⟩):Nat):Int)*KK+1:=by rw[vD];simp
     rw[e];exact .reg h1 (opq q h2) aa
   |last L _ h2 h3 h4 =>
    by_cases e:i=L
    ·subst e;omega
    ·have:=h4 i hi e;omega
   |sema h2=>have:=h2 i hi;omega
   |fin _ h2=>have:=h2 i hi;omega
  ·obtain⟨g',w',es,hgo,⟨rfl,rfl⟩,Cw⟩:=ki w (RW.refl w);exact idle hgo (.d1 Cw) aa aa
 |d2 sO =>
  rcases Goes.cases sO with n9|⟨m',rfl,ki⟩
  ·obtain⟨_,kB⟩:=n9 w (RW.refl w);obtain⟨Tw,zC,e1,e2⟩:=h.mode.isLast hi aa;have nU:=h.wg;rw[e1,e2] at nU;simp only[dW] at nU;have GW:WgAt T.ty T.Wg w 1 0:=by simpa using nU
   obtain⟨g',hgo,m₂,hk⟩:=kB GW;refine book hgo (.refl T.Wg w) GW bk_rd (by intro jx e he;match jx,he with|0,_=>exact .inr (by simp[deafBehind])|jx+1,he=>simp at he) (.d3 hk) rfl aa (fun tag' ht _=>Mode.retag ?_ ht) (.inl ⟨aa,by simp[cnt]⟩);have:=Mode.last (j:=S.j) (D:=upd D i ⟨3,m₂,1⟩) (tag:=tag) i Tw hi (by rw[upd_same];simp) (fun b hb e=>by rw[upd_ne D _ e];exact zC b hb e);rw[upd_same] at this;simpa using this
  ·obtain⟨g',w',es,hgo,⟨rfl,rfl⟩,Cw⟩:=ki w (RW.refl w);exact idle hgo (.d2 Cw) aa aa
 |d3 sO =>
  rcases Goes.cases sO with n9|⟨m',rfl,ki⟩
  ·obtain⟨_,kB⟩:=n9 w (RW.refl w);obtain⟨Tw,zC,e1,e2⟩:=h.mode.isLast hi aa;have nU:=h.wg;rw[e1,e2] at nU;simp only[dW] at nU;have GW:WgAt T.ty T.Wg w 1 0:=by simpa using nU
   obtain⟨g',hgo,m₂,hk⟩:=kB GW;refine book hgo (aside_setCell w (stA T.Wg) _) (GW.setSt 0) (by intro e he;simp at he;subst he;exact bk_cell _ _ rfl) (by intro jx e he;match jx,he with|0,_=>exact .inr (by simp[deafBehind])|jx+1,he=>simp at he) (.d4 hk) rfl aa (fun tag' ht _=>Mode.retag ?_ ht) (.inl ⟨aa,by simp[cnt]⟩);have:=Mode.last (j:=S.j) (D:=upd D i ⟨2,m₂,1⟩) (tag:=tag) i Tw hi (by rw[upd_same];simp) (fun b hb e=>by rw[upd_ne D _ e];exact zC b hb e);rw[upd_same] at this;simpa using this
  ·obtain⟨g',w',es,hgo,⟨rfl,rfl⟩,Cw⟩:=ki w (RW.refl w);exact idle hgo (.d3 Cw) aa aa
 |d4 sO =>
  rcases Goes.cases sO with n9|⟨m',rfl,ki⟩
  ·obtain⟨_,Zc,kB⟩:=n9 w (RW.refl w);obtain⟨Tw,zC,e1,e2⟩:=h.mode.isLast hi aa;have nU:=h.wg;rw[e1,e2] at nU;simp only[dW] at nU;have GW:WgAt T.ty T.Wg w 0 0:=by simpa using nU
   obtain⟨g',hgo,q,hq⟩:=kB GW;have PG:g'.status=.running:=by
    cases q with
    |zero=>exact absurd hq.2 dh
    |succ q=>exact hq.elim (fun x=>absurd x.2 dh) (fun x=>x.1)
   refine book hgo (aside_setCell w (smA T.Wg) _) (GW.setSm 1) (es:=semEvents (smA T.Wg)) bk_sem ?_ (.quit hq) (by simp[deafBehind,semEvents]) aa ?_ (.inl ⟨aa,by simp[cnt]⟩)
   ·intro jx e he
    match jx,he with
    |0,he=>simp[semEvents] at he;subst he;exact .inl rfl
    |1,_=>exact .inr (by simp[deafBehind,semEvents])
    |2,_=>exact .inr (by simp[deafBehind,semEvents])
    |3,he=>simp[semEvents] at he;subst he;exact .inl rfl
    |jx+4,he=>simp[semEvents] at he
   ·intro tag' ht hw;have EK:=hw Zc PG;have e3:tag'=.w3:=by
     rcases ht with rfl|⟨_,rfl⟩
     ·cases tag'<;>first|rfl|exact Tw.elim|exact absurd rfl EK
     ·rfl
    subst e3;exact .sema fun b hb=>by
     by_cases e:b=i
     ·subst e;rw[upd_same]
     ·rw[upd_ne D _ e];exact zC b hb e
  ·obtain⟨g',w',es,hgo,⟨rfl,rfl⟩,Cw⟩:=ki w (RW.refl w);exact idle hgo (.d4 Cw) aa aa
 |quit hq =>
  cases m with
  |zero=>rw[hq.1] at cm;cases cm
  |succ q =>
   rcases hq with⟨hf,_⟩|⟨_,g',es,VJ,ki,EN⟩
   ·rw[hf] at cm;cases cm
   ·have ba:∀e∈es,Bk T.Wg e:=fun e he=>bk_of_mute (VJ e he);refine book (ki w) (.refl T.Wg w) h.wg ba (fun jx e he=>.inl (touch_mute (VJ e (ew he)))) (.quit EN) rfl aa (fun tag' ht _=>by have:=h.mode.same (i:=i) q (deafBehind dd es);rw[dW] at this;exact this.retag ht) (.inr ⟨rfl,aa⟩)
end
end
section
open Go.ConcR (KK wgBlock WgAt stA smA rd wr mk Payload DC0 Bk g_of_ofEvents loc_of_ofEvent ofEvent_loc_mark)
variable [Payload]
section
variable {P:Program} {T:cP} {V:Nat->ae->Prop} {ek:Nat->(Nat->Prop)->ae->Prop} {cx Fin:dV} {t0:Trace} {w0:ae}
 {gs:Array aS} {w w':ae} {t:Trace} {S S':jb} {D:Nat->WD} {x:Nat->kV} {tag:CTag} {a:aS} {y:jc} {st sm:Int} {sl:Option (Nat×Nat)}
theorem PO(hT:T.OK)(hS:S.OK T){o':Nat->Prop}(hh:T.H0<=w.heap.size)(hl:∀z b,S.own z b->b<w.heap.size)(ho:∀b,o' b->S.own 0 b\/w.heap.size<=b):({S with own:=upd S.own 0 o'}:jb).OK T:=by
 have key:∀z b,(upd S.own 0 o') z b->S.own z b\/(z=0/\w.heap.size<=b):=by
  intro z b hb;by_cases e:z=0
  ·subst e;rw[upd_same] at hb;exact(ho b hb).imp id fun hh=>⟨rfl,hh⟩
  ·rw[upd_ne _ _ e] at hb;exact .inl hb
 refine⟨fun z b hb=>?_,fun z z' b h1 h2=>?_,fun z b hb=>?_⟩
 ·rcases key z b hb with h|⟨_,h⟩
  ·exact hS.new z b h
  ·omega
 ·rcases key z b h1 with h1|⟨e1,h1⟩<;>rcases key z' b h2 with h2|⟨e2,h2⟩
  ·exact hS.one z z' b h1 h2
  ·have:=hl z b h1;omega
  ·have:=hl z' b h2;omega
  ·rw[e1,e2]
 ·rcases key z b hb with h|⟨e,_⟩
  ·exact hS.mem z b h
  ·exact .inl e
theorem fJ.main(hT:T.OK)(hV:jJ T V ek)(h:fJ P T V ek cx Fin t0 w0 gs w t S D x tag a y st sm)(sf:S.j<=T.n){a':aS}{es:Array Event}(hgo:stepG P true a w=.go a' w' es){o':Nat->Prop}{tag':CTag}{y':jc}{st' sm':Int}(ho:∀b,S.own 0 b->o' b)(CM:∀b,o' b->S.own 0 b\/(w.heap.size<=b/\b<w'.heap.size))(JO:∀op∈MemOp.ofEvents 0 a.frame.fn a.frame.place es,∀b,op.act.touch?=some b->b.loc.isMemory=true->wi T {S with own:=upd S.own 0 o'} 0 b)(ft:w.heap.size<=w'.heap.size)(Pz:∀k,k<S.j->cF T k (S.own (T.m0+k)) (S.rc k) w w')(nt:dc T (fun _=>False) w w')(M8:pG T S.j w w')(uh:∀k,k<T.n->w'.heap[T.ch k]?=w.heap[T.ch k]?)(GX:ji P T V ek cx Fin tag' o' a' w' y')(Xn:lK T.n tag' S.j (deafBehind (Deaf t 0) es))(JV:∀e∈es,e.loc≠.mark (.release (stA T.Wg)))(nU:WgAt T.ty T.Wg w' st' sm')(jw:Go.ConcN.Mode S.j D tag' st' sm'):
  ∃gd,runT P (crowd gs w sl) 0=(.next (crowd gd w' sl),MemOp.ofEvents 0 a.frame.fn a.frame.place es) /\
   fJ P T V ek cx Fin t0 w0 gd w' (t++MemOp.ofEvents 0 a.frame.fn a.frame.place es) {S with own:=upd S.own 0 o'} D (fun k=>lM w' (x k)) tag' a' y' st' sm'/\∀k,iy T (lM w' (x k)) (x k):=by
 have LJ:=hT.m0;have cm:=runT_crowd_go (P:=P) (sl:=sl) (i:=0) h.DI (show stepG P (0==0) a w=_ from hgo);have zA:0<gs.size:=by rw[h.size];omega
 have hu:∀op∈MemOp.ofEvents 0 a.frame.fn a.frame.place es,op.g=0:=g_of_ofEvents;have I9:∀k,k≠0->Deaf (t++MemOp.ofEvents 0 a.frame.fn a.frame.place es) k=Deaf t k:=fun k hk=>Deaf_other t (bc hk) _ hu;have JY:=PO hT h.rQ h.h0 h.lt fun b hb=>(CM b hb).imp id fun hh=>hh.1;have Ja:∀k,k<S.j->iy T (lM w' (x (T.m0+k))) (x (T.m0+k))/\∃gk,gs[T.m0+k]?=some gk/\I6 P T V ek k (S.own (T.m0+k)) (S.rc k) S.cl (D k) (lM w' (x (T.m0+k))) (woken P a a' w' gk) w':=by
  intro k hk;obtain⟨gk,h1,h2⟩:=h.wk k hk;obtain⟨h3,h4⟩:=h2.M6 (cl':=S.cl) hV (Pz k hk) (x:=a) (x':=a') rfl (fun _ hk=>hk) (fun k' hn _=>.inl hn) (fun k' hd=>by
   have kY:k'<T.n:=by have:=hT.dep k k' aa hd;omega
   rw[uh k' kY];exact h.chan k' kY)
  exact⟨h3,gk,h1,h4⟩
 refine⟨_,cm,?_,?_⟩
 ·refine⟨by simp[h.size],by simp[zA],by simp only[upd_same];exact GX,by rw[Deaf_own];exact Xn,fun k k0 km=>?_,fun k hk=>?_,fun k hk=>?_,?_,fun k hk=>?_,fun k hk=>?_,?_,JY,fun z b hb=>?_,aR h.h0 ft,nU,jw,fun k hk=>by rw[uh k hk];exact h.chan k hk,h.SH,h.Xg,h.SF,fun k hk dW=>qo (h.rel k hk dW) hu aa,tH h.norel JV,tI h.SD fun z hz=>.inl (hu z hz),?_,h.same.trans nt,h.Cu.trans M8,h.idle0⟩
  ·obtain⟨gk,q,h1,h2,h3⟩:=h.old k k0 km;have cV:0≠k:=aa;exact⟨gk,q,by rw[ov _ _ _ _ cV,h1,cR,woken_quitsD h3],by rw[h2];rfl,by rw[I9 k (bc cV)];exact h3⟩
  ·obtain⟨_,gk,h1,h2⟩:=Ja k hk;have cV:0≠T.m0+k:=aa;exact⟨_,by rw[ov _ _ _ _ cV,h1];rfl,by simp only;rw[upd_ne _ _ (bc cV)];exact h2⟩
  ·rw[h.rest k hk];rfl
  ·rw[h.zero];rfl
  ·rw[I9 _ aa];exact h.deafW k hk
  ·have kY:gs.size<=k:=by simpa using hk
   rw[I9 k aa];exact h.above k kY
  ·refine(h.ti.grow (own':=upd S.own 0 o') fun z b hb=>?_).app hT JY (x:=0) (.inl rfl) hu JO;by_cases e:z=0
   ·subst e;rw[upd_same];exact ho b hb
   ·rw[upd_ne _ _ e];exact hb
  ·simp only at hb;by_cases e:z=0
   ·subst e;rw[upd_same] at hb;rcases CM b hb with hb|hb
    ·exact bm (h.lt _ b hb) ft
    ·exact hb.2
   ·rw[upd_ne _ _ e] at hb;exact bm (h.lt _ b hb) ft
  ·obtain⟨U,hU⟩:=h.ext;exact⟨U++MemOp.ofEvents 0 a.frame.fn a.frame.place es,by rw[hU,cY]⟩
 ·intro k;rcases aZ k with rfl|nS
  ·rw[h.zero];exact rfl
  ·rcases bP k T.m0 with lE | Nc
   ·obtain⟨gk,q,_,h2,_⟩:=h.old k nS lE;rw[h2];exact rfl
   ·rcases bP k (T.m0+S.j) with Ge|Cv
    ·have:=(Ja (k-T.m0) aa).1;rw[show T.m0+(k-T.m0)=k by omega] at this;exact this
    ·rw[h.rest k Cv];exact rfl
theorem GY{gs:Array aS}(a' child:aS){k:Nat}(hk:k<gs.size)(h0:0≠k):((gs.setIfInBounds 0 a').push child)[k]?=gs[k]?:=by
 rw[eZ,if_neg eR,aJ h0]
theorem Nj{gs:Array aS}(a' child:aS):((gs.setIfInBounds 0 a').push child)[gs.size]?=some child:=by
 rw[eZ,if_pos an]
theorem fJ.spawn(hT:T.OK)(h:fJ P T V ek cx Fin t0 w0 gs w t S D x tag a y st sm)(sf:S.j<T.n){a' child:aS}{hand:Nat->Prop}(xB:stepG P true a w=.spawn a' child w #[])(hh:∀b,hand b->S.own 0 b)(Jc:gj P T S.j V (CR P T ek S.j) ⟨child,hand,fun _=>False,w⟩)(Cr:Deaf t 0=0){tag':CTag}{y':jc}(GX:ji P T V ek cx Fin tag' (fun b=>S.own 0 b/\¬hand b) a' w y')(Xn:lK T.n tag' (S.j+1) 0)(jw:Go.ConcN.Mode (S.j+1) (upd D S.j ⟨7,0,0⟩) tag' st sm):
  ∃gd S' x' ops,runT P (crowd gs w sl) 0=(.next (crowd gd w sl),ops)/\S'.j=S.j+1/\S'.cl=S.cl/\fJ P T V ek cx Fin t0 w0 gd w (t++ops) S' (upd D S.j ⟨7,0,0⟩) x' tag' a' y' st sm:=by
 have LJ:=hT.m0;have cm:=runT_crowd_spawn (P:=P) (sl:=sl) (i:=0) h.DI (show stepG P (0==0) a w=_ from xB);have pP:=h.size;have PH:((MemOp.ofEvents 0 a.frame.fn a.frame.place #[]).push {g:=0,fn:=a.frame.fn,pos:=a.frame.place,act:=.go gs.size} |>.push {g:=gs.size,fn:=child.frame.fn,pos:=a.frame.place,act:=.start}) =
   #[({g:=0,fn:=a.frame.fn,pos:=a.frame.place,act:=.go (T.m0+S.j)}:MemOp),{g:=T.m0+S.j,fn:=child.frame.fn,pos:=a.frame.place,act:=.start}]:=by
  rw[ofEvents_eq,pP];simp
 rw[PH] at cm;have SC:∀op∈#[({g:=0,fn:=a.frame.fn,pos:=a.frame.place,act:=.go (T.m0+S.j)}:MemOp),{g:=T.m0+S.j,fn:=child.frame.fn,pos:=a.frame.place,act:=.start}],op.act.touch?=none/\∀m,op.act≠.mark m:=by
  intro op eu;simp only[List.mem_toArray,gQ,aad,or_false] at eu;rcases eu with rfl|rfl
  ·exact⟨rfl,fun m=>an⟩
  ·exact⟨rfl,fun m=>an⟩
 have Tt:∀k,Deaf (t++#[({g:=0,fn:=a.frame.fn,pos:=a.frame.place,act:=.go (T.m0+S.j)}:MemOp),{g:=T.m0+S.j,fn:=child.frame.fn,pos:=a.frame.place,act:=.start}]) k=Deaf t k:=fun k=>Deaf_still t k _ fun op eu=>⟨(SC op eu).2 _,(SC op eu).2 _⟩;have zA:0<gs.size:=by rw[pP];omega
 have eY:S.cl S.j=none:=h.Xg _ (ag _);have DH:S.rc S.j=fun _=>False:=by funext b;simp;exact fun hb=>absurd (h.SF _ _ hb) (Nat.lt_irrefl _)
 have e1:∀z,z≠T.m0+S.j->z≠0->upd (upd S.own 0 (fun b=>S.own 0 b/\¬hand b)) (T.m0+S.j) hand z=S.own z:=fun z h1 h2=>by rw[upd_ne _ _ h1,upd_ne _ _ h2]
 have e2:upd (upd S.own 0 (fun b=>S.own 0 b/\¬hand b)) (T.m0+S.j) hand 0=fun b=>S.own 0 b/\¬hand b:=by rw[upd_ne _ _ aa,upd_same]
 have e3:upd (upd S.own 0 (fun b=>S.own 0 b/\¬hand b)) (T.m0+S.j) hand (T.m0+S.j)=hand:=upd_same _ _ _;have key:∀z b,upd (upd S.own 0 (fun b=>S.own 0 b/\¬hand b)) (T.m0+S.j) hand z b->(z=T.m0+S.j/\hand b)\/(z≠T.m0+S.j/\S.own z b/\(z=0->¬hand b)):=by
  intro z b hb;by_cases h1:z=T.m0+S.j
  ·subst h1;rw[e3] at hb;exact .inl ⟨rfl,hb⟩
  ·by_cases h2:z=0
   ·subst h2;rw[e2] at hb;exact .inr ⟨h1,hb.1,fun _=>hb.2⟩
   ·rw[e1 z h1 h2] at hb;exact .inr ⟨h1,hb,fun e=>absurd e h2⟩
 have noj:∀b,¬S.own (T.m0+S.j) b:=fun b hb=>by
  rcases h.rQ.mem _ b hb with e|⟨i',lQ,e⟩
  ·omega
  ·omega
 refine⟨_,{S with j:=S.j+1,own:=upd (upd S.own 0 (fun b=>S.own 0 b/\¬hand b)) (T.m0+S.j) hand},upd x (T.m0+S.j) (.inl (S.j,⟨child,hand,fun _=>False,w⟩,false)),_,cm,rfl,rfl,?_⟩;refine⟨by simp[pP];omega,?_,by simp only;rw[e2];exact GX,by rw[Tt,Cr];exact Xn,fun k k0 km=>?_,fun k hk=>?_,fun k hk=>?_,?_,fun k hk=>?_,fun k hk=>?_,?_,⟨fun z b hb=>?_,fun z z' b h1 h2=>?_,fun z b hb=>?_⟩,fun z b hb=>?_,h.h0,h.wg,jw,h.chan,h.SH,fun k hk=>h.Xg k (by simp only at hk;omega),fun i' k hr=>by have:=h.SF i' k hr;simp only;omega,fun k hk dW=>?_,fun k hk e=>?_,?_,?_,h.same,h.Cu.mono (Nat.le_succ _),h.idle0⟩
 ·rw[cT (by simpa using zA),<- aG];simp[zA]
 ·obtain⟨gk,q,h1,h2,h3⟩:=h.old k k0 km;refine⟨gk,q,?_,by rw[upd_ne _ _ aa];exact h2,by rw[Tt];exact h3⟩;rw[GY a' child (by rw[pP];omega) aa];exact h1
 ·simp only at hk |-;by_cases e:k=S.j
  ·subst e;refine⟨child,?_,.inl ⟨eY,by rw[upd_same],by rw[upd_same],child,false,by rw[upd_same,e3,DH],by rw[e3,DH];exact Jc,.inl ⟨rfl,rfl⟩⟩⟩;rw[<- pP];exact Nj a' child
  ·obtain⟨gk,h1,h2⟩:=h.wk k aa;refine⟨gk,?_,by rw[e1 _ aa aa,upd_ne D _ e,upd_ne x _ aa];exact h2⟩;rw[GY a' child (by rw[pP];omega) aa];exact h1
 ·simp only at hk;rw[upd_ne _ _ aa];exact h.rest k aa
 ·rw[upd_ne _ _ aa];exact h.zero
 ·simp only at hk;rw[Tt];by_cases e:k=S.j
  ·subst e;rw[upd_same];exact h.above _ (by rw[pP];exact ag _)
  ·rw[upd_ne _ _ e];exact h.deafW k aa
 ·rw[Tt];exact h.above k (by simp at hk;omega)
 ·exact h.ti.spawn (own':=upd (upd S.own 0 (fun b=>S.own 0 b/\¬hand b)) (T.m0+S.j) hand) ⟨rfl,rfl⟩ ⟨rfl,rfl⟩ Cr (h.above _ (by rw[pP];exact ag _)) fun z b hb=>by
   by_cases h1:z=T.m0+S.j
   ·subst h1;exact absurd hb (noj b)
   ·by_cases h2:z=0
    ·subst h2;by_cases h3:hand b
     ·exact .inr ⟨rfl,by rw[e3];exact h3⟩
     ·exact .inl (by rw[e2];exact⟨hb,h3⟩)
    ·exact .inl (by rw[e1 z h1 h2];exact hb)
 ·rcases key z b hb with⟨_,h1⟩|⟨_,h1,_⟩
  ·exact h.rQ.new 0 b (hh b h1)
  ·exact h.rQ.new z b h1
 ·rcases key z b h1 with⟨k1,k2⟩|⟨k1,k2,k3⟩<;>rcases key z' b h2 with⟨l1,l2⟩|⟨l1,l2,l3⟩
  ·rw[k1,l1]
  ·have:=h.rQ.one _ _ _ (hh b k2) l2;exact absurd k2 (l3 this.symm)
  ·have:=h.rQ.one _ _ _ (hh b l2) k2;exact absurd l2 (k3 this.symm)
  ·exact h.rQ.one _ _ _ k2 l2
 ·rcases key z b hb with⟨h1,_⟩|⟨_,h1,_⟩
  ·exact .inr ⟨S.j,bz _,h1⟩
  ·rcases h.rQ.mem z b h1 with e|⟨i',lQ,e⟩
   ·exact .inl e
   ·exact .inr ⟨i',Nat.lt_succ_of_lt lQ,e⟩
 ·rcases key z b hb with⟨_,h1⟩|⟨_,h1,_⟩
  ·exact h.lt 0 b (hh b h1)
  ·exact h.lt z b h1
 ·simp only at hk;by_cases e:k=S.j
  ·subst e;rw[upd_same] at dW;simp at dW
  ·rw[upd_ne _ _ e] at dW;obtain⟨r,r1,r2,r3⟩:=h.rel k aa dW;refine⟨r,r1,r2.app fun i' lQ Tq hc=>?_,fun i' b lQ Tq hta=>?_⟩
   ·obtain⟨b,hb,_⟩:=hc;obtain⟨z,hz,uj⟩:=touch_of hb;rcases getElem?_append_cases hz with⟨bZ,_⟩|⟨_,FR⟩
    ·omega
    ·rw[(SC z FR).1] at uj;cases uj
   ·obtain⟨z,hz,uj⟩:=touch_of hta;rcases getElem?_append_cases hz with⟨bZ,Cq⟩|⟨_,FR⟩
    ·refine r3 i' b lQ ?_ (by rw[touchAt_of Cq];exact uj);rw[<- Tq];simp[Trace.g?,hz,Cq]
    ·rw[(SC z FR).1] at uj;cases uj
 ·obtain⟨op,ho,VF⟩:=Option.map_eq_some_iff.1 e;rcases getElem?_append_cases ho with⟨bZ,mr⟩|⟨_,Py⟩
  ·exact h.norel k hk (by rw[act?_of mr,VF])
  ·exact(SC op Py).2 _ VF
 ·exact tI (fun i z hi hz=>(h.SD i z hi hz).imp id fun hh=>hh.imp (fun⟨k,hk,e⟩=>⟨k,Nat.lt_succ_of_lt hk,e⟩) id) fun z hz=>.inr (.inr (SC z hz).1)
 ·obtain⟨U,hU⟩:=h.ext;exact⟨U++#[({g:=0,fn:=a.frame.fn,pos:=a.frame.place,act:=.go (T.m0+S.j)}:MemOp),{g:=T.m0+S.j,fn:=child.frame.fn,pos:=a.frame.place,act:=.start}],by rw[hU,cY]⟩
end
end
section
open Go.ConcR (KK wgBlock WgAt stA smA rd wr mk Payload DC0 Bk g_of_ofEvents loc_of_ofEvent ofEvent_loc_mark)
variable [Payload]
def LM(P:Program)(T:cP)(S S':jb)(D D':Nat->WD)(tag tag':CTag)(x x':Nat->kV)(y y':jc):Prop :=
 ot T S' D' tag'<ot T S D tag\/(ot T S' D' tag'=ot T S D tag/\(∀k,iy T (x' k) (x k))/\lV P T y' y)
section
variable {P:Program} {T:cP} {V:Nat->ae->Prop} {ek:Nat->(Nat->Prop)->ae->Prop} {cx Fin:dV} {t0:Trace} {w0:ae}
 {gs:Array aS} {w w':ae} {t:Trace} {S S':jb} {D:Nat->WD} {x:Nat->kV} {tag:CTag} {a:aS} {y:jc} {st sm:Int} {sl:Option (Nat×Nat)}
theorem lK.le{n:Nat}{tag:CTag}{j d:Nat}(h:lK n tag j d):j<=n:=by
 cases tag<;>simp only[lK] at h<;>omega
theorem lK.pend{n:Nat}{tag:CTag}{j d v:Nat}(h:lK n tag j d)(hv:v<=j):v+pend tag<=n:=by
 cases tag<;>simp only[lK,ConcN.pend] at h |-
 case sp r s=>split<;>omega
 all_goals omega
theorem ji.mk{tag:CTag}(cV:tag≠.blk){Stop:dV}{o:Nat->Prop}{a:aS}{w:ae}(h:cM P T Stop o a w)(e:jI P T V ek cx Fin tag=Stop):ji P T V ek cx Fin tag o a w (.inl (Stop,⟨a,o,w⟩)):=by
 rw[ji.eq cV,e];exact⟨h,rfl⟩
theorem GZ{o':Nat->Prop}{fn:FuncId}{pos:String}{es:Array Event}(h:∀e∈es,EvS T o' e):∀op∈MemOp.ofEvents 0 fn pos es,∀b,op.act.touch?=some b->b.loc.isMemory=true->wi T {S with own:=upd S.own 0 o'} 0 b:=by
 intro op eu b hb hm;obtain⟨e,he,rfl⟩:=Go.Conc.mem_ofEvents eu;rcases(h e he).1 b hb hm with⟨h1,h2⟩|⟨c,h1,h2⟩|h1
 ·exact .inl ⟨h1,h2,fun _=>rfl⟩
 ·exact .inr (.inl ⟨c,by simp only[upd_same];exact h1,h2⟩)
 ·exact .inr (.inr (.inr (.inr h1)))
theorem fJ.PQ(hT:T.OK)(hV:jJ T V ek)(hn:T.n<2147483648)(VK:∀o g w,cx o g w->cM P T (OX P T cx Fin) o g w)(h:fJ P T V ek cx Fin t0 w0 gs w t S D x tag a y st sm)(cm:a.status=.running):
  (tag=.acq/\∃g',stepG P true a w=.go g' w #[Go.ConcR.mk (.acquire (stA T.Wg))]/\Fin (S.own 0) g' w) \/
  ∃gd w' S' D' x' tag' a' y' st' sm' ops,runT P (crowd gs w sl) 0=(.next (crowd gd w' sl),ops)/\fJ P T V ek cx Fin t0 w0 gd w' (t++ops) S' D' x' tag' a' y' st' sm'/\LM P T S S' D D' tag tag' x x' y y':=by
 have LJ:=hT.m0;have sf:=h.sN.le;have hVj:=Vc_le S.j D;have LI:∀b,S.own 0 b->T.H0<=b:=fun b hb=>h.rQ.new 0 b hb;have EK:tag≠.blk:=by
  rintro rfl;obtain⟨a0,h1,_⟩:=h.JU;rw[h1] at cm;cases cm
 have GX:=h.JU;rw[ji.eq EK] at GX;obtain⟨hsr,hy⟩:=GX;have book:∀{a':aS} {w':ae} {es:Array Event} {tag':CTag} {y':jc} {st' sm':Int},stepG P true a w=.go a' w' es->Aside T.Wg w w'->WgAt T.ty T.Wg w' st' sm'->(∀e∈es,Bk T.Wg e)->ji P T V ek cx Fin tag' (S.own 0) a' w' y' ->
   lK T.n tag' S.j (deafBehind (Deaf t 0) es)->Go.ConcN.Mode S.j D tag' st' sm'->(phi T.n (Vc S.j D) tag'<phi T.n (Vc S.j D) tag\/(phi T.n (Vc S.j D) tag'=phi T.n (Vc S.j D) tag/\lV P T y' y)) ->
   ∃gd w' S' D' x' tag' a' y' st' sm' ops,runT P (crowd gs w sl) 0=(.next (crowd gd w' sl),ops)/\fJ P T V ek cx Fin t0 w0 gd w' (t++ops) S' D' x' tag' a' y' st' sm'/\LM P T S S' D D' tag tag' x x' y y':=by
  intro a' w' es tag' y' st' sm' hgo Xm GV ba rX htg A8 bZ;obtain⟨gd,r1,r2,r3⟩:=h.main (sl:=sl) hT hV sf hgo (o':=S.own 0) (tag':=tag') (y':=y') (st':=st') (sm':=sm') (fun _ hb=>hb) (fun _ hb=>.inl hb) (by rw[A6];exact A7 ba) (bq Xm.size.symm) (fun k hk=>LG hT aa (fun b hb=>h.rQ.new _ b hb) Xm ⟨_,_,GV⟩) (wj hT (fun _ hb=>hb.elim) Xm ⟨_,_,GV⟩)
   (pG.A1 hT fun b hb=>Xm.block b (hT.sh b hb).2.1) (fun k hk=>Xm.block _ (hT.ch k hk).2) rX htg (fun e he=>norel_of_Bk ba e he) GV A8
  refine⟨gd,w',_,D,_,tag',a',y',st',sm',_,r1,r2,?_⟩;rcases bZ with bZ|⟨bZ,hl⟩
  ·left;show phi T.n (Vc S.j D) tag'+Ssum S.j D+lW S<phi T.n (Vc S.j D) tag+Ssum S.j D+lW S;omega
  ·right;refine⟨?_,r3,hl⟩;show phi T.n (Vc S.j D) tag'+Ssum S.j D+lW S=phi T.n (Vc S.j D) tag+Ssum S.j D+lW S;omega
 by_cases n9:∀w1,dc T (S.own 0) w w1->jI P T V ek cx Fin tag (S.own 0) a w1
 ·have dW:=n9 w (dc.refl w);have qJ:=h.sN;have jw:=h.mode;have nU:=h.wg;cases tag with
  |blk=>exact absurd rfl EK
  |anch=>exact dW.elim
  |ret=>exact dW.elim
  |sp r s =>
   simp only[lK] at qJ;obtain⟨hr,hj,hsd⟩:=qJ;right;rcases hsd with⟨rfl,hd⟩|⟨rfl,hd⟩|⟨rfl,hd⟩|⟨rfl,hd⟩
   ·have CO:JS P T V ek (T.n-(r+1)) (iC P T V ek cx r) (S.own 0) a w:=by simpa[jI] using dW
    obtain⟨_,a',hgo,hk⟩:=CO;exact book hgo (.refl T.Wg w) nU bk_dis (ji.mk (tag:=.sp r 4) an hk (by simp[jI])) ⟨hr,hj,.inr (.inl ⟨rfl,by rw[hd];rfl⟩)⟩ (jw.reopen trivial trivial rfl an) (.inl (by simp only[phi];omega))
   ·have CO:SA1 P T V ek (T.n-(r+1)) (iC P T V ek cx r) (S.own 0) a w:=by simpa[jI] using dW
    obtain⟨_,gY⟩:=CO;obtain⟨ho,e1,e2,_⟩:=jw.open_inv trivial;rw[e1,e2] at nU;obtain⟨a',hgo,hk⟩:=gY (Vc S.j D) aa (by simpa[pend] using nU);refine book hgo (aside_setCell w (stA T.Wg) _) (nU.setSt _) bk_rw (ji.mk (tag:=.sp r 3) an hk (by simp[jI])) ⟨hr,hj,.inr (.inr (.inl ⟨rfl,by rw[hd];simp[deafBehind,Go.ConcR.rd,Go.ConcR.wr]⟩))⟩ ?_ (.inl (by simp only[phi];omega));have e:(((Vc S.j D:Nat):Int)+1)*KK=((Vc S.j D+pend (.sp r 3):Nat):Int)*KK:=by simp[pend]
    rw[e];exact .opn trivial ho an
   ·have CO:Xf P T V ek (T.n-(r+1)) (iC P T V ek cx r) (S.own 0) a w:=by simpa[jI] using dW
    obtain⟨_,a',hgo,hk⟩:=CO;exact book hgo (.refl T.Wg w) nU bk_en (ji.mk (tag:=.sp r 2) an hk (by simp[jI])) ⟨hr,hj,.inr (.inr (.inr ⟨rfl,by rw[hd];rfl⟩))⟩ (jw.reopen trivial trivial rfl an) (.inl (by simp only[phi];omega))
   ·have CO:SGo P T V ek (T.n-(r+1)) (iC P T V ek cx r) (S.own 0) a w:=by simpa[jI] using dW
    obtain⟨_,a',child,hand,xB,hh,Jc,xP⟩:=CO;obtain⟨ho,e1,e2,_⟩:=jw.open_inv trivial;have eV:Vc (S.j+1) (upd D S.j ⟨7,0,0⟩)=Vc S.j D+1:=by
     simp only[Vc,sumTo,upd_same];rw[sumTo_upd_out D _ cnt (ag _)];rfl
    have eS:Ssum (S.j+1) (upd D S.j ⟨7,0,0⟩)=Ssum S.j D+7:=by
     simp only[Ssum,sumTo,upd_same];rw[sumTo_upd_out D _ WD.stage (ag _)]
    have mr:OpenSt (S.j+1) (upd D S.j ⟨7,0,0⟩):=fun b hb=>by
     by_cases e:b=S.j
     ·subst e;rw[upd_same];simp
     ·rw[upd_ne D _ e];exact ho b aa
    have VL:∀tag',isOpen tag'->pend tag'=0->(∀vs,tag'≠.w2 vs)->Go.ConcN.Mode (S.j+1) (upd D S.j ⟨7,0,0⟩) tag' st sm:=by
     intro tag' h1 h2 h3;have:=Mode.opn (j:=S.j+1) (D:=upd D S.j ⟨7,0,0⟩) (tag:=tag') h1 mr (fun vs e=>absurd e (h3 vs));rw[eV,h2] at this;rw[e1,e2];simpa[pend] using this
    rw[<- hj] at Jc;have less:∀(S':jb) (tag':CTag) (x':Nat->kV) (y':jc),S'.j=S.j+1->S'.cl=S.cl->phi T.n (Vc S.j D+1) tag'+8<phi T.n (Vc S.j D) (.sp r 2)->LM P T S S' D (upd D S.j ⟨7,0,0⟩) (.sp r 2) tag' x x' y y':=by
     intro S' tag' x' y' e3 e4 e5;left;have el:lW S'<=lW S+1:=by
      simp only[lW,e3,e4,sumTo];split<;>omega
     simp only[ot,e3,eV,eS];omega
    cases r with
    |zero =>
     have hk:cM P T (OY P T cx) (fun b=>S.own 0 b/\¬hand b) a' w:=xP;obtain⟨gd,S',x',ops,r1,r2,r3,r4⟩:=h.spawn (sl:=sl) hT aa xB hh (Jc w (dc.refl w) (hT.idle S.j w0 w (fun a ha=>h.Cu.idle S.j a (ag _) ha) h.Cu.Cu (h.idle0 S.j aa))) hd (tag':=.kd) (y':=.inl (OY P T cx,⟨a',fun b=>S.own 0 b/\¬hand b,w⟩)) (ji.mk (tag:=.kd) an hk rfl) ⟨aa,rfl⟩ (VL .kd trivial rfl an);exact⟨gd,w,S',_,x',.kd,a',_,st,sm,ops,r1,r4,less S' .kd x' _ r2 r3 (by simp only[phi];omega)⟩
    |succ r =>
     have hk:cM P T (JS P T V ek (T.n-(r+1)) (iC P T V ek cx r)) (fun b=>S.own 0 b/\¬hand b) a' w:=xP;obtain⟨gd,S',x',ops,r1,r2,r3,r4⟩:=h.spawn (sl:=sl) hT aa xB hh (Jc w (dc.refl w) (hT.idle S.j w0 w (fun a ha=>h.Cu.idle S.j a (ag _) ha) h.Cu.Cu (h.idle0 S.j aa))) hd (tag':=.sp r 5) (y':=.inl (JS P T V ek (T.n-(r+1)) (iC P T V ek cx r),⟨a',fun b=>S.own 0 b/\¬hand b,w⟩)) (ji.mk (tag:=.sp r 5) an hk (by simp[jI])) ⟨aa,aa,.inl ⟨rfl,rfl⟩⟩ (VL (.sp r 5) trivial rfl an);exact⟨gd,w,S',_,x',.sp r 5,a',_,st,sm,ops,r1,r4,less S' (.sp r 5) x' _ r2 r3 (by simp only[phi];omega)⟩
  |kd =>
   simp only[lK] at qJ;obtain⟨_,a',hgo,hk⟩:=dW;have kY:cM P T (OX P T cx Fin) (S.own 0) a' w:=(hk.mono VK).trans;exact .inr (book hgo (.refl T.Wg w) nU bk_dis (ji.mk (tag:=.w1) an kY rfl) ⟨qJ.1,by rw[qJ.2];rfl⟩ (jw.reopen trivial trivial rfl an) (.inl (by simp only[phi];omega)))
  |w1 =>
   simp only[lK] at qJ;obtain⟨_,gY⟩:=dW;obtain⟨ho,e1,e2,_⟩:=jw.open_inv trivial;rw[e1,e2] at nU;obtain⟨a',hgo,h0,cV⟩:=gY (Vc S.j D) aa (by simpa[pend] using nU);have JZ:WgAt T.ty T.Wg w (((Vc S.j D:Nat):Int)*KK) 0:=by simpa[pend] using nU
   by_cases hv:Vc S.j D=0
   ·refine .inr (book hgo (.refl T.Wg w) (by rw[hv] at JZ;simpa using JZ) bk_rd (ji.mk (tag:=.ke) an (h0 hv) rfl) ⟨qJ.1,by rw[qJ.2];simp[deafBehind,Go.ConcR.rd]⟩ (.fin trivial (allQuit_of ho hv)) (.inl (by simp only[phi];omega)))
   ·have:=Mode.opn (j:=S.j) (D:=D) (tag:=.w2 (Vc S.j D)) trivial ho (fun vs e=>by cases e;omega);refine .inr (book hgo (.refl T.Wg w) JZ bk_rd (ji.mk (tag:=.w2 (Vc S.j D)) an (cV hv) rfl) ⟨qJ.1,by rw[qJ.2];simp[deafBehind,Go.ConcR.rd]⟩ (by simpa[pend] using this) (.inl (by simp only[phi];omega)))
  |w2 vs =>
   simp only[lK] at qJ;obtain⟨_,gY⟩:=dW;obtain⟨ho,e1,e2,Nk⟩:=jw.open_inv trivial;have Nk:=Nk vs rfl;rw[e1,e2] at nU;have JZ:WgAt T.ty T.Wg w (((Vc S.j D:Nat):Int)*KK) 0:=by simpa[pend] using nU
   obtain⟨hit,Xo⟩:=gY (Vc S.j D) aa JZ;by_cases hv:Vc S.j D=vs
   ·obtain⟨a',hgo,hk⟩:=hit hv;exact .inr (book hgo (aside_setCell w (stA T.Wg) _) (JZ.setSt _) bk_rw (ji.mk (tag:=.w3) an hk rfl) ⟨qJ.1,by rw[qJ.2];simp[deafBehind,Go.ConcR.rd,Go.ConcR.wr]⟩ (.reg trivial ho aa) (.inl (by simp only[phi];omega)))
   ·obtain⟨a',hgo,hk⟩:=Xo hv;have kY:cM P T (OX P T cx Fin) (S.own 0) a' w:=(hk.mono VK).trans;have:=Mode.opn (j:=S.j) (D:=D) (tag:=.w1) trivial ho (fun vs e=>by cases e);exact .inr (book hgo (.refl T.Wg w) JZ bk_rd (ji.mk (tag:=.w1) an kY rfl) ⟨qJ.1,by rw[qJ.2];simp[deafBehind,Go.ConcR.rd]⟩ (by simpa[pend] using this) (.inl (by simp only[phi];omega)))
  |w3 =>
   simp only[lK] at qJ;obtain⟨_,Tf,Nl,mW⟩:=dW;have blocks:∀sm',sm'=0->WgAt T.ty T.Wg w st sm'->Go.ConcN.Mode S.j D .blk st sm'->∃gd w' S' D' x' tag' a' y' st' sm' ops,runT P (crowd gs w sl) 0=(.next (crowd gd w' sl),ops)/\fJ P T V ek cx Fin t0 w0 gd w' (t++ops) S' D' x' tag' a' y' st' sm'/\LM P T S S' D D' .w3 tag' x x' y y':=by
    intro sm' e hw hm;subst e;refine book (Nl ⟨_,hw⟩) (.refl T.Wg w) hw an (tag':=.blk) (y':=.inr 0) ⟨a,rfl,n9,rfl⟩ ⟨qJ.1,by rw[qJ.2];rfl⟩ hm (.inr ⟨rfl,?_⟩);rw[hy];exact trivial
   cases jw with
   |opn h1 _ _=>exact h1.elim
   |reg h1 h2 h3=>exact .inr (blocks _ rfl nU (.reg trivial h2 h3))
   |last L h1 h2 h3 h4=>exact .inr (blocks _ rfl nU (.last L trivial h2 h3 h4))
   |sema h2 =>
    obtain⟨a',hgo,hk⟩:=mW nU;exact .inr (book hgo (aside_setCell w (smA T.Wg) _) (nU.setSm 0) bk_sem (ji.mk (tag:=.w4) an hk rfl) ⟨qJ.1,by rw[qJ.2];simp[deafBehind,semEvents]⟩ (.fin trivial h2) (.inl (by simp only[phi];omega)))
   |fin h1 _=>exact h1.elim
  |w4 =>
   simp only[lK] at qJ;obtain⟨_,gY⟩:=dW;obtain⟨hq,e1,e2⟩:=jw.fin_inv trivial;rw[e1,e2] at nU;obtain⟨a',hgo,hk⟩:=gY nU;exact .inr (book hgo (.refl T.Wg w) nU bk_rd (ji.mk (tag:=.ke) an hk rfl) ⟨qJ.1,by rw[qJ.2];simp[deafBehind,Go.ConcR.rd]⟩ (.fin trivial hq) (.inl (by simp only[phi];omega)))
  |ke =>
   simp only[lK] at qJ;obtain⟨_,a',hgo,hk⟩:=dW;obtain⟨hq,e1,e2⟩:=jw.fin_inv trivial;rw[e1,e2] at nU;exact .inr (book hgo (.refl T.Wg w) nU bk_en (ji.mk (tag:=.acq) an hk rfl) ⟨qJ.1,by rw[qJ.2];rfl⟩ (.fin trivial hq) (.inl (by simp only[phi];omega)))
  |acq =>
   obtain⟨_,a',hgo,hk⟩:=dW;exact .inl ⟨rfl,a',hgo,hk⟩
 ·
  rcases hsr.look with hs|⟨_,ki⟩
  ·exact absurd hs n9
  obtain⟨a',w',es,hgo,Jb,iH,hk⟩:=ki w (dc.refl w);have old:∀b,b<T.H0->w'.heap[b]?=w.heap[b]?:=fun b hb=>Jb.rest b (by have:=h.h0;omega) (fun mo=>by have:=LI b mo;omega);obtain⟨gd,r1,r2,r3⟩:=h.main (sl:=sl) hT hV sf hgo (o':=grow (S.own 0) w w') (tag':=tag) (y':=.inl (jI P T V ek cx Fin tag,⟨a',grow (S.own 0) w w',w'⟩)) (st':=st) (sm':=sm) (fun _ hb=>.inl hb) (fun _ hb=>hb) (GZ iH) Jb.size
   (fun k hk=>Jb.A2 hT aa h.h0 LI (fun b hb=>⟨h.rQ.new _ b hb,h.lt _ b hb,fun mo=>by have:=h.rQ.one _ _ _ hb mo;omega⟩)) ⟨Jb.size,fun _ hb=>hb.elim,fun b h1 _ _ _=>old b h1,fQ (old _ hT.wg),Jb.os,Jb.output⟩
   (pG.A1 hT fun b hb=>old b (hT.sh b hb).1) (fun k hk=>old _ (hT.ch k hk).1) (ji.mk EK hk rfl) (by rw[deafBehind_still (fun e he=>⟨(iH e he).2.1,(iH e he).2.2.1⟩)];exact h.sN) (fun e he=>(iH e he).2.2.2 _) (h.wg.of_block (old _ hT.wg)) h.mode
  refine .inr ⟨gd,w',_,D,_,tag,a',_,st,sm,_,r1,r2,.inr ⟨rfl,r3,?_⟩⟩;rw[hy];exact⟨rfl,n9,w,es,dc.refl w,hgo,rfl⟩
end
end
end Go.Ren
