import Derived.Test.YtgjekaaknjgnmaaGreatDoorAa
import Derived.Conc.Beside
import Derived.Conc.CrowdComm
import Derived.Conc.CrowdRun
import Derived.Conc.CrowdStepC2
set_option linter.all false
set_option maxHeartbeats 40000000
set_option maxRecDepth 200000
namespace Go.Ren
section
open Go.Conc (G)
def gre(τ:Tape)(d:Nat):GStep->GStep
 | .go g w es=>.go g (WT w τ d) es
 | .ended o w es=>.ended o (WT w τ d) es
 |x=>x
def Zf(g g':aY):Prop:=(g'.frame.mode=.run\/g'.frame.mode=.returning)\/∃ch,g'={g with frame:={g.frame with mode:=.panicking ch}}
def Kind(g:aY)(w:ae)(c:Nat):GStep->Prop
 | .go g' w' _=>w'.tape=w.tape/\w'.drawn=w.drawn+c/\(g'.status=.running/\g'.dying=none)/\Zf g g'
 | .ended ..=>True
 |_=>False
def vd(P:Program)(m:Bool)(g:aY)(w:ae):Prop :=
 ∃c,(∀τ d,gl w c τ d->stepG P m g (WT w τ d)=gre τ (d+c) (stepG P m g w))/\Kind g w c (stepG P m g w)
section
variable {P:Program} {L:Nat->Bool} {Gm:Nat} {F:jJ} {wl wr:ae} {f:Rn}
theorem jo{m:Bool}{g g':aY}(hr:g'.status=.running)(hd:g'.dying=none)(hm:g'.frame.mode=.run\/g'.frame.mode=.returning)(h:∀w,stepG P m g w=.go g' w #[]):vd P m g wl :=
 ⟨0,fun τ d _=>by rw[h,h];rfl,by rw[h];exact⟨rfl,rfl,⟨hr,hd⟩,.inl hm⟩⟩
theorem xT{m:Bool}{g:aY}{o:Outcome}(h:∀w,stepG P m g w=.ended o w #[]):vd P m g wl :=
 ⟨0,fun τ d _=>by rw[h,h];rfl,by rw[h];trivial⟩
def Zg:Result Next->Prop
 | .ok (.value _) _|.ok .skip _|.ok (.enter ..) _=>True
 | .ok _ _=>False
 | .halt h _=>pk h=true\/∃v,h=.panic v
theorem uf{fr:Frame}{cs:List Frame}{s:Sem Next}{w w':ae}{el:Array Event}{u:Unsupported}(hu:pk (.unsupported u)=true)(h:s.runT P w #[]=(.halt (.unsupported u) w',el))(hk:fr.kind=.normal):
  stepG.apply P true fr cs none s w=.ended (.unsupported u (fr.pos P)) w' (seen P fr.fn el):=by
 cases u<;>first|exact Bool.noConfusion hu|(simp only[stepG.apply,if_true,h,hk,GStep.after,cv];rfl)
theorem ug{fr:Frame}{cs:List Frame}{s:Sem Next}{w w':ae}{el:Array Event}{y:String}(h:s.runT P w #[]=(.halt (.stuck y) w',el))(hk:fr.kind=.normal):
  stepG.apply P true fr cs none s w=.ended (.stuck y (fr.pos P)) w' (seen P fr.fn el):=by
 simp only[stepG.apply,if_true,h,hk,GStep.after,cv];rfl
theorem zu{fr:Frame}{cs:List Frame}{s:Sem Next}{w w':ae}{el:Array Event}{v:Value}(h:s.runT P w #[]=(.halt (.panic v) w',el))(hk:fr.kind=.normal):
  stepG.apply P true fr cs none s w=.go (G (fr.raise [{v,recovered:=false}]) cs) w' (seen P fr.fn el):=by
 simp only[stepG.apply,if_true,h,hk,GStep.after,G,cv];rfl
theorem RN{fr:Frame}{cs:List Frame}{s:Sem Next}{c:Nat}(hmd:fr.mode=.run)(hk:fr.kind=.normal)(ht:∃ops td k,fr.todo=.inRegion ops td::k)(hD:Cc P s wl #[] c)(hN:Zg (s.runT P wl #[]).1):
  (∀τ d,gl wl c τ d->stepG.apply P true fr cs none s (WT wl τ d)=gre τ (d+c) (stepG.apply P true fr cs none s wl))/\Kind (G fr cs) wl c (stepG.apply P true fr cs none s wl):=by
 obtain⟨h1,h2,h3⟩:=hD;have fin:∀v,(G (fr.finish v) cs).frame.mode=.run:=by
  intro v;obtain⟨ops,td,k,ht⟩:=ht;cases td<;>simp[G,Frame.finish,ht,hmd]
 rcases hx:s.runT P wl #[] with⟨r,el⟩;rw[hx] at h1 h2 h3 hN;cases r with
 |ok n w1 =>
  cases n<;>simp only[Zg] at hN
  ·refine⟨fun τ d hA=>?_,?_⟩
   ·rw[oE hk (h3 τ d hA),oE hk hx];rfl
   ·rw[oE hk hx];exact⟨h1,h2,⟨rfl,rfl⟩,.inl (.inl (fin _))⟩
  ·refine⟨fun τ d hA=>?_,?_⟩
   ·rw[qk hk (h3 τ d hA),qk hk hx];rfl
   ·rw[qk hk hx];exact⟨h1,h2,⟨rfl,rfl⟩,.inl (.inl (fin _))⟩
  ·refine⟨fun τ d hA=>?_,?_⟩
   ·rw[oF hk ht (h3 τ d hA),oF hk ht hx];rfl
   ·rw[oF hk ht hx];exact⟨h1,h2,⟨rfl,rfl⟩,.inl (.inl rfl)⟩
 |halt h w1 =>
  rcases hN with hN|⟨v,rfl⟩
  ·cases h<;>first|exact Bool.noConfusion hN|skip
   ·refine⟨fun τ d hA=>?_,?_⟩
    ·rw[uf hN (h3 τ d hA) hk,uf hN hx hk];rfl
    ·rw[uf hN hx hk];trivial
   ·refine⟨fun τ d hA=>?_,?_⟩
    ·rw[ug (h3 τ d hA) hk,ug hx hk];rfl
    ·rw[ug hx hk];trivial
  ·refine⟨fun τ d hA=>?_,?_⟩
   ·rw[zu (h3 τ d hA) hk,zu hx hk];rfl
   ·rw[zu hx hk];exact⟨h1,h2,⟨rfl,rfl⟩,.inr ⟨[{v,recovered:=false}],by simp only[G,Frame.raise,hmd]⟩⟩
theorem Lx(de:rS P L Gm)(hP:PF P L Gm F)(W:WR F wl wr)(vJ:fN wl){m:Bool}{oC ab abr:List Frame}{fr wS:Frame}(XT:vI Gm L fr)(hr:∀f,F.has f->wS=frame f fr)(VC:ab≠[]\/fr.mode=.run)(jj:∀c∈ab,vI Gm L c):vd P m (G fr (ab++oC)) wl:=by
 obtain⟨f0,kN⟩:=W.some;obtain⟨hd,r8,hk,qK,Ny,Gs⟩:=XT;obtain⟨fn,tmps,todo,defers,mode,kind,ro⟩:=fr;simp only at hd r8 hk qK Ny Gs VC;subst hd r8 hk;obtain⟨tr,Ee,wi⟩:∃tr,wS=Fr fn tr todo mode/\∀f,F.has f->tr=tmps.map (val f):=by
  refine⟨tmps.map (val f0),hr f0 kN,fun f hf=>?_⟩;have:=(hr f0 kN).symm.trans (hr f hf);simp only[frame,Frame.mk.injEq] at this;exact this.2.1
 rcases Gs with Gs|Gs
 ·subst Gs;cases todo with
  |nil=>exact jo (g':=G (Fr fn tmps [] .returning) (ab++oC)) rfl rfl (.inr rfl) (fun w=>by simp only[G,stepG,stepG.exec,if_true])
  |cons i k =>
   have hi:=Ny i aj;cases i<;>first|exact Bool.noConfusion hi|skip
   case inBlock id=>exact jo (g':=G (Fr fn tmps k .run) (ab++oC)) rfl rfl (.inl rfl) (fun w=>by simp only[G,stepG,stepG.exec])
   case inScope c=>exact jo (g':=G (Fr fn tmps k .run) (ab++oC)) rfl rfl (.inl rfl) (fun w=>by simp only[G,stepG,stepG.exec])
   case inLoop c=>exact jo (g':=G (Fr fn tmps (.code c :: .inLoop c::k) .run) (ab++oC)) rfl rfl (.inl rfl) (fun w=>by simp only[G,stepG,stepG.exec])
   case code c =>
    have mn:kO Gm L c=true:=hi;cases c<;>first|exact Bool.noConfusion hi|skip
    case skip=>exact jo (g':=G (Fr fn tmps k .run) (ab++oC)) rfl rfl (.inl rfl) (fun w=>by simp only[G,stepG,stepG.exec])
    case label l=>exact jo (g':=G (Fr fn tmps k .run) (ab++oC)) rfl rfl (.inl rfl) (fun w=>by simp only[G,stepG,stepG.exec])
    case ret=>exact jo (g':=G (Fr fn tmps (.code .ret::k) .returning) (ab++oC)) rfl rfl (.inr rfl) (fun w=>by simp only[G,stepG,stepG.exec,if_true])
    case seq a b=>exact jo (g':=G (Fr fn tmps (.code a :: .code b::k) .run) (ab++oC)) rfl rfl (.inl rfl) (fun w=>by simp only[G,stepG,stepG.exec])
    case block id c=>exact jo (g':=G (Fr fn tmps (.code c :: .inBlock id::k) .run) (ab++oC)) rfl rfl (.inl rfl) (fun w=>by simp only[G,stepG,stepG.exec])
    case loop c=>exact jo (g':=G (Fr fn tmps (.code c :: .inLoop c::k) .run) (ab++oC)) rfl rfl (.inl rfl) (fun w=>by simp only[G,stepG,stepG.exec])
    case scope c=>exact jo (g':=G (Fr fn tmps (.code c :: .inScope c::k) .run) (ab++oC)) rfl rfl (.inl rfl) (fun w=>by simp only[G,stepG,stepG.exec])
    case refuse w=>exact xT (fun w=>by simp only[G,stepG,stepG.exec];rfl)
    case cond c a b =>
     by_cases hb:∃t,Frame.eval (Fr fn tmps (.code (.cond c a b)::k) .run) c=.bool t
     ·obtain⟨t,hb⟩:=hb;exact jo (g':=G (Fr fn tmps (.code (if t then a else b)::k) .run) (ab++oC)) rfl rfl (.inl rfl) (fun w=>by simp only[G,stepG,stepG.exec,hb])
     ·refine xT (o:=.stuck "cond: bool expected" (Frame.pos P (Fr fn tmps (.code (.cond c a b)::k) .run))) (fun w=>?_);simp only[G,stepG,stepG.exec];cases hv:Frame.eval (Fr fn tmps (.code (.cond c a b)::k) .run) c<;>first|rfl|exact absurd ⟨_,hv⟩ hb
    case exit id =>
     cases hx:exitTo id k with
     |none=>exact xT (fun w=>by simp only[G,stepG,stepG.exec,hx,Option.elim_none];rfl)
     |some k2=>exact jo (g':=G (Fr fn tmps k2 .run) (ab++oC)) rfl rfl (.inl rfl) (fun w=>by simp only[G,stepG,stepG.exec,hx,Option.elim_some])
    case goto l =>
     cases hx:gotoIn l k with
     |none=>exact xT (fun w=>by simp only[G,stepG,stepG.exec,hx,Option.elim_none];rfl)
     |some k2=>exact jo (g':=G (Fr fn tmps k2 .run) (ab++oC)) rfl rfl (.inl rfl) (fun w=>by simp only[G,stepG,stepG.exec,hx,Option.elim_some])
    case region id ops draw =>
     cases draw
     ·exact jo (g':=G (Fr fn tmps (.inRegion ops (List.range ops.size)::k) .run) (ab++oC)) rfl rfl (.inl rfl) (fun w=>by simp only[G,stepG,stepG.exec,Bool.not_false,if_true])
     ·have e:∀w:ae,stepG P m (G (Fr fn tmps (.code (.region id ops true)::k) .run) (ab++oC)) w=.go (G (Fr fn tmps (.inRegion ops (Region.schedule (P.follows .mixedOrders) ops (Question.cut (.order fn id) (w.tape w.drawn (.order fn id))))::k) .run) (ab++oC)) {w with drawn:=w.drawn+1} #[]:=by
       intro w;simp only[G,stepG,stepG.exec,choose,Sem.run,Question.forced,Bool.not_true,aM,if_false]
      refine⟨1,fun τ d hA=>?_,by rw[e];exact⟨rfl,rfl,⟨rfl,rfl⟩,.inl (.inl rfl)⟩⟩;have h0:=hA 0 aa (.order fn id);simp only[Nat.add_zero] at h0;rw[e,e];simp only[WT,h0,gre]
   case inRegion ops todo =>
    cases todo with
    |nil=>exact jo (g':=G (Fr fn tmps k .run) (ab++oC)) rfl rfl (.inl rfl) (fun w=>by simp only[G,stepG,stepG.exec])
    |cons i rest =>
     by_cases hw:((ops[i]?).map (Region.wanted · (yielded ops tmps))).getD false=true
     ·obtain⟨o,ho⟩:∃o,ops[i]?=some o:=by
       cases ho:ops[i]? with
       |none=>rw[ho] at hw;cases hw
       |some o=>exact⟨o,rfl⟩
      have Nz:ua Gm L o=true:=by
       have iG:ops.all (ua Gm L)=true:=hi;rw[iw] at iG;obtain⟨cB,he⟩:=Array.getElem?_eq_some_iff.1 ho;rw[<- he];exact iG i cB
      simp only[ua,bc,Array.all_eq_true'] at Nz;have hrel:∀f,F.has f->Rel P f (jm L f) (execOp (Fr fn tmps (.inRegion ops (i::rest)::k) .run).eval o) (execOp (Fr fn tr (.inRegion ops (i::rest)::k) .run).eval o):=by
       intro f hf;have jl:∀g,F.has g->∀x∈o.op.operands,(Fr fn tr (.inRegion ops (i::rest)::k) .run).eval x=val g ((Fr fn tmps (.inRegion ops (i::rest)::k) .run).eval x):=by
        intro g hg x hx;have:=B5 hP de hg (Fr fn tmps (.inRegion ops (i::rest)::k) .run) x (Nz.2 x hx);rw[show frame g (Fr fn tmps (.inRegion ops (i::rest)::k) .run)=Fr fn tr (.inRegion ops (i::rest)::k) .run by rw[wi g hg];rfl] at this;exact this
       exact B0 (PF.ok hP de hf) (PF.fn hP hf) (fun n hn args=>de.call n hn f (PF.ok hP de hf) (PF.fn hP hf) args) o Nz.1 (jl f hf) (fun x hx=>B7 W hP (fun g hg=>jl g hg x hx))
      obtain⟨c,hD⟩:=wT _ _ wl #[] (hrel f0 kN);have hC:=xD (fun f=>jm L f) _ _ F wl wr #[] #[] hrel W;have hN:=sM _ _ wl #[] (hrel f0 kN) vJ;have acg:Zg ((execOp (Fr fn tmps (.inRegion ops (i::rest)::k) .run).eval o).runT P wl #[]).1:=by
       rcases hx:(execOp (Fr fn tmps (.inRegion ops (i::rest)::k) .run).eval o).runT P wl #[] with⟨r,el⟩;rw[hx] at hC hN;cases r with
       |halt h w1=>exact hN
       |ok n w1 =>
        obtain⟨F',b,oG,Zc,c1,c2,c3,c4,c5,c6⟩:=hC;obtain⟨g0,Zd⟩:=c3.some;have KV:=c2 g0 Zd;cases n<;>cases b<;>simp only[jm] at KV<;>trivial
      have hl:∀w,stepG P m (G (Fr fn tmps (.inRegion ops (i::rest)::k) .run) (ab++oC)) w=stepG.apply P true (Fr fn tmps (.inRegion ops (i::rest)::k) .run) (ab++oC) none (execOp (Fr fn tmps (.inRegion ops (i::rest)::k) .run).eval o) w:=by
       intro w;simp only[G,stepG,stepG.exec];refine(if_pos hw).trans ?_;simp only[stepG.oper,Frame.oper?,ho]
      obtain⟨a1,a2⟩:=RN (P:=P) (fr:=Fr fn tmps (.inRegion ops (i::rest)::k) .run) (cs:=ab++oC) rfl rfl ⟨_,_,_,rfl⟩ hD acg;exact⟨c,fun τ d hA=>by rw[hl,hl];exact a1 τ d hA,by rw[hl];exact a2⟩
     ·refine jo (g':=G ((Fr fn tmps (.inRegion ops (i::rest)::k) .run).finish undef) (ab++oC)) rfl rfl (.inl (by simp[G,Frame.finish])) (fun w=>?_);simp only[G,stepG,stepG.exec,hw];simp only[aM,if_false]
 ·subst Gs;have dJ:ab≠[]:=VC.elim id (fun h=>by cases h);cases ab with
  |nil=>exact absurd rfl dJ
  |cons c0 ab2 =>
   obtain⟨Ap,rZ,_⟩:=de.body fn qK;have hrel:Rel P f0 (V f0) (results Ap tmps) (results Ap tr):=by
    rw[wi f0 kN];exact rh (PF.ok hP de kN) Ap tmps
   obtain⟨c,h1,h2,h3⟩:=wT _ _ wl #[] hrel;have hN:=sM _ _ wl #[] hrel vJ;rcases hx:(results Ap tmps).runT P wl #[] with⟨r,el⟩;rw[hx] at h1 h2 h3 hN;cases r with
   |ok v w1 =>
    have e:∀w w1:ae,(results Ap tmps).runT P w #[]=(.ok v w1,el)->stepG P m (G (Fr fn tmps todo .returning) (c0::ab2++oC)) w=.go (G (c0.finish v) (ab2++oC)) w1 (seen P fn el):=by
     intro w w1 h;simp only[G,stepG,unwind,rZ,h,List.cons_append,GStep.after,doReturn,cv]
    refine⟨c,fun τ d hA=>?_,?_⟩
    ·rw[e _ _ (h3 τ d hA),e _ _ hx];rfl
    ·rw[e _ _ hx];exact⟨h1,h2,⟨rfl,rfl⟩,.inl (zq (jj c0 aj) v).mode⟩
   |halt h w1 =>
    obtain⟨o,e⟩:∃o,∀w w1:ae,(results Ap tmps).runT P w #[]=(.halt h w1,el)->stepG P m (G (Fr fn tmps todo .returning) (c0::ab2++oC)) w=.ended o w1 (seen P fn el):=by
     cases h<;>exact⟨_,fun w w1 hh=>by simp only[G,stepG,unwind,rZ,hh,GStep.after,cv];rfl⟩
    refine⟨c,fun τ d hA=>?_,?_⟩
    ·rw[e _ _ (h3 τ d hA),e _ _ hx];rfl
    ·rw[e _ _ hx];trivial
end
end
section
open Go.Conc (G)
def kn(P:Program):Nat->aY->ae->Option (aY×ae)
 |0,g,w=>some (g,w)
 |n+1,g,w=>match stepG P true g w with
  | .go g' w' _=>kn P n g' w'
  |_=>none
def gD:Frame:={fn:=0,tmps:=#[],todo:=[.code (.refuse "door")],defers:=[{target:=.nil,args:=#[]}],mode:=.run,kind:=.normal}
def Inv(P:Program)(L:Nat->Bool)(Gm:Nat)(oC:List Frame)(g:aY)(w:ae):Prop :=
 ∃F fr ab wS abr wr,g=G fr (ab++oC)/\vI Gm L fr/\(∀c∈ab,vI Gm L c)/\(∀f,jJ.has F f->wS=frame f fr/\abr=ab.map (frame f))/\WR F w wr/\fN w/\PF P L Gm F
def pr(oC:List Frame)(g:aY):Prop:=∃fr,g=G fr oC/\fr.mode=.returning
def Zh(g:aY):Prop:=∃chain,g.frame.mode=.panicking chain
section
variable {P:Program} {L:Nat->Bool} {Gm:Nat}
theorem Inv.WT{oC:List Frame}{g:aY}{w:ae}(h:Inv P L Gm oC g w)(τ:Tape)(d:Nat):Inv P L Gm oC g (WT w τ d):=by
 obtain⟨F,fr,ab,wS,abr,wr,h1,h2,h3,h4,W,hn,hp⟩:=h;exact⟨F,fr,ab,wS,abr,Ren.WT wr τ d,h1,h2,h3,h4,W.env rfl rfl W.os W.output rfl rfl,fN.heap hn rfl,hp⟩
theorem Inv.E2(de:rS P L Gm){oC:List Frame}{g:aY}{w:ae}(h:Inv P L Gm oC g w)(hb:¬pr oC g):vd P true g w:=by
 obtain⟨F,fr,ab,wS,abr,wr,rfl,h2,h3,h4,W,hn,hp⟩:=h;refine Lx de hp W hn h2 (fun f hf=>(h4 f hf).1) ?_ h3 (abr:=abr);rcases h2.mode with hm|hm
 ·exact .inr hm
 ·refine .inl fun e=>hb ⟨fr,by rw[e];rfl,hm⟩
theorem Cf{P:Program}{L:Nat->Bool}{Gm:Nat}{oC:List Frame}{g:aY}{w:ae}(h:Inv P L Gm oC g w):g.status=.running/\g.dying=none:=by
 obtain⟨F,fr,ab,wS,abr,wr,rfl,_⟩:=h;exact⟨rfl,rfl⟩
theorem Inv.step(de:rS P L Gm){oC:List Frame}{g g1:aY}{w w1:ae}{es:Array Event}(h:Inv P L Gm oC g w)(hb:¬pr oC g)(hs:stepG P true g w=.go g1 w1 es)(hm:g1.frame.mode=.run\/g1.frame.mode=.returning):Inv P L Gm oC g1 w1:=by
 have hk:=h.E2 de hb;obtain⟨c,_,hk⟩:=hk;rw[hs] at hk;obtain⟨F,fr,ab,wS,abr,wr,rfl,h2,h3,h4,W,hn,hp⟩:=h;have VC:ab≠[]\/fr.mode=.run:=by
  rcases h2.mode with hm|hm
  ·exact .inr hm
  ·refine .inl fun e=>hb ⟨fr,by rw[e];rfl,hm⟩
 obtain⟨F',Nv,Za,Lt,Lu,qe,mi,e1,e2,e3,e4,e5,e6,e7,e8,e9,XU,RP⟩:=Il de hp W hn (m':=true) (csr:=[]) h2 h3 h4 hs hk.2.2.1.1 hk.2.2.1.2 hm VC;exact⟨F',Nv,Za,Lt,Lu,qe,e1,e2,e3,e5,e6,RP,e9⟩
def Ar(P:Program)(g:aY):Prop :=
 (∃ab fr chain,g=G fr (ab++[gD])/\fr.mode=.panicking chain/\fr.defers=[]/\(∃fn,P.funcs[fr.fn]?=some fn)/\∀c∈ab,c.defers=[]/\∃fn,P.funcs[c.fn]?=some fn) \/
 (∃chain,g=G {gD with mode:=.panicking chain} [])
theorem raise_mode(fr:Frame)(ch:List PanicEntry):∃Zi,fr.raise ch={fr with mode:=.panicking Zi}:=by
 unfold Frame.raise;split<;>exact⟨_,rfl⟩
theorem Cg{g:aY}(h:Ar P g)(w:ae):(∃o w' es,stepG P true g w=.ended o w' es)\/∃g' w' es,stepG P true g w=.go g' w' es/\Ar P g':=by
 rcases h with⟨ab,fr,chain,rfl,hm,hd,⟨fn,hf⟩,rT⟩|⟨chain,rfl⟩
 ·right;have hc:fr.catches P=false:=by simp[Frame.catches,hf]
  cases ab with
  |nil =>
   obtain⟨Zi,e⟩:=raise_mode gD chain;refine⟨G {gD with mode:=.panicking Zi} [],w,#[],?_,.inr ⟨Zi,rfl⟩⟩;rw[<- e];obtain⟨a1,a2,a3,a4,a5,a6,a7⟩:=fr;simp only at hm hd;subst hm hd;simp only[G,stepG,unwind,hc,List.nil_append,aM,if_false]
  |cons c ab =>
   obtain⟨Zi,e⟩:=raise_mode c chain;refine⟨G {c with mode:=.panicking Zi} (ab++[gD]),w,#[],?_,.inl ⟨ab,_,Zi,rfl,rfl,(rT c aj).1,(rT c aj).2,fun x hx=>rT x (by simp[hx])⟩⟩;rw[<- e];obtain⟨a1,a2,a3,a4,a5,a6,a7⟩:=fr;simp only at hm hd;subst hm hd;simp only[G,stepG,unwind,hc,List.cons_append,aM,if_false]
 ·left;exact⟨_,_,_,by simp only[G,stepG,gD,unwind,callDeferred];rfl⟩
theorem Ch:∀(n:Nat) (g:aY) (w:ae) (x:aY×ae),Ar P g->kn P n g w=some x->Ar P x.1:=by
 intro n
 induction n with
 |zero=>intro g w x h e;simp only[kn,ay] at e;rw[<- e];exact h
 |succ n ih =>
  intro g w x h e;simp only[kn] at e;rcases Cg h w with⟨o,w',es,hs⟩|⟨g',w',es,hs,h'⟩
  ·rw[hs] at e;cases e
  ·rw[hs] at e;exact ih g' w' x h' e
theorem Inv.next(de:rS P L Gm){g g1:aY}{w w1:ae}{es:Array Event}(h:Inv P L Gm [gD] g w)(hb:¬pr [gD] g)(hs:stepG P true g w=.go g1 w1 es):Inv P L Gm [gD] g1 w1\/Ar P g1:=by
 obtain⟨c,_,hk⟩:=h.E2 de hb;rw[hs] at hk;rcases hk.2.2.2 with hm|⟨ch,hg⟩
 ·exact .inl (h.step de hb hs hm)
 ·right;obtain⟨F,fr,ab,wS,abr,wr,rfl,h2,h3,h4,W,hn,hp⟩:=h;have fn:∀c,vI Gm L c->∃fn,P.funcs[c.fn]?=some fn:=fun c hc=>let ⟨x,hx,_⟩:=de.body _ hc.fn;⟨x,hx⟩;exact .inl ⟨ab,{fr with mode:=.panicking ch},ch,hg,rfl,h2.defers,fn fr h2,fun c hc=>⟨(h3 c hc).defers,fn c (h3 c hc)⟩⟩
theorem Ar.mode{g:aY}(h:Ar P g):Zh g:=by
 rcases h with⟨ab,fr,chain,rfl,hm,_⟩|⟨chain,rfl⟩
 ·exact⟨chain,hm⟩
 ·exact⟨chain,rfl⟩
end
end
section
open Go.Conc (G)
structure sN(Stop:aY->ae->Prop):Prop where
 base:∀g w,Stop g w->pr [gD] g
 tape:∀g w τ d,Stop g w->Stop g (WT w τ d)
def Good(P:Program)(Stop:aY->ae->Prop)(g:aY)(w:ae):Prop :=
 ∀τ d,∃n x,kn P n g (WT w τ d)=some x/\Stop x.1 x.2
section
variable {P:Program} {L:Nat->Bool} {Gm:Nat} {Stop:aY->ae->Prop}
theorem NC(w:ae)(τ DU:Tape)(d d':Nat):WT (WT w τ d) DU d'=WT w DU d':=rfl
theorem xU(w:ae):WT w w.tape w.drawn=w:=rfl
theorem sN.back(hS:sN Stop){g:aY}{w:ae}{τ:Tape}{d:Nat}(h:Stop g (WT w τ d)):Stop g w:=by
 have:=hS.tape g (WT w τ d) w.tape w.drawn h;rwa[NC,xU] at this
theorem E3{g:aY}(hb:pr [gD] g)(hI:∃w,Inv P L Gm [gD] g w)(de:rS P L Gm):∀n w x,kn P (n+1) g w=some x->¬pr [gD] x.1:=by
 obtain⟨w0,F,fr,ab,wS,abr,wr,hg,h2,h3,_⟩:=hI;obtain⟨HF,e1,hm⟩:=hb;have rT:ab=[]:=by
  rw[hg] at e1;simp only[G,Goroutine.mk.injEq] at e1;have:=congrArg List.length e1.2.1;simp at this;exact this
 subst rT;have XT:fr.mode=.returning:=by
  rw[hg] at e1;simp only[G,Goroutine.mk.injEq] at e1;rw[e1.1];exact hm
 subst hg;obtain⟨Ap,rZ,_⟩:=de.body _ h2.fn;obtain⟨hd,r8,hk,qK,Ny,_⟩:=h2;obtain⟨fn,tmps,todo,defers,mode,kind,ro⟩:=fr;simp only at hd r8 hk XT rZ;subst hd r8 hk XT;intro n w x hx;simp only[kn] at hx;rcases hr:(results Ap tmps).runT P w #[] with⟨r,el⟩;have eI:∀v w1,r=.ok v w1->stepG P true (G (Fr fn tmps todo .returning) ([]++[gD])) w=.go (G (gD.finish v) []) w1 (seen P fn el):=by
  intro v w1 e;subst e;simp only[G,stepG,unwind,rZ,hr,List.nil_append,GStep.after,doReturn,cv]
 cases r with
 |ok v w1 =>
  rw[eI v w1 rfl] at hx;simp only[] at hx;have kZ:gD.finish v=gD:=rfl;rw[kZ] at hx;cases n with
  |zero =>
   simp only[kn,ay] at hx;rw[<- hx];rintro⟨fr2,e2,_⟩;simp only[G,Goroutine.mk.injEq] at e2;exact absurd e2.2.1 aj
  |succ n =>
   simp only[kn] at hx;have:∃o es,stepG P true (G gD []) w1=.ended o w1 es:=⟨_,_,by simp only[G,stepG,gD,stepG.exec];rfl⟩;obtain⟨o,es,he⟩:=this;rw[he] at hx;cases hx
 |halt h w1 =>
  exfalso;have:∃o es,stepG P true (G (Fr fn tmps todo .returning) ([]++[gD])) w=.ended o w1 es:=by
   cases h<;>exact⟨_,_,by simp only[G,stepG,unwind,rZ,hr,GStep.after];rfl⟩
  obtain⟨o,es,he⟩:=this;rw[he] at hx;cases hx
theorem sO(de:rS P L Gm)(hS:sN Stop){n:Nat}{g:aY}{w:ae}{x:aY×ae}(hI:Inv P L Gm [gD] g w)(hx:kn P n g w=some x)(hs:Stop x.1 x.2)(hn:¬Stop g w):
  ∃n' g1 w1 es,n=n'+1/\¬pr [gD] g/\stepG P true g w=.go g1 w1 es/\Inv P L Gm [gD] g1 w1/\kn P n' g1 w1=some x:=by
 cases n with
 |zero =>
  simp only[kn,ay] at hx;rw[<- hx] at hs;exact absurd hs hn
 |succ n =>
  have hb:¬pr [gD] g:=fun hb=>E3 hb ⟨w,hI⟩ de n w x hx (hS.base _ _ hs);have mq:=hx;simp only[kn] at hx;cases eI:stepG P true g w with
  |go g1 w1 es =>
   rw[eI] at hx;simp only[] at hx;refine⟨n,g1,w1,es,rfl,hb,rfl,?_,hx⟩;rcases hI.next de hb eI with h|h
   ·exact h
   ·exfalso;obtain⟨ch,hm⟩:=(Ch n g1 w1 x h hx).mode;obtain⟨fr,e,hr⟩:=hS.base _ _ hs;rw[e] at hm;simp only[G] at hm;rw[hr] at hm;cases hm
  |_=>rw[eI] at hx;cases hx
theorem Ly(de:rS P L Gm)(hS:sN Stop):∀(n:Nat) (g:aY) (w:ae) (x:aY×ae),Inv P L Gm [gD] g w->kn P n g w=some x->Stop x.1 x.2 ->
  ∀τ d,(∀j q,τ (d+j) q=w.tape (w.drawn+j) q)->∃n' x',kn P n' g (WT w τ d)=some x'/\Stop x'.1 x'.2:=by
 intro n
 induction n with
 |zero =>
  intro g w x hI hx hs τ d _;simp only[kn,ay] at hx;subst hx;exact⟨0,_,rfl,hS.tape _ _ τ d hs⟩
 |succ n ih =>
  intro g w x hI hx hs τ d hA;by_cases hn:Stop g w
  ·exact⟨0,_,rfl,hS.tape _ _ τ d hn⟩
  ·obtain⟨n',g1,w1,es,e1,hb,eI,Zj,xx⟩:=sO de hS hI hx hs hn;obtain rfl:n=n':=aa;obtain⟨c,hc,hk⟩:=hI.E2 de hb;have h1:=hc τ d (fun j _ q=>hA j q);rw[eI] at h1 hk;obtain⟨n2,x2,h2,h3⟩:=ih g1 w1 x Zj xx hs τ (d+c) (fun j q=>by
    rw[hk.1,hk.2.1,dO,dO];exact hA (c+j) q)
   refine⟨n2+1,x2,?_,h3⟩;simp only[kn,h1,gre];exact h2
end
end
section
open Go.Conc (G)
section
variable {P:Program} {L:Nat->Bool} {Gm:Nat} {Stop:aY->ae->Prop}
theorem zv(de:rS P L Gm)(hS:sN Stop){g g1:aY}{w w1:ae}{es:Array Event}{τ:Tape}{d:Nat}(hI:Inv P L Gm [gD] g w)(hG:Good P Stop g w)(hn:¬Stop g w)(eI:stepG P true g (WT w τ d)=.go g1 w1 es):
  ¬pr [gD] g/\Inv P L Gm [gD] g1 w1/\Good P Stop g1 w1:=by
 have hnT:∀τ d,¬Stop g (WT w τ d):=fun τ d h=>hn (hS.back h);obtain⟨n,x,hx,hs⟩:=hG τ d;obtain⟨n',g1',w1',mi,e1,hb,Eg,Zj,xx⟩:=sO de hS (hI.WT τ d) hx hs (hnT τ d);rw[eI] at Eg;cases Eg;refine⟨hb,Zj,fun DU d'=>?_⟩;obtain⟨c,hc,hk⟩:=(hI.WT τ d).E2 de hb;have hA:gl (WT w τ d) c (fun j q=>if j<c then τ (d+j) q else DU (d'+(j-c)) q) 0:=by
  intro j hj q;simp only[Nat.zero_add,hj,if_true];rfl
 have h1:=hc _ 0 hA;rw[eI,NC] at h1;simp only[gre,Nat.zero_add] at h1;obtain⟨m,y,hy,hys⟩:=hG (fun j q=>if j<c then τ (d+j) q else DU (d'+(j-c)) q) 0;obtain⟨m',g2,w2,es2,_,_,Ip,Iq,hy2⟩:=sO de hS (hI.WT _ 0) hy hys (hnT _ 0);rw[h1] at Ip;cases Ip;obtain⟨k,z,hz,Zk⟩:=Ly de hS m' g1 _ y Iq hy2 hys DU d' (fun j q=>by
  simp only[WT];rw[if_neg aa]
  congr 1
  omega)
 exact⟨k,z,hz,Zk⟩
def Nx(P:Program)(Stop:aY->ae->Prop)(y x:aY×ae):Prop:=¬Stop x.1 x.2/\∃τ d es,stepG P true x.1 (WT x.2 τ d)=.go y.1 y.2 es
theorem Ir(de:rS P L Gm)(hS:sN Stop){g:aY}{w:ae}(hI:Inv P L Gm [gD] g w)(hG:Good P Stop g w):Acc (Nx P Stop) (g,w):=by
 refine a8 fun hna=>?_;have next:∀x:{x:aY×ae // Inv P L Gm [gD] x.1 x.2/\Good P Stop x.1 x.2/\¬Acc (Nx P Stop) x},∃y:{x:aY×ae // Inv P L Gm [gD] x.1 x.2/\Good P Stop x.1 x.2/\¬Acc (Nx P Stop) x},Nx P Stop y.1 x.1:=by
  rintro⟨x,hxI,hxG,hxA⟩;have:∃y,Nx P Stop y x/\¬Acc (Nx P Stop) y:=by
   refine a8 fun h=>hxA ?_;exact Acc.intro x fun y hy=>a8 fun hc=>h ⟨y,hy,hc⟩
  obtain⟨y,hy,hyA⟩:=this;obtain⟨hn,τ,d,es,eI⟩:=hy;obtain⟨_,h1,h2⟩:=zv de hS hxI hxG hn eI;exact⟨⟨y,h1,h2,hyA⟩,hn,τ,d,es,eI⟩
 obtain⟨nx,E4⟩:=eM next
 let seq:Nat->{x:aY×ae // Inv P L Gm [gD] x.1 x.2/\Good P Stop x.1 x.2/\¬Acc (Nx P Stop) x}:=fun n=>Nat.rec ⟨(g,w),hI,hG,hna⟩ (fun _ x=>nx x) n;have wU:∀n,Nx P Stop (seq (n+1)).1 (seq n).1:=fun n=>E4 (seq n);have hn:∀n,¬Stop (seq n).1.1 (seq n).1.2:=fun n=>(wU n).1;obtain⟨τ,hτ⟩:=eM (fun n=>(wU n).2);obtain⟨d,hd⟩:=eM hτ;obtain⟨es,Is⟩:=eM hd;have hdr:∀n,∃c,(∀DU d',gl (WT (seq n).1.2 (τ n) (d n)) c DU d'->stepG P true (seq n).1.1 (WT (seq n).1.2 DU d')=.go (seq (n+1)).1.1 (WT (seq (n+1)).1.2 DU (d'+c)) (es n)):=by
  intro n;have hb:=(zv de hS (seq n).2.1 (seq n).2.2.1 (hn n) (Is n)).1;obtain⟨c,hc,_⟩:=((seq n).2.1.WT (τ n) (d n)).E2 de hb;refine⟨c,fun DU d' hA=>?_⟩;have:=hc DU d' hA;rw[Is n,NC] at this;exact this
 obtain⟨c,hc⟩:=eM hdr;let D:Nat->Nat:=fun n=>Nat.rec 0 (fun k x=>x+c k) n;have hD:∀n,D (n+1)=D n+c n:=fun n=>rfl;have ND:∀m n,m<=n->D m<=D n:=by
  intro m n h
  induction n with
  |zero =>
   obtain rfl:m=0:=aa;exact ag _
  |succ n ih =>
   rcases b7 m (n+1) with h1|h1
   ·have:=ih aa;rw[hD];omega
   ·obtain rfl:m=n+1:=aa;exact ag _
 have ach:∀m n j,D m<=j->j<D (m+1)->D n<=j->j<D (n+1)->m=n:=by
  intro m n j h1 h2 h3 h4;rcases gd m n with h|h|h
  ·have:=ND (m+1) n h;omega
  ·exact h
  ·have:=ND (n+1) m h;omega
 have aci:∃T:Tape,∀n j,j<c n->∀q,T (D n+j) q=τ n (d n+j) q:=by
  classical
  refine⟨fun i q=>if h:∃n,D n<=i/\i<D (n+1) then τ h.choose (d h.choose+(i-D h.choose)) q else 0,?_⟩;intro n j hj q;have h:∃k,D k<=D n+j/\D n+j<D (k+1):=⟨n,aa,by rw[hD];omega⟩;have e:h.choose=n:=ach _ _ (D n+j) h.choose_spec.1 h.choose_spec.2 aa (by rw[hD];omega);simp only[h,dif_pos];rw[e]
  congr 1
  omega
 obtain⟨T,hT⟩:=aci;have cL:∀k n,kn P k (seq n).1.1 (WT (seq n).1.2 T (D n))=some ((seq (n+k)).1.1,WT (seq (n+k)).1.2 T (D (n+k))):=by
  intro k
  induction k with
  |zero=>intro n;rfl
  |succ k ih =>
   intro n;have hs:=hc n T (D n) (fun j hj q=>hT n j hj q);simp only[kn,hs];have:=ih (n+1);rw[show n+1+k=n+(k+1) by omega] at this;rw[<- hD];exact this
 obtain⟨k,x,hx,hs⟩:=hG T 0;have h0:=cL k 0;simp only[Nat.zero_add] at h0;have e0:kn P k g (WT w T 0)=some ((seq k).1.1,WT (seq k).1.2 T (D k)):=h0;rw[e0] at hx;cases hx;exact hn k (hS.back hs)
end
end
section
open Go.Conc (G)
section
variable {P:Program} {L:Nat->Bool} {Gm:Nat} {Stop:aY->ae->Prop}
theorem pv{fr:Frame}{cs:List Frame}{w w1:ae}{g1:aY}{es:Array Event}{HF:Frame}{tH:List Frame}(h:stepG P true (G fr cs) w=.go g1 w1 es)(e:g1=G HF tH):step P (lone fr cs w)=.next (lone HF tH w1):=by
 subst e;refine step_lone_go ?_;show(stepG P true (G fr cs) w).bare=_;rw[h];rfl
theorem kC{fr:Frame}{cs:List Frame}{w w1:ae}{o:Outcome}{es:Array Event}(h:stepG P true (G fr cs) w=.ended o w1 es):step P (lone fr cs w)=.ended o w1:=by
 refine step_lone_ended ?_;show(stepG P true (G fr cs) w).bare=_;rw[h];rfl
theorem It{fr Nv:Frame}{cs DV:List Frame}{w w':ae}(h:lone fr cs w=lone Nv DV w'):fr=Nv/\cs=DV/\w=w':=by
 simp only[lone,Machine.mk.injEq,Array.mk.injEq,cx,Goroutine.mk.injEq,and_true] at h;exact⟨h.2.1,h.2.2,h.1⟩
theorem Pb(de:rS P L Gm){Nv:Frame}{w':ae}(hm:Nv.mode=.returning):∀(n:Nat) (fr:Frame) (cs:List Frame) (w:ae),(Inv P L Gm [gD] (G fr cs) w\/Ar P (G fr cs)) ->
  runN P n (lone fr cs w)=.next (lone Nv [gD] w')->kn P n (G fr cs) w=some (G Nv [gD],w'):=by
 intro n
 induction n with
 |zero =>
  intro fr cs w _ h;simp only[runN,Stepped.next.injEq] at h;obtain⟨rfl,rfl,rfl⟩:=It h;rfl
 |succ n ih =>
  intro fr cs w hI h;simp only[runN] at h;rcases hI with hI|hF
  ·by_cases hb:pr [gD] (G fr cs)
   ·exfalso;obtain⟨F,HF,ab,wS,abr,wr,hg,h2,h3,_⟩:=hI;obtain⟨fr2,e1,XS⟩:=hb;simp only[G,Goroutine.mk.injEq] at hg e1;obtain⟨rfl,Pd,_⟩:=hg;obtain⟨rfl,rfl,_⟩:=e1;obtain⟨Ap,rZ,_⟩:=de.body _ h2.fn;obtain⟨hd,r8,hk,qK,Ny,_⟩:=h2;obtain⟨fn,tmps,todo,defers,mode,kind,ro⟩:=fr;simp only at hd r8 hk XS rZ;subst hd r8 hk XS;rcases hr:(results Ap tmps).runT P w #[] with⟨r,el⟩;cases r with
    |ok v w1 =>
     have eI:stepG P true (G (Fr fn tmps todo .returning) [gD]) w=.go (G gD []) w1 (seen P fn el):=by
      simp only[G,stepG,unwind,rZ,hr,GStep.after,doReturn,cv];rfl
     rw[pv eI rfl] at h;simp only[] at h;cases n with
     |zero =>
      simp only[runN,Stepped.next.injEq] at h;have:=(It h).2.1;simp at this
     |succ n =>
      have:∃o es,stepG P true (G gD []) w1=.ended o w1 es:=⟨_,_,by simp only[G,stepG,gD,stepG.exec];rfl⟩;obtain⟨o,es,he⟩:=this;simp only[runN,kC he] at h;cases h
    |halt hh w1 =>
     have:∃o es,stepG P true (G (Fr fn tmps todo .returning) [gD]) w=.ended o w1 es:=by
      cases hh<;>exact⟨_,_,by simp only[G,stepG,unwind,rZ,hr,GStep.after];rfl⟩
     obtain⟨o,es,he⟩:=this;rw[kC he] at h;cases h
   ·obtain⟨c,_,hk⟩:=hI.E2 de hb;cases eI:stepG P true (G fr cs) w with
    |go g1 w1 es =>
     have E4:=hI.next de hb eI
     obtain⟨HF,tH,e⟩:∃HF tH,g1=G HF tH:=by
      rcases E4 with hx|hx
      ·obtain⟨F,HF,ab,wS,abr,wr,hg,_⟩:=hx;exact⟨_,_,hg⟩
      ·rcases hx with⟨ab,HF,ch,hg,_⟩|⟨ch,hg⟩<;>exact⟨_,_,hg⟩
     rw[pv eI e] at h;subst e;simp only[kn,eI];exact ih HF tH w1 E4 h
    |ended o w1 es=>rw[kC eI] at h;cases h
    |_=>rw[eI] at hk;exact hk.elim
  ·rcases Cg hF w with⟨o,w1,es,eI⟩|⟨g1,w1,es,eI,lD⟩
   ·rw[kC eI] at h;cases h
   ·obtain⟨HF,tH,e⟩:∃HF tH,g1=G HF tH:=by
     rcases lD with⟨ab,HF,ch,hg,_⟩|⟨ch,hg⟩<;>exact⟨_,_,hg⟩
    rw[pv eI e] at h;subst e;simp only[kn,eI];exact ih HF tH w1 (.inr lD) h
def kT(P:Program)(Bj:FuncId)(Q:Value->ae->Prop)(g:aY)(w:ae):Prop :=
 ∃fr v,g=G fr [gD]/\fr.fn=Bj/\fr.mode=.returning/\∀τ d,fr.leaving P (WT w τ d) (.returned v)/\Q v (WT w τ d)
theorem Bl(Bj:FuncId)(Q:Value->ae->Prop):sN (kT P Bj Q) where
 base g w h:=let ⟨fr,v,e,_,hm,_⟩:=h;⟨fr,e,hm⟩
 tape g w τ d h:=let ⟨fr,v,e,h1,hm,h2⟩:=h;⟨fr,v,e,h1,hm,fun DU d'=>by rw[NC];exact h2 DU d'⟩
def LA(Q:Value->ae->Prop):Prop:=∀v w τ d,Q v w->Q v (WT w τ d)
theorem Pe(de:rS P L Gm):∀(n:Nat) (g:aY) (w:ae) (x:aY×ae),Inv P L Gm [gD] g w->kn P n g w=some x->pr [gD] x.1->Inv P L Gm [gD] x.1 x.2:=by
 intro n
 induction n with
 |zero=>intro g w x hI hx _;simp only[kn,ay] at hx;rw[<- hx];exact hI
 |succ n ih =>
  intro g w x hI hx hb;have Gv:¬pr [gD] g:=fun h=>E3 h ⟨w,hI⟩ de n w x hx hb;simp only[kn] at hx;cases eI:stepG P true g w with
  |go g1 w1 es =>
   rw[eI] at hx;simp only[] at hx;rcases hI.next de Gv eI with h|h
   ·exact ih g1 w1 x h hx hb
   ·exfalso;obtain⟨ch,hm⟩:=(Ch n g1 w1 x h hx).mode;obtain⟨fr,e,hr⟩:=hb;rw[e] at hm;simp only[G] at hm;rw[hr] at hm;cases hm
  |_=>rw[eI] at hx;cases hx
theorem wj(de:rS P L Gm){Bj:FuncId}{args:Array Value}{w:ae}{Q:Value->ae->Prop}(hQ:LA Q)(hI:Inv P L Gm [gD] (G (Frame.enter P Bj args .normal) [gD]) w)(hC:∀τ d,Calls P Bj args (WT w τ d) fun e w'=>∃v,e=.returned v/\Q v w'):Good P (kT P Bj Q) (G (Frame.enter P Bj args .normal) [gD]) w:=by
 intro τ d;obtain⟨e,w',fr,⟨v,rfl,hv⟩,Zl,qK,hlv⟩:=hC τ d [gD];obtain⟨n,hn⟩:=Zl;have hm:fr.mode=.returning:=hlv.1;have hl:=Pb de hm n _ _ _ (.inl (hI.WT τ d)) hn;have hI':=Pe de n _ _ _ (hI.WT τ d) hl ⟨fr,rfl,hm⟩;refine⟨n,_,hl,fr,v,rfl,qK,hm,fun DU d'=>⟨?_,hQ v w' DU d' hv⟩⟩;obtain⟨_,hd,hk,Ap,rZ,wV⟩:=hlv;refine⟨hm,hd,hk,Ap,rZ,?_⟩;obtain⟨F,HF,ab,wS,abr,wr,hg,h2,h3,h4,W,vJ,hp⟩:=hI';simp only[G,Goroutine.mk.injEq] at hg;obtain⟨rfl,_⟩:=hg;obtain⟨f0,kN⟩:=W.some;have hrel:=rh (PF.ok hp de kN) Ap fr.tmps;obtain⟨c,h5,h6,h7⟩:=wT _ _ w' #[] hrel;have lE:((results Ap fr.tmps).runT P w' #[]).1=.ok v w':=by rw[Sem.runT_fst];exact wV
 rw[lE] at h6 h7;have Pf:c=0:=by simp only[Cb] at h6;omega
 subst Pf;have h8:=h7 DU d' (fun j hj=>aa);rw[<- Sem.runT_fst P (results Ap fr.tmps) (WT w' DU d') #[],h8];rfl
end
end
section
open Go.Conc (G)
def xV(P:Program)(L:Nat->Bool)(Gm:Nat)(Stop:aY->ae->Prop)(csr:List Frame)(F:jJ)(x:aY×ae)(gr:aY)(wr:ae):Prop :=
 ∃fr ab wS abr,x.1=G fr (ab++[gD])/\gr=G wS (abr++csr)/\vI Gm L fr/\(∀c∈ab,vI Gm L c)/\(∀f,F.has f->wS=frame f fr/\abr=ab.map (frame f)) /\
  WR F x.2 wr/\fN x.2/\PF P L Gm F/\Good P Stop x.1 x.2
structure LB(F:jJ)(wr oG:ae):Prop where
 size:wr.heap.size<=oG.heap.size
 heap:∀r,F.K r->oG.heap[F.φ r]?=wr.heap[F.φ r]?
 os:oG.os=wr.os
 output:oG.output=wr.output
section
variable {P:Program} {L:Nat->Bool} {Gm:Nat} {Stop:aY->ae->Prop} {csr:List Frame} {F:jJ}
theorem Good.WT{g:aY}{w:ae}(h:Good P Stop g w)(τ:Tape)(d:Nat):Good P Stop g (WT w τ d):=fun DU d'=>h DU d'
theorem xV.inv{x:aY×ae}{gr:aY}{wr:ae}(h:xV P L Gm Stop csr F x gr wr):Inv P L Gm [gD] x.1 x.2:=by
 obtain⟨fr,ab,wS,abr,h1,h2,h3,h4,h5,W,hn,hp,hg⟩:=h;exact⟨F,fr,ab,wS,abr,wr,h1,h3,h4,h5,W,hn,hp⟩
theorem xV.others{x:aY×ae}{gr:aY}{wr oG:ae}(h:xV P L Gm Stop csr F x gr wr)(ho:LB F wr oG):xV P L Gm Stop csr F (x.1,WT x.2 oG.tape oG.drawn) gr oG:=by
 obtain⟨fr,ab,wS,abr,h1,h2,h3,h4,h5,W,hn,hp,hg⟩:=h;refine⟨fr,ab,wS,abr,h1,h2,h3,h4,h5,⟨W.here,fun r hr=>bz (W.there r hr) ho.size,W.inj,fun r hr f hf=>?_,W.Q8,ho.os.trans W.os,ho.output.trans W.output,rfl,rfl,W.AV,aX W.ET ho.size,W.D5⟩,fN.heap hn rfl,hp,hg.WT _ _⟩;rw[ho.heap r hr];exact W.tR r hr f hf
theorem xV.step(de:rS P L Gm)(hS:sN Stop){x:aY×ae}{gr:aY}{wr:ae}(h:xV P L Gm Stop csr F x gr wr)(XV:¬Stop x.1 x.2)(m':Bool):
  ∃y F' Re oG es,stepG P m' gr wr=.go Re oG es/\Nx P Stop y x/\xV P L Gm Stop csr F' y Re oG/\fC F F' x.2 wr y.2 oG/\(∀e∈es,xB F' e)/\∀f,F'.has f->F.has f:=by
 have hI:=h.inv;obtain⟨fr,ab,wS,abr,h1,h2,h3,h4,h5,W,hn,hp,hg⟩:=h;obtain⟨g,w⟩:=x;simp only at h1 W hn hg hI XV;subst h1 h2;obtain⟨n,z,hz,Zk⟩:=hg w.tape w.drawn;rw[xU] at hz;obtain⟨n',g1,w1,es,_,hb,eI,Zj,_⟩:=sO de hS hI hz Zk XV;have hm:g1.frame.mode=.run\/g1.frame.mode=.returning:=by
  obtain⟨F1,HF,ab1,_,_,_,KW,Gw,_⟩:=Zj;rw[KW];exact Gw.mode
 have VC:ab≠[]\/fr.mode=.run:=by
  rcases h3.mode with hm|hm
  ·exact .inr hm
  ·exact .inl fun e=>hb ⟨fr,by rw[e];rfl,hm⟩
 obtain⟨F',Nv,Za,Lt,Lu,qe,mi,e1,e2,e3,e4,e5,e6,e7,e8,e9,XU,RP⟩:=Il de hp W hn (m':=m') (csr:=csr) h3 h4 h5 eI (Cf Zj).1 (Cf Zj).2 hm VC;have hG1:Good P Stop g1 w1:=(zv de hS (τ:=w.tape) (d:=w.drawn) hI hg XV (by rw[xU];exact eI)).2.2;exact⟨(g1,w1),F',G Lt (Lu++csr),qe,mi,e4,⟨XV,w.tape,w.drawn,es,by rw[xU];exact eI⟩,⟨Nv,Za,Lt,Lu,e1,rfl,e2,e3,e5,e6,RP,e9,hG1⟩,e7,e8,XU⟩
theorem xV.ret(de:rS P L Gm){Bj:FuncId}{Q:Value->ae->Prop}{c:Frame}{cs:List Frame}{x:aY×ae}{gr:aY}{wr:ae}(h:xV P L Gm (kT P Bj Q) (c::cs) F x gr wr)(hs:kT P Bj Q x.1 x.2)(m':Bool):
  ∃v v' F' oG es,stepG P m' gr wr=.go (G (c.finish v') cs) oG es/\Q v x.2/\(∀f,F'.has f->v'=val f v)/\WR F' x.2 oG/\fC F F' x.2 wr x.2 oG/\(∀e∈es,xB F' e)/\∀f,F'.has f->F.has f:=by
 obtain⟨fr,ab,wS,abr,h1,h2,h3,h4,h5,W,hn,hp,hg⟩:=h;obtain⟨HF,v,e1,_,hm,hlv⟩:=hs;have ack:=hlv x.2.tape x.2.drawn;rw[xU] at ack;rw[h1] at e1;simp only[G,Goroutine.mk.injEq] at e1;obtain⟨rfl,Pd,_⟩:=e1;have rT:ab=[]:=by
  have:=congrArg List.length Pd;simp at this;exact this
 subst rT;obtain⟨f0,kN⟩:=W.some;have nQ:abr=[]:=(h5 f0 kN).2;subst nQ;subst h2;obtain⟨⟨_,_,_,Ap,rZ,wV⟩,hQ⟩:=ack;obtain⟨hd,r8,hk,qK,Ny,_⟩:=h3;obtain⟨fn,tmps,todo,defers,mode,kind,ro⟩:=fr;simp only at hd r8 hk hm rZ wV;subst hd r8 hk hm;obtain⟨tr,Ee,wi⟩:∃tr,wS=Fr fn tr todo .returning/\∀f,F.has f->tr=tmps.map (val f):=by
  refine⟨tmps.map (val f0),(h5 f0 kN).1,fun f hf=>?_⟩;have:=(h5 f0 kN).1.symm.trans (h5 f hf).1;simp only[frame,Frame.mk.injEq] at this;exact this.2.1
 subst Ee;have hrel:∀f,F.has f->Rel P f (V f) (results Ap tmps) (results Ap tr):=by
  intro f hf;rw[wi f hf];exact rh (PF.ok hp de hf) Ap tmps
 have hC:=xD (fun f=>V f) _ _ F x.2 wr #[] #[] hrel W;rw[Sem.runT_fst,wV] at hC;obtain⟨F',v',oG,Zc,c1,c2,c3,c4,c5,c6⟩:=hC;refine⟨v,v',F',oG,seen P fn Zc,?_,hQ,c2,c3,c4,?_,c6⟩
 ·simp only[G,stepG,unwind,rZ,c1,List.nil_append,GStep.after,doReturn,cv]
 ·intro e he;obtain⟨new,rfl,zt⟩:=c5;have:=B4 P fn _ e he;exact zt e (by simpa using this)
end
end
open Go.Conc
section
open Go.ConcN (sumTo upd sumTo_upd upd_ne upd_same)
def uh(S:Nat->Prop):Loc->Prop
 | .cell a=>S a.block
 |_=>False
theorem E5{S:Nat->Prop}{B:Nat}{F:jJ}(hF:∀r,F.K r->¬S (F.φ r)/\F.φ r<B){e:Event}(h:xB F e):EvL (uh S) B e:=by
 obtain⟨loc,wt,sy⟩:=e;cases loc with
 |cell a =>
  obtain⟨r,h1,h2⟩:=h;have hf:=hF r h1;rw[h2] at hf;refine⟨fun x hx hs=>?_,aj,aj,?_⟩
  ·simp only[MemAct.ofEvent,MemAct.touch?,ay] at hx;subst hx;exact absurd hs hf.1
  ·exact hf.2
 |obj b =>
  obtain⟨r,h1,h2⟩:=h;have hf:=hF r h1;rw[h2] at hf;refine⟨fun x hx hs=>?_,aj,aj,?_⟩
  ·cases wt<;>cases sy<;>simp only[MemAct.ofEvent,MemAct.touch?,ay] at hx;all_goals first|cases hx;done|skip
   all_goals (subst hx;exact hs.elim)
  ·cases wt<;>cases sy<;>exact hf.2
 |output =>
  refine⟨fun x hx hs=>?_,aj,aj,trivial⟩;simp only[MemAct.ofEvent,MemAct.touch?,ay] at hx;subst hx;exact hs.elim
 |goroutines =>
  refine⟨fun x hx hs=>?_,aj,aj,trivial⟩;simp only[MemAct.ofEvent,MemAct.touch?,ay] at hx;subst hx;exact hs.elim
 |mark m =>
  have hd:Ld m=true:=h;cases m<;>first|exact Bool.noConfusion hd|skip
  all_goals
   refine⟨fun x hx hs=>?_,aj,aj,trivial⟩;simp only[MemAct.ofEvent,MemAct.touch?] at hx;cases hx
section
variable {P:Program} {L:Nat->Bool} {Gm:Nat}
theorem E6{F:jJ}{w:ae}(d:Nat):LB F w (w.at d):=⟨ag _,fun _ _=>rfl,rfl,rfl⟩
theorem XX{Stop:aY->ae->Prop}(hS:sN Stop){y:aY×ae}{g:aY}{w:ae}{τ:Tape}{d:Nat}(h:Nx P Stop y (g,WT w τ d)):Nx P Stop y (g,w):=by
 obtain⟨hn,DU,d',es,eI⟩:=h;exact⟨fun hs=>hn (hS.tape _ _ _ _ hs),DU,d',es,eI⟩
theorem xW{Stop:aY->ae->Prop}{csr:List Frame}{F:jJ}{x:aY×ae}{gr:aY}{w:ae}(h:xV P L Gm Stop csr F x gr w):gr.status=.running:=by
 obtain⟨fr,ab,wS,abr,h1,rfl,_⟩:=h;rfl
theorem Iu(de:rS P L Gm){Bj:FuncId}{Q:Value->ae->Prop}{c:Frame}{cs:List Frame}{S:Nat->Prop}(x:aY×ae)(Gx:Acc (Nx P (kT P Bj Q)) x):
  ∀(M B:Nat) (gs:Array aY) (gr:aY) (w:ae) (sl:Option (Nat×Nat)) (t:Trace) (q:Nat->Nat) (F:jJ),sumTo gs.size q<M->gs[0]?=some gr->Leavers P t gs q->w.heap.size<=B->Past (uh S) B t ->
   (∀r,F.K r->¬S (F.φ r))->(∀b,w.heap.size<=b->¬S b)->xV P L Gm (kT P Bj Q) (c::cs) F (x.1,WT x.2 w.tape w.drawn) gr w ->
   ∃(N:Nat) (gP:Array aY) (w' aW:ae) (r9:Option (Nat×Nat)) (t':Trace) (q':Nat->Nat) (B':Nat) (F':jJ) (v v':Value),
    runNT P N (crowd gs w sl) t=(.next (crowd gP w' r9),t')/\gP.size=gs.size/\gP[0]?=some (G (c.finish v') cs)/\Leavers P t' gP q'/\w'.heap.size<=B'/\Past (uh S) B' t' /\
    Q v aW/\(∀f,F'.has f->v'=val f v)/\WR F' aW w'/\fC F F' x.2 w aW w'/\(∀f,F'.has f->F.has f)/\(∀r,F'.K r->¬S (F'.φ r))/\(∀b,w'.heap.size<=b->¬S b):=by
 have hS:=Bl (P:=P) Bj Q
 induction Gx with
 |intro x _ ih =>
 intro M
 induction M with
 |zero =>
  intro B gs gr w sl t q F hM;exact absurd hM (ef _)
 |succ M ihM =>
  intro B gs gr w sl t q F hM h0 hL hB hP hK hSb Pg;have cL:=xW Pg;have XY:∀g∈gs,awake g:=by
   intro g hg;obtain⟨i,hi,rfl⟩:=Array.mem_iff_getElem.1 hg;rcases bh i with rfl|nD
   ·have:gs[0]=gr:=by simpa[Array.getElem?_eq_getElem hi] using h0
    rw[this];exact awake_of (.inl cL)
   ·exact awake_of ((hL.old i _ nD (aO hi)).status.elim .inl fun x=>.inr (.inr x))
  obtain⟨i,g,d,r9,hi,hg,eI⟩:=crowd_pick (P:=P) (w:=w) (sl:=sl) XY ⟨0,gr,h0,cL⟩;rcases bh i with rfl|nD
  ·
   obtain rfl:g=gr:=by rw[h0] at hi;exact(aR hi).symm
   have Ph:=Pg.others (E6 (F:=F) (w:=w) d);have cB:0<gs.size:=(Array.getElem?_eq_some_iff.1 h0).1;have RQ:∀(a':aY) (w':ae) (es:Array Event),Leavers P (t++MemOp.ofEvents 0 g.frame.fn g.frame.place es) ((gs.map (woken P g a' w')).setIfInBounds 0 a') q:=by
    intro a' w' es;refine⟨fun j x hj hx=>?_,fun j hj=>?_⟩
    ·have dJ:0≠j:=aa;rw[aT dJ,aL] at hx;obtain⟨y,hy,rfl⟩:=Option.map_eq_some_iff.1 hx;have hq:=hL.old j y hj hy;rw[woken_quitsD hq,Deaf_other t aa _ (fun op eR=>by obtain⟨e,_,rfl⟩:=Go.Conc.mem_ofEvents eR;rfl)];exact hq
    ·rw[Deaf_other t (g':=0) (by simp at hj;omega) _ (fun op eR=>by obtain⟨e,_,rfl⟩:=Go.Conc.mem_ofEvents eR;rfl)];exact hL.above j (by simpa using hj)
   by_cases hs:kT P Bj Q x.1 x.2
   ·
    obtain⟨v,v',F',oG,es,e1,e2,e3,e4,e5,e6,e7⟩:=Ph.ret de (hS.tape _ _ _ _ hs) true;have ui:=runT_crowd_go (P:=P) (sl:=r9) (i:=0) hi (show stepG P (0==0) g (w.at d)=_ from e1);have hK':∀r,F'.K r->¬S (F'.φ r):=by
     intro r hr;rcases e5.wL r hr with h|h
     ·rw[e5.φ r h];exact hK r h
     ·exact hSb _ h.2
    have nC:∀r,F'.K r->F'.φ r<B+oG.heap.size+1:=fun r hr=>by have:=e4.there r hr;omega
    refine⟨1,(gs.map (woken P g (G (c.finish v') cs) oG)).setIfInBounds 0 (G (c.finish v') cs),oG,_,r9,t++MemOp.ofEvents 0 g.frame.fn g.frame.place es,q,B+oG.heap.size+1,F',v,v',by simp only[runNT,eI,ui],aj,by simp[cB],RQ _ _ es,aa,(hP.mono aa).own (fun e he=>E5 (fun r hr=>⟨hK' r hr,nC r hr⟩) (e6 e he)),e2,e3,e4,?_,e7,hK',?_⟩
    ·exact⟨e5.K,e5.φ,e5.L,e5.wL,ag _,e5.size,e5.mine,e5.rest,e5.G,e5.AV,e5.Rx,e5.BG,e5.same⟩
    ·intro b hb;exact hSb b (aX e5.size hb)
   ·obtain⟨y,F',Re,oG,es,e1,e2,e3,e4,e5,e6⟩:=Ph.step de hS (fun h=>hs (hS.back h)) true;have ui:=runT_crowd_go (P:=P) (sl:=r9) (i:=0) hi (show stepG P (0==0) g (w.at d)=_ from e1);have hK':∀r,F'.K r->¬S (F'.φ r):=by
     intro r hr;rcases e4.wL r hr with h|h
     ·rw[e4.φ r h];exact hK r h
     ·exact hSb _ h.2
    have tI:WR F' y.2 oG:=by obtain⟨_,_,_,_,_,_,_,_,_,hW,_⟩:=e3;exact hW
    have nC:∀r,F'.K r->F'.φ r<B+oG.heap.size+1:=fun r hr=>by have:=tI.there r hr;omega
    have hyt:(y.1,WT y.2 oG.tape oG.drawn)=y:=by rw[tI.tape,tI.drawn];rfl
    have fJ:((gs.map (woken P g Re oG)).setIfInBounds 0 Re).size=gs.size:=aj;obtain⟨N,gP,w',aW,VE,t',q',B',F2,v,v',k1,k2,k3,k4,k5,k6,k7,k8,k9,Iv,k11,k12,k13⟩:=ih y (XX hS e2) (sumTo gs.size q+1) (B+oG.heap.size+1) ((gs.map (woken P g Re oG)).setIfInBounds 0 Re) Re oG r9 (t++MemOp.ofEvents 0 g.frame.fn g.frame.place es) q F' (by rw[fJ];exact bI _) (by simp[cB]) (RQ Re oG es) aa
     ((hP.mono aa).own (fun e he=>E5 (fun r hr=>⟨hK' r hr,nC r hr⟩) (e5 e he))) hK' (fun b hb=>hSb b (aX e4.size hb)) (by rw[hyt];exact e3)
    refine⟨N+1,gP,w',aW,VE,t',q',B',F2,v,v',by simp only[runNT,eI,ui];exact k1,k2.trans fJ,k3,k4,k5,k6,k7,k8,k9,?_,fun f hf=>e6 f (k11 f hf),k12,k13⟩;have:=e4.trans Iv;exact⟨this.K,this.φ,this.L,this.wL,this.BF,this.size,this.mine,this.rest,this.G,this.AV,this.Rx,this.BG,this.same⟩
  ·
   have hq:=hL.old i g nD hi;have hi0:(i==0)=false:=dX;have cB:i<gs.size:=(Array.getElem?_eq_some_iff.1 hi).1;cases Zm:q i with
   |zero=>rw[Zm] at hq;rw[hq.1] at hg;cases hg
   |succ k =>
    rw[Zm] at hq;rcases hq with⟨hf,_⟩|⟨_,g',es,hm,Zn,Bm⟩
    ·rw[hf] at hg;cases hg
    have ui:=runT_crowd_go (P:=P) (sl:=r9) (i:=i) hi (by rw[hi0];exact Zn (w.at d));have fJ:((gs.map (woken P g g' (w.at d))).setIfInBounds i g').size=gs.size:=aj;have agR:sumTo gs.size (upd q i k)+(k+1)=sumTo gs.size q+k:=by
     have:=sumTo_upd q k id cB;simpa[Zm] using this
    obtain⟨N,gP,w',aW,VE,t',q',B',F2,v,v',k1,k2,k3,k4,k5,k6,k7,k8,k9,Iv,k11,k12,k13⟩:=ihM B ((gs.map (woken P g g' (w.at d))).setIfInBounds i g') gr (w.at d) r9 (t++MemOp.ofEvents i g.frame.fn g.frame.place es) (upd q i k) F (by rw[fJ];omega)
     (by
      have dJ:i≠0:=aa;rw[aT dJ,aL,h0];simp[woken_run cL])
     ⟨fun j x hj hx=>by
      by_cases Bn:i=j
      ·subst Bn;rw[b9 (by simpa using cB)] at hx;obtain rfl:=aR hx;rw[upd_same,Deaf_own];exact Bm
      ·rw[aT Bn,aL] at hx;obtain⟨y,hy,rfl⟩:=Option.map_eq_some_iff.1 hx;have hqj:=hL.old j y hj hy;rw[woken_quitsD hqj,upd_ne q k (bq Bn),Deaf_other t Bn _ (fun op eR=>by obtain⟨e,_,rfl⟩:=Go.Conc.mem_ofEvents eR;rfl)];exact hqj,fun j hj=>by
      rw[Deaf_other t (g':=i) (by simp at hj;omega) _ (fun op eR=>by obtain⟨e,_,rfl⟩:=Go.Conc.mem_ofEvents eR;rfl)];exact hL.above j (by simpa using hj)⟩
     hB (hP.mute aa hm) hK hSb (Pg.others (E6 (F:=F) (w:=w) d))
    exact⟨N+1,gP,w',aW,VE,t',q',B',F2,v,v',by simp only[runNT,eI,ui];exact k1,k2.trans fJ,k3,k4,k5,k6,k7,k8,k9,⟨Iv.K,Iv.φ,Iv.L,Iv.wL,Iv.BF,Iv.size,Iv.mine,Iv.rest,Iv.G,Iv.AV,Iv.Rx,Iv.BG,Iv.same⟩,k11,k12,k13⟩
end
end
section
variable {P:Program} {f:Rn} {L:Nat->Bool} {Gm:Nat}
theorem E7{n:Nat}{fn:Func}(hf:P.funcs[n]?=some fn)(hb:fn.body.isSome=true)(hn:(fn.name == "runtime.NumGoroutine")=false)(hL:L n=true)(args:Array Value):
  Rel P f (jm L f) (callFunc n args) (callFunc n (args.map (val f))):=by
 refine ai dT ?_;rintro _ _ ⟨rfl,rfl⟩;have nC:fn.body.isNone=false:=by cases h:fn.body<;>simp_all
 simp only[hf,hn,nC,aM,if_false];exact aC ⟨rfl,hL,rfl⟩
theorem oH{n:Nat}{fn:Func}{e:Array Value->Sem Value}(hf:P.funcs[n]?=some fn)(hb:fn.body=none)(hn:(fn.name == "runtime.NumGoroutine")=false)(hx:(Extern.findNext fn).isNone=true)(he:Extern.find fn=some e)(hh:f.h n=n)(args:Array Value)(hr:Rel P f (V f) (e args) (e (args.map (val f)))):Rel P f (jm L f) (callFunc n args) (callFunc n (args.map (val f))):=by
 refine ai dT ?_;rintro _ _ ⟨rfl,rfl⟩;have mq:Extern.findNext fn=none:=by simpa using hx
 simp only[hf,hn,hb,mq,he,aM,if_false,Option.isNone_none,if_true];refine ai (A:=fun _ _=>True) ?_ ?_
 ·have:=Rz (P:=P) (f:=f) (m:=.extern n) rfl;simp only[Lc,hh] at this;exact this
 ·rintro _ _ _;exact ai hr (by rintro v _ rfl;exact aC rfl)
theorem xX(args:Array Value):Rel P f (V f) (Extern.AbiNoEscape.same args) (Extern.AbiNoEscape.same (args.map (val f))):=by
 obtain⟨l⟩:=args;rcases l with _|⟨x,_|⟨y,l⟩⟩
 ·exact aF
 ·simp only[List.map_toArray,aA,aQ];exact aC rfl
 ·exact aF
theorem Ci:∀(n:Nat) (a:Addr) (acc:af),Rel P f Eq (Extern.Bytes.loadBytes a n acc) (Extern.Bytes.loadBytes (addr f a) n acc):=by
 intro n
 induction n with
 |zero=>intro a acc;exact aC rfl
 |succ n ih =>
  intro a acc;unfold Extern.Bytes.loadBytes;refine ai (xE a) ?_;rintro v _ rfl;cases v<;>simp only[cK,cR,b8,bG,bM,bj,bF,cV,cF,cG,bJ,bZ,bw,cS,b5]<;>first|exact aF|skip
  rename_i k b;cases k<;>first|exact aF|skip
  rw[<- kJ];exact ih _ _
theorem As(v:Value):Rel P f Eq (Extern.Bytes.bytesOf v) (Extern.Bytes.bytesOf (val f v)):=by
 cases v<;>simp only[cK,cR,b8,bG,bM,bj,bF,cV,cF,cG,bJ,bZ,bw,cS,b5]<;>first|exact aF|exact aC rfl|skip
 rename_i a len cap;cases a with
 |none=>exact aC rfl
 |some a=>exact Ci _ _ _
theorem Iw(args:Array Value):Rel P f (V f) (Extern.BytealgCompare.compare args) (Extern.BytealgCompare.compare (args.map (val f))):=by
 obtain⟨l⟩:=args;rcases l with _|⟨x,_|⟨y,_|⟨z,l⟩⟩⟩
 ·exact aF
 ·exact aF
 ·simp only[List.map_toArray,aA,aQ];refine ai (As x) ?_;rintro a _ rfl;refine ai (As y) ?_;rintro b _ rfl;exact aC (by simp[V,goInt])
 ·exact aF
theorem LC:∀(n t:Nat) (acc:Array Value),acc.map (val f)=acc->(Extern.BytealgMakeNoZero.digits n t acc).map (val f)=Extern.BytealgMakeNoZero.digits n t acc:=by
 intro n
 induction n with
 |zero=>intro t acc h;exact h
 |succ n ih=>intro t acc h;exact ih _ _ (by simp[Array.map_push,h])
theorem uj(hf:nL P f)(ps rs:Array TypeId)(args:Array Value):Rel P f (V f) (Extern.BytealgMakeNoZero.makeNoZero ps rs args) (Extern.BytealgMakeNoZero.makeNoZero ps rs (args.map (val f))):=by
 obtain⟨l⟩:=args;rcases l with _|⟨x,_|⟨y,l⟩⟩
 ·exact aF
 ·simp only[List.map_toArray,aA,aQ];cases x<;>first|exact aF|skip
  rename_i k n;cases k<;>first|exact aF|skip
  rw[cR];obtain⟨rl⟩:=rs;cases rl with
  |nil=>exact aF
  |cons t rl =>
   refine ai (bm t) ?_;rintro d _ ⟨rfl,_⟩;cases d<;>first|exact aF|skip
   refine fw (b6 hf _) ?_;refine ai (iO _) ?_;rintro c _ rfl;refine ai (tT _) ?_;rintro _ _ _;refine ai (iO _) ?_;rintro b _ rfl;refine ai (A:=AR f) (kB _ (LC _ _ _ aj).symm) ?_;rintro a _ rfl;exact aC (by simp[V])
 ·exact aF
end
theorem Pj{α β:Type}(I:β->Prop){g:α->β->Option (ForInStep β)}:∀(l:List α) (init r:β),(∀x∈l,∀a s,I a->g x a=some s->I s.value)->I init->forIn (m:=Option) l init g=some r->I r:=by
 intro l
 induction l with
 |nil=>intro init r _ hi h;simp only[List.forIn_nil] at h;cases h;exact hi
 |cons x l ih =>
  intro init r hg hi h;simp only[List.forIn_cons] at h;cases hx:g x init with
  |none=>rw[hx] at h;cases h
  |some s =>
   rw[hx] at h;have hs:=hg x aj init s hi hx;cases s with
   |done b=>cases h;exact hs
   |yield b=>exact ih b r (fun y hy=>hg y (by simp[hy])) hs h
theorem E8{cs:Array Value}(h:∀c∈cs,Plain c):Plain (.agg cs):=by
 intro f;rw[cS]
 congr 1
 apply jk
 ·simp
 ·intro i h1 h2;simp only[Array.getElem_map];exact h _ aj f
theorem Au{v:Value}(h:Plain v):∀c∈v.cells,Plain c:=by
 intro c hc f;have:=kL f v;rw[h f] at this;obtain⟨i,hi,rfl⟩:=Array.mem_iff_getElem.1 hc;have e:=congrArg (fun a:Array Value=>a[i]?) this;simp only[aL,Array.getElem?_eq_getElem hi,aK,ay] at e;exact e.symm
def Cj(info:TypeId->Option TypeInfo):Prop:=∀t i z,info t=some i->i.zero=some z->Plain z
theorem Gy{info:TypeId->Option TypeInfo}(hi:Cj info)(d:TypeDesc){i:TypeInfo}{z:Value}(h:Made.reckon info d=some i)(hz:i.zero=some z):Plain z:=by
 cases d
 case pointer e =>
  simp only[Made.reckon,Option.bind_eq_bind,Option.bind_eq_some_iff] at h;obtain⟨j,_,h⟩:=h;split at h
  ·cases h
  ·split at h
   ·cases h
   ·obtain⟨s,_,h⟩:=Option.bind_eq_some_iff.1 h;cases h;cases hz;exact fun f=>aj
  ·obtain⟨s,_,h⟩:=Option.bind_eq_some_iff.1 h;cases h;cases hz;exact fun f=>aj
 case slice e =>
  simp only[Made.reckon,Option.bind_eq_bind,Option.bind_eq_some_iff] at h;obtain⟨j,_,s,_,h⟩:=h;cases h;cases hz;exact fun f=>aj
 case map k e =>
  simp only[Made.reckon,Option.bind_eq_bind,Option.bind_eq_some_iff] at h;obtain⟨j,_,s,_,j2,_,s2,_,h⟩:=h;cases h;cases hz;exact fun f=>aj
 case chan dir e =>
  simp only[Made.reckon,Option.bind_eq_bind,Option.bind_eq_some_iff] at h;obtain⟨j,_,s,_,h⟩:=h;cases h;cases hz;exact fun f=>aj
 case func ps rs v =>
  simp only[Made.reckon,Option.bind_eq_bind,Option.bind_eq_some_iff] at h;obtain⟨s,_,h⟩:=h;cases h;cases hz;exact fun f=>aj
 case array n e =>
  simp only[Made.reckon,Option.bind_eq_bind,Option.bind_eq_some_iff] at h;obtain⟨j,hj,s,_,h⟩:=h;cases h;simp only[] at hz;split at hz
  ·cases hz
  ·split at hz
   ·cases hz;exact fun f=>aj
   ·obtain⟨y,hy,rfl⟩:=Option.map_eq_some_iff.1 hz;refine E8 ?_;intro c hc;simp only[Array.mem_flatten,Array.mem_replicate] at hc;obtain⟨cs,⟨_,rfl⟩,hc⟩:=hc;exact Au (hi e j y hj hy) c hc
 case struct fs =>
  have h':Made.reckonStruct info fs=some i:=h;unfold Made.reckonStruct at h';obtain⟨r,hr,h'⟩:=Option.bind_eq_some_iff.1 h';rw[<- fT] at hr;have hI:∀a,r.2.2.2.2.2.2.2.1=some a->∀c∈a,Plain c:=by
   refine Pj (fun s=>∀a,s.2.2.2.2.2.2.2.1=some a->∀c∈a,Plain c) fs.toList _ r ?_ ?_ hr
   ·intro x hx s st hs hg;obtain⟨j,hj,hg⟩:=Option.bind_eq_some_iff.1 hg;have fin:∀(n:Nat) a,(if n>Made.mostCells then none else do
      let z <- s.2.2.2.2.2.2.2.1;let y <- j.zero
      pure (z++y.cells):Option (Array Value))=some a->∀c∈a,Plain c:=by
     intro n a ha;split at ha
     ·cases ha
     ·obtain⟨z0,Y8,ha⟩:=Option.bind_eq_some_iff.1 ha;obtain⟨y,hy,ha⟩:=Option.bind_eq_some_iff.1 ha;cases ha;intro c hc;rcases Array.mem_append.1 hc with hc|hc
      ·exact hs z0 Y8 c hc
      ·exact Au (hi _ j y hj hy) c hc
    dsimp only at hg;split at hg
    ·cases hg
    ·split at hg
     ·cases hg
     ·split at hg
      ·split at hg<;>(cases hg;exact fin _)
      ·obtain⟨tag,_,hg⟩:=Option.bind_eq_some_iff.1 hg;split at hg<;>(cases hg;exact fin _)
   ·intro a ha;cases ha;simp
  dsimp only at h';have ez:i.zero=r.2.2.2.2.2.2.2.1.map .agg:=by
   split at h'<;>(cases h';rfl)
  rw[ez] at hz;obtain⟨a,ha,rfl⟩:=Option.map_eq_some_iff.1 hz;exact E8 (hI a ha)
 all_goals (simp only[Made.reckon] at h;cases h)
theorem Gz{T:Tables}(h:∀(t:Nat) (i:TypeInfo) (z:Value),T.types[t]?=some i->i.zero=some z->Plain z):∀n,Cj (Made.infoAt T n):=by
 intro n
 induction n with
 |zero=>intro t i z hi;cases hi
 |succ n ih =>
  intro t i z hi hz;simp only[Made.infoAt] at hi;split at hi
  ·exact h t i z hi hz
  ·obtain⟨d,_,hd⟩:=Option.bind_eq_some_iff.1 hi;exact Gy ih d hd hz
theorem LD{T:Tables}(h:∀(t:Nat) (i:TypeInfo) (z:Value),T.types[t]?=some i->i.zero=some z->Plain z):Cj T.info?:=by
 intro t i z hi hz;unfold Tables.info? at hi;split at hi
 ·exact h t i z hi hz
 ·exact Gz h _ t i z hi hz
section
open Go.Conc (G)
section
variable {P:Program} {m:Bool} {R:ae->ae->Prop} {D:ae->ae->Array Event->Prop} {Stop:aY->ae->Prop}
end
def Ix{α:Type}(r le:α->α->Prop)(n:Nat)(y x:Nat->α):Prop:=∃i,i<n/\r (y i) (x i)/\∀j,j<n->j≠i->le (y j) (x j)
theorem RR{α:Type}{r le:α->α->Prop}(rf:∀a,le a a)(tr:∀a b c,le a b->le b c->le a c)(hle:∀a b c,le b a->r c b->r c a):
  ∀(n:Nat) (x:Nat->α),(∀i,i<n->Acc r (x i))->Acc (Ix r le n) x:=by
 intro n
 induction n with
 |zero=>intro x _;exact Acc.intro _ fun y hy=>by obtain⟨i,hi,_⟩:=hy;omega
 |succ n ih =>
  have key:∀a,Acc r a->∀v:Nat->α,Acc (Ix r le n) v->∀x:Nat->α,le (x n) a->(∀j,j<n->le (x j) (v j))->Acc (Ix r le (n+1)) x:=by
   intro a ha
   induction ha with
   |intro a _ iha =>
    intro v hv
    induction hv with
    |intro v xy ihv =>
     intro x XZ hxv;refine Acc.intro _ fun y hy=>?_;obtain⟨i,hi,hr,ho⟩:=hy;by_cases rU:i=n
     ·subst rU;exact iha (y i) (hle _ _ _ XZ hr) v (Acc.intro v xy) y (rf _) (fun j hj=>tr _ _ _ (ho j aa aa) (hxv j hj))
     ·have mn:i<n:=aa;refine ihv y ⟨i,mn,hle _ _ _ (hxv i mn) hr,fun j hj Bn=>tr _ _ _ (ho j aa Bn) (hxv j hj)⟩ y (tr _ _ _ (ho n aa (bq rU)) XZ) (fun j _=>rf _)
  intro x hx;exact key (x n) (hx n aa) x (ih x fun i hi=>hx i aa) x (rf _) (fun j _=>rf _)
end
section
variable {t u:Trace} {g:Nat} {l:Loc}
end
open Go.ConcN
def Iy(l:Loc)(b:Nat):Prop :=
 match l with
 | .cell a=>a.block=b
 | .obj r=>r=b
 |_=>False
theorem Iy.uniq{l:Loc}{b c:Nat}(h:Iy l b)(k:Iy l c):b=c:=by
 cases l<;>simp only[Iy] at h k<;>first|(exact h.elim)|(rw[<- h,<- k])
theorem Iy.Zo{l:Loc}(h:l.isMemory=true):∃b,Iy l b:=by
 cases l<;>simp only[Loc.isMemory] at h<;>first|(cases h;done)|exact⟨_,rfl⟩
theorem uh.X0{l:Loc}{c:Nat}(h:uh (fun b=>b=c) l):Iy l c:=by
 cases l<;>simp only[uh] at h<;>first|(exact h.elim)|exact h
structure dq where
 T0:Nat
 H0:Nat
 Wg:Nat
 m0:Nat
 n:Nat
 ch:Nat->Nat
 kg:Nat->Loc->Prop
 Shun:Loc->Prop
 Sh:Nat->Prop
 ty:TypeId
 dep:Nat->Nat->Prop
 Idle:Nat->ae->Prop
structure dq.OK(T:dq):Prop where
 m0:0<T.m0
 wg:T.Wg<T.H0
 own:∀k l b,T.kg k l->Iy l b->b<T.H0/\b≠T.Wg
 apart:∀k k' l,T.kg k l->T.kg k' l->k=k'
 acu:∀l b,T.Shun l->Iy l b->b<T.H0/\b≠T.Wg
 GA:∀k l,T.kg k l->¬T.Shun l
 ownSh:∀k l,T.kg k l->∃a,l=.cell a/\T.Sh a.block
 sh:∀b,T.Sh b->b<T.H0/\b≠T.Wg/\∀k,k<T.n->T.ch k≠b
 ch:∀k,k<T.n->T.ch k<T.H0/\T.ch k≠T.Wg
 xY:∀k k',k<T.n->k'<T.n->T.ch k=T.ch k'->k=k'
 RS:∀k,k<T.n->¬T.Shun (.obj (T.ch k))
 dep:∀i k,i<T.n->T.dep i k->k<i
 idle:∀k w w1,(∀a,T.kg k (.cell a)->w1.cell? a=w.cell? a)->(∀b cs ty fz,T.Sh b->w.heap[b]?=some (.cells cs ty fz)->∃tH,w1.heap[b]?=some (.cells tH ty fz)/\tH.size=cs.size)->T.Idle k w->T.Idle k w1
def gQ(c:Nat):Array Event:=#[⟨.obj c,false,true⟩,⟨.obj c,true,true⟩]
def dq.RO(T:dq)(l:Loc):Prop:=(∀b,Iy l b->b<T.H0/\b≠T.Wg)/\(∀k,¬T.kg k l)/\¬T.Shun l
structure jK where
 j:Nat
 own:Nat->Nat->Prop
 cl:Nat->Option Nat
 rc:Nat->Nat->Prop
structure jK.OK(T:dq)(S:jK):Prop where
 new:∀x b,S.own x b->T.H0<=b
 one:∀x y b,S.own x b->S.own y b->x=y
 mem:∀x b,S.own x b->x=0\/∃i,i<S.j/\x=T.m0+i
def Class(T:dq)(S:jK)(t:Trace)(i:Nat)(g:Nat)(a:Touch):Prop :=
 (uh (fun b=>b=T.Wg) a.loc/\a.kind≠.plain/\(a.kind=.said->g=0))
 \/ (∃x b,S.own x b/\Iy a.loc b/\Knows t x i)
 \/ (∃k,T.kg k a.loc/\(S.cl k=none->Knows t (T.m0+k) i)/\(∀p,S.cl k=some p->a.write=true->Before t i p))
 \/ (T.RO a.loc/\a.write=false)
def GB(T:dq)(S:jK)(x:Nat):Prop:=x=0\/∃i,i<S.j/\x=T.m0+i
structure TI(T:dq)(S:jK)(t:Trace):Prop where
 len:T.T0<=t.size
 base:∀x,GB T S x->∀i,i<T.T0->∀a,touchAt t i=some a->a.loc.isMemory=true->Knows t x i\/(T.Shun a.loc/\a.kind=.atomic)
 cls:∀i z a,T.T0<=i->t[i]?=some z->z.act.touch?=some a->a.loc.isMemory=true->Class T S t i z.g a
 X1:∀i k,S.rc i k->∃p,S.cl k=some p/\Knows t (T.m0+i) p
 pos:∀k p,S.cl k=some p->t.act? p=some (.close (T.ch k))/\t.heard p
 nr:∀said,¬Race said t
def xZ(T:dq)(S:jK)(x:Nat)(a:Touch):Prop :=
 (uh (fun b=>b=T.Wg) a.loc/\a.kind≠.plain/\(a.kind=.said->x=0))
 \/ (∃b,S.own x b/\Iy a.loc b)
 \/ (∃k,x=T.m0+k/\T.kg k a.loc/\S.cl k=none)
 \/ (∃i k,x=T.m0+i/\S.rc i k/\T.kg k a.loc/\a.write=false)
 \/ (T.RO a.loc/\a.write=false)
section
variable {T:dq} {S:jK} {t u:Trace}
theorem Class.app{i g:Nat}{a:Touch}(h:Class T S t i g a)(u:Trace):Class T S (t++u) i g a:=by
 rcases h with h|⟨x,b,h1,h2,h3⟩|⟨k,h1,h2,h3⟩|h
 ·exact .inl h
 ·exact .inr (.inl ⟨x,b,h1,h2,h3.app u⟩)
 ·exact .inr (.inr (.inl ⟨k,h1,fun e=>(h2 e).app u,fun p e w=>(h3 p e w).app u⟩))
 ·exact .inr (.inr (.inr h))
theorem zw{p:Nat}(hp:p<t.size)(h:t.heard p):(t++u).heard p:=(heard_old hp).2 h
theorem TI.knows(hT:T.OK)(hS:S.OK T)(h:TI T S t){x:Nat}(hx:GB T S x){said:Bool}{i:Nat}{a b:Touch}(ha:touchAt t i=some a)(hb:b.loc.isMemory=true->xZ T S x b)(hc:a.conflicts said b):Knows t x i:=by
 obtain⟨hl,Zp,ve,acv⟩:=hc;have hbm:b.loc.isMemory=true:=by rw[<- hl];exact Zp
 have Pk:=hb hbm;obtain⟨c,hc⟩:=Iy.Zo hbm;have Pm:Iy a.loc c:=by rw[hl];exact hc
 rcases b7 i T.T0 with hi|hi
 ·rcases h.base x hx i hi a ha Zp with hk|⟨hs,pw⟩
  ·exact hk
  ·exfalso;rw[hl] at hs;have X2:=hT.acu _ c hs hc;rcases Pk with⟨h1,_⟩|⟨b',h1,h2⟩|⟨k,_,h2,_⟩|⟨_,k,_,_,h2,_⟩|⟨h1,_⟩
   ·exact X2.2 (hc.uniq h1.X0)
   ·have:=hS.new _ _ h1;have:=hc.uniq h2;omega
   ·exact hT.GA k _ h2 hs
   ·exact hT.GA k _ h2 hs
   ·exact h1.2.2 hs
 ·obtain⟨z,hz,vL⟩:=touch_of ha;have fB:=h.cls i z a hi hz vL Zp;rcases Pk with⟨h1,h2,h3⟩|⟨b',h1,h2⟩|⟨k,hk,h2,h3⟩|⟨i',k,hk,h1,h2,h3⟩|⟨h1,h2⟩
  ·rcases fB with⟨_,k2,k3⟩|⟨y,b',k1,k2,_⟩|⟨k,k1,_⟩|⟨k1,_⟩
   ·rcases acv with e|e|⟨_,e1,e2⟩
    ·exact absurd e k2
    ·exact absurd e h2
    ·have:=knows_own hz;rw[k3 e1,<- h3 e2] at this;exact this
   ·have:=hS.new _ _ k1;have e:=hc.uniq h1.X0;have e':=Pm.uniq k2;have:=hT.wg;omega
   ·exact absurd (hc.uniq h1.X0) (hT.own k _ c k1 Pm).2
   ·exact absurd (hc.uniq h1.X0) (k1.1 c Pm).2
  ·have nC:=hS.new _ _ h1;have e:=hc.uniq h2;rcases fB with⟨k1,_⟩|⟨y,b'',k1,k2,k3⟩|⟨k,k1,_⟩|⟨k1,_⟩
   ·have:=Pm.uniq k1.X0;have:=hT.wg;omega
   ·have e':=Pm.uniq k2;obtain rfl:b'=b'':=aa;rw[hS.one _ _ _ h1 k1];exact k3
   ·have:=(hT.own k _ c k1 Pm).1;omega
   ·have:=(k1.1 c Pm).1;omega
  ·rcases fB with⟨k1,_⟩|⟨y,b'',k1,k2,k3⟩|⟨k',k1,k2,_⟩|⟨k1,_⟩
   ·exact absurd (Pm.uniq k1.X0) (hT.own k _ c h2 hc).2
   ·have:=hS.new _ _ k1;have:=Pm.uniq k2;have:=(hT.own k _ c h2 hc).1;omega
   ·rw[hl] at k1;obtain rfl:=hT.apart _ _ _ h2 k1;rw[hk];exact k2 h3
   ·rw[hl] at k1;exact absurd h2 (k1.2.1 k)
  ·have XY:a.write=true:=by
    rcases ve with e|e
    ·exact e
    ·rw[h3] at e;cases e
   rcases fB with⟨k1,_⟩|⟨y,b'',k1,k2,k3⟩|⟨k',k1,_,k2⟩|⟨k1,_⟩
   ·exact absurd (Pm.uniq k1.X0) (hT.own k _ c h2 hc).2
   ·have:=hS.new _ _ k1;have:=Pm.uniq k2;have:=(hT.own k _ c h2 hc).1;omega
   ·rw[hl] at k1;obtain rfl:=hT.apart _ _ _ h2 k1;obtain⟨p,hp,Iz⟩:=h.X1 i' k h1;rw[hk];exact Knows.of_before (k2 p hp XY) Iz
   ·rw[hl] at k1;exact absurd h2 (k1.2.1 k)
  ·have XY:a.write=true:=by
    rcases ve with e|e
    ·exact e
    ·rw[h2] at e;cases e
   rcases fB with⟨k1,_⟩|⟨y,b'',k1,k2,k3⟩|⟨k',k1,_⟩|⟨_,k2⟩
   ·exact absurd (Pm.uniq k1.X0) (h1.1 c hc).2
   ·have:=hS.new _ _ k1;have:=Pm.uniq k2;have:=(h1.1 c hc).1;omega
   ·rw[hl] at k1;exact absurd k1 (h1.2.1 k')
   ·rw[k2] at XY;cases XY
theorem TI.app(hT:T.OK)(hS:S.OK T)(h:TI T S t){x:Nat}(hx:GB T S x)(hu:∀op∈u,op.g=x)(ha:∀op∈u,∀b,op.act.touch?=some b->b.loc.isMemory=true->xZ T S x b):TI T S (t++u):=by
 refine⟨by have:=h.len;simp;omega,fun y hy i hi a pw hm=>?_,fun i z a hi hz vL hm=>?_,fun i k hr=>?_,fun k p hp=>?_,fun said=>?_⟩
 ·rw[touchAt_old (by have:=h.len;omega)] at pw;exact(h.base y hy i hi a pw hm).imp (·.app u) id
 ·rcases getElem?_append_cases hz with⟨cB,DR⟩|⟨_,HG⟩
  ·exact(h.cls i z a hi DR vL hm).app u
  ·have hk:=knows_own hz;rw[hu z HG] at hk |-;rcases ha z HG a vL hm with h1|⟨b,h1,h2⟩|⟨k,h1,h2,h3⟩|⟨i',k,h1,h2,h3,h4⟩|h1
   ·exact .inl h1
   ·exact .inr (.inl ⟨x,b,h1,h2,hk⟩)
   ·exact .inr (.inr (.inl ⟨k,h2,fun _=>by rw[<- h1];exact hk,fun p e _=>by rw[h3] at e;cases e⟩))
   ·obtain⟨p,hp,_⟩:=h.X1 i' k h2;exact .inr (.inr (.inl ⟨k,h3,fun e=>(by rw[hp] at e;cases e),fun p _ w=>(by rw[h4] at w;cases w)⟩))
   ·exact .inr (.inr (.inr h1))
 ·obtain⟨p,h1,h2⟩:=h.X1 i k hr;exact⟨p,h1,h2.app u⟩
 ·obtain⟨h1,h2⟩:=h.pos k p hp;have:=lt_of_act? h1;exact⟨by rw[act?_old this];exact h1,zw this h2⟩
 ·exact noRace_append (h.nr said) hu fun i a pw op eR b hb hc=>h.knows hT hS hx pw (ha op eR b hb) hc
theorem TI.mute(h:TI T S t){y:Nat}(hu:∀op∈u,op.g=y)(hn:∀op∈u,op.act.touch?=none):TI T S (t++u):=by
 refine⟨by have:=h.len;simp;omega,fun y hy i hi a pw hm=>?_,fun i z a hi hz vL hm=>?_,fun i k hr=>?_,fun k p hp=>?_,fun said=>?_⟩
 ·rw[touchAt_old (by have:=h.len;omega)] at pw;exact(h.base y hy i hi a pw hm).imp (·.app u) id
 ·rcases getElem?_append_cases hz with⟨cB,DR⟩|⟨_,HG⟩
  ·exact(h.cls i z a hi DR vL hm).app u
  ·rw[hn z HG] at vL;cases vL
 ·obtain⟨p,h1,h2⟩:=h.X1 i k hr;exact⟨p,h1,h2.app u⟩
 ·obtain⟨h1,h2⟩:=h.pos k p hp;have:=lt_of_act? h1;exact⟨by rw[act?_old this];exact h1,zw this h2⟩
 ·exact noRace_append (h.nr said) hu fun i a pw op eR b hb hc=>by rw[hn op eR] at hb;cases hb
theorem TI.grow(h:TI T S t){own':Nat->Nat->Prop}(ho:∀x b,S.own x b->own' x b):TI T {S with own:=own'} t:=by
 refine⟨h.len,h.base,fun i z a hi hz vL hm=>?_,h.X1,h.pos,h.nr⟩;rcases h.cls i z a hi hz vL hm with h1|⟨x,b,h1,h2⟩|h1|h1
 ·exact .inl h1
 ·exact .inr (.inl ⟨x,b,ho _ _ h1,h2⟩)
 ·exact .inr (.inr (.inl h1))
 ·exact .inr (.inr (.inr h1))
theorem TI.close(h:TI T S t){i:Nat}(hi:i<S.j)(hn:S.cl i=none){z:MemOp}(hg:z.g=T.m0+i)(hz:z.act=.close (T.ch i))(hd:Deaf t (T.m0+i)=0):
  TI T {S with cl:=upd S.cl i (some t.size)} (t++#[z]):=by
 have hzp:(t++#[z])[t.size]?=some z:=by rw[gm (ag _)];simp
 have hm:TI T S (t++#[z]):=h.mute (y:=T.m0+i) (fun op eR=>by simp at eR;rw[eR];exact hg) (fun op eR=>by simp at eR;rw[eR,hz];rfl);refine⟨hm.len,hm.base,fun i' y a mn hy hya hme=>?_,fun i' k hr=>?_,fun k p hp=>?_,hm.nr⟩
 ·
  rcases getElem?_append_cases hy with⟨cB,hy'⟩|⟨_,hyu⟩
  ·rcases h.cls i' y a mn hy' hya hme with h1|⟨x,b,h1,h2,h3⟩|⟨k,h1,h2,h3⟩|h1
   ·exact .inl h1
   ·exact .inr (.inl ⟨x,b,h1,h2,h3.app _⟩)
   ·refine .inr (.inr (.inl ⟨k,h1,fun e=>?_,fun p e w=>?_⟩))
    ·by_cases hk:k=i
     ·subst hk;simp only[upd_same] at e;cases e
     ·simp only[upd_ne S.cl _ hk] at e;exact(h2 e).app _
    ·by_cases hk:k=i
     ·subst hk;simp only[upd_same,ay] at e;subst e;exact .inr ((h2 hn).hb_new (ag _) hzp hg)
     ·simp only[upd_ne S.cl _ hk] at e;exact(h3 p e w).app _
   ·exact .inr (.inr (.inr h1))
  ·have:y=z:=by simpa using hyu
   rw[this,hz] at hya;cases hya
 ·obtain⟨p,h1,h2⟩:=hm.X1 i' k hr;refine⟨p,?_,h2⟩;have hk:k≠i:=by rintro rfl;rw[hn] at h1;cases h1
  simp only[upd_ne S.cl _ hk];exact h1
 ·by_cases hk:k=i
  ·subst hk;simp only[upd_same,ay] at hp;subst hp;refine⟨by rw[act?_of hzp,hz],T.m0+k,by simp[Trace.g?,hg],?_⟩;rw[deaf_old (ag _)];exact hd
  ·simp only[upd_ne S.cl _ hk] at hp;exact hm.pos k p hp
theorem TI.recv(h:TI T S t){i k p:Nat}(fB:S.cl k=some p){z:MemOp}(hg:z.g=T.m0+i)(hz:z.act=.recvClosed (T.ch k))(hd:Deaf t (T.m0+i)=0):
  TI T {S with rc:=fun a b=>S.rc a b\/(a=i/\b=k)} (t++#[z]):=by
 have hzp:(t++#[z])[t.size]?=some z:=by rw[gm (ag _)];simp
 have hm:TI T S (t++#[z]):=h.mute (y:=T.m0+i) (fun op eR=>by simp at eR;rw[eR];exact hg) (fun op eR=>by simp at eR;rw[eR,hz];rfl);refine⟨hm.len,hm.base,hm.cls,fun i' k' hr=>?_,hm.pos,hm.nr⟩;rcases hr with hr|⟨rfl,rfl⟩
 ·exact hm.X1 i' k' hr
 ·obtain⟨h1,h2⟩:=hm.pos k' p fB;refine⟨p,fB,t.size,z,hzp,hg,.inr (.single (.inr ⟨.closed h1 (by rw[act?_of hzp,hz]),h2,T.m0+i',by simp[Trace.g?,hg],?_⟩))⟩;rw[deaf_old (ag _)];exact hd
theorem TI.spawn(h:TI T S t){own':Nat->Nat->Prop}{x y:MemOp}(hx:x.g=0/\x.act=.go (T.m0+S.j))(hy:y.g=T.m0+S.j/\y.act=.start)(h0:Deaf t 0=0)(hk:Deaf t (T.m0+S.j)=0)(ho:∀z b,S.own z b->own' z b\/(z=0/\own' (T.m0+S.j) b)):TI T {S with j:=S.j+1,own:=own'} (t++#[x,y]):=by
 have NF:∀op∈#[x,y],op.act.touch?=none:=by
  intro op eR;simp only[List.mem_toArray,bK,dj,or_false] at eR;rcases eR with rfl|rfl
  ·rw[hx.2];rfl
  ·rw[hy.2];rfl
 have RU:∀{i},Knows t 0 i->Knows (t++#[x,y]) (T.m0+S.j) i:=fun hh=>fork_knows hx hy h0 hk hh;refine⟨by have:=h.len;simp;omega,fun w hw i hi a pw hm=>?_,fun i z a hi hz vL hm=>?_,fun i k hr=>?_,fun k p hp=>?_,fun said=>?_⟩
 ·rw[touchAt_old (by have:=h.len;omega)] at pw;by_cases hwj:w=T.m0+S.j
  ·subst hwj;exact(h.base 0 (.inl rfl) i hi a pw hm).imp RU id
  ·have hw':GB T S w:=by
    rcases hw with rfl|⟨i',mn,rfl⟩
    ·exact .inl rfl
    ·exact .inr ⟨i',by simp only at mn;omega,rfl⟩
   exact(h.base w hw' i hi a pw hm).imp (·.app _) id
 ·rcases getElem?_append_cases hz with⟨cB,DR⟩|⟨_,HG⟩
  ·rcases h.cls i z a hi DR vL hm with h1|⟨w,b,h1,h2,h3⟩|⟨k,h1,h2,h3⟩|h1
   ·exact .inl h1
   ·rcases ho w b h1 with h4|⟨rfl,h4⟩
    ·exact .inr (.inl ⟨w,b,h4,h2,h3.app _⟩)
    ·exact .inr (.inl ⟨_,b,h4,h2,RU h3⟩)
   ·exact .inr (.inr (.inl ⟨k,h1,fun e=>(h2 e).app _,fun p e w=>(h3 p e w).app _⟩))
   ·exact .inr (.inr (.inr h1))
  ·rw[NF z HG] at vL;cases vL
 ·obtain⟨p,h1,h2⟩:=h.X1 i k hr;exact⟨p,h1,h2.app _⟩
 ·obtain⟨h1,h2⟩:=h.pos k p hp;have:=lt_of_act? h1;exact⟨by rw[act?_old this];exact h1,zw this h2⟩
 ·have e:t++#[x,y]=(t++#[x])++#[y]:=by apply Array.ext';simp
  rw[e];refine noRace_append (g:=T.m0+S.j) (noRace_append (g:=0) (h.nr said) (fun op eR=>by simp at eR;rw[eR];exact hx.1) (fun i a _ op eR b hb _=>?_)) (fun op eR=>by simp at eR;rw[eR];exact hy.1) (fun i a _ op eR b hb _=>?_)
  ·rw[NF op (by simp at eR |-;exact .inl eR)] at hb;cases hb
  ·rw[NF op (by simp at eR |-;exact .inr eR)] at hb;cases hb
theorem TI.RV{Sb:Nat->Prop}(tx:T.Shun=uh Sb)(h:TI T S t){t0:Trace}{B B':Nat}(hold:∃U,t=t0++U)(h0:t0.size=T.T0)(hP:Past T.Shun B t0){q:Nat}(hq:t.act? q=some (.mark (.acquire (Go.ConcR.stA T.Wg))))(hqg:t.g? q=some 0)(hqh:t.heard q)(norel:∀k,T.T0<=k->t.act? k≠some (.mark (.release (Go.ConcR.stA T.Wg))))(rel:∀i,i<S.j->∃r,T.T0<=r/\r<q/\RelBy (Go.ConcR.stA T.Wg) t (T.m0+i) r/\∀i' a,r<i'->t.g? i'=some (T.m0+i)->touchAt t i'=some a->uh (fun b=>b=T.Wg) a.loc/\a.kind=.atomic)(UQ:∀i z,T.T0<=i->t[i]?=some z->z.g=0\/(∃k,k<S.j/\z.g=T.m0+k)\/z.act.touch?=none)(hears:Deaf t 0=0)(seen:∀op∈t,op.act.low B'):Past (uh fun b=>Sb b\/b=T.Wg) B' t:=by
 have VF:∀i r,RelBy (Go.ConcR.stA T.Wg) t (T.m0+i) r->T.T0<=r->r<q->HappensBefore t r q:=fun i r hr h1 h2 =>
  .single (.inr ⟨.marked h2 (.inr hr.act) hq (fun k k1 _=>norel k aa),hr.heard,hqh⟩)
 have kq:∀i,HappensBefore t i q->Knows t 0 i:=fun i hh=>by
  obtain⟨z,hz,hg⟩:=Option.map_eq_some_iff.1 hqg;exact⟨q,z,hz,hg,.inr hh⟩
 have shn:∀{l:Loc},uh (fun b=>b=T.Wg) l->uh (fun b=>Sb b\/b=T.Wg) l:=fun {l} hl=>by cases l<;>simp only[uh] at hl |-<;>first|(exact hl.elim)|exact .inr hl
 have sho:∀{l:Loc},T.Shun l->uh (fun b=>Sb b\/b=T.Wg) l:=fun {l} hl=>by rw[tx] at hl;cases l<;>simp only[uh] at hl |-<;>first|(exact hl.elim)|exact .inl hl
 refine⟨h.nr,fun i a ha hm=>?_,fun i g hg dJ hc=>?_,hears,seen⟩
 ·rcases b7 i T.T0 with hi|hi
  ·exact(h.base 0 (.inl rfl) i hi a ha hm).imp id fun x=>⟨sho x.1,x.2⟩
  ·obtain⟨z,hz,vL⟩:=touch_of ha;rcases UQ i z hi hz with e|⟨k,hk,e⟩|e
   ·have:=knows_own hz;rw[e] at this;exact .inl this
   ·obtain⟨r,r1,r2,r3,r4⟩:=rel k hk;have VG:t.g? i=some (T.m0+k):=by simp[Trace.g?,hz,e]
    rcases gd i r with cB|rfl|hgt
    ·exact .inl (kq i (.trans (.single (.inl ⟨cB,_,VG,r3.g⟩)) (VF k r r3 r1 r2)))
    ·exact .inl (kq i (VF k i r3 r1 r2))
    ·have:=r4 i a hgt VG ha;exact .inr ⟨shn this.1,this.2⟩
   ·rw[e] at vL;cases vL
 ·obtain⟨U,rfl⟩:=hold;rcases b7 i T.T0 with hi|hi
  ·obtain⟨j,hj,hb⟩:=hP.over i g (by rw[<- g?_old (u:=U) aa];exact hg) dJ ((counts_old aa).1 hc);have UR:j<t0.size:=by
    obtain⟨z,hz,_⟩:=Option.map_eq_some_iff.1 hj;exact lt_size_of_getElem? hz
   exact⟨j,by rw[g?_old UR];exact hj,hb_app U hb⟩
  ·obtain⟨z,hz,X3⟩:=Option.map_eq_some_iff.1 hg;rcases UQ i z hi hz with e|⟨k,hk,e⟩|e
   ·exact absurd (X3.symm.trans e) dJ
   ·obtain⟨r,r1,r2,r3,r4⟩:=rel k hk;rcases gd i r with cB|rfl|hgt
    ·exact⟨q,hqg,.trans (.single (.inl ⟨cB,_,by rw[hg,<- X3,e],r3.g⟩)) (VF k r r3 r1 r2)⟩
    ·exact⟨q,hqg,VF k i r3 r1 r2⟩
    ·exact absurd hc (r3.after i hgt (by rw[hg,<- X3,e]))
   ·obtain⟨a,ha,_⟩:=hc;obtain⟨y,hy,hya⟩:=touch_of ha;rw[hz] at hy;cases hy;rw[e] at hya;cases hya
theorem TI.begin{t0:Trace}{B:Nat}(h0:t0.size=T.T0)(hP:Past T.Shun B t0){own:Nat->Nat->Prop}:TI T {j:=0,own:=own,cl:=fun _=>none,rc:=fun _ _=>False} t0:=by
 refine⟨aa,fun x hx i hi a ha hm=>?_,fun i z a hi hz=>?_,fun i k hr=>hr.elim,fun k p hp=>(by cases hp),hP.clean⟩
 ·rcases hx with rfl|⟨i',mn,_⟩
  ·exact hP.known i a ha hm
  ·exact absurd mn (ef _)
 ·have:=lt_size_of_getElem? hz;omega
end
section
open Go.ConcR (KK wgBlock WgAt stA smA rd wr mk)
structure cY(T:dq)(i:Nat)(o rc:Nat->Prop)(w w1:ae):Prop where
 size:w.heap.size<=w1.heap.size
 own:∀b,o b->w1.heap[b]?=w.heap[b]?
 ro:∀b,b<T.H0->b≠T.Wg->¬T.Sh b->(∀k,k<T.n->b≠T.ch k)->w1.heap[b]?=w.heap[b]?
 sh:∀b cs ty fz,T.Sh b->w.heap[b]?=some (.cells cs ty fz)->∃tH,w1.heap[b]?=some (.cells tH ty fz)/\tH.size=cs.size
 mine:∀a,(T.kg i (.cell a)\/∃k,rc k/\T.kg k (.cell a))->w1.cell? a=w.cell? a
 chan:∀k s r tm c,k<T.n->w.heap[T.ch k]?=some (.chan 0 #[] c s r tm)->∃c1,w1.heap[T.ch k]?=some (.chan 0 #[] c1 s r tm)/\(c=true->c1=true)
 Ck:w1.heap[T.ch i]?=w.heap[T.ch i]?
 wg:WgLive T.ty T.Wg w->WgLive T.ty T.Wg w1
 os:w1.os=w.os
 output:w1.output=w.output
structure LF(T:dq)(i:Nat)(o:Nat->Prop)(w w':ae):Prop where
 size:w.heap.size<=w'.heap.size
 rest:∀b,b<w.heap.size->¬o b->¬T.Sh b->w'.heap[b]?=w.heap[b]?
 sh:∀b cs ty fz,T.Sh b->w.heap[b]?=some (.cells cs ty fz)->∃tH,w'.heap[b]?=some (.cells tH ty fz)/\tH.size=cs.size
 cells:∀a,T.Sh a.block->¬T.kg i (.cell a)->w'.cell? a=w.cell? a
 os:w'.os=w.os
 output:w'.output=w.output
structure dN(T:dq)(o:Nat->Prop)(w w1:ae):Prop where
 size:w.heap.size<=w1.heap.size
 own:∀b,o b->w1.heap[b]?=w.heap[b]?
 ro:∀b,b<T.H0->b≠T.Wg->¬T.Sh b->(∀k,k<T.n->b≠T.ch k)->w1.heap[b]?=w.heap[b]?
 wg:WgLive T.ty T.Wg w->WgLive T.ty T.Wg w1
 os:w1.os=w.os
 output:w1.output=w.output
structure Pn(T:dq)(o:Nat->Prop)(w w':ae):Prop where
 size:w.heap.size<=w'.heap.size
 rest:∀b,b<w.heap.size->¬o b->w'.heap[b]?=w.heap[b]?
 os:w'.os=w.os
 output:w'.output=w.output
def NG(T:dq)(i:Nat)(o rc:Nat->Prop)(e:Event):Prop :=
 (∀a,(MemAct.ofEvent e).touch?=some a->a.loc.isMemory=true->(∃b,o b/\Iy a.loc b)\/T.kg i a.loc\/(∃k,rc k/\T.kg k a.loc/\a.write=false)\/(T.RO a.loc/\a.write=false))
 /\ e.loc≠.mark .disable/\e.loc≠.mark .enable/\(∀x,e.loc≠.mark (.release x))
def EvS(T:dq)(o:Nat->Prop)(e:Event):Prop :=
 (∀a,(MemAct.ofEvent e).touch?=some a->a.loc.isMemory=true->(uh (fun b=>b=T.Wg) a.loc/\a.kind≠.plain)\/(∃b,o b/\Iy a.loc b)\/(T.RO a.loc/\a.write=false))
 /\ e.loc≠.mark .disable/\e.loc≠.mark .enable/\(∀x,e.loc≠.mark (.release x))
def grow(o:Nat->Prop)(w w':ae):Nat->Prop:=fun b=>o b\/(w.heap.size<=b/\b<w'.heap.size)
section
variable {T:dq} {i:Nat} {o rc:Nat->Prop} {w w1 w2:ae}
theorem cY.refl(w:ae):cY T i o rc w w:=⟨ag _,fun _ _=>rfl,fun _ _ _ _ _=>rfl,fun b cs ty fz _ h=>⟨cs,h,rfl⟩,fun _ _=>rfl,fun k s r tm c _ h=>⟨c,h,id⟩,rfl,id,rfl,rfl⟩
theorem cY.trans(h:cY T i o rc w w1)(k:cY T i o rc w1 w2):cY T i o rc w w2:=by
 refine⟨aX h.size k.size,fun b hb=>(k.own b hb).trans (h.own b hb),fun b a1 a2 a3 a4=>(k.ro b a1 a2 a3 a4).trans (h.ro b a1 a2 a3 a4),fun b cs ty fz hb hh=>?_,fun a ha=>(k.mine a ha).trans (h.mine a ha),fun j s r tm c hj hh=>?_,k.Ck.trans h.Ck,fun x=>k.wg (h.wg x),k.os.trans h.os,k.output.trans h.output⟩
 ·obtain⟨c1,e1,e2⟩:=h.sh b cs ty fz hb hh;obtain⟨c2,e3,e4⟩:=k.sh b c1 ty fz hb e1;exact⟨c2,e3,e4.trans e2⟩
 ·obtain⟨c1,e1,e2⟩:=h.chan j s r tm c hj hh;obtain⟨c2,e3,e4⟩:=k.chan j s r tm c1 hj e1;exact⟨c2,e3,fun x=>e4 (e2 x)⟩
theorem cY.at(w:ae)(d:Nat):cY T i o rc w (w.at d):=⟨ag _,fun _ _=>rfl,fun _ _ _ _ _=>rfl,fun b cs ty fz _ h=>⟨cs,h,rfl⟩,fun _ _=>rfl,fun k s r tm c _ h=>⟨c,h,id⟩,rfl,id,rfl,rfl⟩
theorem dN.refl(w:ae):dN T o w w:=⟨ag _,fun _ _=>rfl,fun _ _ _ _ _=>rfl,id,rfl,rfl⟩
theorem dN.trans(h:dN T o w w1)(k:dN T o w1 w2):dN T o w w2 :=
 ⟨aX h.size k.size,fun b hb=>(k.own b hb).trans (h.own b hb),fun b a1 a2 a3 a4=>(k.ro b a1 a2 a3 a4).trans (h.ro b a1 a2 a3 a4),fun x=>k.wg (h.wg x),k.os.trans h.os,k.output.trans h.output⟩
theorem dN.at(w:ae)(d:Nat):dN T o w (w.at d):=⟨ag _,fun _ _=>rfl,fun _ _ _ _ _=>rfl,id,rfl,rfl⟩
theorem gz{w w':ae}(e:w'.heap[T.Wg]?=w.heap[T.Wg]?)(h:WgLive T.ty T.Wg w):WgLive T.ty T.Wg w':=by
 obtain⟨st,sm,hl⟩:=h;exact⟨st,sm,by unfold WgAt at hl |-;rw[e];exact hl⟩
theorem cell_of{w w':ae}{a:Addr}(e:w'.heap[a.block]?=w.heap[a.block]?):w'.cell? a=w.cell? a:=by simp[World.cell?,e]
structure qP(T:dq)(j:Nat)(w w':ae):Prop where
 DW:∀b cs ty fz,T.Sh b->w.heap[b]?=some (.cells cs ty fz)->∃tH,w'.heap[b]?=some (.cells tH ty fz)/\tH.size=cs.size
 idle:∀k a,j<=k->T.kg k (.cell a)->w'.cell? a=w.cell? a
theorem qP.refl{j:Nat}(w:ae):qP T j w w:=⟨fun b cs ty fz _ h=>⟨cs,h,rfl⟩,fun _ _ _ _=>rfl⟩
theorem qP.trans{j:Nat}{w w1 w2:ae}(h:qP T j w w1)(k:qP T j w1 w2):qP T j w w2:=by
 refine⟨fun b cs ty fz hb hh=>?_,fun i a hi ha=>(k.idle i a hi ha).trans (h.idle i a hi ha)⟩;obtain⟨c1,e1,e2⟩:=h.DW b cs ty fz hb hh;obtain⟨c2,e3,e4⟩:=k.DW b c1 ty fz hb e1;exact⟨c2,e3,e4.trans e2⟩
theorem qP.mono{j j':Nat}{w w1:ae}(h:qP T j w w1)(hj:j<=j'):qP T j' w w1:=⟨h.DW,fun i a hi ha=>h.idle i a (aX hj hi) ha⟩
theorem qP.Cm(hT:T.OK){j:Nat}{w w1:ae}(h:∀b,T.Sh b->w1.heap[b]?=w.heap[b]?):qP T j w w1:=by
 refine⟨fun b cs ty fz hb hx=>⟨cs,by rw[h b hb];exact hx,rfl⟩,fun k a _ ha=>?_⟩;obtain⟨a',e,hs⟩:=hT.ownSh k _ ha;cases e;exact cell_of (h _ hs)
theorem LF.keep(hT:T.OK){j:Nat}(h:LF T i o w w1)(hi:i<j):qP T j w w1:=by
 refine⟨h.sh,fun k a hk ha=>?_⟩;obtain⟨a',e,hs⟩:=hT.ownSh k _ ha;cases e;exact h.cells a hs fun hx=>by have:=hT.apart _ _ _ ha hx;omega
theorem LF.Cn(hT:T.OK){j:Nat}{oj US:Nat->Prop}(h:LF T i o w w1)(hj:j≠i)(tL:j<T.n)(hH:T.H0<=w.heap.size)(ho:∀b,o b->T.H0<=b)(hoj:∀b,oj b->T.H0<=b/\b<w.heap.size/\¬o b)(GC:¬US i):cY T j oj US w w1:=by
 have nsh:∀b,T.H0<=b->¬T.Sh b:=fun b hb hs=>by have:=(hT.sh b hs).1;omega
 have no:∀b,b<T.H0->¬o b:=fun b hb hs=>by have:=ho b hs;omega
 have pC:∀k,k<T.n->w1.heap[T.ch k]?=w.heap[T.ch k]?:=fun k hk=>h.rest _ (by have:=(hT.ch k hk).1;omega) (no _ (hT.ch k hk).1) (fun hs=>(hT.sh _ hs).2.2 k hk rfl);refine⟨h.size,fun b hb=>h.rest b (hoj b hb).2.1 (hoj b hb).2.2 (nsh b (hoj b hb).1),fun b h1 _ h3 _=>h.rest b aa (no b h1) h3,h.sh,fun a ha=>?_,fun k s r tm c hk hh=>⟨c,by rw[pC k hk];exact hh,id⟩,pC j tL,gz (h.rest _ (by have:=hT.wg;omega) (no _ hT.wg) (fun hs=>(hT.sh _ hs).2.1 rfl)),h.os,h.output⟩;have key:∀k,k≠i->T.kg k (.cell a)->w1.cell? a=w.cell? a:=by
  intro k hk fy;obtain⟨a',e,hs⟩:=hT.ownSh k _ fy;cases e;exact h.cells a hs fun hi=>hk (hT.apart _ _ _ fy hi)
 rcases ha with ha|⟨k,hk,ha⟩
 ·exact key j hj ha
 ·exact key k (fun e=>GC (e▸hk)) ha
theorem LF.LG(hT:T.OK){o0:Nat->Prop}(h:LF T i o w w1)(hH:T.H0<=w.heap.size)(ho:∀b,o b->T.H0<=b)(UT:∀b,o0 b->T.H0<=b/\b<w.heap.size/\¬o b):dN T o0 w w1:=by
 have nsh:∀b,T.H0<=b->¬T.Sh b:=fun b hb hs=>by have:=(hT.sh b hs).1;omega
 have no:∀b,b<T.H0->¬o b:=fun b hb hs=>by have:=ho b hs;omega
 exact⟨h.size,fun b hb=>h.rest b (UT b hb).2.1 (UT b hb).2.2 (nsh b (UT b hb).1),fun b h1 _ h3 _=>h.rest b aa (no b h1) h3,gz (h.rest _ (by have:=hT.wg;omega) (no _ hT.wg) (fun hs=>(hT.sh _ hs).2.1 rfl)),h.os,h.output⟩
theorem Pn.Cn(hT:T.OK){o0:Nat->Prop}(h:Pn T o0 w w1)(hi:i<T.n)(hH:T.H0<=w.heap.size)(UT:∀b,o0 b->T.H0<=b)(ho:∀b,o b->T.H0<=b/\b<w.heap.size/\¬o0 b):cY T i o rc w w1:=by
 have old:∀b,b<T.H0->w1.heap[b]?=w.heap[b]?:=fun b hb=>h.rest b aa (fun hs=>by have:=UT b hs;omega);have pC:∀k,k<T.n->w1.heap[T.ch k]?=w.heap[T.ch k]?:=fun k hk=>old _ (hT.ch k hk).1;refine⟨h.size,fun b hb=>h.rest b (ho b hb).2.1 (ho b hb).2.2,fun b h1 _ _ _=>old b h1,fun b cs ty fz hb hh=>⟨cs,by rw[old b (hT.sh b hb).1];exact hh,rfl⟩,fun a ha=>?_,fun k s r tm c hk hh=>⟨c,by rw[pC k hk];exact hh,id⟩,pC i hi,gz (old _ hT.wg),h.os,h.output⟩;have key:∀k,T.kg k (.cell a)->w1.cell? a=w.cell? a:=by
  intro k fy;obtain⟨a',e,hs⟩:=hT.ownSh k _ fy;cases e;exact cell_of (old _ (hT.sh _ hs).1)
 rcases ha with ha|⟨k,_,ha⟩
 ·exact key i ha
 ·exact key k ha
theorem NH(hT:T.OK)(hi:i<T.n)(ho:∀b,o b->T.H0<=b)(h:Aside T.Wg w w1)(hl:WgLive T.ty T.Wg w1):cY T i o rc w w1:=by
 have pC:∀k,k<T.n->w1.heap[T.ch k]?=w.heap[T.ch k]?:=fun k hk=>h.block _ (hT.ch k hk).2;refine⟨bH h.size.symm,fun b hb=>h.block b (by have:=ho b hb;have:=hT.wg;omega),fun b _ h2 _ _=>h.block b h2,fun b cs ty fz hb hh=>⟨cs,by rw[h.block b (hT.sh b hb).2.1];exact hh,rfl⟩,fun a ha=>?_,fun k s r tm c hk hh=>⟨c,by rw[pC k hk];exact hh,id⟩,pC i hi,fun _=>hl,h.os,h.output⟩;have key:∀k,T.kg k (.cell a)->w1.cell? a=w.cell? a:=by
  intro k fy;obtain⟨a',e,hs⟩:=hT.ownSh k _ fy;cases e;exact cell_of (h.block _ (hT.sh _ hs).2.1)
 rcases ha with ha|⟨k,_,ha⟩
 ·exact key i ha
 ·exact key k ha
theorem x6(hT:T.OK)(ho:∀b,o b->T.H0<=b)(h:Aside T.Wg w w1)(hl:WgLive T.ty T.Wg w1):dN T o w w1 :=
 ⟨bH h.size.symm,fun b hb=>h.block b (by have:=ho b hb;have:=hT.wg;omega),fun b _ h2 _ _=>h.block b h2,fun _=>hl,h.os,h.output⟩
theorem pL(w:ae)(c:Nat)(s r:Nat)(tm:Bool)(b:Nat)(hb:b≠c):(w.setChan c 0 #[] true s r tm).heap[b]?=w.heap[b]?:=by
 simp only[World.setChan];rw[aT (bq hb)]
theorem LH(hT:T.OK){j:Nat}(hj:j<T.n)(Bn:j≠i)(hi:i<T.n)(ho:∀b,o b->T.H0<=b){s r:Nat}{tm:Bool}(hc:w.heap[T.ch i]?=some (.chan 0 #[] false s r tm)):cY T j o rc w (w.setChan (T.ch i) 0 #[] true s r tm):=by
 have hh:=pL w (T.ch i) s r tm;have cB:T.ch i<w.heap.size:=(Array.getElem?_eq_some_iff.1 hc).1;refine⟨by simp[World.setChan],fun b hb=>hh b (by have:=ho b hb;have:=(hT.ch i hi).1;omega),fun b _ _ _ h4=>hh b (h4 i hi),fun b cs ty fz hb hx=>⟨cs,by rw[hh b (bq ((hT.sh b hb).2.2 i hi))];exact hx,rfl⟩,fun a ha=>?_,fun k s' r' tm' c hk hx=>?_,hh _ (fun e=>Bn (hT.xY _ _ hj hi e)),gz (hh _ (bq (hT.ch i hi).2)),rfl,rfl⟩
 ·have key:∀k,T.kg k (.cell a)->(w.setChan (T.ch i) 0 #[] true s r tm).cell? a=w.cell? a:=by
   intro k fy;obtain⟨a',e,hs⟩:=hT.ownSh k _ fy;cases e;exact cell_of (hh _ (bq ((hT.sh _ hs).2.2 i hi)))
  rcases ha with ha|⟨k,_,ha⟩
  ·exact key j ha
  ·exact key k ha
 ·by_cases e:k=i
  ·subst e;rw[hc] at hx;cases hx;exact⟨true,by simp[World.setChan,cB],fun x=>rfl⟩
  ·exact⟨c,by rw[hh _ (fun x=>e (hT.xY _ _ hk hi x))];exact hx,id⟩
theorem Co(hT:T.OK)(hi:i<T.n)(ho:∀b,o b->T.H0<=b){s r:Nat}{tm:Bool}:dN T o w (w.setChan (T.ch i) 0 #[] true s r tm):=by
 have hh:=pL w (T.ch i) s r tm;exact⟨by simp[World.setChan],fun b hb=>hh b (by have:=ho b hb;have:=(hT.ch i hi).1;omega),fun b _ _ _ h4=>hh b (h4 i hi),gz (hh _ (bq (hT.ch i hi).2)),rfl,rfl⟩
end
structure KX where
 g:aY
 o:Nat->Prop
 rc:Nat->Prop
 w:ae
def Eh(P:Program)(T:dq)(i:Nat)(V:Nat->ae->Prop)(E:bL)(X:KX->Prop)(x:KX):Prop :=
 x.g.status=.running /\
 ((∀w1,cY T i x.o x.rc x.w w1->∃g' w' es,stepG P false x.g w1=.go g' w' es/\LF T i x.o w1 w'/\(∀e∈es,NG T i (grow x.o w1 w') x.rc e)/\X ⟨g',grow x.o w1 w',x.rc,w'⟩)
 \/ (∃k z f,T.dep i k/\(∀w1,cY T i x.o x.rc x.w w1->stepG P false x.g w1=.comm x.g #[rcase (T.ch k) z] true (.recv f) w1 #[]) /\
   (∀w1,cY T i x.o x.rc x.w w1->V k w1->X ⟨Go.Conc.served x.g (recvd f z false),x.o,fun b=>x.rc b\/b=k,w1⟩))
 \/ (mayWake P x.g=true/\∀w1,cY T i x.o x.rc x.w w1->∀s r tm,w1.heap[T.ch i]?=some (.chan 0 #[] false s r tm) ->
   ∃g',stepG P false x.g w1=.go g' (w1.setChan (T.ch i) 0 #[] true s r tm) (gQ (T.ch i))/\g'.status=.running/\V i w1/\E x.o g' (w1.setChan (T.ch i) 0 #[] true s r tm)))
def gT(P:Program)(T:dq)(i:Nat)(V:Nat->ae->Prop)(E:bL)(x:KX):Prop :=
 ∀X:KX->Prop,(∀x,Eh P T i V E X x->X x)->X x
section
variable {P:Program} {T:dq} {i:Nat} {V:Nat->ae->Prop} {E:bL}
theorem Eh.mono{X Y:KX->Prop}(h:∀x,X x->Y x){x:KX}(hx:Eh P T i V E X x):Eh P T i V E Y x:=by
 obtain⟨hr,h1|⟨k,z,f,h1,h2,h3⟩|h1⟩:=hx
 ·refine⟨hr,.inl fun w1 hw=>?_⟩;obtain⟨g',w',es,e1,e2,e3,e4⟩:=h1 w1 hw;exact⟨g',w',es,e1,e2,e3,h _ e4⟩
 ·exact⟨hr,.inr (.inl ⟨k,z,f,h1,h2,fun w1 hw hv=>h _ (h3 w1 hw hv)⟩)⟩
 ·exact⟨hr,.inr (.inr h1)⟩
theorem Eh.rely{X:KX->Prop}{x:KX}(hx:Eh P T i V E X x){w1:ae}(hr:cY T i x.o x.rc x.w w1):Eh P T i V E X ⟨x.g,x.o,x.rc,w1⟩:=by
 obtain⟨hs,h1|⟨k,z,f,h1,h2,h3⟩|⟨hm,h1⟩⟩:=hx
 ·exact⟨hs,.inl fun w2 hw=>h1 w2 (hr.trans hw)⟩
 ·exact⟨hs,.inr (.inl ⟨k,z,f,h1,fun w2 hw=>h2 w2 (hr.trans hw),fun w2 hw hv=>h3 w2 (hr.trans hw) hv⟩)⟩
 ·exact⟨hs,.inr (.inr ⟨hm,fun w2 hw=>h1 w2 (hr.trans hw)⟩)⟩
theorem gT.intro{x:KX}(h:Eh P T i V E (gT P T i V E) x):gT P T i V E x:=fun X hX=>hX x (h.mono fun y hy=>hy X hX)
theorem gT.look{x:KX}(h:gT P T i V E x):Eh P T i V E (gT P T i V E) x :=
 (h (fun x=>gT P T i V E x/\Eh P T i V E (gT P T i V E) x) fun x hx=>⟨.intro (hx.mono fun _ hy=>hy.1),hx.mono fun _ hy=>hy.1⟩).2
theorem gT.rely{x:KX}(h:gT P T i V E x){w1:ae}(hr:cY T i x.o x.rc x.w w1):gT P T i V E ⟨x.g,x.o,x.rc,w1⟩:=.intro (h.look.rely hr)
def Av(P:Program)(T:dq)(i:Nat)(V:Nat->ae->Prop)(y x:KX):Prop :=
 (∃w1 es s r tm,cY T i x.o x.rc x.w w1/\stepG P false x.g w1=.go y.g y.w es/\y.o=grow x.o w1 y.w/\y.rc=x.rc/\w1.heap[T.ch i]?=some (.chan 0 #[] false s r tm)/\y.w.heap[T.ch i]?=w1.heap[T.ch i]?)
 \/ (∃k z f,T.dep i k/\cY T i x.o x.rc x.w y.w/\V k y.w/\stepG P false x.g y.w=.comm x.g #[rcase (T.ch k) z] true (.recv f) y.w #[]/\y.g=Go.Conc.served x.g (recvd f z false)/\y.o=x.o/\(y.rc=fun b=>x.rc b\/b=k)/\∃s r tm,y.w.heap[T.ch i]?=some (.chan 0 #[] false s r tm))
theorem gT.acc(hT:T.OK)(hi:i<T.n){x:KX}(h:gT P T i V E x):Acc (Av P T i V) x:=by
 refine h (fun x=>Acc (Av P T i V) x) fun x hx=>Acc.intro x fun y hy=>?_;obtain⟨hs,h1|⟨k,z,f,h1,h2,h3⟩|⟨hm,h1⟩⟩:=hx
 ·rcases hy with⟨w1,es,s,r,tm,r1,r2,r3,r4,r5,r6⟩|⟨k,z,f,r0,r1,r2,r3,_⟩
  ·obtain⟨g',w',mi,e1,e2,e3,e4⟩:=h1 w1 r1;rw[r2] at e1;cases e1;have:y=⟨y.g,grow x.o w1 y.w,x.rc,y.w⟩:=by rw[<- r3,<- r4]
   rw[this];exact e4
  ·obtain⟨g',w',mi,e1,_⟩:=h1 y.w r1;rw[r3] at e1;cases e1
 ·rcases hy with⟨w1,es,s,r,tm,r1,r2,_⟩|⟨k',z',f',r0,r1,r2,r3,r4,r5,r6,_⟩
  ·have:=h2 w1 r1;rw[r2] at this;cases this
  ·have e:=h2 y.w r1;rw[r3] at e;simp only[GStep.comm.injEq,Array.mk.injEq,cx,rcase,CommCase.mk.injEq,Value.chan.injEq,ay,and_true,true_and,CommShape.recv.injEq] at e;obtain⟨⟨e1,e2⟩,e3⟩:=e;have lX:=hT.dep i k' hi r0;have hk:=hT.dep i k hi h1;obtain rfl:=hT.xY k' k aa aa e1;subst e2 e3;have:=h3 y.w r1 r2;have ey:y=⟨Go.Conc.served x.g (recvd f' z' false),x.o,fun b=>x.rc b\/b=k',y.w⟩:=by rw[<- r4,<- r5,<- r6]
   rw[ey];exact this
 ·rcases hy with⟨w1,es,s,r,tm,r1,r2,r3,r4,r5,r6⟩|⟨k,z,f,r0,r1,r2,r3,acy⟩
  ·exfalso;obtain⟨g',e1,_⟩:=h1 w1 r1 s r tm r5;rw[r2] at e1;simp only[GStep.go.injEq] at e1;have cB:T.ch i<w1.heap.size:=(Array.getElem?_eq_some_iff.1 r5).1;rw[e1.2.1,r5] at r6;simp[World.setChan,cB] at r6
  ·exfalso;obtain⟨_,_,_,s,r,tm,hc⟩:=acy;obtain⟨g',e1,_⟩:=h1 y.w r1 s r tm hc;rw[r3] at e1;cases e1
end
end
section
open Go.ConcR (KK wgBlock WgAt stA smA rd wr mk)
section
variable {α β:Type} (r le:α->α->Prop) (r0:β->β->Prop) (N:Nat)
def Ends(x:Nat×(Nat->α)×β):Prop:=(∀i,i<N->Acc r (x.2.1 i))/\Acc r0 x.2.2
def LT3(y x:Nat×(Nat->α)×β):Prop :=
 Ends r r0 N y/\(y.1<x.1\/(y.1=x.1/\Ix r le N y.2.1 x.2.1)\/(y.1=x.1/\(∀i,i<N->le (y.2.1 i) (x.2.1 i))/\r0 y.2.2 x.2.2))
variable {r le r0 N}
theorem Po(rf:∀a,le a a)(tr:∀a b c,le a b->le b c->le a c)(hle:∀a b c,le b a->r c b->r c a):∀x,Ends r r0 N x->Acc (LT3 r le r0 N) x:=by
 have main:∀n,∀x:Nat×(Nat->α)×β,x.1=n->Ends r r0 N x->Acc (LT3 r le r0 N) x:=by
  intro n
  induction n using Nat.strongRecOn with
  |ind n ih =>
  have key:∀v:Nat->α,Acc (Ix r le N) v->∀b:β,Acc r0 b->∀xs:Nat->α,(∀i,i<N->le (xs i) (v i))->Acc (LT3 r le r0 N) (n,xs,b):=by
   intro v hv
   induction hv with
   |intro v xy ihv =>
   intro b hb
   induction hb with
   |intro b nC ihb =>
   intro xs hxs;refine Acc.intro _ fun y hy=>?_;obtain⟨hE,h1|⟨h1,i,hi,hr,ho⟩|⟨h1,h2,h3⟩⟩:=hy
   ·exact ih y.1 h1 y rfl hE
   ·have:=ihv y.2.1 ⟨i,hi,hle _ _ _ (hxs i hi) hr,fun j hj Bn=>tr _ _ _ (ho j hj Bn) (hxs j hj)⟩ y.2.2 hE.2 y.2.1 (fun _ _=>rf _);have e:y=(n,y.2.1,y.2.2):=by rw[<- show y.1=n from h1]
    rw[e];exact this
   ·have:=ihb y.2.2 h3 y.2.1 (fun j hj=>tr _ _ _ (h2 j hj) (hxs j hj));have e:y=(n,y.2.1,y.2.2):=by rw[<- show y.1=n from h1]
    rw[e];exact this
  intro x hx hE;have e:x=(n,x.2.1,x.2.2):=by rw[<- hx]
  rw[e];exact key x.2.1 (RR rf tr hle N x.2.1 hE.1) x.2.2 hE.2 x.2.1 (fun _ _=>rf _)
 exact fun x hE=>main x.1 x rfl hE
end
abbrev lQ:=(Nat×KX×Bool) ⊕ Nat
def nG(P:Program)(T:dq)(V:Nat->ae->Prop):lQ->lQ->Prop
 | .inl (i',y,tb),.inl (i,x,ta)=>i'=i/\(Av P T i V y x\/(ta=false/\tb=true/\y.g=x.g/\y.o=x.o/\y.rc=x.rc/\cY T i x.o x.rc x.w y.w))
 | .inr m',.inr m=>m'<m
 |_,_=>False
def iY(T:dq):lQ->lQ->Prop
 | .inl (i',y,tb),.inl (i,x,ta)=>i'=i/\tb=ta/\y.g=x.g/\y.o=x.o/\y.rc=x.rc/\cY T i x.o x.rc x.w y.w
 | .inr m',.inr m=>m'=m
 |_,_=>False
section
variable {P:Program} {T:dq} {V:Nat->ae->Prop}
theorem iY.refl:∀a:lQ,iY T a a
 | .inl (i,x,t)=>⟨rfl,rfl,rfl,rfl,rfl,cY.refl _⟩
 | .inr m=>rfl
theorem iY.trans:∀a b c:lQ,iY T a b->iY T b c->iY T a c
 | .inl (i1,x1,t1),.inl (i2,x2,t2),.inl (i3,x3,t3),h,k=>by
  obtain⟨rfl,rfl,h3,h4,h5,h6⟩:=h;obtain⟨rfl,rfl,k3,k4,k5,k6⟩:=k;refine⟨rfl,rfl,h3.trans k3,h4.trans k4,h5.trans k5,?_⟩;rw[k4,k5] at h6;exact k6.trans h6
 | .inr m,.inr m',.inr m'',h,k=>Eq.trans h k
 | .inl _,.inr _,_,h,_=>h.elim
 | .inr _,.inl _,_,h,_=>h.elim
 | .inl _,.inl _,.inr _,_,k=>k.elim
 | .inr _,.inr _,.inl _,_,k=>k.elim
theorem Av.back{i:Nat}{z y x:KX}(h:Av P T i V z y)(e1:y.g=x.g)(e2:y.o=x.o)(e3:y.rc=x.rc)(hr:cY T i x.o x.rc x.w y.w):Av P T i V z x:=by
 rcases h with⟨w1,es,s,r,tm,r1,r2,r3,r4,r5⟩|⟨k,z',f,r0,r1,r2,r3,r4,r5,r6,r7⟩
 ·rw[e2,e3] at r1;rw[e1] at r2;rw[e2] at r3;rw[e3] at r4;exact .inl ⟨w1,es,s,r,tm,hr.trans r1,r2,r3,r4,r5⟩
 ·rw[e2,e3] at r1;rw[e1] at r3 r4;rw[e2] at r5;rw[e3] at r6;exact .inr ⟨k,z',f,r0,hr.trans r1,r2,r3,r4,r5,r6,r7⟩
theorem nG.back:∀a b c:lQ,iY T b a->nG P T V c b->nG P T V c a
 | .inl (i1,x1,t1),.inl (i2,x2,t2),.inl (i3,x3,t3),h,k=>by
  obtain⟨rfl,rfl,h3,h4,h5,h6⟩:=h;obtain⟨rfl,k⟩:=k;refine⟨rfl,?_⟩;rcases k with k|⟨k1,k2,k3,k4,k5,k6⟩
  ·exact .inl (k.back h3 h4 h5 h6)
  ·rw[h4,h5] at k6;exact .inr ⟨k1,k2,k3.trans h3,k4.trans h4,k5.trans h5,h6.trans k6⟩
 | .inr m,.inr m',.inr m'',h,k=>by
  have h:m'=m:=h;subst h;exact k
 | .inl _,.inr _,_,h,_=>h.elim
 | .inr _,.inl _,_,h,_=>h.elim
 | .inl _,.inl _,.inr _,_,k=>k.elim
 | .inr _,.inr _,.inl _,_,k=>k.elim
theorem VH{i:Nat}{x:KX}(h:Acc (Av P T i V) x):∀t,Acc (nG P T V) (.inl (i,x,t)):=by
 have acz:∀x,(∀y,Av P T i V y x->∀t,Acc (nG P T V) (.inl (i,y,t)))->Acc (nG P T V) (.inl (i,x,true)):=by
  intro x hx;refine Acc.intro _ fun y hy=>?_;rcases y with⟨i',y,tb⟩|m
  ·obtain⟨rfl,h1⟩:=hy;rcases h1 with h1|⟨h1,_⟩
   ·exact hx y h1 tb
   ·cases h1
  ·exact hy.elim
 induction h with
 |intro x hx ih =>
  intro t;refine Acc.intro _ fun y hy=>?_;rcases y with⟨i',y,tb⟩|m
  ·obtain⟨rfl,h1⟩:=hy;rcases h1 with h1|⟨_,rfl,k3,k4,k5,k6⟩
   ·exact ih y h1 tb
   ·exact acz y fun z hz=>ih z (hz.back k3 k4 k5 k6)
  ·exact hy.elim
theorem Bo(m:Nat):Acc (nG P T V) (.inr m):=by
 induction m using Nat.strongRecOn with
 |ind m ih =>
  refine Acc.intro _ fun y hy=>?_;rcases y with y|m'
  ·obtain⟨i',y,tb⟩:=y;exact hy.elim
  ·exact ih m' hy
end
structure SAt where
 g:aY
 o:Nat->Prop
 w:ae
abbrev eT:=bL
def dm(P:Program)(T:dq)(Stop:eT)(o:Nat->Prop)(g:aY)(w:ae):Prop :=
 ∀X:bL,(∀o g w,(∀w1,dN T o w w1->Stop o g w1)->X o g w) ->
  (∀o g w,g.status=.running->(∀w1,dN T o w w1->∃g' w' es,stepG P true g w1=.go g' w' es/\Pn T o w1 w'/\(∀e∈es,EvS T (grow o w1 w') e)/\X (grow o w1 w') g' w')->X o g w)->X o g w
section
variable {P:Program} {T:dq} {Stop:eT}
theorem dm.stop{o:Nat->Prop}{g:aY}{w:ae}(h:∀w1,dN T o w w1->Stop o g w1):dm P T Stop o g w:=fun X h1 _=>h1 o g w h
theorem dm.step{o:Nat->Prop}{g:aY}{w:ae}(hs:g.status=.running)(h:∀w1,dN T o w w1->∃g' w' es,stepG P true g w1=.go g' w' es/\Pn T o w1 w'/\(∀e∈es,EvS T (grow o w1 w') e)/\dm P T Stop (grow o w1 w') g' w'):dm P T Stop o g w:=by
 intro X h1 h2;refine h2 o g w hs fun w1 hw=>?_;obtain⟨g',w',es,e1,e2,e3,e4⟩:=h w1 hw;exact⟨g',w',es,e1,e2,e3,e4 X h1 h2⟩
theorem dm.look{o:Nat->Prop}{g:aY}{w:ae}(h:dm P T Stop o g w):(∀w1,dN T o w w1->Stop o g w1)\/(g.status=.running/\∀w1,dN T o w w1->∃g' w' es,stepG P true g w1=.go g' w' es/\Pn T o w1 w'/\(∀e∈es,EvS T (grow o w1 w') e)/\dm P T Stop (grow o w1 w') g' w'):=by
 refine(h (fun o g w=>dm P T Stop o g w/\((∀w1,dN T o w w1->Stop o g w1)\/(g.status=.running/\∀w1,dN T o w w1->∃g' w' es,stepG P true g w1=.go g' w' es/\Pn T o w1 w'/\(∀e∈es,EvS T (grow o w1 w') e)/\dm P T Stop (grow o w1 w') g' w'))) ?_ ?_).2
 ·intro o g w h;exact⟨.stop h,.inl h⟩
 ·intro o g w hs h;have h':∀w1,dN T o w w1->∃g' w' es,stepG P true g w1=.go g' w' es/\Pn T o w1 w'/\(∀e∈es,EvS T (grow o w1 w') e)/\dm P T Stop (grow o w1 w') g' w':=fun w1 hw=>let ⟨g',w',es,a,b,c,d⟩:=h w1 hw;⟨g',w',es,a,b,c,d.1⟩;exact⟨.step hs h',.inr ⟨hs,h'⟩⟩
theorem dm.rely{o:Nat->Prop}{g:aY}{w w1:ae}(h:dm P T Stop o g w)(hr:dN T o w w1):dm P T Stop o g w1:=by
 rcases h.look with h|⟨hs,h⟩
 ·exact .stop fun w2 h2=>h w2 (hr.trans h2)
 ·exact .step hs fun w2 h2=>h w2 (hr.trans h2)
theorem dm.mono{IA:eT}{o:Nat->Prop}{g:aY}{w:ae}(h:dm P T Stop o g w)(hS:∀o g w,Stop o g w->IA o g w):dm P T IA o g w :=
 h _ (fun o g w h=>.stop fun w1 hw=>hS _ _ _ (h w1 hw)) (fun o g w hs h=>.step hs h)
theorem dm.trans{IA:eT}{o:Nat->Prop}{g:aY}{w:ae}(h:dm P T (fun o g w=>dm P T IA o g w) o g w):dm P T IA o g w :=
 h _ (fun o g w h=>h w (dN.refl w)) (fun o g w hs h=>.step hs h)
theorem dm.running{o:Nat->Prop}{g:aY}{w:ae}(h:dm P T Stop o g w)(hS:∀o g w,Stop o g w->g.status=.running):g.status=.running:=by
 rcases h.look with h|⟨hs,_⟩
 ·exact hS _ _ _ (h w (dN.refl w))
 ·exact hs
def NI(P:Program)(T:dq)(Stop:eT)(y x:SAt):Prop :=
 ¬(∀w1,dN T x.o x.w w1->Stop x.o x.g w1)/\∃w1 es,dN T x.o x.w w1/\stepG P true x.g w1=.go y.g y.w es/\y.o=grow x.o w1 y.w
theorem dm.acc{o:Nat->Prop}{g:aY}{w:ae}(h:dm P T Stop o g w):Acc (NI P T Stop) ⟨g,o,w⟩:=by
 refine h (fun o g w=>Acc (NI P T Stop) ⟨g,o,w⟩) ?_ ?_
 ·intro o g w h;exact Acc.intro _ fun y hy=>absurd h hy.1
 ·intro o g w hs h;refine Acc.intro _ fun y hy=>?_;obtain⟨_,w1,es,hr,eI,ho⟩:=hy;obtain⟨g',w',mi,e1,_,_,e3⟩:=h w1 hr;simp only at eI ho;rw[eI] at e1;cases e1;have e:y=⟨y.g,grow o w1 y.w,y.w⟩:=by rw[<- ho]
  rw[e];exact e3
end
abbrev jL:=(eT×SAt) ⊕ Nat
def mR(P:Program)(T:dq):jL->jL->Prop
 | .inl (S',y),.inl (S,x)=>S'=S/\NI P T S y x
 | .inr _,.inl _=>True
 |_,_=>False
theorem IB{P:Program}{T:dq}(m:Nat):Acc (mR P T) (.inr m):=Acc.intro _ fun y hy=>by
 rcases y with⟨S',y⟩|m'
 ·exact hy.elim
 ·exact hy.elim
theorem RX{P:Program}{T:dq}{S:eT}{x:SAt}(h:Acc (NI P T S) x):Acc (mR P T) (.inl (S,x)):=by
 induction h with
 |intro x hx ih =>
  refine Acc.intro _ fun y hy=>?_;rcases y with⟨S',y⟩|m
  ·obtain⟨e,h⟩:=hy;rw[e];exact ih y h
  ·exact IB m
end
section
open Go.ConcR (KK wgBlock WgAt stA smA rd wr mk Payload)
variable [Payload]
abbrev rj:Nat->Loc->Prop:=fun _ _=>False
section
variable (P:Program) (T:dq) (V:Nat->ae->Prop) (fg:Nat->(Nat->Prop)->ae->Prop) (cQ Fin:eT)
def Ei(i:Nat)(o:Nat->Prop)(g:aY)(w:ae):Prop :=
 ∃C v m,o C/\Goes P false (RW T.ty T.Wg C 0 0 (1-1)) (DWs T.Wg rj rj C 0 1) (AtR0 P T.ty T.Wg C 0 0 1 v) m g w/\fg i (fun b=>o b/\b≠C) w
def Pp:eT:=fun o g w=>g.status=.running/\∃g',stepG P true g w=.go g' w #[mk (.acquire (stA T.Wg))]/\Fin o g' w
def X4:eT:=fun o g w=>g.status=.running/\∃g',stepG P true g w=.go g' w #[mk .enable]/\dm P T (Pp P T Fin) o g' w
def SW4:eT:=fun o g w=>g.status=.running/\(WgAt T.ty T.Wg w 0 0->∃g',stepG P true g w=.go g' w #[rd (stA T.Wg)]/\dm P T (X4 P T Fin) o g' w)
def Zq:eT:=fun o g w=>g.status=.running/\g.offers=none /\
 ((∃st,WgAt T.ty T.Wg w st 0)->stepG P true g w=.go {g with status:=.blocked} w #[]) /\
 (WgAt T.ty T.Wg w 0 1->∃g',stepG P true g w=.go g' (w.setCell (smA T.Wg) (.int .u32 0)) (semEvents (smA T.Wg))/\dm P T (SW4 P T Fin) o g' (w.setCell (smA T.Wg) (.int .u32 0)))
def SW2(vs:Nat):eT:=fun o g w=>g.status=.running/\∀v:Nat,v<2147483648->WgAt T.ty T.Wg w (v*KK) 0 ->
 (v=vs->∃g',stepG P true g w=.go g' (w.setCell (stA T.Wg) (.int .u64 (v*KK+1))) #[rd (stA T.Wg),wr (stA T.Wg)]/\dm P T (Zq P T Fin) o g' (w.setCell (stA T.Wg) (.int .u64 (v*KK+1)))) /\
 (v≠vs->∃g',stepG P true g w=.go g' w #[rd (stA T.Wg)]/\dm P T cQ o g' w)
def Rf:eT:=fun o g w=>g.status=.running/\∀v:Nat,v<2147483648->WgAt T.ty T.Wg w (v*KK) 0 ->
 ∃g',stepG P true g w=.go g' w #[rd (stA T.Wg)]/\(v=0->dm P T (X4 P T Fin) o g' w)/\(v≠0->dm P T (SW2 P T cQ Fin v) o g' w)
def Rg:eT:=fun o g w=>g.status=.running/\∃g',stepG P true g w=.go g' w #[mk .disable]/\dm P T cQ o g' w
def SGo(j:Nat)(Next:eT):eT:=fun o g w=>g.status=.running/\∃g' child hand,stepG P true g w=.spawn g' child w #[]/\(∀b,hand b->o b) /\
 (∀w1,dN T o w w1->T.Idle j w1->gT P T j V (Ei P T fg j) ⟨child,hand,fun _=>False,w1⟩)/\Next (fun b=>o b/\¬hand b) g' w
def Zr(j:Nat)(Next:eT):eT:=fun o g w=>g.status=.running/\∃g',stepG P true g w=.go g' w #[mk .enable]/\dm P T (SGo P T V fg j Next) o g' w
def SA1(j:Nat)(Next:eT):eT:=fun o g w=>g.status=.running/\∀v:Nat,v<2147483647->WgAt T.ty T.Wg w (v*KK) 0 ->
 ∃g',stepG P true g w=.go g' (w.setCell (stA T.Wg) (.int .u64 ((v+1)*KK))) #[rd (stA T.Wg),wr (stA T.Wg)]/\dm P T (Zr P T V fg j Next) o g' (w.setCell (stA T.Wg) (.int .u64 ((v+1)*KK)))
def LI(j:Nat)(Next:eT):eT:=fun o g w=>g.status=.running/\∃g',stepG P true g w=.go g' w #[mk .disable]/\dm P T (SA1 P T V fg j Next) o g' w
def jg:Nat->eT
 |0=>dm P T (Rg P T cQ)
 |r+1=>dm P T (LI P T V fg (T.n-(r+1)) (jg r))
def kD:CTag->eT
 | .sp r s=>if s=5 then LI P T V fg (T.n-(r+1)) (jg P T V fg cQ r) else if s=4 then SA1 P T V fg (T.n-(r+1)) (jg P T V fg cQ r)
   else if s=3 then Zr P T V fg (T.n-(r+1)) (jg P T V fg cQ r) else SGo P T V fg (T.n-(r+1)) (jg P T V fg cQ r)
 | .kd=>Rg P T cQ
 | .w1=>Rf P T cQ Fin
 | .w2 vs=>SW2 P T cQ Fin vs
 | .w3|.blk=>Zq P T Fin
 | .w4=>SW4 P T Fin
 | .ke=>X4 P T Fin
 | .acq=>Pp P T Fin
 | .anch|.ret=>fun _ _ _=>False
def mG(n:Nat):CTag->Nat->Nat->Prop
 | .sp r s,j,d=>r<n/\j=n-(r+1)/\((s=5/\d=0)\/(s=4/\d=1)\/(s=3/\d=1)\/(s=2/\d=0))
 | .kd,j,d=>j=n/\d=0
 | .w1,j,d|.w2 _,j,d|.w3,j,d|.blk,j,d|.w4,j,d|.ke,j,d=>j=n/\d=1
 | .acq,j,d=>j=n/\d=0
 | .anch,_,_|.ret,_,_=>False
def jQ(tag:CTag)(o:Nat->Prop)(a:aY)(w:ae)(y:jL):Prop :=
 match tag with
 | .blk=>∃a0,a={a0 with status:=.blocked}/\(∀w1,dN T o w w1->Zq P T Fin o a0 w1)/\y=.inr 0
 |tag=>dm P T (kD P T V fg cQ Fin tag) o a w/\y=.inl (kD P T V fg cQ Fin tag,⟨a,o,w⟩)
def KY(i:Nat)(o rc:Nat->Prop)(cl:Nat->Option Nat)(d:WD)(ld:lQ)(g:aY)(w:ae):Prop :=
 (cl i=none/\d.stage=7/\d.deaf=0/\∃g0 tr,ld=.inl (i,⟨g0,o,rc,w⟩,tr)/\gT P T i V (Ei P T fg i) ⟨g0,o,rc,w⟩ /\
  ((g=g0/\tr=false)\/(tr=true/\∃k z f,T.dep i k/\(∀w1,cY T i o rc w w1->stepG P false g0 w1=.comm g0 #[rcase (T.ch k) z] true (.recv f) w1 #[]) /\
   ((g=parked g0 #[rcase (T.ch k) z] (.recv f)/\cl k=none)\/(g={parked g0 #[rcase (T.ch k) z] (.recv f) with status:=.running}/\(cl k).isSome=true)))))
 \/ ((cl i).isSome=true/\ld=.inr d.fuel/\V i w/\∃C v,o C/\WSit P T.ty T.Wg C 0 rj rj 0 1 v d.stage d.fuel d.deaf g w/\fg i (fun b=>o b/\b≠C) w)
end
structure kE(T:dq)(V:Nat->ae->Prop)(fg:Nat->(Nat->Prop)->ae->Prop):Prop where
 v:∀k w w1,(∀a,T.kg k (.cell a)->w1.cell? a=w.cell? a)->V k w->V k w1
 val:∀k o w w1,(∀a,T.kg k (.cell a)->w1.cell? a=w.cell? a)->(∀b,o b->w1.heap[b]?=w.heap[b]?)->fg k o w->fg k o w1
section
variable {P:Program} {T:dq} {V:Nat->ae->Prop} {fg:Nat->(Nat->Prop)->ae->Prop} {cQ Fin:eT}
theorem cY.rw{i:Nat}{o rc:Nat->Prop}{w w1:ae}(h:cY T i o rc w w1){C:Nat}(hC:o C):RW T.ty T.Wg C 0 0 (1-1) w w1 :=
 ⟨fun b hb=>absurd hb (ef _),h.wg,fun⟨cs,h1,h2⟩=>⟨cs,(h.own C hC).trans h1,h2⟩,cell_of_block (h.own C hC) 0⟩
theorem x7{g0:aY}{c:Nat}{z:Value}{f:Bool}{w:ae}{s r:Nat}{tm b:Bool}(hc:w.heap[c]?=some (.chan 0 #[] b s r tm)):
  (parked g0 #[rcase c z] (.recv f)).again w=if b=true then {parked g0 #[rcase c z] (.recv f) with status:=.running} else parked g0 #[rcase c z] (.recv f):=by
 cases b
 ·exact again_recv_open hc
 ·exact again_recv_closed hc
def mH(w:ae):lQ->lQ
 | .inl (i,x,tr)=>.inl (i,{x with w:=w},tr)
 | .inr m=>.inr m
theorem KY.Pq(hV:kE T V fg){i:Nat}{o rc:Nat->Prop}{cl cl':Nat->Option Nat}{d:WD}{ld:lQ}{g:aY}{w w':ae}(h:KY P T V fg i o rc cl d ld g w)(hr:cY T i o rc w w'){x x':aY}(fB:cl' i=cl i)(Gs:∀k,(cl k).isSome=true->(cl' k).isSome=true)(hw:∀k,cl k=none->T.dep i k->cl' k=none\/(mayWake P x=true/\x'.status=.running))(vK:∀k,T.dep i k->∃s r tm,w'.heap[T.ch k]?=some (.chan 0 #[] (cl' k).isSome s r tm)):
  iY T (mH w' ld) ld/\KY P T V fg i o rc cl' d (mH w' ld) (woken P x x' w' g) w':=by
 rcases h with⟨h1,h2,h3,g0,tr,h4,h5,h6⟩|⟨h1,h2,h3,C,v,h4,h5,h6⟩
 ·refine⟨by rw[h4];exact⟨rfl,rfl,rfl,rfl,rfl,hr⟩,.inl ⟨fB.trans h1,h2,h3,g0,tr,by rw[h4];rfl,h5.rely hr,?_⟩⟩;have acB:g0.status=.running:=h5.look.1;rcases h6 with⟨h6,h6t⟩|⟨h6,k,z,f,h7,h8,h9⟩
  ·left;rw[h6,woken_running acB];exact⟨rfl,h6t⟩
  ·refine .inr ⟨h6,k,z,f,h7,fun w1 rm=>h8 w1 (hr.trans rm),?_⟩;rcases h9 with⟨h9,nH⟩|⟨h9,nH⟩
   ·obtain⟨s,r,tm,hc⟩:=vK k h7;rcases hw k nH h7 with hn|⟨hm,hx⟩
    ·left;refine⟨?_,hn⟩;rw[hn] at hc;rw[h9];unfold woken;split
     ·rw[x7 hc];simp
     ·rfl
    ·have e:woken P x x' w' g=g.again w':=by unfold woken;simp[hm,hx]
     rw[e,h9,x7 hc];cases anj:cl' k with
     |none=>left;simp
     |some p=>right;simp
   ·right;rw[h9,woken_running rfl];exact⟨rfl,Gs k nH⟩
 ·have oI:∀a,T.kg i (.cell a)->w'.cell? a=w.cell? a:=fun a ha=>hr.mine a (.inl ha);have e2:mH w' ld=ld:=by rw[h2];rfl
  rw[e2];refine⟨iY.refl ld,.inr ⟨by rw[fB];exact h1,h2,hV.v i w w' oI h3,C,v,h4,?_,hV.val i _ w w' oI (fun b hb=>hr.own b hb.1) h6⟩⟩;rw[h5.woken];exact h5.rely (hr.rw h4)
theorem KY.status{i:Nat}{o rc:Nat->Prop}{cl:Nat->Option Nat}{d:WD}{ld:lQ}{g:aY}{w:ae}(h:KY P T V fg i o rc cl d ld g w):
  g.status=.running\/g.status=.finished\/(g.status=.blocked/\cl i=none/\∃k,T.dep i k/\cl k=none):=by
 rcases h with⟨h1,h2,h3,g0,tr,h4,h5,h6⟩|⟨h1,h2,h3,C,v,h4,h5,h6⟩
 ·rcases h6 with⟨h6,_⟩|⟨h6,k,z,f,h7,h8,⟨h9,nH⟩|⟨h9,_⟩⟩
  ·left;rw[h6];exact h5.look.1
  ·exact .inr (.inr ⟨by rw[h9];rfl,h1,k,h7,nH⟩)
  ·left;rw[h9]
 ·exact h5.status.imp id .inl
theorem KY.acc(hT:T.OK){i:Nat}(hi:i<T.n){o rc:Nat->Prop}{cl:Nat->Option Nat}{d:WD}{ld:lQ}{g:aY}{w:ae}(h:KY P T V fg i o rc cl d ld g w):Acc (nG P T V) ld:=by
 rcases h with⟨h1,h2,h3,g0,tr,h4,h5,h6⟩|⟨h1,h2,h3,C,v,h4,h5,h6⟩
 ·rw[h4];exact VH (h5.acc hT hi) tr
 ·rw[h2];exact Bo _
theorem jQ.acc{tag:CTag}{o:Nat->Prop}{a:aY}{w:ae}{y:jL}(h:jQ P T V fg cQ Fin tag o a w y):Acc (mR P T) y:=by
 cases tag
 case blk=>obtain⟨a0,_,_,e⟩:=h;rw[e];exact IB 0
 all_goals (obtain⟨h1,e⟩:=h;rw[e];exact RX h1.acc)
structure gv(P:Program)(T:dq)(V:Nat->ae->Prop)(fg:Nat->(Nat->Prop)->ae->Prop)(cQ Fin:eT)(t0:Trace)(w0:ae)(gs:Array aY)(w:ae)(t:Trace)(S:jK)(D:Nat->WD)(x:Nat->lQ)(tag:CTag)(a:aY)(y:jL)(st sm:Int):Prop where
 size:gs.size=T.m0+S.j
 E9:gs[0]?=some a
 LJ:jQ P T V fg cQ Fin tag (S.own 0) a w y
 uk:mG T.n tag S.j (Deaf t 0)
 old:∀k,0<k->k<T.m0->∃g q,gs[k]?=some g/\x k=.inr q/\QuitsD P q (Deaf t k) g
 wk:∀i,i<S.j->∃g,gs[T.m0+i]?=some g/\KY P T V fg i (S.own (T.m0+i)) (S.rc i) S.cl (D i) (x (T.m0+i)) g w
 rest:∀k,T.m0+S.j<=k->x k=.inr 0
 zero:x 0=.inr 0
 deafW:∀i,i<S.j->Deaf t (T.m0+i)=(D i).deaf
 above:∀k,gs.size<=k->Deaf t k=0
 ti:TI T S t
 tA:S.OK T
 lt:∀z b,S.own z b->b<w.heap.size
 h0:T.H0<=w.heap.size
 wg:WgAt T.ty T.Wg w st sm
 mode:Go.ConcN.Mode S.j D tag st sm
 chan:∀k,k<T.n->∃s r tm,w.heap[T.ch k]?=some (.chan 0 #[] (S.cl k).isSome s r tm)
 UU:∀i k,S.rc i k->(S.cl k).isSome=true
 Zs:∀k,S.j<=k->S.cl k=none
 US:∀i k,S.rc i k->i<S.j
 rel:∀i,i<S.j->(D i).stage<=6->∃r,T.T0<=r/\RelBy (stA T.Wg) t (T.m0+i) r/\∀i' a,r<i'->t.g? i'=some (T.m0+i)->touchAt t i'=some a->uh (fun b=>b=T.Wg) a.loc/\a.kind=.atomic
 norel:∀k,T.T0<=k->t.act? k≠some (.mark (.release (stA T.Wg)))
 UQ:∀i z,T.T0<=i->t[i]?=some z->z.g=0\/(∃k,k<S.j/\z.g=T.m0+k)\/z.act.touch?=none
 ext:∃U,t=t0++U
 same:dN T (fun _=>False) w0 w
 DW:qP T S.j w0 w
 idle0:∀k,k<T.n->T.Idle k w0
def mU(S:jK):Nat:=sumTo S.j fun i=>if S.cl i=none then 1 else 0
def pM(T:dq)(S:jK)(D:Nat->WD)(tag:CTag):Nat:=phi T.n (Vc S.j D) tag+Ssum S.j D+mU S
end
end
section
open Go.ConcR (KK wgBlock WgAt stA smA rd wr mk Payload g_of_ofEvents loc_of_ofEvent)
variable [Payload]
section
variable {P:Program} {T:dq} {V:Nat->ae->Prop} {fg:Nat->(Nat->Prop)->ae->Prop} {cQ Fin:eT} {t0:Trace} {w0:ae}
 {gs:Array aY} {w w':ae} {t:Trace} {S S':jK} {D:Nat->WD} {x:Nat->lQ} {tag:CTag} {a:aY} {y:jL} {st sm:Int} {sl:Option (Nat×Nat)}
theorem mV{tag:CTag}{o:Nat->Prop}{g:aY}{w:ae}(h:kD P T V fg cQ Fin tag o g w):g.status=.running:=by
 cases tag<;>simp only[kD] at h
 case sp r s =>
  split at h
  ·exact h.1
  ·split at h
   ·exact h.1
   ·split at h<;>exact h.1
 all_goals exact h.1
theorem jQ.eq{tag:CTag}(dJ:tag≠.blk){o:Nat->Prop}{a:aY}{w:ae}{y:jL}:jQ P T V fg cQ Fin tag o a w y=(dm P T (kD P T V fg cQ Fin tag) o a w/\y=.inl (kD P T V fg cQ Fin tag,⟨a,o,w⟩)):=by
 cases tag<;>first|rfl|exact absurd rfl dJ
theorem jQ.Pq{tag:CTag}{o:Nat->Prop}{a:aY}{y:jL}(h:jQ P T V fg cQ Fin tag o a w y)(hr:dN T o w w')(u u':aY):
  ∃tag' y',jQ P T V fg cQ Fin tag' o (woken P u u' w' a) w' y'/\(tag'=tag\/(tag=.blk/\tag'=.w3))/\(mayWake P u=true->u'.status=.running->tag'≠.blk):=by
 by_cases hb:tag=.blk
 ·subst hb;obtain⟨a0,h1,h2,h3⟩:=h;have hs:=h2 w (dN.refl w);by_cases hw:(mayWake P u&&u'.status != .blocked&&u'.status != .waiting)=true
  ·refine⟨.w3,_,⟨?_,rfl⟩,.inr ⟨rfl,rfl⟩,fun _ _=>aj⟩;have e:woken P u u' w' a=a0:=by
    unfold woken;rw[if_pos hw,h1];have h4:=hs.1;have h5:=hs.2.1;obtain⟨fr,cs,stt,dy,of⟩:=a0;simp only at h4 h5;subst h4 h5;rfl
   rw[e];exact .stop fun w1 rm=>h2 w1 (hr.trans rm)
  ·refine⟨.blk,_,⟨a0,?_,fun w1 rm=>h2 w1 (hr.trans rm),rfl⟩,.inl rfl,fun h1 h2=>absurd ?_ hw⟩
   ·unfold woken;rw[if_neg hw,h1]
   ·simp[h1,h2]
 ·rw[jQ.eq hb] at h;obtain⟨h1,h2⟩:=h;have cL:=h1.running fun o g w hh=>mV hh;refine⟨tag,.inl (kD P T V fg cQ Fin tag,⟨a,o,w'⟩),?_,.inl rfl,fun _ _=>hb⟩;rw[jQ.eq hb,woken_running cL];exact⟨h1.rely hr,rfl⟩
theorem pN{α:Type}{gs:Array α}(f:α->α)(p k:Nat)(u:α)(h:p≠k):((gs.map f).setIfInBounds p u)[k]?=(gs[k]?).map f:=by
 rw[aT h,aL]
theorem vf{es:Array Event}{g:Nat}{fn:FuncId}{pos:String}(h:∀k,T.T0<=k->t.act? k≠some (.mark (.release (stA T.Wg))))(hu:∀e∈es,e.loc≠.mark (.release (stA T.Wg))):
  ∀k,T.T0<=k->(t++MemOp.ofEvents g fn pos es).act? k≠some (.mark (.release (stA T.Wg))):=by
 intro k hk e;obtain⟨op,ho,X5⟩:=Option.map_eq_some_iff.1 e;rcases getElem?_append_cases ho with⟨cB,pK⟩|⟨_,RY⟩
 ·exact h k hk (by rw[act?_of pK,X5])
 ·obtain⟨ev,jl,rfl⟩:=Go.Conc.mem_ofEvents RY;exact hu ev jl (loc_of_ofEvent X5)
theorem vg{u:Trace}{j:Nat}(h:∀i z,T.T0<=i->t[i]?=some z->z.g=0\/(∃k,k<j/\z.g=T.m0+k)\/z.act.touch?=none)(hu:∀z∈u,z.g=0\/(∃k,k<j/\z.g=T.m0+k)\/z.act.touch?=none):
  ∀i z,T.T0<=i->(t++u)[i]?=some z->z.g=0\/(∃k,k<j/\z.g=T.m0+k)\/z.act.touch?=none:=by
 intro i z hi hz;rcases getElem?_append_cases hz with⟨cB,DR⟩|⟨_,HG⟩
 ·exact h i z hi DR
 ·exact hu z HG
theorem sd{i g:Nat}{u:Trace}(h:∃r,T.T0<=r/\RelBy (stA T.Wg) t (T.m0+i) r/\∀i' a,r<i'->t.g? i'=some (T.m0+i)->touchAt t i'=some a->uh (fun b=>b=T.Wg) a.loc/\a.kind=.atomic)(hu:∀op∈u,op.g=g)(hg:g≠T.m0+i):∃r,T.T0<=r/\RelBy (stA T.Wg) (t++u) (T.m0+i) r/\∀i' a,r<i'->(t++u).g? i'=some (T.m0+i)->touchAt (t++u) i'=some a->uh (fun b=>b=T.Wg) a.loc/\a.kind=.atomic:=by
 obtain⟨r,h1,h2,h3⟩:=h;refine⟨r,h1,h2.appOther hu hg,fun i' a mn VG X6=>?_⟩;obtain⟨z,hz,X3⟩:=Option.map_eq_some_iff.1 VG;rcases getElem?_append_cases hz with⟨cB,DR⟩|⟨_,HG⟩
 ·exact h3 i' a mn (by simp[Trace.g?,DR,X3]) (by rw[<- touchAt_old (u:=u) cB];exact X6)
 ·rw[hu z HG] at X3;exact absurd X3 hg
theorem gv.worker(hT:T.OK)(hV:kE T V fg)(h:gv P T V fg cQ Fin t0 w0 gs w t S D x tag a y st sm){i:Nat}(hi:i<S.j)(tL:S.j<=T.n){g g':aY}{es:Array Event}(hg:gs[T.m0+i]?=some g)(hgo:stepG P false g w=.go g' w' es){d':WD}{ld':lQ}{st' sm':Int}(hj:S'.j=S.j)(Pr:TI T S' (t++MemOp.ofEvents (T.m0+i) g.frame.fn g.frame.place es))(ag0:S'.OK T)(NJ:S'.own 0=S.own 0)(acC:∀k,k≠i->S'.own (T.m0+k)=S.own (T.m0+k))(acD:∀k,k≠i->S'.rc k=S.rc k)(Zt:∀k,k≠i->S'.cl k=S.cl k)(cB:∀z b,S'.own z b->b<w'.heap.size)(fJ:w.heap.size<=w'.heap.size)(acE:dN T (S.own 0) w w')(RZ:∀k,k<S.j->k≠i->cY T k (S.own (T.m0+k)) (S.rc k) w w')(oI:dN T (fun _=>False) w w')(Ps:qP T S.j w w')(Gs:∀k,(S.cl k).isSome=true->(S'.cl k).isSome=true)(Pt:KY P T V fg i (S'.own (T.m0+i)) (S'.rc i) S'.cl d' ld' g' w')(acF:S'.cl i=S.cl i\/(mayWake P g=true/\g'.status=.running))(X7:∀k,k<T.n->∃s r tm,w'.heap[T.ch k]?=some (.chan 0 #[] (S'.cl k).isSome s r tm))(R1:∀i k,S'.rc i k->(S'.cl k).isSome=true)(hrel:d'.stage<=6->∃r,T.T0<=r/\RelBy (stA T.Wg) (t++MemOp.ofEvents (T.m0+i) g.frame.fn g.frame.place es) (T.m0+i) r/\∀i' a,r<i'->(t++MemOp.ofEvents (T.m0+i) g.frame.fn g.frame.place es).g? i'=some (T.m0+i)->touchAt (t++MemOp.ofEvents (T.m0+i) g.frame.fn g.frame.place es) i'=some a->uh (fun b=>b=T.Wg) a.loc/\a.kind=.atomic)(acG:deafBehind (D i).deaf es=d'.deaf)(LK:∀e∈es,e.loc≠.mark (.release (stA T.Wg)))(px:WgAt T.ty T.Wg w' st' sm')(kj:∀tag',(tag'=tag\/(tag=.blk/\tag'=.w3))->(mayWake P g=true->g'.status=.running->tag'≠.blk)->Go.ConcN.Mode S.j (upd D i d') tag' st' sm'):
  ∃gP tag' a' y',runT P (crowd gs w sl) (T.m0+i)=(.next (crowd gP w' sl),MemOp.ofEvents (T.m0+i) g.frame.fn g.frame.place es)/\(tag'=tag\/(tag=.blk/\tag'=.w3)) /\
   gv P T V fg cQ Fin t0 w0 gP w' (t++MemOp.ofEvents (T.m0+i) g.frame.fn g.frame.place es) S' (upd D i d') (upd (fun k=>mH w' (x k)) (T.m0+i) ld') tag' a' y' st' sm'/\∀k,k≠T.m0+i->iY T (mH w' (x k)) (x k):=by
 have LL:=hT.m0;have UW:T.m0+i≠0:=aa;have KZ:(T.m0+i==0)=false:=dX;obtain⟨tag',y',K0,vh,hs3⟩:=h.LJ.Pq acE g g';have cL:=runT_crowd_go (P:=P) (sl:=sl) (i:=T.m0+i) hg (by rw[KZ];exact hgo);have A0:T.m0+i<gs.size:=by rw[h.size];omega
 have hu:∀op∈MemOp.ofEvents (T.m0+i) g.frame.fn g.frame.place es,op.g=T.m0+i:=g_of_ofEvents;have K1:∀k,k≠T.m0+i->Deaf (t++MemOp.ofEvents (T.m0+i) g.frame.fn g.frame.place es) k=Deaf t k:=fun k hk=>Deaf_other t (bq hk) _ hu;have HH:∀k,k<S.j->k≠i->iY T (mH w' (x (T.m0+k))) (x (T.m0+k))/\∃gk,gs[T.m0+k]?=some gk/\KY P T V fg k (S'.own (T.m0+k)) (S'.rc k) S'.cl (D k) (mH w' (x (T.m0+k))) (woken P g g' w' gk) w':=by
  intro k hk Pu;obtain⟨gk,h1,h2⟩:=h.wk k hk;obtain⟨h3,h4⟩:=h2.Pq (cl':=S'.cl) hV (RZ k hk Pu) (x:=g) (x':=g') (Zt k Pu) Gs (fun k' hn _=>by
   by_cases e:k'=i
   ·subst e;rcases acF with hw|hw
    ·exact .inl (hw.trans hn)
    ·exact .inr hw
   ·exact .inl ((Zt k' e).trans hn)) (fun k' hd=>X7 k' (by have:=hT.dep k k' aa hd;omega))
  refine⟨h3,gk,h1,?_⟩;rw[acC k Pu,acD k Pu];exact h4
 refine⟨_,tag',woken P g g' w' a,y',cL,vh,?_,?_⟩
 ·refine⟨by simp[h.size,hj],?_,by rw[NJ];exact K0,?_,fun k k0 km=>?_,fun k hk=>?_,fun k hk=>?_,?_,fun k hk=>?_,fun k hk=>?_,Pr,ag0,cB,aX h.h0 fJ,px,by rw[hj];exact kj tag' vh hs3,X7,R1,fun k hk=>?_,fun i' k hr=>?_,fun k hk eI=>?_,vf h.norel LK,?_,?_,h.same.trans oI,by rw[hj];exact h.DW.trans Ps,h.idle0⟩
  ·rw[pN _ _ _ _ UW,h.E9];rfl
  ·rw[K1 0 (bq UW),hj];have:=h.uk;rcases vh with rfl|⟨rfl,rfl⟩
   ·exact this
   ·exact this
  ·obtain⟨gk,q,h1,h2,h3⟩:=h.old k k0 km;have dJ:T.m0+i≠k:=aa;refine⟨gk,q,by rw[pN _ _ _ _ dJ,h1,aK,woken_quitsD h3],by rw[upd_ne _ _ (bq dJ),h2];rfl,by rw[K1 k (bq dJ)];exact h3⟩
  ·rw[hj] at hk;by_cases e:k=i
   ·subst e;exact⟨g',by simp[A0],by rw[upd_same,upd_same];exact Pt⟩
   ·obtain⟨_,gk,h1,h2⟩:=HH k hk e;have dJ:T.m0+i≠T.m0+k:=aa;exact⟨_,by rw[pN _ _ _ _ dJ,h1];rfl,by rw[upd_ne _ _ e,upd_ne _ _ (bq dJ)];exact h2⟩
  ·rw[hj] at hk;rw[upd_ne _ _ aa,h.rest k hk];rfl
  ·rw[upd_ne _ _ (bq UW),h.zero];rfl
  ·rw[hj] at hk;by_cases e:k=i
   ·subst e;rw[Deaf_own,h.deafW k hk,upd_same];exact acG
   ·rw[K1 _ aa,h.deafW k hk,upd_ne _ _ e]
  ·have lX:gs.size<=k:=by simpa using hk
   rw[K1 k (by rw[h.size] at lX;omega)];exact h.above k lX
  ·rw[hj] at hk;rw[Zt k aa];exact h.Zs k hk
  ·rw[hj];by_cases e:i'=i
   ·subst e;exact hi
   ·rw[acD i' e] at hr;exact h.US i' k hr
  ·rw[hj] at hk;by_cases e:k=i
   ·subst e;rw[upd_same] at eI;exact hrel eI
   ·rw[upd_ne _ _ e] at eI;exact sd (h.rel k hk eI) hu aa
  ·rw[hj];exact vg h.UQ fun z hz=>.inr (.inl ⟨i,hi,hu z hz⟩)
  ·obtain⟨U,hU⟩:=h.ext;exact⟨U++MemOp.ofEvents (T.m0+i) g.frame.fn g.frame.place es,by rw[hU,dG]⟩
 ·intro k hk;rcases bh k with rfl|nD
  ·rw[h.zero];exact rfl
  ·rcases b7 k T.m0 with ql | Pv
   ·obtain⟨gk,q,_,h2,_⟩:=h.old k nD ql;rw[h2];exact rfl
   ·rcases b7 k (T.m0+S.j) with Rc|DX
    ·have:=(HH (k-T.m0) aa aa).1;rw[show T.m0+(k-T.m0)=k by omega] at this;exact this
    ·rw[h.rest k DX];exact rfl
end
end
section
open Go.ConcR (KK wgBlock WgAt stA smA rd wr mk Payload g_of_ofEvents loc_of_ofEvent)
variable [Payload]
section
variable {P:Program} {T:dq} {V:Nat->ae->Prop} {fg:Nat->(Nat->Prop)->ae->Prop} {cQ Fin:eT} {t0:Trace} {w0:ae}
 {gs:Array aY} {w w':ae} {t:Trace} {S S':jK} {D:Nat->WD} {x:Nat->lQ} {tag:CTag} {a:aY} {y:jL} {st sm:Int} {sl:Option (Nat×Nat)}
theorem gv.Zu(hT:T.OK)(hV:kE T V fg)(h:gv P T V fg cQ Fin t0 w0 gs w t S D x tag a y st sm)(tL:S.j<=T.n){k:Nat}(k0:0<k)(km:k<T.m0){g:aY}(hg:gs[k]?=some g)(cL:g.status=.running):
  ∃gP tag' a' y' x' ops,runT P (crowd gs w sl) k=(.next (crowd gP w sl),ops)/\(tag'=tag\/(tag=.blk/\tag'=.w3)) /\
   gv P T V fg cQ Fin t0 w0 gP w (t++ops) S D x' tag' a' y' st sm/\nG P T V (x' k) (x k)/\∀k',k'≠k->iY T (x' k') (x k'):=by
 obtain⟨g1,q,h1,h2,h3⟩:=h.old k k0 km;rw[hg] at h1;cases h1;obtain⟨q',g',es,hm,eI,hq⟩:∃q' g' es,(∀e∈es,Event.mute e=true)/\(∀w,stepG P false g w=.go g' w es)/\QuitsD P q' (deafBehind (Deaf t k) es) g'/\q=q'+1:=by
  cases q with
  |zero=>rw[h3.1] at cL;cases cL
  |succ q' =>
   rcases h3 with⟨hf,_⟩|⟨_,g',es,hm,eI,hq⟩
   ·rw[hf] at cL;cases cL
   ·exact⟨q',g',es,hm,eI,hq,rfl⟩
 obtain⟨hq,rfl⟩:=hq;have KZ:(k==0)=false:=dX;have HU:k≠0:=aa;have ui:=runT_crowd_go (P:=P) (sl:=sl) (i:=k) hg (by rw[KZ];exact eI w);obtain⟨tag',y',K0,vh,hs3⟩:=h.LJ.Pq (dN.refl w) g g';have hu:∀op∈MemOp.ofEvents k g.frame.fn g.frame.place es,op.g=k:=g_of_ofEvents;have hn:∀op∈MemOp.ofEvents k g.frame.fn g.frame.place es,op.act.touch?=none:=fun op eR=>by obtain⟨e,he,rfl⟩:=Go.Conc.mem_ofEvents eR;exact touch_mute (hm e he)
 have K1:∀k',k'≠k->Deaf (t++MemOp.ofEvents k g.frame.fn g.frame.place es) k'=Deaf t k':=fun k' hk=>Deaf_other t (bq hk) _ hu;have A0:k<gs.size:=(Array.getElem?_eq_some_iff.1 hg).1;have HH:∀i,i<S.j->iY T (mH w (x (T.m0+i))) (x (T.m0+i))/\∃gk,gs[T.m0+i]?=some gk/\KY P T V fg i (S.own (T.m0+i)) (S.rc i) S.cl (D i) (mH w (x (T.m0+i))) (woken P g g' w gk) w:=by
  intro i hi;obtain⟨gk,h1,h2⟩:=h.wk i hi;obtain⟨h3,h4⟩:=h2.Pq (cl':=S.cl) hV (cY.refl w) (x:=g) (x':=g') rfl (fun _ hk=>hk) (fun k' hn _=>.inl hn) (fun k' hd=>h.chan k' (by have:=hT.dep i k' aa hd;omega));exact⟨h3,gk,h1,h4⟩
 refine⟨_,tag',woken P g g' w a,y',upd (fun k=>mH w (x k)) k (.inr q'),_,ui,vh,?_,?_,?_⟩
 ·refine⟨by simp[h.size],?_,K0,?_,fun k' k0' km'=>?_,fun i hi=>?_,fun k' lX=>?_,?_,fun i hi=>?_,fun k' lX=>?_,h.ti.mute hu hn,h.tA,h.lt,h.h0,h.wg,h.mode.retag vh,h.chan,h.UU,h.Zs,h.US,fun i hi eI=>sd (h.rel i hi eI) hu aa,vf h.norel fun e he hl=>?_,vg h.UQ fun z hz=>.inr (.inr (hn z hz)),?_,h.same,h.DW,h.idle0⟩
  ·rw[pN _ _ _ _ HU,h.E9];rfl
  ·rw[K1 0 (bq HU)];have:=h.uk;rcases vh with rfl|⟨rfl,rfl⟩
   ·exact this
   ·exact this
  ·by_cases e:k'=k
   ·subst e;exact⟨g',q',by simp[A0],by rw[upd_same],by rw[Deaf_own];exact hq⟩
   ·obtain⟨gk,q,h1,h2,h3⟩:=h.old k' k0' km';exact⟨gk,q,by rw[pN _ _ _ _ (bq e),h1,aK,woken_quitsD h3],by rw[upd_ne _ _ e,h2];rfl,by rw[K1 k' e];exact h3⟩
  ·obtain⟨_,gk,h1,h2⟩:=HH i hi;have dJ:k≠T.m0+i:=aa;exact⟨_,by rw[pN _ _ _ _ dJ,h1];rfl,by rw[upd_ne _ _ (bq dJ)];exact h2⟩
  ·rw[upd_ne _ _ aa,h.rest k' lX];rfl
  ·rw[upd_ne _ _ (bq HU),h.zero];rfl
  ·rw[K1 _ aa];exact h.deafW i hi
  ·have R2:gs.size<=k':=by simpa using lX
   rw[K1 k' aa];exact h.above k' R2
  ·have:=hm e he;obtain⟨loc,qe,sy⟩:=e;simp only at hl;subst hl;simp[Event.mute] at this
  ·obtain⟨U,hU⟩:=h.ext;exact⟨U++MemOp.ofEvents k g.frame.fn g.frame.place es,by rw[hU,dG]⟩
 ·rw[upd_same,h2];exact bI _
 ·intro k' lX;rw[upd_ne _ _ lX];rcases bh k' with rfl|nD
  ·rw[h.zero];exact rfl
  ·rcases b7 k' T.m0 with ql | Pv
   ·obtain⟨gk,q,_,h2,_⟩:=h.old k' nD ql;rw[h2];exact rfl
   ·rcases b7 k' (T.m0+S.j) with Rc|DX
    ·have:=(HH (k'-T.m0) aa).1;rw[show T.m0+(k'-T.m0)=k' by omega] at this;exact this
    ·rw[h.rest k' DX];exact rfl
theorem gv.R3(h:gv P T V fg cQ Fin t0 w0 gs w t S D x tag a y st sm)(p c:Nat):partners (gs.setIfInBounds p ph) c true=[]:=by
 refine partners_nil fun j g hg=>?_;rcases getElem?_stand gs p j g hg with⟨_,rfl⟩|⟨_,Aw⟩
 ·exact offersAt_ph c true
 ·have cB:j<T.m0+S.j:=by have:=(Array.getElem?_eq_some_iff.1 Aw).1;rw[h.size] at this;exact this
  rcases bh j with rfl|nD
  ·rw[h.E9] at Aw;cases Aw;by_cases hb:tag=.blk
   ·subst hb;obtain⟨a0,h1,h2,_⟩:=h.LJ;have ho:=(h2 w (dN.refl w)).2.1;rw[h1];simp[offersAt,ho]
   ·have hs:=h.LJ;rw[jQ.eq hb] at hs;exact offersAt_of_not_blocked (by rw[hs.1.running fun o g w hh=>mV hh];simp) c true
  ·rcases b7 j T.m0 with hj|hj
   ·obtain⟨g1,q,h1,_,h3⟩:=h.old j nD hj;rw[Aw] at h1;cases h1;exact offersAt_of_not_blocked (by rcases h3.status with e|e<;>rw[e]<;>simp) c true
   ·obtain⟨g1,h1,h2⟩:=h.wk (j-T.m0) aa;rw[show T.m0+(j-T.m0)=j by omega,Aw] at h1;cases h1;rcases h2 with⟨_,_,_,g0,tr,_,h5,h6⟩|⟨_,_,_,C,v,_,h5,_⟩
    ·rcases h6 with⟨h6,_⟩|⟨_,k,z,f,_,_,⟨h9,_⟩|⟨h9,_⟩⟩
     ·rw[h6];exact offersAt_of_not_blocked (by rw[h5.look.1];simp) c true
     ·rw[h9];exact offersAt_parked_recv' _ _ _ _ _
     ·rw[h9];exact offersAt_of_not_blocked aj c true
    ·exact offersAt_of_not_blocked (by rcases h5.status with e|e<;>rw[e]<;>simp) c true
theorem gv.put(h:gv P T V fg cQ Fin t0 w0 gs w t S D x tag a y st sm)(LL:0<T.m0){i:Nat}(hi:i<S.j){g':aY}{ld':lQ}{u:Trace}(hj:S'.j=S.j)(fy:S'.own=S.own)(fB:S'.cl=S.cl)(GC:∀k,k≠i->S'.rc k=S.rc k)(R1:∀i k,S'.rc i k->(S.cl k).isSome=true)(Pr:TI T S' (t++u))(hu:∀op∈u,op.g=T.m0+i)(hq:∀op∈u,∀m,op.act≠.mark m)(h7:(D i).stage=7)(Pt:KY P T V fg i (S.own (T.m0+i)) (S'.rc i) S.cl (D i) ld' g' w):
  gv P T V fg cQ Fin t0 w0 (gs.setIfInBounds (T.m0+i) g') w (t++u) S' D (upd x (T.m0+i) ld') tag a y st sm:=by
 have A0:T.m0+i<gs.size:=by rw[h.size];omega
 have UW:T.m0+i≠0:=aa;have VI:∀k,Deaf (t++u) k=Deaf t k:=fun k=>Deaf_still t k u fun op eR=>⟨hq op eR _,hq op eR _⟩;refine⟨by simp[h.size,hj],?_,by rw[fy];exact h.LJ,by rw[VI,hj];exact h.uk,fun k k0 km=>?_,fun k hk=>?_,fun k hk=>?_,?_,fun k hk=>?_,fun k hk=>?_,Pr,?_,fun z b hb=>h.lt z b (by rw[<- fy];exact hb),h.h0,h.wg,by rw[hj];exact h.mode,by rw[fB];exact h.chan,by rw[fB];exact R1,by rw[hj,fB];exact h.Zs,fun i' k hr=>?_,fun k hk eI=>?_,fun k hk e=>?_,?_,?_,h.same,by rw[hj];exact h.DW,h.idle0⟩
 ·rw[aT UW];exact h.E9
 ·obtain⟨gk,q,h1,h2,h3⟩:=h.old k k0 km;exact⟨gk,q,by rw[aT aa];exact h1,by rw[upd_ne _ _ aa];exact h2,by rw[VI];exact h3⟩
 ·rw[hj] at hk;by_cases e:k=i
  ·subst e;exact⟨g',by simp[A0],by rw[upd_same,fy,fB];exact Pt⟩
  ·obtain⟨gk,h1,h2⟩:=h.wk k hk;exact⟨gk,by rw[aT aa];exact h1,by rw[upd_ne _ _ aa,fy,fB,GC k e];exact h2⟩
 ·rw[hj] at hk;rw[upd_ne _ _ aa];exact h.rest k hk
 ·rw[upd_ne _ _ (bq UW)];exact h.zero
 ·rw[hj] at hk;rw[VI];exact h.deafW k hk
 ·rw[VI];exact h.above k (by simpa using hk)
 ·exact⟨fun z b hb=>h.tA.new z b (by rw[<- fy];exact hb),fun z z' b h1 h2=>h.tA.one z z' b (by rw[<- fy];exact h1) (by rw[<- fy];exact h2),fun z b hb=>by rw[hj];exact h.tA.mem z b (by rw[<- fy];exact hb)⟩
 ·rw[hj];by_cases e:i'=i
  ·subst e;exact hi
  ·rw[GC i' e] at hr;exact h.US i' k hr
 ·rw[hj] at hk;have Pu:k≠i:=by rintro rfl;omega
  exact sd (h.rel k hk eI) hu aa
 ·obtain⟨op,ho,X5⟩:=Option.map_eq_some_iff.1 e;rcases getElem?_append_cases ho with⟨cB,pK⟩|⟨_,RY⟩
  ·exact h.norel k hk (by rw[act?_of pK,X5])
  ·exact hq op RY _ X5
 ·rw[hj];exact vg h.UQ fun z hz=>.inr (.inl ⟨i,hi,hu z hz⟩)
 ·obtain⟨U,hU⟩:=h.ext;exact⟨U++u,by rw[hU,dG]⟩
end
end
section
open Go.ConcR (KK wgBlock WgAt stA smA rd wr mk Payload g_of_ofEvents loc_of_ofEvent)
variable [Payload]
def Cp(P:Program)(T:dq)(V:Nat->ae->Prop)(p:Nat)(S S':jK)(D D':Nat->WD)(tag tag':CTag)(x x':Nat->lQ):Prop :=
 pM T S' D' tag'<pM T S D tag\/(pM T S' D' tag'=pM T S D tag/\nG P T V (x' p) (x p)/\∀k,k≠p->iY T (x' k) (x k))
section
variable {P:Program} {T:dq} {V:Nat->ae->Prop} {fg:Nat->(Nat->Prop)->ae->Prop} {cQ Fin:eT} {t0:Trace} {w0:ae}
 {gs:Array aY} {w w':ae} {t:Trace} {S S':jK} {D:Nat->WD} {x:Nat->lQ} {tag:CTag} {a:aY} {y:jL} {st sm:Int} {sl:Option (Nat×Nat)}
theorem Cq{α:Type}(f:Nat->α)(i:Nat):upd f i (f i)=f:=by
 funext k;by_cases e:k=i
 ·subst e;rw[upd_same]
 ·rw[upd_ne _ _ e]
theorem Pw{i:Nat}{o rc:Nat->Prop}{es:Array Event}(h:∀e∈es,NG T i o rc e)(d:Nat):deafBehind d es=d:=deafBehind_still (fun e he=>⟨(h e he).2.1,(h e he).2.2.1⟩) d
theorem IC{i:Nat}(hT:T.OK)(hS:S.OK T)(hi:i<S.j)(hh:T.H0<=w.heap.size)(hl:∀z b,S.own z b->b<w.heap.size):({S with own:=upd S.own (T.m0+i) (grow (S.own (T.m0+i)) w w')}:jK).OK T:=by
 have key:∀z b,(upd S.own (T.m0+i) (grow (S.own (T.m0+i)) w w')) z b->S.own z b\/(z=T.m0+i/\w.heap.size<=b):=by
  intro z b hb;by_cases e:z=T.m0+i
  ·subst e;rw[upd_same] at hb;exact hb.imp id fun hh=>⟨rfl,hh.1⟩
  ·rw[upd_ne _ _ e] at hb;exact .inl hb
 refine⟨fun z b hb=>?_,fun z z' b h1 h2=>?_,fun z b hb=>?_⟩
 ·rcases key z b hb with h|⟨_,h⟩
  ·exact hS.new z b h
  ·omega
 ·rcases key z b h1 with h1|⟨e1,h1⟩<;>rcases key z' b h2 with h2|⟨e2,h2⟩
  ·exact hS.one z z' b h1 h2
  ·have:=hl z b h1;omega
  ·have:=hl z' b h2;omega
  ·rw[e1,e2]
 ·rcases key z b hb with h|⟨e,_⟩
  ·exact hS.mem z b h
  ·exact .inr ⟨i,hi,e⟩
theorem Fa{tag':CTag}(hs:tag'=tag\/(tag=.blk/\tag'=.w3)):pM T S D tag'=pM T S D tag:=by simp only[pM,phi_retag _ _ hs]
theorem gv.VJ(hT:T.OK)(hV:kE T V fg)(h:gv P T V fg cQ Fin t0 w0 gs w t S D x tag a y st sm)(tL:S.j<=T.n){i:Nat}(hi:i<S.j){g g0 g':aY}{es:Array Event}{tr:Bool}(hg:gs[T.m0+i]?=some g)(fB:S.cl i=none)(h7:(D i).stage=7)(DT:(D i).deaf=0)(hx:x (T.m0+i)=.inl (i,⟨g0,S.own (T.m0+i),S.rc i,w⟩,tr))(ag1:stepG P false g0 w=.go g' w' es)(hgo:stepG P false g w=.go g' w' es)(K2:LF T i (S.own (T.m0+i)) w w')(jl:∀e∈es,NG T i (grow (S.own (T.m0+i)) w w') (S.rc i) e)(K3:gT P T i V (Ei P T fg i) ⟨g',grow (S.own (T.m0+i)) w w',S.rc i,w'⟩):
  ∃gP w' S' D' x' tag' a' y' st' sm' ops,runT P (crowd gs w sl) (T.m0+i)=(.next (crowd gP w' sl),ops)/\S'.j=S.j/\gv P T V fg cQ Fin t0 w0 gP w' (t++ops) S' D' x' tag' a' y' st' sm'/\Cp P T V (T.m0+i) S S' D D' tag tag' x x':=by
 have rU:i<T.n:=aa;have hoH:∀b,S.own (T.m0+i) b->T.H0<=b:=fun b hb=>h.tA.new _ b hb;have nch:∀k,k<T.n->w'.heap[T.ch k]?=w.heap[T.ch k]?:=fun k hk=>K2.rest _ (by have:=(hT.ch k hk).1;have:=h.h0;omega) (fun hb=>by have:=hoH _ hb;have:=(hT.ch k hk).1;omega) (fun hs=>(hT.sh _ hs).2.2 k hk rfl);have Zv:w'.heap[T.Wg]?=w.heap[T.Wg]?:=K2.rest _ (by have:=hT.wg;have:=h.h0;omega) (fun hb=>by have:=hoH _ hb;have:=hT.wg;omega) (fun hs=>(hT.sh _ hs).2.1 rfl);have ag2:∀k,¬S.rc k i:=fun k hk=>by have:=h.UU k i hk;rw[fB] at this;cases this
 have A1:∀z,z≠T.m0+i->∀b,S.own z b->T.H0<=b/\b<w.heap.size/\¬S.own (T.m0+i) b:=fun z hz b hb=>⟨h.tA.new z b hb,h.lt z b hb,fun nC=>hz (h.tA.one _ _ _ hb nC)⟩;have LL:=hT.m0;have Pr:TI T {S with own:=upd S.own (T.m0+i) (grow (S.own (T.m0+i)) w w')} (t++MemOp.ofEvents (T.m0+i) g.frame.fn g.frame.place es):=by
  refine(h.ti.grow (own':=upd S.own (T.m0+i) (grow (S.own (T.m0+i)) w w')) fun z b hb=>?_).app hT (IC hT h.tA hi h.h0 h.lt) (x:=T.m0+i) (.inr ⟨i,hi,rfl⟩) g_of_ofEvents fun op eR b hb hm=>?_
  ·by_cases e:z=T.m0+i
   ·subst e;rw[upd_same];exact .inl hb
   ·rw[upd_ne _ _ e];exact hb
  ·obtain⟨e,he,rfl⟩:=Go.Conc.mem_ofEvents eR;rcases(jl e he).1 b hb hm with⟨c,h1,h2⟩|h1|⟨k,h1,h2,h3⟩|h1
   ·exact .inr (.inl ⟨c,by simp only[upd_same];exact h1,h2⟩)
   ·exact .inr (.inr (.inl ⟨i,rfl,h1,fB⟩))
   ·exact .inr (.inr (.inr (.inl ⟨i,k,rfl,h1,h2,h3⟩)))
   ·exact .inr (.inr (.inr (.inr h1)))
 obtain⟨gP,tag',a',y',r1,r2,r3,r4⟩:=gv.worker (sl:=sl) hT hV h hi tL hg hgo (S':={S with own:=upd S.own (T.m0+i) (grow (S.own (T.m0+i)) w w')}) (d':=D i) (ld':=.inl (i,⟨g',grow (S.own (T.m0+i)) w w',S.rc i,w'⟩,false)) (st':=st) (sm':=sm) rfl Pr (IC hT h.tA hi h.h0 h.lt)
  (by simp only;rw[upd_ne _ _ aa]) (fun k hk=>by simp only;rw[upd_ne _ _ aa]) (fun _ _=>rfl) (fun _ _=>rfl)
  (fun z b hb=>by
   simp only at hb;by_cases e:z=T.m0+i
   ·subst e;rw[upd_same] at hb;rcases hb with hb|hb
    ·exact bz (h.lt _ b hb) K2.size
    ·exact hb.2
   ·rw[upd_ne _ _ e] at hb;exact bz (h.lt _ b hb) K2.size)
  K2.size (K2.LG hT h.h0 hoH (A1 0 aa)) (fun k hk Pu=>K2.Cn hT Pu aa h.h0 hoH (A1 _ aa) (ag2 k)) (K2.LG hT h.h0 hoH (fun _ hb=>hb.elim)) (K2.keep hT hi) (fun _ hk=>hk)
  (.inl ⟨fB,h7,DT,g',false,by simp only[upd_same],by simp only[upd_same];exact K3,.inl ⟨rfl,rfl⟩⟩) (.inl rfl) (fun k hk=>by rw[nch k hk];exact h.chan k hk) h.UU (fun h6=>aa) (by rw[Pw jl]) (fun e he=>(jl e he).2.2.2 _) (h.wg.of_block Zv)
  (fun tag' ht _=>by rw[Cq];exact h.mode.retag ht)
 refine⟨gP,w',{S with own:=upd S.own (T.m0+i) (grow (S.own (T.m0+i)) w w')},upd D i (D i),_,tag',a',y',st,sm,_,r1,rfl,r3,.inr ⟨?_,?_,fun k hk=>by rw[upd_ne _ _ hk];exact r4 k hk⟩⟩
 ·rw[Cq];show pM T {S with own:=upd S.own (T.m0+i) (grow (S.own (T.m0+i)) w w')} D tag'=pM T S D tag;rw[<- Fa (T:=T) (S:=S) (D:=D) r2];rfl
 ·rw[upd_same,hx];obtain⟨s,r,tm,hc⟩:=h.chan i rU;rw[fB] at hc;exact⟨rfl,.inl (.inl ⟨w,es,s,r,tm,cY.refl w,ag1,rfl,rfl,hc,nch i rU⟩)⟩
theorem gv.Px(hT:T.OK)(hV:kE T V fg)(h:gv P T V fg cQ Fin t0 w0 gs w t S D x tag a y st sm)(tL:S.j<=T.n){i:Nat}(hi:i<S.j){g g':aY}(hg:gs[T.m0+i]?=some g)(fB:S.cl i=none)(h7:(D i).stage=7)(DT:(D i).deaf=0){s r:Nat}{tm:Bool}(hc:w.heap[T.ch i]?=some (.chan 0 #[] false s r tm))(hgo:stepG P false g w=.go g' (w.setChan (T.ch i) 0 #[] true s r tm) (gQ (T.ch i)))(X8:mayWake P g=true)(R4:g'.status=.running)(hVi:V i w)(hE:Ei P T fg i (S.own (T.m0+i)) g' (w.setChan (T.ch i) 0 #[] true s r tm)):
  ∃gP w' S' D' x' tag' a' y' st' sm' ops,runT P (crowd gs w sl) (T.m0+i)=(.next (crowd gP w' sl),ops)/\S'.j=S.j/\gv P T V fg cQ Fin t0 w0 gP w' (t++ops) S' D' x' tag' a' y' st' sm'/\Cp P T V (T.m0+i) S S' D D' tag tag' x x':=by
 have rU:i<T.n:=aa;have LL:=hT.m0;have hh:=pL w (T.ch i) s r tm;have fJ:(w.setChan (T.ch i) 0 #[] true s r tm).heap.size=w.heap.size:=by simp[World.setChan]
 have cB:T.ch i<w.heap.size:=(Array.getElem?_eq_some_iff.1 hc).1;obtain⟨C,v,m,e1,e2,e3⟩:=hE;have R5:MemOp.ofEvents (T.m0+i) g.frame.fn g.frame.place (gQ (T.ch i))=#[{g:=T.m0+i,fn:=g.frame.fn,pos:=g.frame.place,act:=.access ⟨.obj (T.ch i),false,true⟩}]++#[{g:=T.m0+i,fn:=g.frame.fn,pos:=g.frame.place,act:=.close (T.ch i)}]:=by rw[ofEvents_eq];simp[MemAct.ofEvent,gQ]
 have Pr:TI T {S with cl:=upd S.cl i (some (t.size+1))} (t++MemOp.ofEvents (T.m0+i) g.frame.fn g.frame.place (gQ (T.ch i))):=by
  rw[R5,<- dG];have hd1:Deaf (t++#[({g:=T.m0+i,fn:=g.frame.fn,pos:=g.frame.place,act:=.access ⟨.obj (T.ch i),false,true⟩}:MemOp)]) (T.m0+i)=0:=by
   have:=Deaf_own t (T.m0+i) g.frame.fn g.frame.place #[⟨.obj (T.ch i),false,true⟩];rw[h.deafW i hi,DT] at this;simpa[MemOp.ofEvents,MemAct.ofEvent,deafBehind] using this
  have h1:TI T S (t++#[({g:=T.m0+i,fn:=g.frame.fn,pos:=g.frame.place,act:=.access ⟨.obj (T.ch i),false,true⟩}:MemOp)]):=by
   refine h.ti.app hT h.tA (x:=T.m0+i) (.inr ⟨i,hi,rfl⟩) (fun op eR=>by simp at eR;rw[eR]) fun op eR b hb hm=>?_;simp at eR;subst eR;simp only[MemAct.touch?,ay] at hb;subst hb;refine .inr (.inr (.inr (.inr ⟨⟨fun b hb=>?_,fun k hk=>?_,hT.RS i rU⟩,rfl⟩)))
   ·have:T.ch i=b:=hb;subst this;exact hT.ch i rU
   ·obtain⟨a',e,_⟩:=hT.ownSh k _ hk;cases e
  have h2:=h1.close hi fB (z:={g:=T.m0+i,fn:=g.frame.fn,pos:=g.frame.place,act:=.close (T.ch i)}) rfl rfl hd1;simpa using h2
 have lY:∀a,T.kg i (.cell a)->(w.setChan (T.ch i) 0 #[] true s r tm).cell? a=w.cell? a:=fun a ha=>by
  obtain⟨a',e,hs⟩:=hT.ownSh i _ ha;cases e;exact cell_of (hh _ (bq ((hT.sh _ hs).2.2 i rU)))
 obtain⟨gP,tag',a',y',r1,r2,r3,r4⟩:=gv.worker (sl:=sl) hT hV h hi tL hg hgo (S':={S with cl:=upd S.cl i (some (t.size+1))}) (d':=⟨7,m,0⟩) (ld':=.inr m) (st':=st) (sm':=sm) rfl Pr ⟨h.tA.new,h.tA.one,h.tA.mem⟩
  rfl (fun _ _=>rfl) (fun _ _=>rfl) (fun k hk=>by simp only;rw[upd_ne _ _ hk]) (fun z b hb=>by rw[fJ];exact h.lt z b hb) (bH fJ.symm) (Co hT rU (fun b hb=>h.tA.new _ b hb))
  (fun k hk Pu=>LH hT aa Pu rU (fun b hb=>h.tA.new _ b hb) hc) (Co hT rU (fun _ hb=>hb.elim)) (qP.Cm hT fun b hb=>hh b (bq ((hT.sh b hb).2.2 i rU)))
  (fun k hk=>by
   simp only;by_cases e:k=i
   ·subst e;rw[upd_same];rfl
   ·rw[upd_ne _ _ e];exact hk)
  (.inr ⟨by simp only;rw[upd_same];rfl,rfl,hV.v i w _ lY hVi,C,v,e1,.r0 e2,e3⟩) (.inr ⟨X8,R4⟩)
  (fun k hk=>by
   by_cases e:k=i
   ·subst e;exact⟨s,r,tm,by simp[World.setChan,cB,upd_same]⟩
   ·obtain⟨s',r',tm',lX⟩:=h.chan k hk;exact⟨s',r',tm',by simp only;rw[upd_ne _ _ e,hh _ (fun x=>e (hT.xY _ _ hk rU x))];exact lX⟩)
  (fun i' k hk=>by
   simp only;by_cases e:k=i
   ·subst e;rw[upd_same];rfl
   ·rw[upd_ne _ _ e];exact h.UU i' k hk)
  (fun h6=>by simp at h6) (by rw[DT];simp[deafBehind,gQ]) (fun e he=>by simp[gQ] at he;rcases he with rfl|rfl<;>simp) (h.wg.of_block (hh _ (bq (hT.ch i rU).2)))
  (fun tag' ht _=>by
   have:=h.mode.same (i:=i) m 0;rw[h7] at this;exact this.retag ht)
 refine⟨gP,_,{S with cl:=upd S.cl i (some (t.size+1))},upd D i ⟨7,m,0⟩,_,tag',a',y',st,sm,_,r1,rfl,r3,.inl ?_⟩;have ev:=Vc_upd D (⟨7,m,0⟩:WD) hi;have es:=sumTo_upd D (⟨7,m,0⟩:WD) WD.stage hi;have el:=sumTo_upd S.cl (some (t.size+1)) (fun c=>if c=none then 1 else 0) hi;have c1:cnt (D i)=1:=by simp[cnt,h7]
 have c2:cnt (⟨7,m,0⟩:WD)=1:=rfl;have hv:Vc S.j (upd D i ⟨7,m,0⟩)=Vc S.j D:=aa;simp only[fB,if_true,h7] at el es;have hl:mU {S with cl:=upd S.cl i (some (t.size+1))}+1=mU S:=by
  simp only[mU];simpa using el
 simp only[pM];rw[hv,phi_retag _ _ r2];simp only[Ssum] at *;omega
end
end
section
open Go.ConcR (KK wgBlock WgAt stA smA rd wr mk Payload g_of_ofEvents loc_of_ofEvent)
variable [Payload]
section
variable {P:Program} {T:dq} {V:Nat->ae->Prop} {fg:Nat->(Nat->Prop)->ae->Prop} {cQ Fin:eT} {t0:Trace} {w0:ae}
 {gs:Array aY} {w w':ae} {t:Trace} {S S':jK} {D:Nat->WD} {x:Nat->lQ} {tag:CTag} {a:aY} {y:jL} {st sm:Int} {sl:Option (Nat×Nat)}
theorem gv.R6(hT:T.OK)(h:gv P T V fg cQ Fin t0 w0 gs w t S D x tag a y st sm)(tL:S.j<=T.n){i:Nat}(hi:i<S.j){g g0:aY}{tr:Bool}(hg:gs[T.m0+i]?=some g)(fB:S.cl i=none)(h7:(D i).stage=7)(DT:(D i).deaf=0)(hx:x (T.m0+i)=.inl (i,⟨g0,S.own (T.m0+i),S.rc i,w⟩,tr))(K3:gT P T i V (Ei P T fg i) ⟨g0,S.own (T.m0+i),S.rc i,w⟩){k:Nat}{z:Value}{f:Bool}(hk:T.dep i k)(hcm:∀w1,cY T i (S.own (T.m0+i)) (S.rc i) w w1->stepG P false g0 w1=.comm g0 #[rcase (T.ch k) z] true (.recv f) w1 #[])(E4:∀w1,cY T i (S.own (T.m0+i)) (S.rc i) w w1->V k w1->gT P T i V (Ei P T fg i) ⟨Go.Conc.served g0 (recvd f z false),S.own (T.m0+i),fun b=>S.rc i b\/b=k,w1⟩)(hgg:stepG P false g w=stepG P false g0 w)(wi:S.cl k=none->tr=false):
  ∃gP w' S' D' x' tag' a' y' st' sm' ops,runT P (crowd gs w sl) (T.m0+i)=(.next (crowd gP w' sl),ops)/\S'.j=S.j/\gv P T V fg cQ Fin t0 w0 gP w' (t++ops) S' D' x' tag' a' y' st' sm'/\Cp P T V (T.m0+i) S S' D D' tag tag' x x':=by
 have rU:i<T.n:=aa;have Pu:=hT.dep i k rU hk;have Iz:k<T.n:=aa;have LL:=hT.m0;have KZ:(T.m0+i==0)=false:=dX;have eI:stepG P (T.m0+i==0) g w=.comm g0 #[rcase (T.ch k) z] true (.recv f) w #[]:=by rw[KZ,hgg];exact hcm w (cY.refl w)
 have e0:MemOp.ofEvents (T.m0+i) g.frame.fn g.frame.place #[]=#[]:=by rw[ofEvents_eq];simp
 obtain⟨s,r,tm,hc⟩:=h.chan k Iz;cases HI:S.cl k with
 |none =>
  rw[HI] at hc;have cL:=crowd_waits (P:=P) (sl:=sl) hg eI (fun cc Lg=>by simp at Lg;subst Lg;exact ways_recv_none hc (h.R3 _ _));rw[e0] at cL;have A2:=h.put LL hi (S':=S) (g':=parked g0 #[rcase (T.ch k) z] (.recv f)) (ld':=.inl (i,⟨g0,S.own (T.m0+i),S.rc i,w⟩,true)) (u:=#[]) rfl rfl rfl (fun _ _=>rfl) h.UU (by simpa using h.ti) aj aj h7
   (.inl ⟨fB,h7,DT,g0,true,rfl,K3,.inr ⟨rfl,k,z,f,hk,hcm,.inl ⟨rfl,HI⟩⟩⟩)
  refine⟨_,w,S,D,_,tag,a,y,st,sm,#[],cL,rfl,A2,.inr ⟨rfl,?_,fun k' lX=>by rw[upd_ne _ _ lX];exact iY.refl _⟩⟩;rw[upd_same,hx,wi HI];exact⟨rfl,.inr ⟨rfl,rfl,rfl,rfl,rfl,cY.refl w⟩⟩
 |some p =>
  rw[HI] at hc;have cL:=crowd_recv_closed (P:=P) (sl:=sl) hg eI hc (h.R3 _ _);rw[e0,finishComm_recv] at cL;have R7:k<S.j:=aa;have hVk:V k w:=by
   obtain⟨gk,_,h2⟩:=h.wk k R7;rcases h2 with⟨h3,_⟩|⟨_,_,h3,_⟩
   ·rw[HI] at h3;cases h3
   ·exact h3
  have erc:({S with rc:=fun a b=>S.rc a b\/(a=i/\b=k)}:jK).rc i=fun b=>S.rc i b\/b=k:=by funext b;simp
  have Pr:=h.ti.recv (i:=i) HI (z:={g:=T.m0+i,fn:=g0.frame.fn,pos:=g0.frame.place,act:=.recvClosed (T.ch k)}) rfl rfl (by rw[h.deafW i hi,DT]);have A2:=h.put LL hi (S':={S with rc:=fun a b=>S.rc a b\/(a=i/\b=k)}) (g':=Go.Conc.served g0 (recvd f z false)) (ld':=.inl (i,⟨Go.Conc.served g0 (recvd f z false),S.own (T.m0+i),fun b=>S.rc i b\/b=k,w⟩,false))
   (u:=#[{g:=T.m0+i,fn:=g0.frame.fn,pos:=g0.frame.place,act:=.recvClosed (T.ch k)}]) rfl rfl rfl (fun k' lX=>by funext b;simp[lX])
   (fun i' k' hr=>by
    rcases hr with hr|⟨_,rfl⟩
    ·exact h.UU i' k' hr
    ·rw[HI];rfl) Pr (fun op eR=>by simp at eR;rw[eR]) (fun op eR m=>by simp at eR;rw[eR];simp) h7
   (.inl ⟨fB,h7,DT,Go.Conc.served g0 (recvd f z false),false,by rw[erc],by rw[erc];exact E4 w (cY.refl w) hVk,.inl ⟨rfl,rfl⟩⟩)
  have eo:(#[]:Array MemOp)++#[({g:=T.m0+i,fn:=g0.frame.fn,pos:=g0.frame.place,act:=.recvClosed (T.ch k)}:MemOp)]=#[{g:=T.m0+i,fn:=g0.frame.fn,pos:=g0.frame.place,act:=.recvClosed (T.ch k)}]:=aj;rw[eo] at cL;refine⟨_,w,{S with rc:=fun a b=>S.rc a b\/(a=i/\b=k)},D,_,tag,a,y,st,sm,_,cL,rfl,A2,.inr ⟨rfl,?_,fun k' lX=>by rw[upd_ne _ _ lX];exact iY.refl _⟩⟩;rw[upd_same,hx];obtain⟨s',r',tm',hci⟩:=h.chan i rU;rw[fB] at hci;exact⟨rfl,.inl (.inr ⟨k,z,f,hk,cY.refl w,hVk,hcm w (cY.refl w),rfl,rfl,rfl,s',r',tm',hci⟩)⟩
theorem gv.R8(hT:T.OK)(hV:kE T V fg)(h:gv P T V fg cQ Fin t0 w0 gs w t S D x tag a y st sm)(tL:S.j<=T.n){i:Nat}(hi:i<S.j){g:aY}(hg:gs[T.m0+i]?=some g)(cL:g.status=.running)(fB:S.cl i=none):
  ∃gP w' S' D' x' tag' a' y' st' sm' ops,runT P (crowd gs w sl) (T.m0+i)=(.next (crowd gP w' sl),ops)/\S'.j=S.j/\gv P T V fg cQ Fin t0 w0 gP w' (t++ops) S' D' x' tag' a' y' st' sm'/\Cp P T V (T.m0+i) S S' D D' tag tag' x x':=by
 have rU:i<T.n:=aa;obtain⟨g1,e1,hw⟩:=h.wk i hi;rw[hg] at e1;cases e1;rcases hw with⟨_,h7,DT,g0,tr,hx,K3,Rh⟩|⟨h1,_⟩
 ·have hr0:g0.status=.running:=K3.look.1;have hgg:stepG P false g w=stepG P false g0 w:=by
   rcases Rh with⟨rfl,_⟩|⟨_,k,z,f,_,_,⟨rfl,_⟩|⟨rfl,_⟩⟩
   ·rfl
   ·cases cL
   ·rw[stepG_tries]
    congr 1
    obtain⟨fr,cs,stt,dy,of⟩:=g0;simp only at hr0;subst hr0;rfl
  obtain⟨_,h1|⟨k,z,f,h1,h2,h3⟩|⟨X8,h1⟩⟩:=K3.look
  ·obtain⟨g',w',es,e1,e2,e3,e4⟩:=h1 w (cY.refl w);exact h.VJ hT hV tL hi hg fB h7 DT hx e1 (hgg.trans e1) e2 e3 e4
  ·refine h.R6 hT tL hi hg fB h7 DT hx K3 h1 h2 h3 hgg fun HI=>?_;rcases Rh with⟨_,ht⟩|⟨_,k',z',f',VK,ag4,⟨rfl,_⟩|⟨_,sP⟩⟩
   ·exact ht
   ·cases cL
   ·exfalso;have ea:=h2 w (cY.refl w);have eb:=ag4 w (cY.refl w);simp only at ea;rw[ea] at eb;simp only[GStep.comm.injEq,Array.mk.injEq,cx,rcase,CommCase.mk.injEq,Value.chan.injEq,ay,and_true,true_and,CommShape.recv.injEq] at eb;have k1:=hT.dep i k rU h1;have k2:=hT.dep i k' rU VK;obtain rfl:=hT.xY k k' aa aa eb.1.1;rw[HI] at sP;cases sP
  ·obtain⟨s,r,tm,hc⟩:=h.chan i rU;rw[fB] at hc;obtain⟨g',e1,e2,e3,e4⟩:=h1 w (cY.refl w) s r tm hc;refine h.Px hT hV tL hi hg fB h7 DT hc (hgg.trans e1) ?_ e2 e3 e4;rcases Rh with⟨rfl,_⟩|⟨_,k,z,f,_,_,⟨rfl,_⟩|⟨rfl,_⟩⟩
   ·exact X8
   ·cases cL
   ·exact X8
 ·rw[fB] at h1;cases h1
end
end
section
open Go.ConcR (KK wgBlock WgAt stA smA rd wr mk Payload DC0 Bk bk_of_mute g_of_ofEvents loc_of_ofEvent ofEvent_loc_mark)
variable [Payload]
structure Zw(T:dq)(S:jK)(i C:Nat)(w w':ae):Prop where
 LG:dN T (S.own 0) w w'
 Cn:∀k,k<S.j->k≠i->cY T k (S.own (T.m0+k)) (S.rc k) w w'
 same:dN T (fun _=>False) w w'
 DW:qP T S.j w w'
 size:w'.heap.size=w.heap.size
 chan:∀k,k<T.n->w'.heap[T.ch k]?=w.heap[T.ch k]?
 cells:∀a,T.kg i (.cell a)->w'.cell? a=w.cell? a
 own:∀b,S.own (T.m0+i) b->b≠C->w'.heap[b]?=w.heap[b]?
section
variable {P:Program} {T:dq} {V:Nat->ae->Prop} {fg:Nat->(Nat->Prop)->ae->Prop} {cQ Fin:eT} {t0:Trace} {w0:ae}
 {gs:Array aY} {w w':ae} {t:Trace} {S S':jK} {D:Nat->WD} {x:Nat->lQ} {tag:CTag} {a:aY} {y:jL} {st sm:Int} {sl:Option (Nat×Nat)}
theorem NK(hT:T.OK)(hS:S.OK T)(tL:S.j<=T.n){i C:Nat}(h:Aside T.Wg w w')(hl:WgLive T.ty T.Wg w'):Zw T S i C w w':=by
 have fy:∀z b,S.own z b->b≠T.Wg:=fun z b hb=>by have:=hS.new z b hb;have:=hT.wg;omega
 refine⟨x6 hT (fun b hb=>hS.new _ b hb) h hl,fun k hk _=>NH hT aa (fun b hb=>hS.new _ b hb) h hl,x6 hT (fun _ hb=>hb.elim) h hl,qP.Cm hT (fun b hb=>h.block b (hT.sh b hb).2.1),h.size,fun k hk=>h.block _ (hT.ch k hk).2,fun a ha=>?_,fun b hb _=>h.block b (fy _ b hb)⟩;obtain⟨a',e,hs⟩:=hT.ownSh i _ ha;cases e;exact cell_of (h.block _ (hT.sh _ hs).2.1)
theorem Py(hT:T.OK)(h:gv P T V fg cQ Fin t0 w0 gs w t S D x tag a y st sm)(tL:S.j<=T.n){i C:Nat}(hi:i<S.j)(hC:S.own (T.m0+i) C)(GC:∀k,S.rc k i->True)(NL:AsideCell C 0 (1-1) w w'):Zw T S i C w w'/\w'.heap[T.Wg]?=w.heap[T.Wg]?:=by
 have LL:=hT.m0;have hCH:=h.tA.new _ C hC;have old:∀b,b<T.H0->w'.heap[b]?=w.heap[b]?:=fun b hb=>NL.block b aa;have hg:Pn T (fun b=>b=C) w w':=⟨bH NL.size.symm,fun b _ hb=>NL.block b hb,NL.os,NL.output⟩;have LM:∀z,z≠T.m0+i->∀b,S.own z b->b≠C:=fun z hz b hb e=>hz (h.tA.one _ _ _ hb (e▸hC));refine⟨⟨⟨hg.size,fun b hb=>NL.block b (LM 0 aa b hb),fun b h1 _ _ _=>old b h1,gz (old _ hT.wg),NL.os,NL.output⟩,fun k hk Pu=>hg.Cn hT aa h.h0 (fun b hb=>by rw[hb];exact hCH) (fun b hb=>⟨h.tA.new _ b hb,h.lt _ b hb,LM _ aa b hb⟩),⟨hg.size,fun _ hb=>hb.elim,fun b h1 _ _ _=>old b h1,gz (old _ hT.wg),NL.os,NL.output⟩,
  qP.Cm hT (fun b hb=>old b (hT.sh b hb).1),NL.size,fun k hk=>old _ (hT.ch k hk).1,fun a ha=>?_,fun b _ hb=>NL.block b hb⟩,old _ hT.wg⟩
 obtain⟨a',e,hs⟩:=hT.ownSh i _ ha;cases e;exact cell_of (old _ (hT.sh _ hs).1)
theorem LN{i:Nat}(hi:i<S.j){d':WD}{tag':CTag}{x':Nat->lQ}(hs:tag'=tag\/(tag=.blk/\tag'=.w3))(h1:d'.stage<(D i).stage)(h2:cnt d'<=cnt (D i)):Cp P T V (T.m0+i) S S D (upd D i d') tag tag' x x':=by
 left;have e1:=sumTo_upd D d' cnt hi;have e2:=sumTo_upd D d' WD.stage hi;simp only[pM];rw[phi_retag _ _ hs];simp only[Vc,Ssum] at *;have:=phi_mono T.n (v':=sumTo S.j fun a=>cnt (upd D i d' a)) (v:=sumTo S.j fun a=>cnt (D a)) aa tag;omega
theorem Pz{i:Nat}(hi:i<S.j){m':Nat}{dd:Nat}{tag':CTag}{x':Nat->lQ}(hs:tag'=tag\/(tag=.blk/\tag'=.w3))(hx:x (T.m0+i)=.inr (D i).fuel)(mq:x' (T.m0+i)=.inr m')(hm:m'<(D i).fuel)(ho:∀k,k≠T.m0+i->iY T (x' k) (x k)):
  Cp P T V (T.m0+i) S S D (upd D i ⟨(D i).stage,m',dd⟩) tag tag' x x':=by
 refine .inr ⟨?_,by rw[hx,mq];exact hm,ho⟩;have e1:=sumTo_upd D (⟨(D i).stage,m',dd⟩:WD) cnt hi;have e2:=sumTo_upd D (⟨(D i).stage,m',dd⟩:WD) WD.stage hi;have ec:cnt (⟨(D i).stage,m',dd⟩:WD)=cnt (D i):=rfl;simp only[pM];rw[phi_retag _ _ hs];have ev:Vc S.j (upd D i ⟨(D i).stage,m',dd⟩)=Vc S.j D:=by simp only[Vc] at *;omega
 have mi:Ssum S.j (upd D i ⟨(D i).stage,m',dd⟩)=Ssum S.j D:=by simp only[Ssum] at *;omega
 rw[ev,mi]
theorem Cr{z:Nat}{fn:FuncId}{pos:String}{es:Array Event}(h:∀e∈es,Bk T.Wg e):∀op∈MemOp.ofEvents z fn pos es,∀b,op.act.touch?=some b->b.loc.isMemory=true->xZ T S z b:=by
 intro op eR b hb _;obtain⟨e,he,rfl⟩:=Go.Conc.mem_ofEvents eR;rcases h e he with h1|h1|⟨a,qe,rfl,ha⟩
 ·simp only[ofEvent_loc_mark h1] at hb;cases hb
 ·simp only[ofEvent_loc_mark h1] at hb;cases hb
 ·simp only[ofEvent_cell0,MemAct.touch?,ay] at hb;subst hb;exact .inl ⟨ha,aj,aj⟩
theorem R9{i d:Nat}(h:∃r,T.T0<=r/\RelBy (stA T.Wg) t (T.m0+i) r/\∀i' a,r<i'->t.g? i'=some (T.m0+i)->touchAt t i'=some a->uh (fun b=>b=T.Wg) a.loc/\a.kind=.atomic)(Zx:Deaf t (T.m0+i)=d)(fn:FuncId)(pos:String){es:Array Event}(Is:∀e∈es,Bk T.Wg e)(hd:∀j e,es[j]?=some e->(MemAct.ofEvent e).touch?=none\/0<deafBehind d (es.extract 0 j)):
  ∃r,T.T0<=r/\RelBy (stA T.Wg) (t++MemOp.ofEvents (T.m0+i) fn pos es) (T.m0+i) r/\∀i' a,r<i'->(t++MemOp.ofEvents (T.m0+i) fn pos es).g? i'=some (T.m0+i)->touchAt (t++MemOp.ofEvents (T.m0+i) fn pos es) i'=some a->uh (fun b=>b=T.Wg) a.loc/\a.kind=.atomic:=by
 obtain⟨r,h1,h2,h3⟩:=h;refine⟨r,h1,h2.book Zx fn pos Is hd,fun i' a mn VG X6=>?_⟩;obtain⟨z,hz,vL⟩:=touch_of X6;rcases getElem?_append_cases hz with⟨cB,DR⟩|⟨_,HG⟩
 ·exact h3 i' a mn (by rw[<- g?_old (u:=MemOp.ofEvents (T.m0+i) fn pos es) cB];exact VG) (by rw[touchAt_of DR];exact vL)
 ·obtain⟨e,he,rfl⟩:=Go.Conc.mem_ofEvents HG;rcases Is e he with k1|k1|⟨ad,qe,rfl,ha⟩
  ·simp only[ofEvent_loc_mark k1] at vL;cases vL
  ·simp only[ofEvent_loc_mark k1] at vL;cases vL
  ·simp only[ofEvent_cell0,MemAct.touch?,ay] at vL;subst vL;exact⟨ha,rfl⟩
theorem gv.Sa(hT:T.OK)(hV:kE T V fg)(hn:T.n<2147483648)(h:gv P T V fg cQ Fin t0 w0 gs w t S D x tag a y st sm)(tL:S.j<=T.n){i:Nat}(hi:i<S.j){g:aY}(hg:gs[T.m0+i]?=some g)(cL:g.status=.running)(fB:(S.cl i).isSome=true)(akC:Vc S.j D+pend tag<=T.n):
  ∃gP w' S' D' x' tag' a' y' st' sm' ops,runT P (crowd gs w sl) (T.m0+i)=(.next (crowd gP w' sl),ops)/\S'.j=S.j/\gv P T V fg cQ Fin t0 w0 gP w' (t++ops) S' D' x' tag' a' y' st' sm'/\Cp P T V (T.m0+i) S S' D D' tag tag' x x':=by
 have rU:i<T.n:=aa;obtain⟨g1,e1,hw⟩:=h.wk i hi;rw[hg] at e1;cases e1;rcases hw with⟨h1,_⟩|⟨_,hx,hVi,C,v,hC,hs,oJ⟩
 ·rw[h1] at fB;cases fB
 have hVj:=Vc_le S.j D;have step:∀{g':aY} {w':ae} {es:Array Event} {d':WD} {st' sm':Int},stepG P false g w=.go g' w' es->Zw T S i C w w'->WgAt T.ty T.Wg w' st' sm'->TI T S (t++MemOp.ofEvents (T.m0+i) g.frame.fn g.frame.place es) ->
   WSit P T.ty T.Wg C 0 rj rj 0 1 v d'.stage d'.fuel d'.deaf g' w'->deafBehind (D i).deaf es=d'.deaf->(∀e∈es,e.loc≠.mark (.release (stA T.Wg))) ->
   (d'.stage<=6->∃r,T.T0<=r/\RelBy (stA T.Wg) (t++MemOp.ofEvents (T.m0+i) g.frame.fn g.frame.place es) (T.m0+i) r/\∀i' a,r<i'->(t++MemOp.ofEvents (T.m0+i) g.frame.fn g.frame.place es).g? i'=some (T.m0+i)->touchAt (t++MemOp.ofEvents (T.m0+i) g.frame.fn g.frame.place es) i'=some a->uh (fun b=>b=T.Wg) a.loc/\a.kind=.atomic) ->
   (∀tag',(tag'=tag\/(tag=.blk/\tag'=.w3))->(mayWake P g=true->g'.status=.running->tag'≠.blk)->Go.ConcN.Mode S.j (upd D i d') tag' st' sm') ->
   ((d'.stage<(D i).stage/\cnt d'<=cnt (D i))\/(d'.stage=(D i).stage/\d'.fuel<(D i).fuel)) ->
   ∃gP w' S' D' x' tag' a' y' st' sm' ops,runT P (crowd gs w sl) (T.m0+i)=(.next (crowd gP w' sl),ops)/\S'.j=S.j/\gv P T V fg cQ Fin t0 w0 gP w' (t++ops) S' D' x' tag' a' y' st' sm'/\Cp P T V (T.m0+i) S S' D D' tag tag' x x':=by
  intro g' w' es d' st' sm' hgo K4 ID Pr sP hdd hnr acL Cs cB;obtain⟨gP,tag',a',y',r1,r2,r3,r4⟩:=gv.worker (sl:=sl) hT hV h hi tL hg hgo (S':=S) (d':=d') (ld':=.inr d'.fuel) (st':=st') (sm':=sm') rfl Pr h.tA rfl (fun _ _=>rfl) (fun _ _=>rfl) (fun _ _=>rfl) (fun z b hb=>by rw[K4.size];exact h.lt z b hb) (bH K4.size.symm) K4.LG K4.Cn K4.same K4.DW (fun _ hk=>hk)
   (.inr ⟨fB,rfl,hV.v i w w' K4.cells hVi,C,v,hC,sP,hV.val i _ w w' K4.cells (fun b hb=>K4.own b hb.1 hb.2) oJ⟩) (.inl rfl) (fun k hk=>by rw[K4.chan k hk];exact h.chan k hk) h.UU acL hdd hnr ID Cs
  refine⟨gP,w',S,upd D i d',_,tag',a',y',st',sm',_,r1,rfl,r3,?_⟩;rcases cB with⟨q1,q2⟩|⟨q1,q2⟩
  ·exact LN hi r2 q1 q2
  ·have e:d'=⟨(D i).stage,d'.fuel,d'.deaf⟩:=by rw[<- q1]
   rw[e];exact Pz hi r2 hx (by rw[<- e,upd_same]) q2 (fun k hk=>by rw[upd_ne _ _ hk];exact r4 k hk)
 have Zx:=h.deafW i hi;generalize eI:(D i).stage=s at hs step;generalize X9:(D i).fuel=m at hs step;generalize hde:(D i).deaf=dd at hs step;rw[hde] at Zx;have akD:(MemOp.ofEvents (T.m0+i) g.frame.fn g.frame.place #[])=#[]:=by rw[ofEvents_eq];simp
 have book:∀{g':aY} {w':ae} {es:Array Event} {s' m' dd':Nat} {st' sm':Int},stepG P false g w=.go g' w' es->Aside T.Wg w w'->WgAt T.ty T.Wg w' st' sm'->(∀e∈es,Bk T.Wg e) ->
   (∀jx e,es[jx]?=some e->(MemAct.ofEvent e).touch?=none\/0<deafBehind dd (es.extract 0 jx))->WSit P T.ty T.Wg C 0 rj rj 0 1 v s' m' dd' g' w'->deafBehind dd es=dd'->s<=6 ->
   (∀tag',(tag'=tag\/(tag=.blk/\tag'=.w3))->(mayWake P g=true->g'.status=.running->tag'≠.blk)->Go.ConcN.Mode S.j (upd D i ⟨s',m',dd'⟩) tag' st' sm')->((s'<s/\cnt ⟨s',m',dd'⟩<=cnt (D i))\/(s'=s/\m'<m)) ->
   ∃gP w' S' D' x' tag' a' y' st' sm' ops,runT P (crowd gs w sl) (T.m0+i)=(.next (crowd gP w' sl),ops)/\S'.j=S.j/\gv P T V fg cQ Fin t0 w0 gP w' (t++ops) S' D' x' tag' a' y' st' sm'/\Cp P T V (T.m0+i) S S' D D' tag tag' x x':=by
  intro g' w' es s' m' dd' st' sm' hgo Zy ID bO hd sP hdd h6 Cs cB;exact step (d':=⟨s',m',dd'⟩) hgo (NK hT h.tA tL Zy ⟨_,_,ID⟩) ID (h.ti.app hT h.tA (x:=T.m0+i) (.inr ⟨i,hi,rfl⟩) g_of_ofEvents (Cr bO)) sP hdd (fun e he=>norel_of_Bk bO e he)
   (fun _=>R9 (h.rel i hi aa) Zx _ _ bO hd) Cs cB
 have idle:∀{g':aY} {m':Nat},stepG P false g w=.go g' w #[]->WSit P T.ty T.Wg C 0 rj rj 0 1 v s m' dd g' w->m'<m->s<=6 ->
   ∃gP w' S' D' x' tag' a' y' st' sm' ops,runT P (crowd gs w sl) (T.m0+i)=(.next (crowd gP w' sl),ops)/\S'.j=S.j/\gv P T V fg cQ Fin t0 w0 gP w' (t++ops) S' D' x' tag' a' y' st' sm'/\Cp P T V (T.m0+i) S S' D D' tag tag' x x':=by
  intro g' m' hgo sP hm h6;exact book hgo (.refl T.Wg w) h.wg aj aj sP rfl h6 (fun tag' ht _=>by have:=h.mode.same (i:=i) m' dd;rw[eI] at this;exact this.retag ht) (.inr ⟨rfl,hm⟩)
 cases hs with
 |r0 um =>
  rcases Goes.cases um with pD|⟨m',rfl,kU⟩
  ·obtain⟨_,_,g',hgo,m₂,hk⟩:=pD w (RW.refl w);refine step (d':=⟨6,m₂,0⟩) hgo (NK hT h.tA tL (.refl T.Wg w) ⟨_,_,h.wg⟩) h.wg (h.ti.mute (y:=T.m0+i) g_of_ofEvents fun op eR=>?_) (.k1 hk) rfl (by intro e he;simp at he;subst he;simp[Go.ConcR.mk]) (fun _=>⟨t.size,h.ti.len,RelBy.new Zx _ _,fun i' b mn _ htb=>?_⟩)
    (fun tag' ht _=>(h.mode.counted hi aa (.inl rfl) _ _).retag ht) (.inl ⟨aj,by simp[cnt,eI]⟩)
   ·obtain⟨e,he,rfl⟩:=Go.Conc.mem_ofEvents eR;simp at he;subst he;rfl
   ·obtain⟨z,hz,_⟩:=touch_of htb;have:=lt_size_of_getElem? hz;rw[ofEvents_eq] at this;simp at this;omega
  ·obtain⟨g',w',es,hgo,⟨NL,jl⟩,Aw⟩:=kU w (RW.refl w);obtain⟨K4,Zv⟩:=Py hT h tL hi hC (fun _ _=>trivial) NL;refine step (d':=⟨7,m',0⟩) hgo K4 (h.wg.of_block Zv) (h.ti.app hT h.tA (x:=T.m0+i) (.inr ⟨i,hi,rfl⟩) g_of_ofEvents fun op eR b hb hm=>?_) (.r0 Aw) (deafBehind_idle (fun e he=>⟨(jl e he).2.1,(jl e he).2.2.1⟩) 0) (fun e he=>(jl e he).2.2.2) (fun h6=>by simp at h6)
    (fun tag' ht _=>by have:=h.mode.same (i:=i) m' 0;rw[eI] at this;exact this.retag ht) (.inr ⟨rfl,aj⟩)
   obtain⟨e,he,rfl⟩:=Go.Conc.mem_ofEvents eR;rcases((jl e he).1 g.frame.fn g.frame.place).2 b hb with⟨⟨ad,e1,e2⟩,h2,h3⟩|h2|⟨h2,_⟩
   ·refine .inl ⟨?_,h2,fun e=>absurd e h3⟩;rw[e1];exact e2
   ·exact h2.elim
   ·exact h2.elim
 |k1 um =>
  rcases Goes.cases um with pD|⟨m',rfl,kU⟩
  ·obtain⟨_,g',hgo,m₂,hk⟩:=pD w (RW.refl w);exact book hgo (.refl T.Wg w) h.wg (by intro e he;simp at he;subst he;exact .inl rfl) (by intro jx e he;exact .inl (by have:=dY he;simp at this;subst this;rfl)) (.d1 hk) rfl aa
    (fun tag' ht _=>(h.mode.counted hi aa (.inr rfl) _ _).retag ht) (.inl ⟨aa,by simp[cnt,eI]⟩)
  ·obtain⟨g',w',es,hgo,⟨rfl,rfl⟩,Aw⟩:=kU w (RW.refl w);exact idle hgo (.k1 Aw) aa aa
 |d1 um =>
  rcases Goes.cases um with pD|⟨m',rfl,kU⟩
  ·obtain⟨_,iG⟩:=pD w (RW.refl w);have VL:cnt (D i)=1:=by simp[cnt,eI]
   have hV1:1<=Vc S.j D:=by have:=le_sumTo (f:=fun x=>cnt (D x)) hi;simp only[Vc];omega
   have bk2:∀e∈#[rd (stA T.Wg),wr (stA T.Wg)],Bk T.Wg e:=bk_rw;have df2:∀jx e,(#[rd (stA T.Wg),wr (stA T.Wg)]:Array Event)[jx]?=some e->(MemAct.ofEvent e).touch?=none\/0<deafBehind 1 ((#[rd (stA T.Wg),wr (stA T.Wg)]:Array Event).extract 0 jx):=by
    intro jx e he
    match jx,he with
    |0,_=>exact .inr (by simp[deafBehind])
    |1,_=>exact .inr (by simp[deafBehind,rd])
    |jx+2,he=>simp at he
   have hq0:∀q,cnt (⟨1,q,1⟩:WD)=0:=fun _=>rfl;have opq:∀q,OpenSt S.j D->OpenSt S.j (upd D i ⟨1,q,1⟩):=fun q hh b hb=>by
    by_cases e:b=i
    ·subst e;rw[upd_same];simp
    ·rw[upd_ne D _ e];exact hh b hb
   have kj:=h.mode;have px:=h.wg;cases kj with
   |opn h1 h2 h3 =>
    obtain⟨n1,hn1⟩:∃n1,Vc S.j D+pend tag=n1+1:=⟨Vc S.j D+pend tag-1,aa⟩;rw[hn1] at px;have rm:WgAt T.ty T.Wg w (((n1:Nat)+1)*KK+((0:Nat):Int)) 0:=by simpa using px
    obtain⟨g',hgo,_,hq⟩:=iG n1 0 aa aa rm;obtain⟨q,hq⟩:=hq aa;have xy:Vc S.j (upd D i ⟨1,q,1⟩)+pend tag=n1:=by have:=Vc_upd D (⟨1,q,1⟩:WD) hi;have:=hq0 q;omega
    refine book hgo (aside_setCell w (stA T.Wg) _) (px.setSt _) bk2 df2 (.quit hq) rfl aa (fun tag' ht _=>Mode.retag ?_ ht) (.inl ⟨aa,by simp[cnt]⟩);have e:((n1:Nat):Int)*KK+((0:Nat):Int)=((Vc S.j (upd D i ⟨1,q,1⟩)+pend tag:Nat):Int)*KK:=by rw[xy];simp
    rw[e];exact .opn h1 (opq q h2) (fun vs ev=>by have:=h3 vs ev;omega)
   |reg h1 h2 h3 =>
    obtain⟨n1,hn1⟩:∃n1,Vc S.j D=n1+1:=⟨Vc S.j D-1,aa⟩;rw[hn1] at px;have rm:WgAt T.ty T.Wg w (((n1:Nat)+1)*KK+((1:Nat):Int)) 0:=by simpa using px
    obtain⟨g',hgo,hl,hq⟩:=iG n1 1 aa aa rm;by_cases OT:n1=0
    ·subst OT;obtain⟨m₂,hk⟩:=hl ⟨rfl,rfl⟩;refine book hgo (aside_setCell w (stA T.Wg) _) (px.setSt _) bk2 df2 (.d2 hk) rfl aa (fun tag' ht _=>Mode.retag ?_ ht) (.inl ⟨aa,by simp[cnt]⟩);have A1:∀b,b<S.j->b≠i->(D b).stage=1:=fun b hb e=>by
      have c0:=others_uncounted hi hn1 VL b hb e;have:=h2 b hb;simp only[cnt] at c0;split at c0<;>omega
     have:=Mode.last (j:=S.j) (D:=upd D i ⟨4,m₂,1⟩) (tag:=tag) i h1 hi (by rw[upd_same];simp) (fun b hb e=>by rw[upd_ne D _ e];exact A1 b hb e);rw[upd_same] at this;simpa using this
    ·obtain⟨q,hq⟩:=hq aa;have xy:Vc S.j (upd D i ⟨1,q,1⟩)=n1:=by have:=Vc_upd D (⟨1,q,1⟩:WD) hi;have:=hq0 q;omega
     refine book hgo (aside_setCell w (stA T.Wg) _) (px.setSt _) bk2 df2 (.quit hq) rfl aa (fun tag' ht _=>Mode.retag ?_ ht) (.inl ⟨aa,by simp[cnt]⟩);have e:((n1:Nat):Int)*KK+((1:Nat):Int)=((Vc S.j (upd D i ⟨1,q,1⟩):Nat):Int)*KK+1:=by rw[xy];simp
     rw[e];exact .reg h1 (opq q h2) aa
   |last L _ h2 h3 h4 =>
    by_cases e:i=L
    ·subst e;omega
    ·have:=h4 i hi e;omega
   |sema h2=>have:=h2 i hi;omega
   |fin _ h2=>have:=h2 i hi;omega
  ·obtain⟨g',w',es,hgo,⟨rfl,rfl⟩,Aw⟩:=kU w (RW.refl w);exact idle hgo (.d1 Aw) aa aa
 |d2 um =>
  rcases Goes.cases um with pD|⟨m',rfl,kU⟩
  ·obtain⟨_,mq⟩:=pD w (RW.refl w);obtain⟨sH,A1,e1,e2⟩:=h.mode.isLast hi aa;have px:=h.wg;rw[e1,e2] at px;simp only[eI] at px;have IE:WgAt T.ty T.Wg w 1 0:=by simpa using px
   obtain⟨g',hgo,m₂,hk⟩:=mq IE;refine book hgo (.refl T.Wg w) IE bk_rd (by intro jx e he;match jx,he with|0,_=>exact .inr (by simp[deafBehind])|jx+1,he=>simp at he) (.d3 hk) rfl aa (fun tag' ht _=>Mode.retag ?_ ht) (.inl ⟨aa,by simp[cnt]⟩);have:=Mode.last (j:=S.j) (D:=upd D i ⟨3,m₂,1⟩) (tag:=tag) i sH hi (by rw[upd_same];simp) (fun b hb e=>by rw[upd_ne D _ e];exact A1 b hb e);rw[upd_same] at this;simpa using this
  ·obtain⟨g',w',es,hgo,⟨rfl,rfl⟩,Aw⟩:=kU w (RW.refl w);exact idle hgo (.d2 Aw) aa aa
 |d3 um =>
  rcases Goes.cases um with pD|⟨m',rfl,kU⟩
  ·obtain⟨_,mq⟩:=pD w (RW.refl w);obtain⟨sH,A1,e1,e2⟩:=h.mode.isLast hi aa;have px:=h.wg;rw[e1,e2] at px;simp only[eI] at px;have IE:WgAt T.ty T.Wg w 1 0:=by simpa using px
   obtain⟨g',hgo,m₂,hk⟩:=mq IE;refine book hgo (aside_setCell w (stA T.Wg) _) (IE.setSt 0) (by intro e he;simp at he;subst he;exact bk_cell _ _ rfl) (by intro jx e he;match jx,he with|0,_=>exact .inr (by simp[deafBehind])|jx+1,he=>simp at he) (.d4 hk) rfl aa (fun tag' ht _=>Mode.retag ?_ ht) (.inl ⟨aa,by simp[cnt]⟩);have:=Mode.last (j:=S.j) (D:=upd D i ⟨2,m₂,1⟩) (tag:=tag) i sH hi (by rw[upd_same];simp) (fun b hb e=>by rw[upd_ne D _ e];exact A1 b hb e);rw[upd_same] at this;simpa using this
  ·obtain⟨g',w',es,hgo,⟨rfl,rfl⟩,Aw⟩:=kU w (RW.refl w);exact idle hgo (.d3 Aw) aa aa
 |d4 um =>
  rcases Goes.cases um with pD|⟨m',rfl,kU⟩
  ·obtain⟨_,X8,mq⟩:=pD w (RW.refl w);obtain⟨sH,A1,e1,e2⟩:=h.mode.isLast hi aa;have px:=h.wg;rw[e1,e2] at px;simp only[eI] at px;have IE:WgAt T.ty T.Wg w 0 0:=by simpa using px
   obtain⟨g',hgo,q,hq⟩:=mq IE;have R4:g'.status=.running:=by
    cases q with
    |zero=>exact absurd hq.2 eA
    |succ q=>exact hq.elim (fun x=>absurd x.2 eA) (fun x=>x.1)
   refine book hgo (aside_setCell w (smA T.Wg) _) (IE.setSm 1) (es:=semEvents (smA T.Wg)) bk_sem ?_ (.quit hq) (by simp[deafBehind,semEvents]) aa ?_ (.inl ⟨aa,by simp[cnt]⟩)
   ·intro jx e he
    match jx,he with
    |0,he=>simp[semEvents] at he;subst he;exact .inl rfl
    |1,_=>exact .inr (by simp[deafBehind,semEvents])
    |2,_=>exact .inr (by simp[deafBehind,semEvents])
    |3,he=>simp[semEvents] at he;subst he;exact .inl rfl
    |jx+4,he=>simp[semEvents] at he
   ·intro tag' ht hw;have Gv:=hw X8 R4;have e3:tag'=.w3:=by
     rcases ht with rfl|⟨_,rfl⟩
     ·cases tag'<;>first|rfl|exact sH.elim|exact absurd rfl Gv
     ·rfl
    subst e3;exact .sema fun b hb=>by
     by_cases e:b=i
     ·subst e;rw[upd_same]
     ·rw[upd_ne D _ e];exact A1 b hb e
  ·obtain⟨g',w',es,hgo,⟨rfl,rfl⟩,Aw⟩:=kU w (RW.refl w);exact idle hgo (.d4 Aw) aa aa
 |quit hq =>
  cases m with
  |zero=>rw[hq.1] at cL;cases cL
  |succ q =>
   rcases hq with⟨hf,_⟩|⟨_,g',es,Ya,kU,Bm⟩
   ·rw[hf] at cL;cases cL
   ·have bO:∀e∈es,Bk T.Wg e:=fun e he=>bk_of_mute (Ya e he);refine book (kU w) (.refl T.Wg w) h.wg bO (fun jx e he=>.inl (touch_mute (Ya e (dY he)))) (.quit Bm) rfl aa (fun tag' ht _=>by have:=h.mode.same (i:=i) q (deafBehind dd es);rw[eI] at this;exact this.retag ht) (.inr ⟨rfl,aa⟩)
end
end
section
open Go.ConcR (KK wgBlock WgAt stA smA rd wr mk Payload DC0 Bk g_of_ofEvents loc_of_ofEvent ofEvent_loc_mark)
variable [Payload]
section
variable {P:Program} {T:dq} {V:Nat->ae->Prop} {fg:Nat->(Nat->Prop)->ae->Prop} {cQ Fin:eT} {t0:Trace} {w0:ae}
 {gs:Array aY} {w w':ae} {t:Trace} {S S':jK} {D:Nat->WD} {x:Nat->lQ} {tag:CTag} {a:aY} {y:jL} {st sm:Int} {sl:Option (Nat×Nat)}
theorem Sc(hT:T.OK)(hS:S.OK T){o':Nat->Prop}(hh:T.H0<=w.heap.size)(hl:∀z b,S.own z b->b<w.heap.size)(ho:∀b,o' b->S.own 0 b\/w.heap.size<=b):({S with own:=upd S.own 0 o'}:jK).OK T:=by
 have key:∀z b,(upd S.own 0 o') z b->S.own z b\/(z=0/\w.heap.size<=b):=by
  intro z b hb;by_cases e:z=0
  ·subst e;rw[upd_same] at hb;exact(ho b hb).imp id fun hh=>⟨rfl,hh⟩
  ·rw[upd_ne _ _ e] at hb;exact .inl hb
 refine⟨fun z b hb=>?_,fun z z' b h1 h2=>?_,fun z b hb=>?_⟩
 ·rcases key z b hb with h|⟨_,h⟩
  ·exact hS.new z b h
  ·omega
 ·rcases key z b h1 with h1|⟨e1,h1⟩<;>rcases key z' b h2 with h2|⟨e2,h2⟩
  ·exact hS.one z z' b h1 h2
  ·have:=hl z b h1;omega
  ·have:=hl z' b h2;omega
  ·rw[e1,e2]
 ·rcases key z b hb with h|⟨e,_⟩
  ·exact hS.mem z b h
  ·exact .inl e
theorem gv.main(hT:T.OK)(hV:kE T V fg)(h:gv P T V fg cQ Fin t0 w0 gs w t S D x tag a y st sm)(tL:S.j<=T.n){a':aY}{es:Array Event}(hgo:stepG P true a w=.go a' w' es){o':Nat->Prop}{tag':CTag}{y':jL}{st' sm':Int}(ho:∀b,S.own 0 b->o' b)(zt:∀b,o' b->S.own 0 b\/(w.heap.size<=b/\b<w'.heap.size))(Pk:∀op∈MemOp.ofEvents 0 a.frame.fn a.frame.place es,∀b,op.act.touch?=some b->b.loc.isMemory=true->xZ T {S with own:=upd S.own 0 o'} 0 b)(fJ:w.heap.size<=w'.heap.size)(RZ:∀k,k<S.j->cY T k (S.own (T.m0+k)) (S.rc k) w w')(oI:dN T (fun _=>False) w w')(Ps:qP T S.j w w')(vK:∀k,k<T.n->w'.heap[T.ch k]?=w.heap[T.ch k]?)(IF:jQ P T V fg cQ Fin tag' o' a' w' y')(Zz:mG T.n tag' S.j (deafBehind (Deaf t 0) es))(LK:∀e∈es,e.loc≠.mark (.release (stA T.Wg)))(px:WgAt T.ty T.Wg w' st' sm')(kj:Go.ConcN.Mode S.j D tag' st' sm'):
  ∃gP,runT P (crowd gs w sl) 0=(.next (crowd gP w' sl),MemOp.ofEvents 0 a.frame.fn a.frame.place es) /\
   gv P T V fg cQ Fin t0 w0 gP w' (t++MemOp.ofEvents 0 a.frame.fn a.frame.place es) {S with own:=upd S.own 0 o'} D (fun k=>mH w' (x k)) tag' a' y' st' sm'/\∀k,iY T (mH w' (x k)) (x k):=by
 have LL:=hT.m0;have cL:=runT_crowd_go (P:=P) (sl:=sl) (i:=0) h.E9 (show stepG P (0==0) a w=_ from hgo);have A0:0<gs.size:=by rw[h.size];omega
 have hu:∀op∈MemOp.ofEvents 0 a.frame.fn a.frame.place es,op.g=0:=g_of_ofEvents;have K1:∀k,k≠0->Deaf (t++MemOp.ofEvents 0 a.frame.fn a.frame.place es) k=Deaf t k:=fun k hk=>Deaf_other t (bq hk) _ hu;have Ri:=Sc hT h.tA h.h0 h.lt fun b hb=>(zt b hb).imp id fun hh=>hh.1;have HH:∀k,k<S.j->iY T (mH w' (x (T.m0+k))) (x (T.m0+k))/\∃gk,gs[T.m0+k]?=some gk/\KY P T V fg k (S.own (T.m0+k)) (S.rc k) S.cl (D k) (mH w' (x (T.m0+k))) (woken P a a' w' gk) w':=by
  intro k hk;obtain⟨gk,h1,h2⟩:=h.wk k hk;obtain⟨h3,h4⟩:=h2.Pq (cl':=S.cl) hV (RZ k hk) (x:=a) (x':=a') rfl (fun _ hk=>hk) (fun k' hn _=>.inl hn) (fun k' hd=>by
   have lX:k'<T.n:=by have:=hT.dep k k' aa hd;omega
   rw[vK k' lX];exact h.chan k' lX)
  exact⟨h3,gk,h1,h4⟩
 refine⟨_,cL,?_,?_⟩
 ·refine⟨by simp[h.size],by simp[A0],by simp only[upd_same];exact IF,by rw[Deaf_own];exact Zz,fun k k0 km=>?_,fun k hk=>?_,fun k hk=>?_,?_,fun k hk=>?_,fun k hk=>?_,?_,Ri,fun z b hb=>?_,aX h.h0 fJ,px,kj,fun k hk=>by rw[vK k hk];exact h.chan k hk,h.UU,h.Zs,h.US,fun k hk eI=>sd (h.rel k hk eI) hu aa,vf h.norel LK,vg h.UQ fun z hz=>.inl (hu z hz),?_,h.same.trans oI,h.DW.trans Ps,h.idle0⟩
  ·obtain⟨gk,q,h1,h2,h3⟩:=h.old k k0 km;have dJ:0≠k:=aa;exact⟨gk,q,by rw[pN _ _ _ _ dJ,h1,aK,woken_quitsD h3],by rw[h2];rfl,by rw[K1 k (bq dJ)];exact h3⟩
  ·obtain⟨_,gk,h1,h2⟩:=HH k hk;have dJ:0≠T.m0+k:=aa;exact⟨_,by rw[pN _ _ _ _ dJ,h1];rfl,by simp only;rw[upd_ne _ _ (bq dJ)];exact h2⟩
  ·rw[h.rest k hk];rfl
  ·rw[h.zero];rfl
  ·rw[K1 _ aa];exact h.deafW k hk
  ·have lX:gs.size<=k:=by simpa using hk
   rw[K1 k aa];exact h.above k lX
  ·refine(h.ti.grow (own':=upd S.own 0 o') fun z b hb=>?_).app hT Ri (x:=0) (.inl rfl) hu Pk;by_cases e:z=0
   ·subst e;rw[upd_same];exact ho b hb
   ·rw[upd_ne _ _ e];exact hb
  ·simp only at hb;by_cases e:z=0
   ·subst e;rw[upd_same] at hb;rcases zt b hb with hb|hb
    ·exact bz (h.lt _ b hb) fJ
    ·exact hb.2
   ·rw[upd_ne _ _ e] at hb;exact bz (h.lt _ b hb) fJ
  ·obtain⟨U,hU⟩:=h.ext;exact⟨U++MemOp.ofEvents 0 a.frame.fn a.frame.place es,by rw[hU,dG]⟩
 ·intro k;rcases bh k with rfl|nD
  ·rw[h.zero];exact rfl
  ·rcases b7 k T.m0 with ql | Pv
   ·obtain⟨gk,q,_,h2,_⟩:=h.old k nD ql;rw[h2];exact rfl
   ·rcases b7 k (T.m0+S.j) with Rc|DX
    ·have:=(HH (k-T.m0) aa).1;rw[show T.m0+(k-T.m0)=k by omega] at this;exact this
    ·rw[h.rest k DX];exact rfl
theorem IG{gs:Array aY}(a' child:aY){k:Nat}(hk:k<gs.size)(h0:0≠k):((gs.setIfInBounds 0 a').push child)[k]?=gs[k]?:=by
 rw[fL,if_neg dX,aT h0]
theorem PC{gs:Array aY}(a' child:aY):((gs.setIfInBounds 0 a').push child)[gs.size]?=some child:=by
 rw[fL,if_pos aj]
theorem gv.spawn(hT:T.OK)(h:gv P T V fg cQ Fin t0 w0 gs w t S D x tag a y st sm)(tL:S.j<T.n){a' child:aY}{hand:Nat->Prop}(vF:stepG P true a w=.spawn a' child w #[])(hh:∀b,hand b->S.own 0 b)(K3:gT P T S.j V (Ei P T fg S.j) ⟨child,hand,fun _=>False,w⟩)(DT:Deaf t 0=0){tag':CTag}{y':jL}(IF:jQ P T V fg cQ Fin tag' (fun b=>S.own 0 b/\¬hand b) a' w y')(Zz:mG T.n tag' (S.j+1) 0)(kj:Go.ConcN.Mode (S.j+1) (upd D S.j ⟨7,0,0⟩) tag' st sm):
  ∃gP S' x' ops,runT P (crowd gs w sl) 0=(.next (crowd gP w sl),ops)/\S'.j=S.j+1/\S'.cl=S.cl/\gv P T V fg cQ Fin t0 w0 gP w (t++ops) S' (upd D S.j ⟨7,0,0⟩) x' tag' a' y' st sm:=by
 have LL:=hT.m0;have cL:=runT_crowd_spawn (P:=P) (sl:=sl) (i:=0) h.E9 (show stepG P (0==0) a w=_ from vF);have rn:=h.size;have R5:((MemOp.ofEvents 0 a.frame.fn a.frame.place #[]).push {g:=0,fn:=a.frame.fn,pos:=a.frame.place,act:=.go gs.size} |>.push {g:=gs.size,fn:=child.frame.fn,pos:=a.frame.place,act:=.start}) =
   #[({g:=0,fn:=a.frame.fn,pos:=a.frame.place,act:=.go (T.m0+S.j)}:MemOp),{g:=T.m0+S.j,fn:=child.frame.fn,pos:=a.frame.place,act:=.start}]:=by
  rw[ofEvents_eq,rn];simp
 rw[R5] at cL;have NF:∀op∈#[({g:=0,fn:=a.frame.fn,pos:=a.frame.place,act:=.go (T.m0+S.j)}:MemOp),{g:=T.m0+S.j,fn:=child.frame.fn,pos:=a.frame.place,act:=.start}],op.act.touch?=none/\∀m,op.act≠.mark m:=by
  intro op eR;simp only[List.mem_toArray,bK,dj,or_false] at eR;rcases eR with rfl|rfl
  ·exact⟨rfl,fun m=>aj⟩
  ·exact⟨rfl,fun m=>aj⟩
 have VI:∀k,Deaf (t++#[({g:=0,fn:=a.frame.fn,pos:=a.frame.place,act:=.go (T.m0+S.j)}:MemOp),{g:=T.m0+S.j,fn:=child.frame.fn,pos:=a.frame.place,act:=.start}]) k=Deaf t k:=fun k=>Deaf_still t k _ fun op eR=>⟨(NF op eR).2 _,(NF op eR).2 _⟩;have A0:0<gs.size:=by rw[rn];omega
 have fB:S.cl S.j=none:=h.Zs _ (ag _);have GC:S.rc S.j=fun _=>False:=by funext b;simp;exact fun hb=>absurd (h.US _ _ hb) (Nat.lt_irrefl _)
 have e1:∀z,z≠T.m0+S.j->z≠0->upd (upd S.own 0 (fun b=>S.own 0 b/\¬hand b)) (T.m0+S.j) hand z=S.own z:=fun z h1 h2=>by rw[upd_ne _ _ h1,upd_ne _ _ h2]
 have e2:upd (upd S.own 0 (fun b=>S.own 0 b/\¬hand b)) (T.m0+S.j) hand 0=fun b=>S.own 0 b/\¬hand b:=by rw[upd_ne _ _ aa,upd_same]
 have e3:upd (upd S.own 0 (fun b=>S.own 0 b/\¬hand b)) (T.m0+S.j) hand (T.m0+S.j)=hand:=upd_same _ _ _;have key:∀z b,upd (upd S.own 0 (fun b=>S.own 0 b/\¬hand b)) (T.m0+S.j) hand z b->(z=T.m0+S.j/\hand b)\/(z≠T.m0+S.j/\S.own z b/\(z=0->¬hand b)):=by
  intro z b hb;by_cases h1:z=T.m0+S.j
  ·subst h1;rw[e3] at hb;exact .inl ⟨rfl,hb⟩
  ·by_cases h2:z=0
   ·subst h2;rw[e2] at hb;exact .inr ⟨h1,hb.1,fun _=>hb.2⟩
   ·rw[e1 z h1 h2] at hb;exact .inr ⟨h1,hb,fun e=>absurd e h2⟩
 have noj:∀b,¬S.own (T.m0+S.j) b:=fun b hb=>by
  rcases h.tA.mem _ b hb with e|⟨i',mn,e⟩
  ·omega
  ·omega
 refine⟨_,{S with j:=S.j+1,own:=upd (upd S.own 0 (fun b=>S.own 0 b/\¬hand b)) (T.m0+S.j) hand},upd x (T.m0+S.j) (.inl (S.j,⟨child,hand,fun _=>False,w⟩,false)),_,cL,rfl,rfl,?_⟩;refine⟨by simp[rn];omega,?_,by simp only;rw[e2];exact IF,by rw[VI,DT];exact Zz,fun k k0 km=>?_,fun k hk=>?_,fun k hk=>?_,?_,fun k hk=>?_,fun k hk=>?_,?_,⟨fun z b hb=>?_,fun z z' b h1 h2=>?_,fun z b hb=>?_⟩,fun z b hb=>?_,h.h0,h.wg,kj,h.chan,h.UU,fun k hk=>h.Zs k (by simp only at hk;omega),fun i' k hr=>by have:=h.US i' k hr;simp only;omega,fun k hk eI=>?_,fun k hk e=>?_,?_,?_,h.same,h.DW.mono (Nat.le_succ _),h.idle0⟩
 ·rw[dB (by simpa using A0),<- aO];simp[A0]
 ·obtain⟨gk,q,h1,h2,h3⟩:=h.old k k0 km;refine⟨gk,q,?_,by rw[upd_ne _ _ aa];exact h2,by rw[VI];exact h3⟩;rw[IG a' child (by rw[rn];omega) aa];exact h1
 ·simp only at hk |-;by_cases e:k=S.j
  ·subst e;refine⟨child,?_,.inl ⟨fB,by rw[upd_same],by rw[upd_same],child,false,by rw[upd_same,e3,GC],by rw[e3,GC];exact K3,.inl ⟨rfl,rfl⟩⟩⟩;rw[<- rn];exact PC a' child
  ·obtain⟨gk,h1,h2⟩:=h.wk k aa;refine⟨gk,?_,by rw[e1 _ aa aa,upd_ne D _ e,upd_ne x _ aa];exact h2⟩;rw[IG a' child (by rw[rn];omega) aa];exact h1
 ·simp only at hk;rw[upd_ne _ _ aa];exact h.rest k aa
 ·rw[upd_ne _ _ aa];exact h.zero
 ·simp only at hk;rw[VI];by_cases e:k=S.j
  ·subst e;rw[upd_same];exact h.above _ (by rw[rn];exact ag _)
  ·rw[upd_ne _ _ e];exact h.deafW k aa
 ·rw[VI];exact h.above k (by simp at hk;omega)
 ·exact h.ti.spawn (own':=upd (upd S.own 0 (fun b=>S.own 0 b/\¬hand b)) (T.m0+S.j) hand) ⟨rfl,rfl⟩ ⟨rfl,rfl⟩ DT (h.above _ (by rw[rn];exact ag _)) fun z b hb=>by
   by_cases h1:z=T.m0+S.j
   ·subst h1;exact absurd hb (noj b)
   ·by_cases h2:z=0
    ·subst h2;by_cases h3:hand b
     ·exact .inr ⟨rfl,by rw[e3];exact h3⟩
     ·exact .inl (by rw[e2];exact⟨hb,h3⟩)
    ·exact .inl (by rw[e1 z h1 h2];exact hb)
 ·rcases key z b hb with⟨_,h1⟩|⟨_,h1,_⟩
  ·exact h.tA.new 0 b (hh b h1)
  ·exact h.tA.new z b h1
 ·rcases key z b h1 with⟨k1,k2⟩|⟨k1,k2,k3⟩<;>rcases key z' b h2 with⟨l1,l2⟩|⟨l1,l2,l3⟩
  ·rw[k1,l1]
  ·have:=h.tA.one _ _ _ (hh b k2) l2;exact absurd k2 (l3 this.symm)
  ·have:=h.tA.one _ _ _ (hh b l2) k2;exact absurd l2 (k3 this.symm)
  ·exact h.tA.one _ _ _ k2 l2
 ·rcases key z b hb with⟨h1,_⟩|⟨_,h1,_⟩
  ·exact .inr ⟨S.j,bI _,h1⟩
  ·rcases h.tA.mem z b h1 with e|⟨i',mn,e⟩
   ·exact .inl e
   ·exact .inr ⟨i',Nat.lt_succ_of_lt mn,e⟩
 ·rcases key z b hb with⟨_,h1⟩|⟨_,h1,_⟩
  ·exact h.lt 0 b (hh b h1)
  ·exact h.lt z b h1
 ·simp only at hk;by_cases e:k=S.j
  ·subst e;rw[upd_same] at eI;simp at eI
  ·rw[upd_ne _ _ e] at eI;obtain⟨r,r1,r2,r3⟩:=h.rel k aa eI;refine⟨r,r1,r2.app fun i' mn VG hc=>?_,fun i' b mn VG X6=>?_⟩
   ·obtain⟨b,hb,_⟩:=hc;obtain⟨z,hz,vL⟩:=touch_of hb;rcases getElem?_append_cases hz with⟨cB,_⟩|⟨_,HG⟩
    ·omega
    ·rw[(NF z HG).1] at vL;cases vL
   ·obtain⟨z,hz,vL⟩:=touch_of X6;rcases getElem?_append_cases hz with⟨cB,DR⟩|⟨_,HG⟩
    ·refine r3 i' b mn ?_ (by rw[touchAt_of DR];exact vL);rw[<- VG];simp[Trace.g?,hz,DR]
    ·rw[(NF z HG).1] at vL;cases vL
 ·obtain⟨op,ho,X5⟩:=Option.map_eq_some_iff.1 e;rcases getElem?_append_cases ho with⟨cB,pK⟩|⟨_,RY⟩
  ·exact h.norel k hk (by rw[act?_of pK,X5])
  ·exact(NF op RY).2 _ X5
 ·exact vg (fun i z hi hz=>(h.UQ i z hi hz).imp id fun hh=>hh.imp (fun⟨k,hk,e⟩=>⟨k,Nat.lt_succ_of_lt hk,e⟩) id) fun z hz=>.inr (.inr (NF z hz).1)
 ·obtain⟨U,hU⟩:=h.ext;exact⟨U++#[({g:=0,fn:=a.frame.fn,pos:=a.frame.place,act:=.go (T.m0+S.j)}:MemOp),{g:=T.m0+S.j,fn:=child.frame.fn,pos:=a.frame.place,act:=.start}],by rw[hU,dG]⟩
end
end
section
open Go.ConcR (KK wgBlock WgAt stA smA rd wr mk Payload DC0 Bk g_of_ofEvents loc_of_ofEvent ofEvent_loc_mark)
variable [Payload]
def NN(P:Program)(T:dq)(S S':jK)(D D':Nat->WD)(tag tag':CTag)(x x':Nat->lQ)(y y':jL):Prop :=
 pM T S' D' tag'<pM T S D tag\/(pM T S' D' tag'=pM T S D tag/\(∀k,iY T (x' k) (x k))/\mR P T y' y)
section
variable {P:Program} {T:dq} {V:Nat->ae->Prop} {fg:Nat->(Nat->Prop)->ae->Prop} {cQ Fin:eT} {t0:Trace} {w0:ae}
 {gs:Array aY} {w w':ae} {t:Trace} {S S':jK} {D:Nat->WD} {x:Nat->lQ} {tag:CTag} {a:aY} {y:jL} {st sm:Int} {sl:Option (Nat×Nat)}
theorem mG.le{n:Nat}{tag:CTag}{j d:Nat}(h:mG n tag j d):j<=n:=by
 cases tag<;>simp only[mG] at h<;>omega
theorem mG.pend{n:Nat}{tag:CTag}{j d v:Nat}(h:mG n tag j d)(hv:v<=j):v+pend tag<=n:=by
 cases tag<;>simp only[mG,ConcN.pend] at h |-
 case sp r s=>split<;>omega
 all_goals omega
theorem jQ.mk{tag:CTag}(dJ:tag≠.blk){Stop:eT}{o:Nat->Prop}{a:aY}{w:ae}(h:dm P T Stop o a w)(e:kD P T V fg cQ Fin tag=Stop):jQ P T V fg cQ Fin tag o a w (.inl (Stop,⟨a,o,w⟩)):=by
 rw[jQ.eq dJ,e];exact⟨h,rfl⟩
theorem IH{o':Nat->Prop}{fn:FuncId}{pos:String}{es:Array Event}(h:∀e∈es,EvS T o' e):∀op∈MemOp.ofEvents 0 fn pos es,∀b,op.act.touch?=some b->b.loc.isMemory=true->xZ T {S with own:=upd S.own 0 o'} 0 b:=by
 intro op eR b hb hm;obtain⟨e,he,rfl⟩:=Go.Conc.mem_ofEvents eR;rcases(h e he).1 b hb hm with⟨h1,h2⟩|⟨c,h1,h2⟩|h1
 ·exact .inl ⟨h1,h2,fun _=>rfl⟩
 ·exact .inr (.inl ⟨c,by simp only[upd_same];exact h1,h2⟩)
 ·exact .inr (.inr (.inr (.inr h1)))
theorem gv.Sd(hT:T.OK)(hV:kE T V fg)(hn:T.n<2147483648)(Yb:∀o g w,cQ o g w->dm P T (Rf P T cQ Fin) o g w)(h:gv P T V fg cQ Fin t0 w0 gs w t S D x tag a y st sm)(cL:a.status=.running):
  (tag=.acq/\∃g',stepG P true a w=.go g' w #[Go.ConcR.mk (.acquire (stA T.Wg))]/\Fin (S.own 0) g' w) \/
  ∃gP w' S' D' x' tag' a' y' st' sm' ops,runT P (crowd gs w sl) 0=(.next (crowd gP w' sl),ops)/\gv P T V fg cQ Fin t0 w0 gP w' (t++ops) S' D' x' tag' a' y' st' sm'/\NN P T S S' D D' tag tag' x x' y y':=by
 have LL:=hT.m0;have tL:=h.uk.le;have hVj:=Vc_le S.j D;have NJ:∀b,S.own 0 b->T.H0<=b:=fun b hb=>h.tA.new 0 b hb;have Gv:tag≠.blk:=by
  rintro rfl;obtain⟨a0,h1,_⟩:=h.LJ;rw[h1] at cL;cases cL
 have IF:=h.LJ;rw[jQ.eq Gv] at IF;obtain⟨Rj,hy⟩:=IF;have book:∀{a':aY} {w':ae} {es:Array Event} {tag':CTag} {y':jL} {st' sm':Int},stepG P true a w=.go a' w' es->Aside T.Wg w w'->WgAt T.ty T.Wg w' st' sm'->(∀e∈es,Bk T.Wg e)->jQ P T V fg cQ Fin tag' (S.own 0) a' w' y' ->
   mG T.n tag' S.j (deafBehind (Deaf t 0) es)->Go.ConcN.Mode S.j D tag' st' sm'->(phi T.n (Vc S.j D) tag'<phi T.n (Vc S.j D) tag\/(phi T.n (Vc S.j D) tag'=phi T.n (Vc S.j D) tag/\mR P T y' y)) ->
   ∃gP w' S' D' x' tag' a' y' st' sm' ops,runT P (crowd gs w sl) 0=(.next (crowd gP w' sl),ops)/\gv P T V fg cQ Fin t0 w0 gP w' (t++ops) S' D' x' tag' a' y' st' sm'/\NN P T S S' D D' tag tag' x x' y y':=by
  intro a' w' es tag' y' st' sm' hgo Zy ID bO sP htg Cs cB;obtain⟨gP,r1,r2,r3⟩:=h.main (sl:=sl) hT hV tL hgo (o':=S.own 0) (tag':=tag') (y':=y') (st':=st') (sm':=sm') (fun _ hb=>hb) (fun _ hb=>.inl hb) (by rw[Cq];exact Cr bO) (bH Zy.size.symm) (fun k hk=>NH hT aa (fun b hb=>h.tA.new _ b hb) Zy ⟨_,_,ID⟩) (x6 hT (fun _ hb=>hb.elim) Zy ⟨_,_,ID⟩)
   (qP.Cm hT fun b hb=>Zy.block b (hT.sh b hb).2.1) (fun k hk=>Zy.block _ (hT.ch k hk).2) sP htg (fun e he=>norel_of_Bk bO e he) ID Cs
  refine⟨gP,w',_,D,_,tag',a',y',st',sm',_,r1,r2,?_⟩;rcases cB with cB|⟨cB,hl⟩
  ·left;show phi T.n (Vc S.j D) tag'+Ssum S.j D+mU S<phi T.n (Vc S.j D) tag+Ssum S.j D+mU S;omega
  ·right;refine⟨?_,r3,hl⟩;show phi T.n (Vc S.j D) tag'+Ssum S.j D+mU S=phi T.n (Vc S.j D) tag+Ssum S.j D+mU S;omega
 by_cases pD:∀w1,dN T (S.own 0) w w1->kD P T V fg cQ Fin tag (S.own 0) a w1
 ·have eI:=pD w (dN.refl w);have tJ:=h.uk;have kj:=h.mode;have px:=h.wg;cases tag with
  |blk=>exact absurd rfl Gv
  |anch=>exact eI.elim
  |ret=>exact eI.elim
  |sp r s =>
   simp only[mG] at tJ;obtain⟨hr,hj,hsd⟩:=tJ;right;rcases hsd with⟨rfl,hd⟩|⟨rfl,hd⟩|⟨rfl,hd⟩|⟨rfl,hd⟩
   ·have Eg:LI P T V fg (T.n-(r+1)) (jg P T V fg cQ r) (S.own 0) a w:=by simpa[kD] using eI
    obtain⟨_,a',hgo,hk⟩:=Eg;exact book hgo (.refl T.Wg w) px bk_dis (jQ.mk (tag:=.sp r 4) aj hk (by simp[kD])) ⟨hr,hj,.inr (.inl ⟨rfl,by rw[hd];rfl⟩)⟩ (kj.reopen trivial trivial rfl aj) (.inl (by simp only[phi];omega))
   ·have Eg:SA1 P T V fg (T.n-(r+1)) (jg P T V fg cQ r) (S.own 0) a w:=by simpa[kD] using eI
    obtain⟨_,iG⟩:=Eg;obtain⟨ho,e1,e2,_⟩:=kj.open_inv trivial;rw[e1,e2] at px;obtain⟨a',hgo,hk⟩:=iG (Vc S.j D) aa (by simpa[pend] using px);refine book hgo (aside_setCell w (stA T.Wg) _) (px.setSt _) bk_rw (jQ.mk (tag:=.sp r 3) aj hk (by simp[kD])) ⟨hr,hj,.inr (.inr (.inl ⟨rfl,by rw[hd];simp[deafBehind,Go.ConcR.rd,Go.ConcR.wr]⟩))⟩ ?_ (.inl (by simp only[phi];omega));have e:(((Vc S.j D:Nat):Int)+1)*KK=((Vc S.j D+pend (.sp r 3):Nat):Int)*KK:=by simp[pend]
    rw[e];exact .opn trivial ho aj
   ·have Eg:Zr P T V fg (T.n-(r+1)) (jg P T V fg cQ r) (S.own 0) a w:=by simpa[kD] using eI
    obtain⟨_,a',hgo,hk⟩:=Eg;exact book hgo (.refl T.Wg w) px bk_en (jQ.mk (tag:=.sp r 2) aj hk (by simp[kD])) ⟨hr,hj,.inr (.inr (.inr ⟨rfl,by rw[hd];rfl⟩))⟩ (kj.reopen trivial trivial rfl aj) (.inl (by simp only[phi];omega))
   ·have Eg:SGo P T V fg (T.n-(r+1)) (jg P T V fg cQ r) (S.own 0) a w:=by simpa[kD] using eI
    obtain⟨_,a',child,hand,vF,hh,K3,E4⟩:=Eg;obtain⟨ho,e1,e2,_⟩:=kj.open_inv trivial;have eV:Vc (S.j+1) (upd D S.j ⟨7,0,0⟩)=Vc S.j D+1:=by
     simp only[Vc,sumTo,upd_same];rw[sumTo_upd_out D _ cnt (ag _)];rfl
    have eS:Ssum (S.j+1) (upd D S.j ⟨7,0,0⟩)=Ssum S.j D+7:=by
     simp only[Ssum,sumTo,upd_same];rw[sumTo_upd_out D _ WD.stage (ag _)]
    have pK:OpenSt (S.j+1) (upd D S.j ⟨7,0,0⟩):=fun b hb=>by
     by_cases e:b=S.j
     ·subst e;rw[upd_same];simp
     ·rw[upd_ne D _ e];exact ho b aa
    have Yc:∀tag',isOpen tag'->pend tag'=0->(∀vs,tag'≠.w2 vs)->Go.ConcN.Mode (S.j+1) (upd D S.j ⟨7,0,0⟩) tag' st sm:=by
     intro tag' h1 h2 h3;have:=Mode.opn (j:=S.j+1) (D:=upd D S.j ⟨7,0,0⟩) (tag:=tag') h1 pK (fun vs e=>absurd e (h3 vs));rw[eV,h2] at this;rw[e1,e2];simpa[pend] using this
    rw[<- hj] at K3;have less:∀(S':jK) (tag':CTag) (x':Nat->lQ) (y':jL),S'.j=S.j+1->S'.cl=S.cl->phi T.n (Vc S.j D+1) tag'+8<phi T.n (Vc S.j D) (.sp r 2)->NN P T S S' D (upd D S.j ⟨7,0,0⟩) (.sp r 2) tag' x x' y y':=by
     intro S' tag' x' y' e3 e4 e5;left;have el:mU S'<=mU S+1:=by
      simp only[mU,e3,e4,sumTo];split<;>omega
     simp only[pM,e3,eV,eS];omega
    cases r with
    |zero =>
     have hk:dm P T (Rg P T cQ) (fun b=>S.own 0 b/\¬hand b) a' w:=E4;obtain⟨gP,S',x',ops,r1,r2,r3,r4⟩:=h.spawn (sl:=sl) hT aa vF hh (K3 w (dN.refl w) (hT.idle S.j w0 w (fun a ha=>h.DW.idle S.j a (ag _) ha) h.DW.DW (h.idle0 S.j aa))) hd (tag':=.kd) (y':=.inl (Rg P T cQ,⟨a',fun b=>S.own 0 b/\¬hand b,w⟩)) (jQ.mk (tag:=.kd) aj hk rfl) ⟨aa,rfl⟩ (Yc .kd trivial rfl aj);exact⟨gP,w,S',_,x',.kd,a',_,st,sm,ops,r1,r4,less S' .kd x' _ r2 r3 (by simp only[phi];omega)⟩
    |succ r =>
     have hk:dm P T (LI P T V fg (T.n-(r+1)) (jg P T V fg cQ r)) (fun b=>S.own 0 b/\¬hand b) a' w:=E4;obtain⟨gP,S',x',ops,r1,r2,r3,r4⟩:=h.spawn (sl:=sl) hT aa vF hh (K3 w (dN.refl w) (hT.idle S.j w0 w (fun a ha=>h.DW.idle S.j a (ag _) ha) h.DW.DW (h.idle0 S.j aa))) hd (tag':=.sp r 5) (y':=.inl (LI P T V fg (T.n-(r+1)) (jg P T V fg cQ r),⟨a',fun b=>S.own 0 b/\¬hand b,w⟩)) (jQ.mk (tag:=.sp r 5) aj hk (by simp[kD])) ⟨aa,aa,.inl ⟨rfl,rfl⟩⟩ (Yc (.sp r 5) trivial rfl aj);exact⟨gP,w,S',_,x',.sp r 5,a',_,st,sm,ops,r1,r4,less S' (.sp r 5) x' _ r2 r3 (by simp only[phi];omega)⟩
  |kd =>
   simp only[mG] at tJ;obtain⟨_,a',hgo,hk⟩:=eI;have lX:dm P T (Rf P T cQ Fin) (S.own 0) a' w:=(hk.mono Yb).trans;exact .inr (book hgo (.refl T.Wg w) px bk_dis (jQ.mk (tag:=.w1) aj lX rfl) ⟨tJ.1,by rw[tJ.2];rfl⟩ (kj.reopen trivial trivial rfl aj) (.inl (by simp only[phi];omega)))
  |w1 =>
   simp only[mG] at tJ;obtain⟨_,iG⟩:=eI;obtain⟨ho,e1,e2,_⟩:=kj.open_inv trivial;rw[e1,e2] at px;obtain⟨a',hgo,h0,dJ⟩:=iG (Vc S.j D) aa (by simpa[pend] using px);have LO:WgAt T.ty T.Wg w (((Vc S.j D:Nat):Int)*KK) 0:=by simpa[pend] using px
   by_cases hv:Vc S.j D=0
   ·refine .inr (book hgo (.refl T.Wg w) (by rw[hv] at LO;simpa using LO) bk_rd (jQ.mk (tag:=.ke) aj (h0 hv) rfl) ⟨tJ.1,by rw[tJ.2];simp[deafBehind,Go.ConcR.rd]⟩ (.fin trivial (allQuit_of ho hv)) (.inl (by simp only[phi];omega)))
   ·have:=Mode.opn (j:=S.j) (D:=D) (tag:=.w2 (Vc S.j D)) trivial ho (fun vs e=>by cases e;omega);refine .inr (book hgo (.refl T.Wg w) LO bk_rd (jQ.mk (tag:=.w2 (Vc S.j D)) aj (dJ hv) rfl) ⟨tJ.1,by rw[tJ.2];simp[deafBehind,Go.ConcR.rd]⟩ (by simpa[pend] using this) (.inl (by simp only[phi];omega)))
  |w2 vs =>
   simp only[mG] at tJ;obtain⟨_,iG⟩:=eI;obtain⟨ho,e1,e2,x8⟩:=kj.open_inv trivial;have x8:=x8 vs rfl;rw[e1,e2] at px;have LO:WgAt T.ty T.Wg w (((Vc S.j D:Nat):Int)*KK) 0:=by simpa[pend] using px
   obtain⟨hit,ZA⟩:=iG (Vc S.j D) aa LO;by_cases hv:Vc S.j D=vs
   ·obtain⟨a',hgo,hk⟩:=hit hv;exact .inr (book hgo (aside_setCell w (stA T.Wg) _) (LO.setSt _) bk_rw (jQ.mk (tag:=.w3) aj hk rfl) ⟨tJ.1,by rw[tJ.2];simp[deafBehind,Go.ConcR.rd,Go.ConcR.wr]⟩ (.reg trivial ho aa) (.inl (by simp only[phi];omega)))
   ·obtain⟨a',hgo,hk⟩:=ZA hv;have lX:dm P T (Rf P T cQ Fin) (S.own 0) a' w:=(hk.mono Yb).trans;have:=Mode.opn (j:=S.j) (D:=D) (tag:=.w1) trivial ho (fun vs e=>by cases e);exact .inr (book hgo (.refl T.Wg w) LO bk_rd (jQ.mk (tag:=.w1) aj lX rfl) ⟨tJ.1,by rw[tJ.2];simp[deafBehind,Go.ConcR.rd]⟩ (by simpa[pend] using this) (.inl (by simp only[phi];omega)))
  |w3 =>
   simp only[mG] at tJ;obtain⟨_,Vw,PD,om⟩:=eI;have blocks:∀sm',sm'=0->WgAt T.ty T.Wg w st sm'->Go.ConcN.Mode S.j D .blk st sm'->∃gP w' S' D' x' tag' a' y' st' sm' ops,runT P (crowd gs w sl) 0=(.next (crowd gP w' sl),ops)/\gv P T V fg cQ Fin t0 w0 gP w' (t++ops) S' D' x' tag' a' y' st' sm'/\NN P T S S' D D' .w3 tag' x x' y y':=by
    intro sm' e hw hm;subst e;refine book (PD ⟨_,hw⟩) (.refl T.Wg w) hw aj (tag':=.blk) (y':=.inr 0) ⟨a,rfl,pD,rfl⟩ ⟨tJ.1,by rw[tJ.2];rfl⟩ hm (.inr ⟨rfl,?_⟩);rw[hy];exact trivial
   cases kj with
   |opn h1 _ _=>exact h1.elim
   |reg h1 h2 h3=>exact .inr (blocks _ rfl px (.reg trivial h2 h3))
   |last L h1 h2 h3 h4=>exact .inr (blocks _ rfl px (.last L trivial h2 h3 h4))
   |sema h2 =>
    obtain⟨a',hgo,hk⟩:=om px;exact .inr (book hgo (aside_setCell w (smA T.Wg) _) (px.setSm 0) bk_sem (jQ.mk (tag:=.w4) aj hk rfl) ⟨tJ.1,by rw[tJ.2];simp[deafBehind,semEvents]⟩ (.fin trivial h2) (.inl (by simp only[phi];omega)))
   |fin h1 _=>exact h1.elim
  |w4 =>
   simp only[mG] at tJ;obtain⟨_,iG⟩:=eI;obtain⟨hq,e1,e2⟩:=kj.fin_inv trivial;rw[e1,e2] at px;obtain⟨a',hgo,hk⟩:=iG px;exact .inr (book hgo (.refl T.Wg w) px bk_rd (jQ.mk (tag:=.ke) aj hk rfl) ⟨tJ.1,by rw[tJ.2];simp[deafBehind,Go.ConcR.rd]⟩ (.fin trivial hq) (.inl (by simp only[phi];omega)))
  |ke =>
   simp only[mG] at tJ;obtain⟨_,a',hgo,hk⟩:=eI;obtain⟨hq,e1,e2⟩:=kj.fin_inv trivial;rw[e1,e2] at px;exact .inr (book hgo (.refl T.Wg w) px bk_en (jQ.mk (tag:=.acq) aj hk rfl) ⟨tJ.1,by rw[tJ.2];rfl⟩ (.fin trivial hq) (.inl (by simp only[phi];omega)))
  |acq =>
   obtain⟨_,a',hgo,hk⟩:=eI;exact .inl ⟨rfl,a',hgo,hk⟩
 ·
  rcases Rj.look with hs|⟨_,kU⟩
  ·exact absurd hs pD
  obtain⟨a',w',es,hgo,K2,jl,hk⟩:=kU w (dN.refl w);have old:∀b,b<T.H0->w'.heap[b]?=w.heap[b]?:=fun b hb=>K2.rest b (by have:=h.h0;omega) (fun nC=>by have:=NJ b nC;omega);obtain⟨gP,r1,r2,r3⟩:=h.main (sl:=sl) hT hV tL hgo (o':=grow (S.own 0) w w') (tag':=tag) (y':=.inl (kD P T V fg cQ Fin tag,⟨a',grow (S.own 0) w w',w'⟩)) (st':=st) (sm':=sm) (fun _ hb=>.inl hb) (fun _ hb=>hb) (IH jl) K2.size
   (fun k hk=>K2.Cn hT aa h.h0 NJ (fun b hb=>⟨h.tA.new _ b hb,h.lt _ b hb,fun nC=>by have:=h.tA.one _ _ _ hb nC;omega⟩)) ⟨K2.size,fun _ hb=>hb.elim,fun b h1 _ _ _=>old b h1,gz (old _ hT.wg),K2.os,K2.output⟩
   (qP.Cm hT fun b hb=>old b (hT.sh b hb).1) (fun k hk=>old _ (hT.ch k hk).1) (jQ.mk Gv hk rfl) (by rw[deafBehind_still (fun e he=>⟨(jl e he).2.1,(jl e he).2.2.1⟩)];exact h.uk) (fun e he=>(jl e he).2.2.2 _) (h.wg.of_block (old _ hT.wg)) h.mode
  refine .inr ⟨gP,w',_,D,_,tag,a',_,st,sm,_,r1,r2,.inr ⟨rfl,r3,?_⟩⟩;rw[hy];exact⟨rfl,pD,w,es,dN.refl w,hgo,rfl⟩
end
end
end Go.Ren
