import Derived.Test.YtgjekaaknjgnmaaGreatDoorAc
import Derived.Below
import Derived.Conc.AppendEvents3
import Derived.Conc.AppendWalk
import Derived.Conc.AtomicLaws2
import Derived.Conc.EventLaws2
import Derived.Conc.SmallLaws
import Derived.Deep.Light
import Derived.Deep.LoopGhost
import Derived.Ground.Names2Prog
import Derived.Ground.NamesProg
import Derived.Ground.SlgnProg
import Derived.Ground.SlsfProg
import Derived.Laws.BytesString
import Derived.Laws.IdiomStrings
import Derived.Laws.Pointers
import Derived.Laws.Slices
import Derived.Laws.StructEq
import Derived.Lib.ItoaLen
import Derived.Lib.OwnBridge
import Derived.Lib.Walk
import Derived.RowKit3
import Derived.Shelf.Lay
import Derived.Shelf.LaysM
import Derived.Shelf.SlGeneric
import Derived.Shelf.SlSortCmp.SmallK
import Derived.Shelf.Slices.Cells
import Derived.Shelf.Slices.Clone
import Derived.Shelf.Slices.CompactS
import Derived.Shelf.Slices.In.SortNone
import Derived.Shelf.Slices.MinMaxS
import Derived.Shelf.Slices.Turned
import Derived.Shelf.SlicesE.Reverse
import Derived.Shelf.Small.Bits
import Derived.Shelf.Small.Strs
import Derived.Shelf.Sort.Plain
import Derived.Shelf.Spec.SearchS
import Derived.Shelf.Strconv.Itoa0
import Derived.Shelf.Strconv.Itoa1
import Derived.Shelf.Strconv.Itoa2
import Derived.Shelf.Strconv.Itoa3
import Derived.Shelf.Strings.Builder1
import Derived.Shelf.Strings.Builder2
import Derived.Shelf.Strings.OnBuilder
import Derived.StillTactics
import Derived.Test.YtgjekaaknjgnmaaGreatDoorChecked
import Derived.Test.YtgjekaaknjgnmaaGreatDoorProg
import Derived.WalkKit
import Derived.WalkSpells
set_option linter.all false
set_option maxHeartbeats 40000000
set_option maxRecDepth 200000
namespace Go.Ren
open _root_.Option renaming some → so,none → we
open Go.Conc Go.ConcN
structure xe(p:Prop):Prop where
 out:p
theorem ay{G G':Prop}(h:G')(f:xe G'->G:=by
  intro h9;try walk_nrm
  repeat (first|(refine CE (by assumption) ?_;simp only[List.size_toArray,List.length_cons,List.length_nil,Nat.reduceAdd,Nat.zero_add,List.range,List.range.loop])|(refine re (by assumption) rfl rfl ?_ ?_ ?_;(focus (rfl));(focus (intro w1;first|(simp[go_sem];done)|(simp[go_sem, *];done)));intro w1 K hK;go_simp;refine hK _ ?_;clear hK K w1;try walk_nrm)|(refine jv (by assumption) rfl (by rfl) ?_;try walk_nrm)|((first|refine ya (by assumption) ?_|refine IQ (by assumption) ?_|refine NU (by assumption) ?_|refine IS (by assumption) ?_);try simp only[ij,SZ,yf,dz,if_true,if_false,reduceIte,Nat.reduceEqDiff])|(refine sM (by assumption) ?_)|(refine Fp (by assumption) ?_)|(refine je (by assumption) rfl ?_;simp only[if_true,if_false,reduceIte,aQ]))
  exact h9.out):G:=f ⟨h⟩
theorem Mh{G G':Prop}(h:G')(f:xe G'->G:=by
  intro h9;try walk_nrm
  repeat (first|(refine CE (by assumption) ?_;simp only[List.size_toArray,List.length_cons,List.length_nil,Nat.reduceAdd,Nat.zero_add,List.range,List.range.loop])|(refine re (by assumption) rfl rfl ?_ ?_ ?_;(focus (rfl));(focus (intro w1;first|(simp[go_sem];done)|(simp[go_sem, *];done)));intro w1 K hK;go_simp;refine hK _ ?_;clear hK K w1;try walk_nrm)|(refine jv (by assumption) rfl (by rfl) ?_;try walk_nrm)|((first|refine ya (by assumption) ?_|refine IQ (by assumption) ?_|refine NU (by assumption) ?_|refine IS (by assumption) ?_);try simp only[ij,dz,if_true,if_false,reduceIte,Nat.reduceEqDiff])|(refine Fp (by assumption) ?_)|(refine je (by assumption) rfl ?_;simp only[if_true,if_false,reduceIte,aQ]))
  exact h9.out):G:=f ⟨h⟩
theorem cq{G G':Prop}(h:G')(f:xe G'->G:=by
  intro h9;try walk_nrm
  repeat (refine pL (y:=?_) rfl rfl rfl (by rfl) (fun w1=>?_) (fun w1=>?_) ?_;rotate_left;(focus (first|(simp[go_sem,Act.eval];rfl)|(simp[go_sem,Act.eval, *];rfl)));(focus (first|(simp[go_sem,Act.eval];done)|(simp[go_sem,Act.eval, *];done)));try walk_nrm)
  exact h9.out):G:=f ⟨h⟩
theorem gW{G G':Prop}(h:G')(f:xe G'->G:=by
  intro h9
  repeat (refine WC (by assumption) rfl rfl ?_ (by assumption) ?_ ?_;(focus (rfl));(focus (intro w1;first|(simp[go_sem];done)|(simp[go_sem, *];done)));intro w1 K hK;go_simp;refine hK _ ?_;clear hK K w1;try walk_nrm)
  exact h9.out):G:=f ⟨h⟩
theorem dN{G G':Prop}(h:G')(f:xe G'->G:=by
  intro h9;simp only[List.size_toArray,List.length_cons,List.length_nil,Nat.reduceAdd,Nat.zero_add,List.range,List.range.loop];exact h9.out):G:=f ⟨h⟩
theorem uy{G G':Prop}(h:G')(f:xe G'->G:=by
  intro h9;refine cK rfl rfl (kB fun o5 w5 nA=>⟨?_,?_⟩) ?_;(focus (first|(simp[go_sem];done)|(simp[go_sem, *];done)));(focus (first|(simp[go_sem];done)|(simp[go_sem, *];done)));try walk_nrm
  exact h9.out):G:=f ⟨h⟩
theorem To{G G':Prop}(h:G')(f:xe G'->G:=by
  intro h9;refine cK rfl rfl (fun w5 nA=>⟨?_,?_⟩) ?_;(focus (first|(simp[go_sem];done)|(simp[go_sem, *];done)));(focus (first|(simp[go_sem];done)|(simp[go_sem, *];done)));try walk_nrm
  exact h9.out):G:=f ⟨h⟩
theorem mo{G T:Prop}(h:T)(f:T->G:=by
  intro h9 y hy;simp[Op.operands] at hy;subst hy;simp[Act.eval];exact h9):G:=f h
theorem jF{G T U:Prop}(h:T)(k:U)(f:T->U->G:=by
  intro h9 k9 y hy;simp[Op.operands] at hy;rcases hy with rfl|rfl
  ·simp[Act.eval];exact h9
  ·simp[Act.eval];exact k9):G:=f h k
section
variable {P:Program} {m:Bool} {R:aM->ae->ae->Prop} {Gu:aM->ae->ae->Array Event->Prop} {X:aM->aZ->ae->Prop} {fn:FuncId} {Q:Exit->Act->aM->ae->Prop} {a:Act} {o:aM} {w:ae}
theorem b5{ops:Array Oper}{i:Nat}{rest:List Nat}{op:Oper}{f:FuncId}{fc:Func}{c:Code}{args:Array Operand}{sE:Array TypeId}{vs:Array Value}{d:Option Tmp}{Post:Value->aM->ae->Prop}(hf:P.funcs[f]?=some fc)(h:bA P X f vs o w Post)(k:∀v o' w',Post v o' w'->eX X fn ops rest Q (a.put d v) o' w')(W:fH P m R Gu X:=by assumption)(ho:ops[i]?=some op:=by rfl)(hw:Region.wanted op (yielded ops a.tmps)=true:=by rfl)(eW:op.op=.call {callee:=.value (.func f),args,argTypes:=sE}:=by rfl)(gN:(fc.name == "runtime.NumGoroutine")=false:=by kernel_rfl)(fF:fc.body=some c:=by rfl)(LQ:args.map a.eval=vs:=by simp[Act.eval])(hd:op.dst=d:=by rfl):eX X fn ops (i::rest) Q a o w:=du W ho hw eW hf gN fF LQ hd (h.mono k)
end
section
variable {P:Program}{w:ae}{es:Array Event}
def yr(t e:TypeId)(n:Nat)(a:Addr)(kl kh:IntKind)(l h:Int)(ht:P.underlying t=so (.array n e))(h0:0<=l)(h1:l<=h)(h2:h<=n):
  (Instr.sliceAt t (.pointer (so a)) (so (.int kl l)) (so (.int kh h)) we).events P w es=es:=by
 have eh:(h.toNat:Int)=h:=gC aa;have el:(l.toNat:Int)=l:=gC h0;have b1:∀w es,(Instr.sliceBound (.int kh h) n .sliceAlen).events P w es=es:=λw es=>by
  simp[Instr.sliceBound,asIntOf,Sem.events_bind,show 0<=h by omega,h2]
 have b2:∀w es,(Instr.sliceBound (.int kl l) h.toNat .sliceB).events P w es=es:=λw es=>by
  simp[Instr.sliceBound,asIntOf,Sem.events_bind,h0,eh,h1]
 simp[Instr.sliceAt,Instr.sliceBounds,Instr.sureAddr,Sem.events_bind,run_underlying ht,run_sliceBound,b1,b2,eh,el,h0,h1,h2,show 0<=h by omega,go_sem]
end
section
variable {P:Program}
def xf{w:ae}(f:Value->af->Sem (ForInStep af))(hf:∀(n:Int) (r:af),(f (.int .u8 n) r).run P w=.ok (.yield (r.push (UInt8.ofNat n.toNat))) w)(he:∀(n:Int) (r:af) (es:Array Event),(f (.int .u8 n) r).events P w es=es):∀(ns:List Int) (s:af) (es:Array Event),(forIn (ns.map (Value.int .u8)) s f).events P w es=es:=by
 intro ns
 induction ns with
 |nil=>intro s es;simp[Sem.events_pure]
 |cons n ns ih =>
  intro s es;simp only[aC,List.forIn_cons,Sem.events_bind,hf,Result.evThen_ok,he];exact ih _ es
def cX{w:ae}{a:Addr}{u v:Value}(es:Array Event)(m:Mode)(hc:w.cell? a=so u)(hf:w.frozen? a=false)(hv:v.oneCell'=true):(store a v m).events P w es=es.push ⟨.cell a,true,m == .atomic⟩:=by
 rw[events_store P w es a v m hv,hc];simp[hf]
def vS(w:ae)(src dst e:TypeId)(a:Addr)(ns:List Int)(c:Nat)(es:Array Event)(hs:P.underlying src=so (.slice e))(he:P.underlying e=so (.int .u8))(hd:P.underlying dst=so .string)(hc:∀j (hj:j<ns.length),w.cell? (a.add j)=so (.int .u8 ns[j])):∀ev∈(convert src dst (.slice (so a) ns.length c)).events P w es,ev∈es\/ev.readsIn (λb=>b=a.block):=by
 have hl:=run_loadCells_list (P:=P) w a (ns.map (Value.int .u8)) (λj v hj=>by
  obtain⟨h1,h2⟩:=aao.1 hj;rw[hc j (by simpa using h1),<- h2];simp)
 simp only[List.length_map]at hl;intro ev h;have h':ev∈(Conv.bytesToString (.slice (so a) ns.length c)).events P w es:=by
  simpa[convert,run_underlying hs,run_underlying hd,run_underlying he,Sem.events_bind,events_underlying] using h
 simp only[Conv.bytesToString,Sem.events_bind,hl,Result.evThen_ok]at h';rw[List.forIn_toArray,run_forIn_bytes (P:=P) (w:=w) _ (λn r=>by simp[Sem.run_pure]) ns ByteArray.empty,Result.evThen_ok,xf (P:=P) (w:=w) _ (λn r=>by simp[Sem.run_pure]) (λn r es=>by simp[Sem.events_pure]) ns ByteArray.empty,Sem.events_pure]at h';exact events_loadCellsFrom_at a (λb=>b=a.block) rfl ns.length 0 #[] w es (λj hj=>by rw[bt,hc j hj];rfl) ev h'
end
end Go.Ren
namespace Go.Proofs.Kz
open Go.Proofs.Tryz
open Go.Proofs.Tryz renaming prog → ax
open _root_.ByteArray renaming empty → aR
open _root_.Option renaming some → so,none → we
open Go.Ren Go.Conc Go.Proofs
section
variable {m:Bool}{R:aM->ae->ae->Prop}{Gu:aM->ae->ae->Array Event->Prop}{X:aM->aZ->ae->Prop}{o:aM}{w:ae}
def aat(W:fH ax m R Gu X)(n:Int){Post:Value->aM->ae->Prop}(h:bA ax X 209 #[.int .i64 n] o w Post):bA ax X 197 #[.int .i64 n] o w Post:=by
 refine bD W func197 ak ?_;refine ay ?_;refine du W rfl ak rfl func209 ai rfl aK rfl (h.mono λv o' w' hp=>?_);try walk_nrm
 refine ay ?_;exact⟨.inr trivial,trivial,v,resultsC_tmp (t:=2) ak _,hp⟩
end
end Go.Proofs.Kz
namespace Go.Ren
open _root_.Option renaming some → so,none → we
def WH(P:Program)(L:Nat->Bool)(Gm:Nat)(ex:List Nat)(n:Nat):Bool:=match P.funcs[n]? with
 |some fn=>fn.body.all (kM Gm L)&&((fn.body.isSome&&!(fn.name == "runtime.NumGoroutine"))||ex.contains n)
 |none=>false
def BG{P:Program}{L:Nat->Bool}{Gm:Nat}{ex l:List Nat}(ha:l.all (WH P L Gm ex)=true){n:Nat}(h:n∈l):∃fn,P.funcs[n]?=so fn/\fn.body.all (kM Gm L)=true/\((fn.body.isSome=true/\(fn.name == "runtime.NumGoroutine")=false)\/n∈ex):=by
 have hm:=aaA.1 ha n h;unfold WH at hm;cases hf:P.funcs[n]? with
 |none=>rw[hf]at hm;cases hm
 |some fn =>
  rw[hf]at hm;simp only[bf,Bool.or_eq_true,eE]at hm;exact⟨fn,rfl,hm.1,hm.2.imp id aan.1⟩
end Go.Ren
namespace Go.Proofs.Kz
open Go.Proofs.Tryz
open Go.Proofs.Tryz renaming prog → ax
open _root_.ByteArray renaming empty → aR
open _root_.Option renaming some → so,none → we
open Go.Ren Go.Proofs
def LW(n:Nat):Bool:=[196,199,210,211,212,213,245,247,223,234,235,236,254,255,249,250,251,258,259,262,263].contains n
def Tp:([196,199,210,211,212,213,245,247,223,234,235,236,254,255,249,250,251,258,259,262,263]:List Nat).all (WH ax LW 0 [262,263])=true:=ai
def WI(n:Nat)(hn:LW n=true)(f:Rn)(hf:nF ax f)(hh:∀n,LW n=true->f.h n=n)(args:Array Value):Rel ax f (jc LW f) (callFunc n args) (callFunc n (args.map (val f))):=by
 obtain⟨fn,h1,-,h2⟩:=BG Tp (aan.1 (by unfold LW at hn;exact hn));rcases h2 with⟨h2,h3⟩|h2;rotate_left;simp only[bM,dh,or_false]at h2;rcases h2 with rfl|rfl
 rotate_right
 ·exact Fg h1 h2 h3 hn args
 ·exact oB func262 rfl ai ai rfl (hh _ ai) args (xZ _)
 ·exact oB func263 rfl ai ai rfl (hh _ ai) args (uh hf _ _ _)
def aau(hz:∀t i z,ax.info? t=so i->i.zero=so z->∀f:Rn,val f z=z):rT ax LW 0 where
 zero:=hz
 call:=λn hn=>WI n hn
 body:=λn hn=>by
  obtain⟨fn,h1,h2,-⟩:=BG Tp (aan.1 (by unfold LW at hn;exact hn));exact⟨fn,h1,λc hc=>by rw[hc]at h2;exact h2⟩
def Tq:Value->Bool
 | .tuple vs=>vs.all Cc
 |v=>Cc v
def Mi{v:Value}(h:Tq v=true)(f:Rn):val f v=v:=by
 cases v
 case tuple cs =>
  have hc:cs.all Cc=true:=h;rw[ig]at hc;rw[b8]
  congr 1
  apply ja
  ·simp
  ·intro i h1 h2;simp only[Array.getElem_map];exact wS (hc i h2) f
 all_goals (refine wS ?_ f;exact h)
def Mj:(ax.types.all λi=>i.zero.all Tq)=true:=ai
def FE:∀t i z,ax.info? t=so i->i.zero=so z->∀f:Rn,val f z=z:=by
 refine LG λt i z hi hz=>?_;have h:=Mj;rw[jw]at h;have:=h i (fg hi);rw[hz]at this;exact λf=>Mi this f
def gX:ax.globals.size≠1:=by
 have:(ax.globals.size==1)=false:=ai;intro h;rw[h]at this;cases this
end Go.Proofs.Kz
namespace Go.Proofs
open _root_.Option renaming some → so,none → we
section
open Go.Shelf
def Tryz.AL:Go.Shelf.Ren:=⟨λ|156=>234|165=>249|166=>250|169=>251|240=>258|241=>259|276=>262|277=>263|n=>n,λ|31=>40|9=>9|3=>3|4=>4|0=>0|20=>20|72=>332|76=>335|70=>330|37=>90|75=>334|127=>344|164=>116|5=>5|80=>337|n=>n,λ|n=>n⟩
def Tryz.WJ:Go.Proofs.Lays.n156 Tryz.prog Tryz.AL:={
 mixed:=ai
 f156:=Tryz.func234.trans (congrArg so ai)
 f165:=Tryz.func249.trans (congrArg so ai)
 f166:=Tryz.func250.trans (congrArg so ai)
 f169:=Tryz.func251.trans (congrArg so ai)
 f240:=Tryz.func258.trans (congrArg so ai)
 f241:=Tryz.func259.trans (congrArg so ai)
 f276:=Tryz.func262.trans (congrArg so ai)
 f277:=Tryz.func263.trans (congrArg so ai)
 t0:=underlying0
 a0:=isAgg0
 z0:=sizeOf0
 v0:=zeroValue0
 t3:=underlying3
 a3:=isAgg3
 z3:=sizeOf3
 v3:=zeroValue3
 t4:=underlying4
 a4:=isAgg4
 z4:=sizeOf4
 v4:=zeroValue4
 t9:=underlying9
 a9:=isAgg9
 z9:=sizeOf9
 v9:=zeroValue9
 t20:=underlying20
 a20:=isAgg20
 z20:=sizeOf20
 v20:=zeroValue20
 t31:=underlying40
 a31:=isAgg40
 z31:=sizeOf40
 v31:=zeroValue40
 t37:=underlying90
 a37:=isAgg90
 z37:=sizeOf90
 v37:=zeroValue90
 t70:=underlying330
 a70:=isAgg330
 z70:=sizeOf330
 v70:=zeroValue330
 t72:=underlying332
 a72:=isAgg332
 z72:=sizeOf332
 v72:=zeroValue332
 t75:=underlying334
 a75:=isAgg334
 z75:=sizeOf334
 v75:=zeroValue334
 t76:=underlying335
 a76:=isAgg335
 z76:=sizeOf335
 v76:=zeroValue335
 t127:=underlying344
 a127:=isAgg344
 z127:=sizeOf344
 v127:=zeroValue344
 t164:=underlying116
 a164:=isAgg116
 z164:=sizeOf116
 v164:=zeroValue116}
def Tryz.yu:Builder.Extra Tryz.prog Tryz.AL:={
 sizeBuilder:=ai
 liesBuilder:=ai
 t5:=underlying5
 a5:=isAgg5
 z5:=sizeOf5
 v5:=zeroValue5
 infoByte:=ai
 cellsByte:=ai
 sizeByte:=ai
 neB5:=by decide}
open Go.RowKit in
theorem Tryz.strings_Join(bk o c:Nat)(xs:List af)(sep:af)(w:ae)(uz:∀(j:Nat) x,xs[j]?=so x->w.cell? ⟨bk,o+j,we⟩=so (.string x))(bP:bk<w.heap.size)(hN:xs.length<=140737488355328)(Bf:xs.length<=c)(hlen:(Lib.join (xs.map (·.data.toList)) sep.data.toList).length<=140737488355328):
  Calls Tryz.prog 234 #[.slice (so ⟨bk,o,we⟩) xs.length c,.string sep] w λe w'=>e=.returned (.string ⟨(Lib.join (xs.map (·.data.toList)) sep.data.toList).toArray⟩)/\Below w.heap.size w w':=Any.strings_Join Tryz.WJ Tryz.yu bk o c xs sep w uz bP hN Bf hlen
def Tryz.Je:Go.Shelf.Ren:=⟨λ|106=>187|213=>206|265=>224|n=>n,λ|9=>9|3=>3|n=>n,λ|n=>n⟩
def Tryz.WK:Go.Proofs.Lays.n106 Tryz.prog Tryz.Je:={
 mixed:=ai
 f106:=Tryz.func187.trans (congrArg so ai)
 f213:=Tryz.func206.trans (congrArg so ai)
 f265:=Tryz.func224.trans (congrArg so ai)
 t3:=underlying3
 a3:=isAgg3
 z3:=sizeOf3
 v3:=zeroValue3
 t9:=underlying9
 a9:=isAgg9
 z9:=sizeOf9
 v9:=zeroValue9}
open Go.RowKit in
theorem Tryz.strings_Compare(a b:af)(w:ae):
  Calls Tryz.prog 187 #[.string a,.string b] w λe w'=>e=.returned (.int .i64 (Lib.compareBytes a.data.toList b.data.toList))/\w'=w:=Any.strings_Compare Tryz.WK a b w
def Tryz.Jf:Go.Shelf.Ren:=⟨λ|129=>223|n=>n,λ|53=>212|3=>3|4=>4|46=>223|5=>5|9=>9|n=>n,λ|n=>n⟩
def Tryz.WL:Go.Proofs.Lays.n129 Tryz.prog Tryz.Jf:={
 mixed:=ai
 f129:=Tryz.func223.trans (congrArg so ai)
 t3:=underlying3
 a3:=isAgg3
 z3:=sizeOf3
 v3:=zeroValue3
 t4:=underlying4
 a4:=isAgg4
 z4:=sizeOf4
 v4:=zeroValue4
 t5:=underlying5
 a5:=isAgg5
 z5:=sizeOf5
 v5:=zeroValue5
 t9:=underlying9
 a9:=isAgg9
 z9:=sizeOf9
 v9:=zeroValue9
 t46:=underlying223
 a46:=isAgg223
 z46:=sizeOf223
 v46:=zeroValue223
 t53:=underlying212
 a53:=isAgg212
 z53:=sizeOf212
 v53:=zeroValue212}
def Tryz.bits_Len64(x:Int)(w:ae)(h0:0<=x)(h1:x<=18446744073709551615):
  Calls Tryz.prog 223 #[.int .u64 x] w λe w'=>e=.returned (.int .i64 (Lib.bitLen x.toNat))/\w'=w:=Any.bits_Len64 Tryz.WL x w h0 h1
def Tryz.Jg:Go.Shelf.Ren:=⟨λ|317=>254|n=>n,λ|3=>3|46=>223|n=>n,λ|n=>n⟩
def Tryz.WM:Go.Proofs.Lays.n317 Tryz.prog Tryz.Jg:={
 mixed:=ai
 f317:=Tryz.func254.trans (congrArg so ai)
 t3:=underlying3
 a3:=isAgg3
 z3:=sizeOf3
 v3:=zeroValue3
 t46:=underlying223
 a46:=isAgg223
 z46:=sizeOf223
 v46:=zeroValue223}
open Go.Lib in
theorem Tryz.internal_strconv_log10Pow2(x:Nat)(h:x<=64)(w:ae):
  Calls Tryz.prog 254 #[.int .i64 x] w λe w'=>e=.returned (.int .i64 (Lib.l10 x))/\w'=w:=Any.internal_strconv_log10Pow2 Tryz.WM x h w
def Tryz.Jh:Go.Shelf.Ren:=⟨λ|318=>255|n=>n,λ|3=>3|4=>4|n=>n,λ|n=>n⟩
def Tryz.WO:Go.Proofs.Lays.n318 Tryz.prog Tryz.Jh:={
 mixed:=ai
 f318:=Tryz.func255.trans (congrArg so ai)
 t3:=underlying3
 a3:=isAgg3
 z3:=sizeOf3
 v3:=zeroValue3
 t4:=underlying4
 a4:=isAgg4
 z4:=sizeOf4
 v4:=zeroValue4}
open Go.Lib in
theorem Tryz.internal_strconv_bool2_int(b:Bool)(w:ae):
  Calls Tryz.prog 255 #[.bool b] w λe w'=>e=.returned (.int .i64 (if b then 1 else 0))/\w'=w:=Any.internal_strconv_bool2_int Tryz.WO b w
def Tryz.Ji:Go.Shelf.Ren:=⟨λ|283=>245|n=>n,λ|3=>3|9=>9|4=>4|n=>n,λ|n=>n⟩
def Tryz.WQ:Go.Proofs.Lays.n283 Tryz.prog Tryz.Ji:={
 mixed:=ai
 f283:=Tryz.func245.trans (congrArg so ai)
 t3:=underlying3
 a3:=isAgg3
 z3:=sizeOf3
 v3:=zeroValue3
 t4:=underlying4
 a4:=isAgg4
 z4:=sizeOf4
 v4:=zeroValue4
 t9:=underlying9
 a9:=isAgg9
 z9:=sizeOf9
 v9:=zeroValue9}
open Go.Lib in
theorem Tryz.internal_strconv_small(i:Nat)(h:i<100)(w:ae):
  Calls Tryz.prog 245 #[.int .i64 i] w λe w'=>e=.returned (.string ⟨(Lib.decDigits i).toArray⟩)/\w'=w:=Any.internal_strconv_small Tryz.WQ i h w
def Tryz.Jj:Go.Shelf.Ren:=⟨λ|285=>247|n=>n,λ|37=>90|53=>212|3=>3|4=>4|51=>102|9=>9|5=>5|0=>0|n=>n,λ|n=>n⟩
def Tryz.WS:Go.Proofs.Lays.n285 Tryz.prog Tryz.Jj:={
 mixed:=ai
 f285:=Tryz.func247.trans (congrArg so ai)
 t0:=underlying0
 a0:=isAgg0
 z0:=sizeOf0
 v0:=zeroValue0
 t3:=underlying3
 a3:=isAgg3
 z3:=sizeOf3
 v3:=zeroValue3
 t4:=underlying4
 a4:=isAgg4
 z4:=sizeOf4
 v4:=zeroValue4
 t5:=underlying5
 a5:=isAgg5
 z5:=sizeOf5
 v5:=zeroValue5
 t9:=underlying9
 a9:=isAgg9
 z9:=sizeOf9
 v9:=zeroValue9
 t37:=underlying90
 a37:=isAgg90
 z37:=sizeOf90
 v37:=zeroValue90
 t51:=underlying102
 a51:=isAgg102
 z51:=sizeOf102
 v51:=zeroValue102
 t53:=underlying212
 a53:=isAgg212
 z53:=sizeOf212
 v53:=zeroValue212}
open Go.RowKit Go.Sort Go.Lib in
theorem Tryz.internal_strconv_formatBase10(blk off cap:Nat)(u:Nat)(d:Array UInt8)(w:ae)(hH:Holds (λ(b:UInt8)=>Value.int .u8 (b.toNat:Int)) w blk off d)(hu:u<10^d.size)(aih:u<18446744073709551616)(fy:d.size<4611686018427387904):
  Calls Tryz.prog 247 #[.slice (so ⟨blk,off,we⟩) d.size cap,.int .u64 u] w λe w' =>
   e=.returned (.tuple #[])/\∃(n v':Nat) (dk:Array UInt8),w'=(putRow (λ(b:UInt8)=>Value.int .u8 (b.toNat:Int)) w blk off dk).drewN n/\FmtInv d.size u 0 v' dk:=Any.internal_strconv_formatBase10 Tryz.WS blk off cap u d w hH hu aih fy
def Tryz.Jk:Go.Shelf.Ren:=⟨λ|190=>188|125=>205|258=>207|128=>222|129=>223|302=>225|303=>226|304=>227|305=>228|306=>229|307=>230|308=>118|309=>231|310=>232|333=>242|329=>238|330=>239|334=>243|335=>244|336=>168|344=>253|n=>n,λ|31=>40|9=>9|3=>3|46=>223|0=>0|51=>102|53=>212|4=>4|183=>304|182=>303|131=>156|5=>5|218=>319|222=>322|228=>338|229=>170|n=>n,λ|n=>n⟩
def Tryz.WU:Go.Proofs.Lays.n190 Tryz.prog Tryz.Jk:={
 mixed:=ai
 f125:=Tryz.func205.trans (congrArg so ai)
 f128:=Tryz.func222.trans (congrArg so ai)
 f129:=Tryz.func223.trans (congrArg so ai)
 f190:=Tryz.func188.trans (congrArg so ai)
 f258:=Tryz.func207.trans (congrArg so ai)
 f302:=Tryz.func225.trans (congrArg so ai)
 f303:=Tryz.func226.trans (congrArg so ai)
 f304:=Tryz.func227.trans (congrArg so ai)
 f305:=Tryz.func228.trans (congrArg so ai)
 f306:=Tryz.func229.trans (congrArg so ai)
 f307:=Tryz.func230.trans (congrArg so ai)
 f308:=Tryz.func118.trans (congrArg so ai)
 f309:=Tryz.func231.trans (congrArg so ai)
 f310:=Tryz.func232.trans (congrArg so ai)
 f329:=Tryz.func238.trans (congrArg so ai)
 f330:=Tryz.func239.trans (congrArg so ai)
 f333:=Tryz.func242.trans (congrArg so ai)
 f334:=Tryz.func243.trans (congrArg so ai)
 f335:=Tryz.func244.trans (congrArg so ai)
 f336:=Tryz.func168.trans (congrArg so ai)
 f344:=Tryz.func253.trans (congrArg so ai)
 t0:=underlying0
 a0:=isAgg0
 z0:=sizeOf0
 v0:=zeroValue0
 t3:=underlying3
 a3:=isAgg3
 z3:=sizeOf3
 v3:=zeroValue3
 t4:=underlying4
 a4:=isAgg4
 z4:=sizeOf4
 v4:=zeroValue4
 t5:=underlying5
 a5:=isAgg5
 z5:=sizeOf5
 v5:=zeroValue5
 t9:=underlying9
 a9:=isAgg9
 z9:=sizeOf9
 v9:=zeroValue9
 t31:=underlying40
 a31:=isAgg40
 z31:=sizeOf40
 v31:=zeroValue40
 t46:=underlying223
 a46:=isAgg223
 z46:=sizeOf223
 v46:=zeroValue223
 t51:=underlying102
 a51:=isAgg102
 z51:=sizeOf102
 v51:=zeroValue102
 t53:=underlying212
 a53:=isAgg212
 z53:=sizeOf212
 v53:=zeroValue212
 t131:=underlying156
 a131:=isAgg156
 z131:=sizeOf156
 v131:=zeroValue156
 t182:=underlying303
 a182:=isAgg303
 z182:=sizeOf303
 v182:=zeroValue303
 t183:=underlying304
 a183:=isAgg304
 z183:=sizeOf304
 v183:=zeroValue304
 t218:=underlying319
 a218:=isAgg319
 z218:=sizeOf319
 v218:=zeroValue319
 t222:=underlying322
 a222:=isAgg322
 z222:=sizeOf322
 v222:=zeroValue322
 t228:=underlying338
 a228:=isAgg338
 z228:=sizeOf338
 v228:=zeroValue338
 t229:=underlying170
 a229:=isAgg170
 z229:=sizeOf170
 v229:=zeroValue170}
open Go.Sort Go.RowKit in
theorem Tryz.slices_Sort_string(blk off cap:Nat)(ss:List (List UInt8))(w:ae)(hH:Holds encStr w blk off ss.toArray)(PS:blk<w.heap.size)(fy:ss.length<4611686018427387904):
  Calls Tryz.prog 188 #[.slice (so ⟨blk,off,we⟩) ss.length cap] w λe w' =>
   e=.returned (.tuple #[])/\∃n os,w'=grow (putRow encStr (Sort.ahead w n) blk off (ss.mergeSort λx y=>decide (x<=y)).toArray) os:=Any.slices_Sort_string Tryz.WU blk off cap ss w hH PS fy
def Tryz.Jl:Go.Shelf.Ren:=⟨λ|107=>190|108=>208|n=>n,λ|28=>130|3=>3|4=>4|0=>0|n=>n,λ|n=>n⟩
def Tryz.WV:Go.Proofs.Lays.n107 Tryz.prog Tryz.Jl:={
 mixed:=ai
 f107:=Tryz.func190.trans (congrArg so ai)
 f108:=Tryz.func208.trans (congrArg so ai)
 t0:=underlying0
 a0:=isAgg0
 z0:=sizeOf0
 v0:=zeroValue0
 t3:=underlying3
 a3:=isAgg3
 z3:=sizeOf3
 v3:=zeroValue3
 t4:=underlying4
 a4:=isAgg4
 z4:=sizeOf4
 v4:=zeroValue4
 t28:=underlying130
 a28:=isAgg130
 z28:=sizeOf130
 v28:=zeroValue130}
open Go.Lib in
theorem Tryz.slices_Contains_int(b off n c:Nat)(zs:List Int)(x:Int)(w:ae)(hz:n<=zs.length)(CX:n<=9223372036854775807)(hc:∀j,j<zs.length->w.cell? ⟨b,off+j,we⟩=so (.int .i64 (zs.getD j 0))):
  Calls Tryz.prog 190 #[.slice (so ⟨b,off,we⟩) n c,.int .i64 x] w λe w'=>e=.returned (.bool ((zs.take n).contains x))/\w'=w:=Any.slices_Contains_int Tryz.WV b off n c zs x w hz CX hc
def Tryz.Jm:Go.Shelf.Ren:=⟨λ|110=>80|109=>128|n=>n,λ|31=>40|9=>9|4=>4|3=>3|0=>0|n=>n,λ|n=>n⟩
def Tryz.NZ:Go.Proofs.Lays.n110 Tryz.prog Tryz.Jm:={
 mixed:=ai
 f109:=Tryz.func128.trans (congrArg so ai)
 f110:=Tryz.func80.trans (congrArg so ai)
 t0:=underlying0
 a0:=isAgg0
 z0:=sizeOf0
 v0:=zeroValue0
 t3:=underlying3
 a3:=isAgg3
 z3:=sizeOf3
 v3:=zeroValue3
 t4:=underlying4
 a4:=isAgg4
 z4:=sizeOf4
 v4:=zeroValue4
 t9:=underlying9
 a9:=isAgg9
 z9:=sizeOf9
 v9:=zeroValue9
 t31:=underlying40
 a31:=isAgg40
 z31:=sizeOf40
 v31:=zeroValue40}
open Go.Lib in
theorem Tryz.slices_Contains_string(b off n c:Nat)(zs:List af)(x:af)(w:ae)(hz:n<=zs.length)(CX:n<=9223372036854775807)(hc:∀j,j<zs.length->w.cell? ⟨b,off+j,we⟩=so (.string (zs.getD j ByteArray.empty))):
  Calls Tryz.prog 80 #[.slice (so ⟨b,off,we⟩) n c,.string x] w λe w'=>e=.returned (.bool (Lib.containsS (zs.take n) x))/\w'=w:=Any.slices_Contains_string Tryz.NZ b off n c zs x w hz CX hc
open Go.Lib in
theorem Tryz.slices_Contains_string_empty(a:Option Addr)(c:Nat)(x:af)(w:ae):
  Calls Tryz.prog 80 #[.slice a 0 c,.string x] w λe w'=>e=.returned (.bool false)/\w'=w:=Any.slices_Contains_string_empty Tryz.NZ a c x w
def Tryz.EA:Go.Shelf.Ren:=⟨λ|16=>51|n=>n,λ|24=>40|9=>9|4=>4|n=>n,λ|n=>n⟩
def Tryz.zJ:Go.Proofs.Lays2.n16 Tryz.prog Tryz.EA:={
 mixed:=ai
 f16:=Tryz.func51.trans (congrArg so ai)
 t4:=underlying4
 a4:=isAgg4
 z4:=sizeOf4
 v4:=zeroValue4
 t9:=underlying9
 a9:=isAgg9
 z9:=sizeOf9
 v9:=zeroValue9
 t24:=underlying40
 a24:=isAgg40
 z24:=sizeOf40
 v24:=zeroValue40
 i9:=by kernel_rfl}
open Go.RowKit Go.Lib in
theorem Tryz.slices_Clone_string(b off n c:Nat)(zs:List af)(w:ae)(hz:n<=zs.length)(CX:n*16<=140737488355328)(hc:∀j,j<zs.length->w.cell? ⟨b,off+j,we⟩=so (.string (zs.getD j ByteArray.empty))):
  Calls Tryz.prog 51 #[.slice (so ⟨b,off,we⟩) n c] w λe w'=>∃v',e=.returned v'/\w'.ownsRow w.heap.size 9 1 v' n ((zs.take n).map (Value.string))/\v'≠.slice we 0 0/\Below w.heap.size w w':=Any.slices_Clone_string Tryz.zJ b off n c zs w hz CX hc
open Go.RowKit Go.Lib in
theorem Tryz.slices_Clone_string_nil(n c:Nat)(w:ae):
  Calls Tryz.prog 51 #[.slice we n c] w λe w'=>e=.returned (.slice we 0 0)/\w'=w:=Any.slices_Clone_string_nil Tryz.zJ n c w
open Go.RowKit Go.Lib in
theorem Tryz.slices_Clone_string_zero(a:Addr)(c:Nat)(w:ae):
  Calls Tryz.prog 51 #[.slice (so a) 0 c] w λe w'=>∃v',e=.returned v'/\w'.ownsRow w.heap.size 9 1 v' 0 []/\v'≠.slice we 0 0/\Below w.heap.size w w':=Any.slices_Clone_string_zero Tryz.zJ a c w
def Tryz.Jn:Go.Shelf.Ren:=⟨λ|194=>189|n=>n,λ|31=>40|9=>9|3=>3|4=>4|0=>0|n=>n,λ|n=>n⟩
def Tryz.N9:Go.Proofs.Lays.n194 Tryz.prog Tryz.Jn:={
 mixed:=ai
 f194:=Tryz.func189.trans (congrArg so ai)
 t0:=underlying0
 a0:=isAgg0
 z0:=sizeOf0
 v0:=zeroValue0
 t3:=underlying3
 a3:=isAgg3
 z3:=sizeOf3
 v3:=zeroValue3
 t4:=underlying4
 a4:=isAgg4
 z4:=sizeOf4
 v4:=zeroValue4
 t9:=underlying9
 a9:=isAgg9
 z9:=sizeOf9
 v9:=zeroValue9
 t31:=underlying40
 a31:=isAgg40
 z31:=sizeOf40
 v31:=zeroValue40}
open Go.RowKit Go.Lib Go.Sort in
theorem Tryz.slices_Compact_string(blk off cap:Nat)(zs:List (List UInt8))(w:ae)(hH:Holds encStr w blk off zs.toArray)(fy:zs.length<=9223372036854775807)(Bf:zs.length<=cap):
  Calls Tryz.prog 189 #[.slice (so ⟨blk,off,we⟩) zs.length cap] w λe w'=>e=.returned (.slice (so ⟨blk,off,we⟩) (Lib.compact zs).length cap)/\∃q,w'=putRow encStr (Sort.ahead w q) blk off (Lib.compact zs++List.replicate (zs.length-(Lib.compact zs).length) []).toArray:=Any.slices_Compact_string Tryz.N9 blk off cap zs w hH fy Bf
open Go.RowKit Go.Lib Go.Sort in
theorem Tryz.slices_Compact_string_empty(a:Option Addr)(cap:Nat)(w:ae):
  Calls Tryz.prog 189 #[.slice a 0 cap] w λe w'=>e=.returned (.slice a 0 cap)/\w'=w:=Any.slices_Compact_string_empty Tryz.N9 a cap w
def Tryz.EB:Go.Shelf.Ren:=⟨λ|19=>236|n=>n,λ|24=>40|9=>9|3=>3|4=>4|20=>20|0=>0|n=>n,λ|n=>n⟩
def Tryz.Qe:Go.Proofs.Lays2.n19 Tryz.prog Tryz.EB:={
 mixed:=ai
 f19:=Tryz.func236.trans (congrArg so ai)
 t0:=underlying0
 a0:=isAgg0
 z0:=sizeOf0
 v0:=zeroValue0
 t3:=underlying3
 a3:=isAgg3
 z3:=sizeOf3
 v3:=zeroValue3
 t4:=underlying4
 a4:=isAgg4
 z4:=sizeOf4
 v4:=zeroValue4
 t9:=underlying9
 a9:=isAgg9
 z9:=sizeOf9
 v9:=zeroValue9
 t20:=underlying20
 a20:=isAgg20
 z20:=sizeOf20
 v20:=zeroValue20
 t24:=underlying40
 a24:=isAgg40
 z24:=sizeOf40
 v24:=zeroValue40}
open Go.RowKit Go.Lib in
theorem Tryz.slices_Min_string(b off n c:Nat)(zs:List af)(w:ae)(hn:0<n)(hz:n<=zs.length)(CX:n<=9223372036854775807)(hc:∀j,j<zs.length->w.cell? ⟨b,off+j,we⟩=so (.string (zs.getD j ByteArray.empty))):
  Calls Tryz.prog 236 #[.slice (so ⟨b,off,we⟩) n c] w λe w'=>e=.returned (.string (Lib.minOfS (zs.take n)))/\w'=w:=Any.slices_Min_string Tryz.Qe b off n c zs w hn hz CX hc
def Tryz.EC:Go.Shelf.Ren:=⟨λ|6=>185|15=>205|14=>204|28=>222|29=>223|20=>214|21=>215|22=>216|23=>217|24=>218|25=>219|26=>220|27=>221|46=>237|47=>238|48=>239|49=>240|50=>241|57=>252|n=>n,λ|22=>35|24=>42|25=>247|3=>3|39=>223|0=>0|53=>102|55=>212|4=>4|46=>304|45=>303|50=>156|5=>5|9=>9|66=>319|70=>322|76=>338|77=>170|n=>n,λ|n=>n⟩
def Tryz.Qf:Go.Proofs.SlLaysF0.n6 Tryz.prog Tryz.EC:={
 mixed:=ai
 f6:=⟨Tryz.f185.name,eB,Tryz.func185.trans (congrArg so ai)⟩
 f14:=⟨Tryz.f204.name,eB,Tryz.func204.trans (congrArg so ai)⟩
 f15:=Tryz.func205.trans (congrArg so ai)
 f20:=⟨Tryz.f214.name,eB,Tryz.func214.trans (congrArg so ai)⟩
 f21:=⟨Tryz.f215.name,eB,Tryz.func215.trans (congrArg so ai)⟩
 f22:=⟨Tryz.f216.name,eB,Tryz.func216.trans (congrArg so ai)⟩
 f23:=⟨Tryz.f217.name,eB,Tryz.func217.trans (congrArg so ai)⟩
 f24:=⟨Tryz.f218.name,eB,Tryz.func218.trans (congrArg so ai)⟩
 f25:=⟨Tryz.f219.name,eB,Tryz.func219.trans (congrArg so ai)⟩
 f26:=⟨Tryz.f220.name,eB,Tryz.func220.trans (congrArg so ai)⟩
 f27:=⟨Tryz.f221.name,eB,Tryz.func221.trans (congrArg so ai)⟩
 f28:=Tryz.func222.trans (congrArg so ai)
 f29:=Tryz.func223.trans (congrArg so ai)
 f46:=⟨Tryz.f237.name,eB,Tryz.func237.trans (congrArg so ai)⟩
 f47:=Tryz.func238.trans (congrArg so ai)
 f48:=Tryz.func239.trans (congrArg so ai)
 f49:=⟨Tryz.f240.name,eB,Tryz.func240.trans (congrArg so ai)⟩
 f50:=⟨Tryz.f241.name,eB,Tryz.func241.trans (congrArg so ai)⟩
 f57:=⟨Tryz.f252.name,eB,Tryz.func252.trans (congrArg so ai)⟩
 t0:=underlying0
 a0:=isAgg0
 z0:=sizeOf0
 v0:=zeroValue0
 t3:=underlying3
 a3:=isAgg3
 z3:=sizeOf3
 v3:=zeroValue3
 t4:=underlying4
 a4:=isAgg4
 z4:=sizeOf4
 v4:=zeroValue4
 t5:=underlying5
 a5:=isAgg5
 z5:=sizeOf5
 v5:=zeroValue5
 t9:=underlying9
 a9:=isAgg9
 z9:=sizeOf9
 v9:=zeroValue9
 t22:=underlying35
 a22:=isAgg35
 z22:=sizeOf35
 v22:=zeroValue35
 t25:=underlying247
 a25:=isAgg247
 z25:=sizeOf247
 v25:=zeroValue247
 t39:=underlying223
 a39:=isAgg223
 z39:=sizeOf223
 v39:=zeroValue223
 t45:=underlying303
 a45:=isAgg303
 z45:=sizeOf303
 v45:=zeroValue303
 t46:=underlying304
 a46:=isAgg304
 z46:=sizeOf304
 v46:=zeroValue304
 t50:=underlying156
 a50:=isAgg156
 z50:=sizeOf156
 v50:=zeroValue156
 t53:=underlying102
 a53:=isAgg102
 z53:=sizeOf102
 v53:=zeroValue102
 t55:=underlying212
 a55:=isAgg212
 z55:=sizeOf212
 v55:=zeroValue212
 t66:=underlying319
 a66:=isAgg319
 z66:=sizeOf319
 v66:=zeroValue319
 t70:=underlying322
 a70:=isAgg322
 z70:=sizeOf322
 v70:=zeroValue322
 t76:=underlying338
 a76:=isAgg338
 z76:=sizeOf338
 v76:=zeroValue338
 t77:=underlying170
 a77:=isAgg170
 z77:=sizeOf170
 v77:=zeroValue170}
def Tryz.Jo:Go.Shelf.Ren:=⟨λ|125=>205|128=>222|129=>223|n=>n,λ|46=>223|3=>3|51=>102|53=>212|4=>4|5=>5|9=>9|n=>n,λ|n=>n⟩
def Tryz.bitsLen:Go.Proofs.Lays.n125 Tryz.prog Tryz.Jo:={
 mixed:=ai
 f125:=Tryz.func205.trans (congrArg so ai)
 f128:=Tryz.func222.trans (congrArg so ai)
 f129:=Tryz.func223.trans (congrArg so ai)
 t3:=underlying3
 a3:=isAgg3
 z3:=sizeOf3
 v3:=zeroValue3
 t4:=underlying4
 a4:=isAgg4
 z4:=sizeOf4
 v4:=zeroValue4
 t5:=underlying5
 a5:=isAgg5
 z5:=sizeOf5
 v5:=zeroValue5
 t9:=underlying9
 a9:=isAgg9
 z9:=sizeOf9
 v9:=zeroValue9
 t46:=underlying223
 a46:=isAgg223
 z46:=sizeOf223
 v46:=zeroValue223
 t51:=underlying102
 a51:=isAgg102
 z51:=sizeOf102
 v51:=zeroValue102
 t53:=underlying212
 a53:=isAgg212
 z53:=sizeOf212
 v53:=zeroValue212}
def Tryz.GM:Go.Shelf.Ren:=⟨λ|26=>77|33=>118|34=>119|38=>168|n=>n,λ|24=>40|9=>9|3=>3|4=>4|40=>223|0=>0|n=>n,λ|n=>n⟩
def Tryz.Jp:Go.Proofs.Lays2.n26 Tryz.prog Tryz.GM:={
 mixed:=ai
 f26:=Tryz.func77.trans (congrArg so ai)
 f33:=Tryz.func118.trans (congrArg so ai)
 f34:=Tryz.func119.trans (congrArg so ai)
 f38:=Tryz.func168.trans (congrArg so ai)
 t0:=underlying0
 a0:=isAgg0
 z0:=sizeOf0
 v0:=zeroValue0
 t3:=underlying3
 a3:=isAgg3
 z3:=sizeOf3
 v3:=zeroValue3
 t4:=underlying4
 a4:=isAgg4
 z4:=sizeOf4
 v4:=zeroValue4
 t9:=underlying9
 a9:=isAgg9
 z9:=sizeOf9
 v9:=zeroValue9
 t24:=underlying40
 a24:=isAgg40
 z24:=sizeOf40
 v24:=zeroValue40
 t40:=underlying223
 a40:=isAgg223
 z40:=sizeOf223
 v40:=zeroValue223}
def Tryz.Tr:Go.Shelf.Ren:=⟨λ|35=>235|n=>n,λ|22=>90|23=>5|3=>3|4=>4|0=>0|n=>n,λ|n=>n⟩
def Tryz.aii:Go.Proofs.SlLaysE.n35 Tryz.prog Tryz.Tr:={
 mixed:=ai
 f35:=⟨Tryz.f235.name,eB,Tryz.func235.trans (congrArg so ai)⟩
 t0:=underlying0
 a0:=isAgg0
 z0:=sizeOf0
 v0:=zeroValue0
 t3:=underlying3
 a3:=isAgg3
 z3:=sizeOf3
 v3:=zeroValue3
 t4:=underlying4
 a4:=isAgg4
 z4:=sizeOf4
 v4:=zeroValue4
 t22:=underlying90
 a22:=isAgg90
 z22:=sizeOf90
 v22:=zeroValue90
 a23:=isAgg5
 z23:=sizeOf5}
end
end Go.Proofs
namespace Go.Proofs.Kz
open Go.Proofs.Tryz
open Go.Proofs.Tryz renaming prog → ax
open _root_.ByteArray renaming empty → aR
open _root_.Option renaming some → so,none → we
open Go.Ren Go.Conc Go.Proofs
structure sf(T:dj)(i:Nat):Prop where
 ok:T.OK
 i:i<T.n
 kp:ax.globals.size<=T.H0
structure Quiet(T:dj)(b:Nat):Prop where
 old:b<T.H0
 wg:b≠T.Wg
 sh:¬T.Sh b
 ch:∀k,k<T.n->b≠T.ch k
 ro:∀off,T.RO (.cell ⟨b,off,we⟩)
def CY:rT ax LW 0:=aau FE
section
variable {T:dj}{i:Nat}{V:Nat->ae->Prop}{E:bL}{rc:Nat->Prop}{o:aM}{w:ae}
def Quiet.same{b:Nat}(h:Quiet T b){w1:ae}(hr:cY T i o rc w w1):w1.heap[b]?=w.heap[b]?:=hr.ro b h.old h.wg h.sh h.ch
def Quiet.cell{b off:Nat}(h:Quiet T b){w1:ae}(hr:cY T i o rc w w1):w1.cell? ⟨b,off,we⟩=w.cell? ⟨b,off,we⟩:=cell_of (h.same hr)
def uA{ad:Addr}{sy:Bool}(h:(∃b,o b/\IB (.cell ad) b)\/T.jV i (.cell ad)\/(∃k,rc k/\T.jV k (.cell ad))\/T.RO (.cell ad)):NK T i o rc ⟨.cell ad,false,sy⟩:=by
 refine⟨λx hx _=>?_,ar,ar,ar⟩;simp only[MemAct.ofEvent,MemAct.touch?,aA]at hx;subst hx;rcases h with h|h|⟨k,h3,h4⟩|h
 ·exact .inl h
 ·exact .inr (.inl h)
 ·exact .inr (.inr (.inl ⟨k,h3,h4,rfl⟩))
 ·exact .inr (.inr (.inr ⟨h,rfl⟩))
def Jq(hW:sf T i)(hq:Quiet T 1)(u:Nat)(h1:1<=u)(h2:u<18446744073709551616)(gd:gz T o w)(ht:w.cell? ⟨1,Lib.l10 (Lib.bitLen u),we⟩=so (.int .u64 ((10^Lib.l10 (Lib.bitLen u):Nat):Int))):
  bA ax (XW ax T i V E rc) 246 #[.int .u64 u] o w λv o' w'=>v=.int .i64 (Lib.nDigits u)/\cS T i rc o w o' w':=by
 have W:=cM (P:=ax) (T:=T) (i:=i) (V:=V) (E:=E) rc;have⟨vp,h19⟩:=Lib.numDigits_eq u h1 h2;have hL:Lib.bitLen u<=64:=Lib.bitLen_le u 64 (ah _) h2;have c1:∀o w,gz T o w->bA ax (XW ax T i V E rc) 223 #[.int .u64 u] o w λv o' w'=>v=.int .i64 (Lib.bitLen u)/\cS T i rc o w o' w':=λo w ho =>
  qi hW.ok hW.i CY gX hW.kp ai ho (λg=>ar) _ (λg=>ar) λwl=>(Tryz.bits_Len64 u wl aa aa).mono (by rintro e w' ⟨rfl,rfl⟩;exact⟨ar,.refl _ _⟩)
 have c2:∀o w,gz T o w->bA ax (XW ax T i V E rc) 254 #[.int .i64 (Lib.bitLen u)] o w λv o' w'=>v=.int .i64 (Lib.l10 (Lib.bitLen u))/\cS T i rc o w o' w':=λo w ho =>
  qi hW.ok hW.i CY gX hW.kp ai ho (λg=>ar) _ (λg=>ar) λwl=>(Tryz.internal_strconv_log10Pow2 _ hL wl).mono (by rintro e w' ⟨rfl,rfl⟩;exact⟨rfl,.refl _ _⟩)
 have c3:∀(b:Bool) o w,gz T o w->bA ax (XW ax T i V E rc) 255 #[.bool b] o w λv o' w'=>v=.int .i64 (if b=true then 1 else 0)/\cS T i rc o w o' w':=λb o w ho =>
  qi hW.ok hW.i CY gX hW.kp ai ho (λg=>ar) _ (λg=>ar) λwl=>(Tryz.internal_strconv_bool2_int b wl).mono (by rintro e w' ⟨rfl,rfl⟩;exact⟨rfl,.refl _ _⟩)
 generalize Lib.bitLen u=bl at *;generalize Lib.l10 bl=q at *;refine bD W func246 ak ?_;refine ay ?_;refine b5 func223 (c1 _ _ gd) ?_;rintro v o1 w1 ⟨rfl,l1⟩;try walk_nrm
 refine b5 func254 (c2 _ _ l1.ok) ?_;rintro v o2 w2 ⟨rfl,l2⟩;try walk_nrm
 refine ay ?_;have h20:(q:Int)<20:=aa;have hS:∀w3,cY T i o2 rc w2 w3->w3.cell? ⟨1,q,we⟩=so (.int .u64 ((10^q:Nat):Int)):=λw3 hr=>by
  rw[hq.cell hr,hq.cell l2.rel,hq.cell l1.rel,ht]
 generalize hP:10^q=p at *;have jb:∀w1 es,(Instr.indexAt 342 (.pointer (so ⟨1,0,we⟩)) (.int .i64 (q:Int))).events ax w1 es=es:=λw1 es=>events_indexAt_array 342 212 20 ⟨1,0,we⟩ .i64 q underlying342 ⟨aa,aa⟩;refine re W rfl rfl ak (λw1=>by simp[go_sem,jb]) λw1 K hK=>?_;go_simp;refine hK _ ?_;clear hK K w1 jb;try walk_nrm
 refine fV W hS rfl ak (λw1 hc=>⟨.refl _ _,?_⟩) λw1 hc K hK=>?_
 ·co_evs (exact uA (.inr (.inr (.inr (hq.ro _)))))
 go_simp;refine hK _ ?_;clear hK K hc w1;try walk_nrm
 refine ay ?_;refine du W rfl ak rfl func255 ai rfl (by simp[Act.eval];rfl) rfl ((c3 _ _ _ l2.ok).mono ?_);rintro v o3 w3 ⟨rfl,l3⟩;try walk_nrm
 refine ay ?_;refine⟨.inr trivial,trivial,_,resultsC_tmp (t:=2) ak _,?_,(l1.trans l2).trans l3⟩;show Value.int .i64 (IntKind.i64.wrap (↑q+if p<=u then 1 else 0))=_;rw[<- vp]
 congr 1
 rw[IntKind.wrap_i64];split<;>simp<;>omega
def Bg(hW:sf T i)(n:Nat)(hn:n<100)(gd:gz T o w):
  bA ax (XW ax T i V E rc) 233 #[.int .i64 n,.int .i64 10] o w λv o' w'=>v=.string ⟨(Lib.decDigits n).toArray⟩/\cS T i rc o w o' w':=by
 have W:=cM (P:=ax) (T:=T) (i:=i) (V:=V) (E:=E) rc;have c1:∀o w,gz T o w->bA ax (XW ax T i V E rc) 245 #[.int .i64 n] o w λv o' w'=>v=.string ⟨(Lib.decDigits n).toArray⟩/\cS T i rc o w o' w':=λo w ho =>
  qi hW.ok hW.i CY gX hW.kp ai ho (λg=>ar) _ (λg=>ar) λwl=>(Tryz.internal_strconv_small n hn wl).mono (by rintro e w' ⟨rfl,rfl⟩;exact⟨rfl,.refl _ _⟩)
 have hi:(n:Int)<100:=aa;refine bD W func233 ak ?_;refine ay ?_;refine b5 func245 (c1 _ _ gd) ?_;rintro v o1 w1 ⟨rfl,l1⟩;try walk_nrm
 refine ay ?_;exact⟨.inr trivial,trivial,_,resultsC_tmp (t:=4) ak _,rfl,l1⟩
def Mk{wl:ae}{A d:Nat}(h:wl.heap[A]?=so (Obj.cells Lib.zeros24 326))(hd:d<=20):Sort.Holds (λb:UInt8=>Value.int .u8 (b.toNat:Int)) wl A 1 (Array.replicate d 0):=by
 intro j hj;rw[fx]at hj;refine⟨?_,?_⟩
 ·simp only[World.cell?,h,Option.isSome_none,aQ,if_false];rw[Lib.zeros24_at (1+j) aa,eL _ _ (by simpa using hj)];simp
 ·simp[World.frozen?,h]
def Tt(hW:sf T i)(n A d:Nat)(hd:d<=20)(hn:n<10^d)(VT:n<=1000000000000)(gd:gz T o w)(hA:o A)(IZ:w.heap[A]?=so (Obj.cells Lib.zeros24 326)):
  bA ax (XW ax T i V E rc) 247 #[.slice (so ⟨A,1,we⟩) d 23,.int .u64 n] o w λv o' w'=>v=.tuple #[]/\cY T i (λb=>o b/\b≠A) rc w w'/\gz T o' w'/\(∀b,o b->o' b) /\
   ∃v' dk,Lib.FmtInv d n 0 v' dk/\∀j,j<d->w'.cell? ⟨A,1+j,we⟩=so (.int .u8 ((dk[j]!).toNat:Int)):=by
 refine wW (N:=λb=>b==A) (R:=λwl v w'=>v=.tuple #[]/\∃v' dk,Lib.FmtInv d n 0 v' dk/\∀j,j<d->w'.cell? ⟨A,1+j,we⟩=so (.int .u8 ((dk[j]!).toNat:Int))) hW.ok hW.i CY gX hW.kp ai gd (λb hb=>by simp at hb;subst hb;exact hA)
  (λb hb=>by simp at hb;subst hb;exact⟨_,IZ,rfl,λf _=>by simp[obj,Lib.zeros24]⟩) (λg hg=>by simp[val,addr,hg A ar]) (λwl v w' τ dr h=>h) (λwl τ dr v w' h=>h) (λwl h1 h2=>?_) ?_
 ·have hx:wl.heap[A]?=so (Obj.cells Lib.zeros24 326):=by rw[h1 A ar,IZ]
  have hH:=Mk (d:=d) hx hd;have hf:=Tryz.internal_strconv_formatBase10 A 1 23 n (Array.replicate d 0) wl hH (by rw[fx];exact hn) aa (by rw[fx];omega);rw[fx]at hf;refine hf.mono ?_;rintro e w' ⟨rfl,k,v',dk,rfl,hF⟩;refine⟨_,rfl,rfl,v',dk,hF,λj hj=>?_⟩;rw[World.cell?_drewN];exact Sort.cell?_putRow (λ(b:UInt8)=>Value.int .u8 (b.toNat:Int)) _ A 1 _ dk hH (by rw[hF.size,fx]) j (by rw[hF.size];exact hj)
 ·rintro wl v v' F' o' aX w' h1 h2 ⟨rfl,u',dk,hF,hc⟩ hB;refine⟨hB.plain λf=>ar,hB.rel.less λb hb=>⟨hb.1,by simpa using hb.2⟩,⟨hB.vo,aY gd.size hB.rel.size⟩,hB.more,u',dk,hF,λj hj=>hB.cell ar (λf=>ar) (hc j hj)⟩
def Jr(hW:sf T i)(hq:Quiet T 1)(n:Nat)(hn:¬n<100)(VT:n<=1000000000000)(gd:gz T o w)(ht:∀q,q<20->w.cell? ⟨1,q,we⟩=so (.int .u64 ((10^q:Nat):Int))):
  bA ax (XW ax T i V E rc) 233 #[.int .i64 n,.int .i64 10] o w λv o' w'=>v=.string ⟨(Lib.decDigits n).toArray⟩/\cS T i rc o w o' w':=by
 have W:=cM (P:=ax) (T:=T) (i:=i) (V:=V) (E:=E) rc;have hi:¬(n:Int)<100:=aa;have h0:¬(n:Int)<0:=aa;have hU:IntKind.u64.wrap (n:Int)=n:=by rw[IntKind.wrap_u64];omega
 have hd1:=Lib.nDigits_pos n;have VU:=Lib.nDigits_le20 n aa;have hI:IntKind.i64.wrap (1+(Lib.nDigits n:Int))=1+(Lib.nDigits n:Int):=by rw[IntKind.wrap_i64];omega
 refine bD W func233 ak ?_;refine ay ?_;refine nN hW.ok hW.i gd rfl ak rfl (Obj.cells Lib.zeros24 326) (λw1=>by simp[go_sem];rfl) (λw1=>fS) λA o1 w1 l1 hA IZ RS Gw=>?_;try walk_nrm
 refine ay ?_;have Tu:∀q,q<20->w1.cell? ⟨1,q,we⟩=so (.int .u64 ((10^q:Nat):Int)):=λq h=>by rw[hq.cell l1.rel];exact ht q h
 have aij:Lib.l10 (Lib.bitLen n)<20:=by have:=(Lib.numDigits_eq n aa aa).2;omega
 refine b5 func246 (Jq hW hq n aa aa l1.ok (Tu _ aij)) ?_;rintro v o2 w2 ⟨rfl,l2⟩;try walk_nrm
 refine ay ?_;have Px:ax.arrayLen 326=24:=by simp[Program.arrayLen,underlying326]
 have hsl:∀W,(Instr.sliceAt 326 (.pointer (so ⟨A,0,we⟩)) (so (.int .i64 1)) (so (.int .i64 (1+(Lib.nDigits n:Int)))) we).run ax W=.ok (.slice (so ⟨A,1,we⟩) (Lib.nDigits n) 23) W:=λW=>by
  rw[run_sliceAt_array_lh W 326 ⟨A,0,we⟩ (by simp[Program.arrayLen,Program.elem,underlying326]) .i64 .i64 1 (1+(Lib.nDigits n:Int)) aa aa (by rw[Px];omega)];go_simp;omega
 have WW:∀W es,(Instr.sliceAt 326 (.pointer (so ⟨A,0,we⟩)) (so (.int .i64 1)) (so (.int .i64 (1+(Lib.nDigits n:Int)))) we).events ax W es=es:=λW es =>
  yr 326 5 24 ⟨A,0,we⟩ .i64 .i64 1 (1+(Lib.nDigits n:Int)) underlying326 aa aa aa
 clear Px;refine re W rfl rfl ak (λw1=>by simp[go_sem,WW]) λw1 K hK=>?_;go_simp;refine hK _ ?_;clear hK K w1;try walk_nrm
 refine ay ?_;have I7:w2.heap[A]?=so (Obj.cells Lib.zeros24 326):=by rw[l2.rel.own A hA];exact IZ
 refine b5 func247 (Tt hW n A (Lib.nDigits n) VU (Lib.lt_pow_nDigits n) VT l2.ok (l2.more A hA) I7) ?_;rintro v o3 w3 ⟨rfl,r3,k3,m3,v',dk,hF,uz⟩;try walk_nrm
 refine ay ?_;clear WW hsl;have hS:∀w4,cY T i o3 rc w3 w4->∀j,j<Lib.nDigits n->w4.cell? ⟨A,1+j,we⟩=so (.int .u8 ((dk[j]!).toNat:Int)):=λw4 hr j hj=>by
  rw[cell_of (a:=⟨A,1+j,we⟩) (hr.own A (m3 A (l2.more A hA)))];exact uz j hj
 have hcv:∀w4,(∀j,j<Lib.nDigits n->w4.cell? ⟨A,1+j,we⟩=so (.int .u8 ((dk[j]!).toNat:Int)))->(convert 90 9 (.slice (so ⟨A,1,we⟩) (Lib.nDigits n) 23)).run ax w4=.ok (.string ⟨(Lib.decDigits n).toArray⟩) w4:=λw4 h4=>by
  have h:=run_convert_bytes_back (P:=ax) w4 90 9 5 ⟨A,1,we⟩ 23 (Lib.decDigits n) underlying90 underlying5 underlying9 (λj hj=>by
   rw[Lib.add_plain,Lib.row_is_numeral hF j hj];exact h4 j (by rw[Lib.decDigits_length]at hj;exact hj))
  rwa[Lib.decDigits_length]at h
 have hce:∀w4,(∀j,j<Lib.nDigits n->w4.cell? ⟨A,1+j,we⟩=so (.int .u8 ((dk[j]!).toNat:Int)))->∀ev∈(convert 90 9 (.slice (so ⟨A,1,we⟩) (Lib.nDigits n) 23)).events ax w4 #[],NK T i o3 rc ev:=λw4 h4 ev he=>by
  have h:=vS (P:=ax) w4 90 9 5 ⟨A,1,we⟩ ((List.range (Lib.nDigits n)).map λj=>((dk[j]!).toNat:Int)) 23 #[] underlying90 underlying5 underlying9 (λj hj=>by
   rw[Lib.add_plain,h4 j (by simpa using hj)];simp) ev (by simpa using he)
  rcases h with h|⟨ad,h1,h2,h3⟩
  ·simp at h
  ·obtain⟨l,wt,sy⟩:=ev;simp only at h1 h2;subst h1 h2;exact uA (.inl ⟨A,m3 A (l2.more A hA),h3⟩)
 refine fV W hS rfl ak (λw4 h4=>⟨.refl _ _,λe he=>?_⟩) λw4 h4 K hK=>?_
 ·have:=hce w4 h4 e (by have:=mem_listed he;simpa[go_sem] using this);rw[cm];exact this
 have:=hcv w4 h4;go_simp;refine hK _ ?_;clear hK K this h4 w4 hS hcv hce;try walk_nrm
 refine ay ?_;refine⟨.inr trivial,trivial,_,resultsC_tmp (t:=4) ak _,rfl,⟨(l1.trans l2).rel.trans (r3.less λb hb=>⟨(l1.trans l2).more b hb,?_⟩),k3,λb hb=>m3 b ((l1.trans l2).more b hb)⟩⟩;have:=(gd.vo b hb).2;omega
end
section
open Go.RowKit
def Oa{k:IntKind}{a b:Int}(h:a=b):Ending.returned (.int k a)=.returned (.int k b):=by rw[h]
def wv{W w1:ae}(hb:Below W.heap.size W w1):(∀b o,b<W.heap.size->w1.cell? ⟨b,o,we⟩=W.cell? ⟨b,o,we⟩)/\(∀b o,b<W.heap.size->w1.frozen? ⟨b,o,we⟩=W.frozen? ⟨b,o,we⟩) :=
 ⟨λb o h=>hb.cell (p:=⟨b,o,we⟩) h,λb o h=>hb.frozen (p:=⟨b,o,we⟩) h⟩
def take_succ{α:Type}(l:List α)(k:Nat)(h:k<l.length):l.take (k+1)=l.take k++[l[k]]:=List.take_succ_eq_append_getElem h
abbrev V:=Bool×af
def xg(w:ae)(b off:Nat)(vs:List V):Prop:=∀k (h:k<vs.length),w.cell? ⟨b,off+k*2,we⟩=so (.bool vs[k].1)/\w.cell? ⟨b,off+k*2+1,we⟩=so (.string vs[k].2)
def xg.below{w w':ae}{b off:Nat}{vs:List V}(h:xg w b off vs)(hb:b<w.heap.size)(hw:Below w.heap.size w w'):xg w' b off vs:=λk hk=>by
 obtain⟨hc,-⟩:=wv hw;rw[hc _ _ hb,hc _ _ hb];exact h k hk
def eN(w:ae)(b off:Nat)(ts:List af):Prop:=∀k (h:k<ts.length),w.cell? ⟨b,off+k,we⟩=so (.string ts[k])
def eN.below{w w':ae}{b off:Nat}{vs:List af}(h:eN w b off vs)(hb:b<w.heap.size)(hw:Below w.heap.size w w'):eN w' b off vs:=λk hk=>by
 obtain⟨hc,-⟩:=wv hw;rw[hc _ _ hb];exact h k hk
def nlt{α:Type}{l:List α}{k:Nat}(h:k<l.length):l≠[]:=λe=>by rw[e]at h;simp at h
end
section
open Go.RowKit
def cnt(l:List V):Nat:=(l.filter λv=>v.1).length
def CZ(l:List V):cnt l<=l.length:=fi _ _
def Tv(l:List V)(k:Nat)(h:k<l.length):cnt (l.take (k+1))=cnt (l.take k)+if l[k].1 then 1 else 0:=by
 rw[take_succ l k h,cnt,List.filter_append,jy];by_cases e:l[k].1<;>simp[cnt,e]
def Qg(b off c:Nat)(vs:List V)(w:ae)(hn:vs.length<=100000)(hb:b<w.heap.size)(hv:xg w b off vs):
  Calls ax 196 #[.slice (so ⟨b,off,we⟩) vs.length c] w λe w'=>e=.returned (.int .i64 (cnt vs))/\Below w.heap.size w w':=by
 go_enter func196,ntmps196;go_wp2;go_loopw [3,8] (λn i w'=>∃k:Nat,k<=vs.length/\i=.int .i64 k/\n=.int .i64 (cnt (vs.take k))/\Below w.heap.size w w') (λ_ i _=>vs.length-(intOf i).toNat)
 case atStart=>exact⟨0,aV _,rfl,rfl,Below.refl _ _⟩
 case round =>
  obtain⟨k,hk,rfl,rfl,gx⟩:=hrel;by_cases cx:k<vs.length
  ·have⟨h1,h2⟩:=hv.below hb gx k cx;have hz:=gx.size;have HS:Hid (cnt (vs.take (k+1))=cnt (vs.take k)+if vs[k].1 then 1 else 0):=Tv vs k cx;have hle:(cnt (vs.take k):Int)<=100000:=by have:=CZ (vs.take k);have:=iZ k vs;omega
   go_wp2
   ·refine⟨⟨k+1,aa,by go_num,?_,gx.alloc hz _⟩,by simp[intOf];omega⟩;rw[HS.out,if_pos ‹_›];go_num
   ·refine⟨⟨k+1,aa,by go_num,?_,gx.alloc hz _⟩,by simp[intOf];omega⟩;rw[HS.out,if_neg (by simp[*])];go_num
  ·go_wp2;go_ret;exact⟨Oa (by rw[bV aa]),gx⟩
end
section
open Go.RowKit
def qq:(ax.info? 9).map (λi=>(i.zero,i.size,i.bytes))=so (so (.string aR),1,16):=ai
def eN.aav{w:ae}{b t:Nat}{ts:List af}{f:Nat->Value}(h:w.rowIs b t ts.length f)(hf:∀k (hk:k<ts.length),f k=.string ts[k]):eN w b 0 ts:=λk hk=>by
 rw[bt,h.cell hk,hf k hk]
def Js(b off c:Nat)(vs:List V)(w:ae)(hn:vs.length<=100000)(hb:b<w.heap.size)(hv:xg w b off vs):
  Calls ax 199 #[.slice (so ⟨b,off,we⟩) vs.length c] w λe w'=>e=.returned (.slice (so ⟨w.heap.size,0,we⟩) vs.length vs.length)/\Below w.heap.size w w'/\w.heap.size<w'.heap.size /\
   w'.rowIs w.heap.size 9 vs.length (λj=>.string (vs.getD j (false,aR)).2):=by
 have HO:=run_make_row' (P:=ax) 40 9 (.string aR) 16 underlying40 qq rfl .i64 .i64 vs.length aa aa;go_enter func199,ntmps199;go_wp2;go_loopw [11] (λi w'=>∃k:Nat,k<=vs.length/\i=.int .i64 k/\Below w.heap.size w w'/\w.heap.size<w'.heap.size/\w'.rowIs w.heap.size 9 vs.length (λj=>if j<k then .string (vs.getD j (false,aR)).2 else .string aR)) (λi _=>vs.length-(intOf i).toNat)
 case atStart=>exact⟨0,aV _,rfl,(Below.refl _ _).alloc (ah _) _,ar,by simpa using World.rowIs_made w _ _ _⟩
 case round =>
  obtain⟨k,hk,rfl,gx,hz,cp⟩:=hrel;by_cases cx:k<vs.length
  ·have⟨h1,h2⟩:=hv.below hb gx k cx;have hc:=cp.cell cx;have hf:=cp.frozen k;rw[if_neg aa]at hc;go_wp2;refine⟨⟨k+1,aa,by go_num,(gx.setCell (ah _) _).alloc (by simp[World.setCell];omega) _,by simp[World.setCell];omega,?_⟩,by simp[intOf];omega⟩;refine((cp.set k _).alloc _).congr λj hj=>?_;by_cases e:j=k
   ·subst e;simp[List.getD,cx]
   ·by_cases e':j<k
    ·rw[if_neg e,if_pos e',if_pos aa]
    ·rw[if_neg e,if_neg e',if_neg aa]
  ·go_wp2;go_ret;exact⟨rfl,gx,hz,cp.congr λi hi=>by rw[if_pos aa]⟩
end
section
open Go.RowKit
def zK(l:List UInt8):Nat:=(l.map UInt8.toNat).sum
def sP(l:List af):Nat:=(l.map λs=>zK s.data.toList).sum
def jg(l:List af):Nat:=(l.map ByteArray.size).sum
def GN(l:List UInt8):zK l<=255*l.length:=by
 induction l with
 |nil=>simp[zK]
 |cons c l ih=>have:=c.toNat_lt;simp[zK]at ih |-;omega
def Qh(s:af)(k:Nat)(h:k<s.size):zK (s.data.toList.take (k+1))=zK (s.data.toList.take k)+s[k].toNat:=by
 rw[take_succ s.data.toList k (by simpa using h)];simp[zK];rfl
def Qi(l:List af)(k:Nat)(h:k<l.length):sP (l.take (k+1))=sP (l.take k)+zK l[k].data.toList:=by
 rw[take_succ l k h,sP,eY,List.sum_append];simp[sP]
def Oc(l:List af):sP l<=255*jg l:=by
 induction l with
 |nil=>simp[sP,jg]
 |cons s l ih=>have:=GN s.data.toList;simp[sP,jg]at ih this |-;omega
def Ml(l:List af)(k:Nat):jg (l.take k)<=jg l:=by
 induction l generalizing k with
 |nil=>simp
 |cons s l ih=>cases k with
  |zero=>simp[jg]
  |succ k=>have:=ih k;simp[jg]at this |-;omega
def Tw(l:List af)(k:Nat)(h:k<l.length):jg (l.take k)+l[k].size<=jg l:=by
 have:=Ml l (k+1);rw[take_succ l k h,jg,eY,List.sum_append]at this;simpa[jg] using this
def WX(b off c:Nat)(ts:List af)(w:ae)(hn:ts.length<=100000)(hm:jg ts<=1000000)(ht:eN w b off ts):
  Calls ax 212 #[.slice (so ⟨b,off,we⟩) ts.length c] w λe w'=>e=.returned (.int .i64 (sP ts))/\w'=w:=by
 go_enter func212,ntmps212;go_wp2;go_loop [3,9] (λn i=>∃k:Nat,k<=ts.length/\i=.int .i64 k/\n=.int .i64 (sP (ts.take k))) (λ_ i=>ts.length-(intOf i).toNat)
 case atStart=>exact⟨0,aV _,rfl,rfl⟩
 case round =>
  obtain⟨k,hk,rfl,rfl⟩:=hrel;by_cases cx:k<ts.length
  ·have h1:=ht k cx;have hz:=Tw ts k cx;have hle:sP (ts.take k)<=255*jg (ts.take k):=Oc _;have hs:ts[k].size<=1000000:=aa;have HS:Hid (sP (ts.take (k+1))=sP (ts.take k)+zK ts[k].data.toList):=Qi ts k cx;generalize sD:ts[k]=t at h1 hz hs HS;clear sD;go_wp2;go_loop [3,15] (λn i=>∃j:Nat,j<=t.size/\i=.int .i64 j/\n=.int .i64 (sP (ts.take k)+zK (t.data.toList.take j):Nat)) (λ_ i=>t.size-(intOf i).toNat)
   case atStart=>exact⟨0,aV _,rfl,by simp[zK]⟩
   case round =>
    obtain⟨j,hj,rfl,rfl⟩:=hrel;by_cases hjt:j<t.size
    ·have HB:Hid (zK (t.data.toList.take (j+1))=zK (t.data.toList.take j)+t[j].toNat):=Qh t j hjt;have BH:=GN (t.data.toList.take j);have pB:(t.data.toList.take j).length<=j:=iZ _ _;have hc:=t[j].toNat_lt;go_wp2
     go_round
     case rel=>exact⟨j+1,aa,by go_num,by rw[HB.out];go_num⟩
     case measure=>simp[intOf];omega
    ·go_wp2
     go_round
     case rel=>exact⟨k+1,aa,by go_num,by rw[HS.out,bV (l:=t.data.toList) eP]⟩
     case measure=>simp[intOf];omega
  ·go_wp2;go_ret;exact⟨Oa (by rw[bV aa]),rfl⟩
end
section
open Go.RowKit
def flat(ts:List af):List UInt8:=(ts.map λt=>t.data.toList).flatten
def AM(ts:List af):(flat ts).length=jg ts:=by
 induction ts with
 |nil=>rfl
 |cons t ts ih=>simp[flat,jg]at ih |-;omega
def FF(ts:List af):Lib.join (ts.map λt=>t.data.toList) (aR).data.toList=flat ts:=by
 cases ts with
 |nil=>rfl
 |cons t r=>rw[aC,Lib.join_cons,Lib.joinTail];simp[flat];rfl
def bytes(l:List UInt8):af:=⟨l.toArray⟩
def aaw(f:List UInt8):(⟨f.toArray⟩:af).extract 0 (min (f.length:Int) 32).toNat=bytes (f.take 32):=by
 have e:(min (f.length:Int) 32).toNat=min f.length 32:=aa;rw[e];apply ByteArray.ext;rw[ByteArray.data_extract];simp[bytes,List.extract_toArray];omega
def Tx(b off c:Nat)(ts:List af)(w:ae)(hn:ts.length<=100000)(Bf:ts.length<=c)(hm:jg ts<=1000000)(hb:b<w.heap.size)(ht:eN w b off ts):
  Calls ax 210 #[.slice (so ⟨b,off,we⟩) ts.length c] w λe w'=>e=.returned (.string (bytes ((flat ts).take 32)))/\Below w.heap.size w w':=by
 have hj:=Tryz.strings_Join b off c ts aR w (λj x hx=>by obtain⟨h1,rfl⟩:=aao.1 hx;exact ht j h1) hb aa Bf (by rw[FF,AM];omega);rw[FF]at hj;have hl:(flat ts).length<=1000000:=by rw[AM];exact hm
 generalize flat ts=f at hj hl;clear ht;go_enter func210,ntmps210;go_wp2_with (go_at_call 234;refine hj.mono ?_;rintro e w' ⟨rfl,gx⟩);go_ret;exact⟨by rw[aaw];rfl,gx⟩
def zL(ts:List af):af:=if ts=[] then aR else Lib.minOfS ts
def Qj(b off c:Nat)(ts:List af)(w:ae)(hn:ts.length<=100000)(ht:eN w b off ts):
  Calls ax 213 #[.slice (so ⟨b,off,we⟩) ts.length c] w λe w'=>e=.returned (.string (zL ts))/\w'=w:=by
 by_cases h0:ts=[]
 ·subst h0;go_enter func213,ntmps213;go_wp2;go_ret;exact⟨rfl,rfl⟩
 ·have hp:0<ts.length:=aaG.2 h0;have hj:=Tryz.slices_Min_string b off ts.length c ts w hp (ah _) aa (λj hj=>by rw[ht j hj];simp[List.getD,hj]);rw[cC]at hj;have e:zL ts=Lib.minOfS ts:=by simp[zL,h0]
  rw[e];generalize Lib.minOfS ts=m at hj;have dE:¬(ts.length:Int)=0:=aa;go_enter func213,ntmps213;go_wp2_with (go_at_call 236;refine hj.mono ?_;rintro e w' ⟨rfl,rfl⟩);go_ret;exact⟨rfl,rfl⟩
end
end Go.Proofs.Kz
namespace Go.Proofs
open _root_.Option renaming some → so,none → we
section
open Go.Shelf
end
end Go.Proofs
namespace Go.Proofs.Kz
open Go.Proofs.Tryz
open Go.Proofs.Tryz renaming prog → ax
open _root_.ByteArray renaming empty → aR
open _root_.Option renaming some → so,none → we
open Go.Proofs
section
open Go.RowKit
open Go.Sort (Holds putRow)
def Jt(b:UInt8):Value:=.int .u8 (b.toNat:Int)
def Mm(w:ae)(t:af):∃cap w1,(convert 9 90 (.string t)).run ax w=.ok (.slice (so ⟨w.heap.size,0,we⟩) t.size cap) w1/\Below w.heap.size w w1/\w1.heap.size=w.heap.size+1/\Holds Jt w1 w.heap.size 0 t.data:=by
 refine⟨_,_,run_bytes_of_string w 9 90 5 t underlying9 underlying90 underlying5,(Below.refl _ _).drew.alloc (ah _) _,ar,λj hj=>?_⟩;have hb:∀(c:Nat),(bytesRow t c)[j]?=so (Jt t.data[j]!):=λc=>by
  simp only[bytesRow];rw[Array.getElem?_append_left (by simpa using hj)];rw[aL,aO hj,eL t.data j hj];rfl
 generalize grownCap w t.size 0 5=c;refine⟨?_,?_⟩
 ·rw[bt];exact(World.cell?_alloc_mark w.drew _ _ _ j).trans (hb c)
 ·rw[bt];have sg:j<(bytesRow t c).size:=(aad.1 (hb c)).1;have:(w.drew.alloc (.cells (bytesRow t c) 5 ((bytesRow t c).size,(bytesRow t c).size+1))).heap[w.heap.size]?=so (.cells (bytesRow t c) 5 ((bytesRow t c).size,(bytesRow t c).size+1)):=by
   show(w.heap.push _)[w.heap.size]?=_;simp
  unfold World.frozen?;rw[this];simp;omega
def Ty(t:af)(w:ae)(hn:t.size<=1000000):
  Calls ax 211 #[.string t] w λe w'=>e=.returned (.string (bytes t.data.toList.reverse))/\Below w.heap.size w w':=by
 have⟨cap,w1,hcv,BH,WY,hh⟩:=Mm w t;have hr:Calls ax 235 #[.slice (so ⟨w.heap.size,0,we⟩) t.size cap] w1 λe w'=>e=.returned (.tuple #[])/\∃n,w'=putRow Jt (Sort.ahead w1 n) w.heap.size 0 t.data.toList.reverse.toArray:=by
  have:=AnyE.slices_Reverse Tryz.aii Jt (λ_=>rfl) w.heap.size 0 cap t.data.toList w1 (by simpa using hh) eP;change Calls ax 235 _ _ _ at this;simpa using this
 have bP:∀n,∃w2,w2=putRow Jt (Sort.ahead w1 n) w.heap.size 0 t.data.toList.reverse.toArray/\Below w.heap.size w w2/\(convert 90 9 (.slice (so ⟨w.heap.size,0,we⟩) t.size cap)).run ax w2=.ok (.string (bytes t.data.toList.reverse)) w2:=λn=>by
  refine⟨_,rfl,Lib.below_putRow BH (ah _),?_⟩;have:=run_convert_bytes_back (P:=ax) (putRow Jt (Sort.ahead w1 n) w.heap.size 0 t.data.toList.reverse.toArray) 90 9 5 ⟨w.heap.size,0,we⟩ cap t.data.toList.reverse underlying90 underlying5 underlying9 (λj hj=>by
   have:=(Go.Sort.holds_putRow Jt (Sort.ahead w1 n) w.heap.size 0 t.data t.data.toList.reverse.toArray hh ar j (by simpa using hj)).1;rw[bt]at this;rw[show(⟨w.heap.size,0,we⟩:Addr).add j=⟨w.heap.size,j,we⟩ by unfold Addr.add;simp;omega,this];simp at hj;simp[Jt,hj])
  simpa[bytes] using this
 clear hh;go_enter func211,ntmps211;go_wp2_with (go_at_call 235;refine hr.mono ?_;rintro e w' ⟨rfl,n,vh⟩;have⟨w2,h2,pB,aoX⟩:=bP n;rw[<- h2]at vh;clear h2;subst vh);go_ret;exact⟨rfl,pB⟩
end
open Go.Ren Go.Conc
def Ju{w:ae}{b t n:Nat}{f:Nat->Value}(h:w.rowIs b t n f)(hf:∀j,j<n->∀g,val g (f j)=f j):IU (λx=>x==b) w:=by
 intro x hx;simp at hx;subst hx;obtain⟨c,hb,hn,hc⟩:=h;refine⟨_,hb,rfl,λg _=>?_⟩;simp only[obj]
 congr 1
 apply ja
 ·simp
 ·intro j h1 h2;have e:=hc j aa;rw[aO h2,aA]at e;simp only[Array.getElem_map];rw[e];exact hf j aa g
def ma(w:ae)(b:Nat)(ts:List af):Prop:=w.rowIs b 9 ts.length λj=>.string (ts.getD j aR)
def ma.texts{w:ae}{b:Nat}{ts:List af}(h:ma w b ts):eN w b 0 ts:=eN.aav h λk hk=>by simp[List.getD,hk]
def ma.shut{w:ae}{b:Nat}{ts:List af}(h:ma w b ts):IU (λx=>x==b) w:=Ju h λj _ g=>ar
def ma.of_block{w w':ae}{b:Nat}{ts:List af}(h:ma w b ts)(e:w'.heap[b]?=w.heap[b]?):ma w' b ts:=World.rowIs.of_block h e
def lV(r:Int)(ts:List af):af :=
 if r=1 then bytes ((flat ts).take 32)else if r=2 then bytes ((flat ts).take 32).reverse else if r=3 then⟨(Lib.decDigits (sP ts)).toArray⟩ else if r=4 then zL ts else aR
section
variable {T:dj}{i:Nat}{V:Nat->ae->Prop}{E:bL}{rc:Nat->Prop}{o:aM}{w:ae}
def jh(w:ae):Prop:=∀q,q<20->w.cell? ⟨1,q,we⟩=so (.int .u64 ((10^q:Nat):Int))
def jh.later(hq:Quiet T 1){o':aM}{w':ae}(h:jh w)(hl:cS T i rc o w o' w'):jh w':=λq Bs=>by rw[hq.cell hl.rel];exact h q Bs
def Tz(hW:sf T i)(hq:Quiet T 1)(n:Nat)(VT:n<=1000000000000)(gd:gz T o w)(ht:jh w):
  bA ax (XW ax T i V E rc) 197 #[.int .i64 n] o w λv o' w'=>v=.string ⟨(Lib.decDigits n).toArray⟩/\cS T i rc o w o' w':=by
 have W:=cM (P:=ax) (T:=T) (i:=i) (V:=V) (E:=E) rc;have hf:bA ax (XW ax T i V E rc) 233 #[.int .i64 n,.int .i64 10] o w λv o' w'=>v=.string ⟨(Lib.decDigits n).toArray⟩/\cS T i rc o w o' w':=by
  by_cases h:n<100
  ·exact Bg hW n h gd
  ·exact Jr hW hq n h VT gd ht
 refine aat W _ ?_;refine bD W func209 ak ?_;refine ay ?_;refine du W rfl ak rfl func233 ai rfl aK rfl (hf.mono ?_);rintro v o1 w1 ⟨rfl,l1⟩;try walk_nrm
 refine ay ?_;exact⟨.inr trivial,trivial,_,resultsC_tmp (t:=2) ak _,rfl,l1⟩
def TA(hW:sf T i)(b:Nat)(ts:List af)(hn:ts.length<=100000)(hm:jg ts<=1000000)(gd:gz T o w)(hb:o b)(ht:ma w b ts):
  bA ax (XW ax T i V E rc) 210 #[.slice (so ⟨b,0,we⟩) ts.length ts.length] o w λv o' w'=>v=.string (bytes ((flat ts).take 32))/\cS T i rc o w o' w' :=
 oC (N:=λx=>x==b) hW.ok hW.i CY gX hW.kp ai gd (λx hx=>by simp at hx;subst hx;exact hb) ht.shut (λg hg=>by simp[val,addr,hg b ar]) _ (λg=>ar) λwl h1 h2 =>
  Tx b 0 ts.length ts wl hn (ah _) hm (by have:=(gd.vo b hb).2;omega) (ht.of_block (h1 b ar)).texts
def adM(hW:sf T i)(b:Nat)(ts:List af)(hn:ts.length<=100000)(hm:jg ts<=1000000)(gd:gz T o w)(hb:o b)(ht:ma w b ts):
  bA ax (XW ax T i V E rc) 212 #[.slice (so ⟨b,0,we⟩) ts.length ts.length] o w λv o' w'=>v=.int .i64 (sP ts)/\cS T i rc o w o' w' :=
 oC (N:=λx=>x==b) hW.ok hW.i CY gX hW.kp ai gd (λx hx=>by simp at hx;subst hx;exact hb) ht.shut (λg hg=>by simp[val,addr,hg b ar]) _ (λg=>ar) λwl h1 h2 =>
  (WX b 0 ts.length ts wl hn hm (ht.of_block (h1 b ar)).texts).mono (by rintro e w' ⟨rfl,rfl⟩;exact⟨rfl,.refl _ _⟩)
def WZ(hW:sf T i)(b:Nat)(ts:List af)(hn:ts.length<=100000)(gd:gz T o w)(hb:o b)(ht:ma w b ts):
  bA ax (XW ax T i V E rc) 213 #[.slice (so ⟨b,0,we⟩) ts.length ts.length] o w λv o' w'=>v=.string (zL ts)/\cS T i rc o w o' w' :=
 oC (N:=λx=>x==b) hW.ok hW.i CY gX hW.kp ai gd (λx hx=>by simp at hx;subst hx;exact hb) ht.shut (λg hg=>by simp[val,addr,hg b ar]) _ (λg=>ar) λwl h1 h2 =>
  (Qj b 0 ts.length ts wl hn (ht.of_block (h1 b ar)).texts).mono (by rintro e w' ⟨rfl,rfl⟩;exact⟨rfl,.refl _ _⟩)
def aax(hW:sf T i)(t:af)(hn:t.size<=1000000)(gd:gz T o w):
  bA ax (XW ax T i V E rc) 211 #[.string t] o w λv o' w'=>v=.string (bytes t.data.toList.reverse)/\cS T i rc o w o' w' :=
 qi hW.ok hW.i CY gX hW.kp ai gd (λg=>ar) _ (λg=>ar) λwl=>Ty t wl hn
def Qk(hW:sf T i)(hq:Quiet T 1)(r:Int)(hr:r=1\/r=2\/r=3\/r=4)(b:Nat)(ts:List af)(hn:ts.length<=100000)(hm:jg ts<=1000000)(gd:gz T o w)(hb:o b)(ht:ma w b ts)(hp:jh w):
  bA ax (XW ax T i V E rc) 198 #[.int .i64 r,.slice (so ⟨b,0,we⟩) ts.length ts.length] o w λv o' w'=>v=.string (lV r ts)/\cS T i rc o w o' w':=by
 have W:=cM (P:=ax) (T:=T) (i:=i) (V:=V) (E:=E) rc;have fy:(bytes ((flat ts).take 32)).size<=1000000:=by
  show((flat ts).take 32).toArray.size<=_;rw[List.size_toArray];have:=iZ 32 (flat ts);omega
 rcases hr with rfl|rfl|rfl|rfl
 ·refine bD W func198 ak ?_;refine ay ?_;refine b5 func210 (TA hW b ts hn hm gd hb ht) ?_;rintro v o1 w1 ⟨rfl,l1⟩;try walk_nrm
  refine ay ?_;exact⟨.inr trivial,trivial,_,resultsC_tmp (t:=4) ak _,rfl,l1⟩
 ·refine bD W func198 ak ?_;refine ay ?_;refine b5 func210 (TA hW b ts hn hm gd hb ht) ?_;rintro v o1 w1 ⟨rfl,l1⟩;try walk_nrm
  refine ay ?_;refine b5 func211 (aax hW (bytes ((flat ts).take 32)) fy l1.ok) ?_;rintro v o2 w2 ⟨rfl,l2⟩;try walk_nrm
  refine ay ?_;exact⟨.inr trivial,trivial,_,resultsC_tmp (t:=4) ak _,by simp[lV,bytes],l1.trans l2⟩
 ·have hs:sP ts<=1000000000000:=by have:=Oc ts;omega
  refine bD W func198 ak ?_;refine ay ?_;refine b5 func212 (adM hW b ts hn hm gd hb ht) ?_;rintro v o1 w1 ⟨rfl,l1⟩;try walk_nrm
  refine ay ?_;refine b5 func197 (Tz hW hq _ hs l1.ok (hp.later hq l1)) ?_;rintro v o2 w2 ⟨rfl,l2⟩;try walk_nrm
  refine ay ?_;exact⟨.inr trivial,trivial,_,resultsC_tmp (t:=4) ak _,rfl,l1.trans l2⟩
 ·refine bD W func198 ak ?_;refine ay ?_;refine b5 func213 (WZ hW b ts hn gd hb ht) ?_;rintro v o1 w1 ⟨rfl,l1⟩;try walk_nrm
  refine ay ?_;exact⟨.inr trivial,trivial,_,resultsC_tmp (t:=4) ak _,rfl,l1⟩
end
abbrev V0:V:=(false,aR)
def ef(vs:List V)(j:Nat):Value:=if j%2=0 then .bool (vs.getD (j/2) V0).1 else .string (vs.getD (j/2) V0).2
def eZ(w:ae)(b:Nat)(vs:List V):Prop:=w.rowIs b 159 (vs.length*2) (ef vs)
def wy(vs:List V)(j:Nat)(g:Rn):val g (ef vs j)=ef vs j:=by unfold ef;split<;>simp
def eZ.lW{w:ae}{b:Nat}{vs:List V}(h:eZ w b vs):xg w b 0 vs:=λk hk=>by
 have h1:=World.rowIs.cell h (i:=k*2) aa;have h2:=World.rowIs.cell h (i:=k*2+1) aa;have e1:ef vs (k*2)=.bool vs[k].1:=by
  unfold ef;rw[if_pos aa,show k*2/2=k by omega];simp[List.getD,hk]
 have e2:ef vs (k*2+1)=.string vs[k].2:=by
  unfold ef;rw[if_neg aa,show(k*2+1)/2=k by omega];simp[List.getD,hk]
 rw[bt,h1,h2,e1,e2];exact⟨rfl,rfl⟩
def eZ.shut{w:ae}{b:Nat}{vs:List V}(h:eZ w b vs):IU (λx=>x==b) w:=Ju h λj _ g=>wy vs j g
def eZ.of_block{w w':ae}{b:Nat}{vs:List V}(h:eZ w b vs)(e:w'.heap[b]?=w.heap[b]?):eZ w' b vs:=World.rowIs.of_block h e
section
variable {T:dj}{i:Nat}{V:Nat->ae->Prop}{E:bL}{rc:Nat->Prop}{o:aM}{w:ae}
def GO(hW:sf T i)(b:Nat)(vs:List Kz.V)(hn:vs.length<=100000)(gd:gz T o w)(hb:o b)(ht:eZ w b vs):
  bA ax (XW ax T i V E rc) 196 #[.slice (so ⟨b,0,we⟩) vs.length vs.length] o w λv o' w'=>v=.int .i64 (cnt vs)/\cS T i rc o w o' w' :=
 oC (N:=λx=>x==b) hW.ok hW.i CY gX hW.kp ai gd (λx hx=>by simp at hx;subst hx;exact hb) ht.shut (λg hg=>by simp[val,addr,hg b ar]) _ (λg=>ar) λwl h1 h2 =>
  Qg b 0 vs.length vs wl hn (by have:=(gd.vo b hb).2;omega) (ht.of_block (h1 b ar)).lW
def Ql(hW:sf T i)(b:Nat)(vs:List Kz.V)(hn:vs.length<=100000)(gd:gz T o w)(hb:o b)(ht:eZ w b vs):
  bA ax (XW ax T i V E rc) 199 #[.slice (so ⟨b,0,we⟩) vs.length vs.length] o w λv o' w'=>∃A,v=.slice (so ⟨A,0,we⟩) (vs.map (·.2)).length (vs.map (·.2)).length/\o' A/\ma w' A (vs.map (·.2))/\cS T i rc o w o' w':=by
 refine wW (N:=λx=>x==b) (R:=λwl v w'=>v=.slice (so ⟨wl.heap.size,0,we⟩) vs.length vs.length/\(∀x,x<wl.heap.size->w'.heap[x]?=wl.heap[x]?)/\w'.rowIs wl.heap.size 9 vs.length (λj=>.string (vs.getD j (false,aR)).2)) hW.ok hW.i CY gX hW.kp ai gd
  (λx hx=>by simp at hx;subst hx;exact hb) ht.shut (λg hg=>by simp[val,addr,hg b ar]) (λwl v w' τ d h=>h) (λwl τ d v w' h=>h) (λwl h1 h2=>?_) ?_
 ·refine(Js b 0 vs.length vs wl hn (by have:=(gd.vo b hb).2;omega) (ht.of_block (h1 b ar)).lW).mono ?_;rintro e w' ⟨rfl,hB,_,cp⟩;exact⟨_,rfl,rfl,hB.block,cp⟩
 ·rintro wl v v' F' o' aX w' h1 h2 ⟨rfl,eH,cp⟩ hB;obtain⟨hK,rfl,pE⟩:=hB.slice;have hrel:=hB.stays ht.shut h1 (λx hx=>eH x (by simp at hx;subst hx;have:=(gd.vo x hb).2;omega));refine⟨F'.φ wl.heap.size,ar,pE,?_,hrel,⟨hB.vo,aY gd.size hrel.size⟩,hB.more⟩;have GP:=aak hB.wr hK (λj _ f=>ar) cp;show w'.rowIs _ _ (vs.map (·.2)).length _;rw[bT];refine GP.congr λj hj=>?_;simp[List.getD,hj]
def iV(r:Int)(vs:List Kz.V):Kz.V:=if r=5 then(true,⟨(Lib.decDigits (cnt vs)).toArray⟩)else if cnt vs<vs.length then(false,aR) else(true,lV r (vs.map (·.2)))
def Mn(hW:sf T i)(hq:Quiet T 1)(b:Nat)(vs:List Kz.V)(hn:vs.length<=100000)(gd:gz T o w)(hb:o b)(ht:eZ w b vs)(hp:jh w):
  bA ax (XW ax T i V E rc) 163 #[.int .i64 5,.slice (so ⟨b,0,we⟩) vs.length vs.length] o w λv o' w'=>v=.agg #[.bool (iV 5 vs).1,.string (iV 5 vs).2]/\cS T i rc o w o' w':=by
 have W:=cM (P:=ax) (T:=T) (i:=i) (V:=V) (E:=E) rc;have hc:cnt vs<=1000000000000:=by have:=CZ vs;omega
 refine eD W func163 ak ?_;refine ay ?_;refine nN hW.ok hW.i gd rfl ak rfl (Obj.cells #[.bool false,.string aR] 159) (λw1=>by simp[go_sem];rfl) (λw1=>fS) λA o1 w1 l1 hA IZ RS Gw=>?_;try walk_nrm
 refine ay ?_;have HZ:eZ w1 b vs:=ht.of_block (l1.rel.own b hb);refine b5 func196 (GO hW b vs hn l1.ok (l1.more b hb) HZ) ?_;rintro v o2 w2 ⟨rfl,l2⟩;try walk_nrm
 refine ay ?_;refine b5 func197 (Tz hW hq (cnt vs) hc l2.ok ((hp.later hq l1).later hq l2)) ?_;rintro v o3 w3 ⟨rfl,l3⟩;try walk_nrm
 refine ay ?_;have vu:w3.heap[A]?=so (Obj.cells #[.bool false,.string aR] 159):=by rw[l3.rel.own A (l2.more A hA),l2.rel.own A hA,IZ]
 have cellsOf:∀{w4:ae} {x s:Value},w4.heap[A]?=so (Obj.cells #[x,s] 159)->w4.cell? ⟨A,0,we⟩=so x/\w4.cell? ⟨A,1,we⟩=so s/\w4.frozen? ⟨A,0,we⟩=false/\w4.frozen? ⟨A,1,we⟩=false:=λh=>by simp[World.cell?,World.frozen?,h]
 refine qj hW.ok hW.i l3.ok rfl ak A (l3.more A (l2.more A hA)) (f:=λw4=>(w4.setCell ⟨A,0,we⟩ (.bool true)).setCell ⟨A,1,we⟩ (.string ⟨(Lib.decDigits (cnt vs)).toArray⟩)) (λw4 h4=>?_) (λw4=>(gU.set _ _ _ _).trans (gU.set _ _ _ _)) (λw4 h4 e he=>?_) λw4 h4 l4=>?_
 ·have⟨c0,c1,f0,f1⟩:=cellsOf (h4.trans vu);simp[go_sem,c0,c1,f0,f1]
 ·have⟨c0,c1,f0,f1⟩:=cellsOf (h4.trans vu);have Eg:(w4.setCell ⟨A,0,we⟩ (.bool true)).cell? ⟨A,1,we⟩=so (.string aR):=by rw[World.cell?_setCell_other _ _ _ _ ar];exact c1
  have f1':(w4.setCell ⟨A,0,we⟩ (.bool true)).frozen? ⟨A,1,we⟩=false:=by simpa using f1
  simp[go_sem,c0,c1,f0,f1]at he;rw[cX _ _ c0 f0 rfl,cX _ _ Eg f1' rfl]at he;simp at he;rcases he with rfl|rfl;all_goals exact⟨_,_,_,rfl,rfl⟩
 try walk_nrm
 refine ay ?_;have tH:((w4.setCell ⟨A,0,we⟩ (.bool true)).setCell ⟨A,1,we⟩ (.string ⟨(Lib.decDigits (cnt vs)).toArray⟩)).heap[A]?=so (Obj.cells #[.bool true,.string ⟨(Lib.decDigits (cnt vs)).toArray⟩] 159):=by
  simp[World.setCell,aS,h4.trans vu]
 generalize (w4.setCell ⟨A,0,we⟩ (.bool true)).setCell ⟨A,1,we⟩ (.string ⟨(Lib.decDigits (cnt vs)).toArray⟩)=w5 at *;have TB:¬o A:=λh=>by have:=(gd.vo A h).2;omega
 refine⟨.inr trivial,trivial,.agg #[.bool true,.string ⟨(Lib.decDigits (cnt vs)).toArray⟩],λw6 h6=>?_,by simp[iV],((((l1.trans l2).trans l3).wX (A:=A)).trans l4).later TB⟩;have⟨c0,c1,f0,f1⟩:=cellsOf ((h6.own A (l3.more A (l2.more A hA))).trans tH);refine⟨by simp[results,results163,go_sem,c0,c1],λes Iv=>⟨.refl _ _,λe he=>?_⟩⟩;have:=Iv e he;simp[results,results163,go_sem,c0,c1]at this;rcases this with rfl|rfl;all_goals exact yd (.inl (l3.more A (l2.more A hA)))
def Mo(hW:sf T i)(hq:Quiet T 1)(r:Int)(hr:r=1\/r=2\/r=3\/r=4)(b:Nat)(vs:List Kz.V)(hn:vs.length<=100000)(hm:jg (vs.map (·.2))<=1000000)(tQ:cnt vs<vs.length)(gd:gz T o w)(hb:o b)(ht:eZ w b vs)(hp:jh w):
  bA ax (XW ax T i V E rc) 163 #[.int .i64 r,.slice (so ⟨b,0,we⟩) vs.length vs.length] o w λv o' w'=>v=.agg #[.bool (iV r vs).1,.string (iV r vs).2]/\cS T i rc o w o' w':=by
 have W:=cM (P:=ax) (T:=T) (i:=i) (V:=V) (E:=E) rc;have Jv:¬r=5:=aa;have Qm:(r==5)=false:=by simpa using Jv
 have fw:=CZ vs;have cx:(cnt vs:Int)<(vs.length:Int):=aa;refine eD W func163 ak ?_;refine ay ?_;refine nN hW.ok hW.i gd rfl ak rfl (Obj.cells #[.bool false,.string aR] 159) (λw1=>by simp[go_sem];rfl) (λw1=>fS) λA o1 w1 l1 hA IZ RS Gw=>?_;try walk_nrm
 refine ay ?_;have HZ:eZ w1 b vs:=ht.of_block (l1.rel.own b hb);refine b5 func196 (GO hW b vs hn l1.ok (l1.more b hb) HZ) ?_;rintro v o2 w2 ⟨rfl,l2⟩;try walk_nrm
 refine ay ?_;have hAL:o2 A:=l2.more A hA;have lL:cS T i rc o w o2 w2:=l1.trans l2;have vu:w2.heap[A]?=so (Obj.cells #[.bool false,.string aR] 159):=by rw[l2.rel.own A hA,IZ]
 have cellsOf:∀{w4:ae} {x s:Value},w4.heap[A]?=so (Obj.cells #[x,s] 159)->w4.cell? ⟨A,0,we⟩=so x/\w4.cell? ⟨A,1,we⟩=so s/\w4.frozen? ⟨A,0,we⟩=false/\w4.frozen? ⟨A,1,we⟩=false:=λh=>by simp[World.cell?,World.frozen?,h]
 refine qj hW.ok hW.i lL.ok rfl ak A hAL (f:=λw4=>(w4.setCell ⟨A,0,we⟩ (.bool false)).setCell ⟨A,1,we⟩ (.string aR)) (λw4 h4=>?_) (λw4=>(gU.set _ _ _ _).trans (gU.set _ _ _ _)) (λw4 h4 e he=>?_) λw4 h4 l4=>?_
 ·have⟨c0,c1,f0,f1⟩:=cellsOf (h4.trans vu);simp[go_sem,c0,c1,f0,f1];rfl
 ·have⟨c0,c1,f0,f1⟩:=cellsOf (h4.trans vu);have Eg:(w4.setCell ⟨A,0,we⟩ (.bool false)).cell? ⟨A,1,we⟩=so (.string aR):=by rw[World.cell?_setCell_other _ _ _ _ ar];exact c1
  have f1':(w4.setCell ⟨A,0,we⟩ (.bool false)).frozen? ⟨A,1,we⟩=false:=by simpa using f1
  simp[go_sem,c0,c1,f0,f1]at he;rw[cX _ _ c0 f0 rfl,cX _ _ Eg f1' rfl]at he;simp at he;rcases he with rfl|rfl;all_goals exact⟨_,_,_,rfl,rfl⟩
 try walk_nrm
 refine ay ?_;have tH:((w4.setCell ⟨A,0,we⟩ (.bool false)).setCell ⟨A,1,we⟩ (.string aR)).heap[A]?=so (Obj.cells #[.bool false,.string aR] 159):=by
  simp[World.setCell,aS,h4.trans vu]
 generalize (w4.setCell ⟨A,0,we⟩ (.bool false)).setCell ⟨A,1,we⟩ (.string aR)=w5 at *;have TB:¬o A:=λh=>by have:=(gd.vo A h).2;omega
 refine⟨.inr trivial,trivial,.agg #[.bool false,.string aR],λw6 h6=>?_,by simp[iV, *],((lL.wX (A:=A)).trans l4).later TB⟩;have⟨c0,c1,f0,f1⟩:=cellsOf ((h6.own A hAL).trans tH);refine⟨by simp[results,results163,go_sem,c0,c1],λes Iv=>⟨.refl _ _,λe he=>?_⟩⟩;have:=Iv e he;simp[results,results163,go_sem,c0,c1]at this;rcases this with rfl|rfl;all_goals exact yd (.inl hAL)
def TC(hW:sf T i)(hq:Quiet T 1)(r:Int)(hr:r=1\/r=2\/r=3\/r=4)(b:Nat)(vs:List Kz.V)(hn:vs.length<=100000)(hm:jg (vs.map (·.2))<=1000000)(tQ:¬cnt vs<vs.length)(gd:gz T o w)(hb:o b)(ht:eZ w b vs)(hp:jh w):
  bA ax (XW ax T i V E rc) 163 #[.int .i64 r,.slice (so ⟨b,0,we⟩) vs.length vs.length] o w λv o' w'=>v=.agg #[.bool (iV r vs).1,.string (iV r vs).2]/\cS T i rc o w o' w':=by
 have W:=cM (P:=ax) (T:=T) (i:=i) (V:=V) (E:=E) rc;have Jv:¬r=5:=aa;have Qm:(r==5)=false:=by simpa using Jv
 have fw:=CZ vs;have cx:¬(cnt vs:Int)<(vs.length:Int):=aa;refine eD W func163 ak ?_;refine ay ?_;refine nN hW.ok hW.i gd rfl ak rfl (Obj.cells #[.bool false,.string aR] 159) (λw1=>by simp[go_sem];rfl) (λw1=>fS) λA o1 w1 l1 hA IZ RS Gw=>?_;try walk_nrm
 refine ay ?_;have HZ:eZ w1 b vs:=ht.of_block (l1.rel.own b hb);refine b5 func196 (GO hW b vs hn l1.ok (l1.more b hb) HZ) ?_;rintro v o2 w2 ⟨rfl,l2⟩;try walk_nrm
 refine ay ?_;have KT:eZ w2 b vs:=HZ.of_block (l2.rel.own b (l1.more b hb));refine b5 func199 (Ql hW b vs hn l2.ok (l2.more b (l1.more b hb)) KT) ?_;rintro v o3 w3 ⟨B,rfl,hB,Jw,l3⟩;try walk_nrm
 refine ay ?_;refine b5 func198 (Qk hW hq r hr B (vs.map (·.2)) (by simpa using hn) hm l3.ok hB Jw (((hp.later hq l1).later hq l2).later hq l3)) ?_;rintro v o4 w9 ⟨rfl,l9⟩;try walk_nrm
 refine ay ?_;have hAL:o4 A:=l9.more A (l3.more A (l2.more A hA));have lL:cS T i rc o w o4 w9:=((l1.trans l2).trans l3).trans l9;have vu:w9.heap[A]?=so (Obj.cells #[.bool false,.string aR] 159):=by rw[l9.rel.own A (l3.more A (l2.more A hA)),l3.rel.own A (l2.more A hA),l2.rel.own A hA,IZ]
 have cellsOf:∀{w4:ae} {x s:Value},w4.heap[A]?=so (Obj.cells #[x,s] 159)->w4.cell? ⟨A,0,we⟩=so x/\w4.cell? ⟨A,1,we⟩=so s/\w4.frozen? ⟨A,0,we⟩=false/\w4.frozen? ⟨A,1,we⟩=false:=λh=>by simp[World.cell?,World.frozen?,h]
 refine qj hW.ok hW.i lL.ok rfl ak A hAL (f:=λw4=>(w4.setCell ⟨A,0,we⟩ (.bool true)).setCell ⟨A,1,we⟩ (.string (lV r (vs.map (·.2))))) (λw4 h4=>?_) (λw4=>(gU.set _ _ _ _).trans (gU.set _ _ _ _)) (λw4 h4 e he=>?_) λw4 h4 l4=>?_
 ·have⟨c0,c1,f0,f1⟩:=cellsOf (h4.trans vu);simp[go_sem,c0,c1,f0,f1]
 ·have⟨c0,c1,f0,f1⟩:=cellsOf (h4.trans vu);have Eg:(w4.setCell ⟨A,0,we⟩ (.bool true)).cell? ⟨A,1,we⟩=so (.string aR):=by rw[World.cell?_setCell_other _ _ _ _ ar];exact c1
  have f1':(w4.setCell ⟨A,0,we⟩ (.bool true)).frozen? ⟨A,1,we⟩=false:=by simpa using f1
  simp[go_sem,c0,c1,f0,f1]at he;rw[cX _ _ c0 f0 rfl,cX _ _ Eg f1' rfl]at he;simp at he;rcases he with rfl|rfl;all_goals exact⟨_,_,_,rfl,rfl⟩
 try walk_nrm
 refine ay ?_;have tH:((w4.setCell ⟨A,0,we⟩ (.bool true)).setCell ⟨A,1,we⟩ (.string (lV r (vs.map (·.2))))).heap[A]?=so (Obj.cells #[.bool true,.string (lV r (vs.map (·.2)))] 159):=by
  simp[World.setCell,aS,h4.trans vu]
 generalize (w4.setCell ⟨A,0,we⟩ (.bool true)).setCell ⟨A,1,we⟩ (.string (lV r (vs.map (·.2))))=w5 at *;have TB:¬o A:=λh=>by have:=(gd.vo A h).2;omega
 refine⟨.inr trivial,trivial,.agg #[.bool true,.string (lV r (vs.map (·.2)))],λw6 h6=>?_,by simp[iV, *],((lL.wX (A:=A)).trans l4).later TB⟩;have⟨c0,c1,f0,f1⟩:=cellsOf ((h6.own A hAL).trans tH);refine⟨by simp[results,results163,go_sem,c0,c1],λes Iv=>⟨.refl _ _,λe he=>?_⟩⟩;have:=Iv e he;simp[results,results163,go_sem,c0,c1]at this;rcases this with rfl|rfl;all_goals exact yd (.inl hAL)
end
def mixed:ax.follows .mixedOrders=true:=ai
def lg{t:Array Value}{n:Nat}(h:t.size=n):∃gs:Nat->Value,t=((List.range n).map gs).toArray:=by
 refine⟨λk=>t.getD k undef,?_⟩;subst h;apply ja
 ·simp
 ·intro i h1 h2;simp[bU,h1]
def il{a:Act}{n:Nat}(h:a.tmps.size=n)(k:a.defers=[]):∃gs:Nat->Value,a=⟨((List.range n).map gs).toArray,[]⟩:=by
 obtain⟨tm,df⟩:=a;simp only at h k;obtain⟨gs,rfl⟩:=lg h;exact⟨gs,by rw[k]⟩
structure mZ where
 n:Nat
 bn:Nat
 Lb:Nat
 Lo:Nat
 St:Nat
 Vb:Nat
 Rb:Nat
 Nb:Nat
 Mb:Nat
 jP:Nat->Int
 ins:Nat->List (Bool×Nat)
 cO:Nat->Nat
 lW:List V
 ch:Nat->Nat
structure lh(D:mZ)(w:ae):Prop where
 b0:w.cell? ⟨D.bn,0,we⟩=so (.pointer (so ⟨D.Lb,D.Lo,we⟩))
 b1:w.cell? ⟨D.bn,1,we⟩=so (.slice (so ⟨D.Vb,0,we⟩) D.lW.length D.lW.length)
 b2:w.cell? ⟨D.bn,2,we⟩=so (.slice (so ⟨D.Rb,0,we⟩) D.n D.n)
 b3:w.cell? ⟨D.bn,3,we⟩=so (.slice (so ⟨D.Nb,0,we⟩) D.n D.n)
 b4:w.cell? ⟨D.bn,4,we⟩=so (.slice (so ⟨D.Mb,0,we⟩) D.n D.n)
 steps:w.cell? ⟨D.Lb,D.Lo,we⟩=so (.slice (so ⟨D.St,0,we⟩) D.n D.n)
 eO:∀s,s<D.n->w.cell? ⟨D.St,s*3+1,we⟩=so (.int .i64 (D.jP s))
 Bh:∀s,s<D.n->w.cell? ⟨D.St,s*3+2,we⟩=so (.slice (so ⟨D.cO s,0,we⟩) (D.ins s).length (D.ins s).length)
 C0:∀s,s<D.n->∀j (h:j<(D.ins s).length),w.cell? ⟨D.cO s,j*2,we⟩=so (.bool (D.ins s)[j].1)/\w.cell? ⟨D.cO s,j*2+1,we⟩=so (.int .i64 (D.ins s)[j].2)
 lW:xg w D.Vb 0 D.lW
 made:∀s,s<D.n->w.cell? ⟨D.Mb,s,we⟩=so (.chan (so (D.ch s)))
structure zM(D:mZ)(T:dj)(ord:Nat->Nat):Prop where
 D7:Quiet T D.bn
 qLb:Quiet T D.Lb
 qSt:Quiet T D.St
 qVb:Quiet T D.Vb
 qMb:Quiet T D.Mb
 Qn:∀s,s<D.n->Quiet T (D.cO s)
 qK:∀i,i<T.n->ord i<D.n
 ch:∀i,i<T.n->T.ch i=D.ch (ord i)
 own:∀i l,T.jV i l↔i<T.n/\((∃j,j<4/\l=.cell ⟨D.Rb,ord i*4+j,we⟩)\/l=.cell ⟨D.Nb,ord i,we⟩)
 RU:T.Sh D.Rb
 YT:T.Sh D.Nb
 apart:D.Rb≠D.Nb
 dep:∀i,i<T.n->∀m,(true,m)∈D.ins (ord i)->∃k,k<T.n/\ord k=m/\T.dep i k
 src:∀s,s<D.n->∀m,(false,m)∈D.ins s->m<D.lW.length
 short:∀s,s<D.n->(D.ins s).length<=4
 gF:D.n<=100000
 W8:D.lW.length<=100000
section
variable {D:mZ}{T:dj}{ord:Nat->Nat}{i:Nat}{o rc:Nat->Prop}{w w1:ae}
def lh.later(h:lh D w)(q:zM D T ord)(r:cY T i o rc w w1):lh D w1:=by
 constructor
 ·rw[q.D7.cell r];exact h.b0
 ·rw[q.D7.cell r];exact h.b1
 ·rw[q.D7.cell r];exact h.b2
 ·rw[q.D7.cell r];exact h.b3
 ·rw[q.D7.cell r];exact h.b4
 ·rw[q.qLb.cell r];exact h.steps
 ·intro s hs;rw[q.qSt.cell r];exact h.eO s hs
 ·intro s hs;rw[q.qSt.cell r];exact h.Bh s hs
 ·intro s hs j hj;rw[(q.Qn s hs).cell r,(q.Qn s hs).cell r];exact h.C0 s hs j hj
 ·intro k hk;rw[q.qVb.cell r,q.qVb.cell r];exact h.lW k hk
 ·intro s hs;rw[q.qMb.cell r];exact h.made s hs
def lh.Jx(h:lh D w)(q:zM D T ord)(r:∀b,Quiet T b->w1.heap[b]?=w.heap[b]?):lh D w1:=by
 have rc:∀{b off},Quiet T b->w1.cell? ⟨b,off,we⟩=w.cell? ⟨b,off,we⟩:=λhb=>cell_of (r _ hb);constructor
 ·rw[rc q.D7];exact h.b0
 ·rw[rc q.D7];exact h.b1
 ·rw[rc q.D7];exact h.b2
 ·rw[rc q.D7];exact h.b3
 ·rw[rc q.D7];exact h.b4
 ·rw[rc q.qLb];exact h.steps
 ·intro s hs;rw[rc q.qSt];exact h.eO s hs
 ·intro s hs;rw[rc q.qSt];exact h.Bh s hs
 ·intro s hs j hj;rw[rc (q.Qn s hs),rc (q.Qn s hs)];exact h.C0 s hs j hj
 ·intro k hk;rw[rc q.qVb,rc q.qVb];exact h.lW k hk
 ·intro s hs;rw[rc q.qMb];exact h.made s hs
def cY.pv{n9:Nat->Prop}(GD:∀k,rc k->n9 k)(h:cY T i o n9 w w1):cY T i o rc w w1 :=
 ⟨h.size,h.own,h.ro,h.sh,λa ha=>h.mine a (ha.imp id λ⟨k,hk,hl⟩=>⟨k,GD k hk,hl⟩),h.chan,h.Ct,h.wg,h.os,h.output⟩
def nO{o':aM}{w2:ae}(h:cS T i rc o w o' w1)(hr:cY T i o' rc w1 w2):cS T i rc o w o' w2 :=
 ⟨h.rel.trans (hr.less h.more),⟨λb hb=>⟨(h.ok.vo b hb).1,bz (h.ok.vo b hb).2 hr.size⟩,aY h.ok.size hr.size⟩,h.more⟩
def fC{b off:Nat}{sy:Bool}(h:Quiet T b):NK T i o rc ⟨.cell ⟨b,off,we⟩,false,sy⟩:=uA (.inr (.inr (.inr (h.ro off))))
def oI{b off:Nat}{wt sy:Bool}(h:o b):NK T i o rc ⟨.cell ⟨b,off,we⟩,wt,sy⟩:=yd h
end
section
variable {P:Program}{T:dj}{i:Nat}{V:Nat->ae->Prop}{E:bL}{rc o:Nat->Prop}{w:ae}
def uB(hT:T.OK)(hi:i<T.n){fn:FuncId}{Q:Exit->Act->aM->ae->Prop}{a:Act}(gd:gz T o w){ops:Array Oper}{j:Nat}{rest:List Nat}{op:Oper}(ho:ops[j]?=so op)(hw:Region.wanted op (yielded ops a.tmps)=true)(A off:Nat)(hA:o A){t n:Nat}{g:Nat->Value}(hr:w.rowIs A t n g)(h0:off+1<n)(x y:Value)(hx:x.oneCell'=true)(hy:y.oneCell'=true)(cJ:∀w1,w1.cell? ⟨A,off,we⟩=so (g off)->w1.cell? ⟨A,off+1,we⟩=so (g (off+1))->(∀k,w1.frozen? ⟨A,k,we⟩=false)->(execOp a.eval op).run P w1=.ok .skip ((w1.setCell ⟨A,off,we⟩ x).setCell ⟨A,off+1,we⟩ y))(jb:∀w1,w1.cell? ⟨A,off,we⟩=so (g off)->w1.cell? ⟨A,off+1,we⟩=so (g (off+1))->(∀k,w1.frozen? ⟨A,k,we⟩=false)->∃m m',(execOp a.eval op).events P w1 #[]=(store ⟨A,off+1,we⟩ y m').events P (w1.setCell ⟨A,off,we⟩ x) ((store ⟨A,off,we⟩ x m).events P w1 #[]))(h:∀w2,rH T i rc A o w o w2->w2.rowIs A t n (λk=>if k=off+1 then y else if k=off then x else g k)->eX (XW P T i V E rc) fn ops rest Q (a.put op.dst undef) o w2):eX (XW P T i V E rc) fn ops (j::rest) Q a o w:=by
 refine qj hT hi gd ho hw A hA (f:=λw4=>(w4.setCell ⟨A,off,we⟩ x).setCell ⟨A,off+1,we⟩ y) (λw1 h1=>?_) (λw4=>(gU.set _ _ _ _).trans (gU.set _ _ _ _)) (λw1 h1 e he=>?_) λw1 h1 l1=>?_
 ·have lA:=hr.of_block h1;exact cJ w1 (lA.cell aa) (lA.cell h0) lA.frozen
 ·have lA:=hr.of_block h1;have⟨m,m',e1⟩:=jb w1 (lA.cell aa) (lA.cell h0) lA.frozen;rw[e1]at he;have Eg:(w1.setCell ⟨A,off,we⟩ x).cell? ⟨A,off+1,we⟩=so (g (off+1)):=by rw[World.cell?_setCell_other _ _ _ _ ar];exact lA.cell h0
  have f1':(w1.setCell ⟨A,off,we⟩ x).frozen? ⟨A,off+1,we⟩=false:=(lA.set off x).frozen _;rw[cX _ _ (lA.cell aa) (lA.frozen _) hx,cX _ _ Eg f1' hy]at he;simp at he;rcases he with rfl|rfl;all_goals exact⟨_,_,_,rfl,rfl⟩
 ·have lA:=hr.of_block h1;exact h _ l1 ((lA.set off x).set (off+1) y)
def Jy(hT:T.OK)(hi:i<T.n){fn:FuncId}{Q:Exit->Act->aM->ae->Prop}{a:Act}(gd:gz T o w){ops:Array Oper}{j:Nat}{rest:List Nat}{op:Oper}(ho:ops[j]?=so op)(hw:Region.wanted op (yielded ops a.tmps)=true)(A:Nat)(hA:o A){t:Nat}{g:Nat->Value}(hr:w.rowIs A t 4 g)(x y u v:Value)(hx:x.oneCell'=true)(hy:y.oneCell'=true)(hu:u.oneCell'=true)(hv:v.oneCell'=true)(cJ:∀w1,(∀k,k<4->w1.cell? ⟨A,k,we⟩=so (g k))->(∀k,w1.frozen? ⟨A,k,we⟩=false)->(execOp a.eval op).run P w1=.ok .skip ((((w1.setCell ⟨A,0,we⟩ x).setCell ⟨A,1,we⟩ y).setCell ⟨A,2,we⟩ u).setCell ⟨A,3,we⟩ v))(jb:∀w1,(∀k,k<4->w1.cell? ⟨A,k,we⟩=so (g k))->(∀k,w1.frozen? ⟨A,k,we⟩=false)->∃m,(execOp a.eval op).events P w1 #[]=(store ⟨A,3,we⟩ v m).events P (((w1.setCell ⟨A,0,we⟩ x).setCell ⟨A,1,we⟩ y).setCell ⟨A,2,we⟩ u) ((store ⟨A,2,we⟩ u m).events P ((w1.setCell ⟨A,0,we⟩ x).setCell ⟨A,1,we⟩ y) ((store ⟨A,1,we⟩ y m).events P (w1.setCell ⟨A,0,we⟩ x) ((store ⟨A,0,we⟩ x m).events P w1 #[]))))(h:∀w2,rH T i rc A o w o w2->w2.rowIs A t 4 (λk=>if k=3 then v else if k=2 then u else if k=1 then y else if k=0 then x else g k)->eX (XW P T i V E rc) fn ops rest Q (a.put op.dst undef) o w2):eX (XW P T i V E rc) fn ops (j::rest) Q a o w:=by
 refine qj hT hi gd ho hw A hA (f:=λw4=>(((w4.setCell ⟨A,0,we⟩ x).setCell ⟨A,1,we⟩ y).setCell ⟨A,2,we⟩ u).setCell ⟨A,3,we⟩ v) (λw1 h1=>?_) (λw4=>(((gU.set _ _ _ _).trans (gU.set _ _ _ _)).trans (gU.set _ _ _ _)).trans (gU.set _ _ _ _)) (λw1 h1 e he=>?_) λw1 h1 l1=>?_
 ·have lA:=hr.of_block h1;exact cJ w1 (λk hk=>lA.cell hk) lA.frozen
 ·have lA:=hr.of_block h1;have⟨m,e1⟩:=jb w1 (λk hk=>lA.cell hk) lA.frozen;have r1:=lA.set 0 x;have r2:=r1.set 1 y;have r3:=r2.set 2 u;rw[e1,cX _ _ (lA.cell (i:=0) aa) (lA.frozen _) hx,cX _ _ (r1.cell (i:=1) aa) (r1.frozen _) hy,cX _ _ (r2.cell (i:=2) aa) (r2.frozen _) hu,cX _ _ (r3.cell (i:=3) aa) (r3.frozen _) hv]at he;simp at he;rcases he with rfl|rfl|rfl|rfl;all_goals exact⟨_,_,_,rfl,rfl⟩
 ·have lA:=hr.of_block h1;exact h _ l1 ((((lA.set 0 x).set 1 y).set 2 u).set 3 v)
end
def Jz(d:Nat)(a b:Bool)(w:ae)(es:Array Event):(Op.equalIn (d+1) 4 (.bool a) (.bool b)).events ax w es=es:=by
 simp[Op.equalIn,go_sem,Sem.events_bind,events_underlying]
def xh(d:Nat)(a b:af)(w:ae)(es:Array Event):(Op.equalIn (d+1) 9 (.string a) (.string b)).events ax w es=es:=by
 simp[Op.equalIn,go_sem,Sem.events_bind,events_underlying]
def Qo(e:Nat)(w:ae)(es:Array Event)(a c:Bool)(b d:af):(Op.equalIn (e+2) 159 (.agg #[.bool a,.string b]) (.agg #[.bool c,.string d])).events ax w es=es:=by
 rw[Op.equalIn];simp[go_sem,Sem.events_bind,Jz,xh]
def rJ(w:ae)(a c:Bool)(b d:af):(binOp .neq 159 (.agg #[.bool a,.string b]) (.agg #[.bool c,.string d])).run ax w=.ok (.bool (!decide ((a,b)=(c,d)))) w:=by
 have e:b.toList=d.toList↔b=d:=by
  rw[ByteArray.toList_eq,ByteArray.toList_eq];constructor
  ·intro h;obtain⟨⟨x⟩⟩:=b;obtain⟨⟨y⟩⟩:=d;have h:x=y:=h;rw[h]
  ·rintro rfl;rfl
 simp[go_sem,e];by_cases h1:a=c<;>by_cases h2:b=d<;>simp[h1,h2]
def wz(w:ae)(es:Array Event)(a c:Bool)(b d:af):(binOp .neq 159 (.agg #[.bool a,.string b]) (.agg #[.bool c,.string d])).events ax w es=es:=by
 simp only[binOp];simp[Op.equal,Op.maxDepth,Sem.events_bind,Qo 9998]
def rm(op:BinOp)(x y:Operand)(xs ys:Array Value)(w:ae)(es:Array Event):(eqGuard op 159 x y (.agg xs) (.agg ys)).events ax w es=es:=by
 cases op<;>simp[eqGuard,run_program,Sem.events_bind,show ax.eqGuardType ax.depth 159=false by kernel_rfl]
section
variable {T:dj}{i:Nat}{V:Nat->ae->Prop}{E:bL}{rc:Nat->Prop}{o:aM}{w:ae}
structure EqI(T:dj)(i:Nat)(rc:Nat->Prop)(o0:aM)(w0:ae)(B A:Nat)(xs ys:List Kz.V)(j:Nat)(a:Act)(o:aM)(w:ae):Prop where
 size:a.tmps.size=26
 df:a.defers=[]
 t0:a.eval (.tmp 0)=.slice (so ⟨B,0,we⟩) xs.length xs.length
 t1:a.eval (.tmp 1)=.slice (so ⟨A,0,we⟩) xs.length xs.length
 t12:a.eval (.tmp 12)=.int .i64 xs.length
 t13:a.eval (.tmp 13)=.int .i64 j
 eq:xs.take j=ys.take j
 lat:cS T i rc o0 w0 o w
def Xa(hW:sf T i)(B A:Nat)(xs ys:List Kz.V)(hlen:xs.length<=100000)(hly:ys.length<=100000)(gd:gz T o w)(hB:Quiet T B)(hx:xg w B 0 xs)(hA:o A)(hy:xg w A 0 ys):
  bA ax (XW ax T i V E rc) 162 #[.slice (so ⟨B,0,we⟩) xs.length xs.length,.slice (so ⟨A,0,we⟩) ys.length ys.length] o w λv o' w'=>v=.bool (decide (xs=ys))/\cS T i rc o w o' w':=by
 have W:=cM (P:=ax) (T:=T) (i:=i) (V:=V) (E:=E) rc;refine bD W func162 ak ?_;by_cases hl:xs.length=ys.length
 case neg =>
  have dE:¬xs=ys:=λe=>hl (by rw[e]);have ht:((xs.length:Int) != (ys.length:Int))=true:=eP;refine ay ?_;exact⟨.inr trivial,trivial,_,resultsC_tmp (t:=4) ak _,by simp[Act.eval,dE],.refl gd⟩
 have Ny:ys.length=xs.length:=hl.symm;clear hl;refine ay ?_;refine gT W (λn a o' w'=>∃j,n+j=xs.length/\EqI T i rc o w B A xs ys j a o' w') (N:=xs.length) ⟨0,ar,rfl,rfl,aK,by simp[Act.eval,Ny],aK,aK,ar,.refl gd⟩ ?_;rintro n a o1 w1 ⟨j,hnj,fy,kN,t0,t1,t12,t13,heq,xi⟩;obtain⟨tm,df⟩:=a;simp only at fy kN;subst kN;obtain⟨gs,rfl⟩:=lg fy;simp only[List.range,List.range.loop,aC,aP]at *;simp[Act.eval]at t0 t1 t12 t13;simp only[t0,t1,t12,t13];rcases bg n with hn|hn
 ·have hj:j=xs.length:=aa;subst hj;refine ay ?_;refine⟨.inr trivial,trivial,_,resultsC_tmp (t:=4) ak _,?_,xi⟩;have:xs=ys:=by rw[cC,<- Ny,cC]at heq;exact heq
  simp[Act.eval,this]
 ·have hj:j<xs.length:=aa;have hjy:j<ys.length:=aa;have hjI:(j:Int)<(xs.length:Int):=aa;refine ay ?_;have xa:o1 A:=xi.more A hA;refine vr mixed (n:=8) ai [.slice (so ⟨B,0,we⟩) xs.length xs.length,.int .i64 j,.pointer (so ⟨B,j*2,we⟩),.agg #[.bool xs[j].1,.string xs[j].2],.slice (so ⟨A,0,we⟩) xs.length xs.length,.int .i64 j,.pointer (so ⟨A,j*2,we⟩),.agg #[.bool ys[j].1,.string ys[j].2]]
   (S:=λo w=>o A/\w.cell? ⟨B,j*2,we⟩=so (.bool xs[j].1)/\w.cell? ⟨B,j*2+1,we⟩=so (.string xs[j].2)/\w.cell? ⟨A,j*2,we⟩=so (.bool ys[j].1)/\w.cell? ⟨A,j*2+1,we⟩=so (.string ys[j].2)/\cS T i rc o1 w1 o w) ?_ ?_ ?_
  ·rintro o w w' ⟨h1,h2,h3,h4,h5,h6⟩ hr;exact⟨h1,by rw[hB.cell hr];exact h2,by rw[hB.cell hr];exact h3,by rw[cell_of (hr.own A h1)];exact h4,by rw[cell_of (hr.own A h1)];exact h5,⟨h6.rel.trans (hr.less h6.more),⟨λb hb=>⟨(h6.ok.vo b hb).1,bz (h6.ok.vo b hb).2 hr.size⟩,aY h6.ok.size hr.size⟩,h6.more⟩⟩
  ·have e1:=hx j hj;have e2:=hy j hjy;rw[bt]at e1 e2;exact⟨xa,by rw[hB.cell xi.rel];exact e1.1,by rw[hB.cell xi.rel];exact e1.2,by rw[cell_of (xi.rel.own A hA)];exact e2.1,by rw[cell_of (xi.rel.own A hA)];exact e2.2,.refl xi.ok⟩
  ·simp only[List.range,List.range.loop];refine cK rfl rfl (kB λo2 w2 ⟨s1,s2,s3,s4,s5,s6⟩=>⟨by simp[go_sem,Act.eval],fS⟩) ?_;walk_nrm;refine cK rfl rfl (kB λo2 w2 ⟨s1,s2,s3,s4,s5,s6⟩=>⟨by simp[go_sem,Act.eval],fS⟩) ?_;walk_nrm;refine cK rfl rfl (kB λo2 w2 ⟨s1,s2,s3,s4,s5,s6⟩=>⟨by simp[go_sem, *],by simp[go_sem, *]⟩) ?_;walk_nrm;refine cK rfl rfl (kB λo2 w2 ⟨s1,s2,s3,s4,s5,s6⟩=>⟨by simp[go_sem, *],λe he=>?_⟩) ?_
   ·simp[go_sem, *]at he;rcases he with rfl|rfl<;>exact fC hB
   walk_nrm;refine cK rfl rfl (kB λo2 w2 ⟨s1,s2,s3,s4,s5,s6⟩=>⟨by simp[go_sem,Act.eval],fS⟩) ?_;walk_nrm;refine cK rfl rfl (kB λo2 w2 ⟨s1,s2,s3,s4,s5,s6⟩=>⟨by simp[go_sem,Act.eval],fS⟩) ?_;walk_nrm;refine cK rfl rfl (kB λo2 w2 ⟨s1,s2,s3,s4,s5,s6⟩=>⟨by simp[go_sem, *],by simp[go_sem, *]⟩) ?_;walk_nrm;refine cK rfl rfl (kB λo2 w2 ⟨s1,s2,s3,s4,s5,s6⟩=>⟨by simp[go_sem, *],λe he=>?_⟩) ?_
   ·simp[go_sem, *]at he;rcases he with rfl|rfl<;>exact oI s1
   walk_nrm;refine oF λo2 w2 ⟨s1,s2,s3,s4,s5,s6⟩=>?_;clear s2 s3 s4 s5;have Bi:cS T i rc o w o2 w2:=xi.trans s6;by_cases Yw:xs[j]=ys[j]
   ·refine zC W (v:=.bool false) rfl ak (λw3=>by simp[go_sem,rJ,Yw]) (λw3=>by simp[go_sem,wz,rm]) ?_;refine ay ?_;have zy:IntKind.i64.wrap ((j:Int)+1)=((j+1:Nat):Int):=by rw[IntKind.wrap_i64]<;>omega
    refine⟨n-1,aa,j+1,aa,rfl,rfl,rfl,rfl,rfl,by simp[Act.eval,zy],?_,Bi⟩;rw[take_succ xs j hj,take_succ ys j hjy,heq,Yw]
   ·refine zC W (v:=.bool true) rfl ak (λw3=>?_) (λw3=>by simp[go_sem,wz,rm]) ?_
    ·have:xs[j].1=ys[j].1->¬xs[j].2=ys[j].2:=λh1 h2=>Yw (Prod.ext h1 h2);by_cases h1:xs[j].1=ys[j].1
     ·simp[go_sem,rJ,this h1]
     ·simp[go_sem,rJ,h1]
    refine ay ?_;have dE:¬xs=ys:=λe=>Yw (by subst e;rfl);exact⟨.inr trivial,trivial,_,resultsC_tmp (t:=4) ak _,by simp[Act.eval,dE],Bi⟩
end
end Go.Proofs.Kz
namespace Go.Ren
open _root_.Option renaming some → so,none → we
open Go.Conc Go.ConcN
section
variable {P:Program}{T:dj}{i:Nat}{V:Nat->ae->Prop}{E:bL}
def JA(hT:T.OK)(hi:i<T.n){rc:Nat->Prop}{fn:FuncId}{Q:Exit->Act->aM->ae->Prop}{a:Act}{o:aM}{w:ae}(gd:gz T o w){ops:Array Oper}{j:Nat}{rest:List Nat}{op:Oper}(ho:ops[j]?=so op)(hw:Region.wanted op (yielded ops a.tmps)=true){d:Option Tmp}(hd:op.dst=d)(x:Obj)(f:Nat->Value)(cJ:∀w1,(execOp a.eval op).run P w1=.ok (.value (f w1.heap.size)) (w1.alloc x))(jb:∀w1,(execOp a.eval op).events P w1 #[]=#[])(h:∀A o1 w2,cS T i rc o w o1 w2->o1 A->w2.heap[A]?=so x->w.heap.size<=A->(∀b,o1 b↔o b\/b=A)->eX (XW P T i V E rc) fn ops rest Q (a.put d (f A)) o1 w2):eX (XW P T i V E rc) fn ops (j::rest) Q a o w:=by
 subst hd;refine lE (cM rc) ho hw λw1 lA K hK=>?_;rw[cJ w1];simp only[uponK_value];refine hK _ _ ⟨⟨Fs _ _ (aY gd.size lA.size) hT,by rw[listed_nil (jb w1)];simp⟩,h w1.heap.size _ _ (cS.alloc hT hi gd lA x) (.inr ⟨ah _,ar⟩) ?_ lA.size λb=>?_⟩
 ·show(w1.heap.push x)[w1.heap.size]?=_;simp
 ·have:=vn o w1 x;exact Iff.of_eq (congrFun this b)
end
end Go.Ren
namespace Go.Proofs.Kz
open Go.Proofs.Tryz
open Go.Proofs.Tryz renaming prog → ax
open _root_.ByteArray renaming empty → aR
open _root_.Option renaming some → so,none → we
open Go.Ren Go.Conc Go.Proofs
def C1:(ax.info? 159).map (λi=>(i.zero,i.size,i.bytes))=so (so (.agg #[.bool false,.string aR]),2,24):=ai
def rK(w:ae)(n:Nat)(hn:n<=100000):(Instr.makeSlice 98 (.int .i64 (n:Int)) (.int .i64 (n:Int))).run ax w=.ok (.slice (so ⟨w.heap.size,0,we⟩) n n) (w.alloc (.cells (madeCells #[.bool false,.string aR] (n*2)) 159)):=by
 obtain⟨i,hi,hz⟩:=aaf.1 C1;simp only[bB]at hz;obtain⟨hz,hs,hb⟩:=hz;have:=run_make (P:=ax) w 98 159 i _ underlying98 hi hz .i64 .i64 n n aa (fK _) (by rw[hb];omega) aa;rw[this,hs];simp[Value.cells]
def ED(w:ae)(n:Nat)(hn:n<=100000)(es:Array Event):(Instr.makeSlice 98 (.int .i64 (n:Int)) (.int .i64 (n:Int))).events ax w es=es:=by
 obtain⟨i,hi,hz⟩:=aaf.1 C1;simp only[bB]at hz;obtain⟨hz,hs,hb⟩:=hz;exact events_make (P:=ax) w 98 159 i _ underlying98 hi hz .i64 .i64 n n aa (fK _) (by rw[hb];omega) aa (by rw[hb];simp;omega) es
def JB{w:ae}{A n:Nat}(h:w.heap[A]?=so (.cells (madeCells #[.bool false,.string aR] (n*2)) 159)):eZ w A (List.replicate n V0):=by
 refine⟨_,h,by simp[size_madeCells],λj hj=>?_⟩;simp only[List.length_replicate]at hj;have hV:(List.replicate n V0).getD (j/2) V0=V0:=by simp[List.getD,List.getElem?_replicate];split<;>rfl
 simp only[madeCells,aL,Array.getElem?_range,hj,if_true,aJ,ef,hV];rcases fj j with e|e<;>simp[e]
def JC(D:mZ)(res:Nat->V)(x:Bool×Nat):V:=if x.1 then res x.2 else D.lW.getD x.2 V0
def dX(D:mZ)(res:Nat->V)(s:Nat):List V:=(D.ins s).map (JC D res)
def part(l:List V)(j:Nat):List V:=l.take j++List.replicate (l.length-j) V0
def oJ(l:List V)(j:Nat)(h:j<=l.length):(part l j).length=l.length:=by simp[part];omega
def FG(l:List V)(j m:Nat)(h:j<=l.length):(part l j).getD m V0=if m<j then l.getD m V0 else V0:=by
 unfold part;simp only[List.getD_eq_getElem?_getD];by_cases hm:m<j
 ·rw[jG eP,if_pos hm,fD hm]
 ·rw[ji eP,if_neg hm,kg];split<;>rfl
def C2{w:ae}{A n:Nat}{l:List V}{j:Nat}(hj:j<l.length)(hn:n=l.length*2)(h:w.rowIs A 159 n (λk=>if k=j*2+1 then .string l[j].2 else if k=j*2 then .bool l[j].1 else ef (part l j) k)):eZ w A (part l (j+1)):=by
 subst hn;unfold eZ;rw[oJ _ _ aa];refine h.congr λk hk=>?_;simp only[ef];rw[FG _ _ _ aa,FG _ _ _ aa];have hl:l.getD j V0=l[j]:=by simp[List.getD_eq_getElem?_getD,hj]
 by_cases e1:k=j*2+1
 ·subst e1;rw[if_pos rfl,if_neg aa,show(j*2+1)/2=j by omega,if_pos aa,hl]
 ·rw[if_neg e1];by_cases e2:k=j*2
  ·subst e2;rw[if_pos rfl,if_pos aa,show j*2/2=j by omega,if_pos aa,hl]
  ·rw[if_neg e2];have:(k/2<j↔k/2<j+1):=aa;by_cases e3:k/2<j
   ·rw[if_pos e3,if_pos (this.1 e3)]
   ·rw[if_neg e3,if_neg (λh=>e3 (this.2 h))]
section
variable {T:dj}{i:Nat}{V:Nat->ae->Prop}{E:bL}{rc:Nat->Prop}{o:aM}{w:ae}{D:mZ}{ord:Nat->Nat}
structure WfI(D:mZ)(T:dj)(i:Nat)(rc0:Nat->Prop)(o0:aM)(w0:ae)(A B len:Nat)(l:List Kz.V)(j:Nat)(a:Act)(rc:Nat->Prop)(o:aM)(w:ae):Prop where
 size:a.tmps.size=54
 df:a.defers=[]
 t0:a.eval (.tmp 0)=.pointer (so ⟨D.bn,0,we⟩)
 t5:a.eval (.tmp 5)=.slice (so ⟨A,0,we⟩) len len
 t11:a.eval (.tmp 11)=.slice (so ⟨B,0,we⟩) len len
 t12:a.eval (.tmp 12)=.int .i64 len
 t13:a.eval (.tmp 13)=.int .i64 j
 row:eZ w A (part l j)
 own:o A
 ao2:lh D w
 rcs:∀k,rc0 k->rc k
 lat:cS T i rc0 o0 w0 o w
def Qp(hW:sf T i)(hD:zM D T ord)(res:Nat->Kz.V)(hV:∀k w,k<T.n->V k w->w.cell? ⟨D.Rb,ord k*4+2,we⟩=so (.bool (res (ord k)).1)/\w.cell? ⟨D.Rb,ord k*4+3,we⟩=so (.string (res (ord k)).2))(gd:gz T o w)(hd:lh D w):
  Fu ax T i V E 161 #[.pointer (so ⟨D.bn,0,we⟩),.slice (so ⟨D.cO (ord i),0,we⟩) (D.ins (ord i)).length (D.ins (ord i)).length] rc o w λv n9 o' w'=>∃A,v=.slice (so ⟨A,0,we⟩) (D.ins (ord i)).length (D.ins (ord i)).length/\o' A/\¬o A/\eZ w' A (dX D res (ord i))/\(∀k,rc k->n9 k)/\cS T i rc o w o' w':=by
 have W:∀rc,fH ax false (λo=>cY T i o rc) (IN T i rc) (λo g w=>gM ax T i V E ⟨g,o,rc,w⟩):=λrc=>cM rc;have W1:=W rc;have hs:=hD.qK i hW.i;have aaC:=hD.short _ hs;have hlen:(dX D res (ord i)).length=(D.ins (ord i)).length:=by simp[dX]
 generalize hL:(D.ins (ord i)).length=len at *;refine GG func161 ak ?_;refine kU (fJ ?_);refine ay ?_;refine kU (fJ ?_);refine ay ?_;refine JA hW.ok hW.i gd rfl ak rfl (.cells (madeCells #[.bool false,.string aR] (len*2)) 159) (λA=>.slice (so ⟨A,0,we⟩) len len) (λw1=>by simp[go_sem,rK w1 len aa]) (λw1=>by simp[go_sem,ED w1 len aa]) λA o1 w1 l1 hA IZ RS Gw=>?_;try walk_nrm
 refine ay ?_;refine kU (kU (fJ ?_));refine ay ?_;have TB:¬o A:=λh=>by have:=(gd.vo A h).2;omega
 refine Ft (S0 (λn a n9 o' w'=>∃j,n+j=len/\WfI D T i rc o w A (D.cO (ord i)) len (dX D res (ord i)) j a n9 o' w') (N:=len) ⟨0,ar,rfl,rfl,rfl,rfl,rfl,rfl,aK,by have:=JB IZ;simpa[part,hlen] using this,hA,hd.later hD l1.rel,λ_ h=>h,l1⟩ ?_);rintro n a uC o2 w2 ⟨j,hnj,fy,kN,t0,t5,t11,t12,t13,cp,I7,VU,yv,xi⟩;clear IZ RS Gw hA l1 w1 o1 W1;have W1:=W uC;obtain⟨tm,df⟩:=a;simp only at fy kN;subst kN;obtain⟨gs,rfl⟩:=lg fy;simp only[List.range,List.range.loop,aC,aP]at *;simp[Act.eval]at t0 t5 t11 t12 t13;simp only[t0,t5,t11,t12,t13];clear t0 t5 t11 t12 t13 fy;rcases bg n with hn|hn
 ·have hj:j=len:=aa;subst hj;refine kU (fJ ?_);refine ay ?_;refine kU (fJ ?_);refine ay ?_;refine fJ ?_;refine ay ?_;refine⟨.inr trivial,trivial,_,resultsC_tmp (t:=4) ak _,A,rfl,I7,TB,?_,yv,xi⟩;have:part (dX D res (ord i)) j=dX D res (ord i):=by simp[part,<- hlen]
  rw[<- this];exact cp
 have hj:j<(D.ins (ord i)).length:=aa;have hjI:(j:Int)<(len:Int):=aa;have VJ:j<(dX D res (ord i)).length:=aa;have hv:(dX D res (ord i))[j]=JC D res (D.ins (ord i))[j]:=by simp[dX]
 have Qq:(D.ins (ord i))[j].1=false->(D.ins (ord i))[j].2<D.lW.length:=λh=>hD.src _ hs _ (by rw[<- h];exact aG hj);have yh:(D.ins (ord i))[j].1=true->∃k,k<T.n/\ord k=(D.ins (ord i))[j].2/\T.dep i k:=λh=>hD.dep i hW.i _ (by rw[<- h];exact aG hj);have hS:∀w3,cY T i o2 uC w2 w3->w3.cell? ⟨D.cO (ord i),j*2,we⟩=so (.bool (D.ins (ord i))[j].1)/\w3.cell? ⟨D.cO (ord i),j*2+1,we⟩=so (.int .i64 (D.ins (ord i))[j].2):=λw3 hr=>(VU.later hD hr).C0 _ hs j hj;generalize (D.ins (ord i))[j]=q at *;obtain⟨q1,q2⟩:=q;simp only at hS Qq yh;refine kU (fJ ?_);refine ay ?_;refine kU (fJ ?_);refine ay ?_;refine kU (Ft (kU (fJ ?_)));refine ay ?_
 (refine fV W1 hS rfl ak (λw9 hc=>⟨.refl _ _,λe he=>?_⟩) λw9 hc K hK=>?_;(focus (rw[cm];obtain⟨c0,c1⟩:=hc;have he:=mem_listed he;simp[go_sem, *]at he;rcases he with rfl|rfl<;>exact fC (hD.Qn _ hs)));obtain⟨c0,c1⟩:=hc;go_simp;refine hK _ ?_;clear hK K;clear c0 c1 w9;try walk_nrm)
 refine nN hW.ok hW.i xi.ok rfl ak rfl (Obj.cells #[.bool false,.int .i64 0] 280) (λw1=>fS) (λw1=>fS) λC o3 w3 l3 hC hCx hwC ho3=>?_;try walk_nrm
 refine ay ?_;have hCr:w3.rowIs C 280 2 (λk=>if k=0 then .bool false else .int .i64 0):=⟨_,hCx,rfl,λk hk=>by
  rcases(show k=0\/k=1 by omega)with rfl|rfl<;>rfl⟩
 have Bi:cS T i rc o w o3 w3:=xi.trans ⟨cY.pv yv l3.rel,l3.ok,l3.more⟩;have hnC:¬o2 C:=λh=>by have:=(xi.ok.vo C h).2;omega
 have hCA:A≠C:=λh=>hnC (h▸I7);refine uB hW.ok hW.i l3.ok rfl ak C 0 hC hCr aa (.bool q1) (.int .i64 q2) rfl rfl (λw1 c0 c1 f=>?_) (λw1 c0 c1 f=>⟨.plain,.plain,?_⟩) λw4 l4 hC4=>?_
 ·simp at c0 c1;simp[go_sem,c0,c1,f]
 ·simp at c0 c1;simp[go_sem,c0,c1,f]
 have K3:cS T i uC o2 w2 o3 w4:=(l3.wX.trans l4).later hnC;clear l4 hCr hCx l3;try walk_nrm
 refine ay ?_;refine kU (fJ ?_);refine ay ?_;have RV:∀w5,cY T i o3 uC w4 w5->w5.cell? ⟨C,0,we⟩=so (.bool q1):=λw5 hr=>by rw[cell_of (hr.own C hC)];exact hC4.cell (i:=0) aa
 (refine fV W1 RV rfl ak (λw9 hc=>⟨.refl _ _,λe he=>?_⟩) λw9 hc K hK=>?_;(focus (rw[cm];have he:=mem_listed he;simp[go_sem, *]at he;subst he;exact oI hC));go_simp;refine hK _ ?_;clear hK K;clear hc w9;try walk_nrm)
 refine ay ?_;have vu:o3 A:=K3.more A I7;have Od:eZ w4 A (part (dX D res (ord i)) j):=cp.of_block (K3.rel.own A I7);have hd4:lh D w4:=VU.later hD K3.rel;have Oe:cS T i rc o w o3 w4:=xi.trans ⟨cY.pv yv K3.rel,K3.ok,K3.more⟩;have hC1:w4.cell? ⟨C,1,we⟩=so (.int .i64 q2):=hC4.cell (i:=1) aa;clear RV hC4 hS cp VU xi Bi K3 ho3 hwC hnC;cases q1 with
 |false =>
  refine I1 rfl (λh=>by cases h) λ_=>?_;have hq:=Qq rfl;have hqI:(q2:Int)<(D.lW.length:Int):=aa;have Wa:(dX D res (ord i))[j]=D.lW[q2]:=by rw[hv];simp[JC,List.getD_eq_getElem?_getD,hq]
  refine fJ (vr mixed (n:=11) ai [.slice (so ⟨A,0,we⟩) len len,.int .i64 j,.pointer (so ⟨D.bn,0,we⟩),.pointer (so ⟨D.bn,0,we⟩),.pointer (so ⟨D.bn,1,we⟩),.slice (so ⟨D.Vb,0,we⟩) D.lW.length D.lW.length,.pointer (so ⟨C,1,we⟩),.int .i64 q2,.pointer (so ⟨D.Vb,q2*2,we⟩),.agg #[.bool D.lW[q2].1,.string D.lW[q2].2],.pointer (so ⟨A,j*2,we⟩)]
   (S:=λo5 w5=>o5=o3/\cS T i uC o3 w4 o5 w5) (λo5 w5 w6 h hr=>⟨h.1,nO h.2 hr⟩) ⟨rfl,.refl Oe.ok⟩ ?_)
  have F1:∀o5 w5,o5=o3/\cS T i uC o3 w4 o5 w5->w5.cell? ⟨D.bn,1,we⟩=so (.slice (so ⟨D.Vb,0,we⟩) D.lW.length D.lW.length):=λo5 w5 h=>(hd4.later hD h.2.rel).b1;have F2:∀o5 w5,o5=o3/\cS T i uC o3 w4 o5 w5->w5.cell? ⟨C,1,we⟩=so (.int .i64 q2):=λo5 w5 h=>by rw[cell_of (h.2.rel.own C hC)];exact hC1
  have F3:∀o5 w5,o5=o3/\cS T i uC o3 w4 o5 w5->w5.cell? ⟨D.Vb,q2*2,we⟩=so (.bool D.lW[q2].1)/\w5.cell? ⟨D.Vb,q2*2+1,we⟩=so (.string D.lW[q2].2):=λo5 w5 h=>by have:=(hd4.later hD h.2.rel).lW q2 hq;simpa using this
  simp only[List.range,List.range.loop]
  iterate 5 refine uy ?_
  (refine cK rfl rfl (kB λo5 w5 nA=>⟨?_,λe he=>?_⟩) ?_;(focus (have hF:=F1 o5 w5 nA;simp[go_sem,hF];done));(focus (have hF:=F1 o5 w5 nA;simp[go_sem,hF]at he;subst he;exact fC hD.D7));try walk_nrm)
  refine uy ?_
  (refine cK rfl rfl (kB λo5 w5 nA=>⟨?_,λe he=>?_⟩) ?_;(focus (have hF:=F2 o5 w5 nA;simp[go_sem,hF];done));(focus (have hF:=F2 o5 w5 nA;simp[go_sem,hF]at he;subst he;exact oI (nA.1▸hC)));try walk_nrm)
  refine uy ?_
  (refine cK rfl rfl (kB λo5 w5 nA=>⟨?_,λe he=>?_⟩) ?_;(focus (have hF:=F3 o5 w5 nA;simp[go_sem,hF.1,hF.2];done));(focus (have hF:=F3 o5 w5 nA;simp[go_sem,hF.1,hF.2]at he;rcases he with rfl|rfl<;>exact fC hD.qVb));try walk_nrm)
  refine uy ?_;refine oF ?_;rintro o5 w5 ⟨rfl,l5⟩;have yx:=Od.of_block (l5.rel.own A vu);refine uB hW.ok hW.i l5.ok rfl ak A (j*2) vu yx (by rw[oJ _ _ aa];omega) (.bool (dX D res (ord i))[j].1) (.string (dX D res (ord i))[j].2) rfl rfl (λw1 c0 c1 f=>?_) (λw1 c0 c1 f=>⟨.plain,.plain,?_⟩) λw6 l6 Qm=>?_
  ·rw[Wa];simp[go_sem,c0,c1,f]
  ·rw[Wa];simp[go_sem,c0,c1,f]
  have JD:=C2 VJ (by rw[oJ _ _ aa]) Qm;have Of:cS T i rc o w o5 w6:=((Oe.trans ⟨cY.pv yv l5.rel,l5.ok,l5.more⟩).wX.trans ⟨cY.pv yv l6.rel,l6.ok,l6.more⟩).later TB;have hd6:lh D w6:=(hd4.later hD l5.rel).later hD l6.rel;clear l5 l6 Qm yx F1 F2 F3;try walk_nrm
  refine ay ?_;refine fJ ?_;refine ay ?_;have zy:IntKind.i64.wrap ((j:Int)+1)=((j+1:Nat):Int):=by rw[IntKind.wrap_i64]<;>omega
  exact⟨n-1,aa,j+1,aa,rfl,rfl,rfl,rfl,rfl,rfl,by simp[Act.eval,zy],JD,vu,hd6,yv,Of⟩
 |true =>
  refine I1 rfl (λ_=>?_) (λh=>by cases h);obtain⟨k,hk,rfl,hdk⟩:=yh rfl;have hqn:=hD.qK k hk;have hqI:(ord k:Int)<(D.n:Int):=aa;have Wa:(dX D res (ord i))[j]=res (ord k):=by rw[hv];simp[JC]
  refine kU ?_;refine PY mixed (n:=8) ai [.pointer (so ⟨D.bn,0,we⟩),.pointer (so ⟨D.bn,0,we⟩),.pointer (so ⟨D.bn,4,we⟩),.slice (so ⟨D.Mb,0,we⟩) D.n D.n,.pointer (so ⟨C,1,we⟩),.int .i64 (ord k),.pointer (so ⟨D.Mb,ord k,we⟩),.chan (so (D.ch (ord k)))]
   (S:=λw5=>cS T i uC o3 w4 o3 w5) (λw5 w6 h hr=>nO h hr) (.refl Oe.ok) ?_
  have F1:∀w5,cS T i uC o3 w4 o3 w5->w5.cell? ⟨D.bn,4,we⟩=so (.slice (so ⟨D.Mb,0,we⟩) D.n D.n):=λw5 h=>(hd4.later hD h.rel).b4;have F2:∀w5,cS T i uC o3 w4 o3 w5->w5.cell? ⟨C,1,we⟩=so (.int .i64 (ord k)):=λw5 h=>by rw[cell_of (h.rel.own C hC)];exact hC1
  have F3:∀w5,cS T i uC o3 w4 o3 w5->w5.cell? ⟨D.Mb,ord k,we⟩=so (.chan (so (D.ch (ord k)))):=λw5 h=>(hd4.later hD h.rel).made _ hqn;simp only[List.range,List.range.loop]
  iterate 3 refine To ?_
  (refine cK rfl rfl (λw5 nA=>⟨?_,λe he=>?_⟩) ?_;(focus (have hF:=F1 w5 nA;simp[go_sem,hF];done));(focus (have hF:=F1 w5 nA;simp[go_sem,hF]at he;subst he;exact fC hD.D7));try walk_nrm)
  refine To ?_
  (refine cK rfl rfl (λw5 nA=>⟨?_,λe he=>?_⟩) ?_;(focus (have hF:=F2 w5 nA;simp[go_sem,hF];done));(focus (have hF:=F2 w5 nA;simp[go_sem,hF]at he;subst he;exact oI hC));try walk_nrm)
  refine To ?_
  (refine cK rfl rfl (λw5 nA=>⟨?_,λe he=>?_⟩) ?_;(focus (have hF:=F3 w5 nA;simp[go_sem,hF];done));(focus (have hF:=F3 w5 nA;simp[go_sem,hF]at he;subst he;exact fC hD.qMb));try walk_nrm)
  refine oF λw5 l5=>?_;refine PW (k:=k) (z:=.agg #[]) (f:=false) rfl ak hdk (λw1=>?_) (λw1=>fS) rfl λw6 Qm hVk=>?_
  ·rw[hD.ch k hk];simp[go_sem,rcase]
  have l6:cS T i uC o3 w4 o3 w6:=nO l5 Qm;clear l5 Qm w5 F1 F2 F3;have⟨hV1,hV2⟩:=hV k w6 hk hVk;have TD:∀b,rc b->uC b\/b=k:=λb hb=>.inl (yv b hb);have W3:=W (λb=>uC b\/b=k);have hd6:lh D w6:=hd4.later hD l6.rel;have JD:=Od.of_block (l6.rel.own A vu);have Of:cS T i rc o w o3 w6:=Oe.trans ⟨cY.pv yv l6.rel,l6.ok,l6.more⟩;have hC6:w6.cell? ⟨C,1,we⟩=so (.int .i64 (ord k)):=by rw[cell_of (l6.rel.own C hC)];exact hC1
  refine yg ?_;refine ay ?_;refine fJ (vr mixed (n:=12) ai [.slice (so ⟨A,0,we⟩) len len,.int .i64 j,.pointer (so ⟨D.bn,0,we⟩),.pointer (so ⟨D.bn,0,we⟩),.pointer (so ⟨D.bn,2,we⟩),.slice (so ⟨D.Rb,0,we⟩) D.n D.n,.pointer (so ⟨C,1,we⟩),.int .i64 (ord k),.pointer (so ⟨D.Rb,ord k*4,we⟩),.pointer (so ⟨D.Rb,ord k*4+2,we⟩),.agg #[.bool (res (ord k)).1,.string (res (ord k)).2],.pointer (so ⟨A,j*2,we⟩)]
   (S:=λo5 w5=>o5=o3/\cS T i (λb=>uC b\/b=k) o3 w6 o5 w5) (λo5 w5 w6 h hr=>⟨h.1,nO h.2 hr⟩) ⟨rfl,.refl Of.ok⟩ ?_)
  have fq:∀m,m<4->T.jV k (.cell ⟨D.Rb,ord k*4+m,we⟩):=λm hm=>(hD.own k _).2 ⟨hk,.inl ⟨m,hm,rfl⟩⟩;have F1:∀o5 w5,o5=o3/\cS T i (λb=>uC b\/b=k) o3 w6 o5 w5->w5.cell? ⟨D.bn,2,we⟩=so (.slice (so ⟨D.Rb,0,we⟩) D.n D.n):=λo5 w5 h=>(hd6.later hD h.2.rel).b2;have F2:∀o5 w5,o5=o3/\cS T i (λb=>uC b\/b=k) o3 w6 o5 w5->w5.cell? ⟨C,1,we⟩=so (.int .i64 (ord k)):=λo5 w5 h=>by rw[cell_of (h.2.rel.own C hC)];exact hC6
  have F3:∀o5 w5,o5=o3/\cS T i (λb=>uC b\/b=k) o3 w6 o5 w5->w5.cell? ⟨D.Rb,ord k*4+2,we⟩=so (.bool (res (ord k)).1)/\w5.cell? ⟨D.Rb,ord k*4+2+1,we⟩=so (.string (res (ord k)).2):=λo5 w5 h =>
   ⟨by rw[h.2.rel.mine _ (.inr ⟨k,.inr rfl,fq 2 aa⟩)];exact hV1,by rw[h.2.rel.mine ⟨D.Rb,ord k*4+3,we⟩ (.inr ⟨k,.inr rfl,fq 3 aa⟩)];exact hV2⟩
  simp only[List.range,List.range.loop]
  iterate 5 refine uy ?_
  (refine cK rfl rfl (kB λo5 w5 nA=>⟨?_,λe he=>?_⟩) ?_;(focus (have hF:=F1 o5 w5 nA;simp[go_sem,hF];done));(focus (have hF:=F1 o5 w5 nA;simp[go_sem,hF]at he;subst he;exact fC hD.D7));try walk_nrm)
  refine uy ?_
  (refine cK rfl rfl (kB λo5 w5 nA=>⟨?_,λe he=>?_⟩) ?_;(focus (have hF:=F2 o5 w5 nA;simp[go_sem,hF];done));(focus (have hF:=F2 o5 w5 nA;simp[go_sem,hF]at he;subst he;exact oI (nA.1▸hC)));try walk_nrm)
  refine uy ?_;refine uy ?_
  (refine cK rfl rfl (kB λo5 w5 nA=>⟨?_,λe he=>?_⟩) ?_;(focus (have hF:=F3 o5 w5 nA;simp[go_sem,hF.1,hF.2];done));(focus (have hF:=F3 o5 w5 nA;simp[go_sem,hF.1,hF.2]at he;rcases he with rfl|rfl<;>(first|exact uA (.inr (.inr (.inl ⟨k,.inr rfl,fq 2 aa⟩)))|exact uA (.inr (.inr (.inl ⟨k,.inr rfl,fq 3 aa⟩))))));try walk_nrm)
  refine uy ?_;refine oF ?_;rintro o5 w5 ⟨rfl,l5⟩;have yx:=JD.of_block (l5.rel.own A vu);refine uB hW.ok hW.i l5.ok rfl ak A (j*2) vu yx (by rw[oJ _ _ aa];omega) (.bool (dX D res (ord i))[j].1) (.string (dX D res (ord i))[j].2) rfl rfl (λw1 c0 c1 f=>?_) (λw1 c0 c1 f=>⟨.plain,.plain,?_⟩) λw7 l7 hr7=>?_
  ·rw[Wa];simp[go_sem,c0,c1,f]
  ·rw[Wa];simp[go_sem,c0,c1,f]
  have TE:=C2 VJ (by rw[oJ _ _ aa]) hr7;have adS:cS T i rc o w o5 w7:=((Of.trans ⟨cY.pv TD l5.rel,l5.ok,l5.more⟩).wX.trans ⟨cY.pv TD l7.rel,l7.ok,l7.more⟩).later TB;have hd7:lh D w7:=(hd6.later hD l5.rel).later hD l7.rel;clear l5 l7 hr7 yx F1 F2 F3;try walk_nrm
  refine ay ?_;refine fJ ?_;refine ay ?_;have zy:IntKind.i64.wrap ((j:Int)+1)=((j+1:Nat):Int):=by rw[IntKind.wrap_i64]<;>omega
  exact⟨n-1,aa,j+1,aa,rfl,rfl,rfl,rfl,rfl,rfl,by simp[Act.eval,zy],TE,vu,hd7,TD,adS⟩
end
end Go.Proofs.Kz
namespace Go.Ren
open _root_.Option renaming some → so,none → we
open Go.Conc Go.ConcN
section
variable {P:Program}{main:Bool}{b:Frame}{a:Act}{k:List Item}{cs:List Frame}{w:ae}
def yy{ops:Array Oper}{i:Nat}{rest:List Nat}{o:Oper}{d:Deferred}(ho:ops[i]?=so o)(hw:Region.wanted o (yielded ops a.tmps)=true)(hk:b.kind≠.early)(hr:(execOp a.eval o).run P w=.ok (.defer d) w)(he:(execOp a.eval o).events P w #[]=#[]):
  stepG P main (G (b.at a (.inRegion ops (i::rest)::k)) cs) w=.go (G (b.at (Act.put ⟨a.tmps,d::a.defers⟩ o.dst undef) (.inRegion ops rest::k)) cs) w #[]:=by
 have Ci:(b.at ⟨a.tmps,d::a.defers⟩ (.inRegion ops (i::rest)::k)).finish undef=b.at (Act.put ⟨a.tmps,d::a.defers⟩ o.dst undef) (.inRegion ops rest::k):=by rw[eu,ho];rfl
 have lD:(b.kind==CallKind.early)=false:=by simpa using hk
 rw[stepG_oper ho hw,<- Ci];simp[stepG.apply,hr,he,G,Frame.at,lD,GStep.after,seen_none]
end
section
variable {P:Program}{m:Bool}{R:aM->ae->ae->Prop}{Gu:aM->ae->ae->Array Event->Prop}{X:aM->aZ->ae->Prop}{fn:FuncId}{Q:Exit->Act->aM->ae->Prop}{a:Act}{o:aM}{w:ae}
def mq(W:fH P m R Gu X){ops:Array Oper}{i:Nat}{rest:List Nat}{op:Oper}{d:Deferred}(ho:ops[i]?=so op)(hw:Region.wanted op (yielded ops a.tmps)=true)(hr:∀w1,(execOp a.eval op).run P w1=.ok (.defer d) w1)(he:∀w1,(execOp a.eval op).events P w1 #[]=#[]){dd:Option Tmp}(hd:op.dst=dd)(h:eX X fn ops rest Q (Act.put ⟨a.tmps,d::a.defers⟩ dd undef) o w):eX X fn ops (i::rest) Q a o w:=by
 subst hd;exact λb k cs hb hk hc=>W.go rfl (λw1=>yy ho hw hk (hr w1) (he w1)) (h b k cs hb hk hc)
end
section
variable {P:Program}{T:dj}{i:Nat}{V:Nat->ae->Prop}{E:bL}{rc o:Nat->Prop}{w w':ae}
structure mr(T:dj)(i B:Nat)(w w':ae):Prop where
 size:w'.heap.size=w.heap.size
 heap:∀b,b≠B->w'.heap[b]?=w.heap[b]?
 shape:∀cs ty fz,w.heap[B]?=so (.cells cs ty fz)->∃tE,w'.heap[B]?=so (.cells tE ty fz)/\tE.size=cs.size
 cells:∀a:Addr,a.block=B->¬T.jV i (.cell a)->w'.cell? a=w.cell? a
 os:w'.os=w.os
 output:w'.output=w.output
def mr.set(w:ae){B off:Nat}(v:Value)(h:T.jV i (.cell ⟨B,off,we⟩)):mr T i B w (w.setCell ⟨B,off,we⟩ v):=by
 refine⟨by simp[World.setCell],λb hb=>RowKit.Below.heap_setCell w _ _ b hb,λcs ty fz hx=>?_,λa ha hn=>World.cell?_setCell_other _ _ _ _ λe=>hn (e▸h),rfl,rfl⟩;refine⟨cs.setIfInBounds off v,?_,ar⟩;simp[World.setCell,aS,hx]
def mr.trans{B:Nat}{w1 w2:ae}(h:mr T i B w w1)(k:mr T i B w1 w2):mr T i B w w2:=by
 refine⟨k.size.trans h.size,λb hb=>(k.heap b hb).trans (h.heap b hb),λcs ty fz hx=>?_,λa ha hn=>(k.cells a ha hn).trans (h.cells a ha hn),k.os.trans h.os,k.output.trans h.output⟩;have⟨c1,e1,e2⟩:=h.shape cs ty fz hx;have⟨c2,e3,e4⟩:=k.shape c1 ty fz e1;exact⟨c2,e3,e4.trans e2⟩
def mr.guW{B:Nat}(h:mr T i B w w')(hB:T.Sh B):LH T i o w w':=by
 refine⟨bI h.size.symm,λb _ _ hb=>h.heap b λe=>hb (e▸hB),λb cs ty fz hb hx=>?_,λa ha hn=>?_,h.os,h.output⟩
 ·by_cases e:b=B
  ·subst e;exact h.shape cs ty fz hx
  ·exact⟨cs,by rw[h.heap b e];exact hx,rfl⟩
 ·by_cases e:a.block=B
  ·exact h.cells a e hn
  ·exact cell_of (h.heap _ e)
def uD{ad:Addr}{wt sy:Bool}(h:T.jV i (.cell ad)):NK T i o rc ⟨.cell ad,wt,sy⟩:=by
 refine⟨λx hx _=>.inr (.inl ?_),ar,ar,ar⟩;simp only[MemAct.ofEvent,MemAct.touch?,aA]at hx;subst hx;exact h
def AN{fn:FuncId}{Q:Exit->Act->aM->ae->Prop}{a:Act}{ops:Array Oper}{j:Nat}{rest:List Nat}{op:Oper}(ho:ops[j]?=so op)(hw:Region.wanted op (yielded ops a.tmps)=true)(B:Nat)(hB:T.Sh B){f:ae->ae}(cJ:∀w1,cY T i o rc w w1->(execOp a.eval op).run P w1=.ok .skip (f w1))(hf:∀w1,mr T i B w1 (f w1))(jb:∀w1,cY T i o rc w w1->∀e∈(execOp a.eval op).events P w1 #[],∃ad wt sy,e=⟨.cell ad,wt,sy⟩/\T.jV i (.cell ad)){d:Option Tmp}(hd:op.dst=d)(h:∀w1,cY T i o rc w w1->mr T i B w1 (f w1)->eX (XW P T i V E rc) fn ops rest Q (a.put d undef) o (f w1)):eX (XW P T i V E rc) fn ops (j::rest) Q a o w:=by
 subst hd;refine lE (cM rc) ho hw λw1 lA K hK=>?_;rw[cJ w1 lA];simp only[uponK_skip];refine hK _ _ ⟨⟨(hf w1).guW hB,λe he=>?_⟩,?_⟩
 ·obtain⟨ad,wt,sy,rfl,e2⟩:=jb w1 lA e (mem_listed he);exact uD e2
 ·rw[kJ o (hf w1).size];exact h w1 lA (hf w1)
def gM.close{b:Frame}{a:Act}{cs:List Frame}{todo:List Item}{ds:List Deferred}{sE:Array TypeId}{ty:TypeId}{cns:Array Bool}(hd:a.defers={target:=.builtin .close sE ty cns,args:=#[.chan (so (T.ch i))]}::ds)(hq:(P.funcs[b.fn]?).any (·.norace)=false)(h:∀w1,cY T i o rc w w1->∀s r tm,w1.heap[T.ch i]?=so (.chan 0 #[] false s r tm)->V i w1/\E o (G {b.at ⟨a.tmps,ds⟩ todo with mode:=.returning} cs) (w1.setChan (T.ch i) 0 #[] true s r tm)):
  XW P T i V E rc o (G {b.at a todo with mode:=.returning} cs) w :=
 gM.intro ⟨rfl,.inr (.inr ⟨rfl,λw1 hr s r tm hc=>⟨_,wZ hd hc hq,rfl,(h w1 hr s r tm hc).1,(h w1 hr s r tm hc).2⟩⟩)⟩
end
section
variable {P:Program}{T:dj}{i:Nat}{V:Nat->ae->Prop}{E:bL}{fn:FuncId}{Q:ye}{a:Act}{rc:Nat->Prop}{o:aM}{w:ae}
def Qr{ops:Array Oper}{todo:List Nat}{w1:ae}(h:vQ P T i V E fn ops todo Q a rc o w)(hr:cY T i o rc w w1):vQ P T i V E fn ops todo Q a rc o w1:=λb k cs hb hk hc=>gM.rely (h b k cs hb hk hc) hr
def Qs{ops:Array Oper}{j:Nat}{rest:List Nat}{op:Oper}(ho:ops[j]?=so op)(hw:Region.wanted op (yielded ops a.tmps)=true)(h:∀w1,cY T i o rc w w1->∀K:Act->ae->Prop,(∀a' w',IN T i rc o w1 w' (listed P fn a op w1)/\vQ P T i V E fn ops rest Q a' rc (grow o w1 w') w'->K a' w')->uponK op a K ((execOp a.eval op).run P w1)):vQ P T i V E fn ops (j::rest) Q a rc o w:=by
 intro b k cs hb hk hc;refine(cM rc).step o _ w rfl λw1 h1=>?_;have:=h w1 h1 _ λ_ _ x=>x;revert this;cases hr:(execOp a.eval op).run P w1 with
 |ok x w' =>
  cases x with
  |value v=>intro q;simp only[uponK_value]at q;exact⟨_,_,_,eG ho hw hk hr,hb▸q.1,q.2 b k cs hb hk hc⟩
  |skip=>intro q;simp only[uponK_skip]at q;exact⟨_,_,_,jM ho hw hk hr,hb▸q.1,q.2 b k cs hb hk hc⟩
  |_=>intro q;exact q.elim
 |halt _ _=>intro q;exact q.elim
def pN{S:ae->Prop}(hS:∀w1,cY T i o rc w w1->S w1){ops:Array Oper}{j:Nat}{rest:List Nat}{op:Oper}(ho:ops[j]?=so op)(hw:Region.wanted op (yielded ops a.tmps)=true)(hg:∀w1,S w1->IN T i rc o w1 w1 (listed P fn a op w1))(h:∀w1,S w1->∀K:Act->ae->Prop,(∀a',vQ P T i V E fn ops rest Q a' rc o w->K a' w1)->uponK op a K ((execOp a.eval op).run P w1)):vQ P T i V E fn ops (j::rest) Q a rc o w :=
 Qs ho hw λw1 h1 K hK=>h w1 (hS w1 h1) K λa' q=>hK a' w1 ⟨hg w1 (hS w1 h1),by rw[cm];exact Qr q h1⟩
def uE{ops:Array Oper}{j:Nat}{rest:List Nat}{op:Oper}(ho:ops[j]?=so op)(_hn:GF op.op=true)(hw:Region.wanted op (yielded ops a.tmps)=true)(hg:∀w1,(execOp a.eval op).events P w1 #[]=#[])(h:∀w1,∀K:Act->ae->Prop,(∀a',vQ P T i V E fn ops rest Q a' rc o w->K a' w1)->uponK op a K ((execOp a.eval op).run P w1)):vQ P T i V E fn ops (j::rest) Q a rc o w :=
 pN (S:=λ_=>True) (λ_ _=>trivial) ho hw (λw1 _=>by rw[listed_nil (hg w1)];exact(cM (P:=P) (V:=V) (E:=E) rc).idle _ _) (λw1 _=>h w1)
end
end Go.Ren
namespace Go.Proofs.Kz
open Go.Proofs.Tryz
open Go.Proofs.Tryz renaming prog → ax
open _root_.ByteArray renaming empty → aR
open _root_.Option renaming some → so,none → we
open Go.Ren Go.Conc Go.Proofs
def vT(w:ae)(B:Nat):Prop:=∃c t,w.heap[B]?=so (.cells c t (0,0))
def vT.frozen{w:ae}{B:Nat}(h:vT w B)(off:Nat):w.frozen? ⟨B,off,we⟩=false:=by
 obtain⟨c,t,h⟩:=h;simp[World.frozen?,h]
def vT.later{w w1:ae}{B:Nat}{T:dj}{i:Nat}{o rc:Nat->Prop}(h:vT w B)(hB:T.Sh B)(hr:cY T i o rc w w1):vT w1 B:=by
 obtain⟨c,t,h⟩:=h;have⟨c1,h1,_⟩:=hr.sh B c t _ hB h;exact⟨c1,t,h1⟩
def JE(w:ae)(a:Addr)(v u:Value)(h:w.cell? a=so u):(w.setCell a v).cell? a=so v:=World.cell?_setCell_same _ _ _ h
def adT{P:Program}{w:ae}{B off:Nat}{x0 x1 x2 x3:Value}(v0 v1 v2 v3:Value)(h0:w.cell? ⟨B,off,we⟩=so x0)(h1:w.cell? ⟨B,off+1,we⟩=so x1)(h2:w.cell? ⟨B,off+2,we⟩=so x2)(h3:w.cell? ⟨B,off+3,we⟩=so x3)(hf:∀k,w.frozen? ⟨B,k,we⟩=false)(o0:v0.oneCell'=true)(o1:v1.oneCell'=true)(o2:v2.oneCell'=true)(o3:v3.oneCell'=true):
  ((((w.setCell ⟨B,off,we⟩ v0).setCell ⟨B,off+1,we⟩ v1).setCell ⟨B,off+2,we⟩ v2).setCell ⟨B,off+3,we⟩ v3).cell? ⟨B,off,we⟩=so v0 /\
  ((((w.setCell ⟨B,off,we⟩ v0).setCell ⟨B,off+1,we⟩ v1).setCell ⟨B,off+2,we⟩ v2).setCell ⟨B,off+3,we⟩ v3).cell? ⟨B,off+1,we⟩=so v1 /\
  ((((w.setCell ⟨B,off,we⟩ v0).setCell ⟨B,off+1,we⟩ v1).setCell ⟨B,off+2,we⟩ v2).setCell ⟨B,off+3,we⟩ v3).cell? ⟨B,off+2,we⟩=so v2 /\
  ((((w.setCell ⟨B,off,we⟩ v0).setCell ⟨B,off+1,we⟩ v1).setCell ⟨B,off+2,we⟩ v2).setCell ⟨B,off+3,we⟩ v3).cell? ⟨B,off+3,we⟩=so v3 /\
  (∀m (e:Event),e∈(store ⟨B,off+3,we⟩ v3 m).events P (((w.setCell ⟨B,off,we⟩ v0).setCell ⟨B,off+1,we⟩ v1).setCell ⟨B,off+2,we⟩ v2) ((store ⟨B,off+2,we⟩ v2 m).events P ((w.setCell ⟨B,off,we⟩ v0).setCell ⟨B,off+1,we⟩ v1) ((store ⟨B,off+1,we⟩ v1 m).events P (w.setCell ⟨B,off,we⟩ v0) ((store ⟨B,off,we⟩ v0 m).events P w #[])))->∃j wt sy,j<4/\e=⟨.cell ⟨B,off+j,we⟩,wt,sy⟩):=by
 have key:∀(w:ae) (a:Addr) (v u:Value),w.cell? a=so u->(w.setCell a v).cell? a=so v:=JE;have LN:∀(w:ae) (i j:Nat) (v:Value),i≠j->(w.setCell ⟨B,i,we⟩ v).cell? ⟨B,j,we⟩=w.cell? ⟨B,j,we⟩:=λw i j v h=>World.cell?_setCell_other _ _ _ _ (by simp[h]);have fr:∀(w:ae) (i:Nat) (v:Value),(∀k,w.frozen? ⟨B,k,we⟩=false)->∀k,(w.setCell ⟨B,i,we⟩ v).frozen? ⟨B,k,we⟩=false:=λw i v h k=>by simpa using h k
 have a1:(w.setCell ⟨B,off,we⟩ v0).cell? ⟨B,off+1,we⟩=so x1:=by rw[LN _ _ _ _ aa];exact h1
 have a2:((w.setCell ⟨B,off,we⟩ v0).setCell ⟨B,off+1,we⟩ v1).cell? ⟨B,off+2,we⟩=so x2:=by rw[LN _ _ _ _ aa,LN _ _ _ _ aa];exact h2
 have a3:(((w.setCell ⟨B,off,we⟩ v0).setCell ⟨B,off+1,we⟩ v1).setCell ⟨B,off+2,we⟩ v2).cell? ⟨B,off+3,we⟩=so x3:=by rw[LN _ _ _ _ aa,LN _ _ _ _ aa,LN _ _ _ _ aa];exact h3
 refine⟨?_,?_,?_,key _ _ _ _ a3,λm e he=>?_⟩
 ·rw[LN _ _ _ _ aa,LN _ _ _ _ aa,LN _ _ _ _ aa];exact key _ _ _ _ h0
 ·rw[LN _ _ _ _ aa,LN _ _ _ _ aa];exact key _ _ _ _ a1
 ·rw[LN _ _ _ _ aa];exact key _ _ _ _ a2
 ·rw[cX _ _ h0 (hf _) o0,cX _ _ a1 (fr _ _ _ hf _) o1,cX _ _ a2 (fr _ _ _ (fr _ _ _ hf) _) o2,cX _ _ a3 (fr _ _ _ (fr _ _ _ (fr _ _ _ hf)) _) o3]at he;simp at he;rcases he with rfl|rfl|rfl|rfl
  ·exact⟨0,_,_,aa,rfl⟩
  ·exact⟨1,_,_,aa,rfl⟩
  ·exact⟨2,_,_,aa,rfl⟩
  ·exact⟨3,_,_,aa,rfl⟩
structure wB(D:mZ)(s:Nat)(w:ae)(B:Nat)(vs:List V)(m:V):Prop where
 c0:w.cell? ⟨D.Rb,s*4,we⟩=so (.bool true)
 c1:w.cell? ⟨D.Rb,s*4+1,we⟩=so (.slice (so ⟨B,0,we⟩) vs.length vs.length)
 c2:w.cell? ⟨D.Rb,s*4+2,we⟩=so (.bool m.1)
 c3:w.cell? ⟨D.Rb,s*4+3,we⟩=so (.string m.2)
structure Og(D:mZ)(s:Nat)(w:ae):Prop where
 c0:w.cell? ⟨D.Rb,s*4,we⟩=so (.bool false)
 c1:w.cell? ⟨D.Rb,s*4+1,we⟩=so (.slice we 0 0)
 c2:w.cell? ⟨D.Rb,s*4+2,we⟩=so (.bool false)
 c3:w.cell? ⟨D.Rb,s*4+3,we⟩=so (.string aR)
def GQ(D:mZ)(T:dj)(s:Nat)(old:Option (Nat×List V))(w:ae):Prop :=
 match old with
 |none=>Og D s w
 |some (B,vs)=>wB D s w B vs (iV (D.jP s) vs)/\xg w B 0 vs/\Quiet T B/\vs.length<=100000
def nP(D:mZ)(s:Nat)(old:Option (Nat×List V))(ins:List V)(m:V)(o:Nat->Prop)(w:ae):Prop :=
 (∃B,old=so (B,ins)/\wB D s w B ins m/\w.cell? ⟨D.Nb,s,we⟩=so (.bool false)) \/
 ((∀B,old≠so (B,ins))/\∃A,o A/\eZ w A ins/\wB D s w A ins m/\w.cell? ⟨D.Nb,s,we⟩=so (.bool true))
def nP.made{D:mZ}{s:Nat}{old:Option (Nat×List V)}{ins:List V}{m:V}{o:Nat->Prop}{w:ae}(h:nP D s old ins m o w):w.cell? ⟨D.Rb,s*4+2,we⟩=so (.bool m.1)/\w.cell? ⟨D.Rb,s*4+3,we⟩=so (.string m.2):=by
 rcases h with⟨B,_,h,_⟩|⟨_,A,_,_,h,_⟩<;>exact⟨h.c2,h.c3⟩
def nP.of{D:mZ}{s:Nat}{old:Option (Nat×List V)}{ins:List V}{m:V}{o o':Nat->Prop}{w w':ae}(h:nP D s old ins m o w)(hR:∀j,j<4->w'.cell? ⟨D.Rb,s*4+j,we⟩=w.cell? ⟨D.Rb,s*4+j,we⟩)(hN:w'.cell? ⟨D.Nb,s,we⟩=w.cell? ⟨D.Nb,s,we⟩)(ho:∀b,o b->o' b/\w'.heap[b]?=w.heap[b]?):nP D s old ins m o' w':=by
 have hr:∀{B},wB D s w B ins m->wB D s w' B ins m:=λh=>⟨(hR 0 aa).trans h.c0,(hR 1 aa).trans h.c1,(hR 2 aa).trans h.c2,(hR 3 aa).trans h.c3⟩;rcases h with⟨B,h1,h2,h3⟩|⟨h1,A,h2,h3,h4,h5⟩
 ·exact .inl ⟨B,h1,hr h2,hN.trans h3⟩
 ·exact .inr ⟨h1,A,(ho A h2).1,h3.of_block (ho A h2).2,hr h4,hN.trans h5⟩
def GQ.some{D:mZ}{T:dj}{s:Nat}{old:Option (Nat×List V)}{w:ae}(h:GQ D T s old w):∃x0 x1 x2 x3,w.cell? ⟨D.Rb,s*4,we⟩=so x0/\w.cell? ⟨D.Rb,s*4+1,we⟩=so x1/\w.cell? ⟨D.Rb,s*4+2,we⟩=so x2/\w.cell? ⟨D.Rb,s*4+3,we⟩=so x3:=by
 cases old with
 |none=>exact⟨_,_,_,_,h.c0,h.c1,h.c2,h.c3⟩
 |some x=>exact⟨_,_,_,_,h.1.c0,h.1.c1,h.1.c2,h.1.c3⟩
section
variable {T:dj}{i:Nat}{V:Nat->ae->Prop}{E:bL}{rc:Nat->Prop}{o:aM}{w:ae}
def aaD(hW:sf T i)(hq:Quiet T 1)(r:Int)(hr:1<=r/\r<=5)(b:Nat)(vs:List Kz.V)(hn:vs.length<=100000)(hm:jg (vs.map (·.2))<=1000000)(gd:gz T o w)(hb:o b)(ht:eZ w b vs)(hp:jh w):
  bA ax (XW ax T i V E rc) 163 #[.int .i64 r,.slice (so ⟨b,0,we⟩) vs.length vs.length] o w λv o' w'=>v=.agg #[.bool (iV r vs).1,.string (iV r vs).2]/\cS T i rc o w o' w':=by
 by_cases h5:r=5
 ·subst h5;exact Mn hW hq b vs hn gd hb ht hp
 ·by_cases hc:cnt vs<vs.length
  ·exact Mo hW hq r aa b vs hn hm hc gd hb ht hp
  ·exact TC hW hq r aa b vs hn hm hc gd hb ht hp
end
section
variable {T:dj}{i:Nat}{V:Nat->ae->Prop}{E:bL}{rc:Nat->Prop}{o:aM}{w:ae}{D:mZ}{ord:Nat->Nat}
def aaE(hW:sf T i)(Tu:Quiet T 1)(hD:zM D T ord)(res:Nat->Kz.V)(hV:∀k w,k<T.n->V k w->w.cell? ⟨D.Rb,ord k*4+2,we⟩=so (.bool (res (ord k)).1)/\w.cell? ⟨D.Rb,ord k*4+3,we⟩=so (.string (res (ord k)).2))(gd:gz T o w)(hd:lh D w)(hp:jh w)(tF:res (ord i)=iV (D.jP (ord i)) (dX D res (ord i)))(TF:1<=D.jP (ord i)/\D.jP (ord i)<=5)(qZ:jg ((dX D res (ord i)).map (·.2))<=1000000)(old:Option (Nat×List Kz.V))(hold:GQ D T (ord i) old w)(GR:w.cell? ⟨D.Nb,ord i,we⟩=so (.bool false))(TG:vT w D.Rb)(aaF:vT w D.Nb)(c:Frame)(cs:List Frame)(TH:∀n9 o' w' (tm:Array Value) (todo:List Item),(∀b,o b->o' b)->(∀b,o' b->T.H0<=b)->(∀b,o b->w'.heap[b]?=w.heap[b]?)->(Go.ConcN.WgLive T.ty T.Wg w->Go.ConcN.WgLive T.ty T.Wg w')->nP D (ord i) old (dX D res (ord i)) (res (ord i)) (λb=>o' b/\¬o b) w'->∀w1,cY T i o' n9 w' w1->∀s r t,w1.heap[T.ch i]?=so (.chan 0 #[] false s r t) ->
   V i w1/\E o' (G {(base 116).at ⟨tm,[]⟩ todo with mode:=.returning} (c::cs)) (w1.setChan (T.ch i) 0 #[] true s r t)):
  XW ax T i V E rc o (G (Frame.enter ax 116 #[.pointer (so ⟨D.bn,0,we⟩),.int .i64 (ord i)] .normal) (c::cs)) w:=by
 have W:∀rc,fH ax false (λo=>cY T i o rc) (IN T i rc) (λo g w=>gM ax T i V E ⟨g,o,rc,w⟩):=λrc=>cM rc;have W1:=W rc;have hs:=hD.qK i hW.i;have hsI:(ord i:Int)<(D.n:Int):=aa;have aaC:=hD.short _ hs;have vO:=hD.ch i hW.i;have fq:∀j,j<4->T.jV i (.cell ⟨D.Rb,ord i*4+j,we⟩):=λj hj=>(hD.own i _).2 ⟨hW.i,.inl ⟨j,hj,rfl⟩⟩;have C3:T.jV i (.cell ⟨D.Nb,ord i,we⟩):=(hD.own i _).2 ⟨hW.i,.inr rfl⟩;rw[iN func116 rfl];refine kU (P:=ax) (fn:=116) (T:=T) (i:=i) (V:=V) (E:=E) (Q:=λe a' n9 o' w'=>(e=.normal\/e=.ret)/\a'.defers=[{target:=.builtin .close #[207] 0 #[false],args:=#[.chan (so (D.ch (ord i)))]}]/\(∀b,o b->o' b)/\(∀b,o' b->T.H0<=b)/\(∀b,o b->w'.heap[b]?=w.heap[b]?)/\(Go.ConcN.WgLive T.ty T.Wg w->Go.ConcN.WgLive T.ty T.Wg w')/\nP D (ord i) old (dX D res (ord i)) (res (ord i)) (λb=>o' b/\¬o b) w') ?_ (base 116) [] (c::cs) rfl (by simp[base]) ?_
 case refine_2 =>
  rintro e ⟨tm,df⟩ n9 o' w' ⟨he,kN,h1,h5,h2,h4,h3⟩;simp only at kN;subst kN;have leave:∀todo,XW ax T i V E n9 o' (G {(base 116).at ⟨tm,[{target:=.builtin .close #[207] 0 #[false],args:=#[.chan (so (D.ch (ord i)))]}]⟩ todo with mode:=.returning} (c::cs)) w':=λtodo =>
   gM.close (by rw[vO]) ai λw1 hr s r t hc=>TH n9 o' w' tm todo h1 h5 h2 h4 h3 w1 hr s r t hc
  rcases he with rfl|rfl
  ·exact(W n9).go rfl (λ_=>ew) (leave [])
  ·exact leave
 refine fJ ?_;refine ay ?_;have K4:∀w3,cY T i o rc w w3->w3.cell? ⟨D.bn,4,we⟩=so (.slice (so ⟨D.Mb,0,we⟩) D.n D.n):=λw3 hr=>(hd.later hD hr).b4;have Qt:∀w3,cY T i o rc w w3->w3.cell? ⟨D.Mb,ord i,we⟩=so (.chan (so (D.ch (ord i)))):=λw3 hr=>(hd.later hD hr).made _ hs
 (refine fV W1 K4 rfl ak (λw9 hc=>⟨.refl _ _,λe he=>?_⟩) λw9 hc K hK=>?_;(focus (rw[cm];have he:=mem_listed he;simp[go_sem, *]at he;subst he;exact fC hD.D7));go_simp;refine hK _ ?_;clear hK K;clear hc w9;try walk_nrm)
 refine ay ?_
 (refine fV W1 Qt rfl ak (λw9 hc=>⟨.refl _ _,λe he=>?_⟩) λw9 hc K hK=>?_;(focus (rw[cm];have he:=mem_listed he;simp[go_sem, *]at he;subst he;exact fC hD.qMb));go_simp;refine hK _ ?_;clear hK K;clear hc w9;try walk_nrm)
 refine mq W1 (d:={target:=.builtin .close #[207] 0 #[false],args:=#[.chan (so (D.ch (ord i)))]}) rfl ak (λw1=>?_) (λw1=>fS) rfl ?_
 ·simp[go_sem,vO]
 refine ay ?_;clear K4 Qt;refine kU (LV ?_);refine dN ?_;have K4:∀w3,cY T i o rc w w3->w3.cell? ⟨D.bn,0,we⟩=so (.pointer (so ⟨D.Lb,D.Lo,we⟩)):=λw3 hr=>(hd.later hD hr).b0;have Qt:∀w3,cY T i o rc w w3->w3.cell? ⟨D.Lb,D.Lo,we⟩=so (.slice (so ⟨D.St,0,we⟩) D.n D.n):=λw3 hr=>(hd.later hD hr).steps;have hS3:∀w3,cY T i o rc w w3->w3.cell? ⟨D.St,ord i*3+2,we⟩=so (.slice (so ⟨D.cO (ord i),0,we⟩) (D.ins (ord i)).length (D.ins (ord i)).length):=λw3 hr=>(hd.later hD hr).Bh _ hs
 repeat (refine uE rfl rfl ?_ ?_ ?_;(focus (rfl));(focus (intro w1;first|(simp[go_sem];done)|(simp[go_sem, *];done)));intro w1 K hK;go_simp;refine hK _ ?_;clear hK K w1;try walk_nrm)
 (refine pN K4 rfl ak (λw9 hc=>⟨.refl _ _,λe he=>?_⟩) λw9 hc K hK=>?_;(focus (rw[cm];have he:=mem_listed he;simp[go_sem, *]at he;subst he;exact fC hD.D7));go_simp;refine hK _ ?_;clear hK K;clear hc w9;try walk_nrm)
 repeat (refine uE rfl rfl ?_ ?_ ?_;(focus (rfl));(focus (intro w1;first|(simp[go_sem];done)|(simp[go_sem, *];done)));intro w1 K hK;go_simp;refine hK _ ?_;clear hK K w1;try walk_nrm)
 (refine pN Qt rfl ak (λw9 hc=>⟨.refl _ _,λe he=>?_⟩) λw9 hc K hK=>?_;(focus (rw[cm];have he:=mem_listed he;simp[go_sem, *]at he;subst he;exact fC hD.qLb));go_simp;refine hK _ ?_;clear hK K;clear hc w9;try walk_nrm)
 repeat (refine uE rfl rfl ?_ ?_ ?_;(focus (rfl));(focus (intro w1;first|(simp[go_sem];done)|(simp[go_sem, *];done)));intro w1 K hK;go_simp;refine hK _ ?_;clear hK K w1;try walk_nrm)
 (refine pN hS3 rfl ak (λw9 hc=>⟨.refl _ _,λe he=>?_⟩) λw9 hc K hK=>?_;(focus (rw[cm];have he:=mem_listed he;simp[go_sem, *]at he;subst he;exact fC hD.qSt));go_simp;refine hK _ ?_;clear hK K;clear hc w9;try walk_nrm)
 refine LX rfl ak rfl func161 ai rfl aK rfl ((Qp hW hD res hV gd hd).mono ?_);clear K4 Qt hS3 W1;rintro v uC o2 w2 ⟨A,rfl,hA,TB,cp,yv,l2⟩;have W2:=W uC;walk_nrm;refine yg ?_;refine ay ?_;refine fJ ?_;have VU:=hd.later hD l2.rel;have hlen:(dX D res (ord i)).length=(D.ins (ord i)).length:=by simp[dX]
 refine IX W2 (λa' o' w'=>a'.tmps.size=68/\a'.defers=[{target:=.builtin .close #[207] 0 #[false],args:=#[.chan (so (D.ch (ord i)))]}]/\a'.eval (.tmp 0)=.pointer (so ⟨D.bn,0,we⟩)/\a'.eval (.tmp 1)=.int .i64 (ord i)/\a'.eval (.tmp 4)=.slice (so ⟨A,0,we⟩) (D.ins (ord i)).length (D.ins (ord i)).length/\(∀B,old≠so (B,dX D res (ord i)))/\cS T i uC o2 w2 o' w') ?_ ?_
 case refine_2 =>
  rintro⟨tm,df⟩ o3 w3 ⟨fy,kN,t0,t1,t4,zu,l3⟩;simp only at fy kN;subst kN;obtain⟨gs,rfl⟩:=lg fy;simp only[List.range,List.range.loop,aC,aP]at *;simp[Act.eval]at t0 t1 t4;simp only[t0,t1,t4];clear t0 t1 t4 fy;have l3':cS T i rc o w o3 w3:=l2.trans ⟨cY.pv yv l3.rel,l3.ok,l3.more⟩;have hd3:=VU.later hD l3.rel;have vu:o3 A:=l3.more A hA;have YU:=cp.of_block (l3.rel.own A hA);have hp3:jh w3:=hp.later Tu l3';refine sM W2 ?_;refine vr mixed (n:=21) ai [.pointer (so ⟨D.bn,0,we⟩),.pointer (so ⟨D.bn,0,we⟩),.pointer (so ⟨D.bn,2,we⟩),.slice (so ⟨D.Rb,0,we⟩) D.n D.n,.int .i64 (ord i),.slice (so ⟨A,0,we⟩) (D.ins (ord i)).length (D.ins (ord i)).length,.pointer (so ⟨D.bn,0,we⟩),.pointer (so ⟨D.bn,0,we⟩),.pointer (so ⟨D.bn,0,we⟩),.pointer (so ⟨D.Lb,D.Lo,we⟩),.pointer (so ⟨D.Lb,D.Lo,we⟩),.pointer (so ⟨D.Lb,D.Lo,we⟩),.slice (so ⟨D.St,0,we⟩) D.n D.n,.int .i64 (ord i),.pointer (so ⟨D.St,ord i*3,we⟩),.pointer (so ⟨D.St,ord i*3+1,we⟩),.int .i64 (D.jP (ord i)),.slice (so ⟨A,0,we⟩) (D.ins (ord i)).length (D.ins (ord i)).length,.agg #[.bool (res (ord i)).1,.string (res (ord i)).2],.agg #[.bool true,.slice (so ⟨A,0,we⟩) (D.ins (ord i)).length (D.ins (ord i)).length,.bool (res (ord i)).1,.string (res (ord i)).2],.pointer (so ⟨D.Rb,ord i*4,we⟩)]
   (S:=λo5 w5=>cS T i uC o3 w3 o5 w5) (λo5 w5 w6 h hr=>nO h hr) (.refl l3.ok) ?_
  have F1:∀o5 w5,cS T i uC o3 w3 o5 w5->w5.cell? ⟨D.bn,2,we⟩=so (.slice (so ⟨D.Rb,0,we⟩) D.n D.n):=λo5 w5 h=>(hd3.later hD h.rel).b2;have F2:∀o5 w5,cS T i uC o3 w3 o5 w5->w5.cell? ⟨D.bn,0,we⟩=so (.pointer (so ⟨D.Lb,D.Lo,we⟩)):=λo5 w5 h=>(hd3.later hD h.rel).b0;have F3:∀o5 w5,cS T i uC o3 w3 o5 w5->w5.cell? ⟨D.Lb,D.Lo,we⟩=so (.slice (so ⟨D.St,0,we⟩) D.n D.n):=λo5 w5 h=>(hd3.later hD h.rel).steps;have F4:∀o5 w5,cS T i uC o3 w3 o5 w5->w5.cell? ⟨D.St,ord i*3+1,we⟩=so (.int .i64 (D.jP (ord i))):=λo5 w5 h=>(hd3.later hD h.rel).eO _ hs;simp only[List.range,List.range.loop]
  iterate 3 refine uy ?_
  (refine cK rfl rfl (kB λo5 w5 nA=>⟨?_,λe he=>?_⟩) ?_;(focus (have hF:=F1 o5 w5 nA;simp[go_sem,hF];done));(focus (have hF:=F1 o5 w5 nA;simp[go_sem,hF]at he;subst he;exact fC hD.D7));try walk_nrm)
  iterate 5 refine uy ?_
  (refine cK rfl rfl (kB λo5 w5 nA=>⟨?_,λe he=>?_⟩) ?_;(focus (have hF:=F2 o5 w5 nA;simp[go_sem,hF];done));(focus (have hF:=F2 o5 w5 nA;simp[go_sem,hF]at he;subst he;exact fC hD.D7));try walk_nrm)
  refine uy ?_;refine uy ?_
  (refine cK rfl rfl (kB λo5 w5 nA=>⟨?_,λe he=>?_⟩) ?_;(focus (have hF:=F3 o5 w5 nA;simp[go_sem,hF];done));(focus (have hF:=F3 o5 w5 nA;simp[go_sem,hF]at he;subst he;exact fC hD.qLb));try walk_nrm)
  iterate 3 refine uy ?_
  (refine cK rfl rfl (kB λo5 w5 nA=>⟨?_,λe he=>?_⟩) ?_;(focus (have hF:=F4 o5 w5 nA;simp[go_sem,hF];done));(focus (have hF:=F4 o5 w5 nA;simp[go_sem,hF]at he;subst he;exact fC hD.qSt));try walk_nrm)
  refine uy ?_;refine cK rfl rfl (.inr ⟨163,_,_,_,_,rfl,func163,ai,rfl,λo5 w5 l5=>?_⟩) ?_
  ·have h:=aaD (V:=V) (E:=E) (rc:=uC) hW Tu (D.jP (ord i)) TF A (dX D res (ord i)) aa qZ l5.ok (l5.more A vu) (YU.of_block (l5.rel.own A vu)) (hp3.later Tu l5);rw[hlen,<- tF]at h;simp only[List.map_toArray,aC,aP,Act.eval];refine h.mono ?_;rintro v o6 w6 ⟨rfl,l6⟩;exact⟨rfl,l5.trans l6⟩
  walk_nrm;refine uy ?_;refine uy ?_;refine oF λo5 w5 l5=>?_;have HP:cS T i rc o w o5 w5:=l3'.trans ⟨cY.pv yv l5.rel,l5.ok,l5.more⟩;have⟨x0,x1,x2,x3,HK,xy,hx2,hx3⟩:=hold.some;have uz:∀w6,cY T i o5 uC w5 w6->w6.cell? ⟨D.Rb,ord i*4,we⟩=so x0/\w6.cell? ⟨D.Rb,ord i*4+1,we⟩=so x1/\w6.cell? ⟨D.Rb,ord i*4+2,we⟩=so x2/\w6.cell? ⟨D.Rb,ord i*4+3,we⟩=so x3:=λw6 hr =>
   ⟨(hr.mine _ (.inl (fq 0 aa))).trans ((HP.rel.mine _ (.inl (fq 0 aa))).trans HK),(hr.mine _ (.inl (fq 1 aa))).trans ((HP.rel.mine _ (.inl (fq 1 aa))).trans xy),
    (hr.mine _ (.inl (fq 2 aa))).trans ((HP.rel.mine _ (.inl (fq 2 aa))).trans hx2),(hr.mine _ (.inl (fq 3 aa))).trans ((HP.rel.mine _ (.inl (fq 3 aa))).trans hx3)⟩
  have hRH:=(hW.ok.sh _ hD.RU).1;have hNH:=(hW.ok.sh _ hD.YT).1;have xj:o5 A:=l5.more A vu;have hAH:=(l5.ok.vo A xj).1;refine AN rfl ak D.Rb hD.RU (f:=λw6=>(((w6.setCell ⟨D.Rb,ord i*4,we⟩ (.bool true)).setCell ⟨D.Rb,ord i*4+1,we⟩ (.slice (so ⟨A,0,we⟩) (D.ins (ord i)).length (D.ins (ord i)).length)).setCell ⟨D.Rb,ord i*4+2,we⟩ (.bool (res (ord i)).1)).setCell ⟨D.Rb,ord i*4+3,we⟩ (.string (res (ord i)).2))
   (λw6 hr=>?_) (λw6=>(((mr.set _ _ (fq 0 aa)).trans (mr.set _ _ (fq 1 aa))).trans (mr.set _ _ (fq 2 aa))).trans (mr.set _ _ (fq 3 aa))) (λw6 hr e he=>?_) rfl λw6 hr eH=>?_
  ·have⟨c0,c1,c2,c3⟩:=uz w6 hr;have f:=((TG.later hD.RU HP.rel).later hD.RU hr).frozen;simp[go_sem,c0,c1,c2,c3,f]
  ·have⟨c0,c1,c2,c3⟩:=uz w6 hr;have f:=((TG.later hD.RU HP.rel).later hD.RU hr).frozen;simp[go_sem,c0,c1,c2,c3,f]at he;obtain⟨j,wt,sy,hj,rfl⟩:=(adT (.bool true) (.slice (so ⟨A,0,we⟩) (D.ins (ord i)).length (D.ins (ord i)).length) (.bool (res (ord i)).1) (.string (res (ord i)).2) c0 c1 c2 c3 f rfl rfl rfl rfl).2.2.2.2 _ e he;exact⟨_,_,_,rfl,fq j hj⟩
  have⟨c0,c1,c2,c3⟩:=uz w6 hr;have f:=((TG.later hD.RU HP.rel).later hD.RU hr).frozen;obtain⟨n0,n1,n2,n3,-⟩:=adT (P:=ax) (.bool true) (.slice (so ⟨A,0,we⟩) (D.ins (ord i)).length (D.ins (ord i)).length) (.bool (res (ord i)).1) (.string (res (ord i)).2) c0 c1 c2 c3 f rfl rfl rfl rfl;generalize (((w6.setCell ⟨D.Rb,ord i*4,we⟩ (.bool true)).setCell ⟨D.Rb,ord i*4+1,we⟩ (.slice (so ⟨A,0,we⟩) (D.ins (ord i)).length (D.ins (ord i)).length)).setCell ⟨D.Rb,ord i*4+2,we⟩ (.bool (res (ord i)).1)).setCell ⟨D.Rb,ord i*4+3,we⟩ (.string (res (ord i)).2)=w7 at *;have l6:cS T i rc o w o5 w6:=nO HP (cY.pv yv hr);have hRN:D.Rb≠D.Nb:=hD.apart;have ao8:gz T o5 w7:=⟨λb hb=>by have:=l6.ok.vo b hb;have:=eH.size;omega,by have:=l6.ok.size;have:=eH.size;omega⟩;have hd7:lh D w7:=(hd.later hD l6.rel).Jx hD λb hb=>eH.heap b λe=>hb.sh (e▸hD.RU);have hN7:w7.cell? ⟨D.Nb,ord i,we⟩=so (.bool false):=by rw[cell_of (eH.heap _ (bq hRN)),l6.rel.mine _ (.inl C3)];exact GR
  have Mp:w7.heap[A]?=w3.heap[A]?:=by rw[eH.heap A aa,hr.own A xj,l5.rel.own A vu]
  have YV:vT w7 D.Nb:=by
   have⟨c,t,hh⟩:=aaF.later hD.YT l6.rel;exact⟨c,t,by rw[eH.heap _ (bq hRN)];exact hh⟩
  have ho7:∀b,o b->w7.heap[b]?=w.heap[b]?:=λb hb=>by
   rw[eH.heap b (by have:=(gd.vo b hb).1;omega)];exact l6.rel.own b hb
  have TE:=YU.of_block Mp;have aio:Go.ConcN.WgLive T.ty T.Wg w->Go.ConcN.WgLive T.ty T.Wg w7:=λx=>gv (eH.heap _ (bq (hW.ok.sh _ hD.RU).2.1)) (l6.rel.wg x);clear F1 F2 F3 F4 uz eH hr f c0 c1 c2 c3;refine ay ?_;have K4:∀w3,cY T i o5 uC w7 w3->w3.cell? ⟨D.bn,3,we⟩=so (.slice (so ⟨D.Nb,0,we⟩) D.n D.n):=λw3 hr=>(hd7.later hD hr).b3
  (refine fV W2 K4 rfl ak (λw9 hc=>⟨.refl _ _,λe he=>?_⟩) λw9 hc K hK=>?_;(focus (rw[cm];have he:=mem_listed he;simp[go_sem, *]at he;subst he;exact fC hD.D7));go_simp;refine hK _ ?_;clear hK K;clear hc w9;try walk_nrm)
  refine ay ?_;refine AN rfl ak D.Nb hD.YT (f:=λw8=>w8.setCell ⟨D.Nb,ord i,we⟩ (.bool true)) (λw8 hr=>?_) (λw8=>mr.set _ _ C3) (λw8 hr e he=>?_) rfl λw8 hr eH=>?_
  ·have c0:=(hr.mine _ (.inl C3)).trans hN7;have f:=(YV.later hD.YT hr).frozen;simp[go_sem,c0,f]
  ·have c0:=(hr.mine _ (.inl C3)).trans hN7;have f:=(YV.later hD.YT hr).frozen;simp[go_sem,c0,f]at he;rw[cX _ _ c0 (f _) rfl]at he;simp at he;subst he;exact⟨_,_,_,rfl,C3⟩
  have hN8:(w8.setCell ⟨D.Nb,ord i,we⟩ (.bool true)).cell? ⟨D.Nb,ord i,we⟩=so (.bool true):=JE _ _ _ _ ((hr.mine _ (.inl C3)).trans hN7);generalize w8.setCell ⟨D.Nb,ord i,we⟩ (.bool true)=w9 at *;have hm9:∀j,j<4->w9.cell? ⟨D.Rb,ord i*4+j,we⟩=w7.cell? ⟨D.Rb,ord i*4+j,we⟩:=λj hj=>by rw[cell_of (eH.heap _ hRN)];exact hr.mine _ (.inl (fq j hj))
  refine ay ?_;refine⟨.inl trivial,trivial,HP.more,λb hb=>(HP.ok.vo b hb).1,λb hb=>?_,λx=>gv (eH.heap _ (bq (hW.ok.sh _ hD.YT).2.1)) (hr.wg (aio x)),.inr ⟨zu,A,⟨xj,TB⟩,TE.of_block ?_,⟨(hm9 0 aa).trans n0,?_,(hm9 2 aa).trans n2,(hm9 3 aa).trans n3⟩,hN8⟩⟩
  ·rw[eH.heap b (by have:=(gd.vo b hb).1;omega),hr.own b (HP.more b hb)];exact ho7 b hb
  ·rw[eH.heap A aa];exact hr.own A xj
  ·rw[hlen];exact(hm9 1 aa).trans n1
 have K4:∀w3,cY T i o2 uC w2 w3->w3.cell? ⟨D.bn,2,we⟩=so (.slice (so ⟨D.Rb,0,we⟩) D.n D.n):=λw3 hr=>(VU.later hD hr).b2;refine ay ?_
 (refine fV W2 K4 rfl ak (λw9 hc=>⟨.refl _ _,λe he=>?_⟩) λw9 hc K hK=>?_;(focus (rw[cm];have he:=mem_listed he;simp[go_sem, *]at he;subst he;exact fC hD.D7));go_simp;refine hK _ ?_;clear hK K;clear hc w9;try walk_nrm)
 clear K4;refine ay ?_;have hm:∀j,j<4->w2.cell? ⟨D.Rb,ord i*4+j,we⟩=w.cell? ⟨D.Rb,ord i*4+j,we⟩:=λj hj=>l2.rel.mine _ (.inl (fq j hj));obtain⟨dn,ob,ol,mb,mt,fw,ga⟩:∃dn ob ol mb mt,(w2.cell? ⟨D.Rb,ord i*4,we⟩=so (.bool dn)/\w2.cell? ⟨D.Rb,ord i*4+1,we⟩=so (.slice ob ol ol)/\w2.cell? ⟨D.Rb,ord i*4+2,we⟩=so (.bool mb)/\w2.cell? ⟨D.Rb,ord i*4+3,we⟩=so (.string mt)) /\
   ((dn=false/\old=we)\/(dn=true/\∃B vs,old=so (B,vs)/\ob=so ⟨B,0,we⟩/\ol=vs.length/\(mb,mt)=iV (D.jP (ord i)) vs/\xg w B 0 vs/\Quiet T B/\vs.length<=100000)):=by
  cases old with
  |none=>exact⟨_,_,_,_,_,⟨(hm 0 aa).trans hold.c0,(hm 1 aa).trans hold.c1,(hm 2 aa).trans hold.c2,(hm 3 aa).trans hold.c3⟩,.inl ⟨rfl,rfl⟩⟩
  |some x=>exact⟨_,_,_,_,_,⟨(hm 0 aa).trans hold.1.c0,(hm 1 aa).trans hold.1.c1,(hm 2 aa).trans hold.1.c2,(hm 3 aa).trans hold.1.c3⟩,.inr ⟨rfl,x.1,x.2,rfl,rfl,rfl,rfl,hold.2.1,hold.2.2.1,hold.2.2.2⟩⟩
 have K4:∀w3,cY T i o2 uC w2 w3->w3.cell? ⟨D.Rb,ord i*4,we⟩=so (.bool dn)/\w3.cell? ⟨D.Rb,ord i*4+1,we⟩=so (.slice ob ol ol)/\w3.cell? ⟨D.Rb,ord i*4+2,we⟩=so (.bool mb)/\w3.cell? ⟨D.Rb,ord i*4+3,we⟩=so (.string mt):=λw3 hr =>
  ⟨(hr.mine _ (.inl (fq 0 aa))).trans fw.1,(hr.mine _ (.inl (fq 1 aa))).trans fw.2.1,(hr.mine _ (.inl (fq 2 aa))).trans fw.2.2.1,(hr.mine _ (.inl (fq 3 aa))).trans fw.2.2.2⟩
 (refine fV W2 K4 rfl ak (λw9 hc=>⟨.refl _ _,λe he=>?_⟩) λw9 hc K hK=>?_;(focus (rw[cm];obtain⟨c0,c1,c2,c3⟩:=hc;have he:=mem_listed he;simp[go_sem, *]at he;rcases he with rfl|rfl|rfl|rfl<;>(first|exact uD (fq 0 aa)|exact uD (fq 1 aa)|exact uD (fq 2 aa)|exact uD (fq 3 aa))));obtain⟨c0,c1,c2,c3⟩:=hc;go_simp;refine hK _ ?_;clear hK K;clear c0 c1 c2 c3 w9;try walk_nrm)
 clear K4;refine nN hW.ok hW.i l2.ok rfl ak rfl (Obj.cells #[.bool false,.slice we 0 0,.bool false,.string aR] 222) (λw1=>by simp[go_sem];rfl) (λw1=>fS) λC o3 w3 l3 hC hCx hwC ho3=>?_;try walk_nrm
 have hCr:w3.rowIs C 222 4 (λk=>if k=0 then .bool false else if k=1 then .slice we 0 0 else if k=2 then .bool false else .string aR):=⟨_,hCx,rfl,λk hk=>by
  rcases(show k=0\/k=1\/k=2\/k=3 by omega)with rfl|rfl|rfl|rfl<;>rfl⟩
 have hnC:¬o2 C:=λh=>by have:=(l2.ok.vo C h).2;omega
 refine Jy hW.ok hW.i l3.ok rfl ak C hC hCr (.bool dn) (.slice ob ol ol) (.bool mb) (.string mt) rfl rfl rfl rfl (λw1 c f=>?_) (λw1 c f=>⟨.plain,?_⟩) λw4 l4 hC4=>?_
 ·have c0:=c 0 aa;have c1:=c 1 aa;have c2:=c 2 aa;have c3:=c 3 aa;simp at c0 c1 c2 c3;clear c;simp[go_sem,c0,c1,c2,c3,f]
 ·have c0:=c 0 aa;have c1:=c 1 aa;have c2:=c 2 aa;have c3:=c 3 aa;simp at c0 c1 c2 c3;clear c;simp[go_sem,c0,c1,c2,c3,f]
 have K3:cS T i uC o2 w2 o3 w4:=(l3.wX.trans l4).later hnC;clear l4 hCr hCx l3;try walk_nrm
 refine ay ?_;have RV:∀w5,cY T i o3 uC w4 w5->w5.cell? ⟨C,0,we⟩=so (.bool dn):=λw5 hr=>by rw[cell_of (hr.own C hC)];exact hC4.cell (i:=0) aa
 have nA:∀w5,cY T i o3 uC w4 w5->w5.cell? ⟨C,1,we⟩=so (.slice ob ol ol):=λw5 hr=>by rw[cell_of (hr.own C hC)];exact hC4.cell (i:=1) aa
 (refine fV W2 RV rfl ak (λw9 hc=>⟨.refl _ _,λe he=>?_⟩) λw9 hc K hK=>?_;(focus (rw[cm];have he:=mem_listed he;simp[go_sem, *]at he;subst he;exact oI hC));go_simp;refine hK _ ?_;clear hK K;clear hc w9;try walk_nrm)
 refine ay ?_;have l4:cS T i rc o w o3 w4:=l2.trans ⟨cY.pv yv K3.rel,K3.ok,K3.more⟩;rcases ga with⟨rfl,rfl⟩|⟨rfl,B,vs,rfl,rfl,rfl,HO,LQ,hqB,aiq⟩
 ·refine jv W2 rfl ak ?_;walk_nrm;refine jv W2 rfl ak ?_;walk_nrm;refine jv W2 rfl ak ?_;walk_nrm;refine jv W2 rfl ak ?_;refine ay ?_;exact⟨rfl,trivial,rfl,rfl,rfl,ar,K3⟩
 refine ay ?_
 (refine fV W2 nA rfl ak (λw9 hc=>⟨.refl _ _,λe he=>?_⟩) λw9 hc K hK=>?_;(focus (rw[cm];have he:=mem_listed he;simp[go_sem, *]at he;subst he;exact oI hC));go_simp;refine hK _ ?_;clear hK K;clear hc w9;try walk_nrm)
 refine ay ?_;have air:xg w4 B 0 vs:=λk hk=>by rw[hqB.cell l4.rel,hqB.cell l4.rel];exact LQ k hk
 have vu:o3 A:=K3.more A hA;have adX:xg w4 A 0 (dX D res (ord i)):=(cp.of_block (K3.rel.own A hA)).lW;refine du W2 rfl ak rfl func162 ai rfl (by simp[Act.eval,<- hlen]) rfl ((Xa hW B A vs (dX D res (ord i)) aiq aa K3.ok hqB air vu adX).mono ?_);rintro v o5 w5 ⟨rfl,l5⟩;walk_nrm;by_cases heq:vs=dX D res (ord i)
 ·simp only[heq,decide_true];refine ay ?_;have HP:cS T i rc o w o5 w5:=l4.trans ⟨cY.pv yv l5.rel,l5.ok,l5.more⟩;have hm5:∀j,j<4->w5.cell? ⟨D.Rb,ord i*4+j,we⟩=w.cell? ⟨D.Rb,ord i*4+j,we⟩:=λj hj=>HP.rel.mine _ (.inl (fq j hj));have cJ:=hold.1;rw[heq,<- tF]at cJ;exact⟨.inr trivial,trivial,HP.more,λb hb=>(HP.ok.vo b hb).1,HP.rel.own,HP.rel.wg,.inl ⟨B,rfl,⟨(hm5 0 aa).trans cJ.c0,(hm5 1 aa).trans cJ.c1,(hm5 2 aa).trans cJ.c2,(hm5 3 aa).trans cJ.c3⟩,(HP.rel.mine _ (.inl C3)).trans GR⟩⟩
 ·simp only[heq,decide_false];refine ay ?_;exact⟨rfl,trivial,rfl,rfl,rfl,λB' h=>heq (by cases h;rfl),K3.trans l5⟩
end
abbrev link:Go.Conc.Lib.WgLink:={add:=113,done:=115,wait:=117,relMerge:=125,disable:=120,enable:=122,inBubble:=151,associate:=152,fatal:=153,uOr:=154,uAdd:=155,raceRead:=156,uLoad:=157,uStore:=158,disassociate:=159,semrelease:=160,acquire:=123,isAssociated:=164,uCas:=165,raceWrite:=166,semacquire:=167,orU64:=192,addU64:=193,loadU64:=194,storeU64:=195,casU64:=200,tWgP:=251,tUP:=116,tAssoc:=252,tWg:=216,tAU:=214,tU64:=212,tUint:=223,tU32:=102,tPU32:=255,tPAU:=283,tPU64:=285,tNoCopy:=101,tANoCopy:=115,tAlign64:=211}
def AO:Go.Conc.Lib.WgLib ax link :=
 ⟨func113,func115,func117,func125,func120,func122,func151,func152,func153,func154,func155,func156,func157,func158,func159,func160,func123,func164,func165,func166,func167,func192,func193,func194,func195,func200,underlying251,runUnderlying251,sizeOf251,isAgg251,zeroValue251,underlying116,runUnderlying116,sizeOf116,isAgg116,zeroValue116,underlying252,runUnderlying252,sizeOf252,isAgg252,zeroValue252,underlying216,runUnderlying216,sizeOf216,isAgg216,zeroValue216,underlying214,runUnderlying214,sizeOf214,isAgg214,zeroValue214,underlying212,runUnderlying212,sizeOf212,isAgg212,zeroValue212,underlying223,runUnderlying223,sizeOf223,isAgg223,zeroValue223,underlying102,runUnderlying102,sizeOf102,isAgg102,zeroValue102,underlying255,runUnderlying255,sizeOf255,isAgg255,zeroValue255,underlying283,runUnderlying283,sizeOf283,isAgg283,zeroValue283,underlying285,runUnderlying285,sizeOf285,isAgg285,zeroValue285,underlying0,runUnderlying0,sizeOf0,isAgg0,zeroValue0,underlying3,runUnderlying3,sizeOf3,isAgg3,zeroValue3,underlying4,runUnderlying4,sizeOf4,isAgg4,zeroValue4,underlying9,runUnderlying9,sizeOf9,isAgg9,zeroValue9,underlying20,runUnderlying20,sizeOf20,isAgg20,zeroValue20,underlying21,runUnderlying21,sizeOf21,isAgg21,zeroValue21,ai,ai⟩
open Go.ConcN
section
open Go.Conc.Lib Go.ConcR.Gen Go.ConcN.Gen
open Go.ConcR (KK wgBlock WgAt stA smA rd wr mk Payload DC0)
def JF(n:Nat):Frame:={(default:Frame)with fn:=n,defers:=[],mode:=.panicking [goexitEntry]}
def FH(Wg Bb C:Nat):Deferred:={target:=.fn (.func 114) #[.pointer (so ⟨Wg,0,we⟩),.pointer (so ⟨Bb,0,we⟩),.pointer (so ⟨C,0,we⟩)],args:=#[]}
def bW:Frame:=baseD 114
theorem Mq(Wg Bb C:Nat)(w:ae):stepG ax false (born ax (FH Wg Bb C)) w =
  .go (G (bW.at ⟨#[.pointer (so ⟨Wg,0,we⟩),.pointer (so ⟨Bb,0,we⟩),.pointer (so ⟨C,0,we⟩),undef,undef,undef],[]⟩ [.code (Tryz.f114.body.getD .skip)]) [JF ax.funcs.size]) w #[]:=by
 simp[born,FH,stepG,unwind,callDeferred,invoke,callFunc,func114,Tryz.f114,seen,GStep.after,G,Frame.enter,Frame.at,bW,baseD,JF]
theorem Mr(T:Array Value):QuitsD ax 2 0 (G {bW.at ⟨T,[]⟩ []with mode:=.returning} [JF ax.funcs.size]):=by
 refine QuitsD.ctl (g':=G (JF ax.funcs.size) []) rfl (λw=>?_) ?_
 ·simp[G,stepG,unwind,doReturn,results,Frame.at,bW,baseD,JF,func114,Tryz.f114,seen,GStep.after,goexitEntry]
 refine QuitsD.ctl (g':={G (JF ax.funcs.size) []with status:=.finished}) rfl (λw=>?_) ⟨rfl,rfl⟩;simp[G,stepG,unwind,JF,goexitEntry,Frame.catches];rfl
theorem JG:Tryz.f116.results=#[]:=ai
theorem results_none{P:Program}{fn:Func}(h:fn.results=#[])(tm:Array Value)(w:ae):(results fn tm).run P w=.ok (.tuple #[]) w/\(results fn tm).events P w #[]=#[]:=by
 unfold results;rw[h];exact⟨fS,fS⟩
section
variable [Payload]{T:dj}{i:Nat}{V:Nat->ae->Prop}{rc:Nat->Prop}{o:aM}{w:ae}{D:mZ}{ord:Nat->Nat}
theorem tailW(Wg Bb C s:Nat)(tm tm2:Array Value)(todo:List Item)(df:Deferred)(kN:df={target:=.fn (.func 115) #[],args:=#[.pointer (so ⟨Wg,0,we⟩)]})(hK:WgLive 216 Wg w/\Has C (1-1) (.int .i64 (s:Int)) w)(ops:Array Oper)(ais:ops[2]?=so {dst:=so 5,op:=.call {callee:=.value (.func 116),args:=#[.tmp 3,.tmp 4],argTypes:=#[151,3]},type:=0,pos:= "build.go:79",after:=#[{on:=0,ground:=.data},{on:=1,ground:=.data}],guard:=we}):
  ∃m,Goes ax false (RW 216 Wg C 0 0 (1-1)) (DWs Wg qX qX C 0 1) (AtR0 ax 216 Wg C 0 0 1 (.int .i64 (s:Int))) m (G {(base 116).at ⟨tm,[]⟩ todo with mode:=.returning} (bW.at ⟨tm2,[df]⟩ (.inRegion ops [2]::[])::[JF ax.funcs.size])) w:=by
 subst kN;refine⟨27,?_⟩
 u_in kn_rely hK
 rw[stepG_leave (b:=base 116) (v:=.tuple #[]) rfl rfl func116 (results_none JG _ _).1 (results_none JG _ _).2];simp only[goes_go];refine⟨by u_nil,?_⟩;rw[eu,ais];simp only[Option.bind_some,Act.put]
 u_c au kn_rely hK
 u_c ew kn_rely hK
 u_in kn_rely hK
 rw[stepG_unwind_enter rfl func115 (nm_done link) rfl];simp only[goes_go];refine⟨by u_nil,?_⟩;walk_nrmf Tryz.f115;have hA:=@doneN _ link ax AO qX qX Wg C 0 0 1 (.int .i64 (s:Int));simp only[body_done,doneFn,bu]at hA;exact hA rfl (Mr _) _ hK
theorem aaH{α:Type}{a c:Prop}{G:α->Prop}(ha:a)(h:∃m,G m)(hc:c):∃m,a/\G m/\c:=let ⟨m,h⟩:=h;⟨m,ha,h,hc⟩
def Vd(D:mZ)(ord:Nat->Nat)(res:Nat->Kz.V)(k:Nat)(w:ae):Prop:=k<D.n/\w.cell? ⟨D.Rb,ord k*4+2,we⟩=so (.bool (res (ord k)).1)/\w.cell? ⟨D.Rb,ord k*4+3,we⟩=so (.string (res (ord k)).2)
def yz(D:mZ)(ord:Nat->Nat)(old:Nat->Option (Nat×List Kz.V))(res:Nat->Kz.V)(k:Nat)(o:Nat->Prop)(w:ae):Prop:=k<D.n/\nP D (ord k) (old (ord k)) (dX D res (ord k)) (res (ord k)) o w
theorem Oh{P:Program}{m:Bool}{R:aM->ae->ae->Prop}{Gu:aM->ae->ae->Array Event->Prop}{X:aM->aZ->ae->Prop}(W:fH P m R Gu X){b:Frame}{a:Act}{k:List Item}{cs:List Frame}{o:aM}{w:ae}{ops:Array Oper}{i:Nat}{rest:List Nat}{op:Oper}{v:Value}(ho:ops[i]?=so op)(hw:Region.wanted op (yielded ops a.tmps)=true)(hk:b.kind≠.early){d:Option Tmp}(hd:op.dst=d)(hr:∀w1,R o w w1->(execOp a.eval op).run P w1=.ok (.value v) w1)(hg:∀w1,R o w w1->Gu o w1 w1 (listed P b.fn a op w1))(h:X o (G (b.at (a.put d v) (.inRegion ops rest::k)) cs) w):X o (G (b.at a (.inRegion ops (i::rest)::k)) cs) w:=by
 subst hd;exact W.step _ _ _ rfl λw1 h1=>⟨_,_,_,eG ho hw hk (hr w1 h1),hg w1 h1,by rw[cm];exact W.rely _ _ _ _ h h1⟩
theorem TJ(hW:sf T i)(hTn:T.n=D.n)(hty:T.ty=216)(Tu:Quiet T 1)(hD:zM D T ord)(res:Nat->Kz.V)(old:Nat->Option (Nat×List Kz.V))(hd:lh D w)(hp:jh w)(tF:res (ord i)=iV (D.jP (ord i)) (dX D res (ord i)))(TF:1<=D.jP (ord i)/\D.jP (ord i)<=5)(qZ:jg ((dX D res (ord i)).map (·.2))<=1000000)(hold:GQ D T (ord i) (old (ord i)) w)(GR:w.cell? ⟨D.Nb,ord i,we⟩=so (.bool false))(TG:vT w D.Rb)(aaF:vT w D.Nb)(gd:gz T o w)(Bb C:Nat)(hBb:Quiet T Bb)(JH:w.cell? ⟨Bb,0,we⟩=so (.pointer (so ⟨D.bn,0,we⟩)))(ho:∀b,o b↔b=C)(hC:w.cell? ⟨C,0,we⟩=so (.int .i64 (ord i)))(yA:WgLive T.ty T.Wg w):
  XW ax T i (Vd D ord res) (Et ax T (yz D ord old res) i) rc o (born ax (FH T.Wg Bb C)) w:=by
 have W:=cM (P:=ax) (T:=T) (i:=i) (V:=Vd D ord res) (E:=Et ax T (yz D ord old res) i) rc;have hoC:o C:=(ho C).2 rfl;refine W.go rfl (λw1=>Mq _ _ _ w1) ?_;simp only[Tryz.f114,bu];refine W.go rfl (λ_=>aE) ?_;refine W.go rfl (λ_=>bh) ?_;refine dN ?_;refine W.go rfl (λw1=>yy (d:={target:=.fn (.func 115) #[],args:=#[.pointer (so ⟨T.Wg,0,we⟩)]}) rfl ak eB fS fS) ?_;refine W.go rfl (λ_=>au) ?_;refine W.go rfl (λ_=>bh) ?_;refine dN ?_;walk_nrm;have c1:∀w1,cY T i o rc w w1->w1.cell? ⟨Bb,0,we⟩=so (.pointer (so ⟨D.bn,0,we⟩)):=λw1 h1=>by rw[hBb.cell h1];exact JH
 have c2:∀w1,cY T i o rc w w1->w1.cell? ⟨C,0,we⟩=so (.int .i64 (ord i)):=λw1 h1=>by rw[cell_of (h1.own C hoC)];exact hC
 refine Oh W (v:=.pointer (so ⟨D.bn,0,we⟩)) rfl ak eB rfl (λw1 h1=>by simp[go_sem,c1 w1 h1]) (λw1 h1=>⟨.refl _ _,λe he=>?_⟩) ?_
 ·rw[cm];have he:=mem_listed he;simp[go_sem,c1 w1 h1]at he;subst he;exact fC hBb
 walk_nrm;refine Oh W (v:=.int .i64 (ord i)) rfl ak eB rfl (λw1 h1=>by simp[go_sem,c2 w1 h1]) (λw1 h1=>⟨.refl _ _,λe he=>?_⟩) ?_
 ·rw[cm];have he:=mem_listed he;simp[go_sem,c2 w1 h1]at he;subst he;exact oI hoC
 walk_nrm;refine W.go rfl (λw1=>ql rfl ak eB rfl func116 ai rfl w1) ?_;simp only[List.map_toArray,aC,aP,Act.eval];walk_nrm;refine aaE hW Tu hD res (λk w _ h=>h.2) gd hd hp tF TF qZ (old (ord i)) hold GR TG aaF _ _ λn9 o' w' tm todo h1 h5 h2 h4 h3 w1 hr s r t hc=>?_;have hmR:∀j,j<4->w1.cell? ⟨D.Rb,ord i*4+j,we⟩=w'.cell? ⟨D.Rb,ord i*4+j,we⟩:=λj hj=>hr.mine _ (.inl ((hD.own i _).2 ⟨hW.i,.inl ⟨j,hj,rfl⟩⟩));have hmN:w1.cell? ⟨D.Nb,ord i,we⟩=w'.cell? ⟨D.Nb,ord i,we⟩:=hr.mine _ (.inl ((hD.own i _).2 ⟨hW.i,.inr rfl⟩));have hh:=pF w1 (T.ch i) s r t;have dE:∀b,T.Sh b->b≠T.ch i:=λb hb=>bq ((hW.ok.sh b hb).2.2 i hW.i);have hCc:C≠T.ch i:=by have:=(gd.vo C hoC).1;have:=(hW.ok.ch i hW.i).1;omega
 have TK:WgLive T.ty T.Wg (w1.setChan (T.ch i) 0 #[] true s r t):=gv (hh _ (bq (hW.ok.ch i hW.i).2)) (hr.wg (h4 yA));have hC':(w1.setChan (T.ch i) 0 #[] true s r t).cell? ⟨C,0,we⟩=so (.int .i64 (ord i)):=by rw[cell_of (hh C hCc),cell_of (hr.own C (h1 C hoC)),cell_of (h2 C hoC)];exact hC
 rw[hty]at TK;have hiD:i<D.n:=hTn▸hW.i;refine⟨⟨hiD,(hmR 2 aa).trans h3.made.1,(hmR 3 aa).trans h3.made.2⟩,C,.int .i64 (ord i),?_⟩;rw[hty];refine aaH (h1 C hoC) (tailW (w:=w1.setChan (T.ch i) 0 #[] true s r t) T.Wg Bb C (ord i) tm _ todo _ rfl ⟨TK,hC'⟩ _ ak) ?_;refine⟨hiD,nP.of h3 (λj hj=>?_) ?_ λb hb=>⟨⟨hb.1,λe=>hb.2 ((ho b).2 e)⟩,?_⟩⟩
 ·rw[cell_of (hh _ (dE _ hD.RU))];exact hmR j hj
 ·rw[cell_of (hh _ (dE _ hD.YT))];exact hmN
 ·rw[hh b (by have:=h5 b hb.1;have:=(hW.ok.ch i hW.i).1;omega)];exact hr.own b hb.1
end
end
section
open Go.Conc.Lib Go.ConcR.Gen Go.ConcN.Gen
open Go.ConcR (KK wgBlock WgAt stA smA rd wr mk Payload DC0)
def zO(D:mZ)(s:Nat)(old:Option (Nat×List Kz.V))(w:ae):Prop :=
 (match old with|none=>Og D s w|some (B,vs)=>wB D s w B vs (iV (D.jP s) vs))/\w.cell? ⟨D.Nb,s,we⟩=so (.bool false)/\vT w D.Rb/\vT w D.Nb
structure Setup(D:mZ)(T:dj)(ord:Nat->Nat)(res:Nat->Kz.V)(old:Nat->Option (Nat×List Kz.V))(Bb Ob:Nat)(w0:ae):Prop where
 ok:T.OK
 n:T.n=D.n
 kp:ax.globals.size<=T.H0
 ty:T.ty=216
 q1:Quiet T 1
 dk:zM D T ord
 Fj:lh D w0
 pow:jh w0
 made:∀i,i<T.n->res (ord i)=iV (D.jP (ord i)) (dX D res (ord i))
 eO:∀i,i<T.n->1<=D.jP (ord i)/\D.jP (ord i)<=5
 size:∀i,i<T.n->jg ((dX D res (ord i)).map (·.2))<=1000000
 qB:Quiet T Bb
 box:w0.cell? ⟨Bb,0,we⟩=so (.pointer (so ⟨D.bn,0,we⟩))
 qO:Quiet T Ob
 order:w0.cell? ⟨D.Lb,D.Lo+1,we⟩=so (.slice (so ⟨Ob,0,we⟩) D.n D.n)
 Ms:∀k,k<D.n->w0.cell? ⟨Ob,k,we⟩=so (.int .i64 (ord k))
 xk:∀s B vs,s<D.n->old s=so (B,vs)->xg w0 B 0 vs/\Quiet T B/\vs.length<=100000
 idle:∀k w,k<T.n->T.Idle k w->zO D (ord k) (old (ord k)) w
section
variable {T:dj}{o:aM}{w w0 w1:ae}{D:mZ}{ord:Nat->Nat}{res:Nat->Kz.V}{old:Nat->Option (Nat×List Kz.V)}{Bb Ob:Nat}
theorem dQ.less{o':aM}(h:dQ T o w w1)(ho:∀b,o' b->o b):dQ T o' w w1:=⟨h.size,λb hb=>h.own b (ho b hb),h.ro,h.wg,h.os,h.output⟩
theorem Quiet.LI{b:Nat}(q:Quiet T b)(r:dQ T o w w1):w1.heap[b]?=w.heap[b]?:=r.ro b q.old q.wg q.sh q.ch
theorem Quiet.cellS{b off:Nat}(q:Quiet T b)(r:dQ T o w w1):w1.cell? ⟨b,off,we⟩=w.cell? ⟨b,off,we⟩:=cell_of (q.LI r)
theorem vv{b off:Nat}{sy:Bool}(q:Quiet T b):EvS T o ⟨.cell ⟨b,off,we⟩,false,sy⟩:=by
 refine⟨λx hx _=>.inr (.inr ⟨?_,?_⟩),ar,ar,ar⟩;all_goals
  simp only[MemAct.ofEvent,MemAct.touch?,aA]at hx;subst hx
 ·exact q.ro off
 ·rfl
variable [Payload]
theorem Setup.child(h:Setup D T ord res old Bb Ob w0){j C:Nat}(hj:j<T.n)(hr:dQ T (λ_=>False) w0 w1)(yA:WgLive T.ty T.Wg w1)(hC:w1.cell? ⟨C,0,we⟩=so (.int .i64 (ord j)))(hCH:T.H0<=C/\C<w1.heap.size)(hid:T.Idle j w1)(hH:T.H0<=w1.heap.size):
  gM ax T j (Vd D ord res) (Et ax T (yz D ord old res) j) ⟨born ax (FH T.Wg Bb C),λb=>b=C,λ_=>False,w1⟩:=by
 have⟨h1,h2,h3,h4⟩:=h.idle j w1 hj hid;have hq:∀b,Quiet T b->w1.heap[b]?=w0.heap[b]?:=λb q=>q.LI hr;refine TJ (o:=λb=>b=C) (rc:=λ_=>False) ⟨h.ok,hj,h.kp⟩ h.n h.ty h.q1 h.dk res old (h.Fj.Jx h.dk hq) (λq Bs=>by rw[h.q1.cellS hr];exact h.pow q Bs) (h.made j hj) (h.eO j hj) (h.size j hj) ?_ h2 h3 h4 ⟨λb hb=>by rw[hb];exact hCH,hH⟩ Bb C h.qB (by rw[h.qB.cellS hr];exact h.box) (λ_=>da) hC yA;cases ho:old (ord j) with
 |none=>rw[ho]at h1;exact h1
 |some x =>
  obtain⟨B,vs⟩:=x;rw[ho]at h1;have⟨k1,k2,k3⟩:=h.xk _ B vs (h.dk.qK j hj) ho;exact⟨h1,λq Bs=>by rw[k2.cellS hr,k2.cellS hr];exact k1 q Bs,k2,k3⟩
theorem JI(h:Setup D T ord res old Bb Ob w0){cP:eQ}{r0 r1 r2 lp tl:Code}(fF:Tryz.f74.body=so (.seq r0 (.seq r1 (.seq (.seq r2 (.block 0 (.loop lp))) tl))))(b:Frame)(k:List Item)(cs:List Frame)(rG:b.fn=74)(rV:b.kind≠.early)(TH:∀o w (tm:Array Value),dQ T (λ_=>False) w0 w->WgLive T.ty T.Wg w->(∀b,o b->T.H0<=b/\b<w.heap.size)->tm.size=21->tm[2]?=so (.pointer (so ⟨T.Wg,0,we⟩))->di ax T (RN ax T cP) o (G (b.at ⟨tm,[]⟩ (.code tl::k)) cs) w):
  ∀r j,r+j=T.n->∀o w (tm:Array Value),dQ T (λ_=>False) w0 w->WgLive T.ty T.Wg w->(∀b,o b->T.H0<=b/\b<w.heap.size)->T.H0<=w.heap.size->tm.size=21 ->
   tm[1]?=so (.pointer (so ⟨Bb,0,we⟩))->tm[2]?=so (.pointer (so ⟨T.Wg,0,we⟩))->tm[11]?=so (.slice (so ⟨Ob,0,we⟩) D.n D.n)->tm[12]?=so (.int .i64 D.n)->tm[13]?=so (.int .i64 j) ->
   iY ax T (Vd D ord res) (yz D ord old res) cP r o (G (b.at ⟨tm,[]⟩ (.code lp :: .inLoop lp :: .inBlock 0 :: .code tl::k)) cs) w:=by
 have Xb:=fF;simp only[Tryz.f74,aA,Code.seq.injEq,Code.block.injEq,Code.loop.injEq,true_and]at Xb;obtain⟨-,-,⟨-,Xb⟩,-⟩:=Xb;have vU:=h.dk.gF;intro r
 induction r with
 |zero =>
  intro j hj o w tm hr yA ho hH fy t1 t2 t11 t12 t13;have tK:¬((j:Int)<(D.n:Int)):=by have:=h.n;omega
  simp only[iY];have W:=nL (P:=ax) (T:=T) (Stop:=RN ax T cP);rw[<- Xb];obtain⟨gs,rfl⟩:=lg fy;simp only[List.range,List.range.loop,aC,aP]at *;simp only[List.getElem?_toArray,List.getElem?_cons_succ,List.getElem?_cons_zero,aA]at t1 t2 t11 t12 t13;simp only[t1,t2,t11,t12,t13];refine W.go rfl (λ_=>aE) ?_;refine W.go rfl (λ_=>bh) ?_;refine dN ?_;refine gW ?_;refine W.go rfl (λ_=>au) ?_;refine W.go rfl (λ_=>aE) ?_;refine W.go rfl (λ_=>eC (t:=false) (by simp[Act.eval,tK])) ?_;simp only[aQ,if_false];refine W.go rfl (λ_=>stepG_exit rfl) ?_;exact TH o w _ hr yA ho rfl rfl
 |succ r ih =>
  intro j hj o w tm hr yA ho hH fy t1 t2 t11 t12 t13;have hjT:j<T.n:=aa;have hjD:j<D.n:=by have:=h.n;omega
  have hjI:(j:Int)<(D.n:Int):=aa;have hj0:T.n-(r+1)=j:=aa;have qY:IntKind.wrap .i64 ((j:Int)+1)=(j:Int)+1:=by rw[IntKind.wrap_i64];omega
  simp only[iY,hj0];have W:=nL (P:=ax) (T:=T) (Stop:=LK ax T (Vd D ord res) (yz D ord old res) j (iY ax T (Vd D ord res) (yz D ord old res) cP r));have apg:=Xb;obtain⟨gs,rfl⟩:=lg fy;simp only[List.range,List.range.loop,aC,aP]at *;simp only[List.getElem?_toArray,List.getElem?_cons_succ,List.getElem?_cons_zero,aA]at t1 t2 t11 t12 t13;simp only[t1,t2,t11,t12,t13];rw[show(Item.code lp)=Item.code _ from congrArg Item.code Xb.symm];refine W.go rfl (λ_=>aE) ?_;refine W.go rfl (λ_=>bh) ?_;refine dN ?_;refine gW ?_;refine W.go rfl (λ_=>au) ?_;refine W.go rfl (λ_=>aE) ?_;refine W.go rfl (λ_=>eC (t:=true) (by simp[Act.eval,hjI])) ?_;simp only[if_true];refine W.go rfl (λ_=>cB) ?_;refine W.go rfl (λ_=>aE) ?_;refine W.go rfl (λ_=>fh) ?_;refine W.go rfl (λ_=>aE) ?_;refine W.go rfl (λ_=>bh) ?_;refine dN ?_;refine gW ?_;have K4:∀w3,dQ T o w w3->w3.cell? ⟨Ob,j,we⟩=so (.int .i64 (ord j)):=λw3 EE=>by rw[h.qO.cellS EE,h.qO.cellS hr];exact h.Ms j hjD
  (refine still_at W K4 rfl ak rV (λw9 hc=>⟨.refl _ _,λe he=>?_⟩) λw9 hc K hK=>?_;(focus (rw[cm];have he:=mem_listed he;simp[go_sem, *]at he;subst he;exact vv h.qO));go_simp;refine hK _ ?_;clear hK K;clear hc w9;try walk_nrm)
  clear K4;refine L8 rfl ak rV rfl (Obj.cells #[.int .i64 0] 3) (λw1=>fS) (λw1=>fS) λw1 lA=>?_;walk_nrm;have aix:=hr.trans (dQ.less lA (o':=λ_=>False) (λ_ x=>x.elim));have VO:T.H0<=w1.heap.size:=aY hH lA.size;have lT:∀w2:ae,w2.heap[w1.heap.size]?=(w1.alloc (Obj.cells #[.int .i64 0] 3)).heap[w1.heap.size]?->w2.cell? ⟨w1.heap.size,0,we⟩=so (.int .i64 0)/\w2.frozen? ⟨w1.heap.size,0,we⟩=false:=λw2 e=>by
   have:(w1.alloc (Obj.cells #[.int .i64 0] 3)).heap[w1.heap.size]?=so (Obj.cells #[.int .i64 0] 3):=by show(w1.heap.push _)[w1.heap.size]?=_;simp
   rw[this]at e;simp[World.cell?,World.frozen?,e]
  refine L9 w1.heap.size (.inr rfl) rfl ak rV rfl (f:=λw2=>w2.setCell ⟨w1.heap.size,0,we⟩ (.int .i64 (ord j))) (λw2=>gU.set _ _ _ _) (λw2 e=>?_) (λw2 e ev he=>?_) λw2 GP=>?_
  ·have⟨c0,f0⟩:=lT w2 e;simp[go_sem,c0,f0]
  ·have⟨c0,f0⟩:=lT w2 e;simp[go_sem,c0,f0]at he;subst he;exact⟨_,_,_,rfl,rfl⟩
  walk_nrm;generalize hC:w1.heap.size=C at *;have hCH:T.H0<=C:=VO;have hC2:(w2.setCell ⟨C,0,we⟩ (.int .i64 (ord j))).cell? ⟨C,0,we⟩=so (.int .i64 (ord j)):=World.cell?_setCell_same _ _ _ (lT w2 (GP.own C (.inr rfl))).1;have EE:dQ T (λb=>b≠C/\o b) w (w2.setCell ⟨C,0,we⟩ (.int .i64 (ord j))):=by
   have hO:=gU.set w2 C 0 (.int .i64 (ord j));have hA:dQ T (λb=>b≠C/\o b) w1 (w1.alloc (Obj.cells #[.int .i64 0] 3)):=⟨ar,λb hb=>RowKit.Below.heap_alloc w1 _ b (by have:=(ho b hb.2).2;have:=lA.size;omega),λb h1 _ _ _=>RowKit.Below.heap_alloc w1 _ b aa,gv (RowKit.Below.heap_alloc w1 _ _ (by have:=h.ok.wg;omega)),rfl,rfl⟩;refine((dQ.less lA λb hb=>hb.2).trans hA).trans ((dQ.less GP λb hb=>.inl hb.2).trans ⟨bI hO.size.symm,λb hb=>hO.heap b hb.1,λb h1 _ _ _=>hO.heap b aa,gv (hO.heap _ (by have:=h.ok.wg;omega)),rfl,rfl⟩)
  have aaI:C<(w2.setCell ⟨C,0,we⟩ (.int .i64 (ord j))).heap.size:=by
   have:=GP.size;simp[World.setCell]at this |-;omega
  generalize w2.setCell ⟨C,0,we⟩ (.int .i64 (ord j))=w3 at *;clear lT GP w2 aix lA VO hC w1;have adY:=hr.trans (dQ.less EE (o':=λ_=>False) (λ_ x=>x.elim));have Mt:=EE.wg yA;have hH3:=aY hH EE.size;have ho3:∀b,(o b\/b=C)->T.H0<=b/\b<w3.heap.size:=by
   rintro b (hb|rfl)
   ·have:=ho b hb;have:=EE.size;omega
   ·exact⟨hCH,aaI⟩
  refine W.go rfl (λ_=>au) ?_;refine W.go rfl (λ_=>aE) ?_;refine W.go rfl (λ_=>bh) ?_;refine dN ?_;refine W.go rfl (λw1=>ql rfl ak rV rfl AO.f_add (nm_add link) rfl w1) ?_;rw[iN AO.f_add rfl];simp only[List.map_toArray,aC,aP,Act.eval];walk_nrmf addFn;have hA:=@ah7 _ link ax T (Vd D ord res) (yz D ord old res) (iY ax T (Vd D ord res) (yz D ord old res) cP r) (λb=>o b\/b=C) j w3;simp only[body_add,addFn,bu]at hA;refine hA AO h.ok (λb hb=>(ho3 b hb).1) (λw4 hr4=>?_) w3 ⟨dQ.refl w3,Mt⟩;clear hA;have W2:=nL (P:=ax) (T:=T) (Stop:=SGo ax T (Vd D ord res) (yz D ord old res) j (iY ax T (Vd D ord res) (yz D ord old res) cP r));simp only[List.getElem?_toArray,List.getElem?_cons_succ,List.getElem?_cons_zero,Option.bind_some];walk_nrm;refine W2.go rfl (λ_=>au) ?_;refine W2.go rfl (λ_=>bh) ?_;refine dN ?_;refine gW ?_;refine di.stop λw5 Jv=>⟨rfl,_,born ax (FH T.Wg Bb C),λb=>b=C,Tk rfl ak rV (by simp[go_sem,FH]) fS rfl rfl,λb hb=>.inr hb,λw6 Qm hid=>?_,?_⟩
  ·have e6:w6.heap[C]?=w3.heap[C]?:=by rw[Qm.own C (.inr rfl),Jv.own C (.inr rfl),hr4.own C (.inr rfl)]
   have aaJ:=(hr4.trans Jv).trans Qm;have aph:=aaJ.size;exact h.child hjT (adY.trans (dQ.less aaJ (o':=λ_=>False) (λ_ x=>x.elim))) (aaJ.wg Mt) (by rw[cell_of e6];exact hC2) ⟨hCH,aa⟩ hid aa
  have aaK:=hr4.trans Jv;have api:=aaK.size;obtain⟨Stop,JJ⟩:∃Stop:eQ,∀o g w,di ax T Stop o g w↔iY ax T (Vd D ord res) (yz D ord old res) cP r o g w:=by
   cases r
   ·exact⟨_,λ_ _ _=>da⟩
   ·exact⟨_,λ_ _ _=>da⟩
  rw[<- JJ];have W3:=nL (P:=ax) (T:=T) (Stop:=Stop);walk_nrm;refine W3.go rfl (λ_=>au) ?_;refine W3.go rfl (λ_=>gw) ?_;refine W3.go rfl (λ_=>bh) ?_;refine dN ?_;refine gW ?_;refine W3.go rfl (λ_=>au) ?_;refine W3.go rfl (λ_=>iM) ?_;rw[JJ];exact ih (j+1) aa _ w5 _ (adY.trans (dQ.less aaK (o':=λ_=>False) (λ_ x=>x.elim))) (aaK.wg Mt) (λb hb=>by have:=ho3 b hb.1;omega) aa rfl rfl rfl rfl rfl (by simp[qY])
end
end
section
open Go.Conc.Lib Go.ConcR.Gen Go.ConcN.Gen
open Go.ConcR (KK wgBlock WgAt stA smA rd wr mk Payload DC0)
def Still(D:mZ)(Ob:Nat)(old:Nat->Option (Nat×List Kz.V))(b:Nat):Prop :=
 b=D.bn\/b=D.Lb\/b=D.St\/b=D.Vb\/b=D.Mb\/b=Ob\/b=1\/(∃s,s<D.n/\b=D.cO s)\/(∃s vs,s<D.n/\old s=so (b,vs))
structure oe(D:mZ)(ord:Nat->Nat)(res:Nat->Kz.V)(old:Nat->Option (Nat×List Kz.V))(Ob:Nat)(o:aM)(w:ae):Prop where
 Fj:lh D w
 pow:jh w
 order:w.cell? ⟨D.Lb,D.Lo+1,we⟩=so (.slice (so ⟨Ob,0,we⟩) D.n D.n)
 Ms:∀k,k<D.n->w.cell? ⟨Ob,k,we⟩=so (.int .i64 (ord k))
 still:∀b,Still D Ob old b->o b/\b≠D.Rb/\b≠D.Nb/\∀s,s<D.n->b≠D.ch s
 pz:∀s,s<D.n->o (D.ch s)/\D.ch s≠D.Rb/\D.ch s≠D.Nb/\∃s' r tm,w.heap[D.ch s]?=so (.chan 0 #[] false s' r tm)
 x6:∀s t,s<D.n->t<D.n->D.ch s=D.ch t->s=t
 C4:o D.Rb
 C5:o D.Nb
 apart:D.Rb≠D.Nb
 R0:∃cs,w.heap[D.Rb]?=so (.cells cs 222 (0,0))/\cs.size=D.n*4
 N0:∃cs,w.heap[D.Nb]?=so (.cells cs 4 (0,0))/\cs.size=D.n
 idle:∀s,s<D.n->zO D s (old s) w
 xk:∀s B vs,s<D.n->old s=so (B,vs)->xg w B 0 vs/\vs.length<=100000
 qK:∀i,i<D.n->ord i<D.n
 aaL:∀i j,i<D.n->j<D.n->ord i=ord j->i=j
 aaM:∀s,s<D.n->∃i,i<D.n/\ord i=s
 dep:∀i,i<D.n->∀m,(true,m)∈D.ins (ord i)->∃k,k<i/\ord k=m
 src:∀s,s<D.n->∀m,(false,m)∈D.ins s->m<D.lW.length
 short:∀s,s<D.n->(D.ins s).length<=4
 gF:D.n<=100000
 W8:D.lW.length<=100000
 made:∀s,s<D.n->res s=iV (D.jP s) (dX D res s)
 eO:∀s,s<D.n->1<=D.jP s/\D.jP s<=5
 size:∀s,s<D.n->jg ((dX D res s).map (·.2))<=1000000
def qs(D:mZ)(ord:Nat->Nat)(old:Nat->Option (Nat×List Kz.V))(S:Nat->Prop)(Wg H0 m0 T0:Nat):dj where
 T0:=T0
 H0:=H0
 Wg:=Wg
 m0:=m0
 n:=D.n
 ch:=λi=>D.ch (ord i)
 jV:=λi l=>i<D.n/\((∃j,j<4/\l=.cell ⟨D.Rb,ord i*4+j,we⟩)\/l=.cell ⟨D.Nb,ord i,we⟩)
 Shun:=uf S
 Sh:=λb=>b=D.Rb\/b=D.Nb
 ty:=216
 dep:=λi k=>k<i
 Idle:=λk w=>k<D.n->zO D (ord k) (old (ord k)) w
section
variable {D:mZ}{ord:Nat->Nat}{res:Nat->Kz.V}{old:Nat->Option (Nat×List Kz.V)}{Ob:Nat}{o:aM}{w:ae}{L:Nat->Bool}
def vw{w w1:ae}{B:Nat}(hs:∀cs ty fz,w.heap[B]?=so (.cells cs ty fz)->∃tE,w1.heap[B]?=so (.cells tE ty fz)/\tE.size=cs.size)(h:vT w B):vT w1 B:=by
 obtain⟨c,t,h⟩:=h;have⟨c1,h1,_⟩:=hs c t _ h;exact⟨c1,t,h1⟩
def zO.keep{s:Nat}{x:Option (Nat×List Kz.V)}{w w1:ae}(h:zO D s x w)(hR:∀j,j<4->w1.cell? ⟨D.Rb,s*4+j,we⟩=w.cell? ⟨D.Rb,s*4+j,we⟩)(hN:w1.cell? ⟨D.Nb,s,we⟩=w.cell? ⟨D.Nb,s,we⟩)(h1:vT w1 D.Rb)(h2:vT w1 D.Nb):zO D s x w1:=by
 refine⟨?_,hN.trans h.2.1,h1,h2⟩;have k:=h.1;cases x with
 |none=>exact⟨(hR 0 aa).trans k.c0,(hR 1 aa).trans k.c1,(hR 2 aa).trans k.c2,(hR 3 aa).trans k.c3⟩
 |some y=>exact⟨(hR 0 aa).trans k.c0,(hR 1 aa).trans k.c1,(hR 2 aa).trans k.c2,(hR 3 aa).trans k.c3⟩
def nQ{o:aM}{a b:Nat}(h:¬o b)(ha:o a):a≠b:=λe=>h (e▸ha)
def Xc(h:oe D ord res old Ob o w){S:Nat->Prop}{Wg H0 m0 T0:Nat}(hm:0<m0)(hWg:Wg<H0)(Oi:¬o Wg)(ho:∀b,o b->b<H0/\¬S b)(hS:∀b,S b->b<H0/\b≠Wg):(qs D ord old S Wg H0 m0 T0).OK where
 m0:=hm
 wg:=hWg
 own k l b hl hb:=by
  rcases hl.2 with⟨j,_,rfl⟩|rfl
  ·cases hb;exact⟨(ho _ h.C4).1,nQ Oi h.C4⟩
  ·cases hb;exact⟨(ho _ h.C5).1,nQ Oi h.C5⟩
 apart k k' l hl hl':=by
  have e:ord k=ord k':=by
   rcases hl.2 with⟨j,_,rfl⟩|rfl<;>rcases hl'.2 with⟨j',_,e⟩|e
   ·simp at e;omega
   ·simp at e;exact absurd e.1 h.apart
   ·simp at e;exact absurd e.1.symm h.apart
   ·simp at e;exact e
  exact h.aaL _ _ hl.1 hl'.1 e
 ac6 l b hl hb:=by cases l<;>first|exact hl.elim|skip;cases hb;exact hS _ hl
 GB k l hl hs:=by
  rcases hl.2 with⟨j,_,rfl⟩|rfl
  ·exact(ho _ h.C4).2 hs
  ·exact(ho _ h.C5).2 hs
 ownSh k l hl:=by
  rcases hl.2 with⟨j,_,rfl⟩|rfl
  ·exact⟨_,rfl,.inl rfl⟩
  ·exact⟨_,rfl,.inr rfl⟩
 sh b hb:=by
  rcases hb with rfl|rfl
  ·exact⟨(ho _ h.C4).1,nQ Oi h.C4,λk hk=>(h.pz _ (h.qK k hk)).2.1⟩
  ·exact⟨(ho _ h.C5).1,nQ Oi h.C5,λk hk=>(h.pz _ (h.qK k hk)).2.2.1⟩
 ch k hk:=⟨(ho _ (h.pz _ (h.qK k hk)).1).1,nQ Oi (h.pz _ (h.qK k hk)).1⟩
 x6 k k' hk lD e:=h.aaL _ _ hk lD (h.x6 _ _ (h.qK k hk) (h.qK k' lD) e)
 Sn k hk:=λe=>e
 dep i k _ e:=e
 idle k w w1 h1 h2 h3:=λhk=>(h3 hk).keep (λj hj=>h1 _ ⟨hk,.inl ⟨j,hj,rfl⟩⟩) (h1 _ ⟨hk,.inr rfl⟩) (vw (h2 _ · · · (.inl rfl)) (h3 hk).2.2.1) (vw (h2 _ · · · (.inr rfl)) (h3 hk).2.2.2)
def Mu(h:oe D ord res old Ob o w){S:Nat->Prop}{Wg H0 m0 T0:Nat}(hWg:Wg<H0)(Oi:¬o Wg)(ho:∀b,o b->b<H0/\¬S b){b:Nat}(hb:Still D Ob old b):Quiet (qs D ord old S Wg H0 m0 T0) b:=by
 have⟨h1,h2,h3,h4⟩:=h.still b hb;refine⟨(ho b h1).1,nQ Oi h1,λe=>e.elim h2 h3,λk hk=>h4 _ (h.qK k hk),λoff=>⟨λb' nz=>?_,λk hk=>?_,(ho b h1).2⟩⟩
 ·cases nz;exact⟨(ho b h1).1,nQ Oi h1⟩
 ·rcases hk.2 with⟨j,_,e⟩|e
  ·injection e with e;injection e with e;exact h2 e
  ·injection e with e;injection e with e;exact h3 e
def C6{S:Nat->Prop}{Wg H0 m0 T0 Bb:Nat}(hB:Bb<H0)(dE:Bb≠Wg)(hS:¬S Bb)(h:oe D ord res old Ob o w)(hn:¬o Bb):Quiet (qs D ord old S Wg H0 m0 T0) Bb:=by
 have TL:∀a,o a->Bb≠a:=λa ha e=>hn (e▸ha);refine⟨hB,dE,λe=>e.elim (TL _ h.C4) (TL _ h.C5),λk hk=>TL _ (h.pz _ (h.qK k hk)).1,λoff=>⟨λb' nz=>?_,λk hk=>?_,hS⟩⟩
 ·cases nz;exact⟨hB,dE⟩
 ·rcases hk.2 with⟨j,_,e⟩|e
  ·injection e with e;injection e with e;exact TL _ h.C4 e
  ·injection e with e;injection e with e;exact TL _ h.C5 e
def oe.keep{w1:ae}(h:oe D ord res old Ob o w)(e:∀b,o b->w1.heap[b]?=w.heap[b]?):oe D ord res old Ob o w1:=by
 have q:∀{b off},Still D Ob old b->w1.cell? ⟨b,off,we⟩=w.cell? ⟨b,off,we⟩:=λhb=>cell_of (e _ (h.still _ hb).1);have qb:∀{off},w1.cell? ⟨D.bn,off,we⟩=w.cell? ⟨D.bn,off,we⟩:=q (.inl rfl);have qL:∀{off},w1.cell? ⟨D.Lb,off,we⟩=w.cell? ⟨D.Lb,off,we⟩:=q (.inr (.inl rfl));have qS:∀{off},w1.cell? ⟨D.St,off,we⟩=w.cell? ⟨D.St,off,we⟩:=q (.inr (.inr (.inl rfl)));have qV:∀{off},w1.cell? ⟨D.Vb,off,we⟩=w.cell? ⟨D.Vb,off,we⟩:=q (.inr (.inr (.inr (.inl rfl))));have qM:∀{off},w1.cell? ⟨D.Mb,off,we⟩=w.cell? ⟨D.Mb,off,we⟩:=q (.inr (.inr (.inr (.inr (.inl rfl)))));have qO:∀{off},w1.cell? ⟨Ob,off,we⟩=w.cell? ⟨Ob,off,we⟩:=q (.inr (.inr (.inr (.inr (.inr (.inl rfl))))));have q1:∀{off},w1.cell? ⟨1,off,we⟩=w.cell? ⟨1,off,we⟩:=q (.inr (.inr (.inr (.inr (.inr (.inr (.inl rfl)))))));have qI:∀{s off},s<D.n->w1.cell? ⟨D.cO s,off,we⟩=w.cell? ⟨D.cO s,off,we⟩:=λhs=>q (.inr (.inr (.inr (.inr (.inr (.inr (.inr (.inl ⟨_,hs,rfl⟩))))))));have qR:∀{off},w1.cell? ⟨D.Rb,off,we⟩=w.cell? ⟨D.Rb,off,we⟩:=cell_of (e _ h.C4);have qN:∀{off},w1.cell? ⟨D.Nb,off,we⟩=w.cell? ⟨D.Nb,off,we⟩:=cell_of (e _ h.C5);have d:=h.Fj;exact {h with
  Fj:=⟨by rw[qb];exact d.b0,by rw[qb];exact d.b1,by rw[qb];exact d.b2,by rw[qb];exact d.b3,by rw[qb];exact d.b4,by rw[qL];exact d.steps,λs hs=>by rw[qS];exact d.eO s hs,λs hs=>by rw[qS];exact d.Bh s hs,λs hs j hj=>by rw[qI hs,qI hs];exact d.C0 s hs j hj,λk hk=>by rw[qV,qV];exact d.lW k hk,λs hs=>by rw[qM];exact d.made s hs⟩
  pow:=λk hk=>by rw[q1];exact h.pow k hk
  order:=by rw[qL];exact h.order
  Ms:=λk hk=>by rw[qO];exact h.Ms k hk
  pz:=λs hs=>⟨(h.pz s hs).1,(h.pz s hs).2.1,(h.pz s hs).2.2.1,by rw[e _ (h.pz s hs).1];exact(h.pz s hs).2.2.2⟩
  R0:=by rw[e _ h.C4];exact h.R0
  N0:=by rw[e _ h.C5];exact h.N0
  idle:=λs hs=>(h.idle s hs).keep (λj _=>qR) qN (vw (λcs ty fz hx=>⟨cs,by rw[e _ h.C4];exact hx,rfl⟩) (h.idle s hs).2.2.1) (vw (λcs ty fz hx=>⟨cs,by rw[e _ h.C5];exact hx,rfl⟩) (h.idle s hs).2.2.2)
  xk:=λs B vs hs ho=>⟨λk hk=>by
   have hb:Still D Ob old B:=.inr (.inr (.inr (.inr (.inr (.inr (.inr (.inr ⟨s,vs,hs,ho⟩)))))));rw[q hb,q hb];exact(h.xk s B vs hs ho).1 k hk,(h.xk s B vs hs ho).2⟩}
def Mv(h:oe D ord res old Ob o w){S:Nat->Prop}{Wg Bb H0 m0 T0:Nat}(hm:0<m0)(hWg:Wg<H0)(Oi:¬o Wg)(ho:∀b,o b->b<H0/\¬S b)(hS:∀b,S b->b<H0/\b≠Wg)(hB:Bb<H0)(dE:Bb≠Wg)(hSB:¬S Bb)(hnB:¬o Bb)(hg:ax.globals.size<=H0)(aaN:w.cell? ⟨Bb,0,we⟩=so (.pointer (so ⟨D.bn,0,we⟩))):Setup D (qs D ord old S Wg H0 m0 T0) ord res old Bb Ob w:=by
 have Q:∀{b},Still D Ob old b->Quiet (qs D ord old S Wg H0 m0 T0) b:=λhb=>Mu h hWg Oi ho hb;exact {
  ok:=Xc h hm hWg Oi ho hS
  n:=rfl
  kp:=hg
  ty:=rfl
  q1:=Q (.inr (.inr (.inr (.inr (.inr (.inr (.inl rfl)))))))
  dk:={
   D7:=Q (.inl rfl)
   qLb:=Q (.inr (.inl rfl))
   qSt:=Q (.inr (.inr (.inl rfl)))
   qVb:=Q (.inr (.inr (.inr (.inl rfl))))
   qMb:=Q (.inr (.inr (.inr (.inr (.inl rfl)))))
   Qn:=λs hs=>Q (.inr (.inr (.inr (.inr (.inr (.inr (.inr (.inl ⟨_,hs,rfl⟩))))))))
   qK:=h.qK
   ch:=λ_ _=>rfl
   own:=λ_ _=>da
   RU:=.inl rfl
   YT:=.inr rfl
   apart:=h.apart
   dep:=λi hi m hm=>by
    have⟨k,hk,e⟩:=h.dep i hi m hm;exact⟨k,by have:i<D.n:=hi;show k<D.n;omega,e,hk⟩
   src:=h.src
   short:=h.short
   gF:=h.gF
   W8:=h.W8}
  Fj:=h.Fj
  pow:=h.pow
  made:=λi hi=>h.made _ (h.qK i hi)
  eO:=λi hi=>h.eO _ (h.qK i hi)
  size:=λi hi=>h.size _ (h.qK i hi)
  qB:=C6 hB dE hSB h hnB
  box:=aaN
  qO:=Q (.inr (.inr (.inr (.inr (.inr (.inl rfl))))))
  order:=h.order
  Ms:=h.Ms
  xk:=λs B vs hs e=>⟨(h.xk s B vs hs e).1,Q (.inr (.inr (.inr (.inr (.inr (.inr (.inr (.inr ⟨s,vs,hs,e⟩)))))))),(h.xk s B vs hs e).2⟩
  idle:=λk w hk hi=>hi hk}
end
end
section
open Go.Conc.Lib Go.ConcR.Gen Go.ConcN.Gen
open Go.ConcR (KK wgBlock WgAt stA smA rd wr mk Payload DC0)
structure TM(D:mZ)(res:Nat->Kz.V)(old:Nat->Option (Nat×List Kz.V))(o:aM)(w:ae)(o':aM)(w':ae):Prop where
 more:∀b,o b->o' b
 new:∀b,o' b->o b\/w.heap.size<=b
 same:∀b,b<w.heap.size->b≠D.Rb->b≠D.Nb->(∀s,s<D.n->b≠D.ch s)->w'.heap[b]?=w.heap[b]?
 runs:∀s,s<D.n->nP D s (old s) (dX D res s) (res s) (λb=>o' b/\w.heap.size<=b) w'
 R0:∃cs,w'.heap[D.Rb]?=so (.cells cs 222 (0,0))/\cs.size=D.n*4
 N0:∃cs,w'.heap[D.Nb]?=so (.cells cs 4 (0,0))/\cs.size=D.n
 pz:∀s,s<D.n->∃c s' r tm,w'.heap[D.ch s]?=so (.chan 0 #[] c s' r tm)
 size:w.heap.size<=w'.heap.size
 os:w'.os=w.os
 output:w'.output=w.output
section
variable [Payload]{D:mZ}{ord:Nat->Nat}{res:Nat->Kz.V}{old:Nat->Option (Nat×List Kz.V)}{Ob:Nat}{o:aM}{w:ae}{L:Nat->Bool}{Fin:bL}
theorem sQ{f:Rn}{cs:Array Value}{ty:TypeId}{fz:Nat×Nat}(h:∀j (hj:j<cs.size),val f cs[j]=cs[j]):obj f (.cells cs ty fz)=.cells cs ty fz:=by
 simp only[obj]
 congr 1
 apply ja
 ·simp
 ·intro j h1 h2;simpa using h j h2
theorem JK{w:ae}{b j:Nat}{v:Value}{cs:Array Value}{ty:TypeId}{fz:Nat×Nat}(h:w.cell? ⟨b,j,we⟩=so v)(hb:w.heap[b]?=so (.cells cs ty fz)):cs[j]?=so v:=by
 simpa[World.cell?,hb] using h
theorem uF{w:ae}{b j:Nat}{v:Value}{cs:Array Value}{ty:TypeId}{fz:Nat×Nat}{f:Rn}(h:w.cell? ⟨b,j,we⟩=so v)(hb:w.heap[b]?=so (.cells cs ty fz))(hj:j<cs.size)(hv:val f v=v):val f cs[j]=cs[j]:=by
 have:=JK h hb;rw[aO hj]at this;rw[aT this];exact hv
theorem Qu{w:ae}{b t n:Nat}{g:Nat->Value}(h:w.rowIs b t n g)(hg:∀j,j<n->∀f,val f (g j)=g j):∃x,w.heap[b]?=so x/\fl x=false/\∀f,obj f x=x:=by
 obtain⟨c,hb,hn,hc⟩:=h;refine⟨_,hb,rfl,λf=>sQ λj hj=>?_⟩;have:=hc j aa;rw[aO hj]at this;rw[aT this];exact hg j aa f
theorem TN{S:Nat->Prop}{Wg H0 m0 T0:Nat}:kz (qs D ord old S Wg H0 m0 T0) (Vd D ord res) (yz D ord old res):=by
 refine⟨λk w w1 h1 h2=>?_,λk o w w1 h1 h2 h3=>?_⟩
 ·exact⟨h2.1,(h1 _ ⟨h2.1,.inl ⟨2,aa,rfl⟩⟩).trans h2.2.1,(h1 _ ⟨h2.1,.inl ⟨3,aa,rfl⟩⟩).trans h2.2.2⟩
 ·exact⟨h3.1,nP.of h3.2 (λj hj=>h1 _ ⟨h3.1,.inl ⟨j,hj,rfl⟩⟩) (h1 _ ⟨h3.1,.inr rfl⟩) λb hb=>⟨hb,h2 b hb⟩⟩
theorem Qv(hF:bO ax L o w)(h:oe D ord res old Ob o w):bA ax (XB ax Fin 0) 74 #[.pointer (so ⟨D.bn,0,we⟩)] o w λv o' w'=>v=.tuple #[]/\TM D res old o w o' w'/\bO ax L o' w':=by
 intro c cs hc;have fF:Tryz.f74.body=so (.seq _ (.seq _ (.seq (.seq _ (.block 0 (.loop _))) _))):=rfl;rw[iN func74 fF];refine λaaO=>(?_:XB ax Fin 0 o _ w) aaO;have W:=bY (P:=ax) (Fin:=Fin) (d:=0);have rV:(base 74).kind≠.early:=by simp[base]
 walk_nrmf Tryz.f74;refine W.go rfl (λ_=>aE) ?_;refine W.go rfl (λ_=>bh) ?_;refine dN ?_;refine zD rfl ak rV rfl (Obj.cells #[.pointer (so ⟨D.bn,0,we⟩)] 151) (λn=>.pointer (so ⟨n,0,we⟩)) (λw1=>fS) (λw1=>fS) ?_;walk_nrm;refine W.go rfl (λ_=>au) ?_;refine W.go rfl (λ_=>aE) ?_;refine W.go rfl (λ_=>bh) ?_;refine dN ?_;refine zD rfl ak rV rfl (Obj.cells #[.int .u64 0,.int .u32 0] 216) (λn=>.pointer (so ⟨n,0,we⟩)) (λw1=>fS) (λw1=>fS) ?_;walk_nrm;refine W.go rfl (λ_=>au) ?_;have pB:∀b,b<w.heap.size->((w.alloc (Obj.cells #[.pointer (so ⟨D.bn,0,we⟩)] 151)).alloc (Obj.cells #[.int .u64 0,.int .u32 0] 216)).heap[b]?=w.heap[b]?:=λb hb=>by
  rw[RowKit.Below.heap_alloc _ _ b eP,RowKit.Below.heap_alloc _ _ b hb]
 have JH:((w.alloc (Obj.cells #[.pointer (so ⟨D.bn,0,we⟩)] 151)).alloc (Obj.cells #[.int .u64 0,.int .u32 0] 216)).heap[w.heap.size]?=so (Obj.cells #[.pointer (so ⟨D.bn,0,we⟩)] 151):=by
  rw[RowKit.Below.heap_alloc _ _ _ ar];show(w.heap.push _)[w.heap.size]?=_;simp
 have pk:((w.alloc (Obj.cells #[.pointer (so ⟨D.bn,0,we⟩)] 151)).alloc (Obj.cells #[.int .u64 0,.int .u32 0] 216)).heap[w.heap.size+1]?=so (Obj.cells #[.int .u64 0,.int .u32 0] 216):=by
  show((w.heap.push (Obj.cells #[.pointer (so ⟨D.bn,0,we⟩)] 151)).push _)[w.heap.size+1]?=_;rw[fG,if_pos ar]
 have Cx:((w.alloc (Obj.cells #[.pointer (so ⟨D.bn,0,we⟩)] 151)).alloc (Obj.cells #[.int .u64 0,.int .u32 0] 216)).heap.size=w.heap.size+2:=ar;have KY:(w.alloc (Obj.cells #[.pointer (so ⟨D.bn,0,we⟩)] 151)).heap.size=w.heap.size+1:=ar;have ZN:((w.alloc (Obj.cells #[.pointer (so ⟨D.bn,0,we⟩)] 151)).alloc (Obj.cells #[.int .u64 0,.int .u32 0] 216)).os=w.os/\((w.alloc (Obj.cells #[.pointer (so ⟨D.bn,0,we⟩)] 151)).alloc (Obj.cells #[.int .u64 0,.int .u32 0] 216)).output=w.output:=⟨rfl,rfl⟩;rw[KY];generalize (w.alloc (Obj.cells #[.pointer (so ⟨D.bn,0,we⟩)] 151)).alloc (Obj.cells #[.int .u64 0,.int .u32 0] 216)=w2 at *;clear KY;have cx:∀b,o b->b<w.heap.size:=λb hb=>hF.lt hb;have Oi:¬o (w.heap.size+1):=λhb=>by have:=cx _ hb;omega
 have hoB:¬o w.heap.size:=λhb=>by have:=cx _ hb;omega
 intro PZ w3 pj;have e3:w3.heap=w2.heap:=by obtain⟨dd,rfl⟩:=pj;rfl
 have e3o:w3.os=w2.os/\w3.output=w2.output:=by obtain⟨dd,rfl⟩:=pj;exact⟨rfl,rfl⟩
 have Qw:oe D ord res old Ob o w3:=h.keep λb hb=>by rw[e3];exact pB b (cx b hb)
 have aiz:Fy Fin (λb=>(o b\/b=w.heap.size)\/b=w.heap.size+1) w2=Fy Fin o w:=by
  funext b;simp only[Fy,eq_iff_iff,Cx];constructor
  ·rintro⟨h1,h2,h5⟩;exact⟨fA λh3=>h2 aa,λh3=>h2 (.inl (.inl h3)),h5⟩
  ·rintro⟨h1,h2,h5⟩;exact⟨aa,λh3=>by rcases h3 with(h3|h3)|h3<;>first|exact h2 h3|omega,h5⟩
 rw[aiz];have hg:ax.globals.size<=w.heap.size+2:=by have:=hF.size;omega
 have aaP:∀m0 T0,0<m0->Setup D (qs D ord old (Fy Fin o w) (w.heap.size+1) (w.heap.size+2) m0 T0) ord res old w.heap.size Ob w3:=λm0 T0 hm =>
  Mv Qw hm aa Oi (λb hb=>⟨by have:=cx b hb;omega,λhx=>hx.2.1 hb⟩) (λb hb=>⟨by have:=hb.1;omega,by have:=hb.1;omega⟩) aa aa (λhx=>by have:=hx.1;omega) hoB hg (by simp[World.cell?,e3,JH])
 refine BX.adK λm0 T0 hm=>⟨qs D ord old (Fy Fin o w) (w.heap.size+1) (w.heap.size+2) m0 T0,Vd D ord res,yz D ord old res,
  λo5 g5 w5=>∃tm wA,Fz link (qs D ord old (Fy Fin o w) (w.heap.size+1) (w.heap.size+2) m0 T0) wA ((base 74).at ⟨tm,[]⟩ (.inRegion #[{dst:=so 20,op:=.call {callee:=.value (.func 117),args:=#[.tmp 2],argTypes:=#[216]},type:=0,pos:= "build.go:82",after:=#[],guard:=we}] (0::[])::[])) (c::cs) o5 g5 w5,
  λo5 g5 w5=>∃tm wA,P2 ax (qs D ord old (Fy Fin o w) (w.heap.size+1) (w.heap.size+2) m0 T0) wA (G ((base 74).at ⟨tm,[]⟩ (.inRegion #[{dst:=so 20,op:=.call {callee:=.value (.func 117),args:=#[.tmp 2],argTypes:=#[216]},type:=0,pos:= "build.go:82",after:=#[],guard:=we}] []::[])) (c::cs)) o5 g5 w5,
  λ_=>False,rfl,rfl,(aaP m0 T0 hm).ok,TN,?_,rfl,?_,?_,λ_ hb=>hb.elim,?_,?_,?_,?_,?_⟩
 ·show D.n<2147483648;have:=h.gF;omega
 ·rintro o5 g5 w5 ⟨tm,wA,hA⟩;exact(L5 AO (aaP m0 T0 hm).ok g5 w5 hA).mono λ_ _ _=>RL.mono (λo g w x=>⟨tm,wA,x⟩) (λo g w x=>⟨_,wA,x⟩)
 ·have hS:=aaP m0 T0 hm;have hT:=hS.ok;show iY ax _ _ _ _ D.n _ _ w3;generalize hTm:qs D ord old (Fy Fin o w) (w.heap.size+1) (w.heap.size+2) m0 T0=T at *;have hTn:T.n=D.n:=hS.n;have hTW:T.Wg=w.heap.size+1:=by rw[<- hTm];rfl
  have hTH:T.H0=w.heap.size+2:=by rw[<- hTm];rfl
  have hTy:T.ty=216:=hS.ty;have yA:WgLive T.ty T.Wg w3:=⟨0,0,by rw[hTy,hTW];show w3.heap[w.heap.size+1]?=_;rw[e3];exact pk⟩;obtain⟨Stop,JJ⟩:∃Stop:eQ,∀o5 g5 w5,di ax T Stop o5 g5 w5↔iY ax T (Vd D ord res) (yz D ord old res) (λo5 g5 w5=>∃tm wA,Fz link T wA ((base 74).at ⟨tm,[]⟩ (.inRegion #[{dst:=so 20,op:=.call {callee:=.value (.func 117),args:=#[.tmp 2],argTypes:=#[216]},type:=0,pos:= "build.go:82",after:=#[],guard:=we}] (0::[])::[])) (c::cs) o5 g5 w5) D.n o5 g5 w5:=by
   cases D.n
   ·exact⟨_,λ_ _ _=>da⟩
   ·exact⟨_,λ_ _ _=>da⟩
  rw[<- JJ];have W4:=nL (P:=ax) (T:=T) (Stop:=Stop);refine W4.go rfl (λ_=>aE) ?_;refine W4.go rfl (λ_=>aE) ?_;refine W4.go rfl (λ_=>bh) ?_;refine dN ?_;have c0:∀w5,dQ T (λ_=>False) w3 w5->w5.cell? ⟨w.heap.size,0,we⟩=so (.pointer (so ⟨D.bn,0,we⟩)):=λw5 r5=>by rw[hS.qB.cellS r5];exact hS.box
  have c1:∀w5,dQ T (λ_=>False) w3 w5->w5.cell? ⟨D.bn,0,we⟩=so (.pointer (so ⟨D.Lb,D.Lo,we⟩)):=λw5 r5=>by rw[hS.dk.D7.cellS r5];exact hS.Fj.b0
  have c2:∀w5,dQ T (λ_=>False) w3 w5->w5.cell? ⟨D.Lb,D.Lo+1,we⟩=so (.slice (so ⟨Ob,0,we⟩) D.n D.n):=λw5 r5=>by rw[hS.dk.qLb.cellS r5];exact hS.order
  (refine still_at W4 c0 rfl ak rV (λw9 hc=>⟨.refl _ _,λe he=>?_⟩) λw9 hc K hK=>?_;(focus (rw[cm];have he:=mem_listed he;simp[go_sem, *]at he;subst he;exact vv hS.qB));go_simp;refine hK _ ?_;clear hK K;clear hc w9;try walk_nrm)
  refine gW ?_
  (refine still_at W4 c1 rfl ak rV (λw9 hc=>⟨.refl _ _,λe he=>?_⟩) λw9 hc K hK=>?_;(focus (rw[cm];have he:=mem_listed he;simp[go_sem, *]at he;subst he;exact vv hS.dk.D7));go_simp;refine hK _ ?_;clear hK K;clear hc w9;try walk_nrm)
  refine gW ?_
  (refine still_at W4 c2 rfl ak rV (λw9 hc=>⟨.refl _ _,λe he=>?_⟩) λw9 hc K hK=>?_;(focus (rw[cm];have he:=mem_listed he;simp[go_sem, *]at he;subst he;exact vv hS.dk.qLb));go_simp;refine hK _ ?_;clear hK K;clear hc w9;try walk_nrm)
  refine gW ?_;refine W4.go rfl (λ_=>au) ?_;refine W4.go rfl (λ_=>fh) ?_;refine W4.go rfl (λ_=>jL) ?_;rw[JJ];refine JI hS fF (base 74) [] (c::cs) rfl rV (λo5 w5 tm r5 l5 ho5 fy t2=>?_) D.n 0 hTn.symm _ w3 _ (dQ.refl _) yA (λ_ hb=>hb.elim) (by rw[hTH,e3,Cx];exact ah _) rfl rfl (by rw[hTW];rfl) rfl rfl rfl;have W5:=nL (P:=ax) (T:=T) (Stop:=RN ax T (λo5 g5 w5=>∃tm wA,Fz link T wA ((base 74).at ⟨tm,[]⟩ (.inRegion #[{dst:=so 20,op:=.call {callee:=.value (.func 117),args:=#[.tmp 2],argTypes:=#[216]},type:=0,pos:= "build.go:82",after:=#[],guard:=we}] (0::[])::[])) (c::cs) o5 g5 w5));obtain⟨gs,rfl⟩:=lg fy;simp only[List.range,List.range.loop,aC,aP]at *;simp only[List.getElem?_toArray,List.getElem?_cons_succ,List.getElem?_cons_zero,aA]at t2;simp only[t2];refine W5.go rfl (λ_=>bh) ?_;refine dN ?_;refine W5.go rfl (λw1=>ql rfl ak rV rfl AO.f_wait (nm_wait link) rfl w1) ?_;rw[iN AO.f_wait rfl];simp only[List.map_toArray,aC,aP,Act.eval];walk_nrmf waitFn;have hA:=@L6 _ link ax T o5 w5;simp only[body_wait,waitFn,bu]at hA;exact(hA AO (λb hb=>(ho5 b hb).1) w5 ⟨dQ.refl w5,l5⟩).mono λ_ _ _=>RN.mono λo g w x=>⟨_,w5,x⟩
 ·show w.heap.size+2<=w3.heap.size;rw[e3,Cx];exact ah _
 ·show w3.heap[w.heap.size+1]?=_;rw[e3];exact pk
 ·exact λk hk=>(Qw.pz _ (h.qK k hk)).2.2.2
 ·exact λk hk lD=>Qw.idle _ (h.qK k hk)
 ·rintro o5 g5 w5 ⟨tm,wA,-,n5,hgo⟩ ad0 hrel fq PH vO;have apo:w.heap.size+2<=w5.heap.size:=by have:=hrel.size;rw[e3,Cx]at this;exact this
  have hold:∀b,b<w.heap.size->b≠D.Rb->b≠D.Nb->(∀s,s<D.n->b≠D.ch s)->w5.heap[b]?=w.heap[b]?:=λb h1 h2 h3 h4=>by
   rw[hrel.ro b (show b<w.heap.size+2 by omega) (show b≠w.heap.size+1 by omega) (λe=>e.elim h2 h3) (λk hk=>h4 _ (h.qK k hk)),e3,pB b h1]
  have cJ:∀s,s<D.n->∃oi:Nat->Prop,nP D s (old s) (dX D res s) (res s) oi w5/\∀b,oi b->w.heap.size+2<=b/\b<w5.heap.size:=λs hs=>by
   obtain⟨i,hi,rfl⟩:=h.aaM s hs;obtain⟨-,oi,C,hv,ho⟩:=ad0 i hi;exact⟨_,hv.2,λb hb=>ho b hb.1⟩
  have RX:∃cs,w5.heap[D.Rb]?=so (.cells cs 222 (0,0))/\cs.size=D.n*4:=by
   have⟨cs,k1,k2⟩:=Qw.R0;have⟨c1,k3,k4⟩:=PH D.Rb cs _ _ (.inl rfl) k1;exact⟨c1,k3,aa⟩
  have hN5:∃cs,w5.heap[D.Nb]?=so (.cells cs 4 (0,0))/\cs.size=D.n:=by
   have⟨cs,k1,k2⟩:=Qw.N0;have⟨c1,k3,k4⟩:=PH D.Nb cs _ _ (.inr rfl) k1;exact⟨c1,k3,aa⟩
  have ad1:∀s,s<D.n->∃c s' r tm,w5.heap[D.ch s]?=so (.chan 0 #[] c s' r tm):=λs hs=>by
   obtain⟨i,hi,rfl⟩:=h.aaM s hs;exact vO i hi
  let o':aM:=λb=>o b\/∃s,s<D.n/\w.heap.size+2<=b/\b<w5.heap.size/\(∀B,old s≠so (B,dX D res s))/\eZ w5 b (dX D res s)/\wB D s w5 b (dX D res s) (res s);have TO:∀s,s<D.n->nP D s (old s) (dX D res s) (res s) (λb=>o' b/\w.heap.size<=b) w5:=λs hs=>by
   have⟨oi,hr,ho⟩:=cJ s hs;rcases hr with⟨B,k1,k2,k3⟩|⟨k1,A,k2,k3,k4,k5⟩
   ·exact .inl ⟨B,k1,k2,k3⟩
   ·have:=ho A k2;exact .inr ⟨k1,A,⟨.inr ⟨s,hs,this.1,this.2,k1,k3,k4⟩,aa⟩,k3,k4,k5⟩
  have aaQ:TM D res old o w o' w5:={
   more:=λb hb=>.inl hb
   new:=λb hb=>hb.imp id λ⟨s,_,h1,_⟩=>aa
   same:=hold
   runs:=TO
   R0:=RX
   N0:=hN5
   pz:=ad1
   size:=aa
   os:=by rw[hrel.os,e3o.1,ZN.1]
   output:=by rw[hrel.output,e3o.2,ZN.2]}
  have ad2:bO ax L o' w5:=by
   have up:∀f,(mI ax L o').has f->(mI ax L o).has f:=λf hf=>⟨hf.inj,λr hr=>hf.at_ r (.inl hr),hf.fn,hf.kp⟩;refine⟨λb hb=>?_,λb hb=>.inl (hF.kp b hb),by have:=hF.size;omega⟩;rcases hb with hb|⟨s,hs,h1,h2,_,h3,_⟩
   ·by_cases hbR:b=D.Rb
    ·subst hbR;obtain⟨cs5,k1,k2⟩:=RX;refine⟨_,k1,rfl,λf hf=>sQ λj hj=>?_⟩;have hq:j/4<D.n:=aa;have hrw:∃B,wB D (j/4) w5 B (dX D res (j/4)) (res (j/4))/\o' B:=by
      rcases TO _ hq with⟨B,m1,m2,-⟩|⟨-,A,m1,-,m2,-⟩
      ·exact⟨B,m2,.inl (h.still B (.inr (.inr (.inr (.inr (.inr (.inr (.inr (.inr ⟨_,_,hq,m1⟩))))))))).1⟩
      ·exact⟨A,m2,m1.1⟩
     obtain⟨B,m1,m2⟩:=hrw;have ga:j=j/4*4\/j=j/4*4+1\/j=j/4*4+2\/j=j/4*4+3:=aa;have hBf:f.b B=B:=hf.at_ B m2;have key:∀v,w5.cell? ⟨D.Rb,j,we⟩=so v->val f v=v->val f cs5[j]=cs5[j]:=λv hv=>uF hv k1 hj;rcases ga with e|e|e|e
     ·exact key _ (by rw[e];exact m1.c0) ar
     ·exact key _ (by rw[e];exact m1.c1) (by simp[val,addr,hBf])
     ·exact key _ (by rw[e];exact m1.c2) ar
     ·exact key _ (by rw[e];exact m1.c3) ar
    ·by_cases hbN:b=D.Nb
     ·subst hbN;obtain⟨cs5,k1,k2⟩:=hN5;refine⟨_,k1,rfl,λf hf=>sQ λj hj=>?_⟩;have hq:j<D.n:=aa;rcases TO _ hq with⟨B,_,_,m2⟩|⟨_,A,_,_,_,m2⟩
      ·exact uF m2 k1 hj ar
      ·exact uF m2 k1 hj ar
     ·by_cases hbc:∃s,s<D.n/\b=D.ch s
      ·obtain⟨s,hs,rfl⟩:=hbc;have⟨c,s',r,tm,k1⟩:=ad1 s hs;exact⟨_,k1,rfl,λf _=>by simp[obj]⟩
      ·rw[hold b (cx b hb) hbR hbN λs hs e=>hbc ⟨s,hs,e⟩];have⟨x,k1,k2,k3⟩:=hF.shut b hb;exact⟨x,k1,k2,λf hf=>k3 f (up f hf)⟩
   ·have⟨x,k1,k2,k3⟩:=Qu h3 (λj _ f=>wy _ j f);exact⟨x,k1,k2,λf _=>k3 f⟩
  have hX:XB ax Fin 0 o' (G ((base 74).at ⟨tm,[]⟩ (.inRegion #[{dst:=so 20,op:=.call {callee:=.value (.func 117),args:=#[.tmp 2],argTypes:=#[216]},type:=0,pos:= "build.go:82",after:=#[],guard:=we}] []::[])) (c::cs)) w5:=by
   refine W.go rfl (λ_=>au) ?_;refine W.go rfl (λ_=>ew) ?_;refine W.go rfl (λw6=>stepG_leave (b:=base 74) (v:=.tuple #[]) rfl rfl func74 (results_none ai _ _).1 (results_none ai _ _).2) ?_;exact hc _ o' w5 ⟨rfl,aaQ,ad2⟩
  have hX':Bc ax (I2 Fin w2) 0 (λb=>Fy Fin o w b\/b=w.heap.size+1) (G ((base 74).at ⟨tm,[]⟩ (.inRegion #[{dst:=so 20,op:=.call {callee:=.value (.func 117),args:=#[.tmp 2],argTypes:=#[216]},type:=0,pos:= "build.go:82",after:=#[],guard:=we}] []::[])) (c::cs)) w5:=λw6 h6=>by
   have hX6:=hX (aaO.up aa) w6 h6;rw[GH (w:=w2) ⟨by rw[hrel.os,e3o.1],by rw[hrel.output,e3o.2]⟩]at hX6;refine hX6.less (λb hb=>?_) λb hb hx=>?_
   ·rcases hb with hb|rfl
    ·exact⟨by have:=hb.1;omega,λhx=>hx.elim hb.2.1 λ⟨s,_,h1,_⟩=>by have:=hb.1;omega,hb.2.2⟩
    ·exact⟨aa,λhx=>hx.elim Oi λ⟨s,_,h1,_⟩=>aa,λhl=>by have:=aaO _ hl;omega⟩
   ·obtain⟨dd,rfl⟩:=h6;have h1:b<w5.heap.size:=hx.1;have h2:w5.heap.size<=b:=hb;omega
  exact(Bc.ju hgo hX').bx
end
end
section
variable {Fin:bL}{o:aM}{w:ae}
def yB(w:ae)(a:Addr)(v:Value):(w.setCell a v).heap.size=w.heap.size:=by simp[World.setCell]
def JL(ad:Addr):∀x∈(#[⟨.cell ad,false,true⟩,⟨.cell ad,true,true⟩]:Array Event),x.sync=true/\(∀g,x.loc≠.mark (.extern g))/\x.loc≠.mark .disable/\x.loc≠.mark .enable:=by
 intro x hx;simp at hx;rcases hx with rfl|rfl<;>simp
def yC(ad:Addr)(b:Bool):∀x∈(#[⟨.cell ad,b,true⟩]:Array Event),x.sync=true/\(∀g,x.loc≠.mark (.extern g))/\x.loc≠.mark .disable/\x.loc≠.mark .enable:=by
 intro x hx;simp at hx;subst hx;simp
def Xd(K off:Nat)(YW:o K)(hc:w.cell? ⟨K,off,we⟩=so (.int .i32 0))(hz:w.frozen? ⟨K,off,we⟩=false):
  bA ax (XB ax Fin 0) 78 #[.pointer (so ⟨K,off,we⟩)] o w λv o' w'=>v=.tuple #[]/\o'=o/\w'=w.setCell ⟨K,off,we⟩ (.int .i32 1):=by
 intro c cs Li;have W0:=bY (P:=ax) (Fin:=Fin) (d:=0);have W1:=bY (P:=ax) (Fin:=Fin) (d:=1);have rV:(base 78).kind≠.early:=by simp[base]
 rw[iN func78 rfl];walk_nrmf Tryz.f78;refine W0.go rfl (λ_=>aE) ?_;refine W0.go rfl (λ_=>bh) ?_;refine dN ?_;refine yj .disable (.inl rfl) rfl ak rV rfl func120 ai ai ai ai rfl (d':=1) ak ?_;walk_nrm;refine W1.go rfl (λ_=>au) ?_;refine W1.go rfl (λ_=>aE) ?_;refine W1.go rfl (λ_=>aE) ?_;refine W1.go rfl (λ_=>bh) ?_;refine dN ?_;refine gW ?_;refine zE rfl ak rV rfl func121 ai ai ai (e:=Extern.Atomic.casT (.int .i32)) ai (v:=.bool true) (t:=λw=>w.setCell ⟨K,off,we⟩ (.int .i32 1)) (evs:=#[⟨.cell ⟨K,off,we⟩,false,true⟩,⟨.cell ⟨K,off,we⟩,true,true⟩]) rfl (λn=>rfl) (yB _ _ _) (λn=>?_) (λn=>?_) (JL _) ?_
 ·simp only[List.map_toArray,aC,aP,Act.eval];walk_nrm;rw[casT_eq];exact run_cas_hit_entry hc hz
 ·simp only[List.map_toArray,aC,aP,Act.eval];walk_nrm;rw[casT_eq,events_cas_hit_entry (w:=w.at n) hc hz];rfl
 walk_nrm;refine W1.go rfl (λ_=>au) ?_;refine W1.go rfl (λ_=>eC (t:=true) rfl) ?_;simp only[if_true];refine W1.go rfl (λ_=>aE) ?_;refine W1.go rfl (λ_=>eC (t:=true) rfl) ?_;simp only[if_true];refine W1.go rfl (λ_=>aE) ?_;refine W1.go rfl (λ_=>bh) ?_;refine dN ?_;refine yj .enable (.inr rfl) rfl ak rV rfl func122 ai ai ai ai rfl (d':=0) ak ?_;walk_nrm;refine W0.go rfl (λ_=>au) ?_;refine W0.go rfl (λ_=>bh) ?_;refine dN ?_;refine gW ?_;have Wu:(w.setCell ⟨K,off,we⟩ (.int .i32 1)).cell? ⟨K,off,we⟩=so (.int .i32 1):=World.cell?_setCell_same _ _ _ hc;have hcv:=λn=>run_convert_to_unsafe (P:=ax) (w:=(w.setCell ⟨K,off,we⟩ (.int .i32 1)).at n) underlying225 underlying116 ai Wu;have hce:=λn es=>events_convert_to_unsafe (P:=ax) (w:=(w.setCell ⟨K,off,we⟩ (.int .i32 1)).at n) underlying225 underlying116 ai Wu es;refine yk rfl ak rV (v:=.pointer (so ⟨K,off,we⟩)) rfl (λn=>by simp[go_sem,hcv n]) (λn x hx=>by simp[go_sem,hce n]at hx) ?_;walk_nrm;refine CO .acquire (λad=>.inl ⟨ad,rfl⟩) rfl ak rV rfl func123 ai ai ai ai (ad:=⟨K,off,we⟩) aK rfl ?_;walk_nrm;refine W0.go rfl (λ_=>au) ?_;refine W0.go rfl (λ_=>stepG_ret') ?_;refine W0.go rfl (λw6=>stepG_leave (b:=base 78) (v:=.tuple #[]) rfl rfl func78 (results_none ai _ _).1 (results_none ai _ _).2) ?_;exact Li _ o _ ⟨rfl,rfl,rfl⟩
def C7(K off:Nat)(YW:o K)(hc:w.cell? ⟨K,off,we⟩=so (.int .i32 0))(hz:w.frozen? ⟨K,off,we⟩=false):
  bA ax (XB ax Fin 0) 45 #[.pointer (so ⟨K,off,we⟩)] o w λv o' w'=>v=.tuple #[]/\o'=o/\w'=w.setCell ⟨K,off,we⟩ (.int .i32 1):=by
 have W0:=bY (P:=ax) (Fin:=Fin) (d:=0);refine bD W0 func45 rfl ?_;walk_nrmf Tryz.f45;refine ay ?_;refine du W0 rfl ak rfl func78 ai rfl aK rfl ((Xd K off YW hc hz).mono ?_);rintro v o' w' ⟨rfl,rfl,rfl⟩;refine ay ?_;exact⟨.inl trivial,trivial,.tuple #[],λw1=>results_none ai _ _,ar⟩
def Qx(K off:Nat)(YW:o K)(hc:w.cell? ⟨K,off,we⟩=so (.int .i32 1))(hz:w.frozen? ⟨K,off,we⟩=false):
  bA ax (XB ax Fin 0) 79 #[.pointer (so ⟨K,off,we⟩)] o w λv o' w'=>v=.tuple #[]/\o'=o/\w'=w.setCell ⟨K,off,we⟩ (.int .i32 0):=by
 intro c cs Li;have W0:=bY (P:=ax) (Fin:=Fin) (d:=0);have W1:=bY (P:=ax) (Fin:=Fin) (d:=1);have rV:(base 79).kind≠.early:=by simp[base]
 rw[iN func79 rfl];walk_nrmf Tryz.f79;have hcv:=λn=>run_convert_to_unsafe (P:=ax) (w:=w.at n) underlying225 underlying116 ai hc;have hce:=λn es=>events_convert_to_unsafe (P:=ax) (w:=w.at n) underlying225 underlying116 ai hc es;have tQ:∀n,(w.at n).cell? ⟨K,off,we⟩=so (.int .i32 1):=λn=>hc;refine W0.go rfl (λ_=>aE) ?_;refine W0.go rfl (λ_=>eC (t:=true) rfl) ?_;simp only[if_true];refine W0.go rfl (λ_=>aE) ?_;refine W0.go rfl (λ_=>bh) ?_;refine dN ?_;refine gW ?_;refine yk rfl ak rV (v:=.int .i32 1) rfl (λn=>by simp[go_sem,tQ n]) (λn x hx=>by simp[go_sem,tQ n]at hx;subst hx;exact⟨Bz YW,ar,ar⟩) ?_;walk_nrm;refine W0.go rfl (λ_=>au) ?_;refine W0.go rfl (λ_=>aE) ?_;refine W0.go rfl (λ_=>bh) ?_;refine dN ?_;refine gW ?_;refine yk rfl ak rV (v:=.pointer (so ⟨K,off,we⟩)) rfl (λn=>by simp[go_sem,hcv n]) (λn x hx=>by simp[go_sem,hce n]at hx) ?_;walk_nrm;refine CO .releaseMerge (λad=>.inr ⟨ad,rfl⟩) rfl ak rV rfl func125 ai ai ai ai (ad:=⟨K,off,we⟩) aK rfl ?_;walk_nrm;refine W0.go rfl (λ_=>au) ?_;refine W0.go rfl (λ_=>bh) ?_;refine dN ?_;refine yj .disable (.inl rfl) rfl ak rV rfl func120 ai ai ai ai rfl (d':=1) ak ?_;walk_nrm;refine W1.go rfl (λ_=>au) ?_;refine W1.go rfl (λ_=>aE) ?_;refine W1.go rfl (λ_=>bh) ?_;refine dN ?_;refine gW ?_;refine zE rfl ak rV rfl func126 ai ai ai (e:=Extern.Atomic.update (Op.intArith .add) .i32 true) ai (v:=.int .i32 0) (t:=λw=>w.setCell ⟨K,off,we⟩ (.int .i32 0)) (evs:=#[⟨.cell ⟨K,off,we⟩,false,true⟩,⟨.cell ⟨K,off,we⟩,true,true⟩]) rfl (λn=>rfl) (yB _ _ _) (λn=>?_) (λn=>?_) (JL _) ?_
 ·simp only[List.map_toArray,aC,aP,Act.eval];walk_nrm;exact run_add_entry (v:=1) (d:=-1) hc hz
 ·simp only[List.map_toArray,aC,aP,Act.eval];walk_nrm;rw[events_add_entry (w:=w.at n) (v:=1) (d:=-1) hc hz];rfl
 walk_nrm;refine gW ?_;refine W1.go rfl (λ_=>au) ?_;refine W1.go rfl (λ_=>aE) ?_;refine W1.go rfl (λ_=>aE) ?_;refine W1.go rfl (λ_=>bh) ?_;refine dN ?_;refine gW ?_;refine W1.go rfl (λ_=>au) ?_;refine W1.go rfl (λ_=>eC (t:=false) aK) ?_;simp only[aQ,if_false];refine W1.go rfl (λ_=>cB) ?_;refine W1.go rfl (λ_=>bh) ?_;refine dN ?_;refine yj .enable (.inr rfl) rfl ak rV rfl func122 ai ai ai ai rfl (d':=0) ak ?_;walk_nrm;refine W0.go rfl (λ_=>au) ?_;refine W0.go rfl (λ_=>ew) ?_;refine W0.go rfl (λw6=>stepG_leave (b:=base 79) (v:=.tuple #[]) rfl rfl func79 (results_none ai _ _).1 (results_none ai _ _).2) ?_;exact Li _ o _ ⟨rfl,rfl,rfl⟩
def JM(K off:Nat)(YW:o K)(hc:w.cell? ⟨K,off,we⟩=so (.int .i32 1))(hz:w.frozen? ⟨K,off,we⟩=false)(b:Frame)(tm:Array Value)(ds:List Deferred)(todo:List Item)(cs:List Frame)(h:XB ax Fin 0 o (G {b.at ⟨tm,ds⟩ todo with mode:=.returning} cs) (w.setCell ⟨K,off,we⟩ (.int .i32 0))):
  XB ax Fin 0 o (G {b.at ⟨tm,{target:=.fn (.func 46) #[],args:=#[.pointer (so ⟨K,off,we⟩)]}::ds⟩ todo with mode:=.returning} cs) w:=by
 have W0:=bY (P:=ax) (Fin:=Fin) (d:=0);have rV:(baseD 46).kind≠.early:=by simp[baseD]
 refine W0.go rfl (λw1=>stepG_unwind_enter rfl func46 ai rfl) ?_;walk_nrmf Tryz.f46;refine W0.go rfl (λ_=>bh) ?_;refine dN ?_;refine gW ?_;refine W0.go rfl (λw1=>ql rfl ak rV rfl func79 ai rfl w1) ?_;simp only[List.map_toArray,aC,aP,Act.eval];walk_nrm;refine Qx K off YW hc hz _ _ ?_;rintro v o' w' ⟨rfl,rfl,rfl⟩;rw[eu];simp only[List.getElem?_toArray,List.getElem?_cons_succ,List.getElem?_cons_zero,Option.bind_some];walk_nrm;refine W0.go rfl (λ_=>au) ?_;refine W0.go rfl (λ_=>ew) ?_;exact W0.go rfl (λw1=>stepG_leave_deferred rfl rfl func46 (results_none ai _ _).1 (results_none ai _ _).2 rfl) h
end
def L0(n:Nat):Bool:=[15,17,18,19,20,22,26,27,29,31,33,35,39,40,41,43,47,48,50,51,52,53,56,59,60,62,66,67,68,69,70,71,72,75,76,77,80,82,83,84,85,86,87,88,89,90,91,92,93,94,95,96,97,98,100,102,103,104,105,106,107,108,109,118,119,128,129,130,131,132,133,134,135,136,137,138,139,140,141,145,146,147,148,149,150,162,163,168,176,177,178,179,180,181,185,186,187,188,189,190,191,196,197,198,199,202,204,205,206,207,208,209,210,211,212,213,214,215,216,217,218,219,220,221,222,223,224,225,226,227,228,229,230,231,232,233,234,235,236,237,238,239,240,241,242,243,244,245,246,247,248,249,250,251,252,253,254,255,256,257,258,259,260,261,262,263].contains n
def TP:([15,17,18,19,20,22,26,27,29,31,33,35,39,40,41,43,47,48,50,51,52,53,56,59,60,62,66,67,68,69,70,71,72,75,76,77,80,82,83,84,85,86,87,88,89,90,91,92,93,94,95,96,97,98,100,102,103,104,105,106,107,108,109,118,119,128,129,130,131,132,133,134,135,136,137,138,139,140,141,145,146,147,148,149,150,162,163,168,176,177,178,179,180,181,185,186,187,188,189,190,191,196,197,198,199,202,204,205,206,207,208,209,210,211,212,213,214,215,216,217,218,219,220,221,222,223,224,225,226,227,228,229,230,231,232,233,234,235,236,237,238,239,240,241,242,243,244,245,246,247,248,249,250,251,252,253,254,255,256,257,258,259,260,261,262,263]:List Nat).all (WH ax L0 4 [224,262,263])=true:=ai
def Xe(n:Nat)(hn:L0 n=true)(f:Rn)(hf:nF ax f)(hh:∀n,L0 n=true->f.h n=n)(args:Array Value):Rel ax f (jc L0 f) (callFunc n args) (callFunc n (args.map (val f))):=by
 obtain⟨fn,h1,-,h2⟩:=BG TP (aan.1 (by unfold L0 at hn;exact hn));rcases h2 with⟨h2,h3⟩|h2;rotate_left;simp only[bM,dh,or_false]at h2;rcases h2 with rfl|rfl|rfl
 rotate_right
 ·exact Fg h1 h2 h3 hn args
 ·exact oB func224 rfl ai ai rfl (hh _ ai) args (Iz _)
 ·exact oB func262 rfl ai ai rfl (hh _ ai) args (xZ _)
 ·exact oB func263 rfl ai ai rfl (hh _ ai) args (uh hf _ _ _)
def aaR(hz:∀t i z,ax.info? t=so i->i.zero=so z->∀f:Rn,val f z=z):rT ax L0 4 where
 zero:=hz
 call:=λn hn=>Xe n hn
 body:=λn hn=>by
  obtain⟨fn,h1,h2,-⟩:=BG TP (aan.1 (by unfold L0 at hn;exact hn));exact⟨fn,h1,λc hc=>by rw[hc]at h2;exact h2⟩
def TQ:ax.globals.size=4:=ai
end Go.Proofs.Kz
