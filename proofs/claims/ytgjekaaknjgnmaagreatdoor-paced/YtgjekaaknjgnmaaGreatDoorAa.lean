/- Proved: whatever raw rules and whatever script are handed in, kilnkeep.Paced answers true, whichever way the goroutines are scheduled: a build begins only five quiet ticks behind the last Intake or Abandon, reads and checks each source in turn, then publishes or abandons. Conditions: those of the given card, Rows.PacedCardSaid; none besides. (Shortened by program; readable in wip.) -/
import Derived.Conc.Own
import Derived.KernelRfl
import Derived.Laws.Sem
set_option linter.all false
set_option maxHeartbeats 40000000
set_option maxRecDepth 200000
abbrev bH:=(Nat->Prop)->Go.Goroutine->Go.World->Prop
abbrev ae:=Go.World
abbrev ah:=ByteArray
abbrev aS:=Go.Goroutine
open Go in
theorem aa{p:Prop}(h:p:=by omega):p:=h
open Go in
theorem ai{p:Prop}(h:p:=by rfl):p:=h
open Go in
theorem af{p:Prop}(h:p:=by kernel_rfl):p:=h
open Go in
theorem an{p:Prop}(h:p:=by simp):p:=h
open Go in
theorem aC{p:Prop}(h:p:=by simp[Act.eval]):p:=h
open Go in
theorem eR{p:Prop}(h:p:=by simp;omega):p:=h
open Go in
theorem eX{p:Prop}(h:p:=by first|rfl|trivial):p:=h
open Go in
theorem dh{p:Prop}(h:p:=by decide):p:=h
open Go in
theorem aka{p:Prop}(h:p:=by assumption):p:=h
open Go in
theorem kp{p:Prop}(h:p:=by simp[Op.operands]):p:=h
open Go in
theorem fa{p:Prop}(h:p:=by simp[go_sem]):p:=h
abbrev gD:=@Array.all_eq_true
abbrev iV:=@Array.all_eq_true'
abbrev gl:=@Array.any_eq_true'
abbrev cY:=@Array.append_assoc
abbrev aab:=@Array.append_empty
abbrev iF:=@Array.ext
abbrev iR:=@Array.ext_getElem?
abbrev iA:=@Array.extract_eq_self_of_le
abbrev iQ:=@Array.foldl_toList
abbrev fj:=@Array.forIn_toList
abbrev cO:=@Array.getD_eq_getD_getElem?
abbrev fF:=@Array.getElem?_append_right
abbrev aG:=@Array.getElem?_eq_getElem
abbrev cb:=@Array.getElem?_eq_none
abbrev br:=@Array.getElem?_map
abbrev er:=@Array.getElem?_modify
abbrev eZ:=@Array.getElem?_push
abbrev cT:=@Array.getElem?_push_lt
abbrev gb:=@Array.getElem?_push_size
abbrev aJ:=@Array.getElem?_setIfInBounds_ne
abbrev bR:=@Array.getElem?_setIfInBounds_self_of_lt
abbrev jl:=@Array.getElem_mem
abbrev eI:=@Array.mapM_eq_mapM_toList
abbrev fH:=@Array.map_append
abbrev dH:=@Array.map_congr_left
abbrev gL:=@Array.map_map
abbrev jv:=@Array.map_setIfInBounds
abbrev ew:=@Array.mem_of_getElem?
abbrev eL:=@Array.size_replicate
abbrev bX:=@Array.toList_map
abbrev kD:=@Bool.and_eq_true
abbrev dD:=@Bool.eq_iff_iff
abbrev fl:=@Bool.false_eq_true
abbrev aae:=@Bool.not_eq_true'
abbrev dO:=@Classical.axiomOfChoice
abbrev aO:=@Classical.byContradiction
abbrev dF:=@Go.Frame.finish_at
abbrev bV:=@Go.Conc.Goes.stop
abbrev cG:=@Iff.rfl
abbrev fh:=@Int.le_refl
abbrev gn:=@Int.lt_or_eq_of_le
abbrev fY:=@Int.toNat_of_nonneg
abbrev aac:=@List.cons.injEq
abbrev gh:=@List.eq_of_mem_replicate
abbrev aah:=@List.filter_append
abbrev gz:=@List.filter_append_perm
abbrev aaj:=@List.filter_cons_of_neg
abbrev aap:=@List.filter_cons_of_pos
abbrev jd:=@List.getElem?_append_left
abbrev iN:=@List.getElem?_append_right
abbrev cp:=@List.getElem?_eq_getElem
abbrev fB:=@List.getElem?_map
abbrev eU:=@List.getElem?_take_of_lt
abbrev fE:=@List.getElem?_toArray
abbrev eW:=@List.getElem_append_left
abbrev aD:=@List.getElem_mem
abbrev a8:=@List.getElem_of_mem
abbrev eC:=@List.length_filter_le
abbrev bG:=@List.length_map
abbrev jS:=@List.length_pos_of_mem
abbrev iD:=@List.length_take_le
abbrev jY:=@List.map_append
abbrev cU:=@List.map_congr_left
abbrev bU:=@List.map_cons
abbrev oe:=@List.map_nil
abbrev dZ:=@List.mem_append
abbrev gQ:=@List.mem_cons
abbrev bo:=@List.mem_cons_of_mem
abbrev iY:=@List.mem_cons_self
abbrev ix:=@List.mem_filter
abbrev iE:=@List.mem_map_of_mem
abbrev fK:=@List.mem_of_getElem?
abbrev gy:=@List.mem_range
abbrev iU:=@List.mem_singleton
abbrev cS:=@List.nodup_cons
abbrev kE:=@List.nodup_nil
abbrev jK:=@List.nodup_range
abbrev aad:=@List.not_mem_nil
abbrev du:=@List.perm_ext_iff_of_nodup
abbrev gR:=@List.range'_succ
abbrev il:=@List.range_eq_range'
abbrev dz:=@List.take_length
abbrev cE:=@List.take_of_length_le
abbrev de:=@Nat.add_assoc
abbrev aZ:=@Nat.eq_zero_or_pos
abbrev aaq:=@Nat.le_add_right
abbrev bq:=@Nat.le_of_eq
abbrev jO:=@Nat.le_of_lt
abbrev cL:=@Nat.le_of_not_lt
abbrev ag:=@Nat.le_refl
abbrev aR:=@Nat.le_trans
abbrev bm:=@Nat.lt_of_lt_of_le
abbrev eP:=@Nat.lt_of_not_le
abbrev bP:=@Nat.lt_or_ge
abbrev bz:=@Nat.lt_succ_self
abbrev jN:=@Nat.lt_trans
abbrev gE:=@Nat.lt_trichotomy
abbrev jh:=@Nat.mod_lt
abbrev fL:=@Nat.mod_two_eq_zero_or_one
abbrev iu:=@Nat.mul_le_mul_right
abbrev dE:=@Nat.not_lt_zero
abbrev bh:=@Nat.zero_add
abbrev aQ:=@Nat.zero_le
abbrev bc:=@Ne.symm
abbrev y7:=@Option.getD_some
abbrev cR:=@Option.map_some
abbrev aK:=@Option.some.inj
abbrev en:=@Option.some.injEq
abbrev WS:=@Prod.mk.injEq
abbrev fx:=@Std.Legacy.Range.forIn_eq_forIn_range'
abbrev gH:=@UInt8.le_antisymm
abbrev ee:=@decide_eq_false
abbrev dv:=@decide_eq_true
abbrev dT:=@getElem!_pos
abbrev jr:=@of_decide_eq_true
abbrev eB:=@Go.Conc.stepG_block
abbrev dI:=@Go.Conc.stepG_cond
abbrev dG:=@Go.Conc.stepG_end
abbrev fR:=@Go.Conc.stepG_inBlock
abbrev ig:=@Go.Conc.stepG_inLoop
abbrev jj:=@Go.Conc.stepG_loop
abbrev jk:=@Go.Conc.stepG_none
abbrev aV:=@Go.Conc.stepG_region
abbrev ak:=@Go.Conc.stepG_region_end
abbrev ax:=@Go.Conc.stepG_seq
abbrev bY:=@Go.Conc.stepG_skip
abbrev dN:=@Go.Conc.stepG_value
namespace Go.Ren
structure Rn where
 b:Nat->Nat
 h:Nat->Nat
 ty:Nat->Nat
 m:String->String
def addr(f:Rn)(a:Addr):Addr:={a with block:=f.b a.block}
def sk(f:Rn):Fn->Fn
 | .func n=>.func (f.h n)
 | .via t path n p=>.via (f.ty t) path n p
 | .method s=>.method (f.m s)
 | .methodOf t s=>.methodOf t (f.m s)
 | .yield l=>.yield (f.ty l)
def val(f:Rn):Value->Value
 | .bool b=>.bool b
 | .int k n=>.int k n
 | .float k b=>.float k b
 | .complex k x y=>.complex k x y
 | .string s=>.string s
 | .pointer a=>.pointer (a.map (addr f))
 | .slice a l c=>.slice (a.map (addr f)) l c
 | .map r=>.map (r.map f.b)
 | .chan r=>.chan (r.map f.b)
 | .func fn first captured=>.func (sk f fn) (first.map (val f)) (captured.map (val f))
 | .nilFunc=>.nilFunc
 | .iface t v=>.iface t (val f v)
 | .nilIface=>.nilIface
 | .agg cs=>.agg (cs.map (val f))
 | .tuple vs=>.tuple (vs.map (val f))
section
variable (f:Rn)
@[simp] theorem cg(b:Bool):val f (.bool b)=.bool b:=by simp[val]
@[simp] theorem cy(k:IntKind)(n:Int):val f (.int k n)=.int k n:=by simp[val]
@[simp] theorem bQ(k:FloatKind)(n:Nat):val f (.float k n)=.float k n:=by simp[val]
@[simp] theorem bw(k:FloatKind)(n m:Nat):val f (.complex k n m)=.complex k n m:=by simp[val]
@[simp] theorem bC(s:ah):val f (.string s)=.string s:=by simp[val]
@[simp] theorem aW(a:Option Addr):val f (.pointer a)=.pointer (a.map (addr f)):=by simp[val]
@[simp] theorem bt(a:Option Addr)(l c:Nat):val f (.slice a l c)=.slice (a.map (addr f)) l c:=by simp[val]
@[simp] theorem cC(r:Option Nat):val f (.map r)=.map (r.map f.b):=by simp[val]
@[simp] theorem b7(r:Option Nat):val f (.chan r)=.chan (r.map f.b):=by simp[val]
@[simp] theorem b8(g:Fn)(a b:Array Value):val f (.func g a b)=.func (sk f g) (a.map (val f)) (b.map (val f)):=by simp[val]
@[simp] theorem bB:val f .nilFunc=.nilFunc:=by simp[val]
@[simp] theorem bI(t:TypeId)(v:Value):val f (.iface t v)=.iface t (val f v):=by simp[val]
@[simp] theorem bj:val f .nilIface=.nilIface:=by simp[val]
@[simp] theorem cz(cs:Array Value):val f (.agg cs)=.agg (cs.map (val f)):=by simp[val]
@[simp] theorem bL(cs:Array Value):val f (.tuple cs)=.tuple (cs.map (val f)):=by simp[val]
@[simp] theorem S0(b o:Nat)(s:Option Nat):addr f ⟨b,o,s⟩=⟨f.b b,o,s⟩:=rfl
@[simp] theorem va(a:Addr):(addr f a).block=f.b a.block:=rfl
@[simp] theorem Am(a:Addr):(addr f a).off=a.off:=rfl
@[simp] theorem MB(a:Addr):(addr f a).spot=a.spot:=rfl
theorem jP(a:Addr)(n:Nat):addr f (a.add n)=(addr f a).add n:=by
 unfold Addr.add addr;split<;>rfl
theorem jT(v:Value):(val f v).cells=v.cells.map (val f):=by
 cases v<;>simp[Value.cells]
theorem kM:val f undef=undef:=by simp[undef]
end
def entry(f:Rn)(e:MapEntry):MapEntry:={e with key:=val f e.key,val:=val f e.val}
def obj(f:Rn):Obj->Obj
 | .cells c e z=>.cells (c.map (val f)) e z
 | .pending c e=>.pending (c.map (val f)) e
 | .view a t=>.view (addr f a) t
 | .number a l=>.number (addr f a) l
 | .map es c=>.map (es.map (entry f)) c
 | .chan cap buf cl s r t=>.chan cap (buf.map (val f)) cl s r t
 | .stringIter s p=>.stringIter s p
 | .mapIter m s x n=>.mapIter (m.map f.b) s x n
 |o=>o
def target(f:Rn):Target->Target
 | .fn fn captured=>.fn (sk f fn) (captured.map (val f))
 |t=>t
def deferred(f:Rn)(d:Deferred):Deferred:={target:=target f d.target,args:=d.args.map (val f)}
def Jo(f:Rn):Mark->Mark
 | .acquire a=>.acquire (addr f a)
 | .release a=>.release (addr f a)
 | .releaseMerge a=>.releaseMerge (addr f a)
 | .read a=>.read (addr f a)
 | .write a=>.write (addr f a)
 | .extern n=>.extern (f.h n)
 |m=>m
def Jp:Mark->Bool
 | .extern _|.noRoom=>true
 |_=>false
def eF:Obj->Bool
 | .pending ..=>true
 |_=>false
def ZQ:Sys->Bool
 | .env=>true
 |_=>false
def nN:Halt->Bool
 | .unsupported (.initOrder _)=>false
 | .unsupported _=>true
 | .stuck _=>true
 |_=>false
def Rel(P:Program)(f:Rn){α β:Type}(A:α->β->Prop):Sem α->Sem β->Prop
 | .pure a,.pure a'=>A a a'
 | .load m x k,.load m' x' k'=>m'=m/\x'=addr f x/\∀v,Rel P f A (k v) (k' (val f v))
 | .store m x v k,.store m' x' v' k'=>m'=m/\x'=addr f x/\v'=val f v/\Rel P f A k k'
 | .new o k,.new o' k'=>o'=obj f o/\eF o=false/\∀r,Rel P f A (k r) (k' (f.b r))
 | .shape r k,.shape r' k'=>r'=f.b r/\∀x,Rel P f A (k x) (k' x)
 | .freeze a n k,.freeze a' n' k'=>a'=addr f a/\n'=n/\Rel P f A k k'
 | .frozen a k,.frozen a' k'=>a'=addr f a/\∀b,Rel P f A (k b) (k' b)
 | .getObj r k,.getObj r' k'=>r'=f.b r/\∀o,Rel P f A (k o) (k' (obj f o))
 | .setObj r o k,.setObj r' o' k'=>r'=f.b r/\o'=obj f o/\eF o=false/\Rel P f A k k'
 | .choose q k,.choose q' k'=>q'=q/\∀n,Rel P f A (k n) (k' n)
 | .sys c k,.sys c' k'=>c'=c/\ZQ c=true/\∀r,Rel P f A (k r) (k' r)
 | .program k,.program k'=>Rel P f A (k P) (k' P)
 | .mark m k,.mark m' k'=>m'=Jo f m/\Jp m=true/\Rel P f A k k'
 | .halt (.panic _),_=>True
 | .halt h,_=>nN h=true
 |_,_=>False
section
variable {P:Program} {f:Rn} {α β γ δ:Type} {A:α->β->Prop} {B:γ->δ->Prop}
theorem au{a:α}{b:β}(h:A a b):Rel P f A (.pure a) (.pure b):=h
theorem sn{h:Halt}{s:Sem β}(hn:nN h=true):Rel P f A (.halt h) s:=by
 cases h<;>first|exact Bool.noConfusion hn|(cases s<;>exact hn)
theorem az{Wz:String}{s:Sem β}:Rel P f A (stuck Wz) s:=sn rfl
theorem aT{u:Unsupported}{s:Sem β}(h:nN (.unsupported u)=true:=by rfl):Rel P f A (unsupported u) s:=sn h
theorem so{v:Value}:Rel P f A (goPanic v) (goPanic (val f v)):=by simp[goPanic,Rel]
theorem aj:∀{s:Sem α} {s':Sem β} {k:α->Sem γ} {k':β->Sem δ},Rel P f A s s'->(∀a b,A a b->Rel P f B (k a) (k' b))->Rel P f B (s.bind k) (s'.bind k'):=by
 intro s
 induction s with
 |pure a=>intro s' k k' h hk;cases s'<;>simp only[Rel] at h;exact hk _ _ h
 |load m x qj ih=>intro s' k k' h hk;cases s'<;>simp only[Rel] at h;exact⟨h.1,h.2.1,fun v=>ih v (h.2.2 v) hk⟩
 |store m x v qj ih=>intro s' k k' h hk;cases s'<;>simp only[Rel] at h;exact⟨h.1,h.2.1,h.2.2.1,ih h.2.2.2 hk⟩
 |new o qj ih=>intro s' k k' h hk;cases s'<;>simp only[Rel] at h;exact⟨h.1,h.2.1,fun v=>ih v (h.2.2 v) hk⟩
 |shape r qj ih=>intro s' k k' h hk;cases s'<;>simp only[Rel] at h;exact⟨h.1,fun v=>ih v (h.2 v) hk⟩
 |freeze a n qj ih=>intro s' k k' h hk;cases s'<;>simp only[Rel] at h;exact⟨h.1,h.2.1,ih h.2.2 hk⟩
 |frozen a qj ih=>intro s' k k' h hk;cases s'<;>simp only[Rel] at h;exact⟨h.1,fun v=>ih v (h.2 v) hk⟩
 |getObj r qj ih=>intro s' k k' h hk;cases s'<;>simp only[Rel] at h;exact⟨h.1,fun v=>ih v (h.2 v) hk⟩
 |setObj r o qj ih=>intro s' k k' h hk;cases s'<;>simp only[Rel] at h;exact⟨h.1,h.2.1,h.2.2.1,ih h.2.2.2 hk⟩
 |choose q qj ih=>intro s' k k' h hk;cases s'<;>simp only[Rel] at h;exact⟨h.1,fun v=>ih v (h.2 v) hk⟩
 |sys c qj ih=>intro s' k k' h hk;cases s'<;>simp only[Rel] at h;exact⟨h.1,h.2.1,fun v=>ih v (h.2.2 v) hk⟩
 |program qj ih=>intro s' k k' h hk;cases s'<;>simp only[Rel] at h;exact ih P h hk
 |mark m qj ih=>intro s' k k' h hk;cases s'<;>simp only[Rel] at h;exact⟨h.1,h.2.1,ih h.2.2 hk⟩
 |halt aei =>
  intro s' k k' h hk;cases aei with
  |panic v=>simp only[Sem.bind];cases s'.bind k'<;>simp only[Rel]
  |_=>exact sn (by cases s'<;>exact h)
theorem FZ{A':α->β->Prop}:∀{s:Sem α} {s':Sem β},Rel P f A s s'->(∀a b,A a b->A' a b)->Rel P f A' s s':=by
 intro s s' h hA;have:=aj (B:=A') (k:=.pure) (k':=.pure) h (fun a b h=>hA a b h);have e1:∀{α:Type} (s:Sem α),s.bind .pure=s:=by
  intro α s
  induction s with
  |frozen a k ih=>simp only[Sem.bind];congr 1;funext b;exact ih b
  |_=>simp_all[Sem.bind]
 rwa[e1,e1] at this
end
structure iZ where
 K:Nat->Prop
 φ:Nat->Nat
 L:Nat->Prop
 G:Nat
structure Dp(F:iZ):Prop where
 high:∀r,F.K r->F.G<=r->F.G<=F.φ r
 vars:(∀r,r<F.G->F.K r/\F.φ r=r)\/((∀r,r<F.G->¬F.K r)/\F.G≠1)
structure iZ.has(F:iZ)(f:Rn):Prop where
 inj:∀x y,f.b x=f.b y->x=y
 at_:∀r,F.K r->f.b r=F.φ r
 fn:∀n,F.L n->f.h n=n
 jF:∀r,f.b r<F.G↔r<F.G
structure WR(F:iZ)(wl wr:ae):Prop where
 here:∀r,F.K r->r<wl.heap.size
 there:∀r,F.K r->F.φ r<wr.heap.size
 inj:∀r s,F.K r->F.K s->F.φ r=F.φ s->r=s
 sr:∀r,F.K r->∀f,F.has f->wr.heap[F.φ r]?=(wl.heap[r]?).map (obj f)
 OT:∀r,F.K r->∀o,wl.heap[r]?=some o->eF o=false
 os:wr.os=wl.os
 output:wr.output=wl.output
 tape:wr.tape=wl.tape
 drawn:wr.drawn=wl.drawn
 zu:Dp F
 Eu:F.G<=wr.heap.size
 CC:F.G<=wl.heap.size
section
variable {F:iZ} {wl wr:ae}
theorem WR.two(W:WR F wl wr):∃f g:Rn,F.has f/\F.has g/\(∀r,¬F.K r->f.b r≠g.b r)/\(∀n,¬F.L n->f.h n≠g.h n)/\(∀t,f.ty t≠g.ty t)/\(∀s,f.m s≠g.m s):=by
 classical
 have hG:=W.Eu;have low:∀x,F.K x->x<F.G->F.φ x=x:=fun x hx bZ=>W.zu.vars.elim (fun h=>(h x bZ).2) (fun h=>absurd hx (h.1 x bZ));have up:=W.zu.high;have none:∀x,¬F.K x->x<F.G->(∀y,F.K y->F.G<=y)/\F.G≠1:=fun x hx bZ=>W.zu.vars.elim (fun h=>absurd (h x bZ).1 hx) (fun h=>⟨fun y hy=>cL fun hl=>h.1 y hl hy,h.2⟩);refine⟨⟨fun x=>if F.K x then F.φ x else if x<F.G then x else wr.heap.size+x,fun n=>n,fun n=>n,fun s=>s⟩,⟨fun x=>if F.K x then F.φ x else if x<F.G then(if x+1=F.G then 0 else x+1) else wr.heap.size+1+x,fun n=>if F.L n then n else n+1,fun n=>n+1,fun s=>s ++ "x"⟩,⟨?_,?_,?_,?_⟩,⟨?_,?_,?_,?_⟩,?_,?_,?_,?_⟩
 ·intro x y h;by_cases hx:F.K x<;>by_cases hy:F.K y<;>simp only[hx,hy,if_true,if_false] at h
  ·exact W.inj _ _ hx hy h
  ·have:=W.there _ hx;split at h
   ·have h1:=(none y hy ‹_›).1 x hx;have:=up x hx h1;omega
   ·omega
  ·have:=W.there _ hy;split at h
   ·have h1:=(none x hx ‹_›).1 y hy;have:=up y hy h1;omega
   ·omega
  ·split at h<;>split at h<;>omega
 ·intro r h;simp[h]
 ·intro n h;rfl
 ·intro r;by_cases hr:F.K r
  ·simp only[hr,if_true];constructor
   ·intro h;exact eP fun hle=>by have:=up r hr hle;omega
   ·intro h;rw[low r hr h];exact h
  ·simp only[hr,if_false];split<;>omega
 ·intro x y h;by_cases hx:F.K x<;>by_cases hy:F.K y<;>simp only[hx,hy,if_true,if_false] at h
  ·exact W.inj _ _ hx hy h
  ·have:=W.there _ hx;split at h
   ·have h1:=(none y hy ‹_›).1 x hx;have:=up x hx h1;split at h<;>omega
   ·omega
  ·have:=W.there _ hy;split at h
   ·have h1:=(none x hx ‹_›).1 y hy;have:=up y hy h1;split at h<;>omega
   ·omega
  ·split at h<;>split at h<;>(try split at h)<;>(try split at h)<;>omega
 ·intro r h;simp[h]
 ·intro n h;simp[h]
 ·intro r;by_cases hr:F.K r
  ·simp only[hr,if_true];constructor
   ·intro h;exact eP fun hle=>by have:=up r hr hle;omega
   ·intro h;rw[low r hr h];exact h
  ·simp only[hr,if_false];split
   ·split<;>omega
   ·omega
 ·intro r h;simp only[h,if_false];split
  ·have:=(none r h ‹_›).2;split<;>omega
  ·omega
 ·intro n h;simp only[h,if_false];omega
 ·intro t;simp only[];omega
 ·intro s h;have:=congrArg String.length h;simp at this
theorem WR.ZR(W:WR F wl wr){r r':Nat}(h:∀f,F.has f->r'=f.b r):F.K r/\r'=F.φ r:=by
 obtain⟨f,g,hf,hg,hb,_,_⟩:=W.two;have hK:F.K r:=aO fun hn=>hb r hn ((h f hf).symm.trans (h g hg));exact⟨hK,(h f hf).trans (hf.at_ r hK)⟩
theorem WR.some(W:WR F wl wr):∃f,F.has f:=let ⟨f,_,hf,_⟩:=W.two;⟨f,hf⟩
theorem WR.put(W:WR F wl wr){b:Nat}{o o':Obj}{aI oT:ae}(hb:F.K b)(ho:∀f,F.has f->o'=obj f o)(hp:eF o=false)(zl:aI.heap.size=wl.heap.size)(l1:aI.heap[b]?=.some o)(l2:∀r,r≠b->aI.heap[r]?=wl.heap[r]?)(zr:oT.heap.size=wr.heap.size)(r1:oT.heap[F.φ b]?=.some o')(r2:∀r,r≠F.φ b->oT.heap[r]?=wr.heap[r]?)(os:oT.os=aI.os)(ou:oT.output=aI.output)(ta:oT.tape=aI.tape)(dr:oT.drawn=aI.drawn):WR F aI oT where
 here r h:=by rw[zl];exact W.here r h
 there r h:=by rw[zr];exact W.there r h
 inj:=W.inj
 sr r h f hf:=by
  by_cases e:r=b
  ·subst e;rw[r1,l1,ho f hf];rfl
  ·rw[l2 r e,r2 _ (fun h'=>e (W.inj _ _ h hb h'))];exact W.sr r h f hf
 OT r h x hx:=by
  by_cases e:r=b
  ·subst e;rw[l1] at hx;cases hx;exact hp
  ·rw[l2 r e] at hx;exact W.OT r h x hx
 os:=os
 output:=ou
 tape:=ta
 drawn:=dr
 zu:=W.zu
 Eu:=by rw[zr];exact W.Eu
 CC:=by rw[zl];exact W.CC
end
def iZ.add(F:iZ)(n n':Nat):iZ:={F with K:=fun r=>F.K r\/r=n,φ:=fun r=>if r=n then n' else F.φ r}
theorem iZ.Ev{F:iZ}{n n':Nat}(hn:¬F.K n){f:Rn}(h:(F.add n n').has f):F.has f :=
 ⟨h.inj,fun r hr=>by
  have:=h.at_ r (.inl hr);simp only[iZ.add] at this;rwa[if_neg (by rintro rfl;exact hn hr)] at this,h.fn,h.jF⟩
theorem iZ.Ta{F:iZ}{n n':Nat}{f:Rn}(h:(F.add n n').has f):f.b n=n':=by
 have:=h.at_ n (.inr rfl);simpa[iZ.add] using this
theorem WR.alloc{F:iZ}{wl wr:ae}(W:WR F wl wr){o o':Obj}(ho:∀f,F.has f->o'=obj f o)(hp:eF o=false):
  WR (F.add wl.heap.size wr.heap.size) {wl with heap:=wl.heap.push o} {wr with heap:=wr.heap.push o'} where
 here r h:=by
  rcases h with h|rfl
  ·have:=W.here r h;simp;omega
  ·simp
 there r h:=by
  simp only[iZ.add];rcases h with h|rfl
  ·have:=W.here r h;have:=W.there r h;simp;split<;>omega
  ·simp
 inj r s h k e:=by
  simp only[iZ.add] at e;rcases h with h|rfl<;>rcases k with k|rfl
  ·have h1:=W.here r h;have h2:=W.here s k;rw[if_neg aa,if_neg aa] at e;exact W.inj _ _ h k e
  ·have h1:=W.here r h;have h2:=W.there r h;rw[if_neg aa,if_pos rfl] at e;omega
  ·have h1:=W.here s k;have h2:=W.there s k;rw[if_pos rfl,if_neg aa] at e;omega
  ·rfl
 sr r h f hf:=by
  have hK:¬F.K wl.heap.size:=fun h=>by have:=W.here _ h;omega
  have hf':=iZ.Ev hK hf;rcases h with h|rfl
  ·have h1:=W.here r h;have h2:=W.there r h;have e:=W.sr r h f hf';simp only[iZ.add];rw[if_neg aa,cT h2,cT h1];rw[aG h2,aG h1] at e;exact e
  ·simp only[iZ.add,if_true];rw[gb,gb,ho f hf'];rfl
 OT r h x hx:=by
  rcases h with h|rfl
  ·have h1:=W.here r h;rw[cT h1] at hx;exact W.OT r h x (by rw[aG h1];exact hx)
  ·rw[gb] at hx;cases hx;exact hp
 os:=W.os
 output:=W.output
 tape:=W.tape
 drawn:=W.drawn
 zu:=by
  have h1:=W.CC;refine⟨fun r hr bZ=>?_,?_⟩
  ·simp only[iZ.add] at bZ |-;split
   ·exact W.Eu
   ·rcases hr with hr|hr
    ·exact W.zu.high r hr bZ
    ·exact absurd hr ‹_›
  ·rcases W.zu.vars with h|h
   ·left;intro r hr;have:=h r hr;refine⟨.inl this.1,?_⟩;simp only[iZ.add] at hr |-;rw[if_neg aa];exact this.2
   ·right;refine⟨fun r hr hk=>?_,h.2⟩;rcases hk with hk|hk
    ·exact h.1 r hr hk
    ·simp only[iZ.add] at hr;omega
 Eu:=by have:=W.Eu;simp[iZ.add];omega
 CC:=by have:=W.CC;simp[iZ.add];omega
structure eJ(F F':iZ)(wl wr aI oT:ae):Prop where
 K:∀r,F.K r->F'.K r
 φ:∀r,F.K r->F'.φ r=F.φ r
 L:F'.L=F.L
 vb:∀r,F'.K r->F.K r\/(wl.heap.size<=r/\wr.heap.size<=F'.φ r)
 An:wl.heap.size<=aI.heap.size
 size:wr.heap.size<=oT.heap.size
 mine:∀b,wr.heap.size<=b->b<oT.heap.size->∃r,F'.K r/\F'.φ r=b
 rest:∀b,(∀r,F'.K r->F'.φ r≠b)->oT.heap[b]?=wr.heap[b]?
 G:F'.G=F.G
 zu:Dp F->Dp F'
 Pb:aI.os=wl.os
 Ao:aI.output=wl.output
 same:wl.heap.size=wr.heap.size->aI.heap.size=oT.heap.size/\∀r,F'.K r->F.K r\/F'.φ r=r
theorem eJ.refl(F:iZ)(wl wr:ae):eJ F F wl wr wl wr :=
 ⟨fun _ h=>h,fun _ _=>rfl,rfl,fun _ h=>.inl h,ag _,ag _,fun _ h k=>aa,fun _ _=>rfl,rfl,id,rfl,rfl,fun h=>⟨h,fun _ k=>.inl k⟩⟩
theorem eJ.trans{F F₁ ZS:iZ}{wl wr wl₁ wr₁ Vo Vp:ae}(h:eJ F F₁ wl wr wl₁ wr₁)(k:eJ F₁ ZS wl₁ wr₁ Vo Vp):eJ F ZS wl wr Vo Vp where
 K r x:=k.K r (h.K r x)
 φ r x:=(k.φ r (h.K r x)).trans (h.φ r x)
 L:=k.L.trans h.L
 vb r x:=by
  rcases k.vb r x with y|⟨y,z⟩
  ·rcases h.vb r y with a|⟨a,b⟩
   ·exact .inl a
   ·exact .inr ⟨a,by rw[k.φ r y];exact b⟩
  ·have:=h.An;have:=h.size;exact .inr ⟨aa,aa⟩
 An:=aR h.An k.An
 size:=aR h.size k.size
 mine b x y:=by
  by_cases hb:b<wr₁.heap.size
  ·obtain⟨r,a,c⟩:=h.mine b x hb;exact⟨r,k.K r a,by rw[k.φ r a];exact c⟩
  ·exact k.mine b aa y
 rest b x:=by
  rw[k.rest b x];exact h.rest b fun r hr=>by
   have:=x r (k.K r hr);rwa[k.φ r hr] at this
 G:=k.G.trans h.G
 zu x:=k.zu (h.zu x)
 Pb:=k.Pb.trans h.Pb
 Ao:=k.Ao.trans h.Ao
 same e:=⟨(k.same (h.same e).1).1,fun r hr=>by
  rcases(k.same (h.same e).1).2 r hr with x|x
  ·rcases(h.same e).2 r x with y|y
   ·exact .inl y
   ·exact .inr ((k.φ r x).trans y)
  ·exact .inr x⟩
def vF(F:iZ)(e:Event):Prop :=
 match e.loc with
 | .cell a=>∃r,F.K r/\F.φ r=a.block
 | .obj b=>∃r,F.K r/\F.φ r=b
 | .mark m=>Jp m=true
 |_=>True
def OU(F:iZ)(es lB:Array Event):Prop:=∃new:Array Event,lB=es++new/\∀e∈new,vF F e
theorem OU.refl(F:iZ)(es:Array Event):OU F es es:=⟨#[],an,an⟩
theorem OU.push{F:iZ}{es lB:Array Event}{e:Event}(h:OU F (es.push e) lB)(he:vF F e):OU F es lB:=by
 obtain⟨n,rfl,hn⟩:=h;refine⟨#[e]++n,by rw[<- cY,Array.append_singleton],?_⟩;intro x hx;rcases Array.mem_append.1 hx with hx|hx
 ·simp at hx;subst hx;exact he
 ·exact hn x hx
theorem OU.app{F:iZ}{es lB m:Array Event}(h:OU F (es++m) lB)(he:∀e∈m,vF F e):OU F es lB:=by
 obtain⟨n,rfl,hn⟩:=h;refine⟨m++n,by simp[Array.append_assoc],?_⟩;intro x hx;rcases Array.mem_append.1 hx with hx|hx
 ·exact he x hx
 ·exact hn x hx
section
variable (f:Rn)
theorem Dq(v:Value):(val f v).bytes?=v.bytes?:=by cases v<;>simp[Value.bytes?]
theorem F6(v:Value)(bs:List UInt8):(val f v).ofBytes bs=v.ofBytes bs:=by cases v<;>simp[Value.ofBytes]
theorem uw{Jq v:Value}{bs:List UInt8}(h:Jq.ofBytes bs=some v):val f v=v:=by
 cases Jq<;>simp only[Value.ofBytes] at h
 case bool=>split at h<;>first|(cases h;simp;done)|cases h
 case int=>split at h<;>first|(cases h;simp;done)|cases h
 case float=>split at h<;>first|(cases h;simp;done)|cases h
 case complex=>split at h<;>first|(cases h;simp;done)|cases h
 all_goals cases h
theorem CE(p:Program)(c:Array Value)(e:TypeId):∀fuel x stop,seenCells p (c.map (val f)) e fuel x stop=seenCells p c e fuel x stop:=by
 intro fuel
 induction fuel with
 |zero=>intro x stop;rfl
 |succ n ih =>
  intro x stop;simp only[seenCells,br];split
  ·rfl
  ·split
   ·rfl
   ·split
    ·rfl
    ·rename_i i s _;cases hc:c[i]? with
     |none=>simp
     |some v =>
      simp only[cR,Dq];cases hb:v.bytes? with
      |none=>rfl
      |some bs=>cases bs<;>simp[ih]
end
section
variable {f:Rn} {wl wr:ae} {p:Program}
theorem F7{at_ at' k k':Addr}{u:TypeId}{atomic:Bool}(hh:wr.heap[at'.block]?=(wl.heap[at_.block]?).map (obj f))(ho:at'.off=at_.off)(hs:at'.spot=at_.spot)(ko:k'.off=k.off)(ks:k'.spot=k.spot):
  wr.seen p at' u k' atomic=(wl.seen p at_ u k atomic).map (fun x=>(x.1.map (val f),x.2)):=by
 unfold World.seen;rw[hh,ho,hs,ko,ks];by_cases h1:(k.spot.isSome||at_.spot.isSome)=true
 ·simp only[h1,if_true];rfl
 ·simp only[h1,if_false];cases hl:plainCell p p.depth u k.off with
  |none=>rfl
  |some lk =>
   cases hb:Option.map (fun x=>x.length) lk.bytes? with
   |none=>simp[hb];rfl
   |some sz =>
    cases WA:byteOfCell p p.depth u k.off with
    |none=>simp[hb,WA];rfl
    |some β =>
     cases ho:wl.heap[at_.block]? with
     |none=>simp[hb,WA];rfl
     |some o =>
      cases o<;>simp[hb,WA,obj]<;>try rfl
      simp only[CE];rename_i c e z;by_cases h0:p.cellsOf e=0
      ·simp only[h0,if_true];rfl
      ·simp only[h0,if_false];cases Y1:byteOfCell p p.depth e (at_.off%p.cellsOf e) with
       |none=>rfl
       |some b0 =>
        simp only[];cases ZT:seenCells p c e (sz+1) (at_.off/p.cellsOf e*p.bytesOf e+b0+β) (at_.off/p.cellsOf e*p.bytesOf e+b0+β+sz) with
        |error=>rfl
        |ok cells =>
         cases atomic with
         |false=>rfl
         |true =>
          rcases cells with _|⟨⟨a,s,bs⟩,_|_⟩
          ·rfl
          ·simp only[bind,Except.bind];simp only[if_true];split<;>rfl
          ·rfl
theorem seen_cells{at_ k:Addr}{u:TypeId}{atomic:Bool}{c:Array Value}{e:TypeId}{z:Nat×Nat}{x:Nat×Value×List (Nat×Nat×List UInt8)}(h:wl.seen p at_ u k atomic=.ok (c,e,z,x)):wl.heap[at_.block]?=some (.cells c e z):=by
 unfold World.seen at h;by_cases h1:(k.spot.isSome||at_.spot.isSome)=true
 ·simp only[h1,if_true] at h;cases h
 ·simp only[h1,if_false] at h;cases hl:plainCell p p.depth u k.off with
  |none=>simp[hl] at h
  |some lk =>
   cases hb:Option.map (fun x=>x.length) lk.bytes? with
   |none=>simp[hl,hb] at h
   |some sz =>
    cases WA:byteOfCell p p.depth u k.off with
    |none=>simp[hl,hb,WA] at h
    |some β =>
     cases ho:wl.heap[at_.block]? with
     |none=>simp[hl,hb,WA,ho] at h
     |some o =>
      cases o<;>simp[hl,hb,WA,ho] at h<;>try (cases h;done)
      rename_i c e z;by_cases h0:p.cellsOf e=0
      ·simp only[h0,if_true] at h;cases h
      ·simp only[h0,if_false] at h;cases Y1:byteOfCell p p.depth e (at_.off%p.cellsOf e) with
       |none=>simp only[Y1] at h;cases h
       |some b0 =>
        simp only[Y1] at h;cases ZT:seenCells p c e (sz+1) (at_.off/p.cellsOf e*p.bytesOf e+b0+β) (at_.off/p.cellsOf e*p.bytesOf e+b0+β+sz) with
        |error=>simp only[ZT] at h;cases h
        |ok cells =>
         simp only[ZT] at h;cases atomic with
         |false=>cases h;rfl
         |true =>
          rcases cells with _|⟨⟨a,s,bs⟩,_|_⟩
          ·cases h
          ·simp only[bind,Except.bind] at h;simp only[if_true] at h;split at h<;>first|(cases h;rfl;done)|cases h
          ·cases h
theorem Ew{at_ at' k k':Addr}{u:TypeId}{atomic:Bool}{v:Value}{ts:List Addr}(hh:wr.heap[at'.block]?=(wl.heap[at_.block]?).map (obj f))(ho:at'.off=at_.off)(hs:at'.spot=at_.spot)(ko:k'.off=k.off)(ks:k'.spot=k.spot)(h:wl.viewLoad p at_ u k atomic=.ok (v,ts)):
  (∀g:Rn,val g v=v)/\∃OV,wr.viewLoad p at' u k' atomic=.ok (v,OV)/\∀a∈OV,a.block=at'.block:=by
 unfold World.viewLoad at *;rw[F7 (f:=f) hh ho hs ko ks];cases hc:wl.seen p at_ u k atomic with
 |error=>rw[hc] at h;cases h
 |ok x =>
  obtain⟨c,e,z,first,Jq,cells⟩:=x;rw[hc] at h;simp only[Except.map,bind,Except.bind] at h |-;split at h
  ·rename_i v' hv;cases h;refine⟨fun g=>uw g hv,cells.map fun x=>{block:=at'.block,off:=x.1},?_,?_⟩
   ·rfl
   ·intro a ha;obtain⟨x,_,rfl⟩:=List.mem_map.1 ha;rfl
  ·cases h
theorem CF{g:Array Value->Nat×Nat×List UInt8->Except String (Array Value)}(hg:∀c x c1,g c x=.ok c1->g (c.map (val f)) x=.ok (c1.map (val f))):
  ∀(cells:List (Nat×Nat×List UInt8)) (c c2:Array Value),cells.foldlM (init:=c) g=.ok c2->cells.foldlM (init:=c.map (val f)) g=.ok (c2.map (val f)):=by
 intro cells
 induction cells with
 |nil=>intro c c2 h;cases h;rfl
 |cons x xs ih =>
  intro c c2 h;simp only[List.foldlM_cons] at h |-;cases hx:g c x with
  |error=>rw[hx] at h;cases h
  |ok c1 =>
   rw[hx] at h;rw[hg _ _ _ hx];exact ih c1 c2 h
theorem Ls{α β:Type}{x:Except String α}{k:α->Except String β}{y:β}(h:(x>>=k)=.ok y):∃v,x=.ok v/\k v=.ok y:=by
 cases x with
 |error=>cases h
 |ok v=>exact⟨v,rfl,h⟩
theorem pX{at_ at' k k':Addr}{u:TypeId}{atomic:Bool}{v:Value}{aI:ae}{ts:List Addr}(hh:wr.heap[at'.block]?=(wl.heap[at_.block]?).map (obj f))(ho:at'.off=at_.off)(hs:at'.spot=at_.spot)(ko:k'.off=k.off)(ks:k'.spot=k.spot)(h:wl.viewStore p at_ u k v atomic=.ok (aI,ts)):
  ∃c e z OV,at_.block<wl.heap.size/\aI={wl with heap:=wl.heap.setIfInBounds at_.block (.cells c e z)} /\
   wr.viewStore p at' u k' (val f v) atomic=.ok ({wr with heap:=wr.heap.setIfInBounds at'.block (.cells (c.map (val f)) e z)},OV)/\∀a∈OV,a.block=at'.block:=by
 unfold World.viewStore at *;rw[F7 (f:=f) hh ho hs ko ks,Dq];by_cases ht:(!tight p p.depth u)=true
 ·simp only[ht,if_true] at h;cases h
 ·simp only[ht,if_false] at h |-;obtain⟨x,hc,h⟩:=Ls h;obtain⟨c,e,z,first,Jq,cells⟩:=x;have ZT:=seen_cells hc;rw[hc];simp only[] at h;cases hb:v.bytes? with
  |none=>rw[hb] at h;cases h
  |some bytes =>
   rw[hb] at h;simp only[] at h |-;by_cases hl:(some bytes.length≠Jq.bytes?.map (·.length))
   ·rw[if_pos hl] at h;cases h
   ·rw[if_neg hl] at h;obtain⟨c2,Vq,h⟩:=Ls h;cases h;have:=CF (f:=f) (fun c (x:Nat×Nat×List UInt8) c1 hx=>by
       simp only[br] at hx |-;by_cases h1:(decide (x.2.1<first)||decide (x.2.1+x.2.2.length>first+bytes.length))=true
       ·simp only[h1,if_true] at hx;cases hx
       ·by_cases h2:(decide (z.1<=x.1)&&decide (x.1<z.2))=true
        ·simp only[h1,h2,if_true,if_false] at hx;cases hx
        ·simp only[h1,h2,if_false] at hx |-;cases ho:c[x.1]? with
         |none=>simp only[ho] at hx;cases hx
         |some old =>
          simp only[ho,cR,F6] at hx |-;cases hn:old.ofBytes ((bytes.drop (x.2.1-first)).take x.2.2.length) with
          |none=>simp only[hn] at hx;cases hx
          |some new =>
           simp only[hn] at hx |-;cases hx;have:=uw f hn;show Except.ok _=Except.ok _;rw[jv,this]) cells c c2 Vq
    refine⟨c2,e,z,cells.map fun x=>{block:=at'.block,off:=x.1},(Array.getElem?_eq_some_iff.1 ZT).1,rfl,?_,?_⟩
    ·simp only[Except.map,bind,Except.bind];rw[if_neg hl];simp only[bind,Except.bind] at this;rw[this];rfl
    ·intro a ha;obtain⟨x,_,rfl⟩:=List.mem_map.1 ha;rfl
end
theorem Pd{α:Type}:∀(q:Ask α) (wl wr:ae),wr.tape=wl.tape->wr.drawn=wl.drawn ->
  (wr.ask q).1=(wl.ask q).1/\(wl.ask q).2={wl with drawn:=(wl.ask q).2.drawn}/\(wr.ask q).2={wr with drawn:=(wl.ask q).2.drawn}:=by
 intro q
 induction q with
 |done a=>intro wl wr _ hd;exact⟨rfl,rfl,by simp[World.ask,<- hd]⟩
 |ask what range k ih =>
  intro wl wr ht hd;obtain⟨hp,tp,dw,o,ou⟩:=wr;simp only at ht hd;subst ht hd;simp only[World.ask];split
  ·exact ih 0 wl ⟨hp,wl.tape,wl.drawn,o,ou⟩ rfl rfl
  ·obtain⟨h1,h2,h3⟩:=ih ((Question.extern what range).cut (wl.tape wl.drawn (Question.extern what range))) {wl with drawn:=wl.drawn+1} ⟨hp,wl.tape,wl.drawn+1,o,ou⟩ rfl rfl;exact⟨h1,by rw[h2],by rw[h3]⟩
theorem F9(c:Sys){wl wr:ae}(ht:wr.tape=wl.tape)(hd:wr.drawn=wl.drawn)(ho:wr.os=wl.os):
  (wr.sys c).1=(wl.sys c).1/\∃d o,(wl.sys c).2={wl with drawn:=d,os:=o}/\(wr.sys c).2={wr with drawn:=d,os:=o}:=by
 unfold World.sys;rw[ho];obtain⟨h1,h2,h3⟩:=Pd (Kernel.perform c wl.os) wl wr ht hd;generalize hl:wl.ask (Kernel.perform c wl.os)=x at *;generalize hr:wr.ask (Kernel.perform c wl.os)=y at *;obtain⟨⟨a,b⟩,xw⟩:=x;obtain⟨⟨a',b'⟩,yw⟩:=y;simp only[WS] at h1 h2 h3;obtain⟨rfl,rfl⟩:=h1;cases a'
 case wouldBlock=>exact⟨rfl,wl.drawn,wl.os,rfl,by simp[<- hd,<- ho]⟩
 all_goals exact⟨rfl,xw.drawn,b',by simp only[];rw[h2],by simp only[];rw[h3]⟩
section
variable {F:iZ} {wl wr:ae}
theorem WR.env(W:WR F wl wr){aI oT:ae}(hl:aI.heap=wl.heap)(hr:oT.heap=wr.heap)(os:oT.os=aI.os)(ou:oT.output=aI.output)(ta:oT.tape=aI.tape)(dr:oT.drawn=aI.drawn):WR F aI oT where
 here r h:=by rw[hl];exact W.here r h
 there r h:=by rw[hr];exact W.there r h
 inj:=W.inj
 sr r h f hf:=by rw[hl,hr];exact W.sr r h f hf
 OT r h o ho:=W.OT r h o (by rw[<- hl];exact ho)
 os:=os
 output:=ou
 tape:=ta
 drawn:=dr
 zu:=W.zu
 Eu:=by rw[hr];exact W.Eu
 CC:=by rw[hl];exact W.CC
theorem eJ.env{aI oT:ae}(hl:aI.heap=wl.heap)(hr:oT.heap=wr.heap)(ho:aI.os=wl.os)(hu:aI.output=wl.output):eJ F F wl wr aI oT :=
 ⟨fun _ h=>h,fun _ _=>rfl,rfl,fun _ h=>.inl h,by rw[hl];exact ag _,by rw[hr];exact ag _,fun _ h k=>by rw[hr] at k;omega,fun _ _=>by rw[hr],rfl,id,ho,hu,fun e=>⟨by rw[hl,hr];exact e,fun _ k=>.inl k⟩⟩
theorem eJ.put{b:Nat}{aI oT:ae}(hb:F.K b)(zl:aI.heap.size=wl.heap.size)(zr:oT.heap.size=wr.heap.size)(r2:∀r,r≠F.φ b->oT.heap[r]?=wr.heap[r]?)(ho:aI.os=wl.os)(hu:aI.output=wl.output):eJ F F wl wr aI oT :=
 ⟨fun _ h=>h,fun _ _=>rfl,rfl,fun _ h=>.inl h,by rw[zl];exact ag _,by rw[zr];exact ag _,fun _ h k=>by rw[zr] at k;omega,fun c hc=>r2 c (fun e=>hc b hb e.symm),rfl,id,ho,hu,fun e=>⟨by rw[zl,zr];exact e,fun _ k=>.inl k⟩⟩
theorem eJ.alloc(W:WR F wl wr){o o':Obj}:eJ F (F.add wl.heap.size wr.heap.size) wl wr {wl with heap:=wl.heap.push o} {wr with heap:=wr.heap.push o'} where
 K r h:=.inl h
 φ r h:=by have:=W.here r h;simp only[iZ.add];rw[if_neg aa]
 L:=rfl
 vb r h:=by
  rcases h with h|rfl
  ·exact .inl h
  ·exact .inr ⟨ag _,by simp[iZ.add]⟩
 An:=an
 size:=an
 mine b h k:=⟨wl.heap.size,.inr rfl,by simp[iZ.add] at k |-;omega⟩
 rest b h:=by
  have:b≠wr.heap.size:=fun e=>h wl.heap.size (.inr rfl) (by simp[iZ.add,e]);simp only[Array.getElem?_push];rw[if_neg this]
 G:=rfl
 Pb:=rfl
 Ao:=rfl
 same e:=⟨by simpa using e,fun r hr=>by
  rcases hr with h|rfl
  ·exact .inl h
  ·exact .inr (by simp[iZ.add,e])⟩
 zu _:=(W.alloc (o:=.cells #[] 0) (o':=.cells #[] 0) (fun f _=>by simp[obj]) rfl).zu
theorem WR.block(W:WR F wl wr){r r':Nat}(h:∀f,F.has f->r'=f.b r):F.K r/\r'=F.φ r/\∀f,F.has f->wr.heap[r']?=(wl.heap[r]?).map (obj f):=by
 obtain⟨hK,rfl⟩:=W.ZR h;exact⟨hK,rfl,fun f hf=>W.sr r hK f hf⟩
end
def iO(P:Program)(F:iZ){α β:Type}(A:Rn->α->β->Prop)(wl wr:ae)(lB:Array Event)(s':Sem β)(x:Result α):Prop :=
 match x with
 | .ok a aI=>∃F' b oT WB,s'.runT P wr lB=(.ok b oT,WB)/\(∀f,F'.has f->A f a b)/\WR F' aI oT/\eJ F F' wl wr aI oT/\OU F' lB WB/\∀f,F'.has f->F.has f
 | .halt _ _=>True
theorem iO.step{P:Program}{F F₁:iZ}{α β:Type}{A:Rn->α->β->Prop}{wl wr wl₁ wr₁:ae}{lB es₁:Array Event}{s' s₁:Sem β}{x:Result α}(hr:s'.runT P wr lB=s₁.runT P wr₁ es₁)(hm:eJ F F₁ wl wr wl₁ wr₁)(he:∀el,∀F':iZ,(∀r,F₁.K r->F'.K r)->(∀r,F₁.K r->F'.φ r=F₁.φ r)->OU F' es₁ el->OU F' lB el)(hF:∀f,F₁.has f->F.has f)(h:iO P F₁ A wl₁ wr₁ es₁ s₁ x):iO P F A wl wr lB s' x:=by
 cases x with
 |ok a aI =>
  obtain⟨F',b,oT,WB,h1,h2,h3,h4,h5,h6⟩:=h;exact⟨F',b,oT,WB,hr.trans h1,h2,h3,hm.trans h4,he WB F' h4.K h4.φ h5,fun f hf=>hF f (h6 f hf)⟩
 |halt hh aI=>trivial
theorem Dr{w:ae}{x:Addr}{v:Value}(h:w.cell? x=some v):∃c e z,w.heap[x.block]?=some (.cells c e z)/\x.spot=none/\c[x.off]?=some v:=by
 unfold World.cell? at h;split at h
 ·rename_i c e z hc;by_cases hs:x.spot.isSome=true
  ·rw[if_pos hs] at h;cases h
  ·rw[if_neg hs] at h;exact⟨c,e,z,hc,by simpa using hs,h⟩
 ·cases h
theorem Ga{f:Rn}{wl wr:ae}{x x':Addr}{v:Value}(hh:wr.heap[x'.block]?=(wl.heap[x.block]?).map (obj f))(ho:x'.off=x.off)(hs:x'.spot=x.spot)(h:wl.cell? x=some v):wr.cell? x'=some (val f v):=by
 obtain⟨c,e,z,h1,h2,h3⟩:=Dr h;unfold World.cell?;rw[hh,h1,hs,h2,ho];simp[obj,h3]
theorem Ds{f:Rn}{wl wr:ae}{x x':Addr}(hh:wr.heap[x'.block]?=(wl.heap[x.block]?).map (obj f))(ho:x'.off=x.off)(hs:x'.spot=x.spot)(h:wl.cell? x=none):wr.cell? x'=none:=by
 unfold World.cell? at *;rw[hh,hs,ho];cases hc:wl.heap[x.block]? with
 |none=>rfl
 |some o =>
  rw[hc] at h;cases o<;>simp only[obj,cR] at h |-;split<;>rename_i xB
  ·rfl
  ·rw[if_neg xB] at h;simp[h]
theorem Ap{f:Rn}{wl wr:ae}{x x':Addr}(hh:wr.heap[x'.block]?=(wl.heap[x.block]?).map (obj f))(ho:x'.off=x.off):wr.frozen? x'=wl.frozen? x:=by
 unfold World.frozen?;rw[hh,ho];cases hc:wl.heap[x.block]? with
 |none=>rfl
 |some o=>cases o<;>rfl
theorem MC{f:Rn}{wl wr:ae}{r r':Nat}(hh:wr.heap[r']?=(wl.heap[r]?).map (obj f)):wr.shape? r'=wl.shape? r:=by
 unfold World.shape?;rw[hh];cases hc:wl.heap[r]? with
 |none=>rfl
 |some o=>cases o<;>simp[obj]
theorem Dt{w:ae}{a:Addr}{what:String}{v:Value}:w.noCell a what≠.panic v:=by
 unfold World.noCell;split<;>simp
theorem Gb{p:Program}{w:ae}{a:Addr}{at_:Bool}{h:Halt}(hh:w.farLoad p a at_=.error h)(v:Value):h≠.panic v:=by
 unfold World.farLoad at hh;split at hh
 ·split at hh
  ·cases hh
  ·cases hh;simp
 ·cases hh;exact Dt
theorem Jr{p:Program}{w:ae}{a:Addr}{at_:Bool}{x:Value×List Addr}(hh:w.farLoad p a at_=.ok x):∃b u,w.heap[a.block]?=some (.view b u)/\w.viewLoad p b u a at_=.ok x:=by
 unfold World.farLoad at hh;split at hh
 ·rename_i b u hb;split at hh
  ·rename_i r hr;cases hh;exact⟨b,u,hb,hr⟩
  ·cases hh
 ·cases hh
theorem Ex{p:Program}{w:ae}{a:Addr}{y:Value}{at_:Bool}{h:Halt}(hh:w.farStore p a y at_=.error h)(v:Value):h≠.panic v:=by
 unfold World.farStore at hh;split at hh
 ·split at hh
  ·cases hh
  ·cases hh;simp
 ·cases hh;exact Dt
theorem su{p:Program}{w:ae}{a:Addr}{y:Value}{at_:Bool}{x:ae×List Addr}(hh:w.farStore p a y at_=.ok x):∃b u,w.heap[a.block]?=some (.view b u)/\w.viewStore p b u a y at_=.ok x:=by
 unfold World.farStore at hh;split at hh
 ·rename_i b u hb;split at hh
  ·rename_i r hr;cases hh;exact⟨b,u,hb,hr⟩
  ·cases hh
 ·cases hh
theorem ky{P:Program}{F:iZ}{α β:Type}{A:Rn->α->β->Prop}{wl wr w:ae}{lB:Array Event}{s':Sem β}{h:Halt}(_hn:∀v,h≠.panic v):iO P F A wl wr lB s' (.halt h w):=by
 trivial
theorem getElem?_modify{α:Type}(xs:Array α)(i j:Nat)(g:α->α):(xs.modify i g)[j]?=if i=j then xs[j]?.map g else xs[j]?:=by
 rw[er]
theorem gJ{α:Type}{P:Program}{m:Mode}{a:Addr}{v:Value}{k:Sem α}{w:ae}{es:Array Event}(h1:∀c,v≠.agg c)(h2:∀c,v≠.tuple c):
  (Sem.store m a v k).runT P w es=match w.cell? a with
   |some _=>if w.frozen? a then(.halt (.unsupported (.unsafePointer "a write to bytes that a string shares")) w,es) else k.runT P (w.setCell a v) (es.push ⟨.cell a,true,m == .atomic⟩)
   |none=>match w.farStore P a v (m == .atomic) with
    | .ok (w,Tb)=>k.runT P w (es++Tb.toArray.map (⟨.cell ·,true,m == .atomic⟩))
    | .error h=>(.halt h w,es):=by
 cases v<;>first|exact absurd rfl (h1 _)|exact absurd rfl (h2 _)|rfl
theorem Aq{α:Type}{P:Program}{m:Mode}{a:Addr}{c:Array Value}{k:Sem α}{w:ae}{es:Array Event}:
  ∃Wz,((Sem.store m a (.agg c) k).runT P w es).1=.halt (.stuck Wz) w:=⟨_,rfl⟩
theorem xC{α:Type}{P:Program}{m:Mode}{a:Addr}{c:Array Value}{k:Sem α}{w:ae}{es:Array Event}:
  ∃Wz,((Sem.store m a (.tuple c) k).runT P w es).1=.halt (.stuck Wz) w:=⟨_,rfl⟩
theorem vG(w:ae)(a:Addr)(v:Value){c:Array Value}{e:TypeId}{z:Nat×Nat}(h:w.heap[a.block]?=some (.cells c e z))(hs:a.spot=none):
  (w.setCell a v).heap.size=w.heap.size/\(w.setCell a v).heap[a.block]?=some (.cells (c.setIfInBounds a.off v) e z)/\∀r,r≠a.block->(w.setCell a v).heap[r]?=w.heap[r]?:=by
 unfold World.setCell;refine⟨an,?_,fun r hr=>?_⟩
 ·simp only[getElem?_modify,if_true,h,cR,hs];simp
 ·simp only[getElem?_modify];rw[if_neg (bc hr)]
theorem oU(h:Array Obj)(b:Nat)(o:Obj)(hb:b<h.size):(h.setIfInBounds b o).size=h.size/\(h.setIfInBounds b o)[b]?=some o/\∀r,r≠b->(h.setIfInBounds b o)[r]?=h[r]?:=by
 refine⟨an,by simp[hb],fun r hr=>?_⟩;rw[aJ (bc hr)]
def pJ(off n:Nat):Obj->Obj
 | .cells c e (lo,hi)=>.cells c e (if lo==hi then(off,off+n) else(min lo off,max hi (off+n)))
 |o=>o
theorem nf(w:ae)(a:Addr)(n:Nat)(hn:n≠0):(w.freeze a n)={w with heap:=w.heap.modify a.block (pJ a.off n)}:=by
 unfold World.freeze;rw[if_neg hn]
 congr 1
theorem MD(f:Rn)(off n:Nat)(o:Obj):obj f (pJ off n o)=pJ off n (obj f o):=by
 cases o<;>simp[obj,pJ]
theorem Ar(off n:Nat)(o:Obj):eF (pJ off n o)=eF o:=by
 cases o<;>simp[eF,pJ]
theorem vH{P:Program}{α β:Type}(A:Rn->α->β->Prop):∀(s:Sem α) (s':Sem β) (F:iZ) (wl wr:ae) (es lB:Array Event),
  (∀f,F.has f->Rel P f (A f) s s')->WR F wl wr->iO P F A wl wr lB s' (s.runT P wl es).1:=by
 intro s
 induction s with
 |pure a =>
  intro s' F wl wr es lB h W;obtain⟨f0,jW⟩:=W.some;have h0:=h f0 jW;cases s'<;>simp only[Rel] at h0;exact⟨F,_,wr,lB,rfl,fun f hf=>h f hf,W,eJ.refl _ _ _,OU.refl _ _,fun _ h=>h⟩
 |load m x k ih =>
  intro s' F wl wr es lB h W;obtain⟨f0,jW⟩:=W.some;have h0:=h f0 jW;cases s'<;>simp only[Rel] at h0;rename_i m' x' k';obtain⟨rfl,FP,Gc⟩:=h0;have hh:∀f,F.has f->x'=addr f x/\∀v,Rel P f (A f) (k v) (k' (val f v)):=fun f hf=>⟨(h f hf).2.1,(h f hf).2.2⟩;obtain⟨hK,hb,fD⟩:=W.block (r:=x.block) (r':=x'.block) (fun f hf=>by rw[(hh f hf).1];rfl);have ho:x'.off=x.off:=by rw[FP];rfl
  have hs:x'.spot=x.spot:=by rw[FP];rfl
  have iH:∀(F':iZ),(∀r,F.K r->F'.K r)->(∀r,F.K r->F'.φ r=F.φ r)->∀(y:Addr) (wt sy:Bool),y.block=x'.block->vF F' ⟨.cell y,wt,sy⟩:=fun F' h1 h2 y wt sy hy=>⟨x.block,h1 _ hK,by rw[h2 _ hK,hy,hb]⟩;simp only[Sem.runT];cases hc:wl.cell? x with
  |some v =>
   have hv:∀f,F.has f->wr.cell? x'=some (val f v):=fun f hf=>Ga (fD f hf) ho hs hc;have Tc:∀f,F.has f->val f v=val f0 v:=fun f hf=>aK ((hv f hf).symm.trans (hv f0 jW));exact iO.step (F₁:=F) (wl₁:=wl) (wr₁:=wr) (s₁:=k' (val f0 v)) (es₁:=lB.push ⟨.cell x',false,m' == .atomic⟩) (by simp only[Sem.runT,hv f0 jW]) (eJ.refl _ _ _) (fun el F' h1 h2 he=>he.push (iH F' h1 h2 _ _ _ rfl)) (fun _ h=>h)
    (ih v (k' (val f0 v)) F wl wr _ _ (fun f hf=>by have:=(hh f hf).2 v;rwa[Tc f hf] at this) W)
  |none =>
   have sd:=Ds (fD f0 jW) ho hs hc;cases hf:wl.farLoad P x (m' == .atomic) with
   |error bZ=>exact ky (Gb hf)
   |ok y =>
    obtain⟨v,ts⟩:=y;obtain⟨at_,u,Gd,I2⟩:=Jr hf;have WC:∀f,F.has f->wr.heap[x'.block]?=some (.view (addr f at_) u):=fun f hf=>by rw[fD f hf,Gd];rfl
    obtain⟨Td,pE,WE⟩:=W.block (r:=at_.block) (r':=(addr f0 at_).block) (fun f hf=>by
     have:=(WC f0 jW).symm.trans (WC f hf);simp only[en,Obj.view.injEq,and_true] at this;rw[this];rfl)
    obtain⟨hpl,OV,hl,Pe⟩:=Ew (f:=f0) (p:=P) (at':=addr f0 at_) (k':=x') (WE f0 jW) rfl rfl ho hs I2;have WG:∀(F':iZ),(∀r,F.K r->F'.K r)->(∀r,F.K r->F'.φ r=F.φ r)->∀e∈OV.toArray.map (fun y=>(⟨.cell y,false,m' == .atomic⟩:Event)),vF F' e:=by
     intro F' h1 h2 e he;simp only[Array.mem_map,List.mem_toArray] at he;obtain⟨y,hy,rfl⟩:=he;exact⟨at_.block,h1 _ Td,by rw[h2 _ Td,Pe y hy,pE]⟩
    refine iO.step (F₁:=F) (wl₁:=wl) (wr₁:=wr) (s₁:=k' v) (es₁:=lB++OV.toArray.map (fun y=>⟨.cell y,false,m' == .atomic⟩)) ?_ (eJ.refl _ _ _) (fun el F' h1 h2 he=>he.app (WG F' h1 h2)) (fun _ h=>h)
     (ih v (k' v) F wl wr _ _ (fun f hf=>by have:=(hh f hf).2 v;rwa[hpl f] at this) W)
    simp only[Sem.runT,sd,World.farLoad,WC f0 jW,hl]
 |store m x v k ih =>
  intro s' F wl wr es lB h W;obtain⟨f0,jW⟩:=W.some;have h0:=h f0 jW;cases s'<;>simp only[Rel] at h0;rename_i m' x' v' k';obtain⟨rfl,FP,ME,Gc⟩:=h0;have hh:∀f,F.has f->x'=addr f x/\v'=val f v/\Rel P f (A f) k k':=fun f hf=>⟨(h f hf).2.1,(h f hf).2.2.1,(h f hf).2.2.2⟩;obtain⟨hK,hb,fD⟩:=W.block (r:=x.block) (r':=x'.block) (fun f hf=>by rw[(hh f hf).1];rfl);have ho:x'.off=x.off:=by rw[FP];rfl
  have hs:x'.spot=x.spot:=by rw[FP];rfl
  have iH:∀(F':iZ),(∀r,F.K r->F'.K r)->(∀r,F.K r->F'.φ r=F.φ r)->∀(wt sy:Bool),vF F' ⟨.cell x',wt,sy⟩:=fun F' h1 h2 wt sy=>⟨x.block,h1 _ hK,by rw[h2 _ hK,hb]⟩;by_cases b6:(∃c,v=.agg c)\/∃c,v=.tuple c
  ·rcases b6 with⟨c,rfl⟩|⟨c,rfl⟩
   ·obtain⟨Wz,hw⟩:=Aq (P:=P) (m:=m') (a:=x) (c:=c) (k:=k) (w:=wl) (es:=es);rw[hw];exact ky an
   ·obtain⟨Wz,hw⟩:=xC (P:=P) (m:=m') (a:=x) (c:=c) (k:=k) (w:=wl) (es:=es);rw[hw];exact ky an
  ·have n1:∀c,v≠.agg c:=fun c e=>b6 (.inl ⟨c,e⟩);have n2:∀c,v≠.tuple c:=fun c e=>b6 (.inr ⟨c,e⟩);have n1':∀c,v'≠.agg c:=fun c e=>by rw[ME] at e;cases v<;>simp at e;exact n1 _ rfl
   have n2':∀c,v'≠.tuple c:=fun c e=>by rw[ME] at e;cases v<;>simp at e;exact n2 _ rfl
   rw[gJ n1 n2];cases hc:wl.cell? x with
   |some old =>
    have Te:=Ga (fD f0 jW) ho hs hc;have hfz:=Ap (fD f0 jW) ho;simp only[];by_cases hz:wl.frozen? x=true
    ·rw[if_pos hz];exact ky an
    ·rw[if_neg hz];obtain⟨c,e,z,c1,c2,c3⟩:=Dr hc;obtain⟨l0,l1,l2⟩:=vG wl x v c1 c2;have Cp:wr.heap[x'.block]?=some (.cells (c.map (val f0)) e z):=by rw[fD f0 jW,c1];rfl
     obtain⟨r0,r1,r2⟩:=vG wr x' v' Cp (hs.trans c2);rw[hb] at r1 r2;refine iO.step (F₁:=F) (wl₁:=wl.setCell x v) (wr₁:=wr.setCell x' v') (s₁:=k') (es₁:=lB.push ⟨.cell x',true,m' == .atomic⟩) ?_ (eJ.put hK l0 r0 r2 rfl rfl) (fun el F' h1 h2 he=>he.push (iH F' h1 h2 _ _)) (fun _ h=>h)
      (ih k' F _ _ _ _ (fun f hf=>(hh f hf).2.2) (W.put hK (o:=.cells (c.setIfInBounds x.off v) e z) (fun f hf=>by
       have e1:some (Obj.cells (c.map (val f0)) e z)=some (Obj.cells (c.map (val f)) e z):=Cp.symm.trans ((fD f hf).trans (by rw[c1];rfl));simp only[en,Obj.cells.injEq,and_true] at e1;simp only[obj,Array.map_setIfInBounds];rw[<- e1,<- (hh f hf).2.1,ho]) rfl l0 l1 l2 r0 r1 r2 W.os W.output W.tape W.drawn))
     rw[gJ n1' n2',Te];simp only[hfz,hz,if_false];rfl
   |none =>
    have sd:=Ds (fD f0 jW) ho hs hc;simp only[];cases hf:wl.farStore P x v (m' == .atomic) with
    |error bZ=>exact ky (Ex hf)
    |ok y =>
     obtain⟨aI,ts⟩:=y;obtain⟨at_,u,Gd,I2⟩:=su hf;have WC:∀f,F.has f->wr.heap[x'.block]?=some (.view (addr f at_) u):=fun f hf=>by rw[fD f hf,Gd];rfl
     obtain⟨Td,pE,WE⟩:=W.block (r:=at_.block) (r':=(addr f0 at_).block) (fun f hf=>by
      have:=(WC f0 jW).symm.trans (WC f hf);simp only[en,Obj.view.injEq,and_true] at this;rw[this];rfl)
     have gY:∀f,F.has f->_:=fun f hf=>pX (f:=f) (p:=P) (at':=addr f0 at_) (k':=x') (WE f hf) rfl rfl ho hs I2;obtain⟨c,e,z,OV,bZ,rfl,hl,Pe⟩:=gY f0 jW;have Js:∀f,F.has f->c.map (val f)=c.map (val f0):=by
      intro f hf;obtain⟨c',e',z',ts2,_,zP,Ge,_⟩:=gY f hf;simp only[World.mk.injEq,and_true] at zP;have q1:=congrArg (fun h:Array Obj=>h[at_.block]?) zP;simp only[Array.getElem?_setIfInBounds_self_of_lt bZ,en,Obj.cells.injEq] at q1;obtain⟨rfl,rfl,rfl⟩:=q1;rw[<- (hh f hf).2.1] at Ge;rw[<- ME] at hl;have q2:=Ge.symm.trans hl;simp only[Except.ok.injEq,WS,World.mk.injEq,and_true] at q2;have q3:=congrArg (fun h:Array Obj=>h[(addr f0 at_).block]?) q2.1;have xD:(addr f0 at_).block<wr.heap.size:=by rw[pE];exact W.there _ Td
      simp only[Array.getElem?_setIfInBounds_self_of_lt xD,en,Obj.cells.injEq] at q3;exact q3.1
     have xD:(addr f0 at_).block<wr.heap.size:=by rw[pE];exact W.there _ Td
     obtain⟨l0,l1,l2⟩:=oU wl.heap at_.block (.cells c e z) bZ;obtain⟨r0,r1,r2⟩:=oU wr.heap (addr f0 at_).block (.cells (c.map (val f0)) e z) xD;rw[pE] at r0 r1 r2;have WG:∀(F':iZ),(∀r,F.K r->F'.K r)->(∀r,F.K r->F'.φ r=F.φ r)->∀e∈OV.toArray.map (fun y=>(⟨.cell y,true,m' == .atomic⟩:Event)),vF F' e:=by
      intro F' h1 h2 e he;simp only[Array.mem_map,List.mem_toArray] at he;obtain⟨y,hy,rfl⟩:=he;exact⟨at_.block,h1 _ Td,by rw[h2 _ Td,Pe y hy,pE]⟩
     refine iO.step (F₁:=F) (wr₁:={wr with heap:=wr.heap.setIfInBounds (F.φ at_.block) (.cells (c.map (val f0)) e z)}) (s₁:=k') (es₁:=lB++OV.toArray.map (fun y=>⟨.cell y,true,m' == .atomic⟩)) ?_
      (eJ.put Td l0 r0 r2 ai ai) (fun el F' h1 h2 he=>he.app (WG F' h1 h2)) (fun _ h=>h)
      (ih k' F _ _ _ _ (fun f hf=>(hh f hf).2.2) (W.put Td (o:=.cells c e z) (fun f hf=>by simp only[obj];rw[Js f hf]) rfl l0 l1 l2 r0 r1 r2 W.os W.output W.tape W.drawn))
     rw[gJ n1' n2',sd];rw[<- ME,pE] at hl;simp only[World.farStore,WC f0 jW,hl]
 |new o k ih =>
  intro s' F wl wr es lB h W;obtain⟨f0,jW⟩:=W.some;have h0:=h f0 jW;cases s'<;>simp only[Rel] at h0;rename_i o' k';have hn:¬F.K wl.heap.size:=fun hk=>by have:=W.here _ hk;omega
  have W':=W.alloc (o:=o) (o':=o') (fun f hf=>(h f hf).1) h0.2.1;exact iO.step (F₁:=F.add wl.heap.size wr.heap.size) (wl₁:={wl with heap:=wl.heap.push o}) (wr₁:={wr with heap:=wr.heap.push o'}) (s₁:=k' wr.heap.size) (es₁:=lB) rfl (eJ.alloc W) (fun _ _ _ _ he=>he) (fun f hf=>iZ.Ev hn hf)
   (ih wl.heap.size (k' wr.heap.size) _ _ _ _ _ (fun f hf=>by have:=(h f (iZ.Ev hn hf)).2.2 wl.heap.size;rwa[iZ.Ta hf] at this) W')
 |shape r k ih =>
  intro s' F wl wr es lB h W;obtain⟨f0,jW⟩:=W.some;have h0:=h f0 jW;cases s'<;>simp only[Rel] at h0;rename_i r' k';obtain⟨hK,hb,fD⟩:=W.block (r:=r) (r':=r') (fun f hf=>(h f hf).1);exact iO.step (F₁:=F) (wl₁:=wl) (wr₁:=wr) (s₁:=k' (wl.shape? r)) (es₁:=lB) (by simp only[Sem.runT,MC (fD f0 jW)]) (eJ.refl _ _ _) (fun _ _ _ _ he=>he) (fun _ h=>h)
   (ih _ _ F wl wr _ _ (fun f hf=>(h f hf).2 _) W)
 |freeze a n k ih =>
  intro s' F wl wr es lB h W;obtain⟨f0,jW⟩:=W.some;have h0:=h f0 jW;cases s'<;>simp only[Rel] at h0;rename_i a' n' k';obtain⟨ha0,rfl,Gc⟩:=h0;obtain⟨hK,hb,fD⟩:=W.block (r:=a.block) (r':=a'.block) (fun f hf=>by rw[(h f hf).1];rfl);have hk:∀f,F.has f->Rel P f (A f) k k':=fun f hf=>(h f hf).2.2;by_cases hn:n'=0
  ·subst hn;exact iO.step (F₁:=F) (wl₁:=wl) (wr₁:=wr) (s₁:=k') (es₁:=lB) (by simp[Sem.runT,World.freeze]) (eJ.refl _ _ _) (fun _ _ _ _ he=>he) (fun _ h=>h)
    (by simp only[Sem.runT,World.freeze,if_true];exact ih _ F wl wr _ _ hk W)
  ·obtain⟨o,ho⟩:∃o,wl.heap[a.block]?=some o:=⟨_,aG (W.here _ hK)⟩;have Tf:a'.off=a.off:=by rw[ha0];rfl
   have hr:∀f,F.has f->wr.heap[a'.block]?=some (obj f o):=fun f hf=>by rw[fD f hf,ho];rfl
   have r1:(wr.heap.modify a'.block (pJ a'.off n'))[F.φ a.block]?=some (pJ a.off n' (obj f0 o)):=by
    rw[getElem?_modify,<- hb,if_pos rfl,hr f0 jW,Tf];rfl
   have r2:∀r,r≠F.φ a.block->(wr.heap.modify a'.block (pJ a'.off n'))[r]?=wr.heap[r]?:=fun r cV=>by rw[getElem?_modify,hb,if_neg (bc cV)]
   have l1:(wl.heap.modify a.block (pJ a.off n'))[a.block]?=some (pJ a.off n' o):=by rw[getElem?_modify,if_pos rfl,ho];rfl
   have l2:∀r,r≠a.block->(wl.heap.modify a.block (pJ a.off n'))[r]?=wl.heap[r]?:=fun r cV=>by rw[getElem?_modify,if_neg (bc cV)]
   refine iO.step (F₁:=F) (wl₁:=wl.freeze a n') (wr₁:=wr.freeze a' n') (s₁:=k') (es₁:=lB) rfl ?_ (fun _ _ _ _ he=>he) (fun _ h=>h) (ih _ F _ _ _ _ hk ?_)
   ·rw[nf _ _ _ hn,nf _ _ _ hn];exact eJ.put hK an an r2 an an
   ·rw[nf _ _ _ hn,nf _ _ _ hn];exact W.put hK (o:=pJ a.off n' o) (o':=pJ a.off n' (obj f0 o)) (fun f hf=>by
     have e:=aK ((hr f0 jW).symm.trans (hr f hf));rw[MD,e]) (by rw[Ar];exact W.OT _ hK _ ho) an l1 l2 an r1 r2 W.os W.output W.tape W.drawn
 |frozen a k ih =>
  intro s' F wl wr es lB h W;obtain⟨f0,jW⟩:=W.some;have h0:=h f0 jW;cases s'<;>simp only[Rel] at h0;rename_i a' k';obtain⟨hK,hb,fD⟩:=W.block (r:=a.block) (r':=a'.block) (fun f hf=>by rw[(h f hf).1];rfl);have Tf:a'.off=a.off:=by rw[h0.1];rfl
  exact iO.step (F₁:=F) (wl₁:=wl) (wr₁:=wr) (s₁:=k' (wl.frozen? a)) (es₁:=lB) (by simp only[Sem.runT,Ap (fD f0 jW) Tf]) (eJ.refl _ _ _) (fun _ _ _ _ he=>he) (fun _ h=>h)
   (ih _ _ F wl wr _ _ (fun f hf=>(h f hf).2 _) W)
 |getObj r k ih =>
  intro s' F wl wr es lB h W;obtain⟨f0,jW⟩:=W.some;have h0:=h f0 jW;cases s'<;>simp only[Rel] at h0;rename_i r' k';obtain⟨hK,hb,fD⟩:=W.block (r:=r) (r':=r') (fun f hf=>(h f hf).1);obtain⟨o,ho⟩:∃o,wl.heap[r]?=some o:=⟨_,aG (W.here _ hK)⟩;have hr:∀f,F.has f->wr.heap[r']?=some (obj f o):=fun f hf=>by rw[fD f hf,ho];rfl
  have Tc:∀f,F.has f->obj f o=obj f0 o:=fun f hf=>aK ((hr f hf).symm.trans (hr f0 jW));by_cases hc:∃c e z,o=.cells c e z
  ·obtain⟨c,e,z,rfl⟩:=hc;simp only[Sem.runT,ho];exact ky an
  ·have e1:(Sem.getObj r k).runT P wl es=(k o).runT P wl (es.push ⟨.obj r,false,o.isChan⟩):=by
    simp only[Sem.runT,ho];cases o<;>first|rfl|exact absurd ⟨_,_,_,rfl⟩ hc
   have e2:(Sem.getObj r' k').runT P wr lB=(k' (obj f0 o)).runT P wr (lB.push ⟨.obj r',false,o.isChan⟩):=by
    simp only[Sem.runT,hr f0 jW];cases o<;>first|rfl|exact absurd ⟨_,_,_,rfl⟩ hc
   rw[e1];exact iO.step (F₁:=F) (wl₁:=wl) (wr₁:=wr) e2 (eJ.refl _ _ _) (fun el F' h1 h2 he=>he.push ⟨r,h1 _ hK,by rw[h2 _ hK,hb]⟩) (fun _ h=>h)
    (ih o (k' (obj f0 o)) F wl wr _ _ (fun f hf=>by have:=(h f hf).2 o;rwa[Tc f hf] at this) W)
 |setObj r o k ih =>
  intro s' F wl wr es lB h W;obtain⟨f0,jW⟩:=W.some;have h0:=h f0 jW;cases s'<;>simp only[Rel] at h0;rename_i r' o' k';obtain⟨hK,hb,fD⟩:=W.block (r:=r) (r':=r') (fun f hf=>(h f hf).1);obtain⟨x,hx⟩:∃o,wl.heap[r]?=some o:=⟨_,aG (W.here _ hK)⟩;have hr:wr.heap[r']?=some (obj f0 x):=by rw[fD f0 jW,hx];rfl
  have hic:o'.isChan=o.isChan:=by rw[h0.2.1];cases o<;>rfl
  by_cases hc:∃c e z,x=.cells c e z
  ·obtain⟨c,e,z,rfl⟩:=hc;simp only[Sem.runT,hx];exact ky an
  ·have e1:(Sem.setObj r o k).runT P wl es=k.runT P {wl with heap:=wl.heap.setIfInBounds r o} (es.push ⟨.obj r,true,o.isChan⟩):=by
    simp only[Sem.runT,hx];cases x<;>first|rfl|exact absurd ⟨_,_,_,rfl⟩ hc
   have e2:(Sem.setObj r' o' k').runT P wr lB=k'.runT P {wr with heap:=wr.heap.setIfInBounds r' o'} (lB.push ⟨.obj r',true,o.isChan⟩):=by
    simp only[Sem.runT,hr,hic];cases x<;>first|rfl|exact absurd ⟨_,_,_,rfl⟩ hc
   obtain⟨l0,l1,l2⟩:=oU wl.heap r o (W.here _ hK);obtain⟨r0,r1,r2⟩:=oU wr.heap (F.φ r) o' (W.there _ hK);rw[e1];rw[hb] at e2;rw[hb];exact iO.step (F₁:=F) (wl₁:={wl with heap:=wl.heap.setIfInBounds r o}) (wr₁:={wr with heap:=wr.heap.setIfInBounds (F.φ r) o'}) e2 (eJ.put hK l0 r0 r2 rfl rfl) (fun el F' h1 h2 he=>he.push ⟨r,h1 _ hK,by rw[h2 _ hK]⟩) (fun _ h=>h)
    (ih k' F _ _ _ _ (fun f hf=>(h f hf).2.2.2) (W.put hK (o:=o) (fun f hf=>(h f hf).2.1) h0.2.2.1 l0 l1 l2 r0 r1 r2 W.os W.output W.tape W.drawn))
 |choose q k ih =>
  intro s' F wl wr es lB h W;obtain⟨f0,jW⟩:=W.some;have h0:=h f0 jW;cases s'<;>simp only[Rel] at h0;rename_i q' k';obtain⟨rfl,Gc⟩:=h0;have hk:∀n f,F.has f->Rel P f (A f) (k n) (k' n):=fun n f hf=>(h f hf).2 n;simp only[Sem.runT];by_cases hq:q'.forced=true
  ·simp only[hq,if_true];exact iO.step (F₁:=F) (wl₁:=wl) (wr₁:=wr) (s₁:=k' 0) (es₁:=lB) (by simp only[Sem.runT,hq,if_true]) (eJ.refl _ _ _) (fun _ _ _ _ he=>he) (fun _ h=>h) (ih 0 (k' 0) F wl wr _ _ (hk 0) W)
  ·simp only[hq,if_false];exact iO.step (F₁:=F) (wl₁:={wl with drawn:=wl.drawn+1}) (wr₁:={wr with drawn:=wr.drawn+1}) (s₁:=k' (q'.cut (wl.tape wl.drawn q'))) (es₁:=lB) (by simp[Sem.runT,hq,W.tape,W.drawn]) (eJ.env rfl rfl rfl rfl) (fun _ _ _ _ he=>he) (fun _ h=>h)
    (ih _ _ F _ _ _ _ (hk _) (W.env rfl rfl W.os W.output W.tape (by simp[W.drawn])))
 |sys c k ih =>
  intro s' F wl wr es lB h W;obtain⟨f0,jW⟩:=W.some;have h0:=h f0 jW;cases s'<;>simp only[Rel] at h0;rename_i c' k';obtain⟨rfl,aej,Gc⟩:=h0;have WH:(wl.sys c').2.os=wl.os:=by cases c'<;>first|exact Bool.noConfusion aej|rfl
  obtain⟨e1,d,o,e2,e3⟩:=F9 c' W.tape W.drawn W.os;simp only[Sem.runT];exact iO.step (F₁:=F) (wl₁:=(wl.sys c').2) (wr₁:=(wr.sys c').2) (s₁:=k' (wl.sys c').1) (es₁:=lB.push ⟨.output,true,false⟩) (by simp only[Sem.runT,e1]) (by rw[e2] at WH;rw[e2,e3];exact eJ.env rfl rfl WH rfl) (fun _ _ _ _ he=>he.push trivial) (fun _ h=>h)
   (ih _ _ F _ _ _ _ (fun f hf=>(h f hf).2.2 _) (by rw[e2,e3];exact W.env rfl rfl rfl W.output W.tape rfl))
 |program k ih =>
  intro s' F wl wr es lB h W;obtain⟨f0,jW⟩:=W.some;have h0:=h f0 jW;cases s'<;>simp only[Rel] at h0;rename_i k';exact iO.step (F₁:=F) (wl₁:=wl) (wr₁:=wr) (s₁:=k' P) (es₁:=lB) rfl (eJ.refl _ _ _) (fun _ _ _ _ he=>he) (fun _ h=>h) (ih P (k' P) F wl wr _ _ (fun f hf=>h f hf) W)
 |mark m k ih =>
  intro s' F wl wr es lB h W;obtain⟨f0,jW⟩:=W.some;have h0:=h f0 jW;cases s'<;>simp only[Rel] at h0;rename_i m' k';refine iO.step (F₁:=F) (wl₁:=wl) (wr₁:=wr) (s₁:=k') (es₁:=lB.push ⟨.mark m',false,true⟩) rfl (eJ.refl _ _ _) (fun _ F' _ _ he=>he.push ?_) (fun _ h=>h) (ih k' F wl wr _ _ (fun f hf=>(h f hf).2.2) W);show Jp m'=true;rw[h0.1];have:=h0.2.1;cases m<;>first|rfl|cases this
 |halt hh =>
  intro s' F wl wr es lB h W;obtain⟨f0,jW⟩:=W.some;have h0:=h f0 jW;cases hh with
  |_=>trivial
structure mC(P:Program)(f:Rn):Prop where
 inj:∀x y,f.b x=f.b y->x=y
 jF:∀r,f.b r<P.globals.size↔r<P.globals.size
 zero:∀t i z,P.info? t=some i->i.zero=some z->val f z=z
abbrev V(f:Rn):Value->Value->Prop:=fun a b=>b=val f a
abbrev VS(f:Rn):Array Value->Array Value->Prop:=fun a b=>b=a.map (val f)
abbrev AR(f:Rn):Addr->Addr->Prop:=fun a b=>b=addr f a
section
variable {P:Program} {f:Rn} {α β γ δ:Type} {A:α->β->Prop} {B:γ->δ->Prop}
theorem vI(a:Addr)(m:Mode:=.plain):Rel P f (V f) (load a m) (load (addr f a) m):=⟨rfl,rfl,fun _=>rfl⟩
theorem MF(a:Addr)(v:Value)(m:Mode:=.plain):Rel P f (fun _ _=>True) (store a v m) (store (addr f a) (val f v) m):=⟨rfl,rfl,rfl,trivial⟩
theorem lC{o o':Obj}(ho:o'=obj f o)(hp:eF o=false):Rel P f (fun r r'=>r'=f.b r) (newObj o) (newObj o'):=⟨ho,hp,fun _=>rfl⟩
theorem gC(r:Nat):Rel P f Eq (shape r) (shape (f.b r)):=⟨rfl,fun _=>rfl⟩
theorem oV(a:Addr):Rel P f Eq (frozen a) (frozen (addr f a)):=⟨rfl,fun _=>rfl⟩
theorem As(a:Addr)(n:Nat):Rel P f (fun _ _=>True) (freeze a n) (freeze (addr f a) n):=⟨rfl,rfl,trivial⟩
theorem iP(r:Nat):Rel P f (fun o o'=>o'=obj f o) (getObj r) (getObj (f.b r)):=⟨rfl,fun _=>rfl⟩
theorem oW(r:Nat){o o':Obj}(ho:o'=obj f o)(hp:eF o=false):Rel P f (fun _ _=>True) (setObj r o) (setObj (f.b r) o'):=⟨rfl,ho,hp,trivial⟩
theorem gZ(q:Question):Rel P f Eq (choose q) (choose q):=⟨rfl,fun _=>rfl⟩
theorem Tg:Rel P f Eq (sys .env) (sys .env):=⟨rfl,rfl,fun _=>rfl⟩
theorem dt:Rel P f (fun a b=>P=a/\P=b) program program:=by simp[program,Rel]
theorem Pf{m:Mark}(h:Jp m=true):Rel P f (fun _ _=>True) (mark m) (mark (Jo f m)):=⟨rfl,h,trivial⟩
theorem Au:Rel P f (fun _ _=>True) (mark .noRoom) (mark .noRoom):=⟨rfl,rfl,trivial⟩
theorem vJ{s s':Sem Unit}(h:Rel P f (fun _ _=>True) s s'){k k':Sem γ}{B:γ->γ->Prop}(hk:Rel P f B k k'):Rel P f B (s>>=fun _=>k) (s'>>=fun _=>k'):=aj h (fun _ _ _=>hk)
theorem sw(n:Nat):Rel P f (fun _ _=>True) (askRoom n) (askRoom n):=by
 unfold askRoom;split
 ·exact Au
 ·exact au trivial
theorem eQ(t:TypeId):Rel P f (fun a b=>a=b/\P.info? t=some a) (typeInfo t) (typeInfo t):=by
 refine aj dt ?_;rintro a b ⟨rfl,rfl⟩;split<;>rename_i h
 ·exact au ⟨rfl,h⟩
 ·exact az
theorem aY(t:TypeId):Rel P f (fun a b=>a=b/\P.underlying t=some a) (underlying t) (underlying t):=by
 refine aj dt ?_;rintro a b ⟨rfl,rfl⟩;split<;>rename_i h
 ·exact au ⟨rfl,h⟩
 ·exact az
theorem dj(t:TypeId):Rel P f Eq (sizeOf t) (sizeOf t):=by
 refine aj (eQ t) ?_;rintro a b ⟨rfl,_⟩;exact au rfl
theorem Du(t:TypeId):Rel P f Eq (isAgg t) (isAgg t):=by
 refine aj (aY t) ?_;rintro a b ⟨rfl,_⟩;split<;>exact au rfl
theorem yG(t:TypeId):Rel P f Eq (typeStr t) (typeStr t):=by
 refine aj (eQ t) ?_;rintro a b ⟨rfl,_⟩;dsimp only;split
 ·exact aT
 ·exact au rfl
theorem vc(t:TypeId):Rel P f Eq (elemOf t) (elemOf t):=by
 refine aj (aY t) ?_;rintro a b ⟨rfl,_⟩;split
 ·exact au rfl
 ·exact az
theorem gV(hf:mC P f)(t:TypeId):Rel P f (fun a b=>a=b/\val f a=a) (zeroValue t) (zeroValue t):=by
 refine aj (eQ t) ?_;rintro a b ⟨rfl,h⟩;split<;>rename_i hz
 ·exact au ⟨rfl,hf.zero _ _ _ h hz⟩
 ·exact aT
theorem vK(a:Addr):∀(n i:Nat) (acc:Array Value),Rel P f (VS f) (loadCellsFrom a i n acc) (loadCellsFrom (addr f a) i n (acc.map (val f))):=by
 intro n
 induction n with
 |zero=>intro i acc;exact au rfl
 |succ n ih =>
  intro i acc;unfold loadCellsFrom;refine aj (A:=V f) (by rw[<- jP];exact vI _) ?_;rintro v _ rfl;have:=ih (i+1) (acc.push v);rwa[Array.map_push] at this
theorem mU(a:Addr)(n:Nat):Rel P f (VS f) (loadCells a n) (loadCells (addr f a) n):=by
 have:=vK (P:=P) (f:=f) a n 0 #[];unfold loadCells;simpa using this
theorem kz(a:Addr):∀(vs:List Value) (i:Nat),Rel P f (fun _ _=>True) (storeCells a vs i) (storeCells (addr f a) (vs.map (val f)) i):=by
 intro vs
 induction vs with
 |nil=>intro i;exact au trivial
 |cons v vs ih =>
  intro i;simp only[bU];unfold storeCells;exact vJ (by rw[<- jP];exact MF _ _) (ih _)
theorem yH(t:TypeId)(a:Addr):Rel P f (V f) (loadVar t a) (loadVar t (addr f a)):=by
 refine aj (Du t) ?_;rintro b _ rfl;cases b
 ·exact vI a
 ·refine aj (dj t) ?_;rintro n _ rfl;refine aj (mU a n) ?_;rintro cs _ rfl;exact au (by simp[V])
theorem Ey(t:TypeId)(a:Addr)(v:Value):Rel P f (fun _ _=>True) (storeVar t a v) (storeVar t (addr f a) (val f v)):=by
 refine aj (dj t) ?_;rintro n _ rfl;rw[jT];simp only[Array.size_map];split
 ·exact vJ az (by rw[bX];exact kz a _ 0)
 ·rw[bX];exact kz a _ 0
theorem jG(e:TypeId){c c':Array Value}(h:c'=c.map (val f)):Rel P f (AR f) (newRow e c) (newRow e c'):=by
 subst h;refine aj (lC (o:=.cells c e) (o':=.cells (c.map (val f)) e) rfl rfl) ?_;rintro r _ rfl;exact au rfl
theorem vd(t:TypeId)(v:Value):Rel P f (AR f) (newVar t v) (newVar t (val f v)):=jG t (by rw[jT])
theorem Gf(t:TypeId)(v:Value)(h:val f v=v):Rel P f (AR f) (newVar t v) (newVar t v):=by
 have:=vd (P:=P) (f:=f) t v;rwa[h] at this
theorem jQ(t:TypeId)(cs:Array Value)(off:Nat):Rel P f (V f) (part t cs off) (part t (cs.map (val f)) off):=by
 refine aj (Du t) ?_;rintro b _ rfl;cases b
 ·simp only[br,fl,if_false];cases cs[off]? with
  |none=>exact az
  |some v=>exact au rfl
 ·refine aj (dj t) ?_;rintro n _ rfl;exact au (by simp[V,Array.map_extract])
def qP:RuntimeError->Bool
 | .typeAssertion ..=>false
 |_=>true
theorem bM(hf:mC P f)(e:RuntimeError)(he:qP e=true:=by rfl):Rel P f A (runtimePanic e) (runtimePanic e):=by
 refine aj dt ?_;rintro a b ⟨rfl,rfl⟩;cases e<;>dsimp only
 case typeAssertion i c a m =>
  exact Bool.noConfusion he
 case panicNil =>
  refine aj (vc _) ?_;rintro t _ rfl;refine aj (A:=AR f) (by have:=vd (P:=P) (f:=f) t (.agg #[]);simpa using this) ?_;rintro r _ rfl;have:=so (P:=P) (f:=f) (A:=A) (v:=.iface P.rt.panicNilError (.pointer (some r)));simpa using this
 all_goals (simp[goPanic,Rel,strVal])
theorem gK(hf:mC P f)(k:IntKind)(x y:Int)(c:BoundsCode):Rel P f A (boundsPanic k x y c) (boundsPanic k x y c):=by
 unfold boundsPanic;dsimp only;split
 ·refine aj (A:=Eq) (aj (gZ _) (by rintro a _ rfl;exact au rfl)) ?_;rintro a _ rfl;exact bM hf _
 ·exact aj (A:=Eq) (au rfl) (by rintro a _ rfl;exact bM hf _)
theorem pK(v:Value):Rel P f Eq (asIntOf v) (asIntOf (val f v)):=by
 cases v<;>simp only[cg,cy,bQ,bw,bC,aW,bt,cC,b7,b8,bB,bI,bj,cz,bL,asIntOf]
 case int=>exact au rfl
 case pointer a=>cases a<;>first|exact aT|exact az
 all_goals exact az
theorem mD(v:Value):Rel P f Eq (asInt v) (asInt (val f v)):=aj (pK v) (by rintro a _ rfl;exact au rfl)
theorem Av(v:Value):Rel P f Eq (asBool v) (asBool (val f v)):=by
 cases v<;>simp only[cg,cy,bQ,bw,bC,aW,bt,cC,b7,b8,bB,bI,bj,cz,bL,asBool]
 case bool=>exact au rfl
 all_goals exact az
theorem MG(v:Value):Rel P f (VS f) (asAgg v) (asAgg (val f v)):=by
 cases v<;>simp only[cg,cy,bQ,bw,bC,aW,bt,cC,b7,b8,bB,bI,bj,cz,bL,asAgg]
 case agg=>exact au rfl
 all_goals exact az
theorem Aw(hf:mC P f)(v:Value):Rel P f (AR f) (asAddr v) (asAddr (val f v)):=by
 cases v<;>simp only[cg,cy,bQ,bw,bC,aW,bt,cC,b7,b8,bB,bI,bj,cz,bL,asAddr]
 case pointer a =>
  cases a
  ·exact bM hf _
  ·exact au rfl
 all_goals exact az
theorem lT(v:Value):Rel P f (AR f) (Instr.sureAddr v) (Instr.sureAddr (val f v)):=by
 cases v<;>simp only[cg,cy,bQ,bw,bC,aW,bt,cC,b7,b8,bB,bI,bj,cz,bL,Instr.sureAddr]
 case pointer a =>
  cases a
  ·exact az
  ·exact au rfl
 all_goals exact az
theorem Lt{s:Sem α}{s':Sem β}{g:α->γ}{g':β->δ}(h:Rel P f A s s')(hg:∀a b,A a b->B (g a) (g' b)):Rel P f B (Functor.map g s) (Functor.map g' s'):=by
 rw[map_eq_pure_bind,map_eq_pure_bind];exact aj h (fun a b h=>au (hg a b h))
theorem CG{g g':α->Sem β}:∀(l:List α),(∀x∈l,Rel P f Eq (g x) (g' x))->Rel P f Eq (l.mapM g) (l.mapM g'):=by
 intro l
 induction l with
 |nil=>intro _;simp only[List.mapM_nil];exact au rfl
 |cons x l ih =>
  intro h;simp only[List.mapM_cons];refine aj (h x an) ?_;rintro a _ rfl;refine aj (ih fun y hy=>h y (by simp[hy])) ?_;rintro b _ rfl;exact au rfl
theorem Pg{g g':α->Sem β}(xs:Array α)(h:∀x∈xs,Rel P f Eq (g x) (g' x)):Rel P f Eq (xs.mapM g) (xs.mapM g'):=by
 rw[eI,eI];exact Lt (CG _ (fun x hx=>h x (by simpa using hx))) (by rintro a _ rfl;rfl)
theorem sx{g g':α->β->Sem (ForInStep β)}:∀(l:List α) (init:β),(∀x∈l,∀a,Rel P f Eq (g x a) (g' x a))->Rel P f Eq (forIn l init g) (forIn l init g'):=by
 intro l
 induction l with
 |nil=>intro _ _;simp only[List.forIn_nil];exact au rfl
 |cons x l ih =>
  intro init h;simp only[List.forIn_cons];refine aj (h x an init) ?_;rintro a _ rfl;cases a
  ·exact au rfl
  ·exact ih _ fun y hy=>h y (by simp[hy])
theorem xE{g g':α->β->Sem (ForInStep β)}(xs:Array α)(init:β)(h:∀x∈xs,∀a,Rel P f Eq (g x a) (g' x a)):Rel P f Eq (forIn xs init g) (forIn xs init g'):=by
 rw[<- fj,<- fj];exact sx _ _ (fun x hx=>h x (by simpa using hx))
theorem nO{g g':Nat->β->Sem (ForInStep β)}(r:Std.Legacy.Range)(init:β)(h:∀x a,Rel P f Eq (g x a) (g' x a)):Rel P f Eq (forIn r init g) (forIn r init g'):=by
 rw[fx,fx];exact sx _ _ (fun x _ a=>h x a)
theorem MH(hf:mC P f)(e:TypeId):Rel P f (V f) (Instr.alloc e true (.tuple #[])) (Instr.alloc e true (.tuple #[])):=by
 refine aj (gV hf e) ?_;rintro z _ ⟨rfl,hz⟩;refine aj (Gf e z hz) ?_;rintro a _ rfl;exact au (by simp[V])
theorem Ti(e:TypeId)(v:Value):Rel P f (V f) (Instr.box e v) (Instr.box e (val f v)):=by
 refine aj (vd e v) ?_;rintro a _ rfl;exact au (by simp[V])
theorem vL(place:Nat->Option (Nat×Nat)):∀(l:List (Nat×Value)) (cells:Array Value),
  Instr.fill place (cells.map (val f)) (l.map fun x=>(x.1,val f x.2))=(Instr.fill place cells l).map fun c=>c.map (val f):=by
 intro l
 induction l with
 |nil=>intro cells;rfl
 |cons x l ih =>
  intro cells;obtain⟨i,v⟩:=x;simp only[bU,Instr.fill];cases hp:place i with
  |none=>rfl
  |some y =>
   obtain⟨off,size⟩:=y;simp only[jT,Array.size_map];split
   ·rfl
   ·rw[<- ih]
    congr 1
    have:∀(l:List (Value×Nat)) (cs:Array Value),(l.map fun y=>(val f y.1,y.2)).foldl (fun cs (x:Value×Nat)=>cs.setIfInBounds (off+x.2) x.1) (cs.map (val f))=(l.foldl (fun cs (x:Value×Nat)=>cs.setIfInBounds (off+x.2) x.1) cs).map (val f):=by
     intro l
     induction l with
     |nil=>intro cs;rfl
     |cons y l ZU=>intro cs;simp only[bU,List.foldl_cons,<- ZU,Array.map_setIfInBounds]
    have e2:=this v.cells.zipIdx.toList cells;rw[<- iQ,<- iQ,<- e2]
    congr 1
    apply List.ext_getElem?;intro j;simp[List.getElem?_map,Array.getElem?_toList,Array.getElem?_zipIdx];cases v.cells[j]?<;>simp
theorem MI(hf:mC P f)(t:TypeId)(ps:Array (Nat×Value)):Rel P f (V f) (Instr.build t ps) (Instr.build t (ps.map fun x=>(x.1,val f x.2))):=by
 refine aj (gV hf t) ?_;rintro z _ ⟨rfl,hz⟩;refine aj (aY t) ?_;rintro d _ ⟨rfl,_⟩;have hzc:z.cells=z.cells.map (val f):=by rw[<- jT,hz]
 split
 ·rename_i fields;refine aj (A:=Eq) (Pg _ fun x _=>?_) ?_
  ·exact aj (dj _) (by rintro n _ rfl;exact au rfl)
  ·rintro places _ rfl;have e:=vL (f:=f) (places[·]?) ps.toList z.cells;rw[<- hzc] at e;simp only[Array.toList_map] at e |-;rw[e];cases Instr.fill (places[·]?) z.cells ps.toList with
   |none=>exact az
   |some c=>exact au (by simp[V])
 ·refine aj (dj _) ?_;rintro n _ rfl;have e:=vL (f:=f) (fun i=>some (i*n,n)) ps.toList z.cells;rw[<- hzc] at e;simp only[Array.toList_map] at e |-;rw[e];cases Instr.fill (fun i=>some (i*n,n)) z.cells ps.toList with
  |none=>exact az
  |some c=>exact au (by simp[V])
 ·exact az
theorem qk{z:Array Value}(hz:z.map (val f)=z)(n:Nat):((Array.range n).map (z[· % z.size]!)).map (val f)=(Array.range n).map (z[· % z.size]!):=by
 rw[gL];apply dH;intro i _;simp only[Function.comp];by_cases hs:0<z.size
 ·have bZ:i%z.size<z.size:=jh _ hs;rw[dT z _ bZ];have:=congrArg (fun a:Array Value=>a[i%z.size]?) hz;simp only[br,Array.getElem?_eq_getElem bZ,cR,en] at this;exact this
 ·have h0:z=#[]:=Array.eq_empty_of_size_eq_zero aa;subst h0;show val f default=default;simp[default,instInhabitedValue]
  first|rfl|simp[instInhabitedValue.default]
theorem eG{c:Prop}[Decidable c]{s:Sem PUnit}{k:Sem γ}{k':Sem δ}(hs:Rel P f (fun _ _=>True) s s)(hk:Rel P f B k k'):Rel P f B (if c then(s>>=fun _=>k) else k) (if c then(s>>=fun _=>k') else k'):=by
 split
 ·exact aj hs (fun _ _ _=>hk)
 ·exact hk
theorem Ax(hf:mC P f)(t:TypeId)(len:Nat)(ps:Array (Nat×Value)):Rel P f (V f) (Instr.buildSlice t len ps) (Instr.buildSlice t len (ps.map fun x=>(x.1,val f x.2))):=by
 refine aj (aY t) ?_;rintro d _ ⟨rfl,_⟩;split
 ·refine aj (dj _) ?_;rintro size _ rfl;dsimp only;refine eG aT ?_;split
  ·refine aj (A:=fun(a b:Array Value)=>a=b/\a.map (val f)=a) (au ⟨rfl,an⟩) ?_;rintro z _ ⟨rfl,hz⟩;have e:=vL (f:=f) (fun i=>some (i*size,size)) ps.toList ((Array.range (len*size)).map (z[· % z.size]!));rw[qk hz] at e;rw[bX,e];cases Instr.fill (fun i=>some (i*size,size)) ((Array.range (len*size)).map (z[· % z.size]!)) ps.toList with
   |none=>exact az
   |some c=>exact aj (jG _ rfl) (by rintro a _ rfl;exact au (by simp[V]))
  ·refine aj (gV hf _) ?_;rintro z0 _ ⟨rfl,WI⟩;refine aj (A:=fun(a b:Array Value)=>a=b/\a.map (val f)=a) (au ⟨rfl,by rw[<- jT,WI]⟩) ?_;rintro z _ ⟨rfl,hz⟩;have e:=vL (f:=f) (fun i=>some (i*size,size)) ps.toList ((Array.range (len*size)).map (z[· % z.size]!));rw[qk hz] at e;rw[bX,e];cases Instr.fill (fun i=>some (i*size,size)) ((Array.range (len*size)).map (z[· % z.size]!)) ps.toList with
   |none=>exact az
   |some c=>exact aj (jG _ rfl) (by rintro a _ rfl;exact au (by simp[V]))
 ·exact az
theorem qQ(r:Nat):Rel P f (fun a b=>b=a.map fun x=>(addr f x.1,x.2)) (viewAt r) (viewAt (f.b r)):=by
 refine aj (gC r) ?_;rintro x _ rfl;split
 ·exact au rfl
 ·refine aj (iP r) ?_;rintro o _ rfl;cases o<;>exact au rfl
theorem vM(r:Nat):Rel P f (fun a b=>b=a.map fun x=>(addr f x.1,x.2)) (numberAt r) (numberAt (f.b r)):=by
 refine aj (gC r) ?_;rintro x _ rfl;split
 ·exact au rfl
 ·refine aj (iP r) ?_;rintro o _ rfl;cases o<;>exact au rfl
theorem ve(a:Addr):Rel P f (fun _ _=>True) (noView a) (noView (addr f a)):=by
 refine aj (qQ a.block) ?_;rintro x _ rfl;simp only[Option.isSome_map];split
 ·exact aT
 ·exact au trivial
theorem Jt(t:TypeId)(v:Value):Rel P f (V f) (Instr.loadAt t v) (Instr.loadAt t (val f v)) :=
 aj (lT v) (by rintro a _ rfl;exact yH t a)
theorem Gg(t:TypeId)(v x:Value):Rel P f (fun _ _=>True) (Instr.storeAt t v x) (Instr.storeAt t (val f v) (val f x)) :=
 aj (lT v) (by rintro a _ rfl;exact Ey t a x)
theorem lD(a:Addr):Rel P f Eq (byteOf a) (byteOf (addr f a)):=by
 unfold byteOf;simp only[MB,Am,va];split
 ·exact au rfl
 ·refine aj dt ?_;rintro _ _ ⟨rfl,rfl⟩;refine aj (ve a) ?_;rintro _ _ _;refine aj (gC _) ?_;rintro x _ rfl;split
  ·split
   ·exact au rfl
   ·split
    ·exact au rfl
    ·exact az
  ·exact az
theorem Ay(a:Addr)(g:Field):Rel P f (AR f) (fieldPlace a g) (fieldPlace (addr f a) g):=by
 refine aj (dj _) ?_;rintro n _ rfl;split
 ·unfold partAt;refine aj (lD a) ?_;rintro b _ rfl;refine aj (A:=Eq) (lD _) ?_;rintro c _ rfl;refine au ?_;simp only[AR];split<;>rfl
 ·exact au (by simp only[AR];rw[jP])
theorem Gh(s:TypeId)(v:Value)(i:Nat):Rel P f (V f) (Instr.fieldAt s v i) (Instr.fieldAt s (val f v) i):=by
 refine aj (aY s) ?_;rintro d _ ⟨rfl,_⟩;split
 ·split
  ·refine aj (lT v) ?_;rintro a _ rfl;refine aj (Ay a _) ?_;rintro b _ rfl;exact au (by simp[V])
  ·exact az
 ·exact az
theorem Gi(hf:mC P f)(t:TypeId)(x i:Value):Rel P f (V f) (Instr.indexAt t x i) (Instr.indexAt t (val f x) (val f i)):=by
 refine aj (pK i) ?_;rintro⟨k,n⟩ _ rfl;dsimp only;refine aj (aY t) ?_;rintro d _ ⟨rfl,_⟩;cases d with
 |array len elem =>
  simp only[];refine aj (lT x) ?_;rintro a _ rfl;refine aj (A:=fun(a b:Option Addr×Nat×TypeId)=>b=(a.1.map (addr f),a.2)) (au rfl) ?_;rintro⟨base,len,elem⟩ _ rfl;refine aj (aY t) ?_;rintro d2 _ ⟨rfl,_⟩;cases base with
  |none=>exact gK hf _ _ _ _
  |some a =>
   simp only[cR];split
   ·refine aj (dj elem) ?_;rintro m _ rfl;exact au (by simp[V,jP])
   ·repeat' (first|exact aT|exact gK hf _ _ _ _|split)
 |slice elem =>
  cases x with
  |slice base len cap =>
   simp only[bt];refine aj (A:=fun(a b:Option Addr×Nat×TypeId)=>b=(a.1.map (addr f),a.2)) (au rfl) ?_;rintro⟨base,len,elem⟩ _ rfl;refine aj (aY t) ?_;rintro d2 _ ⟨rfl,_⟩;cases base with
   |none=>exact gK hf _ _ _ _
   |some a =>
    simp only[cR];split
    ·refine aj (dj elem) ?_;rintro m _ rfl;exact au (by simp[V,jP])
    ·repeat' (first|exact aT|exact gK hf _ _ _ _|split)
  |_=>exact az
 |_=>exact az
theorem Az(hf:mC P f)(x:Value)(y:Nat)(c:BoundsCode):Rel P f Eq (Instr.sliceBound x y c) (Instr.sliceBound (val f x) y c):=by
 refine aj (pK x) ?_;rintro⟨k,i⟩ _ rfl;dsimp only;split
 ·exact au rfl
 ·exact gK hf _ _ _ _
theorem ly(hf:mC P f)(b:Bool)(len cap:Nat)(lo hi mx:Option Value):
  Rel P f Eq (Instr.sliceBounds b len cap lo hi mx) (Instr.sliceBounds b len cap (lo.map (val f)) (hi.map (val f)) (mx.map (val f))):=by
 unfold Instr.sliceBounds;cases mx<;>cases hi<;>cases lo<;>simp only[cR,Option.map_none,Option.isSome_some,Option.isSome_none,pure_bind];all_goals
  repeat (first|exact az|exact au rfl|(refine aj (A:=Eq) (Az hf _ _ _) ?_;rintro _ _ rfl)|(refine aj (A:=Eq) az ?_;rintro _ _ rfl))
theorem MJ(hf:mC P f)(t:TypeId)(x:Value)(lo hi mx:Option Value):
  Rel P f (V f) (Instr.slice t x lo hi mx) (Instr.slice t (val f x) (lo.map (val f)) (hi.map (val f)) (mx.map (val f))):=by
 refine aj (aY t) ?_;rintro d _ ⟨rfl,_⟩;cases d with
 |string =>
  cases x with
  |string s =>
   simp only[bC,Option.isSome_map];refine eG az ?_;refine aj (A:=Eq) (ly hf false s.size s.size lo hi none) ?_;rintro⟨l,h,m⟩ _ rfl;exact au (by simp[V])
  |_=>exact az
 |slice elem =>
  cases x with
  |slice a len cap =>
   simp only[bt];refine aj (A:=Eq) (ly hf true len cap lo hi mx) ?_;rintro⟨l,h,m⟩ _ rfl;refine aj (dj _) ?_;rintro n _ rfl;refine au ?_;simp only[V,bt];split
   ·rfl
   ·cases a<;>simp[jP]
  |_=>exact az
 |pointer arr =>
  simp only[];refine aj (Aw hf x) ?_;rintro a _ rfl;refine aj (aY arr) ?_;rintro d _ ⟨rfl,_⟩;split
  ·refine aj (A:=Eq) (ly hf false _ _ lo hi mx) ?_;rintro⟨l,h,m⟩ _ rfl;refine aj (dj _) ?_;rintro n _ rfl;refine au ?_;simp only[V,bt,cR];split
   ·rfl
   ·rw[jP]
  ·exact az
 |_=>exact az
theorem Gj(hf:mC P f)(t:TypeId)(x:Value)(lo hi mx:Option Value):
  Rel P f (V f) (Instr.sliceAt t x lo hi mx) (Instr.sliceAt t (val f x) (lo.map (val f)) (hi.map (val f)) (mx.map (val f))):=by
 refine aj (aY t) ?_;rintro d _ ⟨rfl,_⟩;split
 ·refine aj (lT x) ?_;rintro a _ rfl;refine aj (A:=Eq) (ly hf false _ _ lo hi mx) ?_;rintro⟨l,h,m⟩ _ rfl;refine aj (dj _) ?_;rintro n _ rfl;refine au ?_;simp only[V,bt,cR];split
  ·rfl
  ·rw[jP]
 ·exact MJ hf t x lo hi mx
theorem vN(t:TypeId)(x:Value):Rel P f (V f) (Instr.makeInterface t x) (Instr.makeInterface t (val f x)):=by
 refine aj (aY t) ?_;rintro d _ ⟨rfl,_⟩;split
 ·exact az
 ·exact au (by simp[V])
theorem Gk(t:TypeId)(r:Option Value):Rel P f (V f) (Instr.makeMap t r) (Instr.makeMap t (r.map (val f))):=by
 have tail:Rel P f (V f) (do pure (.map (some (<- newObj (.map #[] 0))))) (do pure (.map (some (<- newObj (.map #[] 0))))) :=
  aj (lC (o:=.map #[] 0) (by simp[obj]) rfl) (by rintro a _ rfl;exact au (by simp[V]))
 unfold Instr.makeMap;cases r with
 |none=>exact tail
 |some h =>
  simp only[cR];refine aj (aY t) ?_;rintro d _ ⟨rfl,_⟩;split
  ·refine aj (mD h) ?_;rintro n _ rfl;exact tail
  ·exact az
theorem Ez(hf:mC P f)(t:TypeId)(x:Value):Rel P f (V f) (Instr.makeChan t x) (Instr.makeChan t (val f x)):=by
 refine aj (mD x) ?_;rintro n _ rfl;refine aj (aY t) ?_;rintro d _ ⟨rfl,_⟩;split
 ·refine aj (eQ _) ?_;rintro i _ ⟨rfl,_⟩;dsimp only;refine eG (bM hf _) ?_;exact aj (lC (o:=.chan n.toNat #[] false 0 0 false) (by simp[obj]) rfl) (by rintro a _ rfl;exact au (by simp[V]))
 ·exact az
theorem CH(hf:mC P f)(t:TypeId)(l c:Value):Rel P f (V f) (Instr.makeSlice t l c) (Instr.makeSlice t (val f l) (val f c)):=by
 refine aj (aY t) ?_;rintro d _ ⟨rfl,_⟩;split
 ·refine aj (mD l) ?_;rintro n _ rfl;refine aj (mD c) ?_;rintro m _ rfl;refine aj (eQ _) ?_;rintro i _ ⟨rfl,_⟩;dsimp only;have Y2:∀(e:RuntimeError) (k k':PUnit->Sem Value),qP e=true->Rel P f (V f) (runtimePanic e>>=k) (runtimePanic e>>=k'):=fun e k k' he=>aj (A:=fun _ _=>False) (bM hf e he) (fun _ _ h=>h.elim);split
  ·split
   ·exact Y2 _ _ _ rfl
   ·split
    ·exact Y2 _ _ _ rfl
    ·refine aj (gZ _) ?_;rintro x _ rfl;exact Y2 _ _ _ rfl
  ·refine aj (sw _) ?_;rintro _ _ _;refine aj (dj _) ?_;rintro sz _ rfl;split
   ·refine aj (A:=fun(a b:Array Value)=>a=b/\a.map (val f)=a) (au ⟨rfl,an⟩) ?_;rintro z _ ⟨rfl,hz⟩;refine aj (A:=AR f) (jG _ (qk hz _).symm) ?_;rintro a _ rfl;exact au (by simp[V])
   ·refine aj (gV hf _) ?_;rintro z0 _ ⟨rfl,WI⟩;refine aj (A:=fun(a b:Array Value)=>a=b/\a.map (val f)=a) (au ⟨rfl,by rw[<- jT,WI]⟩) ?_;rintro z _ ⟨rfl,hz⟩;refine aj (A:=AR f) (jG _ (qk hz _).symm) ?_;rintro a _ rfl;exact au (by simp[V])
 ·exact az
theorem MK(t:TypeId)(x:Value)(i:Nat):Rel P f (V f) (Instr.field t x i) (Instr.field t (val f x) i):=by
 refine aj (aY t) ?_;rintro d _ ⟨rfl,_⟩;split
 ·split
  ·refine aj (MG x) ?_;rintro cs _ rfl;exact jQ _ _ _
  ·exact az
 ·exact az
theorem ML(hf:mC P f)(t:TypeId)(x i:Value):Rel P f (V f) (Instr.index t x i) (Instr.index t (val f x) (val f i)):=by
 refine aj (pK i) ?_;rintro⟨k,n⟩ _ rfl;dsimp only;refine aj (aY t) ?_;rintro d _ ⟨rfl,_⟩;cases d with
 |array len elem =>
  cases x with
  |agg cs =>
   simp only[cz];split
   ·refine aj (dj _) ?_;rintro m _ rfl;exact jQ _ _ _
   ·exact gK hf _ _ _ _
  |_=>exact az
 |string =>
  cases x with
  |string s =>
   simp only[bC];split
   ·exact au (by simp[V])
   ·exact gK hf _ _ _ _
  |_=>exact az
 |_=>exact az
theorem Gl(x:Value)(i:Nat):Rel P f (V f) (Instr.extract x i) (Instr.extract (val f x) i):=by
 cases x with
 |tuple vs =>
  simp only[bL,Instr.extract,br];cases vs[i]? with
  |none=>exact az
  |some v=>exact au rfl
 |_=>exact az
theorem EA:Rel P f Eq Instr.panicnil Instr.panicnil:=by
 refine aj Tg ?_;rintro r _ rfl;split
 ·dsimp only;refine aj dt ?_;rintro _ _ ⟨rfl,rfl⟩;exact au rfl
 ·exact az
theorem MM(hf:mC P f)(x:Value):Rel P f (V f) (Instr.panic x) (Instr.panic (val f x)):=by
 cases x with
 |iface t v=>simp only[bI,Instr.panic];have:=so (P:=P) (f:=f) (A:=V f) (v:=.iface t v);simpa using this
 |nilIface =>
  simp only[bj,Instr.panic];refine aj EA ?_;rintro n _ rfl;split
  ·have:=so (P:=P) (f:=f) (A:=V f) (v:=.nilIface);simpa using this
  ·exact bM hf _
 |_=>exact az
theorem dY(a:Addr):Rel P f (fun x y=>y=(addr f x.1,x.2)) (behindNumber a) (behindNumber (addr f a)):=by
 refine aj (vM a.block) ?_;rintro x _ rfl;cases x<;>exact au rfl
theorem uy(a:Addr):Rel P f Eq (stringish a) (stringish (addr f a)):=by
 refine aj (oV a) ?_;rintro b _ rfl;cases b
 ·refine aj (A:=Eq) (gC a.block) ?_;rintro x _ rfl;rcases x with _|⟨e,n⟩
  ·exact au rfl
  ·exact oV ⟨a.block,n,none⟩
 ·exact au rfl
theorem EB(a b:Addr):Rel P f Eq (mayBeOne a b) (mayBeOne (addr f a) (addr f b)):=by
 unfold mayBeOne;refine aj (uy a) ?_;rintro x _ rfl;refine aj (uy b) ?_;rintro y _ rfl;dsimp only;refine aj (A:=Eq) (aj (gC a.block) (by rintro u _ rfl;exact au rfl)) ?_;rintro u _ rfl;refine aj (A:=Eq) (aj (gC b.block) (by rintro u _ rfl;exact au rfl)) ?_;rintro w _ rfl;exact au rfl
theorem Ph(hf:mC P f)(a b:Addr):(addr f a=addr f b)=(a=b):=by
 obtain⟨x,o,s⟩:=a;obtain⟨y,p,t⟩:=b;simp only[addr,Addr.mk.injEq,eq_iff_iff];exact⟨fun⟨h,k⟩=>⟨hf.inj _ _ h,k⟩,fun⟨h,k⟩=>⟨by rw[h],k⟩⟩
theorem vO(hf:mC P f)(a b:Addr):(addr f a==addr f b)=(a==b):=by
 rw[dD];simp only[beq_iff_eq,Ph hf]
theorem Dv(hf:mC P f)(x y:Nat):(f.b x==f.b y)=(x==y):=by
 rw[dD];simp only[beq_iff_eq];exact⟨hf.inj _ _,fun h=>by rw[h]⟩
theorem vP(hf:mC P f)(a b:Addr):Rel P f Eq (sameAddr a b) (sameAddr (addr f a) (addr f b)):=by
 unfold sameAddr;simp only[va,Dv hf,vO hf];split
 ·exact au rfl
 ·refine aj (oV a) ?_;rintro x _ rfl;refine aj (oV b) ?_;rintro y _ rfl;refine eG aT ?_;refine aj (ve a) ?_;rintro _ _ _;refine aj (ve b) ?_;rintro _ _ _;refine aj (EB a b) ?_;rintro z _ rfl;cases z
  ·exact au rfl
  ·refine aj (gZ _) ?_;rintro n _ rfl;exact au rfl
theorem zv(hf:mC P f)(a b:Option Addr):Rel P f Eq (samePointer a b) (samePointer (a.map (addr f)) (b.map (addr f))):=by
 cases a<;>cases b
 case some.some a b=>exact vP hf a b
 all_goals exact au rfl
theorem Pj(hf:mC P f)(r:Nat):(f.b r<P.globals.size)=(r<P.globals.size):=propext (hf.jF r)
theorem Gn(hf:mC P f):∀(d:Nat) (t:TypeId) (x y x' y':Value),x'=val f x->y'=val f y->Rel P f Eq (Op.equalIn d t x y) (Op.equalIn d t x' y'):=by
 intro d
 induction d with
 |zero=>intro t x y x' y' _ _;exact aT
 |succ d ih =>
  intro t x y x' y' hx hy;unfold Op.equalIn;refine aj (aY t) ?_;rintro u _ ⟨rfl,_⟩;cases u
  case bool =>
   cases x<;>first|exact az|skip
   cases y<;>first|exact az|skip
   rw[cg] at hx hy;subst hx hy;exact au rfl
  case string =>
   cases x<;>first|exact az|skip
   cases y<;>first|exact az|skip
   rw[bC] at hx hy;subst hx hy;exact au rfl
  case unsafePointer =>
   cases x<;>first|exact az|skip
   cases y<;>first|exact az|skip
   rw[aW] at hx hy;subst hx hy;exact zv hf _ _
  case chan =>
   cases x<;>first|exact az|skip
   cases y<;>first|exact az|skip
   rename_i a b;rw[b7] at hx hy;subst hx hy;refine au ?_;cases a<;>cases b<;>first|rfl|skip
   rename_i a b;have:=Dv hf a b;simpa using this.symm
  case map =>
   cases x<;>first|exact az|skip
   rename_i a;cases a<;>cases y<;>first|exact az|skip
   all_goals (rename_i b;rw[cC] at hx hy;cases b<;>(subst hx hy;first|exact az|exact au rfl))
  case slice =>
   cases x<;>first|exact az|skip
   rename_i a _ _;cases a<;>cases y<;>first|exact az|skip
   all_goals (rename_i b _ _;rw[bt] at hx hy;cases b<;>(subst hx hy;first|exact az|exact au rfl))
  case func =>
   cases x<;>first|exact az|skip
   all_goals (cases y<;>first|exact az|skip)
   all_goals (simp only[b8,bB] at hx hy;subst hx hy;exact au rfl)
  case float =>
   cases x<;>first|exact az|skip
   cases y<;>first|exact az|skip
   rw[bQ] at hx hy;subst hx hy;dsimp only;split
   ·exact au rfl
   ·exact az
  case complex =>
   cases x<;>first|exact az|skip
   cases y<;>first|exact az|skip
   rw[bw] at hx hy;subst hx hy;dsimp only;split
   ·exact au rfl
   ·exact az
  case pointer =>
   cases x<;>first|exact az|skip
   rename_i a;cases a<;>cases y<;>first|exact az|skip
   all_goals (rename_i b;rw[aW] at hx hy;cases b<;>(subst hx hy;first|exact au rfl|skip))
   rename_i a b;dsimp only[Option.map_some];refine aj (dj _) ?_;rintro n _ rfl;split
   ·exact vP hf a b
   ·rw[vO hf];split
    ·exact au rfl
    ·refine aj (gZ _) ?_;rintro n _ rfl;exact au rfl
  case interface =>
   cases x<;>first|exact az|skip
   all_goals (cases y<;>first|exact az|skip)
   all_goals (simp only[bI,bj] at hx hy;subst hx hy;first|exact au rfl|skip)
   dsimp only;split
   ·exact au rfl
   ·refine aj (eQ _) ?_;rintro i _ ⟨rfl,_⟩;split
    ·refine aj dt ?_;rintro _ _ ⟨rfl,rfl⟩;refine aj dt ?_;rintro _ _ ⟨rfl,rfl⟩;refine eG aT ?_;refine aj (yG _) ?_;rintro s _ rfl;exact bM hf _
    ·exact ih _ _ _ _ _ rfl rfl
  case struct =>
   cases x<;>first|exact az|skip
   cases y<;>first|exact az|skip
   rw[cz] at hx hy;subst hx hy;dsimp only;refine aj dt ?_;rintro _ _ ⟨rfl,rfl⟩;refine eG aT ?_;refine aj (A:=Eq) (xE _ _ fun g _ acc=>?_) ?_
   ·split
    ·refine aj (jQ _ _ _) ?_;rintro a _ rfl;refine aj (jQ _ _ _) ?_;rintro b _ rfl;refine aj (ih _ _ _ _ _ rfl rfl) ?_;rintro c _ rfl;cases c<;>exact au rfl
    ·exact au rfl
   ·rintro r _ rfl;try dsimp only
    split<;>exact au rfl
  case array =>
   cases x<;>first|exact az|skip
   cases y<;>first|exact az|skip
   rw[cz] at hx hy;subst hx hy;dsimp only;refine aj (dj _) ?_;rintro m _ rfl;refine aj (A:=Eq) (nO _ _ fun g acc=>?_) ?_
   ·refine aj (jQ _ _ _) ?_;rintro a _ rfl;refine aj (jQ _ _ _) ?_;rintro b _ rfl;refine aj (ih _ _ _ _ _ rfl rfl) ?_;rintro c _ rfl;cases c<;>exact au rfl
   ·rintro r _ rfl;try dsimp only
    split<;>exact au rfl
  case int =>
   cases x
   case int k a =>
    cases y
    case int k' b =>
     rw[cy] at hx hy;subst hx hy;dsimp only;split
     ·exact au rfl
     ·exact az
    case pointer pb =>
     rw[cy] at hx;rw[aW] at hy;subst hx hy;cases pb
     ·exact aT
     ·rcases a with(_|_)|_
      ·exact au rfl
      ·exact aT
      ·exact aT
    all_goals exact az
   case pointer pa =>
    rw[aW] at hx;subst hx;cases pa
    ·cases y<;>exact aT
    ·rename_i pa;cases y
     case int k b =>
      rw[cy] at hy;subst hy;rcases b with(_|_)|_
      ·exact au rfl
      ·exact aT
      ·exact aT
     case pointer pb =>
      rw[aW] at hy;subst hy;cases pb
      ·exact aT
      ·rename_i pb;dsimp only[Option.map_some];refine aj (dY pa) ?_;rintro⟨a,la⟩ _ rfl;refine aj (dY pb) ?_;rintro⟨b,lb⟩ _ rfl;dsimp only;refine aj dt ?_;rintro _ _ ⟨rfl,rfl⟩;simp only[va,Dv hf,Pj hf,vO hf];split
       ·refine aj (lD a) ?_;rintro u _ rfl;refine aj (lD b) ?_;rintro w _ rfl;exact au rfl
       ·refine aj (eQ _) ?_;rintro i _ ⟨rfl,_⟩;split
        ·split
         ·exact au rfl
         ·exact aT
        ·exact aT
     all_goals exact aT
   all_goals (cases y<;>first|exact az|exact aT)
  all_goals exact az
theorem xF(hf:mC P f)(t:TypeId)(x y:Value):Rel P f Eq (Op.equal t x y) (Op.equal t (val f x) (val f y)):=Gn hf _ t x y _ _ rfl rfl
theorem uz:∀(d:Nat) (t:TypeId) (x y:Value),Rel P f Eq (Op.eqGuardIn d t x y) (Op.eqGuardIn d t (val f x) (val f y)):=by
 intro d
 induction d with
 |zero=>intro t x y;exact aT
 |succ d ih =>
  intro t x y;unfold Op.eqGuardIn;refine aj (aY t) ?_;rintro u _ ⟨rfl,_⟩;cases u
  case interface =>
   cases x<;>cases y<;>simp only[cg,cy,bQ,bw,bC,aW,bt,cC,b7,b8,bB,bI,bj,cz,bL]<;>exact au rfl
  case struct =>
   cases x<;>cases y<;>simp only[cg,cy,bQ,bw,bC,aW,bt,cC,b7,b8,bB,bI,bj,cz,bL]<;>first|exact au rfl|skip
   refine aj (A:=Eq) (xE _ _ fun g _ acc=>?_) ?_
   ·split
    ·refine aj (jQ _ _ _) ?_;rintro a _ rfl;refine aj (jQ _ _ _) ?_;rintro b _ rfl;refine aj (ih _ _ _) ?_;rintro c _ rfl;cases c<;>exact au rfl
    ·exact au rfl
   ·rintro r _ rfl;try dsimp only
    split<;>exact au rfl
  case array =>
   cases x<;>cases y<;>simp only[cg,cy,bQ,bw,bC,aW,bt,cC,b7,b8,bB,bI,bj,cz,bL]<;>first|exact au rfl|skip
   refine aj (dj _) ?_;rintro m _ rfl;refine aj (A:=Eq) (nO _ _ fun g acc=>?_) ?_
   ·refine aj (jQ _ _ _) ?_;rintro a _ rfl;refine aj (jQ _ _ _) ?_;rintro b _ rfl;refine aj (ih _ _ _) ?_;rintro c _ rfl;cases c<;>exact au rfl
   ·rintro r _ rfl;try dsimp only
    split<;>exact au rfl
  all_goals exact au rfl
theorem Gp(op:BinOp)(t:TypeId)(x y:Operand)(a b:Value):Rel P f (fun _ _=>True) (eqGuard op t x y a b) (eqGuard op t x y (val f a) (val f b)):=by
 unfold eqGuard;generalize hc:(!(op matches .eql|.neq))=c;cases c
 case true=>exact au trivial
 case false =>
  simp only[fl,if_false];cases a<;>cases b<;>simp only[cg,cy,bQ,bw,bC,aW,bt,cC,b7,b8,bB,bI,bj,cz,bL]<;>first|exact au trivial|skip
  ·generalize Vr:((x matches .const _)||(y matches .const _))=c2;cases c2
   case true=>exact au trivial
   case false =>
    simp only[fl,if_false];refine aj (A:=Eq) (by have:=uz (P:=P) (f:=f) Op.maxDepth t .nilIface .nilIface;simpa using this) ?_;rintro c _ rfl;cases c
    ·exact au trivial
    ·exact aT
  ·rename_i xs ys;refine aj dt ?_;rintro _ _ ⟨rfl,rfl⟩;refine aj dt ?_;rintro _ _ ⟨rfl,rfl⟩;split
   ·exact au trivial
   ·refine aj (A:=Eq) (by have:=uz (P:=P) (f:=f) Op.maxDepth t (.agg xs) (.agg ys);simpa using this) ?_;rintro c _ rfl;cases c
    ·exact au trivial
    ·exact aT
theorem MN(op:UnOp)(x:Value):Rel P f (V f) (Op.unary op x) (Op.unary op (val f x)):=by
 cases x<;>simp only[cg,cy,bQ,bw,bC,aW,bt,cC,b7,b8,bB,bI,bj,cz,bL]<;>cases op<;>simp only[Op.unary,Op.intArith,Op.intBits]<;>first|exact az|exact au (by simp[V])|skip
 all_goals (rename_i a;cases a<;>first|exact aT|exact az)
theorem vQ(op:BinOp)(x y:ah):Rel P f (V f) (Op.stringOp op x y) (Op.stringOp op x y):=by
 cases op<;>simp only[Op.stringOp]<;>first|exact az|exact au (by simp[V])|skip
 split
 ·exact aT
 ·exact au (by simp[V])
theorem MO(hf:mC P f)(op:BinOp)(t:TypeId)(k k':IntKind)(a b:Int):Rel P f (V f) (binOp op t (.int k a) (.int k' b)) (binOp op t (.int k a) (.int k' b)):=by
 cases op<;>simp only[binOp,Op.shift,Op.intArith,Op.intDiv,Op.intBits,Op.intCmp];all_goals repeat' (first|exact az|exact bM hf _|exact au (by simp[V])|split)
theorem mV(t:TypeId)(p n:Value):Rel P f (V f) (Builtin.unsafeAdd_ #[] t #[p,n]) (Builtin.unsafeAdd_ #[] t #[val f p,val f n]):=by
 cases p<;>first|exact az|skip
 rename_i a;rw[aW];refine aj (mD n) ?_;rintro m _ rfl;cases a with
 |none =>
  dsimp only[Option.map_none];split
  ·exact aT
  ·refine eG aT aT
 |some a =>
  dsimp only[Option.map_some];split
  ·refine aj (qQ a.block) ?_;rintro x _ rfl;rw[Option.isSome_map];cases x.isSome
   ·exact au (by simp[V])
   ·exact aT
  ·refine eG aT ?_;refine aj (A:=Eq) (gC a.block) ?_;rintro x _ rfl;split
   ·refine aj dt ?_;rintro _ _ ⟨rfl,rfl⟩;rw[Am];split
    ·exact au (by simp[V,addr])
    ·exact aT
   ·exact aT
theorem vR(a:Addr)(l:Bool):Rel P f (V f) (asNumber a l) (asNumber (addr f a) l) :=
 aj (lC (o:=.number a l) (by simp[obj]) rfl) (by rintro r _ rfl;exact au (by simp[V]))
theorem nP(t:TypeId)(x y:Value):Rel P f (V f) (movedNumber t x y) (movedNumber t (val f x) (val f y)):=by
 unfold movedNumber;refine aj (aY t) ?_;rintro d _ ⟨rfl,_⟩;try dsimp only
 refine eG aT ?_;cases x
 case pointer a =>
  cases a with
  |none=>simp only[aW,Option.map_none];have:=mV (P:=P) (f:=f) t (.pointer none) y;simpa using this
  |some a =>
   simp only[aW,cR];refine aj (dY a) ?_;rintro⟨b,l⟩ _ rfl;refine aj (A:=V f) (by have:=mV (P:=P) (f:=f) t (.pointer (some b)) y;simpa using this) ?_;rintro v _ rfl;cases v<;>simp only[cg,cy,bQ,bw,bC,aW,bt,cC,b7,b8,bB,bI,bj,cz,bL]<;>first|exact au (by simp[V])|skip
   rename_i c;cases c
   ·exact au (by simp[V])
   ·exact vR _ _
 all_goals simp only[cg,cy,bQ,bw,bC,aW,bt,cC,b7,b8,bB,bI,bj,cz,bL]
 all_goals exact az
theorem xG(t:TypeId)(x y:Value):Rel P f (V f) (movedPointer t x y) (movedPointer t (val f x) (val f y)):=by
 unfold movedPointer;cases x
 case pointer a =>
  cases a with
  |none=>simp only[aW,Option.map_none];have:=mV (P:=P) (f:=f) t (.pointer none) y;simpa using this
  |some a =>
   simp only[aW,cR];refine aj (vM a.block) ?_;rintro x _ rfl;simp only[Option.isSome_map];refine eG aT ?_;have:=mV (P:=P) (f:=f) t (.pointer (some a)) y;simpa using this
 all_goals simp only[cg,cy,bQ,bw,bC,aW,bt,cC,b7,b8,bB,bI,bj,cz,bL]
 all_goals exact az
theorem uA(hf:mC P f)(a b:Addr):Rel P f Eq (Op.twoPlaces a b) (Op.twoPlaces (addr f a) (addr f b)):=by
 unfold Op.twoPlaces;refine aj dt ?_;rintro _ _ ⟨rfl,rfl⟩;have e:((addr f a).block != (addr f b).block||decide ((addr f a).block>=P.globals.size))=(a.block != b.block||decide (a.block>=P.globals.size)):=by
  have h1:=Dv hf a.block b.block;have h2:=Pj hf a.block;have h3:decide (f.b a.block>=P.globals.size)=decide (a.block>=P.globals.size):=by
   rw[decide_eq_decide];simp only[eq_iff_iff] at h2;omega
  show(!(f.b a.block==f.b b.block)||decide (f.b a.block>=P.globals.size))=(!(a.block==b.block)||decide (a.block>=P.globals.size));rw[h1,h3]
 rw[e];try dsimp only
 refine eG aT ?_;refine aj (lD a) ?_;rintro x _ rfl;refine aj (lD b) ?_;rintro y _ rfl;exact au rfl
theorem sA(k:IntKind)(a:Addr)(n:Int):Rel P f (V f) (Op.addrMod k a n) (Op.addrMod k (addr f a) n):=by
 unfold Op.addrMod;refine aj (A:=Eq) (gC a.block) ?_;rintro x _ rfl;split
 ·refine aj (eQ _) ?_;rintro i _ ⟨rfl,_⟩;try dsimp only
  refine eG aT ?_;refine aj (lD a) ?_;rintro x _ rfl;exact au (by simp[V])
 ·exact aT
def Calm(P:Program){α:Type}(Q:α->Prop):Sem α->Prop
 | .pure a=>Q a
 | .choose _ k=>∀n,Calm P Q (k n)
 | .program k=>Calm P Q (k P)
 | .halt h=>nN h=true
 |_=>False
theorem Pk{Q:α->Prop}:∀{s:Sem α},Calm P Q s->Rel P f (fun a b=>a=b/\Q a) s s:=by
 intro s
 induction s with
 |pure a=>intro h;exact⟨rfl,h⟩
 |choose q k ih=>intro h;exact⟨rfl,fun n=>ih n (h n)⟩
 |program k ih=>intro h;exact ih P h
 |halt hh=>intro h;exact sn h
 |_=>intro h;exact h.elim
theorem dR{Q:α->Prop}{R:γ->Prop}:∀{s:Sem α} {k:α->Sem γ},Calm P Q s->(∀a,Q a->Calm P R (k a))->Calm P R (s>>=k):=by
 intro s
 induction s with
 |pure a=>intro k h hk;exact hk a h
 |choose q k ih=>intro k' h hk;exact fun n=>ih n (h n) hk
 |program k ih=>intro k' h hk;exact ih P h hk
 |halt hh=>intro k h hk;exact h
 |_=>intro k h hk;exact h.elim
def Plain(v:Value):Prop:=∀f:Rn,val f v=v
theorem oO{s:Sem Value}(h:Calm P Plain s):Rel P f (V f) s s:=FZ (Pk h) (by rintro a _ ⟨rfl,h⟩;exact(h f).symm)
theorem AA{R:γ->Prop}{a:α}{k:α->Sem γ}(h:Calm P R (k a)):Calm P R (pure a>>=k):=h
theorem rO(op:BinOp)(k:FloatKind)(x y:Nat):Calm P (fun v=>∃k r,v=.float k r) (Op.floatArith op k x y):=by
 have tail:∀r:Option Nat,Calm P (fun v=>∃k r,v=.float k r) (match r with|some r=>(pure (.float k r):Sem Value)|none=>do pure (.float k (<- choose (.nanBits k x y)))):=by
  intro r;cases r
  ·exact fun n=>⟨_,_,rfl⟩
  ·exact⟨_,_,rfl⟩
 cases op<;>first|exact tail _|trivial
theorem uB(op:BinOp)(k:FloatKind)(x y:Nat):Calm P (fun v=>∃b,v=.bool b) (Op.floatCmp op k x y):=by
 cases op<;>simp only[Op.floatCmp]<;>first|trivial|exact⟨_,rfl⟩
theorem j0(k:FloatKind)(x:Nat)(d:FloatKind):Calm P (fun v=>∃k r,v=.float k r) (Conv.floatToFloat k x d):=by
 unfold Conv.floatToFloat;split
 ·exact⟨_,_,rfl⟩
 ·split
  ·exact fun n=>⟨_,_,rfl⟩
  ·exact⟨_,_,rfl⟩
  ·dsimp only;split
   ·exact fun n=>⟨_,_,rfl⟩
   ·exact⟨_,_,rfl⟩
theorem mE(op:BinOp)(k:FloatKind)(x y:Nat):Calm P (fun _=>True) (Op.Complex.arith op k x y) :=
 dR (rO op k x y) (by rintro _ ⟨k,r,rfl⟩;trivial)
theorem vS(op:BinOp)(k:FloatKind)(x y:Nat):Calm P (fun _=>True) (Op.Complex.cmp op k x y) :=
 dR (uB op k x y) (by rintro _ ⟨b,rfl⟩;trivial)
theorem tE(k:FloatKind)(x:Nat)(d:FloatKind):Calm P (fun _=>True) (Op.Complex.conv k x d):=by
 unfold Op.Complex.conv
 split
 ·trivial
 ·exact dR (j0 k x d) (by rintro _ ⟨k,r,rfl⟩;trivial)
theorem EC(a b c d:Nat):Calm P (fun _=>True) (Op.Complex.product a b c d):=by
 unfold Op.Complex.product
 repeat' (first|(refine dR (mE _ _ _ _) ?_;intro _ _)|trivial)
theorem sB(s a b c d:Nat):Calm P (fun _=>True) (Op.Complex.corrected s a b c d):=by
 unfold Op.Complex.corrected
 repeat' (first|(refine dR (mE _ _ _ _) ?_;intro _ _)|trivial)
theorem CI(a b c d:Nat):Calm P (fun _=>True) (Op.Complex.quotient a b c d):=by
 unfold Op.Complex.quotient;dsimp only;refine dR (vS _ _ _ _) ?_;intro x _;cases x;all_goals simp only[fl,if_false,if_true]
 all_goals
  iterate 9 (refine dR (mE _ _ _ _) ?_;intro _ _)
  refine AA ?_
  iterate 2 (refine dR (vS _ _ _ _) ?_;intro _ _)
  split
  ·exact True.intro
  ·split
   ·iterate 2 (refine dR (mE _ _ _ _) ?_;intro _ _)
    exact True.intro
   ·split
    ·exact sB _ _ _ _ _
    ·split
     ·exact sB _ _ _ _ _
     ·exact True.intro
theorem AB(op:BinOp)(k:FloatKind)(a b c d:Nat):Calm P Plain (Op.complexOp op k a b c d):=by
 cases op<;>simp only[Op.complexOp]<;>first|trivial|skip
 ·iterate 2 (refine dR (mE _ _ _ _) ?_;intro _ _)
  exact fun g=>an
 ·iterate 2 (refine dR (mE _ _ _ _) ?_;intro _ _)
  exact fun g=>an
 ·iterate 4 (refine dR (tE _ _ _) ?_;intro _ _)
  refine dR (EC _ _ _ _) ?_;intro _ _
  iterate 2 (refine dR (tE _ _ _) ?_;intro _ _)
  exact fun g=>an
 ·iterate 4 (refine dR (tE _ _ _) ?_;intro _ _)
  refine dR (CI _ _ _ _) ?_;intro _ _
  iterate 2 (refine dR (tE _ _ _) ?_;intro _ _)
  exact fun g=>an
 ·iterate 2 (refine dR (vS _ _ _ _) ?_;intro _ _)
  exact fun g=>an
 ·iterate 2 (refine dR (vS _ _ _ _) ?_;intro _ _)
  exact fun g=>an
def Ju:Value->Value->Bool
 | .int ..,.int .. | .float ..,.float .. | .complex ..,.complex .. | .string ..,.string ..=>true
 |_,_=>false
theorem binOp_eql(t:TypeId)(x y:Value)(h:Ju x y=false):binOp .eql t x y=(do pure (.bool (<- Op.equal t x y))):=by
 cases x<;>cases y<;>first|rfl|exact Bool.noConfusion h
theorem binOp_neq(t:TypeId)(x y:Value)(h:Ju x y=false):binOp .neq t x y=(do pure (.bool (!(<- Op.equal t x y)))):=by
 cases x<;>cases y<;>first|rfl|exact Bool.noConfusion h
theorem Gq(x y:Value):Ju (val f x) (val f y)=Ju x y:=by
 cases x<;>simp only[cg,cy,bQ,bw,bC,aW,bt,cC,b7,b8,bB,bI,bj,cz,bL]<;>cases y<;>simp only[cg,cy,bQ,bw,bC,aW,bt,cC,b7,b8,bB,bI,bj,cz,bL]<;>rfl
def ED{α:Type}:Sem α->Bool
 | .halt h=>nN h
 |_=>false
def Lu{α:Type}(s:Sem α):Prop:=ED s=true
theorem xH{s:Sem α}{s':Sem β}(h:Lu s):Rel P f A s s':=by
 cases s with
 |halt hh=>exact sn h
 |_=>exact Bool.noConfusion h
def Dw:Value->Bool
 | .pointer _=>true
 |_=>false
theorem Gr(op:BinOp)(t:TypeId)(x y:Value)(hb:Ju x y=false)(hp:Dw x=false)(hq:Dw y=false)(h1:op≠.eql)(h2:op≠.neq):Lu (binOp op t x y):=by
 cases op<;>first|exact absurd rfl h1|exact absurd rfl h2|skip
 all_goals (cases x<;>first|exact Bool.noConfusion hp|skip)
 all_goals (cases y<;>first|(show ED _=true;rfl)|exact Bool.noConfusion hb|exact Bool.noConfusion hq)
theorem xI{Q R:α->Prop}{s:Sem α}(h:Calm P Q s)(hq:∀a,Q a->R a):Calm P R s:=by
 have:=dR (R:=R) (k:=fun a=>Sem.pure a) h (fun a ha=>hq a ha);have e:(s>>=fun a=>Sem.pure a)=s:=bind_pure s;rwa[e] at this
theorem AD(op:BinOp)(t:TypeId)(a:Option Addr)(y:Value)(hq:Dw y=false)(hi:∀k n,y≠.int k n)(h1:op≠.eql)(h2:op≠.neq):Lu (binOp op t (.pointer a) y)/\Lu (binOp op t y (.pointer a)):=by
 cases op<;>first|exact absurd rfl h1|exact absurd rfl h2|skip
 all_goals (cases a<;>cases y<;>first|exact Bool.noConfusion hq|exact absurd rfl (hi _ _)|exact⟨by show ED _=true;rfl,by show ED _=true;rfl⟩)
theorem Jv(hf:mC P f)(op:BinOp)(t:TypeId)(a:Option Addr)(k:IntKind)(n:Int)(h1:op≠.eql)(h2:op≠.neq):Rel P f (V f) (binOp op t (.pointer a) (.int k n)) (binOp op t (.pointer (a.map (addr f))) (.int k n)):=by
 cases op<;>first|exact absurd rfl h1|exact absurd rfl h2|exact aT|skip
 ·refine aj (aY t) ?_;rintro d _ ⟨rfl,_⟩;split
  ·have:=xG (P:=P) (f:=f) t (.pointer a) (.int k n);simpa using this
  ·have:=nP (P:=P) (f:=f) t (.pointer a) (.int k n);simpa using this
 ·show Rel P f (V f) (movedNumber t (.pointer a) (.int k (-n))) (movedNumber t (.pointer (a.map (addr f))) (.int k (-n)));have:=nP (P:=P) (f:=f) t (.pointer a) (.int k (-n));simpa using this
 ·cases a with
  |none=>exact aT
  |some a =>
   refine aj (dY a) ?_;rintro⟨c,l⟩ _ rfl;exact sA _ _ _
 ·cases a with
  |none=>exact aT
  |some a =>
   refine aj (dY a) ?_;rintro⟨c,l⟩ _ rfl;exact sA _ _ _
 all_goals (cases a<;>exact aT)
theorem Jw(hf:mC P f)(op:BinOp)(t:TypeId)(a:Option Addr)(k:IntKind)(n:Int)(h1:op≠.eql)(h2:op≠.neq):Rel P f (V f) (binOp op t (.int k n) (.pointer a)) (binOp op t (.int k n) (.pointer (a.map (addr f)))):=by
 cases op<;>first|exact absurd rfl h1|exact absurd rfl h2|exact aT|skip
 ·show Rel P f (V f) (movedNumber t (.pointer a) (.int k n)) (movedNumber t (.pointer (a.map (addr f))) (.int k n));have:=nP (P:=P) (f:=f) t (.pointer a) (.int k n);simpa using this
 ·cases a with
  |none=>exact aT
  |some a =>
   refine aj (dY a) ?_;rintro⟨c,l⟩ _ rfl;exact sA _ _ _
theorem Gs(hf:mC P f)(op:BinOp)(a b:Addr):Rel P f (V f) (Op.addrCmp op a b) (Op.addrCmp op (addr f a) (addr f b)):=by
 refine aj (uA hf a b) ?_;rintro⟨x,y⟩ _ rfl;cases op<;>first|exact aT|exact au (by simp[V])
theorem Jx(hf:mC P f)(op:BinOp)(t:TypeId)(a b:Option Addr)(h1:op≠.eql)(h2:op≠.neq):Rel P f (V f) (binOp op t (.pointer a) (.pointer b)) (binOp op t (.pointer (a.map (addr f))) (.pointer (b.map (addr f)))):=by
 cases a with
 |none=>cases b<;>cases op<;>first|exact absurd rfl h1|exact absurd rfl h2|exact aT
 |some a =>
  cases b with
  |none=>cases op<;>first|exact absurd rfl h1|exact absurd rfl h2|exact aT
  |some b =>
   cases op<;>first|exact absurd rfl h1|exact absurd rfl h2|exact aT|skip
   ·refine aj (dY a) ?_;rintro⟨c,l⟩ _ rfl;refine aj (dY b) ?_;rintro⟨d,m⟩ _ rfl;refine aj (uA hf c d) ?_;rintro⟨x,y⟩ _ rfl;exact au (by simp[V])
   all_goals
    refine aj (dY a) ?_;rintro⟨c,l⟩ _ rfl;refine aj (dY b) ?_;rintro⟨d,m⟩ _ rfl;exact Gs hf _ _ _
theorem MP(hf:mC P f)(op:BinOp)(t:TypeId)(x y:Value):Rel P f (V f) (binOp op t x y) (binOp op t (val f x) (val f y)):=by
 by_cases hb:Ju x y=true
 ·cases x<;>cases y<;>first|exact Bool.noConfusion hb|skip
  ·simp only[cy];exact MO hf _ _ _ _ _ _
  ·rename_i k a k' b;simp only[bQ];refine oO ?_;have q1:∀op,Calm P Plain (Op.floatArith op k a b):=fun op=>xI (rO op k a b) (by rintro _ ⟨k,r,rfl⟩ g;simp);have q2:∀op,Calm P Plain (Op.floatCmp op k a b):=fun op=>xI (uB op k a b) (by rintro _ ⟨r,rfl⟩ g;simp);by_cases hk:k=k'
   ·subst hk;cases op<;>simp only[binOp,ne_eq,not_true_eq_false,if_false]<;>first|exact q1 _|exact q2 _
   ·cases op<;>simp only[binOp,ne_eq,hk,not_false_eq_true,if_true]<;>trivial
  ·rename_i k a b k' c d;simp only[bw];refine oO ?_;by_cases hk:k=k'
   ·subst hk;cases op<;>simp only[binOp,ne_eq,not_true_eq_false,if_false]<;>exact AB _ _ _ _ _ _
   ·cases op<;>simp only[binOp,ne_eq,hk,not_false_eq_true,if_true]<;>trivial
  ·rename_i a b;simp only[bC];have e:binOp op t (.string a) (.string b)=Op.stringOp op a b:=by cases op<;>rfl
   rw[e];exact vQ _ _ _
 ·have hb:Ju x y=false:=by simpa using hb
  by_cases h1:op=.eql
  ·subst h1;rw[binOp_eql _ _ _ hb,binOp_eql _ _ _ (by rw[Gq];exact hb)];exact aj (xF hf t x y) (by rintro b _ rfl;exact au (by simp[V]))
  ·by_cases h2:op=.neq
   ·subst h2;rw[binOp_neq _ _ _ hb,binOp_neq _ _ _ (by rw[Gq];exact hb)];exact aj (xF hf t x y) (by rintro b _ rfl;exact au (by simp[V]))
   ·by_cases hp:Dw x=true
    ·cases x<;>first|exact Bool.noConfusion hp|skip
     rw[aW];by_cases hi:∃k n,y=.int k n
     ·obtain⟨k,n,rfl⟩:=hi;rw[cy];exact Jv hf op t _ k n h1 h2
     ·by_cases hq:Dw y=true
      ·cases y<;>first|exact Bool.noConfusion hq|skip
       rw[aW];exact Jx hf op t _ _ h1 h2
      ·exact xH (AD op t _ y (by simpa using hq) (fun k n e=>hi ⟨k,n,e⟩) h1 h2).1
    ·by_cases hq:Dw y=true
     ·cases y<;>first|exact Bool.noConfusion hq|skip
      rw[aW];by_cases hi:∃k n,x=.int k n
      ·obtain⟨k,n,rfl⟩:=hi;rw[cy];exact Jw hf op t _ k n h1 h2
      ·exact xH (AD op t _ x (by simpa using hp) (fun k n e=>hi ⟨k,n,e⟩) h1 h2).2
     ·exact xH (Gr op t x y hb (by simpa using hp) (by simpa using hq) h1 h2)
theorem oh(hf:mC P f)(e:Bool):∀(n:Nat) (t:TypeId) (v:Value),Rel P f Eq (Instr.checkKey e n t v) (Instr.checkKey e n t (val f v)):=by
 intro n
 induction n with
 |zero=>intro t v;exact aT
 |succ n ih =>
  intro t v;obtain⟨v',hv⟩:∃v',v'=val f v:=⟨_,rfl⟩;rw[<- hv];unfold Instr.checkKey;refine aj (aY t) ?_;rintro u _ ⟨rfl,_⟩;cases u
  case interface =>
   cases v<;>first|exact az|skip
   ·rename_i d x;rw[bI] at hv;subst hv;dsimp only;refine aj (eQ d) ?_;rintro i _ ⟨rfl,_⟩;have Y2:∀(x:RuntimeError) (k k':PUnit->Sem PUnit),qP x=true->Rel P f Eq (runtimePanic x>>=k) (runtimePanic x>>=k'):=fun x k k' he=>aj (A:=fun _ _=>False) (bM hf x he) (fun _ _ h=>h.elim);split
    ·split
     ·exact Y2 _ _ _ rfl
     ·refine aj (yG _) ?_;rintro s _ rfl;exact Y2 _ _ _ rfl
    ·exact ih d x
   ·rw[bj] at hv;subst hv;exact au rfl
  case array =>
   cases v<;>first|exact az|skip
   rw[cz] at hv;subst hv;refine aj (A:=Eq) (nO _ _ fun i a=>?_) (by rintro _ _ rfl;exact au rfl);refine aj (dj _) ?_;rintro m _ rfl;refine aj (jQ _ _ _) ?_;rintro x _ rfl;refine aj (ih _ _) ?_;rintro _ _ rfl;exact au rfl
  case struct =>
   cases v<;>first|exact az|skip
   rw[cz] at hv;subst hv;refine aj (A:=Eq) (xE _ _ fun i _ a=>?_) (by rintro _ _ rfl;exact au rfl);split
   ·refine aj (jQ _ _ _) ?_;rintro x _ rfl;refine aj (ih _ _) ?_;rintro _ _ rfl;exact au rfl
   ·exact au rfl
  all_goals exact au rfl
abbrev found(f:Rn):Option (Nat×Value)->Option (Nat×Value)->Prop:=fun a b=>b=a.map fun x=>(x.1,val f x.2)
theorem AE(hf:mC P f)(t:TypeId)(k:Value):∀(es:List MapEntry) (i:Nat),Rel P f (found f) (Instr.findAsking t k es i) (Instr.findAsking t (val f k) (es.map (entry f)) i):=by
 intro es
 induction es with
 |nil=>intro i;exact au rfl
 |cons e es ih =>
  intro i;simp only[bU,Instr.findAsking];refine aj (xF hf t k e.key) ?_;rintro b _ rfl;cases b
  ·exact ih _
  ·exact au rfl
theorem Gt(d:TypeDesc)(x y:Value):Instr.sameNow d (val f x) (val f y)=Instr.sameNow d x y:=by
 cases d<;>first|rfl|skip
 all_goals (cases x<;>simp only[cg,cy,bQ,bw,bC,aW,bt,cC,b7,b8,bB,bI,bj,cz,bL]<;>first|rfl|skip)
 all_goals (cases y<;>simp only[cg,cy,bQ,bw,bC,aW,bt,cC,b7,b8,bB,bI,bj,cz,bL]<;>rfl)
theorem Gv(d:TypeDesc)(k:Value):∀(es:List MapEntry) (i:Nat),Instr.findNow d (val f k) (es.map (entry f)) i=(Instr.findNow d k es i).map fun r=>r.map fun x=>(x.1,val f x.2):=by
 intro es
 induction es with
 |nil=>intro i;rfl
 |cons e es ih =>
  intro i;simp only[bU,Instr.findNow];have:Instr.sameNow d (val f k) (entry f e).key=Instr.sameNow d k e.key:=Gt d k e.key;rw[this];cases Instr.sameNow d k e.key with
  |none=>rfl
  |some b =>
   cases b
   ·exact ih _
   ·rfl
theorem sC(hf:mC P f)(t:TypeId)(k:Value)(es:List MapEntry):Rel P f (found f) (Instr.findKey t k es) (Instr.findKey t (val f k) (es.map (entry f))):=by
 refine aj (aY t) ?_;rintro d _ ⟨rfl,_⟩;rw[Gv];cases Instr.findNow d k es 0 with
 |none=>exact AE hf t k es 0
 |some r=>exact au rfl
theorem Jy(hf:mC P f)(t:TypeId)(x i:Value)(ok:Bool):Rel P f (V f) (Instr.lookup t x i ok) (Instr.lookup t (val f x) (val f i) ok):=by
 refine aj (aY t) ?_;rintro d _ ⟨rfl,_⟩;cases d<;>first|exact az|skip
 rename_i key elem _;have tail:∀es:Array MapEntry,Rel P f (V f) (do
   Instr.checkKey es.isEmpty 10000 key i
   let (v,ok') <- match <- Instr.findKey key i es.toList with
    |some (_,v)=>pure (v,true)
    |none=>pure (<- zeroValue elem,false)
   pure (if ok then .tuple #[v,.bool ok'] else v)) (do
   Instr.checkKey (es.map (entry f)).isEmpty 10000 key (val f i)
   let (v,ok') <- match <- Instr.findKey key (val f i) (es.map (entry f)).toList with
    |some (_,v)=>pure (v,true)
    |none=>pure (<- zeroValue elem,false)
   pure (if ok then .tuple #[v,.bool ok'] else v)):=by
  intro es;have e1:(es.map (entry f)).isEmpty=es.isEmpty:=by simp[Array.isEmpty]
  rw[e1];refine aj (oh hf _ _ _ _) ?_;rintro _ _ rfl;rw[bX];refine aj (sC hf key i es.toList) ?_;rintro r _ rfl;cases r with
  |some y =>
   refine au ?_;cases ok<;>simp[V]
  |none =>
   refine aj (gV hf elem) ?_;rintro z _ ⟨rfl,hz⟩;refine au ?_;cases ok<;>simp[V,hz]
 cases x<;>first|exact az|skip
 rename_i r;rw[cC];cases r with
 |none =>
  have h:=tail #[];rw[show(#[]:Array MapEntry).map (entry f)=#[] by simp] at h;exact h
 |some r =>
  refine aj (iP r) ?_;rintro o _ rfl;cases o<;>first|exact az|skip
  exact tail _
theorem yI(hf:mC P f)(a b:Option Addr):(a.map (addr f)==b.map (addr f))=(a==b):=by
 cases a<;>cases b<;>first|rfl|skip
 rename_i a b;have:=vO hf a b;simpa using this
theorem AF(hf:mC P f)(a b:Option Nat):(a.map f.b==b.map f.b)=(a==b):=by
 cases a<;>cases b<;>first|rfl|skip
 rename_i a b;have:=Dv hf a b;simpa using this
theorem EE(hf:mC P f):∀(n:Nat) (x y:Value),Instr.sameBits n (val f x) (val f y)=Instr.sameBits n x y:=by
 intro n
 induction n with
 |zero =>
  intro x y;cases x<;>simp only[cg,cy,bQ,bw,bC,aW,bt,cC,b7,b8,bB,bI,bj,cz,bL]<;>cases y<;>simp only[cg,cy,bQ,bw,bC,aW,bt,cC,b7,b8,bB,bI,bj,cz,bL,Instr.sameBits]
  ·rename_i a b;exact yI hf a b
  ·rename_i a b;exact AF hf a b
 |succ n ih =>
  intro x y;cases x<;>simp only[cg,cy,bQ,bw,bC,aW,bt,cC,b7,b8,bB,bI,bj,cz,bL]<;>cases y<;>simp only[cg,cy,bQ,bw,bC,aW,bt,cC,b7,b8,bB,bI,bj,cz,bL,Instr.sameBits,ih]
  ·rename_i a b;exact yI hf a b
  ·rename_i a b;exact AF hf a b
  ·rename_i a b;simp only[Array.size_map,Array.toList_map]
   congr 1
   generalize a.toList=l;generalize b.toList=m
   induction l generalizing m with
   |nil=>rfl
   |cons x l ZU =>
    cases m with
    |nil=>rfl
    |cons y m=>simp only[bU,List.zip_cons_cons,List.all_cons,ih,ZU]
theorem xJ(hf:mC P f)(a b:Value):Rel P f (V f) (Instr.keyThatStays a b) (Instr.keyThatStays (val f a) (val f b)):=by
 unfold Instr.keyThatStays;rw[EE hf];split
 ·exact au rfl
 ·refine aj (gZ _) ?_;rintro n _ rfl;refine au ?_;simp only[V];split<;>rfl
theorem uC(hf:mC P f)(t:TypeId)(m k v:Value):Rel P f (fun _ _=>True) (Instr.mapUpdate t m k v) (Instr.mapUpdate t (val f m) (val f k) (val f v)):=by
 refine aj (aY t) ?_;rintro d _ ⟨rfl,_⟩;cases d<;>first|exact az|skip
 cases m<;>first|exact az|skip
 rename_i r;rw[cC];cases r with
 |none=>exact bM hf _
 |some r =>
  refine aj (iP r) ?_;rintro o _ rfl;cases o<;>first|exact az|skip
  rename_i es clock;refine aj (oh hf _ _ _ _) ?_;rintro _ _ rfl;rw[bX];refine aj (sC hf _ k es.toList) ?_;rintro x _ rfl;cases x with
  |some y =>
   obtain⟨i,w⟩:=y;dsimp only[Option.map_some];refine aj (A:=V f) (by
    have:=xJ (P:=P) hf (((es[i]?).map (·.key)).getD k) k;rw[show val f (((es[i]?).map (·.key)).getD k)=((((es.map (entry f))[i]?).map (·.key)).getD (val f k)) by
     simp only[br];cases es[i]?<;>rfl] at this
    exact this) ?_
   rintro k2 _ rfl;refine oW r ?_ rfl;simp only[obj]
   congr 1
   apply iR;intro j;simp only[er,br];split<;>cases es[j]?<;>rfl
  |none =>
   refine oW r ?_ rfl;simp only[obj,Array.map_push];rfl
theorem kN{c c':Prop}[Decidable c][Decidable c']{a b:Sem α}{a' b':Sem β}(hc:c↔c')(h1:c->Rel P f A a a')(h2:¬c->Rel P f A b b'):Rel P f A (if c then a else b) (if c' then a' else b'):=by
 by_cases h:c
 ·rw[if_pos h,if_pos (hc.1 h)];exact h1 h
 ·rw[if_neg h,if_neg (fun k=>h (hc.2 k))];exact h2 h
theorem uD{g g':Value->β->Sem (ForInStep β)}(xs:Array Value)(init:β)(h:∀x a,Rel P f Eq (g x a) (g' (val f x) a)):Rel P f Eq (forIn xs init g) (forIn (xs.map (val f)) init g'):=by
 rw[<- fj,<- fj,bX];generalize xs.toList=l
 induction l generalizing init with
 |nil=>simp only[oe,List.forIn_nil];exact au rfl
 |cons x l ih =>
  simp only[bU,List.forIn_cons];refine aj (h x init) ?_;rintro a _ rfl;cases a
  ·exact au rfl
  ·exact ih _
theorem pL(a:Addr):Rel P f (fun _ _=>True) (markStringish a) (markStringish (addr f a)):=by
 refine aj (A:=Eq) (gC a.block) ?_;rintro x _ rfl;split
 ·exact As _ _
 ·exact au trivial
theorem vT(e:TypeId)(s:ah):Rel P f (V f) (Conv.stringToBytes e s) (Conv.stringToBytes e s):=by
 refine aj (gZ _) ?_;rintro c _ rfl;dsimp only;refine aj (A:=AR f) (jG _ (by simp[Function.comp_def])) ?_;rintro a _ rfl;refine aj (pL a) ?_;rintro _ _ _;exact au (by simp[V])
theorem CJ(s:ah):∀(n i:Nat) (acc:Array Value),acc.map (val f)=acc->(Conv.runesFrom s n i acc).map (val f)=Conv.runesFrom s n i acc:=by
 intro n
 induction n with
 |zero=>intro i acc h;exact h
 |succ n ih =>
  intro i acc h;unfold Conv.runesFrom;split
  ·exact ih _ _ (by simp[Array.map_push,h])
  ·exact h
theorem vU(e:TypeId)(s:ah):Rel P f (V f) (Conv.stringToRunes e s) (Conv.stringToRunes e s):=by
 unfold Conv.stringToRunes;dsimp only;refine aj (gZ _) ?_;rintro c _ rfl;have h:=CJ (f:=f) s s.size 0 #[] an;refine aj (A:=AR f) (jG _ (by rw[fH,h];simp)) ?_;rintro a _ rfl;exact au (by simp[V])
theorem vV(x:Value):Rel P f (V f) (Conv.bytesToString x) (Conv.bytesToString (val f x)):=by
 cases x<;>first|exact az|skip
 rename_i a len cap;rw[bt];cases a with
 |none=>exact au (by simp[V])
 |some a =>
  unfold Conv.bytesToString;dsimp only[Option.map_some];refine aj (mU a len) ?_;rintro cs _ rfl;refine aj (A:=Eq) (uD _ _ fun c acc=>?_) ?_
  ·cases c<;>simp only[cg,cy,bQ,bw,bC,aW,bt,cC,b7,b8,bB,bI,bj,cz,bL]<;>first|exact az|skip
   rename_i k n;cases k<;>first|exact az|exact au rfl
  ·rintro s _ rfl;exact au (by simp[V])
theorem vW(x:Value):Rel P f (V f) (Conv.runesToString x) (Conv.runesToString (val f x)):=by
 cases x<;>first|exact az|skip
 rename_i a len cap;rw[bt];cases a with
 |none=>exact au (by simp[V])
 |some a =>
  unfold Conv.runesToString;dsimp only[Option.map_some];refine aj (mU a len) ?_;rintro cs _ rfl;refine aj (A:=Eq) (uD _ _ fun c acc=>?_) ?_
  ·cases c<;>simp only[cg,cy,bQ,bw,bC,aW,bt,cC,b7,b8,bB,bI,bj,cz,bL]<;>first|exact az|skip
   rename_i k n;cases k<;>first|exact az|exact au rfl
  ·rintro s _ rfl;exact au (by simp[V])
theorem Gw(r:Nat):Rel P f Eq (cellsIn r) (cellsIn (f.b r)):=by
 refine aj (gC r) ?_;rintro x _ rfl;split
 ·exact au rfl
 ·refine aj (iP r) ?_;rintro o _ rfl;cases o<;>exact au (by simp[obj])
theorem rP(a:Addr)(u:TypeId)(n:Nat):Rel P f Eq (variablesAt a u n) (variablesAt (addr f a) u n):=by
 refine aj dt ?_;rintro _ _ ⟨rfl,rfl⟩;refine aj (A:=Eq) (gC a.block) ?_;rintro x _ rfl;split<;>exact au rfl
theorem AG(a:Addr):Rel P f (AR f) (Conv.seenAt a) (Conv.seenAt (addr f a)):=by
 refine aj (qQ a.block) ?_;rintro x _ rfl;cases x with
 |none=>exact au rfl
 |some y =>
  obtain⟨s,u⟩:=y;dsimp only[Option.map_some];refine kN cG (fun _=>au rfl) (fun _=>?_);refine eG aT ?_;refine aj dt ?_;rintro _ _ ⟨rfl,rfl⟩;dsimp only[Am];cases byteOfCell P P.depth u a.off with
  |none=>exact aT
  |some β =>
   refine aj (A:=Eq) (gC s.block) ?_;rintro z _ rfl;rcases z with _|⟨e,cells⟩
   ·exact aT
   ·refine eG aT ?_;cases cellAtBytes P P.depth e (cells/P.cellsOf e) s.off β with
    |none=>exact aT
    |some c=>exact au rfl
theorem AH(src dst:TypeId)(x:Value):Rel P f (V f) (Conv.unsafePointer src dst x) (Conv.unsafePointer src dst (val f x)):=by
 refine aj (aY src) ?_;rintro u _ ⟨rfl,_⟩;refine aj (aY dst) ?_;rintro w _ ⟨rfl,_⟩;obtain⟨x',hx⟩:∃x',x'=val f x:=⟨_,rfl⟩;rw[<- hx];cases u<;>first|exact az|skip
 case pointer t =>
  cases w<;>first|exact az|skip
  cases x<;>first|exact az|skip
  rename_i a;rw[aW] at hx;subst hx;cases a with
  |none=>exact au (by simp[V])
  |some a =>
   dsimp only[Option.map_some];refine aj (AG a) ?_;rintro s _ rfl;refine aj (Gw s.block) ?_;rintro c _ rfl;refine aj (dj _) ?_;rintro n _ rfl;refine kN cG (fun _=>?_) (fun _=>au (by simp[V]));refine aj (A:=fun r r'=>r'=f.b r) (lC rfl rfl) ?_;rintro r _ rfl;exact au (by simp[V])
 case unsafePointer =>
  cases w<;>first|exact az|skip
  case pointer t =>
   cases x<;>first|exact az|skip
   rename_i a;rw[aW] at hx;subst hx;cases a with
   |none=>exact au (by simp[V])
   |some a =>
    dsimp only[Option.map_some];refine aj (AG a) ?_;rintro s _ rfl;refine aj (dj _) ?_;rintro n _ rfl;refine aj (rP s _ 1) ?_;rintro b _ rfl;refine kN cG (fun _=>au (by simp[V])) (fun _=>?_);refine aj (A:=Eq) (gC s.block) ?_;rintro z _ rfl;rcases z with _|⟨e,cells⟩
    ·exact aT
    ·dsimp only;refine aj dt ?_;rintro _ _ ⟨rfl,rfl⟩;refine aj dt ?_;rintro _ _ ⟨rfl,rfl⟩;refine eG aT ?_;refine aj (A:=fun r r'=>r'=f.b r) (lC rfl rfl) ?_;rintro r _ rfl;exact au (by simp[V])
  case unsafePointer =>
   cases x<;>first|exact az|skip
   rw[aW] at hx;subst hx;exact au (by simp[V])
  case int k =>
   cases x<;>first|exact az|skip
   rename_i a;rw[aW] at hx;subst hx;cases a with
   |none=>exact au (by simp[V])
   |some a=>exact vR a false
 case int =>
  cases w<;>first|exact az|skip
  cases x<;>first|exact az|skip
  ·rename_i k n;rcases n with(_|_)|_<;>exact aT
  ·rename_i a;cases a<;>first|exact az|exact aT
theorem zw(k:FloatKind)(b:Nat)(d:IntKind):Calm P Plain (Conv.floatToInt k b d):=by
 unfold Conv.floatToInt;dsimp only;split
 ·split
  ·exact fun g=>an
  ·exact fun n g=>an
 ·exact fun n g=>an
theorem Pm(k:FloatKind)(a b:Nat)(d:FloatKind):Calm P Plain (Conv.complexToComplex k a b d):=by
 refine dR (j0 _ _ _) ?_;rintro _ ⟨k,r,rfl⟩;refine dR (j0 _ _ _) ?_;rintro _ ⟨k,r,rfl⟩;exact fun g=>an
theorem Gx(hf:mC P f)(src dst:TypeId)(x:Value):Rel P f (V f) (convert src dst x) (convert src dst (val f x)):=by
 obtain⟨x',hx⟩:∃x',x'=val f x:=⟨_,rfl⟩;rw[<- hx];unfold convert;refine aj (aY src) ?_;rintro u _ ⟨rfl,_⟩;refine aj (aY dst) ?_;rintro w _ ⟨rfl,_⟩;have conv:Rel P f (V f) (Conv.unsafePointer src dst x) (Conv.unsafePointer src dst x'):=by rw[hx];exact AH src dst x
 have hb:Rel P f (V f) (Conv.bytesToString x) (Conv.bytesToString x'):=by rw[hx];exact vV x
 have hr:Rel P f (V f) (Conv.runesToString x) (Conv.runesToString x'):=by rw[hx];exact vW x
 cases w
 case unsafePointer=>cases u<;>exact conv
 case int =>
  cases x<;>(simp only[cg,cy,bQ,bw,bC,aW,bt,cC,b7,b8,bB,bI,bj,cz,bL] at hx;subst hx)
  case int=>exact au (by simp[V])
  case float=>exact oO (zw _ _ _)
  case pointer a=>cases a<;>cases u<;>first|exact aT|exact conv
  all_goals (cases u<;>first|exact aT|exact conv)
 case float =>
  cases x<;>(simp only[cg,cy,bQ,bw,bC,aW,bt,cC,b7,b8,bB,bI,bj,cz,bL] at hx;subst hx)
  case int=>exact au (by simp[V])
  case float=>exact oO (xI (j0 _ _ _) (by rintro _ ⟨k,r,rfl⟩ g;simp))
  case pointer a=>cases a<;>cases u<;>first|exact aT|exact conv
  all_goals (cases u<;>first|exact aT|exact conv)
 case complex =>
  cases x<;>(simp only[cg,cy,bQ,bw,bC,aW,bt,cC,b7,b8,bB,bI,bj,cz,bL] at hx;subst hx)
  case complex=>exact oO (Pm _ _ _ _)
  case pointer a=>cases a<;>cases u<;>first|exact aT|exact conv
  all_goals (cases u<;>first|exact aT|exact conv)
 case string =>
  cases x<;>(simp only[cg,cy,bQ,bw,bC,aW,bt,cC,b7,b8,bB,bI,bj,cz,bL] at hx;subst hx)
  case int=>exact au (by simp[V])
  case string=>exact au (by simp[V])
  case pointer a =>
   cases a<;>cases u<;>first|exact aT|exact conv|skip
   all_goals
    refine aj (aY _) ?_;rintro d _ ⟨rfl,_⟩;cases d<;>first|exact az|skip
    rename_i k _;cases k<;>first|exact az|exact hb|exact hr
  all_goals
   cases u<;>first|exact aT|exact conv|skip
   refine aj (aY _) ?_;rintro d _ ⟨rfl,_⟩;cases d<;>first|exact az|skip
   rename_i k _;cases k<;>first|exact az|exact hb|exact hr
 case slice e =>
  cases x<;>(simp only[cg,cy,bQ,bw,bC,aW,bt,cC,b7,b8,bB,bI,bj,cz,bL] at hx;subst hx)
  case string s =>
   refine aj (aY _) ?_;rintro d _ ⟨rfl,_⟩;cases d<;>first|exact az|skip
   rename_i k _;cases k<;>first|exact az|exact vT _ s|exact vU _ s
  case slice a len cap =>
   cases a with
   |none=>cases u<;>first|exact aT|exact conv
   |some a =>
    cases u<;>first|exact aT|exact conv|skip
    refine aj (aY _) ?_;rintro d _ ⟨rfl,_⟩;cases hsd:src==dst
    ·exact aT
    ·cases d<;>first|exact aT|skip
     rename_i k _;cases k<;>first|exact aT|skip
     refine aj (pL a) ?_;rintro _ _ _;exact au (by simp[V])
  case pointer a=>cases a<;>cases u<;>first|exact aT|exact conv
  all_goals (cases u<;>first|exact aT|exact conv)
 all_goals
  cases x<;>(simp only[cg,cy,bQ,bw,bC,aW,bt,cC,b7,b8,bB,bI,bj,cz,bL] at hx;subst hx)
  case pointer a=>cases a<;>cases u<;>first|exact aT|exact conv
  all_goals (cases u<;>first|exact aT|exact conv)
theorem Tj(ts:Array TypeId)(t:TypeId)(args:Array Value):Rel P f (V f) (Builtin.len_ ts t args) (Builtin.len_ ts t (args.map (val f))):=by
 unfold Builtin.len_;rw[br];cases ts[0]? with
 |none=>exact az
 |some u =>
  cases args[0]? with
  |none=>exact az
  |some x =>
   obtain⟨x',hx⟩:∃x',x'=val f x:=⟨_,rfl⟩;dsimp only[Option.map_some];rw[<- hx];refine aj (aY u) ?_;rintro d _ ⟨rfl,_⟩;cases d<;>first|exact az|skip
   case string =>
    cases x<;>first|exact az|skip
    rw[bC] at hx;subst hx;exact au (by simp[V,goInt])
   case array=>exact au (by simp[V,goInt])
   case pointer =>
    refine aj (aY _) ?_;rintro d _ ⟨rfl,_⟩;cases d<;>first|exact az|exact au (by simp[V,goInt])
   case slice =>
    cases x<;>first|exact az|skip
    rw[bt] at hx;subst hx;exact au (by simp[V,goInt])
   case map =>
    cases x<;>first|exact az|skip
    rename_i r;rw[cC] at hx;subst hx;cases r with
    |none=>exact au (by simp[V,goInt])
    |some r =>
     refine aj (iP r) ?_;rintro o _ rfl;cases o<;>first|exact az|exact au (by simp[V,goInt])
   case chan =>
    cases x<;>first|exact az|skip
    rename_i r;rw[b7] at hx;subst hx;cases r with
    |none=>exact au (by simp[V,goInt])
    |some r =>
     refine aj (iP r) ?_;rintro o _ rfl;cases o<;>first|exact az|exact au (by simp[V,goInt])
theorem Tk(ts:Array TypeId)(t:TypeId)(args:Array Value):Rel P f (V f) (Builtin.cap_ ts t args) (Builtin.cap_ ts t (args.map (val f))):=by
 unfold Builtin.cap_;rw[br];cases ts[0]? with
 |none=>exact az
 |some u =>
  cases args[0]? with
  |none=>exact az
  |some x =>
   obtain⟨x',hx⟩:∃x',x'=val f x:=⟨_,rfl⟩;dsimp only[Option.map_some];rw[<- hx];refine aj (aY u) ?_;rintro d _ ⟨rfl,_⟩;cases d<;>first|exact az|skip
   case array=>exact au (by simp[V,goInt])
   case pointer =>
    refine aj (aY _) ?_;rintro d _ ⟨rfl,_⟩;cases d<;>first|exact az|exact au (by simp[V,goInt])
   case slice =>
    cases x<;>first|exact az|skip
    rw[bt] at hx;subst hx;exact au (by simp[V,goInt])
   case chan =>
    cases x<;>first|exact az|skip
    rename_i r;rw[b7] at hx;subst hx;cases r with
    |none=>exact au (by simp[V,goInt])
    |some r =>
     refine aj (iP r) ?_;rintro o _ rfl;cases o<;>first|exact az|exact au (by simp[V,goInt])
theorem Dx(x:Value):Rel P f Eq (Builtin.lenOf x) (Builtin.lenOf (val f x)):=by
 cases x<;>simp only[cg,cy,bQ,bw,bC,aW,bt,cC,b7,b8,bB,bI,bj,cz,bL]<;>first|exact az|exact au rfl
theorem oX(s n:Nat)(x:Value):Rel P f (VS f) (Builtin.firstCells s n x) (Builtin.firstCells s n (val f x)):=by
 cases x<;>simp only[cg,cy,bQ,bw,bC,aW,bt,cC,b7,b8,bB,bI,bj,cz,bL]<;>first|exact az|skip
 ·exact au (by simp[VS,Function.comp_def])
 ·rename_i a _ _;cases a with
  |none=>exact au (by simp[VS])
  |some a=>exact mU _ _
theorem Pn(ts:Array TypeId)(t:TypeId)(args:Array Value):Rel P f (V f) (Builtin.copy_ ts t args) (Builtin.copy_ ts t (args.map (val f))):=by
 unfold Builtin.copy_;rw[br,br];cases ts[0]? with
 |none=>exact az
 |some u =>
  cases args[0]? with
  |none=>exact az
  |some x =>
   cases args[1]? with
   |none=>exact az
   |some y =>
    dsimp only[Option.map_some];refine aj (aY u) ?_;rintro d _ ⟨rfl,_⟩;cases d<;>first|exact az|skip
    cases x<;>first|exact az|skip
    rename_i a dl _;rw[bt];refine aj (Dx y) ?_;rintro n _ rfl;refine aj (dj _) ?_;rintro m _ rfl;refine aj (oX _ _ y) ?_;rintro cs _ rfl;cases a with
    |none=>exact au (by simp[V,goInt])
    |some a =>
     dsimp only[Option.map_some];rw[bX];refine aj (kz a _ 0) ?_;rintro _ _ _;exact au (by simp[V,goInt])
theorem sD(a:Addr)(n:Nat):Rel P f Eq (Builtin.holdsCells a n) (Builtin.holdsCells (addr f a) n):=by
 refine aj (A:=Eq) (gC a.block) ?_;rintro x _ rfl;split<;>exact au rfl
theorem pY{z:Array Value}(hz:z.map (val f)=z)(n:Nat):(Builtin.zeroCells z n).map (val f)=Builtin.zeroCells z n:=qk hz _
theorem EF(hf:mC P f)(s l n:Nat)(b:Option Addr)(x:Value):Rel P f Eq (Builtin.mayShare s l n b x) (Builtin.mayShare s l n (b.map (addr f)) (val f x)):=by
 have tail:∀t:Bool,Rel P f Eq (do
   if !t then return true
   match x with
   | .slice (some c) _ _=>do pure (!(<- Builtin.holdsCells c (n*s))||b.any (·.block==c.block))
   |_=>pure false) (do
   if !t then return true
   match val f x with
   | .slice (some c) _ _=>do pure (!(<- Builtin.holdsCells c (n*s))||(b.map (addr f)).any (·.block==c.block))
   |_=>pure false):=by
  intro t;cases t
  ·exact au rfl
  ·cases x<;>simp only[cg,cy,bQ,bw,bC,aW,bt,cC,b7,b8,bB,bI,bj,cz,bL]<;>first|exact au rfl|skip
   rename_i c _ _;cases c with
   |none=>exact au rfl
   |some c =>
    refine aj (sD c _) ?_;rintro h _ rfl;refine au ?_;cases b with
    |none=>rfl
    |some b=>simp[Dv hf]
 unfold Builtin.mayShare;cases b with
 |none=>exact tail true
 |some a =>
  dsimp only[Option.map_some];refine aj (sD a _) ?_;rintro h _ rfl;rw[<- jP];refine aj (oV _) ?_;rintro z _ rfl;exact tail _
def zR(e1:RuntimeError)(u:String)(elem:TypeId)(base:Option Addr)(kU ng size:Nat)(s x:Value)(lU:Bool)(n:Nat):Sem Value:=do
 let Gy:Sem (Array Value) :=
  if !lU then Builtin.firstCells size n x
  else if n*size=0 then pure #[]
  else do pure (Builtin.zeroCells (<- zeroValue elem).cells n)
 let ua:=kU+n
 if ua<=ng then
  let new <- Gy
  if let some a:=base then storeCells (a.add (kU*size)) new.toList
  pure (.slice base ua ng)
 else
  if (ua:Int)>IntKind.i64.max/\(lU\/(<- typeInfo elem).bytes=0) then runtimePanic e1
  if Builtin.nextslicecap ua ng*(<- typeInfo elem).bytes>2^48 then(if lU then runtimePanic e1 else do
   if !(<- Builtin.mayShare size kU n base x) then mark .noRoom
   unsupported (.resourceLimit u))
  let oY <- choose (.appendCap ua ng elem)
  askRoom (oY*(<- typeInfo elem).bytes)
  let old <- Builtin.firstCells size kU s;let new <- Gy;let rest:=Builtin.zeroCells (<- zeroValue elem).cells (oY-ua)
  pure (.slice (some (<- newRow elem (old++new++rest))) ua oY)
def EG(e0 e1:RuntimeError)(q:Question)(e2:Nat->RuntimeError)(u:String)(elem:TypeId)(base:Option Addr)(kU ng size:Nat)(s x:Value)(lU:Bool):Sem Value:=do
 let n <- if lU then do
   let l:=IntKind.i64.wrap (<- asInt x)
   if l<0 then runtimePanic e0
   if l*(<- typeInfo elem).bytes>2^48 then
    let made <- choose q
    runtimePanic (e2 made)
   pure l.toNat
  else Builtin.lenOf x
 zR e1 u elem base kU ng size s x lU n
theorem yJ(hf:mC P f)(e1:RuntimeError)(h1:qP e1=true)(u:String)(elem:TypeId)(base:Option Addr)(kU ng size:Nat)(x:Value)(lU:Bool)(n:Nat):
  Rel P f (V f) (zR e1 u elem base kU ng size (.slice base kU ng) x lU n) (zR e1 u elem (base.map (addr f)) kU ng size (.slice (base.map (addr f)) kU ng) (val f x) lU n):=by
 have app:Rel P f (VS f) (if !lU then Builtin.firstCells size n x else if n*size=0 then pure #[] else do pure (Builtin.zeroCells (<- zeroValue elem).cells n))
   (if !lU then Builtin.firstCells size n (val f x) else if n*size=0 then pure #[] else do pure (Builtin.zeroCells (<- zeroValue elem).cells n)):=by
  cases lU
  ·exact oX _ _ _
  ·refine kN cG (fun h=>(by cases h)) (fun _=>?_);refine kN cG (fun _=>au (by simp[VS])) (fun _=>?_);refine aj (gV hf _) ?_;rintro z _ ⟨rfl,hz⟩;exact au (by simp only[VS];rw[pY (by rw[<- jT,hz])])
 unfold zR;dsimp only;refine kN cG (fun _=>?_) (fun _=>?_)
 ·refine aj app ?_;rintro new _ rfl;cases base with
  |none=>exact au (by simp[V])
  |some a =>
   dsimp only[Option.map_some];rw[bX,<- jP];refine aj (kz _ _ 0) ?_;rintro _ _ _;exact au (by simp[V])
 ·refine aj (eQ _) ?_;rintro i _ ⟨rfl,_⟩;refine eG (bM hf _ h1) ?_;refine aj (eQ _) ?_;rintro i2 _ ⟨rfl,_⟩;have rest:Rel P f (V f) (do
    let oY <- choose (.appendCap (kU+n) ng elem)
    askRoom (oY*(<- typeInfo elem).bytes)
    let old <- Builtin.firstCells size kU (.slice base kU ng);let new <- (if !lU then Builtin.firstCells size n x else if n*size=0 then pure #[] else do pure (Builtin.zeroCells (<- zeroValue elem).cells n));let rest:=Builtin.zeroCells (<- zeroValue elem).cells (oY-(kU+n))
    pure (.slice (some (<- newRow elem (old++new++rest))) (kU+n) oY)) (do
    let oY <- choose (.appendCap (kU+n) ng elem)
    askRoom (oY*(<- typeInfo elem).bytes)
    let old <- Builtin.firstCells size kU (.slice (base.map (addr f)) kU ng);let new <- (if !lU then Builtin.firstCells size n (val f x) else if n*size=0 then pure #[] else do pure (Builtin.zeroCells (<- zeroValue elem).cells n));let rest:=Builtin.zeroCells (<- zeroValue elem).cells (oY-(kU+n))
    pure (.slice (some (<- newRow elem (old++new++rest))) (kU+n) oY)):=by
   refine aj (gZ _) ?_;rintro c _ rfl;refine aj (eQ _) ?_;rintro i _ ⟨rfl,_⟩;refine aj (sw _) ?_;rintro _ _ _;refine aj (A:=VS f) (by have:=oX (P:=P) (f:=f) size kU (.slice base kU ng);rwa[bt] at this) ?_;rintro old _ rfl;refine aj app ?_;rintro new _ rfl;refine aj (gV hf _) ?_;rintro z _ ⟨rfl,hz⟩;refine aj (A:=AR f) (jG _ (by rw[fH,fH,pY (by rw[<- jT,hz])])) ?_;rintro a _ rfl;exact au (by simp[V])
  refine kN cG (fun _=>?_) (fun _=>rest);cases lU
  ·refine aj (A:=fun _ _=>False) ?_ (fun _ _ h=>h.elim);refine aj (EF hf _ _ _ _ _) ?_;rintro b _ rfl;cases b
   ·exact vJ Au aT
   ·exact aT
  ·exact aj (A:=fun _ _=>False) (bM hf _ h1) (fun _ _ h=>h.elim)
theorem yK(hf:mC P f)(e0 e1:RuntimeError)(q:Question)(e2:Nat->RuntimeError)(h0:qP e0=true)(h1:qP e1=true)(h2:∀n,qP (e2 n)=true)(u:String)(elem:TypeId)(base:Option Addr)(kU ng size:Nat)(x:Value)(lU:Bool):
  Rel P f (V f) (EG e0 e1 q e2 u elem base kU ng size (.slice base kU ng) x lU) (EG e0 e1 q e2 u elem (base.map (addr f)) kU ng size (.slice (base.map (addr f)) kU ng) (val f x) lU):=by
 unfold EG;cases lU
 ·refine aj (Dx x) ?_;rintro n _ rfl;exact yJ hf _ h1 _ _ _ _ _ _ _ _ _
 ·dsimp only;refine kN cG (fun _=>?_) (fun h=>absurd rfl h);refine aj (mD x) ?_;rintro n _ rfl;refine eG (bM hf _ h0) ?_;refine aj (eQ _) ?_;rintro i _ ⟨rfl,_⟩;refine kN cG (fun _=>?_) (fun _=>?_)
  ·refine aj (gZ _) ?_;rintro m _ rfl;exact aj (A:=fun _ _=>False) (bM hf _ (h2 _)) (fun _ _ h=>h.elim)
  ·exact yJ hf _ h1 _ _ _ _ _ _ _ _ _
theorem Jz(hf:mC P f)(ts:Array TypeId)(t:TypeId)(args:Array Value):Rel P f (V f) (Builtin.append_ ts t args) (Builtin.append_ ts t (args.map (val f))):=by
 unfold Builtin.append_;rw[br,br];cases ts[0]? with
 |none=>exact az
 |some u =>
  cases args[0]? with
  |none=>exact az
  |some s =>
   cases args[1]? with
   |none=>exact az
   |some x =>
    refine aj (aY u) ?_;rintro d _ ⟨rfl,_⟩;cases d<;>first|exact az|skip
    cases s<;>first|exact az|skip
    rename_i elem _ base kU ng;show Rel P f (V f) _ (match val f (.slice base kU ng) with|.slice base kU ng=>_|_=>_);rw[bt];refine aj (dj _) ?_;rintro size _ rfl;cases ts[1]? with
    |none=>exact yK hf .nilDeref _ .zeroSizeEq (fun _=>.nilDeref) rfl rfl (fun _=>rfl) _ elem base kU ng size x false
    |some xt =>
     refine aj (aY xt) ?_;rintro d _ ⟨rfl,_⟩;refine aj (A:=Eq) (au rfl) ?_;rintro z _ rfl;exact yK hf _ _ _ _ rfl rfl (fun _=>rfl) _ elem base kU ng size x z
theorem Po(x y:Value):Rel P f (V f) (Builtin.min2 x y) (Builtin.min2 (val f x) (val f y)):=by
 cases x
 case int =>
  cases y<;>simp only[cg,cy,bQ,bw,bC,aW,bt,cC,b7,b8,bB,bI,bj,cz,bL]<;>first|exact az|exact au (by simp[V])|skip
  rename_i a;cases a<;>first|exact az|exact aT
 case float =>
  cases y<;>simp only[cg,cy,bQ,bw,bC,aW,bt,cC,b7,b8,bB,bI,bj,cz,bL]<;>first|exact az|skip
  ·refine oO ?_;unfold Builtin.min2;rename_i k a k' b;dsimp only;generalize k.format.order a b=o;rcases o with _|(_|_|_)
   ·exact fun n g=>an
   all_goals exact fun g=>an
  ·rename_i a;cases a<;>first|exact az|exact aT
 case string =>
  cases y<;>simp only[cg,cy,bQ,bw,bC,aW,bt,cC,b7,b8,bB,bI,bj,cz,bL]<;>first|exact az|skip
  ·refine aj (vQ _ _ _) ?_;rintro v _ rfl;refine aj (Av v) ?_;rintro b _ rfl;exact au (by simp[V])
  ·rename_i a;cases a<;>first|exact az|exact aT
 case pointer a =>
  rw[aW];cases a with
  |none =>
   cases y<;>first|exact az|skip
   rename_i b;cases b<;>first|exact az|exact aT
  |some a=>cases y<;>exact aT
 all_goals
  cases y<;>first|exact az|skip
  rename_i b;cases b<;>first|exact az|exact aT
theorem Tl(ts:Array TypeId)(t:TypeId)(args:Array Value):Rel P f (V f) (Builtin.min_ ts t args) (Builtin.min_ ts t (args.map (val f))):=by
 unfold Builtin.min_;rw[bX];cases args.toList with
 |nil=>exact az
 |cons x l =>
  simp only[bU]
  induction l generalizing x with
  |nil=>exact au rfl
  |cons y l ih =>
   simp only[bU,List.foldlM_cons];refine aj (Po x y) ?_;rintro z _ rfl;exact ih z
theorem CK:∀(n:Nat) (a:Addr) (acc:ah),Rel P f Eq (loadBytes a acc n) (loadBytes (addr f a) acc n):=by
 intro n
 induction n with
 |zero=>intro a acc;exact au rfl
 |succ n ih =>
  intro a acc;unfold loadBytes;refine aj (vI a) ?_;rintro v _ rfl;cases v<;>simp only[cg,cy,bQ,bw,bC,aW,bt,cC,b7,b8,bB,bI,bj,cz,bL]<;>first|exact az|skip
  rename_i k b;cases k<;>first|exact az|skip
  rw[<- jP];exact ih _ _
theorem ub(ts:Array TypeId)(t:TypeId)(x:Value):Rel P f (V f) (Builtin.unsafeSliceData_ ts t #[x]) (Builtin.unsafeSliceData_ ts t #[val f x]):=by
 cases x<;>first|exact az|skip
 rename_i a len c;rw[bt];cases a with
 |none=>exact au (by simp[V])
 |some a =>
  show Rel P f (V f) (if c≠0 then _ else _) (if c≠0 then _ else _);refine kN cG (fun _=>au (by simp[V])) (fun _=>?_);refine aj (qQ a.block) ?_;rintro v _ rfl;refine kN an (fun _=>au (by simp[V])) (fun _=>?_);refine aj (vc t) ?_;rintro e _ rfl;refine aj (A:=fun r r'=>r'=f.b r) (lC rfl rfl) ?_;rintro r _ rfl;exact au (by simp[V])
theorem xK(hf:mC P f)(ts:Array TypeId)(t:TypeId)(x y:Value):Rel P f (V f) (Builtin.unsafeString_ ts t #[x,y]) (Builtin.unsafeString_ ts t #[val f x,val f y]):=by
 cases x<;>first|exact az|skip
 rename_i a;rw[aW];refine aj (mD y) ?_;rintro n _ rfl;cases ts[0]? with
 |none=>exact az
 |some pt =>
  refine eG (bM hf _) ?_;refine eG aT ?_;cases a with
  |none=>exact kN cG (fun _=>au (by simp[V])) (fun _=>bM hf _)
  |some a =>
   refine kN cG (fun _=>au (by simp[V])) (fun _=>?_);refine aj (vc pt) ?_;rintro e _ rfl;refine aj (rP a e _) ?_;rintro b _ rfl;cases b
   ·exact aT
   ·refine aj (CK _ a _) ?_;rintro s _ rfl;refine aj (As a _) ?_;rintro _ _ _;exact au (by simp[V])
end
def iI(L:Nat->Bool)(f:Rn):Next->Next->Prop
 | .value v,.value v'=>v'=val f v
 | .skip,.skip=>True
 | .enter g args,.enter g' Vs=>g'=g/\L g=true/\Vs=args.map (val f)
 |_,_=>False
def xL(c:Call):Builtin->Bool
 | .append|.cap|.clear|.copy|.delete|.len|.min=>true
 | .unsafeString=>c.args.size==2
 | .unsafeSliceData=>c.args.size==1
 |_=>false
def JA(c:Call):Bool :=
 match c.callee with
 | .builtin b=>xL c b
 | .value _=>true
 | .invoke ..=>false
def sE(L:Nat->Bool):Op->Bool
 | .move _|.assign _|.pick .. | .alloc _|.box .. | .build .. | .buildSlice .. | .load .. | .store .. | .nilCheck _|.binOp .. | .unOp .. | .convert .. | .makeInterface .. | .makeMap .. | .makeChan .. | .makeSlice .. | .slice .. | .fieldAddr .. | .field .. | .indexAddr .. | .index .. | .lookup .. | .mapUpdate .. | .insert .. | .extract .. | .panic ..=>true
 | .makeFunc (.func n) _ _=>L n
 | .call c=>JA c
 |_=>false
section
variable {P:Program} {f:Rn}
theorem sF{s s':Sem Unit}(h:Rel P f (fun _ _=>True) s s'):Rel P f (V f) (do s;pure (.tuple #[])) (do s';pure (.tuple #[])):=aj h (fun _ _ _=>au (by simp[V]))
theorem JB(hf:mC P f)(ts:Array TypeId)(t:TypeId)(args:Array Value):Rel P f (V f) (Builtin.delete_ ts t args) (Builtin.delete_ ts t (args.map (val f))):=by
 unfold Builtin.delete_;simp only[br];cases h0:ts[0]? with
 |none=>exact az
 |some mt =>
  cases h1:args[0]? with
  |none=>exact az
  |some m =>
   cases h2:args[1]? with
   |none=>exact az
   |some k =>
    simp only[cR];refine aj (aY mt) ?_;rintro d _ ⟨rfl,_⟩;cases d<;>first|exact az|skip
    cases m<;>first|exact az|skip
    rename_i r;rw[cC];cases r with
    |none=>exact sF (FZ (oh hf _ _ _ _) (fun _ _ _=>trivial))
    |some r =>
     refine aj (iP r) ?_;rintro o _ rfl;cases o<;>first|exact az|skip
     rename_i es clock;simp only[obj];rw[show(Array.map (entry f) es).isEmpty=es.isEmpty by simp[Array.isEmpty]];refine aj (oh hf _ _ _ _) ?_;rintro _ _ rfl;rw[bX];refine aj (sC hf _ k es.toList) ?_;rintro x _ rfl;cases x with
     |some y =>
      obtain⟨i,w⟩:=y;dsimp only[Option.map_some];refine sF (oW r ?_ rfl);simp only[obj]
      congr 1
      unfold Array.eraseIdxIfInBounds;simp only[Array.size_map];split
      ·rename_i hi;apply Array.ext';simp only[Array.toList_eraseIdx,Array.toList_map];clear hi;generalize es.toList=l
       induction l generalizing i with
       |nil=>rfl
       |cons x l ih=>cases i with
        |zero=>rfl
        |succ i=>simp only[bU,List.eraseIdx_cons_succ,ih]
      ·rfl
     |none =>
      refine sF (oW r ?_ rfl);rfl
theorem MQ(hf:mC P f)(ts:Array TypeId)(t:TypeId)(args:Array Value):Rel P f (V f) (Builtin.clear_ ts t args) (Builtin.clear_ ts t (args.map (val f))):=by
 unfold Builtin.clear_;simp only[br];cases h0:ts[0]? with
 |none=>exact az
 |some mt =>
  cases h1:args[0]? with
  |none=>exact az
  |some m =>
   simp only[cR];refine aj (aY mt) ?_;rintro d _ ⟨rfl,_⟩;cases m<;>first|(cases d<;>exact az)|skip
   ·rename_i a n c;rw[bt];cases a with
    |none=>cases d<;>exact au (by simp[V])
    |some a =>
     cases n with
     |zero=>cases d<;>exact au (by simp[V])
     |succ n =>
      cases d<;>first|exact az|skip
      simp only[cR];refine aj (gV hf _) ?_;rintro z _ ⟨rfl,hz⟩;have:=kz (P:=P) (f:=f) a (Builtin.zeroCells z.cells (n+1)).toList 0;rw[<- bX,pY (by rw[<- jT,hz])] at this;exact sF this
   ·rename_i r;rw[cC];cases r with
    |none=>cases d<;>exact au (by simp[V])
    |some r =>
     cases d;all_goals
      refine aj (iP r) ?_;rintro o _ rfl;cases o<;>first|exact az|skip
      exact sF (oW r (by simp[obj]) rfl)
end
section
variable {P:Program} {f:Rn} {L:Nat->Bool} {ρ ρ':Operand->Value}
theorem hJ{s s':Sem Value}(h:Rel P f (V f) s s'):Rel P f (iI L f) (do pure (.value (<- s))) (do pure (.value (<- s'))):=aj h (by rintro v _ rfl;exact au rfl)
theorem Pp{s s':Sem Unit}(h:Rel P f (fun _ _=>True) s s'):Rel P f (iI L f) (do s;pure .skip) (do s';pure .skip):=aj h (fun _ _ _=>au trivial)
theorem AI(hf:mC P f)(hL:∀n,L n=true->f.h n=n)(hC:∀n,L n=true->∀args,Rel P f (iI L f) (callFunc n args) (callFunc n (args.map (val f))))(o:Oper)(ja:sE L o.op=true)(om:∀x∈o.op.operands,ρ' x=val f (ρ x))(pZ:∀x∈o.op.operands,∀g a b,ρ x=.func g a b->∃n,g=.func n/\L n=true):
  Rel P f (iI L f) (execOp ρ o) (execOp ρ' o):=by
 obtain⟨dst,op,ty,pos,after,guard⟩:=o;cases op<;>first|exact Bool.noConfusion ja|skip
 all_goals simp only[Op.operands,Array.mem_append,List.mem_toArray,gQ,aad,or_false,Option.mem_toArray,forall_eq_or_imp,forall_eq] at om pZ
 case move x=>simp only[execOp];exact au (by simp only[iI];exact om)
 case assign x=>simp only[execOp];exact au (by simp only[iI];exact om)
 case pick c a b =>
  simp only[execOp,om.1,om.2.1,om.2.2];refine aj (Av _) ?_;rintro t _ rfl;exact au (by simp only[iI];split<;>rfl)
 case alloc e=>exact hJ (MH hf e)
 case box e x=>simp only[execOp,om];exact hJ (Ti e _)
 case load t a=>simp only[execOp,om];exact hJ (Jt t _)
 case store t a x=>simp only[execOp,om.1,om.2];exact Pp (Gg t _ _)
 case binOp op t x y g =>
  simp only[execOp,om.1,om.2];refine hJ ?_;exact vJ (Gp _ _ _ _ _ _) (MP hf _ _ _ _)
 case unOp op t x=>simp only[execOp,om];exact hJ (MN _ _)
 case convert s d x=>simp only[execOp,om];exact hJ (Gx hf _ _ _)
 case makeInterface t x=>simp only[execOp,om];exact hJ (vN _ _)
 case makeChan t x=>simp only[execOp,om];exact hJ (Ez hf _ _)
 case makeSlice t l c=>simp only[execOp,om.1,om.2];exact hJ (CH hf _ _ _)
 case fieldAddr s x i=>simp only[execOp,om];exact hJ (Gh _ _ _)
 case field s x i=>simp only[execOp,om];exact hJ (MK _ _ _)
 case indexAddr t x i=>simp only[execOp,om.1,om.2];exact hJ (Gi hf _ _ _)
 case index t x i=>simp only[execOp,om.1,om.2];exact hJ (ML hf _ _ _)
 case lookup t x i ok=>simp only[execOp,om.1,om.2];exact hJ (Jy hf _ _ _ _)
 case mapUpdate t m k v=>simp only[execOp,om.1,om.2.1,om.2.2];exact Pp (uC hf _ _ _ _)
 case insert t m k v=>simp only[execOp,om.1,om.2.1,om.2.2];exact Pp (uC hf _ _ _ _)
 case extract t i=>simp only[execOp,om];exact hJ (Gl _ _)
 case panic x=>simp only[execOp,om];exact hJ (MM hf _)
 case makeMap t r =>
  simp only[execOp];refine hJ ?_;have e:r.map ρ'=(r.map ρ).map (val f):=by
   cases r with
   |none=>rfl
   |some x=>simp at om |-;exact om
  rw[e];exact Gk _ _
 case build t ps =>
  simp only[execOp];refine hJ ?_;have e:(ps.map fun x=>(x.1,ρ' x.2))=(ps.map fun x=>(x.1,ρ x.2)).map fun x=>(x.1,val f x.2):=by
   rw[gL];apply dH;intro x hx;simp only[Function.comp,om x.2 (List.mem_map.2 ⟨x,by simpa using hx,rfl⟩)]
  rw[e];exact MI hf _ _
 case buildSlice t n ps =>
  simp only[execOp];refine hJ ?_;have e:(ps.map fun x=>(x.1,ρ' x.2))=(ps.map fun x=>(x.1,ρ x.2)).map fun x=>(x.1,val f x.2):=by
   rw[gL];apply dH;intro x hx;simp only[Function.comp,om x.2 (List.mem_map.2 ⟨x,by simpa using hx,rfl⟩)]
  rw[e];exact Ax hf _ _ _
 case slice t x lo hi mx =>
  simp only[execOp];refine hJ ?_;have e:∀r:Option Operand,(∀y,y∈r->ρ' y=val f (ρ y))->r.map ρ'=(r.map ρ).map (val f):=by
   intro r h;cases r with
   |none=>rfl
   |some x=>simp[h x rfl]
  rw[e lo (fun y hy=>om y (.inl (.inl (.inr hy)))),e hi (fun y hy=>om y (.inl (.inr hy))),e mx (fun y hy=>om y (.inr hy)),om x (.inl (.inl (.inl rfl)))];exact Gj hf _ _ _ _ _
 case nilCheck x =>
  simp only[execOp];rw[om];cases hx:ρ x<;>simp only[cg,cy,bQ,bw,bC,aW,bt,cC,b7,b8,bB,bI,bj,cz,bL]
  case pointer a =>
   cases a
   ·exact bM hf _
   ·exact au (by simp[iI])
  case func g a b =>
   obtain⟨n,rfl,hn⟩:=pZ g a b hx;exact au (by simp[iI])
  case nilIface=>exact bM hf _
  case nilFunc=>exact bM hf _
  all_goals exact au (by simp[iI])
 case makeFunc g first captured =>
  cases g<;>first|exact Bool.noConfusion ja|skip
  rename_i n;have hn:L n=true:=ja;simp only[execOp];refine hJ ?_;have e:∀r:Array Operand,(∀y,y∈r->ρ' y=val f (ρ y))->r.map ρ'=(r.map ρ).map (val f):=by
   intro r h;rw[gL];apply dH;intro y hy;exact h y hy
  rw[e first (fun y hy=>om y (by simp[hy])),e captured (fun y hy=>om y (by simp[hy]))];exact au (by simp[V,sk,hL n hn])
 case call c =>
  have e:∀r:Array Operand,(∀y,y∈r->ρ' y=val f (ρ y))->r.map ρ'=(r.map ρ).map (val f):=by
   intro r h;rw[gL];apply dH;intro y hy;exact h y hy
  obtain⟨callee,args,tys⟩:=c;simp only[Call.operands] at om pZ;simp only[execOp,resolve];cases callee with
  |invoke r m=>exact Bool.noConfusion ja
  |builtin b =>
   have ea:=e args (fun y hy=>om y (by simpa using hy));have h:∀s s':Sem Value,Rel P f (V f) s s'->Rel P f (iI L f) (do pure (.value (<- s))) (do pure (.value (<- s'))):=fun _ _ h=>hJ h;show Rel P f (iI L f) (builtin b tys ty _ (args.map ρ)) (builtin b tys ty _ (args.map ρ'));rw[ea];cases b<;>first|exact Bool.noConfusion ja|skip
   ·exact hJ (Jz hf _ _ _)
   ·exact hJ (Tk _ _ _)
   ·exact hJ (MQ hf _ _ _)
   ·exact hJ (Pn _ _ _)
   ·exact hJ (JB hf _ _ _)
   ·exact hJ (Tj _ _ _)
   ·exact hJ (Tl _ _ _)
   ·have ft:args.size=1:=by simpa[sE,JA,xL] using ja
    obtain⟨x,hx⟩:∃x,args.map ρ=#[x]:=by
     match args,ft with
     | ⟨[x]⟩,_=>exact⟨ρ x,an⟩
    rw[hx];have:=ub (P:=P) (f:=f) tys ty x;exact hJ (by simpa using this)
   ·have ft:args.size=2:=by simpa[sE,JA,xL] using ja
    obtain⟨x,y,Vr⟩:∃x y,args.map ρ=#[x,y]:=by
     match args,ft with
     | ⟨[x,y]⟩,_=>exact⟨ρ x,ρ y,an⟩
    rw[Vr];have:=xK (P:=P) hf tys ty x y;exact hJ (by simpa using this)
  |value x =>
   have ea:=e args (fun y hy=>om y (by simp[hy]));have ex:=om x an;show Rel P f (iI L f) (Deferred.ofValue (ρ x) (args.map ρ)>>=fun d=>invoke d.target d.args) (Deferred.ofValue (ρ' x) (args.map ρ')>>=fun d=>invoke d.target d.args);rw[ea,ex];cases hx:ρ x<;>simp only[cg,cy,bQ,bw,bC,aW,bt,cC,b7,b8,bB,bI,bj,cz,bL]<;>first|exact az|skip
   ·rename_i g a b;obtain⟨n,rfl,hn⟩:=pZ x an g a b hx;show Rel P f (iI L f) (callFunc n ((a++args.map ρ)++b)) (callFunc (f.h n) ((a.map (val f)++(args.map ρ).map (val f))++b.map (val f)));rw[hL n hn,<- fH,<- fH];exact hC n hn _
   ·show Rel P f (iI L f) (runtimePanic .nilDeref) (runtimePanic .nilDeref);exact bM hf _
end
def vf:Value->Bool
 | .bool _|.int .. | .float .. | .complex .. | .string _|.pointer none|.slice none _ _|.map none|.chan none|.nilFunc|.nilIface=>true
 |_=>false
def AJ:Value->Bool
 | .agg cs=>cs.all vf
 | .tuple vs=>vs.all vf
 | .iface _ v=>vf v
 |v=>vf v
theorem vg{v:Value}(h:vf v=true)(f:Rn):val f v=v:=by
 cases v<;>first|exact Bool.noConfusion h|skip
 case slice a _ _=>cases a<;>first|exact Bool.noConfusion h|simp
 case pointer a=>cases a<;>first|exact Bool.noConfusion h|simp
 case map a=>cases a<;>first|exact Bool.noConfusion h|simp
 case chan a=>cases a<;>first|exact Bool.noConfusion h|simp
 all_goals simp
theorem vh{v:Value}(h:AJ v=true)(f:Rn):val f v=v:=by
 have arr:∀cs:Array Value,cs.all vf=true->cs.map (val f)=cs:=by
  intro cs hc;rw[gD] at hc;apply iF
  ·simp
  ·intro i h1 h2;simp only[Array.getElem_map];exact vg (hc i h2) f
 cases v
 case iface t v=>rw[bI,vg (show vf v=true from h) f]
 case agg cs=>rw[cz,arr _ h]
 case tuple cs=>rw[bL,arr _ h]
 all_goals (refine vg ?_ f;exact h)
def tF(G:Nat)(L:Nat->Bool):Operand->Bool
 | .tmp _=>true
 | .const v=>AJ v
 | .global g=>decide (g<G)
 | .func n=>L n
def sG(G:Nat)(L:Nat->Bool)(o:Oper):Bool:=sE L o.op&&o.op.operands.all (tF G L)
def jX(G:Nat)(L:Nat->Bool):Code->Bool
 | .skip|.label _|.exit _|.goto _|.ret|.refuse _=>true
 | .region _ ops _=>ops.all (sG G L)
 | .seq a b=>jX G L a&&jX G L b
 | .cond c a b=>tF G L c&&jX G L a&&jX G L b
 | .block _ c|.loop c|.scope c=>jX G L c
 | .rangeFunc ..=>false
def mF(G:Nat)(L:Nat->Bool):Item->Bool
 | .code c|.inLoop c|.inScope c=>jX G L c
 | .inBlock _=>true
 | .inRegion ops _=>ops.all (sG G L)
 |_=>false
structure uf(G:Nat)(L:Nat->Bool)(fr:Frame):Prop where
 defers:fr.defers=[]
 round:fr.roundOf=none
 kind:fr.kind=.normal
 fn:L fr.fn=true
 todo:∀i∈fr.todo,mF G L i=true
 mode:fr.mode=.run\/fr.mode=.returning
def frame(f:Rn)(fr:Frame):Frame:={fr with tmps:=fr.tmps.map (val f)}
section
variable {G:Nat} {L:Nat->Bool}
theorem MR{id:Nat}:∀{k k':List Item},exitTo id k=some k'->∀i∈k',i∈k:=by
 intro k
 induction k with
 |nil=>intro k' h;cases h
 |cons x k ih =>
  intro k' h i hi;cases x<;>simp only[exitTo] at h
  case inBlock j =>
   split at h
   ·cases h;exact bo _ hi
   ·exact bo _ (ih h i hi)
  all_goals exact bo _ (ih h i hi)
theorem EH:∀{c c':Code} {l:Nat},findLabel c l=some c'->jX G L c=true->jX G L c'=true:=by
 intro c
 induction c with
 |seq a b iha ihb =>
  intro c' l h ja;simp only[jX,kD] at ja;simp only[findLabel] at h;split at h
  ·rename_i r hr;cases h;simp only[jX,kD];exact⟨iha hr ja.1,ja.2⟩
  ·exact ihb h ja.2
 |label m =>
  intro c' l h ja;simp only[findLabel] at h;split at h
  ·cases h;rfl
  ·cases h
 |_=>intro c' l h ja;simp only[findLabel] at h;cases h
theorem MS{l:Nat}:∀{k k':List Item},gotoIn l k=some k'->(∀i∈k,mF G L i=true)->∀i∈k',mF G L i=true:=by
 intro k
 induction k with
 |nil=>intro k' h;cases h
 |cons x k ih =>
  intro k' h ja i hi;have hk:∀i∈k,mF G L i=true:=fun i hi=>ja i (bo _ hi);cases x<;>simp only[gotoIn] at h
  case inScope body =>
   have hb:jX G L body=true:=ja (.inScope body) an;split at h
   ·rename_i rest hr;cases h;simp only[gQ] at hi;rcases hi with rfl|rfl|hi
    ·exact EH hr hb
    ·exact hb
    ·exact hk i hi
   ·exact ih h hk i hi
  all_goals exact ih h hk i hi
theorem AK(P:Program)(fn:FuncId)(es:Array Event):∀e∈seen P fn es,e∈es:=by
 have key:∀(g:Bool×Array Event->Event->Bool×Array Event),(∀st a,∀e∈(g st a).2,e∈st.2\/e=a)->∀(l:List Event) (st:Bool×Array Event),(∀e∈st.2,e∈es)->(∀e∈l,e∈es)->∀e∈(l.foldl g st).2,e∈es:=by
  intro g hg l
  induction l with
  |nil=>intro st h _ e he;exact h e he
  |cons a l ih =>
   intro st h hl e he;simp only[List.foldl_cons] at he;refine ih _ ?_ (fun e he=>hl e (bo _ he)) e he;intro e he;rcases hg st a e he with he|rfl
   ·exact h e he
   ·exact hl _ an
 unfold seen;dsimp only;rw[<- iQ];refine key _ ?_ es.toList _ an (fun e he=>by simpa using he);rintro⟨q,kept⟩ a e he;dsimp only at he;split at he
 ·exact .inl he
 ·dsimp only at he;split at he
  ·exact .inl he
  ·rcases Array.mem_push.1 he with he|rfl
   ·exact .inl he
   ·exact .inr rfl
end
structure PF(P:Program)(L:Nat->Bool)(Gm:Nat)(F:iZ):Prop where
 low:∀r,r<Gm->F.K r/\F.φ r=r
 L:F.L=fun n=>L n=true
 G:F.G=P.globals.size
 zu:Dp F
structure qf(P:Program)(L:Nat->Bool)(Gm:Nat):Prop where
 zero:∀t i z,P.info? t=some i->i.zero=some z->∀f:Rn,val f z=z
 call:∀n,L n=true->∀f,mC P f->(∀n,L n=true->f.h n=n)->∀args,Rel P f (iI L f) (callFunc n args) (callFunc n (args.map (val f)))
 body:∀n,L n=true->∃fn,P.funcs[n]?=some fn/\∀c,fn.body=some c->jX Gm L c=true
section
variable {P:Program} {L:Nat->Bool} {Gm:Nat} {F:iZ} {wl wr:ae} {f:Rn}
theorem PF.ok(h:PF P L Gm F)(hP:qf P L Gm)(hf:F.has f):mC P f :=
 ⟨hf.inj,by rw[<- h.G];exact hf.jF,fun t i z h1 h2=>hP.zero t i z h1 h2 f⟩
theorem PF.fn(h:PF P L Gm F)(hf:F.has f):∀n,L n=true->f.h n=n:=fun n hn=>hf.fn n (by rw[h.L];exact hn)
theorem PF.Lv{F':iZ}{aI oT:ae}(h:PF P L Gm F)(m:eJ F F' wl wr aI oT):PF P L Gm F' :=
 ⟨fun r hr=>⟨m.K r (h.low r hr).1,(m.φ r (h.low r hr).1).trans (h.low r hr).2⟩,m.L.trans h.L,m.G.trans h.G,m.zu h.zu⟩
theorem AL(h:PF P L Gm F)(hP:qf P L Gm)(hf:F.has f)(fr:Frame)(x:Operand)(hx:tF Gm L x=true):(frame f fr).eval x=val f (fr.eval x):=by
 cases x with
 |tmp t =>
  simp only[Frame.eval,frame,cO,br];cases fr.tmps[t]? with
  |none=>simp[kM]
  |some v=>rfl
 |const v=>simp only[Frame.eval];exact(vh hx f).symm
 |global g =>
  have hg:g<Gm:=by simpa[tF] using hx
  simp only[Frame.eval,aW,cR,S0];rw[hf.at_ g (h.low g hg).1,(h.low g hg).2]
 |func n =>
  simp only[Frame.eval,b8,sk];rw[PF.fn h hf n hx];simp
theorem Gz(ops:Array Oper)(tmps:Array Value):yielded ops (tmps.map (val f))=yielded ops tmps:=by
 funext j;unfold yielded;cases hb:(ops[j]?).bind (·.dst) with
 |none=>rfl
 |some d =>
  simp only[Option.bind_some,br];cases tmps[d]? with
  |none=>rfl
  |some v=>cases v<;>simp
theorem AM(W:WR F wl wr)(h:PF P L Gm F){v v':Value}(hv:∀f,F.has f->v'=val f v):∀g a b,v=.func g a b->∃n,g=.func n/\L n=true:=by
 intro g a b e;subst e;obtain⟨f1,f2,h1,h2,_,hh,ht,hm⟩:=W.two;have e:=(hv f1 h1).symm.trans (hv f2 h2);simp only[b8,Value.func.injEq] at e;cases g with
 |func n =>
  refine⟨n,rfl,?_⟩;refine aO fun hn=>?_;refine hh n (by rw[h.L];exact hn) ?_;have:=e.1;simp only[sk,Fn.func.injEq] at this;exact this
 |method s=>exact absurd (by have:=e.1;simpa[sk] using this) (hm s)
 |methodOf t s=>exact absurd (by have:=e.1;simpa[sk] using this) (hm s)
 |via t p n q=>exact absurd (by have:=e.1;simpa[sk] using this) (ht t)
 |yield l=>exact absurd (by have:=e.1;simpa[sk] using this) (ht l)
theorem AN{G:Nat}(fr:Frame)(v:Value)(h:∀i∈fr.todo,mF G L i=true):(frame f fr).finish (val f v)=frame f (fr.finish v):=by
 cases ht:fr.todo with
 |nil=>simp[Frame.finish,frame,ht]
 |cons i k =>
  have hi:=h i (by simp[ht]);cases i<;>first|exact Bool.noConfusion hi|(simp[Frame.finish,frame,ht];done)|skip
  rename_i ops todo;cases todo with
  |nil=>simp[Frame.finish,frame,ht]
  |cons j rest =>
   simp only[Frame.finish,frame,ht];cases (ops[j]?).bind (·.dst) with
   |none=>rfl
   |some d=>simp[Array.map_setIfInBounds]
theorem xM{G:Nat}{fr:Frame}(h:uf G L fr)(v:Value):uf G L (fr.finish v):=by
 obtain⟨h1,h2,h3,h4,h5,h6⟩:=h;cases ht:fr.todo with
 |nil =>
  have e:fr.finish v=fr:=by simp[Frame.finish,ht]
  rw[e];exact⟨h1,h2,h3,h4,h5,h6⟩
 |cons i k =>
  have hi:=h5 i (by simp[ht]);have hk:∀i∈k,mF G L i=true:=fun i hi=>h5 i (by simp[ht,hi]);by_cases hr:∃ops j rest,i=.inRegion ops (j::rest)
  ·obtain⟨ops,j,rest,rfl⟩:=hr;refine⟨?_,?_,?_,?_,?_,?_⟩<;>simp only[Frame.finish,ht]
   ·exact h1
   ·exact h2
   ·exact h3
   ·exact h4
   ·intro x hx;simp only[gQ] at hx;rcases hx with rfl|hx
    ·exact hi
    ·exact hk x hx
   ·exact h6
  ·have e:fr.finish v=fr:=by
    cases i<;>first|exact Bool.noConfusion hi|(simp[Frame.finish,ht];done)|skip
    rename_i ops todo;cases todo with
    |nil=>simp[Frame.finish,ht]
    |cons j rest=>exact absurd ⟨_,_,_,rfl⟩ hr
   rw[e];exact⟨h1,h2,h3,h4,h5,h6⟩
end
def fe(w:ae):Prop:=∀(r:Nat) (o:Obj),w.heap[r]?=some o->eF o=false
def WJ{α:Type}:Result α->Prop
 | .ok _ w=>fe w
 | .halt h _=>nN h=true\/∃v,h=.panic v
theorem uE{w:ae}(hw:fe w){a:Addr}{what:String}:nN (w.noCell a what)=true:=by
 unfold World.noCell;split
 ·rename_i c e hc;have:=hw _ _ hc;cases this
 ·rfl
 ·rfl
theorem AO{p:Program}{w:ae}(hw:fe w){a:Addr}{at_:Bool}{h:Halt}(hh:w.farLoad p a at_=.error h):nN h=true:=by
 unfold World.farLoad at hh;split at hh
 ·split at hh
  ·cases hh
  ·cases hh;rfl
 ·cases hh;exact uE hw
theorem zy{p:Program}{w:ae}(hw:fe w){a:Addr}{v:Value}{at_:Bool}{h:Halt}(hh:w.farStore p a v at_=.error h):nN h=true:=by
 unfold World.farStore at hh;split at hh
 ·split at hh
  ·cases hh
  ·cases hh;rfl
 ·cases hh;exact uE hw
theorem fe.modify{w:ae}(hw:fe w)(b:Nat)(g:Obj->Obj)(hg:∀o,eF (g o)=eF o):fe {w with heap:=w.heap.modify b g}:=by
 intro r o ho;simp only[getElem?_modify] at ho;split at ho
 ·cases hx:w.heap[r]? with
  |none=>rw[hx] at ho;cases ho
  |some x=>rw[hx] at ho;cases ho;rw[hg];exact hw r x hx
 ·exact hw r o ho
theorem fe.set{w:ae}(hw:fe w)(b:Nat)(x:Obj)(hx:eF x=false):fe {w with heap:=w.heap.setIfInBounds b x}:=by
 intro r o ho;by_cases hb:b<w.heap.size
 ·obtain⟨_,h1,h2⟩:=oU w.heap b x hb;by_cases e:r=b
  ·subst e;simp only[h1] at ho;cases ho;exact hx
  ·simp only[h2 r e] at ho;exact hw r o ho
 ·rw[show w.heap.setIfInBounds b x=w.heap from Array.setIfInBounds_eq_of_size_le aa] at ho;exact hw r o ho
theorem fe.push{w:ae}(hw:fe w)(x:Obj)(hx:eF x=false):fe {w with heap:=w.heap.push x}:=by
 intro r o ho;simp only[Array.getElem?_push] at ho;split at ho
 ·cases ho;exact hx
 ·exact hw r o ho
theorem fe.heap{w w':ae}(hw:fe w)(h:w'.heap=w.heap):fe w':=fun r o ho=>hw r o (by rw[<- h];exact ho)
theorem EI(w:ae)(hw:fe w)(a:Addr)(v:Value):fe (w.setCell a v):=by
 unfold World.setCell;exact fe.modify hw _ _ (fun o=>by cases o<;>rfl)
theorem qT{P:Program}{f:Rn}{α β:Type}{A:α->β->Prop}:∀(s:Sem α) (s':Sem β) (w:ae) (es:Array Event),Rel P f A s s'->fe w->WJ (s.runT P w es).1:=by
 intro s
 induction s with
 |pure a=>intro s' w es h hw;exact hw
 |load m x k ih =>
  intro s' w es h hw;cases s'<;>simp only[Rel] at h;simp only[Sem.runT];split
  ·exact ih _ _ w _ (h.2.2 _) hw
  ·split
   ·exact ih _ _ w _ (h.2.2 _) hw
   ·rename_i hh;exact .inl (AO hw hh)
 |store m x v k ih =>
  intro s' w es h hw;cases s'<;>simp only[Rel] at h;by_cases b6:(∃c,v=.agg c)\/∃c,v=.tuple c
  ·rcases b6 with⟨c,rfl⟩|⟨c,rfl⟩
   ·exact .inl rfl
   ·exact .inl rfl
  ·rw[gJ (fun c e=>b6 (.inl ⟨c,e⟩)) (fun c e=>b6 (.inr ⟨c,e⟩))];split
   ·split
    ·exact .inl rfl
    ·exact ih _ _ _ h.2.2.2 (EI w hw _ _)
   ·split
    ·rename_i w1 ts hfs;obtain⟨b,u,h1,h2⟩:=su hfs;refine ih _ _ _ h.2.2.2 ?_;obtain⟨c,e,z,_,_,rfl,_⟩:=pX (f:=⟨fun x=>x,fun x=>x,fun x=>x,fun x=>x⟩) (wr:={w with heap:=w.heap.map (obj ⟨fun x=>x,fun x=>x,fun x=>x,fun x=>x⟩)}) (at':=b) (k':=x) an rfl rfl rfl rfl h2;exact hw.set _ _ rfl
    ·rename_i hh;exact .inl (zy hw hh)
 |new o k ih =>
  intro s' w es h hw;cases s'<;>simp only[Rel] at h;exact ih _ _ _ _ (h.2.2 _) (hw.push _ h.2.1)
 |shape r k ih =>
  intro s' w es h hw;cases s'<;>simp only[Rel] at h;exact ih _ _ w _ (h.2 _) hw
 |freeze a n k ih =>
  intro s' w es h hw;cases s'<;>simp only[Rel] at h;refine ih _ _ _ h.2.2 ?_;by_cases hn:n=0
  ·subst hn;simpa[World.freeze] using hw
  ·rw[nf _ _ _ hn];exact hw.modify _ _ (fun o=>Ar _ _ o)
 |frozen a k ih =>
  intro s' w es h hw;cases s'<;>simp only[Rel] at h;exact ih _ _ w _ (h.2 _) hw
 |getObj r k ih =>
  intro s' w es h hw;cases s'<;>simp only[Rel] at h;simp only[Sem.runT];split
  ·exact .inl rfl
  ·exact ih _ _ w _ (h.2 _) hw
  ·exact .inl rfl
 |setObj r o k ih =>
  intro s' w es h hw;cases s'<;>simp only[Rel] at h;simp only[Sem.runT];split
  ·exact .inl rfl
  ·exact ih _ _ _ h.2.2.2 (hw.set _ _ h.2.2.1)
  ·exact .inl rfl
 |choose q k ih =>
  intro s' w es h hw;cases s'<;>simp only[Rel] at h;simp only[Sem.runT];split
  ·exact ih _ _ w _ (h.2 _) hw
  ·exact ih _ _ _ _ (h.2 _) (fe.heap hw rfl)
 |sys c k ih =>
  intro s' w es h hw;cases s'<;>simp only[Rel] at h;simp only[Sem.runT];obtain⟨_,d,o,e2,_⟩:=F9 c (wl:=w) (wr:=w) rfl rfl rfl;exact ih _ _ _ _ (h.2.2 _) (fe.heap hw (by rw[e2]))
 |program k ih =>
  intro s' w es h hw;cases s'<;>simp only[Rel] at h;exact ih _ _ w _ h hw
 |mark m k ih =>
  intro s' w es h hw;cases s'<;>simp only[Rel] at h;exact ih _ _ _ h.2.2 hw
 |halt hh =>
  intro s' w es h hw;cases hh with
  |panic v=>exact .inr ⟨v,rfl⟩
  |_=>exact .inl (by cases s'<;>exact h)
section
open Go.Conc (G)
section
variable {P:Program} {L:Nat->Bool} {Gm:Nat} {F:iZ} {wl wr:ae} {f:Rn}
theorem JC{α:Type}{g g':α->Sem Value}:∀(l:List α),(∀x∈l,Rel P f (V f) (g x) (g' x))->Rel P f (fun(a b:List Value)=>b=a.map (val f)) (l.mapM g) (l.mapM g'):=by
 intro l
 induction l with
 |nil=>intro _;simp only[List.mapM_nil];exact au rfl
 |cons x l ih =>
  intro h;simp only[List.mapM_cons];refine aj (h x an) ?_;rintro a _ rfl;refine aj (ih fun y hy=>h y (by simp[hy])) ?_;rintro b _ rfl;exact au an
theorem pM(hf:mC P f)(fn:Func)(tmps:Array Value):Rel P f (V f) (results fn tmps) (results fn (tmps.map (val f))):=by
 unfold results;have hg:∀t,(tmps.map (val f)).getD t undef=val f (tmps.getD t undef):=by
  intro t;simp only[cO,br];cases tmps[t]? with
  |none=>simp[kM]
  |some v=>rfl
 refine aj (A:=VS f) ?_ ?_
 ·rw[eI,eI];refine Lt (JC _ fun x _=>?_) ?_
  ·cases x with
   |tmp t=>simp only[hg];exact au rfl
   |cell a t =>
    simp only[hg];refine aj (Aw hf _) ?_;rintro x _ rfl;exact yH t x
  ·rintro a _ rfl;simp[VS]
 ·rintro vs _ rfl;refine au ?_;simp only[V];by_cases h:vs.size=1
  ·rw[dif_pos h,dif_pos (by simpa using h)];simp
  ·rw[dif_neg h,dif_neg (by simpa using h)];simp
def Out(P:Program)(L:Nat->Bool)(Gm:Nat)(m':Bool)(nh csr:List Frame)(F:iZ)(wl wr:ae)(vi:Frame)(abr:List Frame)(g':aS)(aI:ae):Prop :=
 ∃F' Lw WK JD JE oT lB,g'=G Lw (WK++nh)/\uf Gm L Lw/\(∀c∈WK,uf Gm L c) /\
  stepG P m' (G vi (abr++csr)) wr=.go (G JD (JE++csr)) oT lB/\(∀f,F'.has f->JD=frame f Lw/\JE=WK.map (frame f)) /\
  WR F' aI oT/\eJ F F' wl wr aI oT/\(∀e∈lB,vF F' e)/\PF P L Gm F'/\(∀f,F'.has f->F.has f)/\fe aI
section
variable {fr:Frame} {cs:List Frame} {s:Sem Next} {w w':ae} {el:Array Event}
theorem ni{v:Value}(hk:fr.kind=.normal)(h:s.runT P w #[]=(.ok (.value v) w',el)):stepG.apply P true fr cs none s w=.go (G (fr.finish v) cs) w' (seen P fr.fn el):=by
 simp only[stepG.apply,if_true,h,hk,GStep.after,G,aab];rfl
theorem oZ(hk:fr.kind=.normal)(h:s.runT P w #[]=(.ok .skip w',el)):stepG.apply P true fr cs none s w=.go (G (fr.finish undef) cs) w' (seen P fr.fn el):=by
 simp only[stepG.apply,if_true,h,hk,GStep.after,G,aab];rfl
theorem nj{g:FuncId}{args:Array Value}(hk:fr.kind=.normal)(ht:∃ops td k,fr.todo=.inRegion ops td::k)(h:s.runT P w #[]=(.ok (.enter g args) w',el)):stepG.apply P true fr cs none s w=.go (G (Frame.enter P g args .normal) (fr::cs)) w' (seen P fr.fn el):=by
 obtain⟨ops,td,k,ht⟩:=ht;simp only[stepG.apply,if_true,h,hk,GStep.after,G,ht,aab];rfl
theorem JF{h:Halt}(hh:nN h=true)(hr:(s.runT P w #[]).1=.halt h w'){g':aS}{w2:ae}{es:Array Event}(hg:stepG.apply P true fr cs none s w=.go g' w2 es):False:=by
 rcases hx:s.runT P w #[] with⟨r,el⟩;rw[hx] at hr;subst hr;cases h<;>first|exact Bool.noConfusion hh|skip
 ·rename_i u;cases u<;>first|exact Bool.noConfusion hh|(simp only[stepG.apply,if_true,hx,GStep.after] at hg;cases hg)
 ·simp only[stepG.apply,if_true,hx,GStep.after] at hg;cases hg
theorem GA{v:Value}(hr:(s.runT P w #[]).1=.halt (.panic v) w'){g':aS}{w2:ae}{es:Array Event}(hg:stepG.apply P true fr cs none s w=.go g' w2 es):∃chain,g'.frame.mode=.panicking chain:=by
 rcases hx:s.runT P w #[] with⟨r,el⟩;rw[hx] at hr;subst hr;simp only[stepG.apply,if_true,hx,GStep.after] at hg;cases hg;simp only[Frame.raise];split<;>exact⟨_,rfl⟩
end
abbrev Fr(fn:FuncId)(tmps:Array Value)(todo:List Item)(mode:FrameMode):Frame:={fn,tmps,todo,defers:=[],mode,kind:=.normal,roundOf:=none}
theorem gM{m':Bool}{nh csr ab abr:List Frame}{fn:FuncId}{tmps tr:Array Value}{todo Lx:List Item}{mode GB:FrameMode}(hP:PF P L Gm F)(W:WR F wl wr)(ug:fe wl)(qg:∀c∈ab,uf Gm L c)(mG:∀f,F.has f->abr=ab.map (frame f))(uF:∀f,F.has f->tr=tmps.map (val f))(pZ:L fn=true)(ht2:∀i∈Lx,mF Gm L i=true)(Y3:GB=.run\/GB=.returning)(h3:stepG P m' (G (Fr fn tr todo mode) (abr++csr)) wr=.go (G (Fr fn tr Lx GB) (abr++csr)) wr #[]):
  Out P L Gm m' nh csr F wl wr (Fr fn tr todo mode) abr (G (Fr fn tmps Lx GB) (ab++nh)) wl :=
 ⟨F,Fr fn tmps Lx GB,ab,_,abr,wr,#[],rfl,⟨rfl,rfl,rfl,pZ,ht2,Y3⟩,qg,h3,fun f hf=>⟨by rw[uF f hf];rfl,mG f hf⟩,W,eJ.refl _ _ _,an,hP,fun _ h=>h,ug⟩
theorem sH(cH:qf P L Gm){g:FuncId}(hg:L g=true)(args:Array Value):uf Gm L (Frame.enter P g args .normal):=by
 obtain⟨yL,ql,fo⟩:=cH.body g hg;refine⟨rfl,rfl,rfl,hg,?_,.inl rfl⟩;intro i hi;simp only[Frame.enter,ql,Option.bind_some,List.mem_singleton] at hi;subst hi;cases hb:yL.body with
 |none=>rfl
 |some c=>exact fo c hb
theorem MT(g:FuncId)(args:Array Value):Frame.enter P g (args.map (val f)) .normal=frame f (Frame.enter P g args .normal):=by
 simp only[Frame.enter,frame,Array.map_append,Array.size_map,Array.map_replicate,kM]
theorem GC(cH:qf P L Gm)(hP:PF P L Gm F)(W:WR F wl wr)(ug:fe wl){m m':Bool}{nh csr ab abr:List Frame}{fr vi:Frame}(Vt:uf Gm L fr)(qg:∀c∈ab,uf Gm L c)(hr:∀f,F.has f->vi=frame f fr/\abr=ab.map (frame f)){g':aS}{aI:ae}{es:Array Event}(hgo:stepG P m (G fr (ab++nh)) wl=.go g' aI es)(cm:g'.status=.running)(hdy:g'.dying=none)(jw:g'.frame.mode=.run\/g'.frame.mode=.returning)(Tm:ab≠[]\/fr.mode=.run):Out P L Gm m' nh csr F wl wr vi abr g' aI:=by
 obtain⟨f0,jW⟩:=W.some;obtain⟨hd,uG,hk,pZ,Ly,GD⟩:=Vt;obtain⟨fn,tmps,todo,defers,mode,kind,ro⟩:=fr;simp only at hd uG hk pZ Ly GD Tm;subst hd uG hk;obtain⟨tr,CL,uF⟩:∃tr,vi=Fr fn tr todo mode/\∀f,F.has f->tr=tmps.map (val f):=by
  refine⟨tmps.map (val f0),(hr f0 jW).1,fun f hf=>?_⟩;have:=(hr f0 jW).1.symm.trans (hr f hf).1;simp only[frame,Frame.mk.injEq] at this;exact this.2.1
 subst CL;have mG:∀f,F.has f->abr=ab.map (frame f):=fun f hf=>(hr f hf).2;rcases GD with GD|GD
 ·
  subst GD;cases todo with
  |nil =>
   simp only[G,stepG,stepG.exec] at hgo;cases hgo;exact gM hP W ug qg mG uF pZ Ly (.inr rfl) (by simp only[G,stepG,stepG.exec,if_true])
  |cons i k =>
   have hi:=Ly i an;have kY:∀i∈k,mF Gm L i=true:=fun i hi=>Ly i (by simp[hi]);have two:∀{a b:Item},mF Gm L a=true->mF Gm L b=true->∀i∈a::b::k,mF Gm L i=true:=by
    intro a b ha hb i hi;simp only[gQ] at hi;rcases hi with rfl|rfl|hi
    ·exact ha
    ·exact hb
    ·exact kY i hi
   have one:∀{a:Item},mF Gm L a=true->∀i∈a::k,mF Gm L i=true:=by
    intro a ha i hi;simp only[gQ] at hi;rcases hi with rfl|hi
    ·exact ha
    ·exact kY i hi
   cases i<;>first|exact Bool.noConfusion hi|skip
   case inBlock id =>
    simp only[G,stepG,stepG.exec] at hgo;cases hgo;exact gM hP W ug qg mG uF pZ kY (.inl rfl) (by simp only[G,stepG,stepG.exec,if_true])
   case inScope c =>
    simp only[G,stepG,stepG.exec] at hgo;cases hgo;exact gM hP W ug qg mG uF pZ kY (.inl rfl) (by simp only[G,stepG,stepG.exec,if_true])
   case inLoop c =>
    simp only[G,stepG,stepG.exec] at hgo;cases hgo;exact gM hP W ug qg mG uF pZ (two hi hi) (.inl rfl) (by simp only[G,stepG,stepG.exec,if_true])
   case code c =>
    have lQ:jX Gm L c=true:=hi;cases c<;>first|exact Bool.noConfusion hi|skip
    case skip =>
     simp only[G,stepG,stepG.exec] at hgo;cases hgo;exact gM hP W ug qg mG uF pZ kY (.inl rfl) (by simp only[G,stepG,stepG.exec,if_true])
    case label l =>
     simp only[G,stepG,stepG.exec] at hgo;cases hgo;exact gM hP W ug qg mG uF pZ kY (.inl rfl) (by simp only[G,stepG,stepG.exec,if_true])
    case ret =>
     simp only[G,stepG,stepG.exec] at hgo;cases hgo;exact gM hP W ug qg mG uF pZ Ly (.inr rfl) (by simp only[G,stepG,stepG.exec,if_true])
    case seq a b =>
     simp only[jX,kD] at lQ;simp only[G,stepG,stepG.exec] at hgo;cases hgo;exact gM hP W ug qg mG uF pZ (two lQ.1 lQ.2) (.inl rfl) (by simp only[G,stepG,stepG.exec,if_true])
    case block id c =>
     simp only[G,stepG,stepG.exec] at hgo;cases hgo;exact gM hP W ug qg mG uF pZ (two hi rfl) (.inl rfl) (by simp only[G,stepG,stepG.exec,if_true])
    case loop c =>
     simp only[G,stepG,stepG.exec] at hgo;cases hgo;exact gM hP W ug qg mG uF pZ (two hi hi) (.inl rfl) (by simp only[G,stepG,stepG.exec,if_true])
    case scope c =>
     simp only[G,stepG,stepG.exec] at hgo;cases hgo;exact gM hP W ug qg mG uF pZ (two hi hi) (.inl rfl) (by simp only[G,stepG,stepG.exec,if_true])
    case refuse w =>
     simp only[G,stepG,stepG.exec] at hgo;cases hgo
    case cond c a b =>
     simp only[jX,kD] at lQ;have iH:=AL hP cH jW (Fr fn tmps (.code (.cond c a b)::k) .run) c lQ.1.1;rw[show frame f0 (Fr fn tmps (.code (.cond c a b)::k) .run)=Fr fn tr (.code (.cond c a b)::k) .run by rw[uF f0 jW];rfl] at iH;simp only[G,stepG,stepG.exec] at hgo;cases hb:Frame.eval (Fr fn tmps (.code (.cond c a b)::k) .run) c<;>simp only[hb] at hgo<;>first|cases hgo|skip
     rename_i t;rw[hb,cg] at iH;refine gM hP W ug qg mG uF pZ (one (by cases t;exact lQ.2;exact lQ.1.2)) (.inl rfl) ?_;simp only[G,stepG,stepG.exec,iH]
    case exit id =>
     simp only[G,stepG,stepG.exec] at hgo;cases hx:exitTo id k with
     |none=>simp only[hx,Option.elim_none] at hgo;simp at hgo
     |some k2 =>
      simp only[hx,Option.elim_some] at hgo;cases hgo;refine gM hP W ug qg mG uF pZ (fun i hi=>kY i (MR hx i hi)) (.inl rfl) ?_;simp only[G,stepG,stepG.exec,hx,Option.elim_some]
    case goto l =>
     simp only[G,stepG,stepG.exec] at hgo;cases hx:gotoIn l k with
     |none=>simp only[hx,Option.elim_none] at hgo;simp at hgo
     |some k2 =>
      simp only[hx,Option.elim_some] at hgo;cases hgo;refine gM hP W ug qg mG uF pZ (MS hx kY) (.inl rfl) ?_;simp only[G,stepG,stepG.exec,hx,Option.elim_some]
    case region id ops draw =>
     cases draw
     ·simp only[G,stepG,stepG.exec] at hgo;simp only[Bool.not_false,if_true] at hgo;cases hgo;refine gM hP W ug qg mG uF pZ (one hi) (.inl rfl) ?_;simp only[G,stepG,stepG.exec,Bool.not_false,if_true]
     ·simp only[G,stepG,stepG.exec,choose,Sem.run,Question.forced,Bool.not_true,fl,if_false] at hgo;cases hgo;refine⟨F,Fr fn tmps (.inRegion ops (Region.schedule (P.follows .mixedOrders) ops (Question.cut (.order fn id) (wl.tape wl.drawn (.order fn id))))::k) .run,ab,Fr fn tr (.inRegion ops (Region.schedule (P.follows .mixedOrders) ops (Question.cut (.order fn id) (wl.tape wl.drawn (.order fn id))))::k) .run,abr,{wr with drawn:=wr.drawn+1},#[],rfl,⟨rfl,rfl,rfl,pZ,one hi,.inl rfl⟩,qg,?_,fun f hf=>⟨by rw[uF f hf];rfl,mG f hf⟩,W.env rfl rfl W.os W.output W.tape (by simp[W.drawn]),eJ.env rfl rfl rfl rfl,an,hP,fun _ h=>h,fe.heap ug rfl⟩;simp only[G,stepG,stepG.exec,choose,Sem.run,Question.forced,Bool.not_true,fl,if_false,W.tape,W.drawn]
   case inRegion ops todo =>
    cases todo with
    |nil =>
     simp only[G,stepG,stepG.exec] at hgo;cases hgo;exact gM hP W ug qg mG uF pZ kY (.inl rfl) (by simp only[G,stepG,stepG.exec])
    |cons i rest =>
     have hy:yielded ops tr=yielded ops tmps:=by rw[uF f0 jW];exact Gz ops tmps
     have AP:∀(v v':Value) (F':iZ),(∀f,F'.has f->F.has f)->(∀f,F'.has f->v'=val f v)->∀f,F'.has f->(Fr fn tr (.inRegion ops (i::rest)::k) .run).finish v'=frame f ((Fr fn tmps (.inRegion ops (i::rest)::k) .run).finish v):=by
      intro v v' F' h1 h2 f hf;rw[h2 f hf,uF f (h1 f hf)];exact AN (G:=Gm) (L:=L) (Fr fn tmps (.inRegion ops (i::rest)::k) .run) v Ly
     have WL:∀v,uf Gm L ((Fr fn tmps (.inRegion ops (i::rest)::k) .run).finish v):=fun v=>xM ⟨rfl,rfl,rfl,pZ,Ly,.inl rfl⟩ v;by_cases hw:((ops[i]?).map (Region.wanted · (yielded ops tmps))).getD false=true
     ·obtain⟨o,ho⟩:∃o,ops[i]?=some o:=by
       cases ho:ops[i]? with
       |none=>rw[ho] at hw;cases hw
       |some o=>exact⟨o,rfl⟩
      have LA:sG Gm L o=true:=by
       have gY:ops.all (sG Gm L)=true:=hi;rw[gD] at gY;obtain⟨bZ,he⟩:=Array.getElem?_eq_some_iff.1 ho;rw[<- he];exact gY i bZ
      simp only[sG,kD,Array.all_eq_true'] at LA;have hrel:∀f,F.has f->Rel P f (iI L f) (execOp (Fr fn tmps (.inRegion ops (i::rest)::k) .run).eval o) (execOp (Fr fn tr (.inRegion ops (i::rest)::k) .run).eval o):=by
       intro f hf;have iH:∀g,F.has g->∀x∈o.op.operands,(Fr fn tr (.inRegion ops (i::rest)::k) .run).eval x=val g ((Fr fn tmps (.inRegion ops (i::rest)::k) .run).eval x):=by
        intro g hg x hx;have:=AL hP cH hg (Fr fn tmps (.inRegion ops (i::rest)::k) .run) x (LA.2 x hx);rw[show frame g (Fr fn tmps (.inRegion ops (i::rest)::k) .run)=Fr fn tr (.inRegion ops (i::rest)::k) .run by rw[uF g hg];rfl] at this;exact this
       exact AI (PF.ok hP cH hf) (PF.fn hP hf) (fun n hn args=>cH.call n hn f (PF.ok hP cH hf) (PF.fn hP hf) args) o LA.1 (iH f hf) (fun x hx=>AM W hP (fun g hg=>iH g hg x hx))
      have hC:=vH (fun f=>iI L f) _ _ F wl wr #[] #[] hrel W;have hN:=qT _ _ wl #[] (hrel f0 jW) ug;have hl:stepG P m (G (Fr fn tmps (.inRegion ops (i::rest)::k) .run) (ab++nh)) wl=stepG.apply P true (Fr fn tmps (.inRegion ops (i::rest)::k) .run) (ab++nh) none (execOp (Fr fn tmps (.inRegion ops (i::rest)::k) .run).eval o) wl:=by
       simp only[G,stepG,stepG.exec];refine(if_pos hw).trans ?_;simp only[stepG.oper,Frame.oper?,ho]
      have Y4:stepG P m' (G (Fr fn tr (.inRegion ops (i::rest)::k) .run) (abr++csr)) wr=stepG.apply P true (Fr fn tr (.inRegion ops (i::rest)::k) .run) (abr++csr) none (execOp (Fr fn tr (.inRegion ops (i::rest)::k) .run).eval o) wr:=by
       simp only[G,stepG,stepG.exec,hy];refine(if_pos hw).trans ?_;simp only[stepG.oper,Frame.oper?,ho]
      have GF:stepG.apply P true (Fr fn tmps (.inRegion ops (i::rest)::k) .run) (ab++nh) none (execOp (Fr fn tmps (.inRegion ops (i::rest)::k) .run).eval o) wl=.go g' aI es:=hl.symm.trans hgo;rcases hx:(execOp (Fr fn tmps (.inRegion ops (i::rest)::k) .run).eval o).runT P wl #[] with⟨r,el⟩;rw[hx] at hC hN;cases r with
      |halt h w1 =>
       exfalso;rcases hN with hN|⟨v,rfl⟩
       ·exact JF hN (by rw[hx]) GF
       ·obtain⟨ch,uh⟩:=GA (by rw[hx]) GF;rw[uh] at jw;rcases jw with h|h<;>cases h
      |ok n w1 =>
       obtain⟨F',b,nk,WM,c1,c2,c3,c4,c5,c6⟩:=hC;obtain⟨g0,WO⟩:=c3.some;have JG:=c2 g0 WO;have JH:∀e∈seen P fn WM,vF F' e:=by
        intro e he;obtain⟨new,rfl,CM⟩:=c5;have:=AK P fn _ e he;exact CM e (by simpa using this)
       cases n<;>cases b<;>simp only[iI] at JG
       ·rename_i v v';rw[ni rfl hx] at GF;cases GF;exact⟨F',_,ab,_,abr,nk,_,rfl,WL v,qg,Y4.trans (ni rfl c1),fun f hf=>⟨AP v v' F' c6 (fun f hf=>c2 f hf) f hf,mG f (c6 f hf)⟩,c3,c4,JH,hP.Lv c4,c6,hN⟩
       ·rw[oZ rfl hx] at GF;cases GF;exact⟨F',_,ab,_,abr,nk,_,rfl,WL undef,qg,Y4.trans (oZ rfl c1),fun f hf=>⟨AP undef undef F' c6 (fun f _=>(kM f).symm) f hf,mG f (c6 f hf)⟩,c3,c4,JH,hP.Lv c4,c6,hN⟩
       ·rename_i gg args gg' Vs;obtain⟨rfl,hLg,_⟩:=JG;rw[nj rfl ⟨_,_,_,rfl⟩ hx] at GF;cases GF;refine⟨F',_,Fr fn tmps (.inRegion ops (i::rest)::k) .run::ab,_,Fr fn tr (.inRegion ops (i::rest)::k) .run::abr,nk,_,rfl,sH cH hLg args,?_,Y4.trans (nj rfl ⟨_,_,_,rfl⟩ c1),fun f hf=>⟨?_,?_⟩,c3,c4,JH,hP.Lv c4,c6,hN⟩
        ·intro c hc;simp only[gQ] at hc;rcases hc with rfl|hc
         ·exact⟨rfl,rfl,rfl,pZ,Ly,.inl rfl⟩
         ·exact qg c hc
        ·have:=c2 f hf;simp only[iI] at this;rw[this.2.2,MT]
        ·rw[bU,mG f (c6 f hf),uF f (c6 f hf)];rfl
     ·simp only[G,stepG,stepG.exec,hw] at hgo;simp only[fl,if_false] at hgo;cases hgo;refine⟨F,_,ab,(Fr fn tr (.inRegion ops (i::rest)::k) .run).finish undef,abr,wr,#[],rfl,WL _,qg,?_,fun f hf=>⟨AP undef undef F (fun _ h=>h) (fun f _=>(kM f).symm) f hf,mG f hf⟩,W,eJ.refl _ _ _,an,hP,fun _ h=>h,ug⟩;simp only[G,stepG,stepG.exec,hy,hw,fl,if_false]
 ·
  subst GD;have cV:ab≠[]:=Tm.elim id (fun h=>by cases h);cases ab with
  |nil=>exact absurd rfl cV
  |cons c Y5 =>
   obtain⟨Tn,cr,rfl⟩:∃Tn cr,abr=cr::Tn:=by
    rw[mG f0 jW];exact⟨_,_,rfl⟩
   have Te:∀f,F.has f->cr=frame f c/\Tn=Y5.map (frame f):=by
    intro f hf;have:=mG f hf;simp only[bU,aac] at this;exact this
   obtain⟨yL,ql,_⟩:=cH.body fn pZ;have hrel:∀f,F.has f->Rel P f (V f) (results yL tmps) (results yL tr):=by
    intro f hf;rw[uF f hf];exact pM (PF.ok hP cH hf) yL tmps
   have hC:=vH (fun f=>V f) _ _ F wl wr #[] #[] hrel W;have hN:=qT _ _ wl #[] (hrel f0 jW) ug;rcases hx:(results yL tmps).runT P wl #[] with⟨r,el⟩;rw[hx] at hC hN;simp only[G,stepG,unwind,ql,hx,List.cons_append] at hgo;cases r with
   |halt h w1 =>
    exfalso;cases h<;>simp only[GStep.after] at hgo<;>cases hgo
   |ok v w1 =>
    obtain⟨F',v',nk,WM,c1,c2,c3,c4,c5,c6⟩:=hC;have JH:∀e∈seen P fn WM,vF F' e:=by
     intro e he;obtain⟨new,rfl,CM⟩:=c5;have:=AK P fn _ e he;exact CM e (by simpa using this)
    simp only[GStep.after,doReturn] at hgo;cases hgo;have ZV:=qg c an;refine⟨F',c.finish v,Y5,cr.finish v',Tn,nk,seen P fn WM,rfl,xM ZV v,fun x hx=>qg x (by simp[hx]),?_,fun f hf=>⟨?_,(Te f (c6 f hf)).2⟩,c3,c4,JH,hP.Lv c4,c6,hN⟩
    ·simp only[G,stepG,unwind,ql,c1,List.cons_append,GStep.after,doReturn,aab]
    ·rw[(Te f (c6 f hf)).1,c2 f hf];exact AN (G:=Gm) (L:=L) c v ZV.todo
end
end
abbrev Tape:=Nat->Question->Nat
def WT(w:ae)(τ:Tape)(d:Nat):ae:={w with tape:=τ,drawn:=d}
def fX(w:ae)(c:Nat)(τ:Tape)(d:Nat):Prop:=∀j,j<c->∀q,τ (d+j) q=w.tape (w.drawn+j) q
theorem fX.le{w:ae}{c c':Nat}{τ:Tape}{d:Nat}(h:fX w c τ d)(hc:c'<=c):fX w c' τ d:=fun j hj q=>h j aa q
theorem fX.tail{w w':ae}{c c':Nat}{τ:Tape}{d:Nat}(h:fX w (c+c') τ d)(ht:w'.tape=w.tape)(hd:w'.drawn=w.drawn+c):fX w' c' τ (d+c):=by
 intro j hj q;rw[ht,hd,de,de];exact h (c+j) aa q
def WQ{α:Type}(τ:Tape)(d:Nat):Result α->Result α
 | .ok a w=>.ok a (WT w τ d)
 | .halt h w=>.halt h (WT w τ d)
def AQ{α:Type}:Result α->ae
 | .ok _ w=>w
 | .halt _ w=>w
def AS{α:Type}(P:Program)(s:Sem α)(w:ae)(es:Array Event)(c:Nat):Prop :=
 (AQ (s.runT P w es).1).tape=w.tape/\(AQ (s.runT P w es).1).drawn=w.drawn+c /\
 ∀τ d,fX w c τ d->s.runT P (WT w τ d) es=(WQ τ (d+c) (s.runT P w es).1,(s.runT P w es).2)
theorem LB(w:ae):w.sys .env=(.strings w.os.env,w):=rfl
theorem AT{α:Type}{P:Program}{s:Sem α}{w:ae}{es:Array Event}{s₁:Sem α}{w₁:ae}{es₁:Array Event}{c₀ c:Nat}(h:s.runT P w es=s₁.runT P w₁ es₁)(ht:w₁.tape=w.tape)(hd:w₁.drawn=w.drawn+c₀)(hw:∀τ d,fX w c₀ τ d->s.runT P (WT w τ d) es=s₁.runT P (WT w₁ τ (d+c₀)) es₁)(MU:AS P s₁ w₁ es₁ c):AS P s w es (c₀+c):=by
 obtain⟨a,b,e⟩:=MU;refine⟨by rw[h,a,ht],by rw[h,b,hd,de],fun τ d hA=>?_⟩;rw[hw τ d (hA.le aa),e τ (d+c₀) (hA.tail ht hd),h,de]
theorem fI{α:Type}{P:Program}{s:Sem α}{w:ae}{es:Array Event}{s₁:Sem α}{w₁:ae}{es₁:Array Event}{c:Nat}(h:s.runT P w es=s₁.runT P w₁ es₁)(ht:w₁.tape=w.tape)(hd:w₁.drawn=w.drawn)(hw:∀τ d,s.runT P (WT w τ d) es=s₁.runT P (WT w₁ τ d) es₁)(MU:AS P s₁ w₁ es₁ c):AS P s w es c:=by
 have:=AT (c₀:=0) h ht hd (fun τ d _=>hw τ d) MU;rwa[bh] at this
theorem iS{α:Type}{P:Program}{s:Sem α}{w:ae}{es:Array Event}{h:Halt}(e:s.runT P w es=(.halt h w,es))(hw:∀τ d,s.runT P (WT w τ d) es=(.halt h (WT w τ d),es)):AS P s w es 0:=by
 refine⟨by rw[e];rfl,by rw[e];rfl,fun τ d _=>?_⟩;rw[hw,e];rfl
theorem AU(p:Program)(w:ae)(τ:Tape)(d:Nat)(a:Addr)(at_:Bool):(WT w τ d).farLoad p a at_=w.farLoad p a at_:=rfl
theorem bind_map{α β γ:Type}{x:Except String α}{k:α->Except String β}{k':α->Except String γ}{g:β->γ}(h:∀a,k' a=(k a).map g):(x>>=k')=(x>>=k).map g:=by
 cases x with
 |error=>rfl
 |ok a=>exact h a
theorem EJ{p:Program}{w:ae}{τ:Tape}{d:Nat}{b:Addr}{u:TypeId}{a:Addr}{v:Value}{at_:Bool}:
  (WT w τ d).viewStore p b u a v at_=(w.viewStore p b u a v at_).map (fun x=>(WT x.1 τ d,x.2)):=by
 unfold World.viewStore;by_cases ht:(!tight p p.depth u)=true
 ·simp only[ht,if_true];rfl
 ·simp only[ht,if_false];have e:(WT w τ d).seen p b u a at_=w.seen p b u a at_:=rfl;rw[e];refine bind_map (fun x=>?_);obtain⟨c,e,z,first,Jq,cells⟩:=x;cases v.bytes? with
  |none=>rfl
  |some bytes =>
   simp only[];by_cases hl:(some bytes.length≠Jq.bytes?.map (·.length))
   ·rw[if_pos hl,if_pos hl];rfl
   ·rw[if_neg hl,if_neg hl];exact bind_map (fun c2=>rfl)
theorem yM{p:Program}{w:ae}{τ:Tape}{d:Nat}{a:Addr}{v:Value}{at_:Bool}:
  (WT w τ d).farStore p a v at_=(w.farStore p a v at_).map (fun x=>(WT x.1 τ d,x.2)):=by
 unfold World.farStore;show(match w.heap[a.block]? with|some (.view akf u)=>_|_=>_)=_;cases hh:w.heap[a.block]? with
 |none=>simp only[World.noCell,WT,hh];rfl
 |some o =>
  cases o<;>simp only[World.noCell,WT,hh]<;>first|rfl|skip
  rename_i b u;have:=EJ (p:=p) (w:=w) (τ:=τ) (d:=d) (b:=b) (u:=u) (a:=a) (v:=v) (at_:=at_);simp only[WT] at this;rw[this];cases w.viewStore p b u a v at_<;>rfl
theorem CN{p:Program}{w:ae}{b:Addr}{u:TypeId}{a:Addr}{v:Value}{at_:Bool}{x:ae×List Addr}(h:w.viewStore p b u a v at_=.ok x):x.1.tape=w.tape/\x.1.drawn=w.drawn:=by
 obtain⟨w1,ts⟩:=x;obtain⟨c,e,z,_,_,rfl,_⟩:=pX (f:=⟨fun x=>x,fun x=>x,fun x=>x,fun x=>x⟩) (wr:={w with heap:=w.heap.map (obj ⟨fun x=>x,fun x=>x,fun x=>x,fun x=>x⟩)}) (at':=b) (k':=a) an rfl rfl rfl rfl h;exact⟨rfl,rfl⟩
theorem vj{P:Program}{f:Rn}{α β:Type}{A:α->β->Prop}:∀(s:Sem α) (s':Sem β) (w:ae) (es:Array Event),Rel P f A s s'->∃c,AS P s w es c:=by
 intro s
 induction s with
 |pure a=>intro s' w es h;exact⟨0,rfl,rfl,fun τ d _=>rfl⟩
 |load m x k ih =>
  intro s' w es h;cases s'<;>simp only[Rel] at h;cases hc:w.cell? x with
  |some v =>
   obtain⟨c,hd⟩:=ih v _ w (es.push ⟨.cell x,false,m == .atomic⟩) (h.2.2 v);refine⟨c,fI (w₁:=w) (by simp only[Sem.runT,hc]) rfl rfl (fun τ d=>?_) hd⟩;have GG:(WT w τ d).cell? x=some v:=hc;simp only[Sem.runT,GG]
  |none =>
   have GG:∀τ d,(WT w τ d).cell? x=none:=fun τ d=>hc;cases hf:w.farLoad P x (m == .atomic) with
   |error hh =>
    refine⟨0,iS (h:=hh) (by simp only[Sem.runT,hc,hf]) (fun τ d=>?_)⟩;simp only[Sem.runT,GG τ d,AU,hf]
   |ok y =>
    obtain⟨v,ts⟩:=y;obtain⟨c,hd⟩:=ih v _ w (es++ts.toArray.map (⟨.cell ·,false,m == .atomic⟩)) (h.2.2 v);refine⟨c,fI (w₁:=w) (by simp only[Sem.runT,hc,hf]) rfl rfl (fun τ d=>?_) hd⟩;simp only[Sem.runT,GG τ d,AU,hf]
 |store m x v k ih =>
  intro s' w es h;cases s'<;>simp only[Rel] at h;by_cases b6:(∃c,v=.agg c)\/∃c,v=.tuple c
  ·rcases b6 with⟨c,rfl⟩|⟨c,rfl⟩
   ·exact⟨0,iS rfl (fun τ d=>rfl)⟩
   ·exact⟨0,iS rfl (fun τ d=>rfl)⟩
  ·have n1:∀c,v≠.agg c:=fun c e=>b6 (.inl ⟨c,e⟩);have n2:∀c,v≠.tuple c:=fun c e=>b6 (.inr ⟨c,e⟩);cases hc:w.cell? x with
   |some old =>
    have GG:∀τ d,(WT w τ d).cell? x=some old:=fun τ d=>hc;by_cases hz:w.frozen? x=true
    ·have Cq:∀τ d,(WT w τ d).frozen? x=true:=fun τ d=>hz;exact⟨0,iS (by rw[gJ n1 n2,hc];simp only[hz,if_true];rfl) (fun τ d=>by rw[gJ n1 n2,GG];simp only[Cq,if_true])⟩
    ·have Cq:∀τ d,¬(WT w τ d).frozen? x=true:=fun τ d=>hz;obtain⟨c,hd⟩:=ih _ (w.setCell x v) (es.push ⟨.cell x,true,m == .atomic⟩) h.2.2.2;refine⟨c,fI (w₁:=w.setCell x v) (by rw[gJ n1 n2,hc];simp only[hz,if_false];rfl) rfl rfl (fun τ d=>?_) hd⟩;rw[gJ n1 n2,GG];simp only[Cq,if_false];rfl
   |none =>
    have GG:∀τ d,(WT w τ d).cell? x=none:=fun τ d=>hc;cases hf:w.farStore P x v (m == .atomic) with
    |error hh =>
     refine⟨0,iS (h:=hh) (by rw[gJ n1 n2,hc];simp only[hf]) (fun τ d=>?_)⟩;rw[gJ n1 n2,GG];simp only[yM,hf,Except.map]
    |ok y =>
     obtain⟨w1,ts⟩:=y;obtain⟨b,u,Gd,I2⟩:=su hf;obtain⟨ht,Cr⟩:=CN I2;obtain⟨c,hd⟩:=ih _ w1 (es++ts.toArray.map (⟨.cell ·,true,m == .atomic⟩)) h.2.2.2;refine⟨c,fI (w₁:=w1) (by rw[gJ n1 n2,hc];simp only[hf]) ht Cr (fun τ d=>?_) hd⟩;rw[gJ n1 n2,GG];simp only[yM,hf,Except.map]
 |new o k ih =>
  intro s' w es h;cases s'<;>simp only[Rel] at h;obtain⟨c,hd⟩:=ih w.heap.size _ {w with heap:=w.heap.push o} es (h.2.2 _);exact⟨c,fI (w₁:={w with heap:=w.heap.push o}) rfl rfl rfl (fun τ d=>rfl) hd⟩
 |shape r k ih =>
  intro s' w es h;cases s'<;>simp only[Rel] at h;obtain⟨c,hd⟩:=ih (w.shape? r) _ w es (h.2 _);exact⟨c,fI (w₁:=w) rfl rfl rfl (fun τ d=>rfl) hd⟩
 |freeze a n k ih =>
  intro s' w es h;cases s'<;>simp only[Rel] at h;obtain⟨c,hd⟩:=ih _ (w.freeze a n) es h.2.2;have e:∀τ d,(WT w τ d).freeze a n=WT (w.freeze a n) τ d:=by
   intro τ d;unfold World.freeze;split<;>rfl
  refine⟨c,fI (w₁:=w.freeze a n) rfl (by unfold World.freeze;split<;>rfl) (by unfold World.freeze;split<;>rfl) (fun τ d=>?_) hd⟩;simp only[Sem.runT,e]
 |frozen a k ih =>
  intro s' w es h;cases s'<;>simp only[Rel] at h;obtain⟨c,hd⟩:=ih (w.frozen? a) _ w es (h.2 _);exact⟨c,fI (w₁:=w) rfl rfl rfl (fun τ d=>rfl) hd⟩
 |getObj r k ih =>
  intro s' w es h;cases s'<;>simp only[Rel] at h;cases ho:w.heap[r]? with
  |none =>
   have mr:∀τ d,(WT w τ d).heap[r]?=none:=fun τ d=>ho;exact⟨0,iS (by simp only[Sem.runT,ho];rfl) (fun τ d=>by simp only[Sem.runT,mr])⟩
  |some o =>
   have mr:∀τ d,(WT w τ d).heap[r]?=some o:=fun τ d=>ho;by_cases hc:∃c e z,o=.cells c e z
   ·obtain⟨c,e,z,rfl⟩:=hc;exact⟨0,iS (by simp only[Sem.runT,ho];rfl) (fun τ d=>by simp only[Sem.runT,mr])⟩
   ·obtain⟨c,hd⟩:=ih o _ w (es.push ⟨.obj r,false,o.isChan⟩) (h.2 _);have e1:∀w:ae,w.heap[r]?=some o->(Sem.getObj r k).runT P w es=(k o).runT P w (es.push ⟨.obj r,false,o.isChan⟩):=by
     intro w hw;simp only[Sem.runT,hw];cases o<;>first|rfl|exact absurd ⟨_,_,_,rfl⟩ hc
    exact⟨c,fI (w₁:=w) (e1 w ho) rfl rfl (fun τ d=>e1 _ (mr τ d)) hd⟩
 |setObj r o k ih =>
  intro s' w es h;cases s'<;>simp only[Rel] at h;cases ho:w.heap[r]? with
  |none =>
   have mr:∀τ d,(WT w τ d).heap[r]?=none:=fun τ d=>ho;exact⟨0,iS (by simp only[Sem.runT,ho];rfl) (fun τ d=>by simp only[Sem.runT,mr])⟩
  |some x =>
   have mr:∀τ d,(WT w τ d).heap[r]?=some x:=fun τ d=>ho;by_cases hc:∃c e z,x=.cells c e z
   ·obtain⟨c,e,z,rfl⟩:=hc;exact⟨0,iS (by simp only[Sem.runT,ho];rfl) (fun τ d=>by simp only[Sem.runT,mr])⟩
   ·obtain⟨c,hd⟩:=ih _ {w with heap:=w.heap.setIfInBounds r o} (es.push ⟨.obj r,true,o.isChan⟩) h.2.2.2;have e1:∀w:ae,w.heap[r]?=some x->(Sem.setObj r o k).runT P w es=k.runT P {w with heap:=w.heap.setIfInBounds r o} (es.push ⟨.obj r,true,o.isChan⟩):=by
     intro w hw;simp only[Sem.runT,hw];cases x<;>first|rfl|exact absurd ⟨_,_,_,rfl⟩ hc
    exact⟨c,fI (w₁:={w with heap:=w.heap.setIfInBounds r o}) (e1 w ho) rfl rfl (fun τ d=>e1 _ (mr τ d)) hd⟩
 |choose q k ih =>
  intro s' w es h;cases s'<;>simp only[Rel] at h;by_cases hq:q.forced=true
  ·obtain⟨c,hd⟩:=ih 0 _ w es (h.2 _);exact⟨c,fI (w₁:=w) (by simp only[Sem.runT,hq,if_true]) rfl rfl (fun τ d=>by simp only[Sem.runT,hq,if_true]) hd⟩
  ·obtain⟨c,hd⟩:=ih (q.cut (w.tape w.drawn q)) _ {w with drawn:=w.drawn+1} es (h.2 _);refine⟨1+c,AT (c₀:=1) (w₁:={w with drawn:=w.drawn+1}) (by simp[Sem.runT,hq]) rfl rfl (fun τ d hA=>?_) hd⟩;have h0:=hA 0 aa q;simp only[Nat.add_zero] at h0;simp[Sem.runT,hq,WT,h0]
 |sys c k ih =>
  intro s' w es h;cases s'<;>simp only[Rel] at h;have he:c=.env:=by
   have:=h.2.1;cases c<;>first|rfl|exact Bool.noConfusion this
  subst he;obtain⟨c,hd⟩:=ih (.strings w.os.env) _ w (es.push ⟨.output,true,false⟩) (h.2.2 _);exact⟨c,fI (w₁:=w) (by simp only[Sem.runT,LB]) rfl rfl (fun τ d=>by simp only[Sem.runT,LB];rfl) hd⟩
 |program k ih =>
  intro s' w es h;cases s'<;>simp only[Rel] at h;obtain⟨c,hd⟩:=ih P _ w es h;exact⟨c,fI (w₁:=w) rfl rfl rfl (fun τ d=>rfl) hd⟩
 |mark m k ih =>
  intro s' w es h;cases s'<;>simp only[Rel] at h;obtain⟨c,hd⟩:=ih _ w (es.push ⟨.mark m,false,true⟩) h.2.2;exact⟨c,fI (w₁:=w) rfl rfl rfl (fun τ d=>rfl) hd⟩
 |halt hh=>intro s' w es h;exact⟨0,iS rfl (fun τ d=>rfl)⟩
end Go.Ren
