/- Proved: whatever script is handed in, kilnlaw.Cleans answers true, whichever way the goroutines are scheduled: every Right and every Clean of it answers as the document says, lets what is handed to it be as it was, and hands out lists that are the caller's. Conditions: those of the given card, Rows.CleansCardSaid; none besides. (Shortened by program; readable in wip.) -/
import Derived.Conc.Own
import Derived.KernelRfl
import Derived.Laws.Sem
set_option linter.all false
set_option maxHeartbeats 32000000
set_option maxRecDepth 100000
abbrev br:=(Nat->Prop)->Go.Goroutine->Go.World->Prop
abbrev ae:=Go.World
abbrev ag:=ByteArray
abbrev aY:=Go.Goroutine
open Go in
theorem aa{p:Prop}(h:p:=by omega):p:=h
open Go in
theorem aG{p:Prop}(h:p:=by rfl):p:=h
open Go in
theorem ah{p:Prop}(h:p:=by kernel_rfl):p:=h
open Go in
theorem aj{p:Prop}(h:p:=by simp):p:=h
open Go in
theorem ax{p:Prop}(h:p:=by simp[Act.eval]):p:=h
open Go in
theorem eW{p:Prop}(h:p:=by simp;omega):p:=h
open Go in
theorem bQ{p:Prop}(h:p:=by first|rfl|trivial):p:=h
open Go in
theorem iG{p:Prop}(h:p:=by decide):p:=h
open Go in
theorem ale{p:Prop}(h:p:=by assumption):p:=h
open Go in
theorem Oz{p:Prop}(h:p:=by simp[Op.operands]):p:=h
open Go in
theorem iY{p:Prop}(h:p:=by simp[go_sem]):p:=h
abbrev iM:=@Array.all_eq_true
abbrev jY:=@Array.all_eq_true'
abbrev iC:=@Array.any_eq_true'
abbrev dN:=@Array.append_assoc
abbrev cw:=@Array.append_empty
abbrev jH:=@Array.ext
abbrev kC:=@Array.ext'
abbrev fC:=@Array.ext_getElem?
abbrev jB:=@Array.extract_eq_self_of_le
abbrev jU:=@Array.foldl_toList
abbrev gn:=@Array.forIn_toList
abbrev bV:=@Array.getD_eq_getD_getElem?
abbrev gM:=@Array.getElem?_append_left
abbrev gD:=@Array.getElem?_append_right
abbrev aO:=@Array.getElem?_eq_getElem
abbrev bX:=@Array.getElem?_eq_none
abbrev aI:=@Array.getElem?_eq_some_iff
abbrev aM:=@Array.getElem?_map
abbrev aR:=@Array.getElem?_modify
abbrev dX:=@Array.getElem?_push
abbrev dE:=@Array.getElem?_push_lt
abbrev ir:=@Array.getElem?_push_size
abbrev aQ:=@Array.getElem?_setIfInBounds_ne
abbrev cn:=@Array.getElem?_setIfInBounds_self_of_lt
abbrev iN:=@Array.getElem_mem
abbrev fS:=@Array.mapM_eq_mapM_toList
abbrev gI:=@Array.map_append
abbrev eF:=@Array.map_congr_left
abbrev iU:=@Array.map_map
abbrev kN:=@Array.map_setIfInBounds
abbrev kT:=@Array.mem_append
abbrev jc:=@Array.mem_iff_getElem
abbrev fI:=@Array.mem_of_getElem?
abbrev fV:=@Array.size_replicate
abbrev cC:=@Array.toList_map
abbrev aU:=@Bool.and_eq_true
abbrev jv:=@Bool.eq_iff_iff
abbrev aT:=@Bool.false_eq_true
abbrev kA:=@Bool.false_or
abbrev eJ:=@Bool.not_eq_true'
abbrev lR:=@ByteArray.data_append
abbrev iT:=@ByteArray.data_extract
abbrev iZ:=@ByteArray.ext
abbrev lB:=@ByteArray.size_extract
abbrev eU:=@Classical.axiomOfChoice
abbrev aX:=@Classical.byContradiction
abbrev eC:=@Go.Frame.finish_at
abbrev cx:=@Go.Conc.Goes.stop
abbrev dj:=@Iff.rfl
abbrev en:=@Int.le_refl
abbrev iD:=@Int.lt_or_eq_of_le
abbrev gU:=@Int.tdiv_eq_ediv_of_nonneg
abbrev iP:=@Int.toNat_natCast
abbrev ig:=@Int.toNat_of_nonneg
abbrev jb:=@List.Nodup.length_le_of_subset
abbrev fY:=@List.all_eq_true
abbrev bT:=@List.cons.injEq
abbrev dM:=@List.contains_iff_mem
abbrev dJ:=@List.drop_eq_getElem_cons
abbrev dZ:=@List.drop_of_length_le
abbrev ga:=@List.eq_of_mem_replicate
abbrev dA:=@List.ext_getElem?
abbrev iI:=@List.filter_append_perm
abbrev bm:=@List.getD_eq_getElem?_getD
abbrev dI:=@List.getElem?_append_left
abbrev dD:=@List.getElem?_append_right
abbrev au:=@List.getElem?_eq_getElem
abbrev cV:=@List.getElem?_eq_none
abbrev a8:=@List.getElem?_eq_some_iff
abbrev bM:=@List.getElem?_map
abbrev gl:=@List.getElem?_replicate
abbrev eO:=@List.getElem?_set_ne
abbrev cE:=@List.getElem?_take_of_lt
abbrev cT:=@List.getElem_append_left
abbrev ky:=@List.getElem_append_right
abbrev gR:=@List.getElem_map
abbrev aA:=@List.getElem_mem
abbrev bB:=@List.getElem_of_mem
abbrev dY:=@List.getElem_set_ne
abbrev fM:=@List.getElem_set_self
abbrev eN:=@List.getElem_take
abbrev jZ:=@List.length_append
abbrev dx:=@List.length_eq_zero_iff
abbrev gC:=@List.length_filter_le
abbrev b6:=@List.length_map
abbrev dF:=@List.length_pos_iff
abbrev lA:=@List.length_pos_of_mem
abbrev ln:=@List.length_take
abbrev ff:=@List.length_take_le
abbrev mi:=@List.lt_irrefl
abbrev jw:=@List.map_append
abbrev cQ:=@List.map_congr_left
abbrev aB:=@List.map_cons
abbrev aJ:=@List.map_nil
abbrev bG:=@List.mem_append
abbrev bq:=@List.mem_cons
abbrev bY:=@List.mem_cons_of_mem
abbrev iE:=@List.mem_cons_self
abbrev gm:=@List.mem_filter
abbrev gQ:=@List.mem_iff_getElem
abbrev aV:=@List.mem_map
abbrev jF:=@List.mem_map_of_mem
abbrev cL:=@List.mem_of_getElem?
abbrev bU:=@List.mem_range
abbrev gx:=@List.nodup_append
abbrev il:=@List.nodup_cons
abbrev jd:=@List.nodup_range
abbrev fi:=@List.not_mem_nil
abbrev ba:=@List.pairwise_iff_getElem
abbrev dC:=@List.perm_ext_iff_of_nodup
abbrev je:=@List.range'_succ
abbrev js:=@List.range_eq_range'
abbrev kH:=@List.take_add_one
abbrev cO:=@List.take_length
abbrev bz:=@List.take_of_length_le
abbrev dG:=@Nat.add_assoc
abbrev bh:=@Nat.eq_zero_or_pos
abbrev cF:=@Nat.le_of_eq
abbrev ll:=@Nat.le_of_lt
abbrev dt:=@Nat.le_of_not_lt
abbrev af:=@Nat.le_refl
abbrev aS:=@Nat.le_trans
abbrev bf:=@Nat.lt_of_lt_of_le
abbrev fg:=@Nat.lt_of_not_le
abbrev cg:=@Nat.lt_or_ge
abbrev bK:=@Nat.lt_succ_self
abbrev lj:=@Nat.lt_trans
abbrev dB:=@Nat.lt_trichotomy
abbrev fL:=@Nat.mod_two_eq_zero_or_one
abbrev eM:=@Nat.mul_le_mul_right
abbrev cH:=@Nat.not_lt_zero
abbrev bD:=@Nat.zero_add
abbrev aW:=@Nat.zero_le
abbrev bw:=@Ne.symm
abbrev cY:=@Option.bind_eq_some_iff
abbrev bc:=@Option.getD_some
abbrev aH:=@Option.map_eq_some_iff
abbrev aK:=@Option.map_some
abbrev aP:=@Option.some.inj
abbrev ay:=@Option.some.injEq
abbrev jP:=@Prod.mk.inj
abbrev bO:=@Prod.mk.injEq
abbrev gw:=@Std.Legacy.Range.forIn_eq_forIn_range'
abbrev gz:=@UInt8.le_antisymm
abbrev jf:=@UInt8.lt_iff_toNat_lt
abbrev iq:=@UInt8.lt_irrefl
abbrev eA:=@UInt8.not_lt
abbrev dm:=@beq_eq_false_iff_ne
abbrev mB:=@bne_iff_ne
abbrev cz:=@decide_eq_false
abbrev eY:=@decide_eq_true
abbrev fh:=@getElem!_pos
abbrev fR:=@of_decide_eq_true
abbrev fJ:=@Go.Conc.stepG_block
abbrev eG:=@Go.Conc.stepG_cond
abbrev eD:=@Go.Conc.stepG_end
abbrev gX:=@Go.Conc.stepG_inBlock
abbrev jq:=@Go.Conc.stepG_inLoop
abbrev kE:=@Go.Conc.stepG_loop
abbrev jl:=@Go.Conc.stepG_none
abbrev bg:=@Go.Conc.stepG_region
abbrev ar:=@Go.Conc.stepG_region_end
abbrev aE:=@Go.Conc.stepG_seq
abbrev cD:=@Go.Conc.stepG_skip
abbrev dP:=@Go.Conc.stepG_value
namespace Go.Ren
open _root_.Option renaming some → so,none → we
structure Rn where
 b:Nat->Nat
 h:Nat->Nat
 ty:Nat->Nat
 m:String->String
def addr(f:Rn)(a:Addr):Addr:={a with block:=f.b a.block}
def um(f:Rn):Fn->Fn
 | .func n=>.func (f.h n)
 | .via t path n p=>.via (f.ty t) path n p
 | .method s=>.method (f.m s)
 | .methodOf t s=>.methodOf t (f.m s)
 | .yield l=>.yield (f.ty l)
def val(f:Rn):Value->Value
 | .bool b=>.bool b
 | .int k n=>.int k n
 | .float k b=>.float k b
 | .complex k x y=>.complex k x y
 | .string s=>.string s
 | .pointer a=>.pointer (a.map (addr f))
 | .slice a l c=>.slice (a.map (addr f)) l c
 | .map r=>.map (r.map f.b)
 | .chan r=>.chan (r.map f.b)
 | .func fn first captured=>.func (um f fn) (first.map (val f)) (captured.map (val f))
 | .nilFunc=>.nilFunc
 | .iface t v=>.iface t (val f v)
 | .nilIface=>.nilIface
 | .agg cs=>.agg (cs.map (val f))
 | .tuple vs=>.tuple (vs.map (val f))
section
variable (f:Rn)
@[simp] theorem cP(b:Bool):val f (.bool b)=.bool b:=by simp[val]
@[simp] theorem da(k:IntKind)(n:Int):val f (.int k n)=.int k n:=by simp[val]
@[simp] theorem cm(k:FloatKind)(n:Nat):val f (.float k n)=.float k n:=by simp[val]
@[simp] theorem bI(k:FloatKind)(n m:Nat):val f (.complex k n m)=.complex k n m:=by simp[val]
@[simp] theorem bP(s:ag):val f (.string s)=.string s:=by simp[val]
@[simp] theorem bj(a:Option Addr):val f (.pointer a)=.pointer (a.map (addr f)):=by simp[val]
@[simp] theorem bH(a:Option Addr)(l c:Nat):val f (.slice a l c)=.slice (a.map (addr f)) l c:=by simp[val]
@[simp] theorem de(r:Option Nat):val f (.map r)=.map (r.map f.b):=by simp[val]
@[simp] theorem cI(r:Option Nat):val f (.chan r)=.chan (r.map f.b):=by simp[val]
@[simp] theorem cJ(g:Fn)(a b:Array Value):val f (.func g a b)=.func (um f g) (a.map (val f)) (b.map (val f)):=by simp[val]
@[simp] theorem bL:val f .nilFunc=.nilFunc:=by simp[val]
@[simp] theorem b7(t:TypeId)(v:Value):val f (.iface t v)=.iface t (val f v):=by simp[val]
@[simp] theorem bE:val f .nilIface=.nilIface:=by simp[val]
@[simp] theorem db(cs:Array Value):val f (.agg cs)=.agg (cs.map (val f)):=by simp[val]
@[simp] theorem b8(cs:Array Value):val f (.tuple cs)=.tuple (cs.map (val f)):=by simp[val]
@[simp] theorem Vf(b o:Nat)(s:Option Nat):addr f ⟨b,o,s⟩=⟨f.b b,o,s⟩:=rfl
@[simp] theorem xg(a:Addr):(addr f a).block=f.b a.block:=rfl
@[simp] theorem BK(a:Addr):(addr f a).off=a.off:=rfl
@[simp] theorem O0(a:Addr):(addr f a).spot=a.spot:=rfl
def lu(a:Addr)(n:Nat):addr f (a.add n)=(addr f a).add n:=by
 unfold Addr.add addr;split<;>rfl
def lC(v:Value):(val f v).cells=v.cells.map (val f):=by
 cases v<;>simp[Value.cells]
def mo:val f undef=undef:=by simp[undef]
end
def entry(f:Rn)(e:MapEntry):MapEntry:={e with key:=val f e.key,val:=val f e.val}
def obj(f:Rn):Obj->Obj
 | .cells c e z=>.cells (c.map (val f)) e z
 | .pending c e=>.pending (c.map (val f)) e
 | .view a t=>.view (addr f a) t
 | .number a l=>.number (addr f a) l
 | .map es c=>.map (es.map (entry f)) c
 | .chan cap buf cl s r t=>.chan cap (buf.map (val f)) cl s r t
 | .stringIter s p=>.stringIter s p
 | .mapIter m s x n=>.mapIter (m.map f.b) s x n
 |o=>o
def target(f:Rn):Target->Target
 | .fn fn captured=>.fn (um f fn) (captured.map (val f))
 |t=>t
def deferred(f:Rn)(d:Deferred):Deferred:={target:=target f d.target,args:=d.args.map (val f)}
def LA(f:Rn):Mark->Mark
 | .acquire a=>.acquire (addr f a)
 | .release a=>.release (addr f a)
 | .releaseMerge a=>.releaseMerge (addr f a)
 | .read a=>.read (addr f a)
 | .write a=>.write (addr f a)
 | .extern n=>.extern (f.h n)
 |m=>m
def LB:Mark->Bool
 | .extern _|.noRoom=>true
 |_=>false
def fN:Obj->Bool
 | .pending ..=>true
 |_=>false
def abS:Sys->Bool
 | .env=>true
 |_=>false
def pN:Halt->Bool
 | .unsupported (.initOrder _)=>false
 | .unsupported _=>true
 | .stuck _=>true
 |_=>false
def Rel(P:Program)(f:Rn){α β:Type}(A:α->β->Prop):Sem α->Sem β->Prop
 | .pure a,.pure a'=>A a a'
 | .load m x k,.load m' x' k'=>m'=m/\x'=addr f x/\∀v,Rel P f A (k v) (k' (val f v))
 | .store m x v k,.store m' x' v' k'=>m'=m/\x'=addr f x/\v'=val f v/\Rel P f A k k'
 | .new o k,.new o' k'=>o'=obj f o/\fN o=false/\∀r,Rel P f A (k r) (k' (f.b r))
 | .shape r k,.shape r' k'=>r'=f.b r/\∀x,Rel P f A (k x) (k' x)
 | .freeze a n k,.freeze a' n' k'=>a'=addr f a/\n'=n/\Rel P f A k k'
 | .frozen a k,.frozen a' k'=>a'=addr f a/\∀b,Rel P f A (k b) (k' b)
 | .getObj r k,.getObj r' k'=>r'=f.b r/\∀o,Rel P f A (k o) (k' (obj f o))
 | .setObj r o k,.setObj r' o' k'=>r'=f.b r/\o'=obj f o/\fN o=false/\Rel P f A k k'
 | .choose q k,.choose q' k'=>q'=q/\∀n,Rel P f A (k n) (k' n)
 | .sys c k,.sys c' k'=>c'=c/\abS c=true/\∀r,Rel P f A (k r) (k' r)
 | .program k,.program k'=>Rel P f A (k P) (k' P)
 | .mark m k,.mark m' k'=>m'=LA f m/\LB m=true/\Rel P f A k k'
 | .halt (.panic _),_=>True
 | .halt h,_=>pN h=true
 |_,_=>False
section
variable {P:Program}{f:Rn}{α β γ δ:Type}{A:α->β->Prop}{B:γ->δ->Prop}
def aC{a:α}{b:β}(h:A a b):Rel P f A (.pure a) (.pure b):=h
def uo{h:Halt}{s:Sem β}(hn:pN h=true):Rel P f A (.halt h) s:=by
 cases h<;>first|exact Bool.noConfusion hn|(cases s<;>exact hn)
def aF{YF:String}{s:Sem β}:Rel P f A (stuck YF) s:=uo rfl
def aZ{u:Unsupported}{s:Sem β}(h:pN (.unsupported u)=true:=by rfl):Rel P f A (unsupported u) s:=uo h
def uq{v:Value}:Rel P f A (goPanic v) (goPanic (val f v)):=by simp[goPanic,Rel]
def ai:∀{s:Sem α} {s':Sem β} {k:α->Sem γ} {k':β->Sem δ},Rel P f A s s'->(∀a b,A a b->Rel P f B (k a) (k' b))->Rel P f B (s.bind k) (s'.bind k'):=by
 intro s
 induction s with
 |pure a=>intro s' k k' h hk;cases s'<;>simp only[Rel]at h;exact hk _ _ h
 |load m x sM ih=>intro s' k k' h hk;cases s'<;>simp only[Rel]at h;exact⟨h.1,h.2.1,λv=>ih v (h.2.2 v) hk⟩
 |store m x v sM ih=>intro s' k k' h hk;cases s'<;>simp only[Rel]at h;exact⟨h.1,h.2.1,h.2.2.1,ih h.2.2.2 hk⟩
 |new o sM ih=>intro s' k k' h hk;cases s'<;>simp only[Rel]at h;exact⟨h.1,h.2.1,λv=>ih v (h.2.2 v) hk⟩
 |shape r sM ih=>intro s' k k' h hk;cases s'<;>simp only[Rel]at h;exact⟨h.1,λv=>ih v (h.2 v) hk⟩
 |freeze a n sM ih=>intro s' k k' h hk;cases s'<;>simp only[Rel]at h;exact⟨h.1,h.2.1,ih h.2.2 hk⟩
 |frozen a sM ih=>intro s' k k' h hk;cases s'<;>simp only[Rel]at h;exact⟨h.1,λv=>ih v (h.2 v) hk⟩
 |getObj r sM ih=>intro s' k k' h hk;cases s'<;>simp only[Rel]at h;exact⟨h.1,λv=>ih v (h.2 v) hk⟩
 |setObj r o sM ih=>intro s' k k' h hk;cases s'<;>simp only[Rel]at h;exact⟨h.1,h.2.1,h.2.2.1,ih h.2.2.2 hk⟩
 |choose q sM ih=>intro s' k k' h hk;cases s'<;>simp only[Rel]at h;exact⟨h.1,λv=>ih v (h.2 v) hk⟩
 |sys c sM ih=>intro s' k k' h hk;cases s'<;>simp only[Rel]at h;exact⟨h.1,h.2.1,λv=>ih v (h.2.2 v) hk⟩
 |program sM ih=>intro s' k k' h hk;cases s'<;>simp only[Rel]at h;exact ih P h hk
 |mark m sM ih=>intro s' k k' h hk;cases s'<;>simp only[Rel]at h;exact⟨h.1,h.2.1,ih h.2.2 hk⟩
 |halt agm =>
  intro s' k k' h hk;cases agm with
  |panic v=>simp only[Sem.bind];cases s'.bind k'<;>simp only[Rel]
  |_=>exact uo (by cases s'<;>exact h)
def H6{A':α->β->Prop}:∀{s:Sem α} {s':Sem β},Rel P f A s s'->(∀a b,A a b->A' a b)->Rel P f A' s s':=by
 intro s s' h hA;have:=ai (B:=A') (k:=.pure) (k':=.pure) h (λa b h=>hA a b h);have e1:∀{α:Type} (s:Sem α),s.bind .pure=s:=by
  intro α s
  induction s with
  |frozen a k ih=>simp only[Sem.bind];congr 1;funext b;exact ih b
  |_=>simp_all[Sem.bind]
 rwa[e1,e1]at this
end
structure kr where
 K:Nat->Prop
 φ:Nat->Nat
 L:Nat->Prop
 G:Nat
structure EX(F:kr):Prop where
 high:∀r,F.K r->F.G<=r->F.G<=F.φ r
 vars:(∀r,r<F.G->F.K r/\F.φ r=r)\/((∀r,r<F.G->¬F.K r)/\F.G≠1)
structure kr.has(F:kr)(f:Rn):Prop where
 inj:∀x y,f.b x=f.b y->x=y
 at_:∀r,F.K r->f.b r=F.φ r
 fn:∀n,F.L n->f.h n=n
 kz:∀r,f.b r<F.G↔r<F.G
structure WR(F:kr)(wl wr:ae):Prop where
 here:∀r,F.K r->r<wl.heap.size
 there:∀r,F.K r->F.φ r<wr.heap.size
 inj:∀r s,F.K r->F.K s->F.φ r=F.φ s->r=s
 uu:∀r,F.K r->∀f,F.has f->wr.heap[F.φ r]?=(wl.heap[r]?).map (obj f)
 Rq:∀r,F.K r->∀o,wl.heap[r]?=so o->fN o=false
 os:wr.os=wl.os
 output:wr.output=wl.output
 tape:wr.tape=wl.tape
 drawn:wr.drawn=wl.drawn
 AZ:EX F
 qt:F.G<=wr.heap.size
 Eb:F.G<=wl.heap.size
section
variable {F:kr}{wl wr:ae}
def WR.two(W:WR F wl wr):∃f g:Rn,F.has f/\F.has g/\(∀r,¬F.K r->f.b r≠g.b r)/\(∀n,¬F.L n->f.h n≠g.h n)/\(∀t,f.ty t≠g.ty t)/\(∀s,f.m s≠g.m s):=by
 classical
 have hG:=W.qt;have low:∀x,F.K x->x<F.G->F.φ x=x:=λx hx cR=>W.AZ.vars.elim (λh=>(h x cR).2) (λh=>absurd hx (h.1 x cR));have up:=W.AZ.high;have nox:∀x,¬F.K x->x<F.G->(∀y,F.K y->F.G<=y)/\F.G≠1:=λx hx cR=>W.AZ.vars.elim (λh=>absurd (h x cR).1 hx) (λh=>⟨λy hy=>dt λhl=>h.1 y hl hy,h.2⟩);refine⟨⟨λx=>if F.K x then F.φ x else if x<F.G then x else wr.heap.size+x,λn=>n,λn=>n,λs=>s⟩,⟨λx=>if F.K x then F.φ x else if x<F.G then(if x+1=F.G then 0 else x+1)else wr.heap.size+1+x,λn=>if F.L n then n else n+1,λn=>n+1,λs=>s ++ "x"⟩,⟨?_,?_,?_,?_⟩,⟨?_,?_,?_,?_⟩,?_,?_,?_,?_⟩
 ·intro x y h;by_cases hx:F.K x<;>by_cases hy:F.K y<;>simp only[hx,hy,if_true,if_false]at h
  ·exact W.inj _ _ hx hy h
  ·have:=W.there _ hx;split at h
   ·have h1:=(nox y hy ‹_›).1 x hx;have:=up x hx h1;omega
   ·omega
  ·have:=W.there _ hy;split at h
   ·have h1:=(nox x hx ‹_›).1 y hy;have:=up y hy h1;omega
   ·omega
  ·split at h<;>split at h<;>omega
 ·intro r h;simp[h]
 ·intro n h;rfl
 ·intro r;by_cases hr:F.K r
  ·simp only[hr,if_true];constructor
   ·intro h;exact fg λhle=>by have:=up r hr hle;omega
   ·intro h;rw[low r hr h];exact h
  ·simp only[hr,if_false];split<;>omega
 ·intro x y h;by_cases hx:F.K x<;>by_cases hy:F.K y<;>simp only[hx,hy,if_true,if_false]at h
  ·exact W.inj _ _ hx hy h
  ·have:=W.there _ hx;split at h
   ·have h1:=(nox y hy ‹_›).1 x hx;have:=up x hx h1;split at h<;>omega
   ·omega
  ·have:=W.there _ hy;split at h
   ·have h1:=(nox x hx ‹_›).1 y hy;have:=up y hy h1;split at h<;>omega
   ·omega
  ·split at h<;>split at h<;>(try split at h)<;>(try split at h)<;>omega
 ·intro r h;simp[h]
 ·intro n h;simp[h]
 ·intro r;by_cases hr:F.K r
  ·simp only[hr,if_true];constructor
   ·intro h;exact fg λhle=>by have:=up r hr hle;omega
   ·intro h;rw[low r hr h];exact h
  ·simp only[hr,if_false];split
   ·split<;>omega
   ·omega
 ·intro r h;simp only[h,if_false];split
  ·have:=(nox r h ‹_›).2;split<;>omega
  ·omega
 ·intro n h;simp only[h,if_false];omega
 ·intro t;simp only[];omega
 ·intro s h;have:=congrArg String.length h;simp at this
def WR.abU(W:WR F wl wr){r r':Nat}(h:∀f,F.has f->r'=f.b r):F.K r/\r'=F.φ r:=by
 obtain⟨f,g,hf,hg,hb,_,_⟩:=W.two;have hK:F.K r:=aX λhn=>hb r hn ((h f hf).symm.trans (h g hg));exact⟨hK,(h f hf).trans (hf.at_ r hK)⟩
def WR.some(W:WR F wl wr):∃f,F.has f:=let ⟨f,_,hf,_⟩:=W.two;⟨f,hf⟩
def WR.put(W:WR F wl wr){b:Nat}{o o':Obj}{bN qC:ae}(hb:F.K b)(ho:∀f,F.has f->o'=obj f o)(hp:fN o=false)(zl:bN.heap.size=wl.heap.size)(l1:bN.heap[b]?=.some o)(l2:∀r,r≠b->bN.heap[r]?=wl.heap[r]?)(zr:qC.heap.size=wr.heap.size)(r1:qC.heap[F.φ b]?=.some o')(r2:∀r,r≠F.φ b->qC.heap[r]?=wr.heap[r]?)(os:qC.os=bN.os)(ou:qC.output=bN.output)(ta:qC.tape=bN.tape)(dr:qC.drawn=bN.drawn):WR F bN qC where
 here r h:=by rw[zl];exact W.here r h
 there r h:=by rw[zr];exact W.there r h
 inj:=W.inj
 uu r h f hf:=by
  by_cases e:r=b
  ·subst e;rw[r1,l1,ho f hf];rfl
  ·rw[l2 r e,r2 _ (λh'=>e (W.inj _ _ h hb h'))];exact W.uu r h f hf
 Rq r h x hx:=by
  by_cases e:r=b
  ·subst e;rw[l1]at hx;cases hx;exact hp
  ·rw[l2 r e]at hx;exact W.Rq r h x hx
 os:=os
 output:=ou
 tape:=ta
 drawn:=dr
 AZ:=W.AZ
 qt:=by rw[zr];exact W.qt
 Eb:=by rw[zl];exact W.Eb
end
def kr.add(F:kr)(n n':Nat):kr:={F with K:=λr=>F.K r\/r=n,φ:=λr=>if r=n then n' else F.φ r}
def kr.Gb{F:kr}{n n':Nat}(hn:¬F.K n){f:Rn}(h:(F.add n n').has f):F.has f :=
 ⟨h.inj,λr hr=>by
  have:=h.at_ r (.inl hr);simp only[kr.add]at this;rwa[if_neg (by rintro rfl;exact hn hr)]at this,h.fn,h.kz⟩
def kr.Vg{F:kr}{n n':Nat}{f:Rn}(h:(F.add n n').has f):f.b n=n':=by
 have:=h.at_ n (.inr rfl);simpa[kr.add] using this
def WR.alloc{F:kr}{wl wr:ae}(W:WR F wl wr){o o':Obj}(ho:∀f,F.has f->o'=obj f o)(hp:fN o=false):
  WR (F.add wl.heap.size wr.heap.size) {wl with heap:=wl.heap.push o} {wr with heap:=wr.heap.push o'} where
 here r h:=by
  rcases h with h|rfl
  ·have:=W.here r h;simp;omega
  ·simp
 there r h:=by
  simp only[kr.add];rcases h with h|rfl
  ·have:=W.here r h;have:=W.there r h;simp;split<;>omega
  ·simp
 inj r s h k e:=by
  simp only[kr.add]at e;rcases h with h|rfl<;>rcases k with k|rfl
  ·have h1:=W.here r h;have h2:=W.here s k;rw[if_neg aa,if_neg aa]at e;exact W.inj _ _ h k e
  ·have h1:=W.here r h;have h2:=W.there r h;rw[if_neg aa,if_pos rfl]at e;omega
  ·have h1:=W.here s k;have h2:=W.there s k;rw[if_pos rfl,if_neg aa]at e;omega
  ·rfl
 uu r h f hf:=by
  have hK:¬F.K wl.heap.size:=λh=>by have:=W.here _ h;omega
  have EY:=kr.Gb hK hf;rcases h with h|rfl
  ·have h1:=W.here r h;have h2:=W.there r h;have e:=W.uu r h f EY;simp only[kr.add];rw[if_neg aa,dE h2,dE h1];rw[aO h2,aO h1]at e;exact e
  ·simp only[kr.add,if_true];rw[ir,ir,ho f EY];rfl
 Rq r h x hx:=by
  rcases h with h|rfl
  ·have h1:=W.here r h;rw[dE h1]at hx;exact W.Rq r h x (by rw[aO h1];exact hx)
  ·rw[ir]at hx;cases hx;exact hp
 os:=W.os
 output:=W.output
 tape:=W.tape
 drawn:=W.drawn
 AZ:=by
  have h1:=W.Eb;refine⟨λr hr cR=>?_,?_⟩
  ·simp only[kr.add]at cR |-;split
   ·exact W.qt
   ·rcases hr with hr|hr
    ·exact W.AZ.high r hr cR
    ·exact absurd hr ‹_›
  ·rcases W.AZ.vars with h|h
   ·left;intro r hr;have:=h r hr;refine⟨.inl this.1,?_⟩;simp only[kr.add]at hr |-;rw[if_neg aa];exact this.2
   ·right;refine⟨λr hr hk=>?_,h.2⟩;rcases hk with hk|hk
    ·exact h.1 r hr hk
    ·simp only[kr.add]at hr;omega
 qt:=by have:=W.qt;simp[kr.add];omega
 Eb:=by have:=W.Eb;simp[kr.add];omega
structure fT(F F':kr)(wl wr bN qC:ae):Prop where
 K:∀r,F.K r->F'.K r
 φ:∀r,F.K r->F'.φ r=F.φ r
 L:F'.L=F.L
 xh:∀r,F'.K r->F.K r\/(wl.heap.size<=r/\wr.heap.size<=F'.φ r)
 BL:wl.heap.size<=bN.heap.size
 size:wr.heap.size<=qC.heap.size
 mine:∀b,wr.heap.size<=b->b<qC.heap.size->∃r,F'.K r/\F'.φ r=b
 rest:∀b,(∀r,F'.K r->F'.φ r≠b)->qC.heap[b]?=wr.heap[b]?
 G:F'.G=F.G
 AZ:EX F->EX F'
 RR:bN.os=wl.os
 BM:bN.output=wl.output
 same:wl.heap.size=wr.heap.size->bN.heap.size=qC.heap.size/\∀r,F'.K r->F.K r\/F'.φ r=r
def fT.refl(F:kr)(wl wr:ae):fT F F wl wr wl wr :=
 ⟨λ_ h=>h,λ_ _=>rfl,rfl,λ_ h=>.inl h,af _,af _,λ_ h k=>aa,λ_ _=>rfl,rfl,id,rfl,rfl,λh=>⟨h,λ_ k=>.inl k⟩⟩
def fT.trans{F F₁ abV:kr}{wl wr wl₁ wr₁ Xs Xt:ae}(h:fT F F₁ wl wr wl₁ wr₁)(k:fT F₁ abV wl₁ wr₁ Xs Xt):fT F abV wl wr Xs Xt where
 K r x:=k.K r (h.K r x)
 φ r x:=(k.φ r (h.K r x)).trans (h.φ r x)
 L:=k.L.trans h.L
 xh r x:=by
  rcases k.xh r x with y|⟨y,z⟩
  ·rcases h.xh r y with a|⟨a,b⟩
   ·exact .inl a
   ·exact .inr ⟨a,by rw[k.φ r y];exact b⟩
  ·have:=h.BL;have:=h.size;exact .inr ⟨aa,aa⟩
 BL:=aS h.BL k.BL
 size:=aS h.size k.size
 mine b x y:=by
  by_cases hb:b<wr₁.heap.size
  ·obtain⟨r,a,c⟩:=h.mine b x hb;exact⟨r,k.K r a,by rw[k.φ r a];exact c⟩
  ·exact k.mine b aa y
 rest b x:=by
  rw[k.rest b x];exact h.rest b λr hr=>by
   have:=x r (k.K r hr);rwa[k.φ r hr]at this
 G:=k.G.trans h.G
 AZ x:=k.AZ (h.AZ x)
 RR:=k.RR.trans h.RR
 BM:=k.BM.trans h.BM
 same e:=⟨(k.same (h.same e).1).1,λr hr=>by
  rcases(k.same (h.same e).1).2 r hr with x|x
  ·rcases(h.same e).2 r x with y|y
   ·exact .inl y
   ·exact .inr ((k.φ r x).trans y)
  ·exact .inr x⟩
def xT(F:kr)(e:Event):Prop :=
 match e.loc with
 | .cell a=>∃r,F.K r/\F.φ r=a.block
 | .obj b=>∃r,F.K r/\F.φ r=b
 | .mark m=>LB m=true
 |_=>True
def Rs(F:kr)(es mQ:Array Event):Prop:=∃new:Array Event,mQ=es++new/\∀e∈new,xT F e
def Rs.refl(F:kr)(es:Array Event):Rs F es es:=⟨#[],aj,aj⟩
def Rs.push{F:kr}{es mQ:Array Event}{e:Event}(h:Rs F (es.push e) mQ)(he:xT F e):Rs F es mQ:=by
 obtain⟨n,rfl,hn⟩:=h;refine⟨#[e]++n,by rw[<- dN,Array.append_singleton],?_⟩;intro x hx;rcases kT.1 hx with hx|hx
 ·simp at hx;subst hx;exact he
 ·exact hn x hx
def Rs.app{F:kr}{es mQ m:Array Event}(h:Rs F (es++m) mQ)(he:∀e∈m,xT F e):Rs F es mQ:=by
 obtain⟨n,rfl,hn⟩:=h;refine⟨m++n,by simp[Array.append_assoc],?_⟩;intro x hx;rcases kT.1 hx with hx|hx
 ·exact he x hx
 ·exact hn x hx
section
variable (f:Rn)
def EZ(v:Value):(val f v).bytes?=v.bytes?:=by cases v<;>simp[Value.bytes?]
def H7(v:Value)(bs:List UInt8):(val f v).ofBytes bs=v.ofBytes bs:=by cases v<;>simp[Value.ofBytes]
def wz{Gc v:Value}{bs:List UInt8}(h:Gc.ofBytes bs=so v):val f v=v:=by
 cases Gc<;>simp only[Value.ofBytes]at h
 case bool=>split at h<;>first|(cases h;simp;done)|cases h
 case int=>split at h<;>first|(cases h;simp;done)|cases h
 case float=>split at h<;>first|(cases h;simp;done)|cases h
 case complex=>split at h<;>first|(cases h;simp;done)|cases h
 all_goals cases h
def Ec(p:Program)(c:Array Value)(e:TypeId):∀fuel x stop,seenCells p (c.map (val f)) e fuel x stop=seenCells p c e fuel x stop:=by
 intro fuel
 induction fuel with
 |zero=>intro x stop;rfl
 |succ n ih =>
  intro x stop;simp only[seenCells,aM];split
  ·rfl
  ·split
   ·rfl
   ·split
    ·rfl
    ·rename_i i s _;cases hc:c[i]? with
     |none=>simp
     |some v =>
      simp only[aK,EZ];cases hb:v.bytes? with
      |none=>rfl
      |some bs=>cases bs<;>simp[ih]
end
section
variable {f:Rn}{wl wr:ae}{p:Program}
def H8{at_ at' k k':Addr}{u:TypeId}{atomic:Bool}(hh:wr.heap[at'.block]?=(wl.heap[at_.block]?).map (obj f))(ho:at'.off=at_.off)(hs:at'.spot=at_.spot)(ko:k'.off=k.off)(ks:k'.spot=k.spot):
  wr.seen p at' u k' atomic=(wl.seen p at_ u k atomic).map (λx=>(x.1.map (val f),x.2)):=by
 unfold World.seen;rw[hh,ho,hs,ko,ks];by_cases h1:(k.spot.isSome||at_.spot.isSome)=true
 ·simp only[h1,if_true];rfl
 ·simp only[h1,if_false];cases hl:plainCell p p.depth u k.off with
  |none=>rfl
  |some lk =>
   cases hb:Option.map (λx=>x.length) lk.bytes? with
   |none=>simp[hb];rfl
   |some sz =>
    cases YG:byteOfCell p p.depth u k.off with
    |none=>simp[hb,YG];rfl
    |some β =>
     cases ho:wl.heap[at_.block]? with
     |none=>simp[hb,YG];rfl
     |some o =>
      cases o<;>simp[hb,YG,obj]<;>try rfl
      simp only[Ec];rename_i c e z;by_cases h0:p.cellsOf e=0
      ·simp only[h0,if_true];rfl
      ·simp only[h0,if_false];cases hbc:byteOfCell p p.depth e (at_.off%p.cellsOf e) with
       |none=>rfl
       |some b0 =>
        simp only[];cases hsc:seenCells p c e (sz+1) (at_.off/p.cellsOf e*p.bytesOf e+b0+β) (at_.off/p.cellsOf e*p.bytesOf e+b0+β+sz) with
        |error=>rfl
        |ok cells =>
         cases atomic with
         |false=>rfl
         |true =>
          rcases cells with _|⟨⟨a,s,bs⟩,_|_⟩
          ·rfl
          ·simp only[bind,Except.bind];simp only[if_true];split<;>rfl
          ·rfl
def seen_cells{at_ k:Addr}{u:TypeId}{atomic:Bool}{c:Array Value}{e:TypeId}{z:Nat×Nat}{x:Nat×Value×List (Nat×Nat×List UInt8)}(h:wl.seen p at_ u k atomic=.ok (c,e,z,x)):wl.heap[at_.block]?=so (.cells c e z):=by
 unfold World.seen at h;by_cases h1:(k.spot.isSome||at_.spot.isSome)=true
 ·simp only[h1,if_true]at h;cases h
 ·simp only[h1,if_false]at h;cases hl:plainCell p p.depth u k.off with
  |none=>simp[hl]at h
  |some lk =>
   cases hb:Option.map (λx=>x.length) lk.bytes? with
   |none=>simp[hl,hb]at h
   |some sz =>
    cases YG:byteOfCell p p.depth u k.off with
    |none=>simp[hl,hb,YG]at h
    |some β =>
     cases ho:wl.heap[at_.block]? with
     |none=>simp[hl,hb,YG,ho]at h
     |some o =>
      cases o<;>simp[hl,hb,YG,ho]at h<;>try (cases h;done)
      rename_i c e z;by_cases h0:p.cellsOf e=0
      ·simp only[h0,if_true]at h;cases h
      ·simp only[h0,if_false]at h;cases hbc:byteOfCell p p.depth e (at_.off%p.cellsOf e) with
       |none=>simp only[hbc]at h;cases h
       |some b0 =>
        simp only[hbc]at h;cases hsc:seenCells p c e (sz+1) (at_.off/p.cellsOf e*p.bytesOf e+b0+β) (at_.off/p.cellsOf e*p.bytesOf e+b0+β+sz) with
        |error=>simp only[hsc]at h;cases h
        |ok cells =>
         simp only[hsc]at h;cases atomic with
         |false=>cases h;rfl
         |true =>
          rcases cells with _|⟨⟨a,s,bs⟩,_|_⟩
          ·cases h
          ·simp only[bind,Except.bind]at h;simp only[if_true]at h;split at h<;>first|(cases h;rfl;done)|cases h
          ·cases h
def Gd{at_ at' k k':Addr}{u:TypeId}{atomic:Bool}{v:Value}{ts:List Addr}(hh:wr.heap[at'.block]?=(wl.heap[at_.block]?).map (obj f))(ho:at'.off=at_.off)(hs:at'.spot=at_.spot)(ko:k'.off=k.off)(ks:k'.spot=k.spot)(h:wl.viewLoad p at_ u k atomic=.ok (v,ts)):
  (∀g:Rn,val g v=v)/\∃Rt,wr.viewLoad p at' u k' atomic=.ok (v,Rt)/\∀a∈Rt,a.block=at'.block:=by
 unfold World.viewLoad at *;rw[H8 (f:=f) hh ho hs ko ks];cases hc:wl.seen p at_ u k atomic with
 |error=>rw[hc]at h;cases h
 |ok x =>
  obtain⟨c,e,z,first,Gc,cells⟩:=x;rw[hc]at h;simp only[Except.map,bind,Except.bind]at h |-;split at h
  ·rename_i v' hv;cases h;refine⟨λg=>wz g hv,cells.map λx=>{block:=at'.block,off:=x.1},?_,?_⟩
   ·rfl
   ·intro a ha;obtain⟨x,_,rfl⟩:=aV.1 ha;rfl
  ·cases h
def Ed{g:Array Value->Nat×Nat×List UInt8->Except String (Array Value)}(hg:∀c x c1,g c x=.ok c1->g (c.map (val f)) x=.ok (c1.map (val f))):
  ∀(cells:List (Nat×Nat×List UInt8)) (c c2:Array Value),cells.foldlM (init:=c) g=.ok c2->cells.foldlM (init:=c.map (val f)) g=.ok (c2.map (val f)):=by
 intro cells
 induction cells with
 |nil=>intro c c2 h;cases h;rfl
 |cons x xs ih =>
  intro c c2 h;simp only[List.foldlM_cons]at h |-;cases hx:g c x with
  |error=>rw[hx]at h;cases h
  |ok c1 =>
   rw[hx]at h;rw[hg _ _ _ hx];exact ih c1 c2 h
def NL{α β:Type}{x:Except String α}{k:α->Except String β}{y:β}(h:(x>>=k)=.ok y):∃v,x=.ok v/\k v=.ok y:=by
 cases x with
 |error=>cases h
 |ok v=>exact⟨v,rfl,h⟩
def sk{at_ at' k k':Addr}{u:TypeId}{atomic:Bool}{v:Value}{bN:ae}{ts:List Addr}(hh:wr.heap[at'.block]?=(wl.heap[at_.block]?).map (obj f))(ho:at'.off=at_.off)(hs:at'.spot=at_.spot)(ko:k'.off=k.off)(ks:k'.spot=k.spot)(h:wl.viewStore p at_ u k v atomic=.ok (bN,ts)):
  ∃c e z Rt,at_.block<wl.heap.size/\bN={wl with heap:=wl.heap.setIfInBounds at_.block (.cells c e z)} /\
   wr.viewStore p at' u k' (val f v) atomic=.ok ({wr with heap:=wr.heap.setIfInBounds at'.block (.cells (c.map (val f)) e z)},Rt)/\∀a∈Rt,a.block=at'.block:=by
 unfold World.viewStore at *;rw[H8 (f:=f) hh ho hs ko ks,EZ];by_cases ht:(!tight p p.depth u)=true
 ·simp only[ht,if_true]at h;cases h
 ·simp only[ht,if_false]at h |-;obtain⟨x,hc,h⟩:=NL h;obtain⟨c,e,z,first,Gc,cells⟩:=x;have hsc:=seen_cells hc;rw[hc];simp only[]at h;cases hb:v.bytes? with
  |none=>rw[hb]at h;cases h
  |some bytes =>
   rw[hb]at h;simp only[]at h |-;by_cases hl:(so bytes.length≠Gc.bytes?.map (·.length))
   ·rw[if_pos hl]at h;cases h
   ·rw[if_neg hl]at h;obtain⟨c2,Rv,h⟩:=NL h;cases h;have:=Ed (f:=f) (λc (x:Nat×Nat×List UInt8) c1 hx=>by
       simp only[aM]at hx |-;by_cases h1:(decide (x.2.1<first)||decide (x.2.1+x.2.2.length>first+bytes.length))=true
       ·simp only[h1,if_true]at hx;cases hx
       ·by_cases h2:(decide (z.1<=x.1)&&decide (x.1<z.2))=true
        ·simp only[h1,h2,if_true,if_false]at hx;cases hx
        ·simp only[h1,h2,if_false]at hx |-;cases ho:c[x.1]? with
         |none=>simp only[ho]at hx;cases hx
         |some old =>
          simp only[ho,aK,H7]at hx |-;cases hn:old.ofBytes ((bytes.drop (x.2.1-first)).take x.2.2.length) with
          |none=>simp only[hn]at hx;cases hx
          |some new =>
           simp only[hn]at hx |-;cases hx;have:=wz f hn;show Except.ok _=Except.ok _;rw[kN,this]) cells c c2 Rv
    refine⟨c2,e,z,cells.map λx=>{block:=at'.block,off:=x.1},(aI.1 hsc).1,rfl,?_,?_⟩
    ·simp only[Except.map,bind,Except.bind];rw[if_neg hl];simp only[bind,Except.bind]at this;rw[this];rfl
    ·intro a ha;obtain⟨x,_,rfl⟩:=aV.1 ha;rfl
end
def RS{α:Type}:∀(q:Ask α) (wl wr:ae),wr.tape=wl.tape->wr.drawn=wl.drawn ->
  (wr.ask q).1=(wl.ask q).1/\(wl.ask q).2={wl with drawn:=(wl.ask q).2.drawn}/\(wr.ask q).2={wr with drawn:=(wl.ask q).2.drawn}:=by
 intro q
 induction q with
 |done a=>intro wl wr _ hd;exact⟨rfl,rfl,by simp[World.ask,<- hd]⟩
 |ask what range k ih =>
  intro wl wr ht hd;obtain⟨hp,tp,dw,o,ou⟩:=wr;simp only at ht hd;subst ht hd;simp only[World.ask];split
  ·exact ih 0 wl ⟨hp,wl.tape,wl.drawn,o,ou⟩ rfl rfl
  ·obtain⟨h1,h2,h3⟩:=ih ((Question.extern what range).cut (wl.tape wl.drawn (Question.extern what range))) {wl with drawn:=wl.drawn+1} ⟨hp,wl.tape,wl.drawn+1,o,ou⟩ rfl rfl;exact⟨h1,by rw[h2],by rw[h3]⟩
def H9(c:Sys){wl wr:ae}(ht:wr.tape=wl.tape)(hd:wr.drawn=wl.drawn)(ho:wr.os=wl.os):
  (wr.sys c).1=(wl.sys c).1/\∃d o,(wl.sys c).2={wl with drawn:=d,os:=o}/\(wr.sys c).2={wr with drawn:=d,os:=o}:=by
 unfold World.sys;rw[ho];obtain⟨h1,h2,h3⟩:=RS (Kernel.perform c wl.os) wl wr ht hd;generalize hl:wl.ask (Kernel.perform c wl.os)=x at *;generalize hr:wr.ask (Kernel.perform c wl.os)=y at *;obtain⟨⟨a,b⟩,xw⟩:=x;obtain⟨⟨a',b'⟩,yw⟩:=y;simp only[bO]at h1 h2 h3;obtain⟨rfl,rfl⟩:=h1;cases a'
 case wouldBlock=>exact⟨rfl,wl.drawn,wl.os,rfl,by simp[<- hd,<- ho]⟩
 all_goals exact⟨rfl,xw.drawn,b',by simp only[];rw[h2],by simp only[];rw[h3]⟩
section
variable {F:kr}{wl wr:ae}
def WR.env(W:WR F wl wr){bN qC:ae}(hl:bN.heap=wl.heap)(hr:qC.heap=wr.heap)(os:qC.os=bN.os)(ou:qC.output=bN.output)(ta:qC.tape=bN.tape)(dr:qC.drawn=bN.drawn):WR F bN qC where
 here r h:=by rw[hl];exact W.here r h
 there r h:=by rw[hr];exact W.there r h
 inj:=W.inj
 uu r h f hf:=by rw[hl,hr];exact W.uu r h f hf
 Rq r h o ho:=W.Rq r h o (by rw[<- hl];exact ho)
 os:=os
 output:=ou
 tape:=ta
 drawn:=dr
 AZ:=W.AZ
 qt:=by rw[hr];exact W.qt
 Eb:=by rw[hl];exact W.Eb
def fT.env{bN qC:ae}(hl:bN.heap=wl.heap)(hr:qC.heap=wr.heap)(ho:bN.os=wl.os)(hu:bN.output=wl.output):fT F F wl wr bN qC :=
 ⟨λ_ h=>h,λ_ _=>rfl,rfl,λ_ h=>.inl h,by rw[hl];exact af _,by rw[hr];exact af _,λ_ h k=>by rw[hr]at k;omega,λ_ _=>by rw[hr],rfl,id,ho,hu,λe=>⟨by rw[hl,hr];exact e,λ_ k=>.inl k⟩⟩
def fT.put{b:Nat}{bN qC:ae}(hb:F.K b)(zl:bN.heap.size=wl.heap.size)(zr:qC.heap.size=wr.heap.size)(r2:∀r,r≠F.φ b->qC.heap[r]?=wr.heap[r]?)(ho:bN.os=wl.os)(hu:bN.output=wl.output):fT F F wl wr bN qC :=
 ⟨λ_ h=>h,λ_ _=>rfl,rfl,λ_ h=>.inl h,by rw[zl];exact af _,by rw[zr];exact af _,λ_ h k=>by rw[zr]at k;omega,λc hc=>r2 c (λe=>hc b hb e.symm),rfl,id,ho,hu,λe=>⟨by rw[zl,zr];exact e,λ_ k=>.inl k⟩⟩
def fT.alloc(W:WR F wl wr){o o':Obj}:fT F (F.add wl.heap.size wr.heap.size) wl wr {wl with heap:=wl.heap.push o} {wr with heap:=wr.heap.push o'} where
 K r h:=.inl h
 φ r h:=by have:=W.here r h;simp only[kr.add];rw[if_neg aa]
 L:=rfl
 xh r h:=by
  rcases h with h|rfl
  ·exact .inl h
  ·exact .inr ⟨af _,by simp[kr.add]⟩
 BL:=aj
 size:=aj
 mine b h k:=⟨wl.heap.size,.inr rfl,by simp[kr.add]at k |-;omega⟩
 rest b h:=by
  have:b≠wr.heap.size:=λe=>h wl.heap.size (.inr rfl) (by simp[kr.add,e]);simp only[Array.getElem?_push];rw[if_neg this]
 G:=rfl
 RR:=rfl
 BM:=rfl
 same e:=⟨by simpa using e,λr hr=>by
  rcases hr with h|rfl
  ·exact .inl h
  ·exact .inr (by simp[kr.add,e])⟩
 AZ _:=(W.alloc (o:=.cells #[] 0) (o':=.cells #[] 0) (λf _=>by simp[obj]) rfl).AZ
def WR.block(W:WR F wl wr){r r':Nat}(h:∀f,F.has f->r'=f.b r):F.K r/\r'=F.φ r/\∀f,F.has f->wr.heap[r']?=(wl.heap[r]?).map (obj f):=by
 obtain⟨hK,rfl⟩:=W.abU h;exact⟨hK,rfl,λf hf=>W.uu r hK f hf⟩
end
def jS(P:Program)(F:kr){α β:Type}(A:Rn->α->β->Prop)(wl wr:ae)(mQ:Array Event)(s':Sem β)(x:Result α):Prop :=
 match x with
 | .ok a bN=>∃F' b qC YH,s'.runT P wr mQ=(.ok b qC,YH)/\(∀f,F'.has f->A f a b)/\WR F' bN qC/\fT F F' wl wr bN qC/\Rs F' mQ YH/\∀f,F'.has f->F.has f
 | .halt _ _=>True
def jS.step{P:Program}{F F₁:kr}{α β:Type}{A:Rn->α->β->Prop}{wl wr wl₁ wr₁:ae}{mQ es₁:Array Event}{s' s₁:Sem β}{x:Result α}(hr:s'.runT P wr mQ=s₁.runT P wr₁ es₁)(hm:fT F F₁ wl wr wl₁ wr₁)(he:∀el,∀F':kr,(∀r,F₁.K r->F'.K r)->(∀r,F₁.K r->F'.φ r=F₁.φ r)->Rs F' es₁ el->Rs F' mQ el)(hF:∀f,F₁.has f->F.has f)(h:jS P F₁ A wl₁ wr₁ es₁ s₁ x):jS P F A wl wr mQ s' x:=by
 cases x with
 |ok a bN =>
  obtain⟨F',b,qC,YH,h1,h2,h3,h4,h5,h6⟩:=h;exact⟨F',b,qC,YH,hr.trans h1,h2,h3,hm.trans h4,he YH F' h4.K h4.φ h5,λf hf=>hF f (h6 f hf)⟩
 |halt hh bN=>trivial
def E0{w:ae}{x:Addr}{v:Value}(h:w.cell? x=so v):∃c e z,w.heap[x.block]?=so (.cells c e z)/\x.spot=we/\c[x.off]?=so v:=by
 unfold World.cell? at h;split at h
 ·rename_i c e z hc;by_cases hs:x.spot.isSome=true
  ·rw[if_pos hs]at h;cases h
  ·rw[if_neg hs]at h;exact⟨c,e,z,hc,by simpa using hs,h⟩
 ·cases h
def Ia{f:Rn}{wl wr:ae}{x x':Addr}{v:Value}(hh:wr.heap[x'.block]?=(wl.heap[x.block]?).map (obj f))(ho:x'.off=x.off)(hs:x'.spot=x.spot)(h:wl.cell? x=so v):wr.cell? x'=so (val f v):=by
 obtain⟨c,e,z,h1,h2,h3⟩:=E0 h;unfold World.cell?;rw[hh,h1,hs,h2,ho];simp[obj,h3]
def E1{f:Rn}{wl wr:ae}{x x':Addr}(hh:wr.heap[x'.block]?=(wl.heap[x.block]?).map (obj f))(ho:x'.off=x.off)(hs:x'.spot=x.spot)(h:wl.cell? x=we):wr.cell? x'=none:=by
 unfold World.cell? at *;rw[hh,hs,ho];cases hc:wl.heap[x.block]? with
 |none=>rfl
 |some o =>
  rw[hc]at h;cases o<;>simp only[obj,aK]at h |-;split<;>rename_i xU
  ·rfl
  ·rw[if_neg xU]at h;simp[h]
def BN{f:Rn}{wl wr:ae}{x x':Addr}(hh:wr.heap[x'.block]?=(wl.heap[x.block]?).map (obj f))(ho:x'.off=x.off):wr.frozen? x'=wl.frozen? x:=by
 unfold World.frozen?;rw[hh,ho];cases hc:wl.heap[x.block]? with
 |none=>rfl
 |some o=>cases o<;>rfl
def O7{f:Rn}{wl wr:ae}{r r':Nat}(hh:wr.heap[r']?=(wl.heap[r]?).map (obj f)):wr.shape? r'=wl.shape? r:=by
 unfold World.shape?;rw[hh];cases hc:wl.heap[r]? with
 |none=>rfl
 |some o=>cases o<;>simp[obj]
def E2{w:ae}{a:Addr}{what:String}{v:Value}:w.noCell a what≠.panic v:=by
 unfold World.noCell;split<;>simp
def Ic{p:Program}{w:ae}{a:Addr}{at_:Bool}{h:Halt}(hh:w.farLoad p a at_=.error h)(v:Value):h≠.panic v:=by
 unfold World.farLoad at hh;split at hh
 ·split at hh
  ·cases hh
  ·cases hh;simp
 ·cases hh;exact E2
def LC{p:Program}{w:ae}{a:Addr}{at_:Bool}{x:Value×List Addr}(hh:w.farLoad p a at_=.ok x):∃b u,w.heap[a.block]?=so (.view b u)/\w.viewLoad p b u a at_=.ok x:=by
 unfold World.farLoad at hh;split at hh
 ·rename_i b u hb;split at hh
  ·rename_i r hr;cases hh;exact⟨b,u,hb,hr⟩
  ·cases hh
 ·cases hh
def Ge{p:Program}{w:ae}{a:Addr}{y:Value}{at_:Bool}{h:Halt}(hh:w.farStore p a y at_=.error h)(v:Value):h≠.panic v:=by
 unfold World.farStore at hh;split at hh
 ·split at hh
  ·cases hh
  ·cases hh;simp
 ·cases hh;exact E2
def uv{p:Program}{w:ae}{a:Addr}{y:Value}{at_:Bool}{x:ae×List Addr}(hh:w.farStore p a y at_=.ok x):∃b u,w.heap[a.block]?=so (.view b u)/\w.viewStore p b u a y at_=.ok x:=by
 unfold World.farStore at hh;split at hh
 ·rename_i b u hb;split at hh
  ·rename_i r hr;cases hh;exact⟨b,u,hb,hr⟩
  ·cases hh
 ·cases hh
def lV{P:Program}{F:kr}{α β:Type}{A:Rn->α->β->Prop}{wl wr w:ae}{mQ:Array Event}{s':Sem β}{h:Halt}(_hn:∀v,h≠.panic v):jS P F A wl wr mQ s' (.halt h w):=by
 trivial
def getElem?_modify{α:Type}(xs:Array α)(i j:Nat)(g:α->α):(xs.modify i g)[j]?=if i=j then xs[j]?.map g else xs[j]?:=by
 rw[aR]
def iQ{α:Type}{P:Program}{m:Mode}{a:Addr}{v:Value}{k:Sem α}{w:ae}{es:Array Event}(h1:∀c,v≠.agg c)(h2:∀c,v≠.tuple c):
  (Sem.store m a v k).runT P w es=match w.cell? a with
   |some _=>if w.frozen? a then(.halt (.unsupported (.unsafePointer "a write to bytes that a string shares")) w,es)else k.runT P (w.setCell a v) (es.push ⟨.cell a,true,m == .atomic⟩)
   |none=>match w.farStore P a v (m == .atomic) with
    | .ok (w,Vh)=>k.runT P w (es++Vh.toArray.map (⟨.cell ·,true,m == .atomic⟩))
    | .error h=>(.halt h w,es):=by
 cases v<;>first|exact absurd rfl (h1 _)|exact absurd rfl (h2 _)|rfl
def BO{α:Type}{P:Program}{m:Mode}{a:Addr}{c:Array Value}{k:Sem α}{w:ae}{es:Array Event}:
  ∃YF,((Sem.store m a (.agg c) k).runT P w es).1=.halt (.stuck YF) w:=⟨_,rfl⟩
def zv{α:Type}{P:Program}{m:Mode}{a:Addr}{c:Array Value}{k:Sem α}{w:ae}{es:Array Event}:
  ∃YF,((Sem.store m a (.tuple c) k).runT P w es).1=.halt (.stuck YF) w:=⟨_,rfl⟩
def xV(w:ae)(a:Addr)(v:Value){c:Array Value}{e:TypeId}{z:Nat×Nat}(h:w.heap[a.block]?=so (.cells c e z))(hs:a.spot=we):
  (w.setCell a v).heap.size=w.heap.size/\(w.setCell a v).heap[a.block]?=so (.cells (c.setIfInBounds a.off v) e z)/\∀r,r≠a.block->(w.setCell a v).heap[r]?=w.heap[r]?:=by
 unfold World.setCell;refine⟨aj,?_,λr hr=>?_⟩
 ·simp only[getElem?_modify,if_true,h,aK,hs];simp
 ·simp only[getElem?_modify];rw[if_neg (bw hr)]
def qD(h:Array Obj)(b:Nat)(o:Obj)(hb:b<h.size):(h.setIfInBounds b o).size=h.size/\(h.setIfInBounds b o)[b]?=so o/\∀r,r≠b->(h.setIfInBounds b o)[r]?=h[r]?:=by
 refine⟨aj,by simp[hb],λr hr=>?_⟩;rw[aQ (bw hr)]
def rQ(off n:Nat):Obj->Obj
 | .cells c e (lo,hi)=>.cells c e (if lo==hi then(off,off+n) else(min lo off,max hi (off+n)))
 |o=>o
def pk(w:ae)(a:Addr)(n:Nat)(hn:n≠0):(w.freeze a n)={w with heap:=w.heap.modify a.block (rQ a.off n)}:=by
 unfold World.freeze;rw[if_neg hn]
 congr 1
def O8(f:Rn)(off n:Nat)(o:Obj):obj f (rQ off n o)=rQ off n (obj f o):=by
 cases o<;>simp[obj,rQ]
def BP(off n:Nat)(o:Obj):fN (rQ off n o)=fN o:=by
 cases o<;>simp[fN,rQ]
def xW{P:Program}{α β:Type}(A:Rn->α->β->Prop):∀(s:Sem α) (s':Sem β) (F:kr) (wl wr:ae) (es mQ:Array Event),
  (∀f,F.has f->Rel P f (A f) s s')->WR F wl wr->jS P F A wl wr mQ s' (s.runT P wl es).1:=by
 intro s
 induction s with
 |pure a =>
  intro s' F wl wr es mQ h W;obtain⟨f0,lE⟩:=W.some;have h0:=h f0 lE;cases s'<;>simp only[Rel]at h0;exact⟨F,_,wr,mQ,rfl,λf hf=>h f hf,W,fT.refl _ _ _,Rs.refl _ _,λ_ h=>h⟩
 |load m x k ih =>
  intro s' F wl wr es mQ h W;obtain⟨f0,lE⟩:=W.some;have h0:=h f0 lE;cases s'<;>simp only[Rel]at h0;rename_i m' x' k';obtain⟨rfl,RU,Lc⟩:=h0;have hh:∀f,F.has f->x'=addr f x/\∀v,Rel P f (A f) (k v) (k' (val f v)):=λf hf=>⟨(h f hf).2.1,(h f hf).2.2⟩;obtain⟨hK,hb,gB⟩:=W.block (r:=x.block) (r':=x'.block) (λf hf=>by rw[(hh f hf).1];rfl);have ho:x'.off=x.off:=by rw[RU];rfl
  have hs:x'.spot=x.spot:=by rw[RU];rfl
  have jg:∀(F':kr),(∀r,F.K r->F'.K r)->(∀r,F.K r->F'.φ r=F.φ r)->∀(y:Addr) (wt sy:Bool),y.block=x'.block->xT F' ⟨.cell y,wt,sy⟩:=λF' h1 h2 y wt sy hy=>⟨x.block,h1 _ hK,by rw[h2 _ hK,hy,hb]⟩;simp only[Sem.runT];cases hc:wl.cell? x with
  |some v =>
   have hv:∀f,F.has f->wr.cell? x'=so (val f v):=λf hf=>Ia (gB f hf) ho hs hc;have Vi:∀f,F.has f->val f v=val f0 v:=λf hf=>aP ((hv f hf).symm.trans (hv f0 lE));exact jS.step (F₁:=F) (wl₁:=wl) (wr₁:=wr) (s₁:=k' (val f0 v)) (es₁:=mQ.push ⟨.cell x',false,m' == .atomic⟩) (by simp only[Sem.runT,hv f0 lE]) (fT.refl _ _ _) (λel F' h1 h2 he=>he.push (jg F' h1 h2 _ _ _ rfl)) (λ_ h=>h)
    (ih v (k' (val f0 v)) F wl wr _ _ (λf hf=>by have:=(hh f hf).2 v;rwa[Vi f hf]at this) W)
  |none =>
   have zw:=E1 (gB f0 lE) ho hs hc;cases hf:wl.farLoad P x (m' == .atomic) with
   |error cR=>exact lV (Ic hf)
   |ok y =>
    obtain⟨v,ts⟩:=y;obtain⟨at_,u,Ie,NN⟩:=LC hf;have YI:∀f,F.has f->wr.heap[x'.block]?=so (.view (addr f at_) u):=λf hf=>by rw[gB f hf,Ie];rfl
    obtain⟨UO,oe,YJ⟩:=W.block (r:=at_.block) (r':=(addr f0 at_).block) (λf hf=>by
     have:=(YI f0 lE).symm.trans (YI f hf);simp only[ay,Obj.view.injEq,and_true]at this;rw[this];rfl)
    obtain⟨hpl,Rt,hl,Vj⟩:=Gd (f:=f0) (p:=P) (at':=addr f0 at_) (k':=x') (YJ f0 lE) rfl rfl ho hs NN;have YK:∀(F':kr),(∀r,F.K r->F'.K r)->(∀r,F.K r->F'.φ r=F.φ r)->∀e∈Rt.toArray.map (λy=>(⟨.cell y,false,m' == .atomic⟩:Event)),xT F' e:=by
     intro F' h1 h2 e he;simp only[Array.mem_map,List.mem_toArray]at he;obtain⟨y,hy,rfl⟩:=he;exact⟨at_.block,h1 _ UO,by rw[h2 _ UO,Vj y hy,oe]⟩
    refine jS.step (F₁:=F) (wl₁:=wl) (wr₁:=wr) (s₁:=k' v) (es₁:=mQ++Rt.toArray.map (λy=>⟨.cell y,false,m' == .atomic⟩)) ?_ (fT.refl _ _ _) (λel F' h1 h2 he=>he.app (YK F' h1 h2)) (λ_ h=>h)
     (ih v (k' v) F wl wr _ _ (λf hf=>by have:=(hh f hf).2 v;rwa[hpl f]at this) W)
    simp only[Sem.runT,zw,World.farLoad,YI f0 lE,hl]
 |store m x v k ih =>
  intro s' F wl wr es mQ h W;obtain⟨f0,lE⟩:=W.some;have h0:=h f0 lE;cases s'<;>simp only[Rel]at h0;rename_i m' x' v' k';obtain⟨rfl,RU,RV,Lc⟩:=h0;have hh:∀f,F.has f->x'=addr f x/\v'=val f v/\Rel P f (A f) k k':=λf hf=>⟨(h f hf).2.1,(h f hf).2.2.1,(h f hf).2.2.2⟩;obtain⟨hK,hb,gB⟩:=W.block (r:=x.block) (r':=x'.block) (λf hf=>by rw[(hh f hf).1];rfl);have ho:x'.off=x.off:=by rw[RU];rfl
  have hs:x'.spot=x.spot:=by rw[RU];rfl
  have jg:∀(F':kr),(∀r,F.K r->F'.K r)->(∀r,F.K r->F'.φ r=F.φ r)->∀(wt sy:Bool),xT F' ⟨.cell x',wt,sy⟩:=λF' h1 h2 wt sy=>⟨x.block,h1 _ hK,by rw[h2 _ hK,hb]⟩;by_cases cd:(∃c,v=.agg c)\/∃c,v=.tuple c
  ·rcases cd with⟨c,rfl⟩|⟨c,rfl⟩
   ·obtain⟨YF,hw⟩:=BO (P:=P) (m:=m') (a:=x) (c:=c) (k:=k) (w:=wl) (es:=es);rw[hw];exact lV aj
   ·obtain⟨YF,hw⟩:=zv (P:=P) (m:=m') (a:=x) (c:=c) (k:=k) (w:=wl) (es:=es);rw[hw];exact lV aj
  ·have n1:∀c,v≠.agg c:=λc e=>cd (.inl ⟨c,e⟩);have n2:∀c,v≠.tuple c:=λc e=>cd (.inr ⟨c,e⟩);have n1':∀c,v'≠.agg c:=λc e=>by rw[RV]at e;cases v<;>simp at e;exact n1 _ rfl
   have n2':∀c,v'≠.tuple c:=λc e=>by rw[RV]at e;cases v<;>simp at e;exact n2 _ rfl
   rw[iQ n1 n2];cases hc:wl.cell? x with
   |some old =>
    have hcr:=Ia (gB f0 lE) ho hs hc;have hfz:=BN (gB f0 lE) ho;simp only[];by_cases hz:wl.frozen? x=true
    ·rw[if_pos hz];exact lV aj
    ·rw[if_neg hz];obtain⟨c,e,z,c1,c2,c3⟩:=E0 hc;obtain⟨l0,l1,l2⟩:=xV wl x v c1 c2;have UP:wr.heap[x'.block]?=so (.cells (c.map (val f0)) e z):=by rw[gB f0 lE,c1];rfl
     obtain⟨r0,r1,r2⟩:=xV wr x' v' UP (hs.trans c2);rw[hb]at r1 r2;refine jS.step (F₁:=F) (wl₁:=wl.setCell x v) (wr₁:=wr.setCell x' v') (s₁:=k') (es₁:=mQ.push ⟨.cell x',true,m' == .atomic⟩) ?_ (fT.put hK l0 r0 r2 rfl rfl) (λel F' h1 h2 he=>he.push (jg F' h1 h2 _ _)) (λ_ h=>h)
      (ih k' F _ _ _ _ (λf hf=>(hh f hf).2.2) (W.put hK (o:=.cells (c.setIfInBounds x.off v) e z) (λf hf=>by
       have e1:some (Obj.cells (c.map (val f0)) e z)=so (Obj.cells (c.map (val f)) e z):=UP.symm.trans ((gB f hf).trans (by rw[c1];rfl));simp only[ay,Obj.cells.injEq,and_true]at e1;simp only[obj,Array.map_setIfInBounds];rw[<- e1,<- (hh f hf).2.1,ho]) rfl l0 l1 l2 r0 r1 r2 W.os W.output W.tape W.drawn))
     rw[iQ n1' n2',hcr];simp only[hfz,hz,if_false];rfl
   |none =>
    have zw:=E1 (gB f0 lE) ho hs hc;simp only[];cases hf:wl.farStore P x v (m' == .atomic) with
    |error cR=>exact lV (Ge hf)
    |ok y =>
     obtain⟨bN,ts⟩:=y;obtain⟨at_,u,Ie,NN⟩:=uv hf;have YI:∀f,F.has f->wr.heap[x'.block]?=so (.view (addr f at_) u):=λf hf=>by rw[gB f hf,Ie];rfl
     obtain⟨UO,oe,YJ⟩:=W.block (r:=at_.block) (r':=(addr f0 at_).block) (λf hf=>by
      have:=(YI f0 lE).symm.trans (YI f hf);simp only[ay,Obj.view.injEq,and_true]at this;rw[this];rfl)
     have eP:∀f,F.has f->_:=λf hf=>sk (f:=f) (p:=P) (at':=addr f0 at_) (k':=x') (YJ f hf) rfl rfl ho hs NN;obtain⟨c,e,z,Rt,cR,rfl,hl,Vj⟩:=eP f0 lE;have LD:∀f,F.has f->c.map (val f)=c.map (val f0):=by
      intro f hf;obtain⟨c',e',z',ts2,_,tY,HN,_⟩:=eP f hf;simp only[World.mk.injEq,and_true]at tY;have q1:=congrArg (λh:Array Obj=>h[at_.block]?) tY;simp only[Array.getElem?_setIfInBounds_self_of_lt cR,ay,Obj.cells.injEq]at q1;obtain⟨rfl,rfl,rfl⟩:=q1;rw[<- (hh f hf).2.1]at HN;rw[<- RV]at hl;have q2:=HN.symm.trans hl;simp only[Except.ok.injEq,bO,World.mk.injEq,and_true]at q2;have q3:=congrArg (λh:Array Obj=>h[(addr f0 at_).block]?) q2.1;have A0:(addr f0 at_).block<wr.heap.size:=by rw[oe];exact W.there _ UO
      simp only[Array.getElem?_setIfInBounds_self_of_lt A0,ay,Obj.cells.injEq]at q3;exact q3.1
     have A0:(addr f0 at_).block<wr.heap.size:=by rw[oe];exact W.there _ UO
     obtain⟨l0,l1,l2⟩:=qD wl.heap at_.block (.cells c e z) cR;obtain⟨r0,r1,r2⟩:=qD wr.heap (addr f0 at_).block (.cells (c.map (val f0)) e z) A0;rw[oe]at r0 r1 r2;have YK:∀(F':kr),(∀r,F.K r->F'.K r)->(∀r,F.K r->F'.φ r=F.φ r)->∀e∈Rt.toArray.map (λy=>(⟨.cell y,true,m' == .atomic⟩:Event)),xT F' e:=by
      intro F' h1 h2 e he;simp only[Array.mem_map,List.mem_toArray]at he;obtain⟨y,hy,rfl⟩:=he;exact⟨at_.block,h1 _ UO,by rw[h2 _ UO,Vj y hy,oe]⟩
     refine jS.step (F₁:=F) (wr₁:={wr with heap:=wr.heap.setIfInBounds (F.φ at_.block) (.cells (c.map (val f0)) e z)}) (s₁:=k') (es₁:=mQ++Rt.toArray.map (λy=>⟨.cell y,true,m' == .atomic⟩)) ?_
      (fT.put UO l0 r0 r2 aG aG) (λel F' h1 h2 he=>he.app (YK F' h1 h2)) (λ_ h=>h)
      (ih k' F _ _ _ _ (λf hf=>(hh f hf).2.2) (W.put UO (o:=.cells c e z) (λf hf=>by simp only[obj];rw[LD f hf]) rfl l0 l1 l2 r0 r1 r2 W.os W.output W.tape W.drawn))
     rw[iQ n1' n2',zw];rw[<- RV,oe]at hl;simp only[World.farStore,YI f0 lE,hl]
 |new o k ih =>
  intro s' F wl wr es mQ h W;obtain⟨f0,lE⟩:=W.some;have h0:=h f0 lE;cases s'<;>simp only[Rel]at h0;rename_i o' k';have hn:¬F.K wl.heap.size:=λhk=>by have:=W.here _ hk;omega
  have W':=W.alloc (o:=o) (o':=o') (λf hf=>(h f hf).1) h0.2.1;exact jS.step (F₁:=F.add wl.heap.size wr.heap.size) (wl₁:={wl with heap:=wl.heap.push o}) (wr₁:={wr with heap:=wr.heap.push o'}) (s₁:=k' wr.heap.size) (es₁:=mQ) rfl (fT.alloc W) (λ_ _ _ _ he=>he) (λf hf=>kr.Gb hn hf)
   (ih wl.heap.size (k' wr.heap.size) _ _ _ _ _ (λf hf=>by have:=(h f (kr.Gb hn hf)).2.2 wl.heap.size;rwa[kr.Vg hf]at this) W')
 |shape r k ih =>
  intro s' F wl wr es mQ h W;obtain⟨f0,lE⟩:=W.some;have h0:=h f0 lE;cases s'<;>simp only[Rel]at h0;rename_i r' k';obtain⟨hK,hb,gB⟩:=W.block (r:=r) (r':=r') (λf hf=>(h f hf).1);exact jS.step (F₁:=F) (wl₁:=wl) (wr₁:=wr) (s₁:=k' (wl.shape? r)) (es₁:=mQ) (by simp only[Sem.runT,O7 (gB f0 lE)]) (fT.refl _ _ _) (λ_ _ _ _ he=>he) (λ_ h=>h)
   (ih _ _ F wl wr _ _ (λf hf=>(h f hf).2 _) W)
 |freeze a n k ih =>
  intro s' F wl wr es mQ h W;obtain⟨f0,lE⟩:=W.some;have h0:=h f0 lE;cases s'<;>simp only[Rel]at h0;rename_i a' n' k';obtain⟨ha0,rfl,Lc⟩:=h0;obtain⟨hK,hb,gB⟩:=W.block (r:=a.block) (r':=a'.block) (λf hf=>by rw[(h f hf).1];rfl);have hk:∀f,F.has f->Rel P f (A f) k k':=λf hf=>(h f hf).2.2;by_cases hn:n'=0
  ·subst hn;exact jS.step (F₁:=F) (wl₁:=wl) (wr₁:=wr) (s₁:=k') (es₁:=mQ) (by simp[Sem.runT,World.freeze]) (fT.refl _ _ _) (λ_ _ _ _ he=>he) (λ_ h=>h)
    (by simp only[Sem.runT,World.freeze,if_true];exact ih _ F wl wr _ _ hk W)
  ·obtain⟨o,ho⟩:∃o,wl.heap[a.block]?=so o:=⟨_,aO (W.here _ hK)⟩;have Vk:a'.off=a.off:=by rw[ha0];rfl
   have hr:∀f,F.has f->wr.heap[a'.block]?=so (obj f o):=λf hf=>by rw[gB f hf,ho];rfl
   have r1:(wr.heap.modify a'.block (rQ a'.off n'))[F.φ a.block]?=so (rQ a.off n' (obj f0 o)):=by
    rw[getElem?_modify,<- hb,if_pos rfl,hr f0 lE,Vk];rfl
   have r2:∀r,r≠F.φ a.block->(wr.heap.modify a'.block (rQ a'.off n'))[r]?=wr.heap[r]?:=λr fu=>by rw[getElem?_modify,hb,if_neg (bw fu)]
   have l1:(wl.heap.modify a.block (rQ a.off n'))[a.block]?=so (rQ a.off n' o):=by rw[getElem?_modify,if_pos rfl,ho];rfl
   have l2:∀r,r≠a.block->(wl.heap.modify a.block (rQ a.off n'))[r]?=wl.heap[r]?:=λr fu=>by rw[getElem?_modify,if_neg (bw fu)]
   refine jS.step (F₁:=F) (wl₁:=wl.freeze a n') (wr₁:=wr.freeze a' n') (s₁:=k') (es₁:=mQ) rfl ?_ (λ_ _ _ _ he=>he) (λ_ h=>h) (ih _ F _ _ _ _ hk ?_)
   ·rw[pk _ _ _ hn,pk _ _ _ hn];exact fT.put hK aj aj r2 aj aj
   ·rw[pk _ _ _ hn,pk _ _ _ hn];exact W.put hK (o:=rQ a.off n' o) (o':=rQ a.off n' (obj f0 o)) (λf hf=>by
     have e:=aP ((hr f0 lE).symm.trans (hr f hf));rw[O8,e]) (by rw[BP];exact W.Rq _ hK _ ho) aj l1 l2 aj r1 r2 W.os W.output W.tape W.drawn
 |frozen a k ih =>
  intro s' F wl wr es mQ h W;obtain⟨f0,lE⟩:=W.some;have h0:=h f0 lE;cases s'<;>simp only[Rel]at h0;rename_i a' k';obtain⟨hK,hb,gB⟩:=W.block (r:=a.block) (r':=a'.block) (λf hf=>by rw[(h f hf).1];rfl);have Vk:a'.off=a.off:=by rw[h0.1];rfl
  exact jS.step (F₁:=F) (wl₁:=wl) (wr₁:=wr) (s₁:=k' (wl.frozen? a)) (es₁:=mQ) (by simp only[Sem.runT,BN (gB f0 lE) Vk]) (fT.refl _ _ _) (λ_ _ _ _ he=>he) (λ_ h=>h)
   (ih _ _ F wl wr _ _ (λf hf=>(h f hf).2 _) W)
 |getObj r k ih =>
  intro s' F wl wr es mQ h W;obtain⟨f0,lE⟩:=W.some;have h0:=h f0 lE;cases s'<;>simp only[Rel]at h0;rename_i r' k';obtain⟨hK,hb,gB⟩:=W.block (r:=r) (r':=r') (λf hf=>(h f hf).1);obtain⟨o,ho⟩:∃o,wl.heap[r]?=so o:=⟨_,aO (W.here _ hK)⟩;have hr:∀f,F.has f->wr.heap[r']?=so (obj f o):=λf hf=>by rw[gB f hf,ho];rfl
  have Vi:∀f,F.has f->obj f o=obj f0 o:=λf hf=>aP ((hr f hf).symm.trans (hr f0 lE));by_cases hc:∃c e z,o=.cells c e z
  ·obtain⟨c,e,z,rfl⟩:=hc;simp only[Sem.runT,ho];exact lV aj
  ·have e1:(Sem.getObj r k).runT P wl es=(k o).runT P wl (es.push ⟨.obj r,false,o.isChan⟩):=by
    simp only[Sem.runT,ho];cases o<;>first|rfl|exact absurd ⟨_,_,_,rfl⟩ hc
   have e2:(Sem.getObj r' k').runT P wr mQ=(k' (obj f0 o)).runT P wr (mQ.push ⟨.obj r',false,o.isChan⟩):=by
    simp only[Sem.runT,hr f0 lE];cases o<;>first|rfl|exact absurd ⟨_,_,_,rfl⟩ hc
   rw[e1];exact jS.step (F₁:=F) (wl₁:=wl) (wr₁:=wr) e2 (fT.refl _ _ _) (λel F' h1 h2 he=>he.push ⟨r,h1 _ hK,by rw[h2 _ hK,hb]⟩) (λ_ h=>h)
    (ih o (k' (obj f0 o)) F wl wr _ _ (λf hf=>by have:=(h f hf).2 o;rwa[Vi f hf]at this) W)
 |setObj r o k ih =>
  intro s' F wl wr es mQ h W;obtain⟨f0,lE⟩:=W.some;have h0:=h f0 lE;cases s'<;>simp only[Rel]at h0;rename_i r' o' k';obtain⟨hK,hb,gB⟩:=W.block (r:=r) (r':=r') (λf hf=>(h f hf).1);obtain⟨x,hx⟩:∃o,wl.heap[r]?=so o:=⟨_,aO (W.here _ hK)⟩;have hr:wr.heap[r']?=so (obj f0 x):=by rw[gB f0 lE,hx];rfl
  have hic:o'.isChan=o.isChan:=by rw[h0.2.1];cases o<;>rfl
  by_cases hc:∃c e z,x=.cells c e z
  ·obtain⟨c,e,z,rfl⟩:=hc;simp only[Sem.runT,hx];exact lV aj
  ·have e1:(Sem.setObj r o k).runT P wl es=k.runT P {wl with heap:=wl.heap.setIfInBounds r o} (es.push ⟨.obj r,true,o.isChan⟩):=by
    simp only[Sem.runT,hx];cases x<;>first|rfl|exact absurd ⟨_,_,_,rfl⟩ hc
   have e2:(Sem.setObj r' o' k').runT P wr mQ=k'.runT P {wr with heap:=wr.heap.setIfInBounds r' o'} (mQ.push ⟨.obj r',true,o.isChan⟩):=by
    simp only[Sem.runT,hr,hic];cases x<;>first|rfl|exact absurd ⟨_,_,_,rfl⟩ hc
   obtain⟨l0,l1,l2⟩:=qD wl.heap r o (W.here _ hK);obtain⟨r0,r1,r2⟩:=qD wr.heap (F.φ r) o' (W.there _ hK);rw[e1];rw[hb]at e2;rw[hb];exact jS.step (F₁:=F) (wl₁:={wl with heap:=wl.heap.setIfInBounds r o}) (wr₁:={wr with heap:=wr.heap.setIfInBounds (F.φ r) o'}) e2 (fT.put hK l0 r0 r2 rfl rfl) (λel F' h1 h2 he=>he.push ⟨r,h1 _ hK,by rw[h2 _ hK]⟩) (λ_ h=>h)
    (ih k' F _ _ _ _ (λf hf=>(h f hf).2.2.2) (W.put hK (o:=o) (λf hf=>(h f hf).2.1) h0.2.2.1 l0 l1 l2 r0 r1 r2 W.os W.output W.tape W.drawn))
 |choose q k ih =>
  intro s' F wl wr es mQ h W;obtain⟨f0,lE⟩:=W.some;have h0:=h f0 lE;cases s'<;>simp only[Rel]at h0;rename_i q' k';obtain⟨rfl,Lc⟩:=h0;have hk:∀n f,F.has f->Rel P f (A f) (k n) (k' n):=λn f hf=>(h f hf).2 n;simp only[Sem.runT];by_cases hq:q'.forced=true
  ·simp only[hq,if_true];exact jS.step (F₁:=F) (wl₁:=wl) (wr₁:=wr) (s₁:=k' 0) (es₁:=mQ) (by simp only[Sem.runT,hq,if_true]) (fT.refl _ _ _) (λ_ _ _ _ he=>he) (λ_ h=>h) (ih 0 (k' 0) F wl wr _ _ (hk 0) W)
  ·simp only[hq,if_false];exact jS.step (F₁:=F) (wl₁:={wl with drawn:=wl.drawn+1}) (wr₁:={wr with drawn:=wr.drawn+1}) (s₁:=k' (q'.cut (wl.tape wl.drawn q'))) (es₁:=mQ) (by simp[Sem.runT,hq,W.tape,W.drawn]) (fT.env rfl rfl rfl rfl) (λ_ _ _ _ he=>he) (λ_ h=>h)
    (ih _ _ F _ _ _ _ (hk _) (W.env rfl rfl W.os W.output W.tape (by simp[W.drawn])))
 |sys c k ih =>
  intro s' F wl wr es mQ h W;obtain⟨f0,lE⟩:=W.some;have h0:=h f0 lE;cases s'<;>simp only[Rel]at h0;rename_i c' k';obtain⟨rfl,ago,Lc⟩:=h0;have Ld:(wl.sys c').2.os=wl.os:=by cases c'<;>first|exact Bool.noConfusion ago|rfl
  obtain⟨e1,d,o,e2,e3⟩:=H9 c' W.tape W.drawn W.os;simp only[Sem.runT];exact jS.step (F₁:=F) (wl₁:=(wl.sys c').2) (wr₁:=(wr.sys c').2) (s₁:=k' (wl.sys c').1) (es₁:=mQ.push ⟨.output,true,false⟩) (by simp only[Sem.runT,e1]) (by rw[e2]at Ld;rw[e2,e3];exact fT.env rfl rfl Ld rfl) (λ_ _ _ _ he=>he.push trivial) (λ_ h=>h)
   (ih _ _ F _ _ _ _ (λf hf=>(h f hf).2.2 _) (by rw[e2,e3];exact W.env rfl rfl rfl W.output W.tape rfl))
 |program k ih =>
  intro s' F wl wr es mQ h W;obtain⟨f0,lE⟩:=W.some;have h0:=h f0 lE;cases s'<;>simp only[Rel]at h0;rename_i k';exact jS.step (F₁:=F) (wl₁:=wl) (wr₁:=wr) (s₁:=k' P) (es₁:=mQ) rfl (fT.refl _ _ _) (λ_ _ _ _ he=>he) (λ_ h=>h) (ih P (k' P) F wl wr _ _ (λf hf=>h f hf) W)
 |mark m k ih =>
  intro s' F wl wr es mQ h W;obtain⟨f0,lE⟩:=W.some;have h0:=h f0 lE;cases s'<;>simp only[Rel]at h0;rename_i m' k';refine jS.step (F₁:=F) (wl₁:=wl) (wr₁:=wr) (s₁:=k') (es₁:=mQ.push ⟨.mark m',false,true⟩) rfl (fT.refl _ _ _) (λ_ F' _ _ he=>he.push ?_) (λ_ h=>h) (ih k' F wl wr _ _ (λf hf=>(h f hf).2.2) W);show LB m'=true;rw[h0.1];have:=h0.2.1;cases m<;>first|rfl|cases this
 |halt hh =>
  intro s' F wl wr es mQ h W;obtain⟨f0,lE⟩:=W.some;have h0:=h f0 lE;cases hh with
  |_=>trivial
structure ov(P:Program)(f:Rn):Prop where
 inj:∀x y,f.b x=f.b y->x=y
 kz:∀r,f.b r<P.globals.size↔r<P.globals.size
 zero:∀t i z,P.info? t=so i->i.zero=so z->val f z=z
abbrev V(f:Rn):Value->Value->Prop:=λa b=>b=val f a
abbrev VS(f:Rn):Array Value->Array Value->Prop:=λa b=>b=a.map (val f)
abbrev AR(f:Rn):Addr->Addr->Prop:=λa b=>b=addr f a
section
variable {P:Program}{f:Rn}{α β γ δ:Type}{A:α->β->Prop}{B:γ->δ->Prop}
def xX(a:Addr)(m:Mode:=.plain):Rel P f (V f) (load a m) (load (addr f a) m):=⟨rfl,rfl,λ_=>rfl⟩
def O9(a:Addr)(v:Value)(m:Mode:=.plain):Rel P f (λ_ _=>True) (store a v m) (store (addr f a) (val f v) m):=⟨rfl,rfl,rfl,trivial⟩
def mR{o o':Obj}(ho:o'=obj f o)(hp:fN o=false):Rel P f (λr r'=>r'=f.b r) (newObj o) (newObj o'):=⟨ho,hp,λ_=>rfl⟩
def iL(r:Nat):Rel P f Eq (shape r) (shape (f.b r)):=⟨rfl,λ_=>rfl⟩
def qE(a:Addr):Rel P f Eq (frozen a) (frozen (addr f a)):=⟨rfl,λ_=>rfl⟩
def BQ(a:Addr)(n:Nat):Rel P f (λ_ _=>True) (freeze a n) (freeze (addr f a) n):=⟨rfl,rfl,trivial⟩
def jT(r:Nat):Rel P f (λo o'=>o'=obj f o) (getObj r) (getObj (f.b r)):=⟨rfl,λ_=>rfl⟩
def qF(r:Nat){o o':Obj}(ho:o'=obj f o)(hp:fN o=false):Rel P f (λ_ _=>True) (setObj r o) (setObj (f.b r) o'):=⟨rfl,ho,hp,trivial⟩
def jm(q:Question):Rel P f Eq (choose q) (choose q):=⟨rfl,λ_=>rfl⟩
def Vl:Rel P f Eq (sys .env) (sys .env):=⟨rfl,rfl,λ_=>rfl⟩
def ee:Rel P f (λa b=>P=a/\P=b) program program:=by simp[program,Rel]
def RX{m:Mark}(h:LB m=true):Rel P f (λ_ _=>True) (mark m) (mark (LA f m)):=⟨rfl,h,trivial⟩
def BR:Rel P f (λ_ _=>True) (mark .noRoom) (mark .noRoom):=⟨rfl,rfl,trivial⟩
def xY{s s':Sem Unit}(h:Rel P f (λ_ _=>True) s s'){k k':Sem γ}{B:γ->γ->Prop}(hk:Rel P f B k k'):Rel P f B (s>>=λ_=>k) (s'>>=λ_=>k'):=ai h (λ_ _ _=>hk)
def uw(n:Nat):Rel P f (λ_ _=>True) (askRoom n) (askRoom n):=by
 unfold askRoom;split
 ·exact BR
 ·exact aC trivial
def fX(t:TypeId):Rel P f (λa b=>a=b/\P.info? t=so a) (typeInfo t) (typeInfo t):=by
 refine ai ee ?_;rintro a b ⟨rfl,rfl⟩;split<;>rename_i h
 ·exact aC ⟨rfl,h⟩
 ·exact aF
def bp(t:TypeId):Rel P f (λa b=>a=b/\P.underlying t=so a) (underlying t) (underlying t):=by
 refine ai ee ?_;rintro a b ⟨rfl,rfl⟩;split<;>rename_i h
 ·exact aC ⟨rfl,h⟩
 ·exact aF
def dW(t:TypeId):Rel P f Eq (sizeOf t) (sizeOf t):=by
 refine ai (fX t) ?_;rintro a b ⟨rfl,_⟩;exact aC rfl
def E3(t:TypeId):Rel P f Eq (isAgg t) (isAgg t):=by
 refine ai (bp t) ?_;rintro a b ⟨rfl,_⟩;split<;>exact aC rfl
def Al(t:TypeId):Rel P f Eq (typeStr t) (typeStr t):=by
 refine ai (fX t) ?_;rintro a b ⟨rfl,_⟩;dsimp only;split
 ·exact aZ
 ·exact aC rfl
def xi(t:TypeId):Rel P f Eq (elemOf t) (elemOf t):=by
 refine ai (bp t) ?_;rintro a b ⟨rfl,_⟩;split
 ·exact aC rfl
 ·exact aF
def jh(hf:ov P f)(t:TypeId):Rel P f (λa b=>a=b/\val f a=a) (zeroValue t) (zeroValue t):=by
 refine ai (fX t) ?_;rintro a b ⟨rfl,h⟩;split<;>rename_i hz
 ·exact aC ⟨rfl,hf.zero _ _ _ h hz⟩
 ·exact aZ
def xZ(a:Addr):∀(n i:Nat) (acc:Array Value),Rel P f (VS f) (loadCellsFrom a i n acc) (loadCellsFrom (addr f a) i n (acc.map (val f))):=by
 intro n
 induction n with
 |zero=>intro i acc;exact aC rfl
 |succ n ih =>
  intro i acc;unfold loadCellsFrom;refine ai (A:=V f) (by rw[<- lu];exact xX _) ?_;rintro v _ rfl;have:=ih (i+1) (acc.push v);rwa[Array.map_push]at this
def oW(a:Addr)(n:Nat):Rel P f (VS f) (loadCells a n) (loadCells (addr f a) n):=by
 have:=xZ (P:=P) (f:=f) a n 0 #[];unfold loadCells;simpa using this
def lW(a:Addr):∀(vs:List Value) (i:Nat),Rel P f (λ_ _=>True) (storeCells a vs i) (storeCells (addr f a) (vs.map (val f)) i):=by
 intro vs
 induction vs with
 |nil=>intro i;exact aC trivial
 |cons v vs ih =>
  intro i;simp only[aB];unfold storeCells;exact xY (by rw[<- lu];exact O9 _ _) (ih _)
def Am(t:TypeId)(a:Addr):Rel P f (V f) (loadVar t a) (loadVar t (addr f a)):=by
 refine ai (E3 t) ?_;rintro b _ rfl;cases b
 ·exact xX a
 ·refine ai (dW t) ?_;rintro n _ rfl;refine ai (oW a n) ?_;rintro cs _ rfl;exact aC (by simp[V])
def Gf(t:TypeId)(a:Addr)(v:Value):Rel P f (λ_ _=>True) (storeVar t a v) (storeVar t (addr f a) (val f v)):=by
 refine ai (dW t) ?_;rintro n _ rfl;rw[lC];simp only[Array.size_map];split
 ·exact xY aF (by rw[cC];exact lW a _ 0)
 ·rw[cC];exact lW a _ 0
def kU(e:TypeId){c c':Array Value}(h:c'=c.map (val f)):Rel P f (AR f) (newRow e c) (newRow e c'):=by
 subst h;refine ai (mR (o:=.cells c e) (o':=.cells (c.map (val f)) e) rfl rfl) ?_;rintro r _ rfl;exact aC rfl
def xj(t:TypeId)(v:Value):Rel P f (AR f) (newVar t v) (newVar t (val f v)):=kU t (by rw[lC])
def Ig(t:TypeId)(v:Value)(h:val f v=v):Rel P f (AR f) (newVar t v) (newVar t v):=by
 have:=xj (P:=P) (f:=f) t v;rwa[h]at this
def lz(t:TypeId)(cs:Array Value)(off:Nat):Rel P f (V f) (part t cs off) (part t (cs.map (val f)) off):=by
 refine ai (E3 t) ?_;rintro b _ rfl;cases b
 ·simp only[aM,aT,if_false];cases cs[off]? with
  |none=>exact aF
  |some v=>exact aC rfl
 ·refine ai (dW t) ?_;rintro n _ rfl;exact aC (by simp[V,Array.map_extract])
def tg:RuntimeError->Bool
 | .typeAssertion ..=>false
 |_=>true
def b9(hf:ov P f)(e:RuntimeError)(he:tg e=true:=by rfl):Rel P f A (runtimePanic e) (runtimePanic e):=by
 refine ai ee ?_;rintro a b ⟨rfl,rfl⟩;cases e<;>dsimp only
 case typeAssertion i c a m =>
  exact Bool.noConfusion he
 case panicNil =>
  refine ai (xi _) ?_;rintro t _ rfl;refine ai (A:=AR f) (by have:=xj (P:=P) (f:=f) t (.agg #[]);simpa using this) ?_;rintro r _ rfl;have:=uq (P:=P) (f:=f) (A:=A) (v:=.iface P.rt.panicNilError (.pointer (so r)));simpa using this
 all_goals (simp[goPanic,Rel,strVal])
def iR(hf:ov P f)(k:IntKind)(x y:Int)(c:BoundsCode):Rel P f A (boundsPanic k x y c) (boundsPanic k x y c):=by
 unfold boundsPanic;dsimp only;split
 ·refine ai (A:=Eq) (ai (jm _) (by rintro a _ rfl;exact aC rfl)) ?_;rintro a _ rfl;exact b9 hf _
 ·exact ai (A:=Eq) (aC rfl) (by rintro a _ rfl;exact b9 hf _)
def rR(v:Value):Rel P f Eq (asIntOf v) (asIntOf (val f v)):=by
 cases v<;>simp only[cP,da,cm,bI,bP,bj,bH,de,cI,cJ,bL,b7,bE,db,b8,asIntOf]
 case int=>exact aC rfl
 case pointer a=>cases a<;>first|exact aZ|exact aF
 all_goals exact aF
def oy(v:Value):Rel P f Eq (asInt v) (asInt (val f v)):=ai (rR v) (by rintro a _ rfl;exact aC rfl)
def BS(v:Value):Rel P f Eq (asBool v) (asBool (val f v)):=by
 cases v<;>simp only[cP,da,cm,bI,bP,bj,bH,de,cI,cJ,bL,b7,bE,db,b8,asBool]
 case bool=>exact aC rfl
 all_goals exact aF
def Pb(v:Value):Rel P f (VS f) (asAgg v) (asAgg (val f v)):=by
 cases v<;>simp only[cP,da,cm,bI,bP,bj,bH,de,cI,cJ,bL,b7,bE,db,b8,asAgg]
 case agg=>exact aC rfl
 all_goals exact aF
def BT(hf:ov P f)(v:Value):Rel P f (AR f) (asAddr v) (asAddr (val f v)):=by
 cases v<;>simp only[cP,da,cm,bI,bP,bj,bH,de,cI,cJ,bL,b7,bE,db,b8,asAddr]
 case pointer a =>
  cases a
  ·exact b9 hf _
  ·exact aC rfl
 all_goals exact aF
def nG(v:Value):Rel P f (AR f) (Instr.sureAddr v) (Instr.sureAddr (val f v)):=by
 cases v<;>simp only[cP,da,cm,bI,bP,bj,bH,de,cI,cJ,bL,b7,bE,db,b8,Instr.sureAddr]
 case pointer a =>
  cases a
  ·exact aF
  ·exact aC rfl
 all_goals exact aF
def NO{s:Sem α}{s':Sem β}{g:α->γ}{g':β->δ}(h:Rel P f A s s')(hg:∀a b,A a b->B (g a) (g' b)):Rel P f B (Functor.map g s) (Functor.map g' s'):=by
 rw[map_eq_pure_bind,map_eq_pure_bind];exact ai h (λa b h=>aC (hg a b h))
def Ee{g g':α->Sem β}:∀(l:List α),(∀x∈l,Rel P f Eq (g x) (g' x))->Rel P f Eq (l.mapM g) (l.mapM g'):=by
 intro l
 induction l with
 |nil=>intro _;simp only[List.mapM_nil];exact aC rfl
 |cons x l ih =>
  intro h;simp only[List.mapM_cons];refine ai (h x aj) ?_;rintro a _ rfl;refine ai (ih λy hy=>h y (by simp[hy])) ?_;rintro b _ rfl;exact aC rfl
def RY{g g':α->Sem β}(xs:Array α)(h:∀x∈xs,Rel P f Eq (g x) (g' x)):Rel P f Eq (xs.mapM g) (xs.mapM g'):=by
 rw[fS,fS];exact NO (Ee _ (λx hx=>h x (by simpa using hx))) (by rintro a _ rfl;rfl)
def uy{g g':α->β->Sem (ForInStep β)}:∀(l:List α) (init:β),(∀x∈l,∀a,Rel P f Eq (g x a) (g' x a))->Rel P f Eq (forIn l init g) (forIn l init g'):=by
 intro l
 induction l with
 |nil=>intro _ _;simp only[List.forIn_nil];exact aC rfl
 |cons x l ih =>
  intro init h;simp only[List.forIn_cons];refine ai (h x aj init) ?_;rintro a _ rfl;cases a
  ·exact aC rfl
  ·exact ih _ λy hy=>h y (by simp[hy])
def zx{g g':α->β->Sem (ForInStep β)}(xs:Array α)(init:β)(h:∀x∈xs,∀a,Rel P f Eq (g x a) (g' x a)):Rel P f Eq (forIn xs init g) (forIn xs init g'):=by
 rw[<- gn,<- gn];exact uy _ _ (λx hx=>h x (by simpa using hx))
def pO{g g':Nat->β->Sem (ForInStep β)}(r:Std.Legacy.Range)(init:β)(h:∀x a,Rel P f Eq (g x a) (g' x a)):Rel P f Eq (forIn r init g) (forIn r init g'):=by
 rw[gw,gw];exact uy _ _ (λx _ a=>h x a)
def Pd(hf:ov P f)(e:TypeId):Rel P f (V f) (Instr.alloc e true (.tuple #[])) (Instr.alloc e true (.tuple #[])):=by
 refine ai (jh hf e) ?_;rintro z _ ⟨rfl,hz⟩;refine ai (Ig e z hz) ?_;rintro a _ rfl;exact aC (by simp[V])
def Vm(e:TypeId)(v:Value):Rel P f (V f) (Instr.box e v) (Instr.box e (val f v)):=by
 refine ai (xj e v) ?_;rintro a _ rfl;exact aC (by simp[V])
def x7(place:Nat->Option (Nat×Nat)):∀(l:List (Nat×Value)) (cells:Array Value),
  Instr.fill place (cells.map (val f)) (l.map λx=>(x.1,val f x.2))=(Instr.fill place cells l).map λc=>c.map (val f):=by
 intro l
 induction l with
 |nil=>intro cells;rfl
 |cons x l ih =>
  intro cells;obtain⟨i,v⟩:=x;simp only[aB,Instr.fill];cases hp:place i with
  |none=>rfl
  |some y =>
   obtain⟨off,size⟩:=y;simp only[lC,Array.size_map];split
   ·rfl
   ·rw[<- ih]
    congr 1
    have:∀(l:List (Value×Nat)) (cs:Array Value),(l.map λy=>(val f y.1,y.2)).foldl (λcs (x:Value×Nat)=>cs.setIfInBounds (off+x.2) x.1) (cs.map (val f))=(l.foldl (λcs (x:Value×Nat)=>cs.setIfInBounds (off+x.2) x.1) cs).map (val f):=by
     intro l
     induction l with
     |nil=>intro cs;rfl
     |cons y l ih2=>intro cs;simp only[aB,List.foldl_cons,<- ih2,Array.map_setIfInBounds]
    have e2:=this v.cells.zipIdx.toList cells;rw[<- jU,<- jU,<- e2]
    congr 1
    apply dA;intro j;simp[List.getElem?_map,Array.getElem?_toList,Array.getElem?_zipIdx];cases v.cells[j]?<;>simp
def Pe(hf:ov P f)(t:TypeId)(ps:Array (Nat×Value)):Rel P f (V f) (Instr.build t ps) (Instr.build t (ps.map λx=>(x.1,val f x.2))):=by
 refine ai (jh hf t) ?_;rintro z _ ⟨rfl,hz⟩;refine ai (bp t) ?_;rintro d _ ⟨rfl,_⟩;have hzc:z.cells=z.cells.map (val f):=by rw[<- lC,hz]
 split
 ·rename_i fields;refine ai (A:=Eq) (RY _ λx _=>?_) ?_
  ·exact ai (dW _) (by rintro n _ rfl;exact aC rfl)
  ·rintro places _ rfl;have e:=x7 (f:=f) (places[·]?) ps.toList z.cells;rw[<- hzc]at e;simp only[Array.toList_map]at e |-;rw[e];cases Instr.fill (places[·]?) z.cells ps.toList with
   |none=>exact aF
   |some c=>exact aC (by simp[V])
 ·refine ai (dW _) ?_;rintro n _ rfl;have e:=x7 (f:=f) (λi=>so (i*n,n)) ps.toList z.cells;rw[<- hzc]at e;simp only[Array.toList_map]at e |-;rw[e];cases Instr.fill (λi=>so (i*n,n)) z.cells ps.toList with
  |none=>exact aF
  |some c=>exact aC (by simp[V])
 ·exact aF
def sN{z:Array Value}(hz:z.map (val f)=z)(n:Nat):((Array.range n).map (z[· % z.size]!)).map (val f)=(Array.range n).map (z[· % z.size]!):=by
 rw[iU];apply eF;intro i _;simp only[Function.comp];by_cases hs:0<z.size
 ·have cR:i%z.size<z.size:=Nat.mod_lt _ hs;rw[fh z _ cR];have:=congrArg (λa:Array Value=>a[i%z.size]?) hz;simp only[aM,Array.getElem?_eq_getElem cR,aK,ay]at this;exact this
 ·have h0:z=#[]:=Array.eq_empty_of_size_eq_zero aa;subst h0;show val f default=default;simp[default,instInhabitedValue]
  first|rfl|simp[instInhabitedValue.default]
def fO{c:Prop}[Decidable c]{s:Sem PUnit}{k:Sem γ}{k':Sem δ}(hs:Rel P f (λ_ _=>True) s s)(hk:Rel P f B k k'):Rel P f B (if c then(s>>=λ_=>k)else k) (if c then(s>>=λ_=>k')else k'):=by
 split
 ·exact ai hs (λ_ _ _=>hk)
 ·exact hk
def BU(hf:ov P f)(t:TypeId)(len:Nat)(ps:Array (Nat×Value)):Rel P f (V f) (Instr.buildSlice t len ps) (Instr.buildSlice t len (ps.map λx=>(x.1,val f x.2))):=by
 refine ai (bp t) ?_;rintro d _ ⟨rfl,_⟩;split
 ·refine ai (dW _) ?_;rintro size _ rfl;dsimp only;refine fO aZ ?_;split
  ·refine ai (A:=λ(a b:Array Value)=>a=b/\a.map (val f)=a) (aC ⟨rfl,aj⟩) ?_;rintro z _ ⟨rfl,hz⟩;have e:=x7 (f:=f) (λi=>so (i*size,size)) ps.toList ((Array.range (len*size)).map (z[· % z.size]!));rw[sN hz]at e;rw[cC,e];cases Instr.fill (λi=>so (i*size,size)) ((Array.range (len*size)).map (z[· % z.size]!)) ps.toList with
   |none=>exact aF
   |some c=>exact ai (kU _ rfl) (by rintro a _ rfl;exact aC (by simp[V]))
  ·refine ai (jh hf _) ?_;rintro z0 _ ⟨rfl,YL⟩;refine ai (A:=λ(a b:Array Value)=>a=b/\a.map (val f)=a) (aC ⟨rfl,by rw[<- lC,YL]⟩) ?_;rintro z _ ⟨rfl,hz⟩;have e:=x7 (f:=f) (λi=>so (i*size,size)) ps.toList ((Array.range (len*size)).map (z[· % z.size]!));rw[sN hz]at e;rw[cC,e];cases Instr.fill (λi=>so (i*size,size)) ((Array.range (len*size)).map (z[· % z.size]!)) ps.toList with
   |none=>exact aF
   |some c=>exact ai (kU _ rfl) (by rintro a _ rfl;exact aC (by simp[V]))
 ·exact aF
def tn(r:Nat):Rel P f (λa b=>b=a.map λx=>(addr f x.1,x.2)) (viewAt r) (viewAt (f.b r)):=by
 refine ai (iL r) ?_;rintro x _ rfl;split
 ·exact aC rfl
 ·refine ai (jT r) ?_;rintro o _ rfl;cases o<;>exact aC rfl
def x8(r:Nat):Rel P f (λa b=>b=a.map λx=>(addr f x.1,x.2)) (numberAt r) (numberAt (f.b r)):=by
 refine ai (iL r) ?_;rintro x _ rfl;split
 ·exact aC rfl
 ·refine ai (jT r) ?_;rintro o _ rfl;cases o<;>exact aC rfl
def xk(a:Addr):Rel P f (λ_ _=>True) (noView a) (noView (addr f a)):=by
 refine ai (tn a.block) ?_;rintro x _ rfl;simp only[Option.isSome_map];split
 ·exact aZ
 ·exact aC trivial
def LF(t:TypeId)(v:Value):Rel P f (V f) (Instr.loadAt t v) (Instr.loadAt t (val f v)) :=
 ai (nG v) (by rintro a _ rfl;exact Am t a)
def Ih(t:TypeId)(v x:Value):Rel P f (λ_ _=>True) (Instr.storeAt t v x) (Instr.storeAt t (val f v) (val f x)) :=
 ai (nG v) (by rintro a _ rfl;exact Gf t a x)
def mU(a:Addr):Rel P f Eq (byteOf a) (byteOf (addr f a)):=by
 unfold byteOf;simp only[O0,BK,xg];split
 ·exact aC rfl
 ·refine ai ee ?_;rintro _ _ ⟨rfl,rfl⟩;refine ai (xk a) ?_;rintro _ _ _;refine ai (iL _) ?_;rintro x _ rfl;split
  ·split
   ·exact aC rfl
   ·split
    ·exact aC rfl
    ·exact aF
  ·exact aF
def BV(a:Addr)(g:Field):Rel P f (AR f) (fieldPlace a g) (fieldPlace (addr f a) g):=by
 refine ai (dW _) ?_;rintro n _ rfl;split
 ·unfold partAt;refine ai (mU a) ?_;rintro b _ rfl;refine ai (A:=Eq) (mU _) ?_;rintro c _ rfl;refine aC ?_;simp only[AR];split<;>rfl
 ·exact aC (by simp only[AR];rw[lu])
def Ii(s:TypeId)(v:Value)(i:Nat):Rel P f (V f) (Instr.fieldAt s v i) (Instr.fieldAt s (val f v) i):=by
 refine ai (bp s) ?_;rintro d _ ⟨rfl,_⟩;split
 ·split
  ·refine ai (nG v) ?_;rintro a _ rfl;refine ai (BV a _) ?_;rintro b _ rfl;exact aC (by simp[V])
  ·exact aF
 ·exact aF
def Ij(hf:ov P f)(t:TypeId)(x i:Value):Rel P f (V f) (Instr.indexAt t x i) (Instr.indexAt t (val f x) (val f i)):=by
 refine ai (rR i) ?_;rintro⟨k,n⟩ _ rfl;dsimp only;refine ai (bp t) ?_;rintro d _ ⟨rfl,_⟩;cases d with
 |array len elem =>
  simp only[];refine ai (nG x) ?_;rintro a _ rfl;refine ai (A:=λ(a b:Option Addr×Nat×TypeId)=>b=(a.1.map (addr f),a.2)) (aC rfl) ?_;rintro⟨base,len,elem⟩ _ rfl;refine ai (bp t) ?_;rintro d2 _ ⟨rfl,_⟩;cases base with
  |none=>exact iR hf _ _ _ _
  |some a =>
   simp only[aK];split
   ·refine ai (dW elem) ?_;rintro m _ rfl;exact aC (by simp[V,lu])
   ·repeat' (first|exact aZ|exact iR hf _ _ _ _|split)
 |slice elem =>
  cases x with
  |slice base len cap =>
   simp only[bH];refine ai (A:=λ(a b:Option Addr×Nat×TypeId)=>b=(a.1.map (addr f),a.2)) (aC rfl) ?_;rintro⟨base,len,elem⟩ _ rfl;refine ai (bp t) ?_;rintro d2 _ ⟨rfl,_⟩;cases base with
   |none=>exact iR hf _ _ _ _
   |some a =>
    simp only[aK];split
    ·refine ai (dW elem) ?_;rintro m _ rfl;exact aC (by simp[V,lu])
    ·repeat' (first|exact aZ|exact iR hf _ _ _ _|split)
  |_=>exact aF
 |_=>exact aF
def BW(hf:ov P f)(x:Value)(y:Nat)(c:BoundsCode):Rel P f Eq (Instr.sliceBound x y c) (Instr.sliceBound (val f x) y c):=by
 refine ai (rR x) ?_;rintro⟨k,i⟩ _ rfl;dsimp only;split
 ·exact aC rfl
 ·exact iR hf _ _ _ _
def mO(hf:ov P f)(b:Bool)(len cap:Nat)(lo hi mx:Option Value):
  Rel P f Eq (Instr.sliceBounds b len cap lo hi mx) (Instr.sliceBounds b len cap (lo.map (val f)) (hi.map (val f)) (mx.map (val f))):=by
 unfold Instr.sliceBounds;cases mx<;>cases hi<;>cases lo<;>simp only[aK,Option.map_none,Option.isSome_some,Option.isSome_none,pure_bind];all_goals
  repeat (first|exact aF|exact aC rfl|(refine ai (A:=Eq) (BW hf _ _ _) ?_;rintro _ _ rfl)|(refine ai (A:=Eq) aF ?_;rintro _ _ rfl))
def Pf(hf:ov P f)(t:TypeId)(x:Value)(lo hi mx:Option Value):
  Rel P f (V f) (Instr.slice t x lo hi mx) (Instr.slice t (val f x) (lo.map (val f)) (hi.map (val f)) (mx.map (val f))):=by
 refine ai (bp t) ?_;rintro d _ ⟨rfl,_⟩;cases d with
 |string =>
  cases x with
  |string s =>
   simp only[bP,Option.isSome_map];refine fO aF ?_;refine ai (A:=Eq) (mO hf false s.size s.size lo hi we) ?_;rintro⟨l,h,m⟩ _ rfl;exact aC (by simp[V])
  |_=>exact aF
 |slice elem =>
  cases x with
  |slice a len cap =>
   simp only[bH];refine ai (A:=Eq) (mO hf true len cap lo hi mx) ?_;rintro⟨l,h,m⟩ _ rfl;refine ai (dW _) ?_;rintro n _ rfl;refine aC ?_;simp only[V,bH];split
   ·rfl
   ·cases a<;>simp[lu]
  |_=>exact aF
 |pointer arr =>
  simp only[];refine ai (BT hf x) ?_;rintro a _ rfl;refine ai (bp arr) ?_;rintro d _ ⟨rfl,_⟩;split
  ·refine ai (A:=Eq) (mO hf false _ _ lo hi mx) ?_;rintro⟨l,h,m⟩ _ rfl;refine ai (dW _) ?_;rintro n _ rfl;refine aC ?_;simp only[V,bH,aK];split
   ·rfl
   ·rw[lu]
  ·exact aF
 |_=>exact aF
def Ik(hf:ov P f)(t:TypeId)(x:Value)(lo hi mx:Option Value):
  Rel P f (V f) (Instr.sliceAt t x lo hi mx) (Instr.sliceAt t (val f x) (lo.map (val f)) (hi.map (val f)) (mx.map (val f))):=by
 refine ai (bp t) ?_;rintro d _ ⟨rfl,_⟩;split
 ·refine ai (nG x) ?_;rintro a _ rfl;refine ai (A:=Eq) (mO hf false _ _ lo hi mx) ?_;rintro⟨l,h,m⟩ _ rfl;refine ai (dW _) ?_;rintro n _ rfl;refine aC ?_;simp only[V,bH,aK];split
  ·rfl
  ·rw[lu]
 ·exact Pf hf t x lo hi mx
def x9(t:TypeId)(x:Value):Rel P f (V f) (Instr.makeInterface t x) (Instr.makeInterface t (val f x)):=by
 refine ai (bp t) ?_;rintro d _ ⟨rfl,_⟩;split
 ·exact aF
 ·exact aC (by simp[V])
def Il(t:TypeId)(r:Option Value):Rel P f (V f) (Instr.makeMap t r) (Instr.makeMap t (r.map (val f))):=by
 have tail:Rel P f (V f) (do pure (.map (so (<- newObj (.map #[] 0))))) (do pure (.map (so (<- newObj (.map #[] 0))))) :=
  ai (mR (o:=.map #[] 0) (by simp[obj]) rfl) (by rintro a _ rfl;exact aC (by simp[V]))
 unfold Instr.makeMap;cases r with
 |none=>exact tail
 |some h =>
  simp only[aK];refine ai (bp t) ?_;rintro d _ ⟨rfl,_⟩;split
  ·refine ai (oy h) ?_;rintro n _ rfl;exact tail
  ·exact aF
def Gg(hf:ov P f)(t:TypeId)(x:Value):Rel P f (V f) (Instr.makeChan t x) (Instr.makeChan t (val f x)):=by
 refine ai (oy x) ?_;rintro n _ rfl;refine ai (bp t) ?_;rintro d _ ⟨rfl,_⟩;split
 ·refine ai (fX _) ?_;rintro i _ ⟨rfl,_⟩;dsimp only;refine fO (b9 hf _) ?_;exact ai (mR (o:=.chan n.toNat #[] false 0 0 false) (by simp[obj]) rfl) (by rintro a _ rfl;exact aC (by simp[V]))
 ·exact aF
def Ef(hf:ov P f)(t:TypeId)(l c:Value):Rel P f (V f) (Instr.makeSlice t l c) (Instr.makeSlice t (val f l) (val f c)):=by
 refine ai (bp t) ?_;rintro d _ ⟨rfl,_⟩;split
 ·refine ai (oy l) ?_;rintro n _ rfl;refine ai (oy c) ?_;rintro m _ rfl;refine ai (fX _) ?_;rintro i _ ⟨rfl,_⟩;dsimp only;have pan:∀(e:RuntimeError) (k k':PUnit->Sem Value),tg e=true->Rel P f (V f) (runtimePanic e>>=k) (runtimePanic e>>=k'):=λe k k' he=>ai (A:=λ_ _=>False) (b9 hf e he) (λ_ _ h=>h.elim);split
  ·split
   ·exact pan _ _ _ rfl
   ·split
    ·exact pan _ _ _ rfl
    ·refine ai (jm _) ?_;rintro x _ rfl;exact pan _ _ _ rfl
  ·refine ai (uw _) ?_;rintro _ _ _;refine ai (dW _) ?_;rintro sz _ rfl;split
   ·refine ai (A:=λ(a b:Array Value)=>a=b/\a.map (val f)=a) (aC ⟨rfl,aj⟩) ?_;rintro z _ ⟨rfl,hz⟩;refine ai (A:=AR f) (kU _ (sN hz _).symm) ?_;rintro a _ rfl;exact aC (by simp[V])
   ·refine ai (jh hf _) ?_;rintro z0 _ ⟨rfl,YL⟩;refine ai (A:=λ(a b:Array Value)=>a=b/\a.map (val f)=a) (aC ⟨rfl,by rw[<- lC,YL]⟩) ?_;rintro z _ ⟨rfl,hz⟩;refine ai (A:=AR f) (kU _ (sN hz _).symm) ?_;rintro a _ rfl;exact aC (by simp[V])
 ·exact aF
def Pg(t:TypeId)(x:Value)(i:Nat):Rel P f (V f) (Instr.field t x i) (Instr.field t (val f x) i):=by
 refine ai (bp t) ?_;rintro d _ ⟨rfl,_⟩;split
 ·split
  ·refine ai (Pb x) ?_;rintro cs _ rfl;exact lz _ _ _
  ·exact aF
 ·exact aF
def Ph(hf:ov P f)(t:TypeId)(x i:Value):Rel P f (V f) (Instr.index t x i) (Instr.index t (val f x) (val f i)):=by
 refine ai (rR i) ?_;rintro⟨k,n⟩ _ rfl;dsimp only;refine ai (bp t) ?_;rintro d _ ⟨rfl,_⟩;cases d with
 |array len elem =>
  cases x with
  |agg cs =>
   simp only[db];split
   ·refine ai (dW _) ?_;rintro m _ rfl;exact lz _ _ _
   ·exact iR hf _ _ _ _
  |_=>exact aF
 |string =>
  cases x with
  |string s =>
   simp only[bP];split
   ·exact aC (by simp[V])
   ·exact iR hf _ _ _ _
  |_=>exact aF
 |_=>exact aF
def Im(x:Value)(i:Nat):Rel P f (V f) (Instr.extract x i) (Instr.extract (val f x) i):=by
 cases x with
 |tuple vs =>
  simp only[b8,Instr.extract,aM];cases vs[i]? with
  |none=>exact aF
  |some v=>exact aC rfl
 |_=>exact aF
def Gh:Rel P f Eq Instr.panicnil Instr.panicnil:=by
 refine ai Vl ?_;rintro r _ rfl;split
 ·dsimp only;refine ai ee ?_;rintro _ _ ⟨rfl,rfl⟩;exact aC rfl
 ·exact aF
def Pj(hf:ov P f)(x:Value):Rel P f (V f) (Instr.panic x) (Instr.panic (val f x)):=by
 cases x with
 |iface t v=>simp only[b7,Instr.panic];have:=uq (P:=P) (f:=f) (A:=V f) (v:=.iface t v);simpa using this
 |nilIface =>
  simp only[bE,Instr.panic];refine ai Gh ?_;rintro n _ rfl;split
  ·have:=uq (P:=P) (f:=f) (A:=V f) (v:=.nilIface);simpa using this
  ·exact b9 hf _
 |_=>exact aF
def fB(a:Addr):Rel P f (λx y=>y=(addr f x.1,x.2)) (behindNumber a) (behindNumber (addr f a)):=by
 refine ai (x8 a.block) ?_;rintro x _ rfl;cases x<;>exact aC rfl
def wB(a:Addr):Rel P f Eq (stringish a) (stringish (addr f a)):=by
 refine ai (qE a) ?_;rintro b _ rfl;cases b
 ·refine ai (A:=Eq) (iL a.block) ?_;rintro x _ rfl;rcases x with _|⟨e,n⟩
  ·exact aC rfl
  ·exact qE ⟨a.block,n,we⟩
 ·exact aC rfl
def Gi(a b:Addr):Rel P f Eq (mayBeOne a b) (mayBeOne (addr f a) (addr f b)):=by
 unfold mayBeOne;refine ai (wB a) ?_;rintro x _ rfl;refine ai (wB b) ?_;rintro y _ rfl;dsimp only;refine ai (A:=Eq) (ai (iL a.block) (by rintro u _ rfl;exact aC rfl)) ?_;rintro u _ rfl;refine ai (A:=Eq) (ai (iL b.block) (by rintro u _ rfl;exact aC rfl)) ?_;rintro w _ rfl;exact aC rfl
def RZ(hf:ov P f)(a b:Addr):(addr f a=addr f b)=(a=b):=by
 obtain⟨x,o,s⟩:=a;obtain⟨y,p,t⟩:=b;simp only[addr,Addr.mk.injEq,eq_iff_iff];exact⟨λ⟨h,k⟩=>⟨hf.inj _ _ h,k⟩,λ⟨h,k⟩=>⟨by rw[h],k⟩⟩
def ya(hf:ov P f)(a b:Addr):(addr f a==addr f b)=(a==b):=by
 rw[jv];simp only[beq_iff_eq,RZ hf]
def E4(hf:ov P f)(x y:Nat):(f.b x==f.b y)=(x==y):=by
 rw[jv];simp only[beq_iff_eq];exact⟨hf.inj _ _,λh=>by rw[h]⟩
def yc(hf:ov P f)(a b:Addr):Rel P f Eq (sameAddr a b) (sameAddr (addr f a) (addr f b)):=by
 unfold sameAddr;simp only[xg,E4 hf,ya hf];split
 ·exact aC rfl
 ·refine ai (qE a) ?_;rintro x _ rfl;refine ai (qE b) ?_;rintro y _ rfl;refine fO aZ ?_;refine ai (xk a) ?_;rintro _ _ _;refine ai (xk b) ?_;rintro _ _ _;refine ai (Gi a b) ?_;rintro z _ rfl;cases z
  ·exact aC rfl
  ·refine ai (jm _) ?_;rintro n _ rfl;exact aC rfl
def A2(hf:ov P f)(a b:Option Addr):Rel P f Eq (samePointer a b) (samePointer (a.map (addr f)) (b.map (addr f))):=by
 cases a<;>cases b
 case some.some a b=>exact yc hf a b
 all_goals exact aC rfl
def R1(hf:ov P f)(r:Nat):(f.b r<P.globals.size)=(r<P.globals.size):=propext (hf.kz r)
def Io(hf:ov P f):∀(d:Nat) (t:TypeId) (x y x' y':Value),x'=val f x->y'=val f y->Rel P f Eq (Op.equalIn d t x y) (Op.equalIn d t x' y'):=by
 intro d
 induction d with
 |zero=>intro t x y x' y' _ _;exact aZ
 |succ d ih =>
  intro t x y x' y' hx hy;unfold Op.equalIn;refine ai (bp t) ?_;rintro u _ ⟨rfl,_⟩;cases u
  case bool =>
   cases x<;>first|exact aF|skip
   cases y<;>first|exact aF|skip
   rw[cP]at hx hy;subst hx hy;exact aC rfl
  case string =>
   cases x<;>first|exact aF|skip
   cases y<;>first|exact aF|skip
   rw[bP]at hx hy;subst hx hy;exact aC rfl
  case unsafePointer =>
   cases x<;>first|exact aF|skip
   cases y<;>first|exact aF|skip
   rw[bj]at hx hy;subst hx hy;exact A2 hf _ _
  case chan =>
   cases x<;>first|exact aF|skip
   cases y<;>first|exact aF|skip
   rename_i a b;rw[cI]at hx hy;subst hx hy;refine aC ?_;cases a<;>cases b<;>first|rfl|skip
   rename_i a b;have:=E4 hf a b;simpa using this.symm
  case map =>
   cases x<;>first|exact aF|skip
   rename_i a;cases a<;>cases y<;>first|exact aF|skip
   all_goals (rename_i b;rw[de]at hx hy;cases b<;>(subst hx hy;first|exact aF|exact aC rfl))
  case slice =>
   cases x<;>first|exact aF|skip
   rename_i a _ _;cases a<;>cases y<;>first|exact aF|skip
   all_goals (rename_i b _ _;rw[bH]at hx hy;cases b<;>(subst hx hy;first|exact aF|exact aC rfl))
  case func =>
   cases x<;>first|exact aF|skip
   all_goals (cases y<;>first|exact aF|skip)
   all_goals (simp only[cJ,bL]at hx hy;subst hx hy;exact aC rfl)
  case float =>
   cases x<;>first|exact aF|skip
   cases y<;>first|exact aF|skip
   rw[cm]at hx hy;subst hx hy;dsimp only;split
   ·exact aC rfl
   ·exact aF
  case complex =>
   cases x<;>first|exact aF|skip
   cases y<;>first|exact aF|skip
   rw[bI]at hx hy;subst hx hy;dsimp only;split
   ·exact aC rfl
   ·exact aF
  case pointer =>
   cases x<;>first|exact aF|skip
   rename_i a;cases a<;>cases y<;>first|exact aF|skip
   all_goals (rename_i b;rw[bj]at hx hy;cases b<;>(subst hx hy;first|exact aC rfl|skip))
   rename_i a b;dsimp only[Option.map_some];refine ai (dW _) ?_;rintro n _ rfl;split
   ·exact yc hf a b
   ·rw[ya hf];split
    ·exact aC rfl
    ·refine ai (jm _) ?_;rintro n _ rfl;exact aC rfl
  case interface =>
   cases x<;>first|exact aF|skip
   all_goals (cases y<;>first|exact aF|skip)
   all_goals (simp only[b7,bE]at hx hy;subst hx hy;first|exact aC rfl|skip)
   dsimp only;split
   ·exact aC rfl
   ·refine ai (fX _) ?_;rintro i _ ⟨rfl,_⟩;split
    ·refine ai ee ?_;rintro _ _ ⟨rfl,rfl⟩;refine ai ee ?_;rintro _ _ ⟨rfl,rfl⟩;refine fO aZ ?_;refine ai (Al _) ?_;rintro s _ rfl;exact b9 hf _
    ·exact ih _ _ _ _ _ rfl rfl
  case struct =>
   cases x<;>first|exact aF|skip
   cases y<;>first|exact aF|skip
   rw[db]at hx hy;subst hx hy;dsimp only;refine ai ee ?_;rintro _ _ ⟨rfl,rfl⟩;refine fO aZ ?_;refine ai (A:=Eq) (zx _ _ λg _ acc=>?_) ?_
   ·split
    ·refine ai (lz _ _ _) ?_;rintro a _ rfl;refine ai (lz _ _ _) ?_;rintro b _ rfl;refine ai (ih _ _ _ _ _ rfl rfl) ?_;rintro c _ rfl;cases c<;>exact aC rfl
    ·exact aC rfl
   ·rintro r _ rfl;try dsimp only
    split<;>exact aC rfl
  case array =>
   cases x<;>first|exact aF|skip
   cases y<;>first|exact aF|skip
   rw[db]at hx hy;subst hx hy;dsimp only;refine ai (dW _) ?_;rintro m _ rfl;refine ai (A:=Eq) (pO _ _ λg acc=>?_) ?_
   ·refine ai (lz _ _ _) ?_;rintro a _ rfl;refine ai (lz _ _ _) ?_;rintro b _ rfl;refine ai (ih _ _ _ _ _ rfl rfl) ?_;rintro c _ rfl;cases c<;>exact aC rfl
   ·rintro r _ rfl;try dsimp only
    split<;>exact aC rfl
  case int =>
   cases x
   case int k a =>
    cases y
    case int k' b =>
     rw[da]at hx hy;subst hx hy;dsimp only;split
     ·exact aC rfl
     ·exact aF
    case pointer pb =>
     rw[da]at hx;rw[bj]at hy;subst hx hy;cases pb
     ·exact aZ
     ·rcases a with(_|_)|_
      ·exact aC rfl
      ·exact aZ
      ·exact aZ
    all_goals exact aF
   case pointer pa =>
    rw[bj]at hx;subst hx;cases pa
    ·cases y<;>exact aZ
    ·rename_i pa;cases y
     case int k b =>
      rw[da]at hy;subst hy;rcases b with(_|_)|_
      ·exact aC rfl
      ·exact aZ
      ·exact aZ
     case pointer pb =>
      rw[bj]at hy;subst hy;cases pb
      ·exact aZ
      ·rename_i pb;dsimp only[Option.map_some];refine ai (fB pa) ?_;rintro⟨a,la⟩ _ rfl;refine ai (fB pb) ?_;rintro⟨b,lb⟩ _ rfl;dsimp only;refine ai ee ?_;rintro _ _ ⟨rfl,rfl⟩;simp only[xg,E4 hf,R1 hf,ya hf];split
       ·refine ai (mU a) ?_;rintro u _ rfl;refine ai (mU b) ?_;rintro w _ rfl;exact aC rfl
       ·refine ai (fX _) ?_;rintro i _ ⟨rfl,_⟩;split
        ·split
         ·exact aC rfl
         ·exact aZ
        ·exact aZ
     all_goals exact aZ
   all_goals (cases y<;>first|exact aF|exact aZ)
  all_goals exact aF
def zy(hf:ov P f)(t:TypeId)(x y:Value):Rel P f Eq (Op.equal t x y) (Op.equal t (val f x) (val f y)):=Io hf _ t x y _ _ rfl rfl
def wC:∀(d:Nat) (t:TypeId) (x y:Value),Rel P f Eq (Op.eqGuardIn d t x y) (Op.eqGuardIn d t (val f x) (val f y)):=by
 intro d
 induction d with
 |zero=>intro t x y;exact aZ
 |succ d ih =>
  intro t x y;unfold Op.eqGuardIn;refine ai (bp t) ?_;rintro u _ ⟨rfl,_⟩;cases u
  case interface =>
   cases x<;>cases y<;>simp only[cP,da,cm,bI,bP,bj,bH,de,cI,cJ,bL,b7,bE,db,b8]<;>exact aC rfl
  case struct =>
   cases x<;>cases y<;>simp only[cP,da,cm,bI,bP,bj,bH,de,cI,cJ,bL,b7,bE,db,b8]<;>first|exact aC rfl|skip
   refine ai (A:=Eq) (zx _ _ λg _ acc=>?_) ?_
   ·split
    ·refine ai (lz _ _ _) ?_;rintro a _ rfl;refine ai (lz _ _ _) ?_;rintro b _ rfl;refine ai (ih _ _ _) ?_;rintro c _ rfl;cases c<;>exact aC rfl
    ·exact aC rfl
   ·rintro r _ rfl;try dsimp only
    split<;>exact aC rfl
  case array =>
   cases x<;>cases y<;>simp only[cP,da,cm,bI,bP,bj,bH,de,cI,cJ,bL,b7,bE,db,b8]<;>first|exact aC rfl|skip
   refine ai (dW _) ?_;rintro m _ rfl;refine ai (A:=Eq) (pO _ _ λg acc=>?_) ?_
   ·refine ai (lz _ _ _) ?_;rintro a _ rfl;refine ai (lz _ _ _) ?_;rintro b _ rfl;refine ai (ih _ _ _) ?_;rintro c _ rfl;cases c<;>exact aC rfl
   ·rintro r _ rfl;try dsimp only
    split<;>exact aC rfl
  all_goals exact aC rfl
def Ip(op:BinOp)(t:TypeId)(x y:Operand)(a b:Value):Rel P f (λ_ _=>True) (eqGuard op t x y a b) (eqGuard op t x y (val f a) (val f b)):=by
 unfold eqGuard;generalize hc:(!(op matches .eql|.neq))=c;cases c
 case true=>exact aC trivial
 case false =>
  simp only[aT,if_false];cases a<;>cases b<;>simp only[cP,da,cm,bI,bP,bj,bH,de,cI,cJ,bL,b7,bE,db,b8]<;>first|exact aC trivial|skip
  ·generalize R2:((x matches .const _)||(y matches .const _))=c2;cases c2
   case true=>exact aC trivial
   case false =>
    simp only[aT,if_false];refine ai (A:=Eq) (by have:=wC (P:=P) (f:=f) Op.maxDepth t .nilIface .nilIface;simpa using this) ?_;rintro c _ rfl;cases c
    ·exact aC trivial
    ·exact aZ
  ·rename_i xs ys;refine ai ee ?_;rintro _ _ ⟨rfl,rfl⟩;refine ai ee ?_;rintro _ _ ⟨rfl,rfl⟩;split
   ·exact aC trivial
   ·refine ai (A:=Eq) (by have:=wC (P:=P) (f:=f) Op.maxDepth t (.agg xs) (.agg ys);simpa using this) ?_;rintro c _ rfl;cases c
    ·exact aC trivial
    ·exact aZ
def Pk(op:UnOp)(x:Value):Rel P f (V f) (Op.unary op x) (Op.unary op (val f x)):=by
 cases x<;>simp only[cP,da,cm,bI,bP,bj,bH,de,cI,cJ,bL,b7,bE,db,b8]<;>cases op<;>simp only[Op.unary,Op.intArith,Op.intBits]<;>first|exact aF|exact aC (by simp[V])|skip
 all_goals (rename_i a;cases a<;>first|exact aZ|exact aF)
def yd(op:BinOp)(x y:ag):Rel P f (V f) (Op.stringOp op x y) (Op.stringOp op x y):=by
 cases op<;>simp only[Op.stringOp]<;>first|exact aF|exact aC (by simp[V])|skip
 split
 ·exact aZ
 ·exact aC (by simp[V])
def Pm(hf:ov P f)(op:BinOp)(t:TypeId)(k k':IntKind)(a b:Int):Rel P f (V f) (binOp op t (.int k a) (.int k' b)) (binOp op t (.int k a) (.int k' b)):=by
 cases op<;>simp only[binOp,Op.shift,Op.intArith,Op.intDiv,Op.intBits,Op.intCmp];all_goals repeat' (first|exact aF|exact b9 hf _|exact aC (by simp[V])|split)
def oZ(t:TypeId)(p n:Value):Rel P f (V f) (Builtin.unsafeAdd_ #[] t #[p,n]) (Builtin.unsafeAdd_ #[] t #[val f p,val f n]):=by
 cases p<;>first|exact aF|skip
 rename_i a;rw[bj];refine ai (oy n) ?_;rintro m _ rfl;cases a with
 |none =>
  dsimp only[Option.map_none];split
  ·exact aZ
  ·refine fO aZ aZ
 |some a =>
  dsimp only[Option.map_some];split
  ·refine ai (tn a.block) ?_;rintro x _ rfl;rw[Option.isSome_map];cases x.isSome
   ·exact aC (by simp[V])
   ·exact aZ
  ·refine fO aZ ?_;refine ai (A:=Eq) (iL a.block) ?_;rintro x _ rfl;split
   ·refine ai ee ?_;rintro _ _ ⟨rfl,rfl⟩;rw[BK];split
    ·exact aC (by simp[V,addr])
    ·exact aZ
   ·exact aZ
def ye(a:Addr)(l:Bool):Rel P f (V f) (asNumber a l) (asNumber (addr f a) l) :=
 ai (mR (o:=.number a l) (by simp[obj]) rfl) (by rintro r _ rfl;exact aC (by simp[V]))
def pP(t:TypeId)(x y:Value):Rel P f (V f) (movedNumber t x y) (movedNumber t (val f x) (val f y)):=by
 unfold movedNumber;refine ai (bp t) ?_;rintro d _ ⟨rfl,_⟩;try dsimp only
 refine fO aZ ?_;cases x
 case pointer a =>
  cases a with
  |none=>simp only[bj,Option.map_none];have:=oZ (P:=P) (f:=f) t (.pointer we) y;simpa using this
  |some a =>
   simp only[bj,aK];refine ai (fB a) ?_;rintro⟨b,l⟩ _ rfl;refine ai (A:=V f) (by have:=oZ (P:=P) (f:=f) t (.pointer (so b)) y;simpa using this) ?_;rintro v _ rfl;cases v<;>simp only[cP,da,cm,bI,bP,bj,bH,de,cI,cJ,bL,b7,bE,db,b8]<;>first|exact aC (by simp[V])|skip
   rename_i c;cases c
   ·exact aC (by simp[V])
   ·exact ye _ _
 all_goals simp only[cP,da,cm,bI,bP,bj,bH,de,cI,cJ,bL,b7,bE,db,b8]
 all_goals exact aF
def zz(t:TypeId)(x y:Value):Rel P f (V f) (movedPointer t x y) (movedPointer t (val f x) (val f y)):=by
 unfold movedPointer;cases x
 case pointer a =>
  cases a with
  |none=>simp only[bj,Option.map_none];have:=oZ (P:=P) (f:=f) t (.pointer we) y;simpa using this
  |some a =>
   simp only[bj,aK];refine ai (x8 a.block) ?_;rintro x _ rfl;simp only[Option.isSome_map];refine fO aZ ?_;have:=oZ (P:=P) (f:=f) t (.pointer (so a)) y;simpa using this
 all_goals simp only[cP,da,cm,bI,bP,bj,bH,de,cI,cJ,bL,b7,bE,db,b8]
 all_goals exact aF
def wD(hf:ov P f)(a b:Addr):Rel P f Eq (Op.twoPlaces a b) (Op.twoPlaces (addr f a) (addr f b)):=by
 unfold Op.twoPlaces;refine ai ee ?_;rintro _ _ ⟨rfl,rfl⟩;have e:((addr f a).block != (addr f b).block||decide ((addr f a).block>=P.globals.size))=(a.block != b.block||decide (a.block>=P.globals.size)):=by
  have h1:=E4 hf a.block b.block;have h2:=R1 hf a.block;have h3:decide (f.b a.block>=P.globals.size)=decide (a.block>=P.globals.size):=by
   rw[decide_eq_decide];simp only[eq_iff_iff]at h2;omega
  show(!(f.b a.block==f.b b.block)||decide (f.b a.block>=P.globals.size))=(!(a.block==b.block)||decide (a.block>=P.globals.size));rw[h1,h3]
 rw[e];try dsimp only
 refine fO aZ ?_;refine ai (mU a) ?_;rintro x _ rfl;refine ai (mU b) ?_;rintro y _ rfl;exact aC rfl
def uz(k:IntKind)(a:Addr)(n:Int):Rel P f (V f) (Op.addrMod k a n) (Op.addrMod k (addr f a) n):=by
 unfold Op.addrMod;refine ai (A:=Eq) (iL a.block) ?_;rintro x _ rfl;split
 ·refine ai (fX _) ?_;rintro i _ ⟨rfl,_⟩;try dsimp only
  refine fO aZ ?_;refine ai (mU a) ?_;rintro x _ rfl;exact aC (by simp[V])
 ·exact aZ
def Calm(P:Program){α:Type}(Q:α->Prop):Sem α->Prop
 | .pure a=>Q a
 | .choose _ k=>∀n,Calm P Q (k n)
 | .program k=>Calm P Q (k P)
 | .halt h=>pN h=true
 |_=>False
def R3{Q:α->Prop}:∀{s:Sem α},Calm P Q s->Rel P f (λa b=>a=b/\Q a) s s:=by
 intro s
 induction s with
 |pure a=>intro h;exact⟨rfl,h⟩
 |choose q k ih=>intro h;exact⟨rfl,λn=>ih n (h n)⟩
 |program k ih=>intro h;exact ih P h
 |halt hh=>intro h;exact uo h
 |_=>intro h;exact h.elim
def fa{Q:α->Prop}{R:γ->Prop}:∀{s:Sem α} {k:α->Sem γ},Calm P Q s->(∀a,Q a->Calm P R (k a))->Calm P R (s>>=k):=by
 intro s
 induction s with
 |pure a=>intro k h hk;exact hk a h
 |choose q k ih=>intro k' h hk;exact λn=>ih n (h n) hk
 |program k ih=>intro k' h hk;exact ih P h hk
 |halt hh=>intro k h hk;exact h
 |_=>intro k h hk;exact h.elim
def Plain(v:Value):Prop:=∀f:Rn,val f v=v
def qu{s:Sem Value}(h:Calm P Plain s):Rel P f (V f) s s:=H6 (R3 h) (by rintro a _ ⟨rfl,h⟩;exact(h f).symm)
def BY{R:γ->Prop}{a:α}{k:α->Sem γ}(h:Calm P R (k a)):Calm P R (pure a>>=k):=h
def tN(op:BinOp)(k:FloatKind)(x y:Nat):Calm P (λv=>∃k r,v=.float k r) (Op.floatArith op k x y):=by
 have tail:∀r:Option Nat,Calm P (λv=>∃k r,v=.float k r) (match r with|some r=>(pure (.float k r):Sem Value)|none=>do pure (.float k (<- choose (.nanBits k x y)))):=by
  intro r;cases r
  ·exact λn=>⟨_,_,rfl⟩
  ·exact⟨_,_,rfl⟩
 cases op<;>first|exact tail _|trivial
def wE(op:BinOp)(k:FloatKind)(x y:Nat):Calm P (λv=>∃b,v=.bool b) (Op.floatCmp op k x y):=by
 cases op<;>simp only[Op.floatCmp]<;>first|trivial|exact⟨_,rfl⟩
def lM(k:FloatKind)(x:Nat)(d:FloatKind):Calm P (λv=>∃k r,v=.float k r) (Conv.floatToFloat k x d):=by
 unfold Conv.floatToFloat;split
 ·exact⟨_,_,rfl⟩
 ·split
  ·exact λn=>⟨_,_,rfl⟩
  ·exact⟨_,_,rfl⟩
  ·dsimp only;split
   ·exact λn=>⟨_,_,rfl⟩
   ·exact⟨_,_,rfl⟩
def oz(op:BinOp)(k:FloatKind)(x y:Nat):Calm P (λ_=>True) (Op.Complex.arith op k x y) :=
 fa (tN op k x y) (by rintro _ ⟨k,r,rfl⟩;trivial)
def yf(op:BinOp)(k:FloatKind)(x y:Nat):Calm P (λ_=>True) (Op.Complex.cmp op k x y) :=
 fa (wE op k x y) (by rintro _ ⟨b,rfl⟩;trivial)
def vr(k:FloatKind)(x:Nat)(d:FloatKind):Calm P (λ_=>True) (Op.Complex.conv k x d):=by
 unfold Op.Complex.conv
 split
 ·trivial
 ·exact fa (lM k x d) (by rintro _ ⟨k,r,rfl⟩;trivial)
def Gj(a b c d:Nat):Calm P (λ_=>True) (Op.Complex.product a b c d):=by
 unfold Op.Complex.product
 repeat' (first|(refine fa (oz _ _ _ _) ?_;intro _ _)|trivial)
def uA(s a b c d:Nat):Calm P (λ_=>True) (Op.Complex.corrected s a b c d):=by
 unfold Op.Complex.corrected
 repeat' (first|(refine fa (oz _ _ _ _) ?_;intro _ _)|trivial)
def Eg(a b c d:Nat):Calm P (λ_=>True) (Op.Complex.quotient a b c d):=by
 unfold Op.Complex.quotient;dsimp only;refine fa (yf _ _ _ _) ?_;intro x _;cases x;all_goals simp only[aT,if_false,if_true]
 all_goals
  iterate 9 (refine fa (oz _ _ _ _) ?_;intro _ _)
  refine BY ?_
  iterate 2 (refine fa (yf _ _ _ _) ?_;intro _ _)
  split
  ·exact True.intro
  ·split
   ·iterate 2 (refine fa (oz _ _ _ _) ?_;intro _ _)
    exact True.intro
   ·split
    ·exact uA _ _ _ _ _
    ·split
     ·exact uA _ _ _ _ _
     ·exact True.intro
def BZ(op:BinOp)(k:FloatKind)(a b c d:Nat):Calm P Plain (Op.complexOp op k a b c d):=by
 cases op<;>simp only[Op.complexOp]<;>first|trivial|skip
 ·iterate 2 (refine fa (oz _ _ _ _) ?_;intro _ _)
  exact λg=>aj
 ·iterate 2 (refine fa (oz _ _ _ _) ?_;intro _ _)
  exact λg=>aj
 ·iterate 4 (refine fa (vr _ _ _) ?_;intro _ _)
  refine fa (Gj _ _ _ _) ?_;intro _ _
  iterate 2 (refine fa (vr _ _ _) ?_;intro _ _)
  exact λg=>aj
 ·iterate 4 (refine fa (vr _ _ _) ?_;intro _ _)
  refine fa (Eg _ _ _ _) ?_;intro _ _
  iterate 2 (refine fa (vr _ _ _) ?_;intro _ _)
  exact λg=>aj
 ·iterate 2 (refine fa (yf _ _ _ _) ?_;intro _ _)
  exact λg=>aj
 ·iterate 2 (refine fa (yf _ _ _ _) ?_;intro _ _)
  exact λg=>aj
def LG:Value->Value->Bool
 | .int ..,.int .. | .float ..,.float .. | .complex ..,.complex .. | .string ..,.string ..=>true
 |_,_=>false
def binOp_eql(t:TypeId)(x y:Value)(h:LG x y=false):binOp .eql t x y=(do pure (.bool (<- Op.equal t x y))):=by
 cases x<;>cases y<;>first|rfl|exact Bool.noConfusion h
def binOp_neq(t:TypeId)(x y:Value)(h:LG x y=false):binOp .neq t x y=(do pure (.bool (!(<- Op.equal t x y)))):=by
 cases x<;>cases y<;>first|rfl|exact Bool.noConfusion h
def Iq(x y:Value):LG (val f x) (val f y)=LG x y:=by
 cases x<;>simp only[cP,da,cm,bI,bP,bj,bH,de,cI,cJ,bL,b7,bE,db,b8]<;>cases y<;>simp only[cP,da,cm,bI,bP,bj,bH,de,cI,cJ,bL,b7,bE,db,b8]<;>rfl
def Gk{α:Type}:Sem α->Bool
 | .halt h=>pN h
 |_=>false
def NP{α:Type}(s:Sem α):Prop:=Gk s=true
def zB{s:Sem α}{s':Sem β}(h:NP s):Rel P f A s s':=by
 cases s with
 |halt hh=>exact uo h
 |_=>exact Bool.noConfusion h
def E5:Value->Bool
 | .pointer _=>true
 |_=>false
def Ir(op:BinOp)(t:TypeId)(x y:Value)(hb:LG x y=false)(hp:E5 x=false)(hq:E5 y=false)(h1:op≠.eql)(h2:op≠.neq):NP (binOp op t x y):=by
 cases op<;>first|exact absurd rfl h1|exact absurd rfl h2|skip
 all_goals (cases x<;>first|exact Bool.noConfusion hp|skip)
 all_goals (cases y<;>first|(show Gk _=true;rfl)|exact Bool.noConfusion hb|exact Bool.noConfusion hq)
def zC{Q R:α->Prop}{s:Sem α}(h:Calm P Q s)(hq:∀a,Q a->R a):Calm P R s:=by
 have:=fa (R:=R) (k:=λa=>Sem.pure a) h (λa ha=>hq a ha);have e:(s>>=λa=>Sem.pure a)=s:=bind_pure s;rwa[e]at this
def B0(op:BinOp)(t:TypeId)(a:Option Addr)(y:Value)(hq:E5 y=false)(hi:∀k n,y≠.int k n)(h1:op≠.eql)(h2:op≠.neq):NP (binOp op t (.pointer a) y)/\NP (binOp op t y (.pointer a)):=by
 cases op<;>first|exact absurd rfl h1|exact absurd rfl h2|skip
 all_goals (cases a<;>cases y<;>first|exact Bool.noConfusion hq|exact absurd rfl (hi _ _)|exact⟨by show Gk _=true;rfl,by show Gk _=true;rfl⟩)
def LH(hf:ov P f)(op:BinOp)(t:TypeId)(a:Option Addr)(k:IntKind)(n:Int)(h1:op≠.eql)(h2:op≠.neq):Rel P f (V f) (binOp op t (.pointer a) (.int k n)) (binOp op t (.pointer (a.map (addr f))) (.int k n)):=by
 cases op<;>first|exact absurd rfl h1|exact absurd rfl h2|exact aZ|skip
 ·refine ai (bp t) ?_;rintro d _ ⟨rfl,_⟩;split
  ·have:=zz (P:=P) (f:=f) t (.pointer a) (.int k n);simpa using this
  ·have:=pP (P:=P) (f:=f) t (.pointer a) (.int k n);simpa using this
 ·show Rel P f (V f) (movedNumber t (.pointer a) (.int k (-n))) (movedNumber t (.pointer (a.map (addr f))) (.int k (-n)));have:=pP (P:=P) (f:=f) t (.pointer a) (.int k (-n));simpa using this
 ·cases a with
  |none=>exact aZ
  |some a =>
   refine ai (fB a) ?_;rintro⟨c,l⟩ _ rfl;exact uz _ _ _
 ·cases a with
  |none=>exact aZ
  |some a =>
   refine ai (fB a) ?_;rintro⟨c,l⟩ _ rfl;exact uz _ _ _
 all_goals (cases a<;>exact aZ)
def LI(hf:ov P f)(op:BinOp)(t:TypeId)(a:Option Addr)(k:IntKind)(n:Int)(h1:op≠.eql)(h2:op≠.neq):Rel P f (V f) (binOp op t (.int k n) (.pointer a)) (binOp op t (.int k n) (.pointer (a.map (addr f)))):=by
 cases op<;>first|exact absurd rfl h1|exact absurd rfl h2|exact aZ|skip
 ·show Rel P f (V f) (movedNumber t (.pointer a) (.int k n)) (movedNumber t (.pointer (a.map (addr f))) (.int k n));have:=pP (P:=P) (f:=f) t (.pointer a) (.int k n);simpa using this
 ·cases a with
  |none=>exact aZ
  |some a =>
   refine ai (fB a) ?_;rintro⟨c,l⟩ _ rfl;exact uz _ _ _
def Is(hf:ov P f)(op:BinOp)(a b:Addr):Rel P f (V f) (Op.addrCmp op a b) (Op.addrCmp op (addr f a) (addr f b)):=by
 refine ai (wD hf a b) ?_;rintro⟨x,y⟩ _ rfl;cases op<;>first|exact aZ|exact aC (by simp[V])
def LJ(hf:ov P f)(op:BinOp)(t:TypeId)(a b:Option Addr)(h1:op≠.eql)(h2:op≠.neq):Rel P f (V f) (binOp op t (.pointer a) (.pointer b)) (binOp op t (.pointer (a.map (addr f))) (.pointer (b.map (addr f)))):=by
 cases a with
 |none=>cases b<;>cases op<;>first|exact absurd rfl h1|exact absurd rfl h2|exact aZ
 |some a =>
  cases b with
  |none=>cases op<;>first|exact absurd rfl h1|exact absurd rfl h2|exact aZ
  |some b =>
   cases op<;>first|exact absurd rfl h1|exact absurd rfl h2|exact aZ|skip
   ·refine ai (fB a) ?_;rintro⟨c,l⟩ _ rfl;refine ai (fB b) ?_;rintro⟨d,m⟩ _ rfl;refine ai (wD hf c d) ?_;rintro⟨x,y⟩ _ rfl;exact aC (by simp[V])
   all_goals
    refine ai (fB a) ?_;rintro⟨c,l⟩ _ rfl;refine ai (fB b) ?_;rintro⟨d,m⟩ _ rfl;exact Is hf _ _ _
def Pn(hf:ov P f)(op:BinOp)(t:TypeId)(x y:Value):Rel P f (V f) (binOp op t x y) (binOp op t (val f x) (val f y)):=by
 by_cases hb:LG x y=true
 ·cases x<;>cases y<;>first|exact Bool.noConfusion hb|skip
  ·simp only[da];exact Pm hf _ _ _ _ _ _
  ·rename_i k a k' b;simp only[cm];refine qu ?_;have q1:∀op,Calm P Plain (Op.floatArith op k a b):=λop=>zC (tN op k a b) (by rintro _ ⟨k,r,rfl⟩ g;simp);have q2:∀op,Calm P Plain (Op.floatCmp op k a b):=λop=>zC (wE op k a b) (by rintro _ ⟨r,rfl⟩ g;simp);by_cases hk:k=k'
   ·subst hk;cases op<;>simp only[binOp,ne_eq,not_true_eq_false,if_false]<;>first|exact q1 _|exact q2 _
   ·cases op<;>simp only[binOp,ne_eq,hk,not_false_eq_true,if_true]<;>trivial
  ·rename_i k a b k' c d;simp only[bI];refine qu ?_;by_cases hk:k=k'
   ·subst hk;cases op<;>simp only[binOp,ne_eq,not_true_eq_false,if_false]<;>exact BZ _ _ _ _ _ _
   ·cases op<;>simp only[binOp,ne_eq,hk,not_false_eq_true,if_true]<;>trivial
  ·rename_i a b;simp only[bP];have e:binOp op t (.string a) (.string b)=Op.stringOp op a b:=by cases op<;>rfl
   rw[e];exact yd _ _ _
 ·have hb:LG x y=false:=by simpa using hb
  by_cases h1:op=.eql
  ·subst h1;rw[binOp_eql _ _ _ hb,binOp_eql _ _ _ (by rw[Iq];exact hb)];exact ai (zy hf t x y) (by rintro b _ rfl;exact aC (by simp[V]))
  ·by_cases h2:op=.neq
   ·subst h2;rw[binOp_neq _ _ _ hb,binOp_neq _ _ _ (by rw[Iq];exact hb)];exact ai (zy hf t x y) (by rintro b _ rfl;exact aC (by simp[V]))
   ·by_cases hp:E5 x=true
    ·cases x<;>first|exact Bool.noConfusion hp|skip
     rw[bj];by_cases hi:∃k n,y=.int k n
     ·obtain⟨k,n,rfl⟩:=hi;rw[da];exact LH hf op t _ k n h1 h2
     ·by_cases hq:E5 y=true
      ·cases y<;>first|exact Bool.noConfusion hq|skip
       rw[bj];exact LJ hf op t _ _ h1 h2
      ·exact zB (B0 op t _ y (by simpa using hq) (λk n e=>hi ⟨k,n,e⟩) h1 h2).1
    ·by_cases hq:E5 y=true
     ·cases y<;>first|exact Bool.noConfusion hq|skip
      rw[bj];by_cases hi:∃k n,x=.int k n
      ·obtain⟨k,n,rfl⟩:=hi;rw[da];exact LI hf op t _ k n h1 h2
      ·exact zB (B0 op t _ x (by simpa using hp) (λk n e=>hi ⟨k,n,e⟩) h1 h2).2
     ·exact zB (Ir op t x y hb (by simpa using hp) (by simpa using hq) h1 h2)
def pZ(hf:ov P f)(e:Bool):∀(n:Nat) (t:TypeId) (v:Value),Rel P f Eq (Instr.checkKey e n t v) (Instr.checkKey e n t (val f v)):=by
 intro n
 induction n with
 |zero=>intro t v;exact aZ
 |succ n ih =>
  intro t v;obtain⟨v',hv⟩:∃v',v'=val f v:=⟨_,rfl⟩;rw[<- hv];unfold Instr.checkKey;refine ai (bp t) ?_;rintro u _ ⟨rfl,_⟩;cases u
  case interface =>
   cases v<;>first|exact aF|skip
   ·rename_i d x;rw[b7]at hv;subst hv;dsimp only;refine ai (fX d) ?_;rintro i _ ⟨rfl,_⟩;have pan:∀(x:RuntimeError) (k k':PUnit->Sem PUnit),tg x=true->Rel P f Eq (runtimePanic x>>=k) (runtimePanic x>>=k'):=λx k k' he=>ai (A:=λ_ _=>False) (b9 hf x he) (λ_ _ h=>h.elim);split
    ·split
     ·exact pan _ _ _ rfl
     ·refine ai (Al _) ?_;rintro s _ rfl;exact pan _ _ _ rfl
    ·exact ih d x
   ·rw[bE]at hv;subst hv;exact aC rfl
  case array =>
   cases v<;>first|exact aF|skip
   rw[db]at hv;subst hv;refine ai (A:=Eq) (pO _ _ λi a=>?_) (by rintro _ _ rfl;exact aC rfl);refine ai (dW _) ?_;rintro m _ rfl;refine ai (lz _ _ _) ?_;rintro x _ rfl;refine ai (ih _ _) ?_;rintro _ _ rfl;exact aC rfl
  case struct =>
   cases v<;>first|exact aF|skip
   rw[db]at hv;subst hv;refine ai (A:=Eq) (zx _ _ λi _ a=>?_) (by rintro _ _ rfl;exact aC rfl);split
   ·refine ai (lz _ _ _) ?_;rintro x _ rfl;refine ai (ih _ _) ?_;rintro _ _ rfl;exact aC rfl
   ·exact aC rfl
  all_goals exact aC rfl
abbrev found(f:Rn):Option (Nat×Value)->Option (Nat×Value)->Prop:=λa b=>b=a.map λx=>(x.1,val f x.2)
def B2(hf:ov P f)(t:TypeId)(k:Value):∀(es:List MapEntry) (i:Nat),Rel P f (found f) (Instr.findAsking t k es i) (Instr.findAsking t (val f k) (es.map (entry f)) i):=by
 intro es
 induction es with
 |nil=>intro i;exact aC rfl
 |cons e es ih =>
  intro i;simp only[aB,Instr.findAsking];refine ai (zy hf t k e.key) ?_;rintro b _ rfl;cases b
  ·exact ih _
  ·exact aC rfl
def It(d:TypeDesc)(x y:Value):Instr.sameNow d (val f x) (val f y)=Instr.sameNow d x y:=by
 cases d<;>first|rfl|skip
 all_goals (cases x<;>simp only[cP,da,cm,bI,bP,bj,bH,de,cI,cJ,bL,b7,bE,db,b8]<;>first|rfl|skip)
 all_goals (cases y<;>simp only[cP,da,cm,bI,bP,bj,bH,de,cI,cJ,bL,b7,bE,db,b8]<;>rfl)
def Iu(d:TypeDesc)(k:Value):∀(es:List MapEntry) (i:Nat),Instr.findNow d (val f k) (es.map (entry f)) i=(Instr.findNow d k es i).map λr=>r.map λx=>(x.1,val f x.2):=by
 intro es
 induction es with
 |nil=>intro i;rfl
 |cons e es ih =>
  intro i;simp only[aB,Instr.findNow];have:Instr.sameNow d (val f k) (entry f e).key=Instr.sameNow d k e.key:=It d k e.key;rw[this];cases Instr.sameNow d k e.key with
  |none=>rfl
  |some b =>
   cases b
   ·exact ih _
   ·rfl
def uB(hf:ov P f)(t:TypeId)(k:Value)(es:List MapEntry):Rel P f (found f) (Instr.findKey t k es) (Instr.findKey t (val f k) (es.map (entry f))):=by
 refine ai (bp t) ?_;rintro d _ ⟨rfl,_⟩;rw[Iu];cases Instr.findNow d k es 0 with
 |none=>exact B2 hf t k es 0
 |some r=>exact aC rfl
def LK(hf:ov P f)(t:TypeId)(x i:Value)(ok:Bool):Rel P f (V f) (Instr.lookup t x i ok) (Instr.lookup t (val f x) (val f i) ok):=by
 refine ai (bp t) ?_;rintro d _ ⟨rfl,_⟩;cases d<;>first|exact aF|skip
 rename_i key elem _;have tail:∀es:Array MapEntry,Rel P f (V f) (do
   Instr.checkKey es.isEmpty 10000 key i
   let (v,ok') <- match <- Instr.findKey key i es.toList with
    |some (_,v)=>pure (v,true)
    |none=>pure (<- zeroValue elem,false)
   pure (if ok then .tuple #[v,.bool ok'] else v)) (do
   Instr.checkKey (es.map (entry f)).isEmpty 10000 key (val f i)
   let (v,ok') <- match <- Instr.findKey key (val f i) (es.map (entry f)).toList with
    |some (_,v)=>pure (v,true)
    |none=>pure (<- zeroValue elem,false)
   pure (if ok then .tuple #[v,.bool ok'] else v)):=by
  intro es;have e1:(es.map (entry f)).isEmpty=es.isEmpty:=by simp[Array.isEmpty]
  rw[e1];refine ai (pZ hf _ _ _ _) ?_;rintro _ _ rfl;rw[cC];refine ai (uB hf key i es.toList) ?_;rintro r _ rfl;cases r with
  |some y =>
   refine aC ?_;cases ok<;>simp[V]
  |none =>
   refine ai (jh hf elem) ?_;rintro z _ ⟨rfl,hz⟩;refine aC ?_;cases ok<;>simp[V,hz]
 cases x<;>first|exact aF|skip
 rename_i r;rw[de];cases r with
 |none =>
  have h:=tail #[];rw[show(#[]:Array MapEntry).map (entry f)=#[] by simp]at h;exact h
 |some r =>
  refine ai (jT r) ?_;rintro o _ rfl;cases o<;>first|exact aF|skip
  exact tail _
def An(hf:ov P f)(a b:Option Addr):(a.map (addr f)==b.map (addr f))=(a==b):=by
 cases a<;>cases b<;>first|rfl|skip
 rename_i a b;have:=ya hf a b;simpa using this
def B4(hf:ov P f)(a b:Option Nat):(a.map f.b==b.map f.b)=(a==b):=by
 cases a<;>cases b<;>first|rfl|skip
 rename_i a b;have:=E4 hf a b;simpa using this
def Gl(hf:ov P f):∀(n:Nat) (x y:Value),Instr.sameBits n (val f x) (val f y)=Instr.sameBits n x y:=by
 intro n
 induction n with
 |zero =>
  intro x y;cases x<;>simp only[cP,da,cm,bI,bP,bj,bH,de,cI,cJ,bL,b7,bE,db,b8]<;>cases y<;>simp only[cP,da,cm,bI,bP,bj,bH,de,cI,cJ,bL,b7,bE,db,b8,Instr.sameBits]
  ·rename_i a b;exact An hf a b
  ·rename_i a b;exact B4 hf a b
 |succ n ih =>
  intro x y;cases x<;>simp only[cP,da,cm,bI,bP,bj,bH,de,cI,cJ,bL,b7,bE,db,b8]<;>cases y<;>simp only[cP,da,cm,bI,bP,bj,bH,de,cI,cJ,bL,b7,bE,db,b8,Instr.sameBits,ih]
  ·rename_i a b;exact An hf a b
  ·rename_i a b;exact B4 hf a b
  ·rename_i a b;simp only[Array.size_map,Array.toList_map]
   congr 1
   generalize a.toList=l;generalize b.toList=m
   induction l generalizing m with
   |nil=>rfl
   |cons x l ih2 =>
    cases m with
    |nil=>rfl
    |cons y m=>simp only[aB,List.zip_cons_cons,List.all_cons,ih,ih2]
def zD(hf:ov P f)(a b:Value):Rel P f (V f) (Instr.keyThatStays a b) (Instr.keyThatStays (val f a) (val f b)):=by
 unfold Instr.keyThatStays;rw[Gl hf];split
 ·exact aC rfl
 ·refine ai (jm _) ?_;rintro n _ rfl;refine aC ?_;simp only[V];split<;>rfl
def wF(hf:ov P f)(t:TypeId)(m k v:Value):Rel P f (λ_ _=>True) (Instr.mapUpdate t m k v) (Instr.mapUpdate t (val f m) (val f k) (val f v)):=by
 refine ai (bp t) ?_;rintro d _ ⟨rfl,_⟩;cases d<;>first|exact aF|skip
 cases m<;>first|exact aF|skip
 rename_i r;rw[de];cases r with
 |none=>exact b9 hf _
 |some r =>
  refine ai (jT r) ?_;rintro o _ rfl;cases o<;>first|exact aF|skip
  rename_i es clock;refine ai (pZ hf _ _ _ _) ?_;rintro _ _ rfl;rw[cC];refine ai (uB hf _ k es.toList) ?_;rintro x _ rfl;cases x with
  |some y =>
   obtain⟨i,w⟩:=y;dsimp only[Option.map_some];refine ai (A:=V f) (by
    have:=zD (P:=P) hf (((es[i]?).map (·.key)).getD k) k;rw[show val f (((es[i]?).map (·.key)).getD k)=((((es.map (entry f))[i]?).map (·.key)).getD (val f k)) by
     simp only[aM];cases es[i]?<;>rfl]at this
    exact this) ?_
   rintro k2 _ rfl;refine qF r ?_ rfl;simp only[obj]
   congr 1
   apply fC;intro j;simp only[aR,aM];split<;>cases es[j]?<;>rfl
  |none =>
   refine qF r ?_ rfl;simp only[obj,Array.map_push];rfl
def mr{c c':Prop}[Decidable c][Decidable c']{a b:Sem α}{a' b':Sem β}(hc:c↔c')(h1:c->Rel P f A a a')(h2:¬c->Rel P f A b b'):Rel P f A (if c then a else b) (if c' then a' else b'):=by
 by_cases h:c
 ·rw[if_pos h,if_pos (hc.1 h)];exact h1 h
 ·rw[if_neg h,if_neg (λk=>h (hc.2 k))];exact h2 h
def wG{g g':Value->β->Sem (ForInStep β)}(xs:Array Value)(init:β)(h:∀x a,Rel P f Eq (g x a) (g' (val f x) a)):Rel P f Eq (forIn xs init g) (forIn (xs.map (val f)) init g'):=by
 rw[<- gn,<- gn,cC];generalize xs.toList=l
 induction l generalizing init with
 |nil=>simp only[aJ,List.forIn_nil];exact aC rfl
 |cons x l ih =>
  simp only[aB,List.forIn_cons];refine ai (h x init) ?_;rintro a _ rfl;cases a
  ·exact aC rfl
  ·exact ih _
def rS(a:Addr):Rel P f (λ_ _=>True) (markStringish a) (markStringish (addr f a)):=by
 refine ai (A:=Eq) (iL a.block) ?_;rintro x _ rfl;split
 ·exact BQ _ _
 ·exact aC trivial
def yg(e:TypeId)(s:ag):Rel P f (V f) (Conv.stringToBytes e s) (Conv.stringToBytes e s):=by
 refine ai (jm _) ?_;rintro c _ rfl;dsimp only;refine ai (A:=AR f) (kU _ (by simp[Function.comp_def])) ?_;rintro a _ rfl;refine ai (rS a) ?_;rintro _ _ _;exact aC (by simp[V])
def Eh(s:ag):∀(n i:Nat) (acc:Array Value),acc.map (val f)=acc->(Conv.runesFrom s n i acc).map (val f)=Conv.runesFrom s n i acc:=by
 intro n
 induction n with
 |zero=>intro i acc h;exact h
 |succ n ih =>
  intro i acc h;unfold Conv.runesFrom;split
  ·exact ih _ _ (by simp[Array.map_push,h])
  ·exact h
def yh(e:TypeId)(s:ag):Rel P f (V f) (Conv.stringToRunes e s) (Conv.stringToRunes e s):=by
 unfold Conv.stringToRunes;dsimp only;refine ai (jm _) ?_;rintro c _ rfl;have h:=Eh (f:=f) s s.size 0 #[] aj;refine ai (A:=AR f) (kU _ (by rw[gI,h];simp)) ?_;rintro a _ rfl;exact aC (by simp[V])
def yj(x:Value):Rel P f (V f) (Conv.bytesToString x) (Conv.bytesToString (val f x)):=by
 cases x<;>first|exact aF|skip
 rename_i a len cap;rw[bH];cases a with
 |none=>exact aC (by simp[V])
 |some a =>
  unfold Conv.bytesToString;dsimp only[Option.map_some];refine ai (oW a len) ?_;rintro cs _ rfl;refine ai (A:=Eq) (wG _ _ λc acc=>?_) ?_
  ·cases c<;>simp only[cP,da,cm,bI,bP,bj,bH,de,cI,cJ,bL,b7,bE,db,b8]<;>first|exact aF|skip
   rename_i k n;cases k<;>first|exact aF|exact aC rfl
  ·rintro s _ rfl;exact aC (by simp[V])
def yk(x:Value):Rel P f (V f) (Conv.runesToString x) (Conv.runesToString (val f x)):=by
 cases x<;>first|exact aF|skip
 rename_i a len cap;rw[bH];cases a with
 |none=>exact aC (by simp[V])
 |some a =>
  unfold Conv.runesToString;dsimp only[Option.map_some];refine ai (oW a len) ?_;rintro cs _ rfl;refine ai (A:=Eq) (wG _ _ λc acc=>?_) ?_
  ·cases c<;>simp only[cP,da,cm,bI,bP,bj,bH,de,cI,cJ,bL,b7,bE,db,b8]<;>first|exact aF|skip
   rename_i k n;cases k<;>first|exact aF|exact aC rfl
  ·rintro s _ rfl;exact aC (by simp[V])
def Iv(r:Nat):Rel P f Eq (cellsIn r) (cellsIn (f.b r)):=by
 refine ai (iL r) ?_;rintro x _ rfl;split
 ·exact aC rfl
 ·refine ai (jT r) ?_;rintro o _ rfl;cases o<;>exact aC (by simp[obj])
def tO(a:Addr)(u:TypeId)(n:Nat):Rel P f Eq (variablesAt a u n) (variablesAt (addr f a) u n):=by
 refine ai ee ?_;rintro _ _ ⟨rfl,rfl⟩;refine ai (A:=Eq) (iL a.block) ?_;rintro x _ rfl;split<;>exact aC rfl
def B5(a:Addr):Rel P f (AR f) (Conv.seenAt a) (Conv.seenAt (addr f a)):=by
 refine ai (tn a.block) ?_;rintro x _ rfl;cases x with
 |none=>exact aC rfl
 |some y =>
  obtain⟨s,u⟩:=y;dsimp only[Option.map_some];refine mr dj (λ_=>aC rfl) (λ_=>?_);refine fO aZ ?_;refine ai ee ?_;rintro _ _ ⟨rfl,rfl⟩;dsimp only[BK];cases byteOfCell P P.depth u a.off with
  |none=>exact aZ
  |some β =>
   refine ai (A:=Eq) (iL s.block) ?_;rintro z _ rfl;rcases z with _|⟨e,cells⟩
   ·exact aZ
   ·refine fO aZ ?_;cases cellAtBytes P P.depth e (cells/P.cellsOf e) s.off β with
    |none=>exact aZ
    |some c=>exact aC rfl
def B6(src dst:TypeId)(x:Value):Rel P f (V f) (Conv.unsafePointer src dst x) (Conv.unsafePointer src dst (val f x)):=by
 refine ai (bp src) ?_;rintro u _ ⟨rfl,_⟩;refine ai (bp dst) ?_;rintro w _ ⟨rfl,_⟩;obtain⟨x',hx⟩:∃x',x'=val f x:=⟨_,rfl⟩;rw[<- hx];cases u<;>first|exact aF|skip
 case pointer t =>
  cases w<;>first|exact aF|skip
  cases x<;>first|exact aF|skip
  rename_i a;rw[bj]at hx;subst hx;cases a with
  |none=>exact aC (by simp[V])
  |some a =>
   dsimp only[Option.map_some];refine ai (B5 a) ?_;rintro s _ rfl;refine ai (Iv s.block) ?_;rintro c _ rfl;refine ai (dW _) ?_;rintro n _ rfl;refine mr dj (λ_=>?_) (λ_=>aC (by simp[V]));refine ai (A:=λr r'=>r'=f.b r) (mR rfl rfl) ?_;rintro r _ rfl;exact aC (by simp[V])
 case unsafePointer =>
  cases w<;>first|exact aF|skip
  case pointer t =>
   cases x<;>first|exact aF|skip
   rename_i a;rw[bj]at hx;subst hx;cases a with
   |none=>exact aC (by simp[V])
   |some a =>
    dsimp only[Option.map_some];refine ai (B5 a) ?_;rintro s _ rfl;refine ai (dW _) ?_;rintro n _ rfl;refine ai (tO s _ 1) ?_;rintro b _ rfl;refine mr dj (λ_=>aC (by simp[V])) (λ_=>?_);refine ai (A:=Eq) (iL s.block) ?_;rintro z _ rfl;rcases z with _|⟨e,cells⟩
    ·exact aZ
    ·dsimp only;refine ai ee ?_;rintro _ _ ⟨rfl,rfl⟩;refine ai ee ?_;rintro _ _ ⟨rfl,rfl⟩;refine fO aZ ?_;refine ai (A:=λr r'=>r'=f.b r) (mR rfl rfl) ?_;rintro r _ rfl;exact aC (by simp[V])
  case unsafePointer =>
   cases x<;>first|exact aF|skip
   rw[bj]at hx;subst hx;exact aC (by simp[V])
  case int k =>
   cases x<;>first|exact aF|skip
   rename_i a;rw[bj]at hx;subst hx;cases a with
   |none=>exact aC (by simp[V])
   |some a=>exact ye a false
 case int =>
  cases w<;>first|exact aF|skip
  cases x<;>first|exact aF|skip
  ·rename_i k n;rcases n with(_|_)|_<;>exact aZ
  ·rename_i a;cases a<;>first|exact aF|exact aZ
def A3(k:FloatKind)(b:Nat)(d:IntKind):Calm P Plain (Conv.floatToInt k b d):=by
 unfold Conv.floatToInt;dsimp only;split
 ·split
  ·exact λg=>aj
  ·exact λn g=>aj
 ·exact λn g=>aj
def R4(k:FloatKind)(a b:Nat)(d:FloatKind):Calm P Plain (Conv.complexToComplex k a b d):=by
 refine fa (lM _ _ _) ?_;rintro _ ⟨k,r,rfl⟩;refine fa (lM _ _ _) ?_;rintro _ ⟨k,r,rfl⟩;exact λg=>aj
def Iw(hf:ov P f)(src dst:TypeId)(x:Value):Rel P f (V f) (convert src dst x) (convert src dst (val f x)):=by
 obtain⟨x',hx⟩:∃x',x'=val f x:=⟨_,rfl⟩;rw[<- hx];unfold convert;refine ai (bp src) ?_;rintro u _ ⟨rfl,_⟩;refine ai (bp dst) ?_;rintro w _ ⟨rfl,_⟩;have conv:Rel P f (V f) (Conv.unsafePointer src dst x) (Conv.unsafePointer src dst x'):=by rw[hx];exact B6 src dst x
 have hb:Rel P f (V f) (Conv.bytesToString x) (Conv.bytesToString x'):=by rw[hx];exact yj x
 have hr:Rel P f (V f) (Conv.runesToString x) (Conv.runesToString x'):=by rw[hx];exact yk x
 cases w
 case unsafePointer=>cases u<;>exact conv
 case int =>
  cases x<;>(simp only[cP,da,cm,bI,bP,bj,bH,de,cI,cJ,bL,b7,bE,db,b8]at hx;subst hx)
  case int=>exact aC (by simp[V])
  case float=>exact qu (A3 _ _ _)
  case pointer a=>cases a<;>cases u<;>first|exact aZ|exact conv
  all_goals (cases u<;>first|exact aZ|exact conv)
 case float =>
  cases x<;>(simp only[cP,da,cm,bI,bP,bj,bH,de,cI,cJ,bL,b7,bE,db,b8]at hx;subst hx)
  case int=>exact aC (by simp[V])
  case float=>exact qu (zC (lM _ _ _) (by rintro _ ⟨k,r,rfl⟩ g;simp))
  case pointer a=>cases a<;>cases u<;>first|exact aZ|exact conv
  all_goals (cases u<;>first|exact aZ|exact conv)
 case complex =>
  cases x<;>(simp only[cP,da,cm,bI,bP,bj,bH,de,cI,cJ,bL,b7,bE,db,b8]at hx;subst hx)
  case complex=>exact qu (R4 _ _ _ _)
  case pointer a=>cases a<;>cases u<;>first|exact aZ|exact conv
  all_goals (cases u<;>first|exact aZ|exact conv)
 case string =>
  cases x<;>(simp only[cP,da,cm,bI,bP,bj,bH,de,cI,cJ,bL,b7,bE,db,b8]at hx;subst hx)
  case int=>exact aC (by simp[V])
  case string=>exact aC (by simp[V])
  case pointer a =>
   cases a<;>cases u<;>first|exact aZ|exact conv|skip
   all_goals
    refine ai (bp _) ?_;rintro d _ ⟨rfl,_⟩;cases d<;>first|exact aF|skip
    rename_i k _;cases k<;>first|exact aF|exact hb|exact hr
  all_goals
   cases u<;>first|exact aZ|exact conv|skip
   refine ai (bp _) ?_;rintro d _ ⟨rfl,_⟩;cases d<;>first|exact aF|skip
   rename_i k _;cases k<;>first|exact aF|exact hb|exact hr
 case slice e =>
  cases x<;>(simp only[cP,da,cm,bI,bP,bj,bH,de,cI,cJ,bL,b7,bE,db,b8]at hx;subst hx)
  case string s =>
   refine ai (bp _) ?_;rintro d _ ⟨rfl,_⟩;cases d<;>first|exact aF|skip
   rename_i k _;cases k<;>first|exact aF|exact yg _ s|exact yh _ s
  case slice a len cap =>
   cases a with
   |none=>cases u<;>first|exact aZ|exact conv
   |some a =>
    cases u<;>first|exact aZ|exact conv|skip
    refine ai (bp _) ?_;rintro d _ ⟨rfl,_⟩;cases hsd:src==dst
    ·exact aZ
    ·cases d<;>first|exact aZ|skip
     rename_i k _;cases k<;>first|exact aZ|skip
     refine ai (rS a) ?_;rintro _ _ _;exact aC (by simp[V])
  case pointer a=>cases a<;>cases u<;>first|exact aZ|exact conv
  all_goals (cases u<;>first|exact aZ|exact conv)
 all_goals
  cases x<;>(simp only[cP,da,cm,bI,bP,bj,bH,de,cI,cJ,bL,b7,bE,db,b8]at hx;subst hx)
  case pointer a=>cases a<;>cases u<;>first|exact aZ|exact conv
  all_goals (cases u<;>first|exact aZ|exact conv)
def Vn(ts:Array TypeId)(t:TypeId)(args:Array Value):Rel P f (V f) (Builtin.len_ ts t args) (Builtin.len_ ts t (args.map (val f))):=by
 unfold Builtin.len_;rw[aM];cases ts[0]? with
 |none=>exact aF
 |some u =>
  cases args[0]? with
  |none=>exact aF
  |some x =>
   obtain⟨x',hx⟩:∃x',x'=val f x:=⟨_,rfl⟩;dsimp only[Option.map_some];rw[<- hx];refine ai (bp u) ?_;rintro d _ ⟨rfl,_⟩;cases d<;>first|exact aF|skip
   case string =>
    cases x<;>first|exact aF|skip
    rw[bP]at hx;subst hx;exact aC (by simp[V,goInt])
   case array=>exact aC (by simp[V,goInt])
   case pointer =>
    refine ai (bp _) ?_;rintro d _ ⟨rfl,_⟩;cases d<;>first|exact aF|exact aC (by simp[V,goInt])
   case slice =>
    cases x<;>first|exact aF|skip
    rw[bH]at hx;subst hx;exact aC (by simp[V,goInt])
   case map =>
    cases x<;>first|exact aF|skip
    rename_i r;rw[de]at hx;subst hx;cases r with
    |none=>exact aC (by simp[V,goInt])
    |some r =>
     refine ai (jT r) ?_;rintro o _ rfl;cases o<;>first|exact aF|exact aC (by simp[V,goInt])
   case chan =>
    cases x<;>first|exact aF|skip
    rename_i r;rw[cI]at hx;subst hx;cases r with
    |none=>exact aC (by simp[V,goInt])
    |some r =>
     refine ai (jT r) ?_;rintro o _ rfl;cases o<;>first|exact aF|exact aC (by simp[V,goInt])
def Vo(ts:Array TypeId)(t:TypeId)(args:Array Value):Rel P f (V f) (Builtin.cap_ ts t args) (Builtin.cap_ ts t (args.map (val f))):=by
 unfold Builtin.cap_;rw[aM];cases ts[0]? with
 |none=>exact aF
 |some u =>
  cases args[0]? with
  |none=>exact aF
  |some x =>
   obtain⟨x',hx⟩:∃x',x'=val f x:=⟨_,rfl⟩;dsimp only[Option.map_some];rw[<- hx];refine ai (bp u) ?_;rintro d _ ⟨rfl,_⟩;cases d<;>first|exact aF|skip
   case array=>exact aC (by simp[V,goInt])
   case pointer =>
    refine ai (bp _) ?_;rintro d _ ⟨rfl,_⟩;cases d<;>first|exact aF|exact aC (by simp[V,goInt])
   case slice =>
    cases x<;>first|exact aF|skip
    rw[bH]at hx;subst hx;exact aC (by simp[V,goInt])
   case chan =>
    cases x<;>first|exact aF|skip
    rename_i r;rw[cI]at hx;subst hx;cases r with
    |none=>exact aC (by simp[V,goInt])
    |some r =>
     refine ai (jT r) ?_;rintro o _ rfl;cases o<;>first|exact aF|exact aC (by simp[V,goInt])
def E6(x:Value):Rel P f Eq (Builtin.lenOf x) (Builtin.lenOf (val f x)):=by
 cases x<;>simp only[cP,da,cm,bI,bP,bj,bH,de,cI,cJ,bL,b7,bE,db,b8]<;>first|exact aF|exact aC rfl
def qG(s n:Nat)(x:Value):Rel P f (VS f) (Builtin.firstCells s n x) (Builtin.firstCells s n (val f x)):=by
 cases x<;>simp only[cP,da,cm,bI,bP,bj,bH,de,cI,cJ,bL,b7,bE,db,b8]<;>first|exact aF|skip
 ·exact aC (by simp[VS,Function.comp_def])
 ·rename_i a _ _;cases a with
  |none=>exact aC (by simp[VS])
  |some a=>exact oW _ _
def R5(ts:Array TypeId)(t:TypeId)(args:Array Value):Rel P f (V f) (Builtin.copy_ ts t args) (Builtin.copy_ ts t (args.map (val f))):=by
 unfold Builtin.copy_;rw[aM,aM];cases ts[0]? with
 |none=>exact aF
 |some u =>
  cases args[0]? with
  |none=>exact aF
  |some x =>
   cases args[1]? with
   |none=>exact aF
   |some y =>
    dsimp only[Option.map_some];refine ai (bp u) ?_;rintro d _ ⟨rfl,_⟩;cases d<;>first|exact aF|skip
    cases x<;>first|exact aF|skip
    rename_i a dl _;rw[bH];refine ai (E6 y) ?_;rintro n _ rfl;refine ai (dW _) ?_;rintro m _ rfl;refine ai (qG _ _ y) ?_;rintro cs _ rfl;cases a with
    |none=>exact aC (by simp[V,goInt])
    |some a =>
     dsimp only[Option.map_some];rw[cC];refine ai (lW a _ 0) ?_;rintro _ _ _;exact aC (by simp[V,goInt])
def uC(a:Addr)(n:Nat):Rel P f Eq (Builtin.holdsCells a n) (Builtin.holdsCells (addr f a) n):=by
 refine ai (A:=Eq) (iL a.block) ?_;rintro x _ rfl;split<;>exact aC rfl
def sn{z:Array Value}(hz:z.map (val f)=z)(n:Nat):(Builtin.zeroCells z n).map (val f)=Builtin.zeroCells z n:=sN hz _
def Gn(hf:ov P f)(s l n:Nat)(b:Option Addr)(x:Value):Rel P f Eq (Builtin.mayShare s l n b x) (Builtin.mayShare s l n (b.map (addr f)) (val f x)):=by
 have tail:∀t:Bool,Rel P f Eq (do
   if !t then return true
   match x with
   | .slice (so c) _ _=>do pure (!(<- Builtin.holdsCells c (n*s))||b.any (·.block==c.block))
   |_=>pure false) (do
   if !t then return true
   match val f x with
   | .slice (so c) _ _=>do pure (!(<- Builtin.holdsCells c (n*s))||(b.map (addr f)).any (·.block==c.block))
   |_=>pure false):=by
  intro t;cases t
  ·exact aC rfl
  ·cases x<;>simp only[cP,da,cm,bI,bP,bj,bH,de,cI,cJ,bL,b7,bE,db,b8]<;>first|exact aC rfl|skip
   rename_i c _ _;cases c with
   |none=>exact aC rfl
   |some c =>
    refine ai (uC c _) ?_;rintro h _ rfl;refine aC ?_;cases b with
    |none=>rfl
    |some b=>simp[E4 hf]
 unfold Builtin.mayShare;cases b with
 |none=>exact tail true
 |some a =>
  dsimp only[Option.map_some];refine ai (uC a _) ?_;rintro h _ rfl;rw[<- lu];refine ai (qE _) ?_;rintro z _ rfl;exact tail _
def Bo(e1:RuntimeError)(u:String)(elem:TypeId)(base:Option Addr)(mD mw size:Nat)(s x:Value)(nH:Bool)(n:Nat):Sem Value:=do
 let Ix:Sem (Array Value) :=
  if !nH then Builtin.firstCells size n x
  else if n*size=0 then pure #[]
  else do pure (Builtin.zeroCells (<- zeroValue elem).cells n)
 let yl:=mD+n
 if yl<=mw then
  let new <- Ix
  if let so a:=base then storeCells (a.add (mD*size)) new.toList
  pure (.slice base yl mw)
 else
  if (yl:Int)>IntKind.i64.max/\(nH\/(<- typeInfo elem).bytes=0)then runtimePanic e1
  if Builtin.nextslicecap yl mw*(<- typeInfo elem).bytes>2^48 then(if nH then runtimePanic e1 else do
   if !(<- Builtin.mayShare size mD n base x)then mark .noRoom
   unsupported (.resourceLimit u))
  let qH <- choose (.appendCap yl mw elem)
  askRoom (qH*(<- typeInfo elem).bytes)
  let old <- Builtin.firstCells size mD s;let new <- Ix;let rest:=Builtin.zeroCells (<- zeroValue elem).cells (qH-yl)
  pure (.slice (so (<- newRow elem (old++new++rest))) yl qH)
def Gp(e0 e1:RuntimeError)(q:Question)(e2:Nat->RuntimeError)(u:String)(elem:TypeId)(base:Option Addr)(mD mw size:Nat)(s x:Value)(nH:Bool):Sem Value:=do
 let n <- if nH then do
   let l:=IntKind.i64.wrap (<- asInt x)
   if l<0 then runtimePanic e0
   if l*(<- typeInfo elem).bytes>2^48 then
    let made <- choose q
    runtimePanic (e2 made)
   pure l.toNat
  else Builtin.lenOf x
 Bo e1 u elem base mD mw size s x nH n
def Ao(hf:ov P f)(e1:RuntimeError)(h1:tg e1=true)(u:String)(elem:TypeId)(base:Option Addr)(mD mw size:Nat)(x:Value)(nH:Bool)(n:Nat):
  Rel P f (V f) (Bo e1 u elem base mD mw size (.slice base mD mw) x nH n) (Bo e1 u elem (base.map (addr f)) mD mw size (.slice (base.map (addr f)) mD mw) (val f x) nH n):=by
 have app:Rel P f (VS f) (if !nH then Builtin.firstCells size n x else if n*size=0 then pure #[] else do pure (Builtin.zeroCells (<- zeroValue elem).cells n))
   (if !nH then Builtin.firstCells size n (val f x)else if n*size=0 then pure #[] else do pure (Builtin.zeroCells (<- zeroValue elem).cells n)):=by
  cases nH
  ·exact qG _ _ _
  ·refine mr dj (λh=>(by cases h)) (λ_=>?_);refine mr dj (λ_=>aC (by simp[VS])) (λ_=>?_);refine ai (jh hf _) ?_;rintro z _ ⟨rfl,hz⟩;exact aC (by simp only[VS];rw[sn (by rw[<- lC,hz])])
 unfold Bo;dsimp only;refine mr dj (λ_=>?_) (λ_=>?_)
 ·refine ai app ?_;rintro new _ rfl;cases base with
  |none=>exact aC (by simp[V])
  |some a =>
   dsimp only[Option.map_some];rw[cC,<- lu];refine ai (lW _ _ 0) ?_;rintro _ _ _;exact aC (by simp[V])
 ·refine ai (fX _) ?_;rintro i _ ⟨rfl,_⟩;refine fO (b9 hf _ h1) ?_;refine ai (fX _) ?_;rintro i2 _ ⟨rfl,_⟩;have rest:Rel P f (V f) (do
    let qH <- choose (.appendCap (mD+n) mw elem)
    askRoom (qH*(<- typeInfo elem).bytes)
    let old <- Builtin.firstCells size mD (.slice base mD mw);let new <- (if !nH then Builtin.firstCells size n x else if n*size=0 then pure #[] else do pure (Builtin.zeroCells (<- zeroValue elem).cells n));let rest:=Builtin.zeroCells (<- zeroValue elem).cells (qH-(mD+n))
    pure (.slice (so (<- newRow elem (old++new++rest))) (mD+n) qH)) (do
    let qH <- choose (.appendCap (mD+n) mw elem)
    askRoom (qH*(<- typeInfo elem).bytes)
    let old <- Builtin.firstCells size mD (.slice (base.map (addr f)) mD mw);let new <- (if !nH then Builtin.firstCells size n (val f x)else if n*size=0 then pure #[] else do pure (Builtin.zeroCells (<- zeroValue elem).cells n));let rest:=Builtin.zeroCells (<- zeroValue elem).cells (qH-(mD+n))
    pure (.slice (so (<- newRow elem (old++new++rest))) (mD+n) qH)):=by
   refine ai (jm _) ?_;rintro c _ rfl;refine ai (fX _) ?_;rintro i _ ⟨rfl,_⟩;refine ai (uw _) ?_;rintro _ _ _;refine ai (A:=VS f) (by have:=qG (P:=P) (f:=f) size mD (.slice base mD mw);rwa[bH]at this) ?_;rintro old _ rfl;refine ai app ?_;rintro new _ rfl;refine ai (jh hf _) ?_;rintro z _ ⟨rfl,hz⟩;refine ai (A:=AR f) (kU _ (by rw[gI,gI,sn (by rw[<- lC,hz])])) ?_;rintro a _ rfl;exact aC (by simp[V])
  refine mr dj (λ_=>?_) (λ_=>rest);cases nH
  ·refine ai (A:=λ_ _=>False) ?_ (λ_ _ h=>h.elim);refine ai (Gn hf _ _ _ _ _) ?_;rintro b _ rfl;cases b
   ·exact xY BR aZ
   ·exact aZ
  ·exact ai (A:=λ_ _=>False) (b9 hf _ h1) (λ_ _ h=>h.elim)
def Ap(hf:ov P f)(e0 e1:RuntimeError)(q:Question)(e2:Nat->RuntimeError)(h0:tg e0=true)(h1:tg e1=true)(h2:∀n,tg (e2 n)=true)(u:String)(elem:TypeId)(base:Option Addr)(mD mw size:Nat)(x:Value)(nH:Bool):
  Rel P f (V f) (Gp e0 e1 q e2 u elem base mD mw size (.slice base mD mw) x nH) (Gp e0 e1 q e2 u elem (base.map (addr f)) mD mw size (.slice (base.map (addr f)) mD mw) (val f x) nH):=by
 unfold Gp;cases nH
 ·refine ai (E6 x) ?_;rintro n _ rfl;exact Ao hf _ h1 _ _ _ _ _ _ _ _ _
 ·dsimp only;refine mr dj (λ_=>?_) (λh=>absurd rfl h);refine ai (oy x) ?_;rintro n _ rfl;refine fO (b9 hf _ h0) ?_;refine ai (fX _) ?_;rintro i _ ⟨rfl,_⟩;refine mr dj (λ_=>?_) (λ_=>?_)
  ·refine ai (jm _) ?_;rintro m _ rfl;exact ai (A:=λ_ _=>False) (b9 hf _ (h2 _)) (λ_ _ h=>h.elim)
  ·exact Ao hf _ h1 _ _ _ _ _ _ _ _ _
def LL(hf:ov P f)(ts:Array TypeId)(t:TypeId)(args:Array Value):Rel P f (V f) (Builtin.append_ ts t args) (Builtin.append_ ts t (args.map (val f))):=by
 unfold Builtin.append_;rw[aM,aM];cases ts[0]? with
 |none=>exact aF
 |some u =>
  cases args[0]? with
  |none=>exact aF
  |some s =>
   cases args[1]? with
   |none=>exact aF
   |some x =>
    refine ai (bp u) ?_;rintro d _ ⟨rfl,_⟩;cases d<;>first|exact aF|skip
    cases s<;>first|exact aF|skip
    rename_i elem _ base mD mw;show Rel P f (V f) _ (match val f (.slice base mD mw) with|.slice base mD mw=>_|_=>_);rw[bH];refine ai (dW _) ?_;rintro size _ rfl;cases ts[1]? with
    |none=>exact Ap hf .nilDeref _ .zeroSizeEq (λ_=>.nilDeref) rfl rfl (λ_=>rfl) _ elem base mD mw size x false
    |some xt =>
     refine ai (bp xt) ?_;rintro d _ ⟨rfl,_⟩;refine ai (A:=Eq) (aC rfl) ?_;rintro z _ rfl;exact Ap hf _ _ _ _ rfl rfl (λ_=>rfl) _ elem base mD mw size x z
def R6(x y:Value):Rel P f (V f) (Builtin.min2 x y) (Builtin.min2 (val f x) (val f y)):=by
 cases x
 case int =>
  cases y<;>simp only[cP,da,cm,bI,bP,bj,bH,de,cI,cJ,bL,b7,bE,db,b8]<;>first|exact aF|exact aC (by simp[V])|skip
  rename_i a;cases a<;>first|exact aF|exact aZ
 case float =>
  cases y<;>simp only[cP,da,cm,bI,bP,bj,bH,de,cI,cJ,bL,b7,bE,db,b8]<;>first|exact aF|skip
  ·refine qu ?_;unfold Builtin.min2;rename_i k a k' b;dsimp only;generalize k.format.order a b=o;rcases o with _|(_|_|_)
   ·exact λn g=>aj
   all_goals exact λg=>aj
  ·rename_i a;cases a<;>first|exact aF|exact aZ
 case string =>
  cases y<;>simp only[cP,da,cm,bI,bP,bj,bH,de,cI,cJ,bL,b7,bE,db,b8]<;>first|exact aF|skip
  ·refine ai (yd _ _ _) ?_;rintro v _ rfl;refine ai (BS v) ?_;rintro b _ rfl;exact aC (by simp[V])
  ·rename_i a;cases a<;>first|exact aF|exact aZ
 case pointer a =>
  rw[bj];cases a with
  |none =>
   cases y<;>first|exact aF|skip
   rename_i b;cases b<;>first|exact aF|exact aZ
  |some a=>cases y<;>exact aZ
 all_goals
  cases y<;>first|exact aF|skip
  rename_i b;cases b<;>first|exact aF|exact aZ
def Vp(ts:Array TypeId)(t:TypeId)(args:Array Value):Rel P f (V f) (Builtin.min_ ts t args) (Builtin.min_ ts t (args.map (val f))):=by
 unfold Builtin.min_;rw[cC];cases args.toList with
 |nil=>exact aF
 |cons x l =>
  simp only[aB]
  induction l generalizing x with
  |nil=>exact aC rfl
  |cons y l ih =>
   simp only[aB,List.foldlM_cons];refine ai (R6 x y) ?_;rintro z _ rfl;exact ih z
def Ei:∀(n:Nat) (a:Addr) (acc:ag),Rel P f Eq (loadBytes a acc n) (loadBytes (addr f a) acc n):=by
 intro n
 induction n with
 |zero=>intro a acc;exact aC rfl
 |succ n ih =>
  intro a acc;unfold loadBytes;refine ai (xX a) ?_;rintro v _ rfl;cases v<;>simp only[cP,da,cm,bI,bP,bj,bH,de,cI,cJ,bL,b7,bE,db,b8]<;>first|exact aF|skip
  rename_i k b;cases k<;>first|exact aF|skip
  rw[<- lu];exact ih _ _
def vU(ts:Array TypeId)(t:TypeId)(x:Value):Rel P f (V f) (Builtin.unsafeSliceData_ ts t #[x]) (Builtin.unsafeSliceData_ ts t #[val f x]):=by
 cases x<;>first|exact aF|skip
 rename_i a len c;rw[bH];cases a with
 |none=>exact aC (by simp[V])
 |some a =>
  show Rel P f (V f) (if c≠0 then _ else _) (if c≠0 then _ else _);refine mr dj (λ_=>aC (by simp[V])) (λ_=>?_);refine ai (tn a.block) ?_;rintro v _ rfl;refine mr aj (λ_=>aC (by simp[V])) (λ_=>?_);refine ai (xi t) ?_;rintro e _ rfl;refine ai (A:=λr r'=>r'=f.b r) (mR rfl rfl) ?_;rintro r _ rfl;exact aC (by simp[V])
def zE(hf:ov P f)(ts:Array TypeId)(t:TypeId)(x y:Value):Rel P f (V f) (Builtin.unsafeString_ ts t #[x,y]) (Builtin.unsafeString_ ts t #[val f x,val f y]):=by
 cases x<;>first|exact aF|skip
 rename_i a;rw[bj];refine ai (oy y) ?_;rintro n _ rfl;cases ts[0]? with
 |none=>exact aF
 |some pt =>
  refine fO (b9 hf _) ?_;refine fO aZ ?_;cases a with
  |none=>exact mr dj (λ_=>aC (by simp[V])) (λ_=>b9 hf _)
  |some a =>
   refine mr dj (λ_=>aC (by simp[V])) (λ_=>?_);refine ai (xi pt) ?_;rintro e _ rfl;refine ai (tO a e _) ?_;rintro b _ rfl;cases b
   ·exact aZ
   ·refine ai (Ei _ a _) ?_;rintro s _ rfl;refine ai (BQ a _) ?_;rintro _ _ _;exact aC (by simp[V])
end
def jJ(L:Nat->Bool)(f:Rn):Next->Next->Prop
 | .value v,.value v'=>v'=val f v
 | .skip,.skip=>True
 | .enter g args,.enter g' Xu=>g'=g/\L g=true/\Xu=args.map (val f)
 |_,_=>False
def zF(c:Call):Builtin->Bool
 | .append|.cap|.clear|.copy|.delete|.len|.min=>true
 | .unsafeString=>c.args.size==2
 | .unsafeSliceData=>c.args.size==1
 |_=>false
def LM(c:Call):Bool :=
 match c.callee with
 | .builtin b=>zF c b
 | .value _=>true
 | .invoke ..=>false
def oC(L:Nat->Bool):Op->Bool
 | .move _|.assign _|.pick .. | .alloc _|.box .. | .build .. | .buildSlice .. | .load .. | .store .. | .nilCheck _|.binOp .. | .unOp .. | .convert .. | .makeInterface .. | .makeMap .. | .makeChan .. | .makeSlice .. | .slice .. | .fieldAddr .. | .field .. | .indexAddr .. | .index .. | .lookup .. | .mapUpdate .. | .insert .. | .extract .. | .panic ..=>true
 | .makeFunc (.func n) _ _=>L n
 | .call c=>LM c
 |_=>false
section
variable {P:Program}{f:Rn}
def uD{s s':Sem Unit}(h:Rel P f (λ_ _=>True) s s'):Rel P f (V f) (do s;pure (.tuple #[])) (do s';pure (.tuple #[])):=ai h (λ_ _ _=>aC (by simp[V]))
def LN(hf:ov P f)(ts:Array TypeId)(t:TypeId)(args:Array Value):Rel P f (V f) (Builtin.delete_ ts t args) (Builtin.delete_ ts t (args.map (val f))):=by
 unfold Builtin.delete_;simp only[aM];cases h0:ts[0]? with
 |none=>exact aF
 |some mt =>
  cases h1:args[0]? with
  |none=>exact aF
  |some m =>
   cases h2:args[1]? with
   |none=>exact aF
   |some k =>
    simp only[aK];refine ai (bp mt) ?_;rintro d _ ⟨rfl,_⟩;cases d<;>first|exact aF|skip
    cases m<;>first|exact aF|skip
    rename_i r;rw[de];cases r with
    |none=>exact uD (H6 (pZ hf _ _ _ _) (λ_ _ _=>trivial))
    |some r =>
     refine ai (jT r) ?_;rintro o _ rfl;cases o<;>first|exact aF|skip
     rename_i es clock;simp only[obj];rw[show(Array.map (entry f) es).isEmpty=es.isEmpty by simp[Array.isEmpty]];refine ai (pZ hf _ _ _ _) ?_;rintro _ _ rfl;rw[cC];refine ai (uB hf _ k es.toList) ?_;rintro x _ rfl;cases x with
     |some y =>
      obtain⟨i,w⟩:=y;dsimp only[Option.map_some];refine uD (qF r ?_ rfl);simp only[obj]
      congr 1
      unfold Array.eraseIdxIfInBounds;simp only[Array.size_map];split
      ·rename_i hi;apply kC;simp only[Array.toList_eraseIdx,Array.toList_map];clear hi;generalize es.toList=l
       induction l generalizing i with
       |nil=>rfl
       |cons x l ih=>cases i with
        |zero=>rfl
        |succ i=>simp only[aB,List.eraseIdx_cons_succ,ih]
      ·rfl
     |none =>
      refine uD (qF r ?_ rfl);rfl
def Po(hf:ov P f)(ts:Array TypeId)(t:TypeId)(args:Array Value):Rel P f (V f) (Builtin.clear_ ts t args) (Builtin.clear_ ts t (args.map (val f))):=by
 unfold Builtin.clear_;simp only[aM];cases h0:ts[0]? with
 |none=>exact aF
 |some mt =>
  cases h1:args[0]? with
  |none=>exact aF
  |some m =>
   simp only[aK];refine ai (bp mt) ?_;rintro d _ ⟨rfl,_⟩;cases m<;>first|(cases d<;>exact aF)|skip
   ·rename_i a n c;rw[bH];cases a with
    |none=>cases d<;>exact aC (by simp[V])
    |some a =>
     cases n with
     |zero=>cases d<;>exact aC (by simp[V])
     |succ n =>
      cases d<;>first|exact aF|skip
      simp only[aK];refine ai (jh hf _) ?_;rintro z _ ⟨rfl,hz⟩;have:=lW (P:=P) (f:=f) a (Builtin.zeroCells z.cells (n+1)).toList 0;rw[<- cC,sn (by rw[<- lC,hz])]at this;exact uD this
   ·rename_i r;rw[de];cases r with
    |none=>cases d<;>exact aC (by simp[V])
    |some r =>
     cases d;all_goals
      refine ai (jT r) ?_;rintro o _ rfl;cases o<;>first|exact aF|skip
      exact uD (qF r (by simp[obj]) rfl)
end
section
variable {P:Program}{f:Rn}{L:Nat->Bool}{ρ ρ':Operand->Value}
def jo{s s':Sem Value}(h:Rel P f (V f) s s'):Rel P f (jJ L f) (do pure (.value (<- s))) (do pure (.value (<- s'))):=ai h (by rintro v _ rfl;exact aC rfl)
def R7{s s':Sem Unit}(h:Rel P f (λ_ _=>True) s s'):Rel P f (jJ L f) (do s;pure .skip) (do s';pure .skip):=ai h (λ_ _ _=>aC trivial)
def B7(hf:ov P f)(hL:∀n,L n=true->f.h n=n)(hC:∀n,L n=true->∀args,Rel P f (jJ L f) (callFunc n args) (callFunc n (args.map (val f))))(o:Oper)(iS:oC L o.op=true)(p5:∀x∈o.op.operands,ρ' x=val f (ρ x))(sr:∀x∈o.op.operands,∀g a b,ρ x=.func g a b->∃n,g=.func n/\L n=true):
  Rel P f (jJ L f) (execOp ρ o) (execOp ρ' o):=by
 obtain⟨dst,op,ty,pos,after,guard⟩:=o;cases op<;>first|exact Bool.noConfusion iS|skip
 all_goals simp only[Op.operands,Array.mem_append,List.mem_toArray,bq,fi,or_false,Option.mem_toArray,forall_eq_or_imp,forall_eq]at p5 sr
 case move x=>simp only[execOp];exact aC (by simp only[jJ];exact p5)
 case assign x=>simp only[execOp];exact aC (by simp only[jJ];exact p5)
 case pick c a b =>
  simp only[execOp,p5.1,p5.2.1,p5.2.2];refine ai (BS _) ?_;rintro t _ rfl;exact aC (by simp only[jJ];split<;>rfl)
 case alloc e=>exact jo (Pd hf e)
 case box e x=>simp only[execOp,p5];exact jo (Vm e _)
 case load t a=>simp only[execOp,p5];exact jo (LF t _)
 case store t a x=>simp only[execOp,p5.1,p5.2];exact R7 (Ih t _ _)
 case binOp op t x y g =>
  simp only[execOp,p5.1,p5.2];refine jo ?_;exact xY (Ip _ _ _ _ _ _) (Pn hf _ _ _ _)
 case unOp op t x=>simp only[execOp,p5];exact jo (Pk _ _)
 case convert s d x=>simp only[execOp,p5];exact jo (Iw hf _ _ _)
 case makeInterface t x=>simp only[execOp,p5];exact jo (x9 _ _)
 case makeChan t x=>simp only[execOp,p5];exact jo (Gg hf _ _)
 case makeSlice t l c=>simp only[execOp,p5.1,p5.2];exact jo (Ef hf _ _ _)
 case fieldAddr s x i=>simp only[execOp,p5];exact jo (Ii _ _ _)
 case field s x i=>simp only[execOp,p5];exact jo (Pg _ _ _)
 case indexAddr t x i=>simp only[execOp,p5.1,p5.2];exact jo (Ij hf _ _ _)
 case index t x i=>simp only[execOp,p5.1,p5.2];exact jo (Ph hf _ _ _)
 case lookup t x i ok=>simp only[execOp,p5.1,p5.2];exact jo (LK hf _ _ _ _)
 case mapUpdate t m k v=>simp only[execOp,p5.1,p5.2.1,p5.2.2];exact R7 (wF hf _ _ _ _)
 case insert t m k v=>simp only[execOp,p5.1,p5.2.1,p5.2.2];exact R7 (wF hf _ _ _ _)
 case extract t i=>simp only[execOp,p5];exact jo (Im _ _)
 case panic x=>simp only[execOp,p5];exact jo (Pj hf _)
 case makeMap t r =>
  simp only[execOp];refine jo ?_;have e:r.map ρ'=(r.map ρ).map (val f):=by
   cases r with
   |none=>rfl
   |some x=>simp at p5 |-;exact p5
  rw[e];exact Il _ _
 case build t ps =>
  simp only[execOp];refine jo ?_;have e:(ps.map λx=>(x.1,ρ' x.2))=(ps.map λx=>(x.1,ρ x.2)).map λx=>(x.1,val f x.2):=by
   rw[iU];apply eF;intro x hx;simp only[Function.comp,p5 x.2 (List.mem_map.2 ⟨x,by simpa using hx,rfl⟩)]
  rw[e];exact Pe hf _ _
 case buildSlice t n ps =>
  simp only[execOp];refine jo ?_;have e:(ps.map λx=>(x.1,ρ' x.2))=(ps.map λx=>(x.1,ρ x.2)).map λx=>(x.1,val f x.2):=by
   rw[iU];apply eF;intro x hx;simp only[Function.comp,p5 x.2 (List.mem_map.2 ⟨x,by simpa using hx,rfl⟩)]
  rw[e];exact BU hf _ _ _
 case slice t x lo hi mx =>
  simp only[execOp];refine jo ?_;have e:∀r:Option Operand,(∀y,y∈r->ρ' y=val f (ρ y))->r.map ρ'=(r.map ρ).map (val f):=by
   intro r h;cases r with
   |none=>rfl
   |some x=>simp[h x rfl]
  rw[e lo (λy hy=>p5 y (.inl (.inl (.inr hy)))),e hi (λy hy=>p5 y (.inl (.inr hy))),e mx (λy hy=>p5 y (.inr hy)),p5 x (.inl (.inl (.inl rfl)))];exact Ik hf _ _ _ _ _
 case nilCheck x =>
  simp only[execOp];rw[p5];cases hx:ρ x<;>simp only[cP,da,cm,bI,bP,bj,bH,de,cI,cJ,bL,b7,bE,db,b8]
  case pointer a =>
   cases a
   ·exact b9 hf _
   ·exact aC (by simp[jJ])
  case func g a b =>
   obtain⟨n,rfl,hn⟩:=sr g a b hx;exact aC (by simp[jJ])
  case nilIface=>exact b9 hf _
  case nilFunc=>exact b9 hf _
  all_goals exact aC (by simp[jJ])
 case makeFunc g first captured =>
  cases g<;>first|exact Bool.noConfusion iS|skip
  rename_i n;have hn:L n=true:=iS;simp only[execOp];refine jo ?_;have e:∀r:Array Operand,(∀y,y∈r->ρ' y=val f (ρ y))->r.map ρ'=(r.map ρ).map (val f):=by
   intro r h;rw[iU];apply eF;intro y hy;exact h y hy
  rw[e first (λy hy=>p5 y (by simp[hy])),e captured (λy hy=>p5 y (by simp[hy]))];exact aC (by simp[V,um,hL n hn])
 case call c =>
  have e:∀r:Array Operand,(∀y,y∈r->ρ' y=val f (ρ y))->r.map ρ'=(r.map ρ).map (val f):=by
   intro r h;rw[iU];apply eF;intro y hy;exact h y hy
  obtain⟨callee,args,tys⟩:=c;simp only[Call.operands]at p5 sr;simp only[execOp,resolve];cases callee with
  |invoke r m=>exact Bool.noConfusion iS
  |builtin b =>
   have ea:=e args (λy hy=>p5 y (by simpa using hy));have h:∀s s':Sem Value,Rel P f (V f) s s'->Rel P f (jJ L f) (do pure (.value (<- s))) (do pure (.value (<- s'))):=λ_ _ h=>jo h;show Rel P f (jJ L f) (builtin b tys ty _ (args.map ρ)) (builtin b tys ty _ (args.map ρ'));rw[ea];cases b<;>first|exact Bool.noConfusion iS|skip
   ·exact jo (LL hf _ _ _)
   ·exact jo (Vo _ _ _)
   ·exact jo (Po hf _ _ _)
   ·exact jo (R5 _ _ _)
   ·exact jo (LN hf _ _ _)
   ·exact jo (Vn _ _ _)
   ·exact jo (Vp _ _ _)
   ·have ew:args.size=1:=by simpa[oC,LM,zF] using iS
    obtain⟨x,hx⟩:∃x,args.map ρ=#[x]:=by
     match args,ew with
     | ⟨[x]⟩,_=>exact⟨ρ x,aj⟩
    rw[hx];have:=vU (P:=P) (f:=f) tys ty x;exact jo (by simpa using this)
   ·have ew:args.size=2:=by simpa[oC,LM,zF] using iS
    obtain⟨x,y,R2⟩:∃x y,args.map ρ=#[x,y]:=by
     match args,ew with
     | ⟨[x,y]⟩,_=>exact⟨ρ x,ρ y,aj⟩
    rw[R2];have:=zE (P:=P) hf tys ty x y;exact jo (by simpa using this)
  |value x =>
   have ea:=e args (λy hy=>p5 y (by simp[hy]));have ex:=p5 x aj;show Rel P f (jJ L f) (Deferred.ofValue (ρ x) (args.map ρ)>>=λd=>invoke d.target d.args) (Deferred.ofValue (ρ' x) (args.map ρ')>>=λd=>invoke d.target d.args);rw[ea,ex];cases hx:ρ x<;>simp only[cP,da,cm,bI,bP,bj,bH,de,cI,cJ,bL,b7,bE,db,b8]<;>first|exact aF|skip
   ·rename_i g a b;obtain⟨n,rfl,hn⟩:=sr x aj g a b hx;show Rel P f (jJ L f) (callFunc n ((a++args.map ρ)++b)) (callFunc (f.h n) ((a.map (val f)++(args.map ρ).map (val f))++b.map (val f)));rw[hL n hn,<- gI,<- gI];exact hC n hn _
   ·show Rel P f (jJ L f) (runtimePanic .nilDeref) (runtimePanic .nilDeref);exact b9 hf _
end
def xm:Value->Bool
 | .bool _|.int .. | .float .. | .complex .. | .string _|.pointer we|.slice we _ _|.map we|.chan we|.nilFunc|.nilIface=>true
 |_=>false
def B8:Value->Bool
 | .agg cs=>cs.all xm
 | .tuple vs=>vs.all xm
 | .iface _ v=>xm v
 |v=>xm v
def xp{v:Value}(h:xm v=true)(f:Rn):val f v=v:=by
 cases v<;>first|exact Bool.noConfusion h|skip
 case slice a _ _=>cases a<;>first|exact Bool.noConfusion h|simp
 case pointer a=>cases a<;>first|exact Bool.noConfusion h|simp
 case map a=>cases a<;>first|exact Bool.noConfusion h|simp
 case chan a=>cases a<;>first|exact Bool.noConfusion h|simp
 all_goals simp
def xq{v:Value}(h:B8 v=true)(f:Rn):val f v=v:=by
 have arr:∀cs:Array Value,cs.all xm=true->cs.map (val f)=cs:=by
  intro cs hc;rw[iM]at hc;apply jH
  ·simp
  ·intro i h1 h2;simp only[Array.getElem_map];exact xp (hc i h2) f
 cases v
 case iface t v=>rw[b7,xp (show xm v=true from h) f]
 case agg cs=>rw[db,arr _ h]
 case tuple cs=>rw[b8,arr _ h]
 all_goals (refine xp ?_ f;exact h)
def vt(G:Nat)(L:Nat->Bool):Operand->Bool
 | .tmp _=>true
 | .const v=>B8 v
 | .global g=>decide (g<G)
 | .func n=>L n
def uE(G:Nat)(L:Nat->Bool)(o:Oper):Bool:=oC L o.op&&o.op.operands.all (vt G L)
def lF(G:Nat)(L:Nat->Bool):Code->Bool
 | .skip|.label _|.exit _|.goto _|.ret|.refuse _=>true
 | .region _ ops _=>ops.all (uE G L)
 | .seq a b=>lF G L a&&lF G L b
 | .cond c a b=>vt G L c&&lF G L a&&lF G L b
 | .block _ c|.loop c|.scope c=>lF G L c
 | .rangeFunc ..=>false
def oD(G:Nat)(L:Nat->Bool):Item->Bool
 | .code c|.inLoop c|.inScope c=>lF G L c
 | .inBlock _=>true
 | .inRegion ops _=>ops.all (uE G L)
 |_=>false
structure vV(G:Nat)(L:Nat->Bool)(fr:Frame):Prop where
 defers:fr.defers=[]
 round:fr.roundOf=we
 kind:fr.kind=.normal
 fn:L fr.fn=true
 todo:∀i∈fr.todo,oD G L i=true
 mode:fr.mode=.run\/fr.mode=.returning
def frame(f:Rn)(fr:Frame):Frame:={fr with tmps:=fr.tmps.map (val f)}
section
variable {G:Nat}{L:Nat->Bool}
def Pp{id:Nat}:∀{k k':List Item},exitTo id k=so k'->∀i∈k',i∈k:=by
 intro k
 induction k with
 |nil=>intro k' h;cases h
 |cons x k ih =>
  intro k' h i hi;cases x<;>simp only[exitTo]at h
  case inBlock j =>
   split at h
   ·cases h;exact bY _ hi
   ·exact bY _ (ih h i hi)
  all_goals exact bY _ (ih h i hi)
def Gq:∀{c c':Code} {l:Nat},findLabel c l=so c'->lF G L c=true->lF G L c'=true:=by
 intro c
 induction c with
 |seq a b iha ihb =>
  intro c' l h iS;simp only[lF,aU]at iS;simp only[findLabel]at h;split at h
  ·rename_i r hr;cases h;simp only[lF,aU];exact⟨iha hr iS.1,iS.2⟩
  ·exact ihb h iS.2
 |label m =>
  intro c' l h iS;simp only[findLabel]at h;split at h
  ·cases h;rfl
  ·cases h
 |_=>intro c' l h iS;simp only[findLabel]at h;cases h
def Pq{l:Nat}:∀{k k':List Item},gotoIn l k=so k'->(∀i∈k,oD G L i=true)->∀i∈k',oD G L i=true:=by
 intro k
 induction k with
 |nil=>intro k' h;cases h
 |cons x k ih =>
  intro k' h iS i hi;have hk:∀i∈k,oD G L i=true:=λi hi=>iS i (bY _ hi);cases x<;>simp only[gotoIn]at h
  case inScope body =>
   have hb:lF G L body=true:=iS (.inScope body) aj;split at h
   ·rename_i rest hr;cases h;simp only[bq]at hi;rcases hi with rfl|rfl|hi
    ·exact Gq hr hb
    ·exact hb
    ·exact hk i hi
   ·exact ih h hk i hi
  all_goals exact ih h hk i hi
def B9(P:Program)(fn:FuncId)(es:Array Event):∀e∈seen P fn es,e∈es:=by
 have key:∀(g:Bool×Array Event->Event->Bool×Array Event),(∀st a,∀e∈(g st a).2,e∈st.2\/e=a)->∀(l:List Event) (st:Bool×Array Event),(∀e∈st.2,e∈es)->(∀e∈l,e∈es)->∀e∈(l.foldl g st).2,e∈es:=by
  intro g hg l
  induction l with
  |nil=>intro st h _ e he;exact h e he
  |cons a l ih =>
   intro st h hl e he;simp only[List.foldl_cons]at he;refine ih _ ?_ (λe he=>hl e (bY _ he)) e he;intro e he;rcases hg st a e he with he|rfl
   ·exact h e he
   ·exact hl _ aj
 unfold seen;dsimp only;rw[<- jU];refine key _ ?_ es.toList _ aj (λe he=>by simpa using he);rintro⟨q,kept⟩ a e he;dsimp only at he;split at he
 ·exact .inl he
 ·dsimp only at he;split at he
  ·exact .inl he
  ·rcases Array.mem_push.1 he with he|rfl
   ·exact .inl he
   ·exact .inr rfl
end
structure PF(P:Program)(L:Nat->Bool)(Gm:Nat)(F:kr):Prop where
 low:∀r,r<Gm->F.K r/\F.φ r=r
 L:F.L=λn=>L n=true
 G:F.G=P.globals.size
 AZ:EX F
structure sJ(P:Program)(L:Nat->Bool)(Gm:Nat):Prop where
 zero:∀t i z,P.info? t=so i->i.zero=so z->∀f:Rn,val f z=z
 call:∀n,L n=true->∀f,ov P f->(∀n,L n=true->f.h n=n)->∀args,Rel P f (jJ L f) (callFunc n args) (callFunc n (args.map (val f)))
 body:∀n,L n=true->∃fn,P.funcs[n]?=so fn/\∀c,fn.body=so c->lF Gm L c=true
section
variable {P:Program}{L:Nat->Bool}{Gm:Nat}{F:kr}{wl wr:ae}{f:Rn}
def PF.ok(h:PF P L Gm F)(hP:sJ P L Gm)(hf:F.has f):ov P f :=
 ⟨hf.inj,by rw[<- h.G];exact hf.kz,λt i z h1 h2=>hP.zero t i z h1 h2 f⟩
def PF.fn(h:PF P L Gm F)(hf:F.has f):∀n,L n=true->f.h n=n:=λn hn=>hf.fn n (by rw[h.L];exact hn)
def PF.NQ{F':kr}{bN qC:ae}(h:PF P L Gm F)(m:fT F F' wl wr bN qC):PF P L Gm F' :=
 ⟨λr hr=>⟨m.K r (h.low r hr).1,(m.φ r (h.low r hr).1).trans (h.low r hr).2⟩,m.L.trans h.L,m.G.trans h.G,m.AZ h.AZ⟩
def Ca(h:PF P L Gm F)(hP:sJ P L Gm)(hf:F.has f)(fr:Frame)(x:Operand)(hx:vt Gm L x=true):(frame f fr).eval x=val f (fr.eval x):=by
 cases x with
 |tmp t =>
  simp only[Frame.eval,frame,bV,aM];cases fr.tmps[t]? with
  |none=>simp[mo]
  |some v=>rfl
 |const v=>simp only[Frame.eval];exact(xq hx f).symm
 |global g =>
  have hg:g<Gm:=by simpa[vt] using hx
  simp only[Frame.eval,bj,aK,Vf];rw[hf.at_ g (h.low g hg).1,(h.low g hg).2]
 |func n =>
  simp only[Frame.eval,cJ,um];rw[PF.fn h hf n hx];simp
def Iy(ops:Array Oper)(tmps:Array Value):yielded ops (tmps.map (val f))=yielded ops tmps:=by
 funext j;unfold yielded;cases hb:(ops[j]?).bind (·.dst) with
 |none=>rfl
 |some d =>
  simp only[Option.bind_some,aM];cases tmps[d]? with
  |none=>rfl
  |some v=>cases v<;>simp
def Cb(W:WR F wl wr)(h:PF P L Gm F){v v':Value}(hv:∀f,F.has f->v'=val f v):∀g a b,v=.func g a b->∃n,g=.func n/\L n=true:=by
 intro g a b e;subst e;obtain⟨f1,f2,h1,h2,_,hh,ht,hm⟩:=W.two;have e:=(hv f1 h1).symm.trans (hv f2 h2);simp only[cJ,Value.func.injEq]at e;cases g with
 |func n =>
  refine⟨n,rfl,?_⟩;refine aX λhn=>?_;refine hh n (by rw[h.L];exact hn) ?_;have:=e.1;simp only[um,Fn.func.injEq]at this;exact this
 |method s=>exact absurd (by have:=e.1;simpa[um] using this) (hm s)
 |methodOf t s=>exact absurd (by have:=e.1;simpa[um] using this) (hm s)
 |via t p n q=>exact absurd (by have:=e.1;simpa[um] using this) (ht t)
 |yield l=>exact absurd (by have:=e.1;simpa[um] using this) (ht l)
def Cc{G:Nat}(fr:Frame)(v:Value)(h:∀i∈fr.todo,oD G L i=true):(frame f fr).finish (val f v)=frame f (fr.finish v):=by
 cases ht:fr.todo with
 |nil=>simp[Frame.finish,frame,ht]
 |cons i k =>
  have hi:=h i (by simp[ht]);cases i<;>first|exact Bool.noConfusion hi|(simp[Frame.finish,frame,ht];done)|skip
  rename_i ops todo;cases todo with
  |nil=>simp[Frame.finish,frame,ht]
  |cons j rest =>
   simp only[Frame.finish,frame,ht];cases (ops[j]?).bind (·.dst) with
   |none=>rfl
   |some d=>simp[Array.map_setIfInBounds]
def zG{G:Nat}{fr:Frame}(h:vV G L fr)(v:Value):vV G L (fr.finish v):=by
 obtain⟨h1,h2,h3,h4,h5,h6⟩:=h;cases ht:fr.todo with
 |nil =>
  have e:fr.finish v=fr:=by simp[Frame.finish,ht]
  rw[e];exact⟨h1,h2,h3,h4,h5,h6⟩
 |cons i k =>
  have hi:=h5 i (by simp[ht]);have hk:∀i∈k,oD G L i=true:=λi hi=>h5 i (by simp[ht,hi]);by_cases hr:∃ops j rest,i=.inRegion ops (j::rest)
  ·obtain⟨ops,j,rest,rfl⟩:=hr;refine⟨?_,?_,?_,?_,?_,?_⟩<;>simp only[Frame.finish,ht]
   ·exact h1
   ·exact h2
   ·exact h3
   ·exact h4
   ·intro x hx;simp only[bq]at hx;rcases hx with rfl|hx
    ·exact hi
    ·exact hk x hx
   ·exact h6
  ·have e:fr.finish v=fr:=by
    cases i<;>first|exact Bool.noConfusion hi|(simp[Frame.finish,ht];done)|skip
    rename_i ops todo;cases todo with
    |nil=>simp[Frame.finish,ht]
    |cons j rest=>exact absurd ⟨_,_,_,rfl⟩ hr
   rw[e];exact⟨h1,h2,h3,h4,h5,h6⟩
end
def gh(w:ae):Prop:=∀(r:Nat) (o:Obj),w.heap[r]?=so o->fN o=false
def YM{α:Type}:Result α->Prop
 | .ok _ w=>gh w
 | .halt h _=>pN h=true\/∃v,h=.panic v
def wJ{w:ae}(hw:gh w){a:Addr}{what:String}:pN (w.noCell a what)=true:=by
 unfold World.noCell;split
 ·rename_i c e hc;have:=hw _ _ hc;cases this
 ·rfl
 ·rfl
def Cd{p:Program}{w:ae}(hw:gh w){a:Addr}{at_:Bool}{h:Halt}(hh:w.farLoad p a at_=.error h):pN h=true:=by
 unfold World.farLoad at hh;split at hh
 ·split at hh
  ·cases hh
  ·cases hh;rfl
 ·cases hh;exact wJ hw
def A5{p:Program}{w:ae}(hw:gh w){a:Addr}{v:Value}{at_:Bool}{h:Halt}(hh:w.farStore p a v at_=.error h):pN h=true:=by
 unfold World.farStore at hh;split at hh
 ·split at hh
  ·cases hh
  ·cases hh;rfl
 ·cases hh;exact wJ hw
def gh.modify{w:ae}(hw:gh w)(b:Nat)(g:Obj->Obj)(hg:∀o,fN (g o)=fN o):gh {w with heap:=w.heap.modify b g}:=by
 intro r o ho;simp only[getElem?_modify]at ho;split at ho
 ·cases hx:w.heap[r]? with
  |none=>rw[hx]at ho;cases ho
  |some x=>rw[hx]at ho;cases ho;rw[hg];exact hw r x hx
 ·exact hw r o ho
def gh.set{w:ae}(hw:gh w)(b:Nat)(x:Obj)(hx:fN x=false):gh {w with heap:=w.heap.setIfInBounds b x}:=by
 intro r o ho;by_cases hb:b<w.heap.size
 ·obtain⟨_,h1,h2⟩:=qD w.heap b x hb;by_cases e:r=b
  ·subst e;simp only[h1]at ho;cases ho;exact hx
  ·simp only[h2 r e]at ho;exact hw r o ho
 ·rw[show w.heap.setIfInBounds b x=w.heap from Array.setIfInBounds_eq_of_size_le aa]at ho;exact hw r o ho
def gh.push{w:ae}(hw:gh w)(x:Obj)(hx:fN x=false):gh {w with heap:=w.heap.push x}:=by
 intro r o ho;simp only[Array.getElem?_push]at ho;split at ho
 ·cases ho;exact hx
 ·exact hw r o ho
def gh.heap{w w':ae}(hw:gh w)(h:w'.heap=w.heap):gh w':=λr o ho=>hw r o (by rw[<- h];exact ho)
def Gr(w:ae)(hw:gh w)(a:Addr)(v:Value):gh (w.setCell a v):=by
 unfold World.setCell;exact gh.modify hw _ _ (λo=>by cases o<;>rfl)
def tq{P:Program}{f:Rn}{α β:Type}{A:α->β->Prop}:∀(s:Sem α) (s':Sem β) (w:ae) (es:Array Event),Rel P f A s s'->gh w->YM (s.runT P w es).1:=by
 intro s
 induction s with
 |pure a=>intro s' w es h hw;exact hw
 |load m x k ih =>
  intro s' w es h hw;cases s'<;>simp only[Rel]at h;simp only[Sem.runT];split
  ·exact ih _ _ w _ (h.2.2 _) hw
  ·split
   ·exact ih _ _ w _ (h.2.2 _) hw
   ·rename_i hh;exact .inl (Cd hw hh)
 |store m x v k ih =>
  intro s' w es h hw;cases s'<;>simp only[Rel]at h;by_cases cd:(∃c,v=.agg c)\/∃c,v=.tuple c
  ·rcases cd with⟨c,rfl⟩|⟨c,rfl⟩
   ·exact .inl rfl
   ·exact .inl rfl
  ·rw[iQ (λc e=>cd (.inl ⟨c,e⟩)) (λc e=>cd (.inr ⟨c,e⟩))];split
   ·split
    ·exact .inl rfl
    ·exact ih _ _ _ h.2.2.2 (Gr w hw _ _)
   ·split
    ·rename_i w1 ts hfs;obtain⟨b,u,h1,h2⟩:=uv hfs;refine ih _ _ _ h.2.2.2 ?_;obtain⟨c,e,z,_,_,rfl,_⟩:=sk (f:=⟨λx=>x,λx=>x,λx=>x,λx=>x⟩) (wr:={w with heap:=w.heap.map (obj ⟨λx=>x,λx=>x,λx=>x,λx=>x⟩)}) (at':=b) (k':=x) aj rfl rfl rfl rfl h2;exact hw.set _ _ rfl
    ·rename_i hh;exact .inl (A5 hw hh)
 |new o k ih =>
  intro s' w es h hw;cases s'<;>simp only[Rel]at h;exact ih _ _ _ _ (h.2.2 _) (hw.push _ h.2.1)
 |shape r k ih =>
  intro s' w es h hw;cases s'<;>simp only[Rel]at h;exact ih _ _ w _ (h.2 _) hw
 |freeze a n k ih =>
  intro s' w es h hw;cases s'<;>simp only[Rel]at h;refine ih _ _ _ h.2.2 ?_;by_cases hn:n=0
  ·subst hn;simpa[World.freeze] using hw
  ·rw[pk _ _ _ hn];exact hw.modify _ _ (λo=>BP _ _ o)
 |frozen a k ih =>
  intro s' w es h hw;cases s'<;>simp only[Rel]at h;exact ih _ _ w _ (h.2 _) hw
 |getObj r k ih =>
  intro s' w es h hw;cases s'<;>simp only[Rel]at h;simp only[Sem.runT];split
  ·exact .inl rfl
  ·exact ih _ _ w _ (h.2 _) hw
  ·exact .inl rfl
 |setObj r o k ih =>
  intro s' w es h hw;cases s'<;>simp only[Rel]at h;simp only[Sem.runT];split
  ·exact .inl rfl
  ·exact ih _ _ _ h.2.2.2 (hw.set _ _ h.2.2.1)
  ·exact .inl rfl
 |choose q k ih =>
  intro s' w es h hw;cases s'<;>simp only[Rel]at h;simp only[Sem.runT];split
  ·exact ih _ _ w _ (h.2 _) hw
  ·exact ih _ _ _ _ (h.2 _) (gh.heap hw rfl)
 |sys c k ih =>
  intro s' w es h hw;cases s'<;>simp only[Rel]at h;simp only[Sem.runT];obtain⟨_,d,o,e2,_⟩:=H9 c (wl:=w) (wr:=w) rfl rfl rfl;exact ih _ _ _ _ (h.2.2 _) (gh.heap hw (by rw[e2]))
 |program k ih =>
  intro s' w es h hw;cases s'<;>simp only[Rel]at h;exact ih _ _ w _ h hw
 |mark m k ih =>
  intro s' w es h hw;cases s'<;>simp only[Rel]at h;exact ih _ _ _ h.2.2 hw
 |halt hh =>
  intro s' w es h hw;cases hh with
  |panic v=>exact .inr ⟨v,rfl⟩
  |_=>exact .inl (by cases s'<;>exact h)
section
open Go.Conc (G)
section
variable {P:Program}{L:Nat->Bool}{Gm:Nat}{F:kr}{wl wr:ae}{f:Rn}
def LO{α:Type}{g g':α->Sem Value}:∀(l:List α),(∀x∈l,Rel P f (V f) (g x) (g' x))->Rel P f (λ(a b:List Value)=>b=a.map (val f)) (l.mapM g) (l.mapM g'):=by
 intro l
 induction l with
 |nil=>intro _;simp only[List.mapM_nil];exact aC rfl
 |cons x l ih =>
  intro h;simp only[List.mapM_cons];refine ai (h x aj) ?_;rintro a _ rfl;refine ai (ih λy hy=>h y (by simp[hy])) ?_;rintro b _ rfl;exact aC aj
def rT(hf:ov P f)(fn:Func)(tmps:Array Value):Rel P f (V f) (results fn tmps) (results fn (tmps.map (val f))):=by
 unfold results;have hg:∀t,(tmps.map (val f)).getD t undef=val f (tmps.getD t undef):=by
  intro t;simp only[bV,aM];cases tmps[t]? with
  |none=>simp[mo]
  |some v=>rfl
 refine ai (A:=VS f) ?_ ?_
 ·rw[fS,fS];refine NO (LO _ λx _=>?_) ?_
  ·cases x with
   |tmp t=>simp only[hg];exact aC rfl
   |cell a t =>
    simp only[hg];refine ai (BT hf _) ?_;rintro x _ rfl;exact Am t x
  ·rintro a _ rfl;simp[VS]
 ·rintro vs _ rfl;refine aC ?_;simp only[V];by_cases h:vs.size=1
  ·rw[dif_pos h,dif_pos (by simpa using h)];simp
  ·rw[dif_neg h,dif_neg (by simpa using h)];simp
def Out(P:Program)(L:Nat->Bool)(Gm:Nat)(m':Bool)(pn csr:List Frame)(F:kr)(wl wr:ae)(xu:Frame)(abr:List Frame)(g':aY)(bN:ae):Prop :=
 ∃F' NR YN LP LQ qC mQ,g'=G NR (YN++pn)/\vV Gm L NR/\(∀c∈YN,vV Gm L c) /\
  stepG P m' (G xu (abr++csr)) wr=.go (G LP (LQ++csr)) qC mQ/\(∀f,F'.has f->LP=frame f NR/\LQ=YN.map (frame f)) /\
  WR F' bN qC/\fT F F' wl wr bN qC/\(∀e∈mQ,xT F' e)/\PF P L Gm F'/\(∀f,F'.has f->F.has f)/\gh bN
section
variable {fr:Frame}{cs:List Frame}{s:Sem Next}{w w':ae}{el:Array Event}
def pq{v:Value}(hk:fr.kind=.normal)(h:s.runT P w #[]=(.ok (.value v) w',el)):stepG.apply P true fr cs we s w=.go (G (fr.finish v) cs) w' (seen P fr.fn el):=by
 simp only[stepG.apply,if_true,h,hk,GStep.after,G,cw];rfl
def qJ(hk:fr.kind=.normal)(h:s.runT P w #[]=(.ok .skip w',el)):stepG.apply P true fr cs we s w=.go (G (fr.finish undef) cs) w' (seen P fr.fn el):=by
 simp only[stepG.apply,if_true,h,hk,GStep.after,G,cw];rfl
def pr{g:FuncId}{args:Array Value}(hk:fr.kind=.normal)(ht:∃ops td k,fr.todo=.inRegion ops td::k)(h:s.runT P w #[]=(.ok (.enter g args) w',el)):stepG.apply P true fr cs we s w=.go (G (Frame.enter P g args .normal) (fr::cs)) w' (seen P fr.fn el):=by
 obtain⟨ops,td,k,ht⟩:=ht;simp only[stepG.apply,if_true,h,hk,GStep.after,G,ht,cw];rfl
def LR{h:Halt}(hh:pN h=true)(hr:(s.runT P w #[]).1=.halt h w'){g':aY}{w2:ae}{es:Array Event}(hg:stepG.apply P true fr cs we s w=.go g' w2 es):False:=by
 rcases hx:s.runT P w #[] with⟨r,el⟩;rw[hx]at hr;subst hr;cases h<;>first|exact Bool.noConfusion hh|skip
 ·rename_i u;cases u<;>first|exact Bool.noConfusion hh|(simp only[stepG.apply,if_true,hx,GStep.after]at hg;cases hg)
 ·simp only[stepG.apply,if_true,hx,GStep.after]at hg;cases hg
def Iz{v:Value}(hr:(s.runT P w #[]).1=.halt (.panic v) w'){g':aY}{w2:ae}{es:Array Event}(hg:stepG.apply P true fr cs we s w=.go g' w2 es):∃chain,g'.frame.mode=.panicking chain:=by
 rcases hx:s.runT P w #[] with⟨r,el⟩;rw[hx]at hr;subst hr;simp only[stepG.apply,if_true,hx,GStep.after]at hg;cases hg;simp only[Frame.raise];split<;>exact⟨_,rfl⟩
end
abbrev Fr(fn:FuncId)(tmps:Array Value)(todo:List Item)(mode:FrameMode):Frame:={fn,tmps,todo,defers:=[],mode,kind:=.normal,roundOf:=we}
def iV{m':Bool}{pn csr ab abr:List Frame}{fn:FuncId}{tmps tr:Array Value}{todo NS:List Item}{mode IA:FrameMode}(hP:PF P L Gm F)(W:WR F wl wr)(vW:gh wl)(tP:∀c∈ab,vV Gm L c)(oE:∀f,F.has f->abr=ab.map (frame f))(wK:∀f,F.has f->tr=tmps.map (val f))(sr:L fn=true)(ht2:∀i∈NS,oD Gm L i=true)(YO:IA=.run\/IA=.returning)(h3:stepG P m' (G (Fr fn tr todo mode) (abr++csr)) wr=.go (G (Fr fn tr NS IA) (abr++csr)) wr #[]):
  Out P L Gm m' pn csr F wl wr (Fr fn tr todo mode) abr (G (Fr fn tmps NS IA) (ab++pn)) wl :=
 ⟨F,Fr fn tmps NS IA,ab,_,abr,wr,#[],rfl,⟨rfl,rfl,rfl,sr,ht2,YO⟩,tP,h3,λf hf=>⟨by rw[wK f hf];rfl,oE f hf⟩,W,fT.refl _ _ _,aj,hP,λ_ h=>h,vW⟩
def uF(dp:sJ P L Gm){g:FuncId}(hg:L g=true)(args:Array Value):vV Gm L (Frame.enter P g args .normal):=by
 obtain⟨Aq,sO,gb⟩:=dp.body g hg;refine⟨rfl,rfl,rfl,hg,?_,.inl rfl⟩;intro i hi;simp only[Frame.enter,sO,Option.bind_some,List.mem_singleton]at hi;subst hi;cases hb:Aq.body with
 |none=>rfl
 |some c=>exact gb c hb
def Pr(g:FuncId)(args:Array Value):Frame.enter P g (args.map (val f)) .normal=frame f (Frame.enter P g args .normal):=by
 simp only[Frame.enter,frame,Array.map_append,Array.size_map,Array.map_replicate,mo]
def IB(dp:sJ P L Gm)(hP:PF P L Gm F)(W:WR F wl wr)(vW:gh wl){m m':Bool}{pn csr ab abr:List Frame}{fr xu:Frame}(Ps:vV Gm L fr)(tP:∀c∈ab,vV Gm L c)(hr:∀f,F.has f->xu=frame f fr/\abr=ab.map (frame f)){g':aY}{bN:ae}{es:Array Event}(hgo:stepG P m (G fr (ab++pn)) wl=.go g' bN es)(cG:g'.status=.running)(hdy:g'.dying=we)(kO:g'.frame.mode=.run\/g'.frame.mode=.returning)(NT:ab≠[]\/fr.mode=.run):Out P L Gm m' pn csr F wl wr xu abr g' bN:=by
 obtain⟨f0,lE⟩:=W.some;obtain⟨hd,vu,hk,sr,E7,IC⟩:=Ps;obtain⟨fn,tmps,todo,defers,mode,kind,ro⟩:=fr;simp only at hd vu hk sr E7 IC NT;subst hd vu hk;obtain⟨tr,Ej,wK⟩:∃tr,xu=Fr fn tr todo mode/\∀f,F.has f->tr=tmps.map (val f):=by
  refine⟨tmps.map (val f0),(hr f0 lE).1,λf hf=>?_⟩;have:=(hr f0 lE).1.symm.trans (hr f hf).1;simp only[frame,Frame.mk.injEq]at this;exact this.2.1
 subst Ej;have oE:∀f,F.has f->abr=ab.map (frame f):=λf hf=>(hr f hf).2;rcases IC with IC|IC
 ·
  subst IC;cases todo with
  |nil =>
   simp only[G,stepG,stepG.exec]at hgo;cases hgo;exact iV hP W vW tP oE wK sr E7 (.inr rfl) (by simp only[G,stepG,stepG.exec,if_true])
  |cons i k =>
   have hi:=E7 i aj;have lY:∀i∈k,oD Gm L i=true:=λi hi=>E7 i (by simp[hi]);have two:∀{a b:Item},oD Gm L a=true->oD Gm L b=true->∀i∈a::b::k,oD Gm L i=true:=by
    intro a b ha hb i hi;simp only[bq]at hi;rcases hi with rfl|rfl|hi
    ·exact ha
    ·exact hb
    ·exact lY i hi
   have one:∀{a:Item},oD Gm L a=true->∀i∈a::k,oD Gm L i=true:=by
    intro a ha i hi;simp only[bq]at hi;rcases hi with rfl|hi
    ·exact ha
    ·exact lY i hi
   cases i<;>first|exact Bool.noConfusion hi|skip
   case inBlock id =>
    simp only[G,stepG,stepG.exec]at hgo;cases hgo;exact iV hP W vW tP oE wK sr lY (.inl rfl) (by simp only[G,stepG,stepG.exec,if_true])
   case inScope c =>
    simp only[G,stepG,stepG.exec]at hgo;cases hgo;exact iV hP W vW tP oE wK sr lY (.inl rfl) (by simp only[G,stepG,stepG.exec,if_true])
   case inLoop c =>
    simp only[G,stepG,stepG.exec]at hgo;cases hgo;exact iV hP W vW tP oE wK sr (two hi hi) (.inl rfl) (by simp only[G,stepG,stepG.exec,if_true])
   case code c =>
    have mn:lF Gm L c=true:=hi;cases c<;>first|exact Bool.noConfusion hi|skip
    case skip =>
     simp only[G,stepG,stepG.exec]at hgo;cases hgo;exact iV hP W vW tP oE wK sr lY (.inl rfl) (by simp only[G,stepG,stepG.exec,if_true])
    case label l =>
     simp only[G,stepG,stepG.exec]at hgo;cases hgo;exact iV hP W vW tP oE wK sr lY (.inl rfl) (by simp only[G,stepG,stepG.exec,if_true])
    case ret =>
     simp only[G,stepG,stepG.exec]at hgo;cases hgo;exact iV hP W vW tP oE wK sr E7 (.inr rfl) (by simp only[G,stepG,stepG.exec,if_true])
    case seq a b =>
     simp only[lF,aU]at mn;simp only[G,stepG,stepG.exec]at hgo;cases hgo;exact iV hP W vW tP oE wK sr (two mn.1 mn.2) (.inl rfl) (by simp only[G,stepG,stepG.exec,if_true])
    case block id c =>
     simp only[G,stepG,stepG.exec]at hgo;cases hgo;exact iV hP W vW tP oE wK sr (two hi rfl) (.inl rfl) (by simp only[G,stepG,stepG.exec,if_true])
    case loop c =>
     simp only[G,stepG,stepG.exec]at hgo;cases hgo;exact iV hP W vW tP oE wK sr (two hi hi) (.inl rfl) (by simp only[G,stepG,stepG.exec,if_true])
    case scope c =>
     simp only[G,stepG,stepG.exec]at hgo;cases hgo;exact iV hP W vW tP oE wK sr (two hi hi) (.inl rfl) (by simp only[G,stepG,stepG.exec,if_true])
    case refuse w =>
     simp only[G,stepG,stepG.exec]at hgo;cases hgo
    case cond c a b =>
     simp only[lF,aU]at mn;have jg:=Ca hP dp lE (Fr fn tmps (.code (.cond c a b)::k) .run) c mn.1.1;rw[show frame f0 (Fr fn tmps (.code (.cond c a b)::k) .run)=Fr fn tr (.code (.cond c a b)::k) .run by rw[wK f0 lE];rfl]at jg;simp only[G,stepG,stepG.exec]at hgo;cases hb:Frame.eval (Fr fn tmps (.code (.cond c a b)::k) .run) c<;>simp only[hb]at hgo<;>first|cases hgo|skip
     rename_i t;rw[hb,cP]at jg;refine iV hP W vW tP oE wK sr (one (by cases t;exact mn.2;exact mn.1.2)) (.inl rfl) ?_;simp only[G,stepG,stepG.exec,jg]
    case exit id =>
     simp only[G,stepG,stepG.exec]at hgo;cases hx:exitTo id k with
     |none=>simp only[hx,Option.elim_none]at hgo;simp at hgo
     |some k2 =>
      simp only[hx,Option.elim_some]at hgo;cases hgo;refine iV hP W vW tP oE wK sr (λi hi=>lY i (Pp hx i hi)) (.inl rfl) ?_;simp only[G,stepG,stepG.exec,hx,Option.elim_some]
    case goto l =>
     simp only[G,stepG,stepG.exec]at hgo;cases hx:gotoIn l k with
     |none=>simp only[hx,Option.elim_none]at hgo;simp at hgo
     |some k2 =>
      simp only[hx,Option.elim_some]at hgo;cases hgo;refine iV hP W vW tP oE wK sr (Pq hx lY) (.inl rfl) ?_;simp only[G,stepG,stepG.exec,hx,Option.elim_some]
    case region id ops draw =>
     cases draw
     ·simp only[G,stepG,stepG.exec]at hgo;simp only[Bool.not_false,if_true]at hgo;cases hgo;refine iV hP W vW tP oE wK sr (one hi) (.inl rfl) ?_;simp only[G,stepG,stepG.exec,Bool.not_false,if_true]
     ·simp only[G,stepG,stepG.exec,choose,Sem.run,Question.forced,Bool.not_true,aT,if_false]at hgo;cases hgo;refine⟨F,Fr fn tmps (.inRegion ops (Region.schedule (P.follows .mixedOrders) ops (Question.cut (.order fn id) (wl.tape wl.drawn (.order fn id))))::k) .run,ab,Fr fn tr (.inRegion ops (Region.schedule (P.follows .mixedOrders) ops (Question.cut (.order fn id) (wl.tape wl.drawn (.order fn id))))::k) .run,abr,{wr with drawn:=wr.drawn+1},#[],rfl,⟨rfl,rfl,rfl,sr,one hi,.inl rfl⟩,tP,?_,λf hf=>⟨by rw[wK f hf];rfl,oE f hf⟩,W.env rfl rfl W.os W.output W.tape (by simp[W.drawn]),fT.env rfl rfl rfl rfl,aj,hP,λ_ h=>h,gh.heap vW rfl⟩;simp only[G,stepG,stepG.exec,choose,Sem.run,Question.forced,Bool.not_true,aT,if_false,W.tape,W.drawn]
   case inRegion ops todo =>
    cases todo with
    |nil =>
     simp only[G,stepG,stepG.exec]at hgo;cases hgo;exact iV hP W vW tP oE wK sr lY (.inl rfl) (by simp only[G,stepG,stepG.exec])
    |cons i rest =>
     have hy:yielded ops tr=yielded ops tmps:=by rw[wK f0 lE];exact Iy ops tmps
     have mV:∀(v v':Value) (F':kr),(∀f,F'.has f->F.has f)->(∀f,F'.has f->v'=val f v)->∀f,F'.has f->(Fr fn tr (.inRegion ops (i::rest)::k) .run).finish v'=frame f ((Fr fn tmps (.inRegion ops (i::rest)::k) .run).finish v):=by
      intro v v' F' h1 h2 f hf;rw[h2 f hf,wK f (h1 f hf)];exact Cc (G:=Gm) (L:=L) (Fr fn tmps (.inRegion ops (i::rest)::k) .run) v E7
     have YP:∀v,vV Gm L ((Fr fn tmps (.inRegion ops (i::rest)::k) .run).finish v):=λv=>zG ⟨rfl,rfl,rfl,sr,E7,.inl rfl⟩ v;by_cases hw:((ops[i]?).map (Region.wanted · (yielded ops tmps))).getD false=true
     ·obtain⟨o,ho⟩:∃o,ops[i]?=so o:=by
       cases ho:ops[i]? with
       |none=>rw[ho]at hw;cases hw
       |some o=>exact⟨o,rfl⟩
      have NU:uE Gm L o=true:=by
       have eP:ops.all (uE Gm L)=true:=hi;rw[iM]at eP;obtain⟨cR,he⟩:=aI.1 ho;rw[<- he];exact eP i cR
      simp only[uE,aU,Array.all_eq_true']at NU;have hrel:∀f,F.has f->Rel P f (jJ L f) (execOp (Fr fn tmps (.inRegion ops (i::rest)::k) .run).eval o) (execOp (Fr fn tr (.inRegion ops (i::rest)::k) .run).eval o):=by
       intro f hf;have jg:∀g,F.has g->∀x∈o.op.operands,(Fr fn tr (.inRegion ops (i::rest)::k) .run).eval x=val g ((Fr fn tmps (.inRegion ops (i::rest)::k) .run).eval x):=by
        intro g hg x hx;have:=Ca hP dp hg (Fr fn tmps (.inRegion ops (i::rest)::k) .run) x (NU.2 x hx);rw[show frame g (Fr fn tmps (.inRegion ops (i::rest)::k) .run)=Fr fn tr (.inRegion ops (i::rest)::k) .run by rw[wK g hg];rfl]at this;exact this
       exact B7 (PF.ok hP dp hf) (PF.fn hP hf) (λn hn args=>dp.call n hn f (PF.ok hP dp hf) (PF.fn hP hf) args) o NU.1 (jg f hf) (λx hx=>Cb W hP (λg hg=>jg g hg x hx))
      have hC:=xW (λf=>jJ L f) _ _ F wl wr #[] #[] hrel W;have hN:=tq _ _ wl #[] (hrel f0 lE) vW;have hl:stepG P m (G (Fr fn tmps (.inRegion ops (i::rest)::k) .run) (ab++pn)) wl=stepG.apply P true (Fr fn tmps (.inRegion ops (i::rest)::k) .run) (ab++pn) we (execOp (Fr fn tmps (.inRegion ops (i::rest)::k) .run).eval o) wl:=by
       simp only[G,stepG,stepG.exec];refine(if_pos hw).trans ?_;simp only[stepG.oper,Frame.oper?,ho]
      have R8:stepG P m' (G (Fr fn tr (.inRegion ops (i::rest)::k) .run) (abr++csr)) wr=stepG.apply P true (Fr fn tr (.inRegion ops (i::rest)::k) .run) (abr++csr) we (execOp (Fr fn tr (.inRegion ops (i::rest)::k) .run).eval o) wr:=by
       simp only[G,stepG,stepG.exec,hy];refine(if_pos hw).trans ?_;simp only[stepG.oper,Frame.oper?,ho]
      have ID:stepG.apply P true (Fr fn tmps (.inRegion ops (i::rest)::k) .run) (ab++pn) we (execOp (Fr fn tmps (.inRegion ops (i::rest)::k) .run).eval o) wl=.go g' bN es:=hl.symm.trans hgo;rcases hx:(execOp (Fr fn tmps (.inRegion ops (i::rest)::k) .run).eval o).runT P wl #[] with⟨r,el⟩;rw[hx]at hC hN;cases r with
      |halt h w1 =>
       exfalso;rcases hN with hN|⟨v,rfl⟩
       ·exact LR hN (by rw[hx]) ID
       ·obtain⟨ch,IE⟩:=Iz (by rw[hx]) ID;rw[IE]at kO;rcases kO with h|h<;>cases h
      |ok n w1 =>
       obtain⟨F',b,pw,YQ,c1,c2,c3,c4,c5,c6⟩:=hC;obtain⟨g0,YR⟩:=c3.some;have Xv:=c2 g0 YR;have LS:∀e∈seen P fn YQ,xT F' e:=by
        intro e he;obtain⟨new,rfl,A6⟩:=c5;have:=B9 P fn _ e he;exact A6 e (by simpa using this)
       cases n<;>cases b<;>simp only[jJ]at Xv
       ·rename_i v v';rw[pq rfl hx]at ID;cases ID;exact⟨F',_,ab,_,abr,pw,_,rfl,YP v,tP,R8.trans (pq rfl c1),λf hf=>⟨mV v v' F' c6 (λf hf=>c2 f hf) f hf,oE f (c6 f hf)⟩,c3,c4,LS,hP.NQ c4,c6,hN⟩
       ·rw[qJ rfl hx]at ID;cases ID;exact⟨F',_,ab,_,abr,pw,_,rfl,YP undef,tP,R8.trans (qJ rfl c1),λf hf=>⟨mV undef undef F' c6 (λf _=>(mo f).symm) f hf,oE f (c6 f hf)⟩,c3,c4,LS,hP.NQ c4,c6,hN⟩
       ·rename_i gg args gg' Xu;obtain⟨rfl,hLg,_⟩:=Xv;rw[pr rfl ⟨_,_,_,rfl⟩ hx]at ID;cases ID;refine⟨F',_,Fr fn tmps (.inRegion ops (i::rest)::k) .run::ab,_,Fr fn tr (.inRegion ops (i::rest)::k) .run::abr,pw,_,rfl,uF dp hLg args,?_,R8.trans (pr rfl ⟨_,_,_,rfl⟩ c1),λf hf=>⟨?_,?_⟩,c3,c4,LS,hP.NQ c4,c6,hN⟩
        ·intro c hc;simp only[bq]at hc;rcases hc with rfl|hc
         ·exact⟨rfl,rfl,rfl,sr,E7,.inl rfl⟩
         ·exact tP c hc
        ·have:=c2 f hf;simp only[jJ]at this;rw[this.2.2,Pr]
        ·rw[aB,oE f (c6 f hf),wK f (c6 f hf)];rfl
     ·simp only[G,stepG,stepG.exec,hw]at hgo;simp only[aT,if_false]at hgo;cases hgo;refine⟨F,_,ab,(Fr fn tr (.inRegion ops (i::rest)::k) .run).finish undef,abr,wr,#[],rfl,YP _,tP,?_,λf hf=>⟨mV undef undef F (λ_ h=>h) (λf _=>(mo f).symm) f hf,oE f hf⟩,W,fT.refl _ _ _,aj,hP,λ_ h=>h,vW⟩;simp only[G,stepG,stepG.exec,hy,hw,aT,if_false]
 ·
  subst IC;have fu:ab≠[]:=NT.elim id (λh=>by cases h);cases ab with
  |nil=>exact absurd rfl fu
  |cons c ab2 =>
   obtain⟨Vq,cr,rfl⟩:∃Vq cr,abr=cr::Vq:=by
    rw[oE f0 lE];exact⟨_,_,rfl⟩
   have hcr:∀f,F.has f->cr=frame f c/\Vq=ab2.map (frame f):=by
    intro f hf;have:=oE f hf;simp only[aB,bT]at this;exact this
   obtain⟨Aq,sO,_⟩:=dp.body fn sr;have hrel:∀f,F.has f->Rel P f (V f) (results Aq tmps) (results Aq tr):=by
    intro f hf;rw[wK f hf];exact rT (PF.ok hP dp hf) Aq tmps
   have hC:=xW (λf=>V f) _ _ F wl wr #[] #[] hrel W;have hN:=tq _ _ wl #[] (hrel f0 lE) vW;rcases hx:(results Aq tmps).runT P wl #[] with⟨r,el⟩;rw[hx]at hC hN;simp only[G,stepG,unwind,sO,hx,List.cons_append]at hgo;cases r with
   |halt h w1 =>
    exfalso;cases h<;>simp only[GStep.after]at hgo<;>cases hgo
   |ok v w1 =>
    obtain⟨F',v',pw,YQ,c1,c2,c3,c4,c5,c6⟩:=hC;have LS:∀e∈seen P fn YQ,xT F' e:=by
     intro e he;obtain⟨new,rfl,A6⟩:=c5;have:=B9 P fn _ e he;exact A6 e (by simpa using this)
    simp only[GStep.after,doReturn]at hgo;cases hgo;have abZ:=tP c aj;refine⟨F',c.finish v,ab2,cr.finish v',Vq,pw,seen P fn YQ,rfl,zG abZ v,λx hx=>tP x (by simp[hx]),?_,λf hf=>⟨?_,(hcr f (c6 f hf)).2⟩,c3,c4,LS,hP.NQ c4,c6,hN⟩
    ·simp only[G,stepG,unwind,sO,c1,List.cons_append,GStep.after,doReturn,cw]
    ·rw[(hcr f (c6 f hf)).1,c2 f hf];exact Cc (G:=Gm) (L:=L) c v abZ.todo
end
end
abbrev Tape:=Nat->Question->Nat
def WT(w:ae)(τ:Tape)(d:Nat):ae:={w with tape:=τ,drawn:=d}
def oG(w:ae)(c:Nat)(τ:Tape)(d:Nat):Prop:=∀j,j<c->∀q,τ (d+j) q=w.tape (w.drawn+j) q
def oG.le{w:ae}{c c':Nat}{τ:Tape}{d:Nat}(h:oG w c τ d)(hc:c'<=c):oG w c' τ d:=λj hj q=>h j aa q
def oG.tail{w w':ae}{c c':Nat}{τ:Tape}{d:Nat}(h:oG w (c+c') τ d)(ht:w'.tape=w.tape)(hd:w'.drawn=w.drawn+c):oG w' c' τ (d+c):=by
 intro j hj q;rw[ht,hd,dG,dG];exact h (c+j) aa q
def YS{α:Type}(τ:Tape)(d:Nat):Result α->Result α
 | .ok a w=>.ok a (WT w τ d)
 | .halt h w=>.halt h (WT w τ d)
def Ce{α:Type}:Result α->ae
 | .ok _ w=>w
 | .halt _ w=>w
def Cf{α:Type}(P:Program)(s:Sem α)(w:ae)(es:Array Event)(c:Nat):Prop :=
 (Ce (s.runT P w es).1).tape=w.tape/\(Ce (s.runT P w es).1).drawn=w.drawn+c /\
 ∀τ d,oG w c τ d->s.runT P (WT w τ d) es=(YS τ (d+c) (s.runT P w es).1,(s.runT P w es).2)
theorem NV(w:ae):w.sys .env=(.strings w.os.env,w):=rfl
def Cg{α:Type}{P:Program}{s:Sem α}{w:ae}{es:Array Event}{s₁:Sem α}{w₁:ae}{es₁:Array Event}{c₀ c:Nat}(h:s.runT P w es=s₁.runT P w₁ es₁)(ht:w₁.tape=w.tape)(hd:w₁.drawn=w.drawn+c₀)(hw:∀τ d,oG w c₀ τ d->s.runT P (WT w τ d) es=s₁.runT P (WT w₁ τ (d+c₀)) es₁)(Pt:Cf P s₁ w₁ es₁ c):Cf P s w es (c₀+c):=by
 obtain⟨a,b,e⟩:=Pt;refine⟨by rw[h,a,ht],by rw[h,b,hd,dG],λτ d hA=>?_⟩;rw[hw τ d (hA.le aa),e τ (d+c₀) (hA.tail ht hd),h,dG]
def gJ{α:Type}{P:Program}{s:Sem α}{w:ae}{es:Array Event}{s₁:Sem α}{w₁:ae}{es₁:Array Event}{c:Nat}(h:s.runT P w es=s₁.runT P w₁ es₁)(ht:w₁.tape=w.tape)(hd:w₁.drawn=w.drawn)(hw:∀τ d,s.runT P (WT w τ d) es=s₁.runT P (WT w₁ τ d) es₁)(Pt:Cf P s₁ w₁ es₁ c):Cf P s w es c:=by
 have:=Cg (c₀:=0) h ht hd (λτ d _=>hw τ d) Pt;rwa[bD]at this
def jV{α:Type}{P:Program}{s:Sem α}{w:ae}{es:Array Event}{h:Halt}(e:s.runT P w es=(.halt h w,es))(hw:∀τ d,s.runT P (WT w τ d) es=(.halt h (WT w τ d),es)):Cf P s w es 0:=by
 refine⟨by rw[e];rfl,by rw[e];rfl,λτ d _=>?_⟩;rw[hw,e];rfl
theorem Ch(p:Program)(w:ae)(τ:Tape)(d:Nat)(a:Addr)(at_:Bool):(WT w τ d).farLoad p a at_=w.farLoad p a at_:=rfl
def bind_map{α β γ:Type}{x:Except String α}{k:α->Except String β}{k':α->Except String γ}{g:β->γ}(h:∀a,k' a=(k a).map g):(x>>=k')=(x>>=k).map g:=by
 cases x with
 |error=>rfl
 |ok a=>exact h a
def Gs{p:Program}{w:ae}{τ:Tape}{d:Nat}{b:Addr}{u:TypeId}{a:Addr}{v:Value}{at_:Bool}:
  (WT w τ d).viewStore p b u a v at_=(w.viewStore p b u a v at_).map (λx=>(WT x.1 τ d,x.2)):=by
 unfold World.viewStore;by_cases ht:(!tight p p.depth u)=true
 ·simp only[ht,if_true];rfl
 ·simp only[ht,if_false];have e:(WT w τ d).seen p b u a at_=w.seen p b u a at_:=rfl;rw[e];refine bind_map (λx=>?_);obtain⟨c,e,z,first,Gc,cells⟩:=x;cases v.bytes? with
  |none=>rfl
  |some bytes =>
   simp only[];by_cases hl:(so bytes.length≠Gc.bytes?.map (·.length))
   ·rw[if_pos hl,if_pos hl];rfl
   ·rw[if_neg hl,if_neg hl];exact bind_map (λc2=>rfl)
def Ar{p:Program}{w:ae}{τ:Tape}{d:Nat}{a:Addr}{v:Value}{at_:Bool}:
  (WT w τ d).farStore p a v at_=(w.farStore p a v at_).map (λx=>(WT x.1 τ d,x.2)):=by
 unfold World.farStore;show(match w.heap[a.block]? with|some (.view ali u)=>_|_=>_)=_;cases hh:w.heap[a.block]? with
 |none=>simp only[World.noCell,WT,hh];rfl
 |some o =>
  cases o<;>simp only[World.noCell,WT,hh]<;>first|rfl|skip
  rename_i b u;have:=Gs (p:=p) (w:=w) (τ:=τ) (d:=d) (b:=b) (u:=u) (a:=a) (v:=v) (at_:=at_);simp only[WT]at this;rw[this];cases w.viewStore p b u a v at_<;>rfl
def Ek{p:Program}{w:ae}{b:Addr}{u:TypeId}{a:Addr}{v:Value}{at_:Bool}{x:ae×List Addr}(h:w.viewStore p b u a v at_=.ok x):x.1.tape=w.tape/\x.1.drawn=w.drawn:=by
 obtain⟨w1,ts⟩:=x;obtain⟨c,e,z,_,_,rfl,_⟩:=sk (f:=⟨λx=>x,λx=>x,λx=>x,λx=>x⟩) (wr:={w with heap:=w.heap.map (obj ⟨λx=>x,λx=>x,λx=>x,λx=>x⟩)}) (at':=b) (k':=a) aj rfl rfl rfl rfl h;exact⟨rfl,rfl⟩
def xx{P:Program}{f:Rn}{α β:Type}{A:α->β->Prop}:∀(s:Sem α) (s':Sem β) (w:ae) (es:Array Event),Rel P f A s s'->∃c,Cf P s w es c:=by
 intro s
 induction s with
 |pure a=>intro s' w es h;exact⟨0,rfl,rfl,λτ d _=>rfl⟩
 |load m x k ih =>
  intro s' w es h;cases s'<;>simp only[Rel]at h;cases hc:w.cell? x with
  |some v =>
   obtain⟨c,hd⟩:=ih v _ w (es.push ⟨.cell x,false,m == .atomic⟩) (h.2.2 v);refine⟨c,gJ (w₁:=w) (by simp only[Sem.runT,hc]) rfl rfl (λτ d=>?_) hd⟩;have Rw:(WT w τ d).cell? x=so v:=hc;simp only[Sem.runT,Rw]
  |none =>
   have Rw:∀τ d,(WT w τ d).cell? x=none:=λτ d=>hc;cases hf:w.farLoad P x (m == .atomic) with
   |error hh =>
    refine⟨0,jV (h:=hh) (by simp only[Sem.runT,hc,hf]) (λτ d=>?_)⟩;simp only[Sem.runT,Rw τ d,Ch,hf]
   |ok y =>
    obtain⟨v,ts⟩:=y;obtain⟨c,hd⟩:=ih v _ w (es++ts.toArray.map (⟨.cell ·,false,m == .atomic⟩)) (h.2.2 v);refine⟨c,gJ (w₁:=w) (by simp only[Sem.runT,hc,hf]) rfl rfl (λτ d=>?_) hd⟩;simp only[Sem.runT,Rw τ d,Ch,hf]
 |store m x v k ih =>
  intro s' w es h;cases s'<;>simp only[Rel]at h;by_cases cd:(∃c,v=.agg c)\/∃c,v=.tuple c
  ·rcases cd with⟨c,rfl⟩|⟨c,rfl⟩
   ·exact⟨0,jV rfl (λτ d=>rfl)⟩
   ·exact⟨0,jV rfl (λτ d=>rfl)⟩
  ·have n1:∀c,v≠.agg c:=λc e=>cd (.inl ⟨c,e⟩);have n2:∀c,v≠.tuple c:=λc e=>cd (.inr ⟨c,e⟩);cases hc:w.cell? x with
   |some old =>
    have Rw:∀τ d,(WT w τ d).cell? x=so old:=λτ d=>hc;by_cases hz:w.frozen? x=true
    ·have D2:∀τ d,(WT w τ d).frozen? x=true:=λτ d=>hz;exact⟨0,jV (by rw[iQ n1 n2,hc];simp only[hz,if_true];rfl) (λτ d=>by rw[iQ n1 n2,Rw];simp only[D2,if_true])⟩
    ·have D2:∀τ d,¬(WT w τ d).frozen? x=true:=λτ d=>hz;obtain⟨c,hd⟩:=ih _ (w.setCell x v) (es.push ⟨.cell x,true,m == .atomic⟩) h.2.2.2;refine⟨c,gJ (w₁:=w.setCell x v) (by rw[iQ n1 n2,hc];simp only[hz,if_false];rfl) rfl rfl (λτ d=>?_) hd⟩;rw[iQ n1 n2,Rw];simp only[D2,if_false];rfl
   |none =>
    have Rw:∀τ d,(WT w τ d).cell? x=none:=λτ d=>hc;cases hf:w.farStore P x v (m == .atomic) with
    |error hh =>
     refine⟨0,jV (h:=hh) (by rw[iQ n1 n2,hc];simp only[hf]) (λτ d=>?_)⟩;rw[iQ n1 n2,Rw];simp only[Ar,hf,Except.map]
    |ok y =>
     obtain⟨w1,ts⟩:=y;obtain⟨b,u,Ie,NN⟩:=uv hf;obtain⟨ht,D3⟩:=Ek NN;obtain⟨c,hd⟩:=ih _ w1 (es++ts.toArray.map (⟨.cell ·,true,m == .atomic⟩)) h.2.2.2;refine⟨c,gJ (w₁:=w1) (by rw[iQ n1 n2,hc];simp only[hf]) ht D3 (λτ d=>?_) hd⟩;rw[iQ n1 n2,Rw];simp only[Ar,hf,Except.map]
 |new o k ih =>
  intro s' w es h;cases s'<;>simp only[Rel]at h;obtain⟨c,hd⟩:=ih w.heap.size _ {w with heap:=w.heap.push o} es (h.2.2 _);exact⟨c,gJ (w₁:={w with heap:=w.heap.push o}) rfl rfl rfl (λτ d=>rfl) hd⟩
 |shape r k ih =>
  intro s' w es h;cases s'<;>simp only[Rel]at h;obtain⟨c,hd⟩:=ih (w.shape? r) _ w es (h.2 _);exact⟨c,gJ (w₁:=w) rfl rfl rfl (λτ d=>rfl) hd⟩
 |freeze a n k ih =>
  intro s' w es h;cases s'<;>simp only[Rel]at h;obtain⟨c,hd⟩:=ih _ (w.freeze a n) es h.2.2;have e:∀τ d,(WT w τ d).freeze a n=WT (w.freeze a n) τ d:=by
   intro τ d;unfold World.freeze;split<;>rfl
  refine⟨c,gJ (w₁:=w.freeze a n) rfl (by unfold World.freeze;split<;>rfl) (by unfold World.freeze;split<;>rfl) (λτ d=>?_) hd⟩;simp only[Sem.runT,e]
 |frozen a k ih =>
  intro s' w es h;cases s'<;>simp only[Rel]at h;obtain⟨c,hd⟩:=ih (w.frozen? a) _ w es (h.2 _);exact⟨c,gJ (w₁:=w) rfl rfl rfl (λτ d=>rfl) hd⟩
 |getObj r k ih =>
  intro s' w es h;cases s'<;>simp only[Rel]at h;cases ho:w.heap[r]? with
  |none =>
   have p6:∀τ d,(WT w τ d).heap[r]?=none:=λτ d=>ho;exact⟨0,jV (by simp only[Sem.runT,ho];rfl) (λτ d=>by simp only[Sem.runT,p6])⟩
  |some o =>
   have p6:∀τ d,(WT w τ d).heap[r]?=so o:=λτ d=>ho;by_cases hc:∃c e z,o=.cells c e z
   ·obtain⟨c,e,z,rfl⟩:=hc;exact⟨0,jV (by simp only[Sem.runT,ho];rfl) (λτ d=>by simp only[Sem.runT,p6])⟩
   ·obtain⟨c,hd⟩:=ih o _ w (es.push ⟨.obj r,false,o.isChan⟩) (h.2 _);have e1:∀w:ae,w.heap[r]?=so o->(Sem.getObj r k).runT P w es=(k o).runT P w (es.push ⟨.obj r,false,o.isChan⟩):=by
     intro w hw;simp only[Sem.runT,hw];cases o<;>first|rfl|exact absurd ⟨_,_,_,rfl⟩ hc
    exact⟨c,gJ (w₁:=w) (e1 w ho) rfl rfl (λτ d=>e1 _ (p6 τ d)) hd⟩
 |setObj r o k ih =>
  intro s' w es h;cases s'<;>simp only[Rel]at h;cases ho:w.heap[r]? with
  |none =>
   have p6:∀τ d,(WT w τ d).heap[r]?=none:=λτ d=>ho;exact⟨0,jV (by simp only[Sem.runT,ho];rfl) (λτ d=>by simp only[Sem.runT,p6])⟩
  |some x =>
   have p6:∀τ d,(WT w τ d).heap[r]?=so x:=λτ d=>ho;by_cases hc:∃c e z,x=.cells c e z
   ·obtain⟨c,e,z,rfl⟩:=hc;exact⟨0,jV (by simp only[Sem.runT,ho];rfl) (λτ d=>by simp only[Sem.runT,p6])⟩
   ·obtain⟨c,hd⟩:=ih _ {w with heap:=w.heap.setIfInBounds r o} (es.push ⟨.obj r,true,o.isChan⟩) h.2.2.2;have e1:∀w:ae,w.heap[r]?=so x->(Sem.setObj r o k).runT P w es=k.runT P {w with heap:=w.heap.setIfInBounds r o} (es.push ⟨.obj r,true,o.isChan⟩):=by
     intro w hw;simp only[Sem.runT,hw];cases x<;>first|rfl|exact absurd ⟨_,_,_,rfl⟩ hc
    exact⟨c,gJ (w₁:={w with heap:=w.heap.setIfInBounds r o}) (e1 w ho) rfl rfl (λτ d=>e1 _ (p6 τ d)) hd⟩
 |choose q k ih =>
  intro s' w es h;cases s'<;>simp only[Rel]at h;by_cases hq:q.forced=true
  ·obtain⟨c,hd⟩:=ih 0 _ w es (h.2 _);exact⟨c,gJ (w₁:=w) (by simp only[Sem.runT,hq,if_true]) rfl rfl (λτ d=>by simp only[Sem.runT,hq,if_true]) hd⟩
  ·obtain⟨c,hd⟩:=ih (q.cut (w.tape w.drawn q)) _ {w with drawn:=w.drawn+1} es (h.2 _);refine⟨1+c,Cg (c₀:=1) (w₁:={w with drawn:=w.drawn+1}) (by simp[Sem.runT,hq]) rfl rfl (λτ d hA=>?_) hd⟩;have h0:=hA 0 aa q;simp only[Nat.add_zero]at h0;simp[Sem.runT,hq,WT,h0]
 |sys c k ih =>
  intro s' w es h;cases s'<;>simp only[Rel]at h;have he:c=.env:=by
   have:=h.2.1;cases c<;>first|rfl|exact Bool.noConfusion this
  subst he;obtain⟨c,hd⟩:=ih (.strings w.os.env) _ w (es.push ⟨.output,true,false⟩) (h.2.2 _);exact⟨c,gJ (w₁:=w) (by simp only[Sem.runT,NV]) rfl rfl (λτ d=>by simp only[Sem.runT,NV];rfl) hd⟩
 |program k ih =>
  intro s' w es h;cases s'<;>simp only[Rel]at h;obtain⟨c,hd⟩:=ih P _ w es h;exact⟨c,gJ (w₁:=w) rfl rfl rfl (λτ d=>rfl) hd⟩
 |mark m k ih =>
  intro s' w es h;cases s'<;>simp only[Rel]at h;obtain⟨c,hd⟩:=ih _ w (es.push ⟨.mark m,false,true⟩) h.2.2;exact⟨c,gJ (w₁:=w) rfl rfl rfl (λτ d=>rfl) hd⟩
 |halt hh=>intro s' w es h;exact⟨0,jV rfl (λτ d=>rfl)⟩
end Go.Ren
