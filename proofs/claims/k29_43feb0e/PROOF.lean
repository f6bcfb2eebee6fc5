import PyProof.Rows.All
import Wide.All
import OpenK.AllK
import Wide.FinOn
import Lean
import PyProof.EqAt
import PyProof.EqKinds
import PyProof.TupleCall
import PyProof.NeKinds
import PyProof.IsiTupleOf
import PyProof.IsiPairs
import PyProof.IsiHeapPairs
import PyProof.ConsumeWalk
import PyProof.EnumFor
import PyProof.EnumMake
import PyProof.AutoSeq1
import KE.KDictList
import KE.KDictOf
import KE.KIntText
import KE.KRevIter
import KE.KTryMore
import PyProof.AutoListH
import PyProof.DictCompW
import PyProof.ExcArgsOwn
import PyProof.ExcAttrAll.ValueError
import PyProof.FactsAll.dict_3
import PyProof.FactsAll.list_3
import PyProof.FactsAll.str_0
import PyProof.FactsAll.str_5
import PyProof.FactsAll.str_6
import PyProof.FactsAll.str_7
import PyProof.InstStoreFacts
import PyProof.ListRange
import PyProof.MeetsDictList
import PyProof.MinMaxWalk
import PyProof.Rows.FStr
import PyProof.Rows.StrNews2
import PyProof.Rows.StrSplitJoin
import PyProof.SeqRoads
import PyProof.SumWalkG
import PyProof.FactsAll.list_2
import PySem.Challenge.RW_moonseat_k29_sheets_begun
noncomputable section
set_option hygiene false
local macro_rules|`(S $x)=>`(some $x)
local macro_rules|`(L $x)=>`(List $x)
local macro_rules|`(Y $x)=>`(Option $x)
local macro_rules|`(J)=>`(none)
local macro_rules|`(B)=>`(true)
local macro_rules|`(G)=>`(false)
local macro_rules|`(tactic|let $f:ident $x* :=$t)=>do
 if x.size=0 then Lean.Macro.throwUnsupported
 let mut a:=#[];let mut b:=#[];let mut c:=#[]
 for y in x do
  if y.raw.isIdent then c:=c.push (←`(Lean.Parser.Tactic.rcasesPatLo|$(⟨y.raw⟩):ident)) else c:=c.push (←`(Lean.Parser.Tactic.rcasesPatLo|_))
  if y.raw.getId==`rfl then
   let z:=Lean.mkIdent (.mkSimple s!"rf{a.size}");a:=a.push ⟨z⟩;b:=b.push (←`(tactic|subst $z))
  else a:=a.push ⟨y.raw⟩
 if f.getId==`q then `(tactic|obtain⟨$[$c],*⟩:=$t) else `(tactic|(refine $f $t fun $a* =>?_;$[$b];*))
local macro_rules|`(abbrev $d:declId $s:optDeclSig $v:declVal)=>`(noncomputable def $d $s:optDeclSig $v:declVal)
local macro_rules|`(@[simp]abbrev $d:declId $s:optDeclSig $v:declVal)=>`(@[simp]noncomputable def $d $s:optDeclSig $v:declVal)
local macro_rules|`(#[$x,*])=>`(⟨$x,*⟩)
local macro_rules|`(#v[$x,*])=>`(List.toArray [$x,*])
local macro_rules|`(Sq)=>`((by decide))
local macro_rules|`(Sz)=>`((model X.prog X.w))
local macro_rules|`(Sx)=>`((by simp))
local macro_rules|`(Sj)=>`((.dk ks (ss.map Jf)))
local macro_rules|`(Sv)=>`((by assumption))
local macro_rules|`(Sw)=>`((by kernel_rfl))
local macro_rules|`(Sy)=>`((jH rfl rfl))
local macro_rules|`(Sb)=>`((defScope st))
local macro_rules|`(Sg)=>`((.lst [.str "begin",.str "take",.str "turn",.str "drop"]))
local macro_rules|`(Sf)=>`((S (.builtin "object.__setattr__")))
local macro_rules|`(Su)=>`((x==("__debug__")))
local macro_rules|`(Sc)=>`((yl (yD P w) P w K mg base N qual scope f cd A outer s0 H0 E))
local macro_rules|`(Sm)=>`((mD ks ss))
local macro_rules|`(Sn)=>`((ra row i))
local macro_rules|`(So)=>`((.lst (f.map .int)))
local macro_rules|`(Ss)=>`((jf.refl H))
local macro_rules|`(Sr)=>`((model prog w))
local macro_rules|`(Si)=>`((.ref (jV K x)))
local macro_rules|`(Se)=>`((ju (dK (.bl G))))
local macro_rules|`(Sa)=>`((by simp_all))
local macro_rules|`(S0)=>`((.lst (ks.map .str)))
local macro_rules|`(S3)=>`((d2 jg (dV 1) (dN 0)))
set_option tactic.hygienic false
set_option bootstrap.genMatcherCode false
set_option genSizeOf false
set_option linter.all false
set_option Elab.async false
set_option maxRecDepth 100000
set_option maxHeartbeats 4000000
set_option compiler.extract_closed false
set_option genInjectivity false
section
open PySem PySem.Spec PyProof.Rows
@[reducible]def Tq:=L (Addr×Obj)
@[reducible]def Tz:=Value->Shared->Prop
@[reducible]def Tj:=Str->Y Value
@[reducible]def Tv:=L (Str×Nat)
def wAa:=@wpAny_bind
def wBa:=@wpAny_pure
def wCa:=@wpAny_mono
def wDa:=@wpAny_holding
def wHa:=@wpAny_call
def wIa:=@Heap.get?_push_of_some
def wJa:=@Heap.get?_push_size
def wKa:=@Heap.get?_update_other
def wLa:=@Heap.lt_size
def wMa:=@List.mem_cons_of_mem
def wNa:=@List.mem_cons_self
def wPa:=@Nat.le_refl
def wQa:=@Nat.le_of_lt
def wSa:=@Nat.le_trans
def wTa:=@Nat.ne_of_lt
def wUa:=@Nat.lt_irrefl
def wYa:=@List.mem_of_getElem?
def vBa:=@decide_eq_false
def vDa:=@absurd
def vEa:=@Int.le_refl
def vFa:=@Option.some.inj
def vIa:=@List.mem_append_left
def vJa:=@List.mem_append_right
def vKa:=@Nat.le_add_right
def vLa:=@eq_of_beq
def vMa:=@Nat.le_succ
def vNa:=@Bool.false_ne_true
def vOa:=@wpAny_standAt
def vTa:=@wpAny_newObj_type
def vUa:=@Heap.get?_update_self
def vWa:=@List.map_cons
def vXa:=@List.length_cons
def vYa:=@List.length_map
def vZa:=@List.length_append
def uAa:=@List.getElem?_map
def uBa:=@List.getD_eq_getElem?_getD
def uCa:=@List.getElem?_eq_getElem
def uDa:=@List.map_append
def uEa:=@Option.bind_some
def uFa:=@List.append_nil
def uIa:=@List.length_singleton
def uJa:=@List.map_nil
def uLa:=@List.size_toArray
def uNa:=@List.length_drop
def uOa:=@List.length_take
def uQa:=@List.nil_append
def uRa:=@List.getElem?_append_left
def uSa{α:Type _}{l:L α}{i:Nat}{a:α}(h:l[i]?=S a):∃h:i<l.length,l[i]=a:=List.getElem?_eq_some_iff.mp h
def uTa{α:Type _}{a b:α}{l:L α}(h:a∈b::l):a=b∨a∈l:=List.mem_cons.mp h
def uVa{α β:Type _}{f:α->β}{b:β}{l:L α}(h:b∈l.map f):∃a,a∈l/\f a=b:=List.mem_map.mp h
def uWa{α:Type _}{a:α}{s t:L α}(h:a∈s++t):a∈s∨a∈t:=List.mem_append.mp h
@[reducible]def uXa:=PySem.W.Frag
def Yk{p q r:Prop}{G00:Prop}(h:p/\q/\r)(k:p->q->r->G00):G00:=by let q a b c:=h;exact k a b c
def N3{p:Prop}{q:A0->Prop}{G00:Prop}(h:p/\(∃a,q a))(k:p->∀a,q a->G00):G00:=by let q b a c:=h;exact k b a c
def ja{p q:A0->Prop}{G00:Prop}(h:∃a,p a/\q a)(k:∀a,p a->q a->G00):G00:=by let q a b c:=h;exact k a b c
def Vl{p:A0->A1->Prop}{G00:Prop}(h:∃a b,p a b)(k:∀a b,p a b->G00):G00:=by let q a b c:=h;exact k a b c
def Jm{p q r s:Prop}{G00:Prop}(h:p/\q/\r/\s)(k:p->q->r->s->G00):G00:=by let q a b c d:=h;exact k a b c d
def JY{p q:Prop}{r:A0->Prop}{G00:Prop}(h:p/\q/\(∃a,r a))(k:p->q->∀a,r a->G00):G00:=by let q b c a d:=h;exact k b c a d
def vb{p:Prop}{q r:A0->Prop}{G00:Prop}(h:p/\(∃a,q a/\r a))(k:p->∀a,q a->r a->G00):G00:=by let q b a c d:=h;exact k b a c d
def jw{p q r:A0->Prop}{G00:Prop}(h:∃a,p a/\q a/\r a)(k:∀a,p a->q a->r a->G00):G00:=by let q a b c d:=h;exact k a b c d
def Ub{p:A0->Prop}{q:A0->A1->Prop}{G00:Prop}(h:∃a,p a/\(∃b,q a b))(k:∀a,p a->∀b,q a b->G00):G00:=by let q a c b d:=h;exact k a c b d
def jW{p q:A0->A1->Prop}{G00:Prop}(h:∃a b,p a b/\q a b)(k:∀a b,p a b->q a b->G00):G00:=by let q a b c d:=h;exact k a b c d
def Q1{p:A0->A1->A2->Prop}{G00:Prop}(h:∃a b c,p a b c)(k:∀a b c,p a b c->G00):G00:=by let q a b c d:=h;exact k a b c d
def yY{p q r s t:Prop}{G00:Prop}(h:p/\q/\r/\s/\t)(k:p->q->r->s->t->G00):G00:=by let q a b c d e:=h;exact k a b c d e
def YG{p:Prop}{q r:A0->A1->Prop}{G00:Prop}(h:p/\(∃a b,q a b/\r a b))(k:p->∀a b,q a b->r a b->G00):G00:=by let q c a b d e:=h;exact k c a b d e
def ge{p q r s:A0->Prop}{G00:Prop}(h:∃a,p a/\q a/\r a/\s a)(k:∀a,p a->q a->r a->s a->G00):G00:=by let q a b c d e:=h;exact k a b c d e
def Yn{p q:A0->Prop}{r:A0->A1->Prop}{G00:Prop}(h:∃a,p a/\q a/\(∃b,r a b))(k:∀a,p a->q a->∀b,r a b->G00):G00:=by let q a c d b e:=h;exact k a c d b e
def jc{p q r:A0->A1->Prop}{G00:Prop}(h:∃a b,p a b/\q a b/\r a b)(k:∀a b,p a b->q a b->r a b->G00):G00:=by let q a b c d e:=h;exact k a b c d e
def vG{p q:A0->A1->A2->Prop}{G00:Prop}(h:∃a b c,p a b c/\q a b c)(k:∀a b c,p a b c->q a b c->G00):G00:=by let q a b c d e:=h;exact k a b c d e
def Dk{p:A0->A1->A2->A3->Prop}{G00:Prop}(h:∃a b c d,p a b c d)(k:∀a b c d,p a b c d->G00):G00:=by let q a b c d e:=h;exact k a b c d e
def Jy{p q r s t u:Prop}{G00:Prop}(h:p/\q/\r/\s/\t/\u)(k:p->q->r->s->t->u->G00):G00:=by let q a b c d e f:=h;exact k a b c d e f
def J3{p q r s t:A0->Prop}{G00:Prop}(h:∃a,p a/\q a/\r a/\s a/\t a)(k:∀a,p a->q a->r a->s a->t a->G00):G00:=by let q a b c d e f:=h;exact k a b c d e f
def K_{p:A0->Prop}{q r:A0->A1->A2->Prop}{G00:Prop}(h:∃a,p a/\(∃b c,q a b c/\r a b c))(k:∀a,p a->∀b c,q a b c->r a b c->G00):G00:=by let q a d b c e f:=h;exact k a d b c e f
def JK{p q r s:A0->A1->Prop}{G00:Prop}(h:∃a b,p a b/\q a b/\r a b/\s a b)(k:∀a b,p a b->q a b->r a b->s a b->G00):G00:=by let q a b c d e f:=h;exact k a b c d e f
def JL{p q r:A0->A1->A2->Prop}{G00:Prop}(h:∃a b c,p a b c/\q a b c/\r a b c)(k:∀a b c,p a b c->q a b c->r a b c->G00):G00:=by let q a b c d e f:=h;exact k a b c d e f
def Q2{p q:A0->A1->A2->A3->Prop}{G00:Prop}(h:∃a b c d,p a b c d/\q a b c d)(k:∀a b c d,p a b c d->q a b c d->G00):G00:=by let q a b c d e f:=h;exact k a b c d e f
def XB{p q r s t u:A0->Prop}{G00:Prop}(h:∃a,p a/\q a/\r a/\s a/\t a/\u a)(k:∀a,p a->q a->r a->s a->t a->u a->G00):G00:=by let q a b c d e f g:=h;exact k a b c d e f g
def vc{p q r s t:A0->A1->Prop}{G00:Prop}(h:∃a b,p a b/\q a b/\r a b/\s a b/\t a b)(k:∀a b,p a b->q a b->r a b->s a b->t a b->G00):G00:=by let q a b c d e f g:=h;exact k a b c d e f g
def jL{p q r s:A0->A1->A2->Prop}{G00:Prop}(h:∃a b c,p a b c/\q a b c/\r a b c/\s a b c)(k:∀a b c,p a b c->q a b c->r a b c->s a b c->G00):G00:=by let q a b c d e f g:=h;exact k a b c d e f g
def VG{p q r:A0->A1->A2->A3->Prop}{G00:Prop}(h:∃a b c d,p a b c d/\q a b c d/\r a b c d)(k:∀a b c d,p a b c d->q a b c d->r a b c d->G00):G00:=by let q a b c d e f g:=h;exact k a b c d e f g
def Et{p:A0->A1->A2->A3->A4->A5->Prop}{G00:Prop}(h:∃a b c d e f,p a b c d e f)(k:∀a b c d e f,p a b c d e f->G00):G00:=by let q a b c d e f g:=h;exact k a b c d e f g
def YH{p q r s t u:A0->A1->Prop}{G00:Prop}(h:∃a b,p a b/\q a b/\r a b/\s a b/\t a b/\u a b)(k:∀a b,p a b->q a b->r a b->s a b->t a b->u a b->G00):G00:=by let q a b c d e f g h:=h;exact k a b c d e f g h
def zo{p q r s t:A0->A1->A2->Prop}{G00:Prop}(h:∃a b c,p a b c/\q a b c/\r a b c/\s a b c/\t a b c)(k:∀a b c,p a b c->q a b c->r a b c->s a b c->t a b c->G00):G00:=by let q a b c d e f g h:=h;exact k a b c d e f g h
def YI{p q r s:A0->A1->A2->A3->Prop}{G00:Prop}(h:∃a b c d,p a b c d/\q a b c d/\r a b c d/\s a b c d)(k:∀a b c d,p a b c d->q a b c d->r a b c d->s a b c d->G00):G00:=by let q a b c d e f g h:=h;exact k a b c d e f g h
def je{p q r:A0->A1->A2->A3->A4->Prop}{G00:Prop}(h:∃a b c d e,p a b c d e/\q a b c d e/\r a b c d e)(k:∀a b c d e,p a b c d e->q a b c d e->r a b c d e->G00):G00:=by let q a b c d e f g h:=h;exact k a b c d e f g h
def cy{p q:A0->A1->A2->A3->A4->A5->Prop}{G00:Prop}(h:∃a b c d e f,p a b c d e f/\q a b c d e f)(k:∀a b c d e f,p a b c d e f->q a b c d e f->G00):G00:=by let q a b c d e f g h:=h;exact k a b c d e f g h
def JC{p:A0->A1->A2->A3->A4->A5->A6->Prop}{G00:Prop}(h:∃a b c d e f g,p a b c d e f g)(k:∀a b c d e f g,p a b c d e f g->G00):G00:=by let q a b c d e f g h:=h;exact k a b c d e f g h
def yI{p q r s t u:A0->A1->A2->Prop}{G00:Prop}(h:∃a b c,p a b c/\q a b c/\r a b c/\s a b c/\t a b c/\u a b c)(k:∀a b c,p a b c->q a b c->r a b c->s a b c->t a b c->u a b c->G00):G00:=by let q a b c d e f g h i:=h;exact k a b c d e f g h i
def uK{p q r s t:A0->A1->A2->A3->Prop}{G00:Prop}(h:∃a b c d,p a b c d/\q a b c d/\r a b c d/\s a b c d/\t a b c d)(k:∀a b c d,p a b c d->q a b c d->r a b c d->s a b c d->t a b c d->G00):G00:=by let q a b c d e f g h i:=h;exact k a b c d e f g h i
def bH{p q r:A0->A1->A2->A3->A4->A5->Prop}{G00:Prop}(h:∃a b c d e f,p a b c d e f/\q a b c d e f/\r a b c d e f)(k:∀a b c d e f,p a b c d e f->q a b c d e f->r a b c d e f->G00):G00:=by let q a b c d e f g h i:=h;exact k a b c d e f g h i
def Y8{p q r s t u:A0->A1->A2->A3->Prop}{G00:Prop}(h:∃a b c d,p a b c d/\q a b c d/\r a b c d/\s a b c d/\t a b c d/\u a b c d)(k:∀a b c d,p a b c d->q a b c d->r a b c d->s a b c d->t a b c d->u a b c d->G00):G00:=by let q a b c d e f g h i j:=h;exact k a b c d e f g h i j
def Jw{p q r s t:A0->A1->A2->A3->A4->Prop}{G00:Prop}(h:∃a b c d e,p a b c d e/\q a b c d e/\r a b c d e/\s a b c d e/\t a b c d e)(k:∀a b c d e,p a b c d e->q a b c d e->r a b c d e->s a b c d e->t a b c d e->G00):G00:=by let q a b c d e f g h i j:=h;exact k a b c d e f g h i j
def JV{p q r s:A0->A1->A2->A3->A4->A5->Prop}{G00:Prop}(h:∃a b c d e f,p a b c d e f/\q a b c d e f/\r a b c d e f/\s a b c d e f)(k:∀a b c d e f,p a b c d e f->q a b c d e f->r a b c d e f->s a b c d e f->G00):G00:=by let q a b c d e f g h i j:=h;exact k a b c d e f g h i j
def wa{p q r:A0->A1->A2->A3->A4->A5->A6->Prop}{G00:Prop}(h:∃a b c d e f g,p a b c d e f g/\q a b c d e f g/\r a b c d e f g)(k:∀a b c d e f g,p a b c d e f g->q a b c d e f g->r a b c d e f g->G00):G00:=by let q a b c d e f g h i j:=h;exact k a b c d e f g h i j
def Zn{a:b}{p:Prop}(h:J=S a):p:=nomatch h
def Zs{a:b}{p:Prop}(h:S a=J):p:=nomatch h
def Zf{p:Prop}(h:G=B):p:=nomatch h
def Zt{p:Prop}(h:B=G):p:=nomatch h
def Zj{a b:c}(h:S a=S b):a=b:=vFa h
namespace L2
set_option genInjectivity true in
inductive KD where
 |i (n:Int)|s (x:Str)|t (l:L KD)
mutual
noncomputable def WI:KD->KD->Bool
 |.i n,.i m=>n==m
 |.s x,.s y=>x==y
 |.t l,.t m=>Q3 l m
 |_,_=>G
noncomputable def Q3:L KD->L KD->Bool
 |[],[]=>B
 |a::l,b::m=>WI a b&&Q3 l m
 |_,_=>G
end
mutual
theorem Ut:∀{a b},WI a b=B↔a=b
 |.i n,.i m=>by show(_==_)=_↔_;simp
 |.s n,.s m=>by show(_==_)=_↔_;simp
 |.t l,.t m=>by show Q3 l m=_↔_;rw[XC];simp
 |.i _,.s _=>#[Zf,nofun]
 |.i _,.t _=>#[Zf,nofun]
 |.s _,.i _=>#[Zf,nofun]
 |.s _,.t _=>#[Zf,nofun]
 |.t _,.i _=>#[Zf,nofun]
 |.t _,.s _=>#[Zf,nofun]
theorem XC:∀{a b},Q3 a b=B↔a=b
 |[],[]=>#[λ_=>rfl,λ_=>rfl]
 |a::l,b::m=>by show(WI a b&&Q3 l m)=_↔_;rw[Bool.and_eq_true,Ut,XC];simp
 |[],_::_=>#[Zf,nofun]
 |_::_,[]=>#[Zf,nofun]
end
noncomputable instance:DecidableEq KD:=λa b=>decidable_of_iff _ Ut
mutual
noncomputable def vT(h:Heap):KD->Value->Prop
 |.i n,v=>(∃t,v=.int n t)\/∃b ,v=.bool b/\n=(if b then 1 else 0)
 |.s x,v=>∃t,v=.str x t
 |.t l,v=>∃a c,v=.ref a/\h.IsTuple a c/\yM h l c.toList
noncomputable def yM(h:Heap):L KD->L Value->Prop
 |[],d=>d=[]
 |k::e,d=>∃v r,d=v::r/\vT h k v/\yM h e r
end
mutual
noncomputable def KD.dep:KD->Nat
 |.i _=>0
 |.s _=>0
 |.t l=>ZF l+1
noncomputable def ZF:L KD->Nat
 |[]=>0
 |k::a=>max k.dep (ZF a)
end
def XD:(KD.t a).dep=ZF a+1:=rfl
def OS:ZF []=0:=rfl
def OT(i):(KD.i i).dep=0:=rfl
def XE(k a):ZF (k::a)=max k.dep (ZF a):=rfl
mutual
noncomputable def KD.drw:KD->Nat
 |.i _=>1
 |.s _=>1
 |.t l=>gf l+1
noncomputable def gf:L KD->Nat
 |[]=>0
 |k::a=>k.drw+gf a
end
mutual
noncomputable def wb(w:World):KD->Int
 |.i n=>hashInt n
 |.s x=>hashStr w x
 |.t l=>reduceHash (Builtin.Tuple.tupleHashOf (VL w l))
noncomputable def VL(w:World):L KD->L Int
 |[]=>[]
 |k::a=>wb w k::VL w a
end
def OU(w l):wb w (.t l)=reduceHash (Builtin.Tuple.tupleHashOf (VL w l)):=rfl
def OV:KD.drw (.t l)=gf l+1:=rfl
def OW(w k a):VL w (k::a)=wb w k::VL w a:=rfl
def OX(k a):gf (k::a)=k.drw+gf a:=rfl
def OY(w):VL w []=[]:=rfl
def OZ:gf []=0:=rfl
mutual
theorem vT.inj:∀{x y v},vT h x v->vT h y v->x=y
 |.i n,.i m,v,p,q=>by
  change _\/_ at q;rcases p with⟨t,rfl⟩|⟨b,rfl,rfl⟩
  ·lia
  ·simp_all
 |.s n,.s m,v,p,q=>by
  let q t rfl:=p;let q t e:=q;cases e;rfl
 |.t n,.t m,v,p,q=>by
  revert p;intro v0;let jc a k rfl j p:=v0;let jc M f e s q:=q;cases e;let Yn o g _ _ d:=j;let Yn I i _ _ c:=s;rw[g]at i;cases i;rw[d]at c;cases c;rw[yM.inj p q]
 |.i n,.s m,v,p,q=>by
  let q t rfl:=q;rcases p with⟨t,e⟩|⟨b,e,_⟩<;>cases e
 |.i n,.t m,v,p,q=>by
  let jW _ _ rfl _:=q;rcases p with⟨t,e⟩|⟨b,e,_⟩<;>cases e
 |.s n,.i m,v,p,q=>by
  let q t rfl:=p;rcases q with⟨t,e⟩|⟨b,e,_⟩<;>cases e
 |.s n,.t m,v,p,q=>by
  let q t rfl:=p;let jW _ _ e _:=q;cases e
 |.t n,.i m,v,p,q=>by
  let jW _ _ rfl _:=p;rcases q with⟨t,e⟩|⟨b,e,_⟩<;>cases e
 |.t n,.s m,v,p,q=>by
  let jW _ _ rfl _:=p;let q t e:=q;cases e
theorem yM.inj:∀{x y v},yM h x v->yM h y v->x=y
 |[],[],_,_,_=>rfl
 |[],_::_,_,p,q=>by
  subst p;let jW _ _ e _:=q;cases e
 |_::_,[],_,p,q=>by
  subst q;let jW _ _ e _:=p;cases e
 |x::F,y::C,_,p,q=>by
  let jc v r rfl z u:=p;let jc A H e l w:=q;cases e;rw[vT.inj z l,yM.inj u w]
end
mutual
theorem vT.keep(m:∀a b,h.IsTuple a b->c.IsTuple a b):∀{k v},vT h k v->vT c k v
 |.i _,_,p=>by exact p
 |.s _,_,p=>by exact p
 |.t l,_,p=>by
  revert p;intro j0;let jc a b rfl o p:=j0;exact#[a,_,rfl,m a _ o,yM.keep m p]
theorem yM.keep(m:∀a b,h.IsTuple a b->c.IsTuple a b):∀{k v},yM h k v->yM c k v
 |[],_,p=>by exact p
 |k::f,_,p=>by
  let jc v r rfl e d:=p;exact#[v,r,rfl,vT.keep m e,yM.keep m d]
end
def bI(c:A.units<cLine)(h:Q (hashInt (if b then 1 else 0)) {s with toks:=s.toks+1}):wpAny (model a w) A (pyHash (.bool b)) Q E s:=by
 refine PySem.W.pyHash_slot rfl F.slot_bool_hash entry_int_hash (args_int_hash _) (beq_builtin_none _) (.inr c) ?_;cases b
 ·exact(show wpAny _ _ (do ret (<-mkInt 0)) _ _ s from wAa (wpAny_mkInt (wBa #[_,_,rfl,by
    have e:reduceHash 0=hashInt 0:=rfl;exact h])))
 ·exact(show wpAny _ _ (do ret (<-mkInt 1)) _ _ s from wAa (wpAny_mkInt (wBa #[_,_,rfl,by
    have e:reduceHash 1=hashInt 1:=rfl;exact h])))
mutual
theorem XH:∀(k v A s) (Q:Int->Shared->Prop),vT s.heap k v->A.units+k.dep<cLine->Q (wb w k) {s with toks:=s.toks+k.drw}->wpAny (model i w) A (pyHash v) Q E s
 |.i n,v,A,s,Q,p,d,h=>by
  rcases p with⟨t,rfl⟩|⟨b,rfl,rfl⟩
  ·exact wpAny_pyHash_int h
  ·exact bI (by exact d) h
 |.s x,v,A,s,Q,p,d,h=>by
  let q t rfl:=p;exact wpAny_pyHash_str h
 |.t l,v,A,s,Q,p,d,h=>by
  rw[OU,OV]at h;rw[XD]at d;revert p;intro v1;let jc a y rfl o p:=v1;let Yn H g c n z:=o;refine PySem.W.pyHash_slot #[_,g,c] F.slot_tuple_hash F.entry_tuple_hash (F.args_tuple_hash_1 _) (beq_builtin_none _) (.inr (by lia)) ?_;refine(show wpAny _ _ (Builtin.Tuple.tupleItemsOf _ >>= _) _ _ s from wAa (wpAny_tupleItemsOf g z (wAa ?_)));rw[<-Array.forIn_toList];refine Q4 l _ _ s _ _ p (by lia) λf m=>?_;show wpAny _ _ (retInt _) _ _ _;rw[m];exact wAa (wpAny_mkInt (wBa #[_,_,rfl,by simpa[Nat.add_assoc]using h]))
theorem Q4:∀(e j A s b Q),yM s.heap e j->A.units+ZF e<cLine->(∀f:Array _,f.toList=b.toList++VL w e->Q f {s with toks:=s.toks+gf e})->
  wpAny (model i w) A (forIn j b λx r=>do let h<-pyHash x;pure (ForInStep.yield (r.push h))) Q E s
 |[],j,A,s,b,Q,p,d,h=>by
  subst p;exact wBa (by simpa[OZ,OY]using h b)
 |k::e,j,A,s,b,Q,p,d,h=>by
  rw[XE]at d;let jc v r rfl C u:=p;rw[List.forIn_cons];refine wAa (wAa (XH k v A s _ C (by lia) (wBa ?_)));refine Q4 e r A _ _ Q u (by lia) λf m=>?_;have:=h f (by rw[m,OW];simp);rw[OX]at this;simpa[Nat.add_assoc]using this
end
section
open SeqAt
variable{s:Shared}
def Uu{d:Type}[DecidableEq d]{a b:d}{c}(h:c=B↔a=b):decide (a=b)=c:=by
 cases c with
 |true=>exact decide_eq_true (h.mp rfl)
 |false=>exact vBa λz=>by simp_all
theorem yM.len:∀{ks vs},yM h ks vs->vs.length=ks.length
 |[],_,p=>by subst p;rfl
 |k::ks,_,p=>by
  let jc v r rfl _ a:=p;simp[a.len]
theorem yM.get:∀{a vs}{j:Nat}{v},yM h a vs->vs[j]?=S v->∃k,a[j]?=S k/\vT h k v
 |[],_,_,_,p,e=>by subst p;simp at e
 |k::a,_,j,d,p,e=>by
  let jc v r rfl c b:=p;cases j with
  |zero=>cases e;exact#[k,rfl,c]
  |succ j=>exact b.get e
theorem WJ:∀{a k},k∈a->k.dep<=ZF a
 |[],_,h=>by cases h
 |x::b,k,h=>by
  rw[XE];rcases uTa h with rfl|h
  ·lia
  ·have:=WJ h
   lia
theorem Dl:∀(n:Nat) (x y:KD) (u v:Value) (A:Around),x.dep<=n->vT s.heap x u->vT s.heap y v->A.units+n<cLine->EqAt A s u v (decide (x=y))
 |n,.i a,.i b,u,v,A,m,p,q,r=>by
  rcases p with⟨t,rfl⟩|⟨c,rfl,rfl⟩
  ·rcases q with⟨k,rfl⟩|⟨w,rfl,rfl⟩
   ·rw[Uu (c:=(a==b)) Sx];exact .int_int a t b k
   ·rw[Uu (c:=(a==if w then 1 else 0)) Sx];exact .int_bool a t w
  ·rcases q with⟨k,rfl⟩|⟨w,rfl,rfl⟩
   ·rw[Uu (c:=((if c then 1 else 0)==b)) Sx];exact .bool_int c b k
   ·rw[Uu (c:=(c==w)) (by cases c<;>cases w<;>simp)];exact .bool_bool c w
 |n,.s a,.s b,u,v,A,m,p,q,r=>by
  let q t rfl:=p;let q k rfl:=q;rw[Uu (c:=(a==b)) Sx];exact .str_str a t b k
 |n,.i a,.s b,u,v,A,m,p,q,r=>by
  let q k rfl:=q;rw[decide_eq_false (by intro z;cases z)];rcases p with⟨t,rfl⟩|⟨c,rfl,rfl⟩
  ·exact .int_str a t b k
  ·exact .bool_str c b k
 |n,.s a,.i b,u,v,A,m,p,q,r=>by
  let q k rfl:=p;rw[decide_eq_false (by intro z;cases z)];rcases q with⟨t,rfl⟩|⟨c,rfl,rfl⟩
  ·exact .str_int a k b t
  ·exact .str_bool a k c
 |n,.i a,.t b,u,v,A,m,p,q,r=>by
  let jc e f rfl o _:=q;rw[decide_eq_false (by intro z;cases z)];rcases p with⟨t,rfl⟩|⟨c,rfl,rfl⟩
  ·exact .int_tuple a t o (by lia)
  ·exact .bool_tuple c o (by lia)
 |n,.t a,.i b,u,v,A,m,p,q,r=>by
  let jc e f rfl o _:=p;rw[decide_eq_false (by intro z;cases z)];rcases q with⟨t,rfl⟩|⟨c,rfl,rfl⟩
  ·exact .tuple_int b t o (by lia)
  ·exact .tuple_bool c o (by lia)
 |n,.s a,.t b,u,v,A,m,p,q,r=>by
  let jc e f rfl o _:=q;let q t rfl:=p;rw[decide_eq_false (by intro z;cases z)];exact .str_tuple a t o (by lia)
 |n,.t a,.s b,u,v,A,m,p,q,r=>by
  let jc e f rfl o _:=p;let q t rfl:=q;rw[decide_eq_false (by intro z;cases z)];exact .tuple_str b t o (by lia)
 |0,.t a,.t b,u,v,A,m,p,q,r=>by rw[XD]at m;lia
 |n+1,.t a,.t b,u,v,A,m,p,q,r=>by
  rw[XD]at m;revert p;intro w2;let jc l f rfl o p:=w2;revert q;intro y2;let jc X i rfl I q:=y2;by_cases N:l=X
  ·subst N;let Yn z g _ _ d:=o;let Yn z' O _ _ P:=I;rw[g]at O;cases O;rw[d]at P;cases P;rw[yM.inj p q,decide_eq_true rfl];exact .same _
  ·have l1:=p.len;have R:=q.len;have Z:=RcAt.tuples (A:=A) (e:=λj=>decide (a[j]?=b[j]?)) o I (by lia) λj H Q=>by
    have g1:f.toList[j]?=S f[j]:=by simp[H]
    have W:i.toList[j]?=S i[j]:=by simp[Q]
    let ja F M UQ:=p.get g1;let ja C T r2:=q.get W;have:=Dl n F C _ _ A.in1 (wSa (WJ (wYa M)) (by lia)) UQ r2 (by rw[Around.in1_units];lia);rw[M,T];have ee:decide (S F=S C)=decide (F=C):=by lia
    rw[ee];exact this
   refine .of_refs N ?_;rw[Uu (c:=((List.range (min f.size i.size)).all (λj=>decide (a[j]?=b[j]?))&&f.size==i.size))]
   ·exact Z
   ·rw[Bool.and_eq_true,beq_iff_eq,List.all_eq_true];have z1:f.size=a.length:=by rw[<-l1];simp
    have z2:i.size=b.length:=by rw[<-R];simp
    rw[z1,z2];constructor
    ·rintro⟨H,Q⟩;congr 1;refine List.ext_getElem? λj=>?_;by_cases hj:j<a.length
     ·exact of_decide_eq_true (H j (by simp;lia))
     ·rw[List.getElem?_eq_none (by lia),List.getElem?_eq_none (by lia)]
    ·intro h;cases h;exact#[λj _=>by simp,rfl]
end
theorem Q5:∀(n k v A) (Q:Bool->Shared->Prop),k.dep<=n->vT s.heap k v->Q B s->wpAny (model i w) A (eqIsQuiet n v) Q E s
 |n,.i _,v,A,Q,_,p,h=>by
  rcases p with⟨t,rfl⟩|⟨b,rfl,_⟩
  ·rw[eqIsQuiet_byValue n rfl];exact wBa h
  ·rw[eqIsQuiet_byValue n rfl];exact wBa h
 |n,.s x,v,A,Q,_,p,h=>by
  let q t rfl:=p;rw[eqIsQuiet_byValue n rfl];exact wBa h
 |0,.t l,v,A,Q,j,p,h=>by rw[XD]at j;lia
 |n+1,.t l,v,A,Q,j,p,h=>by
  rw[XD]at j;revert p;intro j2;let jc a O rfl o p:=j2;let Yn T g c m M:=o;have u:s.TypeIs (.ref a) "tuple":= #[T,g,c]
  unfold eqIsQuiet;refine wAa (wpAny_specialOf u F.slot_tuple_eq.lookup ?_);refine(show wpAny _ _ _ _ _ s from wAa (wpAny_isInstance u isSubtype_tuple_tuple ?_));refine wAa (wpAny_seqItems g M (wAa ?_));rw[Option.getD_some,<-Array.forIn_toList];have I:∀(d),(∃f,yM s.heap f d/\ZF f<=n)->wpAny (model i w) A (forIn d (J,PUnit.unit) λy r=>do
    if(!(<-eqIsQuiet n y))=B then pure (ForInStep.done (S G,PUnit.unit))else do pure _;pure (ForInStep.yield (J,PUnit.unit))) (λr z=>r=(J,PUnit.unit)/\z=s) E s:=by
   intro d;induction d with
   |nil=>intro _;exact wBa #[rfl,rfl]
   |cons y d N=>
    rintro⟨f,C,H⟩;cases f with
    |nil=>cases C
    |cons k f=>
     let jc _ _ e P R:=C;cases e;rw[XE]at H;rw[List.forIn_cons];refine wAa (wAa (Q5 n k y A _ (by lia) P ?_));exact wBa (N #[f,R,by lia])
  refine wCa (I _ #[l,p,by lia]) ?_ λ_ _ x=>x;rintro r z ⟨rfl,rfl⟩;exact wBa h
abbrev GD(d w):HeapKind d w KD where
 is:=λh k a=>vT h k (.ref a)/\k.dep<=8
 hash:=wb w
 draws:=KD.drw
 room:=λA=>A.units+8<cLine
 inj:=λp q=>p.1.inj q.1
 keeps:=λp i o j=>by
  refine#[p.1.keep λb l t=>?_,p.2];let Yn n g c m e:=t;refine#[n,(j.2 b ?_).trans g,c,m,e];rintro rfl;rw[i]at g;cases g;rw[o]at e;cases e
 pyHash:=λf p h=>XH _ _ _ _ _ p.1 (by lia) h
 eqBool:=λf p q h=>Dl 8 _ _ _ _ _ p.2 p.1 q.1 f _ _ _ _ h
 quiet:=λp h=>Q5 8 _ _ _ _ p.2 p.1 h
noncomputable abbrev Uv:=Sum Int Str
abbrev wc:Uv->Value->Bool
 |.inl k,v=>Value.isInt k v
 |.inr x,v=>Value.isStrOf x v
abbrev NN(w:World):Uv->Int
 |.inl k=>hashInt k
 |.inr x=>hashStr w x
theorem yd:∀{k} {v},wc k v=B->(∃i t,k=Sum.inl i/\v=Value.int i t)\/(∃x t,k=Sum.inr x/\v=Value.str x t)
 |.inl i,v,h=>by
  let q t e:=Value.isInt_shape h;exact .inl #[i,t,rfl,e]
 |.inr x,v,h=>by
  let q t e:=Value.isStrOf_shape h;exact .inr #[x,t,rfl,e]
def bJ(x )(t ):wc (.inr x) (.str x t)=B:=by simp[wc,Value.isStrOf]
def Hj(a b ):decide ((Sum.inl a:Uv)=Sum.inl b)=(a==b):=by
 by_cases e:a=b
 ·subst e;simp
 ·simp_all
def Hk(a b ):decide ((Sum.inr a:Uv)=Sum.inr b)=decide (a=b):=by simp
abbrev y9(c )(w ):PySem.KeyKind c w Uv where
 is:=wc
 hash:=NN w
 inj:=λv a b l f=>by
  rcases yd l with⟨i,t,rfl,rfl⟩|⟨x,t,rfl,rfl⟩
  ·rcases yd f with⟨j,u,rfl,e⟩|⟨y,u,rfl,e⟩
   ·simp_all
   ·simp_all
  ·rcases yd f with⟨j,u,rfl,e⟩|⟨y,u,rfl,e⟩
   ·simp_all
   ·simp_all
 byValue:=λk v h=>by
  rcases yd h with⟨i,t,rfl,rfl⟩|⟨x,t,rfl,rfl⟩<;>rfl
 pyHash:=λd h=>by
  rcases yd d with⟨i,t,rfl,rfl⟩|⟨x,t,rfl,rfl⟩
  ·exact wpAny_pyHash_int h
  ·exact wpAny_pyHash_str h
 eqBool:=λm d h=>by
  rcases yd m with⟨i,t,rfl,rfl⟩|⟨x,t,rfl,rfl⟩
  ·rcases yd d with⟨j,u,rfl,rfl⟩|⟨y,u,rfl,rfl⟩
   ·rw[Hj]at h;exact wpAny_eqBool_int h
   ·exact SeqAt.EqAt.int_str i t y u _ _ _ _ h
  ·rcases yd d with⟨j,u,rfl,rfl⟩|⟨y,u,rfl,rfl⟩
   ·exact SeqAt.EqAt.str_int x t j u _ _ _ _ h
   ·rw[Hk]at h;exact wpAny_eqBool_str h
 «strs»:=λk x t v h=>by
  rcases yd h with⟨i,u,rfl,e⟩|⟨y,u,rfl,e⟩
  ·simp_all
  ·injection e with g _;subst g;cases v<;>rfl
def aX(a )(w )(k )(v ):(y9 a w).is k v=wc k v:=rfl
def zb(a )(w )(x )(t ):(y9 a w).is (.inr x) (.str x t)=B:=bJ x t
set_option genInjectivity true in
inductive V where
 |non|bl (b:Bool)|int (i:Int)|str (x:Str)|byt (b:Array UInt8)|flt (b:UInt64)|ref (a:Addr)|ty (n:String)
 deriving DecidableEq
abbrev jI:V->Value->Prop
 |.non,u=>u=Value.none
 |.bl b,u=>u=Value.bool b
 |.int i,u=>∃t,u=Value.int i t
 |.str x,u=>∃t,u=Value.str x t
 |.byt b,u=>∃t,u=Value.bytes b t
 |.flt b,u=>∃t,u=Value.float b t
 |.ref a,u=>u=Value.ref a
 |.ty n,u=>u=Value.type n
noncomputable abbrev jB:=Paired jI
abbrev jB.length{a}(r:jB xs a):=Paired.length r
theorem jB.get:∀{a} {b}{i:Nat} {x},jB a b->a[i]?=S x->∃u,b[i]?=S u/\jI x u
 |_,_,_,_,.nil,e=>Zn e
 |_,_,0,_,.cons r _,e=>by simp at e;subst e;exact#[_,rfl,r]
 |_,_,i+1,x,.cons _ t,e=>by
  let ja u c d:=jB.get t (by simpa using e);exact#[u,by simpa using c,d]
theorem jB.set(r:jI x u):∀{xs} {a} (i ),jB xs a->jB (xs.set i x) (a.set i u)
 |_,_,_,.nil=>.nil
 |_,_,0,.cons _ t=>.cons r t
 |_,_,i+1,.cons q t=>.cons q (jB.set r i t)
def jB.append{b a c d}(h:jB b c)(s:jB a d):jB (b++a) (c++d):=by
 induction h with
 |nil=>exact s
 |cons r _ i=>exact .cons r i
theorem jB.take:∀{xs} {a} (n ),jB xs a->jB (xs.take n) (a.take n)
 |_,_,0,_=>.nil
 |_,_,_+1,.nil=>.nil
 |_,_,n+1,.cons r t=>.cons r (jB.take n t)
theorem jB.drop:∀{xs} {a} (n ),jB xs a->jB (xs.drop n) (a.drop n)
 |_,_,0,r=>r
 |_,_,_+1,.nil=>.nil
 |_,_,n+1,.cons _ t=>jB.drop n t
abbrev gg:Y V->Y Value->Prop
 |S v,S u=>jI v u
 |none,none=>True
 |_,_=>False
abbrev KV:L (a×V)->L (a×Value)->Prop:=Paired λp q=>p.1=q.1/\jI p.2 q.2
set_option genInjectivity true in
inductive HO where
 |lst (xs:L V)
 |tup (xs:L V)
 |dK (kvs:L (Uv×V)) (ep:Nat)
 |mem (K:uXa) (l:L (KD×Bool)) (m:L KD)
 |dD (kvs:L (KD×Addr×V)) (ep:Nat)
 |set (SQ:Int->Bool) (n:Nat)
 |ins (C dx:Addr) (fs:L (Str×V))
 |own (x:Addr)
 |xd (fs:L (Str×V))
 |met (f x:Addr)
 |rng (lo hi:Int)
 |frz (o:Obj) (u:HO)
 |tbl (ps:Array Value)
 |ext (φ:Heap->Prop)
noncomputable abbrev Hp:=Addr->Y HO
abbrev upd(H:Hp)(a:Addr)(o:HO):Hp:=λb=>if b=a then S o else H b
def jz:upd H a o a=S o:=by unfold upd;rw[if_pos rfl]
def jp{a b}{o}(h:b≠a):upd H a o b=H b:=by unfold upd;rw[if_neg h]
def jU{H:Hp}{a b}{o}(h:H a=S o)(c:H b=J):a≠b:=by lia
abbrev TF:HO->Prop
 |.tup _=>True
 |.frz _ _=>True
 |_=>False
abbrev wd(K:uXa)(H:Hp)(a:Addr)(c:L V):=(H a=S (.tup c)\/∃o,H a=S (.frz o (.tup c)))\/
  ∃(o:Obj) (b:Array _) (n:Nat),K.lookup a=S o/\o.cls=.type "tuple"/\o.data=.seq b n/\b.size<=sizeLine/\jB c b.toList
def wd.stay{K}{H c}{a}{e}(h:wd K H a e)(d:∀b u,TF u->H b=S u->c b=S u):wd K c a e:=by
 rcases h with(h|⟨o,h⟩)|h
 ·exact .inl (.inl (d _ _ trivial h))
 ·exact .inl (.inr #[o,d _ _ trivial h])
 ·exact .inr h
mutual
noncomputable def V0(K:uXa)(H:Hp):KD->V->Prop
 |.i n,v=>v=.int n\/∃b ,v=.bl b/\n=(if b then 1 else 0)
 |.s x,v=>v=.str x
 |.t l,v=>∃a c,v=.ref a/\wd K H a c/\Vs K H l c
noncomputable def Vs(K:uXa)(H:Hp):L KD->L V->Prop
 |[],c=>c=[]
 |k::d,c=>∃v r,c=v::r/\V0 K H k v/\Vs K H d r
end
mutual
theorem V0.stay{K}{H f}(d:∀b u,TF u->H b=S u->f b=S u):∀{k} {v},V0 K H k v->V0 K f k v
 |.i n,v,h=>by exact h
 |.s x,v,h=>by exact h
 |.t l,v,h=>by
  let jc a c e t q:=h;exact#[a,c,e,t.stay d,Vs.stay d q]
theorem Vs.stay{K}{H f}(d:∀b u,TF u->H b=S u->f b=S u):∀{g} {c},Vs K H g c->Vs K f g c
 |[],c,h=>by exact h
 |k::g,c,h=>by
  let jc v r e t q:=h;exact#[v,r,e,V0.stay d t,Vs.stay d q]
end
section
variable(P:Program) (w:World)
abbrev JB(H:Hp)(h:Heap)(a:Addr):HO->Prop
 |.lst c=>c.length<=sizeLine/\∃(d:L _) (n:Nat),jB c d/\h.get? a=S {cls:=.type "list",data:=.seq d.toArray n}
 |.tup c=>c.length<=sizeLine/\∃d ,jB c d/\IsTup h a d.toArray
 |.dK b j=>b.length<=sizeLine/\(a==sysModules)=G/\∃s,KV b s/\∃o e,h.get? a=S o/\o.ExactDict/\o.data=.dict e j/\KeysOf (y9 P w) e/\Pairs (y9 P w) e.toList s/\(s.map (·.1)).Nodup
 |.mem K l m=>l.length<=sizeLine/\(a==sysModules)=G/\∃c:L (KD×Addr×Bool),
   (∀q∈c,(q.1,q.2.2)∈l/\V0 K H q.1 (.ref q.2.1)/\q.1.dep<=8)/\(∀k∈m,k∈c.map (·.1))/\
   ∃o e j,h.get? a=S o/\o.ExactDict/\o.data=.dict e j/\e.toList=(c.map λq=>(q.1,q.2.1,Value.bool q.2.2)).map (entryOfKey (GD P w))/\(c.map (·.1)).Nodup
 |.dD b j=>b.length<=sizeLine/\(a==sysModules)=G/\(b.map (·.1)).Nodup/\∃c ,
   Paired (λp q=>p.1=q.1/\p.2.1=q.2.1/\jI p.2.2 q.2.2) b c/\
   ∃o e,h.get? a=S o/\o.ExactDict/\o.data=.dict e j/\e.toList=c.map (entryOfKey (GD P w))
 |.set SQ n=>h.SetOf (intKind P w) a SQ n
 |.ins C r i=>H r=S (.own a)/\i.length<=1000/\r≠a/\h.get? a=S (PySem.W.instObj C r)/\
   ∃g,h.Ns1 r g/\(∀f,gg (i.lookup f) (g f))/\PySem.Within g (i.map (·.1))
 |.own _=>∃o,h.get? a=S o
 |.xd i=>∃g,h.Ns1 a g/\∀f,gg (i.lookup f) (g f)
 |.rng lo F=>∃t u v,h.get? a=S {cls:=.type "range",data:=.fields #v[.int lo t,.int F u,.int 1 v]}
 |.frz o u=>h.get? a=S o/\JB H h a u
 |.tbl I=>h.get? a=S {cls:=.none,data:=.fields I}
 |.met f x=>h.get? a=S (PySem.W.methodObj (.ref f) (.ref x))
 |.ext y=>y h/\(∃o,h.get? a=S o)/\∀A z ,y A->(∀o,A.get? a=S o->z.get? a=S o)->y z
abbrev yv(H )(h ):=∀a o,H a=S o->JB P w H h a o
end
section
variable{P:Program}{w:World}{H H':Hp}{h h':Heap}{a:Addr}{o:HO}
def JB.lt(x:JB P w H h a o):a<h.objs.size:=by
 cases o with
 |lst c=>let YG _ _ _ _ e:=x;exact wLa e
 |tup c=>let vb _ _ _ p:=x;exact p.lt
 |dK b d=>let JY _ _ _ u0:=x;let YG _ o _ e _:=u0;exact wLa e
 |mem K l m=>let JY _ _ _ v0:=x;let JY _ _ o x0:=v0;let jW _ _ e _:=x0;exact wLa e
 |dD b d=>let Jm _ _ _ y0:=x;let K_ _ _ o _ e _:=y0;exact wLa e
 |set SQ n=>let Q2 o _ _ _ e _:=x;exact wLa e
 |ins C s g=>let yY _ _ _ e _:=x;exact wLa e
 |own y=>let q _ e:=x;exact wLa e
 |xd g=>let ja _ z0 _:=x;let q _ _ _ e _:=z0;exact wLa e
 |rng lo j=>let Q1 _ _ _ e:=x;exact wLa e
 |frz r u=>let q e _:=x;exact wLa e
 |tbl k=>exact wLa (show h.get? a=S _ from x)
 |met f y=>exact wLa (show h.get? a=S _ from x)
 |ext i=>let Yk _ h0 _:=x;let q _ e:=h0;exact wLa e
theorem JB.stay(x:JB P w H h a o)(k:∀b u,(b=a\/H b=S (.own a))->h.get? b=S u->h'.get? b=S u)
  (R:∀b,H b=S (.own a)->H' b=S (.own a)) (W:∀b u,TF u->H b=S u->H' b=S u):JB P w H' h' a o:=by
 induction o with
 |lst s=>let YG z I n r e:=x;exact#[z,_,n,r,k _ _ (.inl rfl) e]
 |tup s=>let vb z I r j0:=x;let ja g e c:=j0;exact#[z,_,r,g,k _ _ (.inl rfl) e,c]
 |dK N j=>let JY z y vs k0:=x;let YG r g i e c:=k0;exact#[z,y,vs,r,g,i,k _ _ (.inl rfl) e,c]
 |mem K l m=>
  let JY z y s u1:=x;let JY r Z g v1:=u1;let jW i j e c:=v1;exact#[z,y,s,λq M=>#[(r q M).1,(r q M).2.1.stay W,(r q M).2.2],Z,g,i,j,k _ _ (.inl rfl) e,c]
 |dD N j=>let Jm z y T w1:=x;let K_ s r g i e c:=w1;exact#[z,y,T,s,r,g,i,k _ _ (.inl rfl) e,c]
 |set SQ n=>let Q2 g i j t e c:=x;exact#[g,i,j,t,k _ _ (.inl rfl) e,c]
 |ins C dx X=>
  let yY d z O e x1:=x;let ja A y1 r:=x1;let q F i j Q c:=y1;exact#[R _ d,z,O,k _ _ (.inl rfl) e,A,#[F,i,j,k _ _ (.inr d) Q,c],r]
 |own y=>let q g e:=x;exact#[g,k _ _ (.inl rfl) e]
 |xd X=>let ja A j1 r:=x;let q F i j e c:=j1;exact#[A,#[F,i,j,k _ _ (.inl rfl) e,c],r]
 |rng lo hi=>let Q1 t u v e:=x;exact#[t,u,v,k _ _ (.inl rfl) e]
 |frz g u ih=>let q e q:=x;exact#[k _ _ (.inl rfl) e,ih q]
 |tbl ps=>
  have e:=x;exact k a _ (.inl rfl) e
 |met f y=>
  have e:=x;exact k a _ (.inl rfl) e
 |ext φ=>let Yk p k1 st:=x;let q o e:=k1;exact#[st _ _ p λo q=>k _ _ (.inl rfl) q,#[o,k _ _ (.inl rfl) e],st]
abbrev yv.lt(x:yv P w H h)(e ):=(x a o e).lt
def yv.fresh(x:yv P w H h)(e:h.objs.size<=a):H a=J:=by
 cases q:H a with
 |none=>rfl
 |some u=>exact vDa (Nat.lt_of_lt_of_le (x.lt q) e) (wUa _)
def yv.kept(x:yv P w H h)(k:∀b u,h.get? b=S u->h'.get? b=S u):yv P w H h':=λa o e=>
 (x a o e).stay (λb u _ q=>k b u q) (λ_ q=>q) λ_ _ _ q=>q
def yv.laid(x:yv P w H h)(k:∀b u,h.get? b=S u->h'.get? b=S u)(i:h.objs.size<=a)(d:JB P w (upd H a o) h' a o):yv P w (upd H a o) h':=λb u e=>by
 have f:=x.fresh i;by_cases g:b=a
 ·subst g;rw[jz]at e;obtain rfl:=Zj e;exact d
 ·rw[jp g]at e;exact(x b u e).stay (λc v _ q=>k c v q) (λc q=>by rw[jp (jU q f)];exact q) λc j _ q=>by rw[jp (jU q f)];exact q
end
abbrev Rd(H:Hp)(a:Addr)(u ):=H a=S u\/∃o,H a=S (.frz o u)
def Rd.ok{H}{h}{a}{u}(r:Rd H a u)(x:yv P w H h):JB P w H h a u:=by
 rcases r with r|⟨o,r⟩
 ·exact x a u r
 ·let q _ q:=x a _ r;exact q
abbrev Dm:Y HO->Prop
 |S (.lst _)=>True
 |S (.dK _ _)=>True
 |S (.mem _ _ _)=>True
 |S (.dD _ _)=>True
 |S (.set _ _)=>True
 |S (.ins _ _ _)=>True
 |S (.ext _)=>True
 |_=>False
section
variable{P:Program}{w:World}{H:Hp}{h h':Heap}{x e:Addr} {o':HO}
def yv.write(A:yv P w H h)(g:Dm (H x))(o:e=x\/H e=S (.own x))(k:∀b u,b≠e->h.get? b=S u->h'.get? b=S u)(j:∃u,h'.get? e=S u)
  (l:JB P w (upd H x o') h' x o'):yv P w (upd H x o') h':=λb u q=>by
 have d:∀c y,H c=S (.own y)->c≠x:=λc y r z=>by subst z;rw[r]at g;exact g
 have f:∀c u,TF u->H c=S u->c≠x:=λc u t r z=>by
  subst z;rw[r]at g;cases u<;>first|exact t|exact g
 by_cases i:b=x
 ·subst i;rw[jz]at q;obtain rfl:=Zj q;exact l
 ·rw[jp i]at q;by_cases a:b=e
  ·have n:H b=S (.own x):=by
    rcases o with z|z
    ·exact vDa (a.trans z) i
    ·rw[a];exact z
   rw[q]at n;obtain rfl:=Zj n;let q v s:=j;exact#[v,by rw[a];exact s]
  ·refine(A b u q).stay (λc v m r=>k c v ?_ r) (λc r=>by rw[jp (d c b r)];exact r) λc p t r=>by rw[jp (f c p t r)];exact r
   rcases m with rfl|m
   ·exact a
   ·grind
end
structure Un (fs ex:L _) (H H':Hp) (h h':Heap) where
 keep:∀b o,h.get? b=S o->H b=J->b∉fs->b∉ex->h'.get? b=S o
 slot:∀b o,h.get? b=S o->H b=J->b∈fs->b∉ex->∃sl,h'.get? b=S {o with slots:=sl}
 free:∀b o,h.get? b=S o->H b=J->b∉ex->H' b=J
 there:∀b o,h.get? b=S o->b∉ex->∃o',h'.get? b=S o'
 tups:∀b xs,H b=S (.tup xs)->H' b=S (.tup xs)
 frzs:∀b o u,H b=S (.frz o u)->H' b=S (.frz o u)
 tbls:∀b ps,H b=S (.tbl ps)->∃more,H' b=S (.tbl (ps++more))
section
variable{fs fs' ex ex':L Addr}{H H1 H2:Hp}{h h1 h2 h':Heap}{a x e:Addr}{o:HO}
def Un.any(u:Un fs ex H H1 h h1){b}{c}(q:h.get? b=S c)(n:H b=J)(f:b∉ex):∃g,h1.get? b=S {c with slots:=g}:=by
 by_cases d:b∈fs
 ·exact u.slot b c q n d f
 ·exact#[_,u.keep b c q n d f]
def Un.kept(k:∀b u,h.get? b=S u->h'.get? b=S u):Un fs ex H H h h':=
 #[λb c q _ _ _=>k b c q,λb c q _ _ _=>#[_,k b c q],λ_ _ _ n _=>n,λb c q _=>#[c,k b c q],λ_ _ q=>q,λ_ _ _ q=>q,λ_ d q=>#[#v[],by rw[q];simp]]
def Un.refl:Un fs ex H H h h:=Un.kept λ_ _ q=>q
def Un.laid(k:∀b u,h.get? b=S u->h'.get? b=S u)(d:h.objs.size<=a)(c:H a=J):Un fs ex H (upd H a o) h h' where
 keep:=λb u q _ _ _=>k b u q
 slot:=λb u q _ _ _=>#[_,k b u q]
 free:=λb u q n _=>by rw[jp (Nat.ne_of_lt (Nat.lt_of_lt_of_le (Heap.lt_size q) d))];exact n
 there:=λb u q _=>#[u,k b u q]
 tups:=λb f q=>by rw[jp (jU q c)];exact q
 frzs:=λb u f q=>by rw[jp (jU q c)];exact q
 tbls:=λb g q=>#[#v[],by rw[jp (jU q c),q];simp]
def Un.write(d:Dm (H x))(p:e=x\/H e=S (.own x))(k:∀b u,b≠e->h.get? b=S u->h'.get? b=S u)(g:∃u,h'.get? e=S u):Un fs ex H (upd H x o) h h':=by
 have m:∀b,H b=J->b≠x:=λb n z=>by subst z;rw[n]at d;exact d
 have i:∀b,H b=J->b≠e:=λb n z=>by simp_all
 have f:∀b u,H b=S u->¬Dm (S u)->b≠x:=λb u q j z=>by subst z;rw[q]at d;exact j d
 refine#[λb u q n _ _=>k b u (i b n) q,λb u q n _ _=>#[_,k b u (i b n) q],λb u q n _=>by rw[jp (m b n)];exact n,λb u q _=>?_,
  λb l q=>by rw[jp (f b _ q λz=>z)];exact q,λb u l q=>by rw[jp (f b _ q λz=>z)];exact q,λb r q=>#[#v[],by rw[jp (f b _ q λz=>z),q];simp]]
 by_cases c:b=e
 ·subst c;exact g
 ·exact#[u,k b u c q]
end
abbrev Gg(h:Heap)(H:Hp):=(List.range h.objs.size).filter λa=>(H a).isSome
abbrev gh(h:Heap)(H ):=PySem.W.hideAll h (Gg h H)
def bK(h )(H ):(gh h H).objs.size=h.objs.size:=PySem.W.hideAll_size _ _
def cz(e:h.get? b=S o)(n:H b=J):(gh h H).get? b=S o:=
 PySem.W.hideAll_get _ e λa=>by
  have q:=(List.mem_filter.mp a).2;rw[n]at q;exact Zf q
def Eu(e:(gh h H).get? b=S o):h.get? b=S o/\H b=J:=by
 have a:=PySem.W.of_hideAll _ e;refine#[a,?_];cases q:H b with
 |none=>rfl
 |some x=>
  have c:b∈Gg h H:=List.mem_filter.mpr #[List.mem_range.mpr (wLa a),by simp[q]];have z:(gh h H).get? b=J:=PySem.W.hideAll_none _ c;rw[z]at e;exact Zn e
structure Mod (K:uXa) (mg ) (base ) where
 kin:K.In base
 glob:base.Ns mainGlobals mg
 blt:∃mb,base.Ns builtinsNs mb/\∀x:Str,x≠ "__name__" ->mb x=bootBuiltins x
 nolimit:base.NoLimit
structure Cx where
 prog:Program
 w:World
 K:uXa
 mg:Str->Y Value
 base:Heap
 A:Around
 N:L Str
 s₀:Shared
 H₀:Hp
 env:Env
 outer:L Env
 stack:L Env
 ex:L Addr
 fn:Str->Bool
 calm:Bool
 pn:L (Addr×Obj)
 xe:Value->Shared->Prop
abbrev ym(l:L Env):=l.filterMap (·.frame)
noncomputable abbrev Cx.fs(X:Cx):=ym X.outer
abbrev GE(a:Scope)(x ):=a.names.lookup x=S .local\/a.names.lookup x=S .cell\/a.names.lookup x=S .free
abbrev Uw(a:Scope)(x ):=a.names.lookup x=S .local\/a.names.lookup x=S .cell
abbrev NO(a:Env)(h:Heap)(m:Str->Y _)(x )(u:Value):=
 (a.kindOf x=S .local/\m x=S u)\/((a.kindOf x=S .cell\/a.kindOf x=S .free)/\∃c,a.cells.lookup x=S c/\h.IsCell c (S u))
structure Cx.Ok (X:Cx) where
 mod:Mod X.K X.mg X.base
 kind:X.env.scope.kind=.function
 glob:X.env.globals=mainGlobals
 blt:X.env.builtins=builtinsNs
 above:X.s₀.heap.objs.size<=X.env.locals
 inj:∀x y c,X.env.cells.lookup x=S c->X.env.cells.lookup y=S c->x=y
 has:∀x,(X.env.kindOf x=S .cell\/X.env.kindOf x=S .free)->∃c,X.env.cells.lookup x=S c
 cab:∀x c,X.fn x=B->X.env.cells.lookup x=S c->X.s₀.heap.objs.size<=c
 hd:X.calm=B->X.A.handled=J
 frames:X.A.frames=S X.stack
 stk:X.stack=X.outer\/(X.stack=X.env::X.outer/\X.env.frame=S X.env.locals)
 exf:∀b∈X.ex,b≠X.env.locals/\∀x c,X.env.cells.lookup x=S c->c≠b
 bs:∀b o,X.base.get? b=S o->X.s₀.heap.get? b=S o/\X.H₀ b=J
 bsz:X.base.objs.size<=X.s₀.heap.objs.size
 noex:∀b o,X.base.get? b=S o->b∉X.ex
 exfs:∀b∈X.ex,b∉X.fs
 funs:X.s₀.heap.FunFrames X.base X.outer
 frf:∀b∈X.fs,X.H₀ b=J
structure Inv (X:Cx) (pins ) (U:L _) (H ) (s:Shared) where
 ok:X.Ok
 os:s.os=X.s₀.os
 bare:AllBare s.gens
 base:Un X.fs X.ex X.H₀ H X.s₀.heap s.heap
 loc:∃m,s.heap.Ns X.env.locals m/\∀(i:Nat) (x ) (v ),X.N[i]?=S x->U[i]?=S (S v)->GE X.env.scope x->∃u,jI v u/\NO X.env s.heap m x u
 cell:∀x c,X.env.cells.lookup x=S c->∃v,s.heap.IsCell c v
 free:H X.env.locals=J
 freeC:∀x c,X.env.cells.lookup x=S c->H c=J
 pin:∀p∈X.pn++pins,s.heap.get? p.1=S p.2/\H p.1=J/\p.1≠X.env.locals/\p.1∉X.fs/\∀v,p.2.data≠.cell v
 hok:yv X.prog X.w H s.heap
 len:U.length=X.N.length
section
variable{X:Cx}{pins:Tq}{U:L (Y V)}{H H':Hp}{s:Shared} {h':Heap}
def Cx.Ok.nofr(c:X.Ok){b}{o}(e:X.base.get? b=S o):b∉X.fs:=λa=>by
 have:=(c.funs.mem a).1;rw[e]at this;exact Zs this
def Inv.bs(I:Inv X pins U H s):∀b o,X.base.get? b=S o->s.heap.get? b=S o/\H b=J:=λb o e=>
 #[I.base.keep b o (I.ok.bs b o e).1 (I.ok.bs b o e).2 (I.ok.nofr e) (I.ok.noex b o e),I.base.free b o (I.ok.bs b o e).1 (I.ok.bs b o e).2 (I.ok.noex b o e)]
def Inv.bk(I:Inv X pins U H s):∀b o,X.base.get? b=S o->s.heap.get? b=S o:=λb o e=>(I.bs b o e).1
abbrev Inv.mod(I:Inv X pins U H s):=I.ok.mod
abbrev Inv.kIn(I:Inv X pins U H s):=I.ok.mod.kin.keeps I.bk
abbrev Inv.lt(I:Inv X pins U H s):=let⟨_,a,_⟩:=I.loc;a.lt
abbrev Inv.sz(I:Inv X pins U H s):=wSa I.ok.above (wQa I.lt)
def Inv.nofs(I:Inv X pins U H s)(h:s.heap.objs.size<=a):a∉X.fs:=λc=>by
 let vb _ o b _:=I.ok.funs.mem c;exact vDa (Nat.lt_of_lt_of_le (wLa b) (wSa I.sz h)) (wUa _)
def Inv.cne(I:Inv X pins U H s):∀x c,X.env.cells.lookup x=S c->c≠X.env.locals:=λx c e z=>by
 let jW v o d f:=I.cell x c e;let ja m u2 _:=I.loc;let q i h g b a _:=u2;rw[z,b]at d;obtain rfl:=Zj d;rw[a]at f;cases f
def Inv.funs(I:Inv X pins U H s):s.heap.FunFrames X.base X.outer:=by
 have c:∀(l ),(∀b∈ym l,b∈X.fs)->X.s₀.heap.FunFrames X.base l->s.heap.FunFrames X.base l:=by
  intro l;induction l with
  |nil=>intro _ _;trivial
  |cons h r j=>
   intro g t;let Yk n v2 k:=t;let q L00 o d m i p:=v2;have a:=g L00 (by unfold ym;rw[List.filterMap_cons,d];exact wNa);let q u e:=I.base.slot L00 o i (I.ok.frf L00 a) a λz=>I.ok.exfs L00 z a;exact#[n,#[L00,_,d,m,e,p],j (λb f=>g b (by unfold ym;rw[List.filterMap_cons,d];exact wMa _ f)) k]
 exact c _ (λ_ f=>f) I.ok.funs
def Inv.stack(I:Inv X pins U H s):s.heap.FunFrames X.base X.stack:=by
 rcases I.ok.stk with e|⟨e,b⟩
 ·rw[e];exact I.funs
 ·rw[e];let ja m a _:=I.loc;refine .cons (by rw[I.ok.kind];decide) b a ?_ I.funs;exact Heap.get?_none_of_le (wSa I.ok.bsz I.ok.above)
def Inv.stkSub(I:Inv X pins U H s):∀b∈ym X.stack,b∈X.env.locals::X.fs:=λb a=>by
 rcases I.ok.stk with e|⟨e,c⟩
 ·rw[e]at a;exact wMa _ a
 ·rw[e]at a;unfold ym at a;rw[List.filterMap_cons,c]at a;exact a
def Inv.stkFree(I:Inv X pins U H s):∀b∈ym X.stack,H b=J:=λb a=>by
 rcases uTa (I.stkSub b a)with e|a
 ·rw[e];exact I.free
 ·let vb _ o c _:=I.ok.funs.mem a;exact I.base.free b o c (I.ok.frf b a) λz=>I.ok.exfs b z a
def Inv.step{d'}{ch:L _}(I:Inv X pins U H s)
  (j:∀b∈ch,(b∈X.ex\/X.s₀.heap.objs.size<=b)/\b≠X.env.locals/\(∀x c,X.env.cells.lookup x=S c->c≠b)/\∀p∈X.pn++pins,p.1≠b)
  (t:∀b o,b≠X.env.locals->b∉X.fs->b∉ch->s.heap.get? b=S o->H b=J->h'.get? b=S o)
  (A:∀b o,b≠X.env.locals->b∈X.fs->b∉ch->s.heap.get? b=S o->H b=J->∃sl,h'.get? b=S {o with slots:=sl}) (f:∀b o,b∉ch->s.heap.get? b=S o->H b=J->H' b=J)
  (F:∀b o,b∉ch->s.heap.get? b=S o->∃O,h'.get? b=S O)
  (R:∀b C,H b=S (.tup C)->H' b=S (.tup C)) (P:∀b o u,H b=S (.frz o u)->H' b=S (.frz o u)) (Q:∀b ps,H b=S (.tbl ps)->∃Z,H' b=S (.tbl (ps++Z)))
  (ns:∀m,s.heap.Ns X.env.locals m->h'.Ns X.env.locals m) (hok:yv X.prog X.w H' h') (hg:AllBare g'):
  Inv X pins U H' {s with heap:=h',gens:=g',drawn:=d',toks:=t'}:=by
 have T:∀b o,X.s₀.heap.get? b=S o->b≠X.env.locals:=λb o e=>wTa (Nat.lt_of_lt_of_le (wLa e) I.ok.above);have w:∀b o,X.s₀.heap.get? b=S o->b∉X.ex->b∉ch:=λb o e a M=>by
  rcases(j b M).1 with z|z
  ·exact a z
  ·exact vDa (Nat.lt_of_lt_of_le (wLa e) z) (wUa _)
 have g:∀x c,X.env.cells.lookup x=S c->∀v,s.heap.IsCell c v->h'.IsCell c v:=λx c e v xx=>by
  let ja o N hd:=xx;have h:=λz=>(j c z).2.2.1 x c e rfl;by_cases hc:c∈X.fs
  ·let q sl q:=A c o (I.cne x c e) hc h N (I.freeC x c e);exact#[_,q,hd]
  ·exact#[o,t c o (I.cne x c e) hc h N (I.freeC x c e),hd]
 refine#[I.ok,I.os,hg,#[λb o e n M a=>?_,λb o e n M a=>?_,λb o e n a=>?_,λb o e a=>?_,λb C e=>R b C (I.base.tups b C e),λb o C e=>P b o C (I.base.frzs b o C e),λb ps e=>?_],?_,λx c e=>?_,?_,λx c e=>?_,λp hp=>?_,hok,I.len]
 ·exact t b o (T b o e) M (w b o e a) (I.base.keep b o e n M a) (I.base.free b o e n a)
 ·let q sl y:=I.base.slot b o e n M a;let q sl' W:=A b _ (T b o e) M (w b o e a) y (I.base.free b o e n a);exact#[_,W]
 ·let q O y:=I.base.there b o e a;exact f b O (w b o e a) y (I.base.free b o e n a)
 ·let q O y:=I.base.there b o e a;exact F b O (w b o e a) y
 ·let q m1 y:=I.base.tbls b ps e;let q m2 W:=Q b _ y;exact#[_,by rw[W,Array.append_assoc]]
 ·let ja m hn hl:=I.loc;refine#[m,ns m hn,λi x v y W e3=>?_];let ja u r l:=hl i x v y W e3;refine#[u,r,?_];rcases l with l|⟨k,c,e,z⟩
  ·exact .inl l
  ·exact .inr #[k,c,e,g x c e _ z]
 ·let q v z:=I.cell x c e;exact#[v,g x c e v z]
 ·let ja m x2 _:=I.loc;let q o _ _ N _:=x2;exact f _ o (λz=>(j _ z).2.1 rfl) N I.free
 ·let jW v o N hd:=I.cell x c e;exact f c o (λz=>(j c z).2.2.1 x c e rfl) N (I.freeC x c e)
 ·let yY e n ne nf d:=I.pin p hp;have h:=λz=>(j _ z).2.2.2 p hp rfl;exact#[t _ _ ne nf h e n,f _ _ h e n,ne,nf,d]
def Inv.un(I:Inv X pins U H s)(u:Un X.fs [] H H' s.heap h')(c:yv X.prog X.w H' h'):Inv X pins U H' {s with heap:=h',toks:=t'}:=by
 let ja m y2 _:=id I.loc;let q o p w f r:=y2;let q l j:=u.any f I.free Sx;exact I.step (ch:=[]) (λ_ z=>nomatch z) (λb o _ d _ e n=>u.keep b o e n d Sx) (λb o _ d _ e n=>u.slot b o e n d Sx) (λb o _ e n=>u.free b o e n Sx) (λb o _ e=>u.there b o e Sx) u.tups u.frzs u.tbls (λv k=>by
  let vG t i h a g:=k;rw[f]at a;obtain rfl:=Zj a;exact#[_,_,_,j,g]) c I.bare
def Inv.call{A}{ch}(I:Inv X pins U H s)(u:Un (ym X.stack) ch H H' s.heap h')(h:yv X.prog X.w H' h')(w:AllBare j)
  (f:∀b∈ch,(b∈X.ex\/X.s₀.heap.objs.size<=b)/\b≠X.env.locals/\(∀x c,X.env.cells.lookup x=S c->c≠b)/\∀p∈X.pn++pins,p.1≠b):
  Inv X pins U H' {s with heap:=h',gens:=j,drawn:=A,toks:=t'}:=by
 let ja m j2 _:=id I.loc;let q o C O i r:=j2;let q N g:=u.any i I.free λz=>(f _ z).2.1 rfl;exact I.step f (λb o g l a e n=>u.keep b o e n (λz=>(uTa (I.stkSub b z)).elim g l) a) (λb o _ _ a e n=>u.any e n a) (λb o a e n=>u.free b o e n a) (λb o a e=>u.there b o e a) u.tups u.frzs u.tbls (λM v=>by
  let vG F k t d y:=v;rw[i]at d;obtain rfl:=Zj d;exact#[_,_,_,g,y]) h w
def Inv.turned{a}(I:Inv X pins U H s)(k:∀b o,b≠a->s.heap.get? b=S o->h'.get? b=S o)(F:H a=J)(g:a≠X.env.locals)
  (j:a∈X.ex\/X.s₀.heap.objs.size<=a) (t:∀x c,X.env.cells.lookup x=S c->c≠a) (l:∀p∈X.pn++pins,p.1≠a):Inv X pins U H {s with heap:=h',toks:=t'}:=by
 have f:∀b u,H b=S u->b≠a:=λb u e z=>by lia
 refine I.step (ch:=[a]) (λb y=>?_) (λb o _ _ d e _=>k b o (λz=>d (by simp[z])) e) (λb o _ _ d e _=>#[_,k b o (λz=>d (by simp[z])) e]) (λ_ _ _ _ n=>n)
  (λb o d e=>#[o,k b o (λz=>d (by simp[z])) e]) (λ_ _ e=>e) (λ_ _ _ e=>e) (λb C e=>#[#v[],by rw[e];simp]) (λm h=>?_) (λb u e=>?_) I.bare
 ·have e:b=a:=by simpa using y
  subst e;exact#[j,g,t,l]
 ·let vG o A w i r:=h;exact#[o,A,w,k _ o (Ne.symm g) i,r]
 ·refine(I.hok b u e).stay (λc v d q=>k c v ?_ q) (λ_ q=>q) λ_ _ _ q=>q;rcases d with z|z
  ·rw[z];exact f b u e
  ·exact f c _ z
abbrev Inv.tok(I:Inv X pins U H s)(t ):=I.un (t':=t) Un.refl I.hok
def Inv.kept(I:Inv X pins U H s)(k:∀b u,s.heap.get? b=S u->h'.get? b=S u):Inv X pins U H {s with heap:=h',toks:=t'}:=I.un (Un.kept k) (I.hok.kept k)
def Inv.laid(I:Inv X pins U H s)(k:∀b u,s.heap.get? b=S u->h'.get? b=S u)(c:s.heap.objs.size<=a)(d:JB X.prog X.w (upd H a o) h' a o):
  Inv X pins U (upd H a o) {s with heap:=h',toks:=t'}:=I.un (Un.laid k c (I.hok.fresh c)) (I.hok.laid k c d)
def Inv.write(I:Inv X pins U H s)(d:Dm (H x))(f:e=x\/H e=S (.own x))(k:∀b u,b≠e->s.heap.get? b=S u->h'.get? b=S u)(a:∃u,h'.get? e=S u)
  (c:JB X.prog X.w (upd H x o) h' x o):Inv X pins U (upd H x o) {s with heap:=h',toks:=g}:=I.un (Un.write d f k a) (I.hok.write d f k a c)
def Inv.weak(I:Inv X pins U H s)(c:a.length=U.length)(w:∀(i:Nat) v,a[i]?=S (S v)->U[i]?=S (S v)):Inv X pins a H s:=
 #[I.ok,I.os,I.bare,I.base,let⟨m,e,b⟩:=I.loc;#[m,e,λi x v d f g=>b i x v d (w i v f) g],I.cell,I.free,I.freeC,I.pin,I.hok,c.trans I.len]
def Inv.pins_of(I:Inv X pins U H s)(h:∀p∈a,s.heap.get? p.1=S p.2/\H p.1=J/\p.1≠X.env.locals/\p.1∉X.fs/\∀v,p.2.data≠.cell v):Inv X a U H s:=
 #[I.ok,I.os,I.bare,I.base,I.loc,I.cell,I.free,I.freeC,λp b=>(uWa b).elim (λz=>I.pin p (vIa _ z)) (h p),I.hok,I.len]
def Kp{N:L Str}(c:N.Nodup){i j:Nat}{x}(a:N[i]?=S x)(b:N[j]?=S x):i=j:=by
 let q g e:=uSa a;let q f d:=uSa b;exact(List.getElem_inj c).mp (e.trans d.symm)
def GF{A}{E}{i}{x}{v}{u}{Q}(I:Inv X pins U H s)(hN:X.N.Nodup)(hi:X.N[i]?=S x)(w:Uw X.env.scope x)(r:jI v u)
  (h:∀s',Inv X pins (U.set i (S v)) H s'->(∃a,Heap.SameBut a s.heap s'.heap/\(a=X.env.locals\/X.env.cells.lookup x=S a))->Q () s') (hf:X.fn x=B\/X.env.scope.names.lookup x=S .local:=by first|exact .inl _|exact .inr _|assumption):wpAny M A (storeName X.env x u) Q E s:=by
 let ja m hn hl:=id I.loc;have hcls:(X.env.scope.kind==.class||(X.env.scope.kind==.module&&X.env.locals != X.env.globals))=G:=by rw[I.ok.kind];rfl
 have F:i<U.length:=by rw[I.len];exact(uSa hi).1
 have R:=I.cne;have l:∀{a} {h'},(∃o,s.heap.get? a=S o/\H a=J)->Heap.SameBut a _ h'->yv _ _ H h':=λha f b ob e=>by
  let ja _ _ hfree:=ha;refine(I.hok b ob e).stay (λc w' t q=>(f.2 c ?_).trans q) (λ_ q=>q) λ_ _ _ q=>q;rintro rfl;rcases t with rfl|t
  ·lia
  ·lia
 rcases w with T|T
 ·refine wpAny_storeName_local T hn (λh' hn' f=>?_) hcls;let vG oL _ _ hoL _:=id hn;refine h _ #[I.ok,I.os,I.bare,#[λb o e n O w=>?_,λb o e n O w=>?_,I.base.free,λb o e w=>?_,I.base.tups,I.base.frzs,I.base.tbls],#[_,hn',λj y v' g C e3=>?_],λy c e=>?_,I.free,I.freeC,λp hp=>?_,l #[oL,hoL,I.free] f,by simpa using I.len] #[_,f,.inl rfl]
  ·exact(f.2 b (wTa (Nat.lt_of_lt_of_le (wLa e) I.ok.above))).trans (I.base.keep b o e n O w)
  ·let q sl g:=I.base.slot b o e n O w;exact#[sl,(f.2 b (wTa (Nat.lt_of_lt_of_le (wLa e) I.ok.above))).trans g]
  ·let q o' g:=I.base.there b o e w;exact#[o',(f.2 b (wTa (Nat.lt_of_lt_of_le (wLa e) I.ok.above))).trans g]
  ·by_cases N:j=i
   ·subst N;rw[hi]at g;obtain rfl:=Zj g;rw[List.getElem?_set_self F]at C;cases C;exact#[u,r,.inl #[T,by simp]]
   ·rw[List.getElem?_set_ne (Ne.symm N)]at C;let ja u' r' q:=hl j y v' g C e3;refine#[u',r',?_];rcases q with⟨k,e⟩|⟨k,c,e,z⟩
    ·refine .inl #[k,?_];have:y≠x:=λe=>N (Kp hN g (e▸hi));simp[this,e]
    ·exact .inr #[k,c,e,z.sameBut f (R y c e)]
  ·let q w' z:=I.cell y c e;exact#[w',z.sameBut f (R y c e)]
  ·let yY e n ne nf d:=I.pin p hp;exact#[(f.2 _ ne).trans e,n,ne,nf,d]
 ·have P:X.fn x=B:=by lia
  let q c t:=I.ok.has x (.inl T);let q w' z:=I.cell x c t;refine wpAny_storeName_cell I.ok.kind T t z (λh' Z f=>?_);let ja oc hoc hocd:=id z;refine h _ #[I.ok,I.os,I.bare,#[λb o e n O w=>?_,λb o e n O w=>?_,I.base.free,λb o e w=>?_,I.base.tups,I.base.frzs,I.base.tbls],#[m,hn.sameBut f (Ne.symm (R x c t)),λj y v' g C e3=>?_],λy c' e=>?_,I.free,I.freeC,λp hp=>?_,l #[oc,hoc,I.freeC x c t] f,by simpa using I.len] #[c,f,.inr t]
  ·exact(f.2 b (wTa (Nat.lt_of_lt_of_le (wLa e) (I.ok.cab x c P t)))).trans (I.base.keep b o e n O w)
  ·let q sl g:=I.base.slot b o e n O w;exact#[sl,(f.2 b (wTa (Nat.lt_of_lt_of_le (wLa e) (I.ok.cab x c P t)))).trans g]
  ·let q o' g:=I.base.there b o e w;exact#[o',(f.2 b (wTa (Nat.lt_of_lt_of_le (wLa e) (I.ok.cab x c P t)))).trans g]
  ·by_cases N:j=i
   ·subst N;rw[hi]at g;obtain rfl:=Zj g;rw[List.getElem?_set_self F]at C;cases C;exact#[u,r,.inr #[.inl T,c,t,Z]]
   ·rw[List.getElem?_set_ne (Ne.symm N)]at C;let ja u' r' q:=hl j y v' g C e3;refine#[u',r',?_];rcases q with q|⟨k,c',e,z'⟩
    ·exact .inl q
    ·refine .inr #[k,c',e,z'.sameBut f ?_];rintro rfl;exact N (Kp hN g (I.ok.inj _ _ _ e t▸hi))
  ·by_cases W:c'=c
   ·subst W;exact#[_,Z]
   ·let q w2 z2:=I.cell y c' e;exact#[w2,z2.sameBut f W]
  ·let yY e n ne nf d:=I.pin p hp;refine#[(f.2 _ ?_).trans e,n,ne,nf,d];intro q;rw[q,hoc]at e;have q':=vFa e;exact d w' (by rw[<-q'];exact hocd)
def VM(I:Inv X pins U H s)(b:X.N.Nodup)(c:X.N[i]?=S x)(d:Uw X.env.scope x)(r:jI v u)
  (h:∀a,Inv X pins (U.set i (S v)) H a->Q () a) (f:X.fn x=B\/X.env.scope.names.lookup x=S .local:=by first|exact .inl _|exact .inr _|assumption):wpAny M A (storeName X.env x u) Q E s:=
 GF I b c d r (λa e _=>h a e) f
def Inv.call'(I:Inv X pins U H s)(h:a.os=s.os)(u:Un (ym X.stack) g H H' s.heap a.heap)(d:yv X.prog X.w H' a.heap)(i:AllBare a.gens)
  (f:∀b∈g,(b∈X.ex\/X.s₀.heap.objs.size<=b)/\b≠X.env.locals/\(∀x c,X.env.cells.lookup x=S c->c≠b)/\∀p∈X.pn++pins,p.1≠b):Inv X pins U H' a:=by
 let q h' k j l m:=a;have e:=h;subst e;exact I.call u d i f
end
noncomputable abbrev XK:=Value->Y Addr->Hp->Prop
noncomputable abbrev St:=L (Y V)
noncomputable abbrev VK:=V->Hp->Prop
noncomputable abbrev TE:=St->Hp->VK->Prop
noncomputable abbrev TT:=St->Hp->(Bool->Hp->Prop)->Prop
noncomputable abbrev TA:=St->Hp->(L V->Hp->Prop)->Prop
structure Ends where
 nx:St->Hp->Prop
 rt:VK
 bk:St->Hp->Prop:=λ_ _=>False
 ct:St->Hp->Prop:=λ_ _=>False
noncomputable abbrev TS:=Ends->St->Hp->Prop
abbrev EP(X )(a:Tq)(d:St)(Q:VK)(u:Value)(c:Shared):=∃v b,Inv X a d b c/\jI v u/\Q v b
abbrev TP(X )(a:Tq)(e:St)(Q:Bool->Hp->Prop)(b:Bool)(d:Shared):=∃c,Inv X a e c d/\Q b c
abbrev AP(X )(a:Tq)(f:St)(Q:L V->Hp->Prop)(e:L _)(d:Shared):=∃b c,Inv X a f c d/\jB b e/\Q b c
abbrev SP(X )(b:Tq)(D:Ends)(f:Flow)(d:Shared):=
 match f with
 |.next=>∃a c,Inv X b a c d/\D.nx a c
 |.brk=>∃a c,Inv X b a c d/\D.bk a c
 |.cont=>∃a c,Inv X b a c d/\D.ct a c
 |.ret u=>∃v a c,Inv X b a c d/\jI v u/\D.rt v c
abbrev PE(X )(e:Expr)(t:TE):=
 ∀(a ) (s ) (b:St) (H ) (Q ),Inv X a b H s->t b H Q->wpAny Sz X.A (eval e X.env) (EP X a b Q) X.xe s
abbrev PT(X )(e:Expr)(t:TT):=
 ∀(a ) (s ) (b:St) (H ) (Q ),Inv X a b H s->t b H Q->wpAny Sz X.A (isTrue e X.env (eval e X.env)) (TP X a b Q) X.xe s
abbrev PW(X )(e )(t:TT):=
 ∀(b ) (a ) (s ) (c:St) (H ) (Q ),Inv X a c H s->t c H Q->wpAny Sz X.A (isTrue e X.env b) (TP X a c Q) X.xe s
def PW.pt(h:PW X e t):PT X e t:=h _
abbrev PA(X )(d:L _)(t:TA):=
 ∀(b ) (a ) (s ) (c:St) (H ) (Q ),Inv X a c H s->t c H Q->wpAny Sz X.A (spliced (backTo b (starEach d X.env))) (AP X a c Q) X.xe s
abbrev PS(X )(st:Stmt)(t:TS):=
 ∀(a ) (s ) (b:St) (H ) (D ),Inv X a b H s->t D b H->wpAny Sz X.A (exec st X.env) (SP X a D) X.xe s
abbrev Jx(X )(st:L _)(t:TS):=
 ∀(a ) (s ) (b:St) (H ) (D ),Inv X a b H s->t D b H->wpAny Sz X.A (execs st X.env) (SP X a D) X.xe s
abbrev jM{t}{Q b:d->Shared->Prop}{M}{A}{E}{s}(h:wpAny M A t Q E s)(c:∀a s,Q a s->b a s):=wCa h c λ_ _ x=>x
section
variable{X:Cx}
abbrev yF(i:Nat):TE:=λa H Q=>∃v,a[i]?=S (S v)/\Q v H
abbrev tC(v:V):TE:=λ_ H Q=>Q v H
def VN(n:X.N[i]?=S x)(p:GE X.env.scope x)(f:Su=G:=by decide)(g:(x==("__classdict__"))=G:=by decide):PE X (.Name x o) (yF i):=by
 intro k s t H Q I h;let ja v e h:=h;let ja m y w:=I.loc;let ja u r l:=w i x v n e p;have b:EP X _ t Q u s:=#[v,H,I,r,h]
 rcases l with⟨d,z⟩|⟨d,c,j,a⟩
 ·exact wpAny_Name (wpAny_loadName_local I.ok.kind d y z b) f
 ·rcases d with d|d
  ·exact wpAny_Name (wpAny_loadName_cell I.ok.kind d j a b) f
  ·exact wpAny_Name (wpAny_loadName_free I.ok.kind d j a b g) f
def Hl:PE X (.Constant (.int i) j a) (tC (.int i)):=λ_ _ _ H _ I h=>wpAny_Constant_int #[.int i,H,I.tok _,#[_,rfl],h]
def mJ:PE X (.Constant (.bool b) j a) (tC (.bl b)):=λ_ _ _ H _ I h=>Constant_bool #[.bl b,H,I,rfl,h]
def Hm:PE X (.Constant .none j a) (tC .non):=λ_ _ _ H _ I h=>Constant_none #[.non,H,I,rfl,h]
def Q6:PE X (.Constant (.str x) j a) (tC (.str x)):=λ_ _ _ H _ I h=>Calls.Constant_str #[.str x,H,I.tok _,#[_,rfl],h]
abbrev Gl(X:Cx)(x ):=X.env.kindOf x=S .globalImplicit
def ZB(I:Inv X a f H s)(c:Gl X x)(b:X.mg x=S u)(h:Q u s)
  (d:Su=G:=by decide):wpAny Sz X.A (eval (.Name x e) X.env) Q E s:=
 Calls.Name_function_global I.ok.kind c (Calls.loadGlobal_global (by rw[I.ok.glob];exact I.mod.glob.keeps I.bk) b h) d
def Ux(I:Inv X a l H s)(f:Gl X x)(b:X.mg x=J)(d:bootBuiltins x=S u)(h:Q u s)
  (c:x≠ "__name__":= by decide) (i:Su=G:=by decide):wpAny Sz X.A (eval (.Name x g) X.env) Q E s:=by
 let ja k e j:=I.mod.blt;exact Calls.Name_function_global I.ok.kind f (Calls.loadGlobal_builtin (by rw[I.ok.glob];exact I.mod.glob.keeps I.bk) b (by rw[I.ok.blt];exact e.keeps I.bk) ((j x c).trans d) h) i
def XI(b:Gl X x)(a:X.mg x=S u)(r:jI v u)(c:Su=G:=by decide):PE X (.Name x d) (tC v):=
 λ_ _ _ H _ I h=>ZB I b a #[v,H,I,r,h] c
def wZ(c:Gl X x)(a:X.mg x=J)(e:bootBuiltins x=S u)(r:jI v u)(d:x≠ "__name__":= by decide)(b:Su=G:=by decide):PE X (.Name x f) (tC v):=
 λ_ _ _ H _ I h=>Ux I c a e #[v,H,I,r,h] d b
variable{a b:Expr}{ta tb:TE}{pos:Pos}
variable{tA tB':TT}{rest:L Expr}
abbrev NP(t u:TT):TT:=λd H Q=>t d H λc e=>if c=B then u d e Q else Q G e
abbrev O_(t u:TT):TT:=λd H Q=>t d H λc e=>if c=B then Q B e else u d e Q
abbrev NQ(t:TT):TT:=λd H Q=>t d H λc e=>Q (!c) e
def Ev(f:PT X a tA):PW X (.BoolOp .And [a] pos) tA:=by
 intro i d s g H Q I h;refine isTrue_and (jM (f _ s g H Q I h) λc j e=>?_);cases c with
 |true=>exact isTrue_and_nil e
 |false=>exact e
def Hn(f:PT X a tA):PW X (.BoolOp .Or [a] pos) tA:=by
 intro i d s g H Q I h;refine isTrue_or (jM (f _ s g H Q I h) λc j e=>?_);cases c with
 |false=>exact isTrue_or_nil e
 |true=>exact e
def Ho(k:PT X a tA)(n:PW X (.BoolOp .And (b::rest) pos) tB'):PW X (.BoolOp .And (a::b::rest) pos) (NP tA tB'):=by
 intro j i s g H Q I h;refine isTrue_and (jM (k _ s g H _ I h) λc m l=>?_);let ja d f e:=l;cases c with
 |true=>exact n j _ m g d Q f e
 |false=>exact#[d,f,e]
def mK(k:PT X a tA)(n:PW X (.BoolOp .Or (b::rest) pos) tB'):PW X (.BoolOp .Or (a::b::rest) pos) (O_ tA tB'):=by
 intro j i s g H Q I h;refine isTrue_or (jM (k _ s g H _ I h) λc m l=>?_);let ja d f e:=l;cases c with
 |true=>exact#[d,f,e]
 |false=>exact n j _ m g d Q f e
def Hq(f:PT X a tA):PT X (.UnaryOp .Not a pos) (NQ tA):=by
 intro d s g H Q I h;exact isTrue_not (f _ s g H (λc e=>Q _ e) I h)
abbrev mL(ta tb:TE):TE:=λd H Q=>ta d H λx e=>∃c,x=.bl c/\if c=B then tb d e Q else Q (.bl G) e
abbrev NR(ta tb:TE):TE:=λd H Q=>ta d H λx e=>∃c,x=.bl c/\if c=B then Q (.bl B) e else tb d e Q
abbrev mM(ta:TE):TE:=λd H Q=>ta d H λx e=>∃c,x=.bl c/\Q (.bl (!c)) e
def Hr(h:PE X a t):PE X (.BoolOp f [a] pos) t:=λc s e H Q I d=>BoolOp_one (h _ s e H Q I d)
def Hs(l:PE X a ta)(j:PE X (.BoolOp .And (b::rest) pos) tb):PE X (.BoolOp .And (a::b::rest) pos) (mL ta tb):=by
 intro i s g H Q I h;refine BoolOp_and (jM (l _ s g H _ I h) λv n m=>?_);let jc x e f k d:=m;revert d;intro x5;let ja c rfl d:=x5;subst k;refine wpAny_truthy_bool ?_;cases c with
 |true=>exact j _ n g e Q f d
 |false=>exact#[.bl _,e,f,rfl,d]
def mO(l:PE X a ta)(j:PE X (.BoolOp .Or (b::rest) pos) tb):PE X (.BoolOp .Or (a::b::rest) pos) (NR ta tb):=by
 intro i s g H Q I h;refine BoolOp_or (jM (l _ s g H _ I h) λv n m=>?_);let jc x e f k d:=m;revert d;intro j5;let ja c rfl d:=j5;subst k;refine wpAny_truthy_bool ?_;cases c with
 |false=>exact j _ n g e Q f d
 |true=>exact#[.bl _,e,f,rfl,d]
def Ht(l:PE X a ta):PE X (.UnaryOp .Not a pos) (mM ta):=by
 intro e s j H Q I h;refine UnaryOp_ (jM (l _ s j H _ I h) λv m i=>?_);let jc x f g k d:=i;revert d;intro u6;let ja c rfl d:=u6;subst k;exact not_of (wpAny_truthy_bool #[.bl _,f,g,rfl,d])
abbrev p0(t:TT)(ta tb:TE):TE:=λd H Q=>t d H λc e=>if c=B then ta d e Q else tb d e Q
def cD(o:PT X c tA)(m:PE X a ta)(n:PE X b tb):PE X (.IfExp c a b pos) (p0 tA ta tb):=by
 intro k s e H Q I h;refine wpAny_IfExp (jM (o _ s e H _ I h) λd g l=>?_);let ja j i f:=l;cases d with
 |true=>exact m _ g e j Q i f
 |false=>exact n _ g e j Q i f
end
abbrev Jk(K:uXa)(H )(a:Addr)(c:L V):=
 Rd H a (.lst c)\/
  ∃(o:Obj) (b:Array _) (n:Nat),K.lookup a=S o/\o.cls=.type "list"/\o.dict=J/\o.data=.seq b n/\b.size<=sizeLine/\jB c b.toList
abbrev yN(K:uXa)(H )(a:Addr)(c:L V):=
 Rd H a (.tup c)\/
  ∃(o:Obj) (b:Array _) (n:Nat),K.lookup a=S o/\o.cls=.type "tuple"/\o.data=.seq b n/\b.size<=sizeLine/\jB c b.toList
abbrev NS:Value->Y V
 |.none=>S .non
 |.bool b=>S (.bl b)
 |.int i _=>S (.int i)
 |.str x _=>S (.str x)
 |.bytes b _=>S (.byt b)
 |.float b _=>S (.flt b)
 |.ref a=>S (.ref a)
 |.type n=>S (.ty n)
 |_=>J
def jI.abs(r:jI x u):NS u=S x:=by
 cases x with
 |non=>subst r;rfl
 |bl _=>subst r;rfl
 |int _=>let q t rfl:=r;rfl
 |str _=>let q t rfl:=r;rfl
 |byt _=>let q t rfl:=r;rfl
 |flt _=>let q t rfl:=r;rfl
 |ref _=>subst r;rfl
 |ty _=>subst r;rfl
abbrev jI.inj(r:jI x u)(q:jI y u):=vFa (r.abs.symm.trans q.abs)
def jB.inj{a b c}(h:jB a c):jB b c->a=b:=by
 induction h generalizing b with
 |nil=>intro h;cases h;rfl
 |cons r _ i=>
  intro h;cases h with
  |cons e d=>rw[r.inj e,i d]
section
variable{X:Cx}{pins:Tq}{U:St}{H:Hp}{s:Shared}{a:Addr}{xs ys:L V}
def Jk.of{K}(h:H a=S (.lst xs)):Jk K H a xs:=.inl (.inl h)
def yN.of{K}(h:H a=S (.tup xs)):yN K H a xs:=.inl (.inl h)
def Inv.list(I:Inv X pins U H s)(h:Jk X.K H a xs):∃b ,jB xs b/\PlainL s.heap a b.toArray/\xs.length<=sizeLine:=by
 rcases h with h|⟨o,b,n,d,g,c,f,i,r⟩
 ·let YG z b n r e:=h.ok I.hok;exact#[_,r,#[_,n,e,rfl,rfl,rfl],z]
 ·refine#[_,r,#[o,n,I.kIn a o d,g,c,by simpa using f],?_];have e:=r.length;simp only[Array.length_toList]at e
  lia
def Inv.tuple(I:Inv X pins U H s)(h:yN X.K H a xs):∃b ,jB xs b/\IsTup s.heap a b.toArray/\xs.length<=sizeLine:=by
 rcases h with h|⟨o,b,n,d,c,f,g,r⟩
 ·let vb z b r p:=h.ok I.hok;exact#[_,r,p,z]
 ·refine#[_,r,#[o,I.kIn a o d,c,n,by simpa using f],?_];have e:=r.length;simp only[Array.length_toList]at e
  lia
def Inv.list_inj(I:Inv X pins U H s)(h:Jk X.K H a xs)(i:Jk X.K H a ys):xs=ys:=by
 let jw c r v6 _:=I.list h;let q o n e _ _ d:=v6;let jw b j w6 _:=I.list i;let q k m g _ _ f:=w6;rw[e]at g;obtain rfl:=Zj g;rw[d]at f;injection f with l _;have:c=b:=by simp_all
 subst this;exact r.inj j
def Inv.tuple_inj(I:Inv X pins U H s)(h:yN X.K H a xs)(i:yN X.K H a ys):xs=ys:=by
 let jw c r x6 _:=I.tuple h;let q o e _ n d:=x6;let jw b j y6 _:=I.tuple i;let q k g _ m f:=y6;rw[e]at g;obtain rfl:=Zj g;rw[d]at f;injection f with l _;have:c=b:=by simp_all
 subst this;exact r.inj j
end
noncomputable abbrev Cx.wish(X:Cx)(E:Tz):={X with xe:=E}
noncomputable abbrev Cx.nox(X:Cx):=X.wish λ_ _=>False
def Cx.Ok.wish{X:Cx}(a:X.Ok)(E ):(X.wish E).Ok:=
 #[a.mod,a.kind,a.glob,a.blt,a.above,a.inj,a.has,a.cab,a.hd,a.frames,a.stk,a.exf,a.bs,a.bsz,a.noex,a.exfs,a.funs,a.frf]
def Cx.Ok.unwish{X:Cx}{E}(a:(X.wish E).Ok):X.Ok:=
 #[a.mod,a.kind,a.glob,a.blt,a.above,a.inj,a.has,a.cab,a.hd,a.frames,a.stk,a.exf,a.bs,a.bsz,a.noex,a.exfs,a.funs,a.frf]
section
variable{X:Cx}{pins:Tq}{U:St}{H:Hp}{s:Shared}{E:Tz}
def Inv.wish(I:Inv X pins U H s)(E ):Inv (X.wish E) pins U H s:=#[I.ok.wish E,I.os,I.bare,I.base,I.loc,I.cell,I.free,I.freeC,I.pin,I.hok,I.len]
def Inv.unwish(I:Inv (X.wish E) pins U H s):Inv X pins U H s:=#[I.ok.unwish,I.os,I.bare,I.base,I.loc,I.cell,I.free,I.freeC,I.pin,I.hok,I.len]
def SP.unwish(h:SP (X.wish E) pins D f c):SP X pins D f c:=by
 cases f with
 |next=>let jW a b I q:=h;exact#[_,b,I.unwish,q]
 |brk=>let jW a b I q:=h;exact#[_,b,I.unwish,q]
 |cont=>let jW a b I q:=h;exact#[_,b,I.unwish,q]
 |ret u=>let JL v a b I r q:=h;exact#[v,_,b,I.unwish,r,q]
def Jx.nox{st}{t}(h:Jx X.nox st t):Jx X st t:=λpins s U H D I a=>
 wCa (h _ s U H D (I.wish _) a) (λ_ _ q=>q.unwish) λ_ _ z=>False.elim z
end
section
variable{X:Cx}{st:Stmt}{rest:L Stmt}{t u:TS}{e:Expr}{te:TE}{pos:Pos}
abbrev mP:TS:=λD a H=>D.nx a H
abbrev NT(t u:TS):TS:=λD a H=>t {D with nx:=u D} a H
def XJ:Jx X [] mP:=λ_ _ a H _ I h=>wpAny_execs_nil #[a,H,I,h]
def VO(d:PS X st t)(k:Jx X rest u):Jx X (st::rest) (NT t u):=by
 intro a s i H D I h;refine wpAny_execs_cons (jM (d _ s i H _ I h) λf j q=>?_);cases f with
 |next=>
  let jW g b c q:=q;exact k _ j _ b D c q
 |ret v=>exact q
 |brk=>exact q
 |cont=>exact q
def Uy(b:PS X st t):Jx X [st] t:=by
 intro a s c H D I h;refine wpAny_execs_cons (jM (b _ s c H D I h) λf d q=>?_);cases f with
 |next=>exact wpAny_execs_nil q
 |ret v=>exact q
 |brk=>exact q
 |cont=>exact q
def Inv.quiet(I:Inv X a b H s):interactive X.env=G:=by simp[interactive,I.ok.kind]
abbrev gj(te:TE):TS:=λD a H=>te a H λ_ b=>D.nx a b
def vd(i:PE X e te)(g:swapsWith e J pos.line X.env=pure G:=by rfl):PS X (.Expr e pos) (gj te):=by
 intro b s a H D I h;exact wpAny_Expr_any (jM (i _ s a H _ I h) λv j ⟨x,f,d,k,c⟩=>#[a,f,d,c]) I.quiet g
abbrev Hu(te:TE):TS:=λD a H=>te a H D.rt
def VP(f:PE X e te):PS X (.Return (S e) pos) (Hu te):=by
 intro b s a H D I h;exact wpAny_Return_some (jM (f _ s a H _ I h) λv j ⟨x,c,d,i,g⟩=>#[x,a,c,d,i,g])
abbrev mQ:TS:=λD _ H=>D.rt .non H
def Ew:PS X (.Return J pos) mQ:=λ_ _ a H _ I h=>wpAny_Return_none #[.non,a,H,I,rfl,h]
abbrev NU(c:TT)(t u:TS):TS:=λD a H=>c a H λb d=>if b=B then t D a d else u D a d
def Dp(p:PT X c r)(n:Jx X a t)(m:Jx X b u):PS X (.If c a b pos) (NU r t u):=by
 intro l s f H D I h;refine wpAny_If (jM (p _ s f H _ I h) λd k o=>?_);let ja j i g:=o;cases d with
 |true=>exact n _ k f j D i g
 |false=>exact m _ k f j D i g
abbrev Hv:TS:=λ_ _ _=>False
def bL:Jx X a Hv:=λ_ _ _ _ _ _ h=>h.elim
end
noncomputable abbrev TG:=V->St->Hp->(St->Hp->Prop)->Prop
noncomputable abbrev XM:=L V->St->Hp->(St->Hp->Prop)->Prop
abbrev PG(X )(a )(t:TG):=
 ∀(b ) (s ) (d:St) (H ) (v ) (u ) (Q ),Inv X b d H s->jI v u->t v d H Q->
  wpAny Sz X.A (assign a X.env u) (λ_ f=>∃c e,Inv X b c e f/\Q c e) X.xe s
abbrev GG(X )(g:L _)(t:XM):=
 ∀(a ) (s ) (d:St) (H ) (c ) (f ) (Q ),Inv X a d H s->jB c f->t c d H Q->
  wpAny Sz X.A (assignInOrder ((assignEach g X.env).map (·.2)) f) (λ_ h=>∃b e,Inv X a b e h/\Q b e) X.xe s
noncomputable abbrev Hw:=V->V->V->Hp->(Hp->Prop)->Prop
abbrev aY(X )(t:Hw):=
 ∀(a ) (s ) (d:St) (H ) (o i v ) (b c u ) (Q ),Inv X a d H s->jI o b->jI i c->jI v u->t o i v H Q->
  wpAny Sz X.A (setItem b c u) (λ_ f=>∃e,Inv X a d e f/\Q e) X.xe s
noncomputable abbrev Hx:=V->V->Hp->VK->Prop
abbrev Hy(X )(c:Operator)(t:Hx):=
 ∀(a ) (s ) (b:St) (H ) (x y ) (v u ) (Q ),Inv X a b H s->jI x v->jI y u->t x y H Q->
  wpAny Sz X.A (inplaceOp c v u) (EP X a b Q) X.xe s
section
variable{X:Cx}{pos:Pos}
abbrev yZ(i:Nat):TG:=λv a H Q=>Q (a.set i (S v)) H
def Ex(b:X.N.Nodup)(c:X.N[i]?=S x)(e:Uw X.env.scope x)(d:X.fn x=B\/X.env.scope.names.lookup x=S .local:=by first|exact .inl _|exact .inr _|assumption):PG X (.Name x pos) (yZ i):=by
 intro a s j H v u Q I r h;exact wpAny_assign_Name (VM I b c e r (λg f=>#[_,H,f,h]) d)
abbrev NV:XM:=λa b H Q=>a=[]/\Q b H
abbrev mS(t:TG)(u:XM):XM:=λb d H Q=>∃v r,b=v::r/\t v d H λa c=>u r a c Q
def Ey:GG X [] NV:=by
 intro a s b H c d Q I r h;let q e h:=h;subst e;cases r;exact assignInOrder_nil #[b,H,I,h]
theorem cH(g:PG X e t)(p:GG X a u)
  (j:(assignEach (e::a) X.env).map (·.2)=assign e X.env::(assignEach a X.env).map (·.2):=by rfl):GG X (e::a) (mS t u):=by
 intro b s k H w x Q I r h;let q v y d h:=h;subst d;cases r with
 |cons r o=>
  rw[j];refine assignInOrder_cons (jM (g _ s k H _ _ _ I r h) λ_ c l=>?_);let jW i m f n:=l;exact p _ c _ m _ _ Q f o n
abbrev NW(K:uXa)(n:Nat)(t:XM):TG:=λv c H Q=>∃a b,v=.ref a/\yN K H a b/\b.length=n/\t b c H Q
def Hz(x:X.calm=B)(h:GG X f t)
  (l:(assignEach f X.env).length=n:=by rfl) (d:(assignEach f X.env).findIdx? (·.1)=J:=by rfl):PG X (.Tuple f k pos) (NW X.K n t):=by
 intro i s A H v u Q I r c;let q a w F j y c:=c;subst F;subst r;let jw C g m N:=I.tuple j;refine assign_Tuple_tuple (I.ok.hd x) m (by simp[l,<-y,g.length]) d λM z=>?_;have p:=I.kept (t':=s.toks) λb o e=>z b o (wTa (wLa e)) e;exact h _ _ A H w _ Q p (by simpa using g) c
abbrev cJ(e b:TE)(t:Hw):TG:=λv a H Q=>e a H λo d=>b a d λi f=>t o i v f λc=>Q a c
def Q7(T:PE X o R)(w:PE X i A)(l:aY X t)
  (m:∀v,assign (.Subscript o i pos) X.env v=(do
   let a<-holding [v] (eval o X.env)
   let b<-holding [v,a] (eval i X.env)
   standAt pos
   holding [v,a,b] (setItem a b v)
   release [v,a,b] []):=by intro _;rfl):PG X (.Subscript o i pos) (cJ R A t):=by
 intro e s d H v u Q I r h;rw[m];refine wAa (wDa (jM (T _ s d H _ I h) λa n c=>?_));let jc x g M C j:=c;refine wAa (wDa (jM (w _ n d g _ M j) λb O c=>?_));let jc y f P z p:=c;refine wAa (vOa (wAa (wDa (jM (l _ O d f x y v a b u _ P C z r p) λ_ W c=>?_))));let ja k F N:=c;exact wpAny_release #[d,k,F,N]
abbrev Y2(c:TE)(g:TG):TS:=λD a H=>c a H λx b=>g x a b D.nx
def Uz(k:PE X e d)(o:PG X a g)(p:swapsWithSole [a] e pos.line X.env=pure G:=by rfl)(r:swappedStores [a] e X.env=pure J:=by rfl)
  (i:(assignEach [a] X.env).map (·.2)=[assign a X.env]:=by rfl):PS X (.Assign [a] e pos) (Y2 d g):=by
 intro c s b H D I h;refine wpAny_Assign_stores (jM (k _ s b H _ I h) λv j l=>?_) p r;let jc x m f t n:=l;rw[i];exact jM (o _ j b m x v _ f t n) λ_ u q=>q
def zp(c:X.N.Nodup)(g:X.N[i]?=S x)(k:Uw X.env.scope x)(j:PE X e u)(t:swapsWith e (S (.Name x a)) pos.line X.env=pure G:=by rfl)(m:X.fn x=B\/X.env.scope.names.lookup x=S .local:=by first|exact .inl _|exact .inr _|assumption):
  PS X (.Assign [.Name x a] e pos) (Y2 u (yZ i)):=by
 intro b s r H D I h;refine wpAny_Assign_Name (jM (j _ s r H _ I h) λv w l=>?_) t;let jc y n f d o:=l;exact VM f c g k d (λz p=>#[_,n,p,o]) m
abbrev HA(i:Nat)(e:TE)(b:Hx):TS:=λD a H=>∃x,a[i]?=S (S x)/\e a H λy c=>b x y c λz d=>D.nx (a.set i (S z)) d
def bM(hN:X.N.Nodup)(p:X.N[i]?=S x)(o:Uw X.env.scope x)(he:PE X e N)(M:Hy X A R)(hf:X.fn x=B\/X.env.scope.names.lookup x=S .local:=by first|exact .inl _|exact .inr _|assumption):
  PS X (.AugAssign (.Name x C) A e pos) (HA i N R):=by
 intro f s t H D I h;let ja v e1 h:=h;let ja m T O:=I.loc;have j:GE X.env.scope x:=by rcases o with k|k;exact .inl k;exact .inr (.inl k)
 let ja u r l:=O i x v p e1 j;refine wpAny_AugAssign_Name ?_;have go:wpAny Sz X.A (eval e X.env) (λw d=>wpAny Sz X.A (inplaceOp A u w) (λr g=>wpAny Sz X.A (storeName X.env x r) (λ_=>SP X f D .next) X.xe g) X.xe d) X.xe s:=by
  refine jM (he _ s t H _ I h) λw F n=>?_;let jc y H1 I1 W q1:=n;refine jM (M _ F t H1 v y u w _ I1 r W q1) λz s2 n=>?_;let jc zv H2 I2 r2 P:=n;exact VM I2 hN p o r2 (λs3 Z=>#[_,H2,Z,P]) hf
 rcases l with⟨a,Q⟩|⟨a,c,hc,b⟩
 ·exact wpAny_loadName_local I.ok.kind a T Q go
 ·rcases a with a|a
  ·exact wpAny_loadName_cell I.ok.kind a hc b go
  ·rcases o with k|k
   ·have:X.env.scope.names.lookup x=S _:=a;rw[k]at this;cases this
   ·have:X.env.scope.names.lookup x=S _:=a;rw[k]at this;cases this
abbrev HB(f:Int->Int->Int):Hx:=λx y H Q=>∃i j,x=.int i/\y=.int j/\Q (.int (f i j)) H
def HC:Hy X .Add (HB λi j=>i+j):=by
 intro a s g H x y v u Q I b c h;let jc i j rfl rfl q:=h;let q t rfl:=b;let q f rfl:=c;exact iadd_int #[.int _,H,I.tok _,#[_,rfl],q]
def HD:Hy X .Sub (HB λi j=>i-j):=by
 intro a s g H x y v u Q I b c h;let jc i j rfl rfl q:=h;let q t rfl:=b;let q f rfl:=c;exact isub_int #[.int _,H,I.tok _,#[_,rfl],q]
end
section
variable{X:Cx}{pos:Pos}
abbrev HE(c:TT)(h:TS):TS:=λD a H=>∃W:Nat->St->Hp->Prop,(∃m,W m a H)/\∀m a H,W m a H->
 c a H λb e=>if b=B then∃N ,(∀d g,N d g->∃f,f<m/\W f d g)/\h {D with nx:=N,ct:=N,bk:=D.nx} a e else D.nx a e
def cK(A:PassesOwn Sz X.A X.env X.xe)(M:PT X c tc)(P:Jx X g tb):PS X (.While c g [] pos) (HE tc tb):=by
 intro u s R H D I h;let ja W z6 d:=h;let q O Q:=z6;refine wpAny_While (codeAny_whileLoop (λn s'=>∃a y,Inv X _ a y s'/\W n a y) ?_ O #[R,H,I,Q]);rintro n s1 ⟨C,w,F,T⟩;refine wpAny_passesOwn A (jM (M _ s1 _ w _ F (d n _ w T)) λb s2 Z=>?_);let ja z x i:=Z;cases b with
 |true=>
  let ja N t i:=i;refine wpAny_passesOwn A (jM (P _ s2 _ z _ x i) λf s3 j=>?_);cases f with
  |next=>
   let jW r e k l:=j;let ja o p m:=t _ e l;exact#[o,p,_,e,k,m]
  |cont=>
   let jW r e k l:=j;let ja o p m:=t _ e l;exact#[o,p,_,e,k,m]
  |brk=>exact j
  |ret v=>exact j
 |false=>
  exact wpAny_execs_nil #[_,z,x,i]
end
structure It where
 go:Nat->Hp->Prop
 yld:Nat->Hp->V->Hp->Prop
 stop:Nat->Hp->Prop
abbrev JI(X:Cx)(pins:Tq)(H:Hp)(b ):=
 H b=J/\b≠X.env.locals/\b∉X.fs/\(b∈X.ex\/X.s₀.heap.objs.size<=b)/\(∀x c,X.env.cells.lookup x=S c->c≠b)/\∀p∈X.pn++pins,p.1≠b
def Inv.fpOk(I:Inv X pins h H s)(a:s.heap.objs.size<=b)(f:g b=J):JI X pins g b:=by
 refine#[f,Nat.ne_of_gt (Nat.lt_of_lt_of_le I.lt a),I.nofs a,.inr (wSa I.sz a),λx c e z=>?_,λp d z=>?_]
 ·let q v q:=I.cell x c e;exact vDa (Nat.lt_of_lt_of_le q.lt Sa) (wUa _)
 ·exact vDa (Nat.lt_of_lt_of_le (wLa (I.pin p d).1) Sa) (wUa _)
structure Turn (P ) (w ) (K ) (tg ) (J00:It) (fp:L _) (it ) (tn:Nat->Heap->Prop) where
 mem:it∈fp
 obj:∀i h,tn i h->∀b∈fp,∃o,h.get? b=S o/\∀v,o.data≠.cell v
 keep:∀i h h',tn i h->(∀b∈fp,∀o,h.get? b=S o->h'.get? b=S o)->tn i h'
 item:∀(X ),X.prog=P->X.w=w->X.K=K->X.calm=B->∀(i ) (pins ) (s ) (U:St) (H ) (E ),Inv X pins U H s->(∀b∈fp,JI X pins H b)->tn i s.heap->J00.go i H->
  wpAny (model P w) X.A (pyNext (.ref it)) (λr s1=>∃u,r=S u/\
   wpAny (model P w) X.A (letOwnedTupleGo tg (.ref it) u) (λ_ s2=>∃x H',Inv X pins U H' s2/\jI x u/\J00.yld i H x H'/\tn (i+1) s2.heap/\∀b∈fp,H' b=J) E s1) E s
 done:∀(X ),X.prog=P->X.w=w->X.K=K->X.calm=B->∀(i ) (pins ) (s ) (U:St) (H ) (E ),Inv X pins U H s->(∀b∈fp,JI X pins H b)->tn i s.heap->J00.stop i H->
  wpAny (model P w) X.A (pyNext (.ref it)) (λr s1=>r=J/\Inv X pins U H s1) E s
 self:∀(A ) (i ) (s ) (Q ) (E ),tn i s.heap->Q (.ref it) s->wpAny (model P w) A (pyIter (.ref it)) Q E s
noncomputable abbrev TI:=St->Hp->(It->Hp->Prop)->Prop
abbrev N4(X )(a:Tq)(j:St)(i:Expr)(R:It->Hp->Prop)(d:Value)(h:Shared):=
 ∃(f:Addr) (e:L _) (g:Nat->Heap->Prop) (J00:It) (c:Hp),d=.ref f/\Inv X a j c h/\Turn X.prog X.w X.K i J00 e f g/\g 0 h.heap/\(∀b∈e,JI X a c b)/\R J00 c
abbrev PI(X )(f b:Expr)(d:TI):=
 ∀(a ) (s ) (c:St) (H ) (R ),Inv X a c H s->d c H R->
  wpAny Sz X.A (eval b X.env) (λv e=>wpAny Sz X.A (pyIter v) (N4 X a c f R) X.xe e) X.xe s
def kS(d:s.heap.get? f=S o)(g:o.cls=.type n)(i:o.data=.fields e)
  (b:["enumerate","zip","dict_itemiterator","dict_reverseitemiterator","odict_iterator","itertools.zip_longest","itertools.pairwise"].contains n=G) (a:Q () s):wpAny M A (letOwnedTupleGo c (.ref f) u) Q E s:=by
 cases c<;>first
  |exact wBa a
  | (cases u <;> first
    |exact wBa a
    | (refine wAa (wpAny_load d ?_)
       rw[g,i];show wpAny M A (if(["enumerate","zip","dict_itemiterator","dict_reverseitemiterator","odict_iterator","itertools.zip_longest","itertools.pairwise"].contains n&&e[0]?==S _)=B then _ else _) Q E s;rw[if_neg (by intro h;rw[b,Bool.false_and]at h;exact Zf h)];exact wBa a))
abbrev bN(K:uXa)(a:Addr):It:=
 #[λi H=>∃b x,Jk K H a b/\b[i]?=S x,λi H x c=>c=H/\∀b,Jk K H a b->b[i]?=S x,λi H=>∃b,Jk K H a b/\b.length<=i]
abbrev HF(K:uXa)(a:Addr):It:=
 #[λi H=>∃b x,yN K H a b/\b[i]?=S x,λi H x c=>c=H/\∀b,yN K H a b->b[i]?=S x,λi H=>∃b,yN K H a b/\b.length<=i]
abbrev Dq(lo:Int)(n:Nat):It:=#[λi _=>i<n,λi H x a=>a=H/\x=.int (lo+i),λi _=>n<=i]
def WK{K}{tg}(a f ):Turn P w K tg (bN K a) [f] f (λi h=>h.IsListIter f a i) where
 mem:=by simp
 obj:=λi h st b g=>by
  have e:b=f:=by simpa using g
  subst e;let jw o e c d:=st;exact#[o,e,λv z=>by lia]
 keep:=λi h Z st k=>st.at λo e=>k f Sx o e
 item:=by
  intro X A F N W i l s U H E I n st T;subst A F N;let jW xs x m y:=T;let jw M R p hz:=I.list m;let ja u hu ru:=R.get y;let Jy t Q f2 C r O:=n f Sx;refine wpAny_pyNext_list_item st p.isList (by simpa using hu) λZ j sb=>?_;have I1:=I.turned (t':=s.toks) (λb o g e=>(sb.2 b g).trans e) t Q C r O;let jw o e c d:=id j;exact#[u,rfl,kS e c d rfl #[x,H,I1,ru,#[rfl,λys hy=>by rw[I.list_inj hy m];exact y],j,λb g=>(n b g).1]]
 done:=by
  intro X A F N W i l s U H E I n st T;subst A F N;let ja xs m y:=T;let jw M R p hz:=I.list m;let Jy t Q f2 C r O:=n f Sx;have hl:=R.length;exact wpAny_pyNext_list_end (I.ok.hd W) st p.isList (by simp;lia) λZ eb=>#[rfl,I.turned (λb o g e=>eb b o g e) t Q C r O]
 self:=λ_ _ _ _ _ st h=>wpAny_pyIter_listiter st h
def aZ{K}{tg}(a f ):Turn P w K tg (HF K a) [f] f (λi h=>h.IsTupleIter f a i) where
 mem:=by simp
 obj:=λi h st b g=>by
  have e:b=f:=by simpa using g
  subst e;let jw o e c d:=st;exact#[o,e,λv z=>by lia]
 keep:=λi h Z st k=>st.at λo e=>k f Sx o e
 item:=by
  intro X A F N W i l s U H E I n st T;subst A F N;let jW xs x m y:=T;let jw M R p hz:=I.tuple m;let ja u hu ru:=R.get y;let Jy t Q f2 C r O:=n f Sx;refine wpAny_pyNext_tuple_item st (show s.heap.IsTuple a _ from p) (by simpa using hu) λZ j sb=>?_;have I1:=I.turned (t':=s.toks) (λb o g e=>(sb.2 b g).trans e) t Q C r O;let jw o e c d:=id j;exact#[u,rfl,kS e c d rfl #[x,H,I1,ru,#[rfl,λys hy=>by rw[I.tuple_inj hy m];exact y],j,λb g=>(n b g).1]]
 done:=by
  intro X A F N W i l s U H E I n st T;subst A F N;let ja xs m y:=T;let jw M R p hz:=I.tuple m;let Jy t Q f2 C r O:=n f Sx;have hl:=R.length;exact wpAny_pyNext_tuple_end (I.ok.hd W) st (show s.heap.IsTuple a _ from p) (by simp;lia) λZ eb=>#[rfl,I.turned (λb o g e=>eb b o g e) t Q C r O]
 self:=λ_ _ _ _ _ st h=>wpAny_pyIter_tupleiter st h
def a_{K}{Q}(a )(lo )(n ):Turn P w K Q (Dq lo n) [a] a (λi h=>IsRangeIter h a (lo+i*1) (n-i) 1) where
 mem:=by simp
 obj:=λi h st b c=>by simp_all
 keep:=λi h p st k=>k a Sx _ st
 item:=by
  intro X F z A u i d s C H E I g st x;subst F z A;let Jy j r N m y l:=g a Sx;have W:=Walks.range (prog:=X.prog) (w:=X.w) (I.ok.hd u) a lo 1 n;refine W.item i s _ _ x st λv p R Z f T=>?_;let q t rfl:=Z;have M:Inv X _ C H {s with heap:=p,toks:=R}:=I.turned (λb o c e=>T b o (by simpa using c) e) j r m y l;refine#[_,rfl,kS f rfl rfl rfl #[.int _,H,M,#[t,?_],#[rfl,rfl],f,λb c=>(g b c).1]];rw[Int.mul_one]
 done:=by
  intro X F z A u i d s C H E I g st x;let Jy j r N m y l:=g a Sx;exact wpAny_pyNext_range_end (I.ok.hd u) st (by have:n<=i:=x;lia) λp O=>#[rfl,I.turned (λb o c e=>O b o c e) j r m y l]
 self:=λ_ _ _ _ _ st h=>wpAny_pyIter_rangeiter st h
section
variable{X:Cx}{tg:Expr}
abbrev mU(K:uXa)(c:TE):TI:=λd H R=>c d H λx b=>∃a,x=.ref a/\(∃e,Jk K b a e)/\R (bN K a) b
def cL{d:St}{H}{s}{R}{E}{lo a}{t u v}{g}(I:Inv X c d H s)(l:-(2^62)<=lo)(m:lo<2^62)(i:-(2^62)<=a)(k:a<2^62)
  (q:R (Dq lo (a-lo).toNat) H):wpAny Sz X.A (pyIter (.ref s.heap.objs.size)) (N4 X c d tg R) E {s with heap:=s.heap.push {cls:=.type "range",data:=.fields #v[.int lo t,.int a u,.int 1 v]},toks:=g}:=by
 refine wpAny_pyIter_range (IsRange.new ..) (small_one l m i k) ?_;have f:Inv X _ d H {s with heap:=s.heap.push {cls:=.type "range",data:=.fields #v[.int lo t,.int a u,.int 1 v]},toks:=g}:=I.kept λb o e=>wIa _ e;refine#[_,_,_,_,H,rfl,
  f.kept λb o e=>wIa _ e,a_ _ lo _,?_,λb n=>?_,q]
 ·have h:lo+((0:Nat))*1=lo:=by simp
  have j:(((a-lo).toNat:Nat))-((0:Nat))=Builtin.Range.rangeSize lo a 1:=by rw[rangeSize_one];split<;>lia
  rw[h,j];exact wJa _ rfl
 ·have e:b=(s.heap.push {cls:=.type "range",data:=.fields #v[.int lo t,.int a u,.int 1 v]}).objs.size:=by simpa using n
  subst e;exact f.fpOk (wPa _) (f.hok.fresh (wPa _))
abbrev mV(c:TA):TI:=λa H R=>c a H λd b=>∃j ,d=[.int j]/\-(2^62)<=j/\j<2^62/\R (Dq 0 j.toNat) b
def bO(v:Gl X "range")(f:X.mg "range" = J)(d:PA X [a] i)(k:starEach [a] X.env=[(G,eval a X.env)]:=by rfl):PI X tg (.Call (.Name "range" p) [a] [] g) (mV i):=by
 intro c s m H R I h;refine Call_ (Ux I v f boot_range (PyProof.Rows.callWith_type1 (jM (d _ _ s m H _ I h) λy x w=>?_) k rfl));let jc z A u n b:=w;let q j e b o q:=b;subst e;cases n with
 |cons r l=>
  cases l;let q t rfl:=r;exact call_range_1 (cL u (by lia) (by lia) b o (by simpa using q))
abbrev NX(h:TI)(g:TG)(k:TS):TS:=λD a H=>h a H λJ00 f=>∃W:Nat->Nat->St->Hp->Prop,(∃m,W 0 m a f)/\∀i m a H,W i m a H->
 (J00.stop i H/\D.nx a H)\/(J00.go i H/\∃N ,(∀b c,N b c->∃e,e<m/\W (i+1) e b c)/\∀x c,J00.yld i H x c->g x a c λd j=>k {D with nx:=N,ct:=N,bk:=D.nx} d j)
abbrev wf(a:L _)(h:Heap):=a.filterMap λb=>(h.get? b).map λo=>(b,o)
def zP(a:b∈c)(e:h.get? b=S o):(b,o)∈wf c h:=List.mem_filterMap.mpr #[b,a,by rw[e];rfl]
def bP(a:p∈wf c h):p.1∈c/\h.get? p.1=S p.2:=by
 let ja b f e:=List.mem_filterMap.mp a;cases q:h.get? b with
 |none=>rw[q]at e;exact Zn e
 |some o=>
  rw[q]at e;have d:=vFa e;subst d;exact#[f,q]
def Inv.pinned(I:Inv X pins k H s)(j:∀b∈c,JI X pins H b)(h:∀b∈c,∃o,s.heap.get? b=S o/\∀v,o.data≠.cell v):Inv X (pins++wf c s.heap) k H s:=
 I.pins_of λp g=>(uWa g).elim (λz=>I.pin p (vJa _ z)) λz=>by
  let q f e:=bP z;let Jm l m i _:=j _ f;let ja o a d:=h _ f;rw[e]at a;obtain rfl:=Zj a;exact#[e,l,m,i,d]
abbrev Inv.unpinned(I:Inv X (pins++c) b H s):=I.pins_of λp a=>I.pin p (vJa _ (vIa _ a))
def HG(F:PassesOwn Sz X.A X.env X.xe)(hc:X.calm=B)(hi:PI X tg w wi)(hg:PG X tg g)(p:Jx X Q tb)
  (hs:∀x,foldedSetIterable w X.env x=pure x:=by intro _;rfl):PS X (.For tg w Q [] pos) (NX wi g tb):=by
 intro Z s U H D I h;refine wpAny_For (jM (hi _ s U H _ I h) λv s1 h1=>jM h1 λitv s2 h2=>?_) hs;let Jw it fp tn J00 H2 e I2 T st2 u7:=h2;let vb f2 W v7 C:=u7;let q m0 w0:=v7;subst e;have l:∀{t},(∀b∈fp,t b=J)->∀b∈fp,JI X _ t b:=λhn b p=>#[hn b p,(f2 b p).2]
 refine codeAny_forLoop_any (λn s'=>∃i j t,Inv X _ j t s'/\tn i s'.heap/\(∀b∈fp,t b=J)/\W i n j t) ?_ m0 #[0,U,H2,I2,st2,λb p=>(f2 b p).1,w0];rintro n s3 ⟨i,U3,H3,I3,R,M,w3⟩;rcases C i n _ H3 w3 with⟨P,qn⟩|⟨go,N,hN,step⟩
 ·refine wpAny_passesOwn F (jM (T.done X rfl rfl rfl hc i _ s3 _ H3 _ I3 (l M) R P) λr s4 A=>?_);let q hr I4:=A;subst hr;exact wpAny_execs_nil #[_,H3,I4,qn]
 ·refine wpAny_passesOwn F (jM (T.item X rfl rfl rfl hc i _ s3 _ H3 _ I3 (l M) R go) λr s4 A=>?_);let ja u rfl h4:=A;refine wpAny_passesOwn F (jM h4 λ_ s5 A=>?_);let vc x H5 I5 r5 y5 z fr5:=A;have I5':=I5.pinned (l fr5) (T.obj _ _ z);refine wpAny_passesOwn F (jM (hg _ s5 _ H5 x u _ I5' r5 (step x H5 y5)) λ_ s6 A=>?_);let jW U6 H6 I6 q6:=A;refine wpAny_passesOwn F (jM (p _ s6 _ H6 _ I6 q6) λf s7 y=>?_);have again:∀{a} {c},Inv X _ _ c s7->N _ c->∃m,m<n/\∃i j t,Inv X Z j t s7/\tn i _/\(∀b∈fp,t b=J)/\W i m j t:=λ{a c} k O=>by
   let ja m' hm w7:=hN _ c O;refine#[m',hm,_,a,c,k.unpinned,T.keep _ _ _ z λb p o e=>(k.pin _ (vJa _ (vJa _ (zP p e)))).1,λb p=>?_,w7];let ja o e d:=T.obj _ _ z b p;exact(k.pin _ (vJa _ (vJa _ (zP p e)))).2.1
  cases f with
  |next=>let jW a c k O:=y;exact again k O
  |cont=>let jW a c k O:=y;exact again k O
  |brk=>let jW a c k y:=y;exact#[_,c,k.unpinned,y]
  |ret v=>let JL x7 a c k r7 y:=y;exact#[x7,_,c,k.unpinned,r7,y]
end
noncomputable abbrev R2:=V->V->Hp->VK->Prop
abbrev Jh(X )(f:Value->Value->Sem _)(r:R2):=
 ∀(a ) (s ) (b:St) (H ) (x y ) (v u ) (Q ),Inv X a b H s->jI x v->jI y u->r x y H Q->
  wpAny Sz X.A (f v u) (EP X a b Q) X.xe s
abbrev HH(X )(f:Value->Sem _)(r:V->Hp->VK->Prop):=
 ∀(a ) (s ) (b:St) (H ) (x ) (v ) (Q ),Inv X a b H s->jI x v->r x H Q->
  wpAny Sz X.A (f v) (EP X a b Q) X.xe s
abbrev zQ(X )(f:Value)(r:L V->Hp->VK->Prop):=
 ∀(a ) (s ) (c:St) (H ) (b ) (d ) (Q ),Inv X a c H s->jB b d->r b H Q->
  wpAny Sz X.A (call f d) (EP X a c Q) X.xe s
abbrev NY(X )(r:V->Hp->(Bool->Hp->Prop)->Prop):=
 ∀(a ) (s ) (b:St) (H ) (x ) (v ) (Q ),Inv X a b H s->jI x v->r x H Q->
  wpAny Sz X.A (truthy v) (TP X a b Q) X.xe s
abbrev XN(r:R2)(e d:TE):TE:=λa H Q=>e a H λx c=>d a c λy b=>r x y b Q
abbrev pc(r:V->Hp->VK->Prop)(c:TE):TE:=λa H Q=>c a H λx b=>r x b Q
abbrev rI(C:Int->Int->Prop)(g:Int->Int->V):R2:=λx y H Q=>∃i j,x=.int i/\y=.int j/\C i j/\Q (g i j) H
abbrev Vm(g:Int->Int->V):R2:=λx y H Q=>∃i j,x=.int i/\y=.int j/\Q (g i j) H
abbrev rU(g:Int->V):V->Hp->VK->Prop:=λx H Q=>∃i,x=.int i/\Q (g i) H
section
variable{X:Cx}{a b c:Expr}{ta tb tc:TE}{pos:Pos}
def cM(w:PE X a ta)(F:PE X b tb){d}{s}{e:St}{H}{R:V->V->Hp->Prop}(I:Inv X d e H s)
  (h:ta e H λx l=>tb e l λy g=>R x y g) {Q}{f:Value->Value->Sem Value}
  (r:∀v u k x y g,Inv X d e g k->jI x v->jI y u->R x y g->wpAny Sz X.A (f v u) Q X.xe k):
  wpAny Sz X.A (eval a X.env) (λv j=>wpAny Sz X.A (eval b X.env) (λu i=>wpAny Sz X.A (f v u) Q X.xe i) X.xe j) X.xe s:=by
 refine jM (w _ s e H _ I h) λv o m=>?_;let jc x l A z p:=m;refine jM (F _ o e l _ A p) λu k m=>?_;let jc y g t n C:=m;exact r v u k x y g t z n C
def Dr(g:Jh X (binaryOp i) r)(j:PE X a ta)(o:PE X b tb):PE X (.BinOp a i b pos) (XN r ta tb):=by
 intro d s k H Q I h;exact wpAny_BinOp (cM j o I h λv u f x y n m l e q=>g _ f k n x y v u Q m l e q)
def mW(i:HH X (unaryOp l) r)(m:PE X a ta):PE X (.UnaryOp l a pos) (pc r ta):=by
 intro e s d H Q I h;exact UnaryOp_ (jM (m _ s d H _ I h) λv f ⟨x,j,g,n,k⟩=>i _ f d j x v Q g n k)
def Ds{C}{g:Int->Int->Int}
  (rule:∀(i j ) (t u ) (s ) (Q ) (E ),C i j->Q (.int (g i j) s.toks) {s with toks:=s.toks+1}->wpAny Sz X.A (f (.int i t) (.int j u)) Q E s):
  Jh X f (rI C λi j=>.int (g i j)):=by
 intro d s n H x y v u Q I l e h;let JK i j rfl rfl k q:=h;let q t rfl:=l;let q m rfl:=e;exact rule i j t m s _ _ k #[.int _,H,I.tok _,#[_,rfl],q]
def HI{g:Int->Int->Int}
  (rule:∀(i j ) (t u ) (s ) (Q ) (E ),Q (.int (g i j) s.toks) {s with toks:=s.toks+1}->wpAny Sz X.A (f (.int i t) (.int j u)) Q E s):
  Jh X f (Vm λi j=>.int (g i j)):=by
 intro d s m H x y v u Q I k e h;let jc i j rfl rfl q:=h;let q t rfl:=k;let q l rfl:=e;exact rule i j t l s _ _ #[.int _,H,I.tok _,#[_,rfl],q]
def Aa{g:Int->Int->Bool}
  (rule:∀(i j ) (t u ) (s ) (Q ) (E ),Q (.bool (g i j)) s->wpAny Sz X.A (f (.int i t) (.int j u)) Q E s):
  Jh X f (Vm λi j=>.bl (g i j)):=by
 intro d s m H x y v u Q I l e h;let jc i j rfl rfl q:=h;let q t rfl:=l;let q k rfl:=e;exact rule i j t k s _ _ #[.bl _,H,I,rfl,q]
abbrev cP(i j:Int):=0<j/\j<1073741824
abbrev cR(i j:Int):=0<=j/\j<=1000000/\i.natAbs<2^64
abbrev Kq(i j ):=(-(2^64)<i/\i<2^64)\/(-(2^64)<j/\j<2^64)
def Kq.ok(h:Kq i j):IntMulOk i j:=by
 rcases h with⟨d,e⟩|⟨d,e⟩
 ·exact .of_left (intBits_le_64 d e)
 ·exact .of_right (intBits_le_64 d e)
def HJ:Jh X (binaryOp .Add) (Vm λi j=>.int (i+j)):=HI λ_ _ _ _ _ _ _ q=>add_int q
def HK:Jh X (binaryOp .Sub) (Vm λi j=>.int (i-j)):=HI λ_ _ _ _ _ _ _ q=>sub_int q
def HL:Jh X (binaryOp .Mult) (rI Kq λi j=>.int (i*j)):=Ds λ_ _ _ _ _ _ _ d q=>mul_int q d.ok
def Ez:Jh X (binaryOp .FloorDiv) (rI cP λi j=>.int (i/j)):=Ds λi j _ _ _ _ _ d q=>by
 have e:=d.1;have f:=d.2;exact floordiv_int (by lia) (by rw[Int.fdiv_eq_ediv_of_nonneg i (by lia)];exact q) (.inl (PyProof.noPylong_small (by lia)))
def HM:Jh X (binaryOp .Mod) (rI (λ_ j=>0<j) λi j=>.int (i%j)):=Ds λi j _ _ _ _ _ d q=>by
 exact mod_int' (by lia) (by rw[Int.fmod_eq_emod_of_nonneg i (by lia)];exact q)
def HN:Jh X (binaryOp .Pow) (rI cR λi j=>.int (i^j.toNat)):=Ds λ_ _ _ _ _ _ _ d q=>pow_int_small d.1 d.2.1 d.2.2 q
def Dt{g:Int->Int}
  (rule:∀(i ) (t ) (s ) (Q ) (E ),Q (.int (g i) s.toks) {s with toks:=s.toks+1}->wpAny Sz X.A (f (.int i t)) Q E s):
  HH X f (rU λi=>.int (g i)):=by
 intro d s j H x v Q I e h;let ja i rfl q:=h;let q t rfl:=e;exact rule i t s _ _ #[.int _,H,I.tok _,#[_,rfl],q]
def HP:HH X (unaryOp .USub) (rU λi=>.int (-i)):=Dt λ_ _ _ _ _ q=>neg_int q
end
abbrev HQ:V->V->Bool
 |.non,.non=>B|.non,.int _=>B|.int _,.non=>B|.non,.bl _=>B|.bl _,.non=>B|.non,.str _=>B|.str _,.non=>B
 |.int _,.int _=>B|.bl _,.bl _=>B|.str _,.str _=>B|.byt _,.byt _=>B
 |.int _,.str _=>B|.str _,.int _=>B|.bl _,.str _=>B|.str _,.bl _=>B
 |_,_=>G
abbrev HR:R2:=λx y H Q=>HQ x y=B/\Q (.bl (decide (x=y))) H
abbrev HU:R2:=λx y H Q=>HQ x y=B/\Q (.bl (!decide (x=y))) H
def UA:decide (V.int i=V.int j)=(i==j):=by
 rw[Bool.eq_iff_iff];simp
def GH:decide (V.bl i=V.bl j)=(i==j):=by
 rw[Bool.eq_iff_iff];simp
def UB:decide (V.str i=V.str j)=(i==j):=by
 rw[Bool.eq_iff_iff];simp
def XO:decide (V.byt i=V.byt j)=(i.toList==j.toList):=by
 rw[Bool.eq_iff_iff];cases i;cases j;simp
section
variable{X:Cx}{a b c:Expr}{ta tb tc:TE}{pos:Pos}
def J4(I:Inv X d g H s)(q:Q (.bl k) H)(e:k=f):EP X d g Q (.bool f) s:=by
 subst e;exact#[.bl k,H,I,rfl,q]
def Ab:Jh X (compareOp .Eq) HR:=by
 intro k s l H x y v u Q I g d h;let q f q:=h;cases x with
 |non=>
  cases g;cases y with
  |non=>subst d;exact PySem.EqNone.eq_none_none (J4 I q rfl)
  |bl j=>subst d;exact PySem.EqNone.eq_none_bool (J4 I q rfl)
  |int j=>let q e rfl:=d;exact PySem.EqNone.eq_none_int (J4 I q rfl)
  |str j=>let q e rfl:=d;exact PySem.EqNone.eq_none_str (J4 I q rfl)
  |_=>exact vDa (show G=B from f) vNa
 |bl i=>
  subst g;cases y with
  |non=>subst d;exact PySem.EqNone.eq_bool_none (J4 I q rfl)
  |bl j=>subst d;exact eq_bool (J4 I q GH)
  |str j=>let q e rfl:=d;exact PySem.EqMixed.eq_bool_str (J4 I q rfl)
  |_=>exact vDa (show G=B from f) vNa
 |int i=>
  let q t rfl:=g;cases y with
  |non=>subst d;exact PySem.EqNone.eq_int_none (J4 I q rfl)
  |int j=>let q e rfl:=d;exact eq_int (J4 I q UA)
  |str j=>let q e rfl:=d;exact PySem.EqMixed.eq_int_str (J4 I q rfl)
  |_=>exact vDa (show G=B from f) vNa
 |str i=>
  let q t rfl:=g;cases y with
  |non=>subst d;exact PySem.EqNone.eq_str_none (J4 I q rfl)
  |bl j=>subst d;exact PySem.EqMixed.eq_str_bool (J4 I q rfl)
  |int j=>let q e rfl:=d;exact PySem.EqMixed.eq_str_int (J4 I q rfl)
  |str j=>let q e rfl:=d;exact eq_str (J4 I q UB)
  |_=>exact vDa (show G=B from f) vNa
 |byt i=>
  let q t rfl:=g;cases y with
  |byt j=>let q e rfl:=d;exact PySem.W.eq_bytes (J4 I q XO)
  |_=>exact vDa (show G=B from f) vNa
 |_=>cases y<;>exact vDa (show G=B from f) vNa
def mX:Jh X (compareOp .NotEq) HU:=by
 intro k s l H x y v u Q I g d h;let q f q:=h;cases x with
 |non=>
  cases g;cases y with
  |non=>subst d;exact PySem.EqNone.ne_none_none (J4 I q rfl)
  |bl j=>subst d;exact PySem.EqNone.ne_none_bool (J4 I q rfl)
  |int j=>let q e rfl:=d;exact PySem.EqNone.ne_none_int (J4 I q rfl)
  |str j=>let q e rfl:=d;exact PySem.EqNone.ne_none_str (J4 I q rfl)
  |_=>exact vDa (show G=B from f) vNa
 |bl i=>
  subst g;cases y with
  |non=>subst d;exact PySem.EqNone.ne_bool_none (J4 I q rfl)
  |bl j=>subst d;exact ne_bool (J4 I q (congrArg _ GH))
  |str j=>let q e rfl:=d;exact PySem.EqMixed.ne_bool_str (J4 I q rfl)
  |_=>exact vDa (show G=B from f) vNa
 |int i=>
  let q t rfl:=g;cases y with
  |non=>subst d;exact PySem.EqNone.ne_int_none (J4 I q rfl)
  |int j=>let q e rfl:=d;exact ne_int (J4 I q (congrArg _ UA))
  |str j=>let q e rfl:=d;exact PySem.EqMixed.ne_int_str (J4 I q rfl)
  |_=>exact vDa (show G=B from f) vNa
 |str i=>
  let q t rfl:=g;cases y with
  |non=>subst d;exact PySem.EqNone.ne_str_none (J4 I q rfl)
  |bl j=>subst d;exact PySem.EqMixed.ne_str_bool (J4 I q rfl)
  |int j=>let q e rfl:=d;exact PySem.EqMixed.ne_str_int (J4 I q rfl)
  |str j=>let q e rfl:=d;exact ne_str (J4 I q (congrArg _ UB))
  |_=>exact vDa (show G=B from f) vNa
 |byt i=>
  let q t rfl:=g;cases y with
  |byt j=>let q e rfl:=d;exact PySem.W.ne_bytes (J4 I q (congrArg _ XO))
  |_=>exact vDa (show G=B from f) vNa
 |_=>cases y<;>exact vDa (show G=B from f) vNa
def mY:Jh X (compareOp .Lt) (Vm λi j=>.bl (decide (i<j))):=Aa λ_ _ _ _ _ _ _ q=>lt_int q
def mZ:Jh X (compareOp .LtE) (Vm λi j=>.bl (decide (i<=j))):=Aa λ_ _ _ _ _ _ _ q=>le_int q
def m_:Jh X (compareOp .Gt) (Vm λi j=>.bl (decide (j<i))):=Aa λ_ _ _ _ _ _ _ q=>gt_int q
def M0:Jh X (compareOp .GtE) (Vm λi j=>.bl (decide (j<=i))):=Aa λ_ _ _ _ _ _ _ q=>ge_int q
def bQ:Jh X (compareOp .In) (λx y H Q=>∃i j,x=.str i/\y=.str j/\Q (.bl (!(Builtin.Str.occurrences j i 0 j.length 1).isEmpty)) H):=by
 intro d s g H x y v u Q I f e h;let jc i j rfl rfl q:=h;let q t rfl:=f;let q k rfl:=e;exact in_str (J4 I q rfl)
def HV:Jh X (compareOp .Is) (λx y H Q=>y=.non/\Q (.bl (decide (x=.non))) H):=by
 intro d s g H x y v u Q I e f h;let q rfl q:=h;subst f;refine is_none_gen (J4 I q ?_);cases x<;>first
  |(exact Zn e;rfl)
  |(let q t rfl:=e;rfl)
def EA:Jh X (compareOp .IsNot) (λx y H Q=>y=.non/\Q (.bl (!decide (x=.non))) H):=by
 intro d s g H x y v u Q I e f h;let q rfl q:=h;subst f;refine isnot_none_gen (J4 I q ?_);cases x<;>first
  |(exact Zn e;rfl)
  |(let q t rfl:=e;rfl)
def Jh.or(h:Jh X f r)(k:Jh X f j):Jh X f (λx y H Q=>r x y H Q\/j x y H Q):=by
 intro i s g H x y v u Q I e d q;rcases q with q|q
 ·exact h _ s g H x y v u Q I e d q
 ·exact k _ s g H x y v u Q I e d q
def EB(g:Jh X (compareOp e) r)(j:PE X a ta)(o:PE X b tb)(p:behindInMarks e b=G):PE X (.Compare a [e] [b] pos) (XN r ta tb):=by
 intro d s k H Q I h;exact wpAny_Compare1 (cM j o I h λv u m x y n i l f q=>g _ m k n x y v u Q i l f q) p
abbrev Du(t:TE):TT:=λd H Q=>t d H λx e=>∃k,x=.bl k/\Q k e
def XQ(j:Jh X (compareOp f) r)(p:PE X a ta)(A:PE X b tb)(C:behindInMarks f b=G):PT X (.Compare a [f] [b] pos) (Du (XN r ta tb)):=by
 intro g s d H Q I h;refine wpAny_isTrue_Compare1 (jM (p _ s d H _ I h) λv o ⟨x,l,w,F,m⟩=>jM (A _ o d l _ w m) λu O ⟨y,T,R,N,t⟩=>
  jM (j _ O d T x y v u _ R F N t) λc W ⟨z,n,M,i,k,e,P⟩=>?_) C
 subst e;subst i;exact wpAny_truthy_bool #[n,M,P]
abbrev Q8(r i:R2)(ta tb tc:TE):TE:=λd H Q=>ta d H λx g=>tb d g λy j=>r x y j λz e=>∃k,z=.bl k/\
 (if k=B then tc d e λf h=>i y f h Q else Q (.bl G) e)
theorem cU(ho:Jh X (compareOp o) r)(i:Jh X (compareOp g) r')(C:PE X a ta)(O:PE X b tb)(A:PE X c tc)
  (P:lastMarks [o,g] [b,c]=G:=by with_unfolding_all rfl):PE X (.Compare a [o,g] [b,c] pos) (Q8 r r' ta tb tc):=by
 intro p s f H Q I h;refine Compare_chain (jM (C _ s f H _ I h) λv s1 ⟨x,H1,I1,r1,q1⟩=>chain_link (jM (O _ s1 f H1 _ I1 q1) λu s2 ⟨y,H2,F,l,M⟩=>
  jM (ho _ s2 f H2 x y v u _ F r1 l M) λd N ⟨z,j,n,t,k,e,m⟩=>?_)) P
 subst e;subst t;refine wpAny_truthy_bool ?_;cases k with
 |false=>exact ite_ff #[.bl _,j,n,rfl,m]
 |true=>exact ite_tt (chain_last (jM (A _ N f j _ n m) λw' w ⟨z',Z,T,R,W⟩=>i _ w f Z y z' u w' Q T l R W))
theorem cX(ho:Jh X (compareOp o) r)(i:Jh X (compareOp g) r')(P:PE X a ta)(Z:PE X b tb)(N:PE X c tc)
  (hm:lastMarks [o,g] [b,c]=G:=by with_unfolding_all rfl):PT X (.Compare a [o,g] [b,c] pos) (Du (Q8 r r' ta tb tc)):=by
 intro p s f H Q I h;refine isTrue_chain (jM (P _ s f H _ I h) λv F ⟨x,H1,I1,r1,C⟩=>test_link (jM (Z _ F f H1 _ I1 C) λu s2 ⟨y,H2,R,j,T⟩=>
  jM (ho _ s2 f H2 x y v u _ R r1 j T) λd W ⟨z,l,n,t,k,e,m⟩=>?_)) hm
 subst e;subst t;refine wpAny_truthy_bool ?_;cases k with
 |false=>
  let ja k' e' q':=m;cases e';exact ite_ff #[l,n,q']
 |true=>
  refine ite_tt (test_last (jM (N _ W f l _ n m) λw' M ⟨z',H4,I4,r4,w⟩=>jM (i _ M f H4 y z' u w' _ I4 j r4 w) λd' s5 xx=>?_));let jc z2 H5 O r5 j9:=xx;let ja k2 rfl q5:=j9;subst r5;exact wpAny_truthy_bool #[H5,O,q5]
abbrev cY(K:uXa)(x:V)(H:Hp)(k:Bool):Prop:=
 match x with
 |.non=>k=G
 |.bl b=>k=b
 |.int i=>k=(i != 0)
 |.str y=>y.length<=sizeLine/\k=((y.length:Int) != 0)
 |.byt y=>y.size<=sizeLine/\k=((y.size:Int) != 0)
 |.ref p=>(∃e,Jk K H p e/\k=!e.isEmpty)\/(∃e,yN K H p e/\k=!e.isEmpty)\/∃d f,H p=S (.dK d f)/\k=!d.isEmpty
 |_=>False
def Ad(r:KV d e):(!e.isEmpty)=!d.isEmpty:=by
 cases r<;>rfl
def wg(r:jB e d):(!d.toArray.isEmpty)=!e.isEmpty:=by
 cases r<;>simp
def UC:sizeLine<2^63:=by decide
def HW:NY X (λx H Q=>∃k,cY X.K x H k/\Q k H):=by
 intro A s P H x v Q I g h;let ja k e q:=h;have R:=sizeLine_eq;cases x with
 |non=>
  subst g;have d:k=G:=e;subst d;exact truthy_none #[H,I,q]
 |bl b=>
  subst g;have d:k=b:=e;subst d;exact wpAny_truthy_bool #[H,I,q]
 |int i=>
  let q t rfl:=g;have d:k=(i != 0):=e;subst d;exact PySem.P.truthy_int #[H,I,q]
 |str y=>
  let q t rfl:=g;obtain⟨F,d⟩:y.length<=sizeLine/\k=((y.length:Int) != 0):=e;subst d;exact PySem.P.truthy_str (by lia) #[H,I.tok _,q]
 |byt y=>
  let q t rfl:=g;obtain⟨F,d⟩:y.size<=sizeLine/\k=((y.size:Int) != 0):=e;subst d;exact PySem.W.truthy_bytes (by lia) #[H,I.tok _,q]
 |ref p=>
  subst g;have d:=e;rcases d with⟨C,j,d⟩|⟨C,j,d⟩|⟨n,z,j,d⟩
  ·subst d;let jw l r u w:=I.list j;have f:=r.length;exact wpAny_truthy_list u.isList (by simp only[List.size_toArray];lia) #[H,I.tok _,by rw[wg r];exact q]
  ·subst d;let jw l r u w:=I.tuple j;have f:=r.length;exact truthy_tuple u (by simp only[List.size_toArray];lia) #[H,I.tok _,by rw[wg r];exact q]
  ·subst d;let JY w N M k9:=show JB X.prog X.w H s.heap p (.dK n z) from I.hok p _ j;let N3 r o u10:=k9;let q O m:=u10;have m:s.heap.DictOf _ p M:=#[o,O,z,m]
   have f:=Paired.length r;exact wpAny_truthy_dict N m (by lia) #[H,I.tok _,by rw[Ad r];exact q]
 |_=>exact(show False from e).elim
def cZ(n:PE X a ta)(m:∀d,isTrue a X.env d=(do let v<-d;standAt a.pos;holding [v] (truthy v))):
  PT X a (λe H Q=>ta e H λx f=>∃k,cY X.K x f k/\Q k f):=by
 intro g s e H Q I h;exact isTrue_plain (jM (n _ s e H _ I h) λv i ⟨x,p,o,j,l⟩=>HW _ i e p x v Q o j l) (m _)
def Ae:Jh X (binaryOp .Add) (λx y H Q=>∃i j,x=.str i/\y=.str j/\i.length+j.length<=sizeLine/\Q (.str (i++j)) H):=by
 intro d s l H x y v u Q I g e h;let JK i j rfl rfl f q:=h;let q t rfl:=g;let q k rfl:=e;exact add_str (λk m=>#[.str _,H,I.tok _,#[_,rfl],q]) f
def qK(r:jB [x] f):∃u,f=[u]/\jI x u:=by
 cases r with
 |cons d e=>cases e;exact#[_,rfl,d]
def M1(r:jB [x,y] f):∃u d,f=[u,d]/\jI x u/\jI y d:=by
 cases r with
 |cons g e=>
  cases e with
  |cons i h=>cases h;exact#[_,_,rfl,g,i]
def bR(g:X.calm=B):zQ X (.builtin "max") (λe H Q=>∃i j,e=[.int i,.int j]/\Q (.int (if j > i then j else i)) H):=by
 intro f s p H e o Q I r h;let jW i j rfl q:=h;let jc u m rfl u12 v12:=M1 r;let q t rfl:=u12;let q n w12:=v12;subst w12;refine max_two_ints (I.ok.hd g) λv l k=>#[_,H,I.kept k,?_,q]
 by_cases d:j > i
 ·rw[if_pos d,if_pos d];exact#[_,rfl]
 ·rw[if_neg d,if_neg d];exact#[_,rfl]
end
structure ObjM (h:Heap) (x dx C ) (mA ) where
 obj:h.get? x=S (PySem.W.instObj C dx)
 ns:h.Ns1 dx mA
 ne:dx≠x
set_option tactic.hygienic true in
theorem WL{h:Heap}(n:h.Ns1 m r):∃d,h.get? m=S d/\∀b,PySem.W.lookIn b d=S (r b):=by
 let zo o f s k p i _ g:=n;refine#[o,k,λb=>?_];have e:=g b;unfold nsFind findBy at e;rw[<-Array.find?_toList]at e;unfold PySem.W.lookIn;rw[p];dsimp only;split
 ·simp_all
 ·rename_i q;rw[q]at e;have a:f.toList.any (·.refKey)=G:=by
   rw[List.any_eq_false];intro y l;let Vl z t c:=i y (Array.mem_toList_iff.mp l);simp[DictEntry.refKey,c]
  have j:¬f.toList.any (·.refKey)=B:=by rw[a];exact vNa
  rw[if_neg j];exact congrArg _ e
def ObjM.look{x c C}{d}(I:ObjM h x c C d):∃b,PySem.W.InstAt h x (PySem.W.instObj C c) C (S b)/\∀a,PySem.W.lookIn a b=S (d a):=
 let⟨b,e,f⟩:=WL I.ns
 #[b,#[I.obj,rfl,rfl,e],f]
section
variable{prog:Program}{w:World}{A:Around}{E:Tz}{s:Shared}{K:uXa}{x dx C f:Addr}{mA:Tj}{name:Str}{v:Value}
def EC{Q}(X:K.In s.heap)(I:ObjM s.heap x dx C mA)(i:PySem.W.plainGet K C name=B)(e:PySem.W.hasDictIn K C=B)
  (c:PySem.W.findIn K (.ref C) name=S J) (d:mA name=S v) (a:PySem.W.handedIn v=B) (h:Q v {s with toks:=s.toks+1}):
  wpAny Sr A (getAttr (.ref x) name b) Q E s:=by
 let ja j J00 g:=I.look;exact PySem.W.get_value X J00 (PySem.W.plainGet_of i).1 (PySem.W.findObj_own e c rfl (by rw[g,d])) a h
def c_{Q}(X:K.In s.heap)(I:ObjM s.heap x dx C mA)(a:PySem.W.plainGet K C name=B)
  (g:PySem.W.findIn K (.ref C) name=S (S (.ref f))) (c:PySem.W.isFn K (.ref f)=B) (b:mA name=J) (h:Q (.ref f,[.ref x]) s):
  wpAny Sr A (getMethod (.ref x) name i) Q E s:=by
 let ja e J00 d:=I.look;exact PySem.W.method_fn X J00 (PySem.W.plainGet_of a).1 (PySem.W.plainGet_of a).2 g (beq_iff_eq.mp c) (by show(PySem.W.lookIn _ e).map _=S _;rw[d,b];rfl) h
def ED{Q}(X:K.In s.heap)(I:ObjM s.heap x dx C mA)
  (u:PySem.W.findIn K (.ref C) "__setattr__" = S Sf) (F:PySem.W.plainOver K C=B) (k:PySem.W.takerIn K C name=S J) (r:PySem.W.hasDictIn K C=B)
  (z:PySem.Within mA p) (t:p.length<=sizeLine)
  (h:∀d,ObjM d x dx C (λy=>if y=name then S v else mA y)->Heap.SameBut dx s.heap d->Q () {s with heap:=d,toks:=s.toks+2}):
  wpAny Sr A (setAttr (.ref x) name v) Q E s:=by
 let ja H J00 N:=I.look;refine PySem.W.set_plain X J00 u (PySem.W.osa_open X J00 F k λb=>?_);let ja M l j:=PySem.W.any_some r;have m:=I.obj;refine wAa (wBa (wAa (wAa (wpAny_loadPart m (wAa (PySem.W.Looks.here (PySem.W.looks_clsIn X l) ?_))))));rw[j];refine wBa (wAa (wBa (wAa ?_)));refine wpAny_nsSet1 I.ns λd c a=>?_;let JL O o n g i e:=c.count (PySem.Within.cons _ v z);refine wAa (wpAny_lookBehind g (by rw[i];exact pastItsLine_dict (wSa e Sa)) ?_);exact wBa (h _ #[(a.2 _ (Ne.symm I.ne)).trans I.obj,c,I.ne] a)
def C0{b}{a}(X:K.In s.heap)(e:PySem.W.makesIn K C=B)
  (j:PySem.W.findIn K (.ref C) "__init__" = S (S (.ref f))) (i:PySem.W.typeIn K (.ref f)=S (.type "function"))
  (h:codeAny Sr (A.under (.builtin "type.__call__" #[.ref C::b,a])) (.call (.ref f) #[.ref (s.heap.objs.size+1)::b,a]) (PySem.W.InitBack (s.heap.objs.size+1) R)
   {s with heap:=(s.heap.push PySem.W.emptyDict).push (PySem.W.instObj C s.heap.objs.size)}):
  codeAny Sr A (.call (.ref C) #[b,a]) R s:=by
 let q k g d t os:=s;exact PySem.W.make_core (PySem.W.makes_of X e) (PySem.W.looks_findIn X j) (λc=>PySem.W.bind_fn X _ i) (.inl rfl) h
end
abbrev yw(f:Str)(v:V):L (Str×V)->L (Str×V)
 |[]=>[(f,v)]
 |(g,x)::r=>if g=f then(g,v)::r else(g,x)::yw f v r
theorem Kg(f g )(v ):∀c ,(yw f v c).lookup g=if g=f then S v else c.lookup g
 |[]=>by
  show List.lookup g [(f,v)]=_;by_cases h:g=f
  ·simp_all
  ·have a:=beq_eq_false_iff_ne.mpr h;simp only[List.lookup,a,if_neg h]
 |(k,x)::r=>by
  have d:=Kg f g v r;rw[show yw f v _=(if k=f then(k,v)::r else(k,x)::yw f v r) from rfl];by_cases b:k=f
  ·rw[if_pos b];by_cases h:g=k
   ·simp_all
   ·have a:=beq_eq_false_iff_ne.mpr h;simp only[List.lookup,a,if_neg (λe:g=f=>h (e.trans b.symm))]
  ·rw[if_neg b];by_cases h:g=k
   ·simp_all
   ·have a:=beq_eq_false_iff_ne.mpr h;simp only[List.lookup,a];exact d
theorem GJ(f )(v ):∀a ,f∈(yw f v a).map (·.1)/\∀g,g∈a.map (·.1)->g∈(yw f v a).map (·.1)
 |[]=>#[by simp[yw],λg h=>by simp at h]
 |(k,x)::r=>by
  let q d c:=GJ f v r;rw[show yw f v _=(if k=f then(k,v)::r else(k,x)::yw f v r) from rfl];by_cases b:k=f
  ·subst b;exact#[by simp,λg h=>by simpa using h]
  ·rw[if_neg b];refine#[?_,λg h=>?_]
   ·exact wMa _ d
   ·rcases uTa h with e|e
    ·exact List.mem_cons.mpr (.inl e)
    ·exact wMa _ (c g e)
theorem Kh(f )(v ):∀a ,(yw f v a).length<=a.length+1
 |[]=>by simp[yw]
 |(k,x)::r=>by
  have c:=Kh f v r;rw[show yw f v _=(if k=f then(k,v)::r else(k,x)::yw f v r) from rfl];by_cases b:k=f
  ·simp_all
  ·simp_all
def gg.some_of(r:gg (S v) o):∃u,o=S u/\jI v u:=by
 cases o with
 |none=>exact(show False from r).elim
 |some u=>exact#[u,rfl,r]
def gg.none_of(r:gg J o):o=J:=by
 cases o with
 |none=>rfl
 |some u=>exact(show False from r).elim
def WM(r:jI v u):PySem.W.handedIn u=B:=by
 cases v with
 |non=>cases(show u=Value.none from r);rfl
 |bl b=>cases(show u=Value.bool b from r);rfl
 |int i=>let q t e:=(show∃t,u=Value.int i t from r);subst e;rfl
 |str x=>let q t e:=(show∃t,u=Value.str x t from r);subst e;rfl
 |byt b=>let q t e:=(show∃t,u=Value.bytes b t from r);subst e;rfl
 |flt b=>let q t e:=(show∃t,u=Value.float b t from r);subst e;rfl
 |ref a=>cases(show u=Value.ref a from r);rfl
 |ty n=>cases(show u=Value.type n from r);rfl
def w_(g:yv P w H h)(e:H a=S (.ins C i c)):∃b,ObjM h a i C b/\(∀f,gg (c.lookup f) (b f))/\PySem.Within b (c.map (·.1))/\c.length<=1000/\H i=S (.own a):=by
 let yY d z k j y15:=show JB P w H h a _ from g a _ e;let jw b n r q:=y15;exact#[b,#[j,n,k],r,q,z,d]
structure Cls (K ) (C ) where
 pg:PySem.W.plainGet K C Str.empty=B
 hd:PySem.W.hasDictIn K C=B
 po:PySem.W.plainOver K C=B
 sa:PySem.W.findIn K (.ref C) "__setattr__" = S Sf
def Cls.get{K}{C}(c:Cls K C)(f ):PySem.W.plainGet K C f=B:=c.pg
abbrev yP(K:uXa)(C )(f ):=PySem.W.findIn K (.ref C) f=S J
def yP.taker{K}{C}{f}(n:yP K C f):PySem.W.takerIn K C f=S J:=by
 unfold PySem.W.takerIn;rw[show PySem.W.findIn K _ f=S _ from n];rfl
structure Meth (K ) (C ) (m ) (f ) where
 at_:PySem.W.findIn K (.ref C) m=S (S (.ref f))
 fn:PySem.W.isFn K (.ref f)=B
 kp:PySem.W.keepIn K (.ref f)=B
def Af(I:Inv X d m H s)(e:H a=S (.ins C p k))(c:Cls X.K C)(n:yP X.K C f)(l:k.lookup f=S v)
  (h:∀u i,Inv X d m H i->jI v u->Q u i):wpAny Sz A (getAttr (.ref a) f b) Q E s:=by
 let J3 o O r _ _ _:=w_ I.hok e;let ja u j g:=gg.some_of (by rw[<-l];exact r f);exact EC I.kIn O (c.get f) c.hd n j (WM g) (h u _ (I.tok _) g)
def wh(I:Inv X b n H s)(e:H a=S (.ins C o f))(c:Cls X.K C)(k:Meth X.K C m g)(l:f.lookup m=J)
  (h:Q (.ref g,[.ref a]) s):wpAny Sz A (getMethod (.ref a) m j) Q E s:=by
 let J3 i O r _ _ _:=w_ I.hok e;have d:=gg.none_of (by rw[<-l];exact r m);exact c_ I.kIn O (c.get m) k.at_ k.fn d h
def Ag(I:Inv X i t H s)(e:H a=S (.ins C l d))(c:Cls X.K C)(n:yP X.K C f)(W:d.length<1000)(P:jI y u)
  (h:∀p,Inv X i t (upd H a (.ins C l (yw f y d))) p->Q () p):wpAny Sz A (setAttr (.ref a) f u) Q E s:=by
 let J3 w O r k _ m:=w_ I.hok e;have F:(d.map (·.1)).length<=sizeLine:=by rw[vYa,sizeLine_eq];lia
 refine ED I.kIn O c.sa c.po n.taker c.hd k F λM j x=>h _ ?_;have R:∃o,M.get? l=S o:=let⟨o,_,_,T,_⟩:=j.ns;#[o,T]
 refine I.write (by rw[e];exact True.intro) (.inr m) (λb q v z=>(x.2 b v).trans z) R ?_;refine#[by rw[jp O.ne];exact m,?_,O.ne,j.obj,_,j.ns,λg=>?_,λg N=>?_]
 ·have:=Kh f y d;lia
 ·rw[Kg];by_cases q:g=f
  ·rw[if_pos q,if_pos q];exact P
  ·simp_all
 ·by_cases q:g=f
  ·rw[q];exact(GJ f y d).1
  ·refine(GJ f y d).2 g (k g λz=>N ?_);show(if g=f then S u else w g)=J;rw[if_neg q];exact z
def Inv.made(I:Inv X a k H s):Inv X a k (upd (upd H s.heap.objs.size (.own (s.heap.objs.size+1))) (s.heap.objs.size+1) (.ins C s.heap.objs.size []))
  {s with heap:=(s.heap.push PySem.W.emptyDict).push (PySem.W.instObj C s.heap.objs.size)}:=by
 have c:(s.heap.push PySem.W.emptyDict).get? _=S _:=wJa _ rfl;have h:((s.heap.push PySem.W.emptyDict).push (PySem.W.instObj C s.heap.objs.size)).get? (s.heap.objs.size+1)=S (PySem.W.instObj C s.heap.objs.size):=by
  have:=wJa (s.heap.push PySem.W.emptyDict) (o:=PySem.W.instObj C s.heap.objs.size) rfl;rwa [Heap.size_push]at this
 have i:(s.heap.push _).Ns _ (λ_=>J):=#[_,_,_,c,rfl,(λe j=>vDa j Sx),λ_=>rfl]
 have f:=I.laid (o:=.own (s.heap.objs.size+1)) (t':=s.toks) (λb u q=>wIa _ q) (wPa _) #[_,c];refine f.laid (λb u q=>wIa _ q) (Nat.le_of_eq (Heap.size_push _ _)) ?_;have d:s.heap.objs.size≠s.heap.objs.size+1:=wTa (Nat.lt_succ_self _);refine#[by rw[jp d,jz],Nat.zero_le _,d,h,λ_=>J,(Heap.Ns1.of_empty i).at λo q=>wIa _ q,λ_=>True.intro,λy g=>vDa rfl g]
def zc(g:attributeBase e f a (eval e a)=eval e a)
  (h:wpAny (model b w) A (eval e a) (λo c=>wpAny (model b w) A (getAttr o f B) Q E c) E s):wpAny (model b w) A (eval (.Attribute e f d) a) Q E s:=
 Attribute_any_ h (by rw[arm_eval_Attribute,g])
abbrev HX(K:uXa)(g:TE)(f:Str):TE:=λe H Q=>g e H λx c=>∃a C d b v,x=.ref a/\c a=S (.ins C d b)/\Cls K C/\yP K C f/\b.lookup f=S v/\Q v c
abbrev Ah(K:uXa)(h g:TE)(f:Str):TS:=λD b H=>g b H λy i=>h b i λx d=>∃a C e c,x=.ref a/\d a=S (.ins C e c)/\Cls K C/\yP K C f/\c.length<1000/\
 D.nx b (upd d a (.ins C e (yw f y c)))
def bS(t:PE X e p)(z:attributeBase e f X.env (eval e X.env)=eval e X.env):PE X (.Attribute e f m) (HX X.K p f):=by
 intro b s y H Q I h;refine zc z (jM (t _ s y H _ I h) λu A o=>?_);let jc x r k w z15:=o;let Jw a C M F v g j c n h15:=z15;let q l q:=h15;subst g;obtain rfl:u=Value.ref a:=w;exact Af k j c n l λN O i d=>#[v,r,i,d,q]
def Q9(v:PE X o p)(t:PE X b R)(r:swapsWith b (S (.Attribute o f d)) g.line X.env=pure G):PS X (.Assign [.Attribute o f d] b g) (Ah X.K p R f):=by
 intro i s e H D I h;refine plainObj_wpAny_Assign_Attribute (jM (t _ s e H _ I h) λu Q ⟨y,m,P,F,q⟩=>jM (v _ Q e m _ P q) λA W N=>?_) r;let jc x T k j u16:=N;let Y8 a C Z fs rfl w c n l z:=u16;obtain rfl:A=Value.ref a:=j;exact Ag k w c n l F λs3 O=>#[e,_,O,z]
structure Room (k ) (A:Around) where
 hd:A.handled=J
 dp:A.depth+3*k+5<recursionLimit
 un:A.units+16*k+200<cLine
def Room.mono(r:Room k A)(h:j<=k):Room j A:=#[r.hd,by have:=r.dp;lia,by have:=r.un;lia]
def Room.deeper{A}(r:Room (k+1) A)(a ):Room k (A.deeper a):=
 #[r.hd,by have:=r.dp;show A.depth+1+3*k+5<_;lia,by have:=r.un;show A.units+3+16*k+200<_;lia]
def Ai{A:Around}:(A.under (.builtin "type.__call__" #[.ref C::a,b])).depth=A.depth+1:=by
 first|rfl|simp[guardIds]
def Aj{A:Around}:(A.under (.builtin "type.__call__" #[.ref C::a,b])).units=A.units+1:=rfl
def Room.make(r:Room (k+1) A)(C )(a )(b ):Room k (A.under (.builtin "type.__call__" #[.ref C::a,b])):=
 #[r.hd,by have:=r.dp;rw[Ai];lia,by have:=r.un;rw[Aj];lia]
def Room.depth(r:Room k A):A.depth<recursionLimit:=by have:=r.dp;lia
def Room.units(r:Room k A):A.units+64<cLine:=by have:=r.un;lia
abbrev gk:TA:=λ_ H Q=>Q [] H
abbrev ZG(f:TE)(e:TA):TA:=λa H Q=>f a H λx c=>e a c λd b=>Q (x::d) b
section
variable{X:Cx}{e:Expr}{es:L Expr}{te:TE}{t:TA}{pos:Pos}
def Yt:PA X [] gk:=λ_ _ _ _ H Q I h=>Calls.spliced_nil #[[],H,I,.nil,h]
def JT(o:PE X e te)(m:PA X es t)(j:starEach (e::es) X.env=(G,eval e X.env)::starEach es X.env:=by rfl):PA X (e::es) (ZG te t):=by
 intro pos a s b H Q I h;rw[j];show wpAny _ _ (spliced ((G,eval e _)::backTo _ _)) _ _ s;refine Calls.spliced_cons (jM (o _ s b H _ I h) λu n k=>?_);let jc x l g f i:=k;exact jM (m _ _ n b l _ g i) λy v ⟨w,r,d,p,c⟩=>#[_,r,d,.cons f p,c]
abbrev NZ(t:TA):TE:=λc H Q=>t c H λa b=>a.length<=sizeLine/\∀p,b p=J->Q (.ref p) (upd b p (.tup a))
abbrev N_(t:TA):TE:=λc H Q=>t c H λa b=>a.length<=sizeLine/\∀p,b p=J->Q (.ref p) (upd b p (.lst a))
def HY(h:PA X es t):PE X (.Tuple es j pos) (NZ t):=by
 intro a s g H Q I i;refine wpAny_Tuple_spliced (jM (h _ _ s g H _ I i) λd m ⟨k,l,c,r,z,q⟩=>#[by rw[<-r.length];exact z,?_]);have f:=c.hok.fresh (wPa _);refine#[.ref _,_,c.laid (λb u e=>wIa _ e) (wPa _) ?_,rfl,q _ f];exact#[z,d,r,#[_,wJa _ rfl,rfl,_,rfl]]
def HZ(h:PA X es t):PE X (.List es pos) (N_ t):=by
 intro c s i H Q I d;refine wpAny_List_spliced (jM (h _ _ s i H _ I d) λf j ⟨l,k,a,r,z,q⟩=>#[by rw[<-r.length];exact z,?_]);have g:=a.hok.fresh (wPa _);refine#[.ref _,_,a.laid (λb u e=>wIa _ e) (wPa _) ?_,rfl,q _ g];exact#[z,f,0,r,wJa _ rfl]
end
noncomputable abbrev Sp:=L V->Hp->VK->XK->Prop
noncomputable abbrev Qa:=L Env->Hp->Shared->XK->Value->Shared->Prop
structure Env0 (P ) (w ) (K ) (mg ) (base ) (A:Around) (outer ) (s:Shared) (H:Hp) where
 frames:A.frames=S outer
 mod:Mod K mg base
 bs:∀b o,base.get? b=S o->s.heap.get? b=S o/\H b=J
 bsz:base.objs.size<=s.heap.objs.size
 funs:s.heap.FunFrames base outer
 frf:∀b∈ym outer,H b=J
 hok:yv P w H s.heap
 bare:AllBare s.gens
abbrev CE(a:L _)(P:Program)(w:World)(H )(s:Shared)(Q:VK)(u:Value)(b:Shared):=
 ∃v c,b.os=s.os/\AllBare b.gens/\Un (ym a) [] H c s.heap b.heap/\yv P w c b.heap/\jI v u/\Q v c
abbrev CR(c:Qa)(a:L _)(P:Program)(w:World)(H )(s:Shared)(Q )(E )(r:Result)(b:Shared):=
 match r with
 |.ok (.ret u)=>CE a P w H s Q u b
 |.ok _=>False
 |.error e=>c a H s E e b
structure FnOk (P ) (w ) (K ) (mg ) (base ) (CX ) (k ) (f ) (fd ) (ps:L _) (sp:Sp) where
 len:∀vs H Q E,sp vs H Q E->vs.length=ps.length
 run:∀(A ) (outer ) (s ) (H ) (args ) (us ) (vs ) (Q ) (E ),Room k A->Env0 P w K mg base A outer s H->BindsTo s fd args (ps.zip us)->jB vs us->sp vs H Q E->
  codeAny (model P w) A (.call (.ref f) args) (CR CX outer P w H s Q E) s
def FnOk.imp{K}{e}{a}{g}{k}{f}{m}{l}{i c}(F:FnOk P w K e a g k f m l i)
  (h:∀b H Q E,c b H Q E->i b H Q E):FnOk P w K e a g k f m l c:=
 #[λb H Q E q=>F.len b H Q E (h _ _ _ _ q),λA d s H j o b Q E n p u t r=>F.run A _ s H _ o b Q E n p u t (h _ _ _ _ r)]
def Env0.make{K}{c}{b}{A}{a}{s}{H}(e:Env0 P w K c b A a s H)(C )(d )(f ):
  Env0 P w K c b (A.under (.builtin "type.__call__" #[.ref C::d,f])) a s H:=#[by first|exact e.frames|(simpa[Around.under,Code.envs,Code.isFrame,pushEnvs]using e.frames),e.mod,e.bs,e.bsz,e.funs,e.frf,e.hok,e.bare]
section
variable{X:Cx}{pins:Tq}{U:St}{H:Hp}{s s':Shared}
def Inv.env0(I:Inv X pins U H s):Env0 X.prog X.w X.K X.mg X.base X.A X.stack s H:=
 #[I.ok.frames,I.ok.mod,I.bs,wSa I.ok.bsz I.sz,I.stack,I.stkFree,I.hok,I.bare]
def Inv.after(I:Inv X pins U H s)(h:CE X.stack X.prog X.w H s Q u s'):EP X pins U Q u s':=by
 let YH v i os a f c r q:=h;let q j g d t e:=s';obtain rfl:e=s.os:=os;exact#[v,i,I.call f c a (λb z=>vDa z Sx),r,q]
end
abbrev Ak(e:Sp)(a:L V)(E:XK)(t:TA):TE:=λd H Q=>t d H λb c=>e (b++a) c Q E
abbrev wj(C:Addr)(m:Str)(f:Sp)(b:L V)(E:XK)(h:TE)(t:TA):TE:=λe H Q=>h e H λx c=>∃a g d,x=.ref a/\c a=S (.ins C g d)/\d.lookup m=J/\
 t e c λi j=>f (x::(i++b)) j Q E
abbrev Am(C:Addr)(g:Sp)(c:L V)(E:XK)(t:TA):TE:=λe H Q=>t e H λd b=>∀x a,b x=J->b a=J->a≠x->
 g (.ref x::(d++c)) (upd (upd b a (.own x)) x (.ins C a [])) (λv f=>v=.non/\Q (.ref x) f) E
abbrev JP(K:uXa)(d:FuncData)(b:L _)(c:L _):=
 ∀(s ) (a ),K.In s.heap->(a++c).length=b.length->BindsTo s d #[a,[]] (b.zip (a++c))
def JP.all{K}{c}{b}(h:∀a ,a.length=b.length->bindArgs c #[a,[]]=pure (b.zip a)):JP K c b []:=λs a _ d=>by
 rw[uFa]at d⊢;exact .of_eq (h a d)
abbrev Yu(d:Qa)(X )(E ):=∀(a ) (c:St) (H ) (s ) (e ) (b ),Inv X a c H s->d X.stack H s E e b->X.xe e b
section
variable{X:Cx}{CX:Qa}{k:Nat}{f C:Addr}{fd:FuncData}{ps:L Str}{sp:Sp}{dvs:L V}{ds:L Value}{E:XK}{x m:Str}{p pos apos:Pos}{e o:Expr}{es:L Expr}{ta:TE}{t:TA}
theorem Qc(F:FnOk X.prog X.w X.K X.mg X.base CX k f fd ps sp)(j:Room k X.A)(i:JP X.K fd ps ds)(v:jB dvs ds)(y:Yu CX X E)
  (I:Inv X a g H s) (r:jB vs c) (h:sp (vs++dvs) H Q E):wpAny Sz X.A (call (.ref f) c) (EP X a g Q) X.xe s:=by
 have d:=r.append v;have n:(c++ds).length=ps.length:=by rw[<-d.length];exact F.len _ _ _ _ h
 refine wHa (codeAny_mono (F.run _ _ s H _ _ _ Q E j I.env0 (i s c I.kIn n) d h) λr l b=>?_);cases r with
 |error e=>exact y _ g H s e l I b
 |ok w=>
  cases w with
  |ret u=>exact I.after b
  |next=>exact False.elim b
  |brk=>exact False.elim b
  |cont=>exact False.elim b
def W3(F:FnOk X.prog X.w X.K X.mg X.base CX k f fd ps sp)(i:Room k X.A)(z:Gl X x)(w:X.mg x=S (.ref f))(n:PySem.W.keepIn X.K (.ref f)=B)(v:JP X.K fd ps ds)(l:jB dvs ds)(j:Yu CX X E)
  (u:PA X (e::es) t) (b:Su=G:=by decide) (y:starEach (e::es) X.env=(G,eval e X.env)::starEach es X.env:=by rfl) (a:(backTo pos (starEach es X.env)).any (·.1)=G:=by rfl):
  PE X (.Call (.Name x p) (e::es) [] pos) (Ak sp dvs E t):=by
 intro c s g H Q I h;refine wpAny_Call_Name_kw (ZB I z w ?_ b);refine PySem.W.callWith_K I.ok.mod.kin n (jM (u _ _ s g H _ I h) λO A ⟨M,N,d,r,q⟩=>#[d.kIn,?_]) y a;exact Qc F i v l j d r q
def W6(he:PE X o ta)(c:Cls X.K C)(j:Meth X.K C m f)(F:FnOk X.prog X.w X.K X.mg X.base CX k f fd ps sp)(N:Room k X.A)(P:JP X.K fd ps ds)(R:jB dvs ds)(z:Yu CX X E)(A:PA X (e::es) t)
  (g:starEach (e::es) X.env=(G,eval e X.env)::starEach es X.env:=by rfl) (d:(backTo pos (starEach es X.env)).any (·.1)=G:=by rfl)
  (ht:eval (.Call (.Attribute o m apos) (e::es) [] pos) X.env=(do
   let i<-eval o X.env
   standAt apos.atName
   let(f,b)<-holding [i] (getMethod i m pl)
   callWith pos f b (backTo pos (starEach (e::es) X.env)) (backToKw pos (keywordEach [] X.env))):=by rfl):
  PE X (.Call (.Attribute o m apos) (e::es) [] pos) (wj C m sp dvs E ta t):=by
 intro y s n H Q I h;refine PySem.W.methodCall_KW (jM (he _ s n H _ I h) λu T xx=>?_) ht;let jc x H1 w M mB:=xx;let jL a dx fs rfl Z l q:=mB;obtain rfl:u=Value.ref a:=M;refine wh w Z c j l ?_;refine PySem.W.callWith_K I.ok.mod.kin j.kp (jM (A _ _ T n H1 _ w q) λus s2 ⟨vs,H2,v,r,O⟩=>#[v.kIn,?_]) g d;exact Qc (vs:=.ref a::vs) F N P R z v (.cons rfl r) O
def Qd(P:PE X o ta)(c:Cls X.K C)(i:Meth X.K C m f)(F:FnOk X.prog X.w X.K X.mg X.base CX k f fd ps sp)(n:Room k X.A)(y:JP X.K fd ps ds)(w:jB dvs ds)(O:Yu CX X E)
  (z:eval (.Call (.Attribute o m apos) [] [] pos) X.env=(do
   let j<-eval o X.env
   standAt apos.atName
   let(f,b)<-holding [j] (getMethod j m W)
   callWith pos f b (backTo pos (starEach [] X.env)) (backToKw pos (keywordEach [] X.env))):=by rfl):
  PE X (.Call (.Attribute o m apos) [] [] pos) (wj C m sp dvs E ta gk):=by
 intro g s r H Q I h;refine PySem.W.methodCall_KW (jM (P _ s r H _ I h) λu s1 N=>?_) z;let jc x R d v u17:=N;let jL a Z T rfl M l q:=u17;obtain rfl:u=Value.ref a:=v;refine wh d M c i l ?_;exact PySem.W.callWith_K0 d.kIn i.kp (Qc (vs:=[.ref a]) F n y w O d (.cons rfl .nil) q)
structure Mk (K ) (C f ) where
 makes:PySem.W.makesIn K C=B
 init:PySem.W.findIn K (.ref C) "__init__" = S (S (.ref f))
 fn:PySem.W.isFn K (.ref f)=B
 kp:PySem.W.keepIn K (.ref C)=B
theorem C1(M:Mk X.K C f)(F:FnOk X.prog X.w X.K X.mg X.base CX k f fd ps sp)(hr:Room (k+1) X.A)(y:JP X.K fd ps ds)(w:jB dvs ds)
  (A:Yu CX X E) (I:Inv X b j H s) (r:jB n c)
  (h:∀x g,H x=J->H g=J->g≠x->sp (.ref x::(n++dvs)) (upd (upd H g (.own x)) x (.ins C g [])) (λv z=>v=.non/\Q (.ref x) z) E):
  wpAny Sz X.A (call (.ref C) c) (EP X b j Q) X.xe s:=by
 have i:=h _ _ (I.hok.fresh (vMa _)) (I.hok.fresh (wPa _)) (wTa (Nat.lt_succ_self _));have d:=Inv.made (C:=C) I;have l:jB (V.ref (s.heap.objs.size+1)::(n++dvs)) _:=.cons rfl (r.append w);have R:(Value.ref (s.heap.objs.size+1)::c++ds).length=ps.length:=by
  have e:=l.length;rw[F.len _ _ _ _ i]at e;exact e.symm
 refine wHa (C0 I.kIn M.makes M.init (beq_iff_eq.mp M.fn) (codeAny_mono (F.run _ _ _ _ _ _ _ _ E (hr.make C c [])
  (d.env0.make C c []) (y _ _ d.kIn R) l i) λr s' a=>?_))
 cases r with
 |error e=>exact A _ j _ _ e s' d a
 |ok W=>
  cases W with
  |ret u=>
   let JK v T P O rfl Z:=d.after a;exact#[O,#[V.ref _,T,P,rfl,Z]]
  |next=>exact False.elim a
  |brk=>exact False.elim a
  |cont=>exact False.elim a
def XR(M:Mk X.K C f)(F:FnOk X.prog X.w X.K X.mg X.base CX k f fd ps sp)(i:Room (k+1) X.A)(y:Gl X x)(j:X.mg x=S (.ref C))(v:JP X.K fd ps ds)(l:jB dvs ds)(n:Yu CX X E)
  (u:PA X (e::es) t) (b:Su=G:=by decide) (w:starEach (e::es) X.env=(G,eval e X.env)::starEach es X.env:=by rfl) (a:(backTo pos (starEach es X.env)).any (·.1)=G:=by rfl):
  PE X (.Call (.Name x p) (e::es) [] pos) (Am C sp dvs E t):=by
 intro c s g H Q I h;refine wpAny_Call_Name_kw (ZB I y j ?_ b);refine PySem.W.callWith_K I.ok.mod.kin M.kp (jM (u _ _ s g H _ I h) λN z ⟨A,O,d,r,q⟩=>#[d.kIn,?_]) w a;exact C1 M F i v l n d r q
end
structure FnScope (N P:L _) (sc:Scope) where
 kind:sc.kind=.function
 co:sc.isCoroutine=G
 gen:sc.isGenerator=G
 nd:N.Nodup
 pre:N.take P.length=P
 par:∀x∈P,sc.names.lookup x=S .local\/sc.names.lookup x=S .cell
 nofree:∀y∈sc.names,y.2≠.free
theorem WN{kindOf}{x}:∀{a} {m},(∀v,(x,v)∉a)->bindL kindOf a m x=m x
 |[],_,_=>rfl
 |(n,v)::r,m,h=>by
  unfold bindL;rw[WN λw b=>h w (List.mem_cons_of_mem _ b)];split
  ·have:x≠n:=by rintro rfl;exact h v wNa
   simp[this]
  ·rfl
theorem WO{kindOf}{x}:∀{a} {m},(∀v,(x,v)∉a)->bindC kindOf a m x=m x
 |[],_,_=>rfl
 |(n,v)::r,m,h=>by
  unfold bindC;rw[WO λw b=>h w (List.mem_cons_of_mem _ b)];split
  ·rfl
  ·have:x≠n:=by rintro rfl;exact h v wNa
   simp[this]
theorem WP{kindOf}{x}{v}:∀{P:L _} {a}{i:Nat} {m},P.Nodup->P[i]?=S x->a[i]?=S v->kindOf x=S .local->
  bindL kindOf (P.zip a) m x=S v
 |[],_,_,_,_,h,_,_=>Zn h
 |_::_,[],_,_,_,_,h,_=>Zn h
 |p::P,w::a,0,m,d,c,b,e=>by
  simp at c b;subst c;subst b;show bindL _ ((p,w)::P.zip a) m p=_;unfold bindL;rw[WN λv f=>(List.nodup_cons.mp d).1 (List.of_mem_zip f).1,if_pos e];simp
 |p::P,w::a,i+1,m,d,c,b,e=>by
  unfold bindL;exact WP (List.nodup_cons.mp d).2 (by simpa using c) (by simpa using b) e
theorem WQ{kindOf}{x}{v}:∀{P:L _} {a}{i:Nat} {m},P.Nodup->P[i]?=S x->a[i]?=S v->kindOf x≠S .local->
  bindC kindOf (P.zip a) m x=S v
 |[],_,_,_,_,h,_,_=>Zn h
 |_::_,[],_,_,_,_,h,_=>Zn h
 |p::P,w::a,0,m,d,c,b,e=>by
  simp at c b;subst c;subst b;show bindC _ ((p,w)::P.zip a) m p=_;unfold bindC;rw[WO λv f=>(List.nodup_cons.mp d).1 (List.of_mem_zip f).1,if_neg e];simp
 |p::P,w::a,i+1,m,d,c,b,e=>by
  unfold bindC;exact WQ (List.nodup_cons.mp d).2 (by simpa using c) (by simpa using b) e
abbrev zR(N:L Str)(a:L V):St:=a.map some++List.replicate (N.length-a.length) J
abbrev yl(CX:Qa)(P:Program)(w:World)(K:uXa)(j:Tj)(d:Heap)(N:L Str)(b:Str)(a:Scope)(f:Addr)(g:Value)(A:Around)(outer:L Env)(s:Shared)(H:Hp)(E:XK):Cx where
 prog:=P
 w:=w
 K:=K
 mg:=j
 base:=d
 A:=A.deeper (envOfC b a s.heap.objs.size f g)
 N:=N
 s₀:=s
 H₀:=H
 env:=envOfC b a s.heap.objs.size f g
 outer:=outer
 stack:=envOfC b a s.heap.objs.size f g::outer
 ex:=[]
 calm:=B
 fn:=λ_=>B
 pn:=[]
 xe:=λe h=>wpAny (model P w) (A.deeper (envOfC b a s.heap.objs.size f g)) (leaving (envOfC b a s.heap.objs.size f g) e) (λ_ c=>CX outer H s E e c) (λi c=>CX outer H s E i c) h
def Qe{a:Scope}(h:a.names.lookup x=S .cell):∃c,(cellsFrom n a.names []).lookup x=S c:=by
 have q:=PySem.W.cellsFrom_some _ n [] (.inl h);exact Option.isSome_iff_exists.mp q
def WR{P}{w}{K}{T}{m}{N C}{j}{d}{f}{O}{A}{g}{s X}{H}{E}{W}{t}
  (SQ:FnScope N C d) (hd:A.handled=J) (n:Env0 P w K T m A g s H) (hl:t.length=C.length) (r:jB t W)
  (x:InCallC s s.heap.objs.size (bindL (envOfC j d s.heap.objs.size f O).kindOf (C.zip W) λ_=>J) (cellsFrom (s.heap.objs.size+1) d.names []) (bindC (envOfC j d s.heap.objs.size f O).kindOf (C.zip W) λ_=>J) X):
  Inv (yl CX P w K T m N j d f O A g s H E) [] (zR N t) H X:=by
 have hpl:C.length<=N.length:=by have:=congrArg List.length SQ.pre;rw[uOa]at this;lia
 let jW R tk rfl hk:=x.done;have o:∀b ,b∉(yl CX P w K T m N j d f O A g s H E).ex:=λb z=>vDa (show b∈([]) from z) Sx;refine#[#[n.mod,SQ.kind,rfl,rfl,wPa _,λy z c R l=>?_,λy I=>?_,λy c _ h=>?_,λ_=>hd,Around.frames_deeper n.frames,.inr #[rfl,rfl],λb z=>vDa z (o b),n.bs,n.bsz,λb _ _=>o b,λb z=>vDa z (o b),n.funs,n.frf],
  rfl,n.bare,Un.kept hk,#[_,x.toInCall.ns,λi y v R l h3=>?_],λy c h=>#[_,x.cell y c h],n.hok.fresh (wPa _),λy c h=>?_,λp M=>vDa (show p∈([]) from M) Sx,n.hok.kept hk,?_]
 ·exact name_of_addr x.apart (PySem.mem_of_lookup R) (PySem.mem_of_lookup l)
 ·rcases I with I|I
  ·exact Qe I
  ·exact vDa rfl (SQ.nofree _ (PySem.mem_of_lookup I))
 ·exact wQa (x.above y c (PySem.mem_of_lookup h))
 ·have Q:i<t.length:=by
   unfold zR at l;by_cases Q:i<t.length
   ·exact Q
   ·rw[List.getElem?_append_right (by simpa using Q)]at l;rw[List.getElem?_replicate]at l;split at l<;>cases l
  have ha:t[i]?=S v:=by
   unfold zR at l;rw[uRa (by simpa using Q),uAa]at l;cases e:t[i]? with
   |none=>rw[e]at l;exact Zn l
   |some a=>rw[e]at l;cases l;rfl
  let ja u Z rv:=r.get ha;have M:C[i]?=S y:=by
   rw[<-SQ.pre,List.getElem?_take_of_lt (by lia)];exact R
  have F:C.Nodup:=by rw[<-SQ.pre];exact SQ.nd.sublist (List.take_sublist _ _)
  refine#[u,rv,?_];rcases SQ.par y (wYa M)with k|k
  ·exact .inl #[k,WP F M Z k]
  ·let q c e:=Qe k;refine .inr #[.inl k,c,e,?_];have q:=x.cell y c e;rw[WQ F M Z (by show d.names.lookup y≠_;rw[k];decide)]at q;exact q
 ·exact n.hok.fresh (wQa (x.above y c (PySem.mem_of_lookup h)))
 ·unfold zR;show _=N.length;rw[vZa,vYa,List.length_replicate]
  lia
theorem An{P}{w}{K}{Z}{j}{k}{f}{m c}{g}{i}{a}{dV kV O pm h ct oc}{an od}
  {osl} {N ps} {sp} (lk:K.lookup f=S #[oc,od,.func (PySem.W.fnOf m c g i a dV kV O pm an h ct),osl]) (hcd:PySem.W.codeIn K h c=B) (SQ:FnScope N ps a)
  (R:∀C H Q E,sp C H Q E->C.length=ps.length)
  (F:∀(A ) (d ) (s ) (H ) (C ) (Q ) (E ),Room k (A.deeper (envOfC c a s.heap.objs.size f h))->sp C H Q E->
   ∃t,Jx (yl CX P w K Z j N c a f h A d s H E) i t/\t {nx:=λ_ p=>Q .non p,rt:=Q} (zR N C) H):
  FnOk P w K Z j CX (k+1) f (PySem.W.fnOf m c g i a dV kV O pm an h ct) ps sp:=by
 refine#[R,λA d s H args us C Q E hr X hb r W=>?_];have hl:=R _ _ _ _ W;have KX:=X.mod.kin.keeps λb o e=>(X.bs b o e).1;have lim:=X.mod.nolimit.keeps λb o e=>(X.bs b o e).1;have z:∀y∈ps.zip us,a.names.lookup y.1=S _\/(a.names.lookup y.1=S _/\((cellsFrom (s.heap.objs.size+1) _ []).lookup y.1).isSome=B):=λ⟨n,v⟩ hy=>by
  rcases SQ.par n (List.of_mem_zip hy).1 with q|q
  ·exact .inl q
  ·exact .inr #[q,PySem.W.cellsFrom_some _ _ _ (.inl q)]
 refine codeAny_call_function hr.depth (KX _ _ lk) rfl SQ.co SQ.gen rfl (PySem.W.codeRec_of KX hcd) (hb _ _ _ _ ?_);refine wpAny_newFunctionEnv_cells SQ.kind z λenv he s1 x=>?_;subst he;refine#[lim.keeps x.toInCall.keep,codeAny_func ?_];let q t ht hq:=F A _ s H C Q E (hr.deeper _) W;have I:Inv (yl CX P w K Z _ N _ _ f _ A _ s H E) [] _ H s1:=WR SQ hr.hd X hl r x;refine wCa (ht [] s1 _ H _ I hq) (λfl s' M=>?_) λe s' M=>M;have T:∀{l} {p} {v} {u},Inv (yl CX P w K Z j N c a f h A d s H E) [] l p s'->jI v u->Q v p->CE _ P w H s Q u s':=
  λ{l p v u} J00 rv q=>#[v,p,J00.os,J00.bare,J00.base,J00.hok,rv,q]
 cases fl with
 |ret u=>
  let q v l p J00 rv q:=M;exact T J00 rv q
 |next=>
  let q l p J00 q:=M;exact T (v:=V.non) J00 rfl q
 |brk=>
  let q _ _ _ q:=M;exact False.elim q
 |cont=>
  let q _ _ _ q:=M;exact False.elim q
section
variable{X:Cx}{x:Str}{p pos:Pos}{e:Expr}{es:L Expr}{t:TA}{id T:String}{r:L V->Hp->VK->Prop}
abbrev bT(r:L V->Hp->VK->Prop)(t:TA):TE:=λc H Q=>t c H λa b=>r a b Q
def Zq(i:zQ X (.builtin id) r)(z:Gl X x)(m:X.mg x=J)(f:bootBuiltins x=S (.builtin id))(k:PA X (e::es) t)(o:x≠ "__name__":= by decide)(a:Su=G:=by decide)
  (y:starEach (e::es) X.env=(G,eval e X.env)::starEach es X.env:=by rfl) (b:(backTo pos (starEach es X.env)).any (·.1)=G:=by rfl):PE X (.Call (.Name x p) (e::es) [] pos) (bT r t):=by
 intro c s d H Q I h;refine wpAny_Call_Name_kw (Ux I z m f ?_ o a);exact PyProof.Rows.callWith_builtin1 (jM (k _ _ s d H _ I h) λj l ⟨w,n,v,u,g⟩=>i _ l d n w j Q v u g) y b
def uL(i:zQ X (.type T) r)(z:Gl X x)(m:X.mg x=J)(f:bootBuiltins x=S (.type T))(k:PA X (e::es) t)(o:x≠ "__name__":= by decide)(a:Su=G:=by decide)
  (y:starEach (e::es) X.env=(G,eval e X.env)::starEach es X.env:=by rfl) (b:(backTo pos (starEach es X.env)).any (·.1)=G:=by rfl):PE X (.Call (.Name x p) (e::es) [] pos) (bT r t):=by
 intro c s d H Q I h;refine wpAny_Call_Name_kw (Ux I z m f ?_ o a);exact PyProof.Rows.callWith_type1 (jM (k _ _ s d H _ I h) λj l ⟨w,n,v,u,g⟩=>i _ l d n w j Q v u g) y b
end
end L2
namespace HT
section
open PySem.SeqAt
open PySem.AutoSeq1 (wpAny_loadPart')
open PySem.MeetsSeq PySem.MeetsSeq2 PySem.MeetsSeq3
end
section
variable{prog:Program}{w:World}{A:Around}{E:Tz}{s:Shared}
def cat_tup(H:IsTup s.heap t d.toArray)(C:IsTup s.heap b a.toArray)(y:d≠[])
  (F:a=[]->Q (.ref t) s) (I:a≠[]->Q (.ref s.heap.objs.size) {s with heap:=s.heap.push {cls:=.type "tuple",data:=.seq (d++a).toArray} })
  (l:d.length+a.length<=sizeLine):wpAny Sr A (binaryOp .Add (.ref t) (.ref b)) Q E s:=by
 let Yn y17 k p n r:=id H;let q z m x v:=y17;let Yn z17 c f u i:=id C;let q o h data2 g:=z17;simp only at p r f i;subst p r f i;have e:d.toArray++a.toArray=(d++a).toArray:=by simp
 by_cases j:a=[]
 ·exact concat_meets #[_,k,rfl] #[_,c,rfl] noFill_tuple_add seq_tuple_add PySem.F.slot_tuple_add PySem.F.entry_tuple_add (PySem.F.args_tuple_add_2 _ _)
   (tuple_addW1 t b d.toArray a.toArray n u m h v g (by simpa using y) (by simp[j])) #[k,c,F j]
 ·refine concat_meets #[_,k,rfl] #[_,c,rfl] noFill_tuple_add seq_tuple_add PySem.F.slot_tuple_add PySem.F.entry_tuple_add (PySem.F.args_tuple_add_2 _ _)
   (tuple_addW2 t b d.toArray a.toArray n u m h v g (by simpa using y) (by simpa using j) (by rw[List.size_toArray,List.size_toArray];exact l)) #[k,c,?_]
  rw[e];exact I j
def cat_tup0{k:L Value}(x:IsTup s.heap t ([]:L Value).toArray)(v:IsTup s.heap b k.toArray)(p:Q (.ref b) s):wpAny Sr A (binaryOp .Add (.ref t) (.ref b)) Q E s:=by
 let Yn h17 g i n j:=id x;let q r o h u:=h17;let Yn j17 a d m c:=id v;let q l f data2 e:=j17;simp only at i j d c;subst i j d c;exact concat_meets #[_,g,rfl] #[_,a,rfl] noFill_tuple_add seq_tuple_add PySem.F.slot_tuple_add PySem.F.entry_tuple_add (PySem.F.args_tuple_add_2 _ _)
  (tuple_addW0 t b _ k.toArray n m o f u e rfl) #[g,a,p]
abbrev sIx(n d:Nat):Y Int->Nat
 |none=>d
 |S v=>if v<0 then(v+(n:Int)).toNat else min v.toNat n
def sIx_nat(n d k:Nat):sIx n d (S (k:Int))=min k n:=by
 show(if(k:Int)<0 then((k:Int)+(n:Int)).toNat else min (k:Int).toNat n)=min k n;rw[if_neg (by lia),Int.toNat_natCast]
end
end HT
namespace L2
noncomputable abbrev TO:=St->Hp->(Y Int->Hp->Prop)->Prop
abbrev PO(X:Cx)(e:Y Expr)(t:TO):Prop:=
 ∀(a:Tq) (s:Shared) (b:St) (H:Hp) (Q:Y Int->Hp->Prop),Inv X a b H s->t b H Q->
  wpAny Sz X.A (evalPart e X.env) (λu d=>∃o c,Inv X a b c d/\IsPart u o/\Q o c) X.xe s
abbrev EE:TO:=λ_ H Q=>Q J H
abbrev M2(t:TE):TO:=λa H Q=>t a H λx b=>∃i,x=.int i/\Q (S i) b
section
variable{X:Cx}{e:Expr}{te:TE}{lo hi:Y Expr}{tl th:TO}{pos p2:Pos}
def EF:PO X J EE:=by
 intro a s b H Q I h;rw[evalPart_none];exact wBa #[J,H,I,.none,h]
def EG(h:PE X e te):PO X (S e) (M2 te):=by
 intro a s k H Q I b;rw[evalPart_some];refine jM (h a s k H _ I b) λu l g=>?_;let jc x c f d j:=g;let ja i rfl q:=j;let q t rfl:=d;exact#[S i,c,f,.int i t,q]
abbrev H_(X:Cx)(r:V->Y Int->Y Int->Hp->VK->Prop):Prop:=
 ∀(a:Tq) (s:Shared) (f:St) (H:Hp) (x:V) (v d c:Value) (lo hi:Y Int) (b:Addr) (Q:VK),Inv X a f H s->jI x v->s.heap.IsSliceOf b d c .none->IsPart d lo->IsPart c hi->r x lo hi H Q->
  ∃T id,typeLookup (.type T) "__getitem__" = pure (S (.builtin id))/\s.TypeIs v T/\wpAny Sz X.A (getItem v (.ref b)) (EP X a f Q) X.xe s
abbrev pd(r:V->Y Int->Y Int->Hp->VK->Prop)(te:TE)(tl th:TO):TE:=λa H Q=>te a H λx d=>tl a d λl b=>th a b λu c=>r x l u c Q
def Qf{r:V->Y Int->Y Int->Hp->VK->Prop}(w:H_ X r)(Z:PE X e te)(N:PO X lo tl)(hu:PO X hi th):PE X (.Subscript e (.Slice lo hi J p2) pos) (pd r te tl th):=by
 intro a s d H Q I h;refine Subscript_ (jM (Z a s d H _ I h) λv W i=>?_);let jc x o C y O:=i;refine wpAny_Slice (jM (N a W d o _ C O) λg M ⟨l,k,m,F,n⟩=>jM (hu a M d k _ m n) λf c i=>?_);let jc u j A p R:=i;rw[evalPart_none];refine wBa ?_;have t:Inv X a d j {c with heap:=c.heap.push {cls:=.type "slice",data:=.fields #v[g,f,.none]} }:=A.kept (t':=c.toks) λb ob q=>wIa _ q;let jc T id P z hg:=w a {c with heap:=c.heap.push {cls:=.type "slice",data:=.fields #v[g,f,.none]} } d j x v g f l u c.heap.objs.size Q t y (Heap.IsSliceOf.new ..) F p R;show wpAny Sz X.A (subscriptTail e (.Slice lo hi J p2) v (.ref c.heap.objs.size)) (EP X a d Q) X.xe {c with heap:=c.heap.push {cls:=.type "slice",data:=.fields #v[g,f,.none]} };exact tail_any (ops:=[.ref c.heap.objs.size,v]) z P hg (by with_unfolding_all rfl)
abbrev W7(a:L V)(lo hi:Y Int):L V:=(a.drop (HT.sIx a.length 0 lo)).take (HT.sIx a.length a.length hi-HT.sIx a.length 0 lo)
def Xw(a:L V)(lo hi:Y Int):(W7 a lo hi).length<=a.length:=by
 unfold W7;rw[uOa,uNa]
 lia
abbrev Ao(K:uXa):R2:=λx y H Q=>∃a b c d,x=.ref a/\y=.ref b/\yN K H a c/\yN K H b d/\c.length+d.length<=sizeLine/\
 (c=[]->Q (.ref b) H)/\(c≠[]->d=[]->Q (.ref a) H)/\(c≠[]->d≠[]->∀p,H p=J->Q (.ref p) (upd H p (.tup (c++d))))
def jB.nil_iff(r:jB b a):a=[]↔b=[]:=by
 cases r with
 |nil=>simp
 |cons _ _=>simp
def EH:Jh X (binaryOp .Add) (Ao X.K):=by
 intro m s M H x y v u Q I p o h;let Y8 a b j r rfl rfl t C k z18:=h;let Yk A g i:=z18;subst p;subst o;let jw F d n _:=I.tuple t;let jw l f p2 _:=I.tuple C;by_cases c:j=[]
 ·have e:=d.nil_iff.mpr c;subst e;exact HT.cat_tup0 n p2 #[.ref b,H,I,rfl,A c]
 replace g:=g c
 replace i:=i c
 refine HT.cat_tup n p2 (λz=>c (d.nil_iff.mp z)) (λz=>#[.ref a,H,I,rfl,g (f.nil_iff.mp z)]) (λz=>?_) (by rw[<-d.length,<-f.length];exact k);refine#[.ref s.heap.objs.size,_,I.laid (t':=s.toks) (o:=.tup (j++r)) (λb N q=>wIa _ q) (wPa _) ?_,rfl,i (λw=>z (f.nil_iff.mpr w)) _ (I.hok.fresh (wPa _))];exact#[by rw[vZa];exact k,_,d.append f,IsTup.new _ _]
end
abbrev Gh(n:Nat)(i:Int):Y Nat:=if 0<=i then(if i<n then S i.toNat else J)else if -(n:Int)<=i then S (i+n).toNat else J
abbrev atI(xs:L a)(i:Int):Y a:=(Gh xs.length i).bind λj=>xs[j]?
def XS(h:Gh n i=S j):seqIndex? i n=S j/\j<n/\-(n:Int)<=i/\i<n:=by
 unfold Gh at h;by_cases b:0<=i
 ·rw[if_pos b]at h;by_cases a:i<n
  ·rw[if_pos a]at h;have e:i.toNat=j:=vFa h;exact#[by rw[seqIndex_of b a,e],by lia,by lia,a]
  ·rw[if_neg a]at h;exact Zn h
 ·rw[if_neg b]at h;by_cases a:-(n:Int)<=i
  ·rw[if_pos a]at h;have e:(i+n).toNat=j:=vFa h;exact#[by rw[seqIndex_neg (by lia) a,e],by lia,a,by lia]
  ·rw[if_neg a]at h;exact Zn h
def W8(h:atI a i=S v):∃j,seqIndex? i a.length=S j/\a[j]?=S v/\j<a.length/\-(a.length:Int)<=i/\i<a.length:=by
 unfold atI at h;cases e:Gh a.length i with
 |none=>rw[e]at h;exact Zn h
 |some j=>
  rw[e]at h;let Jm b d f c:=XS e;exact#[j,b,h,d,f,c]
abbrev kT(b:Expr):Prop:=∀o i,subscripted b G o i=operate [o,i] (getItem o i)
abbrev Gi(X:Cx)(r:R2):Prop:=
 ∀(c a:Expr) (b:Tq) (s:Shared) (d:St) (H:Hp) (x y:V) (v u:Value) (Q:VK),Inv X b d H s->jI x v->jI y u->r x y H Q->
  subscripted a G v u=operate [v,u] (getItem v u)->wpAny Sz X.A (subscriptTail c a v u) (EP X b d Q) X.xe s
abbrev Dv(X:Cx)(id:String)(r:V->L V->Hp->VK->Prop):Prop:=
 ∀(a:Tq) (s:Shared) (d:St) (H:Hp) (x:V) (b:L V) (v:Value) (c:L Value) (Q:VK),Inv X a d H s->jI x v->jB b c->r x b H Q->
  wpAny Sz X.A (call (.builtin id) (v::c)) (EP X a d Q) X.xe s
section
variable{X:Cx}{a b:Expr}{ta tb:TE}{pos:Pos}
def Gi.or(h:Gi X r)(l:Gi X k):Gi X (λx y H Q=>r x y H Q\/k x y H Q):=by
 intro d c e s i H x y v u Q I j f q g;rcases q with q|q
 ·exact h d c e s i H x y v u Q I j f q g
 ·exact l d c e s i H x y v u Q I j f q g
def Ap(f:Gi X r)(i:PE X a ta)(n:PE X b tb)(g:kT b):PE X (.Subscript a b pos) (XN r ta tb):=by
 intro c s j H Q I h;exact Subscript_ (cM i n I h λv u e x y m l k d q=>f a b c e j m x y v u Q l k d q (g _ _))
abbrev i0(K:uXa):R2:=λx y H Q=>∃p c i v,x=.ref p/\y=.int i/\Jk K H p c/\atI c i=S v/\Q v H
abbrev ic(K:uXa):R2:=λx y H Q=>∃p c i v,x=.ref p/\y=.int i/\yN K H p c/\atI c i=S v/\Q v H
abbrev C2:R2:=λx y H Q=>∃z i c,x=.str z/\y=.int i/\z.length<=sizeLine/\atI z.cps.toList i=S c/\Q (.str #[#v[c]]) H
def EI:Gi X (i0 X.K):=by
 intro m n c s F H x y v u Q I N T h A;let uK p xs i z rfl rfl W Z q:=h;subst N;let q t rfl:=T;let jw k r f hz:=I.list W;let J3 j e M h3 P R:=W8 Z;let ja w o l:=r.get M;have O:=r.length;have hn:=UC;have d:EP X c F Q w s:=#[z,H,I,l,q]
 by_cases C:0<=i
 ·have g:i.toNat=j:=by
   rw[seqIndex_of C R]at e;exact vFa e
  exact item_listR f.isList C (by lia) (by rw[g];simpa using o) d A
 ·have g:(i+(k.toArray.size:Int)).toNat=j:=by
   rw[seqIndex_neg (by lia) P]at e;rw[uLa,<-O];exact vFa e
  exact subscriptTail_builtinR (x:=w) f.isList.typeIs slot_list_getitem.lookup
   (wpAny_getItem_list_neg (Q:=λr s'=>r=w/\EP X c F Q r s') f.isList (by lia) (by rw[uLa]<;>lia) (by lia) (by rw[g];simpa using o) #[rfl,d]) A
def ie:Gi X (ic X.K):=by
 intro f e c s l H x y v u Q I R o h N;let uK p xs i z rfl rfl O P q:=h;subst R;let q t rfl:=o;let jw A r k hz:=I.tuple O;let J3 j n m Z W h5:=W8 P;let ja w C g:=r.get m;have M:=r.length;have T:=UC;have d:EP X c l Q w s:=#[z,H,I,g,q]
 exact subscriptTail_builtinR (x:=w) k.typeIs slot_tuple_getitem.lookup
  (getItem_tuple (j:=j) (Q:=λr F=>r=w/\EP X c l Q r F) k (by lia) (by lia) (by rw[uLa,<-M];exact n) (by simpa using C) #[rfl,d]) N
def bU:Gi X C2:=by
 intro d e g s M H x y v u Q I l n h C;let zo z i c rfl rfl O w q:=h;let q t rfl:=l;let q F rfl:=n;let J3 j f k N p m:=W8 w;have o:z.cps.toList.length=z.length:=by simp[Str.length]
 rw[o]at f p m;have P:=UC;exact tail_any (typeIs_str s z t) slot_str_getitem.lookup (getItem_str (c:=c) (by
  have r:decide (i < -(2^63:Int))=G:=vBa (by lia);have A:decide (i>=2^63)=G:=vBa (by lia);rw[r,A,Bool.or_false]) (by rw[f];simpa using k) #[.str #[#v[c]],H,I.tok _,#[_,rfl],q]) C
abbrev N5(K:uXa):R2:=λx y H Q=>i0 K x y H Q\/ic K x y H Q\/C2 x y H Q
def bV:Gi X (N5 X.K):=EI.or (ie.or bU)
def Aq(c:L Value)(n j:Nat)(u:Value):Obj.mapSeq (·.setIfInBounds j u) {cls:=.type "list",data:=.seq c.toArray n}={cls:=.type "list",data:=.seq (c.set j u).toArray n}:=by
 simp[Obj.mapSeq]
def Inv.lst{d:Tq}{f:St}{H:Hp}{s:Shared}{p:Addr}{xs:L V}(I:Inv X d f H s)(h:H p=S (.lst xs)):
  ∃(c:L Value) (n:Nat),jB xs c/\s.heap.get? p=S {cls:=.type "list",data:=.seq c.toArray n}/\xs.length<=sizeLine:=by
 let YG z c n r e:=I.hok p _ h;exact#[c,n,r,e,z]
def Inv.lstUpd{s:Shared}{i:L V}{d c:L Value}(I:Inv X g o H s)(h:H p=S (.lst w))
  (m:s.heap.get? p=S {cls:=.type "list",data:=.seq d.toArray n}) (j:f {cls:=.type "list",data:=.seq d.toArray n}={cls:=.type "list",data:=.seq c.toArray k}) (r:jB i c) (v:i.length<=sizeLine) (t:Nat):
  Inv X g o (upd H p (.lst i)) {s with heap:=s.heap.update p f,toks:=t}:=by
 have e:(s.heap.update p f).get? p=S {cls:=.type "list",data:=.seq c.toArray k}:=by
  rw[Heap.get?_update_self f m (by rw[j]<;>rfl),j]
 refine I.write (x:=p) (e:=p) (by rw[h];trivial) (.inl rfl) (λb u l q=>(wKa _ _ (Ne.symm l)).trans q) #[_,e] ?_;exact#[v,c,k,r,e]
abbrev Dw:V->V->V->Hp->(Hp->Prop)->Prop:=λo i v H Q=>∃p c k j,o=.ref p/\i=.int k/\H p=S (.lst c)/\Gh c.length k=S j/\Q (upd H p (.lst (c.set j v)))
def C3:aY X Dw:=by
 intro c s M H o i v T W u Q I O N C h;let uK p A k j rfl rfl m F q:=h;subst O;let q t rfl:=N;let jc d n r g P:=I.lst m;let Jm e Z w x:=XS F;have l:=r.length;have R:=UC;have y:Inv X c M (upd H p (.lst (A.set j v))) {s with heap:=s.heap.update p (Obj.mapSeq (·.setIfInBounds j u))}:=
  I.lstUpd m g (Aq d n j u) (r.set C j) (by rw[List.length_set];exact P) s.toks
 by_cases z:0<=k
 ·have f:k.toNat=j:=by
   rw[seqIndex_of z x]at e;exact vFa e
  exact PySem.W.ki_setAt g z (by lia) (by rw[uLa,<-l];exact x) (by rw[f];exact#[_,y,q])
 ·have f:(k+(d.toArray.size:Int)).toNat=j:=by
   rw[seqIndex_neg (by lia) w]at e;rw[uLa,<-l];exact vFa e
  exact PySem.W.ki_setBack g (by lia) (by rw[uLa,<-l];exact w) (by lia) (by rw[f];exact#[_,y,q])
def Qg(lo c:Y Int)(n:Nat):(sliceBounds lo c J n).1=((HT.sIx n 0 lo:Nat):Int)/\(sliceBounds lo c J n).2.1=((HT.sIx n n c:Nat):Int)/\(sliceBounds lo c J n).2.2=1:=by
 refine#[?_,?_,rfl]
 ·cases lo with
  |none=>simp[sliceBounds,HT.sIx]
  |some i=>
   simp only[sliceBounds,HT.sIx,Option.getD_none,show(1:Int) > 0 by decide,if_true];by_cases h:i<0
   ·simp only[h,if_true]<;>lia
   ·simp only[h,if_false]<;>lia
 ·cases c with
  |none=>simp[sliceBounds,HT.sIx]
  |some i=>
   simp only[sliceBounds,HT.sIx,Option.getD_none,show(1:Int) > 0 by decide,if_true];by_cases h:i<0
   ·simp only[h,if_true]<;>lia
   ·simp only[h,if_false]<;>lia
def qB(c:L Value)(lo d:Y Int):slicePick c.toArray lo d J=((c.drop (HT.sIx c.length 0 lo)).take (HT.sIx c.length c.length d-HT.sIx c.length 0 lo)).toArray:=by
 let Yk e f g:=Qg lo d c.toArray.size;unfold slicePick;rw[e,f,g];simp only[sliceRange_one,pick_run,List.size_toArray]<;>rfl
abbrev o4(K:uXa):V->Y Int->Y Int->Hp->VK->Prop:=λx lo d H Q=>∃a c,x=.ref a/\Jk K H a c/\∀p,H p=J->Q (.ref p) (upd H p (.lst (W7 c lo d)))
def EJ:H_ X (o4 X.K):=by
 intro g s t H x v w u lo e p Q I n m k j h;let jc a c rfl i q:=h;subst n;let jw l r f o:=I.list i;have d:=r.length;refine#["list",_,slot_list_getitem.lookup,f.isList.typeIs,?_];refine wpAny_getItem_list_slice f.isList m k j .none Sx ?_ (by rw[List.size_toArray]<;>lia);rw[qB,<-d];refine#[.ref s.heap.objs.size,_,I.laid (t':=s.toks) (o:=.lst (W7 c lo e)) (λb y q=>wIa _ q) (wPa _) ?_,rfl,q _ (I.hok.fresh (wPa _))];exact#[wSa (Xw c lo e) o,_,0,(r.drop (HT.sIx c.length 0 lo)).take (HT.sIx c.length c.length e-HT.sIx c.length 0 lo),wJa _ rfl]
abbrev vH:V->Bool
 |.non=>B
 |.bl _=>B
 |.int _=>B
 |.str _=>B
 |_=>G
abbrev WS:V->V->Bool
 |.non,.non=>B
 |.bl a,.bl b=>a==b
 |.bl a,.int b=>(if a then 1 else 0)==b
 |.int a,.bl b=>a==(if b then 1 else 0)
 |.int a,.int b=>a==b
 |.str a,.str b=>a==b
 |_,_=>G
def ig(f:jI y u)(c:jI x v)(g:vH y=B)(e:vH x=B):SeqAt.EqAt A s u v (WS y x):=by
 cases y with
 |non=>
  cases f;cases x with
  |non=>subst c;exact SeqAt.EqAt.same _
  |bl b=>subst c;exact SeqAt.EqAt.none_bool b
  |int b=>let q t rfl:=c;exact SeqAt.EqAt.none_int b t
  |str b=>let q t rfl:=c;exact SeqAt.EqAt.none_str b t
  |_=>exact vDa (show G=B from e) vNa
 |bl a=>
  subst f;cases x with
  |non=>subst c;exact SeqAt.EqAt.bool_none a
  |bl b=>subst c;exact SeqAt.EqAt.bool_bool a b
  |int b=>let q t rfl:=c;exact SeqAt.EqAt.bool_int a b t
  |str b=>let q t rfl:=c;exact SeqAt.EqAt.bool_str a b t
  |_=>exact vDa (show G=B from e) vNa
 |int a=>
  let q d rfl:=f;cases x with
  |non=>subst c;exact SeqAt.EqAt.int_none a d
  |bl b=>subst c;exact SeqAt.EqAt.int_bool a d b
  |int b=>let q t rfl:=c;exact SeqAt.EqAt.int_int a d b t
  |str b=>let q t rfl:=c;exact SeqAt.EqAt.int_str a d b t
  |_=>exact vDa (show G=B from e) vNa
 |str a=>
  let q d rfl:=f;cases x with
  |non=>subst c;exact SeqAt.EqAt.str_none a d
  |bl b=>subst c;exact SeqAt.EqAt.str_bool a d b
  |int b=>let q t rfl:=c;exact SeqAt.EqAt.str_int a d b t
  |str b=>let q t rfl:=c;exact SeqAt.EqAt.str_str a d b t
  |_=>exact vDa (show G=B from e) vNa
 |_=>exact vDa (show G=B from g) vNa
abbrev VQ(x:V)(u:Value):Bool:=match u with
 |.none=>WS .non x
 |.bool b=>WS (.bl b) x
 |.int i _=>WS (.int i) x
 |.str z _=>WS (.str z) x
 |_=>G
def bW(r:jI y u)(f:vH y=B):VQ x u=WS y x:=by
 cases y with
 |non=>subst r;rfl
 |bl b=>subst r;rfl
 |int i=>let q t rfl:=r;rfl
 |str z=>let q t rfl:=r;rfl
 |_=>exact vDa (show G=B from f) vNa
def kU{c:L V}{d:L Value}(h:jB c d):c.all vH=B->d.any (VQ x)=c.any λy=>WS y x:=by
 induction h with
 |nil=>intro _;rfl
 |cons r _ i=>
  intro f;rw[List.all_cons,Bool.and_eq_true]at f;rw[List.any_cons,List.any_cons,bW r f.1,i f.2]
theorem VR(g:jI x v)(h:vH x=B):∀{d:L V}{e:L Value},jB d e->d.all vH=B->∀u∈e,SeqAt.EqAt A s u v (VQ x u)
 |_,_,.nil,_=>λu c=>by cases c
 |y::d,u::e,.cons r t,f=>λi c=>by
  rw[List.all_cons,Bool.and_eq_true]at f;rcases uTa c with rfl|c
  ·rw[bW r f.1];exact ig r g f.1 h
  ·exact VR g h t f.2 i c
abbrev XU(x:V)(c:L V):Bool:=c.any λy=>WS y x
abbrev ii(K:uXa)(d:Bool):R2:=λx y H Q=>∃p c,y=.ref p/\(Jk K H p c\/yN K H p c)/\vH x=B/\c.all vH=B/\Q (.bl (if d then !XU x c else XU x c)) H
def bX:Jh X (compareOp .In) (ii X.K G):=by
 intro k s n H x y v u Q I j l h;let vc p o rfl d i e q:=h;subst l;rcases d with d|d
 ·let jw c r g m:=I.list d;refine SeqAt.in_listAt (VQ x) g.isList (λw f=>VR j i r e w (by simpa using f)) #[.bl _,H,I,rfl,?_];rw[show c.toArray.any (VQ x)=c.any (VQ x) by simp,kU r e];exact q
 ·let jw c r g m:=I.tuple d;refine SeqAt.in_tupleAt (VQ x) g (λw f=>VR j i r e w (by simpa using f)) #[.bl _,H,I,rfl,?_];rw[show c.toArray.any (VQ x)=c.any (VQ x) by simp,kU r e];exact q
def Qi:Jh X (compareOp .NotIn) (ii X.K B):=by
 intro k s n H x y v u Q I j l h;let vc p o rfl d i e q:=h;subst l;rcases d with d|d
 ·let jw c r g m:=I.list d;refine SeqAt.notIn_listAt (VQ x) g.isList (λw f=>VR j i r e w (by simpa using f)) #[.bl _,H,I,rfl,?_];rw[show c.toArray.any (VQ x)=c.any (VQ x) by simp,kU r e];exact q
 ·let jw c r g m:=I.tuple d;refine SeqAt.notIn_tupleAt (VQ x) g (λw f=>VR j i r e w (by simpa using f)) #[.bl _,H,I,rfl,?_];rw[show c.toArray.any (VQ x)=c.any (VQ x) by simp,kU r e];exact q
def Qj:zQ X (.builtin "len") (λj H Q=>∃p d,j=[.ref p]/\(Jk X.K H p d\/yN X.K H p d)/\Q (.int d.length) H):=by
 intro k s o H j t Q I r h;let jc p d rfl e q:=h;let ja u rfl rfl:=qK r;have n:=UC;rcases e with e|e
 ·let jw f g i l:=I.list e;have c:=g.length;exact Calls.call_len_list i.isList (by simp only[List.size_toArray]<;>lia) #[.int d.length,H,I.tok _,#[s.toks+1,by rw[uLa,c]],q]
 ·let jw f g i l:=I.tuple e;have c:=g.length;exact len_tuple i (by simp only[List.size_toArray]<;>lia) #[.int d.length,H,I.tok _,#[s.toks+1,by rw[uLa,c]],q]
def Qk:zQ X (.builtin "len") (λd H Q=>∃z,d=[.str z]/\z.length<=sizeLine/\Q (.int z.length) H):=by
 intro c s g H d i Q I r h;let jw z rfl e q:=h;let Ub u rfl t rfl:=qK r;have f:=UC;exact len_str (by lia) #[.int z.length,H,I.tok _,#[_,rfl],q]
def Ql:zQ X (.type "list") (λF H Q=>∃p i,F=[.ref p]/\(Jk X.K H p i\/yN X.K H p i)/\∀l,H l=J->Q (.ref l) (upd H l (.lst i))):=by
 intro w s M H F O Q I r h;let jc p i rfl t q:=h;let ja u rfl rfl:=qK r;have v:∀(c:L Value),jB i c->i.length<=sizeLine->∀(d:Heap) (f:Nat),(∀b C,s.heap.get? b=S C->d.get? b=S C)->
   d.get? s.heap.objs.size=S {cls:=.type "list",dict:=J,data:=.seq c.toArray f,slots:=#v[]}->EP X w M Q (.ref s.heap.objs.size) {s with heap:=d}:=λc g m d f k e=>
  #[.ref s.heap.objs.size,_,I.laid (t':=s.toks) k (wPa _) (show JB X.prog X.w _ d _ (.lst i) from#[m,c,f,g,e]),rfl,q _ (I.hok.fresh (wPa _))]
 rcases t with t|t
 ·let jw c g y m:=I.list t;have j:=g.length;let Yn o z x n A:=y.isList;exact call_list_seq p (.inl rfl) z x A (λd f k e=>v c g m d f k e) (by simp only[List.size_toArray]<;>lia)
 ·let jw c g y m:=I.tuple t;have j:=g.length;let Yn o z x n A:=y;exact call_list_seq p (.inr rfl) z x A (λd f k e=>v c g m d f k e) (by simp only[List.size_toArray]<;>lia)
def qC:zQ X (.type "tuple") (λn H Q=>∃p f,n=[.ref p]/\((Jk X.K H p f/\∀l,H l=J->Q (.ref l) (upd H l (.tup f)))\/(yN X.K H p f/\Q (.ref p) H))):=by
 intro c s w H n A Q I r h;revert h;intro w21;let jW p f rfl h:=w21;let ja u rfl rfl:=qK r;rcases h with⟨k,q⟩|⟨k,q⟩
 ·let jw d i j v:=I.list k;have m:=i.length;refine call_tuple_list j.isList (λg x=>?_) (by simp only[List.size_toArray]<;>lia);have t:Inv X c w H {s with heap:=g}:=I.kept (t':=s.toks) x;have z:Inv X c w (upd H g.objs.size (.tup f)) {s with heap:=g.push {cls:=.type "tuple",data:=.seq d.toArray} }:=
   t.laid (t':=s.toks) (λb o e=>wIa _ e) (wPa _) (show JB X.prog X.w _ _ _ (.tup f) from#[v,d,i,IsTup.new _ _])
  exact#[.ref g.objs.size,_,z,rfl,q _ (t.hok.fresh (wPa _))]
 ·let jw d i j v:=I.tuple k;exact call_tuple_same j #[.ref p,H,I,rfl,q]
abbrev ij(K:uXa)(T:String)(x:V)(H:Hp):Prop:=match x with
 |.str _=>T ="str"
 |.int _=>T ="int"
 |.ref p=>(T ="list"/\∃e,Jk K H p e)\/(T ="tuple"/\∃o,K.lookup p=S o/\o.cls=.type "tuple"/\o.dict=J)\/
   (T ="dict"/\((∃c d,H p=S (.dK c d))\/(∃K l m,H p=S (.mem K l m))\/∃c d,H p=S (.dD c d)))\/(T ="set"/\∃SQ n,H p=S (.set SQ n))
 |_=>False
theorem bZ{h:Tq}{M:St}{H:Hp}{s:Shared}{T:String}{x:V}{v:Value}(I:Inv X h M H s)(r:jI x v)(j:ij X.K T x H):
  s.TypeIs v T/\∀a,v=.ref a->∃w,s.heap.get? a=S w/\w.dict=J:=by
 cases x with
 |str z=>
  let q t rfl:=r;cases(show T ="str" from j);exact#[typeIs_str s z t,λ_ e=>nomatch e]
 |int i=>
  let q t rfl:=r;cases(show T ="int" from j);exact#[typeIs_int s i t,λ_ e=>nomatch e]
 |ref p=>
  subst r;rcases j with⟨rfl,N,y⟩|⟨rfl,o,d,A,k⟩|⟨rfl,d⟩|⟨rfl,SQ,n,d⟩
  ·let jw C _ u _:=I.list y;refine#[u.isList.typeIs,λa e=>?_];cases e;let JK o n e c k _:=u;exact#[o,e,k]
  ·refine#[#[o,I.kIn p o d,A],λa e=>?_];cases e;exact#[o,I.kIn _ o d,k]
  ·have z:∃o,s.heap.get? p=S o/\o.ExactDict:=by
    rcases d with⟨g,F,d⟩|⟨K,g,m,d⟩|⟨g,F,d⟩
    ·let JY _ _ _ y21:=I.hok p _ d;let YG _ o _ e z21:=y21;let q f _:=z21;exact#[o,e,f]
    ·let JY _ _ _ h21:=I.hok p _ d;let JY _ _ o j21:=h21;let jc _ _ e f _:=j21;exact#[o,e,f]
    ·let Jm _ _ _ k21:=I.hok p _ d;let K_ _ _ o _ e u22:=k21;let q f _:=u22;exact#[o,e,f]
   let ja o e f:=z;refine#[#[o,e,f.1],λa l=>?_];cases l;exact#[o,e,f.2.1]
  ·let VG o _ _ _ e f _:=I.hok p _ d;refine#[#[o,e,f.1],λa l=>?_];cases l;exact#[o,e,f.2.1]
 |_=>exact False.elim j
abbrev ik(K:uXa)(T:String)(r:V->L V->Hp->VK->Prop)(d:TE):TE:=λe H Q=>d e H λx c=>ij K T x c/\r x [] c Q
abbrev b_(K:uXa)(T:String)(r:V->L V->Hp->VK->Prop)(f:TE)(t:TA):TE:=λc H Q=>f c H λx d=>ij K T x d/\t c d λe g=>r x e g Q
variable{o e:Expr}{es:L Expr}{to:TE}{t:TA}{name:Str}{apos cpos:Pos}{T id:String}{r:V->L V->Hp->VK->Prop}
def il(p:PlainAttrs T)(g:Slot T name id)(i:typeOf (.builtin id)=pure (.type "method_descriptor"))(n:Dv X id r)(w:PE X o to)
  (f:attributeBase o name X.env (eval o X.env)=eval o X.env:=by rfl) (d:(apos.endLine==cpos.line)=B:=by rfl):PE X (.Call (.Attribute o name apos) [] [] cpos) (ik X.K T r to):=by
 intro c s l H Q I h;refine wpAny_Call_method0_late f d (jM (w c s l H _ I h) λv F C=>?_);let JK x y k j u A:=C;let q z m:=bZ k j u;exact#[T,id,p,g,i,z,m,Calls.callWith_builtin rfl (PySem.evalArgs_none (n c F l y x [] v [] Q k j .nil A))]
def qL(O:PlainAttrs T)(j:Slot T name id)(k:typeOf (.builtin id)=pure (.type "method_descriptor"))(F:Dv X id r)(P:PE X o to)(z:PA X (e::es) t)
  (f:attributeBase o name X.env (eval o X.env)=eval o X.env:=by rfl)
  (i:((backTo cpos (starEach (e::es) X.env)).all (λx=>!x.1)&&(backToKw cpos (keywordEach [] X.env)).all (λx=>x.1.isSome)
   && decide ((e::es).length+([]:L Keyword).length+(if([]:L Keyword).isEmpty then 0 else 1)<30))=B:=by rfl)
  (g:(apos.endLine==cpos.line)=B:=by rfl) (w:starEach (e::es) X.env=(G,eval e X.env)::starEach es X.env:=by rfl) (d:(backTo cpos (starEach es X.env)).any (·.1)=G:=by rfl):
  PE X (.Call (.Attribute o name apos) (e::es) [] cpos) (b_ X.K T r to t):=by
 intro c s l H Q I h;refine wpAny_Call_method_late f i g rfl (jM (P c s l H _ I h) λv A xx=>?_);let JK x W n m N q1:=xx;let q R u:=bZ n m N;refine#[T,id,O,j,k,R,u,?_];have p:=z cpos c A l W _ n q1;rw[w]at p⊢;refine Calls.callWith_builtin (by show(G||(backTo cpos (starEach es X.env)).any (·.1))=G;rw[d]<;>rfl) (Calls.evalArgs_plain ?_)
 exact jM p λy Z ⟨vs,H2,M,r2,C⟩=>F c Z l H2 x vs v y Q M m r2 C
end
abbrev Dx(X:Cx)(id:String)(r:V->L V->Hp->VK->Prop):Prop:=
 ∀(a:Tq) (s:Shared) (d:St) (H:Hp) (x:V) (b:L V) (v:Value) (c:L Value) (Q:VK),Inv X a d H s->jI x v->jB b c->r x b H Q->
  wpAny Sz X.A (call (.builtin id) (v::c)) (EP X a d Q) X.xe s
def jB.one{x:V}{a:L Value}(h:jB [x] a):∃u,a=[u]/\jI x u:=by
 cases h with
 |cons r t=>cases t;exact#[_,rfl,r]
theorem jB.zero:∀{a:L Value},jB [] a->a=[]
 |_,.nil=>rfl
def jB.dropLast{b:L V}{a:L Value}(h:jB b a):jB b.dropLast a.dropLast:=by
 induction h with
 |nil=>exact .nil
 |cons r t c=>
  cases t with
  |nil=>exact .nil
  |cons q d=>exact .cons r c
def Ar(l:L d):l.eraseIdx (l.length-1)=l.dropLast:=by
 induction l with
 |nil=>rfl
 |cons a r c=>
  cases r with
  |nil=>rfl
  |cons b r=>
   have e:(a::b::r).length-1=((b::r).length-1)+1:=by
    have g:(a::b::r).length=r.length+2:=rfl;have f:(b::r).length=r.length+1:=rfl
    lia
   rw[e,List.eraseIdx_cons_succ,c];all_goals rfl
section
variable{X:Cx}{pins:Tq}{U:St}{H:Hp}{s:Shared}{l b:Addr}{xs ys zs:L V}
def Inv.lset{a its':L Value}{n:Nat}{f:Array Value->Array Value}{t':Nat}(I:Inv X pins U H s)(d:H l=S (.lst xs))
  (e:s.heap.get? l=S {cls:=.type "list",data:=.seq a.toArray n}) (i:f a.toArray=its'.toArray) (g:jB ys its') (j:ys.length<=sizeLine):
  Inv X pins U (upd H l (.lst ys)) {s with heap:=s.heap.update l (Obj.mapSeq f),toks:=t'}:=by
 have q:=PySem.IsL.update e f;rw[i]at q;refine I.write (x:=l) (e:=l) (by rw[d];exact trivial) (.inl rfl) (λk u c h=>(wKa s.heap (Obj.mapSeq f) (Ne.symm c)).trans h) #[_,q] ?_;exact#[j,its',_,g,q]
def Inv.lnew(I:Inv X pins U H s)(c:jB ys a)(d:ys.length<=sizeLine):
  Inv X pins U (upd H s.heap.objs.size (.lst ys)) {s with heap:=s.heap.push {cls:=.type "list",data:=.seq a.toArray},toks:=t'}:=
 I.laid (λ_ _ q=>wIa _ q) (wPa _) #[d,a,0,c,wJa _ rfl]
def Inv.fresh(I:Inv X pins U H s):H s.heap.objs.size=J:=I.hok.fresh (wPa _)
def Inv.lstM(I:Inv X pins U H s)(c:H l=S (.lst xs)):xs.length<=sizeLine/\∃(a:L Value) (n:Nat),jB xs a/\xs.length=a.length/\s.heap.get? l=S {cls:=.type "list",data:=.seq a.toArray n}:=by
 let YG z a n r e:=I.hok l _ c;exact#[z,a,n,r,r.length,e]
end
section
variable{X:Cx}
abbrev kW:V->L V->Hp->VK->Prop:=λx b H Q=>∃l a y,x=.ref l/\b=[y]/\H l=S (.lst a)/\a.length<sizeLine/\Q .non (upd H l (.lst (a++[y])))
def B1:Dx X "list.append" kW:=by
 intro c s o H x p v m Q I d f h;let zo l i y rfl rfl b k q:=h;subst d;let ja u rfl g:=f.one;let YG z a n r y22:=I.lstM b;let q j e:=y22;refine call_meets F.slot_list_append #[_,e,rfl] F.entry_list_append (F.args_list_append_2 _ _) (PySem.list_append l a.toArray n u (by rw[uLa];lia)) #[e,?_];refine#[.non,_,I.lset (its':=a++[u]) b e Sx (r.append (.cons g .nil)) ?_,rfl,q];rw[vZa,uIa]
 lia
abbrev C4:V->L V->Hp->VK->Prop:=λx b H Q=>∃l a y,x=.ref l/\b=[]/\H l=S (.lst a)/\a[a.length-1]?=S y/\Q y (upd H l (.lst a.dropLast))
def im:Dx X "list.pop" C4:=by
 intro f s w H x A v t Q I g i h;let zo l p y rfl rfl d j q:=h;subst g;have b:=i.zero;subst b;let YG z a n r x23:=I.lstM d;let q o e:=x23;let ja u k m:=r.get j;have c:a.toArray[a.toArray.size-1]?=S u:=by
  show a.toArray[a.length-1]?=S u;rw[<-Array.getElem?_toList,<-o];exact k
 refine call_meets F.slot_list_pop #[_,e,rfl] F.entry_list_pop (F.args_list_pop_1 _) (MeetsSeq.list_pop_last l a.toArray n u c (by rw[uLa];lia)) #[e,?_];refine#[y,_,I.lset (its':=a.dropLast) d e ?_ r.dropLast ?_,m,q]
 ·show a.toArray.eraseIdxIfInBounds (a.toArray.size-1)=a.dropLast.toArray;rw[uLa,List.eraseIdxIfInBounds_toArray,Ar]
 ·rw[List.length_dropLast]
  lia
abbrev io:R2:=λx y H Q=>∃l b c a,x=.ref l/\y=.ref b/\H l=S (.lst c)/\H b=S (.lst a)/\c.length+a.length<=sizeLine/\∀p,H p=J->Q (.ref p) (upd H p (.lst (c++a)))
def ip:Jh X (binaryOp .Add) io:=by
 intro d s w H x y v u Q I p f h;let Y8 l b t N rfl rfl g i A q:=h;subst p;subst f;let YG z c n r k24:=I.lstM g;let q C e:=k24;let YG F a M o u25:=I.lstM i;let q k m:=u25;refine PySem.P.add_list e m ?_ (by rw[uLa,uLa];lia);have j:c.toArray++a.toArray=(c++a).toArray:=by simp
 rw[j];exact#[.ref _,_,I.lnew (t':=s.toks) (r.append o) (by rw[vZa];lia),rfl,q _ I.fresh]
end
end L2
namespace Att
open PySem.W PySem.Calls
def ints_of_wellAll:∀(c:L Int) (d:L Value),WellAll P h d (c.map WData.int)->IntsAre d c:=by
 intro c;induction c with
 |nil=>
  intro d w;rw[uJa]at w;cases w;exact .nil
 |cons n c e=>
  intro d w;rw[vWa]at w;cases w with
  |cons a b=>
   cases a;exact .cons _ _ (e _ b)
theorem script_of{l:OpenLaw}(x:l.most=S n){h:Heap}
  (e:l.row.toRowW.claim.pre b=B) (m:WellAll P h i b):
  ∃a s c,i=[Value.ref a]/\b=[WData.list (c.map WData.int)]/\h.get? a=S {cls:=.type "list",data:=.seq s.toArray}/\IntsAre s c/\c.length<=n:=by
 have o:WShape.hasAll [] b [.list .int]=B:=(pre_splitW e).1;have p:l.pre.holds [] {args:=b}=B:=(pre_splitW e).2;let jc d r rfl u z:=hasAllW_cons o;obtain rfl:=hasAllW_nil z;let ja C rfl y:=hasW_list u;let q c rfl:=items_int y;have f:c.length<=n:=by
  unfold OpenLaw.pre at p;have k:(WTm.not (.lt (.lit (.int (n:Int))) (.len (.arg 0)))).holds [] {args:=[.list (c.map .int)]}=B:=by
   have k:=(holds_andW p).1;rw[x]at k;exact k
  have j:=condW_of k (w_not (w_lt w_lit (w_len_list (w_arg rfl))));rw[vYa]at j;refine Nat.le_of_not_lt λq=>?_;have v:(n:Int)<((c.length:Nat):Int):=by lia
  first
   |(rw[decide_eq_true v]at j;exact vDa j Sq)
   |(exact Zn j;lia)
 cases m with
 |cons t A=>
  cases A;cases t with
  |list w g=>exact#[_,_,c,rfl,rfl,w,ints_of_wellAll c _ g,f]
def post_true(l:OpenLaw)(a:L WData):l.row.toRowW.claim.post a (.bool B) a=B:=
 postW_of (r:=l.row.toRowW) (X:=(B==B))
  (show WShape.has [] (.bool B) .bool=B by first|rfl|decide|simp[WShape.has,WShape.arms,WShape.armsAll])
  (show(WTm.eq .res (.lit (.bool B))).value [] {args:=a,res:=S (.bool B),after:=a}=S (.bool (B==B)) from w_eq_bool (w_res rfl) w_lit) rfl
def attach_call{l:OpenLaw}{d:DefRec}
  (O:l.most=S n) (z:d.params.defaults=[])
  (call:∀(w:World) (c b:Shared) (u y:Tj) (j:Addr) (o:Obj) (F s e:Value) (a:Addr) (i:L Value) (v:L Int),
   Ground q h [] XP w c u y b.heap->P w b.heap->
   b.heap.get? j=S o->o.data=.func (docDef d.name d.params d.body d.scope F s e)->b.heap.CodeRec s d.name->u d.name=S (.ref j)->
   b.heap.get? a=S {cls:=.type "list",data:=.seq i.toArray}->IntsAre i v->v.length<=n->b.gens=#v[]->
   codeAny (model l.prog w) callerA (.call (.ref j) #[[.ref a],[]]) (λr t=>r=.ok (.ret (.bool B))/\OldK b.heap t.heap/\t.os=b.os/\AllBare t.gens) b):
  WalkO q h XP P l.row.toRowW d [] (λf i=>PySem.call f i):=by
 intro w c b u y G00 Y00 j o F s e R Q W hd x M C X N I as k H hrd A hlo;obtain rfl:R=.none:=Dflts.none M z;obtain rfl:Q=.none:=Dflts.noKw M;let zo a i v rfl rfl m g p:=script_of O k A;refine enter_call (codeAny_mono (call w c b u y j o F s e a i v G00 Y00 W (fd_plain hd) x C m g p X) λr t hq=>?_);let Jm rfl h2 T h4:=hq;exact#[.inl #[.bool B,.bool B,[],rfl,λ_=>rfl,.bool B,post_true l _,λ_=>#[List.Pairwise.nil,λ_ Z=>(nomatch Z)]],h2,T,h4]
end Att
namespace L2
theorem WT:∀{a:L Value}{b:L Int},IntsAre a b->jB (b.map V.int) a
 |_,_,.nil=>.nil
 |_,_,.cons n t h=>.cons #[t,rfl] (WT h)
abbrev C5(H:Hp):Prop:=∀b,H b=J\/∃o a,H b=S (.frz o (.lst a))
theorem C6{K:uXa}{c:Shared}{y:L Value}{W:L Int}
  (KX:K.In c.heap) (M:c.heap.Ns mainGlobals Z) (g:c.heap.Ns builtinsNs mb) (hbb:∀x:Str,x≠ "__name__" ->mb x=bootBuiltins x) (R:c.heap.NoLimit) (hg:c.gens=#v[])
  (ha:c.heap.get? a=S {cls:=.type "list",data:=.seq y.toArray}) (hi:IntsAre y W) (hl:W.length<=sizeLine) (hr:Room k callerA)
  (F:∀j:Heap,K.In j->j.Ns mainGlobals Z->FnOk P w K Z j CX k fa fd [x] sp) (t:∀(s:Shared) (u:Value),BindsTo s fd #[[u],[]] [(x,u)])
  (hsp:∀H:Hp,C5 H->Jk K H a (W.map V.int)->sp [.ref a] H (λv _=>v=.bl B) λ_ _ _=>False)
  (hCX:∀H e i,CX [] H c (λ_ _ _=>False) e i->False):
  codeAny (model P w) callerA (.call (.ref fa) #[[.ref a],[]]) (λr i=>r=.ok (.ret (.bool B))/\OldK c.heap i.heap/\i.os=c.os/\AllBare i.gens) c:=by
 have rv:=WT hi;have O:=hi.length;have p:∀H:Hp,C5 H->Jk K H a (W.map V.int)->yv P w H c.heap->(∀b,H b≠J->b=a)->(H a≠J->K.lookup a=J)->
   codeAny (model P w) callerA (.call (.ref fa) #[[.ref a],[]]) (λr i=>r=.ok (.ret (.bool B))/\OldK c.heap i.heap/\i.os=c.os/\AllBare i.gens) c:=by
  intro H hO hS C hA hK;have f:∀{b:Addr}{o:Obj},c.heap.get? b=S o->H b=J->(gh c.heap H).get? b=S o:=λe n=>cz e n;have noA:∀{b:Addr}{o:Obj}{Q:Array DictEntry}{I:Nat},c.heap.get? b=S o->o.data=.dict Q I->H b=J:=λ{b o Q I} e d=>by
   cases q:H b with
   |none=>rfl
   |some u=>
    have e':b=a:=hA b (by rw[q];simp);subst e';rw[ha]at e;obtain rfl:=Zj e;have d':Data.seq y.toArray _=Data.dict Q I:=d;cases d'
  have l:∀{b:Addr}{m:Tj},c.heap.Ns b m->(gh c.heap H).Ns b m:=λ{b m} ⟨o,Q,I,e,d,r⟩=>#[o,Q,I,f e (noA e d),d,r]
  have A:K.In (gh c.heap H):=λb o e=>f (KX b o e) (by
   cases q:H b with
   |none=>rfl
   |some u=>
    have e':b=a:=hA b (by rw[q];simp);subst e';rw[hK (by rw[q];simp)]at e;exact Zn e)
  have hM:Mod K Z (gh c.heap H):=#[A,l M,#[mb,l g,hbb],let⟨mc,h1,h2⟩:=R;#[mc,l h1,h2]]
  have e0:Env0 P w K Z (gh c.heap H) callerA [] c H:=#[rfl,hM,λb o e=>Eu e,Nat.le_of_eq (bK _ _),trivial,λb g=>vDa (show b∈([]:L Addr) from g) Sx,C,.of_eq hg]
  refine codeAny_mono ((F _ A (l M)).run callerA [] c H #[[.ref a],[]] [.ref a] [.ref a] _ _ hr e0 (t c (.ref a)) (.cons rfl .nil) (hsp H hO hS)) λr i h=>?_;cases r with
  |error e=>exact(hCX H e i h).elim
  |ok fl=>
   cases fl with
   |next=>exact False.elim h
   |brk=>exact False.elim h
   |cont=>exact False.elim h
   |ret u=>
    let YH v H' os T un N r' q:=h;have q':v=.bl B:=q;subst q';obtain rfl:u=Value.bool B:=r';refine#[rfl,OldK.of_keep λb o e=>?_,os,T];cases q:H b with
    |none=>exact un.keep b o e q (by intro z;exact vDa (show b∈([]:L Addr) from z) Sx) Sx
    |some u=>
     rcases hO b with z|⟨ob,xs,z⟩
     ·rw[q]at z;exact Zs z
     ·have z2:=un.frzs b ob _ z;let q e1 _:=C b _ z;let q e2 _:=N b _ z2;rw[e]at e1;obtain rfl:=Zj e1;exact e2
 cases hk:K.lookup a with
 |some o=>
  have e:=KX a o hk;rw[ha]at e;obtain rfl:=Zj e;refine p (λ_=>J) (λ_=>.inl rfl) (.inr #[_,y.toArray,_,hk,rfl,rfl,rfl,by rw[uLa,O];exact hl,by simpa using rv]) (λb u z=>by have X:(J:Y HO)=S u:=z;exact Zn X) (λb z=>vDa rfl z) λz=>vDa rfl z
 |none=>
  refine p (λb=>if b=a then S (.frz {cls:=.type "list",data:=.seq y.toArray} (.lst (W.map V.int)))else J) (λb=>?_) (.inl (.inr #[{cls:=.type "list",data:=.seq y.toArray},if_pos rfl])) (λb u z=>?_) (λb z=>?_) λ_=>hk
  ·by_cases g:b=a
   ·exact .inr #[_,_,if_pos g]
   ·exact .inl (if_neg g)
  ·by_cases g:b=a
   ·have X:=(if_pos g).symm.trans z;obtain rfl:=Zj X;subst g;exact#[ha,by rw[vYa];exact hl,y,_,rv,ha]
   ·have X:=(if_neg g).symm.trans z;exact Zn X
  ·by_cases g:b=a
   ·exact g
   ·exact vDa (if_neg g) z
noncomputable abbrev rN{K:uXa}(_:K.In h):uXa:=K
def EK{l:PySem.W.OpenLaw}{n k:Nat}{q:Program}{g:L Str}{XP:(Str->Y Value)->Heap->Prop}{Q:World->Heap->Prop}{d:DefRec}{K:Params->uXa}{CX:World->Qa}{sp:World->Sp}{x:Str}
  (Z:l.most=S n) (I:n<=sizeLine) (C:d.params.defaults=[]) (hr:Room k callerA)
  (hY:∀(w:World) (h:Heap),Q w h->(K w.params).In h)
  (F:∀(w:World) (j:Tj) (r:Addr) (h:Heap),(K w.params).In h->h.Ns mainGlobals j->j d.name=S (.ref r)->
   ∃A:FuncData,(∀(s:Shared) (u:Value),BindsTo s A #[[u],[]] [(x,u)])/\
    ∀b:Heap,(K w.params).In b->b.Ns mainGlobals j->FnOk l.prog w (K w.params) j b (CX w) k r A [x] (sp w))
  (N:∀(w:World) (H:Hp) (a:Addr) (t:L Int),t.length<=n->C5 H->Jk (K w.params) H a (t.map V.int)->sp w [.ref a] H (λv _=>v=.bl B) λ_ _ _=>False)
  (y:∀(w:World) (H:Hp) (s:Shared) (e:Value) (z:Shared),CX w [] H s (λ_ _ _=>False) e z->False):
  PySem.W.WalkO q g XP Q l.row.toRowW d [] (λf P=>PySem.call f P):=by
 refine Att.attach_call Z C λw O p j mb r o pm cd doc a P t G00 Y00 ho hd hcd M m i c X=>?_;have R:=hY w _ Y00;let ja A hb W:=F w j r _ R G00.T.g M;exact C6 R G00.T.g G00.T.b G00.T.builtins G00.T.nolimit X m i (wSa c I) hr W hb (λH hO T=>N w H a t c hO T) λH e z=>y w H p e z
abbrev inClass(s:Stmt)(j:Nat):Stmt:=match s with
 |.ClassDef _ _ _ a _ _ _ _ _ _ _=>a.getD j (.Pass #[0,0,0,0])
 |_=>.Pass #[0,0,0,0]
abbrev defArgs(s:Stmt):Arguments:=match s with
 |.FunctionDef _ a _ _ _ _ _ _ _ _=>a
 |_=>{posonlyargs:=[],args:=[],vararg:=J,kwonlyargs:=[],kw_defaults:=[],kwarg:=J,defaults:=[]}
abbrev defBody(s:Stmt):L Stmt:=match s with
 |.FunctionDef _ _ b _ _ _ _ _ _ _=>b
 |_=>[]
abbrev defScope(s:Stmt):Scope:=match s with
 |.FunctionDef _ _ _ _ _ _ a _ _ _=>a
 |_=>{kind:=.function,names:=[],isGenerator:=G,isCoroutine:=G}
noncomputable abbrev Y9:Qa:=λ_ _ _ _ _ _=>False
noncomputable abbrev E0:XK:=λ_ _ _=>False
def As:Yu Y9 X E0:=λ_ _ _ _ _ _ _ h=>h.elim
structure Fun (K:uXa) (x qual:Str) (st:Stmt) (f:Addr) (fd:FuncData):Prop where
 ex:∃(oc:Value) (od:Y Addr) (kV doc pm:Value) (an:Y Addr) (cdv ct:Value) (osl:Array (Y Value)),
  fd=PySem.W.fnOf x qual (defArgs st) (defBody st) Sb .none kV doc pm an cdv ct/\K.lookup f=S #[oc,od,.func fd,osl]/\PySem.W.codeIn K cdv qual=B
 kp:PySem.W.keepIn K (.ref f)=B
section
variable{P:Program}{w:World}{K:uXa}{mg:Tj}{base:Heap}
def Fun.ok{x b:Str}{st:Stmt}{f:Addr}{m:FuncData}{N i:L Str}{k:Nat}{g:Sp}(F:Fun K x b st f m)(SQ:FnScope N i Sb)(e:∀vs H Q E,g vs H Q E->vs.length=i.length)
  (d:∀(c:Value) (A:Around) (a:L Env) (s:Shared) (H:Hp) (vs:L V) (Q:VK) (E:XK),Room k (A.deeper (envOfC b Sb s.heap.objs.size f c))->g vs H Q E->
   ∃t,Jx (yl Y9 P w K mg base N b Sb f c A a s H E).nox (defBody st) t/\t {nx:=λ_ n=>Q .non n,rt:=Q} (zR N vs) H):FnOk P w K mg base Y9 (k+1) f m i g:=by
 let JC C v kV p I y c v27:=F.ex;let jc z u rfl o l:=v27;refine An o l SQ e λA a s H vs Q E r j=>?_;let ja t h q:=d c A a s H vs Q E r j;exact#[t,h.nox,q]
def Fun.binds{x a:Str}{st:Stmt}{f:Addr}{k:FuncData}{e:L Str}(F:Fun K x a st f k)
  (h:∀(kV b d:Value) (j:Y Addr) (c i:Value) (g:L Value),g.length=e.length->bindArgs (PySem.W.fnOf x a (defArgs st) (defBody st) Sb .none kV b d j c i) #[g,[]]=pure (e.zip g)):JP K k e []:=by
 let JC n p kV b d j c x27:=F.ex;let jc i l rfl o m:=x27;exact .all (h kV b d j c i)
def B2{x a:Str}{st:Stmt}{f:Addr}{m:Value}{j h:Y Addr}{e:Array (Y Value)}{kV d g b i:Value}(l:K.lookup f=S #[m,j,.func (PySem.W.fnOf x a (defArgs st) (defBody st) Sb .none kV d g h b i),e])
  (c:PySem.W.codeIn K b a=B) (k:PySem.W.keepIn K (.ref f)=B):Fun K x a st f (PySem.W.fnOf x a (defArgs st) (defBody st) Sb .none kV d g h b i):=#[#[m,j,kV,d,g,h,b,i,e,rfl,l,c],k]
end
def B3(h:n<=1000):n<sizeLine:=Nat.lt_of_le_of_lt h Sq
def pv(i:Nat)(b:X.N[i]?=S x:=by rfl)(d:GE X.env.scope x:=by first|exact Or.inl rfl|exact Or.inr (Or.inl rfl)|exact Or.inr (Or.inr rfl))(c:(x==("__debug__" : Str))=G:=by decide)
  (a:(x==("__classdict__" : Str))=G:=by decide):PE X (.Name x e) (yF i):=VN b d c a
def ZH{A By:Prop}(h:By):if G=B then A else By:=by
 rw[if_neg Bool.false_ne_true];exact h
def ZI{A By:Prop}(h:A):if B=B then A else By:=by
 rw[if_pos rfl];exact h
abbrev jf(H a:Hp):Prop:=∀b o,H b=S o->a b=S o
def jf.refl(H:Hp):jf H H:=λ_ _ h=>h
def jf.trans(a:jf H d)(b:jf d e):jf H e:=λc o h=>b c o (a c o h)
def jf.free(e:jf H a)(h:a l=Option.none):H l=Option.none:=by
 cases q:H l with
 |none=>rfl
 |some o=>
  rw[e l o q]at h;exact Zs h
def jf.seq{K:uXa}{H b:Hp}{a:Addr}{c:L V}(e:jf H b)(h:Jk K H a c):Jk K b a c:=by
 rcases h with(h|⟨o,h⟩)|h
 ·exact .inl (.inl (e _ _ h))
 ·exact .inl (.inr #[o,e _ _ h])
 ·exact .inr h
end L2
namespace L2
abbrev zq(b:Env):L (Str×NameKind)->L (Str×Addr)->L (Str×Addr)
 |[],c=>c
 |(n,k)::r,c=>zq b r (if k==.free then(match b.cells.lookup n with|S a=>(n,a)::c|none=>c)else c)
theorem W9:∀{ns g},(∀x c,g.lookup x=S c->b.cells.lookup x=S c)->∀x c,(zq b ns g).lookup x=S c->b.cells.lookup x=S c
 |[],_,h,x,c,e=>h x c e
 |(n,k)::r,g,h,x,c,e=>by
  refine W9 (ns:=r) ?_ x c e;intro y d q;by_cases j:(k==NameKind.free)=B
  ·rw[if_pos j]at q;cases f:b.cells.lookup n with
   |none=>rw[f]at q;exact h y d q
   |some a=>
    rw[f]at q;rw[List.lookup_cons]at q;cases i:(y==n)with
    |true=>
     rw[i]at q;have l:y=n:=by simpa using i
     have m:a=d:=by simpa using q
     rw[l,f,m]
    |false=>rw[i]at q;exact h y d q
  ·rw[if_neg j]at q;exact h y d q
theorem WU:∀{ns b x},(∃c,b.lookup x=S c)->∃c,(zq d ns b).lookup x=S c
 |[],_,_,h=>h
 |(n,k)::r,b,x,h=>by
  refine WU (ns:=r) ?_;by_cases e:(k==NameKind.free)=B
  ·rw[if_pos e];cases g:d.cells.lookup n with
   |none=>exact h
   |some a=>
    show∃c,((n,a)::b).lookup x=S c;rw[List.lookup_cons];cases f:(x==n)with
    |true=>exact#[a,rfl]
    |false=>exact h
  ·rw[if_neg e];exact h
theorem Kr:∀{ns f x},(x,NameKind.free)∈ns->(∃c,b.cells.lookup x=S c)->∃c,(zq b ns f).lookup x=S c
 |(n,k)::r,f,x,d,a=>by
  rcases uTa d with e|d
  ·cases e;let q c a:=a;refine WU (ns:=r) ?_;rw[if_pos (by rfl)];rw[a];exact#[c,by simp]
  ·exact Kr (ns:=r) d a
def kX(h:∀y∈d.names,y.2=.free->∃c,b.cells.lookup y.1=S c):closureFor d b=pure (zq b d.names []):=by
 have go:∀(i e),(∀y∈i,y.2=.free->∃c,b.cells.lookup y.1=S c)->
   (forIn i e λx r=>(match x with
    |(f,j)=>if(j==NameKind.free)=B then(do let a<-cellOf b f;pure (ForInStep.yield ((f,a)::r)))else pure (ForInStep.yield r)))=pure (zq b i e):=by
  intro i;induction i with
  |nil=>intro e _;rfl
  |cons p r t=>
   let q n k:=p;intro e o;rw[List.forIn_cons];by_cases g:(k==NameKind.free)=B
   ·let q c u:=o _ wNa (by simpa using g);have v:cellOf b n=pure c:=by unfold cellOf;rw[u]
    have s:zq b ((n,k)::r) e=zq b r ((n,c)::e):=by
     show zq _ r _=_;rw[if_pos g,u]
    dsimp only;rw[if_pos g,v,s,<-t _ λy l=>o y (List.mem_cons_of_mem _ l)];rfl
   ·have s:zq b ((n,k)::r) e=zq b r e:=by
     show zq _ r _=_;rw[if_neg g]
    dsimp only;rw[if_neg g,s,<-t e λy l=>o y (List.mem_cons_of_mem _ l)];rfl
 exact(congrArg (λm=>m >>= λr=>(pure r)) (go _ [] h)).trans rfl
abbrev Cx.comp(X:Cx)(d:L _)(a:Scope)(c:Shared)(e:Hp)(b:L _):=
 {X with N:=d,s₀:=c,H₀:=e,env:=compEnvC a (zq X.env a.names []) c.heap.objs.size X.env,outer:=X.stack,stack:=X.stack,ex:=b,fn:=λ_=>G,pn:=[],xe:=λ_ _=>False}
inductive Caps (X:Cx) (scope:Scope):L (Str×Nat)->Prop
 |nil:Caps X _ []
 |cons {j r}:X.N[j]?=S y->(X.env.kindOf y=S .cell\/X.env.kindOf y=S .free)->scope.names.lookup y=S .free->Caps X _ r->Caps X _ ((y,j)::r)
theorem Caps.get:∀{caps}{k:Nat}{y j},Caps X d caps->caps[k]?=S (y,j)->
  X.N[j]?=S y/\(X.env.kindOf y=S .cell\/X.env.kindOf y=S .free)/\d.names.lookup y=S .free
 |_,_,_,_,.nil,e=>Zn e
 |_,0,_,_,.cons a b c _,e=>by simp at e;let q rfl rfl:=e;exact#[a,b,c]
 |_,k+1,_,_,.cons _ _ _ t,e=>Caps.get t (by simpa using e)
noncomputable abbrev cN(own:L _)(caps:Tv):=own++caps.map (·.1)
noncomputable abbrev Vn(own:L Str)(caps:Tv)(a:St):St:=own.map (λ_=>J)++caps.map λp=>(a[p.2]?).join
abbrev ZJ(X)(d:L _)(t:TT):=
 ∀(a s) (b:St) (H Q),Inv X a b H s->t b H Q->
  wpAny Sz X.A (forIn d B λc r=>if r=B then do let e<-isTrue c X.env (eval c X.env);pure (ForInStep.yield e)else pure (ForInStep.yield r)) (TP X a b Q) X.xe s
abbrev M3:TT:=λ_ H Q=>Q B H
def EL:ZJ X [] M3:=λ_ _ _ H _ I h=>wpAny_tests_nil #[H,I,h]
def EM(h:PT X c t):ZJ X [c] t:=λa s b H Q I q=>wpAny_tests_one (h _ s b H Q I q)
def GK(h:(relabel b a).names.lookup x=S k):∃c,b.names.lookup x=S c/\(k=c\/(c=.free/\k=.cell)):=by
 have go:∀g:L _,(g.map λ(n,k)=>if(k==NameKind.free&&a.scope.kind==.function&&a.kindOf n==S .cell)then(n,NameKind.cell)else(n,k)).lookup x=S k->
   ∃c,g.lookup x=S c/\(k=c\/(c=.free/\k=.cell)):=by
  intro g;induction g with
  |nil=>intro q;exact Zn q
  |cons p r j=>
   let q n d:=p;intro q;have q:List.lookup x ((if(d==NameKind.free&&a.scope.kind==.function&&a.kindOf n==S _)=B then(n,NameKind.cell)else(n,d))::(r.map λ(n,k)=>if(k==NameKind.free&&a.scope.kind==.function&&a.kindOf n==S .cell)then(n,NameKind.cell)else(n,k)))=S k:=q;by_cases i:(d==NameKind.free&&a.scope.kind==.function&&a.kindOf n==S .cell)=B
   ·rw[if_pos i,List.lookup_cons]at q;rw[List.lookup_cons];cases f:(x==n)with
    |true=>
     rw[f]at q;have e:NameKind.cell=k:=by simpa using q
     refine#[d,rfl,.inr #[?_,e.symm]];simp only[Bool.and_eq_true]at i;simpa using i.1.1
    |false=>rw[f]at q;exact j q
   ·rw[if_neg i,List.lookup_cons]at q;rw[List.lookup_cons];cases f:(x==n)with
    |true=>
     rw[f]at q;have e:d=k:=by simpa using q
     exact#[d,rfl,.inl e.symm]
    |false=>rw[f]at q;exact j q
 exact go _ h
abbrev Qm(k)(a:It)(f)(g:TG)(s:TT)(r:TE)(n:VK)(W:Nat->Nat->L V->Hp->Prop):=∀i m d H,W i m d H->
  (a.stop i H/\d.length<=sizeLine/\∀D,H D=J->n (.ref D) (upd H D (.lst d)))\/
  (a.go i H/\d.length<sizeLine/\∃N:L V->Hp->Prop,(∀h e,N h e->∃l,l<m/\W (i+1) l h e)/\
   ∀x e,a.yld i H x e->g x f e λc p=>c.drop k=f.drop k/\s c p λb j=>if b=B then r c j λy o=>N (d++[y]) o else N d j)
def EN(g:∀y∈a.names,y.2≠.cell)(i:a.kind=.function)
  (s:∀y∈a.names,y.2=.free->X.env.kindOf y.1=S .cell\/X.env.kindOf y.1=S .free)
  (I:Inv X m N H t) (j:∀b∈n,b<t.heap.objs.size/\JI X m H b):(X.comp (cN own caps) a t H n).Ok:=by
 have d:∀x c,(zq _ a.names []).lookup x=S c->X.env.cells.lookup x=S c:=W9 λ_ _ e=>Zn e;refine#[I.ok.mod,i,I.ok.glob,I.ok.blt,wPa _,λx y c F A=>I.ok.inj x y c (d x c F) (d y c A),λx l=>?_,λ_ _ z=>(Zf z),I.ok.hd,I.ok.frames,.inl rfl,λb f=>#[wTa (j b f).1,λx c h=>(j b f).2.2.2.2.2.1 x c (d x c h)],
  I.bs,wSa I.ok.bsz I.sz,λb o e f=>?_,λb f w=>?_,I.stack,I.stkFree]
 ·have q:∃k,(relabel a X.env).names.lookup x=S k/\(k=.cell\/k=.free):=by
   rcases l with l|l
   ·exact#[_,l,.inl rfl]
   ·exact#[_,l,.inr rfl]
  let ja k q v:=q;let ja C u r:=GK q;have p:=PySem.mem_of_lookup u;have M:C=.free:=by
   rcases r with e|e
   ·rcases v with z|z
    ·exact vDa (e.symm.trans z) (g _ p)
    ·simp_all
   ·exact e.1
  subst M;exact Kr p (I.ok.has x (s _ p rfl))
 ·rcases(j b f).2.2.2.2.1 with z|z
  ·exact I.ok.noex b o e z
  ·exact vDa (Nat.lt_of_lt_of_le (wLa e) (wSa I.ok.bsz z)) (wUa _)
 ·rcases uTa (I.stkSub b w)with z|z
  ·exact(j b f).2.2.1 z
  ·exact(j b f).2.2.2.1 z
def wk(k:∀y∈a.names,y.2≠.cell)(h:a.kind=.function)
  (O:∀y∈a.names,y.2=.free->X.env.kindOf y.1=S .cell\/X.env.kindOf y.1=S .free) (w:Caps X a caps)
  (I:Inv X A F H n) (hf:∀b∈W,b<n.heap.objs.size/\JI X A H b) {t} (hn:Z.Ns n.heap.objs.size m) (C:∀b o,n.heap.get? b=S o->Z.get? b=S o):
  Inv (X.comp (cN own caps) a n H W) [] (Vn own caps F) H {n with heap:=Z,toks:=t}:=by
 have g:∀x c,(zq _ a.names []).lookup x=S c->X.env.cells.lookup x=S c:=W9 λ_ _ e=>Zn e;have ok:=EN (own:=own) (caps:=caps) k h O I hf;refine#[ok,rfl,I.bare,Un.kept C,#[m,hn,λi x v f d e3=>?_],λx c e=>?_,I.hok.fresh (wPa _),λx c e=>I.freeC x c (g x c e),λp hp=>vDa (show p∈([]) from hp) Sx,I.hok.kept C,by simp[Cx.comp,cN]]
 ·by_cases N:i<own.length
  ·rw[uRa (by simpa using N),uAa]at d;cases q:own[i]? with
   |none=>rw[q]at d;exact Zn d
   |some _=>rw[q]at d;cases d
  ·have f:(own++caps.map _)[i]?=S x:=f;rw[List.getElem?_append_right (by simpa using N),uAa]at d;rw[List.getElem?_append_right (by simpa using N),uAa]at f;rw[vYa]at d;cases q:caps[i-own.length]? with
   |none=>rw[q]at f;exact Zn f
   |some p=>
    let q y j:=p;rw[q]at f d;have f:=vFa f;subst f;have d:(F[j]?).join=S v:=vFa d;let Yk a1 a2 a3:=w.get q;have sj:F[j]?=S (S v):=by
     cases z:F[j]? with
     |none=>rw[z]at d;exact Zn d
     |some M=>rw[z]at d;exact congrArg _ d
    let ja m0 hn0 R:=I.loc;have P:GE X.env.scope y:=by
     rcases a2 with z|z
     ·exact .inr (.inl z)
     ·exact .inr (.inr z)
    let ja u r l:=R j y v a1 sj P;refine#[u,r,.inr #[?_,?_]]
    ·rcases e3 with z|z
     ·let ja k0 q0 UQ:=GK z;rw[a3]at q0;obtain rfl:=Zj q0;rcases UQ with M|M
      ·cases M
      ·cases M.2
     ·exact z
    ·rcases l with⟨hk',_⟩|⟨_,c,hc,z⟩
     ·simp_all
     ·let q c' s:=Kr (PySem.mem_of_lookup a3) #[c,hc];have:=g y c' s;rw[hc]at this;obtain rfl:=Zj this;let ja o Q T:=z;exact#[c,s,o,C c o Q,T]
 ·let jW v o Q T:=I.cell x c (g x c e);exact#[v,o,C c o Q,T]
def yv.adopt(x:yv P w H h)(d:H D=J)(i:g.length<=sizeLine)(r:jB g f)(e:h.get? D=S {cls:=.type "list",data:=.seq f.toArray k}):yv P w (upd H D (.lst g)) h:=λb u q=>by
 by_cases a:b=D
 ·subst a;rw[jz]at q;obtain rfl:=Zj q;exact#[i,f,k,r,e]
 ·rw[jp a]at q;exact(x b u q).stay (λ_ _ _ z=>z) (λc z=>by rw[jp (jU z d)];exact z) λc j _ z=>by rw[jp (jU z d)];exact z
def B4(I:Inv X pins A H i)(O:D<i.heap.objs.size)(c:JI X pins H D)(y:∀b∈h,JI X pins H b)
  (a:Inv (X.comp N f i H (D::h)) [] s m l) (p:m D=J) (M:j.length<=sizeLine) (r:jB j C) (e:l.heap.get? D=S {cls:=.type "list",data:=.seq C.toArray k}):
  Inv X pins A (upd m D (.lst j)) l:=by
 have u:=a.base;have w:∀b,b∉D::h->b≠D:=λb d z=>d Sa;refine I.call' a.os #[u.keep,u.slot,λb o q n g=>?_,u.there,λb t q=>?_,λb o v q=>?_,λb x q=>?_] (a.hok.adopt p M r e) a.bare λb d=>?_
 ·rw[jp (w b g)];exact u.free b o q n g
 ·rw[jp (jU q c.1)];exact u.tups b t q
 ·rw[jp (jU q c.1)];exact u.frzs b o v q
 ·rw[jp (jU q c.1)];exact u.tbls b x q
 ·have F:JI X pins H b:=by
   rcases uTa d with z|z
   ·rw[z];exact c
   ·exact y b z
  exact#[F.2.2.2.1,F.2.1,F.2.2.2.2.1,F.2.2.2.2.2]
structure TurnX (X tg) (J00:It) (fp:L Addr) (it) (tn:Nat->Heap->Prop) where
 item:∀(i pins s) (U:St) (H E),Inv X pins U H s->(∀b∈fp,JI X pins H b)->tn i s.heap->J00.go i H->
  wpAny Sz X.A (pyNext (.ref it)) (λr s1=>∃u,r=S u/\
   wpAny Sz X.A (letOwnedTupleGo tg (.ref it) u) (λ_ s2=>∃x H',Inv X pins U H' s2/\jI x u/\J00.yld i H x H'/\tn (i+1) s2.heap/\∀b∈fp,H' b=J) E s1) E s
 done:∀(i pins s) (U:St) (H E),Inv X pins U H s->(∀b∈fp,JI X pins H b)->tn i s.heap->J00.stop i H->
  wpAny Sz X.A (pyNext (.ref it)) (λr s1=>r=J/\Inv X pins U H s1) E s
def Turn.at{d a c e b}(T:Turn X.prog X.w X.K d a c e b)(f:X.calm=B):TurnX X d a c e b:=#[T.item X rfl rfl rfl f,T.done X rfl rfl rfl f]
def EO{C:Addr}(TX:TurnX (X.comp (cN s h) t s2 H (D::A)) tg c A it tn)
  (hg:∀s3 H3 ex',PG (X.comp (cN s h) t s3 H3 ex') tg g) (ht:∀s3 H3 ex',ZJ (X.comp (cN s h) t s3 H3 ex') ifs tc) (he:∀s3 H3 ex',PE (X.comp (cN s h) t s3 H3 ex') elt te)
  (I:Inv X pins U H s2) (hD:D<s2.heap.objs.size) (fD:JI X pins H D) (nDf:D∉A) (hfl:∀b∈A,b<s2.heap.objs.size) (hf:∀b∈A,JI X pins H b) (T:Turn X.prog X.w X.K tg c A it tn) (turn:Qm s.length c (Vn s h U) g tc te Qv W)
  (R:Result->Shared->Prop) (hR:∀P,(∃w m,Inv X pins U w P/\P.heap.Ns s2.heap.objs.size m/\JI X pins w s2.heap.objs.size/\Qv (.ref D) w)->R (.ok .next) P)
  (n:Nat) (s4:Shared) (st:∃i vs w M k,Inv (X.comp (cN s h) t s2 H (D::A)) [] (Vn s h U) w s4/\tn i s4.heap/\(∀b∈A,w b=J)/\w D=J/\
   s4.heap.get? D=S {cls:=.type "list",data:=.seq (M:L Value).toArray k}/\jB vs M/\W i n vs w):
  codeAny Sz X.A (.compLoop (.ListComp elt [#[tg,iter,ifs,0]] t pos) 0 (.ref it) (.ref D) (X.comp (cN s h) t s2 H (D::A)).env) R s4:=by
 let a:=X.comp (cN s h) t s2 H (D::A)
 have stat:∀{w:Hp},w D=J->(∀b∈A,w b=J)->∀P:Shared,∀Z,Inv a [] Z w P->∀b∈D::A,JI a [] w b:=λ{w} h0 h1 P Z I' b F=>by
  have hb':b<s2.heap.objs.size:=by
   rcases uTa F with z|z
   ·rw[z];exact hD
   ·exact hfl b z
  refine#[?_,wTa hb',I'.ok.exfs b F,.inl F,(I'.ok.exf b F).2,λp hp=>vDa (show p∈([]:Tq) from hp) Sx];rcases uTa F with z|z
  ·rw[z];exact h0
  ·exact h1 b z
 refine codeAny_loop rfl (λn P=>∃i vs w M k,Inv a [] (Vn s h U) w P/\tn i P.heap/\(∀b∈A,w b=J)/\w D=J/\
   P.heap.get? D=S {cls:=.type "list",data:=.seq (M:L Value).toArray k}/\jB vs M/\W i n vs w) ?_ n st
 rintro n s3 ⟨i,vs,H3,M,k,I3,st3,fr3,n3,g3,r3,w3⟩;refine wpAny_noted ?_;rw[compTurn_list];have F0:=stat n3 fr3 s3 _ I3;have pinD:∀{Z:St}{w:Hp}{P:Shared}{ps:Tq}{zs:L Value}{kk:Nat},Inv a ps Z w P->w D=J->P.heap.get? D=S {cls:=.type "list",data:=.seq zs.toArray kk}->Inv a (ps++[(D,{cls:=.type "list",data:=.seq zs.toArray kk})]) Z w P:=λ{Z w P ps zs kk} I' hn hg'=>
  I'.pins_of λp hp=>(uWa hp).elim (λz=>I'.pin p (vJa _ z)) λz=>by
   have e:p=(D,{cls:=.type "list",data:=.seq zs.toArray kk}):=by simpa using z
   subst e;have f:=(stat n3 fr3 s3 _ I3) D wNa;exact#[hg',hn,f.2.1,f.2.2.1,λv z=>by cases z]
 have I3p:=pinD I3 n3 g3;have F3:∀b∈A,JI a ([]++[(D,{cls:=.type "list",data:=.seq M.toArray k})]) H3 b:=λb F=>by
  let Jy f0 f1 f2 f3 f4 f5:=F0 b (wMa _ F);refine#[f0,f1,f2,f3,f4,λp hp z=>?_];have e:p=(D,{cls:=.type "list",data:=.seq M.toArray k}):=by simpa[a,Cx.comp]using hp
  subst e;exact nDf (by rw[show D=b from z];exact F)
 rcases turn i n vs H3 w3 with⟨stop,hl,q⟩|⟨go,hl,N,hN,step⟩
 ·refine wAa (vOa (wAa (wCa (TX.done i _ s3 _ H3 (λ_ _=>False) I3p F3 st3 stop) (λr s5 h5=>?_) λ_ _ z=>z.elim)));let q hr I5p:=h5;subst hr;refine wBa (hR s5 ?_);have g5:s5.heap.get? D=S {cls:=.type "list",data:=.seq M.toArray k}:=(I5p.pin (D,_) Sx).1;have I5:Inv a [] (Vn s h U) H3 s5:=I5p.unpinned (pins:=[]);let ja m5 hm5 _:=id I5.loc;refine#[_,m5,B4 I hD fD hf I5 n3 hl r3 g5,hm5,I.fpOk (wPa _) ?_,q D n3];rw[jp (Nat.ne_of_gt hD)];exact I5.free
 ·refine wAa (vOa (wAa (wCa (TX.item i _ s3 _ H3 (λ_ _=>False) I3p F3 st3 go) (λr s5 h5=>?_) λ_ _ z=>z.elim)));let q u hr h5:=h5;subst hr;refine wAa (wCa h5 (λ_ s6 h6=>?_) λ_ _ z=>z.elim);let vc x H6 I6 r6 y6 st6 fr6:=h6;have F6:∀b∈A,JI a ([]++[(D,{cls:=.type "list",data:=.seq M.toArray k})]) H6 b:=λb F=>#[fr6 b F,(F3 b F).2]
  have I6':=I6.pinned F6 (T.obj _ _ st6);refine wAa (wCa (hg s2 H (D::A) _ s6 _ H6 x u _ I6' r6 (step x H6 y6)) (λ_ s7 h7=>?_) λ_ _ z=>z.elim);let jc UQ H7 I7 d7 q7:=h7;refine wAa (wCa (ht s2 H (D::A) _ s7 UQ H7 _ I7 q7) (λb s8 h8=>?_) λ_ _ z=>z.elim);let ja H8 I8 q8:=h8;have fin:∀{O:Shared}{Q:Hp} {vs':L V}{zs:L Value}{kk:Nat},Inv a [] UQ Q O->tn (i+1) O.heap->(∀b∈A,Q b=J)->Q D=J->O.heap.get? D=S {cls:=.type "list",data:=.seq zs.toArray kk}->jB vs' zs->N vs' Q->
    ∃m,m<n/\∃i vs w M k,Inv a [] (Vn s h U) w O/\tn i O.heap/\(∀b∈A,w b=J)/\w D=J/\O.heap.get? D=S {cls:=.type "list",data:=.seq (M:L Value).toArray k}/\jB vs M/\W i m vs w:=λ{O Q vs' zs kk} I9 st9 fr9 n9 g9 r9 w9=>by
   let ja m' hm w':=hN vs' Q w9;refine#[m',hm,i+1,vs',Q,zs,kk,?_,st9,fr9,n9,g9,r9,w'];have l9:UQ.length=(Vn s h U).length:=I9.len.trans (by simp[a,Cx.comp,cN,Vn]);refine I9.weak l9.symm λj v e=>?_;by_cases hj:j<s.length
   ·rw[uRa (by simpa using hj),uAa]at e;cases q:s[j]? with
    |none=>rw[q]at e;exact Zn e
    |some _=>rw[q]at e;cases e
   ·have z:=congrArg (λl=>l[j-s.length]?) d7;simp only[List.getElem?_drop]at z;have ej:s.length+(j-s.length)=j:=by omega
    rw[ej]at z;exact z.trans e
  have pins8:∀{O:Shared}{Q:Hp},Inv a ([]++[(D,{cls:=.type "list",data:=.seq M.toArray k})]++wf A s6.heap) UQ Q O->tn (i+1) O.heap/\(∀b∈A,Q b=J)/\Q D=J/\O.heap.get? D=S {cls:=.type "list",data:=.seq M.toArray k}:=λ{O Q} I9=>by
   refine#[T.keep _ _ _ st6 λb F o e=>(I9.pin (b,o) (vJa _ (vJa _ (zP F e)))).1,λb F=>?_,(I9.pin (D,{cls:=.type "list",data:=.seq M.toArray k}) (vJa _ (vIa _ Sx))).2.1,(I9.pin (D,{cls:=.type "list",data:=.seq M.toArray k}) (vJa _ (vIa _ Sx))).1];let ja o e d:=T.obj _ _ st6 b F;exact(I9.pin (b,o) (vJa _ (vJa _ (zP F e)))).2.1
  cases b with
  |false=>
   let Jm a1 a2 a3 a4:=pins8 I8;exact wBa #[rfl,fin (I8.unpinned.unpinned) a1 a2 a3 a4 r3 q8]
  |true=>
   refine wAa (wAa (wCa (he s2 H (D::A) _ s8 UQ H8 _ I8 q8) (λy O h9=>?_) λ_ _ z=>z.elim));let jc v9 Q I9 r9 q9:=h9;let Jm a1 a2 a3 a4:=pins8 I9;have hlz:M.toArray.size<=sizeLine:=by
    have:=r3.length;simp only[List.size_toArray];omega
   refine wAa (wpAny_list_append_plain (hsz:=hlz) #[k,a4] λh' hp sb=>wBa (wBa #[rfl,?_]));let q k' g':=hp;have I9':Inv a [] UQ Q O:=I9.unpinned.unpinned;have F9:=stat a3 a2 O _ I9' D wNa;let Jy f0 f1 f2 f3 f4 f5:=F9;have I10:Inv a [] UQ Q {O with heap:=h'}:=I9'.turned (t':=O.toks) (λb o F e=>(sb.2 b F).trans e) f0 f1 f3 f4 f5;refine fin (zs:=M++[y]) (kk:=k') I10 (T.keep _ _ _ a1 λb F o e=>(sb.2 b λz=>nDf (by rw[<-z];exact F)).trans e) a2 a3 ?_ (r3.append (.cons r9 .nil)) q9;rw[g'];simp
structure CScope (X:Cx) (scope:Scope) where
 kind:scope.kind=.function
 loc:(scope.names.all λy=>y.2 != .local||scope.names.lookup y.1==S .local)=B
 nocell:(scope.names.all λy=>y.2 != .cell)=B
 free:(scope.names.all λy=>y.2 != .free||X.env.scope.names.lookup y.1==S .cell||X.env.scope.names.lookup y.1==S .free)=B
section
variable{X:Cx}{elt tg iter:Expr}{ifs:L Expr}{scope:Scope}{pos:Pos}{own:L Str}{caps:Tv}{g:TG}{tc:TT}{te:TE}{pins:Tq}{U:St}{H:Hp}{s2:Shared}{UQ:It}{fp:L Addr}{it:Addr}{tn:Nat->Heap->Prop}{Qv:VK}
def CScope.l(a:CScope X scope):∀x∈scope.names,x.2=.local->scope.names.lookup x.1=S .local:=λx b e=>by
 have:=List.all_eq_true.mp a.loc x b;rw[e]at this;simpa using this
def CScope.c(a:CScope X scope):∀x∈scope.names,x.2≠.cell:=λx b e=>by
 have:=List.all_eq_true.mp a.nocell x b;rw[e]at this;exact Zf this
def CScope.f(a:CScope X scope):∀y∈scope.names,y.2=.free->X.env.kindOf y.1=S .cell\/X.env.kindOf y.1=S .free:=λx b e=>by
 have:=List.all_eq_true.mp a.free x b;rw[e]at this;simpa[Env.kindOf]using this
def Wa{P:Value->Addr->Result->Shared->Prop}(a:CScope X scope)(p:Caps X scope caps)(Q:∀c d,Inv X pins U H c->(∀b∈d,b<c.heap.objs.size/\JI X pins H b)->TurnX (X.comp (cN own caps) scope c H d) tg UQ fp it tn)
  (hg:∀c r d,PG (X.comp (cN own caps) scope c r d) tg g) (ht:∀c r d,ZJ (X.comp (cN own caps) scope c r d) ifs tc) (he:∀c r d,PE (X.comp (cN own caps) scope c r d) elt te)
  (I:Inv X pins U H s2) (T:Turn X.prog X.w X.K tg UQ fp it tn) (st:tn 0 s2.heap) (O:∀b∈fp,JI X pins H b)
  (w:∃W,(∃m,W 0 m [] H)/\Qm own.length UQ (Vn own caps U) g tc te Qv W)
  (M:∀D C u n m,Inv X pins U n u->u.heap.Ns C m->JI X pins n C->Qv (.ref D) n->P (.ref D) C (.ok .next) u):
  wpAny Sz X.A (newList []) (λs c=>wpAny Sz X.A (newFunctionEnv scope X.env.globals (zq X.env scope.names []) [] X.env.qual J .none (S X.env)) (λi s4=>
   codeAny Sz X.A (.compStart (.ListComp elt [#[tg,iter,ifs,0]] scope pos) 0 (.ref it) s {i with scope:=relabel scope X.env}) (P s i.locals) s4) E c) E s2:=by
 let ja W u0 l:=w;let q m0 w0:=u0;refine vTa (wpAny_newFunctionEnv a.c Sx (λh1 A N=>?_) a.kind);have k:∀b∈fp,b<s2.heap.objs.size:=λb f=>by
  let ja o e _:=T.obj _ _ st b f;exact wLa e
 let c:={s2 with heap:=s2.heap.push {cls:=.type "list",dict:=J,data:=.seq ([]).toArray} }
 have e3:c.heap.objs.size=s2.heap.objs.size+1:=Heap.size_push ..;have y:Inv X _ U H c:=I.kept λb o e=>wIa _ e;have v:=I.fpOk (wPa _) (I.hok.fresh (wPa _));have F:=λb o e=>N.extBut b o (wTa (wLa e)) (wIa _ e);have x:s2.heap.objs.size<c.heap.objs.size:=by simp_all
 have j:=λb f=>Nat.lt_trans (k b f) x;have I4:Inv (X.comp (cN own caps) scope c H (s2.heap.objs.size::fp)) [] (Vn own caps U) H {c with heap:=h1,toks:=s2.toks+([]:L (Str×Value)).length}:=by
  refine wk a.c a.kind a.f p y (λb f=>?_) A F;rcases uTa f with z|z
  ·rw[z];exact#[x,v]
  ·simp_all
 have t:=T.keep _ _ _ st λb f o e=>F b o (wIa _ e);have g4:=F _ _ (wJa _ rfl);have h:=EO (C:=0) (iter:=iter) (pos:=pos) (Q c _ y (λb f=>(uTa f).elim (λz=>by rw[z];exact#[x,v]) λz=>#[j b z,O b z])) hg ht he y x v (λz=>wUa _ (k _ z)) j O T l _ (λu ⟨n,m,R,a2,a3,Z⟩=>M _ _ u n m R a2 a3 Z) m0
  _ #[0,[],H,[],0,I4,t,λb f=>(O b f).1,v.1,g4,.nil,w0]
 exact codeAny_compStart_list h (T.self _ 0 _ _ _ t h)
abbrev Dy(own:L Str)(caps:Tv)(a:TI)(g:TG)(tc:TT)(te:TE):TE:=λU H Q=>a U H λUQ b=>∃W,(∃m,W 0 m [] b)/\Qm own.length UQ (Vn own caps U) g tc te Q W
def M4(own caps)(a:CScope X scope)(i:Caps X scope caps)(u:X.calm=B)(hi:PI X tg iter l)
  (W:∀d f c,PG (X.comp (cN own caps) scope d f c) tg g) (R:∀d f c,ZJ (X.comp (cN own caps) scope d f c) ifs tc) (P:∀d f c,PE (X.comp (cN own caps) scope d f c) elt te)
  (t:∀x,foldedSetIterable iter X.env x=pure x:=by intro _;rfl):PE X (.ListComp elt [#[tg,iter,ifs,0]] scope pos) (Dy own caps l g tc te):=by
 intro pins s U H Q I h;refine wpAny_comprehension_free rfl t (kX λy n e=>I.ok.has _ (a.f y n e)) a.kind a.l (jM (hi _ s U H _ I h) λxv s1 Z=>jM Z λitv s2 h2=>?_);let Jw it fp tn UQ H2 e r T st v0:=h2;let q k w:=v0;subst e;refine Wa a i (λd c _ _=>Turn.at T u) W R P r T st k w ?_;intro D C s' v m M O j q;refine#[m,O,λh' sb=>#[.ref D,v,?_,rfl,q]];let Jy N A k p f4 z:=j;exact M.turned (λb o F e=>(sb.2 b F).trans e) N A p f4 z
set_option tactic.hygienic true in
theorem Qo(own caps)(hN:X.N.Nodup)(p:X.N[i]?=S x)(hx:Uw X.env.scope x)(c:CScope X scope)(n:Caps X scope caps)(W:X.calm=B)(hi:PI X tg iter wi)
  (Q:∀f j d,PG (X.comp (cN own caps) scope f j d) tg g) (ht:∀f j d,ZJ (X.comp (cN own caps) scope f j d) ifs tc) (he:∀f j d,PE (X.comp (cN own caps) scope f j d) elt te)
  (P:∀x,foldedSetIterable iter X.env x=pure x:=by intro _;rfl)
  (u:swapsWith (.ListComp elt [#[tg,iter,ifs,0]] scope pos) (S (.Name x k)) l.line X.env=pure B:=by rfl) (hf:X.fn x=B\/X.env.scope.names.lookup x=S .local:=by first|exact .inl _|exact .inr _|assumption):
  PS X (.Assign [.Name x k] (.ListComp elt [#[tg,iter,ifs,0]] scope pos) l) (Y2 (Dy own caps wi g tc te) (yZ i)):=by
 intro pins s U H D I h;rw[exec_Assign_Name_used _ _ _ _ u];refine wAa (vOa (wAa ?_));refine wAa (wCa (wpAny_comprehension_free rfl P (kX λy hy e=>I.ok.has _ (c.f y hy e)) c.kind c.l
  (jM (hi _ s U H _ I h) λxv s1 h1=>jM h1 λitv s2 Z=>?_)) (λ_ s' hq=>wBa (wBa hq)) λ_ _ e=>e)
 let Jw it fp tn UQ H2 e I2 T st x0:=Z;let q N w:=x0;subst e;refine Wa c n (λf d _ _=>Turn.at T W) Q ht he I2 T st N w ?_;intro A C s' H' m I' hn F q;let Jy f0 f1 N O M R:=F;refine wpAny_assign_Name (GF (v:=.ref A) I' hN p hx rfl (λs'' r v=>?_) hf);let ja a sb ha:=v;have aC:C≠a:=by
  rcases ha with z|z
  ·lia
  ·exact λe=>M x a z e.symm
 refine#[m,hn.sameBut sb aC,λh' t=>#[_,H',?_,q]];exact r.turned (λb o hb e=>(t.2 b hb).trans e) f0 f1 O M R
end
inductive Sk where
 |l|t
abbrev Gj(K:uXa):Sk->Hp->Addr->L V->Prop
 |.l=>Jk K
 |.t=>yN K
abbrev JM:Sk->Heap->Addr->Array Value->Prop
 |.l,h,a,b=>h.IsList a b
 |.t,h,a,b=>h.IsTuple a b
abbrev JW:Sk->Heap->Addr->Addr->Nat->Prop
 |.l,h,b,a,i=>h.IsListIter b a i
 |.t,h,b,a,i=>h.IsTupleIter b a i
def JM.at{h h' a vs}(x:JM k h a vs)(e:∀o,h.get? a=S o->h'.get? a=S o):JM k h' a vs:=by
 cases k
 ·exact Heap.IsList.at x e
 ·let ja o b r:=x;exact#[o,e o b,r]
def JW.at{h h' b a i}(x:JW k h b a i)(e:∀o,h.get? b=S o->h'.get? b=S o):JW k h' b a i:=by
 cases k<;>(let ja o c r:=x;exact#[o,e o c,r])
def JW.obj(x:JW k h c a i):∃o,h.get? c=S o/\∀v,o.data≠.cell v:=by
 cases k<;>(let jw o b _ d:=x;exact#[o,b,λv z=>by lia])
def JM.lt(x:JM k h a vs):a<h.objs.size:=by
 cases k<;>(let ja o b _:=x;exact wLa b)
section
variable{prog:Program}{w:World}{A:Around}{E:Tz}{s:Shared}{it a:Addr}{i:Nat}{its:Array Value}{x:Value}
def qD(e:s.heap.IsTupleIter it a i)(j:s.heap.IsTuple a its)(h:its[i]?=S x)
  (l:∀f,f.IsTupleIter it a (i+1)->Heap.SameBut it s.heap f->Q x {s with heap:=f}):wpAny Sr A (Builtin.SmallTypes.nextOf (.ref it)) Q E s:=by
 let jw o c k b:=id e;let Yn m d _ p g:=j;refine wAa (wpAny_callSpecial?_slot e.typeIs F.slot_tuple_iterator_next (wpAny_call_entry F.slot_tuple_iterator_next e.typeIs F.entry_tuple_iterator_next ?_ (F.args_tuple_iterator_next_1 _)));show wpAny _ _ (field _ 0 >>= _) _ _ s;refine wAa (wpAny_field c b rfl ?_);have n:¬((Value.ref a==Value.none)=B):=vNa;refine wAa (wpAny_field c b rfl ?_);refine wAa (wpAny_seqItems d g ?_);simp only[Int.toNat_natCast,h];refine wAa (wpAny_setField c b Sx (wBa #[x,rfl,wBa (l _ #[_,vUa _ c (Obj.isFreed_of_fields (Obj.data_mapFields b _)),(Obj.cls_mapFields ..).trans k,?_] (Heap.SameBut.update ..))]));rw[Obj.data_mapFields b];simp[rawInt]
def Qp(j:A.handled=J)(h:s.heap.IsTupleIter it a i)(l:s.heap.IsTuple a its)(m:its[i]?=J)
  (k:∀g e,Heap.ExtBut it s.heap g->(∃o,g.get? e=S o/\o.cls=.type "StopIteration")->E (.ref e) {s with heap:=g}):wpAny Sr A (Builtin.SmallTypes.nextOf (.ref it)) Q E s:=by
 let jw o d n f:=id h;let Yn t b _ p c:=l;refine wAa (wpAny_callSpecial?_slot h.typeIs F.slot_tuple_iterator_next (wpAny_call_entry F.slot_tuple_iterator_next h.typeIs F.entry_tuple_iterator_next ?_ (F.args_tuple_iterator_next_1 _)));show wpAny _ _ (field _ 0 >>= _) _ _ s;refine wAa (wpAny_field d f rfl ?_);have r:¬((Value.ref a==Value.none)=B):=vNa;refine wAa (wpAny_field d f rfl ?_);refine wAa (wpAny_seqItems b c ?_);simp only[Int.toNat_natCast,m];refine wAa (wpAny_rule (wAa (wpAny_setField d f Sx ?_)));refine wAa ?_;refine wAa (vTa ?_ (by size_fits));refine wAa (wpAny_of_eq rfl (vTa ?_ (by size_fits)));refine wAa (wpAny_handled ?_)
 first|rw[show A.in1.handled=J from j]|rw[j]
 exact wAa (wBa (wpAny_throw (k _ _ (((Heap.SameBut.update ..).extBut.push _).push _) #[_,wJa _ rfl,rfl])))
def GL{Q}(e:JW k s.heap it a i)(d:JM k s.heap a its)(f:its[i]?=S x)
  (c:∀b,JW k b it a (i+1)->Heap.SameBut it s.heap b->Q x {s with heap:=b}):wpAny Sr A (Builtin.SmallTypes.nextOf (.ref it)) Q E s:=by
 cases k
 ·exact wpAny_nextOf_list_item e d f c
 ·exact qD e d f c
def Qq(f:A.handled=J)(g:JW k s.heap it a i)(d:JM k s.heap a its)(h:its[i]?=J)
  (c:∀b e,Heap.ExtBut it s.heap b->(∃o,b.get? e=S o/\o.cls=.type "StopIteration")->E (.ref e) {s with heap:=b}):wpAny Sr A (Builtin.SmallTypes.nextOf (.ref it)) Q E s:=by
 cases k
 ·exact wpAny_nextOf_list_end f g d h c
 ·exact Qp f g d h c
abbrev wl(k:Sk)(a:Addr):Obj:={cls:=.type (match k with|.l=>"list_iterator" |.t=>"tuple_iterator"),data:=.fields #v[.ref a,.int 0 0]}
def wm(e:h.get? it=S (wl k a)):JW k h it a 0:=by
 cases k<;>exact#[_,e,rfl,rfl]
def XV(c:JM k s.heap a its)(b:Q (.ref s.heap.objs.size) {s with heap:=s.heap.push (wl k a)}):wpAny Sr A (pyIter (.ref a)) Q E s:=by
 cases k
 ·exact wpAny_pyIter_list c b
 ·exact wpAny_pyIter_tuple c b
end
noncomputable abbrev iq(k)(h:Heap)(a:Addr):=h.push (wl k a)
noncomputable abbrev Dz(k j)(h:Heap)(a b:Addr):=(iq k h a).push (wl j b)
noncomputable abbrev ir(k j h a b):=(Dz k j h a b).push {cls:=.type "tuple",data:=.seq #v[.ref h.objs.size,.ref (iq k h a).objs.size]}
noncomputable abbrev iu(k j)(h:Heap)(a b:Addr):=(ir k j h a b).push {cls:=.type "tuple",data:=.seq #v[.none,.none]}
noncomputable abbrev B5(k j h)(a b:Addr):=(iu k j h a b).push {cls:=.type "zip",data:=.fields #v[.none,.bool G,.bool G,.ref (Dz k j h a b).objs.size,.ref (ir k j h a b).objs.size]}
def qF(k j:Sk)(a b p i):
  Meets (Builtin.«zip.__new__» #[[.type "zip",.ref a,.ref b],[]]) (λ_ R s=>JM k s.heap a p/\JM j s.heap b i/\R (.ok (.ret (.ref (iu k j s.heap a b).objs.size))) {s with heap:=B5 k j s.heap a b}):=
 .of_wp λl w A R s h=>by
  let q n g d u os:=s;let Yk r t h:=h;have m:=sub_zip;have c:=r;have f:JM j (Shared.heap #[n.push (wl k a),g,d,u,os]) b i:=t.at λo e=>wIa _ e
  wp_walk using XV c,XV f
  exact#[_,rfl,h]
section
variable{prog:Program}{w:World}{A:Around}{E:Tz}{s:Shared}
def C7(H:JM k s.heap a C)(y:JM j s.heap b v)
  (h:∀d,IsZip d (s.heap.objs.size+4) (s.heap.objs.size+2) (s.heap.objs.size+3) .none->IsPair d (s.heap.objs.size+2) (.ref s.heap.objs.size) (.ref (s.heap.objs.size+1))->
   IsPair d (s.heap.objs.size+3) .none .none->JW k d s.heap.objs.size a 0->JW j d (s.heap.objs.size+1) b 0->
   (∀c o,s.heap.get? c=S o->d.get? c=S o)->Q (.ref (s.heap.objs.size+4)) {s with heap:=d}):
  wpAny Sr A (call (.type "zip") [.ref a,.ref b]) Q E s:=by
 refine callType_new F.called_zip rfl (F.typeCall_zip_2 _ _) (F.newCall_zip_2 _ _) (λz=>F.args_object_init_3 _ _ _) F.entry_zip_new (qF k j a b C v) #[H,y,?_];have r:(iq k _ a).objs.size=s.heap.objs.size+1:=Heap.size_push ..;have t:(Dz k j s.heap a b).objs.size=s.heap.objs.size+2:=by simp
 have i:(ir k j s.heap a b).objs.size=s.heap.objs.size+3:=by simp_all
 have p:(iu k j s.heap a b).objs.size=s.heap.objs.size+4:=by rw[Heap.size_push,i]
 have g:∀c o,(Dz k j _ a b).get? c=S o->(B5 k j s.heap a b).get? c=S o:=λc o e=>wIa _ (wIa _ (wIa _ e));have f:(B5 k j s.heap a b).get? _=S _:=wJa _ rfl;have n:(B5 k j s.heap a b).get? _=S _:=wIa _ (wJa _ rfl);have l:(B5 k j s.heap a b).get? _=S _:=wIa _ (wIa _ (wJa _ rfl));have m:=g _ _ (wJa _ rfl);have u:=g _ _ (wIa _ (wJa _ rfl));rw[t,i,p]at f;rw[r,t]at l;rw[i]at n;rw[r]at m;rw[p];exact#[#[_,f,rfl],h _ f l n (wm u) (wm m) λc o x=>g c o (wIa _ (wIa _ x))]
variable{z TI TO i1 i2 a b:Addr}{k j:Sk}{n1 n2:Nat}{xs ys:Array Value}{x y:Value}
def C8{Q:Tz}(D:ZipApart z TI TO i1 i2 a b)(g:IsZip s.heap z TI TO .none)(T:IsPair s.heap TI (.ref i1) (.ref i2))(N:IsPair s.heap TO u v)
  (h1:JW k s.heap i1 a n1) (h2:JW j s.heap i2 b n2) (ha:JM k s.heap a xs) (hb:JM j s.heap b ys) (hx:xs[n1]?=S x) (hy:ys[n2]?=S y)
  (hQ:∀f,IsZip f z TI TO (rawInt s.heap.objs.size)->IsPair f TO x y->JW k f i1 a (n1+1)->JW j f i2 b (n2+1)->IsPair f s.heap.objs.size x y->
   (∀c o,c≠z->c≠TO->c≠i1->c≠i2->s.heap.get? c=S o->f.get? c=S o)->Q (.ref s.heap.objs.size) {s with heap:=f}):
  wpAny Sr A (Builtin.«zip.__next__» #[[.ref z],[]]) (λUQ s'=>∃v,UQ=.done (.ret v)/\Q v s') E s:=by
 show wpAny _ _ (field _ 2 >>= _) _ _ _;refine wAa (wpAny_field g rfl (x:=.bool _) rfl ?_);refine wAa (wpAny_field g rfl rfl (wAa (wpAny_seqItems T rfl ?_)));refine wAa ?_;refine wAa (wpAny_field g rfl rfl (wBa ?_));refine wAa (wpAny_rule (wAa (wpAny_field g rfl rfl (wAa (wpAny_setField_rec g Sx λg1 z1 Z=>?_)))));refine wAa ?_;simp only[List.zipIdx_cons,List.zipIdx_nil,List.forIn_cons,List.forIn_nil];have I:=λc o l e=>Z.extBut c o l e;refine wAa (wAa (wpAny_onRaise ?_));refine wAa (GL (h1.at λo e=>I _ o D.i1z e) (ha.at λo e=>I _ o D.l1z e) hx λg2 R O=>wBa ?_);have e2:=λc o l M e=>O.extBut c o M (I c o l e);have t2:=e2 _ _ D.TOz D.TOi1 N;refine wAa (wpAny_seqItems t2 rfl (wAa (wpAny_updateSeq_pair t2 λg3 t3 p=>?_)));refine wAa (wpAny_letGo (wBa (wAa (wAa (wpAny_onRaise ?_)))));have F:=λc o l M he e=>p.extBut c o he (e2 c o l M e);refine wAa (GL (h2.at λo e=>F _ o D.i2z D.i12.symm D.TOi2.symm e) (hb.at λo e=>F _ o D.l2z D.l2i1 D.l2TO e) hy λg4 X h=>wBa ?_);have t4:=h.extBut _ _ D.TOi2 t3;refine wAa (wpAny_seqItems t4 rfl (wAa (wpAny_updateSeq_pair t4 λr n i=>?_)))
 replace n:IsPair r TO x y:=n
 refine wAa (wpAny_letGo (wBa (wBa (wAa (wpAny_seqItems n rfl (wAa (wpAny_newTuple ?_)))))));have sz:r.objs.size=s.heap.objs.size:=by rw[i.1,h.1,p.1,O.1,Z.1]
 have z5:=i.extBut _ _ D.TOz.symm (h.extBut _ _ D.i2z.symm (p.extBut _ _ D.TOz.symm (O.extBut _ _ D.i1z.symm z1)));have e5:=λc o d m H P e=>i.extBut _ _ m (h.extBut _ _ P (F c o d H m e));have W:=((R.at λo e=>p.extBut _ o D.TOi1.symm e).at λo e=>h.extBut _ o D.i12 e).at λo e=>i.extBut _ o D.TOi1.symm e;have C:=X.at λo e=>i.extBut _ o D.TOi2.symm e;have lz:=wLa z5;refine wAa ?_;have z6:IsZip (r.push {cls:=.type "tuple",data:=.seq #v[x,y]}) z TI TO _:=wIa _ z5;refine wAa (wpAny_setField_rec z6 Sx λg7 z7 s7=>?_);refine wpAny_setField_rec z7 Sx λg8 z8 s8=>?_;have t:∀c o,c≠z->r.get? c=S o->g8.get? c=S o:=λc o d e=>s8.extBut _ _ d (s7.extBut _ _ d (wIa _ e));have t8:=s8.extBut _ _ (Nat.ne_of_gt lz) (s7.extBut _ _ (Nat.ne_of_gt lz) (wJa _ rfl));rw[sz]at z8 t8;refine wBa #[_,rfl,?_];rw[sz];exact hQ g8 z8 (t _ _ D.TOz n) (W.at λo e=>t _ o D.i1z e) (C.at λo e=>t _ o D.i2z e) t8 λc o d m H P e=>t c o d (e5 c o d m H P e)
theorem C9{Q}(P:A.handled=J)(D:ZipApart z TI TO i1 i2 a b)(m:IsZip s.heap z TI TO .none)(N:IsPair s.heap TI (.ref i1) (.ref i2))(r:IsPair s.heap TO u v)
  (h1:JW k s.heap i1 a n1) (h2:JW j s.heap i2 b n2) (ha:JM k s.heap a xs) (hb:JM j s.heap b ys) (hend:xs[n1]?=J\/ys[n2]?=J)
  (O:∀F e,(∀c o,c≠z->c≠TO->c≠i1->c≠i2->s.heap.get? c=S o->F.get? c=S o)->(∃o,F.get? e=S o/\o.cls=.type "StopIteration")->E (.ref e) {s with heap:=F}):
  wpAny Sr A (Builtin.«zip.__next__» #[[.ref z],[]]) Q E s:=by
 show wpAny _ _ (field _ 2 >>= _) _ _ _;refine wAa (wpAny_field m rfl (x:=.bool _) rfl ?_);refine wAa (wpAny_field m rfl rfl (wAa (wpAny_seqItems N rfl ?_)));refine wAa ?_;refine wAa (wpAny_field m rfl rfl (wBa ?_));refine wAa (wpAny_rule (wAa (wpAny_field m rfl rfl (wAa (wpAny_setField_rec m Sx λg1 UQ s1=>?_)))));refine wAa ?_;simp only[List.zipIdx_cons,List.zipIdx_nil,List.forIn_cons,List.forIn_nil];have g:=λc o i e=>s1.extBut c o i e;refine wAa (wAa (wpAny_onRaise ?_));cases W:xs[n1]? with
 |none=>
  refine wAa (Qq P (h1.at λo e=>g _ o D.i1z e) (ha.at λo e=>g _ o D.l1z e) W λX e l p=>?_);let ja C f d:=p;have z2:IsZip X z TI TO _:=l _ _ D.i1z.symm UQ;have M:e≠z:=λq=>by lia
  exact wpAny_setField_rec z2 Sx λT _ h=>O T e (λc o n _ I _ q=>h.extBut _ _ n (l _ _ I (g _ _ n q))) #[C,h.extBut _ _ M f,d]
 |some x=>
  have hy:ys[n2]?=J:=by lia
  refine wAa (GL (h1.at λo e=>g _ o D.i1z e) (ha.at λo e=>g _ o D.l1z e) W λX it2 l=>wBa ?_);have e2:=λc o i H e=>l.extBut c o H (g c o i e);have t2:=e2 _ _ D.TOz D.TOi1 r;refine wAa (wpAny_seqItems t2 rfl (wAa (wpAny_updateSeq_pair t2 λT t3 h=>?_)));refine wAa (wpAny_letGo (wBa (wAa (wAa (wpAny_onRaise ?_)))));have t:=λc o i H p e=>h.extBut c o p (e2 c o i H e);refine wAa (Qq P (h2.at λo e=>t _ o D.i2z D.i12.symm D.TOi2.symm e) (hb.at λo e=>t _ o D.l2z D.l2i1 D.l2TO e) hy λg4 e Z p=>?_);let ja C f d:=p;have z4:IsZip g4 z TI TO _:=Z _ _ D.i2z.symm (h.extBut _ _ D.TOz.symm (l.extBut _ _ D.i1z.symm UQ));have M:e≠z:=λq=>by lia
  exact wpAny_setField_rec z4 Sx λg5 _ R=>O g5 e (λc o n c2 I c4 q=>R.extBut _ _ n (Z _ _ c4 (t c o n I c2 q))) #[C,R.extBut _ _ M f,d]
def Au{Q}(D:ZipApart z TI TO i1 i2 a b)(g:IsZip s.heap z TI TO .none)(f:IsPair s.heap TI (.ref i1) (.ref i2))(e:IsPair s.heap TO u v)
  (H:JW k s.heap i1 a n1) (N:JW j s.heap i2 b n2) (M:JM k s.heap a xs) (n:JM j s.heap b ys) (t:xs[n1]?=S x) (C:ys[n2]?=S y)
  (O:∀d,IsZip d z TI TO (rawInt s.heap.objs.size)->IsPair d TO x y->JW k d i1 a (n1+1)->JW j d i2 b (n2+1)->IsPair d s.heap.objs.size x y->
   (∀c o,c≠z->c≠TO->c≠i1->c≠i2->s.heap.get? c=S o->d.get? c=S o)->Q (S (.ref s.heap.objs.size)) {s with heap:=d}):
  wpAny Sr A (pyNext (.ref z)) Q E s:=by
 have h:s.TypeIs (.ref z) "zip":= #[_,g,rfl]
 exact wAa (wpAny_attempt (wpAny_callSpecial?_slot h F.slot_zip_next (wpAny_call_entry F.slot_zip_next h F.entry_zip_next
   (C8 D g f e H N M n t C λd i I m p l r=>wBa (O d i I m p l r)) (F.args_zip_next_1 _))))
def B6{Q}(I:A.handled=J)(D:ZipApart z TI TO i1 i2 a b)(i:IsZip s.heap z TI TO .none)(h:IsPair s.heap TI (.ref i1) (.ref i2))(f:IsPair s.heap TO u v)
  (t:JW k s.heap i1 a n1) (N:JW j s.heap i2 b n2) (r:JM k s.heap a xs) (H:JM j s.heap b ys) (d:xs[n1]?=J\/ys[n2]?=J)
  (m:∀g,(∀c o,c≠z->c≠TO->c≠i1->c≠i2->s.heap.get? c=S o->g.get? c=S o)->Q J {s with heap:=g}):wpAny Sr A (pyNext (.ref z)) Q E s:=by
 have l:s.TypeIs (.ref z) "zip":= #[_,i,rfl]
 refine wAa (wpAny_attempt (wpAny_callSpecial?_slot l F.slot_zip_next (wpAny_call_entry F.slot_zip_next l F.entry_zip_next (C9 I D i h f t N r H d λg e C M=>?_) (F.args_zip_next_1 _))));let ja o p n:=M;exact wAa (wpAny_isInstance #[o,p,n] isSubtype_stop (wBa (m _ C)))
end
def Inv.turnedL{g:L Addr}(I:Inv X a p H s)(d:∀b∈g,JI X a H b)(k:∀c o,c∉g->s.heap.get? c=S o->y.get? c=S o):Inv X a p H {s with heap:=y,toks:=t'}:=by
 have h:∀b u,H b=S u->b∉g:=λb u e z=>by rw[(d b z).1]at e;exact Zn e
 refine I.step (λb F=>?_) (λb o _ _ f e _=>k b o f e) (λb o _ _ f e _=>#[_,k b o f e]) (λ_ _ _ _ n=>n)
  (λb o f e=>#[o,k b o f e]) (λ_ _ e=>e) (λ_ _ _ e=>e) (λb M e=>#[#v[],by rw[e];simp]) (λm i=>?_) (λb u e=>?_) I.bare
 ·let Jy N j O w x A:=d b F;exact#[w,j,x,A]
 ·let vG o C t l r:=i;exact#[o,C,t,k _ o (λz=>(d _ z).2.1 rfl) l,r]
 ·refine(I.hok b u e).stay (λc v f q=>k c v ?_ q) (λ_ q=>q) λ_ _ _ q=>q;rcases f with z|z
  ·simp_all
  ·exact h c _ z
def Inv.tupled{i:L Addr}{T:Addr}{vs l}(I:Inv X a Q H s)(t:T=s.heap.objs.size)(f:∀b∈i,JI X a H b)(k:∀c o,c∉i->s.heap.get? c=S o->p.get? c=S o)
  (r:jB vs l) (C:vs.length<=sizeLine) (O:IsTup p T l.toArray):Inv X a Q (upd H T (.tup vs)) {s with heap:=p,toks:=t'}:=by
 have j:∀b u,H b=S u->b∉i:=λb u e z=>by rw[(f b z).1]at e;exact Zn e
 have R:∀b o,s.heap.get? b=S o->b≠T:=λb o e=>by rw[t];exact wTa (wLa e)
 have g:H T=J:=by rw[t];exact I.hok.fresh (wPa _)
 refine I.step (λb h=>?_) (λb o _ _ d e _=>k b o d e) (λb o _ _ d e _=>#[_,k b o d e]) (λb o _ e n=>by rw[jp (R b o e)];exact n)
  (λb o d e=>#[o,k b o d e]) (λb M e=>by rw[jp (jU e g)];exact e) (λb o u e=>by rw[jp (jU e g)];exact e) (λb ps e=>#[#v[],by rw[jp (jU e g),e];simp]) (λm A=>?_) (λb u e=>?_) I.bare
 ·let Jy W y Z P w x:=f b h;exact#[P,y,w,x]
 ·let vG o UQ N F r:=A;exact#[o,UQ,N,k _ o (λz=>(f _ z).2.1 rfl) F,r]
 ·by_cases h:b=T
  ·subst h;rw[jz]at e;obtain rfl:=Zj e;exact#[C,l,r,O]
  ·rw[jp h]at e;refine(I.hok b u e).stay (λc v d q=>k c v ?_ q) (λc q=>by rw[jp (jU q g)];exact q) λc M _ q=>by rw[jp (jU q g)];exact q
   rcases d with z|z
   ·simp_all
   ·exact j c _ z
def Inv.seqK(I:Inv X d e H s)(h:Gj X.K k H a c):∃b ,jB c b/\JM k s.heap a b.toArray/\c.length<=sizeLine:=by
 cases k
 ·let jw b r p z:=I.list h;exact#[b,r,p.isList,z]
 ·let jw b r p z:=I.tuple h;exact#[b,r,p,z]
def Inv.seqK_inj(I:Inv X c f H s)(h:Gj X.K k H a e)(b:Gj X.K k H a d):e=d:=by
 cases k
 ·exact I.list_inj h b
 ·exact I.tuple_inj h b
def GM:2<=sizeLine:=by decide
abbrev N6(K:uXa)(k j:Sk)(a b:Addr):It:=
 #[λi H=>∃c d x y,Gj K k H a c/\Gj K j H b d/\c[i]?=S x/\d[i]?=S y,
  λi H v e=>∃p,H p=J/\v=.ref p/\∀c d x y,Gj K k H a c->Gj K j H b d->c[i]?=S x->d[i]?=S y->e=upd H p (.tup [x,y]),
  λi H=>∃c d,Gj K k H a c/\Gj K j H b d/\(c.length<=i\/d.length<=i)]
def Ca{K es}{x1:Nat}{tp:Pos}{k j:Sk}{a b z TI TO A t:Addr}(D:ZipApart z TI TO A t a b):
  Turn P w K (.Tuple es x1 tp) (N6 K k j a b) [z,TI,TO,A,t] z (λi h=>IsZip h z TI TO .none/\IsPair h TI (.ref A) (.ref t)/\(∃u v,IsPair h TO u v)/\JW k h A a i/\JW j h t b i) where
 mem:=by simp
 obj:=λi h st c d=>by
  let yY m g u0 l f:=st;let q u v p:=u0;simp only[List.mem_cons,List.not_mem_nil,or_false]at d;rcases d with rfl|rfl|rfl|rfl|rfl
  ·simp_all
  ·simp_all
  ·simp_all
  ·exact l.obj
  ·exact f.obj
 keep:=λi h h' st N=>by
  let yY m g v0 l f:=st;let q u v p:=v0;exact#[N z Sx _ m,N TI Sx _ g,#[u,v,N TO Sx _ p],l.at λo e=>N A Sx o e,f.at λo e=>N t Sx o e]
 item:=by
  intro X hP W Z d i n s U H E I R st T;subst hP W Z;let yY m g w0 l f:=st;let q u v p:=w0;let YI xs ys x y Q O ex ey:=T;let jw ia ra pa _:=I.seqK Q;let jw ib rb pb _:=I.seqK O;let ja ux UQ rx:=ra.get ex;let ja uy euy ry:=rb.get ey;refine Au D m g p l f pa pb (y:=uy) (by simpa using UQ) (by simpa using euy) λh' b1 b2 b3 b4 b5 bk=>?_;refine#[_,rfl,wpAny_letOwnedTupleGo_zip b1 λh2 c1 C=>?_];have F4:∀c∈[z,TO,A,t],JI X n H c:=λc d=>R c (by
   simp only[List.mem_cons,or_false]at d⊢;rcases d with q|q|q|q
   ·exact .inl q
   ·exact .inr (.inr (.inl q))
   ·simp_all
   ·simp_all)
  have kp:∀c o,c∉[z,TO,A,t]->s.heap.get? c=S o->h2.get? c=S o:=λc o d e=>by
   simp only[List.mem_cons,List.not_mem_nil,or_false,not_or]at d;exact C.extBut c o d.1 (bk c o d.1 d.2.1 d.2.2.1 d.2.2.2 e)
  have nz:=Nat.ne_of_gt (wLa m);have ht:IsTup h2 _ _:=#[_,C.extBut _ _ nz b5,rfl,_,rfl]
  have I2:=I.tupled (t':=s.toks) rfl F4 kp (.cons rx (.cons ry .nil)) GM ht;refine#[.ref _,_,I2,rfl,#[_,I.hok.fresh (wPa _),rfl,λxs' ys' x' y' qa' qb' M F=>?_],#[c1,kp _ _ (by simp[D.TIz,D.TITO,D.TIi1,D.TIi2]) g,#[ux,uy,C.extBut _ _ D.TOz b2],b3.at λo e=>C.extBut _ o D.i1z e,b4.at λo e=>C.extBut _ o D.i2z e],λc d=>?_]
  ·rw[I.seqK_inj qa' Q,ex]at M;rw[I.seqK_inj qb' O,ey]at F;obtain rfl:=Zj M;obtain rfl:=Zj F;rfl
  ·have q:=(R c d).1;rw[jp ?_]
   ·exact q
   ·intro e;have:c<s.heap.objs.size:=by
     simp only[List.mem_cons,List.not_mem_nil,or_false]at d;rcases d with rfl|rfl|rfl|rfl|rfl
     ·exact wLa m
     ·exact wLa g
     ·exact wLa p
     ·let ja o e _:=l.obj;exact wLa e
     ·let ja o e _:=f.obj;exact wLa e
    rw[e]at this;exact wUa _ this
 done:=by
  intro X hP W Z d i n s U H E I R st T;subst hP W Z;let yY m g x0 l f:=st;let q u v p:=x0;let jc xs ys Q O hend:=T;let jw ia ra pa _:=I.seqK Q;let jw ib rb pb _:=I.seqK O;have la:=ra.length;have lb:=rb.length;have r:ia.toArray[i]?=J\/ib.toArray[i]?=J:=by simp_all
  refine B6 (I.ok.hd d) D m g p l f pa pb r λh' bk=>#[rfl,?_]
  refine I.turnedL R λc o d e=>?_;simp only[List.mem_cons,List.not_mem_nil,or_false,not_or]at d;exact bk c o d.1 d.2.2.1 d.2.2.2.1 d.2.2.2.2 e
 self:=λ_ _ _ _ _ st h=>wpAny_pyIter_zip st.1 h
def jf.tup{K H b a c}(e:jf H b)(h:yN K H a c):yN K b a c:=by
 rcases h with(h|⟨o,h⟩)|h
 ·exact .inl (.inl (e _ _ h))
 ·exact .inl (.inr #[o,e _ _ h])
 ·exact .inr h
def Cb(hc:X.calm=B):zQ X (.builtin "all") (λz H Q=>∃(p:Addr) (a:L Bool),z=[.ref p]/\Jk X.K H p (a.map V.bl)/\Q (.bl (a.all id)) H):=by
 intro y s U H z us Q I r h;let jc p a rfl M q:=h;cases r with
 |cons r UQ=>
  cases UQ;subst r;let jw j t n hz:=I.list M;refine call_all_walk (wpAny_pyIter_list n.isList ?_);have A:p<s.heap.objs.size:=by let ja o P _:=n.isList;exact wLa P
  have f:j.length=a.length:=by have:=t.length;simp at this;lia
  refine#[_,_,_,_,_,_,λi=>(a[i]?).getD B,rfl,Walks.list (A:=X.A.in1) (I.ok.hd hc) _ p (wTa A) _,#[#[_,wJa _ rfl,rfl,rfl],Heap.IsList.at n.isList λo e=>wIa _ e],?_,λh' F R=>?_]
  ·intro i v Z N E' k d;have k:j[i]?=S v:=by simpa using k
   have g:i<a.length:=by rw[<-f];exact(uSa k).1
   let ja u w ru:=t.get (i:=i) (x:=V.bl a[i]) Sx;rw[k]at w;obtain rfl:=Zj w;subst ru;have T:(a[i]?).getD B=a[i]:=by simp[g]
   have d:N ((a[i]?).getD B) Z:=d;rw[T]at d;exact wpAny_truthy_bool d
  ·have e:((List.range j.toArray.size).all λi=>(a[i]?).getD B)=a.all id:=by
    rw[uLa,f,Bool.eq_iff_iff];simp only[List.all_eq_true,List.mem_range];constructor
    ·intro m x W;let q i g rfl:=List.mem_iff_getElem.mp W;have:=m i g;simpa[g]using this
    ·intro m i g;have:=m a[i] (List.getElem_mem g);simpa[g]using this
   rw[e];have O:=I.turnedL (t':=F) (λb C=>by
    have e:b=s.heap.objs.size:=by simpa using C
    subst e;exact I.fpOk (wPa _) (I.hok.fresh (wPa _))) (λc o l e'=>R c o l (wIa _ e'))
   exact#[.bl _,H,O,rfl,q]
inductive Kd where
 |i|b|s|l|t
abbrev Cd(K:uXa)(H:Hp):V->Kd->Prop
 |.int _,.i=>True
 |.bl _,.b=>True
 |.str _,.s=>True
 |.ref a,.l=>∃b,Jk K H a b
 |.ref a,.t=>∃b,yN K H a b
 |_,_=>False
@[simp]abbrev Gk:Kd->Nat
 |.i=>0|.b=>1|.s=>2|.l=>3|.t=>4
abbrev wo(k T):=if T ="int" then S (Gk k==0||Gk k==1)else if T ="bool" then S (Gk k==1)else if T ="str" then S (Gk k==2)else if T ="list" then S (Gk k==3)else if T ="tuple" then S (Gk k==4)else J
def GN(h:wo k T=S b):(T ="int"/\(Gk k==0||Gk k==1)=b)\/(T ="bool"/\(Gk k==1)=b)\/(T ="str"/\(Gk k==2)=b)\/(T ="list"/\(Gk k==3)=b)\/(T ="tuple"/\(Gk k==4)=b):=by
 unfold wo at h;by_cases e:T ="int"
 ·rw[if_pos e]at h;exact .inl #[e,vFa h]
 rw[if_neg e]at h;by_cases c:T ="bool"
 ·rw[if_pos c]at h;exact .inr (.inl #[c,vFa h])
 rw[if_neg c]at h;by_cases a:T ="str"
 ·rw[if_pos a]at h;exact .inr (.inr (.inl #[a,vFa h]))
 rw[if_neg a]at h;by_cases d:T ="list"
 ·rw[if_pos d]at h;exact .inr (.inr (.inr (.inl #[d,vFa h])))
 rw[if_neg d]at h;by_cases f:T ="tuple"
 ·rw[if_pos f]at h;exact .inr (.inr (.inr (.inr #[f,vFa h])))
 rw[if_neg f]at h;exact Zn h
abbrev iw(K:uXa):L V->Hp->VK->Prop:=λa H Q=>∃x T k b,a=[x,.ty T]/\Cd K H x k/\wo k T=S b/\Q (.bl b) H
def Ce:zQ X (.builtin "isinstance") (iw X.K):=by
 intro g s v H C A Q I r h;let YI x T k b rfl i j q:=h;cases r with
 |cons r n=>
  cases n with
  |cons w n=>
   cases n;subst w;have a:∀u,EP X g v Q _ _:=λu=>#[.bl b,H,I.tok u,rfl,q]
   have c:EP X g v Q _ s:=#[.bl b,H,I,rfl,q]
   cases k with
   |i=>
    cases x<;>try exact i.elim
    let q t rfl:=r;rcases GN j with⟨rfl,rfl⟩|⟨rfl,rfl⟩|⟨rfl,rfl⟩|⟨rfl,rfl⟩|⟨rfl,rfl⟩
    all_goals(first|exact IsiPair.int_int c|exact IsiPair.int_bool (a _)|exact IsiPair.int_str (a _)|exact IsiPair.int_list (a _)|exact IsiPair.int_tuple (a _))
   |b=>
    cases x<;>try exact i.elim
    subst r;rcases GN j with⟨rfl,rfl⟩|⟨rfl,rfl⟩|⟨rfl,rfl⟩|⟨rfl,rfl⟩|⟨rfl,rfl⟩
    all_goals(first|exact IsiPair.bool_int c|exact IsiPair.bool_bool c|exact IsiPair.bool_str (a _)|exact IsiPair.bool_list (a _)|exact IsiPair.bool_tuple (a _))
   |s=>
    cases x<;>try exact i.elim
    let q t rfl:=r;rcases GN j with⟨rfl,rfl⟩|⟨rfl,rfl⟩|⟨rfl,rfl⟩|⟨rfl,rfl⟩|⟨rfl,rfl⟩
    all_goals(first|exact IsiPair.str_str c|exact IsiPair.str_int (a _)|exact IsiPair.str_bool (a _)|exact IsiPair.str_list (a _)|exact IsiPair.str_tuple (a _))
   |l=>
    cases x<;>try exact i.elim
    cases r;let q z l:=i;let jw m y p _:=I.list l;let jw o d f _:=p.isList;rcases GN j with⟨rfl,rfl⟩|⟨rfl,rfl⟩|⟨rfl,rfl⟩|⟨rfl,rfl⟩|⟨rfl,rfl⟩
    all_goals(first|exact IsiPair.list_list d f c|exact IsiPair.list_int d f (a _)|exact IsiPair.list_bool d f (a _)|exact IsiPair.list_str d f (a _)|exact IsiPair.list_tuple d f (a _))
   |t=>
    cases x<;>try exact i.elim
    cases r;let q z l:=i;let jw m y p _:=I.tuple l;let jw o d f _:=p;rcases GN j with⟨rfl,rfl⟩|⟨rfl,rfl⟩|⟨rfl,rfl⟩|⟨rfl,rfl⟩|⟨rfl,rfl⟩
    all_goals(first|exact IsiPair.tuple_tuple d f c|exact IsiPair.tuple_int d f (a _)|exact IsiPair.tuple_bool d f (a _)|exact IsiPair.tuple_str d f (a _)|exact IsiPair.tuple_list d f (a _))
abbrev EQ(r j b:R2)(m l s g:TE):TE:=λa H Q=>m a H λx i=>l a i λy o=>r x y o λz e=>∃k,z=.bl k/\
 (if k=B then s a e λd h=>j y d h λp c=>∃f,p=.bl f/\(if f=B then g a c λq n=>b d q n Q else Q (.bl G) c)else Q (.bl G) e)
theorem B8(ho:Jh X (compareOp N) r)(m:Jh X (compareOp j) r')(l:Jh X (compareOp g) n)(ha:PE X a W)(hb:PE X b tb)(hc:PE X c tc)(hd:PE X d td)
  (hm:lastMarks [N,j,g] [b,c,d]=G:=by with_unfolding_all rfl):PE X (.Compare a [N,j,g] [b,c,d] pos) (EQ r r' n W tb tc td):=by
 intro f s i H Q I h;refine Compare_chain (jM (ha f s i H _ I h) λv s1 ⟨x,H1,I1,r1,q1⟩=>chain_link (jM (hb f s1 i H1 _ I1 q1) λu s2 ⟨y,H2,I2,p,q2⟩=>
  jM (ho f s2 i H2 x y v u _ I2 r1 p q2) λ_ s3 ⟨z,o,A,r3,k,e,w⟩=>?_)) hm
 subst e;subst r3;refine wpAny_truthy_bool ?_;cases k with
 |false=>exact ite_ff #[.bl G,o,A,rfl,w]
 |true=>
  refine ite_tt (chain_link (jM (hc f s3 i o _ A w) λF Z ⟨O,H4,I4,M,q4⟩=>jM (m f Z i H4 y O u F _ I4 p M q4) λ_ s5 xx=>?_));let jc z5 t C r5 u0:=xx;let ja k5 rfl P:=u0;subst r5;refine wpAny_truthy_bool ?_;cases k5 with
  |false=>exact ite_ff #[.bl G,t,C,rfl,P]
  |true=>exact ite_tt (chain_last (jM (hd f s5 i t _ C P) λT s6 ⟨z6,H6,I6,r6,R⟩=>l f s6 i H6 O z6 F T Q I6 M r6 R))
section
open PySem.SeqAt
end
structure FnI (P w K mg base k x ps sp) where
 ex:∃f fd,FnOk P w K mg base Y9 k f fd ps sp/\JP K fd ps []/\PySem.W.keepIn K (.ref f)=B/\mg x=S (.ref f)
structure MtI (P w K mg base k C m ps sp) where
 ex:∃f fd,FnOk P w K mg base Y9 k f fd ps sp/\JP K fd ps []/\Meth K C m f
structure MkI (P w K mg base k C x ps sp) where
 ex:∃f fd,FnOk P w K mg base Y9 k f fd ps sp/\JP K fd ps []/\Mk K C f/\mg x=S (.ref C)
def DB(F:FnI X.prog X.w X.K X.mg X.base k x s j)(o:Room k X.A)(n:PA X (e::c) t)(m:Gl X x:=by rfl)(d:Su=G:=by decide)
  (l:starEach (e::c) X.env=(G,eval e X.env)::starEach c X.env:=by rfl) (g:(backTo h (starEach c X.env)).any (·.1)=G:=by rfl):PE X (.Call (.Name x p) (e::c) [] h) (Ak j [] E0 t):=by
 let JK f u a b i r:=F.ex;exact W3 a o m r i b .nil As n d l g
def B9(n:PE X o j)(c:Cls X.K C)(M:MtI X.prog X.w X.K X.mg X.base k C m s p)(l:Room k X.A)
  (r:eval (.Call (.Attribute o m e) [] [] d) X.env=(do
   let h<-eval o X.env
   standAt e.atName
   let(f,g)<-holding [h] (getMethod h m t)
   callWith d f g (backTo d (starEach [] X.env)) (backToKw d (keywordEach [] X.env))):=by rfl):
  PE X (.Call (.Attribute o m e) [] [] d) (wj C m p [] E0 j gk):=by
 let jc f u a b i:=M.ex;exact Qd n c i a l b .nil As r
def M5(M:MkI X.prog X.w X.K X.mg X.base k C x s j)(o:Room (k+1) X.A)(n:PA X (e::c) t)(m:Gl X x:=by rfl)(d:Su=G:=by decide)
  (l:starEach (e::c) X.env=(G,eval e X.env)::starEach c X.env:=by rfl) (g:(backTo h (starEach c X.env)).any (·.1)=G:=by rfl):PE X (.Call (.Name x p) (e::c) [] h) (Am C j [] E0 t):=by
 let JK f u a b i r:=M.ex;exact XR i a o m r b .nil As n d l g
def ix(i:PE X o k)(h:PA X [e] t)(d:attributeBase o "append" X.env (eval o X.env)=eval o X.env:=by rfl)
  (g:((backTo b (starEach [e] X.env)).all (λx=>!x.1)&&(backToKw b (keywordEach [] X.env)).all (λx=>x.1.isSome)
   && decide (([e]).length+([]:L Keyword).length+(if([]:L Keyword).isEmpty then 0 else 1)<30))=B:=by rfl)
  (c:(f.endLine==b.line)=B:=by rfl) (j:starEach [e] X.env=(G,eval e X.env)::starEach [] X.env:=by rfl) (a:(backTo b (starEach [] X.env)).any (·.1)=G:=by rfl):
  PE X (.Call (.Attribute o "append" f) [e] [] b) (b_ X.K "list" kW k t):=
 qL PySem.F.plainAttrs_list PySem.F.slot_list_append PySem.F.type_list_append B1 i h d g c j a
def pe(a:∃t,X.mg x=S (.int i t))(b:Gl X x:=by rfl)(c:Su=G:=by decide):PE X (.Name x d) (tC (.int i)):=by
 let q t h:=a;exact XI b h #[t,rfl] c
def jZ(h:H p=J)(o):jf H (upd H p o):=λb u q=>by rw[jp (jU q h)];exact q
def jf.upd(s:jf a H)(h:a p=J)(o):jf a (upd H p o):=λb u q=>by rw[jp (jU q h)];exact s b u q
abbrev jf.none(s:jf H a)(h:a p=Option.none):=s.free h
abbrev M6(h:n<=1000):=wQa (B3 h)
noncomputable abbrev T3:=Int×Int×Int
abbrev jV(K:uXa)(c:Str):Addr:=match PySem.W.nsIn K mainGlobals c with
 |S (S (.ref C))=>C
 |_=>0
def wq{K c C}(h:PySem.W.nsIn K mainGlobals c=S (S (.ref C))):jV K c=C:=by unfold jV;rw[h]
abbrev xW(c:Addr)(b:L (Str×V)):HO:=.ext λh=>∃a,h.Ns1 c a/\PySem.Within a (b.map (·.1))/\∀p∈b,∃u,a p.1=S u/\jI p.2 u
abbrev V1(o:Obj):=∃a,o.data=.fields a/\a[2]?=S .none
abbrev XF(h:Heap)(e)(b:Y Addr):=∃a,h.get? e=S a/\V1 a/\∀d,b=S d->a.dict=S d
abbrev xC(e C:Addr)(b:Y Addr):HO:=.ext λh=>∃a,h.get? e=S a/\a.cls=.ref C/\PySem.W.notCls a=B/\(∀d,b=S d->a.dict=S d)/\V1 a
def DC(d:g.Ns1 f a)(m:PySem.Within a (b.map (·.1)))(i:∀p∈b,∃u,a p.1=S u/\jI p.2 u):JB P w H g f (xW f b):=
 #[#[a,d,m,i],(let⟨o,_,_,e,_⟩:=d;#[o,e]),λ_ _ h k=>by
  let ja a u0 w:=h;let q o l j e c:=u0;exact#[a,#[o,l,j,k _ e,c],w]]
def DD(h:f.get? e=S c)(m:c.cls=.ref C)(g:PySem.W.notCls c=B)(n:∀d,i=S d->c.dict=S d)(l:V1 c):JB P w H f e (xC e C i):=
 #[#[c,h,m,g,n,l],#[c,h],λ_ _ j k=>by
  let ja o a b:=j;exact#[o,k _ a,b]]
end L2
namespace DS
open L2
set_option genSizeOf true in
set_option genInjectivity true in
inductive D where
 |non|bl (b:Bool)|int (i:Int)|str (x:Str)|tup (l:L D)|lst (l:L D)|ins (C:Addr) (ns:L Str) (ds:L D)|scr (ns:L Int)|dct (ks vs:L D)|exn (c:Str) (fv:L (Str×V))|mem (l:L (KD×Bool))|dk (ks:L Str) (vs:L D)|obj (C:Addr) (ns:L Str) (ds:L D) (ms:L Str) (es:L D)
mutual
noncomputable def Jz:D->Y KD
 |.int n=>S (.i n)
 |.bl b=>S (.i (if b then 1 else 0))
 |.str x=>S (.s x)
 |.tup l=>(vI l).bind λa=>S (.t a)
 |_=>J
noncomputable def vI:L D->Y (L KD)
 |[]=>S []
 |d::c=>(Jz d).bind λk=>(vI c).bind λa=>S (k::a)
end
abbrev ZK:D->Y KD
 |.tup l=>(Jz (.tup l)).bind λk=>if k.dep<=8 then S k else J
 |_=>J
abbrev Qr:L D->Y (L KD)
 |[]=>S []
 |d::a=>(ZK d).bind λk=>(Qr a).bind λb=>S (k::b)
mutual
noncomputable def J2(K:uXa)(H:Hp):D->V->Prop
 |.non,v=>v=.non
 |.bl b,v=>v=.bl b
 |.int i,v=>v=.int i
 |.str x,v=>v=.str x
 |.tup l,v=>∃a h,v=.ref a/\yN K H a h/\jm K H l h
 |.lst l,v=>∃a h,v=.ref a/\H a=S (.lst h)/\jm K H l h
 |.scr k,v=>∃a,v=.ref a/\Jk K H a (k.map V.int)
 |.ins C k l,v=>∃a j h,v=.ref a/\H a=S (.ins C j (k.zip h))/\k.length=h.length/\jm K H l h
 |.dct m f,v=>∃a g s,v=.ref a/\H a=S (.dD g s)/\Qr m=S (g.map (·.1))/\jm K H m (g.map λp=>V.ref p.2.1)/\jm K H f (g.map (·.2.2))
 |.exn c w,v=>∃e y,v=.ref e/\H e=S (xC e (jV K c) y)/\(w≠[]->∃j,y=S j/\H j=S (xW j w))
 |.mem l,v=>∃a,v=.ref a/\H a=S (.mem K l [])
 |.dk m f,v=>∃a t s,v=.ref a/\H a=S (.dK ((m.map Sum.inr).zip t) s)/\m.length=t.length/\jm K H f t
 |.obj C k n u z,v=>∃a j f o,v=.ref a/\H a=S (.ins C j (k.zip f++u.zip o))/\k.length=f.length/\u.length=o.length/\jm K H n f/\jm K H z o
noncomputable def jm(K:uXa)(H:Hp):L D->L V->Prop
 |[],f=>f=[]
 |d::n,f=>∃v r,f=v::r/\J2 K H d v/\jm K H n r
end
mutual
theorem J2.same{K H i}(e:jf H i):∀{d v},J2 K H d v->J2 K i d v
 |.non,_,h=>h
 |.bl _,_,h=>h
 |.int _,_,h=>h
 |.str _,_,h=>h
 |.tup l,_,h=>by
  let jc a g rfl q r:=h;exact#[a,g,rfl,e.tup q,jm.same e r]
 |.lst l,_,h=>by
  let jc a g rfl q r:=h;exact#[a,g,rfl,e _ _ q,jm.same e r]
 |.scr s,_,h=>by
  let ja a rfl q:=h;exact#[a,rfl,e.seq q]
 |.ins C s l,_,h=>by
  let jL a j g rfl q n r:=h;exact#[a,j,g,rfl,e _ _ q,n,jm.same e r]
 |.dct w f,_,h=>by
  let zo a M p rfl q n m o:=h;exact#[a,_,p,rfl,e _ _ q,n,jm.same e m,jm.same e o]
 |.exn c N,_,h=>by
  let jc a A rfl q n:=h;exact#[a,A,rfl,e _ _ q,λz=>let⟨j,u,I⟩:=n z;#[j,u,e _ _ I]]
 |.mem l,_,h=>by
  let ja a rfl q:=h;exact#[a,rfl,e _ _ q]
 |.dk w f,_,h=>by
  let jL a F p rfl q n r:=h;exact#[a,F,p,rfl,e _ _ q,n,jm.same e r]
 |.obj C s k O P,_,h=>by
  let Y8 a j f x rfl q y t m o:=h;exact#[a,j,f,x,rfl,e _ _ q,y,t,jm.same e m,jm.same e o]
theorem jm.same{K H i}(e:jf H i):∀{k f},jm K H k f->jm K i k f
 |[],_,h=>h
 |d::k,_,h=>by
  let jc v r rfl a b:=h;exact#[v,r,rfl,J2.same e a,jm.same e b]
end
section
variable{K:uXa}{H:Hp}
theorem jm.len:∀{ds vs},jm K H ds vs->vs.length=ds.length
 |[],_,h=>by subst h;rfl
 |d::ds,_,h=>by
  let jc v r rfl a b:=h;rw[vXa,vXa,jm.len b]
theorem jm.get:∀{c vs}{i:Nat}{d},jm K H c vs->c[i]?=S d->∃v,vs[i]?=S v/\J2 K H d v
 |[],_,_,_,h,e=>Zn e
 |d::c,_,0,_,h,e=>by
  let jc v r rfl a b:=h;simp at e;subst e;exact#[v,rfl,a]
 |d::c,_,i+1,j,h,e=>by
  let jc v r rfl a b:=h;let ja f g q:=jm.get b (by simpa using e);exact#[f,by simpa using g,q]
def jm.nil:jm K H [] []:=rfl
def jm.cons{ds v vs}(a:J2 K H d v)(b:jm K H ds vs):jm K H (d::ds) (v::vs):=by exact#[v,vs,rfl,a,b]
theorem jm.app:∀{e f i c},jm K H e i->jm K H f c->jm K H (e++f) (i++c)
 |[],_,_,_,h,g=>by subst h;exact g
 |d::e,f,_,c,h,g=>by
  let jc u r rfl a b:=h;exact jm.cons a (jm.app b g)
abbrev jm.snoc(h:jm K H b a)(q:J2 K H d v):=h.app (jm.cons q jm.nil)
theorem jm.drop:∀{ds c} (n),jm K H ds c->jm K H (ds.drop n) (c.drop n)
 |_,_,0,h=>h
 |[],_,n+1,h=>by subst h;exact jm.nil
 |d::ds,_,n+1,h=>by
  let jc u r rfl a b:=h;exact jm.drop n b
theorem jm.take:∀{ds c} (n),jm K H ds c->jm K H (ds.take n) (c.take n)
 |_,_,0,h=>jm.nil
 |[],_,n+1,h=>by subst h;exact jm.nil
 |d::ds,_,n+1,h=>by
  let jc u r rfl a b:=h;exact jm.cons a (jm.take n b)
theorem jm.set{v}(q:J2 K H d v):∀{c f} (n),jm K H c f->jm K H (c.set n d) (f.set n v)
 |[],_,n,h=>by subst h;exact jm.nil
 |e::c,_,0,h=>by
  let jc u r rfl a b:=h;exact jm.cons q b
 |e::c,_,n+1,h=>by
  let jc u r rfl a b:=h;exact jm.cons a (jm.set q n b)
end
abbrev ji(H:Hp)(O:L Addr):Hp:=λb=>if b∈O then J else H b
def UD(h:b∈O):ji H O b=J:=if_pos h
def jS(h:b∉O):ji H O b=H b:=if_neg h
def Jb(h:ji H O b=S o):b∉O/\H b=S o:=by
 by_cases a:b∈O
 ·rw[UD a]at h;exact Zn h
 ·rw[jS a]at h;exact#[a,h]
def Yv:jf (ji H O) H:=λb o h=>(Jb h).2
def yf(s:∀a∈c,a∈O):jf (ji H O) (ji H c):=λb o h=>by
 let q e d:=Jb h;rw[jS (λz=>e (s b z))];exact d
def jt(s:jf H d):jf (ji H O) (ji d O):=λb o h=>by
 let q a c:=Jb h;rw[jS a];exact s _ _ c
def YE(s:jf H c)(d:H l=J):jf (ji H O) (ji c (l::O)):=λb o h=>by
 let q f a:=Jb h;have e:=jU a d;rw[jS Sa];exact s _ _ a
def yo(h:l∈O):ji (upd H l o) O=ji H O:=by
 funext b;by_cases a:b∈O
 ·rw[UD a,UD a]
 ·rw[jS a,jS a,jp (λe=>a Sa)]
set_option genInjectivity true in
inductive OD where
 |lst (ds:L D)|ins (C:Addr) (ns:L Str) (ds:L D)|dct (ks vs:L D)|dk (ks:L Str) (vs:L D)
@[simp]abbrev OD.toD:OD->D
 |.lst c=>.lst c
 |.ins C d c=>.ins C d c
 |.dct b a=>.dct b a
 |.dk b a=>.dk b a
abbrev yG(K:uXa)(H d:Hp)(l:Addr):OD->Prop
 |.lst g=>∃a,H l=S (.lst a)/\jm K d g a
 |.ins C h g=>∃i a,H l=S (.ins C i (h.zip a))/\h.length=a.length/\jm K d g a
 |.dct c a=>∃b f,H l=S (.dD b f)/\Qr c=S (b.map (·.1))/\jm K d c (b.map λp=>V.ref p.2.1)/\jm K d a (b.map (·.2.2))
 |.dk c a=>∃e f,H l=S (.dK ((c.map Sum.inr).zip e) f)/\c.length=e.length/\jm K d a e
def yG.same{K H j i d l o}(s:∀u,H l=S u->j l=S u)(e:jf i d)(h:yG K H i l o):yG K j d l o:=by
 cases o with
 |lst p=>let ja f a b:=h;exact#[f,s _ a,b.same e]
 |ins C v p=>let jc k f a n b:=h;exact#[k,f,s _ a,n,b.same e]
 |dct r f=>let JK t g a n b c:=h;exact#[_,g,s _ a,n,b.same e,c.same e]
 |dk r f=>let jc m g a n b:=h;exact#[m,g,s _ a,n,b.same e]
def yG.there{K H e l o}(h:yG K H e l o):H l≠J:=by
 cases o with
 |lst f=>let ja c a b:=h;rw[a];exact λz=>nomatch z
 |ins C m f=>let jc j c a n b:=h;rw[a];exact λz=>nomatch z
 |dct g c=>let jc i d a n b:=h;rw[a];exact λz=>nomatch z
 |dk g c=>let jc k d a n b:=h;rw[a];exact λz=>nomatch z
def yG.rep{K H d l o}(s:∀u,H l=S u->d l=S u)(h:yG K H d l o):J2 K d o.toD (.ref l):=by
 cases o with
 |lst i=>let ja e a b:=h;show J2 K d _ _;exact#[l,e,rfl,s _ a,b]
 |ins C p i=>let jc j e a n b:=h;show J2 K d (.ins C p i) _;exact#[l,j,e,rfl,s _ a,n,b]
 |dct g e=>let JK k f a n b c:=h;show J2 K d (.dct g e) _;exact#[l,_,f,rfl,s _ a,n,b,c]
 |dk g e=>let jc m f a n b:=h;show J2 K d _ _;exact#[l,m,f,rfl,s _ a,n,b]
structure HS where
 C:Addr
 ns:L Str
 ds:L D
 ms:L Str
 ls:L (L D)
@[simp]abbrev HS.toD(h:HS):D:=.obj h.C h.ns h.ds h.ms (h.ls.map D.lst)
abbrev Yl(K:uXa)(c H:Hp):L Addr->L (L D)->Prop
 |[],[]=>True
 |a::d,m::r=>(∃b,H a=S (.lst b)/\jm K c m b)/\Yl K c H d r
 |_,_=>False
theorem Yl.mono{K e c H g}(f:jf e c):∀{d i},(∀a∈d,∀u,H a=S u->g a=S u)->Yl K e H d i->Yl K c g d i
 |[],[],_,_=>trivial
 |a::d,o::r,s,h=>by
  obtain⟨⟨l,j,m⟩,k⟩:=h;exact#[#[l,s a wNa _ j,m.same f],Yl.mono f (λb n=>s b (wMa _ n)) k]
 |[],_::_,_,h=>h.elim
 |_::_,[],_,h=>h.elim
theorem Yl.at{K g H}:∀{c e},Yl K g H c e->∀a∈c,∃vs,H a=S (.lst vs)
 |_::_,_::_,h,a,b=>by
  obtain⟨⟨vs,d,_⟩,f⟩:=h;rcases uTa b with rfl|b
  ·exact#[vs,d]
  ·exact Yl.at f a b
 |_::_,[],h,_,_=>h.elim
theorem Yl.reps{K d H}(s:jf d H):∀{b c},Yl K d H b c->jm K H (c.map D.lst) (b.map V.ref)
 |[],[],_=>jm.nil
 |a::b,m::c,h=>by
  obtain⟨⟨e,i,f⟩,g⟩:=h;exact jm.cons (by exact#[a,e,rfl,i,f.same s]) (Yl.reps s g)
 |[],_::_,h=>h.elim
 |_::_,[],h=>h.elim
abbrev Yw(K:uXa)(H c l)(b:L _)(h:HS):=(∃d a,H l=S (.ins h.C d (h.ns.zip a++h.ms.zip (b.map V.ref)))/\h.ns.length=a.length/\h.ms.length=b.length/\jm K c h.ds a)/\Yl K c H b h.ls
def Yw.at{K H g l c h}(x:Yw K H g l c h):∀a∈l::c,∃o,H a=S o:=λa b=>by
 obtain⟨⟨j,d,i,_⟩,f⟩:=x;rcases uTa b with rfl|b
 ·exact#[_,i]
 ·let q d e:=f.at a b;exact#[_,e]
def Yw.mono{K H f e b l c h}(s:∀a∈l::c,∀u,H a=S u->f a=S u)(d:jf e b)(x:Yw K H e l c h):Yw K f b l c h:=by
 obtain⟨⟨o,n,k,i,g,r⟩,m⟩:=x;exact#[#[o,n,s l wNa _ k,i,g,r.same d],m.mono d λa j=>s a (wMa _ j)]
def Yw.rep{K H a l c h}(s:jf a H)(x:Yw K H a l c h):J2 K H h.toD (.ref l):=by
 obtain⟨⟨d,b,g,e,i,r⟩,f⟩:=x;show J2 K H (.obj _ _ _ _ _) _;exact#[l,d,b,_,rfl,g,e,by grind,r.same s,f.reps s]
set_option genInjectivity true in
inductive Sl where
 |un
 |cl (d:D)
 |bo (d:D)
 |ow (q:Y Addr) (o:OD)
 |lo (q:Bool) (h:HS)
noncomputable abbrev jD:=L Sl
abbrev RB(K:uXa)(O:L _)(H d v):=J2 K (ji H O) d v\/(∃l o,v=.ref l/\d=OD.toD o/\yG K H (ji H O) l o)\/∃l a h,v=.ref l/\d=HS.toD h/\Yw K H (ji H O) l a h
def RB.same{K O H f d v}(s:jf H f)(h:RB K O H d v):RB K O f d v:=by
 rcases h with h|⟨l,o,c,e,b⟩|⟨l,g,o,c,e,b⟩
 ·exact .inl (h.same (jt s))
 ·exact .inr (.inl #[l,o,c,e,b.same (s l) (jt s)])
 ·exact .inr (.inr #[l,g,o,c,e,b.mono (λa _ u z=>s a u z) (jt s)])
def RB.full{K O H d v}(h:RB K O H d v):J2 K H d v:=by
 rcases h with h|⟨l,o,rfl,rfl,a⟩|⟨l,b,o,rfl,rfl,a⟩
 ·exact h.same Yv
 ·exact(a.same (λ_ z=>z) Yv).rep λ_ z=>z
 ·exact a.rep Yv
def RB.lst{K O H ds v}(h:RB K O H (.lst ds) v):∃p xs,v=.ref p/\H p=S (.lst xs)/\jm K (ji H O) ds xs:=by
 rcases h with h|⟨l,o,rfl,e,d⟩|⟨_,_,_,_,e,_⟩;rotate_left 2;· cases e
 ·let jc a xs rfl q r:=h;exact#[a,xs,rfl,Yv _ _ q,r]
 ·cases o<;>cases e;let ja c a b:=d;exact#[l,c,rfl,a,b]
def RB.tup{K O H ds v}(h:RB K O H (.tup ds) v):∃p b,v=.ref p/\yN K H p b/\jm K (ji H O) ds b:=by
 rcases h with h|⟨l,o,rfl,e,c⟩|⟨_,_,_,_,e,_⟩;rotate_left 2;· cases e
 ·let jc a b rfl q r:=h;exact#[a,b,rfl,Yv.tup q,r]
 ·cases o<;>cases e
def RB.int{K O H i v}(h:RB K O H (.int i) v):v=.int i:=h.full
def RB.bl{K O H i v}(h:RB K O H (.bl i) v):v=.bl i:=h.full
def RB.str{K O H i v}(h:RB K O H (.str i) v):v=.str i:=h.full
def RB.non{K O H v}(h:RB K O H .non v):v=.non:=h.full
def RB.ins{K O H C f g v}(h:RB K O H (.ins C f g) v):∃a d c,v=.ref a/\H a=S (.ins C d (f.zip c))/\f.length=c.length/\jm K (ji H O) g c:=by
 rcases h with h|⟨l,o,rfl,e,i⟩|⟨_,_,_,_,e,_⟩;rotate_left 2;· cases e
 ·let jL a d c rfl q n r:=h;exact#[a,d,c,rfl,Yv _ _ q,n,r]
 ·cases o<;>cases e;let jc d j a n b:=i;exact#[l,d,j,rfl,a,n,b]
def RB.dk{K O H ks vs v}(h:RB K O H (.dk ks vs) v):∃a c d,v=.ref a/\H a=S (.dK ((ks.map Sum.inr).zip c) d)/\ks.length=c.length/\jm K (ji H O) vs c:=by
 rcases h with h|⟨l,o,rfl,e,f⟩|⟨_,_,_,_,e,_⟩;rotate_left 2;· cases e
 ·let jL a c d rfl q n r:=h;exact#[a,c,d,rfl,Yv _ _ q,n,r]
 ·cases o<;>cases e;let jc c d a n b:=f;exact#[l,c,d,rfl,a,n,b]
def RB.obj{K O H C w t x es v}(h:RB K O H (.obj C w x t es) v):∃a f vs c,v=.ref a/\H a=S (.ins C f (w.zip vs++t.zip c))/\w.length=vs.length/\t.length=c.length/\jm K (ji H O) x vs/\∀(i:Nat) (d),es[i]?=S d->∃p,c[i]?=S p/\RB K O H d p:=by
 rcases h with h|⟨l,o,rfl,e,j⟩|⟨l,c,o,rfl,e,j⟩
 ·let Y8 a f vs c rfl q u y N A:=h;refine#[a,f,vs,c,rfl,Yv _ _ q,u,y,N,λi d e=>?_];let ja v k n:=A.get e;exact#[v,k,.inl n]
 ·cases o<;>cases e
 ·cases e;obtain⟨⟨f,vs,j,u,y,r⟩,P⟩:=j;refine#[l,f,vs,_,rfl,j,u,by grind,r,λi d e=>?_];have s:∀{g b}{i:Nat}{d},Yl K (ji H O) H g b->(b.map D.lst)[i]?=S d->∃p,(g.map V.ref)[i]?=S p/\RB K O H d p:=by
   intro g;induction g with
   |nil=>intro b i d z e;cases b with
    |nil=>exact Zn e
    |cons _ _=>exact z.elim
   |cons a g F=>
    intro b i d z e;cases b with
    |nil=>exact z.elim
    |cons m b=>
     obtain⟨⟨I,k,n⟩,M⟩:=z;cases i with
     |zero=>
      obtain rfl:=Zj e;exact#[_,rfl,.inr (.inl #[a,.lst m,rfl,rfl,I,k,n])]
     |succ i=>exact F M e
  exact s P e
abbrev gq(b:jD)(c:L2.St)(a):=∃(j:Nat) (q:Y _) (o:OD),b[j]?=S (.ow q o)/\c[j]?=S (S (.ref a))
structure FA where
 l:L Addr
 p:Addr
noncomputable instance:Coe FA (L Addr):=#[FA.l]
abbrev DF(K:uXa)(e:Hp)(P:Addr)(c)(d:L2.St)(H)(O:L _):=∀(i:Nat) (q h),c[i]?=S (.lo q h)->∃l b,d[i]?=S (S (.ref l))/\(q=B->l=P)/\Yw K H (ji H O) l b h/\(l::b).Nodup/\(∀a∈l::b,a∈O/\e a=J/\¬gq c d a)/\∀j g f,c[j]?=S (.lo g f)->j=i
def DF.up{K t H s P p m o g O r}(h:DF K t P p o H O)(v:∀(i:Nat) (q x),m[i]?=S (.lo q x)->p[i]?=S (.lo q x)/\g[i]?=o[i]?)(Q:∀a,H a≠J->gq m g a->gq p o a)
  (y:∀a,a∈O->¬gq p o a->a∈r/\∀u,H a=S u->s a=S u) (N:jf (ji H O) (ji s r)):DF K t P m g s r:=λi q x e=>by
 let q C I:=v i q x e;let YH l F a R b n f u:=h i q x C;have k:=λc d=>(y c (f c d).1 (f c d).2.2).2;refine#[l,F,I.trans a,R,b.mono k N,n,λc d=>#[(y c (f c d).1 (f c d).2.2).1,(f c d).2.1,λz=>(f c d).2.2 (Q c ?_ z)],λj w A z=>u j w A (v j w A z).1];let q T M:=b.at c d;rw[M];exact λz=>nomatch z
structure Rel (K) (H0:Hp) (O0:FA) (ρ:jD) (U:L2.St) (H:Hp) (O:L _) where
 len:U.length=ρ.length
 sub:∀a∈O0.l,a∈O
 fr:∀a∈O,a∈O0.l\/H0 a=J
 al0:∀a∈O0.l,H0 a≠J
 al:∀a∈O,H a≠J
 keep:jf H0 H
 cl:∀(i:Nat) (d),ρ[i]?=S (.cl d)->∃v,U[i]?=S (S v)/\J2 K (ji H O) d v
 bo:∀(i:Nat) (d),ρ[i]?=S (.bo d)->∃v,U[i]?=S (S v)/\RB K O0.l H0 d v
 ow:∀(i:Nat) (q o),ρ[i]?=S (.ow q o)->∃l,(∀p,q=S p->l=p)/\U[i]?=S (S (.ref l))/\yG K H (ji H O) l o/\l∈O/\H0 l=J
 dist:∀(i j:Nat) (q q' ds es l),ρ[i]?=S (.ow q ds)->ρ[j]?=S (.ow q' es)->U[i]?=S (S (.ref l))->U[j]?=S (S (.ref l))->i=j
 lo:DF K H0 O0.p ρ U H O
section
variable{K:uXa}{H0 H H':Hp}{O0:FA}{O:L Addr}{ρ:jD}{U:L2.St}
def Rel.in0(R:Rel K H0 O0 ρ U H O):jf (ji H0 O0.l) (ji H O):=λb o h=>by
 let q c a:=Jb h;rw[jS (λz=>by rcases R.fr b z with y|y;exact c y;rw[a]at y;exact Zs y)];exact R.keep _ _ a
def Rel.grow(R:Rel K H0 O0 ρ U H O)(s:jf H H'):Rel K H0 O0 ρ U H' O where
 len:=R.len
 sub:=R.sub
 fr:=R.fr
 al0:=R.al0
 al:=λa h z=>R.al a h (s.none z)
 keep:=R.keep.trans s
 cl:=λi d e=>by let ja v a b:=R.cl i d e;exact#[v,a,b.same (jt s)]
 bo:=R.bo
 ow:=λi q d e=>by let J3 l z a b d f:=R.ow i q d e;exact#[l,z,a,b.same (s l) (jt s),d,f]
 dist:=R.dist
 lo:=R.lo.up (λi q x e=>#[e,rfl]) (λa _ z=>z) (λa h _=>#[h,λu z=>s a u z]) (jt s)
def Rel.new(R:Rel K H0 O0 ρ U H O)(h:H p=J):p∉O:=λz=>R.al p z h
def jG{b:Type}{a:L b}{i j x y}(h:(a.set i x)[j]?=S y):(j=i/\y=x/\i<a.length)\/(j≠i/\a[j]?=S y):=by
 rw[List.getElem?_set]at h;by_cases e:i=j
 ·simp_all
 ·rw[if_neg e]at h;exact .inr #[λz=>e z.symm,h]
def vf{a:L b}(h:i<a.length):(a.set i x)[i]?=S x:=by simp[h]
def Jn{a:L b}(h:j≠i):(a.set i x)[j]?=a[j]?:=by rw[List.getElem?_set,if_neg (λz=>h z.symm)]
def GO{i j:Nat}{s v q h}(c:∀q h,s≠.lo q h)(e:(ρ.set i s)[j]?=S (.lo q h)):ρ[j]?=S (.lo q h)/\(U.set i v)[j]?=U[j]?:=by
 rcases jG e with⟨rfl,a,_⟩|⟨b,a⟩
 ·exact vDa a.symm (c q h)
 ·exact#[a,Jn b]
def Ks(d:∀q o,s=.ow q o->v≠S (.ref a))(g:U.length=ρ.length):gq (ρ.set i s) (U.set i v) a->gq ρ U a:=λc=>by
 let vG j q o e z:=c;rcases jG e with⟨rfl,b,h⟩|⟨f,b⟩
 ·rw[vf Sa]at z;exact vDa (vFa z) (d _ _ b.symm)
 ·rw[Jn f]at z;exact#[j,q,o,b,z]
def Rel.set(R:Rel K H0 O0 ρ U H O){d v}(q:J2 K (ji H O) d v)(i):Rel K H0 O0 (ρ.set i (.cl d)) (U.set i (S v)) H O where
 len:=by rw[List.length_set,List.length_set];exact R.len
 sub:=R.sub
 fr:=R.fr
 al0:=R.al0
 al:=R.al
 keep:=R.keep
 cl:=λj f e=>by
  rcases jG e with⟨rfl,b,g⟩|⟨c,b⟩
  ·cases b;exact#[v,vf (by rw[R.len];exact g),q]
  ·rw[Jn c];exact R.cl j f b
 bo:=λj f e=>by
  rcases jG e with⟨rfl,b,g⟩|⟨c,b⟩
  ·cases b
  ·rw[Jn c];exact R.bo j f b
 ow:=λj A f e=>by
  rcases jG e with⟨rfl,b,g⟩|⟨c,b⟩
  ·cases b
  ·rw[Jn c];exact R.ow j A f b
 dist:=λj k y t w s l C F p r=>by
  rcases jG C with⟨rfl,b,g⟩|⟨c,n⟩
  ·cases b
  ·rcases jG F with⟨rfl,b,g⟩|⟨m,o⟩
   ·cases b
   ·rw[Jn c]at p;rw[Jn m]at r;exact R.dist j k y t w s l n o p r
 lo:=R.lo.up (λj q x e=>GO (by lia) e) (λa _ z=>Ks (by lia) R.len z) (λa h _=>#[h,λu z=>z]) (jf.refl _)
def Rel.own(R:Rel K H0 O0 ρ U H O)(s:jf H H')(w:H l=J)(h:yG K H' (ji H' (l::O)) l I)(i):Rel K H0 O0 (ρ.set i (.ow J I)) (U.set i (S (.ref l))) H' (l::O) where
 len:=by rw[List.length_set,List.length_set];exact R.len
 sub:=λa h=>wMa _ (R.sub a h)
 fr:=λa m=>by
  rcases uTa m with rfl|m
  ·exact .inr (R.keep.none w)
  ·exact R.fr a m
 al0:=R.al0
 al:=λa m=>by
  rcases uTa m with rfl|m
  ·exact h.there
  ·exact λz=>R.al a m (s.none z)
 keep:=R.keep.trans s
 cl:=λj F e=>by
  rcases jG e with⟨rfl,c,r⟩|⟨n,c⟩
  ·cases c
  ·rw[Jn n];let ja v a b:=R.cl j F c;exact#[v,a,b.same (YE s w)]
 bo:=λj F e=>by
  rcases jG e with⟨rfl,c,r⟩|⟨n,c⟩
  ·cases c
  ·rw[Jn n];exact R.bo j F c
 ow:=λj W F e=>by
  rcases jG e with⟨rfl,c,r⟩|⟨n,c⟩
  ·cases c;exact#[l,(λp z=>nomatch z),vf (by rw[R.len];exact r),h,wNa,R.keep.none w]
  ·rw[Jn n];let J3 M z a b d f:=R.ow j W F c;exact#[M,z,a,b.same (s M) (YE s w),wMa _ d,f]
 dist:=λj k P T X N M e1 Q A y=>by
  have g:∀(j:Nat) (q I),ρ[j]?=S _->U[j]?≠S (S (.ref l)):=λj q I e z=>by
   let ge l2 _ a b _:=R.ow j q I e;rw[z]at a;cases a;exact b.there w
  rcases jG e1 with⟨rfl,c,r⟩|⟨n,C⟩
  ·rcases jG Q with⟨rfl,UQ,Z⟩|⟨o,t⟩
   ·rfl
   ·rw[vf (by rw[R.len];exact r)]at A;cases A;rw[Jn o]at y;exact vDa y (g k T N t)
  ·rcases jG Q with⟨rfl,c,r⟩|⟨o,t⟩
   ·rw[vf (by rw[R.len];exact r)]at y;cases y;rw[Jn n]at A;exact vDa A (g j P _ C)
   ·rw[Jn n]at A;rw[Jn o]at y;exact R.dist j k P T _ N M C t A y
 lo:=R.lo.up (λj q x e=>GO (by lia) e) (λa m z=>Ks (by lia) R.len z) (λa m _=>#[wMa _ m,λu z=>s a u z]) (YE s w)
def Rel.change(R:Rel K H0 O0 ρ U H O)(e:ρ[i]?=S (.ow t Z))(T:∀p,t=S p->l=p)(n:U[i]?=S (S (.ref l)))(r:l∈O)(F:H0 l=J)(q:yG K (upd H l u) (ji H O) l ds'):Rel K H0 O0 (ρ.set i (.ow t ds')) U (upd H l u) O where
 len:=by rw[List.length_set];exact R.len
 sub:=R.sub
 fr:=R.fr
 al0:=R.al0
 al:=λa v=>by
  by_cases z:a=l
  ·rw[z,jz];exact λz=>nomatch z
  ·rw[jp z];exact R.al a v
 keep:=R.keep.upd F _
 cl:=λj m e=>by
  rcases jG e with⟨rfl,c,n⟩|⟨w,c⟩
  ·cases c
  ·rw[yo r];exact R.cl j m c
 bo:=λj m e=>by
  rcases jG e with⟨rfl,c,n⟩|⟨w,c⟩
  ·cases c
  ·exact R.bo j m c
 ow:=λj N m s=>by
  rw[yo r];rcases jG s with⟨rfl,c,_⟩|⟨w,c⟩
  ·cases c;exact#[l,T,n,q,r,F]
  ·let J3 A z a b d f:=R.ow j N m c;refine#[A,z,a,b.same (λu h=>?_) (jf.refl _),d,f];rw[jp]
   ·exact h
   ·rintro rfl;exact w (R.dist j i _ _ _ _ _ c e a n)
 dist:=λj k q1 I g es A P s M UQ=>by
  have f:∀(j:Nat) (q g),(ρ.set i (.ow t ds'))[j]?=S (.ow q g)->∃I C,ρ[j]?=S (.ow I C):=λj q g z=>by
   rcases jG z with⟨rfl,_,_⟩|⟨_,z⟩
   ·exact#[_,_,e]
   ·simp_all
  let Vl _ d1 W:=f j _ _ P;let Vl _ d2 X:=f k _ _ s;exact R.dist j k _ _ _ _ A W X M UQ
 lo:=by
  have ft:gq ρ U l:=#[i,_,_,e,n]
  refine R.lo.up (λj q x e=>#[(GO (U:=U) (v:=J) (by lia) e).1,rfl]) (λa _ ⟨j,q,o,c,z⟩=>?_) (λa v Q=>#[v,λu z=>?_]) (by rw[yo r];exact jf.refl _)
  ·rcases jG c with⟨rfl,_,_⟩|⟨_,c⟩
   ·simp_all
   ·exact#[j,q,o,c,z]
  ·rw[jp λy=>Q (by lia)];exact z
def Rel.share(R:Rel K H0 O0 ρ U H O){w}(e:ρ[i]?=S (.ow q w)):∃I,Rel K H0 O0 (ρ.set i (.cl w.toD)) U H I/\jf (ji H O) (ji H I):=by
 let J3 l _ A q lo T:=R.ow i q w e;have n:jf _ (ji H (O.filter (·≠l))):=yf λa h=>(List.mem_filter.mp h).1;have F:l∉O.filter (·≠l):=λz=>by simp_all
 refine#[_,#[by rw[List.length_set];exact R.len,λa h=>List.mem_filter.mpr #[R.sub a h,?_],λa h=>R.fr a (List.mem_filter.mp h).1,R.al0,λa h=>R.al a (List.mem_filter.mp h).1,R.keep,?_,?_,?_,?_,?_],n]
 ·have z:a≠l:=by
   rintro rfl;exact R.al0 a h T
  simpa using z
 ·intro j m g;rcases jG g with⟨rfl,c,s⟩|⟨p,c⟩
  ·cases c;exact#[_,A,(q.same (λ_ z=>z) n).rep λu z=>by rw[jS F];exact z]
  ·let ja v a b:=R.cl j m c;exact#[v,a,b.same n]
 ·intro j m g;rcases jG g with⟨rfl,c,s⟩|⟨p,c⟩
  ·cases c
  ·exact R.bo j m c
 ·intro j N m g;rcases jG g with⟨rfl,c,s⟩|⟨p,c⟩
  ·cases c
  ·let J3 r z a b d f:=R.ow j N m c;refine#[r,z,a,b.same (λ_ z=>z) n,List.mem_filter.mpr #[d,?_],f];have z:r≠l:=by
    rintro rfl;exact p (R.dist j i _ _ _ _ _ c e a A)
   simpa using z
 ·intro j k q1 q2 UQ es r P g Z X;rcases jG P with⟨rfl,c,s⟩|⟨p,t⟩
  ·cases c
  ·rcases jG g with⟨rfl,c,s⟩|⟨M,C⟩
   ·cases c
   ·exact R.dist j k _ _ _ _ r t C Z X
 ·refine R.lo.up (λj q x e=>#[(GO (U:=U) (v:=J) (by lia) e).1,rfl]) (λa _ ⟨j,q,o,c,z⟩=>?_) (λa W Q=>#[List.mem_filter.mpr #[W,?_],λu z=>z]) n
  ·rcases jG c with⟨rfl,y,_⟩|⟨_,c⟩
   ·cases y
   ·exact#[j,q,o,c,z]
  ·have:a≠l:=λy=>Q (by rw[y];exact#[i,_,_,e,A]);simpa using this
end
noncomputable abbrev DE:=jD->Y D
noncomputable abbrev DO:=jD->Y OD
noncomputable abbrev Fr:=uXa
abbrev tE(K:Fr)(f:DE):TE:=λe H Q=>∃g c b O d,Rel K g c b e H O/\f b=S d/\∀v a,jf H a->J2 K (ji a O) d v->Q v a
abbrev tR(K:Fr)(f:DE):TE:=λe H Q=>∃g c b O d,Rel K g c b e H O/\f b=S d/\∀v a,jf H a->RB K O a d v->Q v a
abbrev tF(K:Fr)(e:DO):TE:=λd H Q=>∃f c b O o,Rel K f c b d H O/\e b=S o/\∀l a,jf H a->H l=J->yG K a (ji a (l::O)) l o->Q (.ref l) a
abbrev tT(K:Fr)(g:jD->Y Bool):TT:=λf H Q=>∃e d a O b,Rel K e d a f H O/\g a=S b/\∀c,jf H c->Q b c
abbrev AK(K:Fr)(O:L Addr)(H:Hp):Bool->D->V->Prop
 |true,d,v=>J2 K (ji H O) d v
 |false,d,v=>RB K O H d v
abbrev yJ(K:Fr)(O:L Addr)(H:Hp):L Bool->L D->L V->Prop
 |[],[],[]=>True
 |k::c,d::b,v::a=>AK K O H k d v/\yJ K O H c b a
 |_,_,_=>False
theorem AK.same{K O H a}(s:jf H a):∀{k d v},AK K O H k d v->AK K O a k d v
 |true,_,_,h=>J2.same (jt s) h
 |false,_,_,h=>RB.same s h
theorem AK.rb{K O H}:∀{k d v},AK K O H k d v->RB K O H d v
 |true,_,_,h=>.inl h
 |false,_,_,h=>h
theorem yJ.same{K O H c}(s:jf H c):∀{d b a},yJ K O H d b a->yJ K O c d b a
 |[],[],[],_=>trivial
 |_::_,_::_,_::_,h=>#[AK.same s h.1,yJ.same s h.2]
 |[],[],_::_,h=>h.elim
 |[],_::_,_,h=>h.elim
 |_::_,[],_,h=>h.elim
 |_::_,_::_,[],h=>h.elim
noncomputable abbrev DA:=L (Bool×DE)
@[simp]abbrev zh:DA->jD->Y (L D)
 |[],_=>S []
 |p::b,a=>(p.2 a).bind λd=>(zh b a).bind λc=>S (d::c)
abbrev Y1(K:Fr)(l:DA):TA:=λf H Q=>∃e g d O c,Rel K e g d f H O/\zh l d=S c/\∀b a,jf H a->yJ K O a (l.map (·.1)) c b->Q b a
section
variable{X:Cx}{K:Fr}{e a b c d:Expr}{de da db dc dd:DE}{pos:Pos}
def jR(h:PE X e t)(f:∀g H Q,j g H Q->t g H Q):PE X e j:=λi s g H Q I q=>h _ s g H Q I (f g H Q q)
def wr(h:PT X e t)(f:∀g H Q,j g H Q->t g H Q):PT X e j:=λi s g H Q I q=>h _ s g H Q I (f g H Q q)
def DH(h:PW X e t)(f:∀g H Q,j g H Q->t g H Q):PW X e j:=λw i s g H Q I q=>h w _ s g H Q I (f g H Q q)
def DJ(h:PA X j t)(f:∀g H Q,k g H Q->t g H Q):PA X j k:=λp i s g H Q I q=>h p _ s g H Q I (f g H Q q)
def o5(h:PE X e (tE K de)):PE X e (tR K de):=jR h λl H Q x=>by let je g i f O d R k q:=x;exact#[g,i,f,O,d,R,k,λv j s r=>q v j s (.inl r)]
@[simp]abbrev dL(g:DO)(f):=(g f).bind λl=>S l.toD
def jd{o:Y g}(h:o.bind f=S y):∃x,o=S x/\f x=S y:=by
 cases o with
 |none=>exact Zn h
 |some x=>exact#[x,rfl,h]
def iy(h:PE X e (tF K o)):PE X e (tE K (dL o)):=jR h λv H Q m=>by
 let je i n f O d R t q:=m;let ja g j p:=jd t;obtain rfl:=Zj p;exact#[i,n,f,O,g,R,j,λl w s k r=>q _ _ s ((r.same (λ_ z=>z) (yf λa h=>wMa _ h)).rep λu z=>by rw[jS (R.new k)];exact z)]
@[simp]abbrev dV(i:Nat)(f:jD):Y D:=match f[i]? with
 |S (.cl d)=>S d
 |S (.bo d)=>S d
 |S (.ow _ o)=>S o.toD
 |S (.lo _ h)=>S h.toD
 |_=>J
@[simp]abbrev dC(i:Nat)(f:jD):Y D:=match f[i]? with
 |S (.cl d)=>S d
 |_=>J
def M7(i)(h:PE X (.Name x pos) (yF i)):PE X (.Name x pos) (tR K (dV i)):=jR h λw H Q p=>by
 let je t y s O d R j q:=p;unfold dV at j;split at j
 ·cases j;let ja v g r:=R.cl i _ Sv;exact#[v,g,q v H Ss (.inl r)]
 ·cases j;let ja v g r:=R.bo i _ Sv;refine#[v,g,q v H Ss ?_];rcases r with r|⟨l,o,k,n,f⟩|⟨l,m,o,k,n,f⟩
  ·exact .inl (r.same R.in0)
  ·exact .inr (.inl #[l,o,k,n,f.same (R.keep l) R.in0])
  ·exact .inr (.inr #[l,m,o,k,n,f.mono (λa _ u z=>R.keep a u z) R.in0])
 ·cases j;let ge l _ g f _:=R.ow i _ _ Sv;exact#[_,g,q _ H Ss (.inr (.inl #[l,_,rfl,rfl,f]))]
 ·cases j;let JK l m g _ f _:=R.lo i _ _ Sv;exact#[_,g,q _ H Ss (.inr (.inr #[l,m,_,rfl,rfl,f]))]
 ·exact Zn j
def DL(i)(h:PE X (.Name x pos) (yF i)):PE X (.Name x pos) (tE K (dC i)):=jR h λm H Q g=>by
 let je n l k O d R f q:=g;unfold dC at f;split at f
 ·cases f;let ja v j r:=R.cl i _ Sv;exact#[v,j,q v H Ss r]
 ·exact Zn f
@[simp]abbrev dK(d:D)(_:jD):=S d
def wt{d}(h:PE X e (tC v))(r:∀H,J2 K H d v):PE X e (tE K (dK d)):=jR h λl H Q g=>by
 let je m j i O k R f q:=g;obtain rfl:=Zj f;exact q v H Ss (r _)
def M8:PE X (.Constant (.int i) j pos) (tE K (dK (.int i))):=wt Hl λ_=>rfl
def o6:PE X (.Constant (.bool i) j pos) (tE K (dK (.bl i))):=wt mJ λ_=>rfl
def M9:PE X (.Constant .none j pos) (tE K (dK .non)):=wt Hm λ_=>rfl
def Ma:PE X (.Constant (.str i) j pos) (tE K (dK (.str i))):=wt Q6 λ_=>rfl
def iz(h:PE X (.Name x pos) (tC (.int i))):PE X (.Name x pos) (tE K (dK (.int i))):=wt h λ_=>rfl
@[simp]abbrev d2(f:D->D->Y D)(da db:DE)(g):=(da g).bind λx=>(db g).bind λy=>f x y
@[simp]abbrev d1(f:D->Y D)(da:DE)(g):=(da g).bind f
abbrev JN(K:Fr)(r:R2)(f:D->D->Y D):=∀(O H a b d x y Q),RB K O H a x->RB K O H b y->(∀p,H p=J->p∉O)->f a b=S d->(∀v g,jf H g->J2 K (ji g O) d v->Q v g)->r x y H Q
def wu(t:JN K r f):∀h H Q,tE K (d2 f da db) h H Q->XN r (tR K da) (tR K db) h H Q:=λh H Q C=>by
 let je l k m O d R g q:=C;let ja x I g:=jd g;let ja y w g:=jd g;exact#[l,k,m,O,x,R,I,λA N j z=>#[l,k,m,O,y,R.grow j,w,λu o i n=>t O o x y d A u Q (z.same i) n (λp M=>(R.grow (j.trans i)).new M) g λv F s r=>q v F ((j.trans i).trans s) r]]
def o7(h:Jh X (binaryOp i) r)(j:JN K r f)(k:PE X a (tR K da))(g:PE X b (tR K db)):PE X (.BinOp a i b pos) (tE K (d2 f da db)):=jR (Dr h k g) (wu j)
def DM(i:Jh X (compareOp g) r)(j:JN K r f)(k:PE X a (tR K da))(l:PE X b (tR K db))(h:behindInMarks g b=G):PE X (.Compare a [g] [b] pos) (tE K (d2 f da db)):=jR (EB i k l h) (wu j)
def Cf(h:Gi X r)(i:JN K r f)(k:PE X a (tR K da))(g:PE X b (tR K db))(j:kT b):PE X (.Subscript a b pos) (tE K (d2 f da db)):=jR (Ap h k g j) (wu i)
abbrev iA(K:Fr)(r:R2)(f:D->D->Y OD):=∀(O H a b h x y Q),RB K O H a x->RB K O H b y->f a b=S h->(∀l g,jf H g->H l=J->yG K g (ji g (l::O)) l h->Q (.ref l) g)->r x y H Q
@[simp]abbrev Yb(f:D->D->Y OD)(da db:DE)(g):=(da g).bind λx=>(db g).bind λy=>f x y
def o8(C:Jh X (binaryOp M) r)(I:iA K r f)(z:PE X a (tR K da))(u:PE X b (tR K db)):PE X (.BinOp a M b pos) (tF K (Yb f da db)):=jR (Dr C z u) λUQ H Q F=>by
 let je m k j O d R g q:=F;let ja x n g:=jd g;let ja y v g:=jd g;exact#[m,k,j,O,x,R,n,λo T h p=>#[m,k,j,O,y,R.grow h,v,λN P i w=>I O P x y d o N Q (p.same i) w g λl t s A r=>q l t ((h.trans i).trans s) ((h.trans i).none A) r]]
@[simp]abbrev fI(C:Int->Int->Bool)(g:Int->Int->D):D->D->Y D
 |.int i,.int j=>if C i j=B then S (g i j)else J
 |_,_=>J
abbrev vD:D->Y V
 |.int i=>S (.int i)
 |.bl i=>S (.bl i)
 |.str i=>S (.str i)
 |.non=>S .non
 |_=>J
def iB{d v}(h:vD d=S v):J2 K H d v:=by
 cases d<;>first|(obtain rfl:=Zj h;rfl)|exact Zn h
def Qs{f}(m:∀i j,C i j=B->P i j)(k:∀i j,vD (g i j)=S (f i j)):JN K (rI P f) (fI C g):=by
 intro O H a b d x y Q l h _ e q;unfold fI at e;split at e
 ·split at e
  ·obtain rfl:=Zj e;exact#[_,_,l.int,h.int,m _ _ Sv,q _ H Ss (iB (k _ _))]
  ·exact Zn e
 ·exact Zn e
def wv{f}(m:∀i j,vD (g i j)=S (f i j)):JN K (Vm f) (fI (λ_ _=>B) g):=by
 intro O H a b d x y Q n h k e q;let JK i j o l _ q:=Qs (λ_ _ _=>trivial) m O H a b d x y Q n h k e q;exact#[i,j,o,l,q]
noncomputable abbrev Z2:=fI (λ_ _=>B) λi j=>.int (i-j)
abbrev Kt(i j:Int):=Nat.blt i.natAbs 18446744073709551616||Nat.blt j.natAbs 18446744073709551616
noncomputable abbrev Av:=fI Kt λi j=>.int (i*j)
noncomputable abbrev jN:=fI (λ_ j=>decide (0<j)) λi j=>.int (i%j)
noncomputable abbrev YJ:=fI (λ_ j=>decide (0<j)&&decide (j<1073741824)) λi j=>.int (i/j)
@[simp]abbrev iC(i j:Int):=decide (0<=j)&&(decide (j<=1000000)&&decide (i.natAbs<2^64))
noncomputable abbrev Qt:=fI iC λi j=>.int (i^j.toNat)
noncomputable abbrev vU:=fI (λ_ _=>B) λi j=>.bl (decide (i<j))
noncomputable abbrev yc:=fI (λ_ _=>B) λi j=>.bl (decide (i<=j))
noncomputable abbrev VS:=fI (λ_ _=>B) λi j=>.bl (decide (j<i))
noncomputable abbrev Qu:=fI (λ_ _=>B) λi j=>.bl (decide (j<=i))
def Mb:JN K (Vm λi j=>.int (i-j)) Z2:=wv λ_ _=>rfl
def Mc:JN K (rI Kq λi j=>.int (i*j)) Av:=Qs (λi j h=>by
 unfold Kt at h;rw[Bool.or_eq_true,Nat.blt_eq,Nat.blt_eq]at h;unfold Kq;have e:(2)^64=18446744073709551616:=rfl;rcases h with h|h
 ·exact .inl #[by omega,by omega]
 ·exact .inr #[by omega,by omega]) λ_ _=>rfl
def Md:JN K (rI (λ_ j=>0<j) λi j=>.int (i%j)) jN:=Qs (λi j h=>by simpa using h) λ_ _=>rfl
def Me:JN K (rI cP λi j=>.int (i/j)) YJ:=Qs (λi j h=>by simpa[cP]using h) λ_ _=>rfl
def Mf:JN K (rI cR λi j=>.int (i^j.toNat)) Qt:=Qs (λi j h=>by simpa[cR,iC]using h) λ_ _=>rfl
def o9:JN K (Vm λi j=>.bl (decide (i<j))) vU:=wv λ_ _=>rfl
def oa:JN K (Vm λi j=>.bl (decide (i<=j))) yc:=wv λ_ _=>rfl
def og:JN K (Vm λi j=>.bl (decide (j<i))) VS:=wv λ_ _=>rfl
def oh:JN K (Vm λi j=>.bl (decide (j<=i))) Qu:=wv λ_ _=>rfl
abbrev uM:D->Bool
 |.non=>B
 |_=>G
@[simp] theorem Ot:uM .non=B:=rfl
@[simp] theorem pf(b):uM (.bl b)=G:=rfl
@[simp] theorem Ou(b):uM (.int b)=G:=rfl
@[simp] theorem Ov(b):uM (.str b)=G:=rfl
@[simp] theorem Ow(b):uM (.tup b)=G:=rfl
@[simp] theorem Ox(b):uM (.lst b)=G:=rfl
def DN{d v}(h:J2 K H d v):decide (v=.non)=uM d:=by
 cases d;all_goals first
  |(subst h;rfl)
  |(let q _ _ rfl _:=h;rfl)
  |(let q _ _ _ rfl _:=h;rfl)
  |(let q _ _ _ _ rfl _:=h;rfl)
  |(let ja _ rfl _:=h;rfl)
abbrev Ku:D->D->Y D
 |d,.non=>S (.bl (uM d))
 |_,_=>J
@[simp] theorem oj(d):Ku d .non=S (.bl (uM d)):=rfl
abbrev zS:D->D->Y D
 |d,.non=>S (.bl (!uM d))
 |_,_=>J
@[simp] theorem N7(d):zS d .non=S (.bl (!uM d)):=rfl
def Mg:JN K (λx y H Q=>y=.non/\Q (.bl (decide (x=.non))) H) Ku:=by
 intro O H a b d x y Q g f _ e q;unfold Ku at e;split at e
 ·obtain rfl:=Zj e;exact#[f.non,q _ H Ss (by show _=_;rw[DN g.full])]
 ·exact Zn e
def iG:JN K (λx y H Q=>y=.non/\Q (.bl (!decide (x=.non))) H) zS:=by
 intro O H a b d x y Q g f _ e q;unfold zS at e;split at e
 ·obtain rfl:=Zj e;exact#[f.non,q _ H Ss (by show _=_;rw[DN g.full])]
 ·exact Zn e
abbrev VT:D->D->Y D
 |.int i,.int j=>S (.bl (decide (i=j)))
 |.bl i,.bl j=>S (.bl (decide (i=j)))
 |.str i,.str j=>S (.bl (decide (i=j)))
 |_,_=>J
@[simp] theorem ph(i j):VT (.int i) (.int j)=S (.bl (decide (i=j))):=rfl
@[simp] theorem pi(i j):VT (.bl i) (.bl j)=S (.bl (decide (i=j))):=rfl
@[simp] theorem pj(i j):VT (.str i) (.str j)=S (.bl (decide (i=j))):=rfl
@[simp]abbrev Cg(a b:D):Y D:=(VT a b).bind λr=>match r with|.bl c=>S (.bl (!c))|_=>J
def UA(x y):decide (V.int x=V.int y)=decide (x=y):=by simp
def GH(x y):decide (V.bl x=V.bl y)=decide (x=y):=by simp
def UB(x y):decide (V.str x=V.str y)=decide (x=y):=by simp
def Aw:JN K HR VT:=by
 intro O H a b d x y Q g f _ e q;unfold VT at e;split at e
 ·cases e;rw[g.int,f.int];exact#[rfl,q _ H Ss (by show _=_;rw[UA])]
 ·cases e;rw[g.bl,f.bl];exact#[rfl,q _ H Ss (by show _=_;rw[GH])]
 ·cases e;rw[g.str,f.str];exact#[rfl,q _ H Ss (by show _=_;rw[UB])]
 ·exact Zn e
def Mh:JN K HU Cg:=by
 intro O H a b d x y Q i g _ e q;unfold Cg VT at e;let ja r f h:=jd e;split at f
 ·cases f;cases h;rw[i.int,g.int];exact#[rfl,q _ H Ss (by show _=_;rw[UA])]
 ·cases f;cases h;rw[i.bl,g.bl];exact#[rfl,q _ H Ss (by show _=_;rw[GH])]
 ·cases f;cases h;rw[i.str,g.str];exact#[rfl,q _ H Ss (by show _=_;rw[UB])]
 ·exact Zn f
abbrev jg:D->D->Y D
 |.lst l,.int i=>atI l i
 |.tup l,.int i=>atI l i
 |_,_=>J
@[simp] theorem Oy(l i):jg (.lst l) (.int i)=L2.atI l i:=rfl
@[simp] theorem Oz(l i):jg (.tup l) (.int i)=L2.atI l i:=rfl
def jm.atI{l xs i d}(h:jm K H l xs)(e:L2.atI l i=S d):∃v,L2.atI xs i=S v/\J2 K H d v:=by
 unfold L2.atI at e⊢;rw[h.len];let ja j g f:=jd e;let ja v k r:=h.get f;exact#[v,by simp_all,r]
def iH:JN K (N5 K) jg:=by
 intro O H a b d x y Q k j _ e q;unfold jg at e;split at e
 ·let jc p g rfl i h:=k.lst;let ja v f r:=h.atI e;exact .inl #[p,g,_,v,rfl,j.int,Jk.of i,f,q v H Ss r]
 ·let jc p g rfl i h:=k.tup;let ja v f r:=h.atI e;exact .inr (.inl #[p,g,_,v,rfl,j.int,i,f,q v H Ss r])
 ·exact Zn e
@[simp]abbrev yp:D->D->Y OD
 |.lst l,.lst m=>if l.length+m.length<=sizeLine then S (.lst (l++m))else J
 |_,_=>J
def YF{H p g f}(h:H p=J)(r:jm K (ji H O) g f):yG K (upd H p (.lst f)) (ji (upd H p (.lst f)) (p::O)) p (.lst g):=#[f,jz,r.same (YE (jZ h _) h)]
def Mi:iA K io yp:=by
 intro O H a b s x y Q m r e q;unfold yp at e;split at e
 ·split at e
  ·obtain rfl:=Zj e;let jc p k rfl o i:=m.lst;let jc j n rfl h f:=r.lst;exact#[p,j,k,_,rfl,rfl,o,h,by rw[i.len,f.len];assumption,λl g=>q l _ (jZ g _) g (YF g (i.app f))]
  ·exact Zn e
 ·exact Zn e
def Z9{p g f}(h:p∉O)(i:H p=J)(r:jm K (ji H O) g f):J2 K (ji (upd H p (.tup f)) O) (.tup g) (.ref p):=by
 refine#[p,f,rfl,yN.of ?_,r.same (jt (jZ i _))];rw[jS h,jz]
abbrev jY:D->D->Y D
 |.int i,.int j=>S (.int (i+j))
 |.str i,.str j=>if i.length+j.length<=sizeLine then S (.str (i++j))else J
 |.tup l,.tup m=>if l.length+m.length<=sizeLine then S (.tup (l++m))else J
 |_,_=>J
@[simp] theorem pq(i j):jY (.int i) (.int j)=S (.int (i+j)):=rfl
@[simp] theorem iI(i j):jY (.str i) (.str j)=if i.length+j.length<=sizeLine then S (.str (i++j))else J:=rfl
@[simp] theorem pr(l m):jY (.tup l) (.tup m)=if l.length+m.length<=sizeLine then S (.tup (l++m))else J:=rfl
set_option tactic.hygienic true in
theorem Mj:JN K (λx y H Q=>Vm (λi j=>.int (i+j)) x y H Q\/(λx y H Q=>Ao K x y H Q\/(λx y H Q=>∃i j,x=.str i/\y=.str j/\i.length+j.length<=sizeLine/\Q (.str (i++j)) H) x y H Q) x y H Q) jY:=by
 intro O H a b d x y Q f n C e q;unfold jY at e;split at e
 ·obtain rfl:=Zj e;exact .inl #[_,_,f.int,n.int,q _ H Ss rfl]
 ·split at e
  ·obtain rfl:=Zj e;exact .inr (.inr #[_,_,f.str,n.str,by assumption,q _ H Ss rfl])
  ·exact Zn e
 ·split at e
  ·rename_i M;obtain rfl:=Zj e;let jc p r rfl I v:=f.tup;let jc A g rfl u k:=n.tup;have F:=v.len;have w:=k.len;refine .inr (.inl #[p,A,r,_,rfl,rfl,I,u,by simp_all,λz=>?_,λ_ z=>?_,λ_ _ l s=>q _ _ (jZ s _) (Z9 (C l s) s (v.app k))])
   ·refine q _ H Ss ?_;have t:∀m:L D,r.length=m.length->r=[]->m=[]:=λm h z=>List.length_eq_zero_iff.mp Sa;rw[t _ F z,uQa];rcases n with f|⟨_,o,_,z,_⟩|⟨_,_,_,_,z,_⟩
    ·exact f
    ·cases o<;>cases z
    ·cases z
   refine q _ H Ss ?_;have t:∀m:L D,g.length=m.length->g=[]->m=[]:=λm h z=>List.length_eq_zero_iff.mp Sa;rw[t _ w z,uFa];rcases f with f|⟨_,o,_,z,_⟩|⟨_,_,_,_,z,_⟩
   ·exact f
   ·cases o<;>cases z
   ·cases z
  ·exact Zn e
 ·exact Zn e
end
section
variable{X:Cx}{K:Fr}{e a b c d:Expr}{de da db dc dd:DE}{pos:Pos}
@[simp]abbrev Qw(z:D)(f:Y D):=match z with
 |.bl true=>f
 |.bl false=>S (.bl G)
 |_=>J
def uN{z d y}(h:Qw z y=S d):∃k,z=.bl k/\((k=B/\y=S d)\/(k=G/\d=.bl G)):=by
 unfold Qw at h;split at h
 ·exact#[_,rfl,.inl #[rfl,h]]
 ·exact#[_,rfl,.inr #[rfl,(vFa h).symm]]
 ·exact Zn h
@[simp]abbrev JA(f h:D->D->Y D)(da db dc:DE)(g):=(da g).bind λx=>(db g).bind λy=>(f x y).bind λz=>Qw z ((dc g).bind λw=>h y w)
def Ba{f N}(hf:JN K r f)(m:JN K r' N):∀o H Q,tE K (JA f N da db dc) o H Q->Q8 r r' (tR K da) (tR K db) (tR K dc) o H Q:=λo H Q UQ=>by
 let je u A C O d R h q:=UQ;let ja x ex h:=jd h;let ja y P h:=jd h;let ja z ez h:=jd h;let ja k rfl ek:=uN h;refine#[u,A,C,O,x,R,ex,λvx H1 j rx=>#[u,A,C,O,y,R.grow j,P,λM H2 t F=>hf O H2 x y _ vx M _ (rx.same t) F (λp i=>(R.grow (j.trans t)).new i) ez λv H3 I W=>?_]];subst W;refine#[k,rfl,?_];have g:=(j.trans t).trans I;rcases ek with⟨rfl,T⟩|⟨rfl,rfl⟩
 ·let ja w ew Z:=jd T;exact ZI #[u,A,C,O,w,R.grow g,ew,λvw H4 n l=>m O H4 y w d M vw Q ((F.same I).same n) l (λp i=>(R.grow (g.trans n)).new i) Z λv H' s r=>q v H' ((g.trans n).trans s) r]
 ·exact ZH (q _ _ g rfl)
def ER(k:Jh X (compareOp j) r)(i:Jh X (compareOp g) l)(n:JN K r f)(h:JN K l s)(p:PE X a (tR K da))(t:PE X b (tR K db))(o:PE X c (tR K dc))(m:lastMarks [j,g] [b,c]=G:=by with_unfolding_all rfl):PE X (.Compare a [j,g] [b,c] pos) (tE K (JA f s da db dc)):=jR (cU k i p t o m) (Ba n h)
@[simp]abbrev kY(f j h:D->D->Y D)(da db dc dd:DE)(g):=(da g).bind λx=>(db g).bind λy=>(f x y).bind λz=>Qw z ((dc g).bind λw=>(j y w).bind λi=>Qw i ((dd g).bind λu=>h w u))
def Ch{r r' A f f' m}(ho:Jh X (compareOp op) r)(W:Jh X (compareOp n) r')(o:Jh X (compareOp i) A)(hf:JN K r f)(Z:JN K r' f')(l:JN K A m)(ha:PE X a (tR K da))(hb:PE X b (tR K db))(hc:PE X c (tR K dc))(hd:PE X d (tR K dd))(hm:lastMarks [op,n,i] [b,c,d]=G:=by with_unfolding_all rfl):
  PE X (.Compare a [op,n,i] [b,c,d] pos) (tE K (kY f f' m da db dc dd)):=jR (B8 ho W o ha hb hc hd hm) λU H Q xx=>by
 let je M I F O d R j q:=xx;let ja x ex j:=jd j;let ja y ey j:=jd j;let ja z ez j:=jd j;let ja k rfl ek:=uN j;refine#[M,I,F,O,x,R,ex,λvx H1 UQ rx=>#[M,I,F,O,y,R.grow UQ,ey,λvy H2 P ry=>hf O H2 x y _ vx vy _ (rx.same P) ry (λp t=>(R.grow (UQ.trans P)).new t) ez λv H3 s3 rz=>?_]];subst rz;refine#[k,rfl,?_];have g:=(UQ.trans P).trans s3;rcases ek with⟨rfl,e2⟩|⟨rfl,rfl⟩
 ·let ja w ew N:=jd e2;let ja z' ez' N:=jd N;let ja k' rfl T:=uN N;refine ZI #[M,I,F,O,w,R.grow g,ew,λvw H4 s4 C=>Z O H4 y w _ vy vw _ ((ry.same s3).same s4) C (λp t=>(R.grow (g.trans s4)).new t) ez' λv H5 s5 r=>?_];subst r;refine#[k',rfl,?_];have h:=(g.trans s4).trans s5;rcases T with⟨rfl,e4⟩|⟨rfl,rfl⟩
  ·let ja u eu e5:=jd e4;exact ZI #[M,I,F,O,u,R.grow h,eu,λvu H6 s6 ru=>l O H6 w u d vw vu Q ((C.same s5).same s6) ru (λp t=>(R.grow (h.trans s6)).new t) e5 λv H' s r=>q v H' ((h.trans s6).trans s) r]
  ·exact ZH (q _ _ h rfl)
 ·exact ZH (q _ _ g rfl)
@[simp]abbrev VU:D->Y Bool
 |.bl b=>S b
 |_=>J
abbrev GP:D->Y Bool
 |.bl b=>S b
 |.non=>S G
 |.int i=>S (i != 0)
 |.lst l=>S (!l.isEmpty)
 |.tup l=>S (!l.isEmpty)
 |_=>J
@[simp] theorem OA(b):GP (.bl b)=S b:=rfl
@[simp] theorem om:GP .non=S G:=rfl
@[simp] theorem on(l):GP (.lst l)=S (!l.isEmpty):=rfl
@[simp] theorem oo(l):GP (.tup l)=S (!l.isEmpty):=rfl
@[simp] theorem oq(i):GP (.int i)=S (i != 0):=rfl
set_option tactic.hygienic true in
theorem iJ{d v k}(h:RB K O H d v)(e:GP d=S k):cY K v H k:=by
 unfold GP at e;split at e
 ·obtain rfl:=Zj e;rw[h.bl];rfl
 ·cases e;rw[h.non];rfl
 ·obtain rfl:=Zj e;rw[h.int];rfl
 ·cases e;let jc p f rfl i g:=h.lst;refine .inl #[f,Jk.of i,?_];have:=g.len;cases f with
  |nil=>rw[List.length_eq_zero_iff.mp this.symm];rfl
  |cons x f=>
   rename_i l;cases l with
   |nil=>cases this
   |cons y l=>rfl
 ·cases e;let jc p f rfl i g:=h.tup;refine .inr (.inl #[f,i,?_]);have:=g.len;cases f with
  |nil=>rw[List.length_eq_zero_iff.mp this.symm];rfl
  |cons x f=>
   rename_i l;cases l with
   |nil=>cases this
   |cons y l=>rfl
 ·exact Zn e
noncomputable abbrev DT:=jD->Y Bool
@[simp]abbrev JJ(de:DE)(f):=(de f).bind GP
def Ml(h:PE X e (tR K de))(p:X.K=K:=by rfl)(o:∀f,isTrue e X.env f=(do let v<-f;standAt e.pos;holding [v] (truthy v)):=by intro _;rfl):PT X e (tT K (JJ de)):=wr (cZ h o) λw H Q j=>by
 let je m l g O k R u q:=j;subst p;let ja d i n:=jd u;exact#[m,l,g,O,d,R,i,λv t s r=>#[k,iJ r n,q t s]]
@[simp]abbrev jv(de:DE)(f):=(de f).bind VU
def Qx{d k}(h:VU d=S k):d=.bl k:=by
 unfold VU at h;split at h
 ·lia
 ·exact Zn h
def DP{f}(i:Jh X (compareOp g) r)(z:JN K r f)(l:PE X a (tR K da))(o:PE X b (tR K db))(t:behindInMarks g b=G):PT X (.Compare a [g] [b] pos) (tT K (jv (d2 f da db))):=wr (XQ i l o t) λm H Q w=>by
 let je u x h O k R p q:=w;let ja d y j:=jd p;cases Qx j;exact wu z m H _ #[u,x,h,O,_,R,y,λv n s r=>#[k,by exact r,q n s]]
def ES{r P f W}(ho:Jh X (compareOp T) r)(F:Jh X (compareOp i) P)(hf:JN K r f)(n:JN K P W)(ha:PE X a (tR K da))(hb:PE X b (tR K db))(hc:PE X c (tR K dc))(hm:lastMarks [T,i] [b,c]=G:=by with_unfolding_all rfl):PT X (.Compare a [T,i] [b,c] pos) (tT K (jv (JA f W da db dc))):=wr (cX ho F ha hb hc hm) λU H Q xx=>by
 let je l C I O k R ed q:=xx;let ja d h t:=jd ed;cases Qx t;let ja x ex h:=jd h;let ja y Z h:=jd h;let ja z ez h:=jd h;let ja k' rfl ek:=uN h;refine#[l,C,I,O,x,R,ex,λvx H1 m rx=>#[l,C,I,O,y,R.grow m,Z,λUQ H2 A M=>hf O H2 x y _ vx UQ _ (rx.same A) M (λp j=>(R.grow (m.trans A)).new j) ez λv H3 N rz=>?_]];subst rz;refine#[k',rfl,?_];have g:=(m.trans A).trans N;rcases ek with⟨rfl,t⟩|⟨rfl,e0⟩
 ·let ja w ew e3:=jd t;exact ZI #[l,C,I,O,w,R.grow g,ew,λvw H4 u o=>n O H4 y w _ UQ vw _ ((M.same N).same u) o (λp j=>(R.grow (g.trans u)).new j) e3 λv H' s r=>#[k,by exact r,q H' ((g.trans u).trans s)]]
 ·cases e0;exact ZH #[_,rfl,q _ g]
@[simp]abbrev JQ(f:DT)(g):=(f g).bind λk=>S (!k)
def Mm(h:PT X a (tT K l)):PT X (.UnaryOp .Not a pos) (tT K (JQ l)):=wr (Hq h) λt H Q m=>by
 let je i n f O k R r q:=m;let ja g j o:=jd r;obtain rfl:=Zj o;exact#[i,n,f,O,g,R,j,λp s=>q p s]
@[simp]abbrev Jr(g h:DT)(f):=(g f).bind λk=>if k=B then h f else S G
@[simp]abbrev Ye(g h:DT)(f):=(g f).bind λk=>if k=B then S B else h f
def iK(h:PT X a (tT K f)):PW X (.BoolOp .And [a] pos) (tT K f):=Ev h
def Mn(h:PT X a (tT K f)):PW X (.BoolOp .Or [a] pos) (tT K f):=Hn h
def Mo{l m:DT}{rest}(h:PT X a (tT K l))(t:PW X (.BoolOp .And (b::rest) pos) (tT K m)):PW X (.BoolOp .And (a::b::rest) pos) (tT K (Jr l m)):=DH (Ho h t) λx H Q p=>by
 let je i n f O k R w q:=p;let ja g r j:=jd w;refine#[i,n,f,O,g,R,r,λv s=>?_];cases g with
 |true=>exact ZI #[i,n,f,O,k,R.grow s,j,λu o=>q u (s.trans o)]
 |false=>obtain rfl:=Zj j;exact ZH (q v s)
def ot{l m:DT}{rest}(h:PT X a (tT K l))(t:PW X (.BoolOp .Or (b::rest) pos) (tT K m)):PW X (.BoolOp .Or (a::b::rest) pos) (tT K (Ye l m)):=DH (mK h t) λx H Q p=>by
 let je i n f O k R w q:=p;let ja g r j:=jd w;refine#[i,n,f,O,g,R,r,λv s=>?_];cases g with
 |true=>obtain rfl:=Zj j;exact ZI (q v s)
 |false=>exact ZH #[i,n,f,O,k,R.grow s,j,λu o=>q u (s.trans o)]
abbrev iL(h:PW X e (tT K f)):=h.pt
@[simp]abbrev zi(da db:DE)(f):=(da f).bind λx=>match x with
 |.bl true=>db f
 |.bl false=>S (.bl G)
 |_=>J
@[simp]abbrev Qy(da db:DE)(f):=(da f).bind λx=>match x with
 |.bl true=>S (.bl B)
 |.bl false=>db f
 |_=>J
@[simp]abbrev qM(da:DE)(f:jD):Y D:=(da f).bind λx=>match x with
 |.bl k=>S (.bl (!k))
 |_=>J
def DQ(h:PE X a (tE K da)):PE X (.BoolOp f [a] pos) (tE K da):=Hr h
def Mp{rest}(o:PE X a (tR K da))(t:PE X (.BoolOp .And (b::rest) pos) (tE K db)):PE X (.BoolOp .And (a::b::rest) pos) (tE K (zi da db)):=jR (Hs o t) λu H Q k=>by
 let je h i g O d R n q:=k;let ja x l f:=jd n;refine#[h,i,g,O,x,R,l,λv w s r=>?_];split at f
 ·exact#[_,r.bl,ZI #[h,i,g,O,d,R.grow s,f,λv p m j=>q v p (s.trans m) j]]
 ·obtain rfl:=Zj f;exact#[_,r.bl,ZH (q _ _ s rfl)]
 ·exact Zn f
def ou{rest}(o:PE X a (tR K da))(t:PE X (.BoolOp .Or (b::rest) pos) (tE K db)):PE X (.BoolOp .Or (a::b::rest) pos) (tE K (Qy da db)):=jR (mO o t) λu H Q k=>by
 let je h i g O d R n q:=k;let ja x l f:=jd n;refine#[h,i,g,O,x,R,l,λv w s r=>?_];split at f
 ·obtain rfl:=Zj f;exact#[_,r.bl,ZI (q _ _ s rfl)]
 ·exact#[_,r.bl,ZH #[h,i,g,O,d,R.grow s,f,λv p m j=>q v p (s.trans m) j]]
 ·exact Zn f
def Mq(m:PE X a (tR K da)):PE X (.UnaryOp .Not a pos) (tE K (qM da)):=jR (Ht m) λn H Q i=>by
 let je k j g O d R l q:=i;let ja x h f:=jd l;refine#[k,j,g,O,x,R,h,λv o s r=>?_];split at f
 ·obtain rfl:=Zj f;exact#[_,r.bl,q _ _ s rfl]
 ·exact Zn f
@[simp]abbrev V2(da:DE)(f:jD):Y D:=(da f).bind λx=>match x with
 |.int i=>S (.int (-i))
 |_=>J
def Mr(m:PE X a (tR K da)):PE X (.UnaryOp .USub a pos) (tE K (V2 da)):=jR (mW HP m) λn H Q i=>by
 let je k j g O d R l q:=i;let ja x h f:=jd l;refine#[k,j,g,O,x,R,h,λv o s r=>?_];split at f
 ·obtain rfl:=Zj f;exact#[_,r.int,q _ _ s rfl]
 ·exact Zn f
@[simp]abbrev Qz(g:DT)(da db:DE)(f):=(g f).bind λk=>if k=B then da f else db f
def Ms(p:PT X c (tT K u))(t:PE X a (tE K da))(w:PE X b (tE K db)):PE X (.IfExp c a b pos) (tE K (Qz u da db)):=jR (cD p t w) λx H Q o=>by
 let je g h f O d R r q:=o;let ja k n m:=jd r;refine#[g,h,f,O,k,R,n,λy s=>?_];cases k with
 |true=>exact ZI #[g,h,f,O,d,R.grow s,m,λv j l i=>q v j (s.trans l) i]
 |false=>exact ZH #[g,h,f,O,d,R.grow s,m,λv j l i=>q v j (s.trans l) i]
def Mt:PA X [] (Y1 K []):=DJ Yt λi H Q f=>by
 let je l h k O j R g q:=f;obtain rfl:=Zj g;exact q [] H Ss trivial
def DR(A:∀o H Q,(∃i j f O d,Rel K i j f o H O/\de f=S d/\∀v n,jf H n->AK K O n k d v->Q v n)->t o H Q)(h:PE X e t)(u:PA X m (Y1 K l))(y:starEach (e::m) X.env=(G,eval e X.env)::starEach m X.env:=by rfl):PA X (e::m) (Y1 K ((k,de)::l)):=DJ (JT h u y) λo H Q x=>by
 let je i j f O M R g q:=x;let ja d F g:=jd g;let ja C w g:=jd g;obtain rfl:=Zj g;exact A _ _ _ #[i,j,f,O,d,R,F,λv N p z=>#[i,j,f,O,_,R.grow p,w,λP I r s=>q _ I (p.trans r) #[z.same r,s]]]
def oy(h:PE X e (tE K de))(g:PA X f (Y1 K l))(i:starEach (e::f) X.env=(G,eval e X.env)::starEach f X.env:=by rfl):PA X (e::f) (Y1 K ((B,de)::l)):=DR (λj H Q z=>z) h g i
def oz(h:PE X e (tR K de))(g:PA X f (Y1 K l))(i:starEach (e::f) X.env=(G,eval e X.env)::starEach f X.env:=by rfl):PA X (e::f) (Y1 K ((G,de)::l)):=DR (λj H Q z=>z) h g i
theorem GQ:∀{l g f},zh l g=S f->f.length=l.length
 |[],_,_,h=>by obtain rfl:=Zj h;rfl
 |p::k,g,f,h=>by
  let ja d m h:=jd h;let ja i j h:=jd h;obtain rfl:=Zj h;rw[vXa,vXa,GQ j]
theorem yJ.reps:∀{i g f},yJ K O H i g f->i.all id=B->jm K (ji H O) g f
 |[],[],[],_,_=>jm.nil
 |true::_,_::_,_::_,h,e=>jm.cons h.1 (yJ.reps h.2 (by simpa using e))
 |false::_,_::_,_::_,h,e=>Zf e
 |[],[],_::_,h,_=>h.elim
 |[],_::_,_,h,_=>h.elim
 |_::_,[],_,h,_=>h.elim
 |_::_,_::_,[],h,_=>h.elim
theorem yJ.len:∀{ks ds vs},yJ K O H ks ds vs->vs.length=ds.length/\ks.length=ds.length
 |[],[],[],_=>#[rfl,rfl]
 |_::_,_::_,_::_,h=>by have:=yJ.len h.2;simp[this.1,this.2]
 |[],[],_::_,h=>h.elim
 |[],_::_,_,h=>h.elim
 |_::_,[],_,h=>h.elim
 |_::_,_::_,[],h=>h.elim
@[simp]abbrev jQ(l:DA)(f:jD):Y D:=(zh l f).bind λg=>S (.tup g)
def Mu{t}(h:PA X u (Y1 K l))(m:(l.map (·.1)).all id=B:=by rfl)(n:Nat.ble l.length sizeLine=B:=by rfl):PE X (.Tuple u t pos) (tE K (jQ l)):=jR (HY h) λA H Q o=>by
 let je k s x O d R w q:=o;let ja j i v:=jd w;obtain rfl:=Zj v;refine#[k,s,x,O,j,R,i,λz y g r=>#[by rw[r.len.1,GQ i];exact Nat.le_of_ble_eq_true n,λp f=>q _ _ (g.trans (jZ f _)) (Z9 ((R.grow g).new f) f (r.reps m))]]
@[simp]abbrev jP(l:DA)(f:jD):Y OD:=(zh l f).bind λg=>S (.lst g)
def Mv(h:PA X s (Y1 K l))(m:(l.map (·.1)).all id=B:=by rfl)(n:Nat.ble l.length sizeLine=B:=by rfl):PE X (.List s pos) (tF K (jP l)):=jR (HZ h) λy H Q o=>by
 let je k t w O d R v q:=o;let ja j i u:=jd v;obtain rfl:=Zj u;refine#[k,t,w,O,j,R,i,λx z g r=>#[by rw[r.len.1,GQ i];exact Nat.le_of_ble_eq_true n,λp f=>q _ _ (g.trans (jZ f _)) (g.none f) (YF f (r.reps m))]]
noncomputable abbrev DU:=jD->Y (Y Int)
abbrev QA(K:Fr)(p:DU):TO:=λj H Q=>∃i h f O o,Rel K i h f j H O/\p f=S o/\∀g,jf H g->Q o g
@[simp]abbrev yQ:D->Y (Y Int)
 |.int i=>S (S i)
 |_=>J
def oA:PO X J (QA K λ_=>S J):=λf s g H Q I h=>by
 let je l k j O o R i q:=h;obtain rfl:=Zj i;exact EF _ s g H Q I (q H Ss)
def oG(h:PE X e (tR K de)):PO X (S e) (QA K λg=>(de g).bind yQ):=λi s m H Q I n=>by
 let je l k g O o R t q:=n;let ja d j f:=jd t;refine EG h _ s m H Q I #[l,k,g,O,d,R,j,λv p s r=>?_];unfold yQ at f;split at f
 ·obtain rfl:=Zj f;exact#[_,r.int,q p s]
 ·exact Zn f
abbrev Jd(xs:L f)(lo hi:Y _):=(xs.drop (HT.sIx xs.length 0 lo)).take (HT.sIx xs.length xs.length hi-HT.sIx xs.length 0 lo)
def jm.cut(h:jm K H l g)(lo f):jm K H (Jd l lo f) (W7 g lo f):=by
 unfold Jd W7;rw[h.len];exact(h.drop _).take _
theorem jm.ints:∀f:L _,jm K H (f.map D.int) (f.map V.int)
 |[]=>jm.nil
 |n::f=>jm.cons rfl (jm.ints f)
abbrev qN(d:D)(lo f:Y Int):Y OD:=match d with
 |.lst l=>S (.lst (Jd l lo f))
 |.scr g=>S (.lst (Jd (g.map D.int) lo f))
 |_=>J
@[simp] theorem N8(l lo f):qN (.lst l) lo f=S (.lst (Jd l lo f)):=rfl
@[simp] theorem N9(l lo f):qN (.scr l) lo f=S (.lst (Jd (l.map D.int) lo f)):=rfl
@[simp]abbrev yb(de:DE)(p q:DU)(f):=(de f).bind λd=>(p f).bind λlo=>(q f).bind λg=>qN d lo g
def Mw{lo t p q F}(M:PE X e (tR K de))(T:PO X lo (QA K p))(P:PO X t (QA K q))(Z:X.K=K:=by rfl):PE X (.Subscript e (.Slice lo t J F) pos) (tF K (yb de p q)):=jR (Qf EJ M T P) λU H Q UQ=>by
 let je k o s O d R f y:=UQ;subst Z;let ja x A f:=jd f;let ja l N f:=jd f;let ja u W f:=jd f;refine#[k,o,s,O,x,R,A,λv H1 i r=>#[k,o,s,O,l,R.grow i,N,λH2 j=>#[k,o,s,O,u,R.grow (i.trans j),W,λH3 w=>?_]]];have g:=(i.trans j).trans w;have z:=r.same (j.trans w);unfold qN at f;split at f
 ·obtain rfl:=Zj f;let jc m C rfl n h2:=z.lst;exact#[m,C,rfl,Jk.of n,λp h=>y p _ (g.trans (jZ h _)) (g.none h) (YF h (h2.cut l u))]
 ·obtain rfl:=Zj f;have I:=z.full;let ja m rfl n:=I;exact#[m,_,rfl,n,λp h=>y p _ (g.trans (jZ h _)) (g.none h) (YF h ((jm.ints _).cut l u))]
 ·exact Zn f
abbrev Fn(K)(r:L V->Hp->VK->Prop)(f:L D->Y D):=∀(O H j h i d Q),yJ K O H j h i->(∀p,H p=J->p∉O)->f h=S d->(∀v g,jf H g->J2 K (ji g O) d v->Q v g)->r i H Q
abbrev DV(K)(r:L V->Hp->VK->Prop)(f:L D->Y OD):=∀(O H j h i d Q),yJ K O H j h i->f h=S d->(∀l g,jf H g->H l=J->yG K g (ji g (l::O)) l d->Q (.ref l) g)->r i H Q
@[simp]abbrev jo(f:L D->Y D)(l g):=(zh l g).bind f
@[simp]abbrev Jg(f:L D->Y OD)(l g):=(zh l g).bind f
def UE(x:Fn K r f):∀g H Q,tE K (jo f l) g H Q->bT r (Y1 K l) g H Q:=λg H Q n=>by
 let je y o C O d R A q:=n;let ja h k w:=jd A;exact#[y,o,C,O,h,R,k,λt u i m=>x O u _ h t d Q m (λp j=>(R.grow i).new j) w λv z s r=>q v z (i.trans s) r]
def Wb(w:DV K r f):∀g H Q,tF K (Jg f l) g H Q->bT r (Y1 K l) g H Q:=λg H Q o=>by
 let je x p j O d R z q:=o;let ja h k v:=jd z;exact#[x,p,j,O,h,R,k,λt u i n=>w O u _ h t d Q n v λl y s m r=>q l y (i.trans s) (i.none m) r]
def V3{g d f}(h:yJ K O H g [d] f):∃v,f=[v]/\RB K O H d v:=by
 cases g with
 |nil=>exact h.elim
 |cons k g=>
  cases f with
  |nil=>exact h.elim
  |cons v f=>
   let q j i:=h;have:=yJ.len i;have e:=List.length_eq_zero_iff.mp this.1;subst e;exact#[v,rfl,AK.rb j]
def oH{i d j f}(h:yJ K O H i [d,j] f):∃v g,f=[v,g]/\RB K O H d v/\RB K O H j g:=by
 cases i with
 |nil=>exact h.elim
 |cons k i=>
  cases f with
  |nil=>exact h.elim
  |cons v f=>
   let q l m:=h;let ja g rfl r:=V3 m;exact#[v,g,rfl,AK.rb l,r]
@[simp]abbrev Jv:L D->Y D
 |[.lst l]=>S (.int l.length)
 |[.tup l]=>S (.int l.length)
 |_=>J
def Mx:Fn K (λf H Q=>∃p j,f=[.ref p]/\(Jk K H p j\/yN K H p j)/\Q (.int j.length) H) Jv:=by
 intro O H n k m d Q h l e q;unfold Jv at e;split at e
 ·cases e;let ja v rfl r:=V3 h;let jc p f rfl g i:=r.lst;exact#[p,f,rfl,.inl (Jk.of g),q _ H Ss (by show _=_;rw[i.len])]
 ·cases e;let ja v rfl r:=V3 h;let jc p f rfl g i:=r.tup;exact#[p,f,rfl,.inr g,q _ H Ss (by show _=_;rw[i.len])]
 ·exact Zn e
@[simp]abbrev Yc:L D->Y OD
 |[.lst l]=>S (.lst l)
 |[.tup l]=>S (.lst l)
 |_=>J
def iM:DV K (λg H Q=>∃p j,g=[.ref p]/\(Jk K H p j\/yN K H p j)/\∀l,H l=J->Q (.ref l) (upd H l (.lst j))) Yc:=by
 intro O H m o n d Q h e q;unfold Yc at e;split at e
 ·cases e;let ja v rfl r:=V3 h;let jc p g rfl k i:=r.lst;exact#[p,g,rfl,.inl (Jk.of k),λl f=>q _ _ (jZ f _) f (YF f i)]
 ·cases e;let ja v rfl r:=V3 h;let jc p g rfl k i:=r.tup;exact#[p,g,rfl,.inr k,λl f=>q _ _ (jZ f _) f (YF f i)]
 ·exact Zn e
@[simp]abbrev ZL:L D->Y D
 |[.lst l]=>S (.tup l)
 |[.tup l]=>S (.tup l)
 |_=>J
def ET:Fn K (λf H Q=>∃p j,f=[.ref p]/\((Jk K H p j/\∀l,H l=J->Q (.ref l) (upd H l (.tup j)))\/(yN K H p j/\Q (.ref p) H))) ZL:=by
 intro O H s t u d Q h n e q;unfold ZL at e;split at e
 ·cases e;let ja v rfl r:=V3 h;let jc p f rfl k m:=r.lst;exact#[p,f,rfl,.inl #[Jk.of k,λl i=>q _ _ (jZ i _) (Z9 (n l i) i m)]]
 ·cases e;let ja v rfl r:=V3 h;have g:=r;let jc p f rfl k m:=r.tup;refine#[p,f,rfl,.inr #[k,q _ H Ss ?_]];rcases g with g|⟨_,o,_,z,_⟩|⟨_,_,_,_,z,_⟩
  ·exact g
  ·cases o<;>cases z
  ·cases z
 ·exact Zn e
@[simp]abbrev Uc:L D->Y D
 |[.int i,.int j]=>S (.int (if j > i then j else i))
 |_=>J
def My:Fn K (λf H Q=>∃i j,f=[.int i,.int j]/\Q (.int (if j > i then j else i)) H) Uc:=by
 intro O H m k n d Q h l e q;unfold Uc at e;split at e
 ·obtain rfl:=Zj e;let jc v o rfl r g:=oH h;exact#[_,_,by rw[r.int,g.int],q _ H Ss rfl]
 ·exact Zn e
abbrev GR:L D->Y (L Bool)
 |[]=>S []
 |.bl b::r=>(GR r).bind λf=>S (b::f)
 |_::_=>J
@[simp] theorem pu:GR []=S []:=rfl
@[simp] theorem px(b r):GR (.bl b::r)=(GR r).bind λf=>S (b::f):=rfl
theorem WV:∀{l g f},GR l=S g->jm K H l f->f=g.map V.bl
 |[],g,f,e,h=>by cases e;exact h
 |.bl b::r,g,f,e,h=>by
  let ja j i m:=jd e;obtain rfl:=Zj m;let jc v n rfl a k:=h;rw[a,WV i k];rfl
 |.non::_,_,_,e,_=>Zn e
 |.int _::_,_,_,e,_=>Zn e
 |.str _::_,_,_,e,_=>Zn e
 |.tup _::_,_,_,e,_=>Zn e
 |.lst _::_,_,_,e,_=>Zn e
 |.ins _ _ _::_,_,_,e,_=>Zn e
 |.obj _ _ _ _ _::_,_,_,e,_=>Zn e
 |.dk _ _::_,_,_,e,_=>Zn e
 |.scr _::_,_,_,e,_=>Zn e
@[simp]abbrev Ud:L D->Y D
 |[.lst l]=>(GR l).bind λf=>S (.bl (f.all id))
 |_=>J
def Mz:Fn K (λg H Q=>∃(p:Addr) (f:L _),g=[.ref p]/\Jk K H p (f.map V.bl)/\Q (.bl (f.all id)) H) Ud:=by
 intro O H o m n d Q h s e q;unfold Ud at e;split at e
 ·let ja f k l:=jd e;obtain rfl:=Zj l;let ja v rfl r:=V3 h;let jc p g rfl i j:=r.lst;rw[WV k j]at i;exact#[p,f,rfl,Jk.of i,q _ H Ss rfl]
 ·exact Zn e
abbrev Ja(C:Addr)(f:Str):D->Y D
 |.ins i h g=>if i=C then(h.zip g).lookup f else J
 |.obj i h g _ _=>if i=C then(h.zip g).lookup f else J
 |_=>J
theorem Ue{f d}:∀{g:L Str}{i j},jm K H i j->(g.zip i).lookup f=S d->∃v,(g.zip j).lookup f=S v/\J2 K H d v
 |[],_,_,_,e=>Zn e
 |_::_,[],_,_,e=>Zn e
 |n::g,l::i,j,h,e=>by
  let jc v r rfl a b:=h;rw[List.zip_cons_cons,List.lookup_cons]at e⊢;cases k:f==n with
  |true=>rw[k]at e;obtain rfl:=Zj e;exact#[v,rfl,a]
  |false=>rw[k]at e;exact Ue b e
set_option tactic.hygienic true in
theorem DW(h:PE X e (tR K de))(c:Cls K C)(n:yP K C f)(u:attributeBase e f X.env (eval e X.env)=eval e X.env:=by rfl)(A:X.K=K:=by rfl):PE X (.Attribute e f pos) (tE K (d1 (Ja C f) de)):=jR (bS h u) λN H Q I=>by
 let je z F t O d R w q:=I;subst A;let ja x y g:=jd w;refine#[z,F,t,O,x,R,y,λv p s r=>?_];unfold Ja at g;split at g
 ·split at g
  ·rename_i j;subst j;let jL a i M rfl l P o:=r.ins;let ja v k m:=Ue o g;exact#[a,_,i,_,v,rfl,l,c,n,k,q v p s m]
  ·exact Zn g
 ·split at g
  ·rename_i j;subst j;let Y8 a i M T rfl l _ _ o _:=r.obj;let ja v k m:=Ue o g;exact#[a,_,i,_,v,rfl,l,c,n,by rw[List.lookup_append,k];rfl,q v p s m]
  ·exact Zn g
 ·exact Zn g
end
abbrev RP(K:Fr)(b)(a:FA)(H)(O:L _)(d v):=J2 K (ji H O) d v\/RB K a.l b d v
abbrev tP(K:Fr)(f:DE):TE:=λg H Q=>∃c b e O d,Rel K c b e g H O/\f e=S d/\∀v a,jf H a->RP K c b a O d v->Q v a
def RP.at{K e H b j O c d v}(r:RP K e j H O d v)(k:jf e b)(i:jf (ji e j.l) (ji b c))(m:jf (ji H O) (ji b c)):RB K c b d v:=by
 rcases r with r|r|⟨l,o,f,g,h⟩|⟨l,n,o,f,g,h⟩
 ·exact .inl (r.same m)
 ·exact .inl (r.same i)
 ·exact .inr (.inl #[l,o,f,g,h.same (k l) i])
 ·exact .inr (.inr #[l,n,o,f,g,h.mono (λa _ u z=>k a u z) i])
abbrev QB(K:Fr)(b:It)(h)(j:FA)(H)(O:L _)(c:L D):=∀(i e g),jf h e->jf (ji h j.l) (ji e g)->jf (ji H O) (ji e g)->(∀a∈g,e a≠J)->
 (∀d,c[i]?=S d->b.go i e/\∀x f,b.yld i e x f->jf e f/\J2 K (ji f g) d x)/\(i=c.length->b.stop i e)
noncomputable abbrev DI:=jD->Y (L D)
abbrev Z_(K:Fr)(g:DI):TI:=λh H R=>∃d e f O b,Rel K d e f h H O/\g f=S b/\∀a c,jf H c->QB K a d e c O b->R a c
section
variable{X:Cx}{K:Fr}{e a b c d tg:Expr}{de da db dc dd:DE}{pos:Pos}
def oI(h:PE X e (tE K de)):PE X e (tP K de):=jR h λl H Q x=>by let je g i f O d R k q:=x;exact#[g,i,f,O,d,R,k,λv j s r=>q v j s (.inl r)]
@[simp]abbrev dP(i:Nat)(f:jD):Y D:=match f[i]? with
 |S (.cl d)=>S d
 |S (.bo d)=>S d
 |_=>J
def MA(i)(h:PE X (.Name x pos) (yF i)):PE X (.Name x pos) (tP K (dP i)):=jR h λm H Q j=>by
 let je n l k O d R f q:=j;unfold dP at f;split at f
 ·cases f;let ja v g r:=R.cl i _ Sv;exact#[v,g,q v H Ss (.inl r)]
 ·cases f;let ja v g r:=R.bo i _ Sv;exact#[v,g,q v H Ss (.inr r)]
 ·exact Zn f
def qO(h:PI X tg e k)(f:∀g H R,i g H R->k g H R):PI X tg e i:=λj s g H R I q=>h _ s g H R I (f g H R q)
abbrev oM(K:Fr)(h:TE):TI:=λi H R=>h i H λx f=>∃a,x=.ref a/\(((∃g,Jk K f a g)/\R (bN K a) f)\/((∃g,yN K f a g)/\R (HF K a) f))
def iP(t:PE X l w):PI X tg l (oM X.K w):=by
 intro n s C H R I h;refine jM (t _ s C H _ I h) λv j u=>?_;let jc x m f y z:=u;let ja a rfl q:=z;subst y;rcases q with⟨⟨F,i⟩,q⟩|⟨⟨F,i⟩,q⟩
 ·let jw k r p A:=f.list i;refine wpAny_pyIter_list p.isList ?_;refine#[_,_,_,_,m,rfl,f.kept λb o e=>wIa _ e,WK a _,#[_,wJa _ rfl,rfl,rfl],λb g=>?_,q];have e:b=j.heap.objs.size:=by simpa using g
  subst e;exact f.fpOk (wPa _) (f.hok.fresh (wPa _))
 ·let jw k r p A:=f.tuple i;refine wpAny_pyIter_tuple (show j.heap.IsTuple a _ from p) ?_;refine#[_,_,_,_,m,rfl,f.kept λb o e=>wIa _ e,aZ a _,#[_,wJa _ rfl,rfl,rfl],λb g=>?_,q];have e:b=j.heap.objs.size:=by simpa using g
  subst e;exact f.fpOk (wPa _) (f.hok.fresh (wPa _))
abbrev ZM:D->Y (L D)
 |.lst l=>S l
 |.tup l=>S l
 |_=>J
@[simp] theorem Na(l):ZM (.lst l)=S l:=rfl
@[simp] theorem Nb(l):ZM (.tup l)=S l:=rfl
@[simp]abbrev JH(de:DE)(f):=(de f).bind ZM
def iQ{n O d v l}(r:RP K m n H O d v)(e:ZM d=S l)(P:jf m H)(N:jf (ji m n.l) (ji H O)):
  ∃a,v=.ref a/\(((∃f,Jk K H a f)/\QB K (bN K a) m n H O l)\/((∃f,yN K H a f)/\QB K (HF K a) m n H O l)):=by
 unfold ZM at e;split at e
 ·cases e;let jc p f rfl F UQ:=(r.at P N (jf.refl _)).lst;refine#[p,rfl,.inl #[#[f,Jk.of F],λi Q W w s I _=>?_]];let jc R g o h k:=(r.at w s I).lst;cases o;refine#[λd M=>?_,λC=>#[g,Jk.of h,by rw[k.len,C];exact wPa _]];let ja x j u:=k.get M;refine#[#[g,x,Jk.of h,j],λT A y=>?_];let q t y:=y;have z:=y g (Jk.of h);rw[j]at z;cases z;rw[t];exact#[jf.refl _,u]
 ·cases e;let jc p f rfl F UQ:=(r.at P N (jf.refl _)).tup;refine#[p,rfl,.inr #[#[f,F],λi Q W w s I _=>?_]];let jc R g o h k:=(r.at w s I).tup;cases o;refine#[λd M=>?_,λC=>#[g,h,by rw[k.len,C];exact wPa _]];let ja x j u:=k.get M;refine#[#[g,x,h,j],λT A y=>?_];let q t y:=y;have z:=y g h;rw[j]at z;cases z;rw[t];exact#[jf.refl _,u]
 ·exact Zn e
def DY(h:PE X e (tP K de))(p:X.K=K:=by rfl):PI X tg e (Z_ K (JH de)):=qO (iP h) λy H R x=>by
 let je u n m O g k w q:=x;subst p;let ja d t o:=jd w;refine#[u,n,m,O,d,k,t,λv l s r=>?_];have j:=k.grow s;let ja a rfl z:=iQ r o j.keep j.in0;rcases z with⟨i,f⟩|⟨i,f⟩
 ·exact#[a,rfl,.inl #[i,q _ l s f]]
 ·exact#[a,rfl,.inr #[i,q _ l s f]]
abbrev JZ(lo n):=(List.range n).map λ(i:Nat)=>D.int (lo+i)
def iR{l O lo n}:QB K (Dq lo n) s l H O (JZ lo n):=λi t r _ _ _ _=>by
 refine#[λd f=>?_,λh=>?_]
 ·unfold JZ at f;rw[uAa]at f;cases q:(List.range n)[i]? with
  |none=>rw[q]at f;exact Zn f
  |some j=>
   rw[q]at f;obtain rfl:=Zj f;let q g k:=uSa q;rw[List.getElem_range]at k;subst k;rw[List.length_range]at g;refine#[g,λx m y=>?_];let q p o:=y;rw[p,o];exact#[jf.refl _,rfl]
 ·unfold JZ at h;rw[vYa,List.length_range]at h;show n<=i;omega
abbrev yj(j:Int):=Nat.blt j.natAbs 4611686018427387904
def zT(f:-4611686018427387904<j)(g:j<4611686018427387904):yj j=B:=by unfold yj;rw[Nat.blt_eq];omega
def Ax(h:yj j=B):-(2^62)<=j/\j<2^62:=by
 unfold yj at h;rw[Nat.blt_eq]at h;have e:(2)^62=4611686018427387904:=rfl;omega
@[simp]abbrev zU(de:DE)(f):=(de f).bind λd=>match d with
 |.int j=>if yj j=B then S (JZ 0 j.toNat)else J
 |_=>J
set_option tactic.hygienic true in
theorem iS(y:Gl X "range")(t:X.mg "range" = J)(h:PE X a (tR K da))(j:starEach [a] X.env=[(G,eval a X.env)]:=by rfl):PI X tg (.Call (.Name "range" p) [a] [] pos) (Z_ K (zU da)):=qO (bO y t (JT h Yt (by rw[j];rfl)) j) λz H R u=>by
 let je l x k O i o n q:=u;let ja d w f:=jd n;refine#[l,x,k,O,d,o,w,λv m s r=>?_];split at f
 ·split at f
  ·obtain rfl:=Zj f;rename_i g;have g:=Ax g;exact#[_,by rw[r.int],g.1,g.2,q _ m s iR]
  ·exact Zn f
 ·exact Zn f
abbrev MB(K:Fr)(h:TA):TI:=λl H R=>h l H λg f=>∃k j a b m i,g=[.ref a,.ref b]/\Gj K k f a m/\Gj K j f b i/\R (N6 K k j a b) f
def EU(W:Gl X "zip")(F:X.mg "zip" = J)(A:PA X [n,i] M)(hs:starEach [n,i] X.env=[(G,eval n X.env),(G,eval i X.env)]:=by rfl)(l:starEach [i] X.env=[(G,eval i X.env)]:=by rfl):
  PI X (.Tuple es x1 tp) (.Call (.Name "zip" p) [n,i] [] pos) (MB X.K M):=by
 intro x s C H R I h;refine Call_ (Ux I W F boot_zip (PyProof.Rows.callWith_type1 (jM (A _ _ s C H _ I h) λus O Z=>?_) (by rw[hs,l]) (by rw[l];rfl)));let jc vs w g Q UQ:=Z;let JV k j a b xs ys rfl P qb q:=UQ;cases Q with
 |cons r o=>
  cases o with
  |cons r' o=>
   cases o;subst r;subst r';let jw ia ra v _:=g.seqK P;let jw ib rb t _:=g.seqK qb;refine C7 v t λh' u z b3 N T bk=>?_;refine wpAny_pyIter_zip u ?_;have f:∀m,JI X _ w (O.heap.objs.size+m):=λm=>g.fpOk (vKa _ _) (g.hok.fresh (vKa _ _));refine#[_,_,_,_,w,rfl,g.kept bk,Ca (zipApart_new v.lt t.lt),#[u,z,#[_,_,b3],N,T],λc y=>?_,q];simp only[List.mem_cons,List.not_mem_nil,or_false]at y;rcases y with rfl|rfl|rfl|rfl|rfl
   ·exact f 4
   ·exact f 2
   ·exact f 3
   ·exact f 0
   ·exact f 1
def ww{d v l}(r:RB K O H d v)(e:ZM d=S l):∃k a f,v=.ref a/\Gj K k H a f/\jm K (ji H O) l f/\(k=Sk.l↔∃m,d=D.lst m):=by
 unfold ZM at e;split at e
 ·cases e;let jc p f rfl h g:=r.lst;exact#[.l,p,f,rfl,Jk.of h,g,Iff.intro (λ_=>#[_,rfl]) (λ_=>rfl)]
 ·cases e;let jc p f rfl h g:=r.tup;exact#[.t,p,f,rfl,h,g,Iff.intro (λz=>nomatch z) (λz=>by simp_all)]
 ·exact Zn e
def DZ{d}(h:k=Sk.l↔∃m,d=D.lst m)(f:g=Sk.l↔∃m,d=D.lst m):k=g:=by
 cases k<;>cases g<;>first|rfl|(exact vDa (f.mpr (h.mp rfl)) Sx)|(exact vDa (h.mpr (f.mp rfl)) Sx)
@[simp]abbrev QC(da db:DE)(f):=(da f).bind λx=>(db f).bind λy=>(ZM x).bind λl=>(ZM y).bind λm=>S (List.zipWith (λp q=>D.tup [p,q]) l m)
abbrev oN{p d g x y}(i:p∉O)(f:H p=J)(r:J2 K (ji H O) d x)(h:J2 K _ g y):=Z9 i f (jm.cons r (jm.cons h jm.nil))
set_option tactic.hygienic true in
theorem MC(hg:Gl X "zip")(hm:X.mg "zip" = J)(h:PE X a (tP K da))(h':PE X b (tP K db))(hs:starEach [a,b] X.env=[(G,eval a X.env),(G,eval b X.env)]:=by rfl)(s:starEach [b] X.env=[(G,eval b X.env)]:=by rfl)(hK:X.K=K:=by rfl):
  PI X (.Tuple es x1 tp) (.Call (.Name "zip" p) [a,b] [] pos) (Z_ K (QC da db)):=qO (EU hg hm (JT h (JT h' Yt (by rw[s];rfl)) (by lia)) hs s) λU H R xx=>by
 let je M UQ ρ O Z Q f q:=xx;subst hK;let ja x e1 f:=jd f;let ja y e2 f:=jd f;let ja l e3 f:=jd f;let ja m e4 f:=jd f;obtain rfl:=Zj f;refine#[M,UQ,ρ,O,x,Q,e1,λv H1 C r=>#[M,UQ,ρ,O,y,Q.grow C,e2,λv2 H2 I r2=>?_]];have R1:=Q.grow C;have R2:=R1.grow I;have r':RP X.K M UQ H2 O x v:=by
  rcases r with r|r
  ·exact .inl (r.same (jt I))
  ·exact .inr r
 let jL k p xs rfl h1 h2 hk:=ww (r'.at R2.keep R2.in0 (jf.refl _)) e3;let jL j p' ys rfl P h2' hj:=ww (r2.at R2.keep R2.in0 (jf.refl _)) e4;refine#[k,j,p,p',xs,ys,rfl,h1,P,q _ H2 (C.trans I) λi H' O' t0 t1 t2 ta=>?_];let jL k2 q2 us ea A g2 N:=ww (r'.at t0 t1 t2) e3;cases ea;cases DZ hk N;let jL j2 q3 ws eb n o T:=ww (r2.at t0 t1 t2) e4;cases eb;cases DZ hj T;refine#[λd t=>?_,λhi=>#[us,ws,A,n,?_]]
 ·rw[List.getElem?_zipWith]at t;split at t
  ·obtain rfl:=Zj t;rename_i dp dq hp hq;let ja u hu ru:=g2.get hp;let ja w hw F:=o.get hq;refine#[#[us,ws,u,w,A,n,hu,hw],λx' H'' W=>?_];revert W;intro k0;let jw pp g rfl W:=k0;rw[W _ _ _ _ A n hu hw];exact#[jZ g _,oN (λz=>ta pp z g) g ru F]
  ·exact Zn t
 ·rw[List.length_zipWith]at hi;rw[g2.len,o.len];omega
noncomputable abbrev DG:=D->jD->Y jD
noncomputable abbrev D_:=L D->jD->Y jD
abbrev tG(K:Fr)(k:Nat)(g:DG):TG:=λv l H Q=>∃j i m O d h,Rel K j i m l H O/\J2 K (ji H O) d v/\g d m=S h/\∀f,Rel K j i h f H O->f.drop k=l.drop k->Q f H
abbrev Bb(K:Fr)(k:Nat)(g:D_):XM:=λo j H Q=>∃m n l O i h,Rel K m n l j H O/\jm K (ji H O) i o/\g i l=S h/\∀f,Rel K m n h f H O->f.drop k=j.drop k->Q f H
def e7(h:PG X tg t)(f:∀v g H Q,j v g H Q->t v g H Q):PG X tg j:=λi s g H v u Q I r q=>h _ s g H v u Q I r (f v g H Q q)
def Bc(h:GG X k t)(f:∀v g H Q,j v g H Q->t v g H Q):GG X k j:=λi s g H v u Q I r q=>h _ s g H v u Q I r (f v g H Q q)
@[simp]abbrev gN(i:Nat)(d:D)(f:jD):Y jD:=S (f.set i (.cl d))
def iU(h:PG X (.Name x pos) (yZ i))(j:i<k:=by decide):PG X (.Name x pos) (tG K k (gN i)):=e7 h λv o H Q g=>by
 let JV m n l O d f R r e q:=g;obtain rfl:=Zj e;exact q _ (R.set r i) (List.drop_set_of_lt j)
@[simp]abbrev gZ(ds:L D)(f:jD):=match ds with
 |[]=>S f
 |_=>J
@[simp]abbrev gC(g:DG)(h:D_)(ds:L D)(i:jD):=match ds with
 |d::r=>(g d i).bind λf=>h r f
 |[]=>J
def MD:GG X [] (Bb K k gZ):=Bc Ey λv l H Q g=>by
 let JV i j h O d f R r e q:=g;unfold gZ at e;split at e
 ·obtain rfl:=Zj e;exact#[r,q _ R rfl]
 ·exact Zn e
def iV(A:PG X e (tG K k g))(F:GG X h (Bb K k l))(m:(assignEach (e::h) X.env).map (·.2)=assign e X.env::(assignEach h X.env).map (·.2):=by rfl):GG X (e::h) (Bb K k (gC g l)):=Bc (cH A F m) λv N H Q x=>by
 let JV i j M O P n R r f q:=x;unfold gC at f;split at f
 ·let ja p s I:=jd f;let jc t C rfl a b:=r;exact#[t,C,rfl,i,j,M,O,_,_,R,a,s,λy z o=>#[i,j,_,O,_,_,z,b,I,λw R2 u=>q _ R2 (u.trans o)]]
 ·exact Zn f
@[simp]abbrev gT(n)(f:D_)(d:D)(g:jD):=match d with
 |.tup l=>if l.length=n then f l g else J
 |_=>J
def ME(n)(s:X.calm=B)(h:GG X g (Bb K l A))(x:(assignEach g X.env).length=n:=by rfl)(i:(assignEach g X.env).findIdx? (·.1)=J:=by rfl)(u:X.K=K:=by rfl):PG X (.Tuple g k pos) (tG K l (gT n A)):=e7 (Hz s h x i) λv C H Q o=>by
 let JV w p z O d y R r f q:=o;subst u;unfold gT at f;split at f
 ·split at f
  ·let jc a t rfl m j:=RB.tup (.inl r);exact#[a,t,rfl,m,by rw[j.len];assumption,w,p,z,O,_,_,R,j,f,q]
  ·exact Zn f
 ·exact Zn f
@[simp]abbrev Jc(_:jD):=S B
def iW:ZJ X [] (tT K Jc):=λf s g H Q I h=>by
 let je l k j O b R i q:=h;obtain rfl:=Zj i;exact EL _ s g H Q I (q H Ss)
abbrev iX(h:PT X c (tT K f)):=EM h
@[simp]abbrev V4(k:Nat)(f:L Nat)(g:jD):jD:=List.replicate k .un++f.map λj=>(g[j]?).getD .un
abbrev JX(g:DG)(dc:DT)(de:DE):L D->jD->Y (L D)
 |[],_=>S []
 |d::i,h=>(g d h).bind λf=>(dc f).bind λk=>if k=B then(de f).bind λy=>(JX g dc de i h).bind λj=>S (y::j)else JX g dc de i h
def XW(g dc de d i h):JX g dc de (d::i) h=(g d h).bind λf=>(dc f).bind λk=>if k=B then(de f).bind λy=>(JX g dc de i h).bind λj=>S (y::j)else JX g dc de i h:=rfl
@[simp]abbrev yK(k:Nat)(h:L Nat)(j:DI)(g:DG)(dc:DT)(de:DE)(i:jD):Y OD:=(j i).bind λf=>(JX g dc de f (V4 k h i)).bind λl=>if f.length<=sizeLine then S (.lst l)else J
def QD(n g)(R:Rel K H0 O0 P Z H O)(T:(g.map (·.2)).Nodup):Rel K H0 O0 (V4 n.length (g.map (·.2)) P) (Vn n g Z) H O:=by
 have h:∀(i s),s≠.un->(V4 n.length (g.map (·.2)) P)[i]?=S s->∃m x j,i=n.length+m/\g[m]?=S (x,j)/\P[j]?=S s/\(Vn n _ Z)[i]?=S ((Z[j]?).join):=λi s hs e=>by
  unfold V4 at e;by_cases hi:i<n.length
  ·rw[uRa Sa,List.getElem?_replicate,if_pos hi]at e;obtain rfl:=Zj e;exact vDa rfl hs
  ·rw[List.getElem?_append_right Sa,List.length_replicate,List.map_map,uAa]at e;cases q:g[i-n.length]? with
   |none=>rw[q]at e;exact Zn e
   |some p=>
    rw[q]at e;let q x j:=p;have e:(P[j]?).getD _=s:=vFa e;refine#[_,x,j,by omega,q,?_,?_]
    ·cases z:P[j]? with
     |none=>rw[z]at e;exact vDa e.symm hs
     |some s'=>rw[z]at e;rw[<-e];rfl
    ·rw[List.getElem?_append_right (by grind),vYa,uAa,q];rfl
 have jn:∀{o}{v:V},o.join=S v->o=S (S v):=λ{o v} z=>by
  cases o with
  |none=>exact Zn z
  |some w=>cases w with
   |none=>exact Zn z
   |some u=>obtain rfl:=Zj z;rfl
 have mj:∀{m F j:Nat}{x Q},g[m]?=S (x,j)->g[F]?=S (Q,j)->m=F:=λ{m F j x Q} I N=>by
  have r:(g.map (·.2))[m]?=S j:=by rw[uAa,I];rfl
  have A:(g.map (·.2))[F]?=S j:=by rw[uAa,N];rfl
  have l1:=(uSa r).1;exact(List.getElem?_inj l1 T).mp (r.trans A.symm)
 refine#[?_,R.sub,R.fr,R.al0,R.al,R.keep,?_,?_,?_,?_,?_]
 ·simp
 ·intro i d e;let jL m x j _ _ t C:=h i _ (by lia) e;let ja v r A:=R.cl j d t;exact#[v,by rw[C,r];rfl,A]
 ·intro i d e;let jL m x j _ _ t C:=h i _ Sx e;let ja v r A:=R.bo j d t;exact#[v,by rw[C,r];rfl,A]
 ·intro i q o e;let jL m x j _ _ t C:=h i _ (by lia) e;let jw l z r A:=R.ow j q o t;exact#[l,z,by rw[C,r];rfl,A]
 ·intro i i' q q' ds es l e e' f f';let jL m x j rfl I t C:=h i _ Sx e;let jL F Q M rfl N e2' W:=h i' _ (by lia) e';rw[C]at f;rw[W]at f';have ej:=R.dist j M q q' ds es l t e2' (jn (vFa f)) (jn (vFa f'));subst ej;rw[mj I N]
 ·intro i qb hb e;let jL m x j rfl I t C:=h i _ Sx e;let YH l ps r hp A nd f u:=R.lo j qb hb t;refine#[l,ps,by rw[C,r];rfl,hp,A,nd,λa UQ=>#[(f a UQ).1,(f a UQ).2.1,λ⟨k,q,o,y,z⟩=>(f a UQ).2.2 ?_],λk qb' ms y=>?_]
  ·let jL _ _ M _ _ y2 y3:=h k _ Sx y;rw[y3]at z;exact#[M,q,o,y2,jn (vFa z)]
  ·let jL F Q M rfl N y2 _:=h k _ Sx y;have:=u M _ ms y2;subst this;rw[mj I N]
end
section
variable{X:Cx}{K:Fr}{e a b c d tg:Expr}{de da db dc dd:DE}{pos:Pos}
set_option tactic.hygienic true
theorem wx{j di g dc de}(Z:(j.map (·.2)).Nodup):∀UQ H Q,tF K (yK p.length (j.map (·.2)) di g dc de) UQ H Q->Dy p j (Z_ K di) (tG K p.length g) (tT K dc) (tE K de) UQ H Q:=λUQ H Q xx=>by
 let je F I P O o R s q:=xx;let ja h e1 s:=jd s;let ja ys e2 s:=jd s;split at s
 ·rename_i hz;obtain rfl:=Zj s;refine#[F,I,P,O,_,R,e1,λf H1 s1 hJ=>?_];have R1:=R.grow s1;have Rc:=QD p _ R1 Z;refine#[λi m vs M=>∃l n,JX g dc de (h.drop i) (V4 _ (j.map _) P)=S n/\l++n=ys/\jf H1 M/\jm K (ji M O) l vs/\m=h.length-i/\i<=h.length/\l.length<=i,#[_,[],ys,by simpa using e2,rfl,jf.refl _,jm.nil,rfl,Nat.zero_le _,wPa _],?_];rintro i m vs M ⟨l,n,d1,d2,t,w,rfl,hi,hy⟩;have R2:=R1.grow t;let q T r:=hJ i M O R2.keep R2.in0 (jt t) R2.al;by_cases C:i<h.length
  ·right;have hx:h[i]?=S h[i]:=by simp
   have hd:=(List.getElem_cons_drop C).symm;rw[hd]at d1;let q g1 g2:=T _ hx;refine#[g1,by rw[w.len];lia,λz N=>∃l n,JX g dc de (h.drop (i+1)) (V4 p.length (j.map (·.2)) P)=S n/\l++n=ys/\jf H1 N/\jm K (ji N O) l z/\l.length<=i+1,?_,λx H'' y=>?_]
   ·rintro z N ⟨z1,z2,a1,a2,a3,a4,a5⟩;exact#[_,by lia,z1,z2,a1,a2,a3,a4,rfl,C,a5]
   ·let q u rx:=g2 x _ y;let ja ρ1 f1 f2:=jd d1;let ja k f3 f4:=jd f2;refine#[F,I,_,O,_,_,Rc.grow (t.trans u),rx,f1,λU2 R3 kd=>#[kd,F,I,_,O,k,R3,f3,λH3 A=>?_]];cases k with
    |true=>
     let ja y1 f5 f6:=jd f4;let ja yr f7 f8:=jd f6;obtain rfl:=Zj f8;refine ZI #[F,I,_,O,y1,R3.grow A,f5,λv N s4 rv=>?_];exact#[_,yr,f7,by simp_all,t.trans (u.trans (A.trans s4)),(w.same (jt (u.trans (A.trans s4)))).snoc rv,by simp;exact hy]
    |false=>
     exact ZH #[_,_,f4,d2,t.trans (u.trans A),w.same (jt (u.trans A)),by lia]
  ·left;have ei:i=h.length:=by lia
   refine#[r ei,by rw[w.len];lia,λDd W=>?_];have e0:h.drop i=[]:=List.drop_of_length_le (by lia);rw[e0]at d1;have e3:n=[]:=by
    exact(vFa d1).symm
   rw[e3,uFa]at d2;subst d2;exact q Dd _ ((s1.trans t).trans (jZ W _)) ((s1.trans t).none W) (YF W w)
 ·exact Zn s
def iY{m h t g}{dc:DT}{de}(k i)(f:CScope X h)(p:Caps X h i)(v:X.calm=B)(u:PI X tg l (Z_ K t))
  (w:∀o n j,PG (X.comp (cN k i) h o n j) tg (tG K k.length g)) (z:∀o n j,ZJ (X.comp (cN k i) h o n j) m (tT K dc)) (y:∀o n j,PE (X.comp (cN k i) h o n j) s (tE K de))
  (r:(i.map (·.2)).Nodup:=by decide) (A:∀x,foldedSetIterable l X.env x=pure x:=by intro _;rfl):PE X (.ListComp s [#[tg,l,m,0]] h pos) (tF K (yK k.length (i.map (·.2)) t g dc de)):=jR (M4 _ _ f p v u w z y A) (wx r)
abbrev VV(K:Fr)(h:L Bool)(F:L D->Y D):Sp:=λi H Q _=>∃O g d,(∀a∈O,H a≠J)/\yJ K O H h g i/\F g=S d/\∀v f,jf H f->J2 K (ji f O) d v->Q v f
abbrev XX(K:Fr)(h:L Bool)(F:L D->Y OD):Sp:=λi H Q _=>∃O g o,(∀a∈O,H a≠J)/\yJ K O H h g i/\F g=S o/\∀l f,jf H f->H l=J->yG K f (ji f (l::O)) l o->Q (.ref l) f
variable{k:Nat}{x m:Str}{ps:L Str}{p apos:Pos}{es:L Expr}{l:DA}{ks:L Bool}
def iZ(f:FnI X.prog X.w X.K X.mg X.base k x ps (VV K ks F))(n:Room k X.A)(t:PA X (e::es) (Y1 K l))(P:l.map (·.1)=ks:=by rfl)(T:Gl X x:=by rfl)(h:Su=G:=by decide)
  (N:starEach (e::es) X.env=(G,eval e X.env)::starEach es X.env:=by rfl) (g:(backTo pos (starEach es X.env)).any (·.1)=G:=by rfl):PE X (.Call (.Name x p) (e::es) [] pos) (tE K (jo F l)):=jR (DB f n t T h N g) λW H Q C=>by
 let je I M z O d R y q:=C;subst P;let ja j A o:=jd y;refine#[I,M,z,O,j,R,A,λZ UQ i u=>?_]
 (try dsimp only)
 rw[uFa];exact#[O,j,d,(R.grow i).al,u,o,λv w s r=>q v w (i.trans s) r]
def i_(f:FnI X.prog X.w X.K X.mg X.base k x ps (XX K ks F))(n:Room k X.A)(t:PA X (e::es) (Y1 K l))(y:l.map (·.1)=ks:=by rfl)(T:Gl X x:=by rfl)(h:Su=G:=by decide)
  (M:starEach (e::es) X.env=(G,eval e X.env)::starEach es X.env:=by rfl) (i:(backTo pos (starEach es X.env)).any (·.1)=G:=by rfl):PE X (.Call (.Name x p) (e::es) [] pos) (tF K (Jg F l)):=jR (DB f n t T h M i) λW H Q P=>by
 let je C I z O d R w q:=P;subst y;let ja j A o:=jd w;refine#[C,I,z,O,j,R,A,λZ UQ g N=>?_]
 (try dsimp only)
 rw[uFa];exact#[O,j,d,(R.grow g).al,N,o,λl v s u r=>q l v (g.trans s) (g.none u) r]
abbrev uO(C:Addr)(m:Str)(F:L D->Y D):D->Y D:=λd=>match d with
 |.ins g f i=>if g=C/\m∉f then F [d]else J
 |.obj g f i h es=>if g=C/\m∉f++h then F [d]else J
 |_=>J
abbrev YU(C:Addr)(m:Str)(F:L D->Y OD):D->Y OD:=λd=>match d with
 |.ins g f h=>if g=C/\m∉f then F [d]else J
 |_=>J
theorem Za:∀{f:L _}{g:L i},m∉f->(f.zip g).lookup m=J
 |[],_,_=>rfl
 |_::_,[],_=>rfl
 |n::f,x::g,h=>by
  rw[List.zip_cons_cons,List.lookup_cons];have e:(m==n)=G:=by simp_all
  rw[e];exact Za λz=>h (wMa _ z)
theorem EV(he:PE X a (tR K da))(c:Cls K C)(M:MtI X.prog X.w X.K X.mg X.base k C m ps (VV K [G] F))(T:Room k X.A)
  (ht:eval (.Call (.Attribute a m apos) [] [] pos) X.env=(do
   let z<-eval a X.env
   standAt apos.atName
   let(f,h)<-holding [z] (getMethod z m pl)
   callWith pos f h (backTo pos (starEach [] X.env)) (backToKw pos (keywordEach [] X.env))):=by rfl) (A:X.K=K:=by rfl):
  PE X (.Call (.Attribute a m apos) [] [] pos) (tE K (d1 (uO C m F) da)):=by
 subst A;refine jR (B9 he c M T ht) λU H Q W=>?_;let je Z O0 P O d R N q:=W;let ja x I g:=jd N;refine#[Z,O0,P,O,x,R,I,λv H1 j r=>?_];unfold uO at g;split at g
 ·split at g
  ·rename_i t;let q rfl i:=t;have n:=r;let jL u w UQ rfl y hn h2:=r.ins;exact#[u,w,_,rfl,y,Za i,O,[_],d,(R.grow j).al,#[n,trivial],g,λv o s r=>q v o (j.trans s) r]
  ·exact Zn g
 ·split at g
  ·rename_i t;let q rfl i:=t;have n:=r;let VG u w UQ ys rfl y _:=r.obj;rw[List.mem_append,not_or]at i;exact#[u,w,_,rfl,y,by rw[List.lookup_append,Za i.1,Za i.2];rfl,O,[_],d,(R.grow j).al,#[n,trivial],g,λv o s r=>q v o (j.trans s) r]
  ·exact Zn g
 ·exact Zn g
@[simp]abbrev Ki(f:D->Y OD)(da:DE)(g):=(da g).bind f
set_option tactic.hygienic false
set_option tactic.hygienic true in
theorem EW(he:PE X a (tR K da))(c:Cls K C)(M:MtI X.prog X.w X.K X.mg X.base k C m ps (XX K [G] F))(t:Room k X.A)
  (Z:eval (.Call (.Attribute a m apos) [] [] pos) X.env=(do
   let n<-eval a X.env
   standAt apos.atName
   let(f,g)<-holding [n] (getMethod n m pl)
   callWith pos f g (backTo pos (starEach [] X.env)) (backToKw pos (keywordEach [] X.env))):=by rfl) (w:X.K=K:=by rfl):
  PE X (.Call (.Attribute a m apos) [] [] pos) (tF K (Ki (YU C m F) da)):=by
 subst w;refine jR (B9 he c M t Z) λU H Q xx=>?_;let je z O0 o O d R I q:=xx;let ja x u h:=jd I;refine#[z,O0,o,O,x,R,u,λv H1 i r=>?_];unfold YU at h;split at h
 ·split at h
  ·rename_i y;let q rfl T:=y;have P:=r;let jL N W xs rfl UQ j h2:=r.ins;exact#[N,W,_,rfl,UQ,Za T,O,[_],d,(R.grow i).al,#[P,trivial],h,λl A s j r=>q l A (i.trans s) (i.none j) r]
  ·exact Zn h
 ·exact Zn h
abbrev e9(K:Fr)(C:Addr)(ks:L Bool)(F:Addr->L D->Y OD):Sp:=λj H Q _=>∃O h p i f o,j=.ref p::f/\(∀a∈O,H a≠J)/\H p=S (.ins C i [])/\p∉O/\yJ K O (ji H [p]) ks h f/\F p h=S o/\∀g,jf (ji H [p]) g->yG K g (ji g (p::O)) p o->Q .non g
@[simp]abbrev Ay(F:L D->Y OD)(l f):=(zh l f).bind F
def Ia(M:MkI X.prog X.w X.K X.mg X.base k C x ps (e9 K C ks F))(hF:∀p f o,F1 f=S o->F p f=S o)(Z:Room (k+1) X.A)(N:PA X (e::es) (Y1 K l))(P:l.map (·.1)=ks:=by rfl)(hg:Gl X x:=by rfl)(i:Su=G:=by decide)
  (he:starEach (e::es) X.env=(G,eval e X.env)::starEach es X.env:=by rfl) (j:(backTo pos (starEach es X.env)).any (·.1)=G:=by rfl):PE X (.Call (.Name x p) (e::es) [] pos) (tF K (Ay F1 l)):=jR (M5 M Z N hg i he j) λU H Q xx=>by
 let je H0 O0 ρ O o R UQ q:=xx;subst P;let ja f W e2:=jd UQ;refine#[H0,O0,ρ,O,f,R,W,λvs A n r1=>λy g h r hne=>?_]
 (try dsimp only)
 rw[uFa];have v:=R.grow n;have t:jf A (ji (upd (upd A g (.own y)) y (.ins C g [])) [y]):=λc u z=>by
  rw[jS (by intro w;simp at w;exact jU z h w),jp (jU z h),jp (jU z r)];exact z
 refine#[O,f,y,g,vs,o,rfl,λc hc z=>?_,jz,v.new h,r1.same t,hF y f o e2,λT s I=>#[rfl,q y T (n.trans (t.trans s)) (n.none h) I]];refine v.al c hc ?_;by_cases h1:c=y
 ·lia
 ·rw[jp h1]at z;by_cases h2:c=g
  ·lia
  ·rw[jp h2]at z;exact z
noncomputable abbrev Xp:=Str×L (Str×V)
set_option genInjectivity true in
inductive Rs where
 |nx (ρ:jD)|rt (d:D)|rf (o:OD)|bk (ρ:jD)|ct (ρ:jD)|xc (p:Xp) (ρ:jD)|rh (d:D) (ρ:jD)
noncomputable abbrev DS:=jD->Y Rs
abbrev Fin(K:Fr)(r:Xp->Hp->Prop)(j:Hp)(n:FA)(H:Hp)(O:L Addr)(E:Ends):Rs->Prop
 |.nx i=>∀g f h,Rel K j n i g f h->jf (ji H O) (ji f h)->E.nx g f
 |.bk i=>∀g f h,Rel K j n i g f h->jf (ji H O) (ji f h)->E.bk g f
 |.ct i=>∀g f h,Rel K j n i g f h->jf (ji H O) (ji f h)->E.ct g f
 |.rt d=>∀v f,jf j f->J2 K (ji f n.l) d v->E.rt v f
 |.rf o=>∀l f,jf j f->j l=J->yG K f (ji f (l::n.l)) l o->E.rt (.ref l) f
 |.xc p i=>∀g f h,Rel K j n i g f h->r p f
 |.rh d i=>∀v g f h,Rel K j n i g f h->J2 K (ji f h) d v->E.rt v f
def Fin.mono{n H v u O w E r}(s:jf (ji H O) (ji v w))(h:Fin K y n u H O E r):Fin K y n u v w E r:=by
 cases r with
 |nx j=>exact λi f g R t=>h _ f g R (s.trans t)
 |bk j=>exact λi f g R t=>h _ f g R (s.trans t)
 |ct j=>exact λi f g R t=>h _ f g R (s.trans t)
 |rt d=>exact h
 |rf o=>exact h
 |xc p j=>exact h
 |rh d j=>exact h
abbrev tS(K:Fr)(n:Xp->Hp->Prop)(i:DS):TS:=λE j H=>∃f g h O r,Rel K f g h j H O/\i h=S r/\Fin K n f g H O E r
variable{st:Stmt}{rest:L Stmt}{s1 s2:DS}
def Jj(h:PS X st t)(f:∀D g H,j D g H->t D g H):PS X st j:=λi s g H D I q=>h _ s g H D I (f D g H q)
def VW(h:Jx X rest t)(f:∀D g H,j D g H->t D g H):Jx X rest j:=λi s g H D I q=>h _ s g H D I (f D g H q)
@[simp]abbrev jA(f:jD):Y Rs:=S (.nx f)
def Ib:Jx X [] (tS K s jA):=VW XJ λD g H i=>by
 let je n j o O r R h f:=i;obtain rfl:=Zj h;exact f g H O R (jf.refl _)
abbrev GS(s:DS):Rs->Y Rs
 |.nx f=>s f
 |r=>S r
@[simp] theorem py(s f):GS s (.nx f)=s f:=rfl
@[simp] theorem pz(s f):GS s (.bk f)=S (.bk f):=rfl
@[simp] theorem pA(s f):GS s (.ct f)=S (.ct f):=rfl
@[simp] theorem pB(s d):GS s (.rt d)=S (.rt d):=rfl
@[simp] theorem pC(s o):GS s (.rf o)=S (.rf o):=rfl
@[simp] theorem pE(s p a):GS s (.xc p a)=S (.xc p a):=rfl
@[simp] theorem pF(s d a):GS s (.rh d a)=S (.rh d a):=rfl
@[simp]abbrev jb(s1 s2:DS)(g):=(s1 g).bind (GS s2)
def EX(I:PS X st (tS K u s1))(F:Jx X rest (tS K u s2)):Jx X (st::rest) (tS K u (jb s1 s2)):=VW (VO I F) λD M H y=>by
 let je n s i O r R A f:=y;let ja j z g:=jd A;refine#[n,s,i,O,j,R,z,?_];cases j with
 |nx h=>exact λw N v C t=>#[n,s,_,v,r,C,g,f.mono t]
 |bk h=>obtain rfl:=Zj g;exact f
 |ct h=>obtain rfl:=Zj g;exact f
 |rt d=>obtain rfl:=Zj g;exact f
 |rf o=>obtain rfl:=Zj g;exact f
 |xc p i=>obtain rfl:=Zj g;exact f
 |rh d i=>obtain rfl:=Zj g;exact f
abbrev Ic(f:PS X st (tS K g s1)):=Uy f
@[simp]abbrev JD(_:jD):Y Rs:=J
def Ci:Jx X rest (tS K i JD):=VW bL λD j H x=>by let je n h o O r R g f:=x;exact Zn g
@[simp]abbrev vV(i:Nat)(s:DS)(f:jD):Y Rs:=match f[i]? with
 |S (.ow _ o)=>s (f.set i (.cl o.toD))
 |S (.cl _)=>s f
 |_=>J
def Cj(i)(h:Jx X rest (tS K s s1)):Jx X rest (tS K s (vV i s1)):=VW h λD y H t=>by
 let je n j w O r R g f:=t;unfold vV at g;split at g
 ·let ja o v u:=R.share Sv;exact#[n,j,_,o,r,v,g,f.mono u]
 ·exact#[n,j,w,O,r,R,g,f]
 ·exact Zn g
@[simp]abbrev jr(g:DT)(s1 s2:DS)(f):=(g f).bind λk=>if k=B then s1 f else s2 f
def oO(y:PT X c (tT K t))(z:Jx X o (tS K n s1))(A:Jx X v (tS K n s2)):PS X (.If c o v pos) (tS K n (jr t s1 s2)):=Jj (Dp y z A) λD I H u=>by
 let je i h g O r R C f:=u;let ja k w j:=jd C;refine#[i,h,g,O,k,R,w,λF s=>?_];cases k with
 |true=>exact ZI #[i,h,g,O,r,R.grow s,j,f.mono (jt s)]
 |false=>exact ZH #[i,h,g,O,r,R.grow s,j,f.mono (jt s)]
@[simp]abbrev jx(i:Nat)(de:DE)(f:jD):Y Rs:=(de f).bind λd=>S (.nx (f.set i (.cl d)))
def Ie:∀D g H,tS K z (jx i de) D g H->Y2 (tE K de) (yZ i) D g H:=λD g H o=>by
 let je w t h O r R y f:=o;let ja d j n:=jd y;obtain rfl:=Zj n;exact#[w,t,h,O,d,R,j,λv u s q=>f _ u O ((R.grow s).set q i) (jt s)]
def qP(h:PS X st (Y2 (tE K de) (yZ i))):PS X st (tS K f (jx i de)):=Jj h Ie
@[simp]abbrev Zr(i:Nat)(g:DO)(f:jD):Y Rs:=(g f).bind λo=>S (.nx (f.set i (.ow J o)))
def Ig:∀D g H,tS K A (Zr i y) D g H->Y2 (tF K y) (yZ i) D g H:=λD g H t=>by
 let je o u j O r R z f:=t;let ja d n v:=jd z;obtain rfl:=Zj v;exact#[o,u,j,O,d,R,n,λl w s h q=>f _ w _ (R.own s h q i) (YE s h)]
def Az(h:PS X st (Y2 (tF K f) (yZ i))):PS X st (tS K g (Zr i f)):=Jj h Ig
def VX(h:PS X st (Y2 n g))(f:∀i H Q,j i H Q->n i H Q):PS X st (Y2 j g):=Jj h λD i H q=>f i H _ q
def QE:∀f H Q,tE K (dL y) f H Q->tF K y f H Q:=λf H Q o=>by
 let je i t g O d R A q:=o;let ja w j v:=jd A;obtain rfl:=Zj v;exact#[i,t,g,O,w,R,j,λl C s n r=>q _ _ s ((r.same (λ_ z=>z) (yf λa h=>wMa _ h)).rep λu z=>by rw[jS (R.new n)];exact z)]
@[simp]abbrev Y3(de:DE)(g:DG)(h:jD):Y Rs:=(de h).bind λd=>(g d h).bind λf=>S (.nx f)
def MF(h:PS X st (Y2 (tE K de) (tG K F g))):PS X st (tS K M (Y3 de g)):=Jj h λD I H t=>by
 let je j n o O r R i f:=t;let ja d z i:=jd i;let ja u w i:=jd i;obtain rfl:=Zj i;exact#[j,n,o,O,d,R,z,λv A s q=>#[j,n,o,O,d,_,R.grow s,q,w,λy C _=>f _ A O C (jt s)]]
@[simp]abbrev AA(i:Nat)(h:Int->Int->Int)(de:DE)(f:jD):Y Rs:=(dC i f).bind λx=>(de f).bind λy=>match x,y with
 |.int p,.int q=>S (.nx (f.set i (.cl (.int (h p q)))))
 |_,_=>J
def ef(h:PS X st (HA i (tR K de) (HB g))):PS X st (tS K I (AA i g de)):=Jj h λD M H w=>by
 let je F z o O r R j f:=w;let ja x n j:=jd j;let ja y t j:=jd j;split at j
 ·obtain rfl:=Zj j;unfold dC at n;split at n
  ·obtain rfl:=Zj n;let ja v u rfl:=R.cl i _ Sv;exact#[_,u,F,z,o,O,_,R,t,λv A s q=>#[_,_,rfl,q.int,f _ A O ((R.grow s).set (by exact rfl) i) (jt s)]]
  ·exact Zn n
 ·exact Zn j
@[simp]abbrev qQ(de:DE)(f:jD):Y Rs:=(de f).bind λ_=>S (.nx f)
def Be(h:PS X st (gj (tR K de))):PS X st (tS K z (qQ de)):=Jj h λD y H o=>by
 let je i t g O r R u f:=o;let ja d j n:=jd u;obtain rfl:=Zj n;exact#[i,t,g,O,d,R,j,λv w s q=>f _ w O (R.grow s) (jt s)]
@[simp]abbrev vJ(i:Nat)(de:DE)(f:jD):Y Rs:=match f[i]? with
 |S (.ow q (.lst g))=>(de f).bind λd=>if g.length<sizeLine then S (.nx (f.set i (.ow q (.lst (g++[d])))))else J
 |_=>J
set_option tactic.hygienic true in
theorem Cl(h:PS X st (gj (b_ K "list" kW (yF i) (ZG (tE K de) gk)))):PS X st (tS K W (vJ i de)):=Jj h λD U H N=>by
 let je F Q y O r R g f:=N;unfold vJ at g;split at g
 ·rename_i q Z o;let ja d P j:=jd g;split at j
  ·rename_i I;obtain rfl:=Zj j;let J3 l A w x0 lo z:=R.ow i _ _ o;let q T t u:=x0;refine#[_,w,.inl #[rfl,_,Jk.of t],F,Q,y,O,d,R,P,λv UQ s C=>?_];have M:=R.grow s;have n:=u.same (jt s);refine#[l,T,v,rfl,rfl,s _ _ t,by rw[u.len];exact I,f _ _ O (M.change o A w lo z #[_,jz,n.snoc C]) ?_];rw[yo lo];exact jt s
  ·exact Zn j
 ·exact Zn g
@[simp]abbrev wy(i:Nat)(h de:DE)(f:jD):Y Rs:=match f[i]? with
 |S (.ow q (.lst g))=>(de f).bind λd=>(h f).bind λj=>match j with
  |.int j=>(Gh g.length j).bind λn=>S (.nx (f.set i (.ow q (.lst (g.set n d)))))
  |_=>J
 |_=>J
set_option tactic.hygienic true in
theorem Ih(h:PS X st (Y2 (tE K de) (cJ (yF i) (tR K P) Dw))):PS X st (tS K Px (wy i P de)):=Jj h λD U H Z=>by
 let je y z F O r R g f:=Z;unfold wy at g;split at g
 ·rename_i q ds u;let ja d e1 g:=jd g;let ja j UQ g:=jd g;split at g
  ·let ja n N g:=jd g;obtain rfl:=Zj g;let J3 l I C y0 lo W:=R.ow i _ _ u;let q vs M A:=y0;refine#[y,z,F,O,d,R,e1,λv H1 s1 Q=>#[_,C,y,z,F,O,_,R.grow s1,UQ,λw H2 s2 s=>?_]];have o:=s1.trans s2;have T:=R.grow o;have t:=A.same (jt o);refine#[l,vs,_,n,rfl,s.int,o _ _ M,by rw[A.len];exact N,f _ _ O (T.change u I C lo W #[_,jz,t.set (Q.same (jt s2)) n]) ?_];rw[yo lo];exact jt o
  ·exact Zn g
 ·exact Zn g
@[simp]abbrev ju(de:DE)(f:jD):Y Rs:=(de f).bind λd=>S (.rt d)
def eg(h:PE X e (tE K de)):PS X (.Return (S e) pos) (tS K z (ju de)):=Jj (VP h) λD y H o=>by
 let je i t g O r R u f:=o;let ja d j n:=jd u;obtain rfl:=Zj n;exact#[i,t,g,O,d,R,j,λv w s q=>f v w (R.keep.trans s) (q.same (yf R.sub))]
@[simp]abbrev Yo(g:DO)(f:jD):Y Rs:=(g f).bind λo=>S (.rf o)
def Ii(h:PE X e (tF K v)):PS X (.Return (S e) pos) (tS K A (Yo v)):=Jj (VP h) λD C H t=>by
 let je i u g O r R w f:=t;let ja d j n:=jd w;obtain rfl:=Zj n;refine#[i,u,g,O,d,R,j,λl y s o q=>f l y (R.keep.trans s) (R.keep.none o) (q.same (λ_ z=>z) (yf λa h=>?_))];rcases uTa h with rfl|h
 ·simp
 ·exact wMa _ (R.sub a h)
@[simp]abbrev qR(i:Nat)(f:jD):Y Rs:=match f[i]? with
 |S (.ow _ o)=>S (.rf o)
 |_=>J
def Ij(h:PE X (.Name x g) (yF i)):PS X (.Return (S (.Name x g)) pos) (tS K y (qR i)):=Jj (VP h) λD w H t=>by
 let je v u A O r R j f:=t;unfold qR at j;split at j
 ·obtain rfl:=Zj j;let J3 l _ s n lo o:=R.ow i _ _ Sv;refine#[_,s,f l H R.keep o (n.same (λ_ z=>z) (yf λa h=>?_))];rcases uTa h with rfl|h
  ·exact lo
  ·exact R.sub a h
 ·exact Zn j
def Ik:PS X (.Return J pos) (tS K s (ju (dK .non))):=Jj Ew λD o H h=>by
 let je j n i O r R g f:=h;obtain rfl:=Zj g;exact f _ H R.keep rfl
abbrev GT(k:DS):Rs->Y Rs
 |.nx f=>k f
 |.ct f=>k f
 |.bk f=>S (.nx f)
 |r=>S r
@[simp] theorem Pq(k f):GT k (.nx f)=k f:=rfl
@[simp] theorem Pr(k f):GT k (.ct f)=k f:=rfl
@[simp] theorem Ps(k f):GT k (.bk f)=S (.nx f):=rfl
@[simp] theorem Pt(k d):GT k (.rt d)=S (.rt d):=rfl
@[simp] theorem Pu(k o):GT k (.rf o)=S (.rf o):=rfl
@[simp] theorem Pv(k p a):GT k (.xc p a)=S (.xc p a):=rfl
@[simp] theorem Pw(k d a):GT k (.rh d a)=S (.rh d a):=rfl
abbrev Yp(g:DG)(s:DS):L D->DS
 |[],h=>S (.nx h)
 |d::j,h=>(g d h).bind λi=>(s i).bind (GT (Yp g s j))
def EY(g s h):Yp g s [] h=S (.nx h):=rfl
def Yx(g s d j h):Yp g s (d::j) h=(g d h).bind λi=>(s i).bind (GT (Yp g s j)):=rfl
@[simp]abbrev Yg(i:DI)(g s h):=(i h).bind λf=>Yp g s f h
def MG(hp:PassesOwn Sz X.A X.env X.xe)(hc:X.calm=B)(hi:PI X tg s (Z_ K di))(hg:PG X tg (tG K kk g))(hb:Jx X UQ (tS K Px s1))(hs:∀x,foldedSetIterable s X.env x=pure x:=by intro _;rfl):PS X (.For tg s UQ [] pos) (tS K Px (Yg di g s1)):=Jj (HG hp hc hi hg hb hs) λD U H xx=>by
 let je I Z ρ O r R ed f:=xx;let ja j e1 ed:=jd ed;refine#[I,Z,ρ,O,_,R,e1,λh H1 Q hJ=>?_];have R1:=R.grow Q;have C:=f.mono (jt Q);refine#[λi m P T=>∃A w,Rel K I Z A P T w/\Yp g s1 (j.drop i) A=S r/\jf _ (ji T w)/\m=j.length-i/\i<=j.length,#[_,ρ,O,R1,by simpa using ed,jf.refl _,rfl,Nat.zero_le _],?_];rintro i m P T ⟨A,w,M,d1,sd,rfl,hi'⟩;let q hgo u:=hJ i T w M.keep M.in0 sd M.al;by_cases F:i<j.length
 ·right;have hx:j[i]?=S j[i]:=by simp
  have hd:=(List.getElem_cons_drop F).symm;rw[hd]at d1;let q g1 g2:=hgo _ hx;refine#[g1,λz H2=>∃n O2,Rel K I Z n z H2 O2/\Yp g s1 (j.drop (i+1)) n=S r/\jf (ji H1 O) (ji H2 O2),?_,λx H'' y=>?_]
  ·rintro z H2 ⟨n,O2,a1,a2,a3⟩;exact#[_,by lia,_,O2,a1,a2,a3,rfl,F]
  ·let q sy rx:=g2 x _ y;let ja ρ1 f3 f4:=jd d1;let ja r1 f5 v:=jd f4;refine#[I,Z,_,w,_,_,M.grow sy,rx,f3,λz R3 _=>#[I,Z,_,w,r1,R3,f5,?_]];have t1:=sd.trans (jt sy);cases r1 with
   |nx n=>exact λU3 H3 W N t=>#[_,W,N,v,t1.trans t]
   |ct n=>exact λU3 H3 W N t=>#[_,W,N,v,t1.trans t]
   |bk n=>cases v;exact λU3 H3 W N t=>C _ H3 W N (t1.trans t)
   |rt d=>cases v;exact C
   |rf o=>cases v;exact C
   |xc p ρ=>cases v;exact C
   |rh d ρ=>cases v;exact C
 ·left;have ei:i=j.length:=by lia
  refine#[u ei,?_];have e0:j.drop i=[]:=List.drop_of_length_le (by lia);rw[e0]at d1;obtain rfl:=Zj d1;exact C _ T w M sd
abbrev uP(dt:DT)(s:DS):Nat->DS
 |0,_=>J
 |n+1,g=>(dt g).bind λk=>if k=B then(s g).bind (GT (uP dt s n))else S (.nx g)
def kZ(dt s n g):uP dt s (n+1) g=(dt g).bind λk=>if k=B then(s g).bind (GT (uP dt s n))else S (.nx g):=rfl
def EZ(n)(hp:PassesOwn Sz X.A X.env X.xe)(Z:PT X c (tT K M))(hb:Jx X z (tS K Px s1)):PS X (.While c z [] pos) (tS K Px (uP M s1 n)):=Jj (cK hp Z hb) λD U H xx=>by
 let je I F Q O r R ed f:=xx;refine#[λm y N=>∃u v,Rel K I F u y N v/\uP M s1 m u=S r/\jf _ (ji N v),#[n,Q,O,R,ed,jf.refl _],?_];rintro m y N ⟨u,v,P,d1,sd⟩;cases m with
 |zero=>exact Zn d1
 |succ m=>
  let ja k e1 UQ:=jd d1;refine#[I,F,_,v,k,P,e1,λH2 s2=>?_];have C:=sd.trans (jt s2);cases k with
  |true=>
   let ja T f5 s:=jd UQ;refine ZI #[λg j=>∃i h,Rel K I F i g j h/\uP M s1 m i=S r/\jf (ji H O) (ji j h),?_,I,F,_,v,T,P.grow s2,f5,?_]
   ·rintro g j ⟨i,h,a1,W,a3⟩;exact#[m,Nat.lt_succ_self m,_,h,a1,W,a3]
   ·cases T with
    |nx w=>exact λg j h A t=>#[_,h,A,s,C.trans t]
    |ct w=>exact λg j h A t=>#[_,h,A,s,C.trans t]
    |bk w=>cases s;exact λg j h A t=>f _ j h A (C.trans t)
    |rt d=>cases s;exact f
    |rf o=>cases s;exact f
    |xc p Q=>cases s;exact f
    |rh d Q=>cases s;exact f
  |false=>
   obtain rfl:=Zj UQ;exact ZH (f _ H2 v (P.grow s2) C)
def E_{n u v h H g}{dc:DT}{de}(r j){i x s t}(I:X.N.Nodup)(C:X.N[i]?=S x)(M:Uw X.env.scope x)(f:CScope X h)(y:Caps X h j)(UQ:X.calm=B)(R:PI X tg n (Z_ K H))
  (N:∀z w o,PG (X.comp (cN r j) h z w o) tg (tG K r.length g)) (O:∀z w o,ZJ (X.comp (cN r j) h z w o) v (tT K dc)) (Q:∀z w o,PE (X.comp (cN r j) h z w o) u (tE K de)) (F:(j.map (·.2)).Nodup:=by decide)
  (T:∀x,foldedSetIterable n X.env x=pure x:=by intro _;rfl)
  (A:swapsWith (.ListComp u [#[tg,n,v,0]] h pos) (S (.Name x s)) t.line X.env=pure B:=by rfl) (P:X.fn x=B\/X.env.scope.names.lookup x=S .local:=by first|exact .inl _|exact .inr _|assumption):
  PS X (.Assign [.Name x s] (.ListComp u [#[tg,n,v,0]] h pos) t) (tS K W (Zr i (yK r.length (j.map (·.2)) H g dc de))):=
 Az (VX (Qo _ _ I C M f y UQ R N O Q T A P) (wx F))
def f9{n u v h H g}{dc:DT}{de}(r j){i x s t}(I:X.N.Nodup)(C:X.N[i]?=S x)(M:Uw X.env.scope x)(f:CScope X h)(y:Caps X h j)(UQ:X.calm=B)(R:PI X tg n (Z_ K H))
  (N:∀z w o,PG (X.comp (cN r j) h z w o) tg (tG K r.length g)) (O:∀z w o,ZJ (X.comp (cN r j) h z w o) v (tT K dc)) (Q:∀z w o,PE (X.comp (cN r j) h z w o) u (tE K de)) (F:(j.map (·.2)).Nodup:=by decide)
  (T:∀x,foldedSetIterable n X.env x=pure x:=by intro _;rfl)
  (A:swapsWith (.ListComp u [#[tg,n,v,0]] h pos) (S (.Name x s)) t.line X.env=pure B:=by rfl) (P:X.fn x=B\/X.env.scope.names.lookup x=S .local:=by first|exact .inl _|exact .inr _|assumption):
  PS X (.Assign [.Name x s] (.ListComp u [#[tg,n,v,0]] h pos) t) (tS K W (jx i (dL (yK r.length (j.map (·.2)) H g dc de)))):=
 qP (VX (VX (Qo _ _ I C M f y UQ R N O Q T A P) (wx F)) QE)
end
def wz(v:Value)(n):List.foldl (λb c=>b++c) #v[] (List.replicate n #v[v])=(List.replicate n v).toArray:=by
 have f:∀(n a),List.foldl (λb c=>b++c) a (List.replicate n #v[v])=a++(List.replicate n v).toArray:=λn=>by
  induction n with
  |zero=>intro a;simp
  |succ n d=>intro a;rw[List.replicate_succ,List.foldl_cons,d];apply Array.ext';simp[List.replicate_succ]
 rw[f];simp
def qG(l:Addr)(v:Value)(n:Nat)(f:Y Addr)(e:Array (Y Value))(x:Int)(u:Tok)(m:1<x)(k:x<=1000):
  Meets (Builtin.«tuple.__mul__» #[[.ref l,.int x u],[]]) (λ_ R s=>s.heap.get? l=S {cls:=.type "tuple",dict:=f,data:=.seq #v[v] n,slots:=e}/\R (.ok (.ret (Value.ref s.heap.objs.size))) {s with heap:=s.heap.push {cls:=Value.type "tuple",data:=Data.seq (List.foldl (λa b=>a++b) #v[] (List.replicate x.toNat #v[v]))},toks:=s.toks}):=
 .of_wp λc w A R s h=>by
  let q j g d p os:=s;let q o h:=h
  wp_walk
  refine wpAny_ite_false (by simp;lia) ?_
  wp_walk
  refine wpAny_ite_false (by simp;lia) ?_
  wp_walk
  refine wpAny_ite_false (by simp;lia) ?_
  wp_walk
  rw[if_neg (by simp;lia)]
  wp_walk
  refine wpAny_ite_false (by simp[Builtin.Tuple.tupleTooMany,sizeLine];lia) ?_
  wp_walk
  have i:(List.foldl (λa b=>a++b) #v[] (List.replicate x.toNat #v[v])).size<=sizeLine:=by
   rw[wz];simp[sizeLine];lia
  first|exact#[_,rfl,h]|(refine wpAny_ite_false (vBa (Nat.not_lt.mpr i)) ?_;wp_walk;exact#[_,rfl,h])
def qH(l v n b c u):
  Meets (Builtin.«tuple.__mul__» #[[.ref l,.int 1 u],[]]) (λ_ R s=>s.heap.get? l=S {cls:=.type "tuple",dict:=b,data:=.seq #v[v] n,slots:=c}/\R (.ok (.ret (Value.ref l))) {s with heap:=s.heap,toks:=s.toks}):=
 .of_wp λa w A R s h=>by
  let q e g d i os:=s;let q f h:=h
  wp_walk
  first|exact#[_,rfl,h]|(refine wpAny_ite_false rfl ?_;wp_walk;refine wpAny_ite_true rfl ?_;wp_walk;exact#[_,rfl,h])
def Wc(l v n b c u):
  Meets (Builtin.«tuple.__mul__» #[[.ref l,.int 0 u],[]]) (λ_ R s=>s.heap.get? l=S {cls:=.type "tuple",dict:=b,data:=.seq #v[v] n,slots:=c}/\R (.ok (.ret (Value.ref s.heap.objs.size))) {s with heap:=s.heap.push {cls:=Value.type "tuple",data:=Data.seq #v[]},toks:=s.toks}):=
 .of_wp λa w A R s h=>by
  let q e g d i os:=s;let q f h:=h
  wp_walk
  first|exact#[_,rfl,h]|(refine wpAny_ite_false rfl ?_;wp_walk;refine wpAny_ite_false rfl ?_;wp_walk;refine wpAny_ite_true rfl ?_;wp_walk;exact#[_,rfl,h])
abbrev Kv:=
 PySem.fillsNumberSlot_seq F.slot_tuple_mul.lookup rfl F.slot_tuple_rmul.lookup rfl
def QF:seqRepeat? (.type "tuple")=pure (S (.builtin "tuple.__mul__")):=by
 unfold seqRepeat?;rw[PySem.seqSlot_of (name:="__mul__") F.slot_tuple_mul.lookup rfl,PySem.seqSlot_of (name:="__rmul__") F.slot_tuple_rmul.lookup rfl];rfl
def Wd(a t l b n e f):
  Meets (Builtin.«int.__rmul__» #[[.int a t,.ref l],[]]) (λ_ R s=>s.heap.get? l=S {cls:=.type "tuple",dict:=e,data:=.seq b n,slots:=f}/\R (.ok (.ret Value.notImplemented)) s):=
 .of_wp λc w A R s h=>by let q i g d k os:=s;let q j h:=h;wp_walk;exact#[_,rfl,h]
section
variable{X:Cx}{K:Fr}
abbrev AB(K:Fr):R2:=λx y H Q=>∃l k z,x=.ref l/\y=.int k/\yN K H l [z]/\0<=k/\k<=1000/\(k=1->Q (.ref l) H)/\(k≠1->∀p,H p=J->Q (.ref p) (upd H p (.tup (List.replicate k.toNat z))))
theorem QG(r:jI z v):∀n ,jB (List.replicate n z) (List.replicate n v)
 |0=>.nil
 |n+1=>by exact .cons r (QG r n)
def fc:Jh X (binaryOp .Mult) (AB X.K):=by
 intro m s Z H x y v u Q I P UQ h;let yI l k z rfl rfl N h1 p w0:=h;let q O j:=w0;subst P;let q t rfl:=UQ;let jw f r x0 hz:=I.tuple N;obtain⟨⟨W,d,o,e⟩,c,C,n,M⟩:=x0;subst C M;obtain⟨w,rfl,g⟩:∃w,f=[w]/\jI z w:=by
  cases r with
  |cons a b=>cases b;exact#[_,rfl,a]
 refine wpAny_binaryOp_repeat_ref rfl #[_,c,rfl] (λT=>typeIs_int T k t) Kv F.fills_int_mul F.slot_int_rmul QF F.slot_int_index.lookup
  (call_meets F.slot_int_rmul (typeIs_int s k t) F.entry_int_rmul (F.args_int_rmul_2 _ _) (Wd k t l _ n d e) #[c,rfl,#[_,c,rfl],?_])
 by_cases i:k=1
 ·subst i;exact call_meets F.slot_tuple_mul #[_,c,rfl] F.entry_tuple_mul (F.args_tuple_mul_2 _ _) (qH l w n d e t) #[c,.ref l,H,I,rfl,O rfl]
 ·by_cases R:k=0
  ·subst R;refine call_meets F.slot_tuple_mul #[_,c,rfl] F.entry_tuple_mul (F.args_tuple_mul_2 _ _) (Wc l w n d e t) #[c,.ref _,_,I.laid (λb A q=>wIa _ q) (wPa _) ?_,rfl,j i _ (I.hok.fresh (wPa _))];exact#[Nat.zero_le _,[],.nil,IsTup.new _ _]
  ·refine call_meets F.slot_tuple_mul #[_,c,rfl] F.entry_tuple_mul (F.args_tuple_mul_2 _ _) (qG l w n d e k t (by lia) p) #[c,?_];rw[wz];refine#[.ref _,_,I.laid (λb A q=>wIa _ q) (wPa _) ?_,rfl,j i _ (I.hok.fresh (wPa _))];exact#[by rw[List.length_replicate];exact M6 (by lia),_,QG g _,IsTup.new _ _]
abbrev Z3:D->D->Y D
 |.int i,.int j=>Av (.int i) (.int j)
 |.tup [z],.int k=>if 0<=k/\k<=1000 then S (.tup (List.replicate k.toNat z))else J
 |_,_=>J
@[simp] theorem pG(i j):Z3 (.int i) (.int j)=Av (.int i) (.int j):=rfl
@[simp] theorem pH(z k):Z3 (.tup [z]) (.int k)=if 0<=k/\k<=1000 then S (.tup (List.replicate k.toNat z))else J:=rfl
theorem QH{v}(h:J2 K H d v):∀n ,jm K H (List.replicate n d) (List.replicate n v)
 |0=>jm.nil
 |n+1=>by exact jm.cons h (QH h n)
set_option tactic.hygienic true in
theorem Il:JN K (λx y H Q=>rI Kq (λi j=>.int (i*j)) x y H Q\/AB K x y H Q) Z3:=by
 intro O H a b d x y Q c h k e q;unfold Z3 at e;split at e
 ·exact .inl (Mc O H _ _ d x y Q c h k e q)
 ·split at e
  ·rename_i g;obtain rfl:=Zj e;right;let jc p w rfl m t:=c.tup;obtain⟨v,rfl,s⟩:∃v,w=[v]/\J2 K _ _ v:=by
    let jc v r rfl u rfl:=t;exact#[v,rfl,u]
   refine#[p,_,v,rfl,h.int,m,g.1,g.2,λn=>?_,λ_ p f=>q _ _ (jZ f _) (Z9 (k p f) f (QH s _))];refine q _ H Ss ?_;subst n;rcases c with c|⟨_,o,_,z,_⟩|⟨_,_,_,_,z,_⟩
   ·exact c
   ·cases o<;>cases z
   ·cases z
  ·exact Zn e
 ·exact Zn e
def fe:Jh X (binaryOp .Mult) (λx y H Q=>rI Kq (λi j=>.int (i*j)) x y H Q\/AB X.K x y H Q):=HL.or fc
def ff:Jh X (binaryOp .Add) (λx y H Q=>Vm (λi j=>.int (i+j)) x y H Q\/(λx y H Q=>Ao X.K x y H Q\/(λx y H Q=>∃i j,x=.str i/\y=.str j/\i.length+j.length<=sizeLine/\Q (.str (i++j)) H) x y H Q) x y H Q):=HJ.or (EH.or Ae)
end
mutual
noncomputable def zt:D->D->Y Bool
 |.tup l,.tup m=>(zu l m).bind λb=>S (b&&l.length==m.length)
 |.lst l,.lst m=>if l.length=m.length then zu l m else S G
 |.non,.non=>S B
 |.non,.tup _=>S G
 |.tup _,.non=>S G
 |.int a,.int b=>S (a==b)
 |.bl a,.bl b=>S (a==b)
 |.str a,.str b=>S (a==b)
 |_,_=>J
noncomputable def zu:L D->L D->Y Bool
 |[],_=>S B
 |_::_,[]=>S B
 |a::l,b::m=>(zt a b).bind λx=>(zu l m).bind λy=>S (x&&y)
end
mutual
noncomputable def dep:D->Nat
 |.tup l=>yH l+1
 |.lst l=>yH l+1
 |_=>0
noncomputable def yH:L D->Nat
 |[]=>0
 |d::a=>max (dep d) (yH a)
end
@[simp] theorem We(l):dep (.tup l)=yH l+1:=rfl
@[simp] theorem Zu(l):dep (.lst l)=yH l+1:=rfl
@[simp] theorem oQ(l):dep (.str l)=0:=rfl
@[simp] theorem oY(l):dep (.int l)=0:=rfl
@[simp] theorem oZ(l):dep (.bl l)=0:=rfl
@[simp] theorem o_:dep .non=0:=rfl
@[simp] theorem O1:yH []=0:=rfl
@[simp] theorem Im(d a):yH (d::a)=max (dep d) (yH a):=rfl
theorem D.ind{P:D->Prop}(h:∀d,(∀l,d=.tup l->∀x∈l,P x)->(∀l,d=.lst l->∀x∈l,P x)->P d)(d):P d:=
 h d (λl e x a=>D.ind h x) (λl e x a=>D.ind h x)
termination_by sizeOf d
decreasing_by
 all_goals(subst e;have:=List.sizeOf_lt_of_mem a;simp;lia)
theorem Kw:∀{l d},d∈l->dep d<=yH l
 |e::l,d,h=>by
  rcases uTa h with rfl|h
  ·exact Nat.le_max_left _ _
  ·exact wSa (Kw h) (Nat.le_max_right _ _)
section
variable{X:Cx}{K:Fr}
open PySem.SeqAt
def in1_units{A:Around}:A.in1.units=A.units+1:=rfl
variable{pins:Tq}{U:L2.St}{H:Hp}{s:Shared}
def wA(f:∀d∈l,∀{g x r},J2 K H d x->J2 K H g x->zt d g=S r->r=B):∀{m c r},jm K H l c->jm K H m c->zu l m=S r->r=B:=by
 induction l with
 |nil=>intro m c r _ _ e;obtain rfl:=Zj e;rfl
 |cons a l j=>
  intro m c r o A e;cases m with
  |nil=>obtain rfl:=Zj e;rfl
  |cons b m=>
   let ja x i e:=jd e;let ja y n e:=jd e;obtain rfl:=Zj e;let jc v t rfl h u:=o;let jc F C z p k:=A;cases z;rw[f a List.mem_cons_self h p i,j (λd w=>f d (List.mem_cons_of_mem _ w)) u k n];rfl
def WW(I:Inv X pins U H s)(d):∀{l x r},J2 X.K H d x->J2 X.K H l x->zt d l=S r->r=B:=by
 induction d using D.ind with
 |h d y v=>
  intro l x r g c e;unfold zt at e;split at e
  ·let ja b t u:=jd e;obtain rfl:=Zj u;let jc a w rfl o j:=g;let jc n p f i h:=c;cases f;have k:=I.tuple_inj o i;subst k;rw[wA (λd m=>y _ rfl d m) j h t,<-j.len,<-h.len,beq_self_eq_true];rfl
  ·let jc a w rfl o j:=g;let jc n p f i h:=c;cases f;rw[o]at i;cases i;rw[if_pos (by rw[<-j.len,<-h.len])]at e;exact wA (λd m=>v _ rfl d m) j h e
  ·lia
  ·let jc n p f i h:=c;rw[g]at f;cases f
  ·let jc n p f i h:=g;rw[c]at f;cases f
  ·cases e;rw[g]at c;cases c;simp
  ·cases e;rw[g]at c;cases c;simp
  ·cases e;rw[g]at c;cases c;simp
  ·exact Zn e
theorem qS(z:∀d∈l,∀{C x y u v A r},zt d C=S r->J2 K H d x->J2 K H C y->jI x u->jI y v->A.units+dep d<cLine->EqAt A s u v r):∀{m h i k g A r},zu l m=S r->jm K H l h->jm K H m i->jB h k->jB i g->A.units+yH l<cLine->
  ∃e ,(∀(j f) (c:j<g.length),EqAt A s k[j] g[j] (e j))/\(List.range (min l.length m.length)).all e=r:=by
 induction l with
 |nil=>
  intro m h i k g A r e f c n o F;obtain rfl:=Zj e;subst f;cases n;exact#[λ_=>B,λj f _=>vDa f Sx,rfl]
 |cons a l N=>
  intro m h i k g A r e f c n o F;cases m with
  |nil=>
   obtain rfl:=Zj e;subst c;cases o;exact#[λ_=>B,λj _ c=>vDa c Sx,rfl]
  |cons b m=>
   let ja x Z e:=jd e;let ja y W e:=jd e;obtain rfl:=Zj e;let jc v t rfl I P:=f;let jc v' t' rfl UQ Q:=c;rw[Im]at F;cases n with
   |cons T p=>
    cases o with
    |cons R w=>
     let ja e' M O:=N (λd hd=>z d (wMa _ hd)) W P Q p w (A:=A) (by lia);refine#[λj=>match j with|0=>x|j+1=>e' j,λj f c=>?_,?_]
     ·cases j with
      |zero=>exact z a wNa Z I UQ T R (by lia)
      |succ j=>exact M j (by simpa using f) (by simpa using c)
     ·rw[vXa,vXa,Nat.succ_min_succ,List.range_succ_eq_map,List.all_cons,List.all_map];rw[<-O];rfl
set_option tactic.hygienic true
theorem Io(I:Inv X pins U H s)(d:D):∀{d':D}{x y:V}{u v:Value}{A:Around}{r:Bool},zt d d'=S r->J2 X.K H d x->J2 X.K H d' y->jI x u->jI y v->A.units+dep d<cLine->EqAt A s u v r:=by
 induction d using D.ind with
 |h d i1 i2=>
  intro d' x y u v A r e h g l i hu;have e0:=e;unfold zt at e;split at e
  ·let ja b e1 e2:=jd e;obtain rfl:=Zj e2;have z:=h;have o:=g;let jc a xs rfl qa M:=h;let jc O W rfl m p:=g;cases l;cases i;simp only[We,Zu]at hu;by_cases c:a=O
   ·subst c;have:=WW I _ z o e0;rw[this];exact EqAt.same _
   ·let jw ia N P _:=I.tuple qa;let jw R w k _:=I.tuple m;have Z:=(List.size_toArray).trans (N.length.symm.trans M.len);have lb:=(List.size_toArray).trans (w.length.symm.trans p.len);let ja e' T Q:=qS (λd UQ=>i1 _ rfl d UQ) e1 M p N w (A:=A.in1) (by rw[in1_units];lia);have f:=RcAt.tuples (A:=A) (s:=s) P k (by lia) (λj n C=>by simpa using T j (by simpa using n) (by simpa using C));rw[Z,lb,Q]at f;exact EqAt.of_refs c f
  ·have z:=h;have o:=g;let jc a xs rfl qa M:=h;let jc O W rfl m p:=g;cases l;cases i;simp only[We,Zu]at hu;by_cases c:a=O
   ·subst c;have:=WW I _ z o e0;rw[this];exact EqAt.same _
   ·let jw ia N P _:=I.list (Jk.of qa);let jw R w k _:=I.list (Jk.of m);have Z:=(List.size_toArray).trans (N.length.symm.trans M.len);have lb:=(List.size_toArray).trans (w.length.symm.trans p.len);split at e
    ·rename_i F;let ja e' T Q:=qS (λd UQ=>i2 _ rfl d UQ) e M p N w (A:=A.in1) (by rw[in1_units];lia);have f:=RcAt.lists (A:=A) (l:=a) P.isList k.isList (by lia) (by lia) (λj n C=>by simpa using T j (by simpa using n) (by simpa using C));rw[Z]at f;rw[<-F,Nat.min_self]at Q;rw[Q]at f;exact EqAt.of_refs c f
    ·rename_i F;obtain rfl:=Zj e;exact EqAt.of_refs c (RcAt.lists_lengths P.isList k.isList (by lia) (by lia))
  ·cases e;subst h g;subst l;subst i;exact EqAt.same _
  ·cases e;subst h;cases l;let jc O W rfl m p:=g;cases i;let jw R w k _:=I.tuple m;exact EqAt.none_tuple k (by lia)
  ·cases e;subst g;cases i;let jc O W rfl m p:=h;cases l;let jw R w k _:=I.tuple m;exact EqAt.tuple_none k (by lia)
  ·obtain rfl:=Zj e;subst h g;let q t rfl:=l;let q t' rfl:=i;exact EqAt.int_int _ _ _ _
  ·obtain rfl:=Zj e;subst h g;subst l;subst i;exact EqAt.bool_bool _ _
  ·obtain rfl:=Zj e;subst h g;let q t rfl:=l;let q t' rfl:=i;exact EqAt.str_str _ _ _ _
  ·exact Zn e
@[simp]abbrev vg:D->D->Bool
 |.lst _,.lst _=>B
 |.tup _,.tup _=>B
 |_,_=>G
abbrev QI(K:Fr)(a:Bool):R2:=λx y H Q=>∃d b r,J2 K H d x/\J2 K H b y/\vg d b=B/\zt d b=S r/\dep d<=20/\Q (.bl (if a then !r else r)) H
theorem Ip(I:Inv X pins U H s)(e:zt d P=S r)(q:vg d P=B)(N:J2 X.K H d x)(M:J2 X.K H P y)(R:jI x u)(O:jI y v)(Q:A.units+dep d<cLine):RcAt A s u v r/\RcNeAt A s u v (!r):=by
 unfold vg at q;split at q
 ·let jc a xs rfl C t:=N;let jc Z ys rfl z l:=M;cases R;subst O;simp only[We,Zu]at Q;rw[zt]at e;let jw ia m h _:=I.list (Jk.of C);let jw UQ o i _:=I.list (Jk.of z);have F:=(List.size_toArray).trans (m.length.symm.trans t.len);have T:=(List.size_toArray).trans (o.length.symm.trans l.len);split at e
  ·rename_i p;let ja e' n w:=qS (λd _=>Io I d) e t l m o (A:=A.in1) (by rw[in1_units];lia);have f:=RcAt.lists (A:=A) h.isList i.isList (by lia) (by lia) (λj g k=>by simpa using n j Sa Sa);have c:=RcNeAt.lists (A:=A) h.isList i.isList (by lia) (by lia) (λj g k=>by simpa using n j Sa Sa);rw[F]at f c;rw[<-p,Nat.min_self]at w;rw[w]at f c;exact#[f,c]
  ·rename_i p;obtain rfl:=Zj e;exact#[RcAt.lists_lengths h.isList i.isList (by lia) (by lia),RcNeAt.lists_lengths h.isList i.isList (by lia) (by lia)]
 ·let jc a xs rfl C t:=N;let jc Z ys rfl z l:=M;cases R;subst O;simp only[We,Zu]at Q;let ja b W e2:=jd e;obtain rfl:=Zj e2;let jw ia m h _:=I.tuple C;let jw UQ o i _:=I.tuple z;have F:=(List.size_toArray).trans (m.length.symm.trans t.len);have T:=(List.size_toArray).trans (o.length.symm.trans l.len);let ja e' n w:=qS (λd _=>Io I d) W t l m o (A:=A.in1) (by rw[in1_units];lia);have f:=RcAt.tuples (A:=A) h i (by lia) (λj g k=>by simpa using n j Sa Sa);have c:=RcNeAt.tuples (A:=A) h i (by lia) (λj g k=>by simpa using n j Sa Sa);rw[F,T,w]at f c;exact#[f,c]
 ·exact Zf q
def Iq(i:Room k X.A):Jh X (compareOp .Eq) (QI X.K G):=by
 intro pins s U H x y v u Q I g a h;let yI d j r f c q e l b:=h;have m:=i.units;exact(Ip I e q f c g a (by lia)).1 _ _ _ _ #[.bl r,H,I,rfl,b]
def Ir(i:Room k X.A):Jh X (compareOp .NotEq) (QI X.K B):=by
 intro pins s U H x y v u Q I g a h;let yI d j r f c q e l b:=h;have m:=i.units;exact(Ip I e q f c g a (by lia)).2 _ _ _ _ #[.bl _,H,I,rfl,b]
@[simp]abbrev VY(c:Bool):D->D->Y D:=λa b=>if vg a b=B/\dep a<=20 then(zt a b).bind λr=>S (.bl (if c then !r else r))else J
set_option tactic.hygienic false
set_option tactic.hygienic true in
theorem eh:JN K (QI K c) (VY c):=by
 intro O H a b d x y Q j i k e q;unfold VY at e;split at e
 ·rename_i f;let ja r g h:=jd e;obtain rfl:=Zj h;exact#[a,b,r,j.full,i.full,f.1,g,f.2,q _ H Ss rfl]
 ·exact Zn e
@[simp]abbrev jX(a b):=if vg a b=B then VY G a b else VT a b
@[simp]abbrev Ju(a b):=if vg a b=B then VY B a b else Cg a b
def O3:JN K (λx y H Q=>HR x y H Q\/QI K G x y H Q) jX:=by
 intro O H a b d x y Q g c f e q;unfold jX at e;split at e
 ·exact .inr (eh O H a b d x y Q g c f e q)
 ·exact .inl (Aw O H a b d x y Q g c f e q)
def O4:JN K (λx y H Q=>HU x y H Q\/QI K B x y H Q) Ju:=by
 intro O H a b d x y Q g c f e q;unfold Ju at e;split at e
 ·exact .inr (eh O H a b d x y Q g c f e q)
 ·exact .inl (Mh O H a b d x y Q g c f e q)
abbrev Iu(a:Room k X.A):=Ab.or (Iq a)
abbrev Iv(a:Room k X.A):=mX.or (Ir a)
abbrev WX:D->Y V
 |.non=>S .non
 |.bl b=>S (.bl b)
 |.int i=>S (.int i)
 |.str s=>S (.str s)
 |_=>J
@[simp] theorem PB:WX .non=S .non:=rfl
@[simp] theorem PC(b):WX (.bl b)=S (.bl b):=rfl
@[simp] theorem PD(i):WX (.int i)=S (.int i):=rfl
@[simp] theorem PF(s):WX (.str s)=S (.str s):=rfl
@[simp]abbrev QJ:L D->Y (L V)
 |[]=>S []
 |d::b=>(WX d).bind λv=>(QJ b).bind λa=>S (v::a)
def Bf(e:WX d=S v)(h:J2 K H d w):w=v/\vH v=B:=by
 unfold WX at e;split at e<;>first|(obtain rfl:=Zj e;exact#[h,rfl])|exact Zn e
theorem Wf:∀{l c f},QJ l=S c->jm K H l f->f=c/\c.all vH=B
 |[],c,f,e,h=>by obtain rfl:=Zj e;exact#[h,rfl]
 |d::l,c,f,e,h=>by
  let ja v i e:=jd e;let ja r n e:=jd e;obtain rfl:=Zj e;let jc w t rfl a b:=h;let q j g:=Bf i a;let q m k:=Wf n b;exact#[by rw[j,m],by rw[List.all_cons,g,k];rfl]
@[simp]abbrev Zb(c:Bool):D->D->Y D:=λa b=>(WX a).bind λv=>(ZM b).bind λl=>(QJ l).bind λd=>S (.bl (if c then !XU v d else XU v d))
def Iw:JN K (ii K j) (Zb j):=by
 intro O H a b d x y Q u m z e q;let ja v r e:=jd e;let ja l c e:=jd e;let ja w n e:=jd e;obtain rfl:=Zj e;let q t o:=Bf r u.full;subst t;unfold ZM at c;split at c
 ·cases c;let jc p f rfl k h:=m.lst;let q i g:=Wf n h;subst i;exact#[p,f,rfl,.inl (Jk.of k),o,g,q _ H Ss rfl]
 ·cases c;let jc p f rfl k h:=m.tup;let q i g:=Wf n h;subst i;exact#[p,f,rfl,.inr k,o,g,q _ H Ss rfl]
 ·exact Zn c
@[simp]abbrev en:D->Y Kd
 |.int _=>S .i
 |.bl _=>S .b
 |.str _=>S .s
 |.lst _=>S .l
 |.tup _=>S .t
 |_=>J
def eA(e:en d=S k)(h:RB K O H d v):Cd K H v k:=by
 unfold en at e;split at e
 ·cases e;rw[h.int];trivial
 ·cases e;rw[h.bl];trivial
 ·cases e;rw[h.str];trivial
 ·cases e;let jc p b rfl a c:=h.lst;exact#[b,Jk.of a]
 ·cases e;let jc p b rfl a c:=h.tup;exact#[b,a]
 ·exact Zn e
@[simp]abbrev V5(T:String):D->Y D:=λd=>(en d).bind λk=>(wo k T).bind λb=>S (.bl b)
def MH(h:PE X (.Call (.Name "isinstance" p) [e,a] [] c) (bT (iw X.K) (ZG (tR K j) (ZG (tC (.ty T)) gk))))(o:X.K=K:=by rfl):PE X (.Call (.Name "isinstance" p) [e,a] [] c) (tE K (d1 (V5 T) j)):=jR h λU H Q x=>by
 subst o;let je g l f O d R u q:=x;let ja x i a:=jd u;let ja k n a:=jd a;let ja b m a:=jd a;obtain rfl:=Zj a;exact#[g,l,f,O,x,R,i,λv t s r=>#[v,T,k,b,rfl,eA n r,m,q _ t s rfl]]
end
abbrev ZN(f:Str)(d:D):L Str->L D->L Str×L D
 |g::b,x::a=>if g=f then(g::b,d::a)else((g::(ZN f d b a).1),x::(ZN f d b a).2)
 |_,_=>([f],[d])
@[simp] theorem fg(f d g b x a):ZN f d (g::b) (x::a)=if g=f then(g::b,d::a)else((g::(ZN f d b a).1),x::(ZN f d b a).2):=rfl
@[simp] theorem OB(f d):ZN f d [] []=([f],[d]):=rfl
section
variable{X:Cx}{K:Fr}
theorem QK{f d v}(r:J2 K H d v):∀{c j k},c.length=k.length->jm K H j k->∃i,yw f v (c.zip k)=(ZN f d c j).1.zip i/\(ZN f d c j).1.length=i.length/\jm K H (ZN f d c j).2 i
 |[],j,k,h,l=>by
  have e:=List.length_eq_zero_iff.mp h.symm;subst e;have e:j=[]:=by have:=l.len;exact List.length_eq_zero_iff.mp this.symm
  exact#[_,rfl,rfl,jm.cons r jm.nil]
 |g::c,[],k,h,l=>by subst l;cases h
 |g::c,x::j,k,h,l=>by
  let q w t rfl a b:=l;rw[fg];by_cases e:g=f
  ·rw[if_pos e];refine#[_,?_,by simpa using h,jm.cons r b];show(if g=f then(g,v)::c.zip t else _)=_;rw[if_pos e];rfl
  ·rw[if_neg e];let q i o m n:=QK r (by simpa using h) b;refine#[_,?_,by simpa using m,jm.cons a n];show(if g=f then _ else(g,w)::yw f v (c.zip t))=_;rw[if_neg e,o];rfl
variable{e o:Expr}{de:DE}{pos pos':Pos}{st:Stmt}
@[simp]abbrev uQ(i:Nat)(C:Addr)(f:Str)(de:DE)(b:jD):Y Rs:=match b[i]? with
 |S (.ow q (.ins c a g))=>if c=C/\a.length<1000 then(de b).bind λd=>S (.nx (b.set i (.ow q (.ins c (ZN f d a g).1 (ZN f d a g).2))))else J
 |_=>J
set_option tactic.hygienic true in
theorem Ix{i C f}(h:PS X st (Ah X.K (yF i) (tE K de) f))(c:Cls K C)(n:yP K C f)(y:X.K=K:=by rfl):PS X st (tS K Px (uQ i C f de)):=Jj h λD U H W=>by
 let q Q T s O r R a I:=W;subst y;unfold uQ at a;split at a
 ·rename_i q C' ns ds k;split at a
  ·rename_i M;let q rfl b:=M;let q d N t:=jd a;obtain rfl:=Zj t;obtain⟨l,w,p,⟨j,vs,UQ,m,F⟩,lo,u⟩:=R.ow i _ _ k;refine#[Q,T,s,O,d,R,N,λv H1 g P=>#[_,p,l,_,j,_,rfl,g _ _ UQ,c,n,?_,?_]]
   ·rw[List.length_zip,<-m,Nat.min_self];exact b
   have x:=R.grow g;let q vs' A z Z:=QK P m (F.same (jt g));refine I _ _ O (x.change k w p lo u #[j,_,by rw[jz,A],z,Z]) ?_;rw[yo lo];exact jt g
  ·exact Zn a
 ·exact Zn a
@[simp]abbrev Zv(a:L Bool)(b:L D)(n:Nat):jD:=List.zipWith (λk d=>if k=B then Sl.cl d else Sl.bo d) a b++List.replicate n .un
theorem yJ.get:∀{a b vs}{i:Nat}{d},yJ K O H a b vs->b[i]?=S d->∃k v,a[i]?=S k/\vs[i]?=S v/\AK K O H k d v
 |[],[],[],_,_,_,e=>Zn e
 |k::_,d::_,v::_,0,_,h,e=>by simp at e;subst e;exact#[k,v,rfl,rfl,h.1]
 |k::_,d::_,v::_,i+1,m,h,e=>by
  let jc f j g c l:=yJ.get h.2 (by simpa using e);exact#[f,j,by simpa using g,by simpa using c,l]
 |[],[],_::_,_,_,h,_=>h.elim
 |[],_::_,_,_,_,h,_=>h.elim
 |_::_,[],_,_,_,h,_=>h.elim
 |_::_,_::_,[],_,_,h,_=>h.elim
def Yh{c a b}{n i:Nat}{s}(h:yJ K O H c a b)(p:s≠.un)(e:(Zv c a n)[i]?=S s):∃k d v,b[i]?=S v/\AK K O H k d v/\s=(if k=B then Sl.cl d else Sl.bo d):=by
 unfold Zv at e;have m:=h.len;by_cases r:i<a.length
 ·rw[uRa Sa,List.getElem?_zipWith]at e;have f:a[i]?=S a[i]:=by simp
  let jc k v l g j:=h.get f;rw[l,f]at e;obtain rfl:=Zj e;exact#[k,_,v,g,j,rfl]
 ·rw[List.getElem?_append_right Sa,List.getElem?_replicate]at e;split at e
  ·lia
  ·exact Zn e
def Wg{s r m n}(h:yJ K O H s r m)(t:∀a∈O,H a≠J):Rel K H #[O,0] (Zv s r n) (m.map some++List.replicate n J) H O:=by
 have y:=h.len;have g:∀{i v},m[i]?=S v->(m.map some++List.replicate n J)[i]?=S _:=λe=>by
  have:=(uSa e).1;rw[uRa Sa,uAa,e];rfl
 refine#[?_,λa h=>h,λa h=>.inl h,t,t,jf.refl _,?_,?_,?_,?_,?_]
 ·simp_all
 ·intro i d e;let JL k p v c f b:=Yh h (by lia) e;cases k with
  |true=>cases b;exact#[v,g c,f]
  |false=>cases b
 ·intro i d e;let JL k p v c f b:=Yh h (by lia) e;cases k with
  |true=>cases b
  |false=>cases b;exact#[v,g c,f]
 ·intro i q o e;let JL k p v c f b:=Yh h (by lia) e;cases k<;>cases b
 ·intro i j q u o x l e;let JL k p v c f b:=Yh h (by lia) e;cases k<;>cases b
 ·intro i w z e;let JL k p v c f b:=Yh h (by lia) e;cases k<;>cases b
abbrev eD:Rs->Y D
 |.rt d=>S d
 |.rf o=>S o.toD
 |.nx _=>S .non
 |_=>J
@[simp] theorem PJ(d):eD (.rt d)=S d:=rfl
@[simp] theorem PK(o):eD (.rf o)=S o.toD:=rfl
@[simp] theorem PL(d):eD (.nx d)=S .non:=rfl
@[simp]abbrev Jo(c:L Bool)(n:Nat)(a:DS):L D->Y D:=λb=>(a (Zv c b n)).bind eD
abbrev Nc:Rs->Y OD
 |.rf o=>S o
 |_=>J
@[simp] theorem PM(o):Nc (.rf o)=S o:=rfl
@[simp]abbrev VZ(c:L Bool)(n:Nat)(a:DS):L D->Y OD:=λb=>(a (Zv c b n)).bind Nc
@[simp]abbrev Bg(C:Addr)(c:L Bool)(n:Nat)(a:DS):Addr->L D->Y OD:=λp b=>(a (.ow (S p) (.ins C [] [])::Zv c b n)).bind λr=>match r with
 |.nx d=>(match(d[0]?)with
  |S (Sl.ow q o)=>if q=S p then S o else J
  |_=>J)
 |_=>J
variable{P:Program}{w:World}{mg:Tj}{base:Heap}{x qual:Str}{f:Addr}{fd:FuncData}{N ps:L Str}{k n:Nat}{ks:L Bool}{body:DS}
def O5(F:Fun K x qual st f fd)(b:FnScope N ps Sb)(hk:ks.length=ps.length)(hn:N.length-ps.length=n)
  (hb:∀(i A c s H E),Room k (A.deeper (envOfC qual Sb s.heap.objs.size f i))->Jx (yl Y9 P w K mg base N qual Sb f i A c s H E).nox (defBody st) (tS K Px body)):
  FnOk P w K mg base Y9 (k+1) f fd ps (VV K ks (Jo ks n body)):=by
 refine F.ok b (λI H Q E h=>?_) λi A c s H I Q E hr h=>?_
 ·let JL O T d _ m _:=h;have:=m.len
  lia
 ·let jL O T d M m e q:=h;refine#[_,hb _ A _ s H E hr,?_];let ja r UQ g:=jd e;have C:N.length-I.length=n:=by have:=m.len;lia
  unfold L2.zR;rw[C];refine#[H,_,_,O,r,Wg m M,UQ,?_];cases r with
  |rt d'=>obtain rfl:=Zj g;exact λv j s r=>q v j s r
  |rf o=>
   obtain rfl:=Zj g;exact λl j s C R=>q _ j s ((R.same (λ_ z=>z) (yf λa h=>wMa _ h)).rep λu z=>by rw[jS (λy=>M l y C)];exact z)
  |nx t=>obtain rfl:=Zj g;exact λZ j O' W _=>q _ j W.keep rfl
  |bk t=>exact Zn g
  |ct t=>exact Zn g
  |xc p t=>exact Zn g
  |rh d t=>exact Zn g
def O6(F:Fun K x qual st f fd)(a:FnScope N ps Sb)(I:ks.length=ps.length)(C:N.length-ps.length=n)
  (u:∀(g A b s H E),Room k (A.deeper (envOfC qual Sb s.heap.objs.size f g))->Jx (yl Y9 P w K mg base N qual Sb f g A b s H E).nox (defBody st) (tS K R body)):
  FnOk P w K mg base Y9 (k+1) f fd ps (XX K ks (VZ ks n body)):=by
 refine F.ok a (λl H Q E h=>?_) λg A b s H l Q E t h=>?_
 ·let JL O v d _ j _:=h;have:=j.len
  lia
 ·let jL O v d z j e q:=h;refine#[_,u _ A _ s H E t,?_];let ja r m c:=jd e;have y:N.length-l.length=n:=by have:=j.len;lia
  unfold L2.zR;rw[y];refine#[H,_,_,O,r,Wg j z,m,?_];cases r with
  |rt M=>exact Zn c
  |rf o=>obtain rfl:=Zj c;exact q
  |nx i=>exact Zn c
  |bk i=>exact Zn c
  |ct i=>exact Zn c
  |xc p i=>exact Zn c
  |rh d i=>exact Zn c
set_option tactic.hygienic true in
theorem O7(F:Fun K x qual st f fd)(c:FnScope N ps Sb)(hk:ks.length+1=ps.length)(hn:N.length-ps.length=n)
  (hb:∀(t A m s H E),Room k (A.deeper (envOfC qual Sb s.heap.objs.size f t))->Jx (yl Y9 P w K mg base N qual Sb f t A m s H E).nox (defBody st) (tS K Px body)):
  FnOk P w K mg base Y9 (k+1) f fd ps (e9 K C ks (Bg C ks n body)):=by
 refine F.ok c (λvs H Q E h=>?_) λt A m s H vs Q E hr h=>?_
 ·let JV O ds p dx M o rfl _ _ v0:=h;let Yk _ I _:=v0;have:=I.len;rw[vXa]
  lia
 ·let JV O ds p dx M o rfl al hp x0:=h;let Jm hpO I e q:=x0;refine#[_,hb _ A _ s H E hr,?_];let ja r e1 g:=jd e;have hl:N.length-(V.ref p::M).length=n:=by have:=I.len;rw[vXa];lia
  unfold L2.zR;rw[hl];have Z:∀a∈O,ji H [p] a≠J:=λa T=>by
   rw[jS (by intro z;simp at z;exact hpO (z▸T))];exact al a T
  have R0:=Wg (n:=n) I Z;have np:ji H [p] p=J:=UD wNa;have sH:jf (ji H [p]) H:=Yv;have sd:jf (ji (ji H [p]) O) (ji H _):=λb u z=>by
   let q z1 z2:=Jb z;let q z3 z4:=Jb z2;rw[jS (by intro y;rcases List.mem_cons.mp y with y|y;exact z3 (by rw[y];exact List.mem_cons_self);exact z1 y)];exact z4
  have R:Rel K (ji H [p]) #[O,0] (.ow (S p) (.ins C [] [])::Zv ks ds n) (List.map some (V.ref p::M)++List.replicate n J) H (p::O):=by
   refine#[?_,λa h=>wMa _ h,?_,Z,?_,sH,?_,?_,?_,?_,?_]
   ·have:=R0.len;rw[vXa,vWa,List.cons_append,vXa,this]
   ·grind
   ·grind
   ·intro i d e;cases i with
    |zero=>cases e
    |succ i=>
     let ja v h1 h2:=R0.cl i d e;exact#[v,h1,h2.same sd]
   ·intro i d e;cases i with
    |zero=>cases e
    |succ i=>exact R0.bo i d e
   ·intro i q' o' e;cases i with
    |zero=>
     cases e;exact#[p,(λp' z=>vFa z),rfl,#[dx,[],hp,rfl,jm.nil],wNa,np]
    |succ i=>
     let JL W d' v _ _ h3:=Yh I Sx e;cases W<;>cases h3
   ·intro i j q1 q2 o1 o2 l e e';have z:∀(i q' o'),(Sl.ow (S p) (.ins C [] [])::Zv ks ds n)[i]?=S (.ow q' o')->i=0:=λi q' o' e=>by
     cases i with
     |zero=>rfl
     |succ i=>
      let JL W d' v _ _ h3:=Yh I Sx e;cases W<;>cases h3
    intro _ _;rw[z i _ _ e,z j _ _ e']
   ·intro i qb hb e;cases i with
    |zero=>cases e
    |succ i=>
     let JL W d' v _ _ h3:=Yh I Sx e;cases W<;>cases h3
  refine#[_,_,_,_,r,R,e1,?_];cases r with
  |nx UQ=>
   intro U' H' O' R' _;have g:(match(UQ[0]?)with
    |S (Sl.ow q o)=>if q=S p then S o else J
    |_=>J)=S o:=g
   split at g
   ·rename_i qq o' h0;split at g
    ·rename_i hq;obtain rfl:=Zj g;subst hq;let J3 l hl2 _ ow lo _:=R'.ow 0 _ _ h0;have el:=hl2 p rfl;subst el;refine q H' R'.keep (ow.same (λ_ z=>z) (yf λa T=>?_));rcases uTa T with rfl|T
     ·exact lo
     ·exact R'.sub a T
    ·exact Zn g
   ·exact Zn g
  |rt d'=>exact Zn g
  |rf o=>exact Zn g
  |bk UQ=>exact Zn g
  |ct UQ=>exact Zn g
  |xc p UQ=>exact Zn g
  |rh d UQ=>exact Zn g
end
end DS
namespace L2
abbrev Cm(h:Heap)(d)(es:Array DictEntry)(ep):=∃o,h.get? d=S o/\o.ExactDict/\o.data=.dict es ep
end L2
namespace DS
open L2
mutual
theorem XY(I:Inv X f z H s):∀{d k v u},J2 X.K H d v->jI v u->Jz d=S k->vT s.heap k u
 |.int i,k,v,u,h,r,e=>by
  cases e;subst h;exact .inl r
 |.bl i,k,v,u,h,r,e=>by
  obtain rfl:=Zj e;subst h;exact .inr #[i,r,rfl]
 |.str i,k,v,u,h,r,e=>by
  obtain rfl:=Zj e;subst h;exact r
 |.tup l,k,v,u,h,r,e=>by
  let ja b m j:=jd e;obtain rfl:=Zj j;let jc a c rfl q o:=h;subst r;let jw x n t _:=I.tuple q;exact#[a,_,rfl,t,by simpa using QL I o n m]
 |.non,k,v,u,h,r,e=>by rw[Jz]at e<;>first|exact Zn e|(intros;contradiction)
 |.lst _,k,v,u,h,r,e=>by rw[Jz]at e<;>first|exact Zn e|(intros;contradiction)
 |.ins _ _ _,k,v,u,h,r,e=>by rw[Jz]at e<;>first|exact Zn e|(intros;contradiction)
 |.obj _ _ _ _ _,k,v,u,h,r,e=>by rw[Jz]at e<;>first|exact Zn e|(intros;contradiction)
 |.scr _,k,v,u,h,r,e=>by rw[Jz]at e<;>first|exact Zn e|(intros;contradiction)
 |.dct _ _,k,v,u,h,r,e=>by rw[Jz]at e<;>first|exact Zn e|(intros;contradiction)
 |.exn _ _,k,v,u,h,r,e=>by rw[Jz]at e<;>first|exact Zn e|(intros;contradiction)
 |.mem _,k,v,u,h,r,e=>by rw[Jz]at e<;>first|exact Zn e|(intros;contradiction)
 |.dk _ _,k,v,u,h,r,e=>by rw[Jz]at e<;>first|exact Zn e|(intros;contradiction)
theorem QL(I:Inv X f z H s):∀{l b c g},jm X.K H l c->jB c g->vI l=S b->yM s.heap b g
 |[],b,c,g,h,r,e=>by
  obtain rfl:=Zj e;subst h;cases r;rw[yM]
 |d::l,b,c,g,h,r,e=>by
  let ja k m e:=jd e;let ja p j e:=jd e;obtain rfl:=Zj e;let jc v n rfl y C:=h;cases r with
  |cons w A=>
   exact#[_,_,rfl,XY I y w m,QL I C A j]
end
def vW(e:ZK d=S k):Jz d=S k/\k.dep<=8:=by
 unfold ZK at e;split at e
 ·let ja c b a:=jd e;split at a
  ·simp_all
  ·exact Zn a
 ·exact Zn e
def QM(I:Inv X a c H s)(r:J2 X.K H d (.ref b))(e:ZK d=S k):(GD X.prog X.w).is s.heap k b:=#[XY I r rfl (vW e).1,(vW e).2]
def Wh(a:Room k A):A.in1.units+8<cLine:=by
 have:=a.un
 lia
def Inv.big(I:Inv X a b H s):sysModules<s.heap.objs.size:=Nat.lt_trans Sq (show mainGlobals<s.heap.objs.size from(I.mod.glob.keeps I.bk).lt)
section
variable{K:Fr}{H:Hp}{O:L Addr}
def Iy{y}(h:RB K O H c y)(e:ZK c=S k):∃b,y=.ref b/\J2 K H c (.ref b):=by
 have f:=h.full;unfold ZK at e;split at e
 ·have d:=f;let jW a g rfl _:=f;exact#[a,rfl,d]
 ·exact Zn e
end
end DS
namespace L2
end L2
end
namespace DS
open PySem L2
end DS
namespace L2
open PySem PySem.Spec PyProof.Rows
end L2
namespace DS
open PySem PySem.Spec PyProof.Rows L2
section
variable{K:Fr}
def fj:PS X s (tS K b JD):=λ_ _ _ _ _ _ x=>by let je _ _ _ _ _ _ a _:=x;exact Zn a
end
end DS
namespace DS
open PySem PySem.Spec PyProof.Rows L2 PySem.SeqAt
end DS
namespace L2
open PySem PySem.Spec PyProof.Rows
end L2
namespace DS
open PySem PySem.Spec PyProof.Rows L2
end DS
namespace L2
open PySem PySem.Spec PyProof.Rows
end L2
namespace L2
open PySem
abbrev Iz(f:Obj->Obj):=∀o,(f o).dict=o.dict/\(f o).isFreed=o.isFreed/\(V1 o->V1 (f o))
abbrev DK:Sem b->Prop
 |.pure _=>True
 |.raise _=>True
 |.unsupported _=>True
 |.finish _=>True
 |.rule _ k=>DK (k ())
 |.at _ k=>DK (k ())
 |.load _ _ k=>∀o,DK (k o)
 |.update _ _ f k=>Iz f/\DK (k ())
 |.alloc _ k=>∀a,DK (k a)
 |.loadIfAlive _ k=>∀o,DK (k o)
 |.point _ k=>DK (k ())
 |.register _ _=>True
 |.fresh k=>∀t,DK (k t)
 |.ask k=>∀t,DK (k t)
 |.choose _ _ k=>∀t,DK (k t)
 |.os _ _ k=>∀t,DK (k t)
 |.call _ _ _ _ _=>False
 |.handled _ k=>∀t,DK (k t)
 |.newGen _ _=>False
 |.genState _ k=>∀t,DK (k t)
 |.resume _ _ _ _=>False
 |.yield _ _ _ _=>True
 |.stack k=>∀t,DK (k t)
 |.fork _ _=>True
 |.thread k=>∀t,DK (k t)
 |.await _ _ _ _ _=>True
def DK.bind{f:j->Sem m}(i:∀a,DK (f a)):∀{t},DK t->DK (t.bind f):=by
 intro t;induction t with
 |pure a=>exact λ_=>i a
 |raise e=>exact λ_=>trivial
 |unsupported w=>exact λ_=>trivial
 |finish e=>exact λ_=>trivial
 |rule t k b=>exact λh=>b () h
 | «at» p k b=>exact λh=>b () h
 |load a p k b=>exact λh o=>b o (h o)
 |update a p g k b=>exact λh=>#[h.1,b () h.2]
 |alloc o k b=>exact λh a=>b a (h a)
 |loadIfAlive a k b=>exact λh a=>b a (h a)
 |point l k b=>exact λh=>b () h
 |register a k b=>exact λ_=>trivial
 |fresh k b=>exact λh a=>b a (h a)
 |ask k b=>exact λh a=>b a (h a)
 |choose s n k b=>exact λh a=>b a (h a)
 |os q l k b=>exact λh a=>b a (h a)
 |call c h g l k b=>exact λh=>h.elim
 |handled o k b=>exact λh a=>b a (h a)
 |newGen c k b=>exact λh=>h.elim
 |genState g k b=>exact λh a=>b a (h a)
 |resume g r l k b=>exact λh=>h.elim
 |yield v g l k b=>exact λ_=>trivial
 |stack k b=>exact λh a=>b a (h a)
 |fork c k b=>exact λ_=>trivial
 |thread k b=>exact λh a=>b a (h a)
 |await a t d l k b=>exact λ_=>trivial
abbrev Zi(h c:Heap):=∀b o,h.get? b=S o->∃a,c.get? b=S a/\a.dict=o.dict/\(V1 o->V1 a)
def Zi.trans(a:Zi m k)(b:Zi k g):Zi m g:=λc o e=>by
 let jw p j l f:=a c o e;let jw d h i n:=b c p j;exact#[d,h,i.trans l,λz=>n (f z)]
def XF.keep(a:Zi h k)(x:XF h e l):XF k e l:=by
 let jw j i c d:=x;let jw m f g b:=a e j i;exact#[m,f,b c,λz q=>g.trans (d z q)]
def fm(h o):Zi h (h.push o):=λb u e=>#[u,wIa _ e,rfl,id]
def IA(h a)(k:Iz f):Zi h (h.update a f):=λb u e=>by
 by_cases z:a=b
 ·subst z;refine#[f u,vUa f e ?_,(k u).1,(k u).2.2];rw[(k u).2.1];exact(Heap.get?_some_iff.mp e).2
 ·exact#[u,(wKa h f z).trans e,rfl,id]
def MI:∀(t:Sem F) (p s),DK t->Sem.wp M u t Q E p s->Sem.wp M u t (λa m i=>Q a m i/\Zi s.heap i.heap) E p s:=by
 have j:∀(t p) (s x:Shared),Zi x.heap s.heap->Sem.wp M u t (λa m i=>Q a m i/\Zi s.heap i.heap) E p s->Sem.wp M u t (λa m i=>Q a m i/\Zi x.heap i.heap) E p s:=λt p s x k h=>Sem.wp_mono M u t (λa m i z=>#[z.1,k.trans z.2]) (λ_ _ _ z=>z) p s h;intro t;induction t with
 |pure a=>exact λp s _ h=>#[h,λb o e=>#[o,e,rfl,id]]
 |raise e=>exact λp s _ h=>h
 |unsupported w=>exact λp s _ h=>h
 |finish e=>exact λp s _ h=>h
 |rule t k f=>exact λp s d h=>f () p s d h
 | «at» p k f=>exact λ_ s d h=>f () p s d h
 |load a y k f=>exact λp s d h=>by let ja o e h:=h;exact#[o,e,f o p s (d o) h]
 |update a y g k f=>exact λp s d h=>#[h.1,j (k ()) p _ s (IA s.heap a d.1) (f () p _ d.2 h.2)]
 |alloc o k f=>exact λp s d h=>j (k _) p _ s (fm s.heap o) (f _ p _ (d _) h)
 |loadIfAlive a k f=>exact λp s d h=>f _ p s (d _) h
 |point l k f=>exact λp s d h=>f () p s d h
 |register a k f=>exact λp s d h=>h
 |fresh k f=>exact λp s d h=>f _ p _ (d _) h
 |ask k f=>exact λp s d h=>f _ p s (d _) h
 |choose C n k f=>exact λp s d h=>#[h.1,f _ p _ (d _) h.2]
 |os q l k f=>exact λp s d h=>f _ p _ (d _) h
 |call c H g l k f=>exact λp s d h=>d.elim
 |handled o k f=>exact λp s d h=>f _ p s (d _) h
 |newGen c k f=>exact λp s d h=>d.elim
 |genState g k f=>exact λp s d h=>by let ja A e h:=h;exact#[A,e,f _ p s (d _) h]
 |resume g r l k f=>exact λp s d h=>d.elim
 |yield v g l k f=>exact λp s d h=>h
 |stack k f=>exact λp s d h=>f _ p s (d _) h
 |fork c k f=>exact λp s d h=>h
 |thread k f=>exact λp s d h=>f _ p s (d _) h
 |await a t d l k f=>exact λp s d h=>h
def V_(d:DK t)(h:wpAny M A t Q E s):wpAny M A t (λa c=>Q a c/\Zi s.heap c.heap) E s:=λe p b=>MI t p s d (h e p b)
def ZO(c:DK x)(b:∀a,DK (f a)):DK (x >>= f):=DK.bind b c
def Xx(v):DK (fieldsOf v):=by
 unfold fieldsOf
 repeat(first|exact trivial|exact dkp _|refine ZO ?_ λ_=>?_|split|(intro _;exact trivial))
def gr(v i):DK (field v i):=by
 refine ZO (Xx v) λa=>?_;split<;>exact trivial
def QN(f)(h:∀a ,a[2]?=S .none->(f a)[2]?=S .none):Iz (Obj.mapFields f):=λo=>by
 let q c d b s:=o;cases b<;>first|exact#[rfl,rfl,id]|exact#[rfl,rfl,λq=>by
  let ja a e z:=q;cases e;exact#[_,rfl,h _ z]]
def Kj(v i x)(h:i≠2):DK (setField v i x):=by
 have k:∀a:Array Value,a[2]?=S .none->(a.setIfInBounds i x)[2]?=S .none:=λa z=>by simp_all
 unfold setField;split
 ·repeat(first|exact trivial|exact dkp _|exact#[QN _ k,trivial]|refine ZO ?_ λ_=>?_|split|(intro _;exact trivial))
 ·exact trivial
def Kx:DK stack:=λ_=>trivial
def ua(e a):DK (setFlight e a):=by
 refine ZO (gr e 1) λb=>?_;split
 ·exact Kj _ _ _ Sq
 ·exact trivial
def Bh(b a):DK (behindIsImport b a):=by
 unfold behindIsImport
 repeat(first|exact trivial|exact dkp _|exact gr _ _|refine ZO ?_ λ_=>?_|split)
def fq(c b a):DK (keptBack c b a):=by
 unfold keptBack;split
 ·repeat(first|exact trivial|exact dkp _|exact Kx|refine ZO ?_ λ_=>?_|split)
 ·exact trivial
theorem QO:∀l ,DK (readyFrames l)
 |[]=>trivial
 |f::a=>by
  unfold readyFrames;split
  ·refine ZO (λ_=>trivial) λo=>?_;split
   ·exact trivial
   ·refine ZO (Bh _ _) λb=>ZO (fq _ _ _) λv=>ZO ?_ λ_=>QO a;exact#[λo=>#[rfl,by let q c d e s:=o;cases e<;>rfl,by let q c d e s:=o;exact id],trivial]
  ·exact trivial
def Wi(l):DK (frameObject l):=by
 unfold frameObject;split
 ·exact trivial
 ·exact ZO (QO _) λ_=>trivial
def AD(a):DK (frameOf a):=by
 refine ZO (ZO Kx λ_=>trivial) λl=>ZO (Wi _) λo=>?_;split<;>exact trivial
def Cn(f b):DK (entryPlaceOf f b):=by
 refine ZO Kx λa=>?_;split<;>exact trivial
def Co(a b c d e l):DK (EntryCells.newEntry a b c d e l):=by
 unfold EntryCells.newEntry newFields newObj newObjAsIs
 repeat(first|exact trivial|exact dkp _|refine ZO ?_ λ_=>?_|(intro _;exact trivial)|split)
def XZ(e a):DK (noteFrame e a):=by
 unfold noteFrame;split
 ·refine ZO (gr e 1) λb=>?_
  repeat(first|exact trivial|exact gr _ _|exact Kj _ _ _ Sq|exact AD _|exact Cn _ _|exact Co _ _ _ _ _ _|refine ZO ?_ λ_=>?_|split)
 ·exact trivial
def wB(a e):DK (leaving a e):=by
 exact ZO (XZ e a) λ_=>ua e J
end L2
namespace L2
open PySem PySem.Spec PyProof.Rows
def JB.ex{h}(x:JB P w H h a o):∃u,h.get? a=S u:=by
 cases o with
 |lst d=>let YG _ _ _ _ e:=x;exact#[_,e]
 |tup d=>let vb _ _ _ u0:=x;let ja _ e _:=u0;exact#[_,e]
 |dK c i=>let JY _ _ _ v0:=x;let YG _ o _ e _:=v0;exact#[_,e]
 |mem K l m=>let JY _ _ _ w0:=x;let JY _ _ o x0:=w0;let jW _ _ e _:=x0;exact#[_,e]
 |dD c i=>let Jm _ _ _ y0:=x;let K_ _ _ o _ e _:=y0;exact#[_,e]
 |set b n=>let Q2 o _ _ _ e _:=x;exact#[_,e]
 |ins C s g=>let yY _ _ _ e _:=x;exact#[_,e]
 |own y=>exact x
 |xd g=>let ja _ z0 _:=x;let q _ _ _ e _:=z0;exact#[_,e]
 |rng lo k=>let Q1 _ _ _ e:=x;exact#[_,e]
 |frz r u=>let q e _:=x;exact#[_,e]
 |tbl p=>exact#[_,(show h.get? a=S _ from x)]
 |met f y=>exact#[_,(show h.get? a=S _ from x)]
 |ext j=>let Yk _ e _:=x;exact e
structure Fly (P w outer H) (s:Shared) (H' e cls) (s':Shared) where
 os:s'.os=s.os
 bare:AllBare s'.gens
 un:Un (ym outer) [] H H' s.heap s'.heap
 hok:yv P w H' s'.heap
 fly:∃By a0,Heap.FlyingW By outer e cls a0 s'.heap/\(∀b u,H' b=S u->∃o,By.get? b=S o)/\∀b o,s.heap.get? b=S o->b∉ym outer->∃o',By.get? b=S o'
abbrev yD(P:Program)(w:World):Qa:=λa H s E g d=>∃e b c f,g=.ref e/\Fly P w a H s c e b d/\XF d.heap e f/\E b f c
section
variable{P:Program}{w:World}{K:uXa}{mg:Tj}{base:Heap}{N:L Str}{qual:Str}{scope:Scope}{f:Addr}{cd:Value}{A:Around}{outer:L Env}{s0:Shared}{H0:Hp}{E:XK}
def X_{UQ}{U:St}{H i s e t F M}(I:Inv Sc UQ U H s)
  (he:s.heap.get? e=S M) (x:M.cls=F) (W:M.data=.fields #v[.ref t,.none,.none,.none,.bool G,.none]) (h0:s0.heap.get? e=J) (h1:i e=J)
  (hH:∀b,i b=H b\/(i b=J/\∃Q,H b=S (.ext Q))) (hod:∀d,od=S d->M.dict=S d) (hE:E F od i):(yl (yD P w) P w K mg base N qual scope f cd A outer s0 H0 E).xe (.ref e) s:=by
 have p:∀b u,i b=S u->H b=S u:=λb u q=>(hH b).elim (λz=>z▸q) λz=>by rw[z.1]at q;exact Zn q
 have T:∀b u,H b=S u->(∀Q,u≠.ext Q)->i b=S u:=λb u q n=>(hH b).elim (λz=>z.trans q) λ⟨_,Q,z⟩=>vDa (vFa (q.symm.trans z)) (n Q);have fr:=I.stack;have h:∀b,b∈ym (envOfC qual scope _ f cd::outer)->b=s0.heap.objs.size\/b∈ym outer:=λb a=>by
  exact uTa a
 have j:∀b,b∈ym outer->b∈ym (envOfC qual scope s0.heap.objs.size f cd::outer):=λb a=>by exact wMa _ a
 have hL0:s0.heap.get? _=J:=Heap.get?_none_of_le (wPa _);refine wCa (V_ (Q:=λ_ s'=>∃O,s'={s with heap:=O}/\Heap.LeftW _ _ e M.cls _ s.heap O) (wB _ _) (wpAny_leaving_firstW I.ok.frames
  (PySem.W.funFrames_hide fr λenv hv b a=>wMa _ (List.mem_filterMap.mpr #[env,hv,a])) rfl he (λb o q=>PySem.W.of_hideAll _ q) (PySem.W.hideAll_none _ wNa) W rfl rfl λO z=>#[O,rfl,z])) (λ_ s' zz=>?_) (λ_ _ z=>z)
 obtain⟨⟨O,rfl,x1,⟨_,_,x2⟩,x3,x4⟩,dk⟩:=zz;have X:=λb o q n0 n1 n2=>x1 b o (PySem.W.hideAll_get _ q λz=>(uTa z).elim n0 λz=>(h b z).elim n1 n2);have ks:∀b o,b∈ym outer->s.heap.get? b=S o->∃sl,O.get? b=S _:=λb o a q=>by
  let vb _ y R W:=fr.mem (j b a);rw[q]at R;obtain rfl:=Zj R;exact x4 b o q W
 have Gg:∀b u,i b=S u->b≠e/\b≠s0.heap.objs.size/\b∉ym outer:=λb u q=>by
  have z:=λa=>I.stkFree b a;refine#[(λn=>by rw[n,h1]at q;exact Zn q),λn=>?_,λn=>?_]
  ·have:=z (by show b∈ym (envOfC qual scope _ f cd::outer);exact List.mem_cons.mpr (.inl n));rw[p b u q]at this;exact Zs this
  ·have:=z (j b n);rw[p b u q]at this;exact Zs this
 have u:=I.base;have l:Un _ [] H0 i s0.heap s.heap:=#[u.keep,u.slot,(λb o q n C=>(hH b).elim (λz=>z.trans (u.free b o q n C)) λz=>z.1),u.there,λb Z q=>T b _ (u.tups b Z q) (λ_ z=>nomatch z),λb o Z q=>T b _ (u.frzs b o Z q) (λ_ z=>nomatch z),λb ps q=>let⟨m,z⟩:=u.tbls b ps q;#[m,T b _ z (λ_ z=>nomatch z)]]
 have k:=λb o q=>(I.hok b o (p b o q)).stay (λ_ _ _ r=>r) (λc r=>T c _ r (λ_ z=>nomatch z)) λc u t r=>T c _ r (λ_ z=>by subst z;exact t);have g:∀b o,s0.heap.get? b=S o->b≠e/\b≠s0.heap.objs.size:=λb o q=>#[(λz=>by rw[z,h0]at q;exact Zn q),(λz=>by rw[z,hL0]at q;exact Zn q)]
 have hdk:=XF.keep dk #[M,he,#[_,W,rfl],hod];refine#[e,F,i,od,rfl,#[I.os,I.bare,#[λb o q n a C=>X b o (l.keep b o q n a C) (g b o q).1 (g b o q).2 a,λb o q n a C=>?_,l.free,λb o q C=>?_,l.tups,l.frzs,l.tbls],λb o q=>?_,#[_,_,#[x1,PySem.W.hideAll_none _ wNa,x2,x▸x3],λb o q=>?_,λb o q n=>?_]],hdk,hE]
 ·let q sl z:=l.slot b o q n a C;let q sl' z':=ks b _ a z;exact#[sl',z']
 ·let q y z:=l.there b o q C;by_cases a:b∈ym outer
  ·let q sl z':=ks b y a z;exact#[_,z']
  ·exact#[_,X b y z (g b o q).1 (g b o q).2 a]
 ·refine(k b o q).stay (λc v x r=>?_) (λ_ z=>z) λ_ _ _ z=>z;rcases x with rfl|x
  ·exact X c v r (Gg c o q).1 (Gg c o q).2.1 (Gg c o q).2.2
  ·exact X c v r (Gg c _ x).1 (Gg c _ x).2.1 (Gg c _ x).2.2
 ·let q y z:=(k b o q).ex;exact#[y,PySem.W.hideAll_get _ z λm=>(uTa m).elim (Gg b o q).1 λm=>(h b m).elim (Gg b o q).2.1 (Gg b o q).2.2]
 ·let q y z:=l.there b o q Sx;exact#[y,PySem.W.hideAll_get _ z λm=>(uTa m).elim (g b o q).1 λm=>(h b m).elim (g b o q).2 n]
abbrev fu{m:St}{H h s e t a b}(I:Inv (yl _ P w K mg base N qual scope f cd A outer s0 H0 E) c m H s)
  (j:s.heap.get? e=S b) (k) (l:b.data=.fields #v[.ref t,.none,.none,.none,.bool G,.none]) (i n)
  (g) (d:E a J h):=X_ I j k l i n g (λ_ z=>by cases z) d
end
set_option tactic.hygienic true
abbrev Cp(K:uXa)(C:Addr)(b:L Value)(j:String)(v:Y (Y Value)):Bool:=match K.lookup C with
 |S ⟨.type "type",_,.cls a,c⟩=>(match a.mro,c.toList with
  |.ref d::e,[_,_,_,_,S (.builtin n),_]=>d==C&&n==j&&!a.hasDel&&PySem.W.tailIn K b e&&PySem.W.nsOkIn K a.ns&&PySem.W.nsIn K a.ns "__init__"== v
  |_,_=>G)
 |_=>G
theorem a6{K C r d V}(q:Cp K C r d V=B):∃t N nm q bs hdct sn sub ab col dd k0 k1 k2 k3 k5,K.lookup C=S (excClassObj nm q C N bs t hdct sn sub ab col dd k0 k1 k2 k3 k5 d)/\PySem.W.nsOkIn K N=B/\PySem.W.nsIn K N "__init__" = V/\PySem.W.tailIn K r t=B:=by
 unfold Cp at q;split at q
 ·rename_i z w b c;split at q
  ·rename_i UQ F p o m i O n f a;simp only[Bool.and_eq_true,beq_iff_eq,Bool.not_eq_true']at q;obtain⟨⟨⟨⟨⟨rfl,rfl⟩,y⟩,Q⟩,k⟩,M⟩:=q;let q I s T t v H P R u g A:=w;subst f y;have e:b=#v[p,o,m,i,S (.builtin O),n]:=by let q l:=b;simp only at a;rw[a]
   subst e;exact#[F,t,I,v,s,H,P,R,u,g,z,p,o,m,i,n,c,k,M,Q]
  ·exact Zf q
 ·exact Zf q
def fx{K h j x C r d}(X:K.In h)(N:j x=S (.ref C))(q:PySem.W.excIn K C r d=B):OwnCls x C r d j h:=by
 let JC F t I v s H P u0:=a6 (V:=S J) q;let JC R u g z p o m v0:=u0;let JK i n c k M Q:=v0;exact#[N,F,t,I,v,s,H,P,R,u,g,z,p,o,m,i,n,_,X _ _ c,.of_isNs (PySem.W.isNs_of_in X k),PySem.W.nsMap_none_of_in X k M,PySem.W.tail_of_in X Q]
section
variable{P:Program}{w:World}{K:uXa}{mg:Tj}{base:Heap}{N:L Str}{qual:Str}{scope:Scope}{f:Addr}{cd:Value}{A:Around}{outer:L Env}{s0:Shared}{H0:Hp}{E:XK}
def Cq{np g F Z z j C M a d i}
  (Q:PySem.W.nsIn K mainGlobals x=S (S (.ref C))) (R:PySem.W.excIn K C M d=B) (W:ExcBaseFacts a d i M) (hg:Gl Sc x) (hd:Su=G):
  PS Sc (.Raise (S (.Call (.Name x np) [.Constant (.str z) j Z] [] g)) J F) (λ_ _ H=>E (.ref C) J H):=by
 intro n s U H D I h;have l:=PySem.W.mg_of I.mod.kin I.mod.glob Q;have O:OwnCls x C M d mg base:=fx I.mod.kin l R;have UQ:wpAny _ _ (spliced (backTo g (starEach [.Constant (.str z) j Z] _)))
   (λm k=>m.length<=sizeLine/\(∀b o,base.get? b=S o->k.heap.get? b=S o)/\∀X e,Heap.MadeExcOf _ X e _ m->(yl _ P w K mg base N qual scope f cd A outer s0 H0 E).xe _ _)
   _ s:=
  jM ((JT Q6 Yt) g n s U H (λm H'=>m.length=1/\E _ J H') I #[rfl,h]) λus s1 ⟨m,H1,p,r,q1,q⟩=>
   #[by rw[<-r.length,q1];decide,p.bk,λX e l=>by
    let ja t he _:=l.there;refine fu (p.kept (t':=s1.toks) l.keeps) he rfl rfl ?_ ?_ (λb=>.inl rfl) q
    ·cases z:s0.heap.get? e with
     |none=>rfl
     |some o=>
      let q o' y:=p.base.there e o z (by simp[yl]);rw[l.new]at y;exact Zn y
    ·cases z:H1 e with
     |none=>rfl
     |some u=>
      let q o' y:=(p.hok e u z).ex;rw[l.new]at y;exact Zn y]
 have hh:=I.ok.hd rfl;let JC tl N' nm q bs hdct sn w0:=O.obj;let JC sub ab col dd k0 k1 k2 x0:=w0;let jL k3 k5 mN hC hN v T:=x0;exact wpAny_Raise_call_subT W (T.hasType W.hasBase) hh rfl v
  (ZB I hg l #[rfl,Calls.evalArgs_plain (wCa UQ (λm k c=>#[rfl,c.1,c.2.1 _ _ hC,hN.keeps c.2.1,T.keeps c.2.1,c.2.2]) λ_ _ y=>y)] hd)
end
def Fly.move(I:Inv X j N H s)(F:Fly X.prog X.w X.stack H s y e O i)
  (P:c.StaysIn i.heap) (x:∀b u,y b=S u->∃o,c.get? b=S o) (A:∀b o,s.heap.get? b=S o->b∉ym X.stack->∃f,c.get? b=S f)
  (k:c.StaysIn h) (Q:i.heap.FunFrames c X.stack) (M:i.heap.UpToSlots h):Inv X j N y {i with heap:=h,toks:=t}:=by
 have u:=F.un;have g:∀b o,i.heap.get? b=S o->(∃f,c.get? b=S f)->h.get? b=S o:=λb o q ⟨f,z⟩=>by
  have:=P b f z;rw[q]at this;obtain rfl:=Zj this;exact k b o z
 have r:∀b o,b∈ym X.stack->i.heap.get? b=S o->∃r,h.get? b=S _:=λb o d q=>by
  let vb _ f p C:=Q.mem d;rw[q]at p;obtain rfl:=Zj p;exact M b o q C
 refine I.call' F.os #[λb o q n d m=>g b o (u.keep b o q n d m) (A b o q d),λb o q n d m=>?_,u.free,λb o q m=>?_,u.tups,u.frzs,u.tbls] ?_ F.bare λb z=>vDa z Sx
 ·let q l z:=u.slot b o q n d m;let q w v:=r b _ d z;exact#[w,v]
 ·let q f z:=u.there b o q m;by_cases d:b∈ym X.stack
  ·let q w v:=r b _ d z;exact#[_,v]
  ·exact#[_,g b f z (A b o q d)]
 ·intro a o q;refine(F.hok a o q).stay (λb u d z=>g b u z ?_) (λ_ z=>z) λ_ _ _ z=>z;rcases d with d|d
  ·rw[d];exact x a o q
  ·exact x b _ d
set_option tactic.hygienic false
set_option tactic.hygienic true in
theorem Inv.gone(I:Inv X l U H s)(R:X.N.Nodup)(hi:X.N[i]?=S n)(Z:s.heap.Ns X.env.locals m)(C:O.Ns X.env.locals (λx=>if x=n then u else m x))(a:Heap.SameBut X.env.locals s.heap O):Inv X l (U.set i J) H {s with heap:=O}:=by
 let ja m0 hn hl:=id I.loc;have em:m0=m:=by
  let jL o es ep h1 h2 _ h4:=hn;let jL N es' W h t _ M:=Z;rw[h1]at h;obtain rfl:=Zj h;rw[h2]at t;cases t;funext x;rw[<-h4,<-M]
 subst em;have f:∀b o,X.s₀.heap.get? b=S o->b≠X.env.locals:=λb o e=>wTa (Nat.lt_of_lt_of_le (wLa e) I.ok.above);refine#[I.ok,I.os,I.bare,#[λb o e n A r=>(a.2 b (f b o e)).trans (I.base.keep b o e n A r),λb o e n A r=>?_,I.base.free,λb o e r=>?_,I.base.tups,I.base.frzs,I.base.tbls],#[_,C,λj y T g w e3=>?_],λy c e=>?_,I.free,I.freeC,λp hp=>?_,λb ob e=>?_,by rw[List.length_set];exact I.len]
 ·let q sl g:=I.base.slot b o e n A r;exact#[sl,(a.2 b (f b o e)).trans g]
 ·let q N g:=I.base.there b o e r;exact#[N,(a.2 b (f b o e)).trans g]
 ·by_cases F:j=i
  ·subst F;rw[List.getElem?_set]at w;split at w
   ·simp_all
   ·simp_all
  ·rw[List.getElem?_set_ne (Ne.symm F)]at w;let ja u' r' q:=hl j y T g w e3;refine#[u',r',?_];rcases q with⟨k,e⟩|⟨k,c,e,z⟩
   ·refine .inl #[k,?_];have:y≠n:=λe=>F (Kp R g (e▸hi));simp[this,e]
   ·exact .inr #[k,c,e,z.sameBut a (I.cne y c e)]
 ·let q P z:=I.cell y c e;exact#[P,z.sameBut a (I.cne y c e)]
 ·let yY e n Q UQ d:=I.pin p hp;exact#[(a.2 p.1 Q).trans e,n,Q,UQ,d]
 ·refine(I.hok b ob e).stay (λc P v q=>(a.2 c ?_).trans q) (λ_ q=>q) λ_ _ _ q=>q;rintro rfl;rcases v with rfl|v
  ·rw[I.free]at e;exact Zn e
  ·rw[I.free]at v;exact Zn v
def uR(I:Inv X b o H s)(v:X.N.Nodup)(e:X.N[i]?=S n)(d:X.env.kindOf n=S .local)
  (h:∀p,Inv X b (o.set i J) H p->Q () p):wpAny M A (do bindName X.env n .none;unbindBehindTheSuite X.env n C) Q E s:=by
 have x:(X.env.scope.kind==.class||(X.env.scope.kind==.module&&X.env.locals != X.env.globals))=G:=by rw[I.ok.kind];rfl
 refine wAa (wpAny_bindName (VM (v:=.non) I v e (.inl d) rfl (λN l=>?_) (.inr d)));refine wpAny_onRaise ?_;let ja m t y:=id l.loc;have c:i<o.length:=by rw[I.len];exact(uSa e).1
 let ja u r f:=y i n .non e (by rw[List.getElem?_set_self c]) (.inl d);have g:m n=S u:=by
  rcases f with f|⟨k,_⟩
  ·exact f.2
  ·simp_all
 refine wpAny_unbindName_local d t g x λF w j z=>h _ ?_;have a:=l.gone v e t j z;rw[List.set_set]at a;exact a
end L2
namespace L2
open PySem PySem.Spec PyProof.Rows PySem.Builtin
open PySem.W (Looks)
structure ExC (K C) where
 ga:PySem.W.findIn K (.ref C) "__getattribute__" = S (S (.builtin "BaseException.__getattribute__"))
 gx:PySem.W.findIn K (.ref C) "__getattr__" = S J
 at':PySem.W.findIn K (.ref C) "__class__" = S (S (.builtin "object.__class__"))
 gt:PySem.W.specialIn K (.builtin "object.__class__") "__get__" = S (S (.builtin "getset_descriptor.__get__"))
 tk:PySem.W.takesIn K (.builtin "object.__class__")=S B
 ob:PySem.W.mroIn K C (.type "object")=S B
 be:PySem.W.subIn K (.ref C) (.type "BaseException")=S B
 cl:PySem.W.isClsIn K C=B
abbrev QP(e C)(h:Heap):=∃o,h.get? e=S o/\o.cls=.ref C
section
variable{K:uXa}{e C:Addr}
def QP.ty(x:QP e C h):PySem.W.Looks M h (typeOf (.ref e)) (.ref C):=by
 let ja o a b:=x;have:=(PySem.W.Looks.ld (M:=M) (part:=J) a).andThen (f:=λo=>pure o.cls) .now;rw[b]at this;exact this
def fy(k:ExC K C)(X:K.In h):PySem.W.Looks M h (Builtin.ObjectAttr.find (.ref e) (.ref C) "__class__") (.bind (.builtin "getset_descriptor.__get__") (.builtin "object.__class__")):=by
 have c:=PySem.W.looks_findIn (M:=M) X k.at';have L2:=PySem.W.looks_specialIn (M:=M) X k.gt;have g:=PySem.W.looks_takesIn (M:=M) X k.tk;refine c.andThen (L2.andThen ?_);intro a j i d b f;refine wAa (wAa (g a _ i d b ?_));exact wBa (wAa (wpAny_rule (wBa f)))
def IB(k:ExC K C){s}(X:K.In s.heap)(x:QP e C s.heap)(h:R (.ok (.ret (.ref C))) s):
  codeAny (model a w) A (.call (.builtin "getset_descriptor.__get__") #[[.builtin "object.__class__",.ref e,f],[]]) R s:=by
 let q i g d t os:=s;have b:=x.ty (M:=model a w);have c:=PySem.W.looks_mroIn (M:=model a w) X k.ob;refine codeAny_call_builtin PySem.W.KF.slot_gs.plain PySem.W.KF.entry_gs (PySem.W.KF.slot_gs.check _ _ _ _ _ _ _ _ PySem.W.KF.type_class (PySem.W.KF.args_gs _ _ _) ?_);unfold Builtin.«getset_descriptor.__get__» Builtin.Getset_descriptor.descrGet;rw[PySem.W.dga_obj];refine wAa (wBa ?_);unfold Builtin.Getset_descriptor.descrGetter Builtin.Getset_descriptor.descrCheckInstance Builtin.Getset_descriptor.descrNameAndClass isInstance;simp only[PySem.W.KF.owner_class];repeat(open PySem.W in lk)
 refine#[Code.quiet_builtin _ (by decide +kernel),codeAny_builtin PySem.W.KF.entry_class ?_];repeat(open PySem.W in lk)
 exact h
def MJ(i:ExcAttrFacts "ValueError")(k:ExC K C){a:Program}{w:World}{A:Around}{E:Tz}{Q:Y Value->Shared->Prop}{s:Shared}(X:K.In s.heap)(x:QP e C s.heap)(h:Q (S (.ref C)) {s with toks:=s.toks+1}):
  wpAny (model a w) A (getAttr? (.ref e) "__class__") Q E s:=by
 let q p g d t os:=s;have f:=x.ty (M:=model a w);have n:=PySem.W.looks_findIn (M:=model a w) X k.ga;have L2:=PySem.W.looks_findIn (M:=model a w) X k.gx;have j:=fy (e:=e) (M:=model a w) k X;unfold getAttr? getAttrBy? getAttrBy;refine wAa (wpAny_mkText (wAa (wpAny_attempt (wDa (wAa (f.at (wAa (n.at ?_))))))));unfold getAttrByItsOwn hookBefore;refine wAa (L2.at (wAa (wpAny_attempt (wDa ?_))));show wpAny _ _ (boundAndCalled _ _ _) _ _ _;unfold boundAndCalled;have m:=i.ga.bind (.ref e);rw[m];refine wAa (wBa (wHa (codeAny_call_builtin i.ga.plain F.entry_bexc_ga ?_)));have c:Looks (model a w) p (isInstance (.ref e) (.type "BaseException")) B:=f.andThen (PySem.W.looks_subIn (M:=model a w) X k.be);have u:builtinKind "BaseException.__getattribute__" = S .slot:=by decide +kernel
 have b:splitId "BaseException.__getattribute__" = S ("BaseException","__getattribute__"):=by decide +kernel
 simp only[checkBuiltinCall,u,b];refine wAa (c.at ?_)
 repeat(first|assumption|wp_step)
 have l:=x;let ja o r v:=l;refine wpAny_loadPart_at r (wBa ?_);rw[v];refine wAa (j.at ?_);unfold ObjectAttr.bindTo;refine wAa (wDa (wHa (IB k X x ?_)));exact wBa (PySem.W.handed_on rfl (wBa h))
set_option tactic.hygienic true in
theorem IC(k:ExC K C):PySem.W.KitX K (.ref e) (.ref C) (QP e C) where
 ty:=λM h _ x=>x.ty
 it:=λM h X _=>by
  have z:=k.cl;unfold PySem.W.isClsIn PySem.W.clsIn at z;split at z
  ·rename_i b;intro g i j l c f;exact wAa (wpAny_loadPart (c _ _ (X _ _ b)) (wBa f))
  ·exact Zf z
 ne:=λh o m d n p X a=>by
  have z:=k.cl;refine Bool.eq_false_iff.mpr λq=>?_;have e:=Value.ref.inj (beq_iff_eq.mp q);subst e;unfold PySem.W.isClsIn PySem.W.clsIn at z;split at z
  ·rename_i b;have y:=(X _ _ b).symm.trans a;cases y
  ·exact Zf z
 ca:=λX x h=>MJ F.excAttr_ValueError k X x h
end
end L2
namespace L2
open PySem PySem.Spec PyProof.Rows
noncomputable abbrev Cx.sui(X:Cx)(e:Addr):={X with A:=X.A.mark (S (.ref e)),calm:=G,xe:=λ_ _=>False}
def Inv.sui(I:Inv X a b H s):Inv (X.sui e) a b H s:=
 #[#[I.ok.mod,I.ok.kind,I.ok.glob,I.ok.blt,I.ok.above,I.ok.inj,I.ok.has,I.ok.cab,(λz=>nomatch z),I.ok.frames,I.ok.stk,I.ok.exf,I.ok.bs,I.ok.bsz,I.ok.noex,I.ok.exfs,I.ok.funs,I.ok.frf],I.os,I.bare,I.base,I.loc,I.cell,I.free,I.freeC,I.pin,I.hok,I.len]
def Inv.unsui(I:Inv (X.sui e) a b H s)(c:X.calm=B->X.A.handled=J):Inv X a b H s:=
 #[#[I.ok.mod,I.ok.kind,I.ok.glob,I.ok.blt,I.ok.above,I.ok.inj,I.ok.has,I.ok.cab,c,I.ok.frames,I.ok.stk,I.ok.exf,I.ok.bs,I.ok.bsz,I.ok.noex,I.ok.exfs,I.ok.funs,I.ok.frf],I.os,I.bare,I.base,I.loc,I.cell,I.free,I.freeC,I.pin,I.hok,I.len]
abbrev Nd(X)(b:Tq)(k:St)(i:XK)(j:Value)(d:Shared):=
 ∃h c e a g f,j=.ref e/\Inv X b k h c/\Fly X.prog X.w X.stack h c g e a d/\XF d.heap e f/\i a f g
noncomputable abbrev Bi:=St->Hp->XK->Prop
abbrev eE(X)(e:L Stmt)(d:Bi):=∀(a s) (b:St) (H c),Inv X a b H s->d b H c->wpAny Sz X.A (execs e X.env) (λ_ _=>False) (Nd X a b c) s
abbrev IE(X)(e:Expr)(d:Bi):=∀(a s) (b:St) (H c),Inv X a b H s->d b H c->wpAny Sz X.A (eval e X.env) (λ_ _=>False) (Nd X a b c) s
def IG(h:IE X e d)(g:swapsWith e (S (.Name x a)) c.line X.env=pure G):eE X [.Assign [.Name x a] e c] d:=
 λb s i H f I q=>wpAny_execs_cons (wpAny_Assign_Name (jM (h b s i H f I q) λ_ _ z=>False.elim z) g)
abbrev IH(c:Sp)(t:TA):Bi:=λa H d=>t a H λe b=>c e b (λ_ _=>False) d
theorem fz(F:FnOk X.prog X.w X.K X.mg X.base (yD X.prog X.w) k f fd y sp)(N:Room k X.A)(hg:Gl X g)(Q:X.mg g=S (.ref f))(hk:PySem.W.keepIn X.K (.ref f)=B)(O:JP X.K fd y [])
  (W:PA X.nox (n::d) t) (m:(g==("__debug__"))=G) (he:starEach (n::d) X.env=(G,eval n X.env)::starEach d X.env) (u:(backTo b (starEach d X.env)).any (·.1)=G):IE X (.Call (.Name g p) (n::d) [] b) (IH sp t):=by
 intro c s Z H Er I h;refine wpAny_Call_Name_kw (ZB I hg Q ?_ m);refine PySem.W.callWith_K I.ok.mod.kin hk (wCa (W b c s Z H _ (I.wish _) h) (λx o R=>?_) λ_ _ z=>False.elim z) he u;let jc T A a r q:=R;refine#[a.unwish.kIn,?_]
 replace a:=a.unwish
 have C:=r.append .nil;have w:=q;rw[<-uFa T]at w;have hl:(x++[]).length=y.length:=by rw[<-C.length];exact F.len _ _ _ _ w
 refine wHa (codeAny_mono (F.run X.A X.stack o A _ _ _ _ _ N a.env0 (O o x a.kIn hl) C w) λr s' j=>?_);cases r with
 |ok fl=>
  cases fl with
  |ret v=>let YH _ _ _ _ _ _ _ z:=j;exact z.elim
  |_=>exact False.elim j
 |error ev=>
  let YI e l H' UQ rfl P i M:=j;exact#[A,o,e,l,H',UQ,rfl,a,P,i,M]
structure Land (X pins) (U:St) (H' e cls od) (s:Shared) where
 fl:∃By a0,Heap.FlyingW By (X.env::X.outer) e cls a0 s.heap/\(∀h,By.StaysIn h->s.heap.UpToSlots h->Inv X pins U H' {s with heap:=h})/\∀h o,By.StaysIn h->s.heap.UpToSlots h->JB X.prog X.w (upd H' e o) h e o->Inv X pins U (upd H' e o) {s with heap:=h}
 dd:XF s.heap e od
noncomputable abbrev TH:=Value->Y Addr->Addr->TS
abbrev PH(X)(g:L ExceptHandler)(t:TH):=∀(a c d e b f s D),Land X a c d e b f s->t b f e D c d->wpAny Sz X.A (handleBy (.ref e) X.env g) (SP X a D) X.xe s
def Fly.moveT(I:Inv X x U H s)(F:Fly X.prog X.w X.stack H s r e P v)
  (hB:d.StaysIn v.heap) (UQ:∀b u,r b=S u->∃o,d.get? b=S o) (O:∀b o,s.heap.get? b=S o->b∉ym X.stack->∃i,d.get? b=S i)
  (k:d.StaysIn h) (R:v.heap.FunFrames d X.stack) (up:v.heap.UpToSlots h) (Q:r a=J) (Z:s.heap.get? a=J) (hH:H a=J) (ok:JB X.prog X.w (upd r a o) h a o):Inv X x U (upd r a o) {v with heap:=h,toks:=t}:=by
 have u:=F.un;have j:∀b o,v.heap.get? b=S o->(∃i,d.get? b=S i)->h.get? b=S o:=λb o q T=>by
  let q i z:=T;have:=hB b i z;rw[q]at this;obtain rfl:=Zj this;exact k b o z
 have C:∀b o,b∈ym X.stack->v.heap.get? b=S o->∃C,h.get? b=S _:=λb o f q=>by
  let vb _ i w hd:=R.mem f;rw[q]at w;obtain rfl:=Zj w;exact up b o q hd
 have g:∀b u,r b=S u->upd r a o b=S u:=λb u q=>by rw[jp (jU q Q)];exact q
 refine I.call' F.os #[λb o q n f p=>j b o (u.keep b o q n f p) (O b o q f),λb o q n f p=>?_,λb o q n p=>?_,λb o q p=>?_,λb A q=>g _ _ (u.tups b A q),λb o A q=>g _ _ (u.frzs b o A q),λb W q=>?_] ?_ F.bare λb z=>vDa z Sx
 ·let q l z:=u.slot b o q n f p;let q N M:=C b _ f z;exact#[N,M]
 ·rw[jp (λz=>by rw[z,Z]at q;exact Zn q)];exact u.free b o q n p
 ·let q i z:=u.there b o q p;by_cases f:b∈ym X.stack
  ·let q N M:=C b _ f z;exact#[_,M]
  ·exact#[_,j b i z (O b o q f)]
 ·let q m z:=u.tbls b W q;exact#[m,g _ _ z]
 ·intro b i q;by_cases z:b=a
  ·subst z;rw[jz]at q;obtain rfl:=Zj q;exact ok
  ·rw[jp z]at q;refine(F.hok b i q).stay (λc u f y=>j c u y ?_) (λc y=>g _ _ y) λc A _ y=>g _ _ y;rcases f with f|f
   ·simp_all
   ·exact UQ c _ f
section
variable{P:Program}{w:World}{K:uXa}{mg:Tj}{base:Heap}{N:L Str}{qual:Str}{scope:Scope}{f:Addr}{cd:Value}{A:Around}{outer:L Env}{s0:Shared}{H0:Hp}{E:XK}
def II:Yu (yD P w) Sc E:=by
 rintro C U H s _ t I ⟨e,M,H',od,rfl,x,R,hE⟩;let jc c a0 r Q c2:=x.fly;have d:Inv Sc C U H' t:=by
  have:=x.move (t:=t.toks) I r.1 Q c2 r.1 r.2.2.1 (λb o q _=>#[_,q]);exact this
 have X:s0.heap.get? _=J:=Heap.get?_none_of_le (wPa _);have T:∀b o,s0.heap.get? b=S o->b≠s0.heap.objs.size:=λb o q z=>by rw[z,X]at q;exact Zn q
 have F:∀b,b∈ym (envOfC qual scope _ f cd::outer)->b=s0.heap.objs.size\/b∈ym outer:=λb g=>by
  exact uTa g
 have k:∀b o,s0.heap.get? b=S o->b∉ym outer->∃h,c.get? b=S h:=λb o q n=>by
  let q h z:=I.base.there b o q (by simp[yl]);exact c2 b h z λm=>(F b m).elim (T b o q) n
 refine wCa (V_ (Q:=λ_ s2=>∃j,s2={t with heap:=j}/\Heap.FlyingW c outer e M a0 j/\t.heap.UpToSlots j) (wB _ _) (wpAny_leaves_onW d.ok.frames rfl r λj i W=>#[j,rfl,i,W])) (λ_ s2 zz=>?_) (λ_ _ z=>z);obtain⟨⟨j,rfl,i,W⟩,dk⟩:=zz;have Z:=XF.keep dk R;have p:∀b o,t.heap.get? b=S o->(∃h,c.get? b=S h)->j.get? b=S o:=λb o q ⟨h,z⟩=>by
  have:=r.1 b h z;rw[q]at this;obtain rfl:=Zj this;exact i.1 b o z
 have O:∀b o,b∈ym outer->t.heap.get? b=S o->∃O,j.get? b=S _:=λb o g q=>by
  let vb _ h v hd:=r.2.2.1.mem (by show b∈ym (envOfC qual scope _ f cd::outer);exact wMa _ g);rw[q]at v;obtain rfl:=Zj v;exact W b o q hd
 have u:=d.base;refine#[e,M,H',od,rfl,#[x.os.trans I.os,x.bare,#[λb o q n g y=>p b o (u.keep b o q n g y) (k b o q g),λb o q n g y=>?_,u.free,λb o q y=>?_,u.tups,u.frzs,u.tbls],?_,#[c,a0,i,Q,k]],Z,hE]
 ·let q l z:=u.slot b o q n g y;let q l' UQ:=O b _ g z;exact#[l',UQ]
 ·let q h z:=u.there b o q y;by_cases g:b∈ym outer
  ·let q l' UQ:=O b _ g z;exact#[_,UQ]
  ·exact#[_,p b h z (k b o q g)]
 ·intro a o q;refine(x.hok a o q).stay (λb u g z=>p b u z ?_) (λ_ z=>z) λ_ _ _ z=>z;rcases g with g|g
  ·simp_all
  ·exact Q b _ g
end
abbrev IJ(d:Bi)(f:TH):TS:=λD b H=>d b H λa g c=>∀e,c e=J->f a g e D b c
def IK(UQ:eE X bd tb)(hh:PH X (w::hs) th)(n:X.stack=X.env::X.outer)(W:X.env.frame=S X.env.locals):PS X (.Try bd (w::hs) [] [] tpos) (IJ tb th):=by
 intro l s U H D I h;refine wpAny_Try_except (wCa (UQ l s U H _ I h) (λ_ _ z=>False.elim z) λev u hq=>?_);let JV H1 s1 e m H' od rfl T Fl v0:=hq;let q hdd hE:=v0;let jc a Z F P C:=Fl.fly;have g:=F;rw[n]at F;refine wCa (V_ (Q:=λ_ A=>∃R,A={u with heap:=R}/\Heap.HeldW a _ e m Z _ R/\u.heap.UpToSlots R) (XZ _ _) (wpAny_looks_onW (I.ok.frames.trans (by rw[n])) W F λi b d=>#[i,rfl,b,d])) (λ_ A zz=>?_) (λ_ _ z=>z);obtain⟨⟨i,rfl,b,d⟩,Q⟩:=zz;refine wCa (V_ (Q:=λ_ A=>∃h5,A={u with heap:=h5}/\Heap.FlyingW a _ e m Z h5/\i.UpToSlots h5) (ua _ _) (wpAny_landsW b λj c f=>#[j,rfl,c,f])) (λ_ A zz=>?_) (λ_ _ z=>z);obtain⟨⟨j,rfl,c,f⟩,O⟩:=zz;have x:=d.trans f;have t:H' e=J:=by
  cases z:H' e with
  |none=>rfl
  |some v=>let q o y:=P e v z;rw[g.2.1]at y;exact Zn y
 let JK oe ws N hoec p hoe0:=c.first;have nfr:e∉ym X.stack:=λz=>by
  let vb _ o ho hd:=c.2.2.1.mem (by rw[n]at z;exact z);rw[N]at ho;obtain rfl:=Zj ho;exact hd _ p
 have r:s1.heap.get? e=J:=by
  cases z:s1.heap.get? e with
  |none=>rfl
  |some o=>let q o' y:=C e o z nfr;rw[g.2.1]at y;exact Zn y
 have M:H1 e=J:=by
  cases z:H1 e with
  |none=>rfl
  |some v=>let q o y:=(T.hok e v z).ex;rw[r]at y;exact Zn y
 refine hh l U H' e m od _ D #[#[a,Z,c,λh k up=>?_,λh o k up ok=>?_],XF.keep (Q.trans O) hdd] (hE e t)
 ·have:=Fly.move (t:=u.toks) T Fl g.1 P C k g.2.2.1 (x.trans up);exact this
 ·have:=Fly.moveT (t:=u.toks) T Fl g.1 P C k g.2.2.1 (x.trans up) t r M ok;exact this
def fA(c:Jx X.nox i t):PS X (.Try i (e::j) [] [] d) t:=by
 intro b s g H D I h;refine wpAny_Try_except (wCa (c b s g H D (I.wish _) h) (λf k a=>?_) λ_ _ z=>False.elim z);have a:=a.unwish;cases f with
 |next=>exact wpAny_execs_nil a
 |brk=>exact a
 |cont=>exact a
 |ret v=>exact a
def MK{st d c}(e:PS X st d)(f:PS X st c):PS X st (λD b H=>d D b H\/c D b H):=
 λa s b H D I h=>h.elim (e a s b H D I) (f a s b H D I)
def fG(h:Heap):h.UpToSlots h:=λb o q _=>#[_,q]
abbrev pI(K:uXa)(h:Addr)(i:Nat)(u:Addr->TS)(j:TH):TH:=λc g e D f H=>∃b,PySem.W.exmOne K c (.ref h)=S b/\if b=B then∃C,c=.ref C/\
  u e {nx:=λa d=>D.nx (a.set i J) d,rt:=D.rt,bk:=λa d=>D.bk (a.set i J) d,ct:=λa d=>D.ct (a.set i J) d} (f.set i (S (.ref e))) (upd H e (xC e C g))else j c g e D f H
def ML(k:X.N.Nodup)(N:X.N[i]?=S n)(j:X.env.kindOf n=S .local)(UQ:Gl X x)(hmx:X.mg x=S (.ref Dc))(Q:Su=G)(hu:∀e,Jx (X.sui e) (M::su) (u e))(hr:PH X F th):PH X (.ExceptHandler (S (.Name x np)) (S n) (M::su) hpos::F) (pI X.K Dc i u th):=by
 intro p U H' e I od s D c hq;let ja b hmt O:=hq;let jc d a0 h mv mvT:=c.fl;have I5:=mv s.heap h.1 (fG _);let JK oe ws T H hoed hoe0:=h.first;refine wpAny_handleBy_cons (codeAny_handlers_test (ZB I5.sui UQ hmx ?_ Q)) (by intro q;cases q);have LT:PySem.W.Looks Sz s.heap (typeOf (.ref e)) I:=by
  have:=(PySem.W.Looks.ld (M:=model X.prog X.w) (part:=J) T).andThen (f:=λo=>pure o.cls) .now;rw[H]at this;exact this
 refine(PySem.W.exm_one I5.kIn LT hmt).here ?_;cases b with
 |false=>exact hr p U H' e I od s D c O
 |true=>
  revert O;intro x0;let ja C rfl O:=x0;refine codeAny_handlers_suite_as ?_;refine wCa (V_ (Q:=λ_ s2=>∃h6,s2={s with heap:=h6}/\Heap.FlyingW d _ e _ a0 h6/\s.heap.UpToSlots h6) (ua _ _) (lands_againW h λl f g=>#[l,rfl,f,g])) (λ_ s2 zz=>?_) (λ_ _ z=>z);obtain⟨⟨l,rfl,f,g⟩,Z⟩:=zz;let JK oe6 ws6 m w t _:=f.first;let jw o2 z2 W y:=XF.keep Z c.dd;rw[m]at z2;obtain rfl:=Zj z2;have J6:=(mvT l _ f.1 g (DD m w (by unfold PySem.W.notCls;rw[t]) y W)).sui (e:=e);refine VM (X:=X.sui e) (v:=.ref e) J6 k N (.inl j) rfl (λs7 J7=>?_) (.inr j);refine wCa (hu e p s7 _ _ _ J7 O) (λfw s8 F=>?_) (λ_ _ z=>False.elim z);have P:=I5.ok.hd;cases fw with
  |next=>let jW A R a z:=F;exact uR (a.unsui P) k N j λs' r=>#[_,_,r,z]
  |brk=>let jW A R a z:=F;exact uR (a.unsui P) k N j λs' r=>#[_,_,r,z]
  |cont=>let jW A R a z:=F;exact uR (a.unsui P) k N j λs' r=>#[_,_,r,z]
  |ret v=>let JL v' A R a rv z:=F;exact uR (a.unsui P) k N j λs' r=>#[v',_,_,r,rv,z]
abbrev O8(K:uXa):L V->Hp->VK->Prop:=λf c Q=>∃e C g a b d,f=[.ref e,d]/\(∀u,jI d u->u=a)/\c e=S (xC e C g)/\ExC K C/\PySem.W.kitOne K (.ref C) a=S b/\Q (.bl b) c
def Cr:zQ X (.builtin "isinstance") (O8 X.K):=by
 intro a s x H u v Q I r h;let JV e C y w b d rfl f c z0:=h;let Yk k o q:=z0;cases r with
 |cons i n=>
  cases n with
  |cons p g=>
   cases g;subst i;cases f _ p;obtain⟨⟨l,m,j,_⟩,_⟩:=I.hok e _ c;exact PySem.W.kia_one (IC k) I.kIn #[l,m,j] o (by intro z;cases z) λt=>#[.bl b,H,I.tok t,rfl,q]
structure SoftAt (X:Cx) (e o) where
 h:X.A.handled=S (.ref e)
 s:X.s₀.heap.get? e=S o
 n:X.H₀ e=J
 f:e∉X.fs
 x:e∉X.ex
 c:V1 o
abbrev GU(X):=∃e o,SoftAt X e o
section
variable{X:Cx}{pins:Tq}{U:St}{H:Hp}{s s3:Shared}{e:Addr}{o:Obj}
def SoftAt.get(a:SoftAt X e o)(I:Inv X pins U H s):s.heap.get? e=S o/\H e=J:=#[I.base.keep e o a.s a.n a.f a.x,I.base.free e o a.s a.n a.x]
def SoftAt.comp(a:SoftAt X e o)(I:Inv X pins U H s3)(f:∀b∈d,b<s3.heap.objs.size/\JI X pins H b):SoftAt (X.comp g scope s3 H d) e o:=by
 have h:=wLa a.s;refine#[a.h,(a.get I).1,(a.get I).2,λz=>?_,λz=>?_,a.c]
 ·rcases uTa (I.stkSub e z)with z|z
  ·have:=I.ok.above;rw[<-z]at this;lia
  ·exact a.f z
 ·rcases(f e z).2.2.2.2.1 with z|z
  ·exact a.x z
  ·lia
def qI:entryFor table "proto.unchain" = S Builtin.«proto.unchain»:=entryFor_of_fast Sw
def Cs(b:s.heap.get? e=S o)(d:V1 o)(g:Q .none s):wpAny (model a w) A (runValue (.builtin "proto.unchain" #[[v,.ref e,.ref e,.bool G],[]])) Q E s:=by
 let ja h f c:=d;refine wpAny_runValue (codeAny_builtin qI ?_);refine wAa (wpAny_field b f c ?_);exact wBa g
def AE(i:A.handled=S (.ref e))(h:s.heap.get? e=S o)(j:V1 o)(b:a≠e)(d:s.heap.get? a=S n)(k:n.data=.fields c)(m:2<c.size)
  (g:E (.ref a) {s with heap:=s.heap.update a (Obj.mapFields λc=>c.setIfInBounds 2 (.ref e))}):wpAny (model f w) A (raiseNew (.ref a)) Q E s:=by
 refine wAa (wpAny_handled ?_);rw[i];have l:(Value.ref e != Value.ref a)=B:=by simpa using λz=>b z.symm
 dsimp only;rw[if_pos l];refine wAa (wDa (Cs h j ?_));refine wAa (wAa (wpAny_load d ?_));rw[k];dsimp only;rw[if_pos m];exact wpAny_update d (wpAny_throw g)
def qJ(W:A.handled=S (.ref e))(F:s.heap.get? e=S o)(M:V1 o)
  (g:s.heap.IsListIter n l i) (hl:s.heap.IsList l f) (hx:f[i]?=J) (hQ:∀O,Heap.ExtBut n s.heap O->Q J {s with heap:=O}):wpAny (model d w) A (pyNext (.ref n)) Q E s:=by
 let jw oi a Z c:=id g;let Yn ol t _ nl y:=hl;have ne:n≠e:=λz=>by
  let ja m N c2:=M;rw[z,F]at a;obtain rfl:=Zj a;rw[c]at N;cases N;exact Zn c2
 refine wAa (wpAny_attempt (wpAny_callSpecial?_slot g.typeIs slot_listiter_next (wpAny_call_entry slot_listiter_next g.typeIs entry_listiter_next ?_ (args_listiter_next _))));show wpAny _ _ (field _ 0 >>= _) _ _ s;refine wAa (wpAny_field a c rfl ?_);have nn:¬((Value.ref l==Value.none)=B):=vNa;refine wAa (wpAny_field a c rfl ?_);refine wAa (wpAny_seqItems t y ?_);simp only[Int.toNat_natCast,hx];refine wAa (wpAny_rule (wAa (wpAny_setField a c Sx ?_)));refine wAa ?_;refine wAa (vTa ?_ (by size_fits));refine wAa (wpAny_of_eq rfl (vTa ?_ (by size_fits)));have r:∀{UQ} (T:UQ->Shared->Prop) (j:Heap),(∀b u,b≠n->s.heap.get? b=S u->j.get? b=S u)->∀(h m),h.data=.fields m->h.cls=.type "StopIteration" ->2<m.size->
   wpAny (model d w) A.in1 _ T (λx s'=>wpAny (model d w) A (do
    let b<-isInstance x _
    if b=B then pure _ else throw x) Q E s') {s with heap:=j.push h}:=λT j k h m C p hz=>by
  have R:=k e o (λz=>ne z.symm) F;have nf:=Obj.isFreed_of_fields C;have P:(j.push h).get? _=S h:=Heap.get?_push_at rfl nf;refine AE W (wIa _ R) M (λz=>by have:=wLa R;lia) P C hz ?_;refine wAa (wpAny_isInstance #[_,vUa _ P (Obj.isFreed_of_fields (Obj.data_mapFields C _)),(Obj.cls_mapFields ..).trans p] isSubtype_stop ?_);refine wBa (hQ _ λb u v q=>?_);have I:=k b u v q;have nz:j.objs.size≠b:=λz=>by have:=wLa I;lia
  exact(wKa _ _ nz).trans (wIa _ I)
 exact r _ _ (λb u v q=>wIa _ ((wKa _ _ v.symm).trans q)) _ _ rfl rfl (show 2<6 by decide)
def AF(f:SoftAt X e o)(a k):TurnX X tg (bN X.K a) [k] k (λi h=>h.IsListIter k a i) where
 item:=by
  intro i pins s U H E I m st C;let jW T x l z:=C;let jw v r p M:=I.list l;let ja u UQ W:=r.get z;let Jy n A Q t y w:=m k Sx;refine wpAny_pyNext_list_item st p.isList (by simpa using UQ) λP j F=>?_;have O:=I.turned (t':=s.toks) (λb o g e=>(F.2 b g).trans e) n A t y w;let jw o e c d:=id j;exact#[u,rfl,kS e c d rfl #[x,H,O,W,#[rfl,λys N=>by rw[I.list_inj N l];exact z],j,λb g=>(m b g).1]]
 done:=by
  intro i pins s U H E I m st C;let ja T l z:=C;let jw v r p M:=I.list l;let Jy n A Q t y w:=m k Sx;have Z:=r.length;exact qJ f.h (f.get I).1 f.c st p.isList (by simp;lia) λP R=>#[rfl,I.turned (λb o g e=>R b o g e) n A t y w]
abbrev IL(X)(l f:Expr)(p:TI):=
 ∀(pins s) (U:St) (H R),Inv X pins U H s->p U H R->
  wpAny Sz X.A (eval f X.env) (λv r=>wpAny Sz X.A (pyIter v) (λi m=>∃(h:Addr) (k:L _) (j:Nat->Heap->Prop) (a:It) (d:Hp),i=.ref h/\Inv X pins U d m/\Turn X.prog X.w X.K l a k h j/\j 0 m.heap/\(∀b∈k,JI X pins d b)/\R a d/\
   ∀n c s3 g,Inv X pins U d s3->(∀b∈g,b<s3.heap.objs.size/\JI X pins d b)->TurnX (X.comp n c s3 d g) l a k h j) X.xe r) X.xe s
def Ct(c:SoftAt X e o)(r:PE X l y):IL X O l (mU X.K y):=by
 intro pins s U H R I h;refine jM (r _ s U H _ I h) λv i z=>?_;let jc x k d j u0:=z;let jw a u v0 q:=u0;let q F t:=v0;subst u;subst j;let jw m C p M:=d.list t;refine wpAny_pyIter_list p.isList ?_;refine#[_,_,_,_,k,rfl,d.kept λb o e=>wIa _ e,WK a _,#[_,wJa _ rfl,rfl,rfl],λb n=>?_,q,λN f s3 g w A=>AF (c.comp w A) a _];have e:b=i.heap.objs.size:=by simpa using n
 subst e;exact d.fpOk (wPa _) (d.hok.fresh (wPa _))
def IM(j f)(a:CScope X d)(n:Caps X d f)(M:IL X v k z)
  (hg:∀s3 l i,PG (X.comp (cN j f) d s3 l i) v g) (ht:∀s3 l i,ZJ (X.comp (cN j f) d s3 l i) r O) (he:∀s3 l i,PE (X.comp (cN j f) d s3 l i) t P)
  (N:∀x,foldedSetIterable k X.env x=pure x):PE X (.ListComp t [#[v,k,r,0]] d pos) (Dy j f z g O P):=by
 intro pins s U H Q I h;refine wpAny_comprehension_free rfl N (kX λy hy e=>I.ok.has _ (a.f y hy e)) a.kind a.l (jM (M _ s U H _ I h) λxv s1 h1=>jM h1 λitv s2 h2=>?_);let Jw it fp tn c H2 e F T st w0:=h2;let Yk u w TX:=w0;subst e;refine Wa a n (λs3 i I3 hf=>TX _ _ s3 _ I3 hf) hg ht he F T st u w ?_;intro D C s' R m Z hn p q;refine#[m,hn,λh' sb=>#[.ref D,R,?_,rfl,q]];let Jy f0 f1 u A f4 UQ:=p;exact Z.turned (λb o W e=>(sb.2 b W).trans e) f0 f1 A f4 UQ
end
section
variable{P:Program}{w:World}{K:uXa}{mg:Tj}{base:Heap}
noncomputable abbrev uS(P:Program)(w:World)(K:uXa)(mg:Tj)(base:Heap)(N:L _)(c:Str)(b:Scope)(f:Addr)(d:Value)(A:Around)(a:L _)(s:Shared)(H):={yl Y9 P w K mg base N c b f d A a s H E0 with calm:=G,xe:=λ_ _=>False}
structure FnS (P w K mg base f fd) (ps:L _) (sp:Sp) where
 len:∀vs H Q E,sp vs H Q E->vs.length=ps.length
 run:∀(A outer s H args us vs Q e o),A.depth<recursionLimit->A.handled=S (.ref e)->s.heap.get? e=S o->V1 o->H e=J->e∉ym outer->Env0 P w K mg base A outer s H->BindsTo s fd args (ps.zip us)->jB vs us->sp vs H Q E0->
  codeAny (model P w) A (.call (.ref f) args) (CR Y9 outer P w H s Q E0) s
theorem fJ{n h k m d dV kV O pm j ct oc an od}
  {osl N W sp} (lk:K.lookup f=S #[oc,od,.func (PySem.W.fnOf n h k m d dV kV O pm an j ct),osl]) (X:PySem.W.codeIn K j h=B) (a:FnScope N W d)
  (M:∀C H Q E,sp C H Q E->C.length=W.length)
  (F:∀(A i s H C Q),GU (uS P w K mg base N h d f j A i s H)->sp C H Q E0->
   ∃t,Jx (uS P w K mg base N h d f j A i s H) m t/\t {nx:=λ_ R=>Q .non R,rt:=Q} (zR N C) H):
  FnS P w K mg base f (PySem.W.fnOf n h k m d dV kV O pm an j ct) W sp:=by
 refine#[M,λA i s H args us C Q e o hdp hh ho hc0 hHe hne l hb r T=>?_];have hl:=M _ _ _ _ T;have KX:=l.mod.kin.keeps λb o e=>(l.bs b o e).1;have Z:=l.mod.nolimit.keeps λb o e=>(l.bs b o e).1;have p:∀y∈W.zip us,d.names.lookup _=S _\/(d.names.lookup _=S _/\((cellsFrom (s.heap.objs.size+1) _ []).lookup _).isSome=B):=λy hy=>by
  rcases a.par _ (List.of_mem_zip hy).1 with q|q
  ·exact .inl q
  ·exact .inr #[q,PySem.W.cellsFrom_some _ _ _ (.inl q)]
 refine codeAny_call_function hdp (KX _ _ lk) rfl a.co a.gen rfl (PySem.W.codeRec_of KX X) (hb _ _ _ _ ?_);refine wpAny_newFunctionEnv_cells a.kind p λenv he s1 x=>?_;subst he;refine#[Z.keeps x.toInCall.keep,codeAny_func ?_];have sf:GU (uS P w K mg base N h d f j A _ s H):=#[e,o,hh,ho,hHe,hne,(λz=>by cases z),hc0]
 let ja t ht hq:=F A _ s H C Q sf T;have e0':Env0 P w K mg _ {A with handled:=J} _ s H:=#[l.frames,l.mod,l.bs,l.bsz,l.funs,l.frf,l.hok,l.bare]
 have g:=WR (CX:=Y9) (E:=E0) a rfl e0' hl r x;have I:Inv (uS P w K mg _ N h _ f j A i s H) [] _ H s1:=
  #[#[g.ok.mod,g.ok.kind,g.ok.glob,g.ok.blt,g.ok.above,g.ok.inj,g.ok.has,g.ok.cab,(λz=>nomatch z),g.ok.frames,g.ok.stk,g.ok.exf,g.ok.bs,g.ok.bsz,g.ok.noex,g.ok.exfs,g.ok.funs,g.ok.frf],g.os,g.bare,g.base,g.loc,g.cell,g.free,g.freeC,g.pin,g.hok,g.len]
 refine wCa (ht [] s1 _ H _ I hq) (λfl s' UQ=>?_) λ_ _ z=>z.elim;cases fl with
 |ret u=>
  let JL v U' R c rv q:=UQ;exact#[v,R,c.os,c.bare,c.base,c.hok,rv,q]
 |next=>
  let jW U' R c q:=UQ;exact#[V.non,R,c.os,c.bare,c.base,c.hok,rfl,q]
 |brk=>let jW _ _ _ q:=UQ;exact False.elim q
 |cont=>let jW _ _ _ q:=UQ;exact False.elim q
end
abbrev QQ(H:Hp)(e:Addr):Hp:=λb=>if b=e then J else H b
def zV(h:b≠e):QQ H e b=H b:=if_neg h
abbrev eF(e:Addr)(g:Sp)(t:TA):TE:=λf H Q=>t f H λd b=>∃C c,b e=S (xC e C c)/\g d (QQ b e) (λv a=>a e=J->Q v (upd a e (xC e C c))) E0
theorem fL(F:FnS X.prog X.w X.K X.mg X.base f fd ps sp)(hdp:X.A.depth<recursionLimit)(hg:Gl X x)(hm:X.mg x=S (.ref f))(hk:PySem.W.keepIn X.K (.ref f)=B)(M:JP X.K fd ps [])
  (ha:PA (X.sui e) (ea::Z) t) (hdb:Su=G) (he:starEach (ea::Z) X.env=(G,eval ea X.env)::starEach Z X.env) (hpl:(backTo pos (starEach Z X.env)).any (·.1)=G):
  PE (X.sui e) (.Call (.Name x p) (ea::Z) [] pos) (eF e sp t):=by
 intro pins s U H Q I h;refine wpAny_Call_Name_kw (ZB I hg hm ?_ hdb);refine PySem.W.callWith_K I.ok.mod.kin hk (jM (ha _ _ s U H _ I h) λus UQ xx=>?_) he hpl;let jc vs A k r x0:=xx;let jW C od W q:=x0;refine#[k.kIn,?_];have hl:(us++[]).length=ps.length:=by rw[uFa,<-r.length];exact F.len _ _ _ _ q
 obtain⟨⟨oe,h1,h2,h3,h4,h5⟩,_⟩:=k.hok e _ W;have O:e∉ym _:=λz=>by have:=k.stkFree e z;rw[W]at this;exact Zs this
 have ne:∀b u,A b=S u->(∀φ,u≠.ext φ)->b≠e:=λb u z n y=>by rw[y,W]at z;obtain rfl:=Zj z;exact n _ rfl
 have sub:∀b u,QQ A e b=S u->A b=S u:=λb u z=>by
  by_cases y:b=e
  ·unfold QQ at z;rw[if_pos y]at z;exact Zn z
  ·rw[zV y]at z;exact z
 have R:∀b,A b=J->QQ A e b=J:=λb z=>by
  by_cases y:b=e
  ·lia
  ·rw[zV y];exact z
 have j:=k.env0;have E2:Env0 _ _ _ _ _ _ _ UQ _:=#[j.frames,j.mod,λb o z=>#[(j.bs b o z).1,R b (j.bs b o z).2],j.bsz,j.funs,λb z=>R b (j.frf b z),λb u z=>(j.hok b u (sub b u z)).stay (λ_ _ _ y=>y) (λc y=>by rw[zV (ne c _ y λ_ w=>nomatch w)];exact y) (λc u' t y=>by
  by_cases ce:c=e
  ·rw[ce,W]at y;obtain rfl:=Zj y;exact t.elim
  ·rw[zV ce];exact y),j.bare]
 have N:=M UQ us k.kIn hl;rw[uFa]at N;refine wHa (codeAny_mono (F.run _ _ UQ _ _ us vs _ e oe hdp rfl h1 h5 (if_pos rfl) O E2 N r q) λrr s' P=>?_);cases rr with
 |error ev=>exact P.elim
 |ok fl=>
  cases fl with
  |ret u=>
   let YH v H' os T i hok rv qq:=P;have k1:=i.keep e oe h1 (if_pos rfl) O Sx;have k2:=i.free e oe h1 (if_pos rfl) Sx;have l:∀b u,H' b=S u->upd H' e (xC e C od) b=S u:=λb u z=>by rw[jp (jU z k2)];exact z
   let q hh g d t' os':=s';obtain rfl:os'=UQ.os:=os;refine#[v,_,k.call #[λb o z n M a=>i.keep b o z (R b n) M a,λb o z n M a=>i.slot b o z (R b n) M a,λb o z n a=>?_,λb o z a=>i.there b o z a,λb xs z=>l _ _ (i.tups b xs (by rw[zV (ne b _ z λ_ w=>nomatch w)];exact z)),λb o xs z=>l _ _ (i.frzs b o xs (by rw[zV (ne b _ z λ_ w=>nomatch w)];exact z)),λb pp z=>?_] (λb u z=>?_) T (λb z=>vDa z Sx),rv,qq k2]
   ·rw[jp (λy=>by lia)];exact i.free b o z (R b n) a
   ·let q m y:=i.tbls b pp (by rw[zV (ne b _ z λ_ w=>nomatch w)];exact z);exact#[m,l _ _ y]
   ·by_cases y:b=e
    ·subst y;rw[jz]at z;obtain rfl:=Zj z;exact DD k1 h2 h3 h4 h5
    ·rw[jp y]at z;exact(hok b u z).stay (λ_ _ _ y=>y) (λc y=>l _ _ y) λc u' _ y=>l _ _ y
  |next=>exact P.elim
  |brk=>exact P.elim
  |cont=>exact P.elim
end L2
namespace L2
open PySem PySem.Spec PyProof.Rows PySem.W Builtin Builtin.ObjectAttr
abbrev GV:L Value->Bool
 |.ref _::r=>GV r
 |l=>l==[.type "ValueError",.type "Exception",.type "BaseException",.type "object"]
def AG(b){l}(e:GV l=B):refuseLoop b "__setattr__" l=pure ():=by
 induction l with
 |nil=>rfl
 |cons v r i=>
  cases v<;>try exact Zf e
  ·rw[eq_of_beq (show(Value.type _::r==_)=B from e)];exact PySem.F.store_ValueError.passes _
  ·rw[refuseLoop_ref];exact i e
def fM{l}(e:GV l=B):l.contains (.type "object")=B:=by
 induction l with
 |nil=>exact Zf e
 |cons v r i=>
  cases v<;>try exact Zf e
  ·rw[eq_of_beq (show(Value.type _::r==_)=B from e)];decide
  ·rw[List.contains_cons,i e,Bool.or_true]
section
variable{prog:Program}{w:World}{A:Around}{E:Tz}{R:Result->Shared->Prop}{s:Shared}{K:Frag}{x C:Addr}{ox:Obj}{od:Y Obj}{name:Str}{tk:Tok}{v:Value}
abbrev ZC(K:Frag)(C:Addr):=(clsIn K C).any λa=>GV a.mro
def a7(X:K.In s.heap)(I:InstAt s.heap x ox C od)(F:ZC K C=B)(t:takerIn K C name=S J)
  (h:∀b,wpAny Sr A.in1 (storeInOwnDict (.ref x) (.ref C) (.str name tk) name v b)
   (λj i=>match j with|.done f=>R (.ok f) i|.again n=>n.quiet=B/\codeAny Sr A n R i) (λe i=>R (.error e) i) s):
  codeAny Sr A (.call (.builtin "object.__setattr__") #[[.ref x,.str name tk,v],[]]) R s:=by
 have d:=PySem.F.store_object;let ja l m g:=any_some F;have u:l.mro.isEmpty=G:=by cases q:l.mro with|nil=>rw[q]at g;exact Zf g|cons _ _=>rfl
 have sub:Looks Sr _ (isInstance _ _) _:=I.type.andThen (looks_mroIn X (by unfold mroIn;rw[m,uEa,if_neg (by rw[u];decide),fM g]));refine codeAny_call_builtin d.slot.plain d.entry (@check_slot _ _ _ s "object.__setattr__" "object" "__setattr__" _ _ [] _ d.kind d.split sub (d.args _ _ v) ?_);let ja c o y:=Option.bind_eq_some_iff.mp t;have z:Looks Sr _ (mroOf (.ref C)) _:=(looks_clsIn X m).andThen .now;have p:Looks Sr s.heap (storeTaker? c) J:=by
  cases c with
  |none=>exact .now
  |some a=>
   let ja b r k:=Option.map_eq_some_iff.mp y;refine(looks_takesIn X r).andThen ?_;cases b with
   |false=>exact .now
   |true=>exact Zs k
 rw[osa_eq,refuse_eq];refine wAa (wAa (I.type.here (wAa (z.here ?_))));rw[AG _ g];refine wBa (wAa (I.type.here (wAa ((looks_findIn X o).here (wAa (p.here ?_))))));exact h _
def Cu(X:K.In s.heap)(l:s.heap.get? x=S {cls:=.ref C,data:=.fields T})
  (m:findIn K (.ref C) "__setattr__" = S Sf) (W:ZC K C=B) (O:takerIn K C name=S J) (i:hasDictIn K C=B)
  (h:∀f M,f.get? x=S {cls:=.ref C,dict:=S s.heap.objs.size,data:=.fields T}->f.Ns1 s.heap.objs.size (λy=>if y=name then S v else J)->(∀b o,b≠x->s.heap.get? b=S o->f.get? b=S o)->Q () {s with heap:=f,toks:=M}):
  wpAny Sr A (setAttr (.ref x) name v) Q E s:=by
 have a:InstAt _ x _ C J:=#[l,rfl,rfl,trivial]
 refine PySem.W.set_plain X a m (a7 X a W O λb=>?_);let ja cd UQ H:=any_some i;refine wAa (wBa (wAa (wAa (wpAny_loadPart l (wAa (Looks.here (looks_clsIn X UQ) ?_))))));rw[H];let q i g d t os:=s;have c:(i.push {cls:=.type "dict",data:=.dict #v[]}).get? x=S _:=wIa _ l;have k:=wTa (wLa l);have z:((i.push {cls:=.type "dict",data:=.dict #v[]}).update x λo=>{cls:=o.cls,dict:=S i.objs.size,data:=o.data,slots:=o.slots}).get? _
     = S _:=
    (Heap.get?_update_ne _ _ _ _ k.symm).trans (Heap.get?_push_at rfl rfl)
 have r:((i.push _).update x λo=>{cls:=o.cls,dict:=S _,data:=o.data,slots:=o.slots}).Ns _ (λ_=>J):=
    #[_,_,_,z,rfl,λe N=>vDa N Sx,λ_=>rfl]
 refine wAa (wpAny_alloc' ?_);refine wAa (wpAny_update' c ?_);refine wBa ?_;refine wAa (wBa (wAa (wpAny_nsSet1 (Heap.Ns1.of_empty r) λf j m=>?_)));let JL Z I P p F u:=j.count (Within.cons _ v Within.nil);refine wAa (wpAny_lookBehind p (by rw[F];exact pastItsLine_dict (wSa u Sx)) ?_);refine wBa (h f _ ((m.2 x k).trans (vUa _ c rfl)) ?_ λb o n q=>?_)
 ·exact j
 ·exact(m.2 b (wTa (wLa q))).trans ((Heap.get?_update_ne _ _ _ _ n).trans (wIa _ q))
def Cv{u}(X:K.In s.heap)(r:s.heap.get? x=S {cls:=.ref C,dict:=S d,data:=.fields Z})(m:s.heap.Ns1 d t)(H:x≠d)
  (P:findIn K (.ref C) "__setattr__" = S Sf) (UQ:ZC K C=B) (M:takerIn K C name=S J) (T:hasDictIn K C=B) (z:PySem.Within t u) (N:u.length<=sizeLine)
  (h:∀g I,g.Ns1 d (λy=>if y=name then S v else t y)->(∀b o,b≠d->s.heap.get? b=S o->g.get? b=S o)->Q () {s with heap:=g,toks:=I}):
  wpAny Sr A (setAttr (.ref x) name v) Q E s:=by
 obtain⟨p,c⟩:∃o,s.heap.get? d=S o:=let⟨o,_,_,e,_⟩:=m;#[o,e]
 have a:InstAt _ x _ C (S p):=#[r,rfl,rfl,c]
 refine PySem.W.set_plain X a P (a7 X a UQ M λb=>?_);let ja cd W k:=any_some T;refine wAa (wBa (wAa (wAa (wpAny_loadPart r (wAa (Looks.here (looks_clsIn X W) ?_))))));rw[k];refine wBa (wAa (wBa (wAa ?_)));refine wpAny_nsSet1 m λg f l=>?_;let JL p F O c i j:=f.count (PySem.Within.cons _ v z);refine wAa (wpAny_lookBehind c (by rw[i];exact pastItsLine_dict (wSa j (by grind))) ?_);exact wBa (h g _ f λb o n q=>(l.2 b n).trans q)
end
abbrev xE(C e:Addr)(a:Y Addr):HO:=.ext λh=>∃t,h.get? e=S {cls:=.ref C,dict:=a,data:=.fields #v[.ref t,.none,.none,.none,.bool G,.none]}
def eG(h:a.get? e=S {cls:=.ref C,dict:=b,data:=.fields #v[.ref t,.none,.none,.none,.bool G,.none]}):JB P w H a e (xE C e b):=#[#[t,h],#[_,h],λ_ _ ⟨t,q⟩ k=>#[t,k _ q]]
structure ExS (K C f) where
 sa:findIn K (.ref C) "__setattr__" = S Sf
 eo:ZC K C=B
 tk:takerIn K C f=S J
 hd:hasDictIn K C=B
def Inv.exc0{A}(I:Inv X g M H s)(e:H a=S (xE C a J))(p:h.get? a=S {cls:=.ref C,dict:=S s.heap.objs.size,data:=.fields #v[.ref t,.none,.none,.none,.bool G,.none]})(u:∀F,JB X.prog X.w F h s.heap.objs.size (xW s.heap.objs.size l))
  (k:∀b o,b≠a->s.heap.get? b=S o->h.get? b=S o):Inv X g M (upd (upd H s.heap.objs.size (xW s.heap.objs.size l)) a (xE C a (S s.heap.objs.size))) {s with heap:=h,toks:=A}:=by
 have O:=I.fresh;have i:∀b,H b=J->b≠a:=λb n z=>by lia
 have x:∀b o,H b=S o->b≠s.heap.objs.size:=λb o q z=>by lia
 have d:∀b o,H b=S o->b≠a->upd (upd H _ (xW s.heap.objs.size l)) a (xE C a (S s.heap.objs.size)) b=S o:=λb o q n=>by rw[jp n,jp (x b o q)];exact q
 have f:∀b o,H b=S o->(∀w,o≠.ext w)->b≠a:=λb o q n z=>by rw[z,e]at q;exact n _ (vFa q).symm
 refine I.un #[λb o q n _ _=>k b o (i b n) q,λb o q n _ _=>#[_,k b o (i b n) q],λb o q n _=>?_,λb o q _=>?_,λb m q=>d b _ q (f b _ q λ_ z=>by cases z),λb o m q=>d b _ q (f b _ q λ_ z=>by cases z),λb N q=>#[#v[],by rw[d b _ q (f b _ q λ_ z=>by cases z)];simp]] λb o q=>?_
 ·rw[jp (i b n),jp (Nat.ne_of_lt (Heap.lt_size q))];exact n
 ·by_cases z:b=a
  ·rw[z];exact#[_,p]
  ·exact#[o,k b o z q]
 ·by_cases z:b=a
  ·subst z;rw[jz]at q;obtain rfl:=Zj q;exact eG p
  ·rw[jp z]at q;by_cases y:b=s.heap.objs.size
   ·subst y;rw[jz]at q;obtain rfl:=Zj q;exact u _
   ·rw[jp y]at q;refine(I.hok b o q).stay (λc v j r=>k c v ?_ r) (λc r=>d c _ r (f c _ r λ_ z=>by cases z)) λc m t r=>d c _ r (f c _ r λ_ z=>by subst z;exact t);rcases j with rfl|j
    ·exact z
    ·exact f c _ j λ_ z=>by cases z
def AH(I:Inv X b k H s)(e:H a=S (xE C a J))(c:ExS X.K C f)(n:jI v u)
  (h:∀d g,H d=J->d≠a->Inv X b k (upd (upd H d (xW d [(f,v)])) a (xE C a (S d))) g->Q () g):wpAny Sz A (setAttr (.ref a) f u) Q E s:=by
 obtain⟨⟨t,o⟩,_⟩:=I.hok a _ e;refine Cu I.kIn o c.sa c.eo c.tk c.hd λw r j m l=>h _ _ I.fresh (λz=>?_) (I.exc0 e j (λ_=>DC m (PySem.Within.cons f u PySem.Within.nil) λp i=>?_) l)
 ·have:=I.fresh;rw[z,e]at this;exact Zs this
 ·rw[List.mem_singleton.mp i];exact#[u,if_pos rfl,n]
def AI(I:Inv X g M H s)(e:H a=S (xE C a (S d)))(l:H d=S (xW d j))(k:a≠d)(c:ExS X.K C f)(W:j.length<1000)(N:∀p∈j,p.1≠f)(O:jI v u)
  (h:∀x,Inv X g M (upd H d (xW d ((f,v)::j))) x->Q () x):wpAny Sz A (setAttr (.ref a) f u) Q E s:=by
 obtain⟨⟨t,y⟩,_⟩:=I.hok a _ e;obtain⟨⟨Z,P,r,UQ⟩,_⟩:=I.hok d _ l;refine Cv I.kIn y P k c.sa c.eo c.tk c.hd r (by rw[sizeLine_eq,vYa];omega) λh' t' m R=>h _ ?_;refine I.write (by rw[l];exact True.intro) (.inl rfl) (λb o n q=>R b o n q) ?_ (DC m (PySem.Within.cons f u r) λp i=>?_)
 ·let vG o _ _ z _:=m;exact#[o,z]
 ·rcases uTa i with rfl|i
  ·exact#[u,if_pos rfl,O]
  ·let ja w F T:=UQ p i;exact#[w,(if_neg (N p i)).trans F,T]
abbrev sX(K:Frag)(i g:TE)(f:Str):TS:=λD d H=>g d H λy h=>i d h λx c=>∃a C,x=.ref a/\ExS K C f/\
 ((c a=S (xE C a J)/\∀b,c b=J->b≠a->D.nx d (upd (upd c b (xW b [(f,y)])) a (xE C a (S b))))\/∃b e,c a=S (xE C a (S b))/\c b=S (xW b e)/\a≠b/\e.length<1000/\(∀p∈e,p.1≠f)/\D.nx d (upd c b (xW b ((f,y)::e))))
def Cw(A:PE X o UQ)(R:PE X b Q)(hs:swapsWith b (S (.Attribute o f d)) j.line X.env=pure G):PS X (.Assign [.Attribute o f d] b j) (sX X.K UQ Q f):=by
 intro r s g H D I h;refine plainObj_wpAny_Assign_Attribute (jM (R _ s g H _ I h) λu w k=>?_) hs;let jc y M W p q:=k;refine jM (A _ w g M _ W q) λO s2 k=>?_;let jc x H2 m F u0:=k;let jc a C rfl c t:=u0;obtain rfl:O=Value.ref a:=F;rcases t with⟨e,q⟩|⟨l,fv,e,T,n,z,Z,q⟩
 ·exact AH m e c p λl N n1 P i=>#[g,_,i,q l n1 P]
 ·exact AI m e T n c z Z p λN i=>#[g,_,i,q]
end L2
namespace L2
open PySem PySem.Spec PyProof.Rows
noncomputable abbrev AJ(l:L Value):Obj:={cls:=.type "tuple",data:=.seq l.toArray}
noncomputable abbrev Cy(C t:Addr):Obj:={cls:=.ref C,data:=.fields #v[.ref t,.none,.none,.none,.bool G,.none]}
section
variable{prog:Program}{w:World}{A:Around}{E:Tz}{h:Heap}{g:Array GenState}{d:Drawn}{t:Nat}{os:OsState}
variable{nm q:Str}{C N fi:Addr}{bs bm bmB:L Value}{hdct:Bool}{sn:L Str}{sub:L Value}{ab:Bool}{col:Y Bool}{dd:Y Addr}{k0 k1 k2 k3 k5:Y Value}{UQ newId initId:String}
theorem fN(F:ExcBaseFacts UQ newId initId bmB)(T:OwnTail h bmB bm){p:Tj}{l:L Value}{Q:Fin->Shared->Prop}
  (c:h.get? C=S (excClassObj nm q C N bs bm hdct sn sub ab col dd k0 k1 k2 k3 k5 newId)) (u:h.Ns N p) (i:p "__init__" = S (.ref fi)) (H:l.length<=sizeLine)
  (x:∀n:Heap,(∀b o,h.get? b=S o->n.get? b=S o)->∀a,PySem.W.Looks Sr n (bindSpecial (.ref fi) a) (.ref fi,[a]))
  (y:codeAny Sr A (.call (.ref fi) #[.ref (h.objs.size+1)::l,[]]) (λr j=>match r with|.ok (.ret .none)=>Q (.done (.ret (.ref (h.objs.size+1)))) j|.ok _=>False|.error k=>E k j) #[(h.push (AJ l)).push (Cy C h.objs.size),g,d,t,os]):
  wpAny Sr A (Builtin.«type.__call__» #[.ref C::l,[]]) Q E #[h,g,d,t,os]:=by
 have f:∀b o,h.get? b=S o->((h.push (AJ l)).push (Cy C h.objs.size)).get? b=S o:=λb o e=>wIa _ (wIa _ e)
 repeat(first|with_reducible refine wpAny_loadPart_at c ?_|with_reducible refine wpAny_madeBy_exc c ?_|wp_step)
 refine codeAny_call_builtin_code (Code.quiet_builtin _ F.quiet) (wpAny_check_new_subT F T c (codeAny_exc_new_subT F T c ?_ H));show wpAny _ _ _ _ _ _;have m:=f _ _ c;have O:=u.keeps f;have s:=T.keeps f;have M:(Value.ref C::bm).contains (.ref C)=B:=by simp
 unfold isInstance
 repeat(first|with_reducible refine wpAny_loadPart_at P ?_|(with_reducible refine wpAny_isSubtype_exc m ?_;rw[M])|wp_step)
 refine wpAny_typeLookup_tail m O s F.mroIs F.init.lookup ?_;rw[i];refine wDa (wAa ((x _ f _).here ?_));refine wAa (wHa (codeAny_mono y λr j z=>?_));cases r with
 |error k=>exact z
 |ok I=>
  cases I with
  |ret v=>
   cases v with
   |none=>exact wBa (wBa z)
   |_=>exact z.elim
  |_=>exact z.elim
theorem Bj(F:ExcBaseFacts UQ newId initId bmB)(T:OwnTail h bmB bm){i:Tj}{l:L Value}{Q}
  (c:h.get? C=S (excClassObj nm q C N bs bm hdct sn sub ab col dd k0 k1 k2 k3 k5 newId)) (n:h.Ns N i) (e:i "__init__" = S (.ref fi)) (k:l.length<=sizeLine)
  (m:∀h':Heap,(∀b o,h.get? b=S o->h'.get? b=S o)->∀a,PySem.W.Looks Sr h' (bindSpecial (.ref fi) a) (.ref fi,[a]))
  (s:codeAny Sr (A.under (.builtin "type.__call__" #[.ref C::l,[]])) (.call (.ref fi) #[.ref (h.objs.size+1)::l,[]]) (λr f=>match r with|.ok (.ret .none)=>Q (.ref (h.objs.size+1)) f|.ok _=>False|.error j=>E j f) #[(h.push (AJ l)).push (Cy C h.objs.size),g,d,t,os]):
  wpAny Sr A (call (.ref C) l) Q E #[h,g,d,t,os]:=by
 have u:=tc_lookup;have y:=tc_bind (.ref C);have x:(#[h,g,d,t,os]:Shared).TypeIs (.ref C) "type":= #[_,c,rfl]
 refine wHa (codeAny_of_tree ?_)
 repeat(any_goals(first|assumption|with_reducible refine wpAny_loadPart_at c ?_|wp_step))
 refine#[rfl,?_];refine codeAny_call_builtin_at (Code.quiet_builtin _ (by decide +kernel)) entry_typeCall (wpAny_check_type_call_sub c (fN F T c n e k m ?_));refine codeAny_mono s λr f z=>?_;cases r with
 |error j=>exact z
 |ok p=>
  cases p with
  |ret v=>cases v<;>exact z
  |_=>exact z
end
def AL(H:i.contains (.type "BaseException")=B)(o:A.handled=J)
  (h:wpAny M A x (λv a=>∃e c,v=.ref e/\a.heap.get? C=S (excClassObj nm q C N bs i hdct sn sub ab col dd k0 k1 k2 k3 k5 newId)/\a.heap.get? e=S c/\c.cls=.ref C/\(∃t,c.data=.fields #v[.ref t,.none,.none,.none,.bool G,.none])/\E (.ref e) a) E s):
  wpAny M A (raiseStmt j (S x) J) Q E s:=by
 have r:(Value.ref C::i).contains (.type "BaseException")=B:=by simp_all
 refine wAa (wCa h (λv a b=>?_) λ_ _ x=>x);let YH e c rfl f n k v0 u:=b;let q F l:=v0;let q I g d w os:=a;let q y z m p:=c;subst k l
 repeat(first|with_reducible refine wpAny_loadPart_at n ?_|with_reducible refine wpAny_loadPart_at f ?_|(with_reducible refine wpAny_isSubtype_exc f ?_;rw[r])|wp_step)
 exact wpAny_raiseNew_none o u
set_option tactic.hygienic true in
theorem fP{K}{h:Heap}(X:K.In h)(a:h.Ns N m)(e:PySem.W.nsIn K N n=S (S v)):m n=S v:=by
 let jL o k r g j _ i:=a;unfold PySem.W.nsIn at e;split at e
 ·rename_i c d f l p q;have z:=X _ _ q;rw[g]at z;obtain rfl:=Zj z;cases j;split at e
  ·rename_i s b;cases e;rw[<-i];unfold nsFind findBy;rw[<-Array.find?_toList,b];rfl
  ·simp_all
 ·exact Zn e
abbrev ub(K:uXa)(C:Addr)(b:L Value)(j:String)(f:Addr):=Cp K C b j (S (S (.ref f)))
def Cz{K h}(X:K.In h)(q:ub K C g j x=B):
  ∃t N nm q bs hdct sn sub ab col dd k0 k1 k2 k3 k5 k,h.get? C=S (excClassObj nm q C N bs t hdct sn sub ab col dd k0 k1 k2 k3 k5 j)/\h.Ns N k/\k "__init__" = S (.ref x)/\OwnTail h g t:=by
 let JC F t I v s H P u0:=a6 q;let JC R u g z p o m v0:=u0;let JK i n c k M Q:=v0;have a:h.Ns t _:=.of_isNs (PySem.W.isNs_of_in X k);exact#[F,t,I,v,s,H,P,R,u,g,z,p,o,m,i,n,_,X _ _ c,a,fP X a M,PySem.W.tail_of_in X Q]
abbrev Bl(C:Addr)(c:L Str):Sp:=λd H Q _=>∃e a,d=.ref e::a/\a.length=c.length/\H e=S (xE C e J)/\∀b,H b=J->b≠e->Q .non (upd (upd H b (xW b (c.zip a).reverse)) e (xE C e (S b)))
section
variable{P:Program}{w:World}{K:uXa}{mg:Tj}{base:Heap}{x qual:Str}{st:Stmt}{f C:Addr}{fd:FuncData}{k:Nat}{a0 a1 a2 f1 f2:Str}{p1 p2 p3 p4 q1 q2 q3 q4:Pos}
def MM(F:Fun K x qual st f fd)(a:FnScope [a0,a1,a2] [a0,a1,a2] Sb)
  (N:defBody st=[.Assign [.Attribute (.Name a0 p1) f1 p2] (.Name a1 p3) p4,.Assign [.Attribute (.Name a0 q1) f2 q2] (.Name a2 q3) q4]) (I:ExS K C f1) (c2:ExS K C f2) (hf:f1≠f2) (n:GE Sb a0) (R:GE Sb a1) (v:GE Sb a2)
  (r:(a0==("__debug__"))=G) (O:(a1==("__debug__"))=G) (T:(a2==("__debug__"))=G) (o:(a0==("__classdict__"))=G) (t:(a1==("__classdict__"))=G) (M:(a2==("__classdict__"))=G):
  FnOk P w K mg base Y9 (k+1) f fd [a0,a1,a2] (Bl C [f1,f2]):=by
 refine F.ok a (λUQ H Q E j=>?_) λu A m s H UQ Q E hr j=>?_
 ·let jc e h z l _:=j;rw[z,vXa,l];rfl
 ·let JK e h z l X q:=j;obtain⟨d,g,rfl⟩:∃d g,h=[d,g]:=by
   rcases h with _|⟨_,_|⟨_,_|⟨_,_⟩⟩⟩<;>first|exact#[_,_,rfl]|cases l
  subst z;rw[N];refine#[_,VO (Cw (VN (i:=0) rfl n r o) (VN (i:=1) rfl R O t) rfl) (Uy (Cw (VN (i:=0) rfl n r o) (VN (i:=2) rfl v T M) rfl)),?_];refine#[d,rfl,.ref e,rfl,e,C,rfl,I,.inl #[X,λc W i=>?_]];refine#[g,rfl,.ref e,rfl,e,C,rfl,c2,.inr #[c,_,jz,by rw[jp i,jz],i.symm,(by show 1<1000;decide),λp hp=>by simp_all,?_]];have Z:upd (upd (upd H c (xW c [(f1,d)])) e (xE C e (S c))) c (xW c [(f2,g),(f1,d)])=upd (upd H c (xW c [(f2,g),(f1,d)])) e (xE C e (S c)):=by
   funext b;by_cases z:b=c
   ·subst z;rw[jz,jp i,jz]
   ·by_cases y:b=e
    ·subst y;rw[jp z,jz,jz]
    ·rw[jp z,jp y,jp z,jp y,jp z]
  rw[Z];exact q c W i
def MN(F:Fun K x qual st f fd)(a:FnScope [a0,a1] [a0,a1] Sb)
  (i:defBody st=[.Assign [.Attribute (.Name a0 p1) f1 p2] (.Name a1 p3) p4]) (r:ExS K C f1) (u:GE Sb a0) (j:GE Sb a1)
  (p:(a0==("__debug__"))=G) (t:(a1==("__debug__"))=G) (h:(a0==("__classdict__"))=G) (o:(a1==("__classdict__"))=G):
  FnOk P w K mg base Y9 (k+1) f fd [a0,a1] (Bl C [f1]):=by
 refine F.ok a (λv H Q E d=>?_) λI A g s H v Q E N d=>?_
 ·let jc e b z l _:=d;rw[z,vXa,l];rfl
 ·let JK e b z l M q:=d;obtain⟨c,rfl⟩:∃c,b=[c]:=by
   rcases b with _|⟨_,_|⟨_,_⟩⟩<;>first|exact#[_,rfl]|cases l
  subst z;rw[i];refine#[_,Uy (Cw (VN (i:=0) rfl u p h) (VN (i:=1) rfl j t o) rfl),?_];exact#[c,rfl,.ref e,rfl,e,C,rfl,r,.inl #[M,λn y m=>q n y m]]
end
section
variable{P:Program}{w:World}{K:uXa}{mg:Tj}{base:Heap}{N:L Str}{qual:Str}{scope:Scope}{f:Addr}{cd:Value}{A:Around}{outer:L Env}{s0:Shared}{H0:Hp}{E:XK}
theorem Bm{x:Str}{np i pos:Pos}{a:Expr}{O}{C fi:Addr}{Q}{c newId l:String}{fd:FuncData}{k:Nat}{ps:L Str}{m}{ta:TA}
  (ens:PySem.W.nsIn K mainGlobals x=S (S (.ref C))) (exi:ub K C Q newId fi=B) (FB:ExcBaseFacts c newId l Q) (kp:PySem.W.keepIn K (.ref C)=B) (ft:PySem.W.typeIn K (.ref fi)=S (.type "function"))
  (FI:FnOk P w K mg base Y9 k fi fd ps (Bl C m)) (hz:m.length<=1000) (hps:ps.length=m.length+1) (hb:JP K fd ps []) (hr:Room (k+1) (A.deeper (envOfC qual scope s0.heap.objs.size f cd)))
  (hg:Gl Sc x) (hd:(x==("__debug__" : Str))=G)
  (ha:PA Sc (a::O) ta)
  (he:starEach (a::O) (envOfC qual scope s0.heap.objs.size f cd)=(G,eval a (envOfC qual scope s0.heap.objs.size f cd))::starEach O (envOfC qual scope s0.heap.objs.size f cd)) (hpl:(backTo i (starEach O (envOfC qual scope s0.heap.objs.size f cd))).any (·.1)=G):
  PS Sc (.Raise (S (.Call (.Name x np) (a::O) [] i)) J pos) (λ_ U H=>ta U H λo F=>o.length=m.length/\∀e,F e=J->E (.ref C) (S e) (upd F e (xW e (m.zip o).reverse))):=by
 intro W s U H D I h;have hh:=I.ok.hd rfl;let JC bm N' nm q bs R sn u0:=Cz I.mod.kin exi;let JC sub ab col dd k0 k1 k2 v0:=u0;let jL k3 k5 mN hC hn hni T:=v0;have hm:=PySem.W.mg_of I.mod.kin I.mod.glob ens;refine wAa (vOa (AL (nm:=nm) (q:=q) (C:=C) (N:=N') (bs:=bs) (hdct:=R) (sn:=sn) (sub:=sub) (ab:=ab) (col:=col) (dd:=dd) (k0:=k0) (k1:=k1) (k2:=k2) (k3:=k3) (k5:=k5) (newId:=newId) (T.hasType FB.hasBase) hh ?_));refine wAa (wCa ?_ (λv s3 h3=>wAa (vOa (wBa h3))) λ_ _ z=>z);refine wpAny_Call_Name_kw (ZB I hg hm ?_ hd);refine PySem.W.callWith_K I.ok.mod.kin kp (wCa (ha i W s U H _ I h) (λp g ⟨o,F,n,r,q1,qE⟩=>#[n.kIn,?_]) λ_ _ z=>z) he hpl;have hl:p.length=m.length:=by rw[<-r.length];exact q1
 have I2a:=n.kept (h':=g.heap.push (AJ p)) (t':=g.toks) λb u q=>wIa _ q;have I2:=I2a.laid (o:=xE C _ J) (t':=g.toks) (λb u q=>wIa _ q) (Nat.le_of_eq (Heap.size_push _ _)) (eG (t:=g.heap.objs.size) (by heap_get));have f1':=n.hok.fresh (vMa _);have r2:jB (V.ref (g.heap.objs.size+1)::o) _:=.cons rfl r;have M:=hb _ (Value.ref (g.heap.objs.size+1)::p) I2.kIn Sa;rw[uFa]at M;have hsp:Bl C m _ _ (λv H'=>v=.non/\∃e,F e=J/\e≠g.heap.objs.size+1/\H'=upd (upd _ e (xW e _)) _ (xE C _ (S e))) E:=
  #[_,o,rfl,q1,jz,λe Z X=>#[rfl,e,by rw[jp X]at Z;exact Z,X,rfl]]
 refine Bj FB (T.keeps n.bk) (n.bk _ _ hC) (hn.keeps n.bk) hni (by show p.length<=sizeLine;rw[hl,sizeLine_eq];omega) (λh' kk UQ=>PySem.W.bind_fn (n.kIn.keeps kk) UQ ft) (codeAny_mono (FI.run _ _ _ _ _ _ _ _ E (hr.make C p []) (I2.env0.make C p []) M r2 hsp) λr s' j=>?_);cases r with
 |error ev=>exact False.elim j
 |ok fl=>
  cases fl with
  |ret v=>
   let JK v' H' I3 rv rfl x0:=I2.after j;let jw e Z X rfl:=x0;obtain rfl:v=Value.none:=rv;have ee:upd (upd (upd F (g.heap.objs.size+1) (xE C (g.heap.objs.size+1) J)) e (xW e (m.zip o).reverse)) _ _ (g.heap.objs.size+1)=S (xE C (g.heap.objs.size+1) (S e)):=jz;obtain⟨⟨t,hx⟩,_⟩:=I3.hok _ _ ee;have h1:upd F e (xW e (m.zip o).reverse) (g.heap.objs.size+1)=J:=by rw[jp X.symm];exact f1'
   refine#[_,_,rfl,I3.bk _ _ hC,hx,rfl,#[t,rfl],X_ (t:=t) I3 hx rfl rfl (Heap.get?_none_of_le (Nat.le_succ_of_le n.sz)) h1 (λb=>?_) (λd z=>z) (qE e Z)];by_cases y:b=g.heap.objs.size+1
   ·subst y;exact .inr #[h1,_,ee]
   ·by_cases z:b=e
    ·subst z;exact .inl (by rw[jz,jp y,jz])
    ·exact .inl (by rw[jp z,jp y,jp z,jp y])
  |next=>exact False.elim j
  |brk=>exact False.elim j
  |cont=>exact False.elim j
end
end L2
set_option maxHeartbeats 200000
namespace L2
open PySem PySem.Spec PyProof.Rows PySem.W Builtin
def CA{l}(e:GV l=B):l.contains (.type "BaseException")=B:=by
 induction l with
 |nil=>exact Zf e
 |cons v r i=>
  cases v<;>try exact Zf e
  ·rw[eq_of_beq (show(Value.type _::r==_)=B from e)];decide
  ·rw[List.contains_cons,i e,Bool.or_true]
def fQ:builtinKind "BaseException.__getattribute__" = S .slot:=by decide +kernel
def CB:splitId "BaseException.__getattribute__" = S ("BaseException","__getattribute__"):=by decide +kernel
def CD:plainId "BaseException.__getattribute__" = B:=by decide +kernel
section
variable{prog:Program}{w:World}{A:Around}{E:Tz}{s:Shared}{K:Frag}{x C:Addr}{ox:Obj}{od:Y Obj}{name:Str}{v:Value}{expr:Bool}{Q:Tz}
def fT(X:K.In s.heap)(I:InstAt s.heap x ox C od)(e:findIn K (.ref C) "__getattribute__" = S (S (.builtin "BaseException.__getattribute__")))(c:findIn K (.ref C) "__getattr__" = S J)(p:ZC K C=B)
  (r:findObj K C od name=S (.value v)) (l:handedIn v=B) (h:Q v {s with toks:=s.toks+1}):wpAny Sr A (getAttr (.ref x) name expr) Q E s:=by
 let q a g d t os:=s;have i:=I.type (M:=model prog w);have j:=looks_findIn (M:=model prog w) X e;have L2:=looks_findIn (M:=model prog w) X c;have o:=looks_find (M:=model prog w) X I r;let ja f m b:=any_some p;have n:f.mro.isEmpty=G:=by cases q:f.mro with|nil=>rw[q]at b;exact Zf b|cons _ _=>rfl
 have sub:Looks Sr a (isInstance _ _) B:=I.type.andThen (looks_mroIn X (by unfold mroIn;rw[m,uEa,if_neg (by rw[n];decide),CA b]));refine wAa (wpAny_mkText (wDa (wAa (i.at (wAa (j.at ?_))))));refine wAa ((show Looks _ a _ J from L2).at ?_);refine wAa (wpAny_attempt (wDa ?_));have k:(expr&&onTheHeap (Value.builtin "BaseException.__getattribute__"))=G:=by cases expr<;>rfl
 unfold callGetattribute;rw[k];unfold boundAndCalled;rw[PySem.F.attr_ValueError.ga.bind _];refine wAa (wBa ?_);show wpAny _ _ (call _ [.ref x,.str name t]) _ _ _;refine wHa (codeAny_call_builtin CD F.entry_bexc_ga (@check_slot _ _ _ _ "BaseException.__getattribute__" "BaseException" "__getattribute__" _ _ [] _ fQ CB sub (F.args_bexc_ga _ _) ?_));unfold Builtin.«object.__getattribute__»;have u:slotArgs "__getattribute__" 1 {pos:=[Value.ref x,Value.str name t]}=pure _:=rfl;have y:ObjectAttr.attrName (Value.str name t)=pure name:=rfl;refine wAa (wBa ?_);dsimp only;refine wAa (wBa (wAa (i.at (wAa (o.at ?_)))));refine wBa ?_;show wpAny _ _ _ _ _ _;rw[handedOut_of l];exact wBa h
end
end L2
set_option maxHeartbeats 400000
namespace L2
open PySem PySem.Spec PyProof.Rows PySem.W
structure ExG (K C f) where
 ga:findIn K (.ref C) "__getattribute__" = S (S (.builtin "BaseException.__getattribute__"))
 gn:findIn K (.ref C) "__getattr__" = S J
 eo:ZC K C=B
 hd:hasDictIn K C=B
 nf:findIn K (.ref C) f=S J
abbrev O9(K:Frag)(g:TE)(f:Str):TE:=λd H Q=>g d H λx b=>∃e C a c v,x=.ref e/\b e=S (xC e C (S a))/\b a=S (xW a c)/\(f,v)∈c/\ExG K C f/\Q v b
def IO(W:PE X o t)(M:attributeBase o f X.env (eval o X.env)=eval o X.env):PE X (.Attribute o f z) (O9 X.K t f):=by
 intro b s A H Q I h;refine zc M (jM (W b s A H _ I h) λu s1 T=>?_);let jc x p d F u0:=T;let Jw e C l fv v R n hx hf v0:=u0;let q c q:=v0;subst R;obtain rfl:u=Value.ref e:=F;obtain⟨⟨Z,i,w,g,k,_⟩,_⟩:=d.hok e _ n
 replace k:=k l rfl
 obtain⟨⟨mA,UQ,hw,j⟩,_⟩:=d.hok l _ hx;let ja uv j m:=j _ hf;let ja r ho O:=WL UQ;let q oc y N P:=Z;subst w k;have a:InstAt s1.heap e _ C (S r):=#[i,rfl,g,ho]
 exact fT d.kIn a c.ga c.gn c.eo (findObj_own c.hd c.nf rfl (by rw[O,j])) (WM m) #[v,p,d.tok _,m,q]
end L2
namespace DS
open PySem PySem.Spec PyProof.Rows L2
abbrev PX(K:Fr)(E:XK)(p:Xp)(H:Hp):Prop:=match p.2 with
 |[]=>E (.ref (jV K p.1)) J H
 |_::_=>∀a,H a=J->E (.ref (jV K p.1)) (S a) (upd H a (xW a p.2))
inductive Rx where
 |ok (d:D)|xc (p:Xp)
noncomputable abbrev DX:=jD->Y Rx
abbrev IP(K:Fr)(E:XK)(H:Hp)(O:L Addr)(Q:VK):Rx->Prop
 |.ok d=>∀v a,jf H a->J2 K (ji a O) d v->Q v a
 |.xc p=>∀a,jf H a->PX K E p a
abbrev tX(K:Fr)(E:XK)(e:DX):TE:=λd H Q=>∃c b a O r,Rel K c b a d H O/\e a=S r/\IP K E H O Q r
abbrev WY(K:Fr)(d:L Bool)(F:L D->Y Rx):Sp:=λc H Q E=>∃O b r,(∀a∈O,H a≠J)/\yJ K O H d b c/\F b=S r/\IP K E H O Q r
abbrev Bo:Rs->Y Rx
 |.rt d=>S (.ok d)
 |.rf o=>S (.ok o.toD)
 |.nx _=>S (.ok .non)
 |.xc p _=>S (.xc p)
 |_=>J
@[simp] theorem PN(d):Bo (.rt d)=S (.ok d):=rfl
@[simp] theorem PP(o):Bo (.rf o)=S (.ok o.toD):=rfl
@[simp] theorem PQ(d):Bo (.nx d)=S (.ok .non):=rfl
@[simp] theorem PR(p a):Bo (.xc p a)=S (.xc p):=rfl
@[simp]abbrev uc(c:L Bool)(n:Nat)(a:DS)(b:L D):Y Rx:=(a (Zv c b n)).bind Bo
@[simp]abbrev gv(F:L D->Y Rx)(l a):=(zh l a).bind F
@[simp]abbrev Z0(b:DX)(k:D->DS)(a):=(b a).bind λr=>match r with
 |.ok d=>k d a
 |.xc p=>S (.xc p a)
section
variable{P:Program}{w:World}{K:Fr}{mg:Tj}{base:Heap}{x qual:Str}{st:Stmt}{f:Addr}{fd:FuncData}{N ps:L Str}{k n:Nat}{ks:L Bool}{body:DS}{F:L D->Y Rx}
def MO(Fu:Fun K x qual st f fd)(b:FnScope N ps Sb)(hk:ks.length=ps.length)(hn:N.length-ps.length=n)
  (hb:∀(g A c s H E),Room k (A.deeper (envOfC qual Sb s.heap.objs.size f g))->Jx (yl (yD P w) P w K mg base N qual Sb f g A c s H E) (defBody st) (tS K (PX K E) body)):
  FnOk P w K mg base (yD P w) (k+1) f fd ps (WY K ks (uc ks n body)):=by
 let JC oc od kV doc pm an g u0:=Fu.ex;let jc ct Z rfl lk I:=u0;refine An lk I b (λT H Q E h=>?_) λA c s H T Q E hr h=>?_
 ·let JL O ds d _ m _:=h;have:=m.len
  lia
 ·let jL O ds r0 UQ m e q:=h;refine#[_,hb g A c s H E hr,?_];let ja r e1 i:=jd e;have C:N.length-T.length=n:=by have:=m.len;lia
  unfold L2.zR;rw[C];refine#[H,_,_,O,r,Wg m UQ,e1,?_];cases r with
  |rt d'=>obtain rfl:=Zj i;exact λv j s r=>q v j s r
  |rf o=>
   obtain rfl:=Zj i;exact λl j s C W=>q _ j s ((W.same (λ_ z=>z) (yf λa h=>wMa _ h)).rep λu z=>by rw[jS (λy=>UQ l y C)];exact z)
  |nx t=>obtain rfl:=Zj i;exact λR j X M _=>q _ j M.keep rfl
  |xc p t=>obtain rfl:=Zj i;exact λR j X M=>q j M.keep
  |rh d t=>exact Zn i
  |bk t=>exact Zn i
  |ct t=>exact Zn i
end
section
variable{X:Cx}{K:Fr}{E:XK}{e:Expr}{es:L Expr}{st:Stmt}{pos:Pos}{dx:DX}{i kk:Nat}{g:DG}
theorem IQ{l}(a:FnOk X.prog X.w X.K X.mg X.base (yD X.prog X.w) k f fd P (WY K y F))(o:Room k X.A)(C:X.mg x=S (.ref f))(UQ:PySem.W.keepIn X.K (.ref f)=B)(A:JP X.K fd P [])
  (N:Yu (yD X.prog X.w) X E) (w:PA X (e::es) (Y1 K l)) (m:l.map (·.1)=y) (hg:Gl X x) (b:Su=G) (he:starEach (e::es) X.env=(G,eval e X.env)::starEach es X.env) (c:(backTo pos (starEach es X.env)).any (·.1)=G):
  PE X (.Call (.Name x p) (e::es) [] pos) (tX K E (gv F l)):=jR (W3 a o hg C UQ A .nil N w b he c) λU H Q W=>by
 let je T Z I O r R z q:=W;subst m;let ja n M t:=jd z;refine#[T,Z,I,O,n,R,M,λvs H1 h u=>?_]
 (try dsimp only)
 rw[uFa];refine#[O,n,r,(R.grow h).al,u,t,?_];cases r with
 |ok d=>exact λv j s r=>q v j (h.trans s) r
 |xc p=>exact λj s=>q j (h.trans s)
def IR(h:PS X st (Y2 (tX K E dx) (yZ i))):PS X st (tS K (PX K E) (Z0 dx λd b=>S (.nx (b.set i (.cl d))))):=Jj h λD n H k=>by
 let je l m b O r R t f:=k;let ja j o c:=jd t;refine#[l,m,b,O,j,R,o,?_];cases j with
 |ok d=>cases c;exact λv a s q=>f _ a O ((R.grow s).set q i) (jt s)
 |xc p=>cases c;exact λa s=>f n a O (R.grow s)
def fU(h:PS X st (gj (tX K E dx))):PS X st (tS K (PX K E) (Z0 dx λ_ b=>S (.nx b))):=Jj h λD n H k=>by
 let je l m b O r R t f:=k;let ja j o c:=jd t;refine#[l,m,b,O,j,R,o,?_];cases j with
 |ok d=>cases c;exact λv a s q=>f _ a O (R.grow s) (jt s)
 |xc p=>cases c;exact λa s=>f n a O (R.grow s)
def IS(h:PE X e (tX K E dx)):PS X (.Return (S e) pos) (tS K (PX K E) (Z0 dx λd _=>S (.rt d))):=Jj (VP h) λD n H o=>by
 let je l k j O r R t f:=o;let ja b m c:=jd t;refine#[l,k,j,O,b,R,m,?_];cases b with
 |ok d=>cases c;exact λv a s q=>f v a (R.keep.trans s) (q.same (yf R.sub))
 |xc p=>cases c;exact λa s=>f n a O (R.grow s)
def IT(h:PS X st (Y2 (tX K E dx) (tG K kk g))):PS X st (tS K (PX K E) (Z0 dx λd b=>(g d b).bind λa=>S (.nx a))):=Jj h λD x H o=>by
 let je l k b O r R z f:=o;let ja n u m:=jd z;refine#[l,k,b,O,n,R,u,?_];cases n with
 |ok d=>
  let ja a w t:=jd m;obtain rfl:=Zj t;exact λv j s q=>#[l,k,b,O,d,a,R.grow s,q,w,λc y _=>f c j O y (jt s)]
 |xc p=>obtain rfl:=Zj m;exact λj s=>f x j O (R.grow s)
abbrev pJ:D->Y V
 |.int i=>S (.int i)
 |.str x=>S (.str x)
 |_=>J
abbrev AM:L D->Y (L V)
 |[]=>S []
 |d::b=>(pJ d).bind λv=>(AM b).bind λa=>S (v::a)
theorem eJ:∀{j a b c},yJ K O H j a b->AM a=S c->b=c
 |[],[],[],_,_,e=>by cases e;rfl
 |k::j,d::a,v::b,_,h,e=>by
  let ja y l e:=jd e;let ja n m e:=jd e;cases e;rw[eJ h.2 m];have f:RB K O H d v:=by
   cases k
   ·exact h.1
   ·exact .inl h.1
  cases d<;>cases l
  ·rw[f.int]
  ·rw[f.str]
 |[],[],_::_,_,h,_=>h.elim
 |[],_::_,_,_,h,_=>h.elim
 |_::_,[],_,_,h,_=>h.elim
 |_::_,_::_,[],_,h,_=>h.elim
@[simp]abbrev GW(c:Str)(a:jD):Y Rs:=S (.xc (c,[]) a)
@[simp]abbrev CF(c:Str)(a:L Str)(l:DA)(d:jD):Y Rs:=(zh l d).bind λf=>(AM f).bind λb=>if b.length=a.length/\a≠[]then S (.xc (c,(a.zip b).reverse) d)else J
def Oa(h:PS X st (λ_ _ H=>E (.ref (jV K c)) J H)):PS X st (tS K (PX K E) (GW c)):=Jj h λD a H b=>by
 let je k l j O r R d f:=b;obtain rfl:=Zj d;exact f a H O R
def MP(h:PS X st (λ_ k H=>Y1 K l k H λm j=>m.length=d.length/\∀dx,j dx=J->E (.ref (jV K c)) (S dx) (upd j dx (xW dx (d.zip m).reverse)))):PS X st (tS K (PX K E) (CF c d l)):=Jj h λD k H y=>by
 let je u z p O r R a f:=y;let ja t v a:=jd a;let ja w A a:=jd a;by_cases b:w.length=d.length/\d≠[]
 ·rw[if_pos b]at a;obtain rfl:=Zj a;refine#[u,z,p,O,t,R,v,λm j s x=>?_];have:=eJ x A;subst this;have n:=f k j O (R.grow s);unfold PX at n;refine#[b.1,?_];split at n
  ·have o:=congrArg List.length Sv;rw[List.length_reverse,List.length_zip,b.1,Nat.min_self]at o;exact vDa (List.length_eq_zero_iff.mp o) b.2
  ·exact n
 ·rw[if_neg b]at a;exact Zn a
end
def Rel.un{K:Fr}{w H r O o t}(R:Rel K w r o t H O)(i v):Rel K w r (o.set i .un) (t.set i v) H O where
 len:=by rw[List.length_set,List.length_set];exact R.len
 lo:=R.lo.up (λj q x e=>GO (by intro _ _ z;cases z) e) (λa _ z=>Ks (by intro _ _ z;cases z) R.len z) (λa h _=>#[h,λu z=>z]) (jf.refl _)
 sub:=R.sub
 fr:=R.fr
 al0:=R.al0
 al:=R.al
 keep:=R.keep
 cl:=λj d e=>by
  rcases jG e with⟨rfl,b,f⟩|⟨c,b⟩
  ·cases b
  ·rw[Jn c];exact R.cl j d b
 bo:=λj d e=>by
  rcases jG e with⟨rfl,b,f⟩|⟨c,b⟩
  ·cases b
  ·rw[Jn c];exact R.bo j d b
 ow:=λj N d e=>by
  rcases jG e with⟨rfl,b,f⟩|⟨c,b⟩
  ·cases b
  ·rw[Jn c];exact R.ow j N d b
 dist:=λj k y M C I l A F s p=>by
  rcases jG A with⟨rfl,b,f⟩|⟨c,g⟩
  ·cases b
  ·rcases jG F with⟨rfl,b,f⟩|⟨n,m⟩
   ·cases b
   ·rw[Jn c]at s;rw[Jn n]at p;exact R.dist j k y M C I l g m s p
section
variable{X:Cx}{K:Fr}{a:Expr}{da:DE}{pos p p2:Pos}{C f:Str}{ex:L Str}
theorem Wj:∀{l:L (Str×b)},l.lookup x=S g->(x,g)∈l
 |[],h=>Zn h
 |(y,c)::r,h=>by
  rw[List.lookup_cons]at h;cases e:x==y
  ·rw[e]at h;exact wMa _ (Wj h)
  ·simp_all
abbrev yR(ex:L Str)(C:Str):D->Y D
 |.exn c _=>if ex.contains c=B then S (.bl (c==C))else J
 |_=>J
@[simp] theorem pK(ex C c b):yR ex C (.exn c b)=if ex.contains c=B then S (.bl (c==C))else J:=rfl
def MQ(t:PE X a (tR K da))(n:PE X (.Name C p2) (tC (.ref j)))(UQ:Gl X "isinstance")(A:X.mg "isinstance" = J)(g:starEach (a::[.Name C p2]) X.env=(G,eval a X.env)::starEach [.Name C p2] X.env)(s:X.K=K)
  (P:∀c∈ex,ExC K (jV K c)/\PySem.W.kitOne K (.ref (jV K c)) (.ref j)=S (c==C)):PE X (.Call (.Name "isinstance" p) [a,.Name C p2] [] pos) (tE K (d1 (yR ex C) da)):=
 jR (Zq Cr UQ A PyProof.Rows.boot_isinstance (JT t (JT n Yt) g) Sq rfl g) λW H Q M=>by
  let je o I h O d R z q:=M;let ja x i b:=jd z;refine#[o,I,h,O,x,R,i,λv l m w=>?_];cases x with
  |exn c Z=>
   have b:(if ex.contains c=B then S _ else J)=S d:=b;split at b
   ·obtain rfl:=Zj b;have T:=w.full;let jc e k rfl N _:=T;let q y F:=P c (List.contains_iff_mem.mp Sv);subst s;exact#[e,_,k,_,_,_,rfl,(λu r=>r),N,y,F,q _ l m rfl]
   ·exact Zn b
  |_=>exact Zn b
abbrev Wk:V->Y D
 |.int i=>S (.int i)
 |.str x=>S (.str x)
 |_=>J
@[simp] theorem pL(i):Wk (.int i)=S (.int i):=rfl
@[simp] theorem pM(i):Wk (.str i)=S (.str i):=rfl
@[simp]abbrev GX(d:L (Str×Str))(f:Str):D->Y D
 |.exn c b=>if d.contains (c,f)=B then(b.lookup f).bind Wk else J
 |_=>J
def MR(r:PE X a (tR K da))(u:attributeBase a f X.env (eval a X.env)=eval a X.env)(s:X.K=K)(I:∀p∈i,ExG K (jV K p.1) p.2):PE X (.Attribute a f pos) (tE K (d1 (GX i f) da)):=
 jR (IO r u) λZ H Q UQ=>by
  let je o T j O d R w q:=UQ;let ja x y b:=jd w;refine#[o,T,j,O,x,R,y,λv k l M=>?_];cases x with
  |exn c h=>
   have b:(if i.contains (c,f)=B then(h.lookup f).bind Wk else J)=S d:=b;split at b
   ·let ja v m F:=jd b;have g:=Wj m;have n:=M.full;let jc e od rfl N W:=n;let ja A rfl P:=W (λz=>by rw[z]at g;cases g);have t:=I (c,f) (List.contains_iff_mem.mp Sv);subst s;refine#[e,_,A,h,v,rfl,N,P,g,t,q _ k l ?_];cases v<;>cases F<;>rfl
   ·exact Zn b
  |_=>exact Zn b
end
structure Hd where
 cs:L Str
 no:L Str
 i:Nat
 d:DS
abbrev Gn(i:Nat):Rs->Rs
 |.nx a=>.nx (a.set i .un)
 |.bk a=>.bk (a.set i .un)
 |.ct a=>.ct (a.set i .un)
 |.xc p a=>.xc p (a.set i .un)
 |.rh d a=>.rh d (a.set i .un)
 |r=>r
@[simp] theorem PU(i a):Gn i (.nx a)=.nx (a.set i .un):=rfl
@[simp] theorem PV(i p a):Gn i (.xc p a)=.xc p (a.set i .un):=rfl
@[simp] theorem PY(i p a):Gn i (.rh p a)=.rh p (a.set i .un):=rfl
@[simp] theorem PZ(i a):Gn i (.bk a)=.bk (a.set i .un):=rfl
@[simp] theorem P_(i a):Gn i (.ct a)=.ct (a.set i .un):=rfl
@[simp] theorem re(i a):Gn i (.rt a)=.rt a:=rfl
@[simp] theorem rg(i a):Gn i (.rf a)=.rf a:=rfl
abbrev QR:L Hd->Xp->DS
 |[],_,_=>J
 |h::t,p,a=>if h.cs.contains p.1=B then(if h.i<a.length then(h.d (a.set h.i (.cl (.exn p.1 p.2)))).bind λr=>S (Gn h.i r)else J)else if h.no.contains p.1=B then QR t p a else J
abbrev a8(K:Fr)(g:Xp->Hp->Prop)(i:L Hd):TH:=λa h e D j H=>∃c f d O p r,Rel K c f d j H O/\a=.ref (jV K p.1)/\(p.2≠[]->∃b,h=S b/\ji H O b=S (xW b p.2))/\H e=J/\QR i p d=S r/\Fin K g c f H O D r
section
variable{X:Cx}{K:Fr}{Px:Xp->Hp->Prop}{x n:Str}{np hpos tpos pos:Pos}{bd su:L Stmt}{b₀:Stmt}{h₀:ExceptHandler}{hs:L ExceptHandler}{Dc:Addr}{h:Hd}{t:L Hd}{dx:DX}{db:DS}
def IU:PH X [] (a8 K Px []):=λ_ _ _ _ _ _ _ _ _ a=>by
 let JV _ _ _ _ _ _ _ _ _ x0:=a;let Yk _ z _:=x0;exact Zn z
def CG(P:X.N.Nodup)(hi:X.N[h.i]?=S n)(F:X.env.kindOf n=S .local)(A:Gl X x)(N:X.mg x=S (.ref Dc))(Q:Su=G)(hK:X.K=K)
  (h1:∀c∈h.cs,PySem.W.exmOne K (.ref (jV K c)) (.ref Dc)=S B) (h2:∀c∈h.no,PySem.W.exmOne K (.ref (jV K c)) (.ref Dc)=S G)
  (hu:∀e,Jx (X.sui e) (b₀::su) (λD u H=>u[h.i]?=S (S (.ref e))/\tS K Px h.d D u H)) (hr:PH X hs (a8 K Px t)):PH X (.ExceptHandler (S (.Name x np)) (S n) (b₀::su) hpos::hs) (a8 K Px (h::t)):=λm u H e M w s D a xx=>by
 refine ML P hi F A N Q hu hr m u H e M w s D a ?_;let JV Z UQ ρ O p r R rfl T z0:=xx;let Yk y l f:=z0;rw[hK];unfold QR at l;by_cases I:h.cs.contains p.1=B
 ·rw[if_pos I]at l;refine#[B,h1 _ (List.contains_iff_mem.mp I),?_];by_cases hl:h.i<ρ.length
  ·rw[if_pos hl]at l;let ja r' e1 e2:=jd l;obtain rfl:=Zj e2;refine#[_,rfl,vf (by rw[R.len];exact hl),Z,UQ,_,O,r',?_,e1,?_]
   ·have su:=jZ y (xC e (jV K p.1) w);refine(R.grow su).set ?_ h.i;refine#[e,w,rfl,by rw[jS (R.new y)];exact jz,λz=>?_];let ja dx z1 z2:=T z;exact#[dx,z1,jt su _ _ z2]
   ·have C:jf _ (ji (upd H e (xC e (jV K p.1) w)) O):=jt (jZ y _);cases r' with
    |nx g=>exact λk i j b t=>f _ i j (b.un h.i J) (C.trans t)
    |bk g=>exact λk i j b t=>f _ i j (b.un h.i J) (C.trans t)
    |ct g=>exact λk i j b t=>f _ i j (b.un h.i J) (C.trans t)
    |rt d=>exact f
    |rf o=>exact f
    |xc p g=>exact λk i j b=>f _ i j (b.un h.i J)
    |rh d g=>exact λv k i j b=>f v _ i j (b.un h.i J)
  ·simp_all
 ·rw[if_neg I]at l;by_cases W:h.no.contains p.1=B
  ·rw[if_pos W]at l;refine#[G,h2 _ (List.contains_iff_mem.mp W),?_];exact#[Z,UQ,ρ,O,p,r,R,rfl,T,y,l,f]
  ·simp_all
end
end DS
namespace L2
open PySem PySem.Spec PyProof.Rows
abbrev gw:Kd->Bool
 |.l=>B
 |.t=>B
 |_=>G
abbrev eK(K:uXa)(b:TE):TE:=λc H Q=>b c H λx a=>∃k,Cd K a x k/\∀p,a p=J->Q (.bl (gw k)) (upd a p (.tup [.ty "list",.ty "tuple"]))
theorem fW(M:Gl X "isinstance")(P:X.mg "isinstance" = J)(N:Gl X "list")(W:X.mg "list" = J)(hgt:Gl X "tuple")(hmt:X.mg "tuple" = J)(he:PE X e te)
  (hs:starEach [e,.Tuple [.Name "list" n,.Name "tuple" m] y r] X.env=(G,eval e X.env)::starEach [.Tuple [.Name "list" n,.Name "tuple" m] y r] X.env:=by rfl)
  (z:starEach [.Tuple [.Name "list" n,.Name "tuple" m] y r] X.env=(G,eval (.Tuple [.Name "list" n,.Name "tuple" m] y r) X.env)::starEach [] X.env:=by rfl):
  PE X (.Call (.Name "isinstance" p) [e,.Tuple [.Name "list" n,.Name "tuple" m] y r] [] pos) (eK X.K te):=by
 intro i s U H Q I h;refine wpAny_Call_Name_kw (Ux I M P boot_isinstance ?_);refine PyProof.Rows.callWith_builtin1 ?_ hs (by rw[z];rfl);rw[hs];refine Calls.spliced_cons (jM (he i s U H _ I h) λu s1 ⟨x,H1,I1,v,k,l,q⟩=>?_);rw[z];show wpAny _ _ (spliced ((G,eval (.Tuple [.Name "list" n,.Name "tuple" m] y r) X.env)::backTo pos (starEach [] X.env))) _ _ s1;refine Calls.spliced_cons ?_;have hpa:PA X [.Name "list" n,.Name "tuple" m] (ZG (tC (.ty "list")) (ZG (tC (.ty "tuple")) gk)):=JT (wZ N W boot_list rfl) (JT (wZ hgt hmt boot_tuple rfl) Yt);refine wpAny_Tuple_spliced (jM (hpa r i s1 U H1 (λvs C=>vs=[.ty "list",.ty "tuple"]/\C=H1) I1 #[rfl,rfl]) λus j ⟨xs,C,A,r2,e1,e2⟩=>?_);subst e1 e2;have eu:us=[.type "list",.type "tuple"]:=by
  cases r2 with
  |cons a b=>
   cases b with
   |cons c d=>
    cases d;subst a;subst c;rfl
 subst eu;refine#[GM,Calls.spliced_nil ?_];have hf:C j.heap.objs.size=J:=A.hok.fresh (wPa _);have I3:=A.laid (h':=j.heap.push {cls:=.type "tuple",data:=.seq ([.type "list",.type "tuple"]:L Value).toArray}) (t':=j.toks) (o:=.tup [.ty "list",.ty "tuple"]) (λb u e=>wIa _ e) (wPa _)
  #[GM,[.type "list",.type "tuple"],.cons rfl (.cons rfl .nil),#[_,wJa _ rfl,rfl,_,rfl]]
 have g:∀b f,b=gw k->EP X i U Q (.bool b) {j with heap:=j.heap.push {cls:=.type "tuple",data:=.seq ([.type "list",.type "tuple"]:L Value).toArray},toks:=f}:=λb f eb=>by
  subst eb;exact#[.bl (gw k),_,I3.tok f,rfl,q _ hf]
 have w:∀a o,j.heap.get? a=S o->(j.heap.push {cls:=.type "tuple",data:=.seq ([.type "list",.type "tuple"]:L Value).toArray}).get? a=S o:=λa o e=>wIa _ e;cases k with
 |i=>
  cases x<;>try exact l.elim
  let q t rfl:=v;exact IsiPair.tupleOf (Tx:="int") (cs:=[.type "list",.type "tuple"]) (vs:=[G,G]) #[Answers.of_false_int (by decide +kernel) F.isi_meta_list F.sub_int_list,Answers.of_false_int (by decide +kernel) F.isi_meta_tuple F.sub_int_tuple,trivial] rfl (wJa _ rfl) λf=>g _ f rfl
 |b=>
  cases x<;>try exact l.elim
  cases v;exact IsiPair.tupleOf (Tx:="bool") (cs:=[.type "list",.type "tuple"]) (vs:=[G,G]) #[Answers.of_false_bool (by decide +kernel) F.isi_meta_list F.sub_bool_list,Answers.of_false_bool (by decide +kernel) F.isi_meta_tuple F.sub_bool_tuple,trivial] rfl (wJa _ rfl) λf=>g _ f rfl
 |s=>
  cases x<;>try exact l.elim
  let q t rfl:=v;exact IsiPair.tupleOf (Tx:="str") (cs:=[.type "list",.type "tuple"]) (vs:=[G,G]) #[Answers.of_false_str (by decide +kernel) F.isi_meta_list F.sub_str_list,Answers.of_false_str (by decide +kernel) F.isi_meta_tuple F.sub_str_tuple,trivial] rfl (wJa _ rfl) λf=>g _ f rfl
 |l=>
  cases x<;>try exact l.elim
  cases v;let q ys UQ:=l;let jw O rv R _:=A.list UQ;let jw o Z T _:=R.isList;exact IsiPair.tupleOf (Tx:="list") (cs:=[.type "list",.type "tuple"]) (vs:=[B,G]) #[Answers.of_true F.isi_meta_list F.sub_list_list,Answers.of_false_list (by decide +kernel) F.isi_meta_tuple F.sub_list_tuple,trivial] #[o,w _ _ Z,T] (wJa _ rfl) λf=>g _ f rfl
 |t=>
  cases x<;>try exact l.elim
  cases v;let q ys UQ:=l;let jw O rv R _:=A.tuple UQ;let jw o Z T _:=R;exact IsiPair.tupleOf (Tx:="tuple") (cs:=[.type "list",.type "tuple"]) (vs:=[G,B]) #[Answers.of_false_tuple (by decide +kernel) F.isi_meta_list F.sub_tuple_list,Answers.of_true F.isi_meta_tuple F.sub_tuple_tuple,trivial] #[o,w _ _ Z,T] (wJa _ rfl) λf=>g _ f rfl
end L2
namespace DS
open PySem PySem.Spec PyProof.Rows L2
section
variable{X:Cx}{K:Fr}{de:DE}
@[simp]abbrev AN:D->Y D:=λd=>(en d).bind λk=>S (.bl (gw k))
def IV(h:PE X g (eK X.K (tR K de)))(j:X.K=K:=by rfl):PE X g (tE K (d1 AN de)):=jR h λo H Q x=>by
 subst j;let je c f l O d R m q:=x;let ja x e a:=jd m;let ja k i a:=jd a;obtain rfl:=Zj a;exact#[c,f,l,O,x,R,e,λv n s r=>#[k,eA i r,λp b=>q _ _ (s.trans (jZ b _)) rfl]]
end
end DS
namespace L2
open PySem PySem.Spec PyProof.Rows
end L2
namespace DS
open PySem PySem.Spec PyProof.Rows L2
end DS
namespace L2
open PySem PySem.Spec PyProof.Rows
end L2
namespace DS
open PySem PySem.Spec PyProof.Rows L2
theorem a9:∀{a l:L KD},a.Nodup->(∀k∈a,k∈l)->a.length<=l.length
 |[],_,_,_=>Nat.zero_le _
 |k::a,l,f,h=>by
  let q e d:=List.nodup_cons.mp f;have c:=h k wNa;have:=a9 d λj b=>(List.mem_erase_of_ne (λz:j=k=>e (by rw[<-z];exact b))).mpr (h j (wMa _ b));rw[List.length_erase_of_mem c]at this;have:=List.length_pos_of_mem c;rw[vXa]
  lia
mutual
theorem eL(I:Inv X d p H s):∀{k v u},V0 X.K H k v->jI v u->vT s.heap k u
 |.i n,v,u,h,r=>by
  rcases h with rfl|⟨b,rfl,e⟩
  ·exact .inl r
  ·exact .inr #[b,r,e]
 |.s x,v,u,h,r=>by
  subst h;exact r
 |.t l,v,u,h,r=>by
  let jc a c rfl t q:=h;subst r;let jw w j g _:=I.tuple (show yN X.K H a c from t);exact#[a,_,rfl,g,by simpa using Bp I q j]
theorem Bp(I:Inv X d p H s):∀{i c f},Vs X.K H i c->jB c f->yM s.heap i f
 |[],c,f,h,r=>by
  subst h;cases r;rw[yM]
 |k::i,c,f,h,r=>by
  let jc v t rfl o m:=h;cases r with
  |cons j g=>
   exact#[_,_,rfl,eL I o j,Bp I m g]
end
mutual
theorem Bq{K:Fr}:∀{d k v},J2 K H d v->Jz d=S k->V0 K H k v
 |.int i,k,v,h,e=>by
  cases e;exact .inl h
 |.bl i,k,v,h,e=>by
  obtain rfl:=Zj e;exact .inr #[i,h,rfl]
 |.str i,k,v,h,e=>by
  obtain rfl:=Zj e;exact h
 |.tup l,k,v,h,e=>by
  let ja c f g:=jd e;obtain rfl:=Zj g;let jc a b rfl q j:=h;exact#[a,b,rfl,q,aa j f]
 |.non,k,v,h,e=>by rw[Jz]at e<;>first|exact Zn e|(intros;contradiction)
 |.lst _,k,v,h,e=>by rw[Jz]at e<;>first|exact Zn e|(intros;contradiction)
 |.ins _ _ _,k,v,h,e=>by rw[Jz]at e<;>first|exact Zn e|(intros;contradiction)
 |.obj _ _ _ _ _,k,v,h,e=>by rw[Jz]at e<;>first|exact Zn e|(intros;contradiction)
 |.scr _,k,v,h,e=>by rw[Jz]at e<;>first|exact Zn e|(intros;contradiction)
 |.dct _ _,k,v,h,e=>by rw[Jz]at e<;>first|exact Zn e|(intros;contradiction)
 |.exn _ _,k,v,h,e=>by rw[Jz]at e<;>first|exact Zn e|(intros;contradiction)
 |.mem _,k,v,h,e=>by rw[Jz]at e<;>first|exact Zn e|(intros;contradiction)
 |.dk _ _,k,v,h,e=>by rw[Jz]at e<;>first|exact Zn e|(intros;contradiction)
theorem aa{K:Fr}:∀{l c b},jm K H l b->vI l=S c->Vs K H c b
 |[],c,b,h,e=>by
  obtain rfl:=Zj e;exact h
 |d::l,c,b,h,e=>by
  let ja k f e:=jd e;let ja n g e:=jd e;obtain rfl:=Zj e;let jc v p rfl m o:=h;exact#[_,_,rfl,Bq m f,aa o g]
end
abbrev MS(K:Fr)(l:L (KD×Bool)):TE:=λ_ H Q=>∀p,H p=J->Q (.ref p) (upd H p (.mem K l []))
def fY{K l a}(c:l.length<=sizeLine):PE X (.Dict [] [] a) (MS K l):=λb s d H Q I h=>
 wpAny_Dict_empty #[.ref _,_,I.laid (o:=.mem K l []) (λ_ _ q=>wIa _ q) (wPa _)
  #[c,beq_eq_false_iff_ne.mpr (Ne.symm (wTa (Inv.big I))),[],(λ_ z=>nomatch z),(λ_ z=>nomatch z),_,#v[],_,wJa _ rfl,#[rfl,rfl,rfl],rfl,rfl,List.nodup_nil],rfl,h _ (I.hok.fresh (wPa _))]
def Ky(I:Inv X e v H s)(h:H a=S (.mem X.K l m)):l.length<=sizeLine/\(a==sysModules)=G/\∃b:L (KD×Addr×Bool),(∀q∈b,(q.1,q.2.2)∈l/\V0 X.K H q.1 (.ref q.2.1)/\q.1.dep<=8)/\(∀k∈m,k∈b.map (·.1))/\(b.map (·.1)).Nodup/\s.heap.DictOfH (GD X.prog X.w) a (b.map λq=>(q.1,q.2.1,Value.bool q.2.2)):=by
 let JY z y b y0:=I.hok a _ h;let JY r p o z0:=y0;let vc f u g n t i c:=z0;refine#[z,y,b,r,p,c,o,f,u,g,n,t,i,λx j=>?_,by rw[List.map_map];exact c];let ja q d rfl:=uVa j;exact#[eL I (r q d).2.1 rfl,(r q d).2.2]
theorem k_:∀a:L (KD×Addr×Bool),(∃q∈a,q.1=k/\atKey (a.map λq=>(q.1,q.2.1,Value.bool q.2.2)) k=S (q.2.1,.bool q.2.2))\/(atKey (a.map λq=>(q.1,q.2.1,Value.bool q.2.2)) k=J/\k∉a.map (·.1))
 |[]=>.inr #[rfl,λz=>nomatch z]
 |q::a=>by
  unfold atKey;rw[vWa,List.find?_cons];by_cases h:q.1=k
  ·rw[decide_eq_true h];exact .inl #[q,wNa,h,rfl]
  ·rw[decide_eq_false h];rcases k_ a with⟨p,b,e,z⟩|⟨z,n⟩
   ·exact .inl #[p,wMa _ b,e,z]
   ·refine .inr #[z,λy=>?_];rcases uTa y with y|y
    ·exact h y.symm
    ·exact n y
def gy{K:Fr}{l m c}(h:H a=S (.mem K l m)){k v}(q:V0 K H k v):V0 K (upd H a (.mem K l c)) k v:=
 q.stay λb u t e=>by
  rw[jp λz=>by rw[z,h]at e;obtain rfl:=Zj e;exact t];exact e
def Inv.memo{l t}{d:L (KD×Addr×Bool)}(I:Inv X b x H s)(h:H a=S (.mem X.K l m))(z:l.length<=sizeLine)(y:(a==sysModules)=G)(r:∀q∈d,(q.1,q.2.2)∈l/\V0 X.K H q.1 (.ref q.2.1)/\q.1.dep<=8)(n:(d.map (·.1)).Nodup)
  (j:s.heap.DictOfH (GD X.prog X.w) a (d.map λq=>(q.1,q.2.1,Value.bool q.2.2))) (u:∀k∈m',k∈d.map (·.1)):Inv X b x (upd H a (.mem X.K l m')) {s with toks:=t}:=by
 let yI o p i g v w A _ _:=j;exact I.write (by rw[h];trivial) (.inl rfl) (λc z C e=>e) #[_,g] #[z,y,d,λq f=>#[(r q f).1,gy h (r q f).2.1,(r q f).2.2],u,o,p,i,g,v,w,A,n]
abbrev MT(K:Fr):R2:=λx y H Q=>∃a b l k c,x=.ref b/\y=.ref a/\H a=S (.mem K l [])/\J2 K H c (.ref b)/\ZK c=S k/\Q (.bl B) H/\Q (.bl G) (upd H a (.mem K l [k]))
def QS(m:Room n X.A):Jh X (compareOp .NotIn) (MT X.K):=by
 intro c s P H x y v u Q I C w h;let Jw a b l k T rfl rfl f F u1:=h;let Yk p o M:=u1;subst C;subst w;let JY i g t v1:=Ky I f;let Jm r R O d:=v1;refine wpAny_notIn_heap (Wh m) (QM I F p) g d ?_;rcases k_ t with⟨q,A,e,z⟩|⟨z,n⟩
 ·rw[z];exact#[.bl G,_,Inv.memo I f i g r O d λj N=>by
   obtain rfl:=List.mem_singleton.mp N;exact List.mem_map.mpr #[q,A,e],rfl,M]
 ·rw[z];exact#[.bl B,H,I.tok _,rfl,o]
abbrev eM(K:Fr):R2:=λx y H Q=>∃a b l k c,x=.ref a/\y=.ref b/\H a=S (.mem K l [k])/\J2 K H c (.ref b)/\ZK c=S k/\∀v,(k,v)∈l->Q (.bl v) (upd H a (.mem K l []))
def IW(N:Room n X.A):Gi X (eM X.K):=by
 intro f c i s T H x y v u Q I A F h m;let Jw a b l k UQ rfl rfl g C y1:=h;let q P q:=y1;subst A;subst F;let JY w o M z1:=Ky I g;let Jm r t R d:=z1;rcases k_ M with⟨p,j,e,z⟩|⟨z,n⟩
 ·exact tail_any d.typeIs slot_dict_getitem.lookup (wpAny_getItem_heap (Wh N) (QM I C P) d z #[.bl p.2.2,_,Inv.memo (m':=[]) I g w o r R d λ_ O=>(nomatch O),rfl,q _ (e▸(r p j).1)]) m
 ·exact vDa (t k wNa) n
def fZ(a:L (KD×Addr×Bool))(k b c):∃g:L _,storedH (a.map λq=>(q.1,q.2.1,Value.bool q.2.2)) k b (.bool c)=(g.map λq=>(q.1,q.2.1,Value.bool q.2.2))/\(∀q∈g,q∈a\/q.1=k/\q.2.2=c/\(q.2.1=b\/∃p∈a,p.1=k/\p.2.1=q.2.1))/\k∈g.map (·.1):=by
 rcases k_ a with⟨p,d,e,z⟩|⟨z,n⟩
 ·refine#[a.map λq=>if q.1=k then(q.1,q.2.1,c)else q,?_,λq f=>?_,?_]
  ·rw[storedH_old z,List.map_map,List.map_map];refine List.map_congr_left λq _=>?_;unfold putAt;by_cases h:q.1=k<;>simp[h]
  ·let ja p d rfl:=uVa f;by_cases h:p.1=k
   ·rw[if_pos h];exact .inr #[h,rfl,.inr #[p,d,h,rfl]]
   ·rw[if_neg h];exact .inl d
  ·refine List.mem_map.mpr #[_,List.mem_map.mpr #[p,d,if_pos e],e]
 ·refine#[a++[(k,b,c)],?_,λq f=>?_,?_]
  ·rw[storedH_new z,uDa];rfl
  ·rcases uWa f with h|h
   ·exact .inl h
   ·obtain rfl:=List.mem_singleton.mp h;exact .inr #[rfl,rfl,.inl rfl]
  ·rw[uDa];exact vJa _ wNa
abbrev MU(K:Fr):V->V->V->Hp->(Hp->Prop)->Prop:=λo i v H Q=>∃a b l k d c,o=.ref a/\i=.ref b/\v=.bl c/\H a=S (.mem K l [])/\J2 K H d (.ref b)/\ZK d=S k/\(k,c)∈l/\Q (upd H a (.mem K l [k]))
def f_(hr:Room n X.A):aY X (MU X.K):=by
 intro O s U H o i v ov iv u Q I ro T rv h;let JV a b l k dk c rfl rfl rfl v2:=h;let yY f C x g q:=v2;subst ro;subst T;subst rv;let JY R Z M w2:=Ky I f;let Jm r rm nd dd:=w2;have hz:(M.map λq=>(q.1,q.2.1,Value.bool q.2.2)).length<=sizeLine:=by
  have y:=a9 (l:=l.map (·.1)) nd λj t=>by
   let ja p m rfl:=uVa t;exact List.mem_map.mpr #[_,(r p m).1,rfl]
  rw[vYa,vYa]at y;rw[vYa]
  lia
 let jw ys W hy ky:=fZ M k b c;refine wpAny_setItem_heap (hsz:=hz) (Wh hr) (QM I C x) dd λh' d UQ=>?_;rw[W]at d;let yI o es ep F e2 e3 e4 _ N:=d;have w:JB X.prog X.w (upd H a (.mem X.K l [k])) h' a (.mem X.K l [k]):=#[R,Z,ys,λq hq=>?_,λj t=>by obtain rfl:=List.mem_singleton.mp t;exact ky,o,es,ep,F,e2,e3,e4,by rw[List.map_map]at N;exact N]
 ·exact#[_,I.write (by rw[f];trivial) (.inl rfl) (λc z g e=>(UQ.2 c g).trans e) #[_,F] w,q]
 ·rcases hy q hq with h|⟨y,h2,A⟩
  ·exact#[(r q h).1,gy f (r q h).2.1,(r q h).2.2]
  ·rw[y,h2];rcases A with A|⟨p,m,p1,P⟩
   ·rw[A];exact#[g,gy f (Bq C (vW x).1),(vW x).2]
   ·rw[<-P];have:=r p m;rw[p1]at this;exact#[g,gy f this.2.1,this.2.2]
abbrev rest(O:L _)(l)(b:L Addr):=O.filter λa=>!(l::b).contains a
def yS:a∈rest O l b↔a∈O/\a∉l::b:=by
 unfold rest;simp
section
variable{K:Fr}{H0 H H1 H':Hp}{O0:FA}{O ps ps':L Addr}{ρ:jD}{U:L2.St}{i:Nat}{q:Bool}{h h':HS}{l:Addr}
structure LoI (K:Fr) (H0:Hp) (P) (ρ:jD) (U:L2.St) (H O) (i:Nat) (q h l ps) where
 e:ρ[i]?=S (.lo q h)
 s:U[i]?=S (S (.ref l))
 p:q=B->l=P
 x:Yw K H (ji H O) l ps h
 n:(l::ps).Nodup
 f:∀a∈l::ps,a∈O/\H0 a=J/\¬gq ρ U a
 u:∀j q' h',ρ[j]?=S (.lo q' h')->j=i
def Rel.loi(R:Rel K H0 O0 ρ U H O)(e:ρ[i]?=S (.lo q h)):∃l ps,LoI K H0 O0.p ρ U H O i q h l ps:=by
 let YH l ps a b c d f u:=R.lo i q h e;exact#[l,ps,e,a,b,c,d,f,u]
def LoI.grow(b:LoI K H0 P ρ U H O i q h l ps)(s:jf H H'):LoI K H0 P ρ U H' O i q h l ps:=#[b.e,b.s,b.p,b.x.mono (λa _ u z=>s a u z) (jt s),b.n,b.f,b.u]
def Rel.hmove(R:Rel K H0 O0 ρ U H O)(f:LoI K H0 O0.p ρ U H O i q h l ps)(k:jf (ji H (l::ps)) H')(UQ:Yw K H' (ji H' (l::ps'++rest O l ps)) l ps' h')(nd:(l::ps').Nodup)(Q:∀a∈ps',a∈ps\/H a=J):
  Rel K H0 O0 (ρ.set i (.lo q h')) U H' (l::ps'++rest O l ps)/\jf (ji H O) (ji H' (l::ps'++rest O l ps)):=by
 have x:=λb u z n=>k b u (by rw[jS n];exact z);have t:∀a∈l::ps'++rest O l ps,a∈O\/H a=J:=λa p=>by
  rcases uWa p with z|z
  ·rcases uTa z with rfl|z
   ·exact .inl (f.f a wNa).1
   ·rcases Q a z with z|z
    ·exact .inl (f.f a (wMa _ z)).1
    ·lia
  ·exact .inl (yS.mp z).1
 have z0:∀a∈l::ps'++rest O l ps,a∈l::ps'->H0 a=J:=λa _ z=>by
  rcases uTa z with rfl|z
  ·exact(f.f a wNa).2.1
  ·rcases Q a z with z|z
   ·exact(f.f a (wMa _ z)).2.1
   ·exact R.keep.none z
 have P:jf (ji H O) (ji H' _):=λb u z=>by
  let q F C:=Jb z;rw[jS (λy=>by rcases t b y with y|y;exact F y;rw[C]at y;exact Zs y)];exact x b u C λy=>F (f.f b y).1
 refine#[#[by rw[List.length_set];exact R.len,λa p=>?_,λa p=>?_,R.al0,λa p=>?_,λb u z=>?_,λj d e=>?_,λj d e=>?_,λj I o e=>?_,λj k2 q1 I ds es s e1 e2 Z s2=>?_,λj I h2 e=>?_],P]
 ·exact vJa _ (yS.mpr #[R.sub a p,λz=>R.al0 a p (f.f a z).2.1])
 ·rcases t a p with z|z
  ·exact R.fr a z
  ·exact .inr (R.keep.none z)
 ·rcases uWa p with z|z
  ·let q o e:=UQ.at a z;rw[e];exact λz=>nomatch z
  ·let q F C:=yS.mp z;cases y:H a with
   |none=>exact vDa y (R.al a F)
   |some u=>rw[x a u y C];exact λz=>nomatch z
 ·exact x b u (R.keep b u z) λy=>by rw[(f.f b y).2.1]at z;exact Zn z
 ·rcases jG e with⟨rfl,g,_⟩|⟨A,g⟩
  ·cases g
  ·let ja v a b:=R.cl j d g;exact#[v,a,b.same P]
 ·rcases jG e with⟨rfl,g,_⟩|⟨A,g⟩
  ·cases g
  ·exact R.bo j d g
 ·rcases jG e with⟨rfl,g,_⟩|⟨A,g⟩
  ·cases g
  ·let J3 s z a b c d:=R.ow j I o g;have T:=λy=>(f.f s y).2.2 #[j,_,_,g,a];exact#[s,z,a,b.same (λu y=>x s u y T) P,vJa _ (yS.mpr #[c,T]),d]
 ·rcases jG e1 with⟨rfl,g,_⟩|⟨n1,M⟩
  ·cases g
  ·rcases jG e2 with⟨rfl,g,_⟩|⟨n2,N⟩
   ·cases g
   ·exact R.dist j k2 _ _ _ _ s M N Z s2
 ·rcases jG e with⟨rfl,g,_⟩|⟨A,g⟩
  ·cases g;refine#[l,_,f.s,f.p,UQ,nd,λa p=>#[vIa _ p,z0 a (vIa _ p) p,λ⟨m,q3,o3,y,z⟩=>?_],λm q3 h3 y=>?_]
   ·rcases jG y with⟨_,r,_⟩|⟨_,r⟩
    ·cases r
    ·have W:gq ρ U a:=#[m,_,_,r,z]
     rcases uTa p with rfl|p
     ·exact(f.f a wNa).2.2 W
     ·rcases Q a p with w|w
      ·exact(f.f a (wMa _ w)).2.2 W
      ·let ge l3 _ X y2 _:=R.ow m _ _ r;rw[z]at X;cases X;exact y2.there w
   ·rcases jG y with⟨y0,_,_⟩|⟨_,r⟩
    ·exact y0
    ·exact f.u m _ _ r
  ·exact vDa (f.u j _ _ g) A
abbrev Wl:jD->Bool
 |[]=>B
 |.lo _ _::_=>G
 |_::r=>Wl r
theorem VH:∀{ρ}{j:Nat},Wl ρ=B->ρ[j]?≠S (.lo q h)
 |[],j,_,z=>by simp_all
 |.lo _ _::_,_,n,_=>Zf n
 |.un::r,0,_,z=>by cases z
 |.cl _::r,0,_,z=>by cases z
 |.bo _::r,0,_,z=>by cases z
 |.ow _ _::r,0,_,z=>by cases z
 |.un::r,j+1,n,z=>VH (ρ:=r) n z
 |.cl _::r,j+1,n,z=>VH (ρ:=r) n z
 |.bo _::r,j+1,n,z=>VH (ρ:=r) n z
 |.ow _ _::r,j+1,n,z=>VH (ρ:=r) n z
def Rel.hlay(R:Rel K H0 O0 ρ U H O)(s:jf H H')(M:Wl (ρ.set i .un)=B)(hl:H l=J)(T:∀a∈ps,H a=J)(X:(l::ps).Nodup)(x:Yw K H' (ji H' (l::ps++O)) l ps h):
  Rel K H0 O0 (ρ.set i (.lo G h)) (U.set i (S (.ref l))) H' (l::ps++O)/\jf (ji H O) (ji H' (l::ps++O)):=by
 have p:∀a∈l::ps,H a=J:=λa g=>by
  rcases uTa g with rfl|g
  ·exact hl
  ·exact T a g
 have F:jf (ji H O) (ji H' _):=λb u z=>by
  let q W w:=Jb z;rw[jS (λy=>by rcases List.mem_append.mp y with y|y;rw[p b y]at w;exact Zn w;exact W y)];exact s b u w
 refine#[#[by rw[List.length_set,List.length_set];exact R.len,λa g=>vJa _ (R.sub a g),λa g=>?_,R.al0,λa g=>?_,R.keep.trans s,λj d e=>?_,λj d e=>?_,λj t o e=>?_,λj k2 q1 t ds es r e1 UQ N P=>?_,λj t h2 e=>?_],F]
 ·rcases uWa g with z|z
  ·exact .inr (R.keep.none (p a z))
  ·exact R.fr a z
 ·rcases uWa g with z|z
  ·let q o e:=x.at a z;rw[e];exact λz=>nomatch z
  ·exact λy=>R.al a z (s.none y)
 ·rcases jG e with⟨rfl,f,_⟩|⟨k,f⟩
  ·cases f
  ·rw[Jn k];let ja v a b:=R.cl j d f;exact#[v,a,b.same F]
 ·rcases jG e with⟨rfl,f,_⟩|⟨k,f⟩
  ·cases f
  ·rw[Jn k];exact R.bo j d f
 ·rcases jG e with⟨rfl,f,_⟩|⟨k,f⟩
  ·cases f
  ·rw[Jn k];let J3 r z a b c d:=R.ow j t o f;exact#[r,z,a,b.same (s r) F,vJa _ c,d]
 ·rcases jG e1 with⟨rfl,f,_⟩|⟨n1,I⟩
  ·cases f
  ·rcases jG UQ with⟨rfl,f,_⟩|⟨n2,C⟩
   ·cases f
   ·rw[Jn n1]at N;rw[Jn n2]at P;exact R.dist j k2 _ _ _ _ r I C N P
 ·rcases jG e with⟨rfl,f,Z⟩|⟨k,f⟩
  ·cases f;refine#[l,ps,vf (by rw[R.len];exact Z),(λz=>nomatch z),x,X,λa g=>#[vIa _ g,R.keep.none (p a g),λ⟨m,q3,o3,y,z⟩=>?_],λm q3 h3 y=>?_]
   ·rcases jG y with⟨_,n,_⟩|⟨A,n⟩
    ·cases n
    ·rw[Jn A]at z;let ge l3 _ Q y2 _:=R.ow m _ _ n;rw[z]at Q;cases Q;exact y2.there (p a g)
   ·rcases jG y with⟨y0,_,_⟩|⟨A,n⟩
    ·exact y0
    ·exact vDa (by rw[Jn A];exact n) (VH M)
  ·exact vDa (by rw[Jn k];exact f) (VH M)
end
abbrev JR(f:Str):L Str->Y Nat
 |[]=>J
 |g::r=>if g=f then S 0 else(JR f r).map (· + 1)
theorem vh:∀{a b r},a.length=b.length->yw f v (a.zip b++r)=match JR f a with
  |S j=>a.zip (b.set j v)++r
  |none=>a.zip b++yw f v r
 |[],[],r,_=>rfl
 |g::a,c::b,r,h=>by
  show(if g=f then(g,v)::(a.zip b++r)else(g,c)::yw f v (a.zip b++r))=_;rw[JR];by_cases e:g=f
  ·rw[if_pos e,if_pos e];rfl
  ·rw[if_neg e,if_neg e,vh (by simpa using h)];cases JR f a<;>rfl
theorem QT:∀{a b j}{v:c},JR f a=S j->b[j]?=S v->(a.zip b).lookup f=S v
 |g::a,[],j,v,_,e=>Zn e
 |g::a,x::b,j,v,h,e=>by
  rw[JR]at h;rw[List.zip_cons_cons,List.lookup_cons];by_cases z:g=f
  ·rw[if_pos z]at h;obtain rfl:=Zj h;subst z;rw[beq_self_eq_true];exact e
  ·rw[if_neg z]at h;cases y:JR f a with
   |none=>rw[y]at h;exact Zn h
   |some k=>
    rw[y]at h;obtain rfl:=Zj h;rw[show(f==g)=G from beq_eq_false_iff_ne.mpr λw=>z w.symm];exact QT y e
theorem Zw:∀{a}{b:L c},JR f a=J->(a.zip b).lookup f=J
 |[],_,_=>rfl
 |_::_,[],_=>rfl
 |g::a,x::b,h=>by
  rw[JR]at h;rw[List.zip_cons_cons,List.lookup_cons];by_cases z:g=f
  ·simp_all
  ·rw[if_neg z]at h;rw[show(f==g)=G from beq_eq_false_iff_ne.mpr λw=>z w.symm];cases y:JR f a with
   |none=>exact Zw y
   |some k=>rw[y]at h;exact Zs h
theorem Yl.get{K:Fr}{Hd H}:∀{as b}{j:Nat}{m},Yl K Hd H as b->b[j]?=S m->∃a vs,as[j]?=S a/\H a=S (.lst vs)/\jm K Hd m vs
 |[],[],j,m,_,e=>Zn e
 |a::as,m::b,0,_,h,e=>by obtain rfl:=Zj e;obtain⟨⟨vs,c,d⟩,_⟩:=h;exact#[a,vs,rfl,c,d]
 |a::as,_::b,j+1,m,h,e=>Yl.get (as:=as) h.2 e
 |[],_::_,_,_,h,_=>h.elim
 |_::_,[],_,_,h,_=>h.elim
theorem Yl.set{K:Fr}{Hd d H o}(l:jf Hd d){b m}(r:∃i,o b=S (.lst i)/\jm K d m i):∀{f g j},Yl K Hd H f g->(∀k a,k≠j->f[k]?=S a->∀u,H a=S u->o a=S u)->Yl K d o (f.set j b) (g.set j m)
 |[],[],j,_,_=>trivial
 |a::f,n::g,0,h,s=>#[r,h.2.mono l λc w u z=>by
   let q k p:=List.mem_iff_getElem?.mp w;exact s _ c (Nat.succ_ne_zero _) p u z]
 |a::f,n::g,j+1,h,s=>by
  obtain⟨⟨i,x,v⟩,t⟩:=h;exact#[#[i,s 0 a (Nat.succ_ne_zero _).symm rfl _ x,v.same l],Yl.set l r t λk c p e u z=>s _ c (λy=>p (Nat.succ.inj y)) e u z]
 |[],_::_,_,h,_=>h.elim
 |_::_,[],_,h,_=>h.elim
theorem Yl.snoc{K:Fr}{Hd H b m}(f:∃e,H b=S (.lst e)/\jm K Hd m e):∀{c d},Yl K Hd H c d->Yl K Hd H (c++[b]) (d++[m])
 |[],[],_=>#[f,trivial]
 |a::c,n::d,h=>#[h.1,Yl.snoc f h.2]
 |[],_::_,h=>h.elim
 |_::_,[],h=>h.elim
section
variable{X:Cx}{K:Fr}{e:Expr}{es:L Expr}{st:Stmt}{pos:Pos}{de:DE}{df:DO}{i:Nat}{C:Addr}{f:Str}{Px:Xp->Hp->Prop}
@[simp]abbrev IX(f:Str)(d:D)(h:HS):Y HS:=match JR f h.ns with
 |S j=>S {h with ds:=h.ds.set j d}
 |none=>if h.ms.isEmpty=B then S {h with ns:=h.ns++[f],ds:=h.ds++[d]}else J
@[simp]abbrev K0(i:Nat)(C:Addr)(f:Str)(de:DE)(a:jD):Y Rs:=match a[i]? with
 |S (.lo q h)=>if h.C=C/\h.ns.length+h.ms.length<1000 then(de a).bind λd=>(IX f d h).bind λb=>S (.nx (a.set i (.lo q b)))else J
 |_=>J
def QU{a b}(h:a.length=b.length)(e:JR f a=J):yw f v (a.zip b++[])=(a++[f]).zip (b++[v]):=by
 rw[vh h,e,List.zip_append h];rfl
def IY(h:PS X st (Ah X.K (yF i) (tE K de) f))(c:Cls K C)(n:yP K C f)(hK:X.K=K:=by rfl):PS X st (tS K Px (K0 i C f de)):=Jj h λD U H xx=>by
 let je H0 O0 ρ O r R m fi:=xx;subst hK;unfold K0 at m;cases M:ρ[i]? with
 |none=>rw[M]at m;exact Zn m
 |some sl=>
  rw[M]at m;cases sl with
  |lo q h=>
   by_cases UQ:h.C=C/\h.ns.length+h.ms.length<1000
   ·dsimp only at m;rw[if_pos UQ]at m;let q hC hlen:=UQ;subst hC;let ja d e1 m:=jd m;let ja h' s m:=jd m;obtain rfl:=Zj m;let Vl l k g:=R.loi M;refine#[H0,O0,ρ,O,d,R,e1,λv p N Z=>?_];have R1:=R.grow N;have T:=g.grow N;obtain⟨⟨o,A,h1,Q,n2,W⟩,el⟩:=T.x;refine#[_,g.s,l,_,o,_,rfl,h1,c,n,?_,?_]
    ·simp_all
    have kp:jf (ji p (l::k)) (upd p l (.ins h.C o (yw f v (h.ns.zip A++h.ms.zip (k.map V.ref))))):=λb u z=>by
     let q F I:=Jb z;rw[jp λy=>F Sa];exact I
    have P:∀a∈l::k++rest O l k,a∈O:=λa w=>by
     rcases uWa w with z|z
     ·exact(g.f a z).1
     ·exact(yS.mp z).1
    have x:jf (ji p O) (ji (upd p l (.ins h.C o (yw f v (h.ns.zip A++h.ms.zip (k.map V.ref))))) (l::k++rest O l k)):=by
     intro b u z;let q F I:=Jb z;rw[jS λy=>F (P b y),jp λy=>F (by rw[y];exact(g.f l List.mem_cons_self).1)];exact I
    have nl:=(List.nodup_cons.mp g.n).1;have t:Yl _ _ (upd p l (.ins h.C o (yw f v (h.ns.zip A++h.ms.zip (k.map V.ref))))) k _:=el.mono x λa w u z=>by
     rw[jp λy=>nl (by rw[<-y];exact w)];exact z
    have x':Yw X.K (upd p l (.ins h.C o (yw f v (h.ns.zip A++h.ms.zip (k.map V.ref))))) (ji (upd p l (.ins h.C o (yw f v (h.ns.zip A++h.ms.zip (k.map V.ref))))) (l::k++rest O l k)) l k h':=by
     unfold IX at s;cases y:JR f _ with
     |some j=>
      rw[y]at s;cases s;refine#[#[o,_,?_,by rw[List.length_set];exact Q,n2,(W.same x).set (Z.same x) j],t];rw[jz,vh Q,y]
     |none=>
      rw[y]at s;by_cases z:h.ms.isEmpty=B
      ·rw[if_pos z]at s;obtain rfl:=Zj s;have z:=List.isEmpty_iff.mp z;refine#[#[o,_,?_,by simp_all,n2,(W.same x).snoc (Z.same x)],t];rw[jz,z,List.zip_nil_left,QU Q y,uFa]
      ·simp_all
    let q R2 s2:=R1.hmove T kp x' g.n λa w=>.inl w;exact fi _ _ _ R2 ((jt N).trans s2)
   ·simp_all
  |_=>exact Zn m
@[simp]abbrev IZ(f:Str)(m:L D)(h:HS):Y HS:=match JR f h.ns with
 |S _=>J
 |none=>match JR f h.ms with
  |S j=>S {h with ls:=h.ls.set j m}
  |none=>S {h with ms:=h.ms++[f],ls:=h.ls++[m]}
@[simp]abbrev K3(i:Nat)(C:Addr)(f:Str)(df:DO)(a:jD):Y Rs:=match a[i]? with
 |S (.lo q h)=>if h.C=C/\h.ns.length+h.ms.length<1000 then(df a).bind λo=>match o with
  |.lst m=>(IZ f m h).bind λb=>S (.nx (a.set i (.lo q b)))
  |_=>J else J
 |_=>J
theorem WZ:∀{b:L Addr}{j},b.Nodup->p∉b->(b.set j p).Nodup
 |[],_,h,_=>h
 |a::b,0,h,n=>List.nodup_cons.mpr #[λz=>n (wMa _ z),(List.nodup_cons.mp h).2]
 |a::b,j+1,h,n=>by
  let q c d:=List.nodup_cons.mp h;refine List.nodup_cons.mpr #[λz=>?_,WZ d λz=>n (wMa _ z)];rcases List.mem_or_eq_of_mem_set z with z|z
  ·exact c z
  ·exact n (by rw[z];exact wNa)
def Xy{a:L _}{j p}:(a.set j p).map V.ref=(a.map V.ref).set j (.ref p):=by simp
def I_(h:PS X st (Ah X.K (yF i) (tF K df) f))(c:Cls K C)(n:yP K C f)(hK:X.K=K:=by rfl):PS X st (tS K Px (K3 i C f df)):=Jj h λD U H xx=>by
 let je H0 O0 ρ O r R v fi:=xx;subst hK;unfold K3 at v;cases hi:ρ[i]? with
 |none=>rw[hi]at v;exact Zn v
 |some sl=>
  rw[hi]at v;cases sl with
  |lo q h=>
   by_cases hh:h.C=C/\h.ns.length+h.ms.length<1000
   ·dsimp only at v;rw[if_pos hh]at v;let q hC hlen:=hh;subst hC;let ja o e1 v:=jd v;cases o with
    |lst m=>
     let ja h' F v:=jd v;obtain rfl:=Zj v;let Vl l g d:=R.loi hi;refine#[H0,O0,ρ,O,_,R,e1,λp H1 Q hp ow=>?_];have L1:=d.grow Q;obtain⟨⟨dx,UQ,h1,n1,n2,rp⟩,el⟩:=L1.x;let ja us w1 w2:=ow;refine#[_,d.s,l,_,dx,_,rfl,h1,c,n,?_,?_]
     ·simp_all
     have pO:=R.new hp;have pl:=λz=>pO (d.f p z).1;have lp:l≠p:=λz=>pl (by lia);have nl:=(List.nodup_cons.mp d.n).1;generalize s:upd H1 l _=I;have kp:jf (ji H (l::g)) I:=λb u z=>by
      let q z1 z2:=Jb z;rw[<-s,jp λy=>z1 (by rw[y];exact List.mem_cons_self)];exact Q b u z2
     have Z:I p=S (.lst us):=by rw[<-s,jp lp.symm];exact w1
     have P:∀N ,(∀a∈N,a∈g\/a=p)->jf (ji H1 (p::O)) (ji I (l::N++rest O l g)):=λN t b u z=>by
      let q z1 z2:=Jb z;have nb:b≠p:=λy=>z1 (by rw[y];exact wNa);have nO:=λy=>z1 (wMa _ y);rw[jS λy=>?_,<-s,jp λy=>nO (by rw[y];exact(d.f l List.mem_cons_self).1)]
      ·exact z2
      ·rcases uWa y with y|y
       ·rcases uTa y with y|y
        ·exact nO (by rw[y];exact(d.f l wNa).1)
        ·rcases t b y with y|y
         ·exact nO (d.f b (wMa _ y)).1
         ·exact nb y
       ·exact nO (yS.mp y).1
     have W:jm X.K (ji H O) h.ds UQ:=by
      obtain⟨⟨dx',T,h1',n1',n2',rp'⟩,_⟩:=d.x;have:=Q _ _ h1';have ez:h.ns.zip UQ++h.ms.zip (g.map V.ref)=h.ns.zip T++h.ms.zip (g.map V.ref):=by lia
      have ez:=List.append_cancel_right ez;have:UQ=T:=by
       have a1:=congrArg (List.map Prod.snd) ez;rw[List.map_snd_zip (by lia),List.map_snd_zip (by lia)]at a1;exact a1
      rw[this];exact rp'
     have A:jf (ji H O) _:=YE Q hp;have elk:∀a∈g,∀u,H a=S u->I a=S u:=λa x u z=>by
      rw[<-s,jp λy=>nl (by rw[<-y];exact x)];exact Q a u z
     let q _ el0:=d.x;unfold IZ at F;cases y:JR f _ with
     |some j=>rw[y]at F;exact Zn F
     |none=>
      rw[y]at F;cases w:JR f _ with
      |some j=>
       rw[w]at F;obtain rfl:=Zj F;have t:∀a∈g.set j p,a∈g\/a=p:=λa x=>List.mem_or_eq_of_mem_set x;have x':Yw X.K I (ji I (l::g.set j p++rest O l g)) l (g.set j p) {h with ls:=h.ls.set j m}:=by
        refine#[#[dx,UQ,?_,n1,by rw[List.length_set];exact n2,(W.same A).same (P _ t)],?_]
        ·rw[<-s,jz,vh n1,y];rw[<-uFa (h.ms.zip _),vh (by rw[vYa];exact n2),w];dsimp only;rw[uFa,Xy]
        ·exact Yl.set (A.trans (P _ t)) #[us,Z,w2.same (P _ t)] el0 λk a _ x u z=>elk a (wYa x) u z
       have M:(l::g.set j p).Nodup:=by
        refine List.nodup_cons.mpr #[λz=>?_,?_]
        ·rcases t l z with z|z
         ·exact nl z
         ·exact lp z
        ·exact WZ (List.nodup_cons.mp d.n).2 λz=>pl (wMa _ z)
       let q R2 s2:=R.hmove d kp x' M λa x=>by
        rcases t a x with z|z
        ·exact .inl z
        ·lia
       exact fi _ _ _ R2 s2
      |none=>
       rw[w]at F;obtain rfl:=Zj F;have t:∀a∈g++[p],a∈g\/a=p:=λa x=>by simp_all
       have x':Yw X.K I (ji I (l::(g++[p])++rest O l g)) l (g++[p]) {h with ms:=h.ms++[f],ls:=h.ls++[m]}:=by
        refine#[#[dx,UQ,?_,n1,by rw[vZa,vZa,n2];rfl,(W.same A).same (P _ t)],?_]
        ·rw[<-s,jz,vh n1,y];rw[<-uFa (h.ms.zip _),QU (by rw[vYa];exact n2) w,uDa];rfl
        ·exact Yl.snoc #[us,Z,w2.same (P _ t)] (el0.mono (A.trans (P _ t)) elk)
       have M:(l::(g++[p])).Nodup:=by
        refine List.nodup_cons.mpr #[λz=>?_,?_]
        ·rcases t l z with z|z
         ·exact nl z
         ·exact lp z
        ·refine List.nodup_append.mpr #[(List.nodup_cons.mp d.n).2,by simp,λa x b hb=>?_];rw[List.mem_singleton.mp hb];exact λz=>pl (wMa _ (z▸x))
       let q R2 s2:=R.hmove d kp x' M λa x=>by
        rcases t a x with z|z
        ·exact .inl z
        ·lia
       exact fi _ _ _ R2 s2
    |_=>exact Zn v
   ·simp_all
  |_=>exact Zn v
@[simp]abbrev qT(i:Nat)(C:Addr)(f:Str)(de:DE)(a:jD):Y Rs:=match a[i]? with
 |S (.lo q h)=>if h.C=C/\(JR f h.ns).isNone=B then(JR f h.ms).bind λj=>(h.ls[j]?).bind λm=>(de a).bind λd=>if m.length<sizeLine then S (.nx (a.set i (.lo q {h with ls:=h.ls.set j (m++[d])})))else J else J
 |_=>J
def l7(h:PS X st (gj (b_ K "list" kW (HX X.K (yF i) f) (ZG (tE K de) gk))))(c:Cls K C)(n:yP K C f)(hK:X.K=K:=by rfl):PS X st (tS K Px (qT i C f de)):=Jj h λD U H xx=>by
 let je H0 O0 ρ O r R o fi:=xx;subst hK;unfold qT at o;cases Z:ρ[i]? with
 |none=>rw[Z]at o;exact Zn o
 |some sl=>
  rw[Z]at o;cases sl with
  |lo q h=>
   by_cases hh:h.C=C/\(JR f h.ns).isNone=B
   ·dsimp only at o;rw[if_pos hh]at o;let q hC hn:=hh;subst hC;let ja j e1 o:=jd o;let ja m e2 o:=jd o;let ja d e3 o:=jd o;by_cases UQ:m.length<sizeLine
    ·rw[if_pos UQ]at o;obtain rfl:=Zj o;let Vl l s g:=R.loi Z;obtain⟨⟨dx,vs,h1,n1,n2,rp⟩,el⟩:=g.x;let jc p I P hp ru:=el.get e2;have T:JR f h.ns=J:=by simpa using hn
     have lk:(h.ns.zip vs++h.ms.zip (s.map V.ref)).lookup f=S (V.ref p):=by
      rw[List.lookup_append,Zw T,QT e1 (by rw[uAa,P];rfl)];rfl
     refine#[_,g.s,l,_,dx,_,_,rfl,h1,c,n,lk,.inl #[rfl,_,Jk.of hp],H0,O0,ρ,O,d,R,e3,λv x w rv=>?_];have R1:=R.grow w;have L1:=g.grow w;refine#[p,I,v,rfl,rfl,w _ _ hp,by rw[ru.len];exact UQ,?_];have F:=wYa P;have nl:=(List.nodup_cons.mp g.n).1;have lp:l≠p:=λz=>nl (by rw[z];exact F);have kp:jf (ji x (l::s)) (upd x p (.lst (I++[v]))):=λb u z=>by
      let q M W:=Jb z;rw[jp λy=>M (by rw[y];exact List.mem_cons_of_mem _ F)];exact W
     have Q:∀a∈l::s++rest O l s,a∈O:=λa A=>by
      rcases uWa A with z|z
      ·exact(g.f a z).1
      ·exact(yS.mp z).1
     have N:jf (ji x O) (ji (upd x p (.lst (I++[v]))) (l::s++rest O l s)):=by
      intro b u z;let q M W:=Jb z;rw[jS λy=>M (Q b y),jp λy=>M Sa];exact W
     have t:jf (ji H O) _:=jt w;have x':Yw X.K (upd x p (.lst (I++[v]))) (ji (upd x p (.lst (I++[v]))) (l::s++rest O l s)) l s {h with ls:=h.ls.set j (m++[d])}:=by
      refine#[#[dx,vs,by rw[jp lp];exact w _ _ h1,n1,n2,(rp.same t).same N],?_];have es:s=s.set j p:=by
       let q hj ej:=uSa P;rw[<-ej,List.set_getElem_self]
      have:=Yl.set (t.trans N) (b:=p) #[_,jz,((ru.same t).same N).snoc (rv.same N)] el λk a hk A u z=>by
       rw[jp λy=>hk ?_]
       ·exact w a u z
       ·subst y;exact(List.getElem?_inj (uSa A).1 (List.nodup_cons.mp g.n).2).mp (A.trans P.symm)
      rw[<-es]at this;exact this
     let q R2 s2:=R1.hmove L1 kp x' g.n λa A=>.inl A;exact fi _ _ _ R2 ((jt w).trans s2)
    ·rw[if_neg UQ]at o;exact Zn o
   ·simp_all
  |_=>exact Zn o
end
structure HPost (K:Fr) (H O l ps H' ps' h') where
 s:jf (ji H (l::ps)) H'
 x:Yw K H' (ji H' (l::ps'++O)) l ps' h'
 n:(l::ps').Nodup
 p:∀a∈ps',a∈ps\/H a=J
abbrev Ob(K:Fr)(E:XK)(H:Hp)(O:L Addr)(l:Addr)(e:L Addr)(Q:VK)(c:HS):Rx->Prop
 |.ok d=>∀v b a,HPost K H O l e b a c->J2 K (ji b (l::a++O)) d v->Q v b
 |.xc p=>∀b a,HPost K H O l e b a c->PX K E p b
abbrev uT(K:Fr)(f:L Bool)(F:HS->L D->Y (Rx×HS)):Sp:=λe H Q E=>∃O d l b h c r,e=.ref l::c/\(∀a∈O,H a≠J)/\Yw K H (ji H (l::b++O)) l b h/\(l::b).Nodup/\(∀a∈l::b,a∉O)/\yJ K O (ji H (l::b)) f d c/\F h d=S r/\Ob K E H O l b Q r.2 r.1
abbrev Nf(r:Rx):Sl->Y (Rx×HS)
 |.lo true h=>S (r,h)
 |_=>J
@[simp] theorem ri(r h):Nf r (.lo B h)=S (r,h):=rfl
@[simp]abbrev W_(a:jD)(r:Rx):Y (Rx×HS):=(a[0]?).bind (Nf r)
abbrev eN:Rs->Y (Rx×HS)
 |.nx a=>W_ a (.ok .non)
 |.rh d a=>W_ a (.ok d)
 |.xc p a=>W_ a (.xc p)
 |_=>J
@[simp] theorem rj(a):eN (.nx a)=W_ a (.ok .non):=rfl
@[simp] theorem rl(d a):eN (.rh d a)=W_ a (.ok d):=rfl
@[simp] theorem rn(p a):eN (.xc p a)=W_ a (.xc p):=rfl
@[simp]abbrev ZD(e n)(b:DS)(h c):=(b (.lo B h::Zv e c n)).bind eN
@[simp]abbrev AO(b:DE)(a:jD):Y Rs:=(b a).bind λd=>S (.rh d a)
def Kz{a z}(e:W_ a r=S z):a[0]?=S (.lo B z.2)/\z.1=r:=by
 unfold W_ at e;cases h:a[0]? with
 |none=>rw[h]at e;exact Zn e
 |some s=>
  rw[h]at e;cases s with
  |lo q b=>
   cases q with
   |true=>obtain rfl:=Zj e;exact#[rfl,rfl]
   |false=>exact Zn e
  |_=>exact Zn e
section
variable{P:Program}{w:World}{K:Fr}{mg:Tj}{base:Heap}{x qual:Str}{st:Stmt}{f:Addr}{fd:FuncData}{N ps:L Str}{k n:Nat}{ks:L Bool}{body:DS}{F:L D->Y Rx}
def MV(Fu:Fun K x qual st f fd)(c:FnScope N ps Sb)(hk:ks.length+1=ps.length)(hn:N.length-ps.length=n)
  (hb:∀(cdv A T s H E),Room k (A.deeper (envOfC qual Sb s.heap.objs.size f cdv))->Jx (yl (yD P w) P w K mg base N qual Sb f cdv A T s H E) (defBody st) (tS K (PX K E) body)):
  FnOk P w K mg base (yD P w) (k+1) f fd ps (uT K ks (ZD ks n body)):=by
 let q oc od kV doc pm an cdv ct osl rfl lk hcd:=Fu.ex;refine An lk hcd c (λvs H Q E h=>?_) λA T s H vs Q E hr h=>?_
 ·let q O ds l pl h vs' r rfl _ _ _ _ ak _:=h;have:=ak.len;rw[vXa]
  lia
 ·let q O ds l pl h vs' r0 rfl al x nd nin ak e q:=h;refine#[_,hb _ A _ s H E hr,?_];let q r e1 e2:=jd e;have hl:N.length-(V.ref l::vs').length=n:=by have:=ak.len;rw[vXa];lia
  unfold L2.zR;rw[hl];have nn:∀a∈l::pl,ji H _ a=J:=λa m=>UD m;have al':∀a∈O,ji H _ a≠J:=λa m=>by
   rw[jS λz=>nin a z m];exact al a m
  have R0:=Wg (n:=n) ak al';have sd:jf (ji (ji H (l::pl)) O) (ji H (l::pl++O)):=λb u z=>by
   let q z1 z2:=Jb z;let q z3 z4:=Jb z2;rw[jS λy=>by grind];exact z4
  have no:∀(i:Nat) (X W),(Sl.lo B h::Zv ks ds n)[i]?≠S (.ow X W):=λi X W e=>by
   cases i with
   |zero=>cases e
   |succ i=>
    let q k' d' v _ _ h3:=Yh ak Sx e;cases k'<;>cases h3
  have nl:∀(i X W),(Sl.lo B h::Zv ks ds n)[i]?=S (.lo X W)->i=0/\X=B/\W=h:=λi X W e=>by
   cases i with
   |zero=>cases e;exact#[rfl,rfl,rfl]
   |succ i=>
    let q k' d' v _ _ h3:=Yh ak Sx e;cases k'<;>cases h3
  have R:Rel K (ji H (l::pl)) #[O,l] (.lo B h::Zv ks ds n) (List.map some (V.ref l::vs')++List.replicate n J) H (l::pl++O):=by
   refine#[?_,λa h=>vJa _ h,?_,al',?_,Yv,?_,?_,?_,?_,?_]
   ·have:=R0.len;rw[vXa,vWa,List.cons_append,vXa,this]
   ·grind
   ·intro a m;rcases uWa m with z|z
    ·let q o e:=x.at a z;rw[e];exact λz=>nomatch z
    ·exact al a z
   ·intro i d e;cases i with
    |zero=>cases e
    |succ i=>
     let q v h1 h2:=R0.cl i d e;exact#[v,h1,h2.same sd]
   ·intro i d e;cases i with
    |zero=>cases e
    |succ i=>exact R0.bo i d e
   ·intro i X W e;exact vDa e (no i X W)
   ·intro i j q1 q2 o1 o2 l e;exact vDa e (no i q1 o1)
   ·intro i X W e;let q rfl rfl rfl:=nl i X W e;exact#[l,pl,rfl,(λ_=>rfl),x,nd,λa m=>#[vIa _ m,nn a m,λ⟨j,q2,o2,y,_⟩=>no j q2 o2 y],λj q2 h2 y=>(nl j q2 h2 y).1]
  have key:∀(M I C UQ),Rel K _ #[O,l] M I C UQ->M[0]?=S _->∃t,HPost K H O l pl C t r0.2/\jf (ji C UQ) _:=λM I C UQ Z e=>by
   let q l2 t g:=Z.loi e;obtain rfl:=g.p rfl;have sb:∀a∈l2::t++O,a∈UQ:=λa m=>by
    rcases uWa m with z|z
    ·exact(g.f a z).1
    ·exact Z.sub a z
   refine#[_,#[Z.keep,g.x.mono (λa _ u z=>z) (yf sb),g.n,λa m=>?_],yf sb];have z:=(g.f a (wMa _ m)).2.1;by_cases y:a∈l2::pl
   ·rcases uTa y with y|y
    ·subst y;exact vDa m (List.nodup_cons.mp g.n).1
    ·exact .inl y
   ·rw[jS y]at z;exact .inr z
  refine#[_,_,_,_,r,R,e1,?_];cases r with
  |nx M=>
   let q e3 e4:=Kz e2;intro I C UQ Z _;let q t hp _:=key M _ C UQ Z e3;rw[e4]at q;exact q _ C _ hp rfl
  |rh d M=>
   let q e3 e4:=Kz e2;intro v I C UQ Z rv;let q t hp sd':=key M _ C UQ Z e3;rw[e4]at q;exact q v C _ hp (rv.same sd')
  |xc p M=>
   let q e3 e4:=Kz e2;intro I C UQ Z;let q t hp _:=key M _ C UQ Z e3;rw[e4]at q;exact q C _ hp
  |rt d=>exact Zn e2
  |rf o=>exact Zn e2
  |bk M=>exact Zn e2
  |ct M=>exact Zn e2
end
section
variable{X:Cx}{K:Fr}{E:XK}{e a:Expr}{es:L Expr}{st:Stmt}{pos p np apos:Pos}{dx:jD->Y (Rx×jD)}{i kk:Nat}{g:DG}{C:Addr}{m x:Str}{l:DA}{ks:L Bool}{k:Nat}{f:Addr}{fd:FuncData}{ps:L Str}{da:DE}
noncomputable abbrev Go:=jD->Y (Rx×jD)
abbrev Wm(K:Fr)(E:XK)(h:Hp)(n:FA)(j:L2.St)(H:Hp)(O:L Addr)(Q:VK)(o:jD):Rx->Prop
 |.ok d=>∀v b c,Rel K h n o j b c->jf (ji H O) (ji b c)->J2 K (ji b c) d v->Q v b
 |.xc p=>∀b c,Rel K h n o j b c->jf (ji H O) (ji b c)->PX K E p b
abbrev tY(K:Fr)(E:XK)(dx:Go):TE:=λd H Q=>∃c b h O r,Rel K c b h d H O/\dx h=S r/\Wm K E c b d H O Q r.2 r.1
@[simp]abbrev Z1(dx:Go)(k:D->DS)(b):=(dx b).bind λr=>match r.1 with
 |.ok d=>k d r.2
 |.xc p=>S (.xc p r.2)
def lc(h:PS X st (Y2 (tY K E dx) (yZ i))):PS X st (tS K (PX K E) (Z1 dx λd n=>S (.nx (n.set i (.cl d))))):=Jj h λD z H t=>by
 let je w u n O r R F f:=t;let ja u0 A o:=jd F;let q y I:=u0;refine#[w,u,n,O,_,R,A,?_];cases y with
 |ok d=>obtain rfl:=Zj o;exact λv b c j s q=>f _ b c (j.set q i) s
 |xc p=>obtain rfl:=Zj o;exact λb c j _=>f z b c j
def F2(h:PS X st (gj (tY K E dx))):PS X st (tS K (PX K E) (Z1 dx λ_ n=>S (.nx n))):=Jj h λD z H t=>by
 let je w u n O r R F f:=t;let ja v0 A o:=jd F;let q y I:=v0;refine#[w,u,n,O,_,R,A,?_];cases y with
 |ok d=>obtain rfl:=Zj o;exact λv b c j s q=>f _ b c j s
 |xc p=>obtain rfl:=Zj o;exact λb c j _=>f z b c j
def lf(h:PE X e (tY K E dx)):PS X (.Return (S e) pos) (tS K (PX K E) (Z1 dx λd n=>S (.rh d n))):=Jj (VP h) λD t H u=>by
 let je w z n O r R F f:=u;let ja w0 A o:=jd F;let q y I:=w0;refine#[w,z,n,O,_,R,A,?_];cases y with
 |ok d=>obtain rfl:=Zj o;exact λv b c j s q=>f v t b c j q
 |xc p=>obtain rfl:=Zj o;exact λb c j _=>f t b c j
def lg(h:PE X e (tE K c)):PS X (.Return (S e) pos) (tS K A (AO c)):=Jj (VP h) λD y H t=>by
 let je j u b O r R z f:=t;let ja d n o:=jd z;obtain rfl:=Zj o;exact#[j,u,b,O,d,R,n,λv w s q=>f v y w O (R.grow s) q]
theorem Wn(s:jf (ji H O) (ji o j)):∀{ks c b},ks.all id=B->yJ K O H ks c b->yJ K j o ks c b
 |[],[],[],_,_=>trivial
 |k::ks,_::_,_::_,h,a=>by
  rw[List.all_cons,Bool.and_eq_true]at h;let q d n:=h;subst d;exact#[J2.same s a.1,Wn s n a.2]
 |[],[],_::_,_,h=>h.elim
 |[],_::_,_,_,h=>h.elim
 |_::_,[],_,_,h=>h.elim
 |_::_,_::_,[],_,h=>h.elim
def AQ{t O A w q h a s UQ N F r Q}(R:Rel K P t A w o O)(c:LoI K P t.p A w o O i q h a s)(hk:ks.all id=B)(ak:yJ K O o ks UQ N)(e:F h UQ=S r)
  (fi:∀H,jf (ji H O) (ji o O)->Wm K E P t w H O Q (A.set i (.lo q r.2)) r.1->True) (f:Wm K E P t w o O Q (A.set i (.lo q r.2)) r.1):uT K ks F (.ref a::N) o Q E:=by
 have sb:∀b∈a::s++rest O a s,b∈O:=λb n=>by
  rcases uWa n with z|z
  ·exact(c.f b z).1
  ·exact(yS.mp z).1
 refine#[_,UQ,a,s,h,N,r,rfl,λb n=>R.al b (yS.mp n).1,c.x.mono (λ_ _ _ z=>z) (yf sb),c.n,λb n z=>(yS.mp z).2 n,Wn (λb u z=>?_) hk ak,e,?_]
 ·let q W z2:=Jb z;rw[jS λy=>W (yS.mp y).1,jS λy=>W (c.f b y).1];exact z2
 ·let q r1 h':=r;cases r1 with
  |ok d=>
   intro v T I j Z;let q R2 M:=R.hmove c j.s j.x j.n j.p;exact f v T _ R2 M Z
  |xc p=>
   intro T I j;let q R2 M:=R.hmove c j.s j.x j.n j.p;exact f T _ R2 M
def Wm.mono(s:jf (ji H O) (ji n O))(f:Wm K E u j o H O Q w r):Wm K E u j o n O Q w r:=by
 cases r with
 |ok d=>exact λv b c R t h=>f v b c R (s.trans t) h
 |xc p=>exact λb c R t=>f b c R (s.trans t)
@[simp]abbrev YV(i:Nat)(C:Addr)(m:Str)(F:HS->L D->Y (Rx×HS))(l:DA)(b:jD):Y (Rx×jD):=match b[i]? with
 |S (.lo q h)=>if h.C=C/\(JR m h.ns).isNone=B/\(JR m h.ms).isNone=B then(zh l b).bind λc=>(F h c).bind λr=>S (r.1,b.set i (.lo q r.2))else J
 |_=>J
def lh(hx:Yu (yD X.prog X.w) X E)(h:PE X e (wj C m (uT K ks F) [] E (yF i) (Y1 K l)))(o:l.map (·.1)=ks)(d:ks.all id=B):PE X e (tY K E (YV i C m F l)):=jR h λU H Q M=>by
 let je I UQ s O r R c f:=M;subst o;unfold YV at c;cases n:s[i]? with
 |none=>rw[n]at c;exact Zn c
 |some A=>
  rw[n]at c;cases A with
  |lo q h=>
   by_cases t:h.C=C/\(JR m h.ns).isNone=B/\(JR m h.ms).isNone=B
   ·dsimp only at c;rw[if_pos t]at c;let Yk rfl u w:=t;let ja z P c:=jd c;let ja r' y c:=jd c;obtain rfl:=Zj c;let Vl a pl b:=R.loi n;obtain⟨⟨dx,T,N,n1,n2,rp⟩,el⟩:=b.x;refine#[_,b.s,a,dx,_,rfl,N,by rw[List.lookup_append,Zw (by simpa using u),Zw (by simpa using w)];rfl,I,UQ,s,O,z,R,P,λT Z j W=>?_]
    (try dsimp only)
    rw[uFa];exact AQ (R.grow j) (b.grow j) d W y (λ_ _ _=>trivial) (f.mono (jt j))
   ·simp_all
  |_=>exact Zn c
@[simp]abbrev yE(i:Nat)(F:HS->L D->Y (Rx×HS))(l:DA)(b:jD):Y (Rx×jD):=match b[i]? with
 |S (.lo q h)=>(zh l b).bind λc=>(F h c).bind λr=>S (r.1,b.set i (.lo q r.2))
 |_=>J
def li(h:PE X e (Ak (uT K ks F) [] E (ZG (yF i) (Y1 K l))))(n:l.map (·.1)=ks)(d:ks.all id=B):PE X e (tY K E (yE i F l)):=jR h λUQ H Q z=>by
 let je y A s O r R c f:=z;subst n;unfold yE at c;cases o:s[i]? with
 |none=>rw[o]at c;exact Zn c
 |some w=>
  rw[o]at c;cases w with
  |lo q h=>
   let ja v u c:=jd c;let ja T t c:=jd c;obtain rfl:=Zj c;let Vl a N b:=R.loi o;refine#[_,b.s,y,A,s,O,v,R,u,λP M j I=>?_]
   (try dsimp only)
   rw[uFa];exact AQ (R.grow j) (b.grow j) d I t (λ_ _ _=>trivial) (f.mono (jt j))
  |_=>exact Zn c
noncomputable abbrev QV(C:Addr):HS:=#[C,[],[],[],[]]
def F5{a dx Hd}(h:H a=S (.ins C dx [])):Yw K H Hd a [] (QV C):=#[#[dx,[],h,rfl,rfl,jm.nil],trivial]
theorem MW{O A M F}{r:Rx×HS}{Q:VK}{T y s}(s1:jf H j)(UQ:∀a∈O,j a≠J)(t:ks.all id=B)(ak:yJ K O j ks A M)(e:F (QV C) A=S r)(R:j y=J)(nd:j s=J)(W:s≠y)
  (f:match r.1 with
   |.ok d=>d=.non/\∀h n,jf j h->Yw K h (ji h (y::n++O)) y n r.2->(y::n).Nodup->(∀a∈n,j a=J)->Q (.ref y) h
   |.xc p=>∀h,jf j h->PX K T p h):uT K ks F (.ref y::M) (upd (upd j s (.own y)) y (.ins C s [])) (λv H2=>v=.non/\Q (.ref y) H2) T:=by
 have yO:=λz=>UQ y z R;have N:jf j (upd (upd j s (.own y)) y (.ins C s [])):=λc u z=>by
  rw[jp (jU z R),jp (jU z nd)];exact z
 have P:jf j (ji _ [y]):=λc u z=>by
  rw[jS (by intro w;simp at w;exact jU z R w)];exact N c u z
 refine#[O,A,y,[],_,M,r,rfl,λb I z=>UQ b I (N.none z),F5 jz,by simp,λb I=>by rw[List.mem_singleton.mp I];exact yO,Wn (jt P) t ak,e,?_];let q r1 h':=r;have np:∀(h n),HPost K _ O y [] h n h'->∀a∈n,j a=J:=λh n o a Z=>by
  rcases o.p a Z with z|z
  ·cases z
  ·exact N.none z
 cases r1 with
 |ok d=>
  intro v h n o rv;let q rfl f:=f;exact#[rv,f h n (P.trans o.s) o.x o.n (np h n o)]
 |xc p=>exact λh n o=>f h (P.trans o.s)
@[simp]abbrev GY(i:Nat)(C:Addr)(F:HS->L D->Y (Rx×HS))(l:DA)(b:jD):Y Rs:=if Wl (b.set i .un)=B then(zh l b).bind λc=>(F (QV C) c).bind λr=>match r.1 with
 |.ok .non=>S (.nx (b.set i (.lo G r.2)))
 |_=>J else J
def F7(h:PS X st (Y2 (Am C (uT K ks F) [] E' (Y1 K l)) (yZ i)))(o:l.map (·.1)=ks)(c:ks.all id=B):PS X st (tS K Px (GY i C F l)):=Jj h λD M H Z=>by
 let je P UQ u O r R b f:=Z;subst o;unfold GY at b;by_cases v:Wl (u.set i .un)=B
 ·rw[if_pos v]at b;let ja N A b:=jd b;let ja x0 Q b:=jd b;let q T h':=x0;cases T with
  |xc p=>exact Zn b
  |ok d=>
   cases d<;>cases b;refine#[P,UQ,u,O,N,R,A,λvs w j ak y dy z I t=>?_]
   (try dsimp only)
   rw[uFa];refine MW (Q:=λx w=>yZ i x M w _) j (R.grow j).al c ak Q z I t #[rfl,λH' pl s x n p=>?_];let q R2 W:=R.hlay (j.trans s) v (j.none z) (λa ha=>j.none (p a ha)) n x;exact f _ _ _ R2 W
 ·simp_all
abbrev QW(C m)(F:L D->Y Rx)(x:D)(ds:L D):=match x with
 |.ins c b _=>if c=C/\(JR m b).isNone=B then F (x::ds)else J
 |.obj c b _ d _=>if c=C/\(JR m b).isNone=B/\(JR m d).isNone=B then F (x::ds)else J
 |_=>J
@[simp]abbrev yg(C m)(F:L D->Y Rx)(da:DE)(l b):=(da b).bind λx=>(zh l b).bind λc=>QW C m F x c
def QX(h:PE X e (wj C m (WY K (G::ks) F) [] E (tR K da) (Y1 K l)))(A:l.map (·.1)=ks):PE X e (tX K E (yg C m F da l)):=jR h λU H Q xx=>by
 let je H0 W UQ O r R c f:=xx;subst A;let ja x e1 c:=jd c;let ja Z e2 c:=jd c;refine#[H0,W,UQ,O,x,R,e1,λv H1 w P=>?_];have o:∀a,v=.ref a->F _=S r->Y1 K l U H1 λy H2=>WY K (G::l.map _) F (v::(y++[])) H2 Q E:=λa _ e3=>by
  refine#[H0,W,UQ,O,Z,R.grow w,e2,λy H2 z ak=>?_]
  (try dsimp only)
  rw[uFa];refine#[O,x::Z,r,(R.grow (w.trans z)).al,#[P.same z,ak],e3,?_];cases r with
  |ok d=>exact λv T s r=>f v T ((w.trans z).trans s) r
  |xc p=>exact λT s=>f T ((w.trans z).trans s)
 cases x with
 |ins t u xs=>
  have n:(if t=C/\(JR m u).isNone=B then F _ else J)=S r:=c;by_cases j:t=C/\(JR m u).isNone=B
  ·rw[if_pos j]at n;let q N I:=j;subst N;have b:=P;let jL a dx y rfl M n1 _:=b.ins;exact#[a,dx,_,rfl,M,Zw (by simpa using I),o a rfl n]
  ·simp_all
 |obj t u xs ms ys=>
  have n:(if t=C/\(JR m u).isNone=B/\(JR m ms).isNone=B then F _ else J)=S r:=c;by_cases j:t=C/\(JR m u).isNone=B/\(JR m ms).isNone=B
  ·rw[if_pos j]at n;let Yk rfl I hm:=j;have b:=P;let VG a dx y us rfl M _:=b.obj;exact#[a,dx,_,rfl,M,by rw[List.lookup_append,Zw (by simpa using I),Zw (by simpa using hm)];rfl,o a rfl n]
  ·simp_all
 |_=>exact Zn c
end
abbrev Js(f:Str):L Str->Y Nat
 |[]=>J
 |g::r=>if g=f then S 0 else(Js f r).map (· + 1)
noncomputable abbrev SK(b:L Str)(a:L V):L (Uv×V):=(b.map Sum.inr).zip a
section
variable{X:Cx}{pins:Tq}{U:L2.St}{H:Hp}{s:Shared}{a b:Addr}{kvs:L (Uv×V)}{ep:Nat}{k:Str}{K:Fr}
def Zk(I:Inv X pins U H s)(h:H a=S (.dK kvs ep)):kvs.length<=sizeLine/\(a==sysModules)=G/\∃d c,KV kvs d/\Cm s.heap a c ep/\KeysOf (y9 X.prog X.w) c/\Pairs (y9 X.prog X.w) c.toList d/\(d.map (·.1)).Nodup:=by
 let JY z y d u0:=show JB _ _ H _ a _ from I.hok a _ h;let YG r o c e v0:=u0;let yY i l g j f:=v0;exact#[z,y,d,c,r,#[o,e,i,l],g,j,f]
def uU{c}(r:Cm s.heap a c ep)(g:KeysOf (y9 X.prog X.w) c)(f:Pairs (y9 X.prog X.w) c.toList d)(j:(d.map (·.1)).Nodup):s.heap.DictOf (y9 X.prog X.w) a d:=by
 let jw o h e i:=r;exact#[o,c,ep,h,e,i,g,f,j]
theorem AR:∀{d f c},KV (SK d f) c->d.length=f.length->match Js k d with
  |S j=>∃v u,f[j]?=S v/\valueAt c (.inr k)=S u/\jI v u
  |none=>valueAt c (.inr k)=J
 |[],[],c,r,_=>by cases r;rfl
 |g::d,v::f,c,r,h=>by
  cases r with
  |@cons p q x l o t=>
   let q m w:=o;rw[Js];by_cases e:g=k
   ·rw[if_pos e];refine#[v,_,rfl,?_,w];unfold valueAt;rw[List.find?_cons,<-m,e];simp
   ·rw[if_neg e];have i:=AR t (by simpa using h);have n:valueAt (q::l) (.inr k)=valueAt l (.inr k):=by
     unfold valueAt;rw[List.find?_cons,<-m];have:decide ((Sum.inr g:Uv)=Sum.inr k)=G:=vBa λz=>e (Sum.inr.inj z);rw[this]
    rw[n];cases z:Js k d with
    |none=>rw[z]at i;exact i
    |some j=>rw[z]at i;exact i
def ad{c d}(r:KV (SK c d) f)(h:c.length=d.length)(e:Js k c=S j):∃v u,d[j]?=S v/\valueAt f (.inr k)=S u/\jI v u:=by
 have:=AR (k:=k) r h;rw[e]at this;exact this
def eP{d}(r:KV (SK c f) d)(h:c.length=f.length):(valueAt d (.inr k)).isSome=(Js k c).isSome:=by
 have:=AR (k:=k) r h;cases e:Js k c with
 |none=>rw[e]at this;rw[this];rfl
 |some j=>rw[e]at this;let jc _ u _ z _:=this;rw[z];rfl
@[simp]abbrev J5(ks k):=if(Js k ks).isSome=B then ks else ks++[k]
abbrev J0(ks:L Str)(d:L c)(k:Str)(v:c):L c:=match Js k ks with
 |S j=>d.set j v
 |none=>d++[v]
def wC{v:V}(h:c.length=d.length):(J5 c k).length=(J0 c d k v).length:=by
 unfold J5 J0;cases e:Js k c with
 |none=>simp[h]
 |some j=>simp[h]
theorem Br(y:jI v u):∀{d l i},KV (SK d l) i->d.length=l.length->(i.map (·.1)).Nodup->KV (SK d (match Js k d with
  |S j=>l.set j v
  |none=>l)) (i.map λc=>if c.1=.inr k then(c.1,u)else c)/\(i.any λc=>decide (c.1=.inr k))=(Js k d).isSome
 |[],[],i,r,_,_=>by cases r;exact#[.nil,rfl]
 |g::d,w::l,i,r,h,P=>by
  cases r with
  |@cons p q R n O t=>
   let q f C:=O;let q F I:=List.nodup_cons.mp P;let q m M:=Br y t (by simpa using h) I;rw[Js,vWa,List.any_cons];by_cases e:g=k
   ·subst e;rw[if_pos rfl,if_pos f.symm];refine#[?_,by rw[decide_eq_true f.symm];rfl];have Q:∀x∈n,x.1≠Sum.inr g:=λx o z=>F (by
     show q.1∈_;rw[<-f,<-z];exact List.mem_map.mpr #[x,o,rfl])
    have N:(n.map λc=>if c.1=.inr g then(c.1,u)else c)=n:=by
     refine(List.map_congr_left λx o=>?_).trans (List.map_id n);rw[if_neg (Q x o)];rfl
    rw[N];exact .cons #[f,y] t
   ·have A:=λz=>e (Sum.inr.inj (f.trans z));rw[if_neg e,if_neg A,decide_eq_false A,Bool.false_or,M];refine#[?_,by simp];cases z:Js k d with
    |none=>rw[z]at m;exact .cons #[f,C] m
    |some j=>rw[z]at m;exact .cons #[f,C] m
def AS{l:L e}{m d}{c:L f}(h:Paired F l m)(q:Paired F d c):Paired F (l++d) (m++c):=by
 induction h with
 |nil=>exact q
 |cons h _ i=>exact .cons h i
def Bs(f:jI v u){c d e}(r:KV (SK c d) e)(h:c.length=d.length)(l:(e.map (·.1)).Nodup):KV (SK (J5 c k) (J0 c d k v)) (stored e (.inr k) u):=by
 let q g i:=Br f r h l;unfold stored J5 J0;rw[i];cases z:Js k c with
 |none=>
  rw[if_neg Sx,if_neg Sx];unfold SK;rw[uDa,List.zip_append Sa];exact AS r (.cons #[rfl,f] .nil)
 |some j=>
  rw[z]at g;exact g
abbrev eQ:R2:=λx y H Q=>∃a c d ep k j v,x=.ref a/\y=.str k/\H a=S (.dK (SK c d) ep)/\c.length=d.length/\Js k c=S j/\d[j]?=S v/\Q v H
def MX:Gi X eQ:=by
 intro c d pins s U H x y v u Q I p w h n;let wa a R P ep k j v rfl rfl y0:=h;let yY o M i m q:=y0;subst p;let q t rfl:=w;let JY z UQ W z0:=Zk I o;let J3 Z r g A N F:=z0;have e:=uU g A N F;let jc T O f C l:=ad r M i;rw[m]at f;obtain rfl:=Zj f;exact tail_any e.typeIs slot_dict_getitem.lookup (wpAny_getItem_of (zb _ _ _ _) e.mapOf C #[_,H,I.tok _,l,q]) n
abbrev CI(c:Bool):R2:=λx y H Q=>∃a d e ep k,y=.ref a/\x=.str k/\H a=S (.dK (SK d e) ep)/\d.length=e.length/\Q (.bl (xor c (Js k d).isSome)) H
def CJ:Jh X (compareOp .In) (CI G):=by
 intro pins s U H x y v u Q I m c h;let Jw a n o ep k rfl rfl j i q:=h;subst c;let q t rfl:=m;let JY z l p k0:=Zk I j;let J3 w r e g d f:=k0;refine wpAny_in_of (zb _ _ _ _) l (uU e g d f).mapOf #[_,H,I.tok _,?_,q];rw[eP r i,Bool.false_xor];rfl
def Xz:Jh X (compareOp .NotIn) (CI B):=by
 intro pins s U H x y v u Q I m c h;let Jw a n o ep k rfl rfl j i q:=h;subst c;let q t rfl:=m;let JY z l p w1:=Zk I j;let J3 w r e g d f:=w1;refine wpAny_notIn_of (zb _ _ _ _) l (uU e g d f).mapOf #[_,H,I.tok _,?_,q];rw[eP r i,Bool.true_xor];rfl
abbrev eS:V->V->V->Hp->(Hp->Prop)->Prop:=λo i v H Q=>∃a c e ep k,o=.ref a/\i=.str k/\H a=S (.dK (SK c e) ep)/\c.length=e.length/\c.length<sizeLine/\∀d,Q (upd H a (.dK (SK (J5 c k) (J0 c e k v)) d))
def lj:aY X eS:=by
 intro pins s U H o i v ov iv u Q I x O P h;let Jw a d m ep k rfl rfl l w j1:=h;let q hz q:=j1;subst x;let q t rfl:=O;let JY z M vs k1:=Zk I l;let J3 es r rd Z F p:=k1;refine wpAny_setItem_pairs (hsz:=by rw[<-Paired.length r];exact z) (zb _ _ k t) (uU rd Z F p) λUQ g A=>?_;let yI o T j n y e3 R W N:=g;have ln:(SK (J5 d k) (J0 d m k v)).length<=sizeLine:=by
  rw[List.length_zip,vYa,wC w,Nat.min_self];unfold J0;split
  ·grind
  ·simp;lia
 have f:JB _ _ (upd H a (.dK (SK (J5 d k) (J0 d m k v)) j)) UQ a (.dK _ _):=#[ln,M,_,Bs P r w p,o,_,n,y,e3,R,W,N]
 exact#[_,I.write (by rw[l];trivial) (.inl rfl) (λc z C e=>(A.2 c C).trans e) #[_,n] f,q _]
abbrev MY:TE:=λ_ H Q=>∀p,H p=J->Q (.ref p) (upd H p (.dK [] 0))
def F8:PE X (.Dict [] [] c) MY:=λpins s U H Q I h=>
 wpAny_Dict_empty #[.ref _,_,I.laid (o:=.dK [] 0) (λ_ _ q=>wIa _ q) (wPa _)
  #[Nat.zero_le _,beq_eq_false_iff_ne.mpr (Ne.symm (wTa (Inv.big I))),[],.nil,_,_,wJa _ rfl,#[rfl,rfl,rfl],rfl,(by intro e d;simp at d),.nil,List.nodup_nil],rfl,h _ (I.hok.fresh (wPa _))]
def AU:zQ X (.type "dict") (λf H Q=>∃a kvs ep,f=[.ref a]/\H a=S (.dK kvs ep)/\∀l c,H l=J->Q (.ref l) (upd H l (.dK kvs c))):=by
 intro pins s U H f R Q I r h;let JL a kvs ep rfl e q:=h;cases r with
 |cons F t=>
 cases t;subst F;let JY z A N v2:=Zk I e;let J3 O r i y m x:=v2;refine kt_call_dict A (uU i y m x) (by rw[<-Paired.length r];exact z) λP d w=>?_;let yI o M c j p u C v n:=d;refine#[.ref _,_,I.laid (o:=.dK _ _) (λb q g=>?_) (wPa _) #[z,beq_eq_false_iff_ne.mpr (Ne.symm (wTa (Inv.big I))),N,r,o,_,j,p,u,C,v,n],rfl,q _ _ (I.hok.fresh (wPa _))];exact(w.2 b (wTa (wLa g))).trans (wIa _ g)
def Bt:zQ X (.builtin "len") (λc H Q=>∃a kvs ep,c=[.ref a]/\H a=S (.dK kvs ep)/\Q (.int kvs.length) H):=by
 intro pins s U H c o Q I r h;let JL a kvs ep rfl e q:=h;cases r with
 |cons g f=>
 cases f;subst g;let JY z l n x2:=Zk I e;let J3 p r m d j i:=x2;refine call_len_dict l (uU m d j i) (by rw[<-Paired.length r];rw[sizeLine_eq]at z;lia) ?_;rw[<-Paired.length r];exact#[.int _,H,I.tok _,#[_,rfl],q]
def ae(h:(y9 P w).is (.inr x) v=B):jI (.str x) v:=by
 rw[aX]at h;rcases yd h with⟨i,t,e,_⟩|⟨y,t,e,rfl⟩
 ·cases e
 ·cases e;exact#[t,rfl]
def lm{i:Nat}{k u}(f:e[i]?=S k)(d:c[i]?=S u):(SK e c)[i]?=S (.inr k,u):=by
 rw[List.getElem?_zip_eq_some];exact#[by simp_all,d]
abbrev yB:D->D->Y D
 |.dk d c,.str k=>(Js k d).bind λj=>c[j]?
 |_,_=>J
def lq:JN K eQ yB:=by
 intro O H a b d x y Q o c _ e q;unfold yB at e;split at e
 ·let ja j g l:=jd e;let jL p n ep rfl h r i:=o.dk;let ja v m f:=i.get l;exact#[p,_,n,ep,_,j,v,rfl,c.str,h,r,g,m,q v H Ss f]
 ·exact Zn e
abbrev ZP(c:Bool):D->D->Y D
 |.str k,.dk d _=>S (.bl (xor c (Js k d).isSome))
 |_,_=>J
def eT:JN K (CI c) (ZP c):=by
 intro O H a b d x y Q h f _ e q;unfold ZP at e;split at e
 ·obtain rfl:=Zj e;let jL p i ep rfl g j l:=f.dk;exact#[p,_,i,ep,_,rfl,h.str,g,j,q _ H Ss rfl]
 ·exact Zn e
def jm.putS{H e f d v c}(r:jm K H e f)(g:J2 K H d v):jm K H (J0 c e k d) (J0 c f k v):=by
 unfold J0;cases Js k c with
 |none=>exact r.snoc g
 |some j=>exact r.set g j
@[simp]abbrev gz(i:Nat)(e h:DE)(c:jD):Y Rs:=match c[i]? with
 |S (.ow q (.dk f g))=>(h c).bind λd=>(e c).bind λk=>match k with
  |.str k=>if f.length<sizeLine then S (.nx (c.set i (.ow q (.dk (J5 f k) (J0 f g k d)))))else J
  |_=>J
 |_=>J
variable{st:Stmt}{i:Nat}{dkk de:DE}{Px:Xp->Hp->Prop}{pos:Pos}
def lr(h:PS X st (Y2 (tE K de) (cJ (yF i) (tE K dkk) eS))):PS X st (tS K Px (gz i dkk de)):=Jj h λD U H N=>by
 let je u y m O r R c f:=N;unfold gz at c;cases g:m[i]? with
 |none=>rw[g]at c;exact Zn c
 |some C=>
 rw[g]at c;cases C with
 |ow q Z=>
  cases Z<;>try exact Zn c
  let ja d P c:=jd c;let ja k Q c:=jd c;cases k with
  |str k=>
   by_cases j:ks.length<sizeLine
   ·dsimp only at c;rw[if_pos j]at c;obtain rfl:=Zj c;let J3 l hq t w3 lo F:=R.ow i _ _ g;let q T ep UQ p A:=w3;refine#[u,y,m,O,d,R,P,λv H1 o W=>#[_,t,u,y,m,O,_,R.grow o,Q,λw H2 x n=>?_]];have e:=o.trans x;have M:=R.grow e;subst n;refine#[l,ks,T,ep,k,rfl,rfl,e _ _ UQ,p,j,λI=>f _ _ O (M.change g hq t lo F #[_,_,jz,wC p,(A.same (jt e)).putS (W.same (jt x))]) ?_];rw[yo lo];exact jt e
   ·dsimp only at c;rw[if_neg j]at c;exact Zn c
  |_=>exact Zn c
 |_=>exact Zn c
@[simp]abbrev qU(_:jD):Y OD:=S (.dk [] [])
def lu:PE X (.Dict [] [] pos) (tF K qU):=jR F8 λU H Q d=>by
 let je f g h O o R e q:=d;obtain rfl:=Zj e;exact λp c=>q p _ (jZ c _) c #[[],0,jz,rfl,jm.nil]
abbrev UF:L D->Y OD
 |[.dk d c]=>S (.dk d c)
 |_=>J
def Fa:DV K (λj H Q=>∃a kvs ep,j=[.ref a]/\H a=S (.dK kvs ep)/\∀l c,H l=J->Q (.ref l) (upd H l (.dK kvs c))) UF:=by
 intro O H t u w o Q h e q;unfold UF at e;split at e
 ·obtain rfl:=Zj e;let ja v rfl r:=V3 h;let jL p n ep rfl m f g:=r.dk;exact#[p,_,ep,rfl,m,λl c d=>q _ _ (jZ d _) d #[n,_,jz,f,g.same (YE (jZ d _) d)]]
 ·exact Zn e
abbrev Vt:L D->Y D
 |[.dk c _]=>S (.int c.length)
 |_=>J
def lv:Fn K (λf H Q=>∃a kvs ep,f=[.ref a]/\H a=S (.dK kvs ep)/\Q (.int kvs.length) H) Vt:=by
 intro O H l m n d Q h j e q;unfold Vt at e;split at e
 ·obtain rfl:=Zj e;let ja v rfl r:=V3 h;let jL p t ep rfl g c o:=r.dk;refine#[p,_,ep,rfl,g,q _ H Ss ?_];show _=_;rw[List.length_zip,vYa,<-c,Nat.min_self]
 ·exact Zn e
def RP.dk{w ks}(r:RP K u w H O (.dk ks vs) v):∃p c ep,v=.ref p/\ks.length=c.length/\∀(d e),jf u d->jf (ji u w.l) (ji d e)->jf (ji H O) (ji d e)->d p=S (.dK (SK ks c) ep)/\jm K (ji d e) vs c:=by
 rcases r with r|r|⟨l,o,rfl,t,x⟩|⟨_,_,_,_,t,_⟩
 ·let jL p c ep rfl f h j:=r;exact#[p,c,ep,rfl,h,λd e n g m=>#[(Jb (m _ _ f)).2,j.same m]]
 ·let jL p c ep rfl f h j:=r;exact#[p,c,ep,rfl,h,λd e n g m=>#[(Jb (g _ _ f)).2,j.same g]]
 ·cases o<;>cases t;let jc c ep f h j:=x;exact#[l,c,ep,rfl,h,λd e n g m=>#[n _ _ f,j.same g]]
 ·cases t
end
abbrev Wo(l:L (KD×Bool))(k b):=(l.any λp=>WI p.1 k&&(p.2==b))&&l.all λp=>!(WI p.1 k)||(p.2==b)
def Fb(h:Wo l k b=B):(k,b)∈l/\∀v,(k,v)∈l->v=b:=by
 unfold Wo at h;rw[Bool.and_eq_true,List.any_eq_true,List.all_eq_true]at h;obtain⟨⟨⟨j,c⟩,f,d⟩,g⟩:=h;rw[Bool.and_eq_true,Ut]at d;let q e a:=d;have a:c=b:=by simpa using a
 subst e a;refine#[f,λv i=>?_];have:=g _ i;rw[Bool.or_eq_true]at this;rcases this with z|z
 ·have y:WI j j=B:=Ut.mpr rfl;rw[y]at z;exact Zf z
 ·simpa using z
section
variable{K:Fr}{H:Hp}{a:Addr}{lz:L (KD×Bool)}{m m':L KD}
mutual
theorem QY(h:H a=S (.mem K lz m)):∀{d k v},Jz d=S k->J2 K H d v->J2 K (upd H a (.mem K lz m')) d v
 |.int i,k,v,e,r=>by exact r
 |.bl i,k,v,e,r=>by exact r
 |.str i,k,v,e,r=>by exact r
 |.tup f,k,v,e,r=>by
  let ja g l n:=jd e;let jc b o rfl t y:=r;have t:wd K H b o:=t;exact#[b,o,rfl,t.stay λc u A q=>by
   rw[jp λz=>by rw[z,h]at q;obtain rfl:=Zj q;exact A];exact q,qc h l y]
 |.non,k,v,e,r=>by rw[Jz]at e<;>first|exact Zn e|(intros;contradiction)
 |.lst _,k,v,e,r=>by rw[Jz]at e<;>first|exact Zn e|(intros;contradiction)
 |.ins _ _ _,k,v,e,r=>by rw[Jz]at e<;>first|exact Zn e|(intros;contradiction)
 |.obj _ _ _ _ _,k,v,e,r=>by rw[Jz]at e<;>first|exact Zn e|(intros;contradiction)
 |.scr _,k,v,e,r=>by rw[Jz]at e<;>first|exact Zn e|(intros;contradiction)
 |.dct _ _,k,v,e,r=>by rw[Jz]at e<;>first|exact Zn e|(intros;contradiction)
 |.exn _ _,k,v,e,r=>by rw[Jz]at e<;>first|exact Zn e|(intros;contradiction)
 |.mem _,k,v,e,r=>by rw[Jz]at e<;>first|exact Zn e|(intros;contradiction)
 |.dk _ _,k,v,e,r=>by rw[Jz]at e<;>first|exact Zn e|(intros;contradiction)
theorem qc(h:H a=S (.mem K lz m)):∀{f g j},vI f=S g->jm K H f j->jm K (upd H a (.mem K lz m')) f j
 |[],g,j,e,r=>by exact r
 |d::f,g,j,e,r=>by
  let ja k l e:=jd e;let ja x n e:=jd e;let jc v w rfl p s:=r;exact jm.cons (QY h l p) (qc h n s)
end
@[simp]abbrev qV(f g i:Nat)(d e:DE)(c:jD):Y Rs:=if i≠f/\i≠g then(match(dC g c)with
 |S (.mem l)=>(dV f c).bind λh=>(ZK h).bind λk=>(d c).bind λd1=>(e (c.set i (.cl d1))).bind λv=>match v with
  |.bl b=>if Wo l k b=B then S (.rt (.bl b))else J
  |_=>J
 |_=>J)else J
variable{X:Cx}{s k y:Str}{p1 p2 p3 p4 p5 p6 p7 p8 p9 p10 p11 p12 p13 p14:Pos}{e1 e2:Expr}{js jk i n:Nat}{de1 de2:DE}{Px:Xp->Hp->Prop}
def MZ{b}(h:dC j b=S d):b[j]?=S (.cl d):=by
 unfold dC at h;split at h
 ·obtain rfl:=Zj h;assumption
 ·exact Zn h
def M_{t H p O g h j d}(R:Rel K t p g h H O)(b:dV j g=S d):∃v,h[j]?=S (S v)/\RB K O H d v:=by
 unfold dV at b;split at b
 ·cases b;let ja v e1 r:=R.cl j _ Sv;exact#[v,e1,.inl r]
 ·cases b;let ja v e1 r:=R.bo j _ Sv;refine#[v,e1,?_];rcases r with r|⟨l,o,e2,e,c⟩|⟨l,f,o,e2,e,c⟩
  ·exact .inl (r.same R.in0)
  ·exact .inr (.inl #[l,o,e2,e,c.same (R.keep l) R.in0])
  ·exact .inr (.inr #[l,f,o,e2,e,c.mono (λa _ u z=>R.keep a u z) R.in0])
 ·cases b;let ge l _ e1 c _:=R.ow j _ _ Sv;exact#[_,e1,.inr (.inl #[l,_,rfl,rfl,c])]
 ·cases b;let JK l f e1 _ c _:=R.lo j _ _ Sv;exact#[_,e1,.inr (.inr #[l,f,_,rfl,rfl,c])]
 ·exact Zn b
def Fc(W:Room n X.A)(hs:∀p,PE X (.Name s p) (yF js))(hk:∀p,PE X (.Name k p) (yF jk))(ha:PS X (.Assign [.Name y p4] e1 p5) (Y2 (tE K de1) (yZ i)))(he:PE X e2 (tE K de2))(hK:X.K=K)
  (h1:swapsWithSole [.Subscript (.Name k p6) (.Name s p7) p8] e2 p9.line X.env=pure G) (h2:swappedStores [.Subscript (.Name k p6) (.Name s p7) p8] e2 X.env=pure J):
  Jx X [.If (.Compare (.Name s p1) [.NotIn] [.Name k p2] p3) [.Assign [.Name y p4] e1 p5,.Assign [.Subscript (.Name k p6) (.Name s p7) p8] e2 p9] [] p10,.Return (S (.Subscript (.Name k p11) (.Name s p12) p13)) p14] (tS K Px (qV js jk i de1 de2)):=by
 subst hK;refine VW (VO (Dp (XQ (QS W) (hs p1) (hk p2) rfl) (VO ha (Uy (Uz he (Q7 (hk p6) (hs p7) (f_ W) λ_=>rfl) h1 h2))) XJ) (Uy (VP (Ap (IW W) (hk p11) (hs p12) λ_ _=>rfl)))) λD U H xx=>?_;let je H0 O0 ρ O r R d f:=xx;unfold qV at d;by_cases hi:i≠js/\i≠jk
 ·rw[if_pos hi]at d;let q N F:=hi;cases hm:dC jk ρ with
  |none=>rw[hm]at d;exact Zn d
  |some dm=>
  rw[hm]at d;cases dm<;>try exact Zn d
  let ja P w1 d:=jd d;let ja h u d:=jd d;let ja d1 w3 d:=jd d;let ja v w4 d:=jd d;cases v with
  |bl Q=>
   by_cases T:Wo l h Q=B
   ·dsimp only at d;rw[if_pos T]at d;obtain rfl:=Zj d;let q t1 t2:=Fb T;let ja v0 A UQ:=R.cl jk _ (MZ hm);revert UQ;intro z0;let ja a rfl UQ:=z0;have g:=Yv _ _ UQ;let ja v1 I q1:=M_ R w1;let ja b rfl C:=Iy q1 u;have o:∀(e:L2.St) (t:Hp),e[js]?=S _->e[jk]?=S _->jf H t->Hu (XN (eM X.K) (yF jk) (yF js)) D e _:=λe t x y2 sH=>by
     have j:=sH _ _ g;refine#[_,y2,_,x,a,b,l,h,P,rfl,rfl,jz,QY j (vW u).1 (C.same sH),u,λv hv=>?_];have eH:upd (upd t a (.mem X.K l [h])) a (.mem X.K l [])=t:=by
      funext c;by_cases w:c=a
      ·subst w;rw[jz,j]
      ·rw[jp w,jp w]
     rw[eH,t2 v hv];exact f _ t (R.keep.trans sH) rfl
    refine#[_,I,_,A,a,b,l,h,P,rfl,rfl,g,C,u,#[B,rfl,ZI #[H0,O0,ρ,O,d1,R,w3,λv H1 z Z=>?_]],#[G,rfl,ZH (o U H I A Ss)]];refine#[H0,O0,_,O,.bl Q,(R.grow z).set Z i,w4,λv2 H2 M rv2=>?_];subst rv2;have y0:(U.set i (S v))[jk]?=S (S (.ref a)):=by rw[Jn (Ne.symm F)];exact A
    have x:(U.set i (S v))[js]?=S (S (.ref b)):=by rw[Jn (Ne.symm N)];exact I
    exact#[_,y0,_,x,a,b,l,h,P,Q,rfl,rfl,rfl,(z.trans M) _ _ g,C.same (z.trans M),u,t1,o _ H2 x y0 (z.trans M)]
   ·dsimp only at d;rw[if_neg T]at d;exact Zn d
  |_=>exact Zn d
 ·simp_all
end
end DS
namespace L2
open PySem PySem.Spec PyProof.Rows PySem.Builtin PySem.Builtin.Str
variable{X:Cx}
def Bu:Jh X (compareOp .LtE) (λx y H Q=>∃i j,x=.str i/\y=.str j/\Q (.bl (!(decide (j.cps.toList<i.cps.toList)))) H):=by
 intro a s d H x y v u Q I c b h;let jc i j rfl rfl q:=h;let q t rfl:=c;let q e rfl:=b;exact PySem.P.le_str (J4 I q rfl)
theorem qd:∀{a b},jB (a.map V.str) b->∃l ,strValues l=b/\l.map (·.1)=a
 |[],_,h=>by cases h;exact#[[],rfl,rfl]
 |x::a,_,h=>by
  cases h with
  |cons r t=>
   let q k rfl:=r;let ja l c d:=qd t;exact#[(x,k)::l,by rw[<-c];rfl,by simp_all]
theorem qe:∀(l),jB ((l.map (·.1)).map V.str) (strValues l)
 |[]=>.nil
 |(x,t)::l=>.cons #[t,rfl] (qe l)
abbrev lx:V->L V->Hp->VK->Prop:=λx c H Q=>∃a b,x=.str a/\c=[.str b]/\1<=b.length/\a.length<sizeLine/\∀p,H p=J->Q (.ref p) (upd H p (.lst ((Txt.split a b).map V.str)))
def CK:Dx X "str.split" lx:=by
 intro i s n H x M v N Q I y p h;let vc a b rfl rfl w C q:=h;let q t rfl:=y;let Ub A rfl u rfl:=p.one;have z:=split_weight a b w;have j:(b.length==0)=G:=by lia
 have c:∀(l:L (Str×Tok)) (k),l.map _=Txt.split a b->EP X _ n Q _ {s with toks:=k,heap:=s.heap.push {cls:=.type "list",data:=.seq _} }:=λl k e=>by
  have r:=qe l;rw[e]at r;exact#[.ref _,_,I.laid (λb o e=>wIa _ e) (wPa _) (show JB _ _ _ _ _ (.lst _) from#[by rw[vYa];omega,_,_,r,wJa _ rfl]),rfl,q _ (I.hok.fresh (wPa _))]
 cases d:(decide (a.length<b.length)||decide (strKind a<strKind b))
 ·cases f:(occurrences a b 0 _ _).isEmpty
  ·have m:Txt.split a b=partsBetween a _ _:=(if_neg (ne_true_of_eq_false d)).trans (if_neg (ne_true_of_eq_false f));have g:(partsBetween a (occurrences a b 0 a.length (a.length+1)) b.length).length<=sizeLine:=by rw[<-m];omega
   refine call_meets F.slot_str_split (typeIs_str _ _ _) F.entry_str_split (F.args_str_split_2 _ _) (meets_str_split_sep a b t u d j f (by omega) g) ?_;rw[strsFrom_eq];exact c _ _ ((numbered_texts _ _).trans m.symm)
  ·exact call_meets F.slot_str_split (typeIs_str _ _ _) F.entry_str_split (F.args_str_split_2 _ _) (meets_str_split_not_found a b t u d j f) (c [(a,t)] _ ((if_neg (ne_true_of_eq_false d)).trans (if_pos f)).symm)
 ·exact call_meets F.slot_str_split (typeIs_str _ _ _) F.entry_str_split (F.args_str_split_2 _ _) (meets_str_split_cannot_occur a b t u d) (c [(a,t)] _ (if_pos d).symm)
abbrev Oc:V->Y Int->Y Int->Hp->VK->Prop:=λx lo a H Q=>∃z,x=.str z/\z.length<=sizeLine/\Q (.str (Txt.slice z lo a)) H
def af(p:IsPart v o):∃q ,partValue q=v/\q.map (·.1)=o:=by
 cases p with
 |none=>exact#[J,rfl,rfl]
 |int i t=>exact#[S (i,t),rfl,rfl]
def ly:H_ X Oc:=by
 intro a s r H x v w p lo n y Q I j b d i h;let jw z rfl c q:=h;let q t rfl:=j;let ja l rfl rfl:=af d;let ja u rfl rfl:=af i;let jw o e g f:=b;exact#["str",_,F.slot_str_getitem.lookup,typeIs_str _ _ _,wpAny_getItem_str_slice (st:=J) #[o,e,g,f] rfl (post_val_or_str #[wSa (Txt.slice_le z _ _) c,λm k=>#[.str _,H,I.tok _,#[_,rfl],q]])]
end L2
namespace DS
open PySem PySem.Spec PyProof.Rows L2
section
variable{X:Cx}{K:Fr}{e a b:Expr}{de da db:DE}{pos:Pos}
abbrev CL(x:Str):It:=#[λi _=>i<x.cps.size,λi H v d=>d=H/\∃c,x.cps[i]?=S c/\v=.str #[#v[c]],λi _=>x.cps.size<=i]
def Fd{x:Str}(h:i<x.cps.size):x.cps[i]?=S x.cps[i]:=by simp
def CM(f x t p)(j:p ="str_ascii_iterator"\/p ="str_iterator"):Turn P w K tg (CL x) [f] f (λi h=>h.IsStrIter f p x t i) where
 mem:=by simp
 obj:=λi h st b m=>by
  have e:b=f:=by simpa using m
  subst e;let jw o e c d:=st;exact#[o,e,λv z=>by lia]
 keep:=λi h l st k=>by
  let ja o e c:=st;exact#[o,k f Sx o e,c]
 item:=by
  intro X hP W Z F i r s N H E I A st T;subst hP W Z;have n:=Fd (show i<x.cps.size from T);let Jy Q O f2 R C M:=A f Sx;have g:∀(l),l.IsStrIter f p x t _->Heap.SameBut f _ l->∃u,S (Value.str _ s.toks)=S u/\wpAny Sz X.A (letOwnedTupleGo tg _ u) (λ_ s2=>∃v UQ,Inv X _ N UQ s2/\jI v u/\(CL x).yld i H v UQ/\s2.heap.IsStrIter f p x t (i+1)/\∀b∈[f],UQ b=J) E _:=λl y sb=>by
   have I1:=I.turned (t':=s.toks+1) (λb o m e=>(sb.2 b m).trans e) Q O R C M;let jw o e c d:=id y;exact#[_,rfl,kS e c d (by rcases j with rfl|rfl<;>decide) #[.str _,H,I1,#[_,rfl],#[rfl,_,n,rfl],y,λb m=>(A b m).1]]
  rcases j with rfl|rfl
  ·exact wpAny_pyNext_ascii_item st n g
  ·exact wpAny_pyNext_wide_item st n g
 done:=by
  intro X hP W Z F i r s N H E I A st T;have n:x.cps[i]?=J:=by simpa using (show x.cps.size<=i from T)
  let Jy Q O f2 R C M:=A f Sx;have g:∀l,Heap.ExtBut f _ l->(J:Y Value)=J/\Inv X _ N H _:=λl eb=>#[rfl,I.turned (t':=s.toks) (λb o m e=>eb b o m e) Q O R C M]
  rcases j with rfl|rfl
  ·exact wpAny_pyNext_ascii_end (I.ok.hd F) st n g
  ·exact wpAny_pyNext_wide_end (I.ok.hd F) st n g
 self:=λ_ _ _ _ _ st h=>by
  rcases j with rfl|rfl
  ·exact wpAny_pyIter_striter_ascii st h
  ·exact wpAny_pyIter_striter_wide st h
abbrev V6(x:Str):=x.cps.toList.map λc=>D.str #[#v[c]]
@[simp]abbrev AV(de:DE)(c):=(de c).bind λd=>match d with
 |.str x=>S (V6 x)
 |_=>J
def lB(x):QB K (CL x) m o H O (V6 x):=λi p l _ _ _ _=>by
 have n:(V6 x).length=x.cps.size:=by simp[V6]
 refine#[λd f=>?_,λg=>by show x.cps.size<=i;omega];have g:i<x.cps.size:=by grind
 refine#[g,λv j h=>?_];let vb rfl c k rfl:=h;unfold V6 at f;rw[uAa]at f;have:x.cps.toList[i]?=S c:=by simpa using k
 rw[this]at f;obtain rfl:=Zj f;exact#[jf.refl _,rfl]
def na(h:PE X e (tP K de))(UQ:X.K=K:=by rfl):PI X T e (Z_ K (AV de)):=λn s N H R I Q=>by
 let je C M p O f i c q:=Q;let ja d P c:=jd c;cases d with
 |str x=>
  obtain rfl:=Zj c;refine jM (h _ s N H (λv j=>jf H j/\v=.str x) I #[C,M,p,O,_,i,P,λv j m r=>#[m,?_]]) λv y F=>?_
  ·have k:=i.grow m;exact(r.at k.keep k.in0 (jf.refl _)).str
  ·let JK w l g A z rfl:=F;let q t rfl:=A;refine wpAny_pyIter_strU ?_;refine#[_,_,_,_,l,rfl,g.kept λb o e=>wIa _ e,CM _ x t _ (by unfold strIterType;split<;>simp),#[_,wJa _ rfl,rfl,rfl],λb u=>?_,q _ l z (lB x)];have e:b=y.heap.objs.size:=by simpa using u
   subst e;exact g.fpOk (wPa _) (g.hok.fresh (wPa _))
 |_=>exact Zn c
abbrev K4:L D->Y (L Str)
 |[]=>S []
 |.str x::r=>(K4 r).bind λl=>S (x::l)
 |_=>J
theorem QZ:∀{l c},K4 l=S c->l=c.map D.str
 |[],_,e=>by cases e;rfl
 |x::l,c,e=>by
  cases x with
  |str y=>
   let ja r d e:=jd e;obtain rfl:=Zj e;rw[QZ d];rfl
  |_=>exact Zn e
theorem vX:∀{d:L _}{c},jm K H (d.map D.str) c↔c=d.map V.str
 |[],c=>by rfl
 |x::d,c=>by
  constructor
  ·rintro⟨v,r,rfl,g,f⟩;rw[g,vX.mp f];rfl
  ·rintro rfl;exact#[_,_,rfl,rfl,vX.mpr rfl]
abbrev GZ:D->D->Y OD
 |.str x,.str y=>if 1<=y.length/\x.length<sizeLine then S (.lst ((Txt.split x y).map D.str))else J
 |_,_=>J
set_option tactic.hygienic true
theorem Fe(M:PE X a (tR K da))(u:PE X b (tR K db))(f:attributeBase a "split" X.env (eval a X.env)=eval a X.env)(C:(z.endLine==pos.line)=B)(i:∀r ,starEach (b::r) X.env=(G,eval b X.env)::starEach r X.env)(P:X.K=K):PE X (.Call (.Attribute a "split" z) [b] [] pos) (tF K (Yb GZ da db)):=by
 refine jR (qL PySem.F.plainAttrs_str PySem.F.slot_str_split PySem.F.type_str_split CK M (JT u Yt (i _)) f (by rw[i];rfl) C (i _) rfl) λW H Q I=>?_;let je m n o O d R c q:=I;let ja x s c:=jd c;let ja y A c:=jd c;refine#[m,n,o,O,x,R,s,λv N g t=>?_];unfold GZ at c;split at c
 ·split at c
  ·rename_i l;obtain rfl:=Zj c;have w:=t.str;subst w;refine#[rfl,m,n,o,O,_,R.grow g,A,λT UQ j F=>?_];have h:=F.str;subst h;refine#[_,_,rfl,rfl,l.1,l.2,λp k=>q p _ ((g.trans j).trans (jZ k _)) ((g.trans j).none k) ?_];exact#[_,jz,vX.mpr rfl]
  ·exact Zn c
 ·exact Zn c
@[simp]abbrev wD:L D->Y D
 |[.str x]=>if x.length<=sizeLine then S (.int x.length)else J
 |_=>J
theorem lC:Fn K (λc H Q=>∃z,c=[.str z]/\z.length<=sizeLine/\Q (.int z.length) H) wD:=by
 intro O H k j g d Q h i e q;unfold wD at e;split at e
 ·split at e
  ·rename_i f;obtain rfl:=Zj e;let ja v rfl r:=V3 h;exact#[_,by rw[r.str],f,q _ H Ss rfl]
  ·exact Zn e
 ·exact Zn e
abbrev ud:D->D->Y D
 |.str x,.str y=>S (.bl (!(decide (y.cps.toList<x.cps.toList))))
 |_,_=>J
def nc:JN K (λx y H Q=>∃i j,x=.str i/\y=.str j/\Q (.bl (!(decide (j.cps.toList<i.cps.toList)))) H) ud:=by
 intro O H a b d x y Q f c g e q;unfold ud at e;split at e
 ·obtain rfl:=Zj e;exact#[_,_,f.str,c.str,q _ H Ss rfl]
 ·exact Zn e
abbrev vi:D->D->Y D
 |.str z,.int i=>if z.length<=sizeLine then(atI z.cps.toList i).bind λc=>S (.str #[#v[c]])else J
 |_,_=>J
set_option tactic.hygienic false
set_option tactic.hygienic true in
theorem ng:JN K C2 vi:=by
 intro O H a b d x y Q i f j e q;unfold vi at e;split at e
 ·split at e
  ·rename_i g;let ja c h e:=jd e;obtain rfl:=Zj e;exact#[_,_,c,i.str,f.int,g,h,q _ H Ss rfl]
  ·exact Zn e
 ·exact Zn e
abbrev AW(d:D)(lo c:Y Int):Y D:=match d with
 |.str z=>if z.length<=sizeLine then S (.str (Txt.slice z lo c))else J
 |_=>J
@[simp]abbrev K5(de:DE)(p q:DU)(c):=(de c).bind λd=>(p c).bind λlo=>(q c).bind λf=>AW d lo f
def lD{lo j p q m}(y:PE X e (tR K de))(s:PO X lo (QA K p))(C:PO X j (QA K q))(N:X.K=K:=by rfl):PE X (.Subscript e (.Slice lo j J m) pos) (tE K (K5 de p q)):=jR (Qf ly y s C) λM H Q A=>by
 let je g i f O d R c z:=A;let ja x w c:=jd c;let ja l o c:=jd c;let ja u n c:=jd c;refine#[g,i,f,O,x,R,w,λv F h r=>#[g,i,f,O,l,R.grow h,o,λP k=>#[g,i,f,O,u,R.grow (h.trans k),n,λI t=>?_]]];unfold AW at c;split at c
 ·split at c
  ·obtain rfl:=Zj c;refine#[_,r.str,by assumption,z _ _ ((h.trans k).trans t) rfl]
  ·exact Zn c
 ·exact Zn c
end
end DS
namespace L2
open PySem PySem.Spec PyProof.Rows
end L2
namespace DS
open PySem PySem.Spec PyProof.Rows L2
section
variable{K:Fr}{H0 H H':Hp}{O0:FA}{O N:L Addr}{ρ:jD}{U:L2.St}
def Rel.push(R:Rel K H0 O0 ρ U H O)(s:jf H H')(n:∀a∈N,H a=J)(t:∀a∈N,H' a≠J):Rel K H0 O0 ρ U H' (N++O):=by
 have h:jf (ji H O) (ji H' (N++O)):=λb u z=>by
  let q w m:=Jb z;rw[jS (λy=>by simp_all)];exact s b u m
 refine#[R.len,λa g=>vJa _ (R.sub a g),λa g=>?_,R.al0,λa g=>?_,R.keep.trans s,λj d e=>?_,R.bo,λj i o e=>?_,R.dist,λj i p e=>?_]
 ·rcases uWa g with z|z
  ·exact .inr (R.keep.none (n a z))
  ·exact R.fr a z
 ·rcases uWa g with z|z
  ·exact t a z
  ·exact λy=>R.al a z (s.none y)
 ·let ja v a b:=R.cl j d e;exact#[v,a,b.same h]
 ·let J3 k z a b c d:=R.ow j i o e;exact#[k,z,a,b.same (s k) h,vJa _ c,d]
 ·let YH l r a b c d f u:=R.lo j i p e;exact#[l,r,a,b,c.mono (λa _ u z=>s a u z) h,d,λa g=>#[vJa _ (f a g).1,(f a g).2],u]
end
section
variable{X:Cx}{K:Fr}{E:XK}{e:Expr}{C:Addr}{m:Str}{l l':DA}{ks ks':L Bool}{F UQ:HS->L D->Y (Rx×HS)}{tb:L (D×L (KD×Bool))}
@[simp]abbrev CN(b:DX)(c:DE)(a:jD):Y Rx:=(b a).bind λr=>match r with
 |.xc p=>S (.xc p)
 |.ok d=>(c a).bind λy=>(jg d y).map .ok
def Od(w:PE X a (tX X.K E u))(I:PE X b (tR X.K M))(t:kT b):PE X (.Subscript a b o) (tX X.K E (CN u M)):=jR (Ap bV w I t) λU H Q P=>by
 let je j k n O r R c q:=P;let ja i T c:=jd c;refine#[j,k,n,O,i,R,T,?_];cases i with
 |xc p=>obtain rfl:=Zj c;exact λf s=>q f s
 |ok d=>
  let ja y e3 c:=jd c;let ja Z W rfl:=Option.map_eq_some_iff.mp c;exact λx H1 g z=>#[j,k,n,O,y,R.grow g,e3,λvy H2 h N=>iH O H2 d y Z x vy Q (.inl (z.same (jt h))) N (λp A=>(R.grow (g.trans h)).new A) W λv f s r=>q v f ((g.trans h).trans s) r]
@[simp]abbrev AX(tb:D->L (KD×Bool))(j:Nat)(a:jD):Y D:=(dV j a).bind λd=>if(tb d).length<=sizeLine then S (.mem (tb d))else J
def lE{tb j}:PE X (.Dict [] [] i) (tE K (AX tb j)):=λc s h H Q I g=>by
 let je k n r O d R a q:=g;let ja x o a:=jd a;by_cases b:(tb x).length<=sizeLine
 ·rw[if_pos b]at a;obtain rfl:=Zj a;exact fY b _ s h H Q I λp f=>q _ _ (jZ f _) (by exact#[p,rfl,by rw[jS (R.new f)];exact jz])
 ·rw[if_neg b]at a;exact Zn a
end
section
variable{X:Cx}{K:Fr}{E:XK}{Px:Xp->Hp->Prop}{e:Addr}{ea a:Expr}{es:L Expr}{st:Stmt}{su bd:L Stmt}{pos p np apos spos tpos:Pos}{i j k:Nat}{g:DG}{C:Addr}{m x y:Str}{l:DA}{ks:L Bool}{f:Addr}{fd:FuncData}{ps:L Str}{da:DE}{F:L D->Y D}{s2:DS}
@[simp]abbrev gA(i j:Nat)(F:L D->Y D)(z:Str)(b:jD):Y Rs:=match b[i]? with
 |S (.cl (.exn _ _))=>(F [.str z]).bind λd=>S (.nx (b.set j (.cl d)))
 |_=>J
def Ff{t b}(h:PS (X.sui e) st (Y2 (eF e (VV K [b] F) t) (yZ j)))(ht:∀c H Q,Q [.str z] H->t c H Q)(h2:Jx (X.sui e) su (tS K Px s2)):Jx (X.sui e) (st::su) (λD c H=>c[i]?=S (S (.ref e))/\tS K Px (jb (gA i j F z) s2) D c H):=
 VW (VO h h2) λD c H xx=>by
  let N3 Z T u0:=xx;let VG O0 ρ O r R ed f:=u0;let ja r1 w e2:=jd ed;unfold gA at w;split at w
  ·let ja d UQ e4:=jd w;obtain rfl:=Zj e4;let ja v P w2:=R.cl i _ Sv;rw[Z]at P;cases P;let jc e' od z1 z2 _:=w2;cases z1;let q eO A:=Jb z2;refine ht _ _ _ #[_,od,A,O,[.str z],d,λa M=>?_,#[?_,trivial],UQ,λv H' s rv n=>?_]
   ·rw[zV (λy=>eO (by rw[<-y];exact M))];exact R.al a M
   ·cases b
    ·exact .inl rfl
    ·rfl
   ·have up:=λo=>jZ n o;have N:∀o,H e=S o->jf H (upd H' e o):=λo W b u y=>by
     by_cases I:b=e
     ·subst I;rw[W]at y;obtain rfl:=Zj y;exact jz
     ·rw[jp I];exact s b u (by rw[zV I];exact y)
    exact#[T,O0,_,O,r,(R.grow (N _ A)).set (rv.same (jt (up _))) j,e2,f.mono (jt (N _ A))]
  ·exact Zn w
@[simp]abbrev uV(F:HS->L D->Y (Rx×HS))(h b):=(F h b).bind λr=>match r.1 with
 |.ok _=>S r
 |_=>J
def lG{F h d p b}:uV F h d≠S (.xc p,b):=λe=>by
 let ja v0 n c:=jd e;let q r o:=v0;cases r<;>cases c
def lH{F}:∀b H Q E,uT K ks (uV F) b H Q E->uT K ks F b H Q E:=λb H Q E h=>by
 let wa O w l ps x c r N s w0:=h;let Jy P o A u M I:=w0;let ja z t n:=jd M;let q v R:=z;cases v with
 |ok d=>obtain rfl:=Zj n;exact#[O,w,l,ps,x,c,_,N,s,P,o,A,u,t,I]
 |xc p=>exact Zn n
noncomputable abbrev lI(d:Go):=∀c p b,d c≠S (.xc p,b)
def Q_{F}:lI (yE i (uV F) l):=λd p b e=>by
 unfold yE at e;split at e
 ·let ja o h e:=jd e;let ja x0 c e:=jd e;let q n r:=x0;cases e;exact lG c
 ·exact Zn e
def Fg(n:lI o)(h:PS X st (Y2 (tY K E o) (yZ i))):PS X st (tS K Px (Z1 o λd b=>S (.nx (b.set i (.cl d))))):=Jj h λD T H z=>by
 let je Q A b O r R N f:=z;let ja y0 c I:=jd N;let q M w:=y0;refine#[Q,A,b,O,_,R,c,?_];cases M with
 |ok d=>obtain rfl:=Zj I;exact λv P t u s q=>f _ P t (u.set q i) s
 |xc p=>exact vDa c (n _ _ _)
def Fh{o}(n:lI o)(h:PS X st (Y2 (tY K E o) (tG K kk g))):PS X st (tS K Px (Z1 o λd u=>(g d u).bind λb=>S (.nx b))):=Jj h λD U H UQ=>by
 let je w I u O r R N f:=UQ;let ja z0 z P:=jd N;let q Z b:=z0;refine#[w,I,u,O,_,R,z,?_];cases Z with
 |ok d=>
  let ja c W Q:=jd P;obtain rfl:=Zj Q;exact λv M A T s q=>#[w,I,b,A,d,c,T,q,W,λt R2 _=>f t M A R2 s]
 |xc p=>exact vDa z (n _ _ _)
def AY:Yu (yD X.prog X.w) X λ_ _ _=>False:=λ_ _ _ _ _ _ _ h=>by
 let YI _ _ _ _ _ _ _ z:=h;exact z.elim
@[simp]abbrev G_(c:DX)(b):=(c b).bind λr=>match r with
 |.ok d=>S d
 |_=>J
def nh(h:PE X ea (tX K (λ_ _ _=>False) t)):PE X ea (tE K (G_ t)):=jR h λz H Q s=>by
 let je n u c O d R v q:=s;let ja r o b:=jd v;cases r with
 |ok w=>obtain rfl:=Zj b;exact#[n,u,c,O,_,R,o,q]
 |xc p=>exact Zn b
def Fi{Q}(h:Y1 K [] c H Q):gk c H Q:=by
 let je o d r O n R b q:=h;obtain rfl:=Zj b;exact q [] H Ss trivial
abbrev uW(h:Go)(n:DS)(d:L Hd)(c:jD):Y Rs:=match h c with
 |S (.xc p,b)=>QR d p b
 |_=>n c
abbrev eU(K:Fr)(s:Go):Bi:=λh H t=>∃o r n O p b,Rel K o r n h H O/\s n=S (.xc p,b)/\∀c d,Rel K o r b h c d->jf (ji H O) (ji c d)->PX K t p c
def lJ{Z t c v}(N:eE X bd (eU K c))(hd:Jx X.nox bd (tS K Px v))(hh:PH X (o::Z) (a8 K Px t))(M:X.stack=X.env::X.outer)(Q:X.env.frame=S X.env.locals):PS X (.Try bd (o::Z) [] [] tpos) (tS K Px (uW c v t)):=
 Jj (MK (IK N hh M Q) (fA hd)) λD U H xx=>by
  let je u w I O r R b f:=xx;unfold uW at b;have no:v I=S r->(IJ (eU K c) (a8 K Px t) D U H\/tS K Px v D U H):=λb=>.inr #[u,w,I,O,r,R,b,f];cases UQ:c I with
  |none=>rw[UQ]at b;exact no b
  |some T=>
   rw[UQ]at b;let q T h:=T;cases T with
   |ok d=>exact no b
   |xc p=>
    refine .inl #[u,w,I,O,p,h,R,UQ,λH' O' P s=>?_];unfold PX;cases W:p.2 with
    |nil=>exact λe A=>#[u,w,h,O',p,r,P,rfl,λz=>vDa W z,A,b,f.mono s]
    |cons _ _=>
     intro c n e A;rw[<-W]at A⊢;have s2:=jZ n (xW c p.2);refine#[u,w,h,O',p,r,P.grow s2,rfl,λ_=>#[c,rfl,?_],A,b,f.mono (s.trans (jt s2))];rw[jS (P.new n)];exact jz
theorem Fj{F}(c:FnOk X.prog X.w X.K X.mg X.base (yD X.prog X.w) k f fd ps (uT K ks F))(hr:Room k X.A)(UQ:X.mg x=S (.ref f))(hk:PySem.W.keepIn X.K (.ref f)=B)(T:JP X.K fd ps [])
  (Q:PA X.nox (ea::es) (ZG (yF i) (Y1 K l))) (u:l.map (·.1)=ks) (n:ks.all id=B) (hg:Gl X x) (r:Su=G) (he:starEach (ea::es) X.env=(G,eval ea X.env)::starEach es X.env) (v:(backTo pos (starEach es X.env)).any (·.1)=G):
  IE X (.Call (.Name x p) (ea::es) [] pos) (eU K (yE i F l)):=λo s N H A I Z=>by
 let bH H0 O0 z O p ρ' R d q:=Z;subst u;unfold yE at d;cases w:z[i]? with
 |none=>rw[w]at d;exact Zn d
 |some sl=>
  rw[w]at d;cases sl with
  |lo qq h=>
   let ja ds e1 d:=jd d;let ja h0 M d:=jd d;let q r' h':=h0;cases d;let Vl a pl b:=R.loi w;refine fz c hr hg UQ hk T Q r he v o s N H A I #[_,b.s,H0,O0,z,O,ds,R,e1,λvs H1 t ak=>?_];exact AQ (R.grow t) (b.grow t) n ak M (λ_ _ _=>trivial) λP W R2 s2=>q P W R2 ((jt t).trans s2)
  |_=>exact Zn d
end
end DS
namespace L2
open PySem PySem.Spec PyProof.Rows PySem.Builtin PySem.Builtin.Str
section
variable{X:Cx}
abbrev ni(K:uXa):V->L V->Hp->VK->Prop:=λx c H Q=>∃a p b,x=.str a/\c=[.ref p]/\Jk K H p (b.map V.str)/\JoinOk a b=B/\Q (.str (Txt.join a b)) H
def Fk:Dx X "str.join" (ni X.K):=by
 intro a s y H x r v w Q I n d h;let zo m p z rfl rfl c f q:=h;let q t rfl:=n;let ja u rfl rfl:=d.one;let jw i j g A:=I.list c;let ja l rfl e:=qd j;exact SC.join g.isList e f λo k=>#[.str _,H,I.tok _,#[_,rfl],q]
end
end L2
namespace DS
open PySem PySem.Spec PyProof.Rows L2
section
variable{X:Cx}{K:Fr}{Px:Xp->Hp->Prop}{a b:Expr}{st:Stmt}{pos:Pos}{da db:DE}{i j:Nat}
abbrev qW:D->D->Y D
 |.str s,.lst l=>(K4 l).bind λc=>if JoinOk s c=B then S (.str (Txt.join s c))else J
 |_,_=>J
@[simp] theorem OC(s l):qW (.str s) (.lst l)=(K4 l).bind λc=>if JoinOk s c=B then S (.str (Txt.join s c))else J:=rfl
def lK(A:PE X a (tR K da))(C:PE X b (tR K db))(e:attributeBase a "join" X.env (eval a X.env)=eval a X.env)(T:(t.endLine==pos.line)=B)(f:∀r ,starEach (b::r) X.env=(G,eval b X.env)::starEach r X.env)(hK:X.K=K):PE X (.Call (.Attribute a "join" t) [b] [] pos) (tE K (d2 qW da db)):=by
 refine jR (qL PySem.F.plainAttrs_str PySem.F.slot_str_join PySem.F.type_str_join Fk A (JT C Yt (f _)) e (by rw[f];rfl) T (f _) rfl) λU H Q UQ=>?_;let je k n g O d R c q:=UQ;let ja x N c:=jd c;let ja y P c:=jd c;refine#[k,n,g,O,x,R,N,λv H1 m w=>?_];cases x with
 |str s=>
  cases y with
  |lst l=>
   let ja M Z c:=jd c;split at c
   ·rename_i I;obtain rfl:=Zj c;have F:=w.str;subst F;refine#[rfl,k,n,g,O,_,R.grow m,P,λv2 W z u=>?_];let jc p xs rfl h o:=u.lst;rw[QZ Z]at o;rw[vX.mp o]at h;exact#[s,p,M,rfl,rfl,Jk.of h,I,q _ W (m.trans z) rfl]
   ·exact Zn c
  |_=>exact Zn c
 |_=>exact Zn c
def lL{a:L (Uv×V)}{b}(h:KV a b):b.map (·.1)=a.map (·.1):=by
 induction h with
 |nil=>rfl
 |cons h _ i=>rw[vWa,vWa,i,h.1]
def Fm{f:L Str}:∀{l:L Value},l.length=f.length->(∀(j:Nat) v k,l[j]?=S v->f[j]?=S k->jI (.str k) v)->jB (f.map V.str) l:=by
 induction f with
 |nil=>intro l h _;obtain rfl:=List.eq_nil_of_length_eq_zero h;exact .nil
 |cons k f i=>
  intro l h g;cases l with
  |nil=>cases h
  |cons v l=>exact .cons (g 0 _ _ rfl rfl) (i (by simpa using h) λj=>g (j+1))
def AZ(y:X.calm=B):zQ X (.type "list") (λo H Q=>∃a f m p,o=[.ref a]/\f.length=m.length/\H a=S (.dK (SK f m) p)/\∀l,H l=J->Q (.ref l) (upd H l (.lst (f.map V.str)))):=by
 intro u s Z H o F Q I r h;let YI a f m p rfl d e q:=h;cases r with
 |cons w C=>
 cases C;subst w;let JY z x UQ h0:=Zk I e;let J3 P r j0 g t R:=h0;let q o n c D:=j0;have L00:(SK f m).length=f.length:=by rw[List.length_zip,vYa,d,Nat.min_self]
 have N:UQ.length=f.length:=by rw[<-Paired.length r];exact L00
 rw[L00]at z;refine PySem.W.kdl_call (PySem.W.kdl_dict (knd:=y9 X.prog X.w) (kvs:=UQ) (ep:=p) x) (I.ok.hd y) #[o,P,n,c,D,g,t,R] (by rw[N];exact z) λT W v k i j ⟨M,K⟩=>?_;refine#[.ref _,_,I.laid (o:=.lst _) i (wPa _) #[by rw[vYa];exact z,v.toList,k,Fm (by rw[Array.length_toList,M];exact N) λb u l A O=>?_,by simpa using j],rfl,q _ (I.hok.fresh (wPa _))];let jW k' _ By G00:=K b u (by simpa using A);have E:=congrArg (·[b]?) (lL r);rw[List.map_fst_zip (by simp[d])]at E;simp[By,O]at E;subst E;exact ae G00
abbrev Wp:D->D->Y D
 |.str x,.str y=>S (.bl (!(Builtin.Str.occurrences y x 0 y.length 1).isEmpty))
 |_,_=>J
def nj:JN K (λx y H Q=>∃i j,x=.str i/\y=.str j/\Q (.bl (!(Builtin.Str.occurrences j i 0 j.length 1).isEmpty)) H) Wp:=by
 intro O H a b d x y Q f c g e q;unfold Wp at e;split at e
 ·obtain rfl:=Zj e;exact#[_,_,f.str,c.str,q _ H Ss rfl]
 ·exact Zn e
abbrev zw:L D->Y OD
 |[.dk c _]=>S (.lst (c.map D.str))
 |_=>J
def Fo:DV K (λo H Q=>∃a f c h,o=[.ref a]/\f.length=c.length/\H a=S (.dK (SK f c) h)/\∀l,H l=J->Q (.ref l) (upd H l (.lst (f.map V.str)))) zw:=by
 intro O H f s t d Q m e q;unfold zw at e;split at e
 ·obtain rfl:=Zj e;let ja v rfl r:=V3 m;let jL p c h rfl n k u:=r.dk;exact#[p,_,c,h,rfl,k,n,λl g=>q l _ (jZ g _) g (YF g (vX.mpr rfl))]
 ·exact Zn e
@[simp]abbrev xa(i j:Nat)(e:jD):Y Rs:=match e[i]? with
 |S (.ow q (.lst c))=>(c[c.length-1]?).bind λd=>S (.nx ((e.set i (.ow q (.lst c.dropLast))).set j (.cl d)))
 |_=>J
def jm.dropLast{d c}(r:jm K H d c):jm K H d.dropLast c.dropLast:=by
 rw[List.dropLast_eq_take,List.dropLast_eq_take,r.len];exact r.take _
def nk(h:PS X st (Y2 (ik K "list" (λx g H Q=>C4 x g H Q) (yF i)) (yZ j))):PS X st (tS K Px (xa i j)):=Jj h λD y H w=>by
 let je z A C O r R c f:=w;unfold xa at c;split at c
 ·let ja d o p:=jd c;obtain rfl:=Zj p;let J3 l n k v1 lo u:=R.ow i _ _ Sv;let q g m e:=v1;let ja v s t:=e.get o;refine#[_,k,.inl #[rfl,_,Jk.of m],l,g,v,rfl,rfl,m,by rw[e.len];exact s,?_];have R2:=R.change Sv n k lo u (ds':=.lst _) #[_,jz,e.dropLast];refine f _ _ O (R2.set (i:=j) (by rw[yo lo];exact t)) (by rw[yo lo];exact jf.refl _)
 ·exact Zn c
end
end DS
namespace L2
open PySem PySem.Spec PyProof.Rows
noncomputable abbrev TB:=St->Hp->(St->Hp->Prop)->Prop
abbrev eV(Y00:Cx)(m:Sem Fin->Sem Fin)(t:TB):Prop:=
 ∀pins s U H N c Q E,Inv Y00 pins U H s->t U H N->(∀e f g,Inv Y00 pins f g e->N f g->wpAny (model Y00.prog Y00.w) Y00.A c Q E e)->wpAny (model Y00.prog Y00.w) Y00.A (m c) Q E s
abbrev xb(J00:It)(g:TG)(tb:TB)(Qn:St->Hp->Prop)(W:Nat->Nat->St->Hp->Prop):Prop:=∀i m U H,W i m U H->(J00.stop i H/\Qn U H)\/
 (J00.go i H/\∃N:St->Hp->Prop,(∀a b,N a b->∃c,c<m/\W (i+1) c a b)/\∀x e,J00.yld i H x e->g x U e λa b=>tb a b N)
abbrev Bv(kx vx:Expr)(ifs:L Expr)(D:Addr)(env:Env)(c:Sem Fin):Sem Fin:=do
 let mut ok:=B
 for c in ifs do
  if ok then ok<-isTrue c env (eval c env)
 if ok then
  (do
   let kv<-eval kx env
   let vv<-holding [kv] (eval vx env)
   standAt {kx.pos with endLine:=vx.pos.endLine,endCol:=vx.pos.endCol}
   holding [kv,vv] (dictSet D kv vv))
 c
def lM(kx vx t1 i1 ifs scope pos it)(D:Addr)(env):
  compTurn (.DictComp kx vx [#[t1,i1,ifs,0]] scope pos) 0 it (.ref D) env=(do
   standAt i1.pos
   match<-pyNext it with
   |none=>pure (.done .next)
   |S v=>
    letOwnedTupleGo t1 it v
    assign t1 env v
    Bv kx vx ifs D env (again (.compLoop (.DictComp kx vx [#[t1,i1,ifs,0]] scope pos) 0 it (.ref D) env))):=by rfl
section
variable{Y00:Cx}{kx vx tg iter:Expr}{scope:Scope}{pos:Pos}{g:TG}{J00:It}{fp:L Addr}{it:Addr}{tn:Nat->Heap->Prop}{W:Nat->Nat->St->Hp->Prop}{pins:Tq}
def Fp(hc:Y00.calm=B)(hx:Y00.xe=λ_ _=>False)(hg:PG Y00 tg g)(hb:eV Y00 (Bv kx vx ifs D Y00.env) tb)(T:Turn Y00.prog Y00.w Y00.K tg J00 fp it tn){H:Hp}(hf:∀b∈fp,JI Y00 pins H b)
  (turn:xb J00 g tb Qn W) (R:Result->Shared->Prop) (hR:∀s',(∃U' H',Inv Y00 pins U' H' s'/\Qn U' H')->R (.ok .next) s') (n:Nat) (s4:Shared)
  (st:∃i U' H',Inv Y00 pins U' H' s4/\tn i s4.heap/\(∀b∈fp,H' b=J)/\W i n U' H'):codeAny (model Y00.prog Y00.w) Y00.A (.compLoop (.DictComp kx vx [#[tg,iter,ifs,0]] scope pos) 0 (.ref it) (.ref D) Y00.env) R s4:=by
 have stat:∀{H':Hp},(∀b∈fp,H' b=J)->∀b∈fp,JI Y00 pins H' b:=λhn b hb=>#[hn b hb,(hf b hb).2]
 refine codeAny_loop rfl (λn s'=>∃i U' H',Inv Y00 pins U' H' s'/\tn i s'.heap/\(∀b∈fp,H' b=J)/\W i n U' H') ?_ n st;rintro n s3 ⟨i,U3,H3,I3,st3,fr3,w3⟩;show wpAny _ _ ((compTurn _ 0 (.ref it) _ Y00.env).onRaise (λx=>do noteFrame x Y00.env;theTreesLotGoes x)) _ _ s3;refine wpAny_noted ?_;rw[lM];rcases turn i n U3 H3 w3 with⟨stop,qn⟩|⟨go,N,hN,step⟩
 ·refine wAa (vOa (wAa (wCa (T.done Y00 rfl rfl rfl hc i pins s3 U3 H3 (λ_ _=>False) I3 (stat fr3) st3 stop) (λr s5 h5=>?_) λ_ _ z=>z.elim)));let q hr I5:=h5;subst hr;exact wBa (hR s5 #[U3,H3,I5,qn])
 ·refine wAa (vOa (wAa (wCa (T.item Y00 rfl rfl rfl hc i pins s3 U3 H3 (λ_ _=>False) I3 (stat fr3) st3 go) (λr s5 h5=>?_) λ_ _ z=>z.elim)));let q u hr h5:=h5;subst hr;refine wAa (wCa h5 (λ_ s6 h6=>?_) λ_ _ z=>z.elim);let vc x H6 I6 r6 y6 st6 fr6:=h6;refine wAa (wCa (hg _ s6 U3 H6 x u _ (I6.pinned (stat fr6) (T.obj _ _ st6)) r6 (step x H6 y6)) (λ_ s7 h7=>?_) λ_ _ z=>(by rw[hx]at z;exact z.elim));let jW U7 H7 I7 q7:=h7;refine hb _ s7 U7 H7 N _ _ _ I7 q7 λs8 U8 H8 I8 n8=>?_;let ja m' hm w8:=hN U8 H8 n8;refine wBa #[rfl,m',hm,i+1,U8,H8,I8.unpinned,T.keep _ _ _ st6 λb hb o e=>(I8.pin (b,o) (vJa _ (vJa _ (zP hb e)))).1,λb hb=>?_,w8];let q o e _:=T.obj _ _ st6 b hb;exact(I8.pin (b,o) (vJa _ (vJa _ (zP hb e)))).2.1
end
end L2
namespace DS
open PySem PySem.Spec PyProof.Rows L2
abbrev Ng(D:Addr)(tc:TT)(tk tv:TE):TB:=λU H N=>tc U H λb H0=>if b=B then tk U H0 λk H1=>tv U H1 λv H2=>∃c e ep f,k=.str f/\H2 D=S (.dK (SK c e) ep)/\c.length=e.length/\c.length<sizeLine/\∀d,N U (upd H2 D (.dK (SK (J5 c f) (J0 c e f v)) d))else N U H0
def nq{Y00:Cx}{D:Addr}(hx:Y00.xe=λ_ _=>False)(hc:ZJ Y00 ifs tc)(hk:PE Y00 kx tk)(hv:PE Y00 vx tv):eV Y00 (Bv kx vx ifs D Y00.env) (Ng D tc tk tv):=by
 have no {v s}:Y00.xe v s->False:=λz=>by rw[hx]at z;exact z
 intro pins s U H N c Q E I h hN;refine wAa (wCa (hc pins s U H _ I h) (λb s0 h0=>?_) λ_ _ z=>(no z).elim);let ja H0 I0 q0:=h0;cases b with
 |false=>rw[if_neg Sq]at q0;exact hN _ _ _ I0 q0
 |true=>
  rw[if_pos rfl]at q0;refine wAa (wAa (wCa (hk pins s0 U H0 _ I0 q0) (λkv s1 h1=>?_) λ_ _ z=>(no z).elim));let jc k H1 I1 r1 q1:=h1;refine wAa (wDa (wCa (hv pins s1 U H1 _ I1 q1) (λvv s2 h2=>?_) λ_ _ z=>(no z).elim));let jc v H2 I2 r2 u0:=h2;let uK c e ep f rfl l w hz q:=u0;let q t rfl:=r1;refine wAa (vOa (wDa ?_));let JY z M vs y0:=Zk I2 l;let J3 es r rd Z F p:=y0;refine wpAny_dictSet_pairs (hsz:=by rw[<-Paired.length r];exact z) (zb _ _ f t) (uU rd Z F p) λUQ g A=>?_;let yI o T j n y e3 R W X:=g;have ln:(SK (J5 c f) (J0 c e f v)).length<=sizeLine:=by
   rw[List.length_zip,vYa,wC w,Nat.min_self];unfold J0;split
   ·grind
   ·simp;lia
  have new:JB _ _ (upd H2 D (.dK (SK (J5 c f) (J0 c e f v)) j)) UQ D (.dK _ _):=#[ln,M,_,Bs r2 r w p,o,_,n,y,e3,R,W,X]
  exact hN _ _ _ (I2.write (by rw[l];trivial) (.inl rfl) (λc z C e=>(A.2 c C).trans e) #[_,n] new) (q _)
section
variable{X:Cx}{kx vx t1 i1:Expr}{scope:Scope}{pos:Pos}{own:L Str}{caps:Tv}{g1:TG}{tb:Addr->TB}{pins:Tq}{U:L2.St}{H:Hp}{s2:Shared}{J00:It}{fp:L Addr}{it:Addr}{tn:Nat->Heap->Prop}{Qv:VK}
def CO{E:Tz}{RR:Value->Addr->Result->Shared->Prop}(SQ:CScope X scope)(hcap:Caps X scope caps)(hc:X.calm=B)
  (hg:∀s3 H3 ex',PG (X.comp (L2.cN own caps) scope s3 H3 ex') t1 g1) (hB:∀s3 H3 ex' D,eV (X.comp (L2.cN own caps) scope s3 H3 ex') (Bv kx vx ifs D (X.comp (L2.cN own caps) scope s3 H3 ex').env) (tb D))
  (I:Inv X pins U H s2) (T:Turn X.prog X.w X.K t1 J00 fp it tn) (st:tn 0 s2.heap) (hf:∀b∈fp,JI X pins H b)
  (w:∀D,H D=J->∃W,(∃m,W 0 m (Vn own caps U) (upd H D (.dK [] 0)))/\xb J00 g1 (tb D) (λ_ H'=>Qv (.ref D) H') W)
  (hRR:∀D C s' H' m,Inv X pins U H' s'->s'.heap.Ns C m->JI X pins H' C->Qv (.ref D) H'->RR (.ref D) C (.ok .next) s'):
  wpAny Sz X.A newDict (λacc s3=>wpAny Sz X.A (newFunctionEnv scope X.env.globals (zq X.env scope.names []) [] X.env.qual J .none (S X.env)) (λcenv s4=>
   codeAny Sz X.A (.compStart (.DictComp kx vx [#[t1,i1,ifs,0]] scope pos) 0 (.ref it) acc {cenv with scope:=relabel scope X.env}) (RR acc cenv.locals) s4) E s3) E s2:=by
 let ja W z0 turn:=w s2.heap.objs.size (I.hok.fresh (wPa _));let q m0 w0:=z0;refine vTa (wpAny_newFunctionEnv SQ.c (by intro y hy;simp at hy) (λh1 hns hsb=>?_) SQ.kind);have hlt:∀b∈fp,b<s2.heap.objs.size:=λb hb=>by
  let ja o e _:=T.obj _ _ st b hb;exact wLa e
 let s3:Shared:={s2 with heap:=s2.heap.push {cls:=.type "dict",dict:=J,data:=.dict #v[]} }
 have I3:Inv X pins U (upd H s2.heap.objs.size (.dK [] 0)) s3:=I.laid (a:=s2.heap.objs.size) (o:=.dK [] 0) (t':=s2.toks) (λ_ _ q=>wIa _ q) (wPa _)
  #[Nat.zero_le _,beq_eq_false_iff_ne.mpr (Ne.symm (wTa (Inv.big I))),[],.nil,_,_,wJa _ rfl,#[rfl,rfl,rfl],rfl,(by intro e d;simp at d),.nil,List.nodup_nil]
 have hk:∀b o,s3.heap.get? b=S o->h1.get? b=S o:=λb o e=>hsb.extBut b o (wTa (wLa e)) (wIa _ e);have hl3:∀b∈fp,b<s3.heap.objs.size:=λb hb=>by rw[show s3.heap.objs.size=s2.heap.objs.size+1 from Heap.size_push ..];exact Nat.lt_succ_of_lt (hlt b hb)
 have hf3:∀b∈fp,JI X pins (upd H s2.heap.objs.size (.dK [] 0)) b:=λb hb=>#[by rw[jp (Nat.ne_of_lt (hlt b hb))];exact(hf b hb).1,(hf b hb).2]
 have I4:Inv (X.comp (L2.cN own caps) scope s3 (upd H s2.heap.objs.size (.dK [] 0)) fp) [] (Vn own caps U) (upd H s2.heap.objs.size (.dK [] 0)) {s3 with heap:=h1,toks:=s2.toks+([]:L (Str×Value)).length}:=
  wk SQ.c SQ.kind SQ.f hcap I3 (λb hb=>#[hl3 b hb,hf3 b hb]) hns hk
 have st4:tn 0 h1:=T.keep _ _ _ st λb hb o e=>hk b o (wIa _ e);have f4:∀b∈fp,JI (X.comp (L2.cN own caps) scope s3 (upd H s2.heap.objs.size (.dK [] 0)) fp) [] (upd H s2.heap.objs.size (.dK [] 0)) b:=λb hb=>
  #[(hf3 b hb).1,wTa (hl3 b hb),I4.ok.exfs b hb,.inl hb,(I4.ok.exf b hb).2,λp hp=>vDa (show p∈([]:Tq) from hp) Sx]
 have loop:=Fp (Y00:=X.comp (L2.cN own caps) scope s3 (upd H s2.heap.objs.size (.dK [] 0)) fp) (kx:=kx) (vx:=vx) (iter:=i1) (pos:=pos) (scope:=scope) hc rfl (hg _ _ _) (hB _ _ _ _) T f4 turn (RR (.ref s2.heap.objs.size) s3.heap.objs.size) (λs' jj=>by
  let jW U' H' J' q:=jj;have u:Un (ym X.stack) fp (upd H s2.heap.objs.size (.dK [] 0)) H' s3.heap s'.heap:=J'.base;have I5:Inv X pins U H' s':=I3.call' (g:=fp) J'.os #[u.keep,u.slot,u.free,u.there,u.tups,u.frzs,u.tbls] J'.hok J'.bare λb hb=>by
   have F:=hf3 b hb;exact#[F.2.2.2.1,F.2.1,F.2.2.2.2.1,F.2.2.2.2.2]
  let ja m5 hm5 _:=id J'.loc;exact hRR _ _ s' H' m5 I5 hm5 (I3.fpOk (wPa _) J'.free) q) m0
  {s3 with heap:=h1,toks:=s2.toks+([]:L (Str×Value)).length} #[0,_,_,I4,st4,λb hb=>(hf3 b hb).1,w0]
 exact codeAny_compStart_dict loop (T.self _ 0 _ _ _ st4 loop)
abbrev lN(own:L Str)(caps:Tv)(wi:TI)(g1:TG)(tb:Addr->TB):TE:=λU H Q=>wi U H λJ00 H1=>∀D,H1 D=J->∃W,(∃m,W 0 m (Vn own caps U) (upd H1 D (.dK [] 0)))/\xb J00 g1 (tb D) (λ_ H'=>Q (.ref D) H') W
set_option tactic.hygienic true in
theorem CQ{wi:TI}(own:L Str)(caps:Tv)(hN:X.N.Nodup)(p:X.N[i]?=S x)(hx:Uw X.env.scope x)(SQ:CScope X scope)(hcap:Caps X scope caps)(hc:X.calm=B)(hi:PI X t1 i1 wi)
  (hg:∀s3 H3 ex',PG (X.comp (L2.cN own caps) scope s3 H3 ex') t1 g1) (hB:∀s3 H3 ex' D,eV (X.comp (L2.cN own caps) scope s3 H3 ex') (Bv kx vx ifs D (X.comp (L2.cN own caps) scope s3 H3 ex').env) (tb D))
  (P:∀x,foldedSetIterable i1 X.env x=pure x) (u:swapsWith (.DictComp kx vx [#[t1,i1,ifs,0]] scope pos) (S (.Name x k)) l.line X.env=pure B) (hf:X.fn x=B\/X.env.scope.names.lookup x=S .local):
  PS X (.Assign [.Name x k] (.DictComp kx vx [#[t1,i1,ifs,0]] scope pos) l) (Y2 (lN own caps wi g1 tb) (yZ i)):=by
 intro pins s U H D I h;rw[exec_Assign_Name_used _ _ _ _ u];refine wAa (vOa (wAa ?_));refine wAa (wCa (wpAny_comprehension_free rfl P (kX λy hy e=>I.ok.has _ (SQ.f y hy e)) SQ.kind SQ.l
  (jM (hi _ s U H _ I h) λxv s1 h1=>jM h1 λitv s2 Z=>?_)) (λ_ s' hq=>wBa (wBa hq)) λ_ _ e=>e)
 let Jw it fp tn UQ H2 e I2 T st j0:=Z;let q N w:=j0;subst e;refine CO (Qv:=λx b=>yZ i x U b D.nx) SQ hcap hc hg hB I2 T st N w ?_;intro A C s' H' m I' hn F q;let Jy f0 f1 N O M R:=F;refine wpAny_assign_Name (GF (v:=.ref A) I' hN p hx rfl (λs'' r v=>?_) hf);let ja a sb ha:=v;have aC:C≠a:=by
  rcases ha with z|z
  ·lia
  ·exact λe=>M x a z e.symm
 refine#[m,hn.sameBut sb aC,λh' t=>#[_,H',?_,q]];exact r.turned (λb o hb e=>(t.2 b hb).trans e) f0 f1 O M R
end
section
variable{X:Cx}{l e:Expr}
abbrev Nh(a:Addr)(c:L Str)(d:L V)(ep:Nat):It:=
 #[λi H=>H a=S (.dK (SK c d) ep)/\i<c.length,λi H x e=>e=H/\∀k,c[i]?=S k->x=.str k,λi H=>H a=S (.dK (SK c d) ep)/\c.length<=i]
def lO{l:L (Uv×V)}{m:L (Uv×Value)}(h:KV l m):∀{i:Nat}{k v},l[i]?=S (k,v)->∃u,m[i]?=S (k,u):=by
 induction h with
 |nil=>intro i k v e;simp at e
 |@cons p q x y o t f=>
  intro i k v e;cases i with
  |zero=>obtain rfl:=Zj e;exact#[q.2,congrArg some (Prod.ext o.1.symm rfl)]
  |succ i=>exact f e
def Wq{c:L Str}{d:L V}{e:L (Uv×Value)}(h:KV (SK c d) e)(W:c.length=d.length):e.length=c.length:=by
 rw[<-Paired.length h,List.length_zip,vYa,W,Nat.min_self]
def xg{X:Cx}{s:Shared}{c}(r:Cm s.heap a c ep)(g:KeysOf (y9 X.prog X.w) c)(f:Pairs (y9 X.prog X.w) c.toList d)(j:(d.map (·.1)).Nodup):s.heap.DictAt (y9 X.prog X.w) a d ep:=by
 let q o h e i:=r;exact#[o,c,h,e,i,g,f,j]
def A_{K tg c d ep}(W:c.length=d.length)(a g):Turn P w K tg (Nh a c d ep) [g] g (λi h=>h.IsKeyIter g a i c.length ep) where
 mem:=by simp
 obj:=λi h st b j=>by
  have e:b=g:=by simpa using j
  subst e;let jw o e _ d:=st;exact#[o,e,λv z=>by lia]
 keep:=λi h UQ st k=>st.at λo e=>k g Sx o e
 item:=by
  intro X Z W0 hK T i m s U H E I t st O;subst Z W0;refine Yk #[O.1,O.2,trivial] λu hi _=>?_;let JY z hd vs r:=Zk I u;let J3 n r N ke A nd:=r;let Jy f0 f1 f2 f3 f4 f5:=t g Sx;have m:=Wq r W;let q v hv:=lO r (lm (i:=i) (k:=c[i]) (u:=d[i]) Sx Sx);rw[<-m]at st⊢;refine wpAny_pyNext_dict_item (knd:=y9 X.prog X.w) st (xg N ke A nd) hv λkey UQ ek l sb=>?_;have I1:=I.turned (t':=s.toks) (λb o j e=>(sb.2 b j).trans e) f0 f1 f3 f4 f5;let jw o e y q:=l;exact#[_,rfl,kS e y q rfl #[.str _,H,I1,ae ek,#[rfl,λp hp=>by rw[uCa hi]at hp;rw[Zj hp]],l,λb j=>(t b j).1]]
 done:=by
  intro X Z W0 hK T i m s U H E I t st O;subst Z W0;let JY z hd vs r:=Zk I O.1;let J3 n r N ke A nd:=r;let Jy f0 f1 f2 f3 f4 f5:=t g Sx;have m:=Wq r W;rw[<-m]at st;exact wpAny_pyNext_dict_end (knd:=y9 X.prog X.w) (I.ok.hd T) st (xg N ke A nd) (List.getElem?_eq_none (by rw[m];exact O.2)) λUQ eb=>#[rfl,I.turned (λb o j e=>eb b o j e) f0 f1 f3 f4 f5]
 self:=λ_ _ _ _ _ st h=>wpAny_pyIter_keyiter st h
abbrev lP(e:TE):TI:=λf H R=>e f H λx h=>∃a c d ep,x=.ref a/\c.length=d.length/\h a=S (.dK (SK c d) ep)/\R (Nh a c d ep) h
def CS(d:PE X l t):PI X F l (lP t):=by
 intro f s A H R I h;refine jM (d _ s A H _ I h) λv p r=>?_;let q x u c j w:=r;let YI a M N ep e W i q:=w;subst e j;let JY z y vs r:=Zk c i;let J3 n r D ke By nd:=r;refine wpAny_pyIter_dict y (xg D ke By nd) ?_;refine#[_,_,_,_,u,rfl,c.kept λb o e=>wIa _ e,A_ W a _,?_,λb g=>?_,q]
 ·rw[<-Wq r W];exact#[_,wJa _ rfl,rfl,rfl]
 ·have e:b=p.heap.objs.size:=by simpa using g
  subst e;exact c.fpOk (wPa _) (c.hok.fresh (wPa _))
abbrev nr:D->Y (L D)
 |.dk d _=>S (d.map D.str)
 |_=>J
@[simp]abbrev wE(de:DE)(c):=(de c).bind nr
def Fq{K:Fr}{de:DE}(h:PE X e (tP K de)):PI X tg e (Z_ K (wE de)):=qO (CS h) λU H R xx=>by
 let je Q O0 I O m w ed q:=xx;let ja x e1 g:=jd ed;refine#[Q,O0,I,O,x,w,e1,λv o n r=>?_];have t:=w.grow n;cases x with
 |dk c d=>
  obtain rfl:=Zj g;let JL p T ep rfl f A:=r.dk;refine#[p,_,T,ep,rfl,f,(A o O t.keep t.in0 (jf.refl _)).1,q _ o n λi Z O' M W t2 N=>?_];let q C F:=A Z O' M W t2;refine#[λd j=>?_,λhi=>#[C,by rw[hi,vYa];exact wPa _]];rw[uAa]at j;let ja k hk rfl:=Option.map_eq_some_iff.mp j;refine#[#[C,(uSa hk).1],λUQ P l=>?_];rw[l.1,l.2 _ hk];exact#[jf.refl _,rfl]
 |_=>exact Zn g
end
abbrev uX:Sl->Bool
 |.ow _ _=>G
 |.lo _ _=>G
 |_=>B
abbrev Ni(f:L Str->L D->Y (L Str×L D))(ks:L Str)(vs:L D):D->D->Y (L Str×L D)
 |.str i,v=>f (J5 ks i) (J0 ks vs i v)
 |_,_=>J
abbrev ka(g:DG)(dt:DT)(dk dv:DE):L D->jD->L Str->L D->Y (L Str×L D)
 |[],_,ks,vs=>S (ks,vs)
 |d::ds,ρ,ks,vs=>(g d ρ).bind λa=>(dt a).bind λb=>if a.all uX=B/\ks.length<sizeLine then(if b=B then(dk a).bind λk=>(dv a).bind (Ni (ka g dt dk dv ds a) ks vs k)else ka g dt dk dv ds a ks vs)else J
def eW{g dt dk dv d ds ρ ks vs}:ka g dt dk dv (d::ds) ρ ks vs=(g d ρ).bind λa=>(dt a).bind λb=>if a.all uX=B/\ks.length<sizeLine then(if b=B then(dk a).bind λk=>(dv a).bind (Ni (ka g dt dk dv ds a) ks vs k)else ka g dt dk dv ds a ks vs)else J:=rfl
@[simp]abbrev Bw(k:Nat)(caps:L Nat)(di:DI)(g:DG)(dt:DT)(dk dv:DE)(ρ:jD):Y OD:=(di ρ).bind λitems=>if(V4 k caps ρ).all uX=B then(ka g dt dk dv items (V4 k caps ρ) [] []).bind λp=>S (.dk p.1 p.2)else J
def nt{ρ:jD}(h:ρ.all uX=B){i:Nat}{q o}:ρ[i]?≠S (.ow q o):=λe=>nomatch List.all_eq_true.mp h _ (wYa e)
def nu{ρ:jD}(h:ρ.all uX=B){i:Nat}{q o}:ρ[i]?≠S (.lo q o):=λe=>nomatch List.all_eq_true.mp h _ (wYa e)
section
variable{K:Fr}{H0 H H':Hp}{O0:FA}{O:L Addr}{ρ:jD}{U:L2.St}{A:Addr}
def Rel.poke1{u:HO}(R:Rel K H0 O0 ρ U H O)(ha:A∈O)(h0:H0 A=J)(nw:ρ.all uX=B):Rel K H0 O0 ρ U (upd H A u) O where
 len:=R.len
 sub:=R.sub
 fr:=R.fr
 al0:=R.al0
 al:=λb hb=>by
  by_cases z:b=A
  ·rw[z,jz];exact λz=>nomatch z
  ·rw[jp z];exact R.al b hb
 keep:=R.keep.upd h0 _
 cl:=λi d e=>by rw[yo ha];exact R.cl i d e
 bo:=R.bo
 ow:=λi q o e=>vDa e (nt nw)
 dist:=R.dist
 lo:=λi q o e=>vDa e (nu nw)
structure DcI (K:Fr) (H0:Hp) (O0:FA) (O:L Addr) (A:Addr) (ρ:jD) (U:L2.St) (H:Hp) (ks:L Str) (vs:L D):Prop where
 R:Rel K H0 O0 ρ U H (A::O)
 o:yG K H (ji H (A::O)) A (.dk ks vs)
 n:ρ.all uX=B
variable{own:L Str}{caps:Tv}{di:DI}{g:DG}{dt:DT}{dk dv:DE}
structure DcW (K:Fr) (H0:Hp) (O0:FA) (O:L Addr) (A:Addr) (H1:Hp) (F:jD->L Str->L D->Y (L Str×L D)) (r:L Str×L D) (a:L2.St) (b:Hp):Prop where
 e:∃ρ k v,DcI K H0 O0 O A ρ a b k v/\F ρ k v=S r
 d:jf (ji H1 O) (ji b (A::O))
 s:jf H1 b
def Fs(hnd:(caps.map (·.2)).Nodup):∀U H Q,tF K (Bw own.length (caps.map (·.2)) di g dt dk dv) U H Q->
  lN own caps (Z_ K di) (tG K own.length g) (λA=>Ng A (tT K dt) (tE K dk) (tE K dv)) U H Q:=λU H Q xx=>by
 let je H0 O0 ρ O o R ed q:=xx;let ja l e1 ed:=jd ed;split at ed
 case isFalse=>exact Zn ed
 rename_i nw;let ja r e2 ed:=jd ed;obtain rfl:=Zj ed;refine#[H0,O0,ρ,O,l,R,e1,λJ00 H1 s1 hJ A hA=>?_];have R1:=R.grow s1;have h0:=R1.keep.none hA;have I0:DcI K H0 O0 O A _ _ (upd H1 A (.dK [] 0)) [] []:=
  #[(QD own caps R1 hnd).push (N:=[A]) (jZ hA _) (λa h=>by rw[List.mem_singleton.mp h];exact hA) (λa h=>by rw[List.mem_singleton.mp h,jz];exact λz=>nomatch z),#[[],0,jz,rfl,jm.nil],nw]
 refine#[λi m a b=>DcW K H0 O0 O A H1 (ka g dt dk dv (l.drop i)) r a b/\m=l.length-i/\i<=l.length,
  #[_,#[#[_,_,_,I0,by simpa using e2],YE (jZ hA _) hA,jZ hA _],rfl,Nat.zero_le _],?_]
 rintro i m a b ⟨⟨⟨ρ,ks,vs,I,f⟩,sd,sH⟩,rfl,hj⟩;let q hgo hstop:=hJ i b (A::O) I.R.keep I.R.in0 sd I.R.al;by_cases w:i<l.length
 ·right;have hx:l[i]?=S l[i]:=by simp[w]
  rw[<-List.getElem_cons_drop w,eW]at f;let q u1 u2:=hgo _ hx;let ja p w1 f:=jd f;let ja t w2 f:=jd f;split at f
  case isFalse=>exact Zn f
  rename_i hz;refine#[u1,DcW K H0 O0 O A H1 (ka g dt dk dv (l.drop (i+1))) r,λc d n=>#[_,by lia,n,rfl,w],λx c y=>?_];let q sy rx:=u2 x c y;refine#[H0,O0,ρ,A::O,_,p,I.R.grow sy,rx,w1,λe R7 _=>#[H0,O0,p,A::O,t,R7,w2,λBy s7=>?_]];have sz:=sy.trans s7;cases t with
  |false=>exact ZH #[#[_,_,_,#[R7.grow s7,I.o.same (sz A) (jt sz),hz.1],f],sd.trans (jt sz),sH.trans sz]
  |true=>
   refine ZI ?_;rw[if_pos rfl]at f;let ja k w3 f:=jd f;let ja v w4 f:=jd f;cases k with
   |str k=>
    refine#[H0,O0,p,A::O,_,R7.grow s7,w3,λkv C s8 rk=>#[H0,O0,p,A::O,v,(R7.grow s7).grow s8,w4,λvv G00 s9 rv=>?_]];have t:=s7.trans (s8.trans s9);have T:=sy.trans t;let jc xs ep o1 o2 o3:=I.o.same (T A) (jt T);have rk:kv=V.str k:=rk;subst rk;refine#[ks,xs,ep,k,rfl,o1,o2,hz.2,λd=>#[#[_,_,_,#[(R7.grow t).poke1 wNa h0 hz.1,#[_,_,jz,wC o2,?_],hz.1],f],?_,(sH.trans T).upd hA _]]
    ·rw[yo List.mem_cons_self];exact o3.putS rv
    ·rw[yo List.mem_cons_self];exact sd.trans (jt T)
   |_=>exact Zn f
 ·left;have ei:i=l.length:=by lia
  refine#[hstop ei,?_];rw[List.drop_of_length_le (show l.length<=i by lia)]at f;obtain rfl:=Zj f;exact q A b (s1.trans sH) (s1.none hA) I.o
variable{X:Cx}{st:Stmt}{Px:Xp->Hp->Prop}
def Oe{kx vx t1 i1:Expr}{ifs}{sc:Scope}{pos l:Pos}(own:L Str)(caps:Tv)(hN:X.N.Nodup)(p:X.N[i]?=S x)(hx:Uw X.env.scope x)(SQ:CScope X sc)(hcap:Caps X sc caps)(hc:X.calm=B)(hi:PI X t1 i1 (Z_ K di))
  (hg:∀a b c,PG (X.comp (L2.cN own caps) sc a b c) t1 (tG K own.length g)) (ht:∀a b c,ZJ (X.comp (L2.cN own caps) sc a b c) ifs (tT K dt)) (hk:∀a b c,PE (X.comp (L2.cN own caps) sc a b c) kx (tE K dk)) (hv:∀a b c,PE (X.comp (L2.cN own caps) sc a b c) vx (tE K dv))
  (nd:(caps.map (·.2)).Nodup) (P:∀x,foldedSetIterable i1 X.env x=pure x) (u:swapsWith (.DictComp kx vx [#[t1,i1,ifs,0]] sc pos) (S (.Name x k)) l.line X.env=pure B) (hf:X.fn x=B\/X.env.scope.names.lookup x=S .local):
  PS X (.Assign [.Name x k] (.DictComp kx vx [#[t1,i1,ifs,0]] sc pos) l) (tS K Px (jx i (dL (Bw own.length (caps.map (·.2)) di g dt dk dv)))):=
 qP (VX (VX (CQ _ _ hN p hx SQ hcap hc hi hg (λa b c D=>nq rfl (ht a b c) (hk a b c) (hv a b c)) P u hf) (Fs nd)) QE)
end
abbrev Jp(k:Str):L Str->L a->L Str×L a
 |g::c,v::d=>if g=k then Jp k c d else(g::(Jp k c d).1,v::(Jp k c d).2)
 |_,_=>([],[])
def ZQ{k g}{c:L Str}{v:a}{d}:Jp k (g::c) (v::d)=if g=k then Jp k c d else(g::(Jp k c d).1,v::(Jp k c d).2):=rfl
theorem eX:∀{c d e},KV (SK c d) e->KV (SK (Jp k c d).1 (Jp k c d).2) (without e (.inr k))
 |[],_,_,h=>by cases h;exact .nil
 |_::_,[],_,h=>by cases h;exact .nil
 |g::c,v::d,_,h=>by
  cases h with
  |@cons p q x l o t=>
   have i:=eX (k:=k) t;unfold without at *;rw[ZQ,List.filter_cons,<-o.1];by_cases e:g=k
   ·rw[if_pos e,e];simpa using i
   ·rw[if_neg e,if_pos (by simpa using e)];exact .cons o i
theorem UG(k):∀{c}{d:L a},(Jp k c d).1.length=(Jp k c d).2.length/\(Jp k c d).2.length<=d.length
 |[],_=>#[rfl,Nat.zero_le _]
 |_::_,[]=>#[rfl,Nat.zero_le _]
 |g::c,v::d=>by
  have i:=UG k (c:=c) (d:=d);rw[ZQ];split
  ·exact#[i.1,Nat.le_succ_of_le i.2]
  ·simp[i]
theorem ai{K:Fr}{H}:∀{c:L Str}{d x},c.length=d.length->jm K H d x->(Jp k c d).1=(Jp k c x).1/\jm K H (Jp k c d).2 (Jp k c x).2
 |[],_,_,_,_=>#[rfl,jm.nil]
 |_::_,[],_,h,_=>nomatch h
 |g::c,v::d,x,h,r=>by
  rw[jm]at r;let jc y z rfl r1 r2:=r;have i:=ai (k:=k) (by simpa using h) r2;rw[ZQ,ZQ];split
  ·exact i
  ·rw[i.1];exact#[rfl,by rw[jm];exact#[_,_,rfl,r1,i.2]]
section
variable{X:Cx}{K:Fr}{Px:Xp->Hp->Prop}{st:Stmt}{i:Nat}{de:DE}
abbrev eY:V->L V->Hp->VK->Prop:=λx w H Q=>∃a c d ep k,x=.ref a/\w=[.str k]/\H a=S (.dK (SK c d) ep)/\c.length=d.length/\(Js k c).isSome=B/\∀v e,Q v (upd H a (.dK (SK (Jp k c d).1 (Jp k c d).2) e))
def Ft:Dv X "dict.pop" eY:=by
 intro pins s U H x vs v us Q I m n h;let Jw a c d ep k rfl rfl f g y2:=h;let q y q:=y2;cases m;cases n with
 |cons m n=>
 cases n;let q t rfl:=m;let JY z l p z2:=Zk I f;let J3 w r e i j A:=z2;have C:=uU e i j A;let q j' hj:=Option.isSome_iff_exists.mp y;let jc v0 u hv hu ru:=ad r g hj;refine call_meetsIn PySem.F.slot_dict_pop C.typeIs PySem.F.entry_dict_pop (PySem.F.args_dict_pop_2 _ _) (meets_dict_pop_there (y9 X.prog X.w) a (zb _ _ k t) [] (.inl rfl) rfl) #[p,u,C,by rw[<-Paired.length r];exact z,hu,λUQ D By=>?_];let yI o T j n y e3 R W N:=D;have ln:(SK (Jp k c d).1 (Jp k c d).2).length<=sizeLine:=by
  rw[List.length_zip,vYa,(UG k).1,Nat.min_self];rw[List.length_zip,vYa,g,Nat.min_self]at z;exact wSa (UG k).2 z
 have new:JB _ _ (upd H a (.dK (SK (Jp k c d).1 (Jp k c d).2) j)) UQ a (.dK _ _):=#[ln,l,_,eX r,o,_,n,y,e3,R,W,N]
 exact#[v0,_,I.write (by rw[f];trivial) (.inl rfl) (λc z C e=>(By.2 c C).trans e) #[_,n] new,ru,q _ _]
abbrev CT(f:jD)(i:Nat)(q:Y Addr)(c:L Str)(d:L D):D->Y Rs
 |.str k=>if(Js k c).isSome=B then S (.nx (f.set i (.ow q (.dk (Jp k c d).1 (Jp k c d).2))))else J
 |_=>J
@[simp] theorem lQ{f i q c d k}:CT f i q c d (.str k)=if(Js k c).isSome=B then S (.nx (f.set i (.ow q (.dk (Jp k c d).1 (Jp k c d).2))))else J:=rfl
abbrev lR(f:jD)(i:Nat)(v:Y D):Sl->Y Rs
 |.ow q (.dk c d)=>v.bind (CT f i q c d)
 |_=>J
@[simp] theorem pN{f i v q c d}:lR f i v (.ow q (.dk c d))=v.bind (CT f i q c d):=rfl
@[simp]abbrev b0(i:Nat)(de:DE)(f:jD):Y Rs:=(f[i]?).bind (lR f i (de f))
def lS(h:PS X st (gj (b_ K "dict" eY (yF i) (ZG (tE K de) gk)))):PS X st (tS K Px (b0 i de)):=Jj h λD U H N=>by
 let je F Q y O r R g f:=N;let ja sl By g:=jd g;cases sl with
 |ow q o=>
  cases o with
  |dk c d=>
   let ja kk P j:=jd g;cases kk with
   |str kk=>
    rw[lQ]at j;split at j
    ·obtain rfl:=Zj j;let J3 l A w j2 lo z:=R.ow i _ _ By;let q T ep t p u:=j2;refine#[_,w,.inr (.inr (.inl #[rfl,.inl #[_,_,t]])),F,Q,y,O,_,R,P,λv UQ s C=>?_];have M:=R.grow s;subst C;have n:=ai (k:=kk) (by rw[p,u.len]) (u.same (jt s));refine#[l,c,T,ep,kk,rfl,rfl,s _ _ t,(by rw[p,u.len]),by assumption,λv e=>f _ _ O (M.change By A w lo z #[(Jp kk c T).2,e,by rw[n.1];exact jz,?_,n.2]) ?_]
     ·rw[n.1];exact(UG _).1.trans (by rw[n.2.len])
     ·rw[yo lo];exact jt s
    ·exact Zn j
   |_=>exact Zn j
  |_=>exact Zn g
 |_=>exact Zn g
end
end DS
set_option backward.match.sparseCases false
namespace CP
open PySem PySem.Spec PyProof.Rows L2 DS
inductive GI where
 |con (i:Int)
 |fE (k:Nat) (ps:L Str) (ks:L Bool) (F:L D->Y D)
 |fF (k:Nat) (ps:L Str) (ks:L Bool) (F:L D->Y OD)
 |mk (k:Nat) (ps:L Str) (ks:L Bool) (F:Addr->L D->Y OD) (G00:L D->Y OD)
 |fX (k:Nat) (ps:L Str) (ks:L Bool) (F:L D->Y Rx)
 |fH (k:Nat) (ps:L Str) (ks:L Bool) (F:HS->L D->Y (Rx×HS))
 |mH (k:Nat) (ps:L Str) (ks:L Bool) (C:Addr) (F:HS->L D->Y (Rx×HS))
 |blt
structure XT where
 ex:L Str:=[]
 ct:L (Str×L Str×L Str):=[]
 xf:L (Str×Str):=[]
 xp:L Str:=[]
 xq:L (Str×L Str):=[]
 ve:=G
 c3:L (L Str×L Str):=[]
structure Gm where
 cm:Bool
 xm:Bool
 xt:XT
 N:L Str
 sc:Scope
 fn:Bool
 kF:Bool
 C:Addr
 gs:L (Str×GI)
 ms:L (Str×GI)
 fl:L Str
 hs:L ((Nat×Nat×Nat)×L Nat)
 sh:L (Nat×Nat)
 ow:L Nat
 hC:Addr:=0
 hm:L (Str×GI):=[]
 hfl:L Str:=[]
 hls:L Str:=[]
 tb:D->L (KD×Bool):=λ_=>[]
 sf:=G
 ss:L (Str×(L D->Y D)):=[]
inductive Dn where
 |E (d:DE)|F (d:DO)
abbrev Dn.e:Dn->DE
 |.E d=>d
 |.F d=>dL d
abbrev Wr(x:Str):L Str->Y Nat
 |[]=>J
 |y::r=>if x=y then S 0 else(Wr x r).map (· + 1)
abbrev kd(a:Scope)(x):=a.names.lookup x
abbrev gB(a:Scope)(x:Str):Bool:=match kd a x with
 |S .local=>B
 |S .cell=>B
 |S .free=>B
 |_=>G
abbrev xh(a:Scope)(x:Str):Bool:=match kd a x with
 |S .local=>B
 |S .cell=>B
 |_=>G
abbrev xi(a:Scope)(x:Str):Bool:=match kd a x with
 |S .local=>B
 |_=>G
abbrev UH(a:Gm)(x):=(match kd a.sc x with
 |S .globalImplicit=>B
 |_=>G)&&! Su
abbrev cG(c:Bool)(o:Y a):=if c then o else J
abbrev slot(a:Gm)(x):=(Wr x a.N).bind λi=>if gB a.sc x&&(! Su&&!(x==("__classdict__")))then S i else J
abbrev nm(a:Gm):Expr->Y Nat
 |.Name x _=>slot a x
 |_=>J
abbrev kb(a:Gm)(x):=(Wr x a.N).bind λi=>if xh a.sc x&&(a.fn||xi a.sc x)then S i else J
abbrev Y4:Expr->Bool
 |.Starred _ _=>G
 |_=>B
structure Rc where
 n:Gm->Expr->Y Dn
 t:Gm->Expr->Y DT
 g:Gm->Nat->Expr->Y DG
section
variable(r:Rc) (Γ:Gm)
abbrev cV(f:Nat->DE)(e:Expr):Y DE:=match nm Γ e with
 |S i=>S (f i)
 |none=>(r.n Γ e).map Dn.e
abbrev cA:L Bool->L Expr->Y DA
 |[],[]=>S []
 |k::a,e::b=>if Y4 e then(cV r Γ (if k then dC else dV) e).bind λd=>(cA a b).bind λl=>S ((k,d)::l)else J
 |_,_=>J
abbrev lT:Operator->Y (D->D->Y D)
 |.Add=>S jY
 |.Sub=>S Z2
 |.Mult=>S Z3
 |.Mod=>S jN
 |.FloorDiv=>S YJ
 |.Pow=>S Qt
 |_=>J
abbrev Ws:CmpOp->Y (D->D->Y D)
 |.Eq=>S jX
 |.NotEq=>S Ju
 |.Lt=>S vU
 |.LtE=>S yc
 |.Gt=>S VS
 |.GtE=>S Qu
 |.In=>S (Zb G)
 |.NotIn=>S (Zb B)
 |.Is=>S Ku
 |.IsNot=>S zS
abbrev cB(f:DE->DE->DE):L Expr->Y DE
 |[]=>J
 |[a]=>cV r Γ dC a
 |a::b=>(cV r Γ dV a).bind λd=>(cB f b).bind λc=>S (f d c)
abbrev cW(f:DT->DT->DT):L Expr->Y DT
 |[]=>J
 |[a]=>r.t Γ a
 |a::b=>(r.t Γ a).bind λd=>(cW f b).bind λc=>S (f d c)
abbrev part:Y Expr->Y DU
 |none=>S λ_=>S J
 |S e=>(cV r Γ dV e).map λd=>λa=>(d a).bind yQ
abbrev KA(p:Pos):=Γ.hs.lookup (p.line,p.col,p.endCol)
abbrev hc(p:Pos):Nat:=match KA Γ p with
 |S (c::_)=>c
 |_=>0
abbrev UI:Expr->Bool
 |.Call _ _ _ _=>G
 |_=>B
abbrev Wt:Expr->Bool
 |.Slice _ _ _ _=>G
 |_=>B
abbrev CU(x:Str)(c):=if x ="len" then S (if c=9 then wD else if c=7 then Vt else Jv)else if x ="tuple" then S ZL else if x ="all" then S Ud else if x ="max" then S Uc else J
abbrev CV(x:Str)(c)(h:Bool):=if x ="list" then S (if c=7 then zw else Yc)else if x ="dict" then S UF else J
abbrev Bx(x):=UH Γ x&&(match Γ.gs.lookup x with|S .blt=>B|_=>G)
abbrev Gp:Expr->Y Str
 |.Name x _=>S x
 |_=>J
abbrev lU:Expr->Y (Expr×Expr)
 |.Subscript c d _=>S (c,d)
 |_=>J
abbrev Nj:Stmt->Y Expr
 |.Return o _=>o
 |_=>J
abbrev lV:Stmt->Y (Expr×Expr)
 |.Assign a e _=>(match a with
  |[t]=>S (t,e)
  |_=>J)
 |_=>J
abbrev Nk:Expr->Y (Expr×Expr)
 |.Compare a c e _=>(match c,e with
  |[d],[b]=>(match d with
   |.NotIn=>S (a,b)
   |_=>J)
  |_,_=>J)
 |_=>J
abbrev Nl:Stmt->Y (Expr×Expr×Stmt×Stmt)
 |.If c b o _=>(match b,o with
  |[a,d],[]=>(Nk c).map λp=>(p.1,p.2,a,d)
  |_,_=>J)
 |_=>J
def Bz(h:lU e=S (c,d)):∃p,e=.Subscript c d p:=by
 cases e<;>cases h;exact#[_,rfl]
def lW(h:Nj s=S e):∃p,s=.Return (S e) p:=by
 cases s<;>cases h;exact#[_,rfl]
def BA(h:lV s=S (t,e)):∃p,s=.Assign [t] e p:=by
 cases s with
 |Assign a e p=>
  rcases a with _|⟨t,_|⟨_,_⟩⟩<;>cases h
  exact#[_,rfl]
 |_=>exact Zn h
def lX(h:Nk e=S (a,b)):∃p,e=.Compare a [.NotIn] [b] p:=by
 cases e with
 |Compare g c f p=>
  rcases c with _|⟨d,_|⟨_,_⟩⟩<;>rcases f with _|⟨i,_|⟨_,_⟩⟩<;>try exact Zn h
  cases d<;>cases h;exact#[_,rfl]
 |_=>exact Zn h
def lY(h:Nl s=S (a,b,d,f)):∃p g,s=.If (.Compare a [.NotIn] [b] p) [d,f] [] g:=by
 cases s with
 |If c e o p=>
  rcases e with _|⟨_,_|⟨_,_|⟨_,_⟩⟩⟩<;>rcases o with _|⟨_,_⟩<;>try exact Zn h
  let ja u0 j i:=Option.map_eq_some_iff.mp h;let q k l:=u0;cases i;let q p rfl:=lX j;exact#[_,_,rfl]
 |_=>exact Zn h
def zx(h:Gp e=S x):∃p,e=.Name x p:=by
 cases e<;>cases h;exact#[_,rfl]
abbrev CW(x:Str):=if x ="list" then S "list" else if x ="tuple" then S "tuple" else if x ="bool" then S "bool" else if x ="str" then S "str" else if x ="int" then S "int" else J
abbrev eZ(e:Expr):Y DI:=match KA Γ e.pos with
 |S (9::_)=>(cV r Γ dP e).map AV
 |S _=>(cV r Γ dP e).map JH
 |_=>(cV r Γ dP e).map JH
abbrev lZ(c:Bool)(x:Str)(f:L Expr):Y DI:=
 if Bx Γ x then(match f with
  |[a]=>if x ="range" then cG (Y4 a) ((cV r Γ dV a).map zU)else J
  |[a,b]=>if x ="zip" then cG (Y4 a&&Y4 b&&c) ((cV r Γ dP a).bind λd=>(cV r Γ dP b).map λe=>QC d e)else J
  |_=>J)else J
abbrev Vu:Expr->Bool
 |.Tuple _ _ _=>B
 |_=>G
abbrev K6:Expr->Bool
 |.Set _ _ _=>G
 |_=>B
abbrev l_(a e f:Expr)(b:L Expr)(c:L Keyword)(p:Pos):=match f with
 |.Name x _=>(match c with
  |[]=>(match lZ r Γ (Vu a) x b with
   |S d=>S d
   |none=>eZ r Γ e)
  |_::_=>J)
 |_=>J
abbrev cI(a)(e:Expr):=match e with
 |.Call f b c p=>l_ r Γ a e f b c p
 |_=>cG (K6 e) (eZ r Γ e)
abbrev L0(a b:Scope):Scope:={a with names:=a.names.map λ(n,k)=>if k==.free&&b.kind==.function&&b.names.lookup n==S .cell then(n,.cell)else(n,k)}
abbrev e_:Nat->Expr->L Str
 |0,_=>[]
 |_+1,.Name x _=>[x]
 |n+1,.Tuple a _ _=>(a.map (e_ n)).flatten
 |_,_=>[]
abbrev kf:L Str->Bool
 |[]=>B
 |x::r=>!(r.contains x)&&kf r
abbrev xj:L Nat->Bool
 |[]=>B
 |x::r=>!(r.contains x)&&xj r
abbrev b7(a:Scope)(p:Str×Nat):=(match Γ.N[p.2]? with
  |S y=>y==p.1
  |none=>G)&&(match kd Γ.sc p.1 with
  |S .cell=>B
  |S .free=>B
  |_=>G)&&(match kd a p.1 with
  |S .free=>B
  |_=>G)
abbrev E1(a:Scope):=(match a.kind with|.function=>B|_=>G)&&(a.names.all λy=>y.2 != .local||a.names.lookup y.1==S .local)&&(a.names.all λy=>y.2 != .cell) &&
 (a.names.all λy=>y.2 != .free||Γ.sc.names.lookup y.1==S .cell||Γ.sc.names.lookup y.1==S .free)
abbrev xk(p):=((KA Γ p).getD []).map λj=>(Γ.N.getD j "",j)
abbrev wF(c:L Str)(b:Tv)(a:Scope):Gm:={Γ with N:=c++b.map (·.1),sc:=L0 a Γ.sc,fn:=G,sf:=G,ss:=[]}
abbrev Nm(j h d:Expr)(i:L Expr)(a:Scope)(p:Pos):Y DO:=
 let e:=e_ 5 h
 let b:=xk Γ p
 let f:=wF Γ e b a
 cG (E1 Γ a&&b.all (b7 Γ a)&&kf f.N&&xj (b.map λz=>z.2)&&K6 d&&Γ.cm)
  ((cI r Γ h d).bind λm=>(r.g f e.length h).bind λg=>(match i with
   |[]=>S Jc
   |[c]=>r.t f c
   |_=>J).bind λl=>(cV r f dC j).bind λk=>S (yK e.length (b.map λz:Str×Nat=>z.2) m g l k))
abbrev nv:D->Y (L D)
 |.lst l=>S l
 |_=>J
@[simp]abbrev b8(b:DE)(a):=(b a).bind nv
abbrev CY(h j c:Expr)(i:L Expr)(a:Scope)(p:Pos):Y DO:=
 let e:=e_ 5 j
 let b:=xk Γ p
 let f:=wF Γ e b a
 cG (E1 Γ a&&b.all (b7 Γ a)&&kf f.N&&xj (b.map λz=>z.2)&&K6 c&&(Γ.sf&&i.isEmpty))
  ((cV r Γ dP c).bind λd=>(r.g f e.length j).bind λg=>(cV r f dC h).bind λk=>S (yK e.length (b.map λz=>z.2) (b8 d) g Jc k))
abbrev CZ(b:L Expr):Y Dn:=match b with
 |[a,t]=>(match t with
  |.Name t _=>if Γ.xt.ex.contains t then cG (Y4 a&&UH Γ t) ((cV r Γ dV a).map λd=>.E (d1 (yR Γ.xt.ex t) d))else cG (Y4 a&&Bx Γ t) ((CW t).bind λT=>(cV r Γ dV a).map λd=>.E (d1 (V5 T) d))
  |.Tuple c _ _=>(match c with
   |[t,u]=>(Gp t).bind λt=>(Gp u).bind λu=>cG (Y4 a&&Bx Γ t&&Bx Γ u&&t==("list")&&u==("tuple")) ((cV r Γ dV a).map λd=>.E (d1 AN d))
   |_=>J)
  |_=>J)
 |_=>J
abbrev pP(c:L Expr):GI->Y Dn
 |.fE _ _ b F=>(cA r Γ b c).map λl=>.E (jo F l)
 |.fF _ _ b F=>(cA r Γ b c).map λl=>.F (Jg F l)
 |.mk _ _ b _ a=>(cA r Γ b c).map λl=>.F (Ay a l)
 |_=>J
abbrev pQ(x:Str)(a:L Expr)(p:Pos):Y Dn:=(cA r Γ (a.map λ_=>G) a).bind λl=>(match CU x (hc Γ p)with
  |S f=>S (.E (jo f l))
  |none=>(CV x (hc Γ p) (KA Γ p).isSome).map λf=>.F (Jg f l))
abbrev E3(x a p):=cG (UH Γ x&&!a.isEmpty) ((Γ.gs.lookup x).bind λg=>if x ="isinstance" then(match g with
 |.blt=>CZ r Γ a
 |_=>J)else cG Γ.cm (match g with
 |.blt=>pQ r Γ x a p
 |g=>pP r Γ a g))
abbrev L3:Const->Y Dn
 |.int i=>S (.E (dK (.int i)))
 |.bool i=>S (.E (dK (.bl i)))
 |.none=>S (.E (dK .non))
 |.str i=>S (.E (dK (.str i)))
 |_=>J
abbrev L4(b:UnaryOp)(a:Expr):Y Dn:=match b with
 |.USub=>(cV r Γ dV a).map λd=>.E (V2 d)
 |.Not=>(cV r Γ dV a).map λd=>.E (qM d)
 |_=>J
abbrev Nn(a:Expr)(c:Operator)(b:Expr)(p:Pos):Y Dn:=(cV r Γ dV a).bind λd=>(cV r Γ dV b).bind λe=>(match KA Γ p with
  |S _=>(match c with
   |.Add=>S (.F (Yb yp d e))
   |_=>J)
  |none=>(lT c).map λf=>.E (d2 f d e))
abbrev Of:CmpOp->Y (D->D->Y D)
 |.LtE=>S ud
 |_=>J
abbrev Og:CmpOp->Y (D->D->Y D)
 |.In=>S (ZP G)
 |.NotIn=>S (ZP B)
 |_=>J
abbrev Wu(p o):=if hc Γ p=9 then Of o else Ws o
abbrev Oh:CmpOp->Y (D->D->Y D)
 |.In=>S Wp
 |_=>J
abbrev E4(p o):=if hc Γ p=7 then Og o else if hc Γ p=9 then Oh o else Ws o
abbrev No(a:Expr)(os:L CmpOp)(m:L Expr)(p:Pos):Y DE:=match os,m with
 |[o],[b]=>cG (!behindInMarks o b) ((cV r Γ dV a).bind λd=>(cV r Γ dV b).bind λj=>(E4 Γ p o).map λf=>d2 f d j)
 |[o,h],[b,c]=>cG (!lastMarks [o,h] [b,c]) ((cV r Γ dV a).bind λd=>(cV r Γ dV b).bind λj=>(cV r Γ dV c).bind λg=>(Wu Γ p o).bind λf=>(Wu Γ p h).map λl=>JA f l d j g)
 | [o,h,i],[b,c,e]=>cG (!lastMarks [o,h,i] [b,c,e]) ((cV r Γ dV a).bind λd=>(cV r Γ dV b).bind λj=>(cV r Γ dV c).bind λg=>(cV r Γ dV e).bind λd3=>
   (Ws o).bind λf=>(Ws h).bind λl=>(Ws i).map λk=>kY f l k d j g d3)
 |_,_=>J
abbrev L5(p):=if hc Γ p=9 then vi else if hc Γ p=7 then yB else jg
abbrev Np(a b:Expr)(p:Pos):Y Dn:=match b with
 |.Slice lo e st _=>(match st with
  |none=>(cV r Γ dV a).bind λd=>(part r Γ lo).bind λx=>(part r Γ e).map λy=>(match KA Γ p with
   |S _=>.E (K5 d x y)
   |_=>.F (yb d x y))
  |S _=>J)
 |b=>cG (Wt b) ((cV r Γ dV a).bind λd=>(cV r Γ dV b).map λc=>.E (d2 (L5 Γ p) d c))
abbrev E5(e)(f:L Comprehension)(b:Scope)(p:Pos):=match f with
 |[⟨g,c,d,a⟩]=>cG (a==0) (Nm r Γ e g c d b p)
 |_=>J
abbrev L6(k v:Expr)(f:L Comprehension)(a:Scope)(p:Pos):Y DO:=match f with
 |[⟨g,c,d,z⟩]=>
  let e:=e_ 5 g
  let b:=xk Γ p
  let f:=wF Γ e b a
  cG (E1 Γ a&&b.all (b7 Γ a)&&kf f.N&&xj (b.map λz=>z.2)&&K6 c&&Γ.cm&&z==0)
   ((cV r Γ dP c).bind λm=>(r.g f e.length g).bind λg=>(match d with
    |[t]=>r.t f t
    |_=>J).bind λl=>(cV r f dC k).bind λk=>(cV r f dC v).map λv=>Bw e.length (b.map λz:Str×Nat=>z.2) (wE m) g l k v)
 |_=>J
abbrev L7(a:Expr)(m:Str)(c:Pos)(b:L Expr)(p:Pos):Y Dn:=match Γ.hm.lookup m with
 |S (.fX _ _ e F)=>cG (c.endLine==p.line&&Γ.cm&&Nat.blt b.length 20&&UI a) ((cV r Γ dV a).bind λd=>(cA r Γ e b).map λl=>.E (G_ (yg Γ.hC m F d l)))
 |_=>J
abbrev Nq(a:Expr)(m:Str)(e:Pos)(f:L Expr)(p:Pos):Y Dn:=match f with
 |[]=>(match a with
  |.Name x g=>cG (e.endLine==p.line&&Γ.cm) ((cV r Γ dV (.Name x g)).bind λd=>match Γ.ms.lookup m with
   |S (.fE _ _ _ F)=>S (.E (d1 (uO Γ.C m F) d))
   |S (.fF _ _ _ F)=>S (.F (Ki (YU Γ.C m F) d))
   |_=>J)
  |_=>J)
 |[b]=>cG (e.endLine==p.line&&Y4 b&&UI a) ((cV r Γ dV a).bind λd=>(cV r Γ dV b).bind λc=>if m ="split" then S (.F (Yb GZ d c))else if m ="join" then S (.E (d2 qW d c))else J)
 |_=>J
abbrev Nr(f:Expr)(b:L Expr)(e:L Keyword)(p:Pos):=match e with
 |[]=>(match f with
  |.Name x _=>E3 r Γ x b p
  |.Attribute a m c=>(match L7 r Γ a m c b p with
   |S d=>S d
   |none=>Nq r Γ a m c b p)
  |_=>J)
 |_=>J
abbrev C_(a:Expr)(os:L CmpOp)(c:L Expr):Y DE:=match os,c with
 |[o],[b]=>(match o with
  |.Eq=>cG (!behindInMarks .Eq b) ((cV r Γ dV a).bind λd=>(cV r Γ dV b).map λe=>d2 VT d e)
  |_=>J)
 |_,_=>J
abbrev cN(e:Expr):Y Dn:=match e with
 |.Name x _=>cG (UH Γ x) (match Γ.gs.lookup x with
  |S (.con i)=>S (.E (dK (.int i)))
  |_=>J)
 |.Constant c _ _=>L3 c
 |.UnaryOp m a _=>L4 r Γ m a
 |.BinOp a m b p=>Nn r Γ a m b p
 |.Compare a os w p=>if Γ.cm then(No r Γ a os w p).map .E else(C_ r Γ a os w).map .E
 |.BoolOp m o _=>(match m with
  |.And=>(cB r Γ zi o).map .E
  |.Or=>(cB r Γ Qy o).map .E)
 |.IfExp c a b _=>(r.t Γ c).bind λt=>(cV r Γ dC a).bind λd=>(cV r Γ dC b).map λy=>.E (Qz t d y)
 |.Tuple h _ _=>cG (Nat.ble h.length 1000) ((cA r Γ (h.map λ_=>B) h).map λl=>.E (jQ l))
 |.List h _=>cG (Nat.ble h.length 1000) ((cA r Γ (h.map λ_=>B) h).map λl=>.F (jP l))
 |.Dict s o p=>(match s,o with
  |[],[]=>if hc Γ p=7 then S (.F qU)else(match KA Γ p with
   |S [8,j]=>S (.E (AX Γ.tb j))
   |_=>J)
  |_,_=>J)
 |.Attribute a f _=>if Γ.fl.contains f then cG (UI a) ((cV r Γ dV a).map λd=>.E (d1 (Ja Γ.C f) d))else if Γ.hfl.contains f then cG (UI a) ((cV r Γ dV a).map λd=>.E (d1 (Ja Γ.hC f) d))else cG (UI a) ((cV r Γ dV a).map λd=>.E (d1 (GX Γ.xt.xf f) d))
 |.Subscript a b p=>cG Γ.cm (Np r Γ a b p)
 |.ListComp k v g p=>if Γ.sf then(match v with
  |[⟨z,n,u,a⟩]=>cG (a==0) ((CY r Γ k z n u g p).map .F)
  |_=>J)else(E5 r Γ k v g p).map .F
 |.Call f h s p=>Nr r Γ f h s p
 |_=>J
abbrev E6:Expr->Bool
 |.UnaryOp .Not _ _=>G
 |.BoolOp _ _ _=>G
 |.IfExp _ _ _ _=>G
 |.Compare _ _ _ _=>G
 |_=>B
abbrev Nt(a:Expr)(os:L CmpOp)(i:L Expr)(p:Pos):Y DT:=match os,i with
 |[o],[b]=>cG (!behindInMarks o b) ((cV r Γ dV a).bind λd=>(cV r Γ dV b).bind λg=>(E4 Γ p o).map λf=>jv (d2 f d g))
 |[o,h],[b,c]=>cG (!lastMarks [o,h] [b,c]) ((cV r Γ dV a).bind λd=>(cV r Γ dV b).bind λg=>(cV r Γ dV c).bind λe=>(Wu Γ p o).bind λf=>(Wu Γ p h).map λj=>jv (JA f j d g e))
 |_,_=>J
abbrev cT(e:Expr):=match e with
 |.Compare a os d p=>if Γ.cm then Nt r Γ a os d p else(C_ r Γ a os d).map jv
 |.UnaryOp b a p=>(match b with
  |.Not=>(r.t Γ a).map JQ
  |b=>cG (E6 (.UnaryOp b a p)) ((cV r Γ dV (.UnaryOp b a p)).map JJ))
 |.BoolOp b c _=>(match b with
  |.And=>cW r Γ Jr c
  |.Or=>cW r Γ Ye c)
 |e=>cG (E6 e) ((cV r Γ dV e).map JJ)
abbrev L8(k:Nat):L Expr->Y D_
 |[]=>S gZ
 |e::b=>cG (Y4 e) ((r.g Γ k e).bind λg=>(L8 k b).map λa=>gC g a)
abbrev Nu(k:Nat):Expr->Y DG
 |.Name x _=>(kb Γ x).bind λi=>cG (Nat.blt i k) (S (gN i))
 |.Tuple a _ _=>cG Γ.cm ((L8 r Γ k a).map λb=>gT a.length b)
 |_=>J
end
abbrev rc:Nat->Rc
 |0=>#[λ_ _=>J,λ_ _=>J,λ_ _ _=>J]
 |n+1=>#[λa e=>if hc a e.pos=21 then S (.E λ_=>J)else cN (rc n) a e,λa e=>if hc a e.pos=21 then S λ_=>J else cT (rc n) a e,Nu (rc n)]
abbrev b9:Stmt->Nat
 |.Return _ p=>p.line
 |.Assign _ _ p=>p.line
 |.AugAssign _ _ _ p=>p.line
 |.For _ _ _ _ p=>p.line
 |.While _ _ _ p=>p.line
 |.If _ _ _ p=>p.line
 |.Expr _ p=>p.line
 |.Raise _ _ p=>p.line
 |_=>0
section
variable(r:Rc) (q:Gm->L Stmt->Y DS.DS) (Γ:Gm)
abbrev cF(e:Expr):Y DO:=match r.n Γ e with
 |S (.F d)=>S d
 |_=>J
abbrev Z4:Expr->Bool
 |.ListComp _ _ _ _=>G
 |.SetComp _ _ _ _=>G
 |.DictComp _ _ _ _ _=>G
 |_=>B
abbrev ba(a:Scope)(x:Str):Bool:=match kd a x with
 |S .cell=>B
 |_=>G
abbrev E7(a:Scope)(x)(b c:Pos):=(match Γ.sc.kind with|.function=>B|_=>G)&&xi Γ.sc x&&b.line==c.line&&!(a.names.any λ(n,k)=>n==x&&(k==.local||k==.cell))
abbrev Nv(x:Str)(f:Pos)(e:Expr):Y DS.DS:=(kb Γ x).bind λi=>match e with
 |.ListComp b c a p=>(E5 r Γ b c a p).bind λd=>cG (E7 Γ a x f p||ba Γ.sc x) (S (if Γ.ow.contains i then Zr i d else jx i (dL d)))
 |.DictComp k v g a p=>(L6 r Γ k v g a p).bind λd=>cG (E7 Γ a x f p) (S (jx i (dL d)))
 |e=>cG (Z4 e) (if Γ.ow.contains i then(cF r Γ e).map (Zr i)else(cV r Γ dC e).map (jx i))
abbrev Nw(t e:Expr):=match t with
 |.Name x c=>Nv r Γ x c e
 |.Attribute o f _=>(nm Γ o).bind λi=>if Γ.hfl.contains f then cG (Z4 e) ((cV r Γ dC e).map λd=>K0 i Γ.hC f d)else if Γ.hls.contains f then cG (Z4 e) ((cF r Γ e).map λd=>K3 i Γ.hC f d)else cG (Z4 e&&Γ.fl.contains f) ((cV r Γ dC e).map λd=>uQ i Γ.C f d)
 |.Subscript o j p=>(nm Γ o).bind λi=>cG (Z4 e&&Wt j&&Γ.cm) (if hc Γ p=7 then(cV r Γ dC j).bind λa=>(cV r Γ dC e).map λd=>gz i a d else(cV r Γ dV j).bind λa=>(cV r Γ dC e).map λd=>wy i a d)
 |.Tuple b n p=>cG (Z4 e&&!Vu e) ((cV r Γ dC e).bind λd=>(r.g Γ Γ.N.length (.Tuple b n p)).map λg=>Y3 d g)
 |_=>J
abbrev Nx(t:Expr)(a:Operator)(e:Expr):Y DS.DS:=match t with
 |.Name x _=>(kb Γ x).bind λi=>(cV r Γ dV e).bind λd=>(match a with
  |.Add=>S (AA i (λi j=>i+j) d)
  |.Sub=>S (AA i (λi j=>i-j) d)
  |_=>J)
 |_=>J
abbrev Ny(f:Expr)(a:L Expr)(c:L Keyword)(p:Pos):Y DS.DS:=match f,a,c with
 |.Attribute o m b,[e],[]=>(nm Γ o).bind λi=>cG (m==("append")&&Y4 e&&b.endLine==p.line) ((cV r Γ dC e).map λd=>vJ i d)
 |_,_,_=>J
abbrev L9(f:Expr)(b:L Expr)(g:L Keyword)(p:Pos):Y DS.DS:=match f with
 |.Attribute a m c=>(match a with
  |.Attribute o f _=>(match b with
   |[e]=>(match g with
    |[]=>(nm Γ o).bind λi=>cG (m==("append")&&Y4 e&&c.endLine==p.line&&Γ.hls.contains f) ((cV r Γ dC e).map λd=>qT i Γ.hC f d)
    |_=>J)
   |_=>J)
  |_=>J)
 |_=>J
abbrev Nz(f:Expr)(a:L Expr)(c:L Keyword)(p:Pos):Y DS.DS:=match f,a,c with
 |.Attribute o m b,[e],[]=>(nm Γ o).bind λi=>cG (m==("pop")&&Y4 e&&b.endLine==p.line) ((cV r Γ dC e).map λd=>b0 i d)
 |_,_,_=>J
abbrev NA(e:Expr):=match e with
 |.Call f b a p=>(match L9 r Γ f b a p with
  |S d=>S d
  |none=>(match Ny r Γ f b a p with
   |S d=>S d
   |none=>(match Nz r Γ f b a p with
    |S d=>S d
    |none=>(cV r Γ dV (.Call f b a p)).map qQ)))
 |e=>cG (Z4 e) ((cV r Γ dV e).map qQ)
abbrev E8(e:Expr):Y DX:=match e with
 |.Call f b a _=>(match f,a with
  |.Name x _,[]=>cG (UH Γ x&&!b.isEmpty&&Γ.cm) (match Γ.gs.lookup x with
   |S (.fX _ _ a F)=>(cA r Γ a b).map λl=>gv F l
   |_=>J)
  |_,_=>J)
 |_=>J
abbrev pR(b:L Expr)(m:Str)(a:Expr):Y DX:=match a with
 |.Name y p=>cG (!b.isEmpty) (match Γ.hm.lookup m with
  |S (.fX _ _ c F)=>(cV r Γ dV (.Name y p)).bind λd=>(cA r Γ c b).map λl=>yg Γ.hC m F d l
  |_=>J)
 |_=>J
abbrev La(e:Expr):=match e with
 |.Call f b c p=>(match f,c with
  |.Attribute a m d,[]=>cG (d.endLine==p.line&&Γ.cm&&Nat.blt b.length 20) (pR r Γ b m a)
  |_,_=>J)
 |_=>J
abbrev NB(e:Expr):Y DX:=match e with
 |.Subscript a b _=>cG (Wt b) ((La r Γ a).bind λd=>(cV r Γ dV b).map λc=>CN d c)
 |e=>La r Γ e
abbrev BB(e:Expr):Y DX:=if Γ.xm then(match E8 r Γ e with
 |S a=>S a
 |none=>NB r Γ e)else J
abbrev BC(e:Expr):Y Go:=if Γ.xm then(match e with
 |.Call f c b p=>(match f,b with
  |.Attribute a m d,[]=>cG (d.endLine==p.line&&Γ.cm&&Nat.blt c.length 20&&!c.isEmpty) ((nm Γ a).bind λi=>match Γ.hm.lookup m with
   |S (.fH _ _ b F)=>cG (b.all id) ((cA r Γ b c).map λl=>YV i Γ.hC m F l)
   |_=>J)
  |_,_=>J)
 |_=>J)else J
abbrev Lb(e:Expr):Y (Go×Go):=match e with
 |.Call f b a _=>(match f,a with
  |.Name x _,[]=>(match b with
   |o::b=>(nm Γ o).bind λi=>cG (UH Γ x&&Γ.cm&&Y4 o) (match Γ.gs.lookup x with
    |S (.fH _ _ a F)=>cG (a.all id) ((cA r Γ a b).map λl=>(yE i F l,yE i (uV F) l))
    |_=>J)
   |[]=>J)
  |_,_=>J)
 |_=>J
abbrev Lc(e:Expr):=match e with
 |.Call f c a p=>(match f with
  |.Attribute o m b=>(match c,a with
   |[],[]=>cG (m==("pop")&&b.endLine==p.line) (nm Γ o)
   |_,_=>J)
  |_=>J)
 |_=>J
abbrev NC:L Stmt->Y Go
 |[s]=>(match s with
  |.Assign a e _=>(match a with
   |[t]=>(match t with
    |.Name _ _=>(Lb r Γ e).map (·.1)
    |_=>J)
   |_=>J)
  |_=>J)
 |_=>J
abbrev ND(t e:Expr):Y DS.DS:=match t,e with
 |.Name x _,.Call f b a _=>(match f,a with
  |.Name y _,[]=>(kb Γ x).bind λi=>cG (UH Γ y&&!b.isEmpty&&Γ.cm) (match Γ.hm.lookup y with
   |S (.mH _ _ a C F)=>cG (a.all id&&C==Γ.hC) ((cA r Γ a b).map λl=>GY i C F l)
   |_=>J)
  |_,_=>J)
 |_,_=>J
abbrev Oi:Expr->Bool
 |.Constant c _ _=>(match c with
  |.str _=>B
  |_=>G)
 |_=>G
abbrev NE(e:Expr):Y DS.DS:=match e with
 |.Call f b c _=>(match f,c with
  |.Name x _,[]=>cG (Γ.xm&&UH Γ x) (match Γ.xt.xq.lookup x with
   |S d=>cG (!b.isEmpty) ((cA r Γ (b.map λ_=>B) b).map λl=>CF x d l)
   |none=>cG (Γ.xt.xp.contains x) (match b with
    |[a]=>cG (Oi a) (S (GW x))
    |_=>J))
  |_,_=>J)
 |_=>J
abbrev Oj:Expr->Y Str
 |.Constant c _ _=>(match c with
  |.str z=>S z
  |_=>J)
 |_=>J
abbrev NF:Stmt->Y (Str×Str×Str)
 |.Assign c e _=>(match c with
  |[t]=>(Gp t).bind λy=>(match e with
   |.Call f d b _=>(Gp f).bind λx=>(match d,b with
    |[a],[]=>(Oj a).map λz=>(y,x,z)
    |_,_=>J)
   |_=>J)
  |_=>J)
 |_=>J
noncomputable abbrev Gm.sui(Γ:Gm):={Γ with cm:=G,xm:=G,sf:=G,ss:=[]}
noncomputable abbrev Gm.nox(Γ:Gm):={Γ with xm:=G}
abbrev Ol(i:Nat)(a:Stmt)(b:L Stmt):Y DS.DS:=(NF a).bind λp=>(kb Γ p.1).bind λj=>(Γ.ss.lookup p.2.1).bind λF=>cG (UH Γ p.2.1&&Γ.cm) ((q Γ.sui b).map λd=>jb (gA i j F p.2.2) d)
abbrev d4(i:Nat)(a:Stmt)(b:L Stmt):Y DS.DS:=match Ol q Γ i a b with
 |S d=>S d
 |none=>q Γ.sui (a::b)
abbrev Ld:L ExceptHandler->Y (L Hd)
 |[]=>S []
 |.ExceptHandler t n b _::f=>(match t,n,b with
  |S (.Name x _),S n,a::e=>(Γ.xt.ct.lookup x).bind λc=>(slot Γ n).bind λi=>cG (UH Γ x&&xi Γ.sc n) ((d4 q Γ i a e).bind λd=>(Ld f).map λl=>#[c.1,c.2,i,d]::l)
  |_,_,_=>J)
abbrev NG(e:Expr):Y DS.DS:=if hc Γ e.pos=11 then(cV r Γ dC e).map AO else J
abbrev pS(t e:Expr)(c:Go):Y DS.DS:=match t with
 |.Name x _=>(kb Γ x).map λi=>Z1 c λd a=>S (.nx (a.set i (.cl d)))
 |.Tuple f n p=>cG (!Vu e) ((r.g Γ Γ.N.length (.Tuple f n p)).map λg=>Z1 c λd a=>(g d a).bind λb=>S (.nx b))
 |_=>J
abbrev cS(s:Stmt):Y DS.DS:=match s with
 |.Assign F e _=>(match F with
  |[t]=>(match BB r Γ e with
   |S f=>(match t with
    |.Name x _=>(kb Γ x).map λi=>Z0 f λd h=>S (.nx (h.set i (.cl d)))
    |.Tuple C n p=>(r.g Γ Γ.N.length (.Tuple C n p)).map λg=>Z0 f λd h=>(g d h).bind λk=>S (.nx k)
    |_=>J)
   |none=>(match BC r Γ e with
    |S f=>(match t with
     |.Name x _=>(kb Γ x).map λi=>Z1 f λd h=>S (.nx (h.set i (.cl d)))
     |_=>J)
    |none=>(match Lb r Γ e with
     |S f=>pS r Γ t e f.2
     |none=>(match ND r Γ t e with
      |S d=>S d
      |none=>(match Lc Γ e with
       |S i=>(match t with
        |.Name x _=>(kb Γ x).map λj=>xa i j
        |_=>J)
       |none=>Nw r Γ t e)))))
  |_=>J)
 |.AugAssign t I e _=>Nx r Γ t I e
 |.Expr e _=>(match BB r Γ e with
  |S f=>S (Z0 f λ_ h=>S (.nx h))
  |none=>(match BC r Γ e with
   |S f=>S (Z1 f λ_ h=>S (.nx h))
   |none=>NA r Γ e))
 |.Return o _=>(match o with
  |none=>S (ju (dK .non))
  |S e=>(match BB r Γ e with
   |S f=>S (Z0 f λd _=>S (.rt d))
   |none=>(match BC r Γ e with
    |S f=>S (Z1 f λd h=>S (.rh d h))
    |none=>(match NG r Γ e with
    |S d=>S d
    |none=>(match nm Γ e with
    |S i=>if Γ.ow.contains i then S (qR i)else S (ju (dC i))
    |none=>if Γ.kF then(cF r Γ e).map Yo else(cV r Γ dC e).map ju)))))
 |.If c a b _=>(r.t Γ c).bind λt=>(q Γ a).bind λx=>(q Γ b).map λy=>jr t x y
 |.While c b o _=>(match o with
  |[]=>(r.t Γ c).bind λt=>(q Γ b).map λx=>uP t x 20000
  |_::_=>J)
 |.For w v b o _=>(match o with
  |[]=>cG (K6 v&&Γ.cm) ((cI r Γ w v).bind λH=>(r.g Γ Γ.N.length w).bind λg=>(q Γ b).map λx=>Yg H g x)
  |_::_=>J)
 |.Raise e o _=>(match e,o with
  |S e,none=>if Γ.xm then NE r Γ e else S JD
  |_,_=>J)
 | .Try u m o A _=>cG (o.isEmpty&&A.isEmpty&&!m.isEmpty) (match NC r Γ u with
   |S f=>(q Γ.nox u).bind λz=>(Ld q Γ m).map λl=>uW f z l
   |none=>J)
 |_=>J
abbrev aj(l:Nat):L (Nat×Nat)->DS.DS->DS.DS
 |[],d=>d
 |(m,i)::r,d=>if m=l then vV i (aj l r d)else aj l r d
abbrev ny(y z:Expr)(a e:Nat)(s k c d b f:Str)(i:Nat):Y DS.DS:=
 cG (c==k&&b==k&&d==s&&f==s&&Z4 y&&Z4 z&&Γ.cm) ((cV r Γ dC y).bind λd1=>(cV r Γ dC z).map λd2=>qV a e i d1 d2)
abbrev nA(a b y z:Expr)(u v:Expr×Expr)(h:Str):Y DS.DS:=
 (nm Γ a).bind λe=>(nm Γ b).bind λg=>(Gp a).bind λs=>(Gp b).bind λk=>(Gp u.1).bind λc=>(Gp u.2).bind λd=>(Gp v.1).bind λf=>(Gp v.2).bind λj=>(kb Γ h).bind λi=>ny r Γ y z e g s k c d f j i
abbrev E9(l:L Stmt):Y DS.DS:=match l with
 |[b,d]=>(Nl b).bind λx=>(lV x.2.2.1).bind λy=>(lV x.2.2.2).bind λz=>(lU z.1).bind λu=>(Nj d).bind λv=>(lU v).bind λc=>
  (Gp y.1).bind λa=>nA r Γ x.1 x.2.1 y.2 z.2 u c a
 |_=>J
abbrev Ea:L Stmt->Y DS.DS
 |[]=>S jA
 |s::t=>if Γ.sh.contains (b9 s,1000)then S JD else if Γ.sh.contains (b9 s,1001)then E9 r Γ (s::t)else(cS r q Γ s).bind λd=>(match t with
  |[]=>S (aj (b9 s) Γ.sh d)
  |t=>(Ea t).map λa=>aj (b9 s) Γ.sh (jb d a))
end
abbrev cQ(r:Rc):Nat->Gm->L Stmt->Y DS.DS
 |0=>λ_ _=>J
 |n+1=>λa=>Ea r (cQ r n) a
section
variable(P:Program) (w:World) (K':Fr) (mg:Tj) (base:Heap) (C:Addr) (rm:Nat->Prop) (K:Fr) (x:Str)
abbrev xl:GI->Prop
 |.con i=>∃t,mg x=S (.int i t)
 |.fE k b c F=>FnI P w K' mg base k x b (VV K c F)/\rm k
 |.fF k b c F=>FnI P w K' mg base k x b (XX K c F)/\rm k
 |.mk k b c F a=>MkI P w K' mg base k C x b (e9 K C c F)/\(∀p e o,a e=S o->F p e=S o)/\rm (k+1)
 |.fX k b c F=>(∃f d,FnOk P w K' mg base (yD P w) k f d b (WY K c F)/\JP K' d b []/\PySem.W.keepIn K' (.ref f)=B/\mg x=S (.ref f))/\rm k
 |.blt=>mg x=J
 |.fH k b c F=>(∃f d,FnOk P w K' mg base (yD P w) k f d b (uT K c F)/\JP K' d b []/\PySem.W.keepIn K' (.ref f)=B/\mg x=S (.ref f))/\rm k
 |.mH _ _ _ _ _=>False
abbrev NH(P:Program)(w:World)(K':Fr)(mg:Str->Y _)(base K x)(F:L D->Y D):=∃f a c b,FnS P w K' mg base f a c (VV K [b] F)/\JP K' a c []/\PySem.W.keepIn K' (.ref f)=B/\mg x=S (.ref f)
abbrev yv:GI->Prop
 |.fX k b c F=>(∃f a,FnOk P w K' mg base (yD P w) k f a b (WY K (G::c) F)/\JP K' a b []/\Meth K' C x f)/\rm k
 |.fH k b c F=>(∃f a,FnOk P w K' mg base (yD P w) k f a b (uT K c F)/\JP K' a b []/\Meth K' C x f)/\rm k
 |.mH k b c C F=>(∃f a,FnOk P w K' mg base (yD P w) k f a b (uT K c F)/\JP K' a b []/\Mk K' C f/\mg x=S (.ref C))/\rm (k+1)
 |_=>True
abbrev ao:GI->Prop
 |.fE k a _ F=>MtI P w K' mg base k C x a (VV K [G] F)/\rm k
 |.fF k a _ F=>MtI P w K' mg base k C x a (XX K [G] F)/\rm k
 |_=>True
end
structure XTok (K:Fr) (mg:Tj) (T:XT) where
 e:∀x∈T.ex,∃C,W.nsIn K mainGlobals x=S (S (.ref C))/\mg x=S (.ref C)/\ExC K C
 k:∀x∈T.ex,∀y∈T.ex,W.kitOne K Si (.ref (jV K y))=S (x==y)
 c:∀h∈T.ct,mg h.1=S (.ref (jV K h.1))/\(∀x∈h.2.1,W.exmOne K Si (.ref (jV K h.1))=S B)/\∀x∈h.2.2,W.exmOne K Si (.ref (jV K h.1))=S G
 f:∀p∈T.xf,ExG K (jV K p.1) p.2
 v:T.ve=B->∀x∈T.ex,W.kitOne K Si (.type "ValueError")=S B
 c3:∀p∈T.c3,(∀x∈p.1,mg x=S Si)/\∀c∈p.2,W.exmAny K (.ref (jV K c)) (p.1.map λx=>Value.ref (jV K x))=S B
abbrev wG:L Value:=[.type "ValueError",.type "Exception",.type "BaseException",.type "object"]
abbrev KB(P:Program)(w:World)(K:Fr)(g:Str->Y _)(a:Heap)(f:Nat->Prop)(x)(d:L _):=∃C b e c k,W.nsIn K mainGlobals x=S (S (.ref C))/\ub K C wG "ValueError.__new__" b=B/\W.keepIn K (.ref C)=B/\W.typeIn K (.ref b)=S (.type "function")/\FnOk P w K g a Y9 k b e c (Bl C d)/\d.length<=1000/\c.length=d.length+1/\JP K e c []/\f (k+1)
def KB.mono{K d a r b x c}(h:KB P w K d a r x c)(l:∀k,r k->b k):KB P w K d a b x c:=by
 let Jw C e o f k p i s u u0:=h;let yY n t m j g:=u0;exact#[C,e,o,f,k,p,i,s,u,n,t,m,j,l _ g]
structure OkX (K) (Γ:Gm) (X:Cx) where
 xt:XTok K X.mg Γ.xt
 n:X.N=Γ.N
 sc:X.env.scope=Γ.sc
 nd:Γ.N.Nodup
 calm:Γ.cm=B->X.calm=B
 k:X.K=K
 room:Γ.cm=B->Room 0 X.A
 fn:Γ.fn=B->∀x,X.fn x=B
 gs:∀x g,Γ.gs.lookup x=S g->xl X.prog X.w X.K X.mg X.base Γ.C (λk=>Γ.cm=B->Room k X.A) K x g
 ms:∀x g,Γ.ms.lookup x=S g->ao X.prog X.w X.K X.mg X.base Γ.C (λk=>Γ.cm=B->Room k X.A) K x g
 cl:Cls K Γ.C
 fl:∀f,Γ.fl.contains f=B->yP K Γ.C f
 hcl:Cls K Γ.hC
 hfl:∀f,Γ.hfl.contains f=B\/Γ.hls.contains f=B->yP K Γ.hC f
 hm:∀x g,Γ.hm.lookup x=S g->yv X.prog X.w X.K X.mg X.base Γ.hC (λk=>Γ.cm=B->Room k X.A) K x g
 xq:∀x fs,Γ.xt.xq.lookup x=S fs->KB X.prog X.w X.K X.mg X.base (λk=>Γ.cm=B->Room k X.A) x fs
 sf:Γ.sf=B->GU X
 ss:∀x F,Γ.ss.lookup x=S F->NH X.prog X.w X.K X.mg X.base K x F
abbrev Gq(X:Cx)(K:Fr)(e:Expr):Dn->Prop
 |.E d=>PE X e (tE K d)
 |.F d=>PE X e (tF K d)
structure RcOk (r:Rc) where
 n:∀{K Γ X e d},OkX K Γ X->r.n Γ e=S d->Gq X K e d
 t:∀{K Γ X e d},OkX K Γ X->r.t Γ e=S d->PT X e (tT K d)
 g:∀{K Γ X k e d},OkX K Γ X->r.g Γ k e=S d->PG X e (tG K k d)
def jq(h:cG c o=S y):c=B/\o=S y:=by
 cases c with
 |true=>exact#[rfl,h]
 |false=>exact Zn h
def bk{o:Y c}{f:c->Y d}{P:Prop}(k:∀x,o=S x->f x=S y->P)(h:o.bind f=S y):P:=by
 let ja x a b:=jd h;exact k x a b
def jh(h:o.map f=S y):∃x,o=S x/\f x=y:=by simp_all
def jl(h:(a&&b)=B):a=B/\b=B:=by simpa using h
def vK(h:(!a)=B):a=G:=by simpa using h
set_option tactic.hygienic true
theorem gD:∀{l i},Wr x l=S i->l[i]?=S x
 |[],_,h=>Zn h
 |y::r,i,h=>by
  unfold Wr at h;split at h
  ·obtain rfl:=Zj h;rename_i e;rw[e];rfl
  ·let ja j a b:=jh h;rw[<-b];simpa using gD a
section
variable{r:Rc}{Γ:Gm}{X:Cx}{K:Fr}{x y:Str}{i:Nat}{e a b c tg:Expr}{es:L Expr}{pos:Pos}{d:DE}
def UJ(h:gB f x=B):GE f x:=by
 unfold gB at h;split at h<;>first|exact Zf h|skip
 ·exact .inl Sv
 ·exact .inr (.inl Sv)
 ·exact .inr (.inr Sv)
def BD(h:xh f x=B):Uw f x:=by
 unfold xh at h;split at h<;>first|exact Zf h|skip
 ·exact .inl Sv
 ·exact .inr Sv
def xn(h:xi f x=B):f.names.lookup x=S .local:=by
 unfold xi at h;split at h
 ·assumption
 ·exact Zf h
def ZR(h:OkX K Γ X)(g:UH Γ x=B):Gl X x/\Su=G:=by
 let q f j:=jl g;refine#[?_,vK j];show X.env.scope.names.lookup x=_;rw[h.sc];split at f
 ·assumption
 ·exact Zf f
def wH(h:OkX K Γ X)(g:Bx Γ x=B):Gl X x/\X.mg x=J:=by
 let q j f:=jl g;refine#[(ZR h j).1,?_];split at f
 ·exact h.gs x _ Sv
 ·exact Zf f
theorem xo(e:slot Γ x=S i):Wr x Γ.N=S i/\gB Γ.sc x=B/\Su=G/\(x==("__classdict__"))=G:=by
 let ja j g f:=jd e;split at f
 ·simp_all
 ·exact Zn f
def JU(h:OkX K Γ X)(e:slot Γ x=S i):PE X (.Name x pos) (yF i):=by
 let Jm f k g j:=xo e;exact pv i (by rw[h.n];exact gD f) (by rw[h.sc];exact UJ k) g j
def Y7(h:nm Γ e=S i):∃x pos,e=.Name x pos/\slot Γ x=S i:=by
 cases e with
 |Name x p=>exact#[_,_,rfl,h]
 |_=>exact Zn h
theorem Zc(h:OkX K Γ X)(e:kb Γ x=S i):X.N.Nodup/\X.N[i]?=S x/\Uw X.env.scope x/\(X.fn x=B\/X.env.scope.names.lookup x=S .local):=by
 let ja j m g:=jd e;split at g
 ·obtain rfl:=Zj g;rename_i k;let q l f:=jl k;refine#[by rw[h.n];exact h.nd,by rw[h.n];exact gD m,by rw[h.sc];exact BD l,?_];rw[Bool.or_eq_true]at f;rcases f with f|f
  ·exact .inl (h.fn f x)
  ·exact .inr (by rw[h.sc];exact xn f)
 ·exact Zn g
def j_(h:Y4 e=B):starEach (e::es) f=(G,eval e f)::starEach es f:=by
 cases e<;>first|rfl|exact Zf h
theorem YK:∀{es},(∀e∈es,Y4 e=B)->(backTo pos (starEach es f)).any (·.1)=G
 |[],_=>rfl
 |e::es,h=>by
  rw[j_ (h e List.mem_cons_self)];show(G||(backTo _ _).any _)=G;rw[YK λx g=>h x (List.mem_cons_of_mem _ g)];rfl
def zc(h:UI e=B):attributeBase e f g (eval e g)=eval e g:=by
 cases e<;>first|rfl|exact Zf h
def Vv(h:Wt b=B):kT b:=by
 cases b<;>first|(intro _ _;rfl)|exact Zf h
def K7(h:K6 e=B):∀x,foldedSetIterable e f x=pure x:=by
 cases e<;>first|(intro _;rfl)|exact Zf h
def yh(h:Z4 e=B):swapsWith e t l f=pure G:=by
 cases e<;>first|rfl|exact Zf h
def xr(h:cV r Γ f e=S d):(∃i,nm Γ e=S i/\d=f i)\/∃n,r.n Γ e=S n/\d=n.e:=by
 unfold cV at h;split at h
 ·exact .inl #[_,by assumption,(vFa h).symm]
 ·let ja n g j:=jh h;exact .inr #[n,g,j.symm]
def d5(h:Gq X K e n):PE X e (tE K n.e):=by
 cases n with
 |E d=>exact h
 |F d=>exact iy h
variable(R:RcOk r) (h:OkX K Γ X)
include R h
theorem yi(q:cV r Γ dC e=S d):PE X e (tE K d):=by
 rcases xr q with⟨i,f,rfl⟩|⟨n,f,rfl⟩
 ·let jW x p rfl g:=Y7 f;exact DL i (JU h g)
 ·exact d5 (R.n h f)
theorem jJ(q:cV r Γ dV e=S d):PE X e (tR K d):=by
 rcases xr q with⟨i,f,rfl⟩|⟨n,f,rfl⟩
 ·let jW x p rfl g:=Y7 f;exact M7 i (JU h g)
 ·exact o5 (d5 (R.n h f))
theorem gE(q:cV r Γ dP e=S d):PE X e (tP K d):=by
 rcases xr q with⟨i,f,rfl⟩|⟨n,f,rfl⟩
 ·let jW x p rfl g:=Y7 f;exact MA i (JU h g)
 ·exact oI (d5 (R.n h f))
theorem zj:∀{f es l},cA r Γ f es=S l->PA X es (Y1 K l)/\l.map (·.1)=f/\(∀e∈es,Y4 e=B)/\l.length=es.length
 |[],[],l,q=>by obtain rfl:=Zj q;exact#[Mt,rfl,(λ_ h=>by cases h),rfl]
 |k::f,e::es,l,q=>by
  unfold cA at q;split at q
  ·rename_i g;let ja d j q:=jd q;let ja u o q:=jd q;obtain rfl:=Zj q;let Jm m p t n:=zj o;refine#[?_,by simp[p],λz s=>?_,by simp[n]]
   ·cases k with
    |true=>exact oy (yi R h j) m (j_ g)
    |false=>exact oz (jJ R h j) m (j_ g)
   ·grind
  ·exact Zn q
 |[],_::_,_,q=>Zn q
 |_::_,[],_,q=>Zn q
omit R in
theorem Le(q:lT g=S f):∃t,Jh X (binaryOp g) t/\JN K t f:=by
 have:=h.k;subst this;cases g<;>cases q
 ·exact#[_,ff,Mj]
 ·exact#[_,HK,Mb]
 ·exact#[_,fe,Il]
 ·exact#[_,HM,Md]
 ·exact#[_,HN,Mf]
 ·exact#[_,Ez,Me]
omit R in
theorem kg(hc:Γ.cm=B)(q:Ws g=S f):∃t,Jh X (compareOp g) t/\JN K t f:=by
 have:=h.k;subst this;cases g<;>obtain rfl:=Zj q
 ·exact#[_,Iu (h.room hc),O3]
 ·exact#[_,Iv (h.room hc),O4]
 ·exact#[_,mY,o9]
 ·exact#[_,mZ,oa]
 ·exact#[_,m_,og]
 ·exact#[_,M0,oh]
 ·exact#[_,HV,Mg]
 ·exact#[_,EA,iG]
 ·exact#[_,bX,Iw]
 ·exact#[_,Qi,Iw]
omit R in
theorem K8(hc:Γ.cm=B)(q:Wu Γ p g=S f):∃t,Jh X (compareOp g) t/\JN K t f:=by
 unfold Wu at q;split at q
 ·cases g<;>cases q;exact#[_,Bu,nc]
 ·exact kg h hc q
omit R in
theorem BE(hc:Γ.cm=B)(q:E4 Γ p g=S f):∃t,Jh X (compareOp g) t/\JN K t f:=by
 unfold E4 at q;split at q
 ·cases g<;>cases q
  ·exact#[_,CJ,eT]
  ·exact#[_,Xz,eT]
 split at q
 ·cases g<;>cases q;exact#[_,bQ,nj]
 ·exact kg h hc q
theorem BF:∀{f d},cB r Γ zi f=S d->PE X (.BoolOp .And f pos) (tE K d)
 |[],_,q=>Zn q
 |[a],_,q=>DQ (yi R h q)
 |a::b::c,d,q=>by
  let ja d1 j q:=jd q;let ja d2 g q:=jd q;obtain rfl:=Zj q;exact Mp (jJ R h j) (BF g)
theorem Eb:∀{f d},cB r Γ Qy f=S d->PE X (.BoolOp .Or f pos) (tE K d)
 |[],_,q=>Zn q
 |[a],_,q=>DQ (yi R h q)
 |a::b::c,d,q=>by
  let ja d1 j q:=jd q;let ja d2 g q:=jd q;obtain rfl:=Zj q;exact ou (jJ R h j) (Eb g)
theorem BG:∀{f d},cW r Γ Jr f=S d->PW X (.BoolOp .And f pos) (tT K d)
 |[],_,q=>Zn q
 |[a],_,q=>iK (R.t h q)
 |a::b::c,d,q=>by
  let ja d1 j q:=jd q;let ja d2 g q:=jd q;obtain rfl:=Zj q;exact Mo (R.t h j) (BG g)
theorem Ec:∀{f d},cW r Γ Ye f=S d->PW X (.BoolOp .Or f pos) (tT K d)
 |[],_,q=>Zn q
 |[a],_,q=>Mn (R.t h q)
 |a::b::c,d,q=>by
  let ja d1 j q:=jd q;let ja d2 g q:=jd q;obtain rfl:=Zj q;exact ot (R.t h j) (Ec g)
theorem K9(q:part r Γ o=S p):PO X o (QA K p):=by
 cases o with
 |none=>obtain rfl:=Zj q;exact oA
 |some e=>
  let ja d f rfl:=jh q;exact oG (jJ R h f)
theorem BH(q:eZ r Γ e=S g):PI X tg e (Z_ K g):=by
 unfold eZ at q;split at q
 ·let ja d f rfl:=jh q;exact na (gE R h f) h.k
 ·let ja d f rfl:=jh q;exact DY (gE R h f) h.k
 ·let ja d f rfl:=jh q;exact DY (gE R h f) h.k
omit R h in
theorem d6(t:Vu e=B):∃es n p,e=.Tuple es n p:=by
 cases e<;>first|exact#[_,_,_,rfl]|exact Zf t
theorem Lf(q:lZ r Γ (Vu tg) x es=S p):PI X tg (.Call (.Name x v) es [] pos) (Z_ K p):=by
 unfold lZ at q;split at q
 ·rename_i t;let q m l:=wH h t;split at q
  ·split at q
   ·rename_i k;subst k;let q j q:=jq q;let ja d f rfl:=jh q;exact iS m l (jJ R h f) (j_ j)
   ·exact Zn q
  ·split at q
   ·rename_i k;subst k;let q j q:=jq q;let q g o:=jl j;let q g n:=jl g;let ja d f q:=jd q;let ja u s rfl:=jh q;let Q1 _ _ _ rfl:=d6 o;exact MC m l (gE R h f) (gE R h s) (by rw[j_ g,j_ n];rfl) (j_ n) h.k
   ·exact Zn q
  ·exact Zn q
 ·exact Zn q
theorem Lg(q:l_ r Γ tg (.Call f j g p) f j g p=S k):PI X tg (.Call f j g p) (Z_ K k):=by
 unfold l_ at q;cases f with
 |Name x l=>
  cases g with
  |nil=>
   dsimp only at q;split at q
   ·obtain rfl:=Zj q;exact Lf R h Sv
   ·exact BH R h q
  |cons _ _=>exact Zn q
 |_=>cases q
theorem Ed(q:cI r Γ tg e=S g):PI X tg e (Z_ K g):=by
 cases e with
 |Call f k j p=>exact Lg R h q
 |_=>exact BH R h (jq q).2
end
theorem Ka:∀{l},kf l=B->l.Nodup
 |[],_=>List.nodup_nil
 |x::r,h=>by
  let q a b:=jl h;refine List.nodup_cons.mpr #[λz=>?_,Ka b];rw[List.contains_iff_mem.mpr z]at a;exact Zf a
theorem Kb:∀{l},xj l=B->l.Nodup
 |[],_=>List.nodup_nil
 |x::r,h=>by
  let q a b:=jl h;refine List.nodup_cons.mpr #[λz=>?_,Kb b];rw[List.contains_iff_mem.mpr z]at a;exact Zf a
def Lh{K e P t}(a:GU X)(h:PE X e (tP K t))(hK:X.K=K):IL X P e (Z_ K (b8 t)):=λo s w H R I UQ=>by
 let Vl a0 o0 a:=a;let je W O0 u O f j M q:=UQ;let ja d c N:=jd M;refine Ct a h _ s w H R I #[W,O0,u,O,d,j,c,λv k s r=>?_];cases d<;>cases N;have n:=j.grow s;let jc p F rfl h1 h2:=(r.at n.keep n.in0 (jf.refl _)).lst;refine#[p,rfl,#[F,Jk.of h1],q _ k s λi k O' Q t1 T _=>?_];let jc p' b e' g l:=(r.at Q t1 T).lst;cases e';refine#[λd A=>?_,λhi=>#[b,Jk.of g,by rw[l.len,hi];exact wPa _]];let ja x m C:=l.get A;refine#[#[b,x,Jk.of g,m],λx' Z y=>?_];let q c y:=y;have z:=y b (Jk.of g);rw[m]at z;obtain rfl:=Zj z;rw[c];exact#[jf.refl _,C]
structure LcP (X K elt tg iter ifs scope own caps di g) (dc:DT) (de) where
 SQ:CScope X scope
 cp:Caps X scope caps
 i:PI X tg iter (Z_ K di)
 g:∀s3 H3 ex',PG (X.comp (L2.cN own caps) scope s3 H3 ex') tg (tG K own.length g)
 t:∀s3 H3 ex',ZJ (X.comp (L2.cN own caps) scope s3 H3 ex') ifs (tT K dc)
 e:∀s3 H3 ex',PE (X.comp (L2.cN own caps) scope s3 H3 ex') elt (tE K de)
 nd:(caps.map (·.2)).Nodup
 fs:∀x,foldedSetIterable iter X.env x=pure x
 cm:X.calm=B
section
variable{r:Rc}{Γ:Gm}{X:Cx}{K:Fr}{x y:Str}{i:Nat}{e a b c tg:Expr}{es:L Expr}{pos:Pos}{d:DE}
def YL{g f}(h:OkX K Γ X)(n:kf (wF Γ j g f).N=B){m l k}:OkX K (wF Γ j g f) (X.comp (L2.cN j g) f m l k) where
 n:=rfl
 sc:=by
  show relabel _ _=L0 _ _;rw[<-h.sc];rfl
 nd:=Ka n
 calm:=h.calm
 k:=h.k
 room:=h.room
 xt:=h.xt
 fn:=λz=>Zf z
 gs:=h.gs
 ms:=h.ms
 cl:=h.cl
 fl:=h.fl
 hcl:=h.hcl
 hfl:=h.hfl
 hm:=h.hm
 xq:=h.xq
 sf:=λz=>nomatch z
 ss:=λx F z=>nomatch z
def bb(h:OkX K Γ X)(q:E1 Γ f=B):CScope X f:=by
 let q q l:=jl q;let q q k:=jl q;let q g j:=jl q;refine#[?_,j,k,by rw[h.sc];exact l];split at g
 ·assumption
 ·exact Zf g
theorem Kc(h:OkX K Γ X):∀{f},f.all (b7 Γ g)=B->Caps X g f
 |[],_=>.nil
 |(y,j)::r,q=>by
  let q k o:=jl q;let q k m:=jl k;let q l n:=jl k;refine .cons ?_ ?_ ?_ (Kc h o)
  ·rw[h.n];split at l
   ·simp_all
   ·exact Zf l
  ·show X.env.scope.names.lookup y=_\/X.env.scope.names.lookup y=_;rw[h.sc];split at n
   ·exact .inl Sv
   ·exact .inr Sv
   ·exact Zf n
  ·split at m
   ·assumption
   ·exact Zf m
variable(R:RcOk r) (h:OkX K Γ X)
include R h
theorem Li{d}(q:Nm r Γ t tg k u j p=S d):
  ∃l f n g o m,d=yK l.length (f.map (·.2)) n g o m/\LcP X K t tg k u j l f n g o m:=by
 let q z q:=jq q;let q z w:=jl z;let q z A:=jl z;let q z F:=jl z;let q z v:=jl z;let q I N:=jl z;let ja n C q:=jd q;let ja g H q:=jd q;let ja o s q:=jd q;let ja m M q:=jd q;refine#[_,_,n,g,o,m,(vFa q).symm,bb h I,Kc h N,Ed R h C,λ_ _ _=>R.g (YL h v) H,λ_ _ _=>?_,λ_ _ _=>yi R (YL h v) M,Kb F,K7 A,h.calm w];split at s
 ·obtain rfl:=Zj s;exact iW
 ·exact iX (R.t (YL h v) s)
 ·exact Zn s
theorem Lj{f a x np l d}{j:Nat}(q:L6 r Γ k v f a p=S d)(N:X.N.Nodup)(P:X.N[j]?=S x)(L00:Uw X.env.scope x)(u:∀{g},swapsWith (.DictComp k v g a p) (S (.Name x np)) l.line X.env=pure B)(hf:X.fn x=B\/X.env.scope.names.lookup x=S .local):PS X (.Assign [.Name x np] (.DictComp k v f a p) l) (tS K Px (jx j (dL d))):=by
 unfold L6 at q;split at q
 ·let q z q2:=jq q;let q z y:=jl z;let q z w:=jl z;let q z A:=jl z;let q z F:=jl z;let q z v:=jl z;let q I M:=jl z;have y:=vLa y;subst y;let ja n C q:=jd q2;let ja g H q:=jd q;let ja o s q:=jd q;let ja m G00 q:=jd q;let ja e Q rfl:=jh q;refine Oe _ _ N P L00 (bb h I) (Kc h M) (h.calm w) (Fq (gE R h C)) (λ_ _ _=>R.g (YL h v) H) (λ_ _ _=>?_) (λ_ _ _=>yi R (YL h v) G00) (λ_ _ _=>yi R (YL h v) Q) (Kb F) (K7 A) u hf;split at s
  ·exact iX (R.t (YL h v) s)
  ·exact Zn s
 ·exact Zn q
theorem Fv{d}(q:CY r Γ k tg j l f p=S d):PE X (.ListComp k [#[tg,j,l,0]] f p) (tF K d):=by
 unfold CY at q;let q z q:=jq q;let q z s:=jl z;let q z F:=jl z;let q z w:=jl z;let q z m:=jl z;let q u n:=jl z;let q A t:=jl s;rw[List.isEmpty_iff.mp t];let ja I C q:=jd q;let ja g o q:=jd q;let ja H v q:=jd q;obtain rfl:=Zj q;exact jR (IM _ _ (bb h u) (Kc h n) (Lh (h.sf A) (gE R h C) h.k) (λ_ _ _=>R.g (YL h m) o) (λ_ _ _=>iW) (λ_ _ _=>yi R (YL h m) v) (K7 F)) (wx (Kb w))
omit R in
theorem Fw(hc:X.calm=B){l f p s}(q:CU x s=S f)(n:Gl X x)(k:X.mg x=J)(m:PA X (e::es) (Y1 K l))(o:starEach (e::es) X.env=(G,eval e X.env)::starEach es X.env)(g:(backTo pos (starEach es X.env)).any (·.1)=G):
  PE X (.Call (.Name x p) (e::es) [] pos) (tE K (jo f l)):=by
 have:=h.k;subst this;unfold CU at q;split at q
 ·rename_i j;subst j;obtain rfl:=Zj q;split
  ·exact jR (Zq Qk n k PySem.boot_len m Sq rfl o g) (UE lC)
  split
  ·exact jR (Zq Bt n k PySem.boot_len m Sq rfl o g) (UE lv)
  ·exact jR (Zq Qj n k PySem.boot_len m Sq rfl o g) (UE Mx)
 split at q
 ·rename_i j;subst j;obtain rfl:=Zj q;exact jR (uL qC n k PyProof.Rows.boot_tuple m Sq rfl o g) (UE ET)
 split at q
 ·rename_i j;subst j;obtain rfl:=Zj q;exact jR (Zq (Cb hc) n k PyProof.Rows.boot_all m Sq rfl o g) (UE Mz)
 split at q
 ·rename_i j;subst j;obtain rfl:=Zj q;exact jR (Zq (bR hc) n k PyProof.Rows.boot_max m Sq rfl o g) (UE My)
 ·exact Zn q
omit R in
theorem Fx(hc:X.calm=B){l s b f p}(q:CV x s b=S f)(j:Gl X x)(k:X.mg x=J)(m:PA X (e::es) (Y1 K l))(o:starEach (e::es) X.env=(G,eval e X.env)::starEach es X.env)(g:(backTo pos (starEach es X.env)).any (·.1)=G):
  PE X (.Call (.Name x p) (e::es) [] pos) (tF K (Jg f l)):=by
 have:=h.k;subst this;unfold CV at q;split at q
 ·rename_i n;subst n;obtain rfl:=Zj q;split
  ·exact jR (uL (AZ hc) j k PyProof.Rows.boot_list m Sq rfl o g) (Wb Fo)
  ·exact jR (uL Ql j k PyProof.Rows.boot_list m Sq rfl o g) (Wb iM)
 split at q
 ·rename_i n;subst n;obtain rfl:=Zj q;exact jR (uL AU j k PyProof.Rows.boot_dict m Sq rfl o g) (Wb Fa)
 ·exact Zn q
set_option tactic.hygienic false
set_option tactic.hygienic true in
omit R h in
theorem Fy(q:CW t=S T):bootBuiltins t=S (.type T)/\t≠ "__name__"/\(t==("__debug__"))=G:=by
 unfold CW at q
 repeat(split at q;· rename_i f;subst f;obtain rfl:=Zj q;exact#[rfl,by decide,rfl])
 exact Zn q
theorem Fz{Z}(s:Gl X "isinstance")(v:X.mg "isinstance" = J)(q:CZ r Γ es=S n):Gq X K (.Call (.Name "isinstance" Z) es [] pos) n:=by
 rcases es with _|⟨a,_|⟨t,_|⟨_,_⟩⟩⟩<;>try exact Zn q
 cases t with
 |Name t UQ=>
  dsimp only[CZ]at q;split at q
  ·have g:=List.contains_iff_mem.mp Sv;let q z q:=jq q;let q f j:=jl z;let ja d m rfl:=jh q;let q l o:=ZR h j;let jw C O w _:=h.xt.e _ g;refine MQ (jJ R h m) (XI l w rfl o) s v (j_ f) h.k λc hc=>?_;let jw C' d1 _ d3:=h.xt.e c hc;have p:=h.xt.k c hc _ g;rw[wq O]at p;exact#[by rw[wq d1];exact d3,p]
  ·let q z q:=jq q;let q f j:=jl z;let ja T q1 q:=jd q;let ja d m rfl:=jh q;let Yk N M b3:=Fy q1;let q l o:=wH h j;exact MH (Zq Ce s v PyProof.Rows.boot_isinstance (JT (jJ R h m) (JT (wZ l o N rfl M b3) Yt) (j_ f)) Sq rfl (j_ f)) h.k
 |Tuple W k UQ=>
  rcases W with _|⟨t,_|⟨u,_|⟨_,_⟩⟩⟩<;>try exact Zn q
  ·let ja x1 y1 q:=jd q;let ja x2 I q:=jd q;let q _ rfl:=zx y1;let q _ rfl:=zx I;let q z q:=jq q;let q z Q:=jl z;let q z P:=jl z;let q z F:=jl z;let q f j:=jl z;let ja d m rfl:=jh q;have p:=vLa P;have e2:=vLa Q;subst p e2;let q l o:=wH h j;let q H A:=wH h F;exact IV (fW s v l o H A (jJ R h m) (j_ f)) h.k
 |_=>exact Zn q
theorem d8{O}(I:E3 r Γ x es pos=S n):Gq X K (.Call (.Name x O) es [] pos) n:=by
 let q z q:=jq I;clear I;let q P T:=jl z;let q s H:=ZR h P;let ja g Q o:=jd q;clear q;have q:=o;clear o;have j:=h.gs _ _ Q;cases es with
 |nil=>exact Zf T
 |cons e es=>
 by_cases M:x ="isinstance"
 ·subst M;cases g<;>try exact Zn q
  exact Fz R h s j q
 ·rw[if_neg M]at q;let q hc q:=jq q;have u:(∀z∈e::es,Y4 z=B)->starEach _ _=(G,eval e _)::starEach es X.env:=λm=>j_ (m _ wNa);have A:(∀z∈e::es,Y4 z=B)->(backTo pos (starEach es X.env)).any _=G:=λm=>YK λz UQ=>m z (wMa _ UQ);cases g with
  |con i=>exact Zn q
  |fH k w v F=>exact Zn q
  |mH k w v C F=>exact Zn q
  |fE k w v F=>
   let ja l o rfl:=jh q;let Jm p t m _:=zj R h o;exact iZ j.1 (j.2 hc) p t s H (u m) (A m)
  |fF k w v F=>
   let ja l o rfl:=jh q;let Jm p t m _:=zj R h o;exact i_ j.1 (j.2 hc) p t s H (u m) (A m)
  |fX k w v F=>exact Zn q
  |mk k w v F W=>
   let ja l o rfl:=jh q;let Jm p t m _:=zj R h o;exact Ia j.1 j.2.1 (j.2.2 hc) p t s H (u m) (A m)
  |blt=>
   let ja l o q:=jd q;let Jm p t m _:=zj R h o;split at q
   ·obtain rfl:=Zj q;exact Fw h (h.calm hc) Sv s j p (u m) (A m)
   ·let ja f N rfl:=jh q;exact Fx h (h.calm hc) N s j p (u m) (A m)
omit R h in
theorem ue:∀{l:DA}{es:L Expr},l.map (·.1)=(es.map λ_=>B)->(l.map (·.1)).all id=B:=λq=>by simp_all
omit R h in
theorem aq(o:(l.endLine==j.line)=B):eval (.Call (.Attribute (.Name x p) m l) [] [] j) g=(do
   let n<-eval (.Name x p) g
   standAt l.atName
   let(f,k)<-holding [n] (getMethod n m (do return(<-importBound (.Name x p) g).getD B))
   callWith j f k (backTo j (starEach [] g)) (backToKw j (keywordEach [] g))):=by
 have e:methodCallPos B (.Name x p) g l j=pure j:=by unfold methodCallPos;rw[o];rfl
 have f:methodCallForm 0 (backTo j (starEach [] g)) (backToKw j (keywordEach [] g))=B:=rfl;show(do
  let n<-eval _ _
  standAt _
  methodCall _ m l j _ n 0 _ _)=_
 unfold methodCall;rw[f,e];rfl
omit R h in
theorem Lk{c k n}(q:L3 c=S n):Gq X K (.Constant c k pos) n:=by
 unfold L3 at q;split at q<;>cases q
 ·exact M8
 ·exact o6
 ·exact M9
 ·exact Ma
theorem Ll(q:L4 r Γ g a=S n):Gq X K (.UnaryOp g a pos) n:=by
 unfold L4 at q;split at q
 ·let ja d f rfl:=jh q;exact Mr (jJ R h f)
 ·let ja d f rfl:=jh q;exact Mq (jJ R h f)
 ·exact Zn q
theorem Lm(q:Nn r Γ a o b pos=S n):Gq X K (.BinOp a o b pos) n:=by
 let ja d j q:=jd q;let ja p g q:=jd q;split at q
 ·split at q
  ·obtain rfl:=Zj q;exact o8 ip Mi (jJ R h j) (jJ R h g)
  ·exact Zn q
 ·let ja f m rfl:=jh q;let ja t k l:=Le h m;exact o7 k l (jJ R h j) (jJ R h g)
theorem Ln(hc:Γ.cm=B){os A d}(q:No r Γ a os A pos=S d):PE X (.Compare a os A pos) (tE K d):=by
 rcases os with _|⟨o,_|⟨T,_|⟨O,_|⟨_,_⟩⟩⟩⟩<;>rcases A with _|⟨b,_|⟨c,_|⟨e,_|⟨_,_⟩⟩⟩⟩<;>try exact Zn q
 ·let q z q:=jq q;let ja d n q:=jd q;let ja F p q:=jd q;let ja f s rfl:=jh q;let ja t m l:=BE h hc s;exact DM m l (jJ R h n) (jJ R h p) (vK z)
 ·let q z q:=jq q;let ja d n q:=jd q;let ja F p q:=jd q;let ja C s q:=jd q;let ja f w q:=jd q;let ja P v rfl:=jh q;let ja t m l:=K8 h hc w;let ja H g j:=K8 h hc v;exact ER m g l j (jJ R h n) (jJ R h p) (jJ R h s) (vK z)
 ·let q z q:=jq q;let ja d n q:=jd q;let ja F p q:=jd q;let ja C s q:=jd q;let ja d3 M q:=jd q;let ja f w q:=jd q;let ja P v q:=jd q;let ja I N rfl:=jh q;let ja t m l:=kg h hc w;let ja H g j:=kg h hc v;let ja Q u k:=kg h hc N;exact Ch m g u l j k (jJ R h n) (jJ R h p) (jJ R h s) (jJ R h M) (vK z)
theorem Lo(hc:Γ.cm=B){n}(q:Np r Γ a b pos=S n):Gq X K (.Subscript a b pos) n:=by
 have j:=h.k;have m:∀{b},cG (Wt b) ((cV r Γ dV a).bind λd=>(cV r Γ dV b).map λl=>.E (d2 (L5 Γ pos) d l))=S n->Gq X K (.Subscript a b pos) n:=λq=>by
  let q z q:=jq q;let ja d f q:=jd q;let ja l g rfl:=jh q;subst j;unfold L5;split
  ·exact Cf bU ng (jJ R h f) (jJ R h g) (Vv z)
  split
  ·exact Cf MX lq (jJ R h f) (jJ R h g) (Vv z)
  ·exact Cf bV iH (jJ R h f) (jJ R h g) (Vv z)
 cases b with
 |Slice lo o st p=>
  cases st with
  |none=>
   let ja d f q:=jd q;let ja u g q:=jd q;let ja v k rfl:=jh q;split
   ·exact lD (jJ R h f) (K9 R h g) (K9 R h k) j
   ·exact Mw (jJ R h f) (K9 R h g) (K9 R h k) j
  |some _=>exact Zn q
 |_=>exact m q
theorem BI{u k d}(q:E5 r Γ t u k pos=S d):
  ∃tg l n m j p g s o,u=[#[tg,l,n,0]]/\d=yK m.length (j.map (·.2)) p g s o/\LcP X K t tg l n k m j p g s o:=by
 unfold E5 at q;split at q
 ·let q z q:=jq q;have v:=vLa z;subst v;let cy m j p g s o rfl f:=Li R h q;exact#[_,_,_,_,_,p,g,s,o,rfl,rfl,f]
 ·exact Zn q
omit R h in
theorem xu:∀{es},(∀e∈es,Y4 e=B)->(backTo p (starEach es f)).all (λx=>!x.1)=B
 |[],_=>rfl
 |e::es,h=>by
  rw[j_ (h e List.mem_cons_self)];show(B&&(backTo p _).all (λx=>!x.1))=B;rw[xu λx g=>h x (List.mem_cons_of_mem _ g)];rfl
omit R h in
theorem gF(s:attributeBase a m g (eval a g)=eval a g)(p:(l.endLine==j.line)=B)(o:Nat.blt es.length 20=B)(t:∀e∈es,Y4 e=B):eval (.Call (.Attribute a m l) es [] j) g=(do
   let n<-eval a g
   standAt l.atName
   let(f,k)<-holding [n] (getMethod n m (do return(<-importBound a g).getD B))
   callWith j f k (backTo j (starEach es g)) (backToKw j (keywordEach [] g))):=by
 have e:methodCallPos B a g l j=pure j:=by unfold methodCallPos;rw[p];rfl
 have f:methodCallForm (es.length+([]:L Keyword).length) (backTo j (starEach es g)) (backToKw j (keywordEach [] g))=B:=by
  unfold methodCallForm;rw[xu t];have o:=Nat.blt_eq.mp o;show(B&&B&&decide (es.length+0+0<30))=B;rw[decide_eq_true (by lia)];rfl
 show(do
  let n<-attributeBase a m _ _
  standAt _
  methodCall a m l j _ n _ _ _)=_
 rw[s];unfold methodCall;rw[f,e];rfl
theorem Lp{t n}(q:L7 r Γ a m t es pos=S n):Gq X K (.Call (.Attribute a m t) es [] pos) n:=by
 have hK:=h.k;subst hK;unfold L7 at q;split at q
 ·obtain⟨⟨f,fd,g,p,s⟩,A⟩:=h.hm _ _ Sv;let q z q1:=jq q;let q z u:=jl z;let q z C:=jl z;let q w F:=jl z;let ja d o q2:=jd q1;let ja l a1 rfl:=jh q2;let Jm W k j b4:=zj R h a1;refine nh ?_;cases es with
  |nil=>
   have T:=List.length_eq_zero_iff.mp b4;refine QX (jR (Qd (jJ R h o) h.hcl s g (A F) p .nil AY (gF (zc u) w C j)) λU H Q xx=>?_) k;subst T;let je H0 O0 I O x R' M q:=xx;refine#[H0,O0,I,O,x,R',M,λv UQ s1 rv=>?_];let jL N Z fs y1 P y3 y4:=q v UQ s1 rv;exact#[N,Z,fs,y1,P,y3,Fi y4]
  |cons ea es=>exact QX (W6 (jJ R h o) h.hcl s g (A F) p .nil AY W (j_ (j _ wNa)) (YK λz hz=>j z (wMa _ hz)) (gF (zc u) w C j)) k
 ·exact Zn q
set_option tactic.hygienic true
theorem Lq{p n}(q:Nq r Γ a m p es pos=S n):Gq X K (.Call (.Attribute a m p) es [] pos) n:=by
 rcases es with _|⟨b,_|⟨_,_⟩⟩<;>try exact Zn q
 rotate_left
 ·let q z q:=jq q;let q z u:=jl z;let q v o:=jl z;let ja d g s:=jd q;let ja A t f:=jd s;clear q s;split at f
  ·rename_i l;subst l;obtain rfl:=Zj f;exact Fe (jJ R h g) (jJ R h t) (zc u) v (λ_=>j_ o) h.k
  split at f
  ·rename_i l;subst l;obtain rfl:=Zj f;exact lK (jJ R h g) (jJ R h t) (zc u) v (λ_=>j_ o) h.k
  ·exact Zn f
 ·cases a with
  |Name x w=>
   let q z q:=jq q;let q z hc:=jl z;let ja d g q:=jd q;split at q
   ·rename_i k;cases q;let q M j:=h.ms _ _ k;exact EV (jJ R h g) h.cl M (j hc) (aq z) h.k
   ·rename_i k;cases q;let q M j:=h.ms _ _ k;exact EW (jJ R h g) h.cl M (j hc) (aq z) h.k
   ·exact Zn q
  |_=>exact Zn q
theorem ar{os f d}(q:C_ r Γ a os f=S d):PE X (.Compare a os f pos) (tE K d)/\PT X (.Compare a os f pos) (tT K (jv d)):=by
 rcases os with _|⟨o,_|⟨_,_⟩⟩<;>rcases f with _|⟨b,_|⟨_,_⟩⟩<;>try exact Zn q
 cases o<;>try exact Zn q
 let q z q:=jq q;let ja d1 j q:=jd q;let ja d2 g rfl:=jh q;exact#[DM Ab Aw (jJ R h j) (jJ R h g) (vK z),DP Ab Aw (jJ R h j) (jJ R h g) (vK z)]
theorem nB(q:cN r Γ e=S n):Gq X K e n:=by
 have A:=h.k;unfold cN at q;cases e with
 |Name x p=>
  let q z q:=jq q;let q UQ M:=ZR h z;split at q
  ·rename_i O;obtain rfl:=Zj q;exact iz (pe (h.gs _ _ O) UQ M)
  ·exact Zn q
 |Constant c k p=>
  exact Lk q
 |UnaryOp w a p=>
  exact Ll R h q
 |BinOp a w b p=>
  exact Lm R h q
 |Compare a os bs p=>
  dsimp only at q;split at q
  ·let ja d o rfl:=jh q;exact Ln R h Sv o
  ·let ja d o rfl:=jh q;exact(ar R h o).1
 |BoolOp w H p=>
  cases w
  ·let ja d o rfl:=jh q;exact BF R h o
  ·let ja d o rfl:=jh q;exact Eb R h o
 |IfExp c a b p=>
  let ja t o q:=jd q;let ja d P q:=jd q;let ja d' Q rfl:=jh q;exact Ms (R.t h o) (yi R h P) (yi R h Q)
 |Tuple es k p=>
  let q z q:=jq q;let ja l o rfl:=jh q;let Jm F v _ u:=zj R h o;exact Mu F (ue v) (by rw[u];rw[Nat.ble_eq]at z⊢;exact wSa z Sq)
 |List es p=>
  let q z q:=jq q;let ja l o rfl:=jh q;let Jm F v _ u:=zj R h o;exact Mv F (ue v) (by rw[u];rw[Nat.ble_eq]at z⊢;exact wSa z Sq)
 |Dict C H p=>
  cases C<;>cases H<;>try exact Zn q
  dsimp only at q;split at q
  ·obtain rfl:=Zj q;exact lu
  split at q
  ·obtain rfl:=Zj q;exact lE
  ·exact Zn q
 |Attribute a f p=>
  dsimp only at q;split at q
  ·let q s q:=jq q;let ja d o rfl:=jh q;exact DW (jJ R h o) h.cl (h.fl _ Sv) (zc s) A
  split at q
  ·let q s q:=jq q;let ja d o rfl:=jh q;exact DW (jJ R h o) h.hcl (h.hfl _ (.inl Sv)) (zc s) A
  ·let q s q:=jq q;let ja d o rfl:=jh q;exact MR (jJ R h o) (zc s) A h.xt.f
 |Subscript a b p=>
  let q hc q:=jq q;exact Lo R h hc q
 |ListComp N Z sc p=>
  dsimp only at q;split at q
  ·split at q
   ·let q z q:=jq q;have T:=vLa z;subst T;let ja d o rfl:=jh q;exact Fv R h o
   ·exact Zn q
  let ja d o rfl:=jh q;let JC _ _ _ W I di g w4:=BI R h o;let jc dc de rfl rfl j:=w4;exact iY _ _ j.SQ j.cp j.cm j.i j.g j.t j.e j.nd j.fs
 |Call f es C p=>
  dsimp only at q;unfold Nr at q;cases C with
  |cons _ _=>exact Zn q
  |nil=>
   cases f with
   |Name x p=>
    exact d8 R h q
   |Attribute a m p=>
    dsimp only at q;split at q
    ·obtain rfl:=Zj q;exact Lp R h Sv
    ·exact Lq R h q
   |_=>exact Zn q
 |_=>
  exact Zn q
set_option tactic.hygienic false
set_option tactic.hygienic true in
omit R h in
theorem nC(z:E6 e=B):∀f,isTrue e g f=(do let v<-f;standAt e.pos;holding [v] (truthy v)):=by
 cases e<;>first|(intro _;rfl)|exact Zf z|skip
 rename_i j _ _;cases j<;>first|(intro _;rfl)|exact Zf z
theorem Lr(hc:Γ.cm=B){os s t}(q:Nt r Γ a os s pos=S t):PT X (.Compare a os s pos) (tT K t):=by
 rcases os with _|⟨o,_|⟨C,_|⟨_,_⟩⟩⟩<;>rcases s with _|⟨b,_|⟨c,_|⟨_,_⟩⟩⟩<;>try exact Zn q
 ·let q z q:=jq q;let ja d l q:=jd q;let ja A m q:=jd q;let ja f n rfl:=jh q;let ja t j p:=BE h hc n;exact DP j p (jJ R h l) (jJ R h m) (vK z)
 ·let q z q:=jq q;let ja d l q:=jd q;let ja A m q:=jd q;let ja w n q:=jd q;let ja f u q:=jd q;let ja H v rfl:=jh q;let ja t j p:=K8 h hc u;let ja F g k:=K8 h hc v;exact ES j g p k (jJ R h l) (jJ R h m) (jJ R h n) (vK z)
theorem nD(q:cT r Γ e=S t):PT X e (tT K t):=by
 have j:∀{e},cG (E6 e) ((cV r Γ dV e).map JJ)=S t->PT X e (tT K t):=λq=>by
  let q z q:=jq q;let ja d f rfl:=jh q;exact Ml (jJ R h f) h.k (nC z)
 cases e with
 |Compare a os k p=>
  have q:(if Γ.cm then _ else _)=S t:=q;split at q
  ·exact Lr R h Sv q
  ·let ja d f rfl:=jh q;exact(ar R h f).2
 |UnaryOp g a p=>
  cases g with
  |Not=>
   let ja t f rfl:=jh q;exact Mm (R.t h f)
  |_=>exact j q
 |BoolOp g l p=>
  cases g with
  |And=>exact iL (BG R h q)
  |Or=>exact iL (Ec R h q)
 |_=>exact j q
omit R h in
theorem xw(z:Y4 e=B):(assignEach (e::es) f)=(G,assign e f)::assignEach es f:=by
 cases e<;>first|rfl|exact Zf z
theorem BJ:∀{es f},L8 r Γ k es=S f->GG X es (Bb K k f)/\(assignEach es X.env).length=es.length/\(assignEach es X.env).findIdx? (·.1)=J
 |[],_,q=>by obtain rfl:=Zj q;exact#[MD,rfl,rfl]
 |e::es,f,q=>by
  let q z q:=jq q;let ja g l q:=jd q;let ja j n rfl:=jh q;let Yk p m o:=BJ n;refine#[iV (R.g h l) p (by rw[xw z];rfl),by rw[xw z];simp[m],?_];rw[xw z,List.findIdx?_cons,o];rfl
theorem Ls(q:Nu r Γ k e=S g):PG X e (tG K k g):=by
 cases e with
 |Name x p=>
  let ja i f q:=jd q;let q z q:=jq q;obtain rfl:=Zj q;let Jm m l t j:=Zc h f;exact iU (Ex m l t j) (Nat.blt_eq.mp z)
 |Tuple es k p=>
  let q hc q:=jq q;let ja u f rfl:=jh q;let Yk o n s:=BJ R h f;exact ME _ (h.calm hc) o n s h.k
 |_=>
  exact Zn q
end
theorem Ke:∀n ,RcOk (rc n)
 |0=>#[(λ_ q=>Zn q),(λ_ q=>Zn q),(λ_ q=>Zn q)]
 |n+1=>#[λh q=>by
   have q:(if _ then _ else _)=_:=q;split at q
   ·obtain rfl:=Zj q;exact jR (t:=λ_ _ _=>False) (λ_ _ _ _ _ _ z=>z.elim) λa H Q x=>by let je _ _ _ _ _ _ z _:=x;exact Zn z
   ·exact nB (Ke n) h q,λh q=>by
   have q:(if _ then _ else _)=_:=q;split at q
   ·obtain rfl:=Zj q;exact wr (t:=λ_ _ _=>False) (λ_ _ _ _ _ _ z=>z.elim) λa H Q x=>by let je _ _ _ _ _ _ z _:=x;exact Zn z
   ·exact nD (Ke n) h q,λh q=>Ls (Ke n) h q]
section
variable{r:Rc}{Γ:Gm}{X:Cx}{K:Fr}{x y:Str}{i:Nat}{e a b c tg:Expr}{es:L Expr}{pos:Pos}{d:DE}
def Lu(h:OkX K Γ X)(z:E7 Γ f x m p=B):(pure (X.env.blockKind==.function&&X.env.kindOf x==S .local&&m.line==p.line&&!(f.names.any λ(n,k)=>n==x&&(k==.local||k==.cell))):Sem Bool)=pure B:=by
 let q z v:=jl z;let q z w:=jl z;let q g C:=jl z;have u:Γ.sc.kind=.function:=by
  split at g
  ·assumption
  ·exact Zf g
 have s:X.env.blockKind=.function:=by
  unfold Env.blockKind;rw[h.sc,u];rfl
 have o:X.env.kindOf x=S .local:=by
  show X.env.scope.names.lookup x=_;rw[h.sc];exact xn C
 rw[s,o,w,v];rfl
def Ee(h:OkX K Γ X)(z:E7 Γ f x m p=B):swapsWith (.ListComp t [#[tg,j,A,F]] f p) (S (.Name x m)) l X.env=pure B:=Lu h z
def BK(h:OkX K Γ X)(z:ba Γ.sc x=B):swapsWith (.ListComp j [#[tg,g,k,o]] f p) (S (.Name x n)) l X.env=pure G:=by
 have m:X.env.kindOf x=S .cell:=by
  show X.env.scope.names.lookup x=_;rw[h.sc];unfold ba at z;split at z
  ·assumption
  ·exact Zf z
 show(pure _:Sem _)=pure _;rw[m];cases X.env.blockKind==.function<;>rfl
def BL(z:Wt j=B):∀v,assign (.Subscript o j pos) f v=(do
   let g<-holding [v] (eval o f)
   let h<-holding [v,g] (eval j f)
   standAt pos
   holding [v,g,h] (setItem g h v)
   release [v,g,h] []):=by
 cases j<;>first|(intro _;rfl)|exact Zf z
def UK(h:Z4 e=B):swapsWithSole [tg] e l f=pure G:=by
 exact yh h
def xy:swappedStores [.Subscript o j p] e f=pure J:=rfl
def xz(z:(!Vu e)=B):swappedStores [.Tuple es n p] e f=pure J:=by
 cases e<;>first|rfl|exact Zf z
variable(R:RcOk r) (h:OkX K Γ X)
include R h
set_option tactic.hygienic true in
theorem bc{d}(q:cF r Γ e=S d):PE X e (tF K d):=by
 unfold cF at q;split at q
 ·rename_i f;obtain rfl:=Zj q;exact R.n h f
 ·exact Zn q
theorem Lv{w d}(j:Nv r Γ x w e=S d):PS X (.Assign [.Name x w] e pos) (tS K I d):=by
 let ja i F j:=jd j;let Jm m n k l:=Zc h F;have H:∀{e},cG (Z4 e) (if Γ.ow.contains i then(cF r Γ e).map (Zr i)else(cV r Γ dC e).map (jx i))=S d->PS X (.Assign [.Name x w] e pos) (tS K I d):=λj=>by
  let q z j:=jq j;split at j
  ·let ja C o rfl:=jh j;exact Az (zp m n k (bc R h o) (yh z) l)
  ·let ja C o rfl:=jh j;exact qP (zp m n k (yi R h o) (yh z) l)
 cases e with
 |ListComp M O u p=>
  let ja C o j:=jd j;let q v j:=jq j;obtain rfl:=Zj j;let JC _ _ _ N A P g w0:=BI R h o;let jc T Q rfl rfl f:=w0;cases t:ba _ x
  ·rw[t,Bool.or_false]at v;split
   ·exact E_ _ _ m n k f.SQ f.cp f.cm f.i f.g f.t f.e f.nd f.fs (Ee h v) l
   ·exact f9 _ _ m n k f.SQ f.cp f.cm f.i f.g f.t f.e f.nd f.fs (Ee h v) l
  ·have s:PE X (.ListComp _ _ _ p) _:=iY _ _ f.SQ f.cp f.cm f.i f.g f.t f.e f.nd f.fs;split
   ·exact Az (zp m n k s (BK h t) l)
   ·exact qP (zp m n k (iy s) (BK h t) l)
 |DictComp M O g u p=>
  let q C o j:=jd j;let q v j:=jq j;obtain rfl:=Zj j;exact Lj R h o m n k (Lu h v) l
 |_=>exact H j
theorem Lw{t d}(l:Nw r Γ t e=S d):PS X (.Assign [t] e pos) (tS K H d):=by
 cases t with
 |Name x p=>
  exact Lv R h l
 |Attribute o f p=>
  let ja i C n:=jd l;clear l;let jW x p rfl v:=Y7 C;clear C;split at n
  ·let q z l:=jq n;let ja A m rfl:=jh l;exact IY (Q9 (JU h v) (yi R h m) (yh z)) h.hcl (h.hfl _ (.inl Sv)) h.k
  split at n
  ·let q z l:=jq n;let ja A m rfl:=jh l;exact I_ (Q9 (JU h v) (bc R h m) (yh z)) h.hcl (h.hfl _ (.inr Sv)) h.k
  let q z l:=jq n;let q u s:=jl z;let ja A m rfl:=jh l;exact Ix (Q9 (JU h v) (yi R h m) (yh u)) h.cl (h.fl _ s) h.k
 |Subscript o j p=>
  let ja i C n:=jd l;clear l;let jW x p rfl v:=Y7 C;let q z l:=jq n;let q z hc:=jl z;let q u s:=jl z;have I:=h.k;split at l
  ·let ja F m l:=jd l;let ja A w rfl:=jh l;exact lr (Uz (yi R h w) (Q7 (JU h v) (yi R h m) lj (BL s)) (UK u) xy)
  ·let ja F m l:=jd l;let ja A w rfl:=jh l;exact Ih (Uz (yi R h w) (Q7 (JU h v) (jJ R h m) C3 (BL s)) (UK u) xy)
 |Tuple es k p=>
  let q z l:=jq l;let q u s:=jl z;let ja A m l:=jd l;let ja g w rfl:=jh l;exact MF (Uz (yi R h m) (R.g h w) (UK u) (xz s))
 |_=>
  exact Zn l
theorem Lx{t n d}(f:Nx r Γ t n e=S d):PS X (.AugAssign t n e pos) (tS K v d):=by
 cases t with
 |Name x p=>
  let ja i s l:=jd f;clear f;let Jm k m g o:=Zc h s;let ja u j f:=jd l;clear l;split at f
  ·cases f;exact ef (bM k m g (jJ R h j) HC o)
  ·cases f;exact ef (bM k m g (jJ R h j) HD o)
  ·exact Zn f
 |_=>
  cases f
theorem FC{f es k p d}(g:L9 r Γ f es k p=S d):PS X (.Expr (.Call f es k p) pos) (tS K O d):=by
 cases f with
 |Attribute v m H=>
  cases v with
  |Attribute M P N=>
   rcases es with _|⟨e,_|⟨_,_⟩⟩<;>try exact Zn g
   cases k<;>try exact Zn g
   let ja i n s:=jd g;let jW x Q rfl t:=Y7 n;let q z o:=jq s;let q z C:=jl z;let q z F:=jl z;let q A j:=jl z;let ja I w rfl:=jh o;have l:=vLa A;have u:=h.k;subst l u;exact l7 (vd (ix (bS (JU h t) rfl) (JT (yi R h w) Yt (j_ j)) rfl (by rw[j_ j];rfl) F (j_ j)) (yh rfl)) h.hcl (h.hfl _ (.inr C))
  |_=>exact Zn g
 |_=>exact Zn g
theorem Ly{f es k p d}(g:Ny r Γ f es k p=S d):PS X (.Expr (.Call f es k p) pos) (tS K F d):=by
 cases f<;>try exact Zn g
 rcases es with _|⟨e,_|⟨A,_⟩⟩<;>rcases k with _|⟨_,_⟩<;>try exact Zn g
 ·let ja i m t:=jd g;clear g;let jW x w rfl n:=Y7 m;let q z g:=jq t;let q z v:=jl z;let q u j:=jl z;let ja C o rfl:=jh g;have l:=vLa u;have s:=h.k;subst l s;exact Cl (vd (ix (JU h n) (JT (yi R h o) Yt (j_ j)) rfl (by rw[j_ j];rfl) v (j_ j)))
theorem Lz{f es k p d}(g:Nz r Γ f es k p=S d):PS X (.Expr (.Call f es k p) pos) (tS K F d):=by
 cases f<;>try exact Zn g
 rcases es with _|⟨e,_|⟨A,_⟩⟩<;>rcases k with _|⟨_,_⟩<;>try exact Zn g
 ·let ja i m t:=jd g;clear g;let jW x w rfl n:=Y7 m;let q z g:=jq t;let q z v:=jl z;let q u j:=jl z;let ja C o rfl:=jh g;have l:=vLa u;have s:=h.k;subst l s;exact lS (vd (qL PySem.F.plainAttrs_dict PySem.F.slot_dict_pop PySem.F.type_dict_pop Ft (JU h n) (JT (yi R h o) Yt (j_ j)) rfl (by rw[j_ j];rfl) v (j_ j)))
end
section
variable{P:Program}{w:World}{K K':Fr}{mg:Tj}{base:Heap}{C:Addr}{g:GI}{x:Str}
def xl.mono(m:∀k,r k->d k)(h:xl P w K' mg base C r K x g):xl P w K' mg base C d K x g:=by
 cases g with
 |con i=>exact h
 |blt=>exact h
 |fE k c b F=>exact#[h.1,m _ h.2]
 |fF k c b F=>exact#[h.1,m _ h.2]
 |mk k c b F a=>exact#[h.1,h.2.1,m _ h.2.2]
 |fX k c b F=>exact#[h.1,m _ h.2]
 |fH k c b F=>exact#[h.1,m _ h.2]
 |mH k c b C F=>exact h
def ao.mono(m:∀k,r k->d k)(h:ao P w K' mg base C r K x g):ao P w K' mg base C d K x g:=by
 cases g with
 |con i=>exact h
 |blt=>exact h
 |fE k c b F=>exact#[h.1,m _ h.2]
 |fF k c b F=>exact#[h.1,m _ h.2]
 |mk k c b F a=>exact h
 |fX k c b F=>exact h
 |fH k c b F=>exact h
 |mH k c b C F=>exact h
def yv.mono(m:∀k,r k->c k)(h:yv P w K' mg base C r K x g):yv P w K' mg base C c K x g:=by
 cases g with
 |fX k b a F=>exact#[h.1,m _ h.2]
 |fH k b a F=>exact#[h.1,m _ h.2]
 |mH k b a C F=>exact#[h.1,m _ h.2]
 |_=>exact h
end
structure XmOk (K:Fr) (Γ X E) where
 ps:Yu (yD X.prog X.w) X E
 rz:∀x∈Γ.xt.xp,UH Γ x=B->∀(np cpos pos cp z j),PS X (.Raise (S (.Call (.Name x np) [.Constant (.str z) j cp] [] cpos)) J pos) (λ_ _ H=>E Si J H)
 rf:∀x fs,Γ.xt.xq.lookup x=S fs->UH Γ x=B->∀(np cpos pos a es l),PA X (a::es) (Y1 K l)->(∀e∈a::es,Y4 e=B)->
  PS X (.Raise (S (.Call (.Name x np) (a::es) [] cpos)) J pos) (λ_ U H=>Y1 K l U H λvs H1=>vs.length=fs.length/\∀dx,H1 dx=J->E Si (S dx) (upd H1 dx (xW dx (fs.zip vs).reverse)))
structure OkS (K Γ X Px) where
 x:OkX K Γ X
 hp:PassesOwn Sz X.A X.env X.xe
 st:X.stack=X.env::X.outer
 fr:X.env.frame=S X.env.locals
 xm:Γ.xm=B->∃E,Px=PX K E/\XmOk K Γ X E
section
variable{r:Rc}{q:Gm->L Stmt->Y DS.DS}{Γ:Gm}{X:Cx}{K:Fr}{Px:Xp->Hp->Prop}
abbrev pT(s:Stmt)(y x z:Str):Prop:=∃e c b a k d,s=.Assign [.Name y e] (.Call (.Name x c) [.Constant (.str z) k b] [] a) d
abbrev pU(r:Rc)(Γ:Gm)(K:Fr)(X:Cx)(e:Expr)(h:DX):Prop:=∃x i c b p k d a F l,e=.Call (.Name x i) (c::b) [] p/\h=gv F l/\(∃f g,FnOk X.prog X.w X.K X.mg X.base (yD X.prog X.w) k f g d (WY K a F)/\JP X.K g d []/\PySem.W.keepIn X.K (.ref f)=B/\X.mg x=S (.ref f))/\Room k X.A/\cA r Γ a (c::b)=S l/\Gl X x/\Su=G
abbrev pV(K:Fr)(X:Cx)(e:Expr)(h:Go×Go):Prop:=∃x j i b a p F l k g c,e=.Call (.Name x j) (b::a) [] p/\h=(yE i F l,yE i (uV F) l)/\(∃f d,FnOk X.prog X.w X.K X.mg X.base (yD X.prog X.w) k f d g (uT K c F)/\JP X.K d g []/\PySem.W.keepIn X.K (.ref f)=B/\X.mg x=S (.ref f))/\Room k X.A/\PA X a (Y1 K l)/\l.map (·.1)=c/\c.all id=B/\Gl X x/\Su=G/\
  starEach (b::a) X.env=(G,eval b X.env)::starEach a X.env/\(backTo p (starEach a X.env)).any (·.1)=G/\PA X (b::a) (ZG (yF i) (Y1 K l))
abbrev Om(Γ:Gm)(e:Expr)(i:Nat):Prop:=∃x b a p,e=.Call (.Attribute (.Name x b) "pop" a) [] [] p/\slot Γ x=S i/\(a.endLine==p.line)=B
def Ef(h:GU X):GU X.nox:=by
 let Vl e o s:=h;exact#[e,o,s.h,s.s,s.n,s.f,s.x,s.c]
def OkX.nox(h:OkX K Γ X):OkX K Γ X.nox:=#[h.xt,h.n,h.sc,h.nd,h.calm,h.k,h.room,h.fn,h.gs,h.ms,h.cl,h.fl,h.hcl,h.hfl,h.hm,h.xq,λz=>Ef (h.sf z),h.ss]
def OkS.nox(h:OkS K Γ X Px):OkS K Γ.nox X.nox Px:=#[#[h.x.xt,h.x.n,h.x.sc,h.x.nd,h.x.calm,h.x.k,h.x.room,h.x.fn,h.x.gs,h.x.ms,h.x.cl,h.x.fl,h.x.hcl,h.x.hfl,h.x.hm,h.x.xq,λz=>Ef (h.x.sf z),h.x.ss],PassesOwn.never,h.st,h.fr,λz=>nomatch z]
def OkS.sui(h:OkS K Γ X Px):OkS K Γ.sui (X.sui e) Px:=#[#[h.x.xt,h.x.n,h.x.sc,h.x.nd,(λz=>nomatch z),h.x.k,(λz=>nomatch z),h.x.fn,(λx g e=>(h.x.gs x g e).mono λ_ _ z=>nomatch z),(λx g e=>(h.x.ms x g e).mono λ_ _ z=>nomatch z),h.x.cl,h.x.fl,h.x.hcl,h.x.hfl,(λx g e=>(h.x.hm x g e).mono λ_ _ z=>nomatch z),(λx a e=>(h.x.xq x a e).mono λ_ _ z=>nomatch z),(λz=>nomatch z),λ_ _ z=>nomatch z],PassesOwn.never,h.st,h.fr,λz=>nomatch z]
variable(R:RcOk r) (h:OkS K Γ X Px)
include R h
omit h in
theorem FD{X}(h:OkX K Γ X)(b:E8 r Γ e=S m):pU r Γ K X e m:=by
 cases e with
 |Call f d j p=>
  cases f with
  |Name x k=>
   cases j with
   |cons _ _=>exact Zn b
   |nil=>
    let q z c:=jq b;clear b;let q z hc:=jl z;let q t o:=jl z;let q s i:=ZR h t;cases d with
    |nil=>exact Zf o
    |cons n d=>
    split at c
    ·have a:=h.gs _ _ Sv;let ja l g rfl:=jh c;exact#[x,k,n,d,p,_,_,_,_,l,rfl,rfl,a.1,a.2 hc,g,s,i]
    ·exact Zn c
  |_=>exact Zn b
 |_=>exact Zn b
theorem LA(M:XmOk K Γ X E)(d:E8 r Γ e=S g):PE X e (tX K E g)/\(∀t l,swapsWith e t l X.env=pure G):=by
 let JC x H A y p k C w2:=FD R h.x d;let yI N F l rfl rfl h2 i c j2:=w2;let q f I a j v m:=h2;let q w s:=j2;let Jm n o b _:=zj R h.x c;exact#[IQ a i m v j M.ps n o w s (j_ (b _ wNa)) (YK λz u=>b z (wMa _ u)),λ_ _=>yh rfl]
omit R h in
theorem nE:Yu (yD X.prog X.w) X (λ_ _ _=>False):=λ_ _ _ _ _ _ _ z=>by
 let YI _ _ _ _ _ _ _ z:=z;exact z.elim
set_option tactic.hygienic true
theorem BM(M:XmOk K Γ X E)(c:La r Γ e=S F):PE X e (tX K E F)/\(∀t l,swapsWith e t l X.env=pure G)/\Z4 e=B/\(!Vu e)=B:=by
 have s:=h.x.k;subst s;cases e with
 |Call f j O p=>
  refine#[?_,λ_ _=>yh rfl,rfl,rfl];cases f with
  |Attribute a m T=>
   cases O<;>try exact Zn c
   let q z k:=jq c;let q z Q:=jl z;let q u P:=jl z;cases a with
   |Name y UQ=>
    let q N g:=jq k;cases j with
    |nil=>exact Zf N
    |cons W j=>
    split at g
    ·obtain⟨⟨f,Z,b,w,x⟩,C⟩:=h.x.hm _ _ Sv;let ja d o I:=jd g;let ja l n rfl:=jh I;let Jm v A i _:=zj R h.x n;exact QX (W6 (jJ R h.x o) h.x.hcl x b (C P) w .nil M.ps v (j_ (i _ wNa)) (YK λz H=>i z (wMa _ H)) (gF rfl u Q i)) A
    ·exact Zn g
   |_=>exact Zn k
  |_=>exact Zn c
 |_=>exact Zn c
theorem xA(c:BC r Γ e=S N):∃E,Px=PX K E/\PE X e (tY K E N)/\(∀t l,swapsWith e t l X.env=pure G):=by
 have w:=h.x.k;subst w;unfold BC at c;cases j:Γ.xm with
 |false=>rw[j]at c;exact Zn c
 |true=>
  rw[j,if_pos rfl]at c;let ja E y M:=h.xm j;refine#[E,y,?_];cases e with
  |Call f k I p=>
   refine#[?_,λ_ _=>yh rfl];cases f with
   |Attribute a m ap=>
    cases I<;>try exact Zn c
    let q z v:=jq c;let q z UQ:=jl z;let q z T:=jl z;let q A Z:=jl z;cases k with
    |nil=>exact Zf UQ
    |cons ea k=>
    let ja i P d:=jd v;let jW x np rfl W:=Y7 P;split at d
    ·obtain⟨⟨f,fd,b,C,F⟩,u⟩:=h.x.hm _ _ Sv;let q s Q:=jq d;let ja l n rfl:=jh Q;let Jm o H g _:=zj R h.x n;exact lh M.ps (W6 (JU h.x W) h.x.hcl F b (u Z) C .nil M.ps o (j_ (g _ wNa)) (YK λz O=>g z (wMa _ O)) (gF rfl A T g)) H s
    ·exact Zn d
   |_=>exact Zn c
  |_=>exact Zn c
theorem LB{d}(b:ND r Γ t e=S d):PS X (.Assign [t] e m) (tS K Px d):=by
 have hK:=h.x.k;cases t<;>try exact Zn b
 cases e<;>try exact Zn b
 rename_i x np f j T p;cases f<;>try exact Zn b
 rename_i y p2;cases T<;>try exact Zn b
 let ja i n u:=jd b;let Jm o W F w:=Zc h.x n;let q z c:=jq u;let q z z3:=jl z;let q v Z:=jl z;let q g1 Q:=ZR h.x v;cases j with
 |nil=>exact Zf Z
 |cons ea j=>
 split at c
 ·obtain⟨⟨f,fd,a,H,UQ,I⟩,s⟩:=h.x.hm _ _ Sv;let q C P:=jq c;let q N M:=jl C;let ja l a1 rfl:=jh P;let Jm A k g _:=zj R h.x a1;have eC:=vLa M;exact F7 (zp o W F (XR UQ a (s z3) g1 I H .nil nE A Q (j_ (g _ wNa)) (YK λz O=>g z (wMa _ O))) (yh rfl) w) k N
 ·cases c
theorem LC(M:XmOk K Γ X E)(c:NB r Γ e=S g):PE X e (tX K E g)/\(∀t l,swapsWith e t l X.env=pure G)/\Z4 e=B/\(!Vu e)=B:=by
 cases e with
 |Subscript a b p=>
  have k:=h.x.k;subst k;let q z j:=jq c;let ja i d m:=jd j;let ja n f rfl:=jh m;exact#[Od (BM R h M d).1 (jJ R h.x f) (Vv z),λ_ _=>yh rfl,rfl,rfl]
 |_=>exact BM R h M c
theorem xB(a:BB r Γ e=S f):∃E,Px=PX K E/\PE X e (tX K E f)/\(∀t l,swapsWith e t l X.env=pure G)/\Z4 e=B/\(!Vu e)=B:=by
 unfold BB at a;cases c:Γ.xm with
 |false=>rw[c]at a;exact Zn a
 |true=>
  rw[c]at a;let ja E j M:=h.xm c;refine#[E,j,?_];cases hc:E8 r Γ e with
  |some k=>
   rw[hc]at a;cases a;let q b d:=LA R h M hc;cases e with
   |Call _ _ _ _=>exact#[b,d,rfl,rfl]
   |_=>exact Zn hc
  |none=>
   rw[hc]at a;let Jm b d g i:=LC R h M a;exact#[b,d,g,i]
theorem LD{m d}(g:NE r Γ e=S d):PS X (.Raise (S e) J m) (tS K Px d):=by
 cases e with
 |Call f i w p=>
  cases f with
  |Name x F=>
   cases w with
   |cons _ _=>exact Zn g
   |nil=>
    let q z b:=jq g;clear g;let q u s:=jl z;let ja E rfl M:=h.xm u;cases j:Γ.xt.xq.lookup x with
    |some C=>
     rw[j]at b;let q n b:=jq b;let ja l t rfl:=jh b;cases i with
     |nil=>exact Zf n
     |cons v i=>
      let Jm y I A _:=zj R h.x t;exact MP (M.rf x C j s F p _ v i l y A)
    |none=>
     rw[j]at b;let q n b:=jq b;rcases i with _|⟨a,_|⟨_,_⟩⟩<;>try exact Zn b
     let q o b:=jq b;obtain rfl:=Zj b;cases a with
     |Constant c k H=>
      cases c<;>try exact Zf o
      exact Oa (M.rz x (List.contains_iff_mem.mp n) s _ _ _ _ _ _)
     |_=>exact Zf o
  |_=>exact Zn g
 |_=>exact Zn g
omit R h in
omit R h in
theorem LE(b:NF s=S (y,x,z)):pT s y x z:=by
 cases s<;>try exact Zn b
 rename_i m e w;rcases m with _|⟨t,_|⟨_,_⟩⟩<;>try exact Zn b
 let ja I l g:=jd b;let q u rfl:=zx l;cases e<;>try exact Zn g
 rename_i f o p v;let ja C j i:=jd g;let q H rfl:=zx j;rcases o with _|⟨a,_|⟨_,_⟩⟩<;>rcases p with _|⟨_,_⟩<;>try exact Zn i
 let ja F d n:=jh i;cases n;cases a<;>try exact Zn d
 rename_i c k A;cases c<;>cases d;exact#[_,_,_,_,_,_,rfl]
theorem FE(Q:∀{g p},OkS K g p Px->∀l d,q g l=S d->Jx p l (tS K Px d)){i c o d e}(m:d4 q Γ i c o=S d):Jx (X.sui e) (c::o) (λD n H=>n[i]?=S (S (.ref e))/\tS K Px d D n H):=by
 unfold d4 at m;split at m
 ·obtain rfl:=Zj m;have hK:=h.x.k;let ja j3 v q1:=jd Sv;let q y x z:=j3;let Et p1 p2 p3 p4 k p5 rfl:=LE v;let ja j T I:=jd q1;let ja F w q3:=jd I;let q Z W:=jq q3;let q UQ z2:=jl Z;let ja d2 t rfl:=jh W;let Jm A s2 M u:=Zc h.x T;let q s N:=ZR h.x UQ;let YI f fd ps b a O C P:=h.x.ss _ _ w;exact Ff (zp A s2 M (fL a (h.x.room z2).depth s P C O (JT Q6 Yt) N rfl rfl) (yh rfl) u) (λn H Q z=>z) (Q h.sui _ _ t)
 ·exact VW (Q h.sui _ _ m) λ_ _ _ z=>z.2
theorem BN(Q:∀{f k},OkS K f k Px->∀l d,q f l=S d->Jx k l (tS K Px d)):∀{g l},Ld q Γ g=S l->PH X g (a8 K Px l)
 |[],_,a=>by obtain rfl:=Zj a;exact IU
 |.ExceptHandler t n b p::g,l,a=>by
  cases t with
  |none=>exact Zn a
  |some t=>
  cases t with
  |Name x Z=>
   cases n with
   |none=>exact Zn a
   |some n=>
   cases b with
   |nil=>exact Zn a
   |cons j su=>
    let ja c M s:=jd a;let ja i m A:=jd s;let q z C:=jq A;let ja d F H:=jd C;let ja l' O rfl:=jh H;let q o N:=jl z;let q P v:=ZR h.x o;let Jm u UQ T W:=xo m;let Yk y I w:=h.x.xt.c _ (Wj M);exact CG (by rw[h.x.n];exact h.x.nd) (by rw[h.x.n];exact gD u) (by show X.env.scope.names.lookup n=_;rw[h.x.sc];exact xn N) P y v h.x.k I w (λe=>FE R h Q F) (BN Q O)
  |_=>exact Zn a
omit R h in
theorem au{X}(h:OkX K Γ X){e k}(b:Lb r Γ e=S k)(R:RcOk r):pV K X e k:=by
 cases e with
 |Call f c w p=>
  cases f with
  |Name x H=>
   cases w with
   |cons _ _=>exact Zn b
   |nil=>
    cases c with
    |nil=>exact Zn b
    |cons O c=>
     let ja i m o:=jd b;let jW y N rfl s:=Y7 m;let q z d:=jq o;let q z j:=jl z;let q u C:=jl z;let q I v:=ZR h u;split at d
     ·have a:=h.gs _ _ Sv;let q t F:=jq d;let ja l M rfl:=jh F;let Jm g n A _:=zj R h M;exact#[x,H,i,_,c,p,_,l,_,_,_,rfl,rfl,a.1,a.2 C,g,n,t,I,v,j_ j,YK A,JT (JU h s) g (j_ j)]
     ·exact Zn d
  |_=>exact Zn b
 |_=>exact Zn b
theorem LF(b:NC r Γ c=S g):eE X c (eU K g):=by
 rcases c with _|⟨s,_|⟨_,_⟩⟩<;>try exact Zn b
 cases s<;>try exact Zn b
 rename_i n e p;rcases n with _|⟨t,_|⟨_,_⟩⟩<;>try exact Zn b
 cases t<;>try exact Zn b
 let ja d2 m rfl:=jh b;let JC x P i M I Q F h4:=au h.x.nox m R;let Y8 l k N UQ rfl rfl v5 j O w5:=h4;let q f T a u A v:=v5;let Jy y z H o C x5:=w5;let q d w:=x5;exact IG (Fj a j v A u w y z H o C d) (yh rfl)
omit R h in
theorem FF(a:Lc Γ e=S i):Om Γ e i:=by
 cases e<;>try exact Zn a
 rename_i f b d p;cases f<;>try exact Zn a
 rename_i o m s;cases b<;>cases d<;>try exact Zn a
 let q z l:=jq a;let q j k:=jl z;have g:=vLa j;subst g;let jW x n rfl c:=Y7 l;exact#[_,_,_,_,rfl,c,k]
omit R h in
theorem FG:Dv X "list.pop" C4:=im
theorem nF{s:Stmt}{d:DS.DS}(Q:∀{Γ' X'},OkS K Γ' X' Px->∀l d,q Γ' l=S d->Jx X' l (tS K Px d))(w:cS r q Γ s=S d):PS X s (tS K Px d):=by
 have Qh:=λl d=>Q h l d;cases s with
 |Assign ts e p=>
  rcases ts with _|⟨t,_|⟨_,_⟩⟩<;>try exact Zn w
  dsimp only[cS]at w;split at w
  ·rename_i dx hx;let J3 E rfl C M k3 k4:=xB R h hx;cases t with
   |Name x np=>
    let ja i H rfl:=jh w;let Jm N O P T:=Zc h.x H;exact IR (zp N O P C (M _ _) T)
   |Tuple es n p=>
    let ja g H rfl:=jh w;exact IT (Uz C (R.g h.x H) (UK k3) (xz k4))
   |_=>exact Zn w
  ·split at w
   ·rename_i dx hy;let jw E rfl C M:=xA R h hy;cases t with
    |Name x np=>
     let ja i H rfl:=jh w;let Jm N O P T:=Zc h.x H;exact lc (zp N O P C (M _ _) T)
    |_=>exact Zn w
   ·split at w
    ·let JC x np i ea es p' F v6:=au h.x Sv R;let Y8 l k ps ks rfl rfl y6 hr b1 h6:=v6;let q f fd m hb hk hm:=y6;let Jy b2 b3 g1 g2 he j6:=h6;let q hp ho:=j6;have W:PE X (.Call (.Name x np) (ea::es) [] p') (tY K (λ_ _ _=>False) (yE i (uV F) l)):=li (W3 (m.imp lH) hr g1 hm hk hb .nil AY ho g2 he hp) b2 b3;cases t with
     |Name y I=>
      let ja j H rfl:=jh w;let Jm N O P T:=Zc h.x H;exact Fg Q_ (zp N O P W (yh rfl) T)
     |Tuple es n I=>
      let q z w:=jq w;let ja g H rfl:=jh w;exact Fh Q_ (Uz W (R.g h.x H) (UK rfl) (xz z))
     |_=>exact Zn w
    split at w
    ·cases w;exact LB R h Sv
    split at w
    ·cases t with
     |Name y I=>
      let ja j H rfl:=jh w;let Jm N O P T:=Zc h.x H;let VG x np ap p' rfl e1 e2:=FF Sv;have hK:=h.x.k;subst hK;exact nk (zp N O P (il PySem.F.plainAttrs_list PySem.F.slot_list_pop PySem.F.type_list_pop (FG) (JU h.x e1) rfl e2) (yh rfl) T)
     |_=>exact Zn w
    ·exact Lw R h.x w
 |AugAssign t op e p=>
  exact Lx R h.x w
 |Expr e p=>
  dsimp only[cS]at w;split at w
  ·rename_i dx hx;let ge E rfl C M _:=xB R h hx;obtain rfl:=Zj w;exact fU (vd C (M _ _))
  split at w
  ·rename_i dx hy;let jw E rfl C M:=xA R h hy;obtain rfl:=Zj w;exact F2 (vd C (M _ _))
  ·have fb:∀{e},cG (Z4 e) ((cV r Γ dV e).map qQ)=S d->PS X (.Expr e p) (tS K Px d):=λw=>by
    let q z w:=jq w;let ja d0 A rfl:=jh w;exact Be (vd (jJ R h.x A) (yh z))
   unfold NA at w;cases e with
   |Call f es ks p'=>
    dsimp only[cS]at w;split at w
    ·cases w;exact FC R h.x Sv
    split at w
    ·cases w;exact Ly R h.x Sv
    split at w
    ·cases w;exact Lz R h.x Sv
    ·let ja d0 A rfl:=jh w;exact Be (vd (jJ R h.x A) (yh rfl))
   |_=>exact fb w
 |Return o p=>
  cases o with
  |none=>cases w;exact Ik
  |some e=>
  dsimp only[cS]at w;split at w
  ·rename_i dx hx;let ge E rfl C M _:=xB R h hx;cases w;exact IS C
  split at w
  ·let jw E rfl C M:=xA R h Sv;cases w;exact lf C
  split at w
  ·rename_i d' hd;cases w;unfold NG at hd;split at hd
   ·let ja d0 A rfl:=jh hd;exact lg (yi R h.x A)
   ·cases hd
  ·split at w
   ·rename_i hn;let jW x p rfl Z:=Y7 hn;split at w
    ·cases w;exact Ij (JU h.x Z)
    ·cases w;exact eg (DL _ (JU h.x Z))
   ·split at w
    ·let ja d0 A rfl:=jh w;exact Ii (bc R h.x A)
    ·let ja d0 A rfl:=jh w;exact eg (yi R h.x A)
 |If c a b p=>
  let ja t A w:=jd w;let ja u I w:=jd w;let ja v UQ rfl:=jh w;exact oO (R.t h.x A) (Qh _ _ I) (Qh _ _ UQ)
 |While c b o p=>
  cases o with
  |cons _ _=>cases w
  |nil=>
   let ja t A w:=jd w;let ja u I rfl:=jh w;exact EZ _ h.hp (R.t h.x A) (Qh _ _ I)
 |For tg it b o p=>
  cases o with
  |cons _ _=>cases w
  |nil=>
   let q z w:=jq w;let q z hc:=jl z;let ja di A w:=jd w;let ja g I w:=jd w;let ja u UQ rfl:=jh w;exact MG h.hp (h.x.calm hc) (Ed R h.x A) (R.g h.x I) (Qh _ _ UQ) (K7 z)
 |Raise e o p=>
  cases e<;>cases o<;>try exact Zn w
  dsimp only[cS]at w;split at w
  ·exact LD R h w
  ·cases w;exact fj
 |Try bd Z o fb p=>
  let q z q9:=jq w;let q z z3:=jl z;let q z1 z2:=jl z;have e1:=List.isEmpty_iff.mp z1;have e2:=List.isEmpty_iff.mp z2;subst e1 e2;split at q9
  ·let ja db I w:=jd q9;let ja l UQ rfl:=jh w;cases Z with
   |nil=>cases z3
   |cons h0 Z=>exact lJ (LF R h Sv) (Q h.nox _ _ I) (BN R h Q UQ) h.st h.fr
  ·cases q9
 |_=>
  cases w
omit R h in
theorem wI{st}:∀{a d},Jx X st (tS K Px d)->Jx X st (tS K Px (aj l a d))
 |[],_,h=>h
 |(m,i)::r,d,h=>by
  unfold aj;split
  ·exact Cj i (wI h)
  ·exact wI h
set_option tactic.hygienic false
set_option tactic.hygienic true in
theorem d9(a:E9 r Γ l=S d):Jx X l (tS K Px d):=by
 have F:=h.x.k;subst F;rcases l with _|⟨Q,_|⟨st2,_|⟨_,_⟩⟩⟩<;>try exact Zn a
 revert a;refine bk λ⟨ea,eb,t1,t2⟩ g=>bk λ⟨y,o⟩ b=>bk λ⟨u,t⟩ e=>bk λ⟨ec,ed⟩ m=>bk λv j=>bk λ⟨M,ed'⟩ f=>bk λyn n=>?_;let Vl _ _ rfl:=lY g;let q _ rfl:=BA b;let q _ rfl:=BA e;let q _ rfl:=Bz m;let q _ rfl:=lW j;let q _ rfl:=Bz f;let q _ rfl:=zx n;clear g b e m j f n;refine bk λjs a1=>bk λjk a2=>bk λs a3=>bk λk a4=>bk λc a5=>bk λdd H=>bk λc' A=>bk λd' UQ=>bk λi s0=>?_;let q _ rfl:=zx a3;let q _ rfl:=zx a4;let q _ rfl:=zx a5;let q _ rfl:=zx H;let q _ rfl:=zx A;let q _ rfl:=zx UQ;intro a;let q z a:=jq a;let q z N:=jl z;let q z z6:=jl z;let q z C:=jl z;let q z T:=jl z;let q z W:=jl z;let q O Z:=jl z;let ja d1 b1 a:=jd a;let ja d2 b2 rfl:=jh a;clear a;have o:=vLa O;have t:=vLa Z;have x:=vLa W;have w:=vLa T;subst o t x w;let Jm I P s3 s4:=Zc h.x s0;exact Fc (h.x.room N) (λp=>JU h.x a1) (λp=>JU h.x a2) (zp I P s3 (yi R h.x b1) (yh C) s4) (yi R h.x b2) rfl (UK z6) xy
theorem BO(Q:∀{b c},OkS K b c Px->∀l d,q b l=S d->Jx c l (tS K Px d)):∀{l d},Ea r q Γ l=S d->Jx X l (tS K Px d)
 |[],_,a=>by obtain rfl:=Zj a;exact Ib
 |s::t,d,a=>by
  unfold Ea at a;split at a
  ·obtain rfl:=Zj a;exact Ci
  split at a
  ·exact d9 R h a
  ·let ja d1 g a:=jd a;have e:=nF R h Q g;split at a
   ·obtain rfl:=Zj a;exact wI (Ic e)
   ·let ja d2 f rfl:=jh a;exact wI (EX e (BO Q f))
omit h in
theorem qX:∀(n) {Γ X},OkS K Γ X Px->∀{l d},cQ r n Γ l=S d->Jx X l (tS K Px d)
 |0,_,_,_,_,_,q=>Zn q
 |n+1,_,_,h,_,_,q=>BO R h (λa l d q=>qX n a q) q
end
structure De where
 x:Str
 q:Str
 st:Stmt
 ps:L Str
 lo:L Str
 ks:L Bool
 b:DS.DS
 hs:L ((Nat×Nat×Nat)×L Nat)
 sh:L (Nat×Nat)
 ow:L Nat
structure Tb where
 C:Addr
 gs:L (Str×GI)
 ms:L (Str×GI)
 fl:L Str
 xt:XT:={}
 hC:Addr:=0
 hm:L (Str×GI):=[]
 hfl:L Str:=[]
 hls:L Str:=[]
 tb:D->L (KD×Bool):=λ_=>[]
 ss:L (Str×(L D->Y D)):=[]
abbrev gm(T:Tb)(d:De)(a:Bool)(b:=G):Gm:={cm:=B,xm:=b,xt:=T.xt,N:=d.ps++d.lo,sc:=defScope d.st,fn:=B,kF:=a,C:=T.C,gs:=T.gs,ms:=T.ms,fl:=T.fl,hs:=d.hs,sh:=d.sh,ow:=d.ow,hC:=T.hC,hm:=T.hm,hfl:=T.hfl,hls:=T.hls,tb:=T.tb,ss:=T.ss}
abbrev av(N b:L _)(a:Scope):=(match a.kind with|.function=>B|_=>G)&&!a.isCoroutine&&!a.isGenerator&&kf N&&b.all (xh a)&&a.names.all λy=>match y.2 with|.free=>G|_=>B
def ZS{a lo c}(h:av (a++lo) a c=B):FnScope (a++lo) a c:=by
 let q h k:=jl h;let q h d:=jl h;let q h j:=jl h;let q h i:=jl h;let q b l:=jl h;refine#[?_,vK l,vK i,Ka j,by simp,λx f=>BD (List.all_eq_true.mp d x f),λy g e=>?_]
 ·split at b
  ·assumption
  ·exact Zf b
 ·have:=List.all_eq_true.mp k y g;rw[e]at this;exact Zf this
abbrev Bd(x q st)(d:L _):=∀(kV a g f c e b),b.length=d.length->bindArgs (PySem.W.fnOf x q (defArgs st) (defBody st) Sb .none kV a g f c e) #[b,[]]=pure (d.zip b)
abbrev uf(T d kF):=cG (av (d.ps++d.lo) d.ps (defScope d.st)) (cQ (rc 30) 30 (gm T d kF) (defBody d.st))
structure TOk (P w K mg base n) (T:Tb) where
 gs:∀p∈T.gs,xl P w K mg base T.C (·<=n) K p.1 p.2
 ms:∀p∈T.ms,ao P w K mg base T.C (·<=n) K p.1 p.2
 cl:Cls K T.C
 fl:∀f∈T.fl,yP K T.C f
 xt:XTok K mg T.xt
 xp:∀x∈T.xt.xp,∃C,W.nsIn K mainGlobals x=S (S (.ref C))/\W.excIn K C wG "ValueError.__new__" = B
 xq:∀x fs,T.xt.xq.lookup x=S fs->KB P w K mg base (·<=n) x fs
 hcl:Cls K T.hC
 hfl:∀f,f∈T.hfl\/f∈T.hls->yP K T.hC f
 hm:∀p∈T.hm,yv P w K mg base T.hC (·<=n) K p.1 p.2
 ss:∀p∈T.ss,NH P w K mg base K p.1 p.2
section
variable{P:Program}{w:World}{K:Fr}{mg:Tj}{base:Heap}{f C:Addr}{fd:FuncData}{n:Nat}{T:Tb}{d:De}{g:GI}{x:Str}
def TOk.mono(h:TOk P w K mg base n T)(l:n<=m):TOk P w K mg base m T:=
 #[λp a=>(h.gs p a).mono λ_ z=>wSa z l,λp a=>(h.ms p a).mono λ_ z=>wSa z l,h.cl,h.fl,h.xt,h.xp,(λx b e=>(h.xq x b e).mono λ_ z=>wSa z l),h.hcl,h.hfl,(λp a=>(h.hm p a).mono λ_ z=>wSa z l),h.ss]
set_option tactic.hygienic true in
theorem YM{a:Type}{x:Str}{g:a}:∀{l:L _},l.lookup x=S g->(x,g)∈l
 |[],h=>Zn h
 |(y,b)::r,h=>by
  rw[List.lookup_cons]at h;split at h
  ·simp_all
  ·exact wMa _ (YM h)
def NI{c A outer s H E CX}(h:TOk P w K mg base n T)(a:FnScope (d.ps++d.lo) d.ps (defScope d.st))(b:Room n (A.deeper (envOfC d.q (defScope d.st) s.heap.objs.size f c))):
  OkX K (gm T d kF xm) (yl CX P w K mg base (d.ps++d.lo) d.q (defScope d.st) f c A outer s H E) where
 n:=rfl
 sc:=rfl
 nd:=a.nd
 calm:=λ_=>rfl
 k:=rfl
 room:=λ_=>b.mono (Nat.zero_le _)
 fn:=λ_ _=>rfl
 gs:=λx g e=>(h.gs _ (YM e)).mono λk z _=>b.mono z
 ms:=λx g e=>(h.ms _ (YM e)).mono λk z _=>b.mono z
 cl:=h.cl
 fl:=λf e=>h.fl f (List.contains_iff_mem.mp e)
 xt:=h.xt
 hcl:=h.hcl
 hfl:=λf e=>h.hfl f (e.imp List.contains_iff_mem.mp List.contains_iff_mem.mp)
 hm:=λx g e=>(h.hm _ (YM e)).mono λk z _=>b.mono z
 xq:=λx i e=>(h.xq x i e).mono λk z _=>b.mono z
 sf:=λz=>nomatch z
 ss:=λx F e=>h.ss _ (YM e)
abbrev Yi(T d):=cG (av (d.ps++d.lo) d.ps (defScope d.st)) (cQ (rc 30) 30 (gm T d G B) (defBody d.st))
def Wv{e A a s H E}(h:TOk P w K mg base n T)(c:uf T d kF=S b)(k:Room n (A.deeper (envOfC d.q (defScope d.st) s.heap.objs.size f e))):
  Jx (yl Y9 P w K mg base (d.ps++d.lo) d.q (defScope d.st) f e A a s H E).nox (defBody d.st) (tS K (λ_ _=>False) b):=by
 let q i j:=jq c;exact qX (Ke 30) 30 #[(NI (kF:=kF) (xm:=G) h (ZS i) k).nox,PassesOwn.never,rfl,rfl,λz=>nomatch z] j
def xD{m A outer s H E}(h:TOk P w K mg base n T)(c:Yi T d=S b)(N:Room n (A.deeper (envOfC d.q (defScope d.st) s.heap.objs.size f m))):
  Jx (yl (yD P w) P w K mg base (d.ps++d.lo) d.q (defScope d.st) f m A outer s H E) (defBody d.st) (tS K (PX K E) b):=by
 let q R c2:=jq c;have F:=NI (kF:=G) (xm:=B) (E:=E) (outer:=outer) (H:=H) (CX:=yD P w) h (ZS R) N;refine qX (Ke 30) 30 #[F,PassesOwn.leaving,rfl,rfl,λ_=>#[E,rfl,II,λx u v X e r cp z j=>?_,λx UQ u v X e r a es l ha M=>?_]] c2
 ·let ja C i p:=h.xp x u;let q t o:=ZR F v;rw[wq i];exact Cq i p PySem.F.excBase_ValueError t o
 ·let Jw C fi fd' ps k i p kp Z w9:=h.xq x UQ u;let yY O W I hb hk:=w9;let q t o:=ZR F v;rw[wq i];exact Bm i p PySem.F.excBase_ValueError kp Z O W I hb (N.mono hk) t o ha (j_ (M _ wNa)) (YK λy Q=>M y (wMa _ Q))
def UL(h:TOk P w K mg base n T)(F:Fun K d.x d.q d.st f fd)(c:Yi T d=S d.b)(e:d.ks.length=d.ps.length):FnOk P w K mg base (yD P w) (n+1) f fd d.ps (WY K d.ks (uc d.ks d.lo.length d.b)):=
 MO F (ZS (jq c).1) e Sx λi A a s H E b=>xD h c b
def aw(h:TOk P w K mg base n T)(F:Fun K d.x d.q d.st f fd)(c:uf T d G=S d.b)(e:d.ks.length=d.ps.length):FnOk P w K mg base Y9 (n+1) f fd d.ps (VV K d.ks (Jo d.ks d.lo.length d.b)):=
 O5 F (ZS (jq c).1) e Sx λi A a s H E b=>Wv h c b
def NJ(h:TOk P w K mg base n T)(F:Fun K d.x d.q d.st f fd)(c:uf T d B=S d.b)(e:d.ks.length=d.ps.length):FnOk P w K mg base Y9 (n+1) f fd d.ps (XX K d.ks (VZ d.ks d.lo.length d.b)):=
 O6 F (ZS (jq c).1) e Sx λi A a s H E b=>Wv h c b
def pW(h:TOk P w K mg base n T)(F:Fun K d.x d.q d.st f fd)(c:uf T d G=S d.b)(e:d.ks.length+1=d.ps.length):FnOk P w K mg base Y9 (n+1) f fd d.ps (e9 K C d.ks (Bg C d.ks d.lo.length d.b)):=
 O7 F (ZS (jq c).1) e Sx λi A a s H E b=>Wv h c b
abbrev At(K:Fr)(x q st):=∃f fd,W.nsIn K mainGlobals x=S (S (.ref f))/\Fun K x q st f fd
abbrev xF(K:Fr)(C x q st):=∃f fd,W.findIn K (.ref C) x=S (S (.ref f))/\W.isFn K (.ref f)=B/\Fun K x q st f fd
def nG{st}(a:W.nsIn K mainGlobals x=S (S (.ref f)))(F:Fun K x q st f fd):At K x q st:=#[f,fd,a,F]
def LG{st}(a:W.findIn K (.ref C) x=S (S (.ref f)))(i:W.isFn K (.ref f)=B)(F:Fun K x q st f fd):xF K C x q st:=#[f,fd,a,i,F]
abbrev G0(K:Fr)(x:Str):GI->Prop
 |.con i=>∃t,W.nsIn K mainGlobals x=S (S (.int i t))
 |.blt=>W.nsIn K mainGlobals x=S J
 |_=>False
def nH(a:∀x v,W.nsIn K mainGlobals x=S (S v)->mg x=S v)(b:∀x,W.nsIn K mainGlobals x=S J->mg x=J)(h:G0 K x g):xl P w K mg base C c K x g:=by
 cases g with
 |con i=>let q t h:=h;exact#[t,a _ _ h]
 |blt=>exact b _ h
 |_=>exact h.elim
abbrev Tb.ag(T:Tb)(x:Str)(i):={T with gs:=(x,i)::T.gs}
abbrev Tb.am(T:Tb)(x:Str)(i):={T with ms:=(x,i)::T.ms}
def TOk.ag(h:TOk P w K mg base n T)(l:n<=m)(q:xl P w K mg base T.C (·<=m) K x g):TOk P w K mg base m (T.ag x g):=
 #[λp a=>by
  rcases uTa a with rfl|a
  ·exact q
  ·exact(h.mono l).gs p a,(h.mono l).ms,h.cl,h.fl,h.xt,h.xp,(h.mono l).xq,h.hcl,h.hfl,(h.mono l).hm,h.ss]
def TOk.am(h:TOk P w K mg base n T)(l:n<=m)(q:ao P w K mg base T.C (·<=m) K x g):TOk P w K mg base m (T.am x g):=
 #[(h.mono l).gs,λp a=>by
  rcases uTa a with rfl|a
  ·exact q
  ·exact(h.mono l).ms p a,h.cl,h.fl,h.xt,h.xp,(h.mono l).xq,h.hcl,h.hfl,(h.mono l).hm,h.ss]
abbrev Tb.ah(T:Tb)(x:Str)(i):={T with hm:=(x,i)::T.hm}
def TOk.ah(h:TOk P w K mg base n T)(l:n<=m)(q:yv P w K mg base T.hC (·<=m) K x g):TOk P w K mg base m (T.ah x g):=
 #[(h.mono l).gs,(h.mono l).ms,h.cl,h.fl,h.xt,h.xp,(h.mono l).xq,h.hcl,h.hfl,(λp a=>by
  rcases uTa a with rfl|a
  ·exact q
  ·exact(h.mono l).hm p a),h.ss]
abbrev De.E(d:De)(n:Nat):GI:=.fE (n+1) d.ps d.ks (Jo d.ks d.lo.length d.b)
abbrev De.F(d:De)(n:Nat):GI:=.fF (n+1) d.ps d.ks (VZ d.ks d.lo.length d.b)
abbrev De.X(d:De)(n:Nat):GI:=.fX (n+1) d.ps d.ks (uc d.ks d.lo.length d.b)
structure Ck (T d kF) where
 c:uf T d kF=S d.b
 k:(d.ks.length==d.ps.length)=B
 b:Bd d.x d.q d.st d.ps
variable(XG:∀x v,W.nsIn K mainGlobals x=S (S v)->mg x=S v)
include XG
theorem TOk.E(h:TOk P w K mg base n T)(a:At K d.x d.q d.st)(c:Ck T d G):TOk P w K mg base (n+2) (T.ag d.x (d.E n)):=by
 let jW f fd b F:=a;exact h.ag (vKa _ _) #[#[f,fd,aw h F c.c (vLa c.k),F.binds c.b,F.kp,XG _ _ b],vMa _]
theorem TOk.F(h:TOk P w K mg base n T)(a:At K d.x d.q d.st)(c:Ck T d B):TOk P w K mg base (n+2) (T.ag d.x (d.F n)):=by
 let jW f fd b F:=a;exact h.ag (vKa _ _) #[#[f,fd,NJ h F c.c (vLa c.k),F.binds c.b,F.kp,XG _ _ b],vMa _]
theorem TOk.X(h:TOk P w K mg base n T)(a:At K d.x d.q d.st)(c:Yi T d=S d.b)(k:(d.ks.length==d.ps.length)=B)(b:Bd d.x d.q d.st d.ps):TOk P w K mg base (n+2) (T.ag d.x (d.X n)):=by
 let jW f fd e F:=a;exact h.ag (vKa _ _) #[#[f,fd,UL h F c (vLa k),F.binds b,F.kp,XG _ _ e],vMa _]
omit XG in
theorem TOk.mE(h:TOk P w K mg base n T)(a:xF K T.C d.x d.q d.st)(c:Ck T d G)(k:d.ks=[G]):TOk P w K mg base (n+2) (T.am d.x (d.E n)):=by
 let jc f fd b e F:=a;exact h.am (vKa _ _) #[#[f,fd,k▸aw h F c.c (vLa c.k),F.binds c.b,#[b,e,F.kp]],vMa _]
omit XG in
theorem TOk.mF(h:TOk P w K mg base n T)(a:xF K T.C d.x d.q d.st)(c:Ck T d B)(k:d.ks=[G]):TOk P w K mg base (n+2) (T.am d.x (d.F n)):=by
 let jc f fd b e F:=a;exact h.am (vKa _ _) #[#[f,fd,k▸NJ h F c.c (vLa c.k),F.binds c.b,#[b,e,F.kp]],vMa _]
theorem TOk.I(h:TOk P w K mg base n T)(a:xF K T.C d.x d.q d.st)(r:d.x ="__init__")(c:uf T d G=S d.b)(k:(d.ks.length+1==d.ps.length)=B)(b:Bd d.x d.q d.st d.ps)(l:W.makesIn K T.C=B)(j:W.keepIn K (.ref T.C)=B)
  (m:W.nsIn K mainGlobals x=S (S (.ref T.C))) (t:∀p ds o,e ds=S o->Bg T.C d.ks d.lo.length d.b p ds=S o):TOk P w K mg base (n+2) (T.ag x (.mk (n+1) d.ps d.ks (Bg T.C d.ks d.lo.length d.b) e)):=by
 let jc f fd i s F:=a;refine h.ag (vKa _ _) #[#[f,fd,pW h F c (vLa k),F.binds b,#[l,?_,s,j],XG _ _ m],t,wPa _];rw[r]at i;exact i
theorem TOk.R(h:TOk P w K mg base n T)(a:At K d.x d.q d.st)(F:Nat->L D->Y D)(e:(L D->Y D)->DS.DS)(m)(M:∀t,F 0 t=J)(N:∀m,F (m+1)=Jo d.ks d.lo.length (e (F m)))
  (c:∀m,uf (T.ag d.x (.fE (n+m) d.ps d.ks (F m))) d G=S (e (F m))) (k:(d.ks.length==d.ps.length)=B) (b:Bd d.x d.q d.st d.ps):TOk P w K mg base (n+m) (T.ag d.x (.fE (n+m) d.ps d.ks (F m))):=by
 let jW f fd p j:=a;have l:∀m,FnOk P w K mg base Y9 (n+m) f fd d.ps (VV K d.ks (F m)):=by
  intro m;induction m with
  |zero=>
   have r:∀i H Q E,¬VV K d.ks (F 0) i H Q E:=λi H Q E h=>by
    let jL O t d _ _ u _:=h;rw[M]at u;exact Zn u
   exact#[λi H Q E h=>vDa h (r i H Q E),λA o s H y R i Q E _ _ _ _ h=>vDa h (r i H Q E)]
  |succ m z=>
   have I:TOk P w K mg _ _ (T.ag _ (.fE _ _ _ _)):=h.ag (vKa _ _) #[#[f,fd,z,j.binds b,j.kp,XG _ _ p],wPa _];rw[N];exact aw (d:={d with b:=e _}) I j (c m) (vLa k)
 exact h.ag (vKa _ _) #[#[f,fd,l m,j.binds b,j.kp,XG _ _ p],wPa _]
end
abbrev sN(s:Stmt):=match s with
 |.FunctionDef n _ _ _ _ _ _ _ _ _=>n
 |.ClassDef n _ _ _ _ _ _ _ _ _ _=>n
 |_=>""
abbrev Z5(st):=(defArgs st).args.map (·.arg)
abbrev On(st):=((defScope st).names.filter λy=>xh Sb y.1&&!(Z5 st).contains y.1).map (·.1)
abbrev kh(st:Stmt):=(defArgs st).posonlyargs.isEmpty&&(defArgs st).kwonlyargs.isEmpty&&(defArgs st).vararg.isNone&&(defArgs st).kwarg.isNone&&kf (Z5 st)
theorem BP:∀(l:L Str) (c:L Value) (a),c.length=l.length->l.Nodup->(∀n∈l,a.lookup n=J)->(l.filterMap λn=>((a++l.zip c).lookup n).map (n,·))=l.zip c/\(∀n∈l,((a++l.zip c).lookup n).isNone=G)
 |[],c,a,_,_,_=>by simp
 |n::l,[],a,h,_,_=>by cases h
 |n::l,u::c,a,h,g,f=>by
  let q i o:=List.nodup_cons.mp g;have e:a++(n::l).zip (u::c)=(a++[(n,u)])++l.zip c:=by simp
  have q:((a++[(n,u)])++l.zip c).lookup n=S u:=by
   rw[List.lookup_append,List.lookup_append,f n List.mem_cons_self];simp
  let q j k:=BP l c (a++[(n,u)]) (by simpa using h) o λm d=>by
   rw[List.lookup_append,f m (List.mem_cons_of_mem _ d)];have:m≠n:=λz=>i (z▸d);have b:=beq_eq_false_iff_ne.mpr this;simp[List.lookup_cons,b]
  rw[e];refine#[by rw[List.filterMap_cons,q,j];rfl,λm d=>?_];rcases uTa d with rfl|d
  ·rw[q];rfl
  ·exact k m d
def Yq{st}(h:kh st=B):Bd x q st (Z5 st):=by
 intro kV s z F u w g a;unfold kh at h;unfold Z5 at *;let q h i:=jl h;let q h e:=jl h;let q h f:=jl h;let q b c:=jl h;generalize y:defArgs st=A at *;let q I t m v H p C:=A;dsimp only at b c f e i a⊢;rw[List.isEmpty_iff]at b c;cases m with
 |some _=>exact Zf f
 |none=>?_
 cases p with
 |some _=>exact Zf e
 |none=>?_
 subst b c;let q d j:=BP _ g [] a (Ka i) λ_ _=>rfl;rw[uQa]at d j;unfold bindArgs W.fnOf;have o:seqItems? .none=pure _:=rfl;simp only[List.forIn_nil,pure_bind,o,Bool.and_true];generalize t.map _=l at *;have k:l.filter (λn=>((l.zip g).lookup n).isNone)=[]:=by
  rw[List.filter_eq_nil_iff];intro n r;rw[j n r]
  decide
 simp[k,d,a]
structure Df where
 st:Stmt
 q:Str
 f:Addr
 m:Bool
 kF:Bool
 ks:L Bool
 b:DS.DS
 hs:L ((Nat×Nat×Nat)×L Nat):=[]
 sh:L (Nat×Nat):=[]
 ow:L Nat:=[]
 xm:=G
abbrev Df.de(d:Df):De:=#[sN d.st,d.q,d.st,Z5 d.st,On d.st,d.ks,d.b,d.hs,d.sh,d.ow]
abbrev Tb.add(T:Tb)(n:Nat)(d:Df):=cond d.xm (T.ag (sN d.st) (d.de.X n)) <|cond d.m (T.am (sN d.st) (cond d.kF (d.de.F n) (d.de.E n))) (T.ag (sN d.st) (cond d.kF (d.de.F n) (d.de.E n)))
abbrev Tb.adds:Tb->Nat->L Df->Tb
 |T,_,[]=>T
 |T,n,d::l=>(T.add n d).adds (n+2) l
abbrev Tb.chks:Tb->Nat->L Df->L (Y DS.DS×Bool)
 |_,_,[]=>[]
 |T,n,d::l=>(cond d.xm (Yi T d.de) (uf T d.de d.kF),kh d.st&&(d.ks.length==(Z5 d.st).length&&((!d.m||d.ks==[G])&&!(d.m&&d.xm))))::(T.add n d).chks (n+2) l
abbrev gG(l:L Df):=l.map λd=>(S d.b,B)
abbrev pX(o:Y Obj):=match o with
 |S ⟨_,_,.func a,_⟩=>a.pyModule
 |_=>.none
abbrev yt(K:Fr)(C)(d:Df):=(cond d.m (W.findIn K (.ref C) (sN d.st)) (W.nsIn K mainGlobals (sN d.st)),K.lookup d.f,W.codeIn K (.ref (d.f-1)) d.q&&(W.keepIn K (.ref d.f)&&W.isFn K (.ref d.f)))
abbrev yC(K:Fr)(d:Df):Y (Y Value)×Y Obj×Bool:=(S (S (.ref d.f)),S #[.type "function",J,.func (W.fnOf (sN d.st) d.q (defArgs d.st) (defBody d.st) (defScope d.st) .none .none .none (pX (K.lookup d.f)) J (.ref (d.f-1)) .none),#v[]],B)
section
variable{P:Program}{w:World}{K:Fr}{mg:Tj}{base:Heap}{C:Addr}{d:Df}
def Vw(h:yt K C d=yC K d)(m:d.m=G):At K (sN d.st) d.q d.st:=by
 have b:=congrArg (·.1) h;have c:=congrArg (·.2.1) h;have a:=congrArg (·.2.2) h;dsimp only[yt]at b c a;rw[m]at b;let q a e:=jl a;exact nG b (B2 c a (jl e).1)
def ug(h:yt K C d=yC K d)(m:d.m=B):xF K C (sN d.st) d.q d.st:=by
 have b:=congrArg (·.1) h;have e:=congrArg (·.2.1) h;have a:=congrArg (·.2.2) h;dsimp only[yt]at b e a;rw[m]at b;let q a c:=jl a;exact LG b (jl c).2 (B2 e a (jl c).1)
theorem TOk.adds(m:∀x v,W.nsIn K mainGlobals x=S (S v)->mg x=S v):∀(l) {n T},TOk P w K mg base n T->T.chks n l=gG l->l.map (yt K T.C)=l.map (yC K)->TOk P w K mg base (n+2*l.length) (T.adds n l)
 |[],n,T,h,_,_=>h
 |d::l,n,T,h,c,a=>by
  let q p z:=List.cons.inj c;let q k t:=List.cons.inj a;have b:=congrArg (·.1) p;let q j i:=jl (congrArg (·.2) p);let q i g:=jl i;let q g s:=jl g;dsimp only at b;have e:n+2*(d::l).length=n+2+2*l.length:=by rw[vXa];lia
  have u:TOk P w K mg base (n+2) (T.add n d):=by
   unfold Tb.add;cases r:d.xm
   case true=>
    rw[r]at b s;have f:d.m=G:=by lia
    exact TOk.X m h (Vw k f) b i (Yq j)
   rw[r]at b;cases f:d.m
   ·cases o:d.kF<;>rw[o]at b
    ·exact TOk.E m h (Vw k f) #[b,i,Yq j]
    ·exact TOk.F m h (Vw k f) #[b,i,Yq j]
   ·rw[f]at g;have g:d.ks=[G]:=by simpa using g
    cases o:d.kF<;>rw[o]at b
    ·exact TOk.mE h (ug k f) #[b,i,Yq j] g
    ·exact TOk.mF h (ug k f) #[b,i,Yq j] g
  have y:(T.add n d).C=T.C:=by unfold Tb.add;cases d.xm<;>cases d.m<;>rfl
  rw[e];exact TOk.adds m l u z (by rw[y];exact t)
abbrev Eg(o:Y (Y Value)):=match o with
 |S (S (.int i _))=>S (S i)
 |S none=>S J
 |_=>J
abbrev Eh(g:GI):=match g with
 |.con i=>S (S i)
 |.blt=>S J
 |_=>J
theorem yT:∀{l:L c},l.map f=l.map g->∀x∈l,f x=g x
 |[],_,_,h=>by cases h
 |a::l,e,x,h=>by
  let q b i:=List.cons.inj e;rcases uTa h with rfl|h
  ·exact b
  ·simp_all
def nI{b:L (Str×GI)}(h:b.map (λp=>(Eg (W.nsIn K mainGlobals p.1),(Eh p.2).isSome))=b.map λp=>(Eh p.2,B)):∀p∈b,G0 K p.1 p.2:=λp f=>by
 have e:=yT h p f;have a:=congrArg (·.1) e;have c:=congrArg (·.2) e;let q x g:=p;dsimp only at a c⊢;cases g with
 |con i=>
  unfold Eg at a;split at a
  ·cases a;exact#[_,by assumption]
  ·cases a
  ·exact Zn a
 |blt=>
  unfold Eg at a;split at a
  ·cases a
  ·assumption
  ·exact Zn a
 |_=>exact Zf c
abbrev LH(K:Fr)(x):=(W.nsIn K mainGlobals x,W.findIn K Si "__getattribute__",W.findIn K Si "__getattr__",W.findIn K Si "__class__",W.specialIn K (.builtin "object.__class__") "__get__",W.takesIn K (.builtin "object.__class__"),W.mroIn K (jV K x) (.type "object"),W.subIn K Si (.type "BaseException"),W.isClsIn K (jV K x))
abbrev LI(K:Fr)(x:Str):Y (Y Value)×Y (Y Value)×Y (Y Value)×Y (Y Value)×Y (Y Value)×Y Bool×Y Bool×Y Bool×Bool:=(S (S Si),S (S (.builtin "BaseException.__getattribute__")),S J,S (S (.builtin "object.__class__")),S (S (.builtin "getset_descriptor.__get__")),S B,S B,S B,B)
abbrev LJ(K:Fr)(p:Str×Str):=(W.findIn K (.ref (jV K p.1)) "__getattribute__",W.findIn K (.ref (jV K p.1)) "__getattr__",ZC K (jV K p.1),W.hasDictIn K (jV K p.1),W.findIn K (.ref (jV K p.1)) p.2)
abbrev qf(K:Fr)(x f):=(W.findIn K Si "__setattr__",ZC K (jV K x),W.takerIn K (jV K x) f,W.hasDictIn K (jV K x))
def nJ(l:∀x v,W.nsIn K mainGlobals x=S (S v)->mg x=S v)(F:T.ex.map (LH K)=T.ex.map (LI K))(I:(T.ex.map λx=>T.ex.map λy=>W.kitOne K Si (.ref (jV K y)))=T.ex.map λx=>T.ex.map λy=>S (x==y))
  (t:T.ct.map (λh=>(W.nsIn K mainGlobals h.1,h.2.1.map (λx=>W.exmOne K Si (.ref (jV K h.1))),h.2.2.map λx=>W.exmOne K Si (.ref (jV K h.1))))=T.ct.map λh=>(S (S (.ref (jV K h.1))),h.2.1.map (λ_=>S B),h.2.2.map λ_=>S G))
  (u:T.xf.map (LJ K)=T.xf.map λ_=>(S (S (.builtin "BaseException.__getattribute__")),S J,B,B,S J))
  (M:T.ve=B->T.ex.map (λx=>W.kitOne K Si (.type "ValueError"))=T.ex.map λ_=>S B) (r:T.c3.map (λp=>(p.1.map λx=>W.nsIn K mainGlobals x,p.2.map λc=>W.exmAny K (.ref (jV K c)) (p.1.map λx=>Value.ref (jV K x))))=T.c3.map λp=>(p.1.map λx=>S (S Si),p.2.map λ_=>S B)):XTok K mg T where
 v:=λz x a=>yT (M z) x a
 c3:=λp i=>by
  have e:=yT r p i;simp only[Prod.mk.injEq]at e;exact#[λx a=>l _ _ (yT e.1 x a),λc hc=>yT e.2 c hc]
 e:=λx a=>by
  have e:=yT F x a;unfold LH LI at e;simp only[Prod.mk.injEq]at e;let Jy b f g k j u0:=e;let Jm n H s A:=u0;exact#[_,b,l _ _ b,f,g,k,j,n,H,s,A]
 k:=λx a y o=>yT (yT I x a) y o
 c:=λh m=>by
  have e:=yT t h m;simp only[Prod.mk.injEq]at e;let Yk b f g:=e;exact#[l _ _ b,λx a=>yT f x a,λx a=>yT g x a]
 f:=λp i=>by
  have e:=yT u p i;unfold LJ at e;simp only[Prod.mk.injEq]at e;let yY b f g k j:=e;exact#[b,f,g,k,j]
def nK{l:L _}(h:l.map (λx=>(W.nsIn K mainGlobals x,W.excIn K (jV K x) wG "ValueError.__new__"))=l.map λx=>(S (S Si),B)):∀x∈l,∃C,W.nsIn K mainGlobals x=S (S (.ref C))/\W.excIn K C wG "ValueError.__new__" = B:=λx a=>by
 have e:=yT h x a;simp only[Prod.mk.injEq]at e;exact#[_,e.1,e.2]
def xG(h:qf K x f=(S Sf,B,S J,B)):ExS K (jV K x) f:=by
 unfold qf at h;simp only[Prod.mk.injEq]at h;exact#[h.1,h.2.1,h.2.2.1,h.2.2.2]
def LK{st k e h g i j A R X Q n r UQ N}(ns:W.nsIn K mainGlobals x=S (S Si))(l:ub K (jV K x) wG "ValueError.__new__" k=B)(o:W.keepIn K Si=B)(hf:W.findIn K Si "__init__" = S (S (.ref k)))
  (a:xF K (jV K x) "__init__" q st) (T:qf K x i=(S Sf,B,S J,B)) (H:qf K x j=(S Sf,B,S J,B)) (hn:(i==j)=G) (t:defBody st=[.Assign [.Attribute (.Name e A) i R] (.Name h X) Q,.Assign [.Attribute (.Name e n) j r] (.Name g UQ) N]) (c:av ([e,h,g]++[]) [e,h,g] Sb=B)
  (v:(gB Sb e&&gB Sb h&&gB Sb g)=B) (d:([e,h,g].all λy=>!(y==("__debug__"))&&!(y==("__classdict__")))=B) (b:Bd "__init__" q st [e,h,g]):KB P w K mg base (·<=2) x [i,j]:=by
 let jc f fd m e2 F:=a;rw[hf]at m;cases m;have I:=ZS c;let q v v2:=jl v;let q p s:=jl v;simp only[List.all_cons,List.all_nil,Bool.and_true,Bool.and_eq_true,Bool.not_eq_true']at d;let Jm v0 w0 d2 u:=d;let q M O:=v0;let q d1 Z:=w0;exact#[_,k,fd,_,1,ns,l,o,beq_iff_eq.mp e2,MM F I t (xG T) (xG H) (λz=>by lia) (UJ p) (UJ s) (UJ v2) M d1 d2 O Z u,(show 2<=1000 by decide),rfl,F.binds b,wPa _]
end
section
variable{P:Program}{w:World}{K:uXa}{mg:Tj}{base:Heap}
def LL{st h e g j p r A u}(N:W.nsIn K mainGlobals x=S (S Si))(i:ub K (jV K x) wG "ValueError.__new__" h=B)(s:W.keepIn K Si=B)(H:W.findIn K Si "__init__" = S (S (.ref h)))
  (a:xF K (jV K x) "__init__" q st) (z:qf K x j=(S Sf,B,S J,B)) (o:defBody st=[.Assign [.Attribute (.Name e p) j r] (.Name g A) u]) (c:av ([e,g]++[]) [e,g] Sb=B)
  (v:(gB Sb e&&gB Sb g)=B) (d:([e,g].all λy=>!(y==("__debug__"))&&!(y==("__classdict__")))=B) (b:Bd "__init__" q st [e,g]):KB P w K mg base (·<=2) x [j]:=by
 let jc f O k I F:=a;rw[H]at k;cases k;have m:=ZS c;let q l n:=jl v;simp only[List.all_cons,List.all_nil,Bool.and_true,Bool.and_eq_true,Bool.not_eq_true']at d;let Yk u0 d1 M:=d;let q t C:=u0;exact#[_,h,O,_,1,N,i,s,beq_iff_eq.mp I,MN F m o (xG z) (UJ l) (UJ n) t d1 C M,(show 1<=1000 by decide),rfl,F.binds b,wPa _]
end
def gJ{a:Type}{o}{d:a}(h:o.isSome=B):o=S (o.getD d):=by
 cases o with
 |none=>exact Zf h
 |some x=>rfl
section
variable{P:Program}{w:World}{K:Fr}{mg:Tj}{base:Heap}{n:Nat}{T:Tb}{d:De}{f:Addr}{fd:FuncData}{x:Str}
def uV{b}(h:TOk P w K mg base n T)(F:Fun K d.x d.q d.st f fd)(c:Yi T d=S b)(i:e.length+1=d.ps.length):FnOk P w K mg base (yD P w) (n+1) f fd d.ps (uT K e (ZD e d.lo.length b)):=
 MV F (ZS (jq c).1) i Sx λj A a s H E g=>xD h c g
structure Dh where
 d:Df
 k:Bool
abbrev Dh.gi(T:Tb)(n:Nat)(d:Dh):GI:=cond d.k (.fH (n+1) d.d.de.ps d.d.ks (ZD d.d.ks d.d.de.lo.length ((Yi T d.d.de).getD JD))) (.fX (n+1) d.d.de.ps d.d.ks.tail (uc d.d.ks d.d.de.lo.length ((Yi T d.d.de).getD JD)))
abbrev Tb.addsH:Tb->Nat->L Dh->Tb
 |T,_,[]=>T
 |T,n,d::l=>(T.ah (sN d.d.st) (d.gi T n)).addsH (n+2) l
abbrev Tb.chkH:Tb->Nat->L Dh->L Bool
 |_,_,[]=>[]
 |T,n,d::l=>((Yi T d.d.de).isSome&&(kh d.d.st&&(d.d.m&&cond d.k (d.d.ks.length+1==(Z5 d.d.st).length) (d.d.ks.length==(Z5 d.d.st).length&&d.d.ks==G::d.d.ks.tail))))::(T.ah (sN d.d.st) (d.gi T n)).chkH (n+2) l
theorem TOk.addsH:∀(l) {n T},TOk P w K mg base n T->T.chkH n l=l.map (λ_=>B)->l.map (λd=>yt K T.hC d.d)=l.map (λd=>yC K d.d)->TOk P w K mg base (n+2*l.length) (T.addsH n l)
 |[],n,T,h,_,_=>h
 |d::l,n,T,h,c,a=>by
  let q r y:=List.cons.inj c;let q v t:=List.cons.inj a;let q i g:=jl r;let q g j:=jl g;let q j b:=jl j;have e:n+2*(d::l).length=n+2+2*l.length:=by rw[vXa];lia
  have i:=gJ (d:=JD) i;let jc f fd k m F:=ug v j;have p:TOk P w K mg base (n+2) (T.ah (sN d.d.st) (d.gi T n)):=by
   refine h.ah (vKa _ _) ?_;unfold Dh.gi;cases o:d.k
   ·rw[o]at b;let q b s:=jl b;have u:=vLa s;refine#[#[f,fd,?_,F.binds (Yq g),#[k,m,F.kp]],vMa _];rw[<-u];exact UL (d:={d.d.de with b:=(Yi T d.d.de).getD JD}) h F i (vLa b)
   ·rw[o]at b;exact#[#[f,fd,uV h F i (vLa b),F.binds (Yq g),#[k,m,F.kp]],vMa _]
  rw[e];exact TOk.addsH l p y t
variable(XG:∀x v,W.nsIn K mainGlobals x=S (S v)->mg x=S v)
include XG
theorem TOk.hI{d g}(h:TOk P w K mg base n T)(o:TOk P w K mg base n i)(a:yt K C d=yC K d)(k:sN d.st ="__init__")(c:((Yi i d.de).isSome&&(kh d.st&&(d.m&&(g.length+1==(Z5 d.st).length))))=B)(r:W.makesIn K C=B)(m:W.keepIn K (.ref C)=B)(p:W.nsIn K mainGlobals x=S (S (.ref C))):
  TOk P w K mg base (n+2) (T.ah x (.mH (n+1) d.de.ps g C (ZD g d.de.lo.length ((Yi i d.de).getD JD)))):=by
 let q s b:=jl c;let q b e:=jl b;let q e t:=jl e;let jc f fd j l F:=ug a e;refine h.ah (vKa _ _) #[#[f,fd,uV o F (gJ s) (vLa t),F.binds (Yq b),#[r,?_,l,m],XG _ _ p],wPa _];rw[k]at j;exact j
theorem TOk.R2{d1 d2}(h:TOk P w K mg base n T)(a1:At K d1.x d1.q d1.st)(a2:At K d2.x d2.q d2.st)(c g:Nat->L D->Y D)(l t:(L D->Y D)->DS.DS)(m)(Z:∀F,c 0 F=J)(FS:∀m,c (m+1)=Jo d1.ks d1.lo.length (l (g m)))(a:∀m,g m=Jo d2.ks d2.lo.length (t (c m)))
  (X:∀m,uf (T.ag d1.x (.fE (n+2*m) d1.ps d1.ks (c m))) d2 G=S (t (c m))) (c1:∀m,uf (T.ag d2.x (.fE (n+2*m+1) d2.ps d2.ks (g m))) d1 G=S (l (g m)))
  (k1:(d1.ks.length==d1.ps.length)=B) (N:Bd d1.x d1.q d1.st d1.ps) (k2:(d2.ks.length==d2.ps.length)=B) (R:Bd d2.x d2.q d2.st d2.ps):TOk P w K mg base (n+2*m) (T.ag d1.x (.fE (n+2*m) d1.ps d1.ks (c m))):=by
 let jW r e C b:=a1;let jW z k e2 i:=a2;have p:∀m,FnOk P w K mg base Y9 (n+2*m) r e d1.ps (VV K d1.ks (c m)):=by
  intro m;induction m with
  |zero=>
   have M:∀j H Q E,¬VV K d1.ks (c 0) j H Q E:=λj H Q E h=>by
    let jL O F d _ _ I _:=h;rw[Z]at I;exact Zn I
   exact#[λj H Q E h=>vDa h (M j H Q E),λA u s H y us j Q E _ _ _ _ h=>vDa h (M j H Q E)]
  |succ m ih=>
   have UQ:TOk P w K mg base _ (T.ag d1.x (.fE _ d1.ps d1.ks (c m))):=h.ag (vKa _ _) #[#[r,e,ih,b.binds N,b.kp,XG _ _ C],wPa _];have o:FnOk P w K mg base Y9 (n+2*m+1) z k d2.ps (VV K d2.ks (g m)):=by
    rw[a];exact aw (d:={d2 with b:=t (c m)}) UQ i (X m) (vLa k2)
   have h2:TOk P w K mg base _ (T.ag d2.x (.fE _ d2.ps d2.ks (g m))):=h.ag (by lia) #[#[z,k,o,i.binds R,i.kp,XG _ _ e2],wPa _];rw[FS];exact aw (d:={d1 with b:=l (g m)}) h2 b (c1 m) (vLa k1)
 exact h.ag (vKa _ _) #[#[r,e,p m,b.binds N,b.kp,XG _ _ C],wPa _]
end
section
variable{P:Program}{w:World}{K:Fr}{mg:Tj}{base:Heap}{n:Nat}{T:Tb}{d:De}{f:Addr}{fd:FuncData}{x qual:Str}{st:Stmt}{N ps:L Str}{ks:L Bool}{body:DS.DS}{Px:Xp->Hp->Prop}
def nL(UQ:Fun K x qual st f fd)(b:FnScope N ps Sb)(hk:ks.length=ps.length)(hn:N.length-ps.length=n)
  (hb:∀(g A c s H),GU (uS P w K mg base N qual Sb f g A c s H)->Jx (uS P w K mg base N qual Sb f g A c s H) (defBody st) (tS K Px body)):
  FnS P w K mg base f fd ps (VV K ks (Jo ks n body)):=by
 let JC oc od kV R pm an g u0:=UQ.ex;let jc ct W rfl lk C:=u0;refine fJ lk C b (λF H Q E h=>?_) λA c s H F Q X h=>?_
 ·let JL O Z d _ k _:=h;have:=k.len
  lia
 ·let jL O Z d I k e q:=h;refine#[_,hb g A c s H X,?_];let ja r e1 i:=jd e;have t:N.length-F.length=n:=by have:=k.len;lia
  unfold L2.zR;rw[t];refine#[H,_,_,O,r,Wg k I,e1,?_];cases r with
  |rt d'=>obtain rfl:=Zj i;exact λv j s r=>q v j s r
  |rf o=>
   obtain rfl:=Zj i;exact λl j s t M=>q _ j s ((M.same (λ_ z=>z) (yf λa h=>wMa _ h)).rep λu z=>by rw[jS (λy=>I l y t)];exact z)
  |nx m=>obtain rfl:=Zj i;exact λU' j O' R' _=>q _ j R'.keep rfl
  |bk m=>exact Zn i
  |ct m=>exact Zn i
  |xc p m=>exact Zn i
  |rh d m=>exact Zn i
abbrev xH(T d):=cG (av (d.ps++d.lo) d.ps (defScope d.st)) (cQ (rc 30) 30 {gm T d G with cm:=G,sf:=B,ss:=[]} (defBody d.st))
def nM(h:TOk P w K mg base n T)(a:FnScope (d.ps++d.lo) d.ps (defScope d.st))(j:GU (uS P w K mg base (d.ps++d.lo) d.q (defScope d.st) f c A b s H)):
  OkX K {gm T d G with cm:=G,sf:=B,ss:=[]} (uS P w K mg base (d.ps++d.lo) d.q (defScope d.st) f c A b s H) where
 n:=rfl
 sc:=rfl
 nd:=a.nd
 calm:=λz=>nomatch z
 k:=rfl
 room:=λz=>nomatch z
 fn:=λ_ _=>rfl
 gs:=λx g e=>(h.gs _ (YM e)).mono λk z y=>nomatch y
 ms:=λx g e=>(h.ms _ (YM e)).mono λk z y=>nomatch y
 cl:=h.cl
 fl:=λf e=>h.fl f (List.contains_iff_mem.mp e)
 xt:=h.xt
 hcl:=h.hcl
 hfl:=λf e=>h.hfl f (e.imp List.contains_iff_mem.mp List.contains_iff_mem.mp)
 hm:=λx g e=>(h.hm _ (YM e)).mono λk z y=>nomatch y
 xq:=λx i e=>(h.xq x i e).mono λk z y=>nomatch y
 sf:=λ_=>j
 ss:=λx F z=>nomatch z
abbrev Tb.as(T:Tb)(x:Str)(F:L D->Y D):={T with ss:=(x,F)::T.ss}
def TOk.SQ(y:∀x v,W.nsIn K mainGlobals x=S (S v)->mg x=S v){d}(h:TOk P w K mg base n T)(a:yt K T.C d=yC K d)(R:d.m=G)(c:((xH T d.de).isSome&&(kh d.st&&(d.ks.length==(Z5 d.st).length&&d.ks.length==1)))=B):
  TOk P w K mg base n (T.as (sN d.st) (Jo d.ks d.de.lo.length ((xH T d.de).getD JD))):=by
 let q O l:=jl c;let q l k:=jl l;let q k r:=jl k;let jW f fd Q F:=Vw a R;have e:=gJ (d:=JD) O;let q m C:=jq e;refine#[h.gs,h.ms,h.cl,h.fl,h.xt,h.xp,h.xq,h.hcl,h.hfl,h.hm,λp i=>?_];rcases uTa i with rfl|i
 ·have g:=vLa r;obtain⟨b,I⟩:∃b,d.ks=[b]:=by
   cases o:d.ks with
   |nil=>rw[o]at g;cases g
   |cons b t=>
    cases t with
    |nil=>exact#[b,rfl]
    |cons _ _=>rw[o]at g;cases g
  refine#[f,fd,_,b,?_,F.binds (Yq l),F.kp,y _ _ Q];have:=nL (Px:=λ_ _=>False) (n:=d.de.lo.length) F (ZS m) (vLa k) Sx λM A j s H u=>qX (Ke 30) 30 #[nM h (ZS m) u,PassesOwn.never,rfl,rfl,λz=>nomatch z] C;rw[I]at this⊢;exact this
 ·exact h.ss p i
abbrev Df.gH(T:Tb)(n:Nat)(d:Df):GI:=.fH (n+1) d.de.ps d.ks (ZD d.ks d.de.lo.length ((Yi T d.de).getD JD))
def TOk.G00(k:∀x v,W.nsIn K mainGlobals x=S (S v)->mg x=S v){d}(h:TOk P w K mg base n T)(a:yt K T.C d=yC K d)(e:d.m=G)(c:((Yi T d.de).isSome&&(kh d.st&&(d.ks.length+1==(Z5 d.st).length)))=B):TOk P w K mg base (n+2) (T.ag (sN d.st) (d.gH T n)):=by
 let q i b:=jl c;let q b g:=jl b;let jW f fd j F:=Vw a e;exact h.ag (vKa _ _) #[#[f,fd,uV h F (gJ i) (vLa g),F.binds (Yq b),F.kp,k _ _ j],vMa _]
def TOk.GB(g:∀x v,W.nsIn K mainGlobals x=S (S v)->mg x=S v){d}(h:TOk P w K mg base n T)(a:yt K T.C d=yC K d)(b:d.m=G)(c:Yi T d.de=S d.b)(i:(kh d.st&&(d.ks.length+1==(Z5 d.st).length))=B):TOk P w K mg base (n+2) (T.ag (sN d.st) (.fH (n+1) d.de.ps d.ks (ZD d.ks d.de.lo.length d.b))):=by
 have e:(Yi T d.de).getD JD=d.b:=by rw[c];rfl
 have z:=TOk.G00 g h a b (by rw[c];exact i);unfold Df.gH at z;rw[e]at z;exact z
def TOk.SB(g:∀x v,W.nsIn K mainGlobals x=S (S v)->mg x=S v){d}(h:TOk P w K mg base n T)(a:yt K T.C d=yC K d)(b:d.m=G)(c:xH T d.de=S d.b)(i:(kh d.st&&(d.ks.length==(Z5 d.st).length&&d.ks.length==1))=B):
  TOk P w K mg base n (T.as (sN d.st) (Jo d.ks d.de.lo.length d.b)):=by
 have e:(xH T d.de).getD JD=d.b:=by rw[c];rfl
 have z:=TOk.SQ g h a b (by rw[c];exact i);rw[e]at z;exact z
def TOk.hIB(i:∀x v,W.nsIn K mainGlobals x=S (S v)->mg x=S v){d ks}(h:TOk P w K mg base n T)(j:TOk P w K mg base n b)(a:yt K C d=yC K d)(m:sN d.st ="__init__")(c:Yi b d.de=S d.b)(g:(kh d.st&&(d.m&&(ks.length+1==(Z5 d.st).length)))=B)(k:W.makesIn K C=B)(o:W.keepIn K (.ref C)=B)(l:W.nsIn K mainGlobals x=S (S (.ref C))):
  TOk P w K mg base (n+2) (T.ah x (.mH (n+1) d.de.ps ks C (ZD ks d.de.lo.length d.b))):=by
 have e:(Yi b d.de).getD JD=d.b:=by rw[c];rfl
 have z:=TOk.hI i h j a m (by rw[c];exact g) k o l;rw[e]at z;exact z
abbrev Dh.gb(n:Nat)(d:Dh):GI:=cond d.k (.fH (n+1) d.d.de.ps d.d.ks (ZD d.d.ks d.d.de.lo.length d.d.b)) (.fX (n+1) d.d.de.ps d.d.ks.tail (uc d.d.ks d.d.de.lo.length d.d.b))
abbrev Tb.addsB:Tb->Nat->L Dh->Tb
 |T,_,[]=>T
 |T,n,d::l=>(T.ah (sN d.d.st) (d.gb n)).addsB (n+2) l
abbrev Tb.chkB:Tb->Nat->L Dh->L (Y DS.DS×Bool)
 |_,_,[]=>[]
 |T,n,d::l=>(Yi T d.d.de,kh d.d.st&&(d.d.m&&cond d.k (d.d.ks.length+1==(Z5 d.d.st).length) (d.d.ks.length==(Z5 d.d.st).length&&d.d.ks==G::d.d.ks.tail)))::(T.ah (sN d.d.st) (d.gb n)).chkB (n+2) l
abbrev xI(l:L Dh):=l.map λd=>(S d.d.b,B)
theorem TOk.addsB:∀(l) {n T},TOk P w K mg base n T->T.chkB n l=xI l->l.map (λd=>yt K T.hC d.d)=l.map (λd=>yC K d.d)->TOk P w K mg base (n+2*l.length) (T.addsB n l)
 |[],n,T,h,_,_=>h
 |d::l,n,T,h,c,a=>by
  let q k p:=List.cons.inj c;let q o m:=List.cons.inj a;have b:=congrArg (·.1) k;have j:=congrArg (·.2) k;dsimp only at b j;have e:n+2*(d::l).length=n+2+2*l.length:=by rw[vXa];lia
  have g:d.gi T n=d.gb n:=by
   unfold Dh.gi Dh.gb;rw[b];rfl
  have i:=TOk.addsH [d] h (by
   show[_]=[_]
   rw[b,j];rfl) (congrArg (λz=>[z]) o)
  unfold Tb.addsH at i;rw[g]at i;rw[e];exact TOk.addsB l i p m
end
end CP
namespace DS
open PySem L2
def zy(I:Nat->jD->Prop)(h:∀i d a,items[i]?=S d->I i a->∃b e,g d a=S b/\s b=S (.nx e)/\I (i+1) e):∀{a},I 0 a->∃c,Yp g s items a=S (.nx c)/\I items.length c:=by
 induction items generalizing I with
 |nil=>intro a f;exact#[a,rfl,f]
 |cons d u k=>
  intro a f;let jc b e r o j:=h 0 d a rfl f;let ja c m t:=k (λi=>I (i+1)) (λi n a p l=>h (i+1) n a (by simpa using p) l) j;exact#[c,by rw[Yx,r];show(s b).bind _=_;rw[o];exact m,t]
theorem vj(I:jD->Prop)(p r)(w:(∃d,r=.rt d)\/∃o,r=.rf o)(h:∀d∈items,∀b,I b->∃a,g d b=S a/\((p d=B/\s a=S r)\/(p d=G/\∃e,s a=S (.nx e)/\I e))):∀{b},I b->
  (items.any p=B/\Yp g s items b=S r)\/(items.any p=G/\∃c,I c/\Yp g s items b=S (.nx c)):=by
 induction items with
 |nil=>intro b k;exact .inr #[rfl,b,k,rfl]
 |cons d y n=>
  intro b k;let ja a l z:=h d wNa b k;rcases z with⟨m,f⟩|⟨m,e,f,t⟩
  ·refine .inl #[by rw[List.any_cons,m];rfl,?_];rw[Yx,l];show(s a).bind _=_;rw[f];rcases w with⟨d,rfl⟩|⟨o,rfl⟩<;>rfl
  ·rcases n (λx u=>h x (wMa _ u)) t with⟨i,j⟩|⟨i,c,j,v⟩
   ·refine .inl #[by rw[List.any_cons,i,Bool.or_true],?_];rw[Yx,l];show(s a).bind _=_;rw[f];exact j
   ·refine .inr #[by rw[List.any_cons,m,i];rfl,c,j,?_];rw[Yx,l];show(s a).bind _=_;rw[f];exact v
def dg{r:Rs}(I:Nat->jD->Prop)(Z:Nat->Rs->Prop)(h:∀i d c,a[i]?=S d->I i c->∃b,g d c=S b/\((∃j,s b=S (.nx j)/\I (i+1) j)\/∃e,s b=S (.rt e)/\Z i (.rt e))):∀{c},I 0 c->(∃f,Yp g s a c=S (.nx f)/\I a.length f)\/∃i e,i<a.length/\Yp g s a c=S (.rt e)/\Z i (.rt e):=by
 induction a generalizing I Z with
 |nil=>intro c n;exact .inl #[c,rfl,n]
 |cons d w v=>
  intro c n;let ja b o z:=h 0 d c rfl n;rcases z with⟨j,k,t⟩|⟨e,k,z⟩
  ·rcases v (λi=>I (i+1)) (λi=>Z (i+1)) (λi e c u m=>h (i+1) e c (by simpa using u) m) t with⟨f,l,p⟩|⟨i,e,m,l,z⟩
   ·exact .inl #[f,by rw[Yx,o];show(s b).bind _=_;rw[k];exact l,p]
   ·exact .inr #[i+1,e,by simpa using m,by rw[Yx,o];show(s b).bind _=_;rw[k];exact l,z]
  ·exact .inr #[0,e,by simp,by simp[Yx,o,k],z]
theorem JO(b f):∀{xs:L l},(∀x∈xs,∃a,g (b x) k=S a/\dc a=S B/\de a=S (f x))->JX g dc de (xs.map b) k=S (xs.map f)
 |[],_=>rfl
 |x::xs,h=>by
  let jw a e i d:=h x wNa;have j:=JO b f λy c=>h y (wMa _ c);simp[XW,e,i,d,j]
theorem Kk(b p f):∀{xs:L m},(∀x∈xs,∃a,g (b x) k=S a/\dc a=S (p x)/\de a=S (f x))->JX g dc de (xs.map b) k=S ((xs.filter p).map f)
 |[],_=>rfl
 |x::xs,h=>by
  let jw a e j i:=h x wNa;have d:=Kk b p f λy c=>h y (wMa _ c);cases l:p x<;>simp[XW,e,j,i,d,l]
theorem xJ(I:jD->Prop)(m:jD->Nat)(h:∀a,I a->dt a=S G\/(dt a=S B/\∃c,s a=S (.nx c)/\I c/\m c<m a)):∀{n a},I a->m a<n->∃b,uP dt s n a=S (.nx b)/\I b/\dt b=S G
 |0,a,_,d=>vDa d (Nat.not_lt_zero _)
 |n+1,a,f,d=>by
  rcases h a f with e|⟨e,c,j,l,o⟩
  ·exact#[a,by simp[kZ,e],f,e]
  ·let jw b k g i:=xJ I m h (n:=n) l (by omega);exact#[b,by simp[kZ,e,j,k],g,i]
abbrev t3(t:T3):D:=.tup [.int t.1,.int t.2.1,.int t.2.2]
structure Bk where
 size:Int
 kinds:L T3
 shuns:L T3
 bars:L T3
 dues:L T3
abbrev jy(b:Bk):D:=.tup [.int b.size,.lst (b.kinds.map t3),.lst (b.shuns.map t3),.lst (b.bars.map t3),.lst (b.dues.map t3)]
abbrev jC(C:Addr)(b:Bk):D:=.ins C ["size","kind_rows","shun_rows","bar_rows","due_rows"] [.int b.size,.tup (b.kinds.map t3),.tup (b.shuns.map t3),.tup (b.bars.map t3),.tup (b.dues.map t3)]
structure Sd where
 place:Int
 kind:Int
 len:Int
 before:Int
 waits:L Int
 met:L Bool
abbrev Jq(s:Sd):D:=.tup [.int s.place,.int s.kind,.int s.len,.int s.before,.tup (s.waits.map .int),.tup (s.met.map .bl)]
abbrev Ym(a:L T3)(k:Int):=a.getD k.toNat (0,0,0)
def UM(a:0<=k)(h:xs[k.toNat]?=S x):atI xs k=S x:=by
 have b:=(uSa h).1;unfold atI Gh;rw[if_pos a,if_pos (by omega)];exact h
def vk{xs:L c}{k:Int}(b:0<=k)(e:k<xs.length):atI (xs.map f) k=S (f (xs.getD k.toNat d)):=by
 have a:k.toNat<xs.length:=by omega
 refine UM b ?_;rw[uAa,uBa,uCa a];rfl
def vl(b:0<=k)(c:k<a.length):atI (a.map t3) k=S (t3 (Ym a k)):=vk b c
def BQ{n:Nat}{k:Int}(a:0<=k)(b:k<n):Gh n k=S k.toNat:=by unfold Gh;rw[if_pos a,if_pos b]
def zd{n:Nat}(h:n<=1000):n<=sizeLine:=wSa h Sq
def ya(h:n<=10000):n<sizeLine:=Nat.lt_of_le_of_lt h Sq
abbrev fK(t:T3):=decide (1<=t.1)&&(decide (t.1<=t.2.1)&&(decide (t.2.1<=4)&&(decide (0<=t.2.2)&&decide (t.2.2<=4))))
abbrev fS(m)(t:T3):=decide (0<=t.1)&&(decide (t.1<m)&&(decide (0<=t.2.1)&&(decide (t.2.1<m)&&(decide (1<=t.2.2)&&decide (t.2.2<=2)))))
abbrev fB(m s)(t:T3):=decide (0<=t.1)&&(decide (t.1<m)&&(decide (1<=t.2.1)&&(decide (t.2.1<=t.2.2)&&decide (t.2.2<=s))))
abbrev fC(s k h b d:Int):=decide (1<=s)&&(decide (s<=30)&&(decide (1<=k)&&(decide (k<=4)&&(decide (h<=20)&&(decide (b<=12)&&decide (d<=3))))))
abbrev fR(s)(k h b d:L T3):=k.all fK&&(h.all (fS k.length)&&(b++d).all (fB k.length s))
abbrev ax(b:Bk):=fC b.size b.kinds.length b.shuns.length b.bars.length b.dues.length&&fR b.size b.kinds b.shuns b.bars b.dues
abbrev KC(C:Addr)(b:Bk):OD:=.ins C ["size","kind_rows","shun_rows","bar_rows","due_rows"] [.int b.size,.tup (b.kinds.map t3),.tup (b.shuns.map t3),.tup (b.bars.map t3),.tup (b.dues.map t3)]
abbrev Ei:D->Y T3
 |.tup [.int x,.int y,.int z]=>S (x,y,z)
 |_=>J
abbrev KG:L D->Y (L T3)
 |[]=>S []
 |d::l=>(Ei d).bind λt=>(KG l).bind λa=>S (t::a)
def LM(t):Ei (t3 t)=S t:=rfl
theorem KH:∀a ,KG (a.map t3)=S a
 |[]=>rfl
 |t::a=>by rw[vWa,KG,LM,KH a];rfl
def LN(h:Ei d=S t):d=t3 t:=by
 cases d with
 |tup l=>
  rcases l with _|⟨a,_|⟨b,_|⟨c,_|⟨e,r⟩⟩⟩⟩<;>try exact Zn h
  all_goals(cases a<;>try exact Zn h)
  all_goals(cases b<;>try exact Zn h)
  all_goals(cases c<;>try cases h)
  rfl
 |_=>exact Zn h
theorem ay:∀{l a},KG l=S a->l=a.map t3
 |[],_,h=>by cases h;rfl
 |d::l,a,h=>by
  let ja t c h:=jd h;let ja r b h:=jd h;obtain rfl:=Zj h;rw[vWa,<-LN c,<-ay b]
abbrev gI:D->Y Int
 |.int s=>S s
 |_=>J
@[simp] theorem rL(i):gI (.int i)=S i:=rfl
abbrev gL:D->Y (L T3)
 |.lst l=>KG l
 |_=>J
@[simp] theorem rM(l):gL (.lst l)=KG l:=rfl
def nN(h:gI d=S s):d=.int s:=by
 cases d<;>cases h;rfl
def qY(h:gL d=S a):d=.lst (a.map t3):=by
 cases d with
 |lst l=>rw[ay h]
 |_=>exact Zn h
abbrev Ww(C:Addr):L D->Y OD
 |[s,k,h,b,d]=>(gI s).bind λs=>(gL k).bind λf=>(gL h).bind λa=>(gL b).bind λe=>(gL d).bind λc=>if ax #[s,f,a,e,c]=B then S (KC C #[s,f,a,e,c])else J
 |_=>J
def LO(h:Ww C c=S o):∃b ,ax b=B/\c=[.int b.size,.lst (b.kinds.map t3),.lst (b.shuns.map t3),.lst (b.bars.map t3),.lst (b.dues.map t3)]/\KC C b=o:=by
 rcases c with _|⟨s,_|⟨k,_|⟨v,_|⟨b,_|⟨d,_|⟨e,r⟩⟩⟩⟩⟩⟩<;>try exact Zn h
 let ja f n h:=jd h;let ja g j h:=jd h;let ja l t h:=jd h;let ja m u h:=jd h;let ja p i h:=jd h;by_cases a:ax #[f,g,l,m,p]=B
 ·rw[if_pos a]at h;rw[nN n,qY j,qY t,qY u,qY i];exact#[_,a,rfl,vFa h]
 ·rw[if_neg a]at h;exact Zn h
@[simp] theorem pY(s):jg (Jq s) (.int 0)=S (.int s.place):=rfl
@[simp] theorem pZ(s):jg (Jq s) (.int 1)=S (.int s.kind):=rfl
@[simp] theorem p_(s):jg (Jq s) (.int 2)=S (.int s.len):=rfl
@[simp] theorem P8(s):jg (Jq s) (.int 3)=S (.int s.before):=rfl
@[simp] theorem P9(s):jg (Jq s) (.int 4)=S (.tup (s.waits.map .int)):=rfl
@[simp] theorem Pb(s):jg (Jq s) (.int 5)=S (.tup (s.met.map .bl)):=rfl
@[simp] theorem rq(t):jg (t3 t) (.int 0)=S (.int t.1):=rfl
@[simp] theorem rs(t):jg (t3 t) (.int 1)=S (.int t.2.1):=rfl
@[simp] theorem rA(t):jg (t3 t) (.int 2)=S (.int t.2.2):=rfl
@[simp] theorem rB(b):jg (jy b) (.int 0)=S (.int b.size):=rfl
@[simp] theorem rC(b):jg (jy b) (.int 1)=S (.lst (b.kinds.map t3)):=rfl
@[simp] theorem rE(b):jg (jy b) (.int 2)=S (.lst (b.shuns.map t3)):=rfl
@[simp] theorem rF(b):jg (jy b) (.int 3)=S (.lst (b.bars.map t3)):=rfl
@[simp] theorem rG(b):jg (jy b) (.int 4)=S (.lst (b.dues.map t3)):=rfl
@[simp] theorem rH(t):uM (t3 t)=G:=rfl
@[simp] theorem Pc(s):uM (Jq s)=G:=rfl
end DS
namespace M
open DS
@[simp] noncomputable abbrev fV(n:Nat):Bool×DE:=(G,dV n)
@[simp] noncomputable abbrev tC(n:Nat):Bool×DE:=(B,dC n)
@[simp] noncomputable abbrev dN(i:Int):DE:=dK (.int i)
def Bn{o:Y b}{f:b->Y c}(e:o=S x)(h:f x=r):o.bind f=r:=by rw[e];exact h
def sq(h:b d=S (.nx a))(k:c a=r):jb b c d=r:=by rw[jb,h];exact k
def yu(h:b a=S (.rt d)):jb b c a=S (.rt d):=by rw[jb,h];rfl
def Pd(P:jD->Prop)(h:(∃d,c b=S (.rt d)/\r=S (.rt d))\/∃a,c b=S (.nx a)/\P a)(k:∀a,P a->f a=r):jb c f b=r:=by
 rcases h with⟨d,h,e⟩|⟨a,h,p⟩
 ·rw[e];exact yu h
 ·exact sq h (k a p)
def JG(h:t a=S B)(k:b a=r):jr t b c a=r:=by rw[jr,h];exact k
def jH(h:t a=S G)(k:b a=r):jr t c b a=r:=by rw[jr,h];exact k
def fE(h:b (Zv ks ds n)=S (.rt d)):Jo ks n b ds=S d:=by rw[Jo,h];rfl
end M
namespace M
open PySem L2 DS
abbrev JE(b:Bk):Sd:=#[0,-1,0,-1,List.replicate b.kinds.length 0,List.replicate b.dues.length G]
abbrev mx(i j:Int):=if j > i then j else i
abbrev KI(s:Sd)(k):=if s.kind=k then s.len+1 else 1
abbrev vY(b:Bk)(s:Sd)(k:Int):=(if s.kind=-1 then s.waits.map (λx=>mx (x-1) 0)else(s.waits.map (λx=>mx (x-1) 0)).set s.kind.toNat (mx ((Ym b.kinds s.kind).2.2-1) 0)).set k.toNat 0
abbrev Zx(k a)(t:T3):=decide (t.1=k)&&(decide (t.2.1<=a)&&decide (a<=t.2.2))
abbrev Z6(b:Bk)(s:Sd)(k):=List.zipWith (λt m=>m||Zx k (s.place+1) t) b.dues s.met
abbrev Zd(b:Bk)(s:Sd)(k:Int):Sd:=#[s.place+1,k,KI s k,s.kind,vY b s k,Z6 b s k]
abbrev vm(b:Bk)(s:Sd)(k):=b.bars.any (Zx k (s.place+1))
abbrev gK(b:Bk)(s:Sd)(k):=decide (s.kind=k)&&decide (s.len>=(Ym b.kinds k).2.1)
abbrev zA(b:Bk)(s:Sd)(k):=!(decide (s.kind=k)||decide (s.kind=-1))&&decide (s.len<(Ym b.kinds s.kind).1)
abbrev Ze(s:Sd)(k):=!decide (s.kind=k)&&!decide (s.waits.getD k.toNat 0=0)
abbrev uh(s:Sd)(k)(t:T3):=decide (t.2.1=k)&&decide ((if t.2.2=1 then s.kind else s.before)=t.1)
abbrev gM(b:Bk)(s k):=b.shuns.any (uh s k)
abbrev Wx(b s k):=(List.zip b.dues (Z6 b s k)).any λp=>decide (p.1.2.2=s.place+1)&&!p.2
abbrev Wy(b:Bk)(s k):=decide (s.place+1=b.size)&&decide (KI s k<(Ym b.kinds k).1)
abbrev Jt(b:Bk)(s:Sd)(k:Int):Y Str:=
 if vm b s k=B then S "barred" else if gK b s k=B then S "long" else if zA b s k=B then S "short" else if Ze s k=B then S "early" else if gM b s k=B then S "shun" else if Wx b s k=B then S "due" else if Wy b s k=B then S "cut" else J
abbrev J8(b:Bk):Sd->L Int->Sd×Y Str
 |s,[]=>(s,J)
 |s,k::r=>match Jt b s k with
  |S w=>(s,S w)
  |none=>J8 b (Zd b s k) r
abbrev zW(b s k):=if s.place>=b.size then J else if(Jt b s k).isSome=B then J else S (Zd b s k)
abbrev bg(b:Bk):Nat->Sd->Bool
 |0,s=>decide (s.place=b.size)
 |n+1,s=>if s.place=b.size then B else(List.range b.kinds.length).any λk=>match zW b s k with
  |S t=>bg b n t
  |none=>G
abbrev y_(b s):=bg b (b.size-s.place).toNat s
abbrev vL(m:Nat):Nat->L (L Int)
 |0=>[[]]
 |n+1=>[]::(vL m n).flatMap λr=>(List.range m).map λ(k:Nat)=>k::r
abbrev bi(b:Bool):Int:=if b then 1 else 0
abbrev uY(s:Sd):KD:=.t [.i s.place,.i s.kind,.i s.len,.i s.before,.t (s.waits.map .i),.t (s.met.map λx=>.i (bi x))]
abbrev Y5(b):=(vL b.kinds.length b.size.toNat).map λr=>(uY (J8 b (JE b) r).1,y_ b (J8 b (JE b) r).1)
abbrev BR:D->Y (L T3)
 |.tup l=>KG l
 |_=>J
abbrev bh:D->Y Bk
 |.ins _ _ [.int s,k,h,b,d]=>(BR k).bind λk=>(BR h).bind λh=>(BR b).bind λb=>(BR d).bind λd=>S #[s,k,h,b,d]
 |_=>J
abbrev Ej(d:D):L (KD×Bool):=match bh d with
 |S b=>Y5 b
 |none=>[]
end M
noncomputable section
namespace M
open PySem L2 DS CP
abbrev Zg:L Str:=["BadRules","NoKind","TooLong","BadName","Known","NoName","Many","Whole","SamePoet","Stuck","Turned","NoPlace","NothingLeft","Broken","Stranded"]
abbrev xK:L (Str×Str):=[("Broken","place"),("Broken","word"),("Stranded","name")]
noncomputable abbrev CH:Addr:=590
abbrev Zy:=(gN 6)
abbrev yU(C:Addr):=(jr (jv (d2 VS (dV 5) (dN 0))) (jb (vJ 2 (d2 jN (dV 5) (dN 1009)))
 (jx 5 (d2 YJ (dV 5) (dN 1009)))) jA)
abbrev YN:=(gN 4)
abbrev YO(C:Addr):=(jb (jx 3 (d2 jN (d2 jY (d2 jY (d2 Z3 (dV 3) (dN 48271)) (d2 jN (dV 4) (dN 1000003))) (dN 11)) (dN 2147483647)))
 (jb (jx 5 (d2 Z2 (dV 4) (d2 Qt (dN 10) (dN 18))))
 (jb (jr (jv (d2 vU (dV 5) (dN 0))) (vJ 2 (d2 jN (dV 4) (dN 9973))) jA)
 (Yg (zU (dN 60)) Zy (yU C)))))
abbrev yV(C:Addr):=(jv (d2 vU (jo Jv [(fV 2)]) (dV 1)))
abbrev Zz(C:Addr):=(jb (jx 3 (d2 jN (d2 jY (d2 jY (d2 jY (d2 Z3 (dV 3) (dV 3)) (d2 Z3 (dN 69621) (dV 3))) (d2 Z3 (dN 7) (jo Jv [(fV 2)]))) (dN 5)) (dN 2147483629)))
 (vJ 2 (d2 jN (d2 YJ (dV 3) (dN 1013)) (dN 9973))))
abbrev vn(C:Addr):=(jb (Zr 2 (jP []))
 (jb (jx 3 (dN 29))
 (jb (Yg (JH (dL (yb (dV 0) (λ_=>S J) (λρ=>((dN 63) ρ).bind yQ)))) YN (YO C))
 (jb (uP (yV C) (Zz C) 20000)
 (Yo (yb (dV 2) (λ_=>S J) (λρ=>((dV 1) ρ).bind yQ)))))))
abbrev vo(C:Addr):=VZ [G,G] 5 (vn C)
abbrev Gr:=(gN 5)
abbrev V7(C:Addr):=(jb (jx 6 (d2 jY (dN 1) (d2 jg (dL (jP [(B,(dN 0)),(B,(dN 0)),(B,(dN 1)),(B,(dN 0)),(B,(dN 2)),(B,(dN 0))])) (d2 jN (d2 jg (dV 0) (d2 jY (dN 2) (dV 5))) (dN 6)))))
 (vJ 4 (jQ [(tC 6),(B,(d2 jY (dV 6) (d2 jN (d2 jg (dV 0) (d2 jY (dN 6) (dV 5))) (d2 Z2 (dN 5) (dV 6))))),(B,(d2 Z3 (d2 jN (d2 jg (dV 0) (d2 jY (dN 10) (dV 5))) (dN 5)) (d2 jN (d2 YJ (d2 jg (dV 0) (d2 jY (dN 10) (dV 5))) (dN 5)) (dN 2))))])))
abbrev Uf(C:Addr):=(jb (jx 2 (d2 jY (dN 1) (d2 jN (d2 jg (dV 0) (dN 0)) (dN 4))))
 (jb (jx 3 (d2 jY (dN 1) (d2 jN (d2 jg (dV 0) (dN 1)) (dV 1))))
 (jb (Zr 4 (jP []))
 (jb (Yg (zU (dV 2)) Gr (V7 C))
 (jb (jx 7 (dL (jP [(B,(jQ [(B,(d2 jN (d2 jg (dV 0) (dN 14)) (dV 2))),(B,(d2 jN (d2 jg (dV 0) (dN 15)) (dV 2))),(B,(d2 jY (dN 1) (d2 jN (d2 jg (dV 0) (dN 16)) (dN 2))))])),(B,(jQ [(B,(d2 jN (d2 jg (dV 0) (dN 17)) (dV 2))),(B,(d2 jN (d2 jg (dV 0) (dN 18)) (dV 2))),(B,(dN 2))]))])))
 (jb (jx 8 (d2 jY (dN 1) (d2 jN (d2 jg (dV 0) (dN 19)) (dV 3))))
 (jb (jx 9 (d2 jY (dV 8) (d2 jN (d2 jg (dV 0) (dN 20)) (d2 jY (d2 Z2 (dV 3) (dV 8)) (dN 1)))))
 (jb (jx 10 (dL (jP [(B,(jQ [(B,(d2 jN (d2 jg (dV 0) (dN 21)) (dV 2))),(tC 8),(tC 9)]))])))
 (jb (jx 11 (dL (jP [(B,(jQ [(B,(d2 jN (d2 jg (dV 0) (dN 22)) (dV 2))),(B,(d2 jY (dN 1) (d2 jN (d2 jg (dV 0) (dN 23)) (dV 3)))),(tC 3)]))])))
 (vV 4 (ju (jQ [(tC 3),(tC 4),(B,(dL (yb (dV 7) (λ_=>S J) (λρ=>((d2 jN (d2 jN (d2 jg (dV 0) (dN 24)) (dN 4)) (dN 3)) ρ).bind yQ)))),(B,(dL (yb (dV 10) (λ_=>S J) (λρ=>((d2 jN (d2 jg (dV 0) (dN 25)) (dN 2)) ρ).bind yQ)))),(B,(dL (yb (dV 11) (λ_=>S J) (λρ=>((d2 jN (d2 jg (dV 0) (dN 26)) (dN 2)) ρ).bind yQ))))]))))))))))))
abbrev Ug(C:Addr):=Jo [G,G] 10 (Uf C)
abbrev zB(C:Addr):=(jb (Y3 (jo (Ug C) [(fV 0),(fV 1)]) (gT 5 (gC (gN 2) (gC (gN 3) (gC (gN 4) (gC (gN 5) (gC (gN 6) gZ)))))))
 (jb (jx 7 (jQ [(tC 2),(tC 3),(tC 4),(tC 5),(tC 6)]))
 (jb (jx 8 (jo (Ug C) [(G,(dL (yb (dV 0) (λρ=>((dN 60) ρ).bind yQ) (λ_=>S J)))),(fV 1)]))
 (jb (jr (jv (d2 jX (d2 jN (d2 jg (dV 0) (dN 120)) (dN 3)) (dN 1))) (jx 8 (jQ [(tC 2),(tC 3),(B,(dL (Yb yp (dV 4) (dL (jP [(B,(jQ [(B,(dN 0)),(B,(d2 jN (d2 jg (dV 0) (dN 121)) (jo Jv [(fV 3)]))),(B,(d2 jY (dN 1) (d2 jN (d2 jg (dV 0) (dN 122)) (dN 2))))]))]))))),(tC 5),(tC 6)])) jA)
 (jb (jr (jv (d2 jX (d2 jN (d2 jg (dV 0) (dN 120)) (dN 3)) (dN 2))) (jx 8 (jQ [(tC 2),(tC 3),(B,(dL (yb (dV 4) (λρ=>((dN 1) ρ).bind yQ) (λ_=>S J)))),(B,(dL (yb (dV 5) (λρ=>((dN 1) ρ).bind yQ) (λ_=>S J)))),(B,(dL (Yb yp (dL (yb (dV 6) (λ_=>S J) (λρ=>((dN 2) ρ).bind yQ))) (dL (jP [(B,(jQ [(B,(dN 0)),(B,(dN 1)),(tC 2)]))])))))])) jA)
 (jb (jx 9 (jQ [(B,(d2 jY (dV 2) (dN 1))),(tC 3),(tC 4),(tC 5),(tC 6)]))
 (jb (jr (jv (d2 jX (d2 jN (d2 jg (dV 0) (dN 130)) (dN 4)) (dN 3))) (jx 9 (jQ [(tC 2),(B,(dL (Yb yp (dV 3) (dL (yb (dL (jP [(B,(jQ [(B,(dN 1)),(B,(dN 4)),(B,(dN 0))]))])) (λ_=>S J) (λρ=>((d2 Z2 (dN 4) (jo Jv [(fV 3)])) ρ).bind yQ)))))),(B,(dL (jP []))),(B,(dL (jP []))),(tC 6)])) jA)
 (Yo (jP [(tC 7),(tC 8),(tC 9)])))))))))
abbrev ki(C:Addr):=VZ [G,G] 8 (zB C)
abbrev V8(C:Addr):=(jb (jr (Ye (JQ (jv (JA yc yc (dN 1) (dV 0) (dN 30)))) (JQ (jv (JA yc yc (dN 1) (jo Jv [(fV 1)]) (dN 4))))) Se jA)
 (ju (zi (d2 yc (jo Jv [(fV 2)]) (dN 20)) (zi (d2 yc (jo Jv [(fV 3)]) (dN 12)) (d2 yc (jo Jv [(fV 4)]) (dN 3))))))
abbrev V9(C:Addr):=Jo [G,G,G,G,G] 0 (V8 C)
abbrev Uh(C:Addr):=(jb (jr (jv (d2 Ju (jo Jv [(fV 0)]) (dN 3))) Se jA)
 (jb (Y3 (dC 0) (gT 3 (gC (gN 1) (gC (gN 2) (gC (gN 3) gZ)))))
 (ju (zi (kY yc yc yc (dN 1) (dV 1) (dV 2) (dN 4)) (JA yc yc (dN 0) (dV 3) (dN 4))))))
abbrev vM(C:Addr):=Jo [B] 3 (Uh C)
abbrev Ui(C:Addr):=(jb (jr (jv (d2 Ju (jo Jv [(fV 0)]) (dN 3))) Se jA)
 (jb (Y3 (dC 0) (gT 3 (gC (gN 2) (gC (gN 3) (gC (gN 4) gZ)))))
 (ju (zi (JA yc vU (dN 0) (dV 2) (dV 1)) (zi (JA yc vU (dN 0) (dV 3) (dV 1)) (JA yc yc (dN 1) (dV 4) (dN 2)))))))
abbrev vO(C:Addr):=Jo [B,G] 3 (Ui C)
abbrev Uj(C:Addr):=(jb (jr (jv (d2 Ju (jo Jv [(fV 0)]) (dN 3))) Se jA)
 (jb (Y3 (dC 0) (gT 3 (gC (gN 3) (gC (gN 4) (gC (gN 5) gZ)))))
 (ju (zi (JA yc vU (dN 0) (dV 3) (dV 1)) (kY yc yc yc (dN 1) (dV 4) (dV 5) (dV 2))))))
abbrev vP(C:Addr):=Jo [B,G,G] 3 (Uj C)
abbrev Uk(C:Addr):=(jb (jx 5 (jo Jv [(fV 1)]))
 (jb (jr (JQ (JJ (jo Ud [(G,(dL (yK 1 [] (JH (dP 1)) (gN 0) Jc (jo (vM C) [(tC 0)]))))]))) Se jA)
 (jb (jr (JQ (JJ (jo Ud [(G,(dL (yK 1 [5] (JH (dP 2)) (gN 0) Jc (jo (vO C) [(tC 0),(fV 1)]))))]))) Se jA)
 (ju (jo Ud [(G,(dL (yK 1 [5,0] (JH (dL (Yb yp (dV 3) (dV 4)))) (gN 0) Jc (jo (vP C) [(tC 0),(fV 1),(fV 2)]))))])))))
abbrev Ul(C:Addr):=Jo [G,G,G,G,G] 1 (Uk C)
abbrev YQ(C:Addr):=(jb (jr (JQ (JJ (jo (V9 C) [(fV 1),(fV 2),(fV 3),(fV 4),(fV 5)]))) JD jA)
 (jb (jr (JQ (JJ (jo (Ul C) [(fV 1),(fV 2),(fV 3),(fV 4),(fV 5)]))) JD jA)
 (jb (uQ 0 C "size" (dC 1))
 (jb (uQ 0 C "kind_rows" (jo ZL [(fV 2)]))
 (jb (uQ 0 C "shun_rows" (jo ZL [(fV 3)]))
 (jb (uQ 0 C "bar_rows" (jo ZL [(fV 4)]))
 (uQ 0 C "due_rows" (jo ZL [(fV 5)]))))))))
abbrev Yr(C:Addr):=Bg C [B,G,G,G,G] 0 (YQ C)
abbrev yW(C:Addr):=DS.Ww C
abbrev Um(C:Addr):=(Yo (Ay (yW C) [(B,(d2 jg (dV 0) (dN 0))),(G,(dL (Jg Yc [(G,(d2 jg (dV 0) (dN 1)))]))),(G,(dL (Jg Yc [(G,(d2 jg (dV 0) (dN 2)))]))),(G,(dL (Jg Yc [(G,(d2 jg (dV 0) (dN 3)))]))),(G,(dL (Jg Yc [(G,(d2 jg (dV 0) (dN 4)))])))]))
abbrev ze(C:Addr):=VZ [G] 0 (Um C)
abbrev Kl(C:Addr):=(jb (jx 1 (dK (.str "abcdefghijklmnopqrstuvwxyz")))
 (jb (jx 2 (d2 jY (dN 1) (d2 jN (dV 0) (dN 8))))
 (ju (d2 qW (dK (.str "")) (dL (yK 1 [1,0] (zU (dV 2)) (gN 0) Jc (d2 vi (dV 1) (d2 jN (d2 jY (d2 YJ (dV 2) (dN 8)) (d2 Z3 (dV 0) (d2 jN (d2 YJ (dV 2) (dN 64)) (dN 3)))) (dN 26)))))))))
abbrev ye(C:Addr):=Jo [G] 2 (Kl C)
abbrev yx(C:Addr):=(jb (jx 1 (dL (Yb yp (dL (yK 1 [0] (zU (dN 8)) (gN 0) Jc (jo (ye C) [(G,(d2 jg (dV 1) (dV 0)))]))) (dL (jP [(B,(jo (ye C) [(G,(d2 jY (d2 jg (dV 0) (dN 0)) (dN 11)))])),(B,(jo (ye C) [(G,(d2 jY (d2 jg (dV 0) (dN 1)) (dN 13)))]))])))))
 (jb (jr (jv (d2 jX (d2 jN (d2 jg (dV 0) (dN 9)) (dN 3)) (dN 1))) (jx 1 (dL (yK 1 [1] (zU (dN 10)) (gN 0) Jc (d2 jY (K5 S3 (λ_=>S J) (λρ=>((dN 7) ρ).bind yQ)) (d2 vi (dK (.str "abcdefghyz")) (dV 0)))))) jA)
 (Yo (Yb yp (dL (Yb yp (dL (yb (dV 1) (λ_=>S J) (λρ=>((dN 8) ρ).bind yQ))) (dL (jP [(B,(d2 jg (dL (jP [(B,(dK (.str ""))),(B,(dK (.str "abcdefghi"))),(B,(dK (.str "Ab"))),(B,(dK (.str "a b"))),(B,(dK (.str "a1")))])) (d2 jN (d2 jg (dV 0) (dN 8)) (dN 5))))])))) (dL (yb (dV 1) (λρ=>((dN 8) ρ).bind yQ) (λ_=>S J)))))))
abbrev kj(C:Addr):=VZ [G] 1 (yx C)
abbrev YR(C:Addr):=(jb (K0 0 CH "opened" (dC 1))
 (jb (K0 0 CH "now" (jQ [(tC 1),(B,(AX Ej 1)),(B,(dL qU))]))
 (jb (K3 0 CH "done" (jP []))
 (K3 0 CH "undone" (jP [])))))
abbrev ui(C:Addr):HS->L D->Y (Rx×HS):=ZD [B] 0 (YR C)
abbrev Zh(C:Addr):=(jb (Y3 (dC 1) (gT 2 (gC (gN 5) (gC (gN 6) gZ))))
 (jb (jx 7 (dL (Jg zw [(fV 6)])))
 (jb (jx 8 (d2 jg (dV 2) (d2 jN (d2 jg (dV 3) (dN 1)) (dN 5))))
 (jb (jr (Jr (jv (d2 Ju (dV 7) (dL (jP [])))) (jv (d2 VS (d2 jN (d2 YJ (d2 jg (dV 3) (dN 1)) (dN 5)) (dN 5)) (dN 0)))) (jx 8 (d2 jg (dV 7) (d2 jN (d2 YJ (d2 jg (dV 3) (dN 1)) (dN 25)) (jo Jv [(fV 7)])))) jA)
 (jb (jx 9 (jo Jv [(G,(d2 jg (d2 jg (dV 0) (dV 5)) (dN 1)))]))
 (jb (jx 10 (d2 jN (d2 jg (dV 3) (dN 3)) (dV 9)))
 (jb (jr (jv (d2 jX (d2 jN (d2 YJ (d2 jg (dV 3) (dN 3)) (dN 5)) (dN 9)) (dN 8))) (jx 10 (d2 jg (dL (jP [(B,(V2 (dN 1))),(tC 9),(B,(d2 Qt (dN 10) (dN 20)))])) (d2 jN (d2 jg (dV 3) (dN 4)) (dN 3)))) jA)
 (jb (jx 11 (d2 jg (dV 4) (d2 jN (d2 jg (dV 3) (dN 0)) (jo Jv [(fV 4)]))))
 (jb (jr (Jr (jv (d2 jX (dV 7) (dL (jP [])))) (jv (d2 VS (d2 jN (d2 jg (dV 3) (dN 4)) (dN 4)) (dN 0)))) (jx 11 (dK (.str "begin"))) jA)
 (jb (jr (jv (d2 (Zb G) (dV 11) (dL (jP [(B,(dK (.str "begin"))),(B,(dK (.str "take"))),(B,(dK (.str "turn"))),(B,(dK (.str "drop")))])))) (jb (jr (Jr (jv (d2 jX (dV 11) (dK (.str "begin")))) (jv (d2 VS (d2 jN (d2 jg (dV 3) (dN 2)) (dN 3)) (dN 0)))) (jx 8 (d2 jg (dV 2) (d2 jN (d2 YJ (d2 jg (dV 3) (dN 2)) (dN 3)) (dN 11)))) jA)
 (ju (jQ [(tC 11),(tC 8)]))) jA)
 (jb (jr (jv (d2 jX (dV 11) (dK (.str "offer")))) (ju (jQ [(tC 11),(tC 8),(B,(d2 jg (dV 2) (d2 jY (dN 5) (d2 jN (d2 jN (d2 jg (dV 3) (dN 2)) (dN 13)) (dN 4))))),(tC 10)])) jA)
 (jb (jr (jv (d2 jX (dV 11) (dK (.str "amend")))) JD jA)
 (jb (jr (jv (d2 jX (dV 11) (dK (.str "fork")))) (ju (jQ [(tC 11),(tC 8),(B,(d2 jg (dV 2) (d2 jN (d2 jg (dV 3) (dN 2)) (dN 11))))])) jA)
 JD)))))))))))))
abbrev Uo(C:Addr):=Jo [G,B,G,G,G] 8 (Zh C)
abbrev gO(C:Addr):=(ju (Qy (qM (JA yc yc (dN 1) (jo wD [(fV 0)]) (dN 8))) (qM (jo Ud [(G,(dL (yK 1 [] (AV (dP 0)) (gN 0) Jc (d2 Wp (dV 0) (dK (.str "abcdefghijklmnopqrstuvwxyz"))))))]))))
abbrev Vx(C:Addr):=Jo [G] 0 (gO C)
abbrev gP(C:Addr):=(jb (jr (JJ (jo (Vx C) [(fV 1)])) (ju (dK (.str "BadName"))) jA)
 (jb (jr (jv (d2 (ZP G) (dV 1) (dV 0))) (ju (dK (.str "Known"))) jA)
 (ju (Qz (jv (d2 VS (jo Vt [(fV 0)]) (dN 7))) (dK (.str "Many")) (dK (.str ""))))))
abbrev gQ(C:Addr):=Jo [G,G] 0 (gP C)
abbrev Yy(C:Addr):=(Jr (jv (d2 yc (dV 2) (dV 1))) (jv (d2 jX (d2 jg (dV 0) (d2 Z2 (dV 1) (dV 2))) (d2 jg (dV 0) (dV 1)))))
abbrev uj(C:Addr):=(AA 2 (λi j=>i+j) (dN 1))
abbrev gR(C:Addr):=(jb (jx 2 (dN 1))
 (jb (uP (Yy C) (uj C) 20000)
 (ju (dC 2))))
abbrev ZT(C:Addr):=Jo [G,G] 1 (gR C)
abbrev zf:=(gT 3 (gC (gN 7) (gC (gN 8) (gC (gN 9) gZ))))
abbrev Y0(C:Addr):=(jr (Jr (jv (d2 jX (dV 8) (dV 3))) (Jr (jv (d2 Qu (dV 2) (dV 9))) (jv (d2 jX (d2 jg (dV 1) (d2 Z2 (dV 2) (dV 9))) (dV 7))))) (ju (dK (.str "shun"))) jA)
abbrev Vo(C:Addr):=(jb (jx 3 (d2 jg (dV 1) (dV 2)))
 (jb (jx 4 (jo (ZT C) [(fV 1),(fV 2)]))
 (jb (jr (jv (d2 VS (dV 4) (d2 jg (d2 jg (d2 jg (dV 0) (dN 1)) (dV 3)) (dN 1)))) (ju (dK (.str "long"))) jA)
 (jb (jr (Jr (jv (d2 VS (dV 2) (dN 0))) (jv (d2 jX (dV 4) (dN 1)))) (jb (jx 5 (d2 jg (d2 jg (dV 0) (dN 1)) (d2 jg (dV 1) (d2 Z2 (dV 2) (dN 1)))))
 (jr (jv (d2 vU (jo (ZT C) [(fV 1),(G,(d2 Z2 (dV 2) (dN 1)))]) (d2 jg (dV 5) (dN 0)))) (ju (dK (.str "short"))) jA)) jA)
 (jb (jr (jv (d2 jX (dV 4) (dN 1))) (jb (jx 6 (jo Uc [(G,(dN 0)),(G,(d2 Z2 (dV 2) (d2 jg (d2 jg (d2 jg (dV 0) (dN 1)) (dV 3)) (dN 2))))]))
 (jr (jv (d2 (Zb G) (dV 3) (dL (yb (dV 1) (λρ=>((dV 6) ρ).bind yQ) (λρ=>((dV 2) ρ).bind yQ))))) (ju (dK (.str "early"))) jA)) jA)
 (jb (Yg (JH (d2 jg (dV 0) (dN 2))) zf (Y0 C))
 (ju (dK .non))))))))
abbrev Vp(C:Addr):=Jo [G,G,G] 7 (Vo C)
abbrev UN:=(gN 4)
abbrev vp(C:Addr):=(jr (Jr (jv (d2 jX (d2 jg (dV 4) (dN 0)) (dV 3))) (jv (JA yc yc (d2 jg (dV 4) (dN 1)) (d2 jY (dV 2) (dN 1)) (d2 jg (dV 4) (dN 2))))) (ju (dK (.str "barred"))) jA)
abbrev UO:=(gN 6)
abbrev vq(C:Addr):=(jr (Jr (jv (d2 jX (d2 jg (dV 6) (dN 2)) (d2 jY (dV 2) (dN 1)))) (jv (d2 (Zb B) (d2 jg (dV 6) (dN 0)) (dL (yb (dV 1) (λρ=>((d2 Z2 (d2 jg (dV 6) (dN 1)) (dN 1)) ρ).bind yQ) (λρ=>((d2 jY (dV 2) (dN 1)) ρ).bind yQ)))))) (ju (dK (.str "due"))) jA)
abbrev kl(C:Addr):=(jb (jx 3 (d2 jg (dV 1) (dV 2)))
 (jb (Yg (JH (d2 jg (dV 0) (dN 3))) UN (vp C))
 (jb (jx 5 (jo (Vp C) [(fV 0),(fV 1),(fV 2)]))
 (jb (jr (jv (d2 zS (dV 5) (dK .non))) (ju (dC 5)) jA)
 (jb (Yg (JH (d2 jg (dV 0) (dN 4))) UO (vq C))
 (jb (jr (Jr (jv (d2 jX (d2 jY (dV 2) (dN 1)) (d2 jg (dV 0) (dN 0)))) (jv (d2 vU (jo (ZT C) [(fV 1),(fV 2)]) (d2 jg (d2 jg (d2 jg (dV 0) (dN 1)) (dV 3)) (dN 0))))) (ju (dK (.str "cut"))) jA)
 (ju (dK .non))))))))
abbrev ZU(C:Addr):=Jo [G,G,G] 4 (kl C)
abbrev uZ:=(gN 2)
abbrev ZV(C:Addr):=(jb (jx 3 (jo (ZU C) [(fV 0),(fV 1),(fV 2)]))
 (jr (jv (d2 zS (dV 3) (dK .non))) (ju (jQ [(B,(d2 jY (dV 2) (dN 1))),(tC 3)])) jA))
abbrev Va(C:Addr):=(jb (Yg (zU (jo Jv [(fV 1)])) uZ (ZV C))
 (ju (dK .non)))
abbrev Zl(C:Addr):=Jo [G,G] 2 (Va C)
abbrev vr:=(gN 2)
abbrev Yz(C:Addr):=(jr (jv (d2 Ku (jo (ZU C) [(fV 0),(G,(dL (Yb yp (dV 4) (dL (jP [(tC 2)]))))),(G,(jo Jv [(fV 4)]))]) (dK .non))) (vJ 3 (dL (Yb yp (dV 4) (dL (jP [(tC 2)]))))) jA)
abbrev YA(C:Addr):=(jv (d2 Ju (dV 3) (dL (jP []))))
abbrev YB(C:Addr):=(jb (xa 3 4)
 (jb (jr (jv (d2 jX (jo Jv [(fV 4)]) (d2 jg (dV 0) (dN 0)))) (ju (dK (.bl B))) jA)
 (Yg (zU (jo Jv [(G,(d2 jg (dV 0) (dN 1)))])) vr (Yz C))))
abbrev uk(C:Addr):=(jb (jr (Ye (jv (d2 VS (jo Jv [(fV 1)]) (d2 jg (dV 0) (dN 0)))) (jv (d2 Ju (dL (yK 1 [0] (JH (dP 1)) (gN 0) (JQ (jv (JA yc vU (dN 0) (dV 0) (jo Jv [(G,(d2 jg (dV 1) (dN 1)))])))) (dC 0))) (dL (jP []))))) Se jA)
 (jb (jr (jv (d2 zS (jo (Zl C) [(fV 0),(fV 1)]) (dK .non))) Se jA)
 (jb (Zr 3 (jP [(B,(dL (Jg Yc [(fV 1)])))]))
 (jb (uP (YA C) (YB C) 20000)
 Se))))
abbrev ul(C:Addr):=Jo [G,G] 3 (uk C)
abbrev zC(C:Addr):=(jb (jr (JQ (jv (JA yc vU (dN 0) (dV 2) (jo Jv [(G,(d2 jg (dV 0) (dN 1)))])))) (ju (jQ [(B,(dK (.str "NoKind"))),(B,(dK .non))])) jA)
 (jb (jx 3 (jo (Zl C) [(fV 0),(fV 1)]))
 (jb (jr (jv (d2 zS (dV 3) (dK .non))) (ju (jQ [(B,(dK (.str "Broken"))),(tC 3)])) jA)
 (ju (Qz (JJ (jo (ul C) [(fV 0),(fV 1)])) (jQ [(B,(dK (.str ""))),(B,(dK .non))]) (jQ [(B,(dK (.str "Stuck"))),(B,(dK .non))]))))))
abbrev vZ(C:Addr):=Jo [G,G,G] 1 (zC C)
abbrev um(C:Addr):=(Yo (yK 2 [] (JH (dP 0)) (gT 2 (gC (gN 0) (gC (gN 1) gZ))) Jc (dC 1)))
abbrev uo(C:Addr):=VZ [G] 0 (um C)
abbrev vt(C:Addr):=(jb (jr (JJ (jo (Vx C) [(G,(d2 jg (dV 2) (dN 2)))])) (ju (jQ [(B,(dK (.str "BadName"))),(B,(dK .non))])) jA)
 (jb (jr (jv (d2 Qu (jo Jv [(fV 1)]) (d2 jg (dV 0) (dN 0)))) (ju (jQ [(B,(dK (.str "Whole"))),(B,(dK .non))])) jA)
 (jb (jr (Jr (jv (d2 Ju (dV 1) (dL (jP [])))) (jv (d2 jX (d2 jg (d2 jg (dV 1) (V2 (dN 1))) (dN 0)) (d2 jg (dV 2) (dN 2))))) (ju (jQ [(B,(dK (.str "SamePoet"))),(B,(dK .non))])) jA)
 (ju (jo (vZ C) [(fV 0),(G,(dL (Yb yp (dL (Jg (uo C) [(fV 1)])) (dL (jP [(B,(d2 jg (dV 2) (dN 3)))]))))),(G,(d2 jg (dV 2) (dN 3)))])))))
abbrev UP(C:Addr):=Jo [G,G,G] 0 (vt C)
abbrev vz(C:Addr):=(jb (Y3 (dC 1) (gT 2 (gC (gN 3) (gC (gN 4) gZ))))
 (jb (jx 5 (d2 jg (dV 2) (dN 0)))
 (jb (jr (jv (d2 jX (dV 5) (dK (.str "change")))) JD jA)
 (jb (jr (jv (d2 jX (dV 5) (dK (.str "begin")))) (jb (jx 6 (jo (gQ C) [(fV 4),(G,(d2 jg (dV 2) (dN 1)))]))
 (jb (jr (Jr (jv (d2 jX (dV 6) (dK (.str "")))) (JQ (JJ (jo (ul C) [(G,(d2 jg (dV 0) (dV 3))),(G,(dL (jP [])))])))) (jx 6 (dK (.str "Stuck"))) jA)
 (ju (jQ [(tC 6),(B,(dK .non))])))) jA)
 (jb (jr (jv (d2 (ZP B) (d2 jg (dV 2) (dN 1)) (dV 4))) (ju (jQ [(B,(dK (.str "NoName"))),(B,(dK .non))])) jA)
 (jb (Y3 (d2 yB (dV 4) (d2 jg (dV 2) (dN 1))) (gT 2 (gC (gN 7) (gC (gN 8) gZ))))
 (jb (jr (jv (d2 jX (dV 5) (dK (.str "offer")))) (ju (jo (UP C) [(G,(d2 jg (dV 0) (dV 3))),(fV 7),(fV 2)])) jA)
 (jb (jr (jv (d2 jX (dV 5) (dK (.str "amend")))) JD jA)
 (jb (jr (jv (d2 jX (dV 5) (dK (.str "fork")))) (ju (jQ [(B,(jo (gQ C) [(fV 4),(G,(d2 jg (dV 2) (dN 2)))])),(B,(dK .non))])) jA)
 (jb (jr (Jr (jv (d2 (Zb G) (dV 5) (dL (jP [(B,(dK (.str "take"))),(B,(dK (.str "turn")))])))) (jv (d2 yc (jo Jv [(fV 7)]) (dV 8)))) (ju (jQ [(B,(dK (.str "Turned"))),(B,(dK .non))])) jA)
 (ju (jQ [(B,(dK (.str ""))),(B,(dK .non))]))))))))))))
abbrev UR(C:Addr):=Jo [G,B,B] 6 (vz C)
abbrev uq(C:Addr):=(jr (Ye (JQ (jv (JA yc yc (dN 1) (jo wD [(fV 0)]) (dN 8)))) (JQ (JJ (jo Ud [(G,(dL (yK 1 [] (AV (dP 0)) (gN 0) Jc (JA ud ud (dK (.str "a")) (dV 0) (dK (.str "z"))))))])))) (GW "BadName") jA)
abbrev ZW(C:Addr):=uc [G] 0 (uq C)
abbrev Z7(C:Addr):=(jb (Z0 (gv (ZW C) [(fV 1)]) λ_ ρ=>S (.nx ρ))
 (jb (jr (jv (d2 (ZP G) (dV 1) (d2 jg (d1 (Ja CH "now") (dV 0)) (dN 2)))) (GW "Known") jA)
 (jr (jv (d2 Qu (jo Vt [(G,(d2 jg (d1 (Ja CH "now") (dV 0)) (dN 2)))]) (dN 8))) (GW "Many") jA)))
abbrev yk(C:Addr):=uc [G,G] 0 (Z7 C)
abbrev ur(C:Addr):=(ju (jo Jv [(G,(d1 (Ja C "kind_rows") (dV 0)))]))
abbrev YC(C:Addr):=Jo [G] 0 (ur C)
abbrev km(C:Addr):=(ju (JA yc vU (dN 0) (dV 1) (d1 (uO C "many" (YC C)) (dV 0))))
abbrev u_(C:Addr):=Jo [G,G] 0 (km C)
abbrev Z8(C:Addr):=(ju (jo Ud [(G,(dL (yK 1 [0] (JH (dP 1)) (gN 0) Jc (jo (u_ C) [(fV 1),(fV 0)]))))]))
abbrev Ys(C:Addr):=Jo [G,G] 0 (Z8 C)
abbrev Up(C:Addr):=(jb (jr (JQ (JJ (jo (Ys C) [(fV 0),(fV 1)]))) (GW "NoKind") jA)
 (jr (jv (d2 VS (jo Jv [(fV 1)]) (d1 (Ja C "size") (dV 0)))) (GW "TooLong") jA))
abbrev Uq(C:Addr):=uc [G,G] 0 (Up C)
abbrev Vb(C:Addr):=(jb (jx 1 (d2 Z3 (jQ [(B,(dN 0))]) (d1 (uO C "many" (YC C)) (dV 0))))
 (jb (jx 2 (d2 Z3 (jQ [(B,(dK (.bl G)))]) (jo Jv [(G,(d1 (Ja C "due_rows") (dV 0)))])))
 (ju (jQ [(B,(dN 0)),(B,(V2 (dN 1))),(B,(dN 0)),(B,(V2 (dN 1))),(tC 1),(tC 2)]))))
abbrev Vc(C:Addr):=Jo [G] 2 (Vb C)
abbrev Gs:=(gT 3 (gC (gN 4) (gC (gN 5) (gC (gN 6) gZ))))
abbrev Gv(C:Addr):=(jr (Jr (jv (d2 jX (dV 4) (dV 2))) (jv (JA yc yc (dV 5) (dV 3) (dV 6)))) (ju (dK (.bl B))) jA)
abbrev Km(C:Addr):=(jb (jx 3 (d2 jY S3 (dN 1)))
 (jb (Yg (JH (d1 (Ja C "bar_rows") (dV 0))) Gs (Gv C))
 Se))
abbrev Kn(C:Addr):=Jo [G,G,G] 4 (Km C)
abbrev ko(C:Addr):=(ju (zi (d2 jX (d2 jg (dV 1) (dN 1)) (dV 2)) (d2 Qu (d2 jg (dV 1) (dN 2)) (d2 jg (d2 jg (d1 (Ja C "kind_rows") (dV 0)) (dV 2)) (dN 1)))))
abbrev kq(C:Addr):=Jo [G,G,G] 0 (ko C)
abbrev gS(C:Addr):=(jb (jx 3 (d2 jg (dV 1) (dN 1)))
 (jb (jr (Ye (jv (d2 jX (dV 3) (dV 2))) (jv (d2 jX (dV 3) (V2 (dN 1))))) Se jA)
 (ju (d2 vU (d2 jg (dV 1) (dN 2)) (d2 jg (d2 jg (d1 (Ja C "kind_rows") (dV 0)) (dV 3)) (dN 0))))))
abbrev gU(C:Addr):=Jo [G,G,G] 1 (gS C)
abbrev gV(C:Addr):=(ju (zi (d2 Ju (d2 jg (dV 0) (dN 1)) (dV 1)) (d2 Ju (d2 jg (d2 jg (dV 0) (dN 4)) (dV 1)) (dN 0))))
abbrev gW(C:Addr):=Jo [G,G] 0 (gV C)
abbrev US:=(gT 3 (gC (gN 3) (gC (gN 4) (gC (gN 5) gZ))))
abbrev vA(C:Addr):=(jb (jx 6 (Qz (jv (d2 jX (dV 5) (dN 1))) (d2 jg (dV 1) (dN 1)) (d2 jg (dV 1) (dN 3))))
 (jr (Jr (jv (d2 jX (dV 4) (dV 2))) (jv (d2 jX (dV 6) (dV 3)))) (ju (dK (.bl B))) jA))
abbrev kr(C:Addr):=(jb (Yg (JH (d1 (Ja C "shun_rows") (dV 0))) US (vA C))
 Se)
abbrev kt(C:Addr):=Jo [G,G,G] 4 (kr C)
abbrev ku:=(gT 2 (gC (gN 5) (gC (gN 6) gZ)))
abbrev ut(C:Addr):=(jb (Y3 (dC 5) (gT 3 (gC (gN 7) (gC (gN 8) (gC (gN 9) gZ)))))
 (vJ 4 (Qy (dV 6) (zi (d2 jX (dV 7) (dV 2)) (JA yc yc (dV 8) (dV 3) (dV 9))))))
abbrev gX(C:Addr):=(jb (jx 3 (d2 jY S3 (dN 1)))
 (jb (Zr 4 (jP []))
 (jb (Yg (QC (d1 (Ja C "due_rows") (dV 0)) (d2 jg (dV 1) (dN 5))) ku (ut C))
 (ju (jo ZL [(fV 4)])))))
abbrev Vy(C:Addr):=Jo [G,G,G] 7 (gX C)
abbrev UT:=(gT 2 (gC (gN 4) (gC (gN 5) gZ)))
abbrev UU(C:Addr):=(jr (Jr (jv (d2 jX (d2 jg (dV 4) (dN 2)) (dV 3))) (JQ (JJ (dV 5)))) (ju (dK (.bl B))) jA)
abbrev kw(C:Addr):=(jb (jx 3 (d2 jY S3 (dN 1)))
 (jb (Yg (QC (d1 (Ja C "due_rows") (dV 0)) (jo (Vy C) [(fV 0),(fV 1),(fV 2)])) UT (UU C))
 Se))
abbrev kz(C:Addr):=Jo [G,G,G] 3 (kw C)
abbrev gY(C:Addr):=(jb (jr (jv (d2 jX (d2 jg (dV 0) (dN 1)) (dV 1))) (ju (d2 jY (d2 jg (dV 0) (dN 2)) (dN 1))) jA)
 (ju (dN 1)))
abbrev Vz(C:Addr):=Jo [G,G] 0 (gY C)
abbrev KJ(C:Addr):=(jb (jr (jv (d2 Ju (d2 jY S3 (dN 1)) (d1 (Ja C "size") (dV 0)))) Se jA)
 (ju (d2 vU (jo (Vz C) [(fV 1),(fV 2)]) (d2 jg (d2 jg (d1 (Ja C "kind_rows") (dV 0)) (dV 2)) (dN 0)))))
abbrev KK(C:Addr):=Jo [G,G,G] 0 (KJ C)
abbrev xL(C:Addr):=(jb (jr (JJ (jo (Kn C) [(fV 0),(fV 1),(fV 2)])) (ju (dK (.str "barred"))) jA)
 (jb (jr (JJ (jo (kq C) [(fV 0),(fV 1),(fV 2)])) (ju (dK (.str "long"))) jA)
 (jb (jr (JJ (jo (gU C) [(fV 0),(fV 1),(fV 2)])) (ju (dK (.str "short"))) jA)
 (jb (jr (JJ (jo (gW C) [(fV 1),(fV 2)])) (ju (dK (.str "early"))) jA)
 (jb (jr (JJ (jo (kt C) [(fV 0),(fV 1),(fV 2)])) (ju (dK (.str "shun"))) jA)
 (jb (jr (JJ (jo (kz C) [(fV 0),(fV 1),(fV 2)])) (ju (dK (.str "due"))) jA)
 (jb (jr (JJ (jo (KK C) [(fV 0),(fV 1),(fV 2)])) (ju (dK (.str "cut"))) jA)
 (ju (dK .non)))))))))
abbrev KL(C:Addr):=Jo [G,G,G] 0 (xL C)
abbrev uu(C:Addr):=(jb (jx 3 (d2 jg (dV 1) (dN 1)))
 (jb (Zr 4 (yK 1 [] (JH (d2 jg (dV 1) (dN 4))) (gN 0) Jc (jo Uc [(G,(d2 Z2 (dV 0) (dN 1))),(G,(dN 0))])))
 (jb (jr (jv (d2 Ju (dV 3) (V2 (dN 1)))) (wy 4 (dV 3) (jo Uc [(G,(d2 Z2 (d2 jg (d2 jg (d1 (Ja C "kind_rows") (dV 0)) (dV 3)) (dN 2)) (dN 1))),(G,(dN 0))])) jA)
 (jb (wy 4 (dV 2) (dN 0))
 (ju (jo ZL [(fV 4)]))))))
abbrev uw(C:Addr):=Jo [G,G,G] 2 (uu C)
abbrev uz(C:Addr):=(jb (jx 3 (jo (Vz C) [(fV 1),(fV 2)]))
 (jb (jx 4 (jo (uw C) [(fV 0),(fV 1),(fV 2)]))
 (jb (jx 5 (jo (Vy C) [(fV 0),(fV 1),(fV 2)]))
 (ju (jQ [(B,(d2 jY S3 (dN 1))),(tC 2),(tC 3),(B,(d2 jg (dV 1) (dN 1))),(tC 4),(tC 5)])))))
abbrev ZX(C:Addr):=Jo [G,G,B] 3 (uz C)
abbrev VA:=(gN 3)
abbrev VB(C:Addr):=(jb (jx 4 (jo (KL C) [(fV 0),(fV 2),(fV 3)]))
 (jb (jr (jv (d2 zS (dV 4) (dK .non))) (ju (jQ [(tC 2),(tC 4)])) jA)
 (jx 2 (jo (ZX C) [(fV 0),(fV 2),(tC 3)]))))
abbrev KM(C:Addr):=(jb (jx 2 (jo (Vc C) [(fV 0)]))
 (jb (Yg (JH (dP 1)) VA (VB C))
 (ju (jQ [(tC 2),(B,(dK .non))]))))
abbrev KN(C:Addr):=Jo [G,G] 3 (KM C)
abbrev g_(C:Addr):=(jb (Z0 (gv (Uq C) [(fV 0),(fV 1)]) λ_ ρ=>S (.nx ρ))
 (jb (Y3 (jo (KN C) [(fV 0),(fV 1)]) (gT 2 (gC (gN 2) (gC (gN 3) gZ))))
 (jb (jr (jv (d2 zS (dV 3) (dK .non))) (CF "Broken" ["place","word"] [(B,(d2 jY (d2 jg (dV 2) (dN 0)) (dN 1))),(tC 3)]) jA)
 (ju (dC 2)))))
abbrev VC(C:Addr):=uc [G,G] 2 (g_ C)
abbrev KO(C:Addr):=(Yo (yK 2 [] (JH (dP 0)) (gT 2 (gC (gN 0) (gC (gN 1) gZ))) Jc (dC 1)))
abbrev KP(C:Addr):=VZ [G] 0 (KO C)
abbrev kB(C:Addr):=(jb (jr (Ye (jv (d2 Qu S3 (d1 (Ja C "size") (dV 0)))) (jv (d2 zS (jo (KL C) [(fV 0),(fV 1),(fV 2)]) (dK .non)))) (ju (dK .non)) jA)
 (ju (jo (ZX C) [(fV 0),(fV 1),(tC 2)])))
abbrev kC(C:Addr):=Jo [G,G,B] 0 (kB C)
abbrev UV:=(gN 3)
abbrev zX(C:Addr):=(jb (jx 4 (jo (kC C) [(fV 0),(fV 1),(tC 3)]))
 (jr (jv (d2 zS (dV 4) (dK .non))) (vJ 2 (jQ [(tC 3),(tC 4)])) jA))
abbrev uA(C:Addr):=(jb (Zr 2 (jP []))
 (jb (Yg (zU (d1 (uO C "many" (YC C)) (dV 0))) UV (zX C))
 (qR 2)))
abbrev uB(C:Addr):=VZ [G,G] 3 (uA C)
abbrev vB(C:Addr)(F:L D->Y D):DS.DS:=jb (jr (jv (d2 jX S3 (d1 (Ja C "size") (dV 0)))) (ju (dK (.bl B))) jA) (qV 1 2 3 (dL (Jg (uB C) [(G,dV 0),(G,dV 1)])) (jo F [(G,dV 0),(G,dL (yK 2 [] (JH (dP 3)) (gT 2 (gC (gN 0) (gC (gN 1) gZ))) Jc (dC 1))),(B,dC 2)]))
abbrev qZ(F:L D->Y D):DS.DS:=jr (JJ (jo F [(G,dV 0),(G,dV 3),(B,dC 2)])) (ju (dK (.bl B))) jA
abbrev yy(F:L D->Y D):DS.DS:=jb (Yg (JH (dP 1)) (gN 3) (qZ F)) Se
abbrev G1(C:Addr):Nat->L D->Y D
 |0=>λ_=>J
 |m+1=>Jo [G,G,B] 1 (vB C (Jo [G,G,B] 1 (yy (G1 C m))))
abbrev G2(C:Addr)(m:Nat):L D->Y D:=Jo [G,G,B] 1 (yy (G1 C m))
abbrev UW(C:Addr):=G1 C 9
abbrev yz(C:Addr):=(jb (Y3 (d1 (Ja CH "now") (dV 0)) (gT 3 (gC (gN 2) (gC (gN 3) (gC (gN 4) gZ)))))
 (jb (Z0 (gv (VC C) [(fV 2),(G,(dL (Jg (KP C) [(fV 1)])))]) λd ρ=>S (.nx (ρ.set 5 (.cl d))))
 (jr (JQ (JJ (jo (UW C) [(fV 2),(fV 5),(tC 3)]))) (GW "Stuck") jA)))
abbrev yA(C:Addr):=uc [G,G] 4 (yz C)
abbrev G8(C:Addr):=(jb (qT 0 CH "done" (jQ [(tC 1),(B,(d1 (Ja CH "now") (dV 0)))]))
 (jb (K3 0 CH "undone" (jP []))
 (K0 0 CH "now" (dC 2))))
abbrev VD(C:Addr):HS->L D->Y (Rx×HS):=ZD [B,B] 0 (G8 C)
abbrev vQ(C:Addr):=(jb (Y3 (d1 (Ja CH "now") (dV 0)) (gT 3 (gC (gN 5) (gC (gN 6) (gC (gN 7) gZ)))))
 (jb (Zr 8 (Jg UF [(fV 7)]))
 (jb (gz 8 (dC 2) (jQ [(tC 3),(tC 4)]))
 (vV 8 (Z1 (YV 0 CH "do" (VD C) [(tC 1),(B,(jQ [(tC 5),(tC 6),(tC 8)]))]) λ_ ρ=>S (.nx ρ))))))
abbrev vR(C:Addr):HS->L D->Y (Rx×HS):=ZD [B,B,B,B] 4 (vQ C)
abbrev YW(C:Addr):=(jb (Z0 (yg CH "check_new" (yk C) (dV 0) [(fV 1)]) λ_ ρ=>S (.nx ρ))
 (jb (Z0 (yg CH "check_ends" (yA C) (dV 0) [(G,(jQ []))]) λ_ ρ=>S (.nx ρ))
 (Z1 (YV 0 CH "put" (vR C) [(B,(jQ [(B,(dK (.str "begin"))),(tC 1)])),(tC 1),(B,(jQ [])),(B,(dN 0))]) λ_ ρ=>S (.nx ρ))))
abbrev Gw(C:Addr):HS->L D->Y (Rx×HS):=ZD [B] 0 (YW C)
abbrev Vd(C:Addr):=(jb (jx 2 (d2 jg (d1 (Ja CH "now") (dV 0)) (dN 2)))
 (jb (jr (jv (d2 (ZP B) (dV 1) (dV 2))) (GW "NoName") jA)
 (ju (d2 yB (dV 2) (dV 1)))))
abbrev Jl(C:Addr):=uc [G,G] 1 (Vd C)
abbrev YX(C:Addr):=(jb (Z0 (yg CH "sheet" (Jl C) (dV 0) [(fV 1)]) λd ρ=>((gT 2 (gC (gN 4) (gC (gN 5) gZ))) d ρ).bind λρ'=>S (.nx ρ'))
 (jb (Z0 (gv (ZW C) [(fV 2)]) λ_ ρ=>S (.nx ρ))
 (jb (jr (jv (d2 jX (jo Jv [(fV 4)]) (d1 (Ja C "size") (d2 jg (d1 (Ja CH "now") (dV 0)) (dN 0))))) (GW "Whole") jA)
 (jb (jr (Jr (JJ (dV 4)) (jv (d2 jX (d2 jg (d2 jg (dV 4) (V2 (dN 1))) (dN 0)) (dV 2)))) (GW "SamePoet") jA)
 (jb (jx 6 (d2 jY (dV 4) (jQ [(B,(jQ [(tC 2),(tC 3)]))])))
 (jb (Z0 (yg CH "check_ends" (yA C) (dV 0) [(fV 6)]) λ_ ρ=>S (.nx ρ))
 (Z1 (YV 0 CH "put" (vR C) [(B,(jQ [(B,(dK (.str "offer"))),(tC 1),(tC 2),(tC 3)])),(tC 1),(tC 6),(tC 5)]) λ_ ρ=>S (.nx ρ))))))))
abbrev Gx(C:Addr):HS->L D->Y (Rx×HS):=ZD [B,B,B] 3 (YX C)
abbrev zD(C:Addr):=(jb (Z0 (yg CH "sheet" (Jl C) (dV 0) [(fV 1)]) λd ρ=>((gT 2 (gC (gN 3) (gC (gN 4) gZ))) d ρ).bind λρ'=>S (.nx ρ'))
 (jb (Z0 (yg CH "check_new" (yk C) (dV 0) [(fV 2)]) λ_ ρ=>S (.nx ρ))
 (Z1 (YV 0 CH "put" (vR C) [(B,(jQ [(B,(dK (.str "fork"))),(tC 1),(tC 2)])),(tC 2),(tC 3),(tC 4)]) λ_ ρ=>S (.nx ρ))))
abbrev kD(C:Addr):HS->L D->Y (Rx×HS):=ZD [B,B] 2 (zD C)
abbrev zE(C:Addr):=(jb (Z0 (yg CH "sheet" (Jl C) (dV 0) [(fV 1)]) λ_ ρ=>S (.nx ρ))
 (jb (Y3 (d1 (Ja CH "now") (dV 0)) (gT 3 (gC (gN 2) (gC (gN 3) (gC (gN 4) gZ)))))
 (jb (jx 5 (dL (Bw 1 [4,1] (wE (dP 4)) (gN 0) (jv (d2 Ju (dV 0) (dV 2))) (dC 0) (d2 yB (dV 1) (dV 0)))))
 (Z1 (YV 0 CH "do" (VD C) [(B,(jQ [(B,(dK (.str "drop"))),(tC 1)])),(B,(jQ [(tC 2),(tC 3),(tC 5)]))]) λ_ ρ=>S (.nx ρ)))))
abbrev kE(C:Addr):HS->L D->Y (Rx×HS):=ZD [B] 4 (zE C)
abbrev JF(C:Addr):=(jb (jr (jv (d2 jX (d2 jg (dV 2) (dN 0)) (dK (.str "begin")))) (Z1 (YV 0 CH "begin" (Gw C) [(B,(d2 jg (dV 2) (dN 1)))]) λd ρ=>S (.rh d ρ)) jA)
 (jb (jr (jv (d2 jX (d2 jg (dV 2) (dN 0)) (dK (.str "offer")))) (Z1 (YV 0 CH "offer" (Gx C) [(B,(d2 jg (dV 2) (dN 1))),(B,(d2 jg (dV 2) (dN 2))),(B,(d2 jg (dV 2) (dN 3)))]) λd ρ=>S (.rh d ρ)) jA)
 (jb (jr (jv (d2 jX (d2 jg (dV 2) (dN 0)) (dK (.str "take")))) JD jA)
 (jb (jr (jv (d2 jX (d2 jg (dV 2) (dN 0)) (dK (.str "amend")))) JD jA)
 (jb (jr (jv (d2 jX (d2 jg (dV 2) (dN 0)) (dK (.str "turn")))) JD jA)
 (jb (jr (jv (d2 jX (d2 jg (dV 2) (dN 0)) (dK (.str "fork")))) (Z1 (YV 0 CH "fork" (kD C) [(B,(d2 jg (dV 2) (dN 1))),(B,(d2 jg (dV 2) (dN 2)))]) λd ρ=>S (.rh d ρ)) jA)
 (jb (jr (jv (d2 jX (d2 jg (dV 2) (dN 0)) (dK (.str "drop")))) (Z1 (YV 0 CH "drop" (kE C) [(B,(d2 jg (dV 2) (dN 1)))]) λd ρ=>S (.rh d ρ)) jA)
 JD)))))))
abbrev ZY(C:Addr):HS->L D->Y (Rx×HS):=ZD [B,B] 0 (JF C)
abbrev zF(C:Addr):=(jb (jx 1 (dL (jP [(B,(dK (.str "BadName"))),(B,(dK (.str "Known"))),(B,(dK (.str "NoName"))),(B,(dK (.str "Many"))),(B,(dK (.str "Whole"))),(B,(dK (.str "SamePoet"))),(B,(dK (.str "NoKind"))),(B,(dK (.str "Stuck"))),(B,(dK (.str "Turned"))),(B,(dK (.str "NoPlace")))])))
 (jb (jr (jv (d2 jX (dV 0) (dK (.str "")))) (Yo (jP [])) jA)
 (Yo (yK 1 [0] (JH (dL (Yb yp (dV 1) (dL (jP [(B,(dK (.str "Broken"))),(B,(dK (.str "Stranded")))]))))) (gN 0) Jc (d2 jX (dV 0) (dV 1))))))
abbrev zG(C:Addr):=VZ [G] 1 (zF C)
abbrev Gy(C:Addr):=(jb (jx 1 (dL (jP [(B,(dK (.str "BadName"))),(B,(dK (.str "Known"))),(B,(dK (.str "NoName"))),(B,(dK (.str "Many"))),(B,(dK (.str "Whole"))),(B,(dK (.str "SamePoet"))),(B,(dK (.str "NoKind"))),(B,(dK (.str "Stuck"))),(B,(dK (.str "Turned"))),(B,(dK (.str "NoPlace")))])))
 (jb (jr (jv (d2 VT (dV 0) (dK (.str "")))) (ju (dL (jP []))) jA)
 (ju (dL (yK 1 [0] (b8 (dL (Yb yp (dV 1) (dL (jP [(B,(dK (.str "Broken"))),(B,(dK (.str "Stranded")))]))))) (gN 0) Jc (d2 VT (dV 0) (dV 1)))))))
abbrev Zm(C:Addr):=Jo [G] 1 (Gy C)
abbrev ZZ(C:Addr):=(jb (jx 3 (dL (jP [])))
 (jb (jx 4 (dK .non))
 (jb (jx 5 (dK .non))
 (jb (uW (yE 0 (ZY C) [(tC 1),(tC 2)]) (Z1 (yE 0 (uV (ZY C)) [(tC 1),(tC 2)]) λd ρ=>S (.nx (ρ.set 5 (.cl d)))) [#[["Broken"],["BadRules","NoKind","TooLong","BadName","Known","NoName","Many","Whole","SamePoet","Stuck","Turned","NoPlace","NothingLeft","Stranded"],6,(jb (gA 6 3 (Zm C) "Broken") (jx 4 (jQ [(B,(d1 (GX xK "place") (dV 6))),(B,(d1 (GX xK "word") (dV 6)))])))],#[["Stranded"],["BadRules","NoKind","TooLong","BadName","Known","NoName","Many","Whole","SamePoet","Stuck","Turned","NoPlace","NothingLeft","Broken"],6,(jb (gA 6 3 (Zm C) "Stranded") (jx 4 (d1 (GX xK "name") (dV 6))))],#[["BadRules","NoKind","TooLong","BadName","Known","NoName","Many","Whole","SamePoet","Stuck","Turned","NoPlace","NothingLeft","Broken","Stranded"],[],6,(jb (jx 3 (dL (jP [(B,(d1 (yR Zg "BadName") (dV 6))),(B,(d1 (yR Zg "Known") (dV 6))),(B,(d1 (yR Zg "NoName") (dV 6))),(B,(d1 (yR Zg "Many") (dV 6)))])))
 (jb (jx 3 (dL (Yb yp (dV 3) (dL (jP [(B,(d1 (yR Zg "Whole") (dV 6))),(B,(d1 (yR Zg "SamePoet") (dV 6))),(B,(d1 (yR Zg "NoKind") (dV 6))),(B,(d1 (yR Zg "Stuck") (dV 6)))])))))
 (jx 3 (dL (Yb yp (dV 3) (dL (jP [(B,(d1 (yR Zg "Turned") (dV 6))),(B,(d1 (yR Zg "NoPlace") (dV 6))),(B,(dK (.bl G))),(B,(dK (.bl G)))])))))))]])
 (AO (jQ [(tC 5),(tC 3),(tC 4)]))))))
abbrev kG(C:Addr):HS->L D->Y (Rx×HS):=ZD [B,B] 4 (ZZ C)
abbrev vS(C:Addr)(rec:L D->Y D):DS.DS:=(jb (jr (jv (d2 Ku (dV 1) (dK .non))) (ju (d2 Ku (dV 0) (dK .non))) jA)
 (jb (jr (JJ (d1 AN (dV 1))) (jb (jr (Ye (jv (d2 Ju (d1 (V5 "list") (dV 0)) (d1 (V5 "list") (dV 1)))) (jv (d2 Ju (d1 (V5 "tuple") (dV 0)) (d1 (V5 "tuple") (dV 1))))) Se jA)
 (ju (zi (d2 jX (jo Jv [(fV 0)]) (jo Jv [(fV 1)])) (jo Ud [(G,(dL (yK 2 [] (QC (dP 0) (dP 1)) (gT 2 (gC (gN 0) (gC (gN 1) gZ))) Jc (jo rec [(fV 0),(fV 1)]))))])))) jA)
 (jb (jr (Ye (jv (d2 Ju (d1 (V5 "bool") (dV 0)) (d1 (V5 "bool") (dV 1)))) (jv (d2 Ju (d1 (V5 "str") (dV 0)) (d1 (V5 "str") (dV 1))))) Se jA)
 (ju (zi (d2 jX (d1 (V5 "int") (dV 0)) (d1 (V5 "int") (dV 1))) (d2 jX (dV 0) (dV 1)))))))
abbrev J9(C:Addr):Nat->L D->Y D
 |0=>λ_=>J
 |n+1=>Jo [G,G] 0 (vS C (J9 C n))
abbrev Ve(C:Addr):=(jb (Y3 (dC 0) (gT 2 (gC (gN 2) (gC (gN 3) gZ))))
 (jb (Zr 3 (Jg UF [(fV 3)]))
 (jb (jr (jv (d2 jX S3 (dK (.str "change")))) JD jA)
 (jb (jr (jv (d2 jX S3 (dK (.str "begin")))) (jb (gz 3 (d2 jg (dV 1) (dN 1)) (jQ [(B,(dL (jP []))),(B,(dN 0))]))
 (vV 3 (ju (jQ [(tC 2),(tC 3)])))) jA)
 (jb (Y3 (d2 yB (dV 3) (d2 jg (dV 1) (dN 1))) (gT 2 (gC (gN 4) (gC (gN 5) gZ))))
 (jb (jr (jv (d2 jX S3 (dK (.str "offer")))) (gz 3 (d2 jg (dV 1) (dN 1)) (jQ [(B,(dL (Yb yp (dV 4) (dL (jP [(B,(jQ [(B,(d2 jg (dV 1) (dN 2))),(B,(d2 jg (dV 1) (dN 3)))]))]))))),(tC 5)])) jA)
 (jb (jr (jv (d2 jX S3 (dK (.str "take")))) JD jA)
 (jb (jr (jv (d2 jX S3 (dK (.str "amend")))) JD jA)
 (jb (jr (jv (d2 jX S3 (dK (.str "turn")))) JD jA)
 (jb (jr (jv (d2 jX S3 (dK (.str "fork")))) (vV 4 (gz 3 (d2 jg (dV 1) (dN 2)) (jQ [(tC 4),(tC 5)]))) jA)
 (jb (jr (jv (d2 jX S3 (dK (.str "drop")))) (b0 3 (d2 jg (dV 1) (dN 1))) jA)
 (vV 3 (ju (jQ [(tC 2),(tC 3)]))))))))))))))
abbrev Vf(C:Addr):=Jo [B,G] 4 (Ve C)
abbrev Vg(C:Addr):=(ju (d2 jg (d1 (Ja CH "now") (dV 0)) (dN 0)))
abbrev Zo(C:Addr):=uc [G] 0 (Vg C)
abbrev Vh(C:Addr):=(Yo (Jg Yc [(G,(d1 (Ja C "kind_rows") (dV 0)))]))
abbrev YY(C:Addr):=VZ [G] 0 (Vh C)
abbrev Vi(C:Addr):=(Yo (Jg Yc [(G,(d1 (Ja C "shun_rows") (dV 0)))]))
abbrev YZ(C:Addr):=VZ [G] 0 (Vi C)
abbrev uC(C:Addr):=(Yo (Jg Yc [(G,(d1 (Ja C "bar_rows") (dV 0)))]))
abbrev zH(C:Addr):=VZ [G] 0 (uC C)
abbrev uD(C:Addr):=(Yo (Jg Yc [(G,(d1 (Ja C "due_rows") (dV 0)))]))
abbrev zI(C:Addr):=VZ [G] 0 (uD C)
abbrev Vj(C:Addr):=(ju (dL (Jg zw [(G,(d2 jg (d1 (Ja CH "now") (dV 0)) (dN 2)))])))
abbrev Y_(C:Addr):=uc [G] 0 (Vj C)
abbrev vC(C:Addr):=(ju (dL (Jg Yc [(G,(d2 jg (G_ (yg CH "sheet" (Jl C) (dV 0) [(fV 1)])) (dN 0)))])))
abbrev zY(C:Addr):=uc [G,G] 0 (vC C)
abbrev vF(C:Addr):=(Z0 (CN (yg CH "sheet" (Jl C) (dV 0) [(fV 1)]) (dN 1)) λd _=>S (.rt d))
abbrev zZ(C:Addr):=uc [G,G] 0 (vF C)
abbrev UX:=(gN 7)
abbrev UY(C:Addr):=(jb (Y3 (d2 yB (dV 4) (dV 7)) (gT 2 (gC (gN 8) (gC (gN 9) gZ))))
 (jr (Ye (JQ (JJ (jo (J9 C 6) [(G,(G_ (yg CH "verses" (zY C) (dV 0) [(fV 7)]))),(fV 8)]))) (JQ (JJ (jo (J9 C 6) [(G,(G_ (yg CH "turned" (zZ C) (dV 0) [(fV 7)]))),(fV 9)])))) Se jA))
abbrev uE(C:Addr):=(jb (Y3 (dC 2) (gT 2 (gC (gN 3) (gC (gN 4) gZ))))
 (jb (jx 5 (G_ (yg CH "rules" (Zo C) (dV 0) [])))
 (jb (jx 6 (dL (jP [(B,(d1 (Ja C "size") (dV 5))),(B,(dL (Ki (YU C "kinds" (YY C)) (dV 5)))),(B,(dL (Ki (YU C "shuns" (YZ C)) (dV 5)))),(B,(dL (Ki (YU C "bars" (zH C)) (dV 5)))),(B,(dL (Ki (YU C "dues" (zI C)) (dV 5))))])))
 (jb (jr (Ye (jv (d2 Ju (dV 6) (dL (Jg Yc [(G,(d2 jg (dV 1) (dV 3)))])))) (JQ (JJ (jo (J9 C 6) [(G,(G_ (yg CH "names" (Y_ C) (dV 0) []))),(G,(dL (Jg zw [(fV 4)])))])))) Se jA)
 (jb (Yg (JH (dL (Jg zw [(fV 4)]))) UX (UY C))
 (ju (dK (.bl B))))))))
abbrev uF(C:Addr):=Jo [G,G,B] 7 (uE C)
abbrev az:=(gN 8)
abbrev Wz(C:Addr):=(jb (jx 9 (jo (Uo C) [(fV 2),(tC 6),(fV 4),(G,(dL (yb (dV 1) (λρ=>((d2 jY (dN 145) (d2 Z3 (dN 5) (dV 8))) ρ).bind yQ) (λ_=>S J)))),(fV 7)]))
 (jb (Y3 (jo (UR C) [(fV 2),(tC 6),(tC 9)]) (gT 2 (gC (gN 10) (gC (gN 11) gZ))))
 (jb (Z1 (yE 5 (uV (kG C)) [(tC 3),(tC 9)]) λd ρ=>((gT 3 (gC (gN 12) (gC (gN 13) (gC (gN 14) gZ)))) d ρ).bind λρ'=>S (.nx ρ'))
 (jb (jr (Ye (jv (d2 zS (dV 12) (dK .non))) (Ye (jv (d2 Ju (dV 13) (dL (Jg (zG C) [(fV 10)])))) (JQ (JJ (jo (J9 C 6) [(fV 14),(fV 11)]))))) Se jA)
 (jb (jr (jv (d2 jX (dV 10) (dK (.str "")))) (jx 6 (jo (Vf C) [(tC 6),(fV 9)])) jA)
 (jb (jx 15 (d2 jX (d2 jN (d2 jY (dV 8) (d2 jg (dV 1) (dN 142))) (d2 jY (dN 1) (d2 jN (d2 jg (dV 1) (dN 143)) (dN 4)))) (dN 0)))
 (jr (Jr (JJ (dV 15)) (JQ (JJ (jo (uF C) [(fV 5),(fV 2),(tC 6)])))) Se jA)))))))
abbrev bj(C:Addr):=(jb (jx 1 (dL (Jg (vo C) [(fV 0),(G,(dN 350))])))
 (jb (jx 2 (dL (Jg (ki C) [(fV 1),(G,(dN 4))])))
 (jb (jx 3 (dL (yK 1 [] (JH (dP 2)) (gN 0) Jc (dL (Jg (ze C) [(fV 0)])))))
 (jb (jx 4 (dL (Jg (kj C) [(G,(dL (yb (dV 1) (λρ=>((dN 131) ρ).bind yQ) (λ_=>S J))))])))
 (jb (GY 5 CH (ui C) [(B,(d2 jg (dV 3) (dN 0)))])
 (jb (jx 6 (jQ [(B,(dN 0)),(B,(dL qU))]))
 (jb (jx 7 (dL (Yb GZ (dK (.str "begin begin fork begin offer drop begin fork begin")) (dK (.str " ")))))
 (jb (Yg (zU (d2 jY (dN 1) (d2 jN (d2 jg (dV 1) (dN 141)) (dN 40)))) az (Wz C))
 (ju (jo (uF C) [(fV 5),(fV 2),(tC 6)]))))))))))
abbrev bn(C:Addr):=Jo [G] 15 (bj C)
end M
noncomputable section
namespace M
open PySem L2 DS CP
abbrev top(i:Nat):Stmt:=PySem.Challenge.pw_moonseat_k29_sheets_begun.main.body.getD i (.Pass #[0,0,0,0])
abbrev dF(i f k:Nat)(ks:L Nat)(b:DS.DS)(hs:L ((Nat×Nat×Nat)×L Nat):=[])(sh:L (Nat×Nat):=[])(ow:L Nat:=[]):Df:=#[top i,sN (top i),f,G,k==1,ks.map (Nat.beq 1),b,hs,sh,ow,k==2]
abbrev dM(i j:Nat)(q:Str)(f k:Nat)(ks:L Nat)(b:DS.DS)(hs:L ((Nat×Nat×Nat)×L Nat):=[])(sh:L (Nat×Nat):=[])(ow:L Nat:=[]):Df:=#[inClass (top i) j,q,f,B,k==1,ks.map (Nat.beq 1),b,hs,sh,ow,k==2]
abbrev xt:XT:={ex:=Zg,ct:=[("Broken",["Broken"],["BadRules","NoKind","TooLong","BadName","Known","NoName","Many","Whole","SamePoet","Stuck","Turned","NoPlace","NothingLeft","Stranded"]),("Stranded",["Stranded"],["BadRules","NoKind","TooLong","BadName","Known","NoName","Many","Whole","SamePoet","Stuck","Turned","NoPlace","NothingLeft","Broken"]),("VerseError",["BadRules","NoKind","TooLong","BadName","Known","NoName","Many","Whole","SamePoet","Stuck","Turned","NoPlace","NothingLeft","Broken","Stranded"],[])],xf:=xK,xp:=["BadRules","NoKind","TooLong","BadName","Known","NoName","Many","Whole","SamePoet","Stuck","Turned","NoPlace","NothingLeft"],xq:=[("Broken",["place","word"]),("Stranded",["name"])]}
abbrev Pe:L (Str×GI):=[("MOST_SHEETS",.con 8),("MOST_LETTERS",.con 8),("MOST_SIZE",.con 30),("MOST_KINDS",.con 4),("MOST_SHUNS",.con 20),("MOST_BARS",.con 12),("MOST_DUES",.con 3),("MOST_RUN",.con 4),("MOST_REST",.con 4),("MOST_FAR",.con 2),("all",.blt),("bool",.blt),("dict",.blt),("int",.blt),("isinstance",.blt),("len",.blt),("list",.blt),("max",.blt),("range",.blt),("str",.blt)]
abbrev Pf:L (Str×GI):=[("tuple",.blt),("zip",.blt)]
abbrev kH:Tb:={C:=679,gs:=Pe++Pf,ms:=[],fl:=["size","kind_rows","shun_rows","bar_rows","due_rows"],xt:=xt,hC:=590,hfl:=["opened","now"],hls:=["done","undone"],tb:=Ej}
abbrev l0:L Df:=[dF 66 690 1 [0,0] (vn 679) [] [] [2],
 dF 68 702 0 [0,0] (Uf 679) [] [(422,4)] [4],
 dF 70 716 1 [0,0] (zB 679) [((430,50,125),[]),((432,81,116),[]),((435,33,89),[])],
 dF 62 622 0 [0,0,0,0,0] (V8 679),
 dF 59 601 0 [1] (Uh 679),
 dF 60 608 0 [1,0] (Ui 679),
 dF 61 615 0 [1,0,0] (Uj 679),
 dF 63 627 0 [0,0,0,0,0] (Uk 679) [((353,15,54),[5]),((355,54,65),[]),((355,15,66),[5,0])]]
abbrev LP:Tb:=kH.adds 2 l0
abbrev x1:Df:=dM 64 0 "Rules.__init__" 641 0 [1,0,0,0,0] (YQ 679) [] [] [0]
abbrev LQ:Tb:=LP.ag "Rules" (.mk 19 x1.de.ps x1.de.ks (Yr 679) (yW 679))
abbrev l2:L Df:=[dF 69 709 1 [0] (Um 679),
 dF 71 721 0 [0] (Kl 679) [((440,20,92),[9]),((440,19,124),[1,0])],
 dF 72 726 1 [0] (yx 679) [((442,15,122),[]),((442,15,65),[0]),((444,20,35),[9]),((444,38,58),[9]),((444,19,83),[1]),((445,11,94),[]),((445,11,79),[])]]
abbrev LR:Tb:=LQ.adds 20 l2
abbrev x3:Df:=dM 49 0 "House.__init__" 407 2 [1] (YR 679) [((183,27,29),[8,1]),((183,31,33),[7])]
abbrev LS:Tb:=LR.ah "House" (.mH 27 x3.de.ps [B] 590 (ZD [B] x3.de.lo.length x3.b))
abbrev l4:L Df:=[dF 87 825 0 [0,1,0,0,0] (Zh 679) [((588,16,33),[7])] [(606,1000),(610,1000)],
 dF 78 764 0 [0] (gO 679) [((503,116,130),[9]),((503,57,98),[9]),((503,20,39),[9])],
 dF 79 771 0 [0,0] (gP 679) [((507,7,36),[7]),((509,21,37),[7])],
 dF 73 733 0 [0,0] (gR 679),
 dF 74 740 0 [0,0,0] (Vo 679),
 dF 75 747 0 [0,0,0] (kl 679),
 dF 76 754 0 [0,0] (Va 679),
 dF 77 759 0 [0,0] (uk 679) [((489,44,128),[0]),((499,42,64),[]),((500,33,55),[])] [] [3],
 dF 80 778 0 [0,0,0] (zC 679),
 dF 81 783 1 [0] (um 679),
 dF 82 790 0 [0,0,0] (vt 679) [((526,44,88),[])],
 dF 85 811 0 [0,1,1] (vz 679) [((550,7,43),[7]),((552,29,59),[7])] [(544,1000),(556,1000)],
 dF 46 381 2 [0] (uq 679) [((169,85,89),[9]),((169,54,72),[9]),((169,16,25),[9])]]
abbrev LU:Tb:=LS.adds 28 l4
abbrev l5:L Dh:=[#[dM 49 3 "House.check_new" 428 2 [0,0] (Z7 679) [((198,11,30),[7]),((200,11,27),[7])],G]]
abbrev LV:Tb:=LU.addsB 54 l5
abbrev l6:L Df:=[dM 64 5 "Rules.many" 676 0 [0] (ur 679),
 dF 35 338 0 [0,0] (km 679),
 dF 36 343 0 [0,0] (Z8 679) [((132,15,57),[0])],
 dF 37 350 2 [0,0] (Up 679),
 dF 19 235 0 [0] (Vb 679),
 dF 24 268 0 [0,0,0] (Km 679),
 dF 25 275 0 [0,0,0] (ko 679),
 dF 26 282 0 [0,0,0] (gS 679),
 dF 27 289 0 [0,0] (gV 679),
 dF 28 296 0 [0,0,0] (kr 679),
 dF 22 254 0 [0,0,0] (gX 679) [] [] [4],
 dF 29 303 0 [0,0,0] (kw 679),
 dF 20 242 0 [0,0] (gY 679),
 dF 30 310 0 [0,0,0] (KJ 679),
 dF 31 317 0 [0,0,0] (xL 679),
 dF 21 247 0 [0,0,0] (uu 679) [] [] [4],
 dF 23 261 0 [0,0,1] (uz 679),
 dF 38 357 0 [0,0] (KM 679),
 dF 39 364 2 [0,0] (g_ 679),
 dF 47 386 1 [0] (KO 679),
 dF 32 324 0 [0,0,1] (kB 679),
 dF 33 331 1 [0,0] (uA 679) [] [] [2]]
abbrev Ek:Tb:=LV.adds 56 l6
abbrev x7:Df:=dF 41 369 0 [0,0,1] jA [] [(156,1001)]
abbrev y7:Df:=dF 42 376 0 [0,0,1] jA
abbrev LW:Tb:=Ek.ag "can_be_ended" (.fE (100+2*9) x7.de.ps x7.de.ks (G1 679 9))
abbrev l8:L Dh:=[#[dM 49 4 "House.check_ends" 435 2 [0,0] (yz 679),G],
 #[dM 49 5 "House.do" 442 2 [1,1] (G8 679),B],
 #[dM 49 6 "House.put" 449 2 [1,1,1,1] (vQ 679) [((217,8,19),[7])] [(218,8)] [8],B],
 #[dM 49 7 "House.begin" 456 2 [1] (YW 679),B],
 #[dM 49 1 "House.sheet" 414 2 [0,0] (Vd 679) [((189,11,29),[7]),((191,15,27),[7])],G],
 #[dM 49 8 "House.offer" 463 2 [1,1,1] (YX 679),B],
 #[dM 49 12 "House.fork" 491 2 [1,1] (zD 679),B],
 #[dM 49 13 "House.drop" 496 2 [1] (zE 679) [((267,15,74),[4,1]),((267,23,36),[7])],B]]
abbrev LX:Tb:=LW.addsB 118 l8
abbrev x9:Df:=dF 88 832 2 [1,1] (JF 679) [] [(617,1000),(619,1000),(621,1000),(626,1000)]
abbrev dh:Tb:=LX.ag "_law_act" (.fH 135 x9.de.ps x9.ks (ZD x9.ks x9.de.lo.length x9.b))
abbrev aA:L Df:=[dF 89 837 1 [0] (zF 679) [((631,62,102),[]),((631,11,103),[0])]]
abbrev dj:Tb:=dh.adds 136 aA
abbrev Gz:Df:=dF 89 837 0 [0] (Gy 679) [((631,62,102),[]),((631,11,103),[0])]
abbrev dl:Tb:=dj.as "_law_marks" (Jo Gz.ks Gz.de.lo.length Gz.b)
abbrev kK:Df:=dF 90 844 2 [1,1] (ZZ 679) [((646,26,136),[]),((647,26,105),[]),((648,11,52),[11])]
abbrev dr:Tb:=dl.ag "_law_tried" (.fH 139 kK.de.ps kK.ks (ZD kK.ks kK.de.lo.length kK.b))
abbrev wJ:Df:=dF 67 695 0 [0,0] jA
abbrev du:Tb:=dr.ag "_law_same" (.fE (140+6) wJ.de.ps wJ.de.ks (J9 679 6))
abbrev aB:L Df:=[dF 86 818 0 [1,0] (Ve 679) [((568,8,38),[7]),((570,29,59),[7]),((572,8,38),[7]),((572,42,95),[]),((582,8,38),[7])] [(566,1000),(569,3),(574,1000),(576,1000),(580,1000),(582,4),(585,3)] [3,4]]
abbrev dw:Tb:=du.adds 146 aB
abbrev aD:L Dh:=[#[dM 49 18 "House.rules" 531 2 [0] (Vg 679),G]]
abbrev dz:Tb:=dw.addsB 148 aD
abbrev aE:L Df:=[dM 64 1 "Rules.kinds" 648 1 [0] (Vh 679),
 dM 64 2 "Rules.shuns" 655 1 [0] (Vi 679),
 dM 64 3 "Rules.bars" 662 1 [0] (uC 679),
 dM 64 4 "Rules.dues" 669 1 [0] (uD 679)]
abbrev dA:Tb:=dz.adds 150 aE
abbrev aF:L Dh:=[#[dM 49 20 "House.names" 545 2 [0] (Vj 679) [((302,15,32),[7])],G],
 #[dM 49 21 "House.verses" 552 2 [0,0] (vC 679),G],
 #[dM 49 22 "House.turned" 559 2 [0,0] (vF 679),G]]
abbrev dB:Tb:=dA.addsB 158 aF
abbrev aG:L Df:=[dF 91 851 0 [0,0,1] (uE 679) [((653,88,105),[7]),((655,26,43),[7]),((656,33,60),[7])]]
abbrev LY:Tb:=dB.adds 164 aG
abbrev Ga:Df:=dF 92 856 0 [0] (bj 679) [((666,21,23),[7])]
end M
namespace M
open PySem L2 DS
def xM(C t):vM C [t3 t]=S (.bl (fK t)):=by
 let q x y z:=t;unfold fK;simp only[vM,Uh,t3];by_cases a:1<=x
 ·by_cases b:x<=y
  ·by_cases c:y<=4
   ·by_cases d:0<=z<;>simp[a,b,c,d]
   ·simp[a,b,c]
  ·simp[a,b]
 ·simp[a]
def xN(C t m):vO C [t3 t,.int m]=S (.bl (fS m t)):=by
 let q x y z:=t;unfold fS;simp only[vO,Ui,t3];by_cases a:0<=x
 ·by_cases b:x<m
  ·by_cases c:0<=y
   ·by_cases d:y<m
    ·by_cases e:1<=z<;>simp[a,b,c,d,e]
    ·simp[a,b,c,d]
   ·simp[a,b,c]
  ·simp[a,b]
 ·simp[a]
def xO(C t m s):vP C [t3 t,.int m,.int s]=S (.bl (fB m s t)):=by
 let q x y z:=t;unfold fB;simp only[vP,Uj,t3];by_cases a:0<=x
 ·by_cases b:x<m
  ·by_cases c:1<=y
   ·by_cases d:y<=z<;>simp[a,b,c,d]
   ·simp[a,b,c]
  ·simp[a,b]
 ·simp[a]
def WA(C s k h b d):V9 C [.int s,.lst k,.lst h,.lst b,.lst d]=S (.bl (fC s k.length h.length b.length d.length)):=by
 unfold fC;simp only[V9,V8];by_cases a:1<=s
 ·by_cases f:s<=30
  ·by_cases c:(1:Int)<=k.length
   ·by_cases e:(k.length:Int)<=4
    ·by_cases g:(h.length:Int)<=20
     ·by_cases i:(b.length:Int)<=12<;>simp[a,f,c,e,g,i]
     ·simp[a,f,c,e,g]
    ·simp[a,c,e]
   ·simp[a,c]
  ·simp[a,f]
 ·simp[a]
theorem YS{a:Type}(f):∀l:L a,GR (l.map λx=>D.bl (f x))=S (l.map f)
 |[]=>rfl
 |x::l=>by simp[YS f l]
def BS{a:Type}(f)(l m:L a):GR (l.map (λx=>D.bl (f x))++m.map λx=>D.bl (f x))=S (l.map f++m.map f):=by rw[<-uDa,YS,uDa]
def xP(C s k h b d)(e:k.length<=100)(l:h.length<=100)(r:b.length<=100)(p:d.length<=100):Ul C [.int s,.lst (k.map t3),.lst (h.map t3),.lst (b.map t3),.lst (d.map t3)]=S (.bl (fR s k h b d)):=by
 have c:∀n,n<=200->n<=sizeLine:=λn u=>zd (wSa u Sq);have g:∀a ,JX (gN 0) Jc (jo (vM C) [(B,dC 0)]) _ (.un::a)=S (k.map λt=>D.bl (fK t)):=λa=>JO t3 _ λt _=>#[_,rfl,rfl,by simp[xM]]
 have i:∀a ,JX (gN 0) Jc (jo (vO C) [(B,dC 0),(G,dV 1)]) _ (.un::.cl (.int k.length)::a)=S (h.map λt=>D.bl (fS k.length t)):=λa=>JO t3 _ λt _=>#[_,rfl,rfl,by simp[xN]]
 have j:∀a ,JX (gN 0) Jc (jo (vP C) [(B,dC 0),(G,dV 1),(G,dV 2)]) _ (.un::.cl (.int k.length)::.bo (.int s)::a)=S ((b++d).map λt=>D.bl (fB k.length s t)):=λa=>JO t3 _ λt _=>#[_,rfl,rfl,by simp[xO]]
 rw[uDa]at j;unfold fR;have o:b.length+d.length<=sizeLine:=c _ (by lia);simp only[Ul,Uk];by_cases f:k.all fK=B
 ·by_cases m:h.all (fS k.length)=B
  ·simp[g,i,j,YS,BS,c _ (Nat.le_trans e _),c _ (Nat.le_trans l _),o,f,m]
  ·simp[g,i,YS,c _ (Nat.le_trans e _),c _ (Nat.le_trans l _),f,m]
 ·simp[g,YS,c _ (Nat.le_trans e _),f]
structure OkB (b:Bk) where
 s1:1<=b.size
 s2:b.size<=30
 k1:1<=b.kinds.length
 k2:b.kinds.length<=4
 h2:b.shuns.length<=20
 b2:b.bars.length<=12
 d2:b.dues.length<=3
 ks:∀t∈b.kinds,fK t=B
 hs:∀t∈b.shuns,fS b.kinds.length t=B
 bs:∀t∈b.bars,fB b.kinds.length b.size t=B
 ds:∀t∈b.dues,fB b.kinds.length b.size t=B
def OkB.zk{b:Bk}(w:OkB b):b.kinds.length<=sizeLine:=zd (wSa w.k2 Sq)
def WB:ax b=B↔OkB b:=by
 unfold ax fC fR;simp only[Bool.and_eq_true,decide_eq_true_eq,List.all_eq_true,List.mem_append];constructor
 ·rintro⟨⟨g,c,m,i,k,j,l⟩,d,e,a⟩;exact#[g,c,by lia,by lia,by lia,by lia,by lia,d,e,λt h=>a t (.inl h),λt h=>a t (.inr h)]
 ·intro h;exact#[#[h.s1,h.s2,by have:=h.k1;lia,by have:=h.k2;lia,by have:=h.h2;lia,by have:=h.b2;lia,by have:=h.d2;lia],h.ks,h.hs,λt f=>f.elim (h.bs t) (h.ds t)]
def FH(C p b)(h:OkB b):Yr C p [.int b.size,.lst (b.kinds.map t3),.lst (b.shuns.map t3),.lst (b.bars.map t3),.lst (b.dues.map t3)]=S (KC C b):=by
 have a:=WB.mpr h;unfold ax at a;rw[Bool.and_eq_true]at a;have c:=WA C b.size (b.kinds.map t3) (b.shuns.map t3) (b.bars.map t3) (b.dues.map t3);simp only[List.length_map]at c;rw[a.1]at c;have d:=xP C b.size b.kinds b.shuns b.bars b.dues (by have:=h.k2;lia) (by have:=h.h2;lia) (by have:=h.b2;lia) (by have:=h.d2;lia);rw[a.2]at d;have i:("size" : Str)≠ "kind_rows":= by decide
 have e:("size" : Str)≠ "shun_rows":= by decide
 have g:("size" : Str)≠ "bar_rows":= by decide
 have j:("size" : Str)≠ "due_rows":= by decide
 have f:("kind_rows" : Str)≠ "shun_rows":= by decide
 have m:("kind_rows" : Str)≠ "bar_rows":= by decide
 have l:("kind_rows" : Str)≠ "due_rows":= by decide
 have k:("shun_rows" : Str)≠ "bar_rows":= by decide
 have o:("shun_rows" : Str)≠ "due_rows":= by decide
 have n:("bar_rows" : Str)≠ "due_rows":= by decide
 simp only[Yr,YQ,KC];simp[c,d,i,e,g,j,f,m,l,k,o,n]
def Kf(C p a o)(h:yW C a=S o):Yr C p a=S o:=by
 let jw b c rfl rfl:=LO h;exact FH C p b (WB.mp c)
def FJ(C b)(h:OkB b):yW C [.int b.size,.lst (b.kinds.map t3),.lst (b.shuns.map t3),.lst (b.bars.map t3),.lst (b.dues.map t3)]=S (KC C b):=by
 unfold yW Ww;simp[KH,WB.mpr h]
def WC(C b)(h:OkB b):ze C [jy b]=S (KC C b):=by
 have e:=FJ C b h;simp only[ze,Um];simp[e]
def FK(C b):YC C [jC C b]=S (.int b.kinds.length):=by
 have a:(("kind_rows" : Str)=="size")=G:=by decide
 simp only[YC,ur,jC];simp[Ja,List.lookup,a]
@[simp] theorem qg(C b):uO C "many" (YC C) (jC C b)=S (.int b.kinds.length):=by
 have e:=FK C b;unfold uO jC at *;have n:("many" : Str)∉(["size","kind_rows","shun_rows","bar_rows","due_rows"]:L Str):=by decide
 simp only[if_true];exact e
@[simp] theorem dE(C b):Ja C "size" (jC C b)=S (.int b.size):=by unfold Ja jC;simp 
@[simp] theorem NK(C b):Ja C "kind_rows" (jC C b)=S (.tup (b.kinds.map t3)):=by
 have a:(("kind_rows" : Str)=="size")=G:=by decide
 unfold Ja jC;simp[List.lookup,a]
@[simp] theorem NL(C b):Ja C "shun_rows" (jC C b)=S (.tup (b.shuns.map t3)):=by
 have c:(("shun_rows" : Str)=="size")=G:=by decide
 have a:(("shun_rows" : Str)=="kind_rows")=G:=by decide
 unfold Ja jC;simp[List.lookup,c,a]
@[simp] theorem Oo(C b):Ja C "bar_rows" (jC C b)=S (.tup (b.bars.map t3)):=by
 have c:(("bar_rows" : Str)=="size")=G:=by decide
 have a:(("bar_rows" : Str)=="kind_rows")=G:=by decide
 have d:(("bar_rows" : Str)=="shun_rows")=G:=by decide
 unfold Ja jC;simp[List.lookup,c,a,d]
@[simp] theorem dG(C b):Ja C "due_rows" (jC C b)=S (.tup (b.dues.map t3)):=by
 have c:(("due_rows" : Str)=="size")=G:=by decide
 have a:(("due_rows" : Str)=="kind_rows")=G:=by decide
 have d:(("due_rows" : Str)=="shun_rows")=G:=by decide
 have e:(("due_rows" : Str)=="bar_rows")=G:=by decide
 unfold Ja jC;simp[List.lookup,c,a,d,e]
def bp(C b n):u_ C [jC C b,.int n]=S (.bl (decide (0<=n)&&decide (n<b.kinds.length))):=by
 have e:=qg C b;simp only[u_,km];by_cases h:0<=n<;>simp[h]
def WD(C b)(a:L Int)(g:a.length<=1000):Ys C [jC C b,.lst (a.map .int)]=S (.bl (a.all λn=>decide (0<=n)&&decide (n<b.kinds.length))):=by
 have f:∀c ,JX (gN 0) Jc (jo (u_ C) [(G,dV 1),(G,dV 0)]) _ (.un::.bo (jC C b)::c)=S (a.map λn=>D.bl (decide (0<=n)&&decide (n<(b.kinds.length:Int)))):=λc=>JO D.int _ λt _=>#[_,rfl,rfl,by simp[bp]]
 have d:a.length<=sizeLine:=zd g;have e:=YS (λn:Int=>decide (0<=n)&&decide (n<b.kinds.length)) a;simp only[Ys,Z8];simp[f,d,e]
abbrev El(b:Bk)(a:L Int):=(∀n∈a,0<=n/\n<b.kinds.length)/\a.length<=b.size
abbrev va(b:Bk)(a:L Int):=a.all λn=>decide (0<=n)&&decide (n<b.kinds.length)
def uG{a}(h:va b a=B):∀n∈a,0<=n/\n<b.kinds.length:=λn c=>by
 have:=List.all_eq_true.mp h n c;rw[Bool.and_eq_true]at this;exact#[of_decide_eq_true this.1,of_decide_eq_true this.2]
def xQ{a}(h:∀n∈a,0<=n/\n<b.kinds.length):va b a=B:=by
 unfold va;rw[List.all_eq_true];intro n c;have:=h n c;simp[this.1,this.2]
def xR(C b a)(f:a.length<=1000):Uq C [jC C b,.lst (a.map .int)]=S (if va b a=G then .xc ("NoKind",[])else if b.size<a.length then .xc ("TooLong",[])else .ok .non):=by
 have e:=WD C b a f;have e:Ys C _=S (.bl (va b a)):=e;have g:=dE C b;simp only[Uq,Up];cases d:va b a with
 |false=>rw[d]at e;simp[e]
 |true=>
  rw[d]at e;by_cases c:b.size<a.length<;>simp[e,c]
def dH(C b)(a:OkB b):Vc C [jC C b]=S (Jq (JE b)):=by
 have e:=qg C b;have f:=dG C b;have h:=a.k2;have g:=a.d2;have d:(b.kinds.length:Int)<=1000:=by lia
 have c:(b.dues.length:Int)<=1000:=by lia
 simp only[Vc,Vb];simp[d,c,Jq,JE]
abbrev oS:Y Str->D
 |none=>.non
 |S x=>.str x
structure Fit (b:Bk) (s:Sd) where
 c0:-1<=s.kind
 c1:s.kind<b.kinds.length
 w:s.waits.length=b.kinds.length
 m:s.met.length=b.dues.length
abbrev zl(b:Bk)(k:Int):=0<=k/\k<b.kinds.length
def Ko(C s k):Vz C [Jq s,.int k]=S (.int (KI s k)):=by
 unfold KI;simp only[Vz,gY];by_cases e:s.kind=k<;>simp[e]
def any_map{a:Type}(b:a->D)(p q)(h:∀x,p (b x)=q x)(l:L a):(l.map b).any p=l.any q:=by
 induction l with
 |nil=>rfl
 |cons x l c=>rw[vWa,List.any_cons,List.any_cons,h,c]
abbrev xS(q:T3->Bool)(d:D):Bool:=match Ei d with
 |S t=>q t
 |none=>G
def zJ(q t):xS q (t3 t)=q t:=rfl
def xT{c a r}{I:jD->Prop}{k}(h:t a=S k)(d:c a=S r)(e:I a):(k=B/\jr t c jA a=S r)\/(k=G/\∃b,jr t c jA a=S (.nx b)/\I b):=by
 cases k
 ·exact .inr #[rfl,a,jH h rfl,e]
 ·exact .inl #[rfl,JG h d]
def BU(C b s k):Kn C [jC C b,Jq s,.int k]=S (.bl (vm b s k)):=by
 have a:=vj (g:=Gs) (s:=Gv C) (items:=b.bars.map t3) (λc=>∃x y z,c=[.bo (jC C b),.bo (Jq s),.bo (.int k),.cl (.int (s.place+1)),x,y,z]) (xS (Zx k (s.place+1))) (.rt (.bl B)) (.inl #[_,rfl]) ?_ #[.un,.un,.un,rfl]
 ·rw[any_map t3 _ _ (zJ _)]at a;unfold vm;rcases a with⟨e,L2⟩|⟨e,f,_,L2⟩<;>rw[e]
  ·exact fE (sq rfl (yu Sa))
  ·exact fE (sq rfl (sq (by simp[L2]<;>rfl) rfl))
 ·rintro d h c ⟨x,y,z,rfl⟩;let ja t _ rfl:=uVa h;let q u v w:=t;refine#[_,rfl,?_];rw[zJ];unfold Zx;exact xT (by by_cases g:u=k<;>by_cases i:v<=s.place+1<;>simp[g,i]) rfl #[_,_,_,rfl]
def FL(C b s k)(h:zl b k):kq C [jC C b,Jq s,.int k]=S (.bl (gK b s k)):=by
 unfold gK;simp only[kq,ko];by_cases a:s.kind=k<;>simp[a,vl h.1 h.2]
def dI(C b s k)(X:Fit b s):gU C [jC C b,Jq s,.int k]=S (.bl (zA b s k)):=by
 unfold zA;simp only[gU,gS];by_cases a:s.kind=k
 ·simp[a]
 ·by_cases c:s.kind=-1
  ·simp[c]
  ·simp[a,c,vl (by have:=X.c0;lia) X.c1]
def dJ(C s)(k:Int)(c:0<=k)(a:k<s.waits.length):gW C [Jq s,.int k]=S (.bl (Ze s k)):=by
 unfold Ze;have b:=vk (f:=D.int) (d:=0) c a;simp only[gW,gV];by_cases a:s.kind=k<;>simp[a,b]
def FM(C b s k):kt C [jC C b,Jq s,.int k]=S (.bl (gM b s k)):=by
 have a:=vj (g:=US) (s:=vA C) (items:=b.shuns.map t3) (λe=>∃x y z u,e=[.bo (jC C b),.bo (Jq s),.bo (.int k),x,y,z,u]) (xS (uh s k)) (.rt (.bl B)) (.inl #[_,rfl]) ?_ #[.un,.un,.un,.un,rfl]
 ·rw[any_map t3 _ _ (zJ _)]at a;unfold gM;rcases a with⟨c,L2⟩|⟨c,f,_,L2⟩<;>rw[c]
  ·exact fE (yu Sa)
  ·exact fE (sq (by simp[L2]<;>rfl) rfl)
 ·rintro d h e ⟨x,y,z,j,rfl⟩;let ja t _ rfl:=uVa h;let q u v w:=t;refine#[_,rfl,?_];rw[zJ];unfold uh;unfold vA;rw[sq (a:=[.bo (jC C b),.bo (Jq s),.bo (.int k),.cl (.int u),.cl (.int v),.cl (.int w),.cl (.int (if w=1 then s.kind else s.before))]) (by by_cases i:w=1<;>simp[i]) rfl];exact xT (by by_cases g:v=k<;>simp[g]) rfl #[_,_,_,_,rfl]
def xU{s k}(X:Fit b s):(Z6 b s k).length=b.dues.length:=by
 unfold Z6;rw[List.length_zipWith,X.m]
 lia
def FN{b:Bk}{s:Sd}{i:Nat}{d}(h:(List.zipWith (λp q=>D.tup [p,q]) (b.dues.map t3) (s.met.map D.bl))[i]?=S d):∃t m,b.dues[i]?=S t/\s.met[i]?=S m/\d=.tup [t3 t,.bl m]:=by
 rw[List.getElem?_zipWith,uAa,uAa]at h;cases a:b.dues[i]? with
 |none=>rw[a]at h;exact Zn h
 |some t=>
  cases c:s.met[i]? with
  |none=>rw[a,c]at h;exact Zn h
  |some m=>rw[a,c]at h;obtain rfl:=Zj h;exact#[t,m,rfl,rfl,rfl]
def BV{b:Type}{a:L b}{i t}(h:a[i]?=S t):a.take (i+1)=a.take i++[t]:=by
 rw[List.take_add_one,h];rfl
def BW(C b s k)(I:OkB b)(X:Fit b s):Vy C [jC C b,Jq s,.int k]=S (.tup ((Z6 b s k).map .bl)):=by
 have w:=xU (k:=k) X;have j:=I.d2;have a:=zy (g:=ku) (s:=ut C) (items:=List.zipWith (λp q=>D.tup [p,q]) (b.dues.map t3) (s.met.map D.bl)) (λi e=>∃x y z u v,e=[.bo (jC C b),.bo (Jq s),.bo (.int k),.cl (.int (s.place+1)),.ow J (.lst (((Z6 b s k).take i).map .bl)),x,y,z,u,v]) ?_ #[.un,.un,.un,.un,.un,rfl]
 ·let Ub h g x w0:=a;let Dk y z u v rfl:=w0;have l:(List.zipWith (λp q=>D.tup [p,q]) (b.dues.map t3) (s.met.map D.bl)).length=(Z6 b s k).length:=by
   rw[List.length_zipWith,vYa,vYa,X.m,w];lia
  rw[l,List.take_length,List.take_zero,uJa]at g;simp only[Vy,gX];simp[-List.zipWith_map,g]
 ·rintro i d e n ⟨x,y,z,u,v,rfl⟩;let jc t m o H rfl:=FN n;have F:(Z6 b s k)[i]?=S (m||Zx k (s.place+1) t):=by
   unfold Z6;rw[List.getElem?_zipWith,o,H]
  have c:min i (Z6 b s k).length<sizeLine:=ya (by lia);let q p q r:=t;rw[BV F];unfold Zx;refine#[_,_,rfl,?_,.cl (t3 (p,q,r)),.cl (.bl m),.cl (.int p),.cl (.int q),.cl (.int r),rfl];simp only[ut];cases m with
  |true=>simp[t3,c]
  |false=>
   by_cases f:p=k
   ·by_cases A:q<=s.place+1<;>simp[t3,c,f,A]
   ·simp[t3,c,f]
def LZ(C b s k)(l:OkB b)(X:Fit b s):kz C [jC C b,Jq s,.int k]=S (.bl (Wx b s k)):=by
 have f:=BW C b s k l X;have a:=vj (g:=UT) (s:=UU C) (items:=(List.zip b.dues (Z6 b s k)).map λp=>D.tup [t3 p.1,.bl p.2]) (λc=>∃x y,c=[.bo (jC C b),.bo (Jq s),.bo (.int k),.cl (.int (s.place+1)),x,y]) (λd=>match d with|.tup [t,.bl m]=>xS (λt=>decide (t.2.2=s.place+1)&&!m) t|_=>G) (.rt (.bl B)) (.inl #[_,rfl]) ?_ #[.un,.un,rfl]
 ·rw[any_map (λp=>D.tup _) _ (λp=>decide _&&!p.2) (λp=>rfl)]at a;have g:(List.zip b.dues (Z6 b s k)).map (λp=>D.tup [t3 p.1,.bl p.2])=List.zipWith (λp q=>D.tup [p,q]) (b.dues.map t3) ((Z6 b s k).map D.bl):=by
   rw[List.zipWith_map,List.zip,List.map_zipWith]
  rw[g]at a;unfold Wx;rcases a with⟨e,L2⟩|⟨e,j,_,L2⟩<;>rw[e]
  ·exact fE (sq (by simp<;>rfl) (yu Sa))
  ·exact fE (sq (by simp<;>rfl) (sq (by simp[-List.zipWith_map,L2,f]<;>rfl) rfl))
 ·rintro d h c ⟨x,y,rfl⟩;let ja z0 _ h0:=uVa h;let q t m:=z0;subst h0;let q u v w:=t;refine#[_,rfl,?_];simp only[zJ];exact xT (by by_cases i:w=s.place+1<;>simp[i]) rfl #[_,_,rfl]
def L_(C b s k)(h:zl b k):KK C [jC C b,Jq s,.int k]=S (.bl (Wy b s k)):=by
 unfold Wy;simp only[KK,KJ];by_cases a:s.place+1=b.size<;>simp[a,Ko,vl h.1 h.2]
def qh(C b s k)(p:OkB b)(X:Fit b s)(h:zl b k):KL C [jC C b,Jq s,.int k]=S (oS (Jt b s k)):=by
 have e:=BU C b s k;have l:=FL C b s k h;have f:=dI C b s k X;have i:=dJ C s k h.1 (by rw[X.w];exact h.2);have g:=FM C b s k;have j:=LZ C b s k p X;have m:=L_ C b s k h;refine fE ?_;have go:∀{t c a k w o},t a=S k->c a=S (.rt (oS o))->jb (jr t (ju (dK (.str w))) jA) c a=S (.rt (oS (if k=B then S w else o))):=λ{t c a k w o} d n=>by
  cases k
  ·exact sq (jH d rfl) n
  ·exact yu (JG d rfl)
 exact go (Bn e rfl) (go (by simp[l]) (go (Bn f rfl) (go (by simp[i]) (go (by simp[g]) (go (by simp[j]) (go (by simp[m]) rfl))))))
def dQ(C b s k)(g:OkB b)(X:Fit b s)(h:zl b k):uw C [jC C b,Jq s,.int k]=S (.tup ((vY b s k).map .int)):=by
 have e:JX (gN 0) Jc (jo Uc [(G,d2 Z2 (dV 0) (dK (D.int 1))),(G,dK (D.int 0))]) _ [.un]=S (s.waits.map λx=>D.int (mx _ 0)):=JO D.int _ λt _=>#[_,rfl,rfl,rfl]
 have f:=g.k2;have j:=X.w;have c:s.waits.length<=sizeLine:=wQa (ya (by lia));have d:∀n ,n=s.waits.length->Gh n k=S _:=λn l=>BQ h.1 (by have:=h.2;lia);simp only[uw,uu,vY];by_cases a:s.kind=-1
 ·simp[e,c,a,d];rfl
 ·have i:Gh s.waits.length s.kind=S _:=BQ (by have:=X.c0;lia) (by have:=X.c1;lia);simp[e,c,a,d,i,vl (by have:=X.c0;lia) X.c1];rfl
def xV(C b s k)(a:OkB b)(X:Fit b s)(h:zl b k):ZX C [jC C b,Jq s,.int k]=S (Jq (Zd b s k)):=by
 simp only[ZX,uz];simp[Ko,dQ C b s k a X h,BW C b s k a X];rfl
def bq(b s k):(vY b s k).length=s.waits.length:=by
 unfold vY;split<;>simp
def Fit.next(X:Fit b s){k}(h:zl b k):Fit b (Zd b s k):=#[by have:=h.1;show -1<=k;lia,h.2,by show(vY b s k).length=_;rw[bq,X.w],xU X]
def Fit.empty(b):Fit b (JE b):=#[by show -1<=(-1);decide,by show(-1)<_;lia,by simp[JE],by simp[JE]]
def BX(C b a)(m:OkB b)(h:∀n∈a,zl b n):KN C [jC C b,.lst (a.map .int)]=S (.tup [Jq (J8 b (JE b) a).1,oS (J8 b (JE b) a).2]):=by
 have l:∀(r s x y),Fit b s->(∀n∈r,zl b n)->∃g c,Yp VA (VB C) (r.map D.int) [.bo (jC C b),.bo (.lst (a.map .int)),.cl (Jq s),x,y]=S (match J8 b s r with
   |(f,none)=>.nx [.bo (jC C b),.bo (.lst (a.map .int)),.cl (Jq f),g,c]
   |(f,S w)=>.rt (.tup [Jq f,.str w])):=by
  intro r;induction r with
  |nil=>intro s x y _ _;exact#[x,y,rfl]
  |cons k r t=>
   intro s x y X o;have i:=o k wNa;have e:=qh C b s k m X i;cases d:Jt b s k with
   |some w=>
    rw[d]at e;refine#[.un,.un,?_];have j:J8 b s (k::r)=(s,S w):=by unfold J8;rw[d]
    rw[j];simp[Yx,VA,VB,e,oS]
   |none=>
    rw[d]at e;have u:=xV C b s k m X i;let Vl g c q:=t _ (.cl (.int k)) (.cl .non) (X.next i) λn v=>o n (wMa _ v);refine#[g,c,?_];have j:J8 b s (k::r)=J8 b (Zd b s k) r:=by rw[J8,d]
    rw[j,<-q];simp[Yx,VA,VB,e,u,oS]
 let Vl g c q:=l _ _ .un .un (Fit.empty b) h;simp only[KN,KM];have p:=dH C b m;revert q;generalize J8 b _ _=z;let q f w:=z;intro q;cases w<;>simp[p,q,oS]
abbrev yL(b:Bk)(a:L Int):Y (Int×Str):=match J8 b (JE b) a with
 |(_,none)=>J
 |(s,S w)=>S (s.place+1,w)
abbrev oJ:Y (Int×Str)->D
 |none=>.non
 |S p=>.tup [.int p.1,.str p.2]
def Ji{a b:Int}(h:0<b):0<=a%b/\a%b<b:=#[Int.emod_nonneg _ (by lia),Int.emod_lt_of_pos _ h]
def J_{a b:Type}(f:a->b)(xs lo hi):Jd (xs.map f) lo hi=(Jd xs lo hi).map f:=by
 unfold Jd;rw[vYa,List.map_take,List.map_drop]
def zK{b:Type}(a:L b)(lo hi):(Jd a lo hi).length<=a.length:=by
 unfold Jd;rw[uOa,uNa]
 lia
def wK{a:Type}(xs:L a)(n:Nat):Jd xs (S n) J=xs.drop n:=by
 unfold Jd;have e:HT.sIx xs.length _ J=xs.length:=rfl;rw[HT.sIx_nat,e];by_cases h:n<=xs.length
 ·rw[Nat.min_eq_left h,List.take_of_length_le (by rw[uNa];lia)]
 ·rw[Nat.min_eq_right (by lia),List.drop_of_length_le (by lia),List.drop_of_length_le (by lia)];simp
def xX{a:Type}(xs:L a)(n:Nat):Jd xs J (S n)=xs.take n:=by
 unfold Jd;have e:HT.sIx xs.length 0 J=0:=rfl;rw[HT.sIx_nat,e,List.drop_zero,Nat.sub_zero];by_cases h:n<=xs.length
 ·simp_all
 ·simp_all
def xY{b:Type}(a:L b)(n m)(d:n<=a.length)(c:m<=a.length):Jd a (S n) (S m)=(a.drop n).take (m-n):=by
 unfold Jd;rw[HT.sIx_nat,HT.sIx_nat,Nat.min_eq_left d,Nat.min_eq_left c]
def U0(a:-(2^64)<i)(b:i<2^64):Kt i j=B:=by
 have e:(2)^64=18446744073709551616:=by decide
 unfold Kt;rw[Bool.or_eq_true,Nat.blt_eq];exact .inl (by lia)
def br(C:Addr)(n:L Int)(m:Int)(h63:n.length<=63)(m0:0<=m)(m1:m<=1000):∃g:L Int,vo C [.scr n,.int m]=S (.lst (g.map .int))/\(g.length:Int)=m:=by
 have o:∀(v x b:Int) (g:L Int) (r:Sl) (c:Nat),g.length<=c->c<=5000->∃(f:L Int) (k:Int) (j:Sl),Yp Zy (yU C) (JZ 0 60) [.bo (.scr n),.bo (.int m),.ow J (.lst (g.map .int)),.cl (.int b),.cl (.int x),.cl (.int v),r]=S (.nx [.bo (.scr n),.bo (.int m),.ow J So,.cl (.int b),.cl (.int x),.cl (.int k),j])/\f.length<=c+60:=by
  intro v x b g r c W hc2;have a:=zy (g:=Zy) (s:=yU C) (items:=JZ 0 60) (λi s=>∃(f:L Int) (k:Int) (j:Sl),s=[.bo (.scr n),.bo (.int m),.ow J So,.cl (.int b),.cl (.int x),.cl (.int k),j]/\f.length<=c+i) ?_ #[g,v,r,rfl,W]
  ·let Ub Q I f u0:=a;let jW k j rfl t:=u0;exact#[f,k,j,I,t]
  ·rintro i d s u ⟨f,k,j,rfl,t⟩;have X:i<60:=by have:=(uSa u).1;simpa[JZ]using this
   have A:f.length<sizeLine:=ya (by lia);by_cases y:0<k
   ·refine#[_,[.bo (.scr n),.bo (.int m),.ow J (.lst ((f++[k%1009]).map .int)),.cl (.int b),.cl (.int x),.cl (.int (k/1009)),.cl d],rfl,?_,f++[k%1009],k/1009,.cl d,rfl,by simp;lia];simp[yU,y,A]
   ·refine#[_,[.bo (.scr n),.bo (.int m),.ow J So,.cl (.int b),.cl (.int x),.cl (.int k),.cl d],rfl,?_,f,k,.cl d,rfl,by lia];simp[yU,y]
 have a:=zy (g:=YN) (s:=YO C) (items:=(Jd n J (S 63)).map D.int) (λi s=>∃(g:L Int) (b:Int) (F H r:Sl),s=[.bo (.scr n),.bo (.int m),.ow J (.lst (g.map .int)),.cl (.int b),F,H,r]/\0<=b/\b<2147483648/\g.length<=i*61) ?_ #[[],29,.un,.un,.un,rfl,by decide,by decide,by simp]
 ·let Ub Q I g w0:=a;let YI b F H r rfl P N t:=w0;have W:=zK n J (S 63);rw[vYa]at t;have t:g.length<=4000:=by lia
  let jw Z W1 y0 W2:=xJ (dt:=yV C) (s:=Zz C) (λs=>∃(g:L Int) (b:Int),s=[.bo (.scr n),.bo (.int m),.ow J (.lst (g.map .int)),.cl (.int b),F,H,r]/\0<=b/\b<2147483648/\g.length<=4000) (λs=>match s with|[_,_,.ow _ (.lst l),_,_,_,_]=>6000-l.length|_=>0) (λs=>by
    rintro⟨g,b,rfl,P,N,t⟩;by_cases h:(g.length:Int)<m
    ·right;refine#[by simp[yV,h],?_];have M:=Ji (a:=b*b+69621*b+7*(g.length:Int)+5) (b:=2147483629) Sq;have A:g.length<sizeLine:=ya (by lia);refine#[[.bo (.scr n),.bo (.int m),.ow J (.lst ((g++[(b*b+69621*b+7*(g.length:Int)+5)%2147483629/1013%9973]).map .int)),.cl (.int ((b*b+69621*b+7*(g.length:Int)+5)%2147483629)),F,H,r],?_,#[_,_,rfl,M.1,by lia,by simp;lia],by simp;lia];simp[Zz,U0 (i:=b) (j:=b) (by lia) (by lia),U0 (i:=69621) (j:=b) Sq Sq,U0 (i:=7) (j:=(g.length:Int)) Sq Sq,A]
    ·left;simp[yV,h]) (n:=20000) #[g,b,rfl,P,N,t] (by simp;lia);let q p R rfl t0 t1 hl2:=y0
  have hm:m<=(p.length:Int):=by
   simp[yV]at W2
   lia
  refine#[p.take m.toNat,?_,by rw[uOa];lia];simp only[vo,vn];have em:m=((m.toNat:Nat):Int):=by lia
  have UQ:Jd (p.map D.int) J (S m)=(p.take m.toNat).map D.int:=by
   have z:=xX p m.toNat
   rw[<-em]at z;rw[J_,z]
  rw[uJa]at I;have w:yj 60=B:=by decide
  simp[J_,I,W1]at UQ⊢;simp[UQ]
 ·rintro i d s u ⟨g,b,F,H,r,rfl,P,N,t⟩;have hlt:i<63:=by
   have h1:=(uSa u).1;have h2:=zK n J (S 63);rw[vYa]at h1
   lia
  obtain⟨x,rfl⟩:∃x,d=D.int x:=by
   rw[uAa]at u;cases q:(Jd n J (S 63))[i]? with
   |none=>rw[q]at u;exact Zn u
   |some z=>rw[q]at u;exact#[z,(vFa u).symm]
  have M:=Ji (a:=b*48271+x%1000003+11) (b:=2147483647) Sq;have w:yj 60=B:=by decide
  have A:g.length<sizeLine:=ya (by lia);by_cases y:x-10^18<0
  ·let vG f k j e O:=o (x-10^18) x ((b*48271+x%1000003+11)%2147483647) (g++[x%9973]) r (i*61+1) (by simp;lia) (by lia);refine#[_,[.bo (.scr n),.bo (.int m),.ow J So,.cl (.int ((b*48271+x%1000003+11)%2147483647)),.cl (.int x),.cl (.int k),j],rfl,?_,f,_,_,_,_,rfl,M.1,by lia,by lia];rw[uDa]at e;simp only[YO,YN];simp at e y;simp[U0 (i:=b) (j:=48271) (by lia) (by lia),y,A,e,w]
  ·let vG f k j e O:=o (x-10^18) x ((b*48271+x%1000003+11)%2147483647) g r (i*61+1) (by lia) (by lia);refine#[_,[.bo (.scr n),.bo (.int m),.ow J So,.cl (.int ((b*48271+x%1000003+11)%2147483647)),.cl (.int x),.cl (.int k),j],rfl,?_,f,_,_,_,_,rfl,M.1,by lia,by lia];simp only[YO,YN];simp at e y;have T:¬(x-1000000000000000000<0):=by lia
   simp[U0 (i:=b) (j:=48271) (by lia) (by lia),T,A,e,w]
def uH{ds:L Int}{k:Int}(a:0<=k)(b:k<ds.length):∃v ,atI (ds.map D.int) k=S (.int v):=#[_,vk (d:=0) a b]
def YT{b:Type}{p:b->Prop}{a t}(h:∀x∈a,p x)(d:p t):∀x∈a++[t],p x:=λx c=>by
 rcases uWa c with z|z
 ·exact h x z
 ·simp_all
def FO{n i d}(h:(JZ lo n)[i]?=S d):i<n/\d=.int (lo+i):=by
 unfold JZ at h;rw[uAa]at h;cases q:(List.range n)[i]? with
 |none=>rw[q]at h;exact Zn h
 |some j=>
  rw[q]at h;let q a b:=uSa q;rw[List.getElem_range]at b;rw[List.length_range]at a;exact#[a,by simp_all]
def nP{ns:L Int}{k lo hi:Int}(d:0<=k)(c:k<ns.length)(b:∀v∈ns,lo<=v/\v<=hi):∃v,atI (ns.map D.int) k=S (.int v)/\lo<=v/\v<=hi:=by
 have a:k.toNat<ns.length:=by lia
 refine#[ns.getD k.toNat 0,vk d c,?_];rw[uBa,uCa a];exact b _ (List.getElem_mem a)
def Op{i c:Nat}{m:Int}(h:i<m.toNat)(a:m<=c):i<c:=by lia
def nQ{a:Int}(h:a<=2):0<5-(1+a)/\1+a<5:=by lia
def nR(f:0<=a)(d:a<=2)(c:0<=x/\x<5-(1+a))(e:0<=r)(b:r<=4):fK (1+a,1+a+x,r)=B:=by
 unfold fK
 lia
def bt{m a b c}(d:0<=a/\a<m)(e:0<=b/\b<m)(f:1<=c/\c<=2):fS m (a,b,c)=B:=by
 unfold fS
 lia
def bu{m s a f l}(b:0<=a/\a<m)(c:1<=f)(e:f<=l)(d:l<=s):fB m s (a,f,l)=B:=by
 unfold fB
 lia
def bv{m a s b t}(h:fB m s t=B)(d:m<=a)(c:s<=b):fB a b t=B:=by
 unfold fB at *;simp only[Bool.and_eq_true]at *
 lia
def Oq{m:Int}(h:k=m.toNat)(a:1<=m)(b:m<=4):1<=k/\k<=4/\k=m:=by lia
def nS(a:0<=n)(b:n<=20):yj n=B:=zT (by lia) (by lia)
def FP{x:Int}:0<=x%5*(x/5%2)/\x%5*(x/5%2)<=4:=by
 have a:=Ji (a:=x/5) (b:=2) Sq;have:x/5%2=0\/x/5%2=1:=by lia
 rcases this with z|z<;>rw[z]<;>lia
def UZ{lo hi}{t:T3}(h:t∈Jd a lo hi):t∈a:=by
 exact List.mem_of_mem_drop (List.mem_of_mem_take h)
def aH(C:Addr)(ds:L Int)(r:Int)(hn:27<=ds.length)(T:1<=r)(mo2:r<=9):∃b:Bk,Ug C [.lst (ds.map .int),.int r]=S (jy b)/\OkB b/\b.size<=r/\b.shuns.length<=2/\b.bars.length<=1/\b.dues.length<=1:=by
 have a:∀k:Int,0<=k->k<27->∃v:Int,atI (ds.map D.int) k=S (.int v):=λk h0 h1=>uH h0 (by lia);have z:∀(i:Nat) (k:Int),i<4->0<=k->k<=10->∃v:Int,atI (ds.map D.int) (k+(0+(i:Int)))=S (.int v):=λi k h h0 h1=>a _ (by lia) (by lia);let q u0 a0:=a 0 Sq Sq;let q u1 a1:=a 1 Sq Sq;let q w a14:=a 14 Sq Sq;let q M a15:=a 15 Sq Sq;let q P a16:=a 16 Sq Sq;let q A a17:=a 17 Sq Sq;let q H a18:=a 18 Sq Sq;let q f a19:=a 19 Sq Sq;let q F a20:=a 20 Sq Sq;let q x a21:=a 21 Sq Sq;let q y a22:=a 22 Sq Sq;let q I a23:=a 23 Sq Sq;let q s a24:=a 24 Sq Sq;let q u a25:=a 25 Sq Sq;let q p a26:=a 26 Sq Sq;have g0:=Ji (a:=u0) (b:=4) Sq;have g1:=Ji (a:=u1) (b:=r) T;generalize hm:1+u0%4=m at *;generalize hs:1+u1%r=c at *;have m1:1<=m:=by lia
 have m4:m<=4:=by lia
 have s1:1<=c:=by lia
 have s2:c<=r:=by lia
 have o:0<m:=m1;have qs:0<c:=s1;have qmo:0<r:=T;have e14:=Ji (a:=w) o;have e15:=Ji (a:=M) o;have e16:=Ji (a:=P) (b:=2) Sq;have e17:=Ji (a:=A) o;have e18:=Ji (a:=H) o;have e19:=Ji (a:=f) qs;have e21:=Ji (a:=x) o;have e22:=Ji (a:=y) o;have e23:=Ji (a:=I) qs;have W:0<c-(1+f%c)+1:=by lia
 have e20:=Ji (a:=F) W;have K1:=zy (g:=Gr) (s:=V7 C) (items:=JZ 0 m.toNat) (λi ρ=>∃(R:L T3) (x5 x6:Sl),ρ=[.bo (.lst (ds.map .int)),.bo (.int r),.cl (.int m),.cl (.int c),.ow J (.lst (R.map t3)),x5,x6,.un,.un,.un,.un,.un]/\R.length=i/\∀t∈R,fK t=B) ?_ #[[],.un,.un,rfl,rfl,λ_ h=>by cases h]
 rotate_left
 ·rintro i d ρ hi ⟨R,x5,x6,rfl,hl,e⟩;let q hi1 rfl:=FO hi;have i4:=Op (c:=4) hi1 m4;let q w2 b2:=z i 2 i4 Sq Sq;let q w6 b6:=z i 6 i4 Sq Sq;let q n b10:=z i 10 i4 Sq Sq;have e2:=Ji (a:=w2) (b:=6) Sq;let jw Z pl le0 le3:=nP (ns:=[0,0,1,0,2,0]) (k:=w2%6) (lo:=0) (hi:=2) e2.1 e2.2 Sq;clear e2;let q q5 q5':=nQ le3;have e6:=Ji (a:=w6) (b:=5-(1+Z)) q5;have hz:R.length<sizeLine:=ya (by rw[hl];exact wSa (wQa i4) Sq);have er:=FP (x:=n);have e5:=Ji (a:=n) (b:=5) Sq;have cm:Kt (n%5) (n/5%2)=B:=U0 (by lia) (by lia);simp at b2 b6 b10 pl cm;unfold V7;exact#[_,_,rfl,sq (by simp[b2,pl]<;>rfl) (by simp[b6,b10,q5,q5',hz,cm]<;>rfl),R++[(1+Z,1+Z+w6%(5-(1+Z)),n%5*(n/5%2))],.cl (.int (0+(i:Int))),.cl (.int (1+Z)),by simp[t3],by simp[hl],YT e (nR le0 le3 e6 er.1 er.2)]
 let Ub ρk K2 ks v0:=K1;let jc x5 x6 rfl lk hk:=v0;have hrk:(JZ 0 m.toNat).length=m.toNat:=by simp[JZ]
 rw[hrk]at lk;let Yk ek1 ek4 ek:=Oq lk m1 m4;have sm:yj m=B:=nS (by lia) (by lia);rw[uJa]at K2;generalize N:([(w%m,M%m,1+P%2),(A%m,H%m,2)]:L T3)=j;generalize O:([(x%m,1+f%c,1+f%c+F%(c-(1+f%c)+1))]:L T3)=l;generalize Q:([(y%m,1+I%c,c)]:L T3)=g;have fh:∀t∈j,fS m t=B:=by
  subst N;intro t e;rcases uTa e with rfl|e
  ·exact bt e14 e15 (by lia)
  ·rcases uTa e with rfl|e
   ·exact bt e17 e18 (by lia)
   ·cases e
 have fb:∀t∈l,fB m c t=B:=by
  subst O;intro t e;rcases uTa e with rfl|e
  ·exact bu e21 (by lia) (by lia) (by lia)
  ·cases e
 have fd:∀t∈g,fB m c t=B:=by
  subst Q;intro t e;rcases uTa e with rfl|e
  ·exact bu e22 (by lia) (by lia) (by lia)
  ·cases e
 have l1:=zK j J (S (s%4%3));have l2:=zK l J (S (u%2));have l3:=zK g J (S (p%2));have z1:j.length=2:=by subst N;rfl
 have z2:l.length=1:=by subst O;rfl
 have z3:g.length=1:=by subst Q;rfl
 have c1:Jd (j.map t3) J (S (s%4%3))=(Jd j J (S (s%4%3))).map t3:=J_ _ _ _ _;have c2:Jd (l.map t3) J (S (u%2))=(Jd l J (S (u%2))).map t3:=J_ _ _ _ _;have c3:Jd (g.map t3) J (S (p%2))=(Jd g J (S (p%2))).map t3:=J_ _ _ _ _;have UQ:j.map t3=[.tup [.int (w%m),.int (M%m),.int (1+P%2)],.tup [.int (A%m),.int (H%m),.int 2]]:=by subst N;rfl
 have X:l.map t3=[.tup [.int (x%m),.int (1+f%c),.int (1+f%c+F%(c-(1+f%c)+1))]]:=by subst O;rfl
 have ds0':g.map t3=[.tup [.int (y%m),.int (1+I%c),.int c]]:=by subst Q;rfl
 refine#[#[c,ks,Jd j J (S (s%4%3)),Jd l J (S (u%2)),Jd g J (S (p%2))],fE ?_,#[s1,by lia,ek1,ek4,by lia,by lia,by lia,hk,?_,?_,?_],s2,by lia,by lia,by lia]
 rotate_left
 ·intro t e;show fS (ks.length:Int) t=B;rw[ek];exact fh t (UZ e)
 ·intro t e;show fB (ks.length:Int) c t=B;rw[ek];exact fb t (UZ e)
 ·intro t e;show fB (ks.length:Int) c t=B;rw[ek];exact fd t (UZ e)
 simp only[Uf];refine sq (by simp[a0,hm]<;>rfl) (sq (by simp[a1,qmo,hs]<;>rfl) (sq (by simp<;>rfl) (sq (by simp[sm,K2]<;>rfl) (sq (by simp[a14,a15,a16,a17,a18,o,<-UQ]<;>rfl) (sq (by simp[a19,qs]<;>rfl) (sq (by simp[a20,W]<;>rfl) (sq (by simp[a21,o,<-X]<;>rfl) (sq (by simp[a22,a23,o,qs,<-ds0']<;>rfl) ?_))))))));simp[a24,a25,a26,c1,c2,c3,jy]
mutual
noncomputable def m3:D->Prop
 |.tup l=>l.length<=sizeLine/\WE l
 |.lst l=>l.length<=sizeLine/\WE l
 |.ins _ _ _=>False
 |.scr _=>False
 |.dct _ _=>False
 |.exn _ _=>False
 |.mem _=>False
 |.dk _ _=>False
 |.obj _ _ _ _ _=>False
 |_=>True
noncomputable def WE:L D->Prop
 |[]=>True
 |d::a=>m3 d/\WE a
end
theorem KQ:∀{l d},WE l->d∈l->m3 d
 |e::l,d,h,a=>by
  rcases uTa a with rfl|a
  ·exact h.1
  ·exact KQ h.2 a
def xZ(l):List.zipWith (λp q=>D.tup [p,q]) l l=l.map λx=>D.tup [x,x]:=by simp
abbrev ue(l:L a):=YS (λ_=>B) l
def VI(C:Addr)(d:D):∀n:Nat,m3 d->dep d<n->J9 C n [d,d]=S (.bl B):=by
 induction d using D.ind with
 |h d o m=>
  intro n f k;cases n with
  |zero=>lia
  |succ n=>
   have j:∀l:L D,(∀x∈l,J9 C n [x,x]=S (.bl B))->JX (gT 2 (gC (gN 0) (gC (gN 1) gZ))) Jc (jo (J9 C n) [(G,dV 0),(G,dV 1)]) _ [.un,.un]=S (l.map λ_=>D.bl B):=λl h=>JO (λx=>D.tup [x,x]) _ λx g=>#[_,rfl,rfl,by simp[h x g]]
   simp only[J9,vS];cases d with
   |non=>simp
   |bl b=>simp[wo,gw]
   |int i=>simp[wo,gw]
   |str s=>simp[wo,gw]
   |tup l=>
    rw[We]at k;have q:=j l λx g=>o l rfl x g n (KQ f.2 g) (by have:=Kw g;lia);simp[wo,gw,xZ,q,f.1,ue]
   |lst l=>
    rw[Zu]at k;have q:=j l λx g=>m l rfl x g n (KQ f.2 g) (by have:=Kw g;lia);simp[wo,gw,xZ,q,f.1,ue]
   |ins r p t=>exact f.elim
   |scr p=>exact f.elim
   |dct w u=>exact f.elim
   |exn c v=>exact f.elim
   |mem l=>exact f.elim
   |dk a b=>exact f.elim
   |obj a b c d e=>exact f.elim
structure Form (b s) extends Fit b s where
 wn:∀x∈s.waits,0<=x
def x_{k}{i:Nat}{t m}(c:b.dues[i]?=S t)(a:s.met[i]?=S m):(Z6 b s k)[i]?=S (m||Zx k (s.place+1) t):=by
 unfold Z6;rw[List.getElem?_zipWith,c,a]
abbrev aI:Y Sd->D
 |none=>.non
 |S s=>Jq s
abbrev wL(b:Bk)(s:Sd)(k:Int)(i:Nat)(t:T3)(x:Int):=if i=k then 0 else mx ((if i=s.kind then t.2.2 else x)-1) 0
def FQ{s k i t x}(X:Fit b s)(h:zl b k)(n:b.kinds[i]?=S t)(f:s.waits[i]?=S x):(vY b s k)[i]?=S (wL b s k i t x):=by
 have o:=(uSa f).1;have p:=h.1;have m:∀j ,0<=j->j.toNat=i->Ym b.kinds j=t:=λj r g=>by
  unfold Ym;rw[g,uBa,n];rfl
 unfold vY wL;by_cases e:i=k
 ·have c:k.toNat=i:=by lia
  rw[if_pos e,c,List.getElem?_set];rw[if_pos rfl,if_pos (by split<;>simp<;>lia)]
 ·have c:k.toNat≠i:=by lia
  rw[if_neg e,List.getElem?_set,if_neg c];by_cases l:s.kind=-1
  ·simp_all
  ·have u:=X.c0;rw[if_neg l,List.getElem?_set];by_cases d:i=s.kind
   ·have a:s.kind.toNat=i:=by lia
    rw[if_pos a,if_pos d,if_pos (by rw[vYa];lia),m s.kind (by lia) a]
   ·have a:¬s.kind.toNat=i:=by lia
    rw[if_neg a,if_neg d,uAa,f];rfl
theorem kL:∀l:L Int,yH (l.map D.int)=0
 |[]=>rfl
 |x::l=>by rw[vWa,yH,kL l];rfl
theorem qi:∀l m:L Int,l.length=m.length->zu (l.map D.int) (m.map D.int)=S (decide (l=m))
 |[],[],_=>rfl
 |[],_::_,h=>by simp at h
 |_::_,[],h=>by simp at h
 |x::l,y::m,h=>by
  rw[vWa,vWa,zu,qi l m (by simpa using h),zt];simp only[Option.bind_some];by_cases a:x=y<;>by_cases b:l=m<;>simp[a]
def FR(l m:L Int):Ju (.lst (l.map D.int)) (.lst (m.map D.int))=S (.bl (!decide (l=m))):=by
 have e:dep (.lst (l.map D.int))<=20:=by rw[Zu,kL];decide
 have a:vg (D.lst (l.map D.int)) (D.lst (m.map D.int))=B:=rfl;unfold Ju;rw[if_pos a];unfold VY;rw[if_pos #[a,e],zt];by_cases h:l.length=m.length
 ·rw[if_pos (by simpa using h),qi l m h];rfl
 ·have b:¬l=m:=λz=>h (by rw[z]);rw[if_neg (by simpa using h),decide_eq_false b];rfl
def m6(l):Ju (.lst (l.map D.int)) (.lst [])=S (.bl (!decide (l=[]))):=FR l []
def X0{d:D}:atI (l++[d]) (-1)=S d:=by
 unfold atI Gh;rw[if_neg Sq,if_pos (by simp;lia),vZa,uIa];have:(-1+((l.length+1:Nat):Int)).toNat=l.length:=by lia
 rw[this];simp 
def Em(x):0<=mx x 0:=by unfold mx;split<;>lia
abbrev X6{a:L Int}{i x y}(h:y∈a.set i x):=List.mem_or_eq_of_mem_set h
set_option tactic.hygienic true in
theorem Form.next{s}(X:Form b s){k}(h:zl b k):Form b (Zd b s k):=by
 refine#[X.toFit.next h,λx a=>?_];have c:∀x∈s.waits.map (λx=>mx (x-1) 0),0<=x:=λx a=>by
  let ja y _ rfl:=uVa a;exact Em _
 rcases X6 a with a|rfl
 ·split at a
  ·exact c x a
  ·rcases X6 a with a|rfl
   ·exact c x a
   ·exact Em _
 ·lia
def Form.empty(b):Form b (JE b):=#[Fit.empty b,λx a=>by
 have:=List.eq_of_mem_replicate a
 lia]
theorem VE{k}:∀{a c s},J8 b c a=(s,J)->Jt b s k=J->J8 b c (a++[k])=(Zd b s k,J)
 |[],c,s,h,d=>by
  cases h;rw[uQa,J8,d];rfl
 |n::a,c,s,h,d=>by
  rw[J8]at h;rw[List.cons_append,J8];cases q:Jt b c n with
  |some w=>rw[q]at h;cases h
  |none=>rw[q]at h;exact VE h d
set_option tactic.hygienic true in
theorem wM{s a k}(h:zW b s k=S a):Jt b s k=J/\a=Zd b s k/\s.place<b.size:=by
 unfold zW at h;split at h
 ·exact Zn h
 ·simp_all
abbrev ra(row:L Int)(i):=row.getD i 0
def zL{i}(h:i<row.length):row[i]?=S Sn:=by
 unfold ra;rw[uBa,uCa h];rfl
def VF{row:L Int}{i}{k:Int}(h:i<row.length)(a:k=i):atI (row.map D.int) k=S (.int Sn):=by
 subst a;refine UM (by lia) ?_;rw[uAa,Int.toNat_natCast,zL h];rfl
abbrev yX(row:L Int):Nat->Nat
 |0=>1
 |i+1=>if ra row (i+1)=ra row i then yX row i+1 else 1
def dR(row i):1<=yX row i:=by
 cases i with
 |zero=>exact wPa _
 |succ i=>unfold yX;split<;>lia
theorem X7(row):∀(i a),1<=a->a<=i+1->(∀j,j<a->ra row (i-j)=ra row i)->¬(a<=i/\ra row (i-a)=ra row i)->yX row i=a
 |0,a,f,c,_,_=>by unfold yX;lia
 |i+1,a,f,c,b,d=>by
  unfold yX;by_cases e:ra row (i+1)=ra row i
  ·have h:2<=a:=by
    by_cases z:a=1
    ·simp_all
    ·lia
   have g:=X7 row i (a-1) (by lia) (by lia) (λj k=>by
    have:=b (j+1) (by lia);rw[show i+1-(j+1)=i-j by lia]at this;rw[this,e]) (λz=>d #[by lia,by rw[show i+1-a=i-(a-1) by lia,z.2,e]])
   lia
  ·by_cases z:a=1
   ·lia
   ·exact vDa (by have:=b 1 (by lia);exact this.symm) e
def X8(C:Addr)(row)(i:Nat)(h:i<row.length)(v:row.length<=1000){k:Int}(u:k=(i:Int)):ZT C [.lst (row.map .int),.int k]=S (.int (yX row i)):=by
 subst u;let jw s m u0 r:=xJ (dt:=Yy C) (s:=uj C) (λd=>∃a:Nat,d=[.bo (.lst (row.map .int)),.bo (.int (i:Int)),.cl (.int a)]/\1<=a/\a<=i+1/\∀j,j<a->ra row (i-j)=ra row i) (λd=>match d with|[_,_,.cl (.int z)]=>i+2-z.toNat|_=>0) (λd=>by
   rintro⟨a,rfl,n,l,e⟩;have c:=VF h rfl;by_cases g:a<=i
   ·have b:=VF (row:=row) (i:=i-a) (k:=i-a) (by lia) (by lia);by_cases f:ra row (i-a)=ra row i
    ·right;refine#[by simp[Yy,c,b,g,f],_,by simp[uj],#[a+1,rfl,by lia,by lia,λj o=>?_],?_]
     ·by_cases p:j=a
      ·rw[p];exact f
      ·exact e j (by lia)
     ·lia
    ·left;simp[Yy,c,b,g,f]
   ·left;simp[Yy,g]) (n:=20000) #[1,rfl,wPa _,by lia,λj o=>congrArg (ra row) (by lia)] (by lia);let q a rfl n l e:=u0
 have t:=X7 row i a n l e (λz=>by
  have c:=VF h rfl;have b:=VF (row:=row) (i:=i-a) (k:=i-(a:Int)) (by lia) (by lia);simp[Yy,c,b,z.1,z.2]at r)
 rw[t];simp only[ZT,gR];simp at m;simp[m]
abbrev U_(a:L Int):Nat->Int->Y Nat
 |0,_=>J
 |i+1,c=>if ra a i=c then S i else U_ a i c
abbrev U1(b:Bk)(a:L Int)(i:Nat)(c:Int):Int:=match U_ a i c with
 |none=>0
 |S j=>if j+1=i then 0 else mx ((Ym b.kinds c).2.2-(i-1-j)) 0
abbrev uI(row:L Int):Nat->T3->Bool
 |0,_=>G
 |i+1,t=>uI row i t||Zx Sn (i+1) t
theorem X9:∀{i j c},U_ a i c=S j->j<i/\ra a j=c
 |0,j,c,h=>Zn h
 |i+1,j,c,h=>by
  unfold U_ at h;split at h
  ·simp_all
  ·have:=X9 h;exact#[by lia,this.2]
theorem KR:∀{i c},U_ a i c=J->∀j,j<i->ra a j≠c
 |0,c,h,j,b=>by lia
 |i+1,c,h,j,b=>by
  unfold U_ at h;split at h
  ·exact Zs h
  ·by_cases e:j=i
   ·rw[e];assumption
   ·exact KR h j (by lia)
theorem KS:∀{i j c},U_ a i c=S j->∀m,j<m->m<i->ra a m≠c
 |0,j,c,h,m,b,d=>by lia
 |i+1,j,c,h,m,b,d=>by
  unfold U_ at h;split at h
  ·obtain rfl:=Zj h;lia
  ·by_cases e:m=i
   ·rw[e];assumption
   ·exact KS h m b (by lia)
structure StOf (b:Bk) (row) (i:Nat) (s:Sd) where
 pl:s.place=i
 kd:s.kind=if i=0 then -1 else ra row (i-1)
 ln:s.len=if i=0 then 0 else(yX row (i-1):Int)
 bf:s.before=if i<2 then -1 else ra row (i-2)
 ws:∀c ,c<b.kinds.length->s.waits[c]?=S (U1 b row i c)
 ms:∀(j:Nat) (t),b.dues[j]?=S t->s.met[j]?=S (uI row i t)
 fo:Form b s
def StOf.empty(b a):StOf b a 0 (JE b):=#[rfl,rfl,rfl,rfl,λc d=>by simp[JE,d,U1,U_],λj t e=>by
 have:=(uSa e).1;simp[JE,this,uI],Form.empty b]
def StOf.run{row i s}(R:StOf b row i s)(c:0<=ra row i):KI s Sn=(yX row i):=by
 unfold KI;rw[R.kd,R.ln];cases i with
 |zero=>
  rw[if_pos rfl,if_neg (show¬(-1)=ra row 0 by lia)];rfl
 |succ i=>
  have a:yX row (i+1)=if ra row (i+1)=ra row i then yX row i+1 else 1:=rfl
  simp only[Nat.add_sub_cancel,if_neg (Nat.succ_ne_zero i)];rw[a];by_cases e:ra row i=ra row (i+1)
  ·simp_all
  ·rw[if_neg e,if_neg (λz=>e z.symm)];rfl
def BZ(b a i s)(R:StOf b a i s)(c t)(m:b.kinds[c]?=S t):wL b s (ra a i) c t (U1 b a i c)=U1 b a (i+1) c:=by
 have o:Ym b.kinds c=t:=by
  unfold Ym;rw[Int.toNat_natCast,uBa,m];rfl
 have n:U_ a (i+1) _=if ra a i=c then S i else U_ a i c:=rfl
 unfold wL U1;rw[o,n];by_cases h:c=ra a i
 ·simp_all
 ·rw[if_neg h,if_neg (show¬ra a i=c from λz=>h z.symm)];rw[R.kd];cases g:U_ a i _ with
  |none=>
   have l:=KR g;by_cases d:i=0
   ·subst d;simp[mx]
   ·have f:=l (i-1) (by lia);rw[if_neg d];rw[if_neg (λz=>f z.symm)];simp[mx]
  |some j=>
   let q p f:=X9 g;have d:¬i=0:=by lia
   rw[if_neg d];by_cases k:j+1=i
   ·have e:c=ra a (i-1):=by rw[<-f];congr 1;lia
    simp only[if_pos e,if_neg (show¬j+1=i+1 by lia)];congr 1
    lia
   ·have e:¬c=ra a (i-1):=λz=>KS g (i-1) (by lia) (by lia) z.symm;simp only[if_neg e,if_neg k,if_neg (show¬j+1=i+1 by lia)];unfold mx;split<;>split<;>split<;>lia
def StOf.next{a i s}(R:StOf b a i s)(h:zl b (ra a i)):StOf b a (i+1) (Zd b s (ra a i)) where
 pl:=by show s.place+1=_;rw[R.pl];lia
 kd:=by rfl
 ln:=by exact R.run h.1
 bf:=by
  show s.kind=_;rw[R.kd];by_cases e:i=0
  ·simp_all
  ·rw[if_neg e,if_neg (by lia)];rfl
 ws:=λc g=>by
  have f:=R.ws c g;have d:b.kinds[c]?=S b.kinds[c]:=by simp 
  rw[<-BZ b a i s R c _ d];exact FQ R.fo.toFit h d f
 ms:=λj t d=>by
  have:=x_ (k:=ra a i) d (R.ms j t d);rw[R.pl]at this;exact this
 fo:=R.fo.next h
theorem qj:∀l:L Int,QJ (l.map D.int)=S (l.map V.int)
 |[]=>rfl
 |x::l=>by rw[vWa,QJ,qj l];rfl
def dS(k)(l:L Int):XU (.int k) (l.map V.int)=decide (k∈l):=by
 unfold XU;induction l with
 |nil=>simp
 |cons x l b=>
  rw[vWa,List.any_cons,b];show((x==k)||_)=_;by_cases e:x=k
  ·simp[e]
  ·have a:¬k=x:=λz=>e z.symm;simp[e,a]
def aJ(a k)(l:L Int):Zb a (.int k) (.lst (l.map D.int))=S (.bl (if a then !decide (k∈l)else decide (k∈l))):=by
 simp[qj,dS]
def aK{f e k}(c:e<=row.length):k∈(row.drop f).take (e-f)↔∃j,f<=j/\j<e/\ra row j=k:=by
 rw[List.mem_iff_getElem?];constructor
 ·rintro⟨n,a⟩;rw[List.getElem?_take]at a;split at a
  ·rw[List.getElem?_drop]at a;refine#[f+n,by lia,by lia,?_];have:=zL (row:=row) (i:=f+n) (by lia);rw[this]at a;exact vFa a
  ·exact Zn a
 ·rintro⟨j,b,d,rfl⟩;refine#[j-f,?_];rw[List.getElem?_take,if_pos (by lia),List.getElem?_drop,show f+(j-f)=j by lia];exact zL (by lia)
def dT{k}(h:zl b k)(c:OkB b):fK (Ym b.kinds k)=B:=by
 refine c.ks _ ?_;unfold Ym;have a:k.toNat<b.kinds.length:=by have:=h.1;have:=h.2;lia
 rw[uBa,uCa a];exact List.getElem_mem a
abbrev wN(b:Bk)(s:Sd)(k:Int):Y Str:=if gK b s k=B then S "long" else if zA b s k=B then S "short" else if Ze s k=B then S "early" else if gM b s k=B then S "shun" else J
def dU{row i s}(R:StOf b row i s)(y:OkB b)(o:∀n∈row,zl b n)(r:i<row.length)(f:Nat)(l:f=if i-(Ym b.kinds Sn).2.2 > 0 then i-(Ym b.kinds Sn).2.2 else 0)(a:s.kind≠ra row i):Ze s Sn=decide (ra row i∈(row.drop f).take (i-f)):=by
 have g:=o _ (wYa (zL r));have x:=R.ws (ra row i).toNat (by have:=g.1;have:=g.2;lia)
 have A:((ra row i).toNat)=ra row i:=by have:=g.1;lia
 unfold Ze;rw[decide_eq_false a,Bool.not_false,Bool.true_and,uBa,x];show(!decide _)=_;have v:U1 b row i Sn ≠0↔ra row i∈(row.drop f).take (i-f):=by
  rw[aK (by lia)];unfold U1;have h:=R.kd;cases d:U_ row i _ with
  |none=>
   simp only[ne_eq,not_true_eq_false,false_iff];rintro⟨j,k,c,p⟩;exact KR d j c p
  |some j=>
   let q k c:=X9 d;have w:¬j+1=i:=λz=>a (by
    rw[h,if_neg (by lia),<-c];congr 1
    lia)
   simp only[if_neg w];have u:mx ((Ym b.kinds Sn).2.2-(i-1-j)) 0≠0↔i-1-j<(Ym b.kinds Sn).2.2:=by
    unfold mx;split<;>lia
   rw[u];constructor
   ·intro z;refine#[j,?_,k,c];split at l<;>lia
   ·rintro⟨e,C,m,t⟩;have:e<=j:=by
     by_cases z:e<=j
     ·exact z
     ·exact vDa t (KS d e (by lia) m)
    split at l<;>lia
 by_cases z:U1 b row i Sn=0
 ·simp_all
 ·simp_all
def FT(C:Addr)(b:Bk)(row:L Int)(i:Nat)(s:Sd)(ok:OkB b)(hr:∀n∈row,zl b n)(hi:i<row.length)(hl:row.length<=1000)(R:StOf b row i s):Vp C [jy b,.lst (row.map .int),.int (i:Int)]=S (oS (wN b s Sn)):=by
 have hk:=hr Sn (wYa (zL hi));have fk:=dT hk ok;unfold fK at fk;simp only[Bool.and_eq_true,decide_eq_true_eq]at fk;have a0:=VF (row:=row) (k:=(i:Int)) hi rfl;have e1:=X8 C row i hi hl (k:=(i:Int)) rfl;have ek:=vl hk.1 hk.2;have g:=R.run hk.1;have P:s.kind=ra row i->1<=s.len:=λz=>by
  rw[R.ln];have:=R.kd;by_cases e:i=0
  ·rw[if_pos e]at this;have:=hk.1;lia
  ·rw[if_neg e];have:=dR row (i-1);lia
 unfold KI at g;have r:gK b s Sn=decide ((Ym b.kinds Sn).2.1<(yX row i:Int)):=by
  unfold gK;by_cases z:s.kind=ra row i
  ·rw[if_pos z]at g;rw[decide_eq_true z,Bool.true_and];by_cases y:s.len>=(Ym b.kinds Sn).2.1
   ·rw[decide_eq_true y,decide_eq_true (by lia)]
   ·rw[decide_eq_false y,decide_eq_false (by lia)]
  ·rw[if_neg z]at g;rw[decide_eq_false z,Bool.false_and,decide_eq_false (by lia)]
 have o:(yX row i:Int)=1↔s.kind≠ra row i:=by
  by_cases z:s.kind=ra row i
  ·rw[if_pos z]at g;have:=P z;constructor
   ·intro y;lia
   ·intro y;exact vDa z y
  ·rw[if_neg z]at g;exact#[λ_=>z,λ_=>g.symm]
 have a:=λ(H k I:Sl)=>vj (g:=zf) (s:=Y0 C) (items:=b.shuns.map t3) (λρ=>∃x y z,ρ=[.bo (jy b),.bo (.lst (row.map .int)),.bo (.int (i:Int)),.cl (.int Sn),H,k,I,x,y,z]) (xS (uh s Sn)) (.rt (.str "shun")) (.inl #[_,rfl]) (by
  rintro d hd ρ ⟨x,y,z,rfl⟩;let ja t ht rfl:=uVa hd;have O:=ok.hs t ht;let q u v w:=t;unfold fS at O;simp only[Bool.and_eq_true,decide_eq_true_eq]at O;refine#[_,rfl,?_];rw[zJ];unfold uh;simp only[Y0];by_cases Z:v=ra row i
  ·have c:=R.kd;have l:=R.bf;by_cases h1:w=1
   ·subst h1;by_cases h3:1<=i
    ·have N:=VF (row:=row) (i:=i-1) (k:=(i:Int)-1) (by lia) (by lia);rw[if_neg (by lia)]at c;have h:(1:Int)<=(i:Int):=by lia
     have h3'':0<i:=by lia
     by_cases h4:ra row (i-1)=u<;>simp[Z,h3,h,h3'',N,c,h4]
    ·have h:i=0:=by lia
     rw[if_pos h]at c;have h5:¬(-1:Int)=u:=by lia
     simp[Z,h,c,h5]
   ·have h1:w=2:=by lia
    subst h1;by_cases h3:2<=i
    ·have N:=VF (row:=row) (i:=i-2) (k:=(i:Int)-2) (by lia) (by lia);rw[if_neg (by lia)]at l;have h:(2:Int)<=(i:Int):=by lia
     by_cases h4:ra row (i-2)=u<;>simp[Z,h,N,l,h4]
    ·rw[if_pos (by lia)]at l;have h:¬(2:Int)<=(i:Int):=by lia
     have h5:¬(-1:Int)=u:=by lia
     simp[Z,h,l,h5]
  ·simp[Z]) (b:=[.bo (jy b),.bo (.lst (row.map .int)),.bo (.int (i:Int)),.cl (.int Sn),H,k,I,.un,.un,.un]) #[.un,.un,.un,rfl]
 have hsh:gM b s Sn=b.shuns.any (uh s Sn):=rfl;simp only[any_map t3 _ (uh s Sn) (zJ _),<-hsh]at a;unfold wN;rw[r];refine fE (sq (by simp[a0]<;>rfl) (sq (by simp[e1]<;>rfl) ?_));by_cases c1:(Ym b.kinds Sn).2.1<(yX row i:Int)
 ·rw[decide_eq_true c1];exact yu (JG (by simp[ek,c1]) rfl)
 rw[decide_eq_false c1];refine sq (jH (by simp[ek,c1]) rfl) ?_;have fin:∀H k I:Sl,(jb (Yg (JH (d2 jg (dV 0) (dK (.int 2)))) zf (Y0 C)) (ju (dK .non))) [.bo (jy b),.bo (.lst (row.map .int)),.bo (.int (i:Int)),.cl (.int Sn),H,k,I,.un,.un,.un]=S (.rt (oS (if gM b s Sn=B then S "shun" else J))):=λH k I=>by
  rcases a H k I with⟨L1,L2⟩|⟨L1,ρ',_,L2⟩<;>rw[L1]
  ·exact yu L2
  ·exact sq L2 rfl
 by_cases M:s.kind=ra row i
 ·have m:¬(yX row i:Int)=1:=λz=>o.mp z M;have s1:zA b s Sn=G:=by unfold zA;simp[M]
  have s2:Ze s Sn=G:=by unfold Ze;simp[M]
  have W:¬yX row i=1:=λz=>m (by lia);rw[s1,s2];refine sq (jH (by by_cases F:0<i<;>simp[F,m,W]) rfl) (sq (jH (by simp[m,W]) rfl) (fin _ _ _))
 ·have m:yX row i=1:=by have:=o.mpr M;lia
  obtain⟨f,O⟩:∃f:Nat,(f:Int)=if(i:Int)-(Ym b.kinds Sn).2.2 > 0 then(i:Int)-(Ym b.kinds Sn).2.2 else 0:=#[(if(i:Int)-(Ym b.kinds Sn).2.2 > 0 then(i:Int)-(Ym b.kinds Sn).2.2 else 0).toNat,by split<;>lia]
  have hea:=dU R ok hr hi f O M;have hfi:f<=i:=by split at O<;>lia
  have ec:Jd (row.map D.int) (S (f:Int)) (S (i:Int))=((row.drop f).take (i-f)).map D.int:=by
   rw[J_,xY row f i (by lia) (by lia)]
  have j:=aJ G Sn ((row.drop f).take (i-f));rw[<-hea]at j;have emx:Uc [.int 0,.int ((i:Int)-(Ym b.kinds Sn).2.2)]=S (.int (f:Int)):=by rw[O];rfl
  generalize(row.drop f).take (i-f)=cut at ec j;refine Pd (λUQ=>zA b s Sn=G/\∃k,UQ=[.bo (jy b),.bo (.lst (row.map .int)),.bo (.int (i:Int)),.cl (.int Sn),.cl (.int (yX row i)),k,.un,.un,.un,.un]) ?_ ?_
  ·have c:=R.kd;by_cases F:i=0
   ·rw[if_pos F]at c;exact .inr #[_,jH (by simp[F]) rfl,by unfold zA;simp[c],_,rfl]
   ·rw[if_neg F]at c;have N:=VF (row:=row) (i:=i-1) (k:=(i:Int)-1) (by lia) (by lia);have A:=hr (ra row (i-1)) (wYa (zL (by lia)));have X:=vl A.1 A.2;have T:=X8 C row (i-1) (by lia) hl (k:=(i:Int)-1) (by lia);have Q:0<i:=by lia
    have p:zA b s Sn=decide ((yX row (i-1):Int)<(Ym b.kinds (ra row (i-1))).1):=by
     unfold zA;have n1:¬s.kind=-1:=by rw[c];have:=A.1;lia
     rw[decide_eq_false M,decide_eq_false n1,R.ln,if_neg F,c];rfl
    by_cases c4:(yX row (i-1):Int)<(Ym b.kinds (ra row (i-1))).1
    ·rw[p,decide_eq_true c4];exact .inl #[_,JG (by simp[Q,m]) (sq (by simp[N,X]<;>rfl) (JG (by simp[T,c4]) rfl)),rfl]
    ·rw[p,decide_eq_false c4];exact .inr #[_,JG (by simp[Q,m]) (sq (by simp[N,X]<;>rfl) (jH (by simp[T,c4]) rfl)),rfl,_,rfl]
  ·rintro UQ ⟨s1,k,rfl⟩;rw[s1];cases he:Ze s Sn<;>rw[he]at j
   ·exact sq (JG (by simp[m]) (sq (by simp[-Uc,ek,emx]<;>rfl) (jH (by simp[-Zb,ec,j]) rfl))) (fin (.cl (.int (yX row i))) k (.cl (.int (f:Int))))
   ·exact yu (JG (by simp[m]) (sq (by simp[-Uc,ek,emx]<;>rfl) (JG (by simp[-Zb,ec,j]) rfl)))
theorem Xa(a t):∀n ,uI a n t=B↔∃j,j<n/\Zx (ra a j) (j+1) t=B
 |0=>by simp[uI]
 |n+1=>by
  unfold uI;rw[Bool.or_eq_true,Xa a t n];constructor
  ·rintro(⟨j,c,b⟩|h)
   ·exact#[j,by lia,b]
   ·exact#[n,by lia,h]
  ·rintro⟨j,c,b⟩;by_cases e:j=n
   ·simp_all
   ·exact .inl #[j,by lia,b]
def FU{i f:Nat}{t:T3}(h:i<row.length)(g:f=t.2.1-1)(e:t.2.2=i+1):uI row (i+1) t=decide (t.1∈(row.drop f).take (i+1-f)):=by
 have d:uI row (i+1) t=B↔t.1∈(row.drop f).take (i+1-f):=by
  rw[Xa,aK (by lia)];constructor
  ·rintro⟨j,b,a⟩;unfold Zx at a;simp only[Bool.and_eq_true,decide_eq_true_eq]at a;exact#[j,by lia,b,a.1.symm]
  ·rintro⟨j,b,a,c⟩;refine#[j,a,?_];unfold Zx;simp only[Bool.and_eq_true,decide_eq_true_eq];exact#[c.symm,by lia,by lia]
 by_cases z:t.1∈(row.drop f).take (i+1-f)
 ·simp_all
 ·simp_all
abbrev bw(row:L Int)(i:Nat)(t:T3):=decide (t.2.2=i+1)&&!uI row (i+1) t
def FV{a i s}(R:StOf b a i s):List.zip b.dues (Z6 b s (ra a i))=b.dues.map λt=>(t,uI a (i+1) t):=by
 apply List.ext_getElem?;intro j;rw[uAa,List.zip,List.getElem?_zipWith];cases h:b.dues[j]? with
 |none=>rfl
 |some t=>
  have:=x_ (k:=ra a i) h (R.ms j t h);rw[R.pl]at this;rw[this];rfl
def m7{row i s}(R:StOf b row i s):Wx b s Sn=b.dues.any (bw row i):=by
 unfold Wx;rw[FV R,List.any_map,R.pl];rfl
def Xb(b s k):Jt b s k=if vm b s k=B then S (Str.ofString "barred")else match wN b s k with
  |S w=>S w
  |none=>if Wx b s k=B then S (Str.ofString "due")else if Wy b s k=B then S (Str.ofString "cut")else J:=by
 unfold Jt wN;cases vm b s k<;>cases gK b s k<;>cases zA b s k<;>cases Ze s k<;>cases gM b s k<;>rfl
def Xc(C:Addr)(b:Bk)(row:L Int)(i:Nat)(s:Sd)(UQ:OkB b)(O:∀n∈row,zl b n)(h:i<row.length)(T:row.length<=1000)(R:StOf b row i s):ZU C [jy b,.lst (row.map .int),.int (i:Int)]=S (oS (Jt b s Sn)):=by
 have p:=O Sn (wYa (zL h));have a0:=VF (row:=row) (k:=(i:Int)) h rfl;have Q:=X8 C row i h T (k:=(i:Int)) rfl;have X:=vl p.1 p.2;have j:=R.run p.1;have Z:=FT C b row i s UQ O h T R;have a:=vj (g:=UN) (s:=vp C) (items:=b.bars.map t3) (λg=>∃x,g=[.bo (jy b),.bo (.lst (row.map .int)),.bo (.int (i:Int)),.cl (.int Sn),x,.un,.un]) (xS (Zx Sn ((i:Int)+1))) (.rt (.str "barred")) (.inl #[_,rfl]) (by
  rintro d z g ⟨x,rfl⟩;let ja t _ rfl:=uVa z;let q u v w:=t;refine#[_,rfl,?_];rw[zJ];unfold Zx;simp only[vp];by_cases e:u=ra row i
  ·by_cases N:v<=(i:Int)+1
   ·by_cases h3:(i:Int)+1<=w<;>simp[e,N,h3]
   ·simp[e,N]
  ·simp[e]) #[.un,rfl]
 have H:vm b s Sn=b.bars.any (Zx Sn ((i:Int)+1)):=by unfold vm;rw[R.pl]
 rw[any_map t3 _ (Zx Sn ((i:Int)+1)) (zJ _),<-H]at a;have M:=λ(x4:Sl)=>vj (g:=UO) (s:=vq C) (items:=b.dues.map t3) (λg=>∃x,g=[.bo (jy b),.bo (.lst (row.map .int)),.bo (.int (i:Int)),.cl (.int Sn),x4,.cl .non,x]) (xS (bw row i)) (.rt (.str "due")) (.inl #[_,rfl]) (by
  rintro d z g ⟨x,rfl⟩;let ja t ht rfl:=uVa z;have W:=UQ.ds t ht;unfold fB at W;simp only[Bool.and_eq_true,decide_eq_true_eq]at W;refine#[_,rfl,?_];rw[zJ];unfold bw;simp only[vq];by_cases e:t.2.2=(i:Int)+1
  ·obtain⟨f,k⟩:∃f:Nat,(f:Int)=t.2.1-1:=#[(t.2.1-1).toNat,by lia]
   have hm:=FU h k e;have r:Jd (row.map D.int) (S (t.2.1-1)) (S ((i:Int)+1))=((row.drop f).take (i+1-f)).map D.int:=by
    rw[<-k,show(i:Int)+1=((i+1:Nat):Int) by lia,J_,xY row f (i+1) (by lia) (by lia)]
   have c:=aJ B t.1 ((row.drop f).take (i+1-f));rw[<-hm]at c;revert r c;generalize(row.drop f).take (i+1-f)=cut;intro r c;cases F:uI row (i+1) t<;>rw[F]at c<;>simp[-Zb,e,r,c]
  ·simp[e]) #[.un,rfl]
 simp only[any_map t3 _ (bw row i) (zJ _),<-m7 R]at M;rw[Xb];refine fE (sq (Bn a0 rfl) ?_);rcases a with⟨P,L2⟩|⟨P,o,⟨x,rfl⟩,L2⟩<;>rw[P]
 ·exact yu L2
 ·refine sq L2 (sq (Bn Z rfl) ?_);cases hn:wN b s Sn with
  |some w=>exact yu (JG rfl rfl)
  |none=>
   refine sq Sy ?_;rcases M x with⟨I,A⟩|⟨I,o,⟨y,rfl⟩,A⟩<;>rw[I]
   ·exact yu A
   ·have hc:Wy b s Sn=(decide ((i:Int)+1=b.size)&&decide ((yX row i:Int)<(Ym b.kinds Sn).1)):=by unfold Wy;rw[R.pl,j]
    refine sq A ?_;rw[hc];by_cases l:(i:Int)+1=b.size
    ·by_cases m:(yX row i:Int)<(Ym b.kinds Sn).1
     ·rw[decide_eq_true l,decide_eq_true m];exact yu (JG (by simp[Q,X,l,m]) rfl)
     ·rw[decide_eq_false m,Bool.and_false];exact sq (jH (by simp[Q,X,l,m]) rfl) rfl
    ·rw[decide_eq_false l];exact sq (jH (by simp[l]) rfl) rfl
def KT{a i s}(c:i<a.length):J8 b s (a.drop i)=match Jt b s (ra a i)with
  |S w=>(s,S w)
  |none=>J8 b (Zd b s (ra a i)) (a.drop (i+1)):=by
 have e:a.drop i=ra a i::a.drop (i+1):=by
  have h:=zL c;rw[List.drop_eq_getElem_cons c];rw[uCa c]at h;rw[Option.some.inj h]
 rw[e,J8];all_goals(cases Jt b s _<;>rfl)
def Gb(h:(JZ 0 n)[i]?=S d):i<n/\d=.int i:=by
 unfold JZ at h;rw[uAa]at h;by_cases z:i<n
 ·rw[List.getElem?_range z]at h;refine#[z,?_];have:=vFa h;rw[<-this];simp
 ·simp_all
def wO(C b c)(z:OkB b)(m:∀n∈c,zl b n)(u:c.length<=1000):Zl C [jy b,.lst (c.map .int)]=S (oJ (yL b c)):=by
 have a:=dg (g:=uZ) (s:=ZV C) (r:=.nx []) (λi l=>∃x y s,l=[.bo (jy b),.bo (.lst (c.map .int)),x,y]/\StOf b c i s/\J8 b _ c=J8 b s (c.drop i)) (λi r=>∃s w,J8 b _ c=(s,S w)/\r=.rt (.tup [.int (s.place+1),.str w])) (by
  rintro i d l j ⟨x,y,s,rfl,R,f⟩;let q k rfl:=Gb j;have e:=Xc C b c i s z m k u R;have v:=m _ (wYa (zL k));rw[KT k]at f;refine#[_,rfl,?_];simp only[ZV];cases p:Jt b s _ with
  |some w=>
   rw[p]at e f;exact .inr #[.tup [.int (i+1),.str w],by simp[e,oS],s,w,f,by rw[R.pl]]
  |none=>
   rw[p]at e f;exact .inl #[[.bo (jy b),.bo _,.cl (.int i),.cl .non],by simp[e,oS],_,_,_,rfl,R.next v,f]) (c:=[.bo (jy b),.bo _,.un,.un]) #[_,_,_,rfl,StOf.empty b c,rfl]
 have o:yj c.length=B:=zT (by lia) (by lia);simp only[Zl,Va];rcases a with⟨t,g,x,y,s,rfl,R,f⟩|⟨i,A,_,g,s,w,f,j⟩
 ·have h:yL b c=J:=by
   unfold yL;rw[f];have:c.drop (JZ 0 c.length).length=[]:=List.drop_eq_nil_of_le (by simp[JZ]);rw[this];rfl
  rw[h];simp[o,g,oJ]
 ·cases j;have h:yL b c=S (s.place+1,w):=by
   unfold yL;rw[f]
  rw[h];simp[o,g,oJ]
theorem StOf.walk{a}(h:∀n∈a,zl b n){f}:∀(m i s),a.length-i=m->i<=a.length->StOf b a i s->J8 b s (a.drop i)=(f,J)->StOf b a a.length f
 |0,i,s,l,j,R,c=>by
  have e:i=a.length:=by lia
  subst e;rw[List.drop_length]at c;cases c;exact R
 |m+1,i,s,l,j,R,c=>by
  have d:i<a.length:=by lia
  rw[KT d]at c;have k:=h _ (wYa (zL d));cases g:Jt b s _ with
  |some w=>rw[g]at c;cases c
  |none=>
   rw[g]at c;exact StOf.walk h m (i+1) _ (by lia) d (R.next k) c
abbrev StOf.all{a}(d){s}(c:J8 b _ a=(s,J)):=
 StOf.walk d _ 0 _ rfl (Nat.zero_le _) (StOf.empty b a) c
abbrev zg(b:Bk)(a:L Int):Y Xp:=if va b a=G then S ("NoKind",[])else if b.size<a.length then S ("TooLong",[])else match J8 b (JE b) a with
 |(s,S w)=>S ("Broken",[("word",.str w),("place",.int (s.place+1))])
 |_=>J
theorem B_(C b a)(h:OkB b)(g:a.length<=1000):VC C [jC C b,.lst (a.map .int)]=S (match zg b a with
  |S p=>.xc p
  |none=>.ok (Jq (J8 b (JE b) a).1)):=by
 have d:=xR C b a g;simp only[VC,g_];unfold zg;cases f:va b a with
 |false=>rw[f]at d;simp[d]
 |true=>
  rw[f]at d;by_cases c:b.size<a.length
  ·simp[d,c]
  ·have e:=BX C b a h (uG f);revert e;generalize J8 b _ a=q;let q s o:=q;intro e;cases o with
   |none=>simp[d,e,oS,c]
   |some x=>simp[d,e,oS,c,show∀(i:Int) (w:Str),AM [.int i,.str w]=S [.int i,.str w] from λ_ _=>rfl]
def dW{a}(h:El b a){s}(c:J8 b (JE b) a=(s,J)):zg b a=J:=by
 unfold zg;have d:=h.2;rw[xQ h.1,if_neg Sq,if_neg (by lia),c]
def dX{a}(h:zg b a=J):El b a/\∃s,J8 b (JE b) a=(s,J):=by
 unfold zg at h;cases c:va b a with
 |false=>rw[c]at h;exact Zs h
 |true=>
  rw[c]at h;by_cases d:b.size<a.length
  ·simp[d]at h
  ·simp only[d,if_false]at h;refine#[#[uG c,by lia],?_];revert h;generalize J8 b _ a=q;let q s o:=q;cases o with
   |none=>exact λ_=>#[s,rfl]
   |some x=>intro h;exact Zs h
def FW{n i}(h:i<n):ra (a.take n) i=ra a i:=by
 unfold ra;rw[uBa,uBa,List.getElem?_take,if_pos h]
theorem StOf.upto{a}(g:∀n∈a,zl b n){n}(k:n<=a.length){h}:∀(m i s),n-i=m->i<=n->StOf b a i s->J8 b s ((a.take n).drop i)=(h,J)->StOf b a n h
 |0,i,s,p,l,R,c=>by
  have e:i=n:=by lia
  subst e;rw[List.drop_eq_nil_of_le (by simp;lia)]at c;cases c;exact R
 |m+1,i,s,p,l,R,c=>by
  have f:i<(a.take n).length:=by simp;lia
  have d:i<a.length:=by lia
  rw[KT f,FW (by lia)]at c;have o:=g _ (wYa (zL d));cases j:Jt b s _ with
  |some w=>rw[j]at c;cases c
  |none=>
   rw[j]at c;exact StOf.upto g k m (i+1) _ (by lia) (by lia) (R.next o) c
abbrev rD(r:L Int):D:=.lst (r.map .int)
abbrev UL(b)(r:L Int)(c:Nat):=(Jt b (J8 b (JE b) r).1 c).isNone
theorem Xd:∀l:L Bool,yH (l.map D.bl)=0
 |[]=>rfl
 |x::l=>by rw[vWa,yH,Xd l];rfl
def bx(C b s k)(f:OkB b)(X:Fit b s)(h:zl b k):kC C [jC C b,Jq s,.int k]=S (aI (zW b s k)):=by
 have a:=qh C b s k f X h;have g:=xV C b s k f X h;unfold zW;simp only[kC,kB];by_cases c:s.place>=b.size
 ·have d:=c;simp[d,aI]
 ·have d:=c;cases e:Jt b s k with
  |none=>rw[e]at a;simp[d,a,g,oS,aI]
  |some w=>rw[e]at a;simp[a,oS,aI]
abbrev Gt(t:Str):=t.cps.size<=20/\∀c∈t.cps.toList,c<128
theorem KU:∀a ,(Str.join "" a).cps.toList=(a.map (·.cps.toList)).flatten
 |[]=>rfl
 |[x]=>by simp[Str.join]
 |x::y::r=>by
  have b:=KU (y::r);rw[Str.join,vWa,List.flatten_cons,<-b]
  ·show(x.cps++(Str.ofString "").cps++(Str.join "" _).cps).toList=_;have e:(Str.ofString "").cps=#v[]:=by kernel_rfl
   rw[e];simp
  ·simp_all
def Xe(h:∀t∈b,t.cps.size=1)(g:b.length<=20):JoinOk "" b=B:=by
 have a:∀(l:L Str) (n),(∀t∈l,t.cps.size=1)->l.foldl (λx t=>x+t.length+(Str.ofString "").length) n=n+l.length:=by
  intro l;induction l with
  |nil=>intro n _;rfl
  |cons t l d=>
   intro n h;rw[List.foldl_cons,d _ λx f=>h x (List.mem_cons_of_mem _ f)];have e:t.length=1:=h t wNa;have c:(Str.ofString "").length=0:=by kernel_rfl
   rw[e,c,vXa]
   lia
 unfold JoinOk;rw[<-Array.foldl_toList];rw[a _ _ (by simpa using h)];unfold Builtin.Str.tooLong;have z:¬(0+b.toArray.toList.length > sizeLine):=by
  have:(20)<=sizeLine:=by decide
  lia
 rw[decide_eq_false z];rfl
def bz:(List.range 26).map (λi:Nat=>vi (.str "abcdefghijklmnopqrstuvwxyz") (.int i))=(List.range 26).map λi=>S (.str #[#v[97+i]]):=by kernel_rfl
def c6:(List.range 10).map (λi:Nat=>vi (.str "abcdefghyz") (.int i))=(List.range 10).map λi=>S (.str #[#v[if i<8 then 97+i else 113+i]]):=by kernel_rfl
def wP{a b:Type}{f g:a->b}{l:L a}(h:l.map f=l.map g){x}(c:x∈l):f x=g x:=by simp_all
def m8(h:0<=i/\i<26):vi (.str "abcdefghijklmnopqrstuvwxyz") (.int i)=S (.str #[#v[97+i.toNat]]):=by
 have:=wP bz (x:=i.toNat) (List.mem_range.mpr (by lia));rw[show(i.toNat:Int)=i by lia]at this;exact this
def dY(i:Nat)(h:i<10):vi (.str "abcdefghyz") (.int (0+i))=S (.str #[#v[if i<8 then 97+i else 113+i]]):=by
 have:=wP c6 (List.mem_range.mpr h);rw[Int.zero_add];exact this
theorem qk:∀a ,K4 (a.map D.str)=S a
 |[]=>rfl
 |t::a=>by show(K4 (a.map D.str)).bind _=_;rw[qk a];rfl
def aL(C:Addr)(n:Int):∃t:Str,ye C [.int n]=S (.str t)/\Gt t:=by
 generalize I:1+n%8=f at *;have o:∀i:Nat,i<f.toNat->Kt (0+(i:Int)) (n/64%3)=B:=λi k=>U0 (by lia) (by lia);have W:=JO (g:=gN 0) (dc:=Jc) (de:=d2 vi (dV 1) (d2 jN (d2 jY (d2 YJ (dV 2) (dK (.int 8))) (d2 Z3 (dV 0) (d2 jN (d2 YJ (dV 2) (dK (.int 64))) (dK (.int 3))))) (dK (.int 26)))) (k:=[.un,.cl (.str "abcdefghijklmnopqrstuvwxyz"),.bo (.int n)]) (λi:Nat=>D.int (0+(i:Int))) (λi:Nat=>D.str #[#v[97+((n/8+(0+(i:Int))*(n/64%3))%26).toNat]]) (xs:=List.range f.toNat) λi k=>by
  have k:=List.mem_range.mp k;have e:=m8 (Ji (a:=n/8+(0+(i:Int))*(n/64%3)) Sq);have c:=o i k;refine#[_,rfl,rfl,?_];simp at c e;simp[c,e]
 generalize d:(List.range f.toNat).map (λi:Nat=>(#[_]:Str))=b at *;have p:JX (gN 0) Jc (d2 vi (dV 1) (d2 jN (d2 jY (d2 YJ (dV 2) (dK (.int 8))) (d2 Z3 (dV 0) (d2 jN (d2 YJ (dV 2) (dK (.int 64))) (dK (.int 3))))) (dK (.int 26)))) (JZ 0 f.toNat) [.un,.cl (.str "abcdefghijklmnopqrstuvwxyz"),.bo (.int n)]=S (b.map D.str):=by
  rw[<-d,List.map_map];exact W
 have O:b.length<=8:=by rw[<-d];simp;lia
 have g:∀t∈b,∃c,t=#[#v[c]]/\c<128:=λt j=>by
  rw[<-d]at j;let ja i _ rfl:=uVa j;exact#[_,rfl,by lia]
 have a:=Xe (λt j=>by let ja c rfl _:=g t j;rfl) (by lia);have s:yj f=B:=zT (by lia) (by lia);have u:(JZ 0 f.toNat).length<=sizeLine:=by
  simp only[JZ,List.length_map,List.length_range];have:(8:Nat)<=sizeLine:=by decide
  lia
 have N:∀l:L Str,(∀t∈l,∃c,t=#[#v[c]]/\c<128)->(l.map (·.cps.toList)).flatten.length=l.length/\∀c∈(l.map (·.cps.toList)).flatten,c<128:=by
  intro l;induction l with
  |nil=>intro _;exact#[rfl,by simp]
  |cons t l F=>
   intro h;let ja c rfl m:=h t wNa;let q v r:=F λx A=>h x (wMa _ A);refine#[by simp at v⊢;lia,λy w=>?_];rcases uWa w with z|z
   ·simp at z;lia
   ·exact r y z
 let q H M:=N b g;refine#[Txt.join "" b,fE ?_,?_]
 ·exact sq rfl (sq (by simp[I]<;>rfl) (by simp[s,p,u,qk,a]))
 ·have e:Txt.join "" b=Str.join "" b:=PySem.StrLaws.glued_eq_join _ _;rw[e];refine#[?_,λc m=>M c (by rw[<-KU];exact m)];rw[<-Array.length_toList,KU,H]
  lia
abbrev Gu(t:Str):=t.cps.size<=30/\∀c∈t.cps.toList,c<128
def Gt.u(h:Gt t):Gu t:=#[wSa h.1 Sq,h.2]
def Gu.z(h:Gu t):t.length<=sizeLine:=wSa h.1 Sq
def Xf(h:Gt t)(d a):Gt (Txt.slice t d a):=by
 refine#[wSa (Txt.slice_le t d a) h.1,λc b=>?_];unfold Txt.slice at b;split at b
 ·exact h.2 c b
 ·let ja i _ e:=List.mem_filterMap.mp (show c∈List.filterMap (λx=>t.cps[x]?) _ from b);let q a rfl:=Array.getElem?_eq_some_iff.mp e;exact h.2 _ (Array.getElem_mem_toList a)
def m9(h:Gt t){c}(b:c<128):Gu (t++#[#v[c]]):=by
 have e:(t++#[#v[c]]).cps=t.cps++#v[c]:=rfl;refine#[by rw[e,Array.size_append];have:=h.1;show t.cps.size+1<=30;lia,λx a=>?_];rw[e,Array.toList_append]at a;rcases uWa a with z|z
 ·exact h.2 x z
 ·simp_all
def ma(h:Gt t){c}:jY (.str t) (.str #[#v[c]])=S (.str (t++#[#v[c]])):=by
 have z:t.length+(#[#v[c]]:Str).length<=sizeLine:=by
  have:=h.1;have e:(#[#v[c]]:Str).length=1:=rfl;have a:t.length=t.cps.size:=rfl;have:(30)<=sizeLine:=by decide
  lia
 simp[z]
abbrev nm(C:Addr)(n):=(aL C n).choose
def wQ(C n):ye C [.int n]=S (.str (nm C n))/\Gt (nm C n):=(aL C n).choose_spec
abbrev qm(n:Int):Str:=match n with
 |0=>"" |1=>"abcdefghi" |2=>"Ab" |3=>"a b" |_=>"a1"
def me(h:0<=n/\n<5):atI [D.str "",.str "abcdefghi",.str "Ab",.str "a b",.str "a1"] n=S (.str (qm n))/\Gt (qm n):=by
 obtain⟨k,rfl⟩:∃k:Nat,n=k:=#[n.toNat,by lia]
 have:k<5:=by lia
 have g:∀t∈(["","abcdefghi","Ab","a b","a1"]:L Str),Gt t:=by
  intro t a;simp only[List.mem_cons,List.not_mem_nil,or_false]at a;rcases a with rfl|rfl|rfl|rfl|rfl<;>exact#[by decide,by decide]
 match k,this with
 |0,_=>exact#[rfl,g _ (by simp[qm])]
 |1,_=>exact#[rfl,g _ (by simp[qm])]
 |2,_=>exact#[rfl,g _ (by simp[qm])]
 |3,_=>exact#[rfl,g _ (by simp[qm])]
 |4,_=>exact#[rfl,g _ (by simp[qm])]
abbrev c7(i):=if i<8 then 97+i else 113+i
def dZ(C:Addr)(d:L Int)(h:10<=d.length):∃g:L Str,kj C [.lst (d.map .int)]=S (.lst (g.map .str))/\g.length=11/\∀t∈g,Gu t:=by
 have m:∀k:Int,0<=k->k<10->atI (d.map D.int) k=S (.int (d.getD k.toNat 0)):=λk h0 y=>vk h0 (by lia);have z20:(20:Nat)<=sizeLine:=by decide
 have W:=JO (g:=gN 0) (dc:=Jc) (de:=jo (ye C) [(G,(d2 jg (dV 1) (dV 0)))]) (k:=[.un,.bo (.lst (d.map D.int))]) (λi:Nat=>D.int (0+(i:Int))) (λi:Nat=>D.str (nm C (d.getD i 0))) (xs:=List.range 8) λi o=>by
  have o:=List.mem_range.mp o;have e:=m (0+(i:Int)) (by lia) (by lia);rw[show(0+(i:Int)).toNat=i by lia]at e;refine#[_,rfl,rfl,?_];have A:=(wQ C (d.getD i 0)).1;simp only[Int.zero_add]at e;simp[e]at A⊢;exact A
 generalize P:(List.range 8).map (λi:Nat=>nm C (d.getD i 0))++[nm C (d.getD 0 0+11),nm C (d.getD 1 0+13)]=v;have len1:v.length=10:=by rw[<-P];rfl
 have T:∀t∈v,Gt t:=by
  intro t n;rw[<-P]at n;rcases uWa n with z|z
  ·let ja i _ rfl:=uVa z;exact(wQ C _).2
  ·simp only[List.mem_cons,List.not_mem_nil,or_false]at z;rcases z with rfl|rfl<;>exact(wQ C _).2
 have W2:JX (gN 0) Jc (jo (ye C) [(G,(d2 jg (dV 1) (dV 0)))]) (JZ 0 8) [.un,.bo (.lst (d.map D.int))]=S ((List.range 8).map λi:Nat=>D.str (nm C (d.getD i 0))):=W;have S1:jx 1 (dL (Yb yp (dL (yK 1 [0] (zU (dN 8)) (gN 0) Jc (jo (ye C) [(G,(d2 jg (dV 1) (dV 0)))]))) (dL (jP [(B,(jo (ye C) [(G,(d2 jY (d2 jg (dV 0) (dN 0)) (dN 11)))])),(B,(jo (ye C) [(G,(d2 jY (d2 jg (dV 0) (dN 1)) (dN 13)))]))])))) [.bo (.lst (d.map D.int)),.un]=S (.nx [.bo (.lst (d.map D.int)),.cl (.lst (v.map .str))]):=by
  have a0:=m 0 Sq Sq;have X:=m 1 Sq Sq;have s8:yj 8=B:=by decide
  have c8:(8:Nat)<=sizeLine:=by decide
  have w:(10:Nat)<=sizeLine:=by decide
  have r8:(JZ 0 8).length=8:=rfl;rw[<-P];have n0:=(wQ C (d.getD 0 0+11)).1;have n1:=(wQ C (d.getD 1 0+13)).1;simp only[Int.toNat_zero,Int.toNat_one]at a0 X;simp[s8,W2,r8,c8,w,a0,X]at n0 n1⊢;simp[n0,n1,Function.comp_def];rw[if_pos w];rfl
 have s:∀f:L Str,f.length=10->(∀t∈f,Gu t)->∃g:L Str,(Yo (Yb yp (dL (Yb yp (dL (yb (dV 1) (λ_=>S J) (λr=>((dN 8) r).bind yQ))) (dL (jP [(B,(d2 jg (dL (jP [(B,(dK (.str ""))),(B,(dK (.str "abcdefghi"))),(B,(dK (.str "Ab"))),(B,(dK (.str "a b"))),(B,(dK (.str "a1")))])) (d2 jN (d2 jg (dV 0) (dN 8)) (dN 5))))])))) (dL (yb (dV 1) (λr=>((dN 8) r).bind yQ) (λ_=>S J))))) [.bo (.lst (d.map D.int)),.cl (.lst (f.map .str))]=S (.rf (.lst (g.map .str)))/\g.length=11/\∀t∈g,Gu t:=by
  intro f l Q;have H:=m 8 Sq Sq;let q o1 o2:=me (Ji (a:=d.getD 8 0) (b:=5) Sq);have c1:Jd (f.map D.str) J (S 8)=(f.take 8).map D.str:=by rw[J_,show(8:Int)=((8:Nat):Int) by rfl,xX]
  have c2:Jd (f.map D.str) (S 8) J=(f.drop 8).map D.str:=by rw[J_,show(8:Int)=((8:Nat):Int) by rfl,wK]
  refine#[f.take 8++[qm (d.getD 8 0%5)]++f.drop 8,?_,by simp[l],λt n=>?_]
  ·have z1:(9:Nat)<=sizeLine:=by decide
   have R:(11:Nat)<=sizeLine:=by decide
   rw[show(8:Int).toNat=8 by rfl]at H;have l9:min 8 f.length+1<=sizeLine:=by rw[l];exact z1
   have M:min 8 f.length+1+(f.length-8)<=sizeLine:=by rw[l];exact R
   simp only[List.getD_eq_getElem?_getD]at H o1;simp[H,o1,c1,c2,l,-List.map_take,-List.map_drop]at l9 M⊢;rw[if_pos z1];simp;rw[if_pos (by rw[l];exact R)];simp
  ·rcases uWa n with z|z
   ·rcases uWa z with z|z
    ·exact Q t (List.mem_of_mem_take z)
    ·rw[List.mem_singleton.mp z];exact o2.u
   ·exact Q t (List.mem_of_mem_drop z)
 have x:=m 9 Sq Sq;rw[show(9:Int).toNat=9 by rfl]at x;simp only[List.getD_eq_getElem?_getD]at x;by_cases UQ:d[9]?.getD 0%3=1
 ·obtain⟨j,u,rfl⟩:∃j u,v=j::u:=by
   cases v with
   |nil=>cases len1
   |cons a b=>exact#[a,b,rfl]
  have p:=T j wNa;have Z:=JO (g:=gN 0) (dc:=Jc) (de:=d2 jY (K5 S3 (λ_=>S J) (λr=>((dN 7) r).bind yQ)) (d2 vi (dK (.str "abcdefghyz")) (dV 0))) (k:=[.un,.cl (.lst ((j::u).map D.str))]) (λi:Nat=>D.int (0+(i:Int))) (λi:Nat=>D.str (Txt.slice j J (S 7)++#[#v[c7 i]])) (xs:=List.range 10) λi o=>by
   have o:=List.mem_range.mp o;have e:=dY i o;have A:=ma (Xf p J (S 7)) (c:=c7 i);have e3:AW (.str j) J (S 7)=S (.str (Txt.slice j J (S 7))):=by show(if j.length<=sizeLine then _ else _)=_;rw[if_pos p.u.z]
   have e4:atI ((j::u).map D.str) 0=S (.str j):=UM (vEa 0) rfl;refine#[_,rfl,rfl,?_];simp only[d2,dV,K5,dK,dN,List.map_cons]at e4⊢;simp[e4,e3,-iI];rw[Int.zero_add]at e;rw[show(if i<8 then 97+i else 113+i)=c7 i from rfl]at e;rw[e];exact A
  obtain⟨f,W4,q1,q2⟩:∃f:L Str,JX (gN 0) Jc (d2 jY (K5 S3 (λ_=>S J) (λr=>((dN 7) r).bind yQ)) (d2 vi (dK (.str "abcdefghyz")) (dV 0))) (JZ 0 10) [.un,.cl (.lst ((j::u).map D.str))]=S (f.map D.str)/\f.length=10/\∀t∈f,Gu t:=by
   refine#[(List.range 10).map λi:Nat=>Txt.slice j J (S 7)++#[#v[c7 i]],?_,by rw[vYa,List.length_range],λt n=>?_]
   ·rw[List.map_map];exact Z
   ·let ja i o rfl:=uVa n;have:=List.mem_range.mp o;refine m9 (Xf p _ _) ?_;unfold c7;split<;>lia
  clear Z;let jw g e y N:=s f q1 q2;clear s;refine#[g,?_,y,N];have F:yj 10=B:=by decide
  have I:(10:Nat)<=sizeLine:=by decide
  have O:(JZ 0 10).length=10:=rfl;generalize(j::u).map D.str=l0 at *;have c:yx C [.bo (.lst (d.map D.int)),.un]=S (.rf (.lst (g.map .str))):=by
   unfold yx;rw[sq S1 (r:=S (.rf (.lst (g.map .str))))];refine sq (a:=[.bo (.lst (d.map D.int)),.cl (.lst (f.map .str))]) (JG (by simp[x,UQ]) ?_) e;simp only[jx,dL,yK,zU,dN,dK,V4]at W4⊢;have W5:=W4;simp only[yQ,Option.bind_some]at W5;simp[F,W5,O,I]
  show(yx C [.bo (.lst (d.map D.int)),.un]).bind _=_;rw[c];rfl
 ·let jw g e y N:=s v len1 λt n=>(T t n).u;refine#[g,?_,y,N];have c:yx C [.bo (.lst (d.map D.int)),.un]=S (.rf (.lst (g.map .str))):=by
   unfold yx;rw[sq S1 (r:=S (.rf (.lst (g.map .str))))];exact sq (jH (by simp[x,UQ]) rfl) e
  show(yx C [.bo (.lst (d.map D.int)),.un]).bind _=_;rw[c];rfl
abbrev qo(c):=decide (97<=c)&&decide (c<=122)
abbrev GA(t:Str):=decide (1<=t.length)&&decide (t.length<=8)&&t.cps.toList.all qo
def mf:(List.range 128).map (λc=>Wp (.str #[#v[c]]) (.str "abcdefghijklmnopqrstuvwxyz"))=(List.range 128).map λc=>S (.bl (qo c)):=by kernel_rfl
def nT:(List.range 128).map (λc=>(ud (.str "a") (.str #[#v[c]]),ud (.str #[#v[c]]) (.str "z")))=(List.range 128).map λc=>(S (.bl (decide (97<=c))),S (.bl (decide (c<=122)))):=by kernel_rfl
abbrev nU(h:c<128):=wP mf (List.mem_range.mpr h)
def nV(h:c<128):ud (.str "a") (.str #[#v[c]])=S (.bl (decide (97<=c)))/\ud (.str #[#v[c]]) (.str "z")=S (.bl (decide (c<=122))):=by
 have:=wP nT (List.mem_range.mpr h);exact#[congrArg Prod.fst this,congrArg Prod.snd this]
def c9(t)(h:Gu t)(b)(d:∀(c) (a:jD),c<128->b (.cl (.str #[#v[c]])::a)=S (.bl (qo c)))(a:jD):JX (gN 0) Jc b (V6 t) (.un::a)=S (t.cps.toList.map λc=>D.bl (qo c)):=JO (λc=>D.str _) _ λc e=>#[_,rfl,rfl,d c a (h.2 c e)]
def cb(C t)(h:Gu t):Vx C [.str t]=S (.bl (!GA t)):=by
 have g:=c9 t h (d2 Wp (dV 0) (dK _)) (λc k i=>by simpa using nU i);have z:t.cps.size<=sizeLine:=h.z;have d:=h.z;have a:=YS qo t.cps.toList;unfold GA;simp only[Vx,gO];unfold V6 at g;by_cases j:1<=t.length
 ·have e:(1:Int)<=t.length:=by lia
  by_cases f:t.length<=8
  ·have b:(t.length:Int)<=8:=by lia
   simp[d,j,f,e,b,g,z,a,V6]
  ·have b:¬(t.length:Int)<=8:=by lia
   simp[d,f,e,b,V6]
 ·simp_all
abbrev aM(t:Str):Rx:=if GA t=B then .ok .non else .xc ("BadName",[])
def qp(C t)(h:Gu t):ZW C [.str t]=S (aM t):=by
 have f:=c9 t h (JA ud ud (dK (.str "a")) (dV 0) (dK (.str "z"))) (λc p n=>by
  let q i k:=nV n;unfold qo;by_cases l:97<=c<;>simp[i,k,l])
 have z:t.cps.size<=sizeLine:=h.z;have e:=h.z;have a:=YS qo t.cps.toList;unfold aM GA;simp only[ZW,uq];unfold V6 at f;by_cases o:1<=t.length
 ·have d:(1:Int)<=t.length:=by lia
  by_cases g:t.length<=8
  ·have b:(t.length:Int)<=8:=by lia
   cases m:t.cps.toList.all qo<;>(have j:=m;simp[e,o,g,d,b,f,z,a,V6,j])
  ·have b:¬(t.length:Int)<=8:=by lia
   simp[e,g,d,b,V6]
 ·simp_all
def NM{b a r}(h:jb c g b=S (.nx a))(k:f a=r):jb c (jb g f) b=r:=by
 rw[jb]at h⊢;cases e:c b with
 |none=>rw[e]at h;exact Zn h
 |some x=>
  rw[e]at h;cases x with
  |nx d=>exact sq h k
  |_=>cases h
def d_(C:Addr)(f:L Int)(i:Int)(h:131<=f.length)(H:1<=i)(y:i<=9):∃b u o:Bk,ki C [.lst (f.map .int),.int i]=S (.lst [jy b,jy u,jy o])/\OkB b/\OkB u/\OkB o/\b.size<=i:=by
 let XB b e0 c s0 UQ r0 d0:=aH C f i (by lia) H y;let XB u e1 Q s1 h1 r1 d1:=aH C (f.drop 60) i (by rw[uNa];lia) H y;have T:Jd (f.map D.int) (S 60) J=(f.drop 60).map D.int:=by rw[J_,show(60:Int)=((60:Nat):Int) by rfl,wK]
 have j:∀k:Int,0<=k->k<131->∃v:Int,atI (f.map D.int) k=S (.int v):=λk UQ h1=>uH UQ (by lia);let q m d:=j 120 Sq Sq;let q p I:=j 121 Sq Sq;let q r x:=j 122 Sq Sq;let q A l:=j 130 Sq Sq;have k1:=c.k1;have k4:=c.k2;have R:∀n,n<=200->n<=sizeLine:=λn hn=>zd (wSa hn Sq);have X:(0:Int)<b.kinds.length:=by lia
 have kn:0<b.kinds.length:=by lia
 have N:=Ji (a:=p) X;have Z:=Ji (a:=r) (b:=2) Sq;obtain⟨g,M,S1⟩:∃g:Bk,OkB g/\∀F:Sl,(jb (jr (jv (d2 jX (d2 jN (d2 jg (dV 0) (dN 120)) (dN 3)) (dN 1))) (jx 8 (jQ [(tC 2),(tC 3),(B,(dL (Yb yp (dV 4) (dL (jP [(B,(jQ [(B,(dN 0)),(B,(d2 jN (d2 jg (dV 0) (dN 121)) (jo Jv [(fV 3)]))),(B,(d2 jY (dN 1) (d2 jN (d2 jg (dV 0) (dN 122)) (dN 2))))]))]))))),(tC 5),(tC 6)])) jA)
 ((jr (jv (d2 jX (d2 jN (d2 jg (dV 0) (dN 120)) (dN 3)) (dN 2))) (jx 8 (jQ [(tC 2),(tC 3),(B,(dL (yb (dV 4) (λs=>((dN 1) s).bind yQ) (λ_=>S J)))),(B,(dL (yb (dV 5) (λs=>((dN 1) s).bind yQ) (λ_=>S J)))),(B,(dL (Yb yp (dL (yb (dV 6) (λ_=>S J) (λs=>((dN 2) s).bind yQ))) (dL (jP [(B,(jQ [(B,(dN 0)),(B,(dN 1)),(tC 2)]))])))))])) jA))) [.bo (.lst (f.map D.int)),.bo (.int i),.cl (.int b.size),.cl (.lst (b.kinds.map t3)),.cl (.lst (b.shuns.map t3)),.cl (.lst (b.bars.map t3)),.cl (.lst (b.dues.map t3)),.cl (jy b),.cl (jy u),F]=S (.nx [.bo (.lst (f.map D.int)),.bo (.int i),.cl (.int b.size),.cl (.lst (b.kinds.map t3)),.cl (.lst (b.shuns.map t3)),.cl (.lst (b.bars.map t3)),.cl (.lst (b.dues.map t3)),.cl (jy b),.cl (jy g),F]):=by
  by_cases w:m%3=1
  ·refine#[#[b.size,b.kinds,b.shuns++[(0,p%b.kinds.length,1+r%2)],b.bars,b.dues],#[c.s1,c.s2,c.k1,c.k2,by simp;lia,c.b2,c.d2,c.ks,YT c.hs (bt (by lia) N (by lia)),c.bs,c.ds],λF=>?_];have z:=R (b.shuns.length+1) (by lia);refine sq (JG (by simp[d,w]) (by simp[I,x,X,kn]<;>rw[if_pos z]<;>rfl)) (jH (by simp[d,w]) ?_);simp[jy,t3]
  ·by_cases O:m%3=2
   ·have q1:Jd (b.shuns.map t3) (S 1) J=(Jd b.shuns (S 1) J).map t3:=J_ _ _ _ _;have q2:Jd (b.bars.map t3) (S 1) J=(Jd b.bars (S 1) J).map t3:=J_ _ _ _ _;have q3:Jd (b.dues.map t3) J (S 2)=(Jd b.dues J (S 2)).map t3:=J_ _ _ _ _;have l1:=zK b.shuns (S 1) J;have l2:=zK b.bars (S 1) J;have l3:=zK b.dues J (S 2);have s01:=c.s1;refine#[#[b.size,b.kinds,Jd b.shuns (S 1) J,Jd b.bars (S 1) J,Jd b.dues J (S 2)++[(0,1,b.size)]],#[c.s1,c.s2,c.k1,c.k2,by show(Jd b.shuns (S 1) J).length<=20;lia,by show(Jd b.bars (S 1) J).length<=12;lia,by simp;lia,c.ks,λt e=>c.hs t (UZ e),λt e=>c.bs t (UZ e),YT (λt e=>c.ds t (UZ e)) (bu (by lia) (by lia) (by lia) (by lia))],λF=>?_];have z:=R ((Jd b.dues J (S 2)).length+1) (by lia);refine sq (jH (by simp[d,O]) rfl) (JG (by simp[d,O]) (by simp[q1,q2,q3,z,jy,t3]<;>rfl))
   ·exact#[u,Q,λF=>sq (jH (by simp[d,w]) rfl) (jH (by simp[d,O]) rfl)]
 obtain⟨o,P,S2⟩:∃o:Bk,OkB o/\((jb (jx 9 (jQ [(B,(d2 jY (dV 2) (dN 1))),(tC 3),(tC 4),(tC 5),(tC 6)]))
 ((jr (jv (d2 jX (d2 jN (d2 jg (dV 0) (dN 130)) (dN 4)) (dN 3))) (jx 9 (jQ [(tC 2),(B,(dL (Yb yp (dV 3) (dL (yb (dL (jP [(B,(jQ [(B,(dN 1)),(B,(dN 4)),(B,(dN 0))]))])) (λ_=>S J) (λs=>((d2 Z2 (dN 4) (jo Jv [(fV 3)])) s).bind yQ)))))),(B,(dL (jP []))),(B,(dL (jP []))),(tC 6)])) jA)))) [.bo (.lst (f.map D.int)),.bo (.int i),.cl (.int b.size),.cl (.lst (b.kinds.map t3)),.cl (.lst (b.shuns.map t3)),.cl (.lst (b.bars.map t3)),.cl (.lst (b.dues.map t3)),.cl (jy b),.cl (jy g),.un]=S (.nx [.bo (.lst (f.map D.int)),.bo (.int i),.cl (.int b.size),.cl (.lst (b.kinds.map t3)),.cl (.lst (b.shuns.map t3)),.cl (.lst (b.bars.map t3)),.cl (.lst (b.dues.map t3)),.cl (jy b),.cl (jy g),.cl (jy o)]):=by
  by_cases w:A%4=3
  ·have e4:(4:Int)-b.kinds.length=((4-b.kinds.length:Nat):Int):=by lia
   have q:Jd [D.tup [.int 1,.int 4,.int 0]] J (S (4-(b.kinds.length:Int)))=(List.take (4-b.kinds.length) [((1,4,0):T3)]).map t3:=by
    rw[e4,xX,List.map_take];rfl
   have ql:(List.take (4-b.kinds.length) [((1,4,0):T3)]).length<=4-b.kinds.length:=by rw[uOa];lia
   have z:=R (b.kinds.length+(List.take (4-b.kinds.length) [((1,4,0):T3)]).length) (by lia);have qx:∀t∈List.take (4-b.kinds.length) [((1,4,0):T3)],fK t=B:=λt e=>by
    have:=List.mem_of_mem_take e;rw[List.mem_singleton.mp this];rfl
   generalize List.take (4-b.kinds.length) [((1,4,0):T3)]=W at *;have le:(b.kinds.length:Int)<=((b.kinds++W).length:Int):=by rw[vZa];lia
   refine#[#[b.size,b.kinds++W,[],[],b.dues],#[c.s1,c.s2,by simp;lia,by simp;lia,by simp,by simp,c.d2,λt e=>?_,λt e=>(by cases e),λt e=>(by cases e),λt e=>bv (c.ds t e) le (vEa _)],?_]
   ·rcases uWa e with z|z
    ·exact c.ks t z
    ·exact qx t z
   ·refine sq (by simp<;>rfl) (JG (by simp[l,w]) ?_);simp[q,jy];rw[if_pos z];rfl
  ·refine#[#[b.size+1,b.kinds,b.shuns,b.bars,b.dues],#[by show 1<=b.size+1;have:=c.s1;lia,by show b.size+1<=30;lia,c.k1,c.k2,c.h2,c.b2,c.d2,c.ks,c.hs,λt e=>bv (c.bs t e) (vEa _) (by show b.size<=b.size+1;lia),λt e=>bv (c.ds t e) (vEa _) (by show b.size<=b.size+1;lia)],?_];exact sq (by simp<;>rfl) (jH (by simp[l,w]) rfl)
 refine#[b,g,o,?_,c,M,P,s0];have a:zB C [.bo (.lst (f.map D.int)),.bo (.int i),.un,.un,.un,.un,.un,.un,.un,.un]=S (.rf (.lst [jy b,jy g,jy o])):=by
  unfold zB;refine sq (a:=[.bo (.lst (f.map D.int)),.bo (.int i),.cl (.int b.size),.cl (.lst (b.kinds.map t3)),.cl (.lst (b.shuns.map t3)),.cl (.lst (b.bars.map t3)),.cl (.lst (b.dues.map t3)),.un,.un,.un]) (Bn e0 rfl) ?_;refine sq (a:=[.bo (.lst (f.map D.int)),.bo (.int i),.cl (.int b.size),.cl (.lst (b.kinds.map t3)),.cl (.lst (b.shuns.map t3)),.cl (.lst (b.bars.map t3)),.cl (.lst (b.dues.map t3)),.cl (jy b),.un,.un]) (by simp[jy]<;>rfl) ?_;refine sq (a:=[.bo (.lst (f.map D.int)),.bo (.int i),.cl (.int b.size),.cl (.lst (b.kinds.map t3)),.cl (.lst (b.shuns.map t3)),.cl (.lst (b.bars.map t3)),.cl (.lst (b.dues.map t3)),.cl (jy b),.cl (jy u),.un]) (by simp[T,e1,-List.map_drop]<;>rfl) ?_;exact NM (S1 .un) (NM S2 Sx)
 show(zB C [.bo (.lst (f.map D.int)),.bo (.int i),.un,.un,.un,.un,.un,.un,.un,.un]).bind _=_;rw[a];rfl
theorem Xg:∀l:L Int,vI (l.map D.int)=S (l.map KD.i)
 |[]=>by rfl
 |x::l=>by rw[vWa,vI,Jz,Xg l];rfl
theorem aN:∀l:L Bool,vI (l.map D.bl)=S (l.map (λx=>KD.i (bi x)))
 |[]=>by rfl
 |x::l=>by rw[vWa,vI,Jz,aN l];rfl
theorem aO:∀l:L Int,ZF (l.map KD.i)=0
 |[]=>rfl
 |x::l=>by rw[vWa,XE,aO l];rfl
theorem aP:∀l:L Bool,ZF (l.map (λx=>KD.i (bi x)))=0
 |[]=>rfl
 |x::l=>by rw[vWa,XE,aP l];rfl
def mh(s):ZK (Jq s)=S (uY s):=by
 have e:Jz (Jq s)=S (uY s):=by
  unfold Jq uY;simp[Jz,vI,Xg,aN]
 have d:(uY s).dep<=8:=by
  unfold uY;simp[XD,XE,OS,OT,aO,aP]
 show(Jz (Jq s)).bind _=_;rw[e];simp[d]
theorem KW{c i:Type}{f:c->i}(h:∀a b,f a=f b->a=b):∀{l m:L c},l.map f=m.map f->l=m
 |[],[],_=>rfl
 |[],_::_,e=>by cases e
 |_::_,[],e=>by cases e
 |a::l,b::m,e=>by
  injection e with g d;rw[h _ _ g,KW h d]
def FX(h:uY s=uY t):s=t:=by
 unfold uY at h;simp only[KD.t.injEq,List.cons.injEq,KD.i.injEq]at h;let Jy d j f g l u0:=h;let q k _:=u0;have i:=KW (λa b e=>by injection e) l;have c:=KW (λa b e=>by cases a<;>cases b<;>first|rfl|(simp[bi]at e)) k;let q x u y m w n:=s;let q r o p v A z:=t;simp only at d j f g i c;subst d j f g i c;rfl
abbrev kM(b s n):=(List.range n).filterMap λ(c:Nat)=>(zW b s c).map λt=>((c:Int),t)
abbrev v_(b s):=kM b s b.kinds.length
abbrev pD(p:Int×Sd):D:=.tup [.int p.1,Jq p.2]
def Xh(b s n):kM b s (n+1)=kM b s n++(match zW b s n with|S t=>[(n,t)]|none=>[]):=by
 unfold kM;rw[List.range_succ,List.filterMap_append];cases e:zW b s n<;>simp[e]
def aQ(b s n):(kM b s n).length<=n:=by
 exact wSa (List.length_filterMap_le _ _) Sx
def FY{n p}(h:p∈kM b s n):∃c ,c<n/\p.1=c/\zW b s c=S p.2:=by
 let ja c a e:=List.mem_filterMap.mp h;let ja t d rfl:=Option.map_eq_some_iff.mp e;exact#[c,List.mem_range.mp a,rfl,d]
def D0(C b s)(j:OkB b)(X:Fit b s):uB C [jC C b,Jq s]=S (.lst ((v_ b s).map pD)):=by
 have p:=j.k2;have l:yj b.kinds.length=B:=zT (by lia) (by lia);let Ub k e g w0:=zy (g:=UV) (s:=zX C) (items:=JZ 0 b.kinds.length) (λi h=>∃g f ,h=[.bo (jC C b),.bo (Jq s),.ow J (.lst ((kM b s i).map pD)),g,f]) (by
  rintro i d h o ⟨g,f,rfl⟩;let q u rfl:=Gb o;have a:=bx C b s i j X #[by lia,by lia];have v:=aQ b s i;have n:(kM b s i).length<sizeLine:=ya (by lia);cases c:zW b s _ with
  |none=>
   rw[c]at a;refine#[_,_,rfl,?_,.cl (.int i),.cl .non,rfl];rw[Xh,c,uFa];simp only[zX];simp[a,aI]
  |some t=>
   rw[c]at a;refine#[_,_,rfl,?_,.cl (.int i),.cl (Jq t),rfl];rw[Xh,c,uDa];have r:uM (Jq t)=G:=rfl;simp only[zX];simp[a,aI,n,pD]) #[.un,.un,rfl];let q f x0:=w0;subst x0
 rw[show(JZ 0 _).length=b.kinds.length by simp[JZ]]at e;simp only[uB,uA];have m:(kM b s 0).map pD=[]:=rfl;rw[m]at e;simp[l,e];rfl
theorem Xi{m:Nat}:∀{n r},r.length<=n->(∀k∈r,0<=k/\k<(m:Int))->r∈vL m n
 |0,[],_,_=>by simp[vL]
 |0,_::_,h,_=>by simp at h
 |n+1,[],_,_=>by simp[vL]
 |n+1,k::r,h,a=>by
  have c:=Xi (by simpa using h) λx b=>a x (wMa _ b);have d:=a k wNa;refine wMa _ (List.mem_flatMap.mpr #[r,c,List.mem_map.mpr #[k.toNat,List.mem_range.mpr (by lia),?_]]);rw[show(k.toNat:Int)=k by lia]
abbrev tN:Nat->Nat
 |0=>1
 |n+1=>1+4*tN n
theorem Xj(h:m<=4):∀n ,(vL m n).length<=tN n
 |0=>by simp[vL,tN]
 |n+1=>by
  have a:=Xj h n;rw[vL,tN,vXa,List.length_flatMap];have e:((vL m n).map λr=>((List.range m).map λ(k:Nat)=>(k:Int)::r).length)=(vL m n).map λ_=>m:=by simp_all
  rw[e,List.map_const',List.sum_replicate_nat];have:=Nat.mul_le_mul a h
  lia
abbrev qr(b s):=∃a ,(∀n∈a,zl b n)/\a.length<=b.size/\J8 b (JE b) a=(s,J)
def qr.of{s}(R:qr b s):Fit b s/\0<=s.place/\s.place<=b.size:=by
 let jw c f e d:=R;have a:=StOf.all f d;exact#[a.fo.toFit,by rw[a.pl];lia,by rw[a.pl];exact e]
def qr.next{s t}(R:qr b s){k}(j:zl b k)(h:zW b s k=S t):qr b t/\t.place=s.place+1:=by
 let jw f e l d:=R;let Yk g c i:=wM h;have a:=StOf.all e d;refine#[#[_,YT e j,?_,?_],by rw[c];rfl]
 ·rw[a.pl]at i;rw[vZa,uIa];lia
 ·rw[VE d g,c]
def mm(R:qr b s):Wo (Y5 b) (uY s) (y_ b s)=B:=by
 let jw a h j g:=R;unfold Wo;rw[Bool.and_eq_true,List.any_eq_true,List.all_eq_true];refine#[#[(uY s,y_ b s),?_,?_],?_]
 ·refine List.mem_map.mpr #[a,Xi (by lia) h,?_];rw[g]
 ·rw[Bool.and_eq_true];exact#[Ut.mpr rfl,by simp]
 ·rintro⟨k,v⟩ i;let ja r _ e:=uVa i;let q c d:=Prod.mk.inj e;by_cases f:k=uY s
  ·rw[f]at c;have:=FX c;rw[this]at d;simp[d]
  ·have:WI k (uY s)=G:=by
    cases q:WI k (uY s)
    ·rfl
    ·exact vDa (Ut.mp q) f
   simp[this]
def qt{s}(h:s.place≠b.size)(d:s.place<=b.size):y_ b s=(v_ b s).any λp=>y_ b p.2:=by
 have e:(b.size-s.place).toNat=(b.size-(s.place+1)).toNat+1:=by lia
 unfold y_ v_ kM;rw[e,bg,if_neg h,List.any_filterMap];congr 1;funext k;cases a:zW b s _ with
 |none=>rfl
 |some t=>
  let Yk _ c _:=wM a;rw[show(b.size-(s.place+1)).toNat=(b.size-t.place).toNat by rw[c];rfl];rfl
def D2(C b F)(l:L Sd)(i:∀t∈l,F [jC C b,Jq t,.mem (Y5 b)]=S (.bl (y_ b t))):Jo [G,G,B] 1 (yy F) [jC C b,.lst (l.map Jq),.mem (Y5 b)]=S (.bl (l.any λt=>y_ b t)):=by
 have f:∀(a:L Sd) (x),(∀t∈a,F [jC C b,Jq t,.mem (Y5 b)]=S (.bl (y_ b t)))->(jb (λj=>Yp (gN 3) (qZ F) (a.map Jq) j) Se) [.bo (jC C b),.bo (.lst (l.map Jq)),.cl (.mem (Y5 b)),x]=S (.rt (.bl (a.any λt=>y_ b t))):=by
  intro a;induction a with
  |nil=>intro x _;simp[EY]
  |cons t a d=>
   intro x h;have e:=h t wNa;have d:=d (.cl (Jq t)) λu g=>h u (wMa _ g);cases c:y_ b t with
   |true=>simp[Yx,qZ,e,c]
   |false=>
    rw[c]at e;rw[List.any_cons,c,Bool.false_or,<-d];simp[Yx,qZ,e]
 have:=f l .un i;refine fE ?_;rw[<-this];rfl
theorem aR(C b)(f:OkB b):∀(m s),qr b s->(b.size-s.place).toNat<m->G1 C m [jC C b,Jq s,.mem (Y5 b)]=S (.bl (y_ b s))
 |0,s,_,h=>by lia
 |m+1,s,R,h=>by
  let Yk X w k:=R.of;rw[G1];by_cases a:s.place=b.size
  ·have e:y_ b s=B:=by
    unfold y_;rw[a,Int.sub_self];show decide _=B;simp[a]
   rw[e];refine fE (yu (JG ?_ rfl));simp[a]
  ·have j:=D0 C b s f X;have g:=mh s;have l:=mm R;have A:=D2 C b _ ((v_ b s).map (·.2)) λt o=>by
    let ja p d rfl:=uVa o;let jw c y _ r:=FY d;have u:zl b c:=#[by lia,by lia]
    let q R2 v:=R.next u r;exact aR C b f m _ R2 (by lia)
   rw[List.any_map,show((λt=>y_ b t)∘λx:Int×Sd=>x.2)=λp=>y_ b p.2 from rfl,<-qt a k]at A;have i:JX (gT 2 (gC (gN 0) (gC (gN 1) gZ))) Jc (dC 1) ((v_ b s).map pD) [.un,.un]=S _:=JO pD _ λp _=>#[_,rfl,rfl,rfl]
   have z:=aQ b s b.kinds.length;have H:=f.k2;have n:(v_ b s).length<=sizeLine:=wQa (ya (by unfold v_;lia));rw[List.map_map,show(Jq∘λx:Int×Sd=>x.2)=λp=>Jq p.2 from rfl]at A;generalize Jo _ 1 _=F at A⊢;refine fE (sq (jH (by simp[a]) rfl) ?_);simp[j,g,i,n,A,l]
theorem cf{s d V}(I:jD->Prop)(m:jD->Nat)(h:∀a,I a->(dt a=S G/\¬V)\/(dt a=S B/\s a=S (.rt d)/\V)\/(dt a=S B/\∃b,s a=S (.nx b)/\I b/\m b<m a)):∀{n a},I a->m a<n->(V/\uP dt s n a=S (.rt d))\/(¬V/\∃c,uP dt s n a=S (.nx c))
 |0,a,_,g=>vDa g (Nat.not_lt_zero _)
 |n+1,a,i,g=>by
  rcases h a i with⟨e,v⟩|⟨e,f,v⟩|⟨e,b,f,j,k⟩
  ·exact .inr #[v,a,by simp[kZ,e]]
  ·exact .inl #[v,by simp[kZ,e,f]]
  ·rcases cf I m h (n:=n) j (by lia)with⟨v,z⟩|⟨v,c,z⟩
   ·exact .inl #[v,by simp[kZ,e,f,z]]
   ·exact .inr #[v,c,by simp[kZ,e,f,z]]
structure RowG (b) (r:L _) where
 ks:∀n∈r,zl b n
 ln:r.length<=b.size
 st:∃s,J8 b (JE b) r=(s,J)
def RowG.zr{r}(c:RowG b r)(w:OkB b):r.length+1<=sizeLine:=zd (by have:=c.ln;have:=w.s2;lia)
abbrev Vq(b:Bk)(r:L _):=(J8 b (JE b) r).1
def RowG.eq{r}(a:RowG b r):J8 b (JE b) r=(Vq b r,J):=by
 let q s h:=a.st;unfold Vq;rw[h]
def RowG.rch{r}(a:RowG b r):qr b (Vq b r):=#[r,a.ks,a.ln,a.eq]
abbrev RowG.pl{r}(a:RowG b r):=(StOf.all a.ks a.eq).pl
abbrev eR(b)(r:L _):=y_ b (Vq b r)
abbrev g6(b y i):=(List.range i).filterMap λc=>if UL b y c=B then S (y++[(c:Int)])else J
def D3(b y i):g6 b y (i+1)=g6 b y i++(if UL b y i=B then[y++[(i:Int)]]else[]):=by
 unfold g6;rw[List.range_succ,List.filterMap_append];by_cases e:UL b y i=B<;>simp[e]
def aS(b y i):(g6 b y i).length<=i:=wSa (List.length_filterMap_le _ _) Sx
def aU{y r i}(h:r∈g6 b y i):∃c,c<i/\UL b y c=B/\r=y++[(c:Int)]:=by
 let ja c a e:=List.mem_filterMap.mp h;by_cases z:UL b y c=B
 ·rw[if_pos z]at e;obtain rfl:=Zj e;exact#[c,List.mem_range.mp a,z,rfl]
 ·simp_all
def gc{y c}:UL b y c=B↔Jt b (Vq b y) c=J:=by
 unfold UL Vq;simp
def RowG.next{y}(a:RowG b y)(h:y.length≠b.size){c}(e:c<b.kinds.length)(d:UL b y c=B):RowG b (y++[(c:Int)]):=by
 have:=a.ln;exact#[YT a.ks #[by lia,by lia],by rw[vZa,uIa];lia,_,VE a.eq (gc.mp d)]
def FZ{y}(a:RowG b y)(h:y.length≠b.size):eR b y=(g6 b y b.kinds.length).any (eR b):=by
 have f:=a.ln;unfold eR;rw[qt (by rw[a.pl];exact h) (by rw[a.pl];exact f)];unfold v_ kM g6;rw[List.any_filterMap,List.any_filterMap];congr 1;funext c;unfold zW;rw[if_neg (by rw[a.pl];lia)];by_cases d:UL b y c=B
 ·have e:=gc.mp d;rw[if_pos d,e];have w:=VE a.eq e;simp[Vq,w]
 ·rw[if_neg d];have:(Jt b (Vq b y) c).isSome=B:=by
   cases q:Jt b _ _ with
   |none=>exact vDa (gc.mpr q) d
   |some x=>rfl
  rw[if_pos this];rfl
theorem mo:∀n,1<=tN n
 |0=>wPa _
 |n+1=>by rw[tN];lia
abbrev Vr(b:Bk)(xs:L (L Int)):=(xs.map λr=>tN (b.size.toNat-r.length)).sum
def wR(b xs a):Vr b (xs++a)=Vr b xs+Vr b a:=by
 unfold Vr;rw[uDa,List.sum_append_nat]
theorem Xk(b):∀xs ,xs.length<=Vr b xs
 |[]=>Nat.zero_le _
 |x::xs=>by
  have a:=Xk b xs;have:=mo (b.size.toNat-x.length);unfold Vr at *;rw[vWa,List.sum_cons,vXa]
  lia
theorem En{y:L Int}{n}(h:b.size.toNat-y.length=n+1):∀{xs},(∀r∈xs,r.length=y.length+1)->Vr b xs=xs.length*tN n
 |[],_=>by simp[Vr]
 |x::xs,a=>by
  have c:=En h λr d=>a r (wMa _ d);have e:=a x wNa;unfold Vr at *;rw[vWa,List.sum_cons,c,vXa,e,show b.size.toNat-(y.length+1)=n by lia,Nat.add_mul]
  lia
theorem qu:∀a:L _,yH (a.map rD)<=2
 |[]=>by simp
 |x::a=>by
  have b:=qu a;have e:dep (rD x)<=2:=by unfold rD;rw[Zu,kL];decide
  rw[vWa,yH];omega
def F_(a:L _):Ju (.lst (a.map rD)) (.lst [])=S (.bl (!a.isEmpty)):=by
 have e:dep (.lst (a.map rD))<=20:=by rw[Zu];have:=qu a;omega
 have b:vg (D.lst (a.map rD)) (D.lst [])=B:=rfl;unfold Ju VY;rw[if_pos b,if_pos #[b,e],zt];cases a<;>simp[zu]
def bA(C){b y}(d:OkB b)(a:RowG b y){c}(i:c<b.kinds.length):ZU C [jy b,.lst ((y++[(c:Int)]).map .int),.int y.length]=S (oS (Jt b (Vq b y) c)):=by
 have h:=d.s2;have g:=a.ln;have f:∀n∈y++[(c:Int)],zl b n:=YT a.ks #[by lia,by lia];have R:StOf b _ y.length _:=StOf.upto f Sx _ 0 _ rfl (Nat.zero_le _) (StOf.empty b _) (by rw[List.drop_zero,List.take_left' rfl];exact a.eq);have e:ra (y++[(c:Int)]) y.length=c:=by unfold ra;simp
 have:=Xc C b _ _ _ d f Sx (by simp;lia) R;rw[e]at this;exact this
abbrev Dt:D->Int
 |.int i=>i
 |_=>0
abbrev Gn:D->L Int
 |.lst l=>l.map Dt
 |_=>[]
abbrev mR(b:Bk):jD->Nat
 |[_,_,_,.ow _ (.lst l),_]=>Vr b (l.map Gn)
 |_=>0
def hL(a:L _):(a.map rD).map Gn=a:=by
 rw[List.map_map];have:∀r ,(Gn∘rD) r=r:=λr=>by
  show(r.map D.int).map Dt=r;rw[List.map_map];exact List.map_id' r
 rw[List.map_congr_left λr _=>this r];exact List.map_id' a
def bB(b){q d e c a}(xs):mR b [d,e,c,.ow q (.lst (xs.map rD)),a]=Vr b xs:=by
 show Vr b _=_;rw[hL]
def Pg:∀n,n<7->tN n<=5461:=by decide
def cg(a:b.size<=6)(r):Vr b [r]<=5461:=by
 exact Pg _ (by lia)
def Qb(C){c b d a q}(xs:L _):YA C [c,b,d,.ow q (.lst (xs.map rD)),a]=S (!xs.isEmpty):=by
 show(Ju (.lst _) (.lst [])).bind VU=_;rw[F_];rfl
def ci(C:Addr)(b:Bk)(h:D)(F:OkB b)(Q:b.size<=6)(j m:Sl)(k:L Int)(G0:RowG b k):(jb (uP (YA C) (YB C) 20000) Se) [.bo (jy b),.bo h,j,.ow J (.lst [rD k]),m]=S (.rt (.bl (eR b k))):=by
 have k2:=F.k2;have s1:=F.s1;have n:∀(y:L Int) (g:L (L Int)) (j:Sl),RowG b y->(y.length:Int)≠b.size->g.length<=6000->∃o:Sl,Yp vr (Yz C) (JZ 0 b.kinds.length) [.bo (jy b),.bo h,j,.ow J (.lst (g.map rD)),.cl (rD y)]=S (.nx [.bo (jy b),.bo h,o,.ow J (.lst ((g++g6 b y b.kinds.length).map rD)),.cl (rD y)]):=by
  intro y g j a l hi;have s2:=F.s2;have gl:=a.ln;let Ub Z M H rfl:=zy (g:=vr) (s:=Yz C) (items:=JZ 0 b.kinds.length) (λi t=>∃H:Sl,t=[.bo (jy b),.bo h,H,.ow J (.lst ((g++g6 b y i).map rD)),.cl (rD y)]) (by
   rintro i d t X ⟨H,rfl⟩;let q N rfl:=Gb X;have f:=bA C F a N;have hl:=aS b y i;have z:=ya (n:=(g++g6 b y i).length) (by rw[vZa];lia);have P:=a.zr F;have u:=Nat.le_of_succ_le P;rw[uDa]at f;refine#[_,_,rfl,?_,.cl (.int (i:Int)),rfl];rw[D3];by_cases s:UL b y i=B
   ·rw[gc.mp s]at f;rw[if_pos s];simp[rD,oS]at f z⊢;simp[Yz,rD,f,z,P,u]
   ·have O:∃w,Jt b (Vq b y) (i:Int)=S w:=by
     cases q:Jt b (Vq b y) (i:Int)with
     |none=>exact vDa (gc.mpr q) s
     |some w=>exact#[w,rfl]
    let q w O:=O;rw[O]at f;rw[if_neg s,uFa];simp[rD,oS]at f⊢;simp[Yz,rD,f,P,u]) #[j,rfl]
  rw[show(JZ 0 b.kinds.length).length=b.kinds.length by simp[JZ]]at M;have e0:g6 b y 0=[]:=rfl;rw[e0,uFa]at M;exact#[H,M]
 have W:=cf (dt:=YA C) (s:=YB C) (d:=.bl B) (V:=eR b k=B) (λt=>∃(p:L (L Int)) (j m:Sl),t=[.bo (jy b),.bo h,j,.ow J (.lst (p.map rD)),m]/\(∀r∈p,RowG b r)/\p.any (eR b)=eR b k/\Vr b p<=6000) (mR b) (by
  rintro t ⟨p,j,m,rfl,R,I,hm⟩;rcases List.eq_nil_or_concat p with rfl|⟨g,y,rfl⟩
  ·left;exact#[Qb C [],by rw[<-I];simp]
  ·rw[show g.concat y=g++[y] by simp]at *;right;have a:=R y Sx;have gl:=a.ln;have s2:=F.s2;have u:=Nat.le_of_succ_le (a.zr F);have q:YA C [.bo (jy b),.bo h,j,.ow J (.lst ((g++[y]).map rD)),m]=S B:=by
    rw[Qb,show(g++[y]).isEmpty=G by cases g<;>rfl];rfl
   have A:xa 3 4 [.bo (jy b),.bo h,j,.ow J (.lst ((g++[y]).map rD)),m]=S (.nx [.bo (jy b),.bo h,j,.ow J (.lst (g.map rD)),.cl (rD y)]):=by simp_all
   rw[wR]at hm;have my:=Xk b [y];have mi:=Xk b g;by_cases l:(y.length:Int)=b.size
   ·left;have ey:eR b y=B:=by
     unfold eR y_;rw[a.pl,l,Int.sub_self];show decide ((Vq b y).place=b.size)=B;rw[a.pl,l];simp
    refine#[q,?_,by rw[<-I];simp[ey]];simp only[YB];exact sq A (yu (JG (by simp[rD,u,l]) rfl))
   ·right;let q o e:=n y g j a l (by lia);refine#[q,[.bo (jy b),.bo h,o,.ow J (.lst ((g++g6 b y b.kinds.length).map rD)),.cl (rD y)],?_,#[_,_,_,rfl,?_,?_,?_],?_]
    ·simp only[YB];refine sq A (sq (jH (by simp[rD,u,l]) rfl) ?_);have UQ:yj (b.kinds.length:Int)=B:=zT (by lia) (by lia);have zk:=F.zk;simp[-List.map_append,UQ,zk,e]
    ·intro r x;rcases uWa x with z|z
     ·exact R r (by simp[z])
     ·let jw c hc s rfl:=aU z;exact a.next l hc s
    ·rw[List.any_append,<-FZ a l,<-I];simp
    all_goals
     have T:b.size.toNat-y.length=(b.size.toNat-y.length-1)+1:=by lia
     have mn:=En (b:=b) (y:=y) T (xs:=g6 b y b.kinds.length) (λr x=>by
      let jw c _ _ rfl:=aU x;simp)
     have ml:=Nat.mul_le_mul_right (tN (b.size.toNat-y.length-1)) (wSa (aS b y b.kinds.length) k2);have my2:Vr b [y]=1+4*tN (b.size.toNat-y.length-1):=by
      unfold Vr;rw[List.map_singleton,List.sum_singleton,T,tN];simp
    ·rw[wR];lia
    ·rw[bB,bB,wR,wR];lia) (n:=20000) #[[k],j,m,rfl,λr x=>by rw[List.mem_singleton.mp x];exact G0,by simp,by
    have:=cg Q k;lia] (by
    rw[bB];have:=cg Q k;lia)
 rcases W with⟨v,w⟩|⟨v,ρ',w⟩
 ·rw[v];exact yu w
 ·have v:eR b k=G:=by simpa using v
  rw[v];exact sq w rfl
abbrev q_(b)(a:L Int):=(zg b a).isNone&&eR b a
def KY{c}:zg b c=J↔RowG b c:=by
 constructor
 ·intro h;let q d e:=dX h;exact#[d.1,d.2,e]
 ·intro a;exact dW #[a.ks,a.ln] a.eq
def Xl(C:Addr)(b:Bk)(c:L Int)(j:OkB b)(y:b.size<=6)(x:c.length<=1000):ul C [jy b,.lst (c.map .int)]=S (.bl (q_ b c)):=by
 have z:c.length<=sizeLine:=zd x;have v:=j.zk;have k:=Kk (g:=gN 0) (dc:=JQ (jv (JA yc vU (dN 0) (dV 0) (jo Jv [(G,(d2 jg (dV 1) (dN 1)))])))) (de:=dC 0) (k:=[.un,.bo (jy b)]) D.int (λn=>!(decide (0<=n)&&decide (n<(b.kinds.length:Int)))) D.int (xs:=c) λn t=>#[_,rfl,by by_cases h:0<=n<;>simp[h,v],rfl]
 have l:(c.filter λn=>!(decide (0<=n)&&decide (n<(b.kinds.length:Int))))=[]↔va b c=B:=by
  unfold va;rw[List.filter_eq_nil_iff,List.all_eq_true];constructor
  ·intro h n t;have:=h n t;simpa using this
  ·simp_all
 refine fE ?_;unfold uk;generalize(c.filter λn=>!(decide (0<=n)&&decide (n<(b.kinds.length:Int))))=p at k l;have u:=m6 p;have g:∀s,jb (jr (Ye (jv (d2 VS (jo Jv [(fV 1)]) (d2 jg (dV 0) (dN 0)))) (jv (d2 Ju (dL (yK 1 [0] (JH (dP 1)) (gN 0) (JQ (jv (JA yc vU (dN 0) (dV 0) (jo Jv [(G,(d2 jg (dV 1) (dN 1)))])))) (dC 0))) (dL (jP []))))) Se jA) s [.bo (jy b),.bo (.lst (c.map .int)),.un,.un,.un]=if(c.length:Int)<=b.size/\va b c=B then s [.bo (jy b),.bo (.lst (c.map .int)),.un,.un,.un]else S (.rt (.bl G)):=by
  intro s;have r:jv (d2 Ju (dL (yK 1 [0] (JH (dP 1)) (gN 0) (JQ (jv (JA yc vU (dN 0) (dV 0) (jo Jv [(G,(d2 jg (dV 1) (dN 1)))])))) (dC 0))) (dL (jP []))) [.bo (jy b),.bo (.lst (c.map .int)),.un,.un,.un]=S (!decide (p=[])):=by
   generalize Ju=F at u⊢;generalize(JQ _)=Z at k⊢;simp[k,z,u]
  by_cases f:(c.length:Int)<=b.size
  ·by_cases d:va b c=B
   ·rw[if_pos #[f,d]];refine sq (jH ?_ rfl) rfl;rw[Ye,r,l.mpr d];simp[z,f]
   ·rw[if_neg (λq=>d q.2)];refine yu (JG ?_ rfl);have:p≠[]:=λq=>d (l.mp q);rw[Ye,r];simp[z,f,this]
  ·rw[if_neg (λq=>f q.1)];refine yu (JG ?_ rfl);have:b.size<(c.length:Int):=by lia
   rw[Ye,r];simp[z,this]
 rw[show Zv _ _ 3=[.bo (jy b),.bo _,.un,.un,.un] from rfl,g];unfold q_ zg;by_cases d:va b c=B
 ·by_cases f:(c.length:Int)<=b.size
  ·rw[if_pos #[f,d],if_neg (by rw[d];decide),if_neg (by lia)];have i:=wO C b c j (uG d) x;cases m:J8 b (JE b) c with
   |mk s o=>
   cases o with
   |some w=>
    have e:yL b c=S (s.place+1,w):=by unfold yL;rw[m]
    rw[e]at i;refine yu (JG (by simp[i,oJ]) rfl)
   |none=>
    have e:yL b c=J:=by unfold yL;rw[m]
    rw[e]at i;have a:RowG b c:=#[uG d,f,s,m]
    refine sq (jH (by simp[i,oJ]) rfl) (sq (a:=[.bo (jy b),.bo _,.un,.ow J (.lst [rD c]),.un]) rfl ?_);rw[ci C b _ j y .un .un c a];rfl
  ·rw[if_neg (λq=>f q.1),if_neg (by rw[d];decide),if_pos (by lia)];rfl
 ·rw[if_neg (λq=>d q.2),if_pos (by simpa using d)];rfl
abbrev zM(b:Bk)(a:L Int):Y Xp:=match zg b a with
 |S p=>S p
 |none=>if eR b a=B then J else S ("Stuck",[])
abbrev Zp(p:Xp):D:=if p.1 ="Broken" then .tup [(((p.2.lookup ("place" : Str)).bind Wk).getD .non),(((p.2.lookup ("word" : Str)).bind Wk).getD .non)]else .non
abbrev vD:Y Xp->D
 |none=>.tup [.str "",.non]
 |S p=>.tup [.str p.1,Zp p]
def XA(n w){d c a}:ju (jQ [(B,dK (D.str "Broken")),tC 3]) [d,c,a,.cl (oJ (S (n,w)))]=S (.rt (vD (S ("Broken",[("word",.str w),("place",.int n)])))):=by
 have b:(("place" : Str)=="word")=G:=by decide
 simp[vD,Zp,List.lookup,b,oJ]
def WF(C b a k)(i:OkB b)(r:b.size<=6)(p:va b a=B)(u:a.length+1<=b.size):vZ C [jy b,.lst ((a++[k]).map .int),.int k]=S (vD (zM b (a++[k]))):=by
 have v:=i.zk;have j:(a++[k]).length<=1000:=by simp;lia
 have c:=Xl C b _ i r j;refine fE ?_;unfold zC zM zg;by_cases f:0<=k/\k<b.kinds.length
 ·have d:=xQ (YT (uG p) f);have m:¬b.size<((a++[k]).length):=by simp;lia
  have g:=wO C b _ i (uG d) j;rw[if_neg (by rw[d];decide),if_neg m];unfold q_ zg at c;rw[if_neg (by rw[d];decide),if_neg m]at c;refine sq (jH (by simp[f.1,f.2]) rfl) ?_;generalize(a++[k]).map D.int=t at *;cases h:J8 b _ _ with
  |mk s o=>
  rw[h]at c;cases o with
  |some w=>
   have e:yL b (a++[k])=S (s.place+1,w):=by unfold yL;rw[h]
   rw[e]at g;refine sq (Bn g rfl) (yu (JG rfl ?_));exact XA _ _
  |none=>
   have e:yL b (a++[k])=J:=by unfold yL;rw[h]
   rw[e]at g;refine sq (Bn g rfl) (sq Sy ?_);cases l:eR b _ with
   |true=>simp[c,l,vD]
   |false=>simp[c,l,vD,Zp];decide
 ·have d:va b (a++[k])=G:=by
   cases q:va b _ with
   |false=>rfl
   |true=>exact vDa (uG q k Sx) f
  rw[d,if_pos rfl];refine yu (JG ?_ ?_)
  ·by_cases n:0<=k
   ·simp_all
   ·simp[n]
  ·simp[vD,Zp];decide
noncomputable abbrev Sh:=L (Str×Int)×Int
abbrev Je(p:Str×Int):D:=.tup [.str p.1,.int p.2]
abbrev Jf(s:Sh):D:=.tup [.lst (s.1.map Je),.int s.2]
abbrev jF(s:Sh):D:=.tup [.tup (s.1.map Je),.int s.2]
abbrev JS(l:L (Str×Int)):=l.map (·.2)
def RowG.zz{l:L (Str×Int)}(c:RowG b (JS l))(w:OkB b):l.length+1<=sizeLine:=by simpa[JS]using c.zr w
structure Ivs (b) (ks:L Str) (ss:L Sh) where
 len:ks.length=ss.length
 k8:ks.length<=8
 gu:∀k∈ks,Gu k
 ok:∀s∈ss,RowG b (JS s.1)
 nd:ks.Nodup
inductive Dd where
 |beg (n:Str)|off (n p:Str) (k:Int)|frk (n m:Str)|drp (n:Str)
abbrev dD:Dd->D
 |.beg n=>.tup [.str "begin",.str n]
 |.off n p k=>.tup [.str "offer",.str n,.str p,.int k]
 |.frk n m=>.tup [.str "fork",.str n,.str m]
 |.drp n=>.tup [.str "drop",.str n]
@[simp] theorem OE(n):jg (dD (.beg n)) (.int 0)=S (.str "begin"):=rfl
@[simp] theorem OF(n):jg (dD (.beg n)) (.int 1)=S (.str n):=rfl
@[simp] theorem OG(n p k):jg (dD (.off n p k)) (.int 0)=S (.str "offer"):=rfl
@[simp] theorem OH(n p k):jg (dD (.off n p k)) (.int 1)=S (.str n):=rfl
@[simp] theorem OI(n p k):jg (dD (.off n p k)) (.int 2)=S (.str p):=rfl
@[simp] theorem OJ(n p k):jg (dD (.off n p k)) (.int 3)=S (.int k):=rfl
@[simp] theorem OK(n m):jg (dD (.frk n m)) (.int 0)=S (.str "fork"):=rfl
@[simp] theorem OL(n m):jg (dD (.frk n m)) (.int 1)=S (.str n):=rfl
@[simp] theorem OM(n m):jg (dD (.frk n m)) (.int 2)=S (.str m):=rfl
@[simp] theorem ON(n):jg (dD (.drp n)) (.int 0)=S (.str "drop"):=rfl
@[simp] theorem OO(n):jg (dD (.drp n)) (.int 1)=S (.str n):=rfl
@[simp] theorem Ph(p):jg (Je p) (.int 0)=S (.str p.1):=rfl
@[simp] theorem Pi(p):jg (Je p) (.int 1)=S (.int p.2):=rfl
abbrev Dd.gu:Dd->Prop
 |.beg n=>Gu n
 |.off n p _=>Gu n/\Gu p
 |.frk n m=>Gu n/\Gu m
 |.drp n=>Gu n
abbrev yq(ks:L Str)(n:Str):Y Xp:=if GA n=G then S ("BadName",[])else if(Js n ks).isSome=B then S ("Known",[])else if 8<=ks.length then S ("Many",[])else J
abbrev Yd(ks)(ss:L Sh)(n):=(Js n ks).bind λj=>ss[j]?
abbrev U4(l:L (Str×Int))(p):=match l.getLast? with
 |S q=>decide (q.1=p)
 |none=>G
abbrev Ur(b:Bk)(l:L (Str×Int))(p:Str)(k:Int):Y Xp:=if GA p=G then S ("BadName",[])else if b.size<=l.length then S ("Whole",[])else if U4 l p=B then S ("SamePoet",[])else zM b (JS l++[k])
abbrev jK(b:Bk)(ks:L Str)(ss:L Sh):Dd->Y Xp
 |.beg n=>match yq ks n with
  |S p=>S p
  |none=>zM b []
 |.off n p k=>match Yd ks ss n with
  |none=>S ("NoName",[])
  |S s=>Ur b s.1 p k
 |.frk n m=>match Yd ks ss n with
  |none=>S ("NoName",[])
  |S _=>yq ks m
 |.drp n=>match Yd ks ss n with
  |none=>S ("NoName",[])
  |S _=>J
theorem Xm:∀{a n j},Js n a=S j->j<a.length/\a[j]?=S n
 |[],n,j,h=>Zn h
 |k::a,n,j,h=>by
  rw[Js]at h;by_cases e:k=n
  ·rw[if_pos e]at h;obtain rfl:=Zj h;exact#[by simp,by simp[e]]
  ·rw[if_neg e]at h;let ja i b rfl:=Option.map_eq_some_iff.mp h;have:=Xm b;exact#[by simp;lia,by simpa using this.2]
def D4{a:L Str}(h:n∉a):Js n a=J:=by
 cases e:Js n a with
 |none=>rfl
 |some j=>exact vDa (wYa (Xm e).2) h
theorem Xn:∀{a:L Str}{j n},a.Nodup->a[j]?=S n->Js n a=S j
 |k::a,0,n,d,h=>by
  obtain rfl:=Zj h;rw[Js,if_pos rfl]
 |k::a,j+1,n,d,h=>by
  let q i d:=List.nodup_cons.mp d;have h:a[j]?=S n:=h;rw[Js,if_neg λz=>i (by rw[z];exact List.mem_of_getElem? h),Xn d h];rfl
theorem Xo{a b:Type}(f:a->b):∀ks (ss:L a),Jp n ks (ss.map f)=((Jp n ks ss).1,(Jp n ks ss).2.map f)
 |[],_=>by simp[Jp]
 |_::_,[]=>rfl
 |k::ks,s::ss=>by
  rw[vWa,ZQ,ZQ,Xo f ks ss];split<;>rfl
theorem Q0{a:Type}:∀{ks}{ss:L a},(∀x∈(Jp n ks ss).1,x∈ks)/\∀x∈(Jp n ks ss).2,x∈ss
 |[],_=>#[by simp[Jp],by simp[Jp]]
 |_::_,[]=>#[by simp[Jp],by simp[Jp]]
 |k::ks,s::ss=>by
  have i:=Q0 (n:=n) (ks:=ks) (ss:=ss);rw[ZQ];split
  ·exact#[λx h=>wMa _ (i.1 x h),λx h=>wMa _ (i.2 x h)]
  ·exact#[λx h=>(uTa h).elim (λz=>by simp[z]) λh=>wMa _ (i.1 x h),λx h=>(uTa h).elim (λz=>by simp[z]) λh=>wMa _ (i.2 x h)]
theorem bC{a:Type}:∀{ks}{ss:L a},ks.Nodup->(Jp n ks ss).1.Nodup
 |[],_,_=>List.nodup_nil
 |_::_,[],_=>List.nodup_nil
 |k::ks,s::ss,h=>by
  let q i h:=List.nodup_cons.mp h;rw[ZQ];split
  ·exact bC h
  ·exact List.nodup_cons.mpr #[λz=>i (Q0.1 _ z),bC h]
def WG{ks:L Str}(h:ks.Nodup):(J5 ks n).Nodup:=by
 unfold J5;split
 ·exact h
 ·rename_i e;refine List.nodup_append.mpr #[h,by simp,λx a y b z=>?_];rw[List.mem_singleton.mp b]at z;subst z;let q j hj:=List.mem_iff_getElem?.mp a;rw[Xn h hj]at e;exact e rfl
theorem bD{ks:L Str}{vs:L D}(n:Str):∀(l:L Str) (w:L D) (a:L Str) (b:L D) (s:Sl),l.length=w.length->(∀(j:Nat) k v,l[j]?=S k->w[j]?=S v->yB (.dk ks vs) (.str k)=S v)->(∀k∈l,k∉a)->l.Nodup->a.length+l.length<sizeLine->
  ka (gN 0) (jv (d2 Ju (dV 0) (dV 2))) (dC 0) (d2 yB (dV 1) (dV 0)) (l.map .str) [s,.cl (.dk ks vs),.cl (.str n)] a b=S (a++(Jp n l w).1,b++(Jp n l w).2)
 |[],[],a,b,s,_,_,_,_,_=>by simp[ka,Jp]
 |[],_::_,_,_,_,h,_,_,_,_=>nomatch h
 |_::_,[],_,_,_,h,_,_,_,_=>nomatch h
 |k::l,v::w,a,b,s,h,g,q,d,z=>by
  let q i d:=List.nodup_cons.mp d;have h:l.length=w.length:=by simpa using h
  have g':∀(j:Nat) x y,l[j]?=S x->w[j]?=S y->yB (.dk ks vs) (.str x)=S y:=λj=>g (j+1);have z':a.length+(l.length+1)<sizeLine:=z;rw[vWa,eW,show gN 0 (.str k) [s,.cl (.dk ks vs),.cl (.str n)]=S [.cl (.str k),.cl (.dk ks vs),.cl (.str n)] from rfl,uEa,show jv (d2 Ju (dV 0) (dV 2)) [.cl (.str k),.cl (.dk ks vs),.cl (.str n)]=S (!decide (k=n)) from rfl,uEa,if_pos #[rfl,by lia],ZQ];by_cases e:k=n
  ·rw[if_neg (by simp[e]),if_pos e];exact bD n l w a b _ h g' (λx m=>q x (wMa _ m)) d (by lia)
  ·rw[if_pos (by simp[e]),if_neg e];have f:=g 0 k v rfl rfl;have u:=bD (ks:=ks) (vs:=vs) n l w (a++[k]) (b++[v]) (.cl (.str k)) h g' (λx m y=>by
    rcases uWa y with y|y
    ·exact q x (wMa _ m) y
    ·rw[List.mem_singleton.mp y]at m;exact i m) d (by simp;lia)
   have o:=D4 (q k wNa);show((yB (.dk ks vs) (.str k)).bind _)=_;rw[f,uEa];show ka _ _ _ _ _ _ (J5 a k) (J0 a b k v)=_;rw[show J5 a k=a++[k] by simp[o],show J0 a b k v=b++[v] by simp[J0,o],u];simp
def VJ(h:Yd ks ss n=S s):s∈ss:=by
 let ja j _ h:=jd h;exact wYa h
def ZA(a:ks.length=ss.length){n}:(Yd ks ss n).isSome=(Js n ks).isSome:=by
 unfold Yd;cases e:Js n ks with
 |none=>rfl
 |some j=>
  have b:=(Xm e).1;have:j<ss.length:=by lia
  simp[this]
def U5{n}(f):yB (.dk ks (ss.map f)) (.str n)=(Yd ks ss n).map f:=by
 show(Js n ks).bind (λj=>(ss.map f)[j]?)=_;unfold Yd;cases Js n ks with
 |none=>rfl
 |some j=>simp
def kN{n a}:ZP a (.str n) (.dk ks b)=S (.bl (xor a (Js n ks).isSome)):=rfl
theorem Gc:∀a:L _,yH (a.map Je)<=2
 |[]=>by simp 
 |x::a=>by
  have b:=Gc a;have e:dep (Je x)<=2:=by unfold Je;simp
  rw[vWa,yH];omega
def D5(a:L _):Ju (.lst (a.map Je)) (.lst [])=S (.bl (!a.isEmpty)):=by
 have e:dep (.lst (a.map Je))<=20:=by rw[Zu];have:=Gc a;omega
 have b:vg (D.lst (a.map Je)) (D.lst [])=B:=rfl;unfold Ju VY;rw[if_pos b,if_pos #[b,e],zt];cases a<;>simp[zu]
abbrev z9:Y Xp->Str
 |none=>""
 |S p=>p.1
def cj(C ks e n)(h:Gu n):gQ C [.dk ks e,.str n]=S (.str (z9 (yq ks n))):=by
 have a:=cb C n h;refine fE ?_;unfold gP yq;cases c:GA n with
 |false=>rw[c]at a;exact yu (JG (Bn a rfl) rfl)
 |true=>
  rw[c]at a;refine sq (jH (Bn a rfl) rfl) ?_;cases b:(Js n ks).isSome with
  |true=>exact yu (JG (by simp[ZP,b]) rfl)
  |false=>
   refine sq (jH (by simp[ZP,b]) rfl) ?_;by_cases d:8<=ks.length
   ·have:(7:Int)<ks.length:=by lia
    rw[if_pos d];simp[Vt,this,z9]
   ·have:¬(7:Int)<ks.length:=by lia
    rw[if_neg d];simp[Vt,this,z9]
def D6(C l)(h:l.length<=1000):uo C [.lst (l.map Je)]=S (.lst ((JS l).map .int)):=by
 have a:JX (gT 2 (gC (gN 0) (gC (gN 1) gZ))) Jc (dC 1) (l.map Je) [.un,.un]=S _:=JO Je _ λp _=>#[_,rfl,rfl,rfl]
 have z:l.length<=sizeLine:=zd h;simp only[uo,um];simp[a,z,JS]
def bE(C b l n p k)(w:OkB b)(v:b.size<=6)(c:RowG b (JS l))(j:Gu p):UP C [jy b,.lst (l.map Je),dD (.off n p k)]=S (vD (Ur b l p k)):=by
 have e:=cb C p j;have m:(JS l).length=l.length:=by simp[JS]
 have x:=c.ln;have z:=Nat.le_of_succ_le (c.zz w);refine fE ?_;unfold vt Ur;cases h:GA p with
 |false=>rw[h]at e;exact yu (JG (Bn e rfl) rfl)
 |true=>
  rw[h]at e;refine sq (jH (Bn e rfl) rfl) ?_;by_cases f:b.size<=l.length
  ·rw[if_pos f];exact yu (JG (by simp[f]) rfl)
  ·rw[if_neg f];refine sq (jH (by simp[f]) rfl) ?_;have T:Jr (jv (d2 Ju (dV 1) (dL (jP [])))) (jv (d2 jX (d2 jg (d2 jg (dV 1) (V2 (dN 1))) (dN 0)) (d2 jg (dV 2) (dN 2)))) [.bo (jy b),.bo (.lst (l.map Je)),.bo (dD (.off n p k))]=S (U4 l p):=by
    have o:=D5 l;have s:jv (d2 Ju (dV 1) (dL (jP []))) [.bo (jy b),.bo (.lst (l.map Je)),.bo (dD (.off n p k))]=S (!l.isEmpty):=by
     show(Ju (.lst _) (.lst [])).bind VU=_;rw[o];rfl
    rw[Jr,s];rcases List.eq_nil_or_concat l with rfl|⟨d,q,rfl⟩
    ·rfl
    ·rw[show d.concat q=d++[q] by simp,show(d++[q]).isEmpty=G by cases d<;>rfl];have a:=X0 (l:=d.map Je) (d:=Je q);unfold U4;simp[a]
   cases i:U4 l p with
   |true=>
    rw[i]at T;exact yu (JG T rfl)
   |false=>
    rw[i]at T;refine sq (jH T rfl) ?_;have t:=D6 C l (by lia);have g:=WF C b (JS l) k w v (xQ c.ks) (by lia);have u:=c.zz w;have r:(JS l).length+1<=sizeLine:=by rw[m];exact u
    simp at g;simp[t,g,r]
abbrev mD(ks:L Str)(ss:L Sh):D:=.tup [.int 0,.dk ks (ss.map Jf)]
def Gd(a n):yq a n=J\/yq a n=S (("BadName",[]):Xp)\/yq a n=S (("Known",[]):Xp)\/yq a n=S (("Many",[]):Xp):=by
 unfold yq;split
 ·simp
 ·split
  ·simp
  ·split
   ·simp
   ·simp
def hU:z9 (yq ks n) ="" ↔yq ks n=J:=by
 have c:¬(("BadName" : Str) =""):=by decide
 have a:¬(("Known" : Str) =""):=by decide
 have b:¬(("Many" : Str) =""):=by decide
 rcases Gd ks n with h|h|h|h<;>rw[h]<;>simp[z9,c,a,b]
def ck:vD (yq ks n)=.tup [.str (z9 (yq ks n)),.non]:=by
 have c:¬(("BadName" : Str) ="Broken"):=by decide
 have b:¬(("Known" : Str) ="Broken"):=by decide
 have a:¬(("Many" : Str) ="Broken"):=by decide
 rcases Gd ks n with h|h|h|h<;>rw[h]<;>simp[vD,Zp,z9,c,b,a]
def aV(c:OkB b):RowG b []:=#[λn a=>(by cases a),by have:=c.s1;simp;lia,_,rfl]
def bF(C:Addr)(b:Bk)(j:L D)(ks:L Str)(ss:L Sh)(dd:Dd)(y:OkB b)(H:b.size<=6)(I:Ivs b ks ss)(u:dd.gu):UR C [.lst (jy b::j),mD ks ss,dD dd]=S (vD (jK b ks ss dd)):=by
 have l:atI (jy b::j) 0=S (jy b):=UM (vEa 0) rfl;refine fE ?_;unfold vz;have x:∀d:D,Y3 (dC 1) (gT 2 (gC (gN 3) (gC (gN 4) gZ))) [.bo (.lst (jy b::j)),.cl Sm,.cl d,.un,.un,.un,.un,.un,.un]=S _:=λd=>rfl;cases dd with
 |beg n=>
  have r:=cj C ks (ss.map Jf) n u;have o:=Xl C b [] y H Sq;have A:zg b []=J:=KY.mpr (aV y);refine sq (x _) (sq (a:=[.bo (.lst (jy b::j)),.cl Sm,.cl (dD (.beg n)),.cl (.int 0),.cl Sj,.cl (.str "begin"),.un,.un,.un]) Sx (sq Sy (yu (JG Sx ?_))));unfold q_ at o;rw[A,uJa]at o;cases i:yq ks n with
  |some p=>
   have w:¬z9 (yq ks n) ="":= λz=>by rw[hU,i]at z;exact Zs z
   have v:=ck (ks:=ks) (n:=n);refine sq (Bn r rfl) (sq (jH (by simp[w]) rfl) ?_);rw[i]at v;have f:jK b ks ss (.beg n)=S p:=by simp[jK,i]
   rw[f,v,i];simp
  |none=>
   rw[i]at r;have f:jK b ks ss (.beg n)=if eR b []=B then J else S (("Stuck",[]):Xp):=by simp[jK,i,zM,A]
   rw[f];refine sq (Bn r rfl) ?_;cases F:eR b []with
   |true=>rw[F]at o;exact sq (jH (by simp[z9,l,o]) rfl) rfl
   |false=>rw[F]at o;exact sq (JG (by simp[z9,l,o]) (by simp<;>rfl)) (by simp[vD,Zp];decide)
 |off n p k=>
  let q i M:=u;have c:=ZA (ss:=ss) I.len (n:=n);have g:=U5 (ks:=ks) (ss:=ss) (n:=n) Jf;refine sq (x _) (sq (a:=[.bo (.lst (jy b::j)),.cl Sm,.cl (dD (.off n p k)),.cl (.int 0),.cl Sj,.cl (.str "offer"),.un,.un,.un]) Sx (sq Sy (sq Sy ?_)));cases h:Yd ks ss n with
  |none=>
   rw[h]at c;have t:¬(("NoName" : Str) ="Broken"):=by decide
   have f:jK b ks ss (.off n p k)=S (("NoName",[]):Xp):=by simp[jK,h]
   rw[f];have c:(Js n ks).isSome=G:=c.symm;refine yu (JG (by simp[kN,c]) (by simp[vD,Zp,t]))
  |some s=>
   rw[h]at c g;have f:jK b ks ss (.off n p k)=Ur b s.1 p k:=by simp[jK,h]
   rw[f];have c:(Js n ks).isSome=B:=c.symm;have a:=I.ok s (VJ h);have e:=bE C b s.1 n p k y H a M;refine sq (jH (by simp[kN,c]) rfl) ?_;have g:yB Sj (.str n)=S (.tup [.lst (s.1.map Je),.int s.2]):=g;refine sq (a:=[.bo (.lst (jy b::j)),.cl Sm,.cl (dD (.off n p k)),.cl (.int 0),.cl Sj,.cl (.str "offer"),.un,.cl (.lst (s.1.map Je)),.cl (.int s.2)]) (Bn g rfl) (yu (JG Sx ?_));simp[l,e]
 |frk n m=>
  let q i N:=u;have r:=cj C ks (ss.map Jf) m N;have c:=ZA (ss:=ss) I.len (n:=n);have g:=U5 (ks:=ks) (ss:=ss) (n:=n) Jf;refine sq (x _) (sq (a:=[.bo (.lst (jy b::j)),.cl Sm,.cl (dD (.frk n m)),.cl (.int 0),.cl Sj,.cl (.str "fork"),.un,.un,.un]) Sx (sq Sy (sq Sy ?_)));cases h:Yd ks ss n with
  |none=>
   rw[h]at c;have t:¬(("NoName" : Str) ="Broken"):=by decide
   have f:jK b ks ss (.frk n m)=S (("NoName",[]):Xp):=by simp[jK,h]
   rw[f];have c:(Js n ks).isSome=G:=c.symm;refine yu (JG (by simp[kN,c]) (by simp[vD,Zp,t]))
  |some s=>
   rw[h]at c g;have f:jK b ks ss (.frk n m)=yq ks m:=by simp[jK,h]
   rw[f];have c:(Js n ks).isSome=B:=c.symm;refine sq (jH (by simp[kN,c]) rfl) ?_;have g:yB Sj (.str n)=S (.tup [.lst (s.1.map Je),.int s.2]):=g;have v:=ck (ks:=ks) (n:=m);refine sq (a:=[.bo (.lst (jy b::j)),.cl Sm,.cl (dD (.frk n m)),.cl (.int 0),.cl Sj,.cl (.str "fork"),.un,.cl (.lst (s.1.map Je)),.cl (.int s.2)]) (Bn g rfl) (sq Sy (sq Sy (yu (JG Sx ?_))));rw[v];simp[r]
 |drp n=>
  have c:=ZA (ss:=ss) I.len (n:=n);have g:=U5 (ks:=ks) (ss:=ss) (n:=n) Jf;refine sq (x _) (sq (a:=[.bo (.lst (jy b::j)),.cl Sm,.cl (dD (.drp n)),.cl (.int 0),.cl Sj,.cl (.str "drop"),.un,.un,.un]) Sx (sq Sy (sq Sy ?_)));cases h:Yd ks ss n with
  |none=>
   rw[h]at c;have t:¬(("NoName" : Str) ="Broken"):=by decide
   have f:jK b ks ss (.drp n)=S (("NoName",[]):Xp):=by simp[jK,h]
   rw[f];have c:(Js n ks).isSome=G:=c.symm;refine yu (JG (by simp[kN,c]) (by simp[vD,Zp,t]))
  |some s=>
   rw[h]at c g;have f:jK b ks ss (.drp n)=J:=by simp[jK,h]
   rw[f];have c:(Js n ks).isSome=B:=c.symm;refine sq (jH (by simp[kN,c]) rfl) ?_;have g:yB Sj (.str n)=S (.tup [.lst (s.1.map Je),.int s.2]):=g;exact sq (a:=[.bo (.lst (jy b::j)),.cl Sm,.cl (dD (.drp n)),.cl (.int 0),.cl Sj,.cl (.str "drop"),.un,.cl (.lst (s.1.map Je)),.cl (.int s.2)]) (Bn g rfl) (sq Sy (sq Sy (sq Sy (sq Sy rfl))))
abbrev Yj(C:Addr)(b:Bk)(ks:L Str)(vs:L D):D:=.tup [jC C b,.mem (Y5 b),.dk ks vs]
abbrev J1(C:Addr)(b:Bk)(ks:L Str)(vs:L D)(dn un:L D):HS:=#[CH,["opened","now"],[jC C b,Yj C b ks vs],["done","undone"],[dn,un]]
def mq:JR "now" ["opened","now"]=S 1:=by decide
def Eo:JR "done" ["opened","now"]=J:=by decide
def Ep:JR "undone" ["opened","now"]=J:=by decide
def nW:JR "done" ["done","undone"]=S 0:=by decide
def nX:JR "undone" ["done","undone"]=S 1:=by decide
def Us:∀m∈(["do","put","check_new","check_ends","sheet","begin","offer","fork","drop","verses","turned","rules","names"]:L Str),(JR m ["opened","now"]).isNone=B/\(JR m ["done","undone"]).isNone=B:=by decide
@[simp] theorem ZE(C b ks vs dn un):Ja CH "now" (J1 C b ks vs dn un).toD=S (Yj C b ks vs):=by
 have a:(("now" : Str)=="opened")=G:=by decide
 show(if CH=CH then((["opened","now"]:L Str).zip [jC C b,Yj C b ks vs]).lookup ("now" : Str)else J)=_;simp[List.lookup,a]
@[simp] theorem OP(C b c a):jg (Yj C b c a) (.int 0)=S (jC C b):=rfl
@[simp] theorem OQ(C b c a):jg (Yj C b c a) (.int 2)=S (.dk c a):=rfl
abbrev uJ:Y Xp->Rx
 |none=>.ok .non
 |S p=>.xc p
def kO(C b ks vs dn un n)(h:Gu n):yk C [(J1 C b ks vs dn un).toD,.str n]=S (uJ (yq ks n)):=by
 have a:=qp C n h;have f:=ZE C b ks vs dn un;generalize(J1 C b ks vs dn un).toD=g at f⊢;unfold yq;simp only[yk,Z7];cases d:GA n with
 |false=>unfold aM at a;rw[d]at a;simp[a,uJ]
 |true=>
  unfold aM at a;rw[d]at a;cases c:(Js n ks).isSome with
  |true=>simp[a,f,ZP,c,uJ]
  |false=>
   by_cases e:8<=ks.length
   ·have:(8:Int)<=ks.length:=by lia
    simp[a,f,ZP,c,e,Vt,uJ,this]
   ·have:¬(8:Int)<=ks.length:=by lia
    simp[a,f,ZP,c,e,Vt,uJ,this]
theorem Ge(C b ks ss dn un n)(d:ks.length=ss.length):Jl C [(J1 C b ks (ss.map jF) dn un).toD,.str n]=S (match Yd ks ss n with
  |none=>.xc ("NoName",[])
  |S s=>.ok (jF s)):=by
 have f:=ZE C b ks (ss.map jF) dn un;generalize(J1 C b ks _ dn un).toD=e at f⊢;have a:=ZA d (n:=n);have g:=U5 (ks:=ks) (ss:=ss) (n:=n) jF;simp only[Jl,Vd];cases c:Yd ks ss n with
 |none=>
  rw[c]at a;have a:=a.symm;simp[f,kN,a]
 |some s=>
  rw[c]at a g;have a:=a.symm;simp[f,kN,a,g]
def mr(C l)(h:l.length<=1000):KP C [.tup (l.map Je)]=S (.lst ((JS l).map .int)):=by
 have a:JX (gT 2 (gC (gN 0) (gC (gN 1) gZ))) Jc (dC 1) (l.map Je) [.un,.un]=S _:=JO Je _ λp _=>#[_,rfl,rfl,rfl]
 have z:l.length<=sizeLine:=zd h;simp only[KP,KO];simp[a,z,JS]
def GC(C b ks vs dn un l)(j:OkB b)(n:b.size<=6)(m:l.length<=1000):yA C [(J1 C b ks vs dn un).toD,.tup (l.map Je)]=S (uJ (zM b (JS l))):=by
 have f:=ZE C b ks vs dn un;generalize(J1 C b ks vs dn un).toD=e at f⊢;have k:=mr C l m;have g:=B_ C b (JS l) j (by simp[JS];lia);have A:∀x,Y3 (d1 (Ja CH "now") (dV 0)) (gT 3 (gC (gN 2) (gC (gN 3) (gC (gN 4) gZ)))) [.bo e,.bo x,.un,.un,.un,.un]=S _:=λx=>by
  show(Ja CH "now" e).bind _=_;rw[f];rfl
 have c:yz C [.bo e,.bo (.tup (l.map Je)),.un,.un,.un,.un]=(match zM b (JS l)with
   |none=>S (.nx [.bo e,.bo (.tup (l.map Je)),.cl (jC C b),.cl (.mem (Y5 b)),.cl (.dk ks vs),.cl (Jq (Vq b (JS l)))])
   |S p=>match zg b (JS l)with
    |S p=>S (.xc p [.bo e,.bo (.tup (l.map Je)),.cl (jC C b),.cl (.mem (Y5 b)),.cl (.dk ks vs),.un])
    |none=>S (.xc p [.bo e,.bo (.tup (l.map Je)),.cl (jC C b),.cl (.mem (Y5 b)),.cl (.dk ks vs),.cl (Jq (Vq b (JS l)))])):=by
  unfold yz;rw[sq (A _) rfl];unfold zM;cases d:zg b (JS l)with
  |some p=>
   rw[d]at g;simp[k,g]
  |none=>
   rw[d]at g;have a:=KY.mp d;have R:=a.rch;let Yk _ r o:=R.of;have h:=aR C b j 9 _ R (by lia);have h:UW C _=S (.bl (eR b (JS l))):=h;have g:VC C _=S (.ok (Jq (Vq b (JS l)))):=g;refine sq (a:=[.bo e,.bo (.tup (l.map Je)),.cl (jC C b),.cl (.mem (Y5 b)),.cl (.dk ks vs),.cl (Jq (Vq b (JS l)))]) (by simp[k,g]) ?_;cases i:eR b (JS l)with
   |true=>rw[i]at h;simp[h]
   |false=>rw[i]at h;simp[h]
 show(yz C [.bo e,.bo _,.un,.un,.un,.un]).bind _=_;rw[c];unfold zM uJ;cases d:zg b (JS l)with
 |some p=>simp
 |none=>cases i:eR b (JS l)<;>simp
def Es(C b g c e a d h i)(j:d.length<sizeLine):VD C (J1 C b g e d h) [i,Yj C b c a]=S (.ok .non,J1 C b c a (d++[.tup [i,Yj C b g e]]) []):=by
 have f:=ZE C b g e d h;simp only[VD,G8,J1]at f⊢;simp[j]at f⊢;simp[f,mq,Eo,Ep,nW,nX,j]
def U9{b c:Type}(f:b->c)(ks a k v):J0 ks (a.map f) k (f v)=(J0 ks a k v).map f:=by
 unfold J0;cases Js k ks with
 |none=>simp
 |some j=>simp 
abbrev Xq(C:Addr)(b:Bk)(ks:L Str)(c:L Sh)(a:Dd):D:=.tup [dD a,Yj C b ks (c.map jF)]
def Xr(C b ks c dn un d n s)(m:dn.length<sizeLine)(l:ks.length<sizeLine):vR C (J1 C b ks (c.map jF) dn un) [d,.str n,.tup (s.1.map Je),.int s.2]=S (.ok .non,J1 C b (J5 ks n) ((J0 ks c n s).map jF) (dn++[.tup [d,Yj C b ks (c.map jF)]]) []):=by
 have f:=ZE C b ks (c.map jF) dn un;have e:=Es C b ks (J5 ks n) (c.map jF) ((J0 ks c n s).map jF) dn un d m;have j:=Us "do" Sq;have k:=U9 jF ks c n s;have o:(J1 C b ks (c.map jF) dn un).C=CH:=rfl;have i:(J1 C b ks (c.map jF) dn un).ns=(["opened","now"]:L Str):=rfl;have h:(J1 C b ks (c.map jF) dn un).ms=(["done","undone"]:L Str):=rfl;generalize J1 C b ks _ dn un=g at *;have a:vQ C [.lo B g,.cl d,.cl (.str n),.cl (.tup (s.1.map Je)),.cl (.int s.2),.un,.un,.un,.un]=S (.nx [.lo B (J1 C b (J5 ks n) ((J0 ks c n s).map jF) (dn++[.tup [d,Yj C b ks (c.map jF)]]) []),.cl d,.cl (.str n),.cl (.tup (s.1.map Je)),.cl (.int s.2),.cl (jC C b),.cl (.mem (Y5 b)),.cl (.dk ks (c.map jF)),.cl (.dk (J5 ks n) ((J0 ks c n s).map jF))]):=by
  refine sq (by
   show(Ja CH "now" g.toD).bind _=_;rw[f];rfl) ?_
  refine sq (a:=[.lo _ g,.cl d,.cl _,.cl (.tup _),.cl _,.cl _,.cl _,.cl (.dk ks _),.ow _ (.dk ks _)]) rfl ?_;refine sq (a:=[.lo B g,.cl d,.cl (.str n),.cl (.tup (s.1.map Je)),.cl (.int s.2),.cl (jC C b),.cl (.mem (Y5 b)),.cl (.dk ks (c.map jF)),.ow J (.dk (J5 ks n) (J0 ks (c.map jF) n (jF s)))]) (by simp[l,jF]) ?_;rw[k];unfold Yj at e;simp[o,i,h,j.1,j.2,e,-J5,Yj]
 show(vQ C [.lo _ g,.cl d,.cl _,.cl _,.cl _,.un,.un,.un,.un]).bind _=_;rw[a];rfl
def za{ks vs dn un m F ds}(c:m∈(["do","put","check_new","check_ends","sheet","begin","offer","fork","drop","verses","turned","rules","names"]:L Str)):QW CH m F (J1 C b ks vs dn un).toD ds=F ((J1 C b ks vs dn un).toD::ds):=by
 have a:=Us m c;exact if_pos #[rfl,a.1,a.2]
abbrev Vk(ks:L Str):Dd->L Str
 |.drp n=>(Jp n ks ks).1
 |.beg n=>J5 ks n
 |.off n _ _=>J5 ks n
 |.frk _ m=>J5 ks m
abbrev Y6(ks:L Str)(ss:L Sh):Dd->L Sh
 |.drp n=>(Jp n ks ss).2
 |.beg n=>J0 ks ss n ([],0)
 |.off n p k=>match Yd ks ss n with
  |S s=>J0 ks ss n (s.1++[(p,k)],s.2)
  |none=>ss
 |.frk n m=>match Yd ks ss n with
  |S s=>J0 ks ss m s
  |none=>ss
abbrev zN(C:Addr)(b:Bk)(ks:L Str)(ss:L Sh)(dn un:L D)(dd:Dd):Rx×HS:=match jK b ks ss dd with
 |S p=>(.xc p,J1 C b ks (ss.map jF) dn un)
 |none=>(.ok .non,J1 C b (Vk ks dd) ((Y6 ks ss dd).map jF) (dn++[Xq C b ks ss dd]) [])
def D7(C b ks c dn un n)(x:OkB b)(s:b.size<=6)(t:Gu n)(v:dn.length<sizeLine)(u:ks.length<sizeLine):Gw C (J1 C b ks (c.map jF) dn un) [.str n]=S (zN C b ks c dn un (.beg n)):=by
 have w:=kO C b ks (c.map jF) dn un n t;have l:=GC C b ks (c.map jF) dn un [] x s Sq;have m:=Xr C b ks c dn un (dD (.beg n)) n ([],0) v u;have d:=za (C:=C) (b:=b) (ks:=ks) (vs:=c.map jF) (dn:=dn) (un:=un) (m:="check_new") (F:=yk C) (ds:=[.str n]) Sq;have e:=za (C:=C) (b:=b) (ks:=ks) (vs:=c.map jF) (dn:=dn) (un:=un) (m:="check_ends") (F:=yA C) (ds:=[.tup []]) Sq;have g:=Us "put" Sq;unfold zN Xq;have r:(J1 C b ks (c.map jF) dn un).C=CH:=rfl;have h:(J1 C b ks (c.map jF) dn un).ns=(["opened","now"]:L Str):=rfl;have i:(J1 C b ks (c.map jF) dn un).ms=(["done","undone"]:L Str):=rfl;generalize J1 C b ks _ dn un=j at *;rw[w]at d;rw[show([]).map _=[] from rfl,show JS []=[] from rfl]at l;rw[l]at e;have a:YW C [.lo B j,.cl (.str n)]=match jK b ks c (.beg n)with
   |S p=>S (.xc p [.lo B j,.cl (.str n)])
   |none=>S (.nx [.lo B (J1 C b (J5 ks n) ((J0 ks c n ([],0)).map jF) (dn++[.tup [dD (.beg n),Yj C b ks (c.map jF)]]) []),.cl (.str n)]):=by
  unfold YW;cases f:yq ks n with
  |some p=>
   have k:jK b ks c (.beg n)=S p:=by simp[jK,f]
   rw[f]at d;rw[k];simp[d,uJ,-HS.toD]
  |none=>
   have k:jK b ks c (.beg n)=zM b []:=by simp[jK,f]
   rw[f]at d;rw[k];cases o:zM b []with
   |some p=>rw[o]at e;simp[d,e,uJ,-HS.toD]
   |none=>
    rw[o]at e;simp only[dD,List.map_nil]at m;simp only[Option.isNone_iff_eq_none]at g;simp[d,e,uJ,-HS.toD,r,h,i,g.1,g.2,m,dD]
 show(YW C [.lo _ j,.cl _]).bind _=_;rw[a];cases jK b ks c _ with
 |some p=>rfl
 |none=>rfl
def D8(C:Addr)(b:Bk)(ks:L Str)(g:L Sh)(dn un:L D)(n p:Str)(k:Int)(W:OkB b)(Z:b.size<=6)(I:Ivs b ks g)(hn:Gu n)(hp:Gu p)(hl:dn.length<sizeLine)(hk:ks.length<sizeLine):Gx C (J1 C b ks (g.map jF) dn un) [.str n,.str p,.int k]=S (zN C b ks g dn un (.off n p k)):=by
 have e0:=Ge C b ks g dn un n I.len;have j:=qp C p hp;have f:=ZE C b ks (g.map jF) dn un;have t:=za (C:=C) (b:=b) (ks:=ks) (vs:=g.map jF) (dn:=dn) (un:=un) (m:="sheet") (F:=Jl C) (ds:=[.str n]) Sq;have x2:∀l:L (Str×Int),l.length<=1000->QW CH "check_ends" (yA C) (J1 C b ks (g.map jF) dn un).toD [.tup (l.map Je)]=S (uJ (zM b (JS l))):=λl h=>by
  rw[za Sq];exact GC C b ks (g.map jF) dn un l W Z h
 have u:=λs:Sh=>Xr C b ks g dn un (dD (.off n p k)) n s hl hk;have O:=Us "put" Sq;unfold zN Xq;have hC:(J1 C b ks (g.map jF) dn un).C=CH:=rfl;have H:(J1 C b ks (g.map jF) dn un).ns=(["opened","now"]:L Str):=rfl;have A:(J1 C b ks (g.map jF) dn un).ms=(["done","undone"]:L Str):=rfl;generalize J1 C b ks (g.map jF) dn un=m at *;rw[e0]at t;have e:∃x w M:Sl,YX C [.lo B m,.cl (.str n),.cl (.str p),.cl (.int k),.un,.un,.un]=match jK b ks g (.off n p k)with
   |S q=>S (.xc q [.lo B m,.cl (.str n),.cl (.str p),.cl (.int k),x,w,M])
   |none=>S (.nx [.lo B (J1 C b (Vk ks (.off n p k)) ((Y6 ks g (.off n p k)).map jF) (dn++[.tup [dD (.off n p k),Yj C b ks (g.map jF)]]) []),.cl (.str n),.cl (.str p),.cl (.int k),x,w,M]):=by
  unfold YX;cases r:Yd ks g n with
  |none=>
   have N:jK b ks g (.off n p k)=S (("NoName",[]):Xp):=by simp[jK,r]
   rw[r]at t;rw[N];exact#[.un,.un,.un,by simp[t,-HS.toD]]
  |some s=>
   have N:jK b ks g (.off n p k)=Ur b s.1 p k:=by simp[jK,r]
   have X:Y6 ks g (.off n p k)=J0 ks g n (s.1++[(p,k)],s.2):=by simp[Y6,r]
   have c:=I.ok s (VJ r);have ll:(JS s.1).length=s.1.length:=by simp[JS]
   have gl:=c.ln;have s2:=W.s2;have z:=Nat.le_of_succ_le (c.zz W);rw[r]at t;rw[N,X];refine#[.cl (.tup (s.1.map Je)),.cl (.int s.2),?_];have S1:Z0 (yg CH "sheet" (Jl C) (dV 0) [(fV 1)]) (λd ρ=>((gT 2 (gC (gN 4) (gC (gN 5) gZ))) d ρ).bind λF=>S (.nx F)) [.lo B m,.cl (.str n),.cl (.str p),.cl (.int k),.un,.un,.un]=S (.nx [.lo B m,.cl (.str n),.cl (.str p),.cl (.int k),.cl (.tup (s.1.map Je)),.cl (.int s.2),.un]):=by simp[t,-HS.toD,jF]
   rw[sq S1 rfl];unfold Ur;cases UQ:GA p with
   |false=>
    unfold aM at j;rw[UQ]at j;exact#[.un,by simp[j]]
   |true=>
    unfold aM at j;rw[UQ]at j;rw[if_neg Sq];by_cases Q:b.size<=(s.1.length:Int)
    ·rw[if_pos Q];have i:(s.1.length:Int)=b.size:=by lia
     exact#[.un,by simp[j,f,z,i,-HS.toD]]
    ·rw[if_neg Q];have i:¬(s.1.length:Int)=b.size:=by lia
     have T:Jr (JJ (dV 4)) (jv (d2 jX (d2 jg (d2 jg (dV 4) (V2 (dN 1))) (dN 0)) (dV 2))) [.lo B m,.cl (.str n),.cl (.str p),.cl (.int k),.cl (.tup (s.1.map Je)),.cl (.int s.2),.un]=S (U4 s.1 p):=by
      generalize s.1=l;rcases List.eq_nil_or_concat l with rfl|⟨v,q,rfl⟩
      ·rfl
      ·have a:=X0 (l:=v.map Je) (d:=Je q);unfold U4;simp[a]
     cases R:U4 s.1 p with
     |true=>
      rw[R]at T;refine#[.un,?_];refine sq (Bn j rfl) (sq (jH (by simp[f,z,i,-HS.toD]) rfl) ?_);rw[jb,JG (r:=S (.xc ("SamePoet",[]) _)) T rfl];rfl
     |false=>
      rw[R]at T;have o:=x2 (s.1++[(p,k)]) (by simp;lia);have kd:JS (s.1++[(p,k)])=JS s.1++[k]:=by simp[JS]
      rw[kd]at o;have z2:=c.zz W;refine#[.cl (.tup ((s.1++[(p,k)]).map Je)),?_];refine sq (Bn j rfl) (sq (jH (by simp[f,z,i,-HS.toD]) rfl) (sq (jH T rfl) (sq (a:=[.lo B m,.cl (.str n),.cl (.str p),.cl (.int k),.cl (.tup (s.1.map Je)),.cl (.int s.2),.cl (.tup ((s.1++[(p,k)]).map Je))]) (by simp[z2,Je]) ?_)));have u:=u (s.1++[(p,k)],s.2);generalize y:(s.1++[(p,k)]).map Je=ll at o u⊢;cases P:zM b (JS s.1++[k])with
      |some q=>rw[P]at o;simp[o,uJ,-HS.toD]
      |none=>
       rw[P]at o;simp only[Option.isNone_iff_eq_none]at O;simp only[y,dD]at u;simp[o,uJ,-HS.toD,hC,H,A,O.1,O.2,u,dD,-J5,Vk]
 let Q1 x w M e:=e;show(YX C [.lo B m,.cl (.str n),.cl (.str p),.cl (.int k),.un,.un,.un]).bind _=_;rw[e];cases jK b ks g (.off n p k)with
 |some p=>rfl
 |none=>rfl
def hV(C b ks c dn un n m)(I:Ivs b ks c)(O:Gu n)(x:Gu m)(A:dn.length<sizeLine)(H:ks.length<sizeLine):kD C (J1 C b ks (c.map jF) dn un) [.str n,.str m]=S (zN C b ks c dn un (.frk n m)):=by
 have z:=Ge C b ks c dn un n I.len;have N:=kO C b ks (c.map jF) dn un m x;have h:=za (C:=C) (b:=b) (ks:=ks) (vs:=c.map jF) (dn:=dn) (un:=un) (m:="sheet") (F:=Jl C) (ds:=[.str n]) Sq;have g:=za (C:=C) (b:=b) (ks:=ks) (vs:=c.map jF) (dn:=dn) (un:=un) (m:="check_new") (F:=yk C) (ds:=[.str m]) Sq;have t:=λs=>Xr C b ks c dn un (dD (.frk n m)) m s A H;have l:=Us "put" Sq;unfold zN Xq;have y:(J1 C b ks (c.map jF) dn un).C=CH:=rfl;have o:(J1 C b ks (c.map jF) dn un).ns=(["opened","now"]:L Str):=rfl;have k:(J1 C b ks (c.map jF) dn un).ms=(["done","undone"]:L Str):=rfl;generalize J1 C b ks _ dn un=e at *;rw[z]at h;rw[N]at g;have a:∃u i ,zD C [.lo B e,.cl (.str n),.cl (.str m),.un,.un]=match jK b ks c (.frk n m)with
   |S q=>S (.xc q [.lo B e,.cl (.str n),.cl (.str m),u,i])
   |none=>S (.nx [.lo B (J1 C b (Vk ks (.frk n m)) ((Y6 ks c (.frk n m)).map jF) (dn++[.tup [dD (.frk n m),Yj C b ks (c.map jF)]]) []),.cl (.str n),.cl (.str m),u,i]):=by
  unfold zD;cases f:Yd ks c n with
  |none=>
   have r:jK b ks c (.frk n m)=S (("NoName",[]):Xp):=by simp[jK,f]
   rw[f]at h;rw[r];exact#[.un,.un,by simp[h,-HS.toD]]
  |some s=>
   have r:jK b ks c (.frk n m)=yq ks m:=by simp[jK,f]
   have M:Y6 ks c (.frk n m)=J0 ks c m s:=by simp[Y6,f]
   rw[f]at h;rw[r,M];refine#[.cl (.tup (s.1.map Je)),.cl (.int s.2),?_];have F:Z0 (yg CH "sheet" (Jl C) (dV 0) [(fV 1)]) (λd w=>((gT 2 (gC (gN 3) (gC (gN 4) gZ))) d w).bind λj=>S (.nx j)) [.lo B e,.cl (.str n),.cl (.str m),.un,.un]=S (.nx [.lo B e,.cl (.str n),.cl (.str m),.cl (.tup (s.1.map Je)),.cl (.int s.2)]):=by simp[h,-HS.toD,jF]
   rw[sq F _];cases v:yq ks m with
   |some q=>rw[v]at g;simp[g,uJ,-HS.toD]
   |none=>
    rw[v]at g;simp only[Option.isNone_iff_eq_none]at l;simp only[dD]at t;simp[g,uJ,-HS.toD,y,o,k,l.1,l.2,t,dD,Vk]
 let Vl i P a:=a;show(zD C [.lo _ e,.cl _,.cl _,.un,.un]).bind _=_;rw[a];cases jK b ks c _ with
 |some p=>rfl
 |none=>rfl
theorem wS{a b:Type}:∀{ks}{ss:L a}{tt:L b},ks.length=ss.length->ks.length=tt.length->(Jp n ks ss).1=(Jp n ks tt).1
 |[],_,_,_,_=>by simp[Jp]
 |_::_,[],_,h,_=>nomatch h
 |_::_,_::_,[],_,h=>nomatch h
 |k::ks,s::ss,t::tt,h,g=>by
  have i:=wS (n:=n) (ks:=ks) (ss:=ss) (tt:=tt) (by simpa using h) (by simpa using g);rw[ZQ,ZQ];split
  ·exact i
  ·exact congrArg (k::·) i
def hX(C b ks c dn un n)(I:Ivs b ks c)(A:dn.length<sizeLine):kE C (J1 C b ks (c.map jF) dn un) [.str n]=S (zN C b ks c dn un (.drp n)):=by
 have z:=Ge C b ks c dn un n I.len;have h:=za (C:=C) (b:=b) (ks:=ks) (vs:=c.map jF) (dn:=dn) (un:=un) (m:="sheet") (F:=Jl C) (ds:=[.str n]) Sq;have N:=ZE C b ks (c.map jF) dn un;have K:(Jp n ks c).1=(Jp n ks ks).1:=wS I.len rfl;have t:=Es C b ks (Jp n ks ks).1 (c.map jF) ((Jp n ks c).2.map jF) dn un (dD (.drp n)) A;have w:=bD (ks:=ks) (vs:=c.map jF) n ks (c.map jF) [] [] .un (by simp[I.len]) (λj k v a e=>by
  show(Js k ks).bind _=_;rw[Xn I.nd a];exact e) (λk _=>List.not_mem_nil) I.nd (by have:ks.length<sizeLine:=ya (by have:=I.k8;lia);simpa using this)
 rw[Xo,K,uQa,uQa]at w;have l:=Us "do" Sq;unfold zN Xq;have y:(J1 C b ks (c.map jF) dn un).C=CH:=rfl;have o:(J1 C b ks (c.map jF) dn un).ns=(["opened","now"]:L Str):=rfl;have k:(J1 C b ks (c.map jF) dn un).ms=(["done","undone"]:L Str):=rfl;generalize J1 C b ks _ dn un=e at *;rw[z]at h;have a:∃p q r s,zE C [.lo B e,.cl (.str n),.un,.un,.un,.un]=match jK b ks c (.drp n)with
   |S x=>S (.xc x [.lo B e,.cl (.str n),p,q,r,s])
   |none=>S (.nx [.lo B (J1 C b (Vk ks (.drp n)) ((Y6 ks c (.drp n)).map jF) (dn++[.tup [dD (.drp n),Yj C b ks (c.map jF)]]) []),.cl (.str n),p,q,r,s]):=by
  unfold zE;cases f:Yd ks c n with
  |none=>
   have r:jK b ks c (.drp n)=S (("NoName",[]):Xp):=by simp[jK,f]
   rw[f]at h;rw[r];exact#[.un,.un,.un,.un,by simp[h,-HS.toD]]
  |some s=>
   have r:jK b ks c (.drp n)=J:=by simp[jK,f]
   rw[f]at h;rw[r];refine#[.cl (jC C b),.cl (.mem (Y5 b)),.cl (.dk ks (c.map jF)),.cl (.dk (Jp n ks ks).1 ((Jp n ks c).2.map jF)),?_];refine sq (a:=[.lo B e,.cl (.str n),.un,.un,.un,.un]) (by simp[h,-HS.toD]) ?_;refine sq (a:=[.lo B e,.cl (.str n),.cl (jC C b),.cl (.mem (Y5 b)),.cl (.dk ks (c.map jF)),.un]) (by
    show(Ja CH "now" e.toD).bind _=_;rw[N];rfl) ?_
   refine sq (a:=[.lo B e,.cl (.str n),.cl (jC C b),.cl (.mem (Y5 b)),.cl (.dk ks (c.map jF)),.cl (.dk (Jp n ks ks).1 ((Jp n ks c).2.map jF))]) ?_ ?_
   ·rw[jx,dL,Bw,show wE (dP 4) [.lo B e,.cl (.str n),.cl (jC C b),.cl (.mem (Y5 b)),.cl (.dk ks (c.map jF)),.un]=S (ks.map .str) from rfl,uEa,show V4 1 [4,1] [.lo B e,.cl (.str n),.cl (jC C b),.cl (.mem (Y5 b)),.cl (.dk ks (c.map jF)),.un]=[.un,.cl (.dk ks (c.map jF)),.cl (.str n)] from rfl,if_pos (show([.un,.cl (.dk ks (c.map jF)),.cl (.str n)]:jD).all uX=B from rfl),w];rfl
   ·simp only[Option.isNone_iff_eq_none]at l;simp only[dD,Yj]at t;simp[-HS.toD,y,o,k,l.1,l.2,t,dD,Vk,Y6,Yj]
 let Dk i P Q R a:=a;show(zE C [.lo _ e,.cl _,.un,.un,.un,.un]).bind _=_;rw[a];cases jK b ks c _ with
 |some p=>rfl
 |none=>rfl
def mt(C:Addr)(b:Bk)(f:L Str)(g:L Sh)(h i:L D)(c:D)(u:Dd)(M:OkB b)(H:b.size<=6)(I:Ivs b f g)(t:u.gu)(z:h.length<sizeLine)(x:f.length<sizeLine):ZY C (J1 C b f (g.map jF) h i) [c,dD u]=S (zN C b f g h i u):=by
 have F:=Us "begin" Sq;have v:=Us "offer" Sq;have w:=Us "fork" Sq;have W:=Us "drop" Sq;simp only[Option.isNone_iff_eq_none]at F v w W;have y:(J1 C b f (g.map jF) h i).C=CH:=rfl;have s:(J1 C b f (g.map jF) h i).ns=(["opened","now"]:L Str):=rfl;have o:(J1 C b f (g.map jF) h i).ms=(["done","undone"]:L Str):=rfl;cases u with
 |beg n=>
  have e:=D7 C b f g h i n M H t z x;generalize zN C b f g h i (.beg n)=r at e⊢;generalize J1 C b f (g.map jF) h i=j at *;let q r l:=r;have a:JF C [.lo B j,.cl c,.cl (dD (.beg n))]=match r with
    |.ok d=>S (.rh d [.lo B l,.cl c,.cl (dD (.beg n))])
    |.xc p=>S (.xc p [.lo B l,.cl c,.cl (dD (.beg n))]):=by
   unfold JF;cases r<;>simp[y,s,o,F.1,F.2,e]
  show(JF C [.lo B j,.cl c,.cl (dD (.beg n))]).bind _=_;rw[a];cases r<;>rfl
 |off n p k=>
  have e:=D8 C b f g h i n p k M H I t.1 t.2 z x;generalize zN C b f g h i (.off n p k)=r at e⊢;generalize J1 C b f (g.map jF) h i=j at *;let q r l:=r;have a:JF C [.lo B j,.cl c,.cl (dD (.off n p k))]=match r with
    |.ok d=>S (.rh d [.lo B l,.cl c,.cl (dD (.off n p k))])
    |.xc A=>S (.xc A [.lo B l,.cl c,.cl (dD (.off n p k))]):=by
   unfold JF;refine sq Sy ?_;cases r<;>simp[y,s,o,v.1,v.2,e]
  show(JF C [.lo B j,.cl c,.cl (dD (.off n p k))]).bind _=_;rw[a];cases r<;>rfl
 |frk n m=>
  have e:=hV C b f g h i n m I t.1 t.2 z x;generalize zN C b f g h i (.frk n m)=r at e⊢;generalize J1 C b f (g.map jF) h i=j at *;let q r l:=r;have a:JF C [.lo B j,.cl c,.cl (dD (.frk n m))]=match r with
    |.ok d=>S (.rh d [.lo B l,.cl c,.cl (dD (.frk n m))])
    |.xc A=>S (.xc A [.lo B l,.cl c,.cl (dD (.frk n m))]):=by
   unfold JF;refine sq Sy (sq Sy (sq Sy (sq Sy (sq Sy ?_))));cases r<;>simp[y,s,o,w.1,w.2,e]
  show(JF C [.lo B j,.cl c,.cl (dD (.frk n m))]).bind _=_;rw[a];cases r<;>rfl
 |drp n=>
  have e:=hX C b f g h i n I z;generalize zN C b f g h i (.drp n)=r at e⊢;generalize J1 C b f (g.map jF) h i=j at *;let q r l:=r;have a:JF C [.lo B j,.cl c,.cl (dD (.drp n))]=match r with
    |.ok d=>S (.rh d [.lo B l,.cl c,.cl (dD (.drp n))])
    |.xc A=>S (.xc A [.lo B l,.cl c,.cl (dD (.drp n))]):=by
   unfold JF;refine sq Sy (sq Sy (sq Sy (sq Sy (sq Sy (sq Sy ?_)))));cases r<;>simp[y,s,o,W.1,W.2,e]
  show(JF C [.lo B j,.cl c,.cl (dD (.drp n))]).bind _=_;rw[a];cases r<;>rfl
abbrev kP:L Str:=["BadName","Known","NoName","Many","Whole","SamePoet","NoKind","Stuck","Turned","NoPlace","Broken","Stranded"]
abbrev mk(w:Str):=if w ="" then[]else kP.map λx=>decide (w=x)
abbrev z_:Y Xp->D
 |none=>.non
 |S p=>Zp p
abbrev cn(C:Addr):L Hd:=[#[["Broken"],["BadRules","NoKind","TooLong","BadName","Known","NoName","Many","Whole","SamePoet","Stuck","Turned","NoPlace","NothingLeft","Stranded"],6,(jb (gA 6 3 (Zm C) "Broken") (jx 4 (jQ [(B,(d1 (GX xK "place") (dV 6))),(B,(d1 (GX xK "word") (dV 6)))])))],#[["Stranded"],["BadRules","NoKind","TooLong","BadName","Known","NoName","Many","Whole","SamePoet","Stuck","Turned","NoPlace","NothingLeft","Broken"],6,(jb (gA 6 3 (Zm C) "Stranded") (jx 4 (d1 (GX xK "name") (dV 6))))],#[["BadRules","NoKind","TooLong","BadName","Known","NoName","Many","Whole","SamePoet","Stuck","Turned","NoPlace","NothingLeft","Broken","Stranded"],[],6,(jb (jx 3 (dL (jP [(B,(d1 (yR Zg "BadName") (dV 6))),(B,(d1 (yR Zg "Known") (dV 6))),(B,(d1 (yR Zg "NoName") (dV 6))),(B,(d1 (yR Zg "Many") (dV 6)))])))
 (jb (jx 3 (dL (Yb yp (dV 3) (dL (jP [(B,(d1 (yR Zg "Whole") (dV 6))),(B,(d1 (yR Zg "SamePoet") (dV 6))),(B,(d1 (yR Zg "NoKind") (dV 6))),(B,(d1 (yR Zg "Stuck") (dV 6)))])))))
 (jx 3 (dL (Yb yp (dV 3) (dL (jP [(B,(d1 (yR Zg "Turned") (dV 6))),(B,(d1 (yR Zg "NoPlace") (dV 6))),(B,(dK (.bl G))),(B,(dK (.bl G)))])))))))]]
abbrev zm:L Str:=["BadName","Known","NoName","Many","Whole","SamePoet","NoKind","Stuck"]
def cq(C b c a w)(h:w∈zm):QR (cn C) (w,[]) [b,c,a,.cl (.lst []),.cl .non,.cl .non,.un]=S (.nx [b,c,a,.cl (.lst ((mk w).map .bl)),.cl .non,.cl .non,.un]):=by
 simp only[zm,List.mem_cons,List.not_mem_nil,or_false]at h;rcases h with rfl|rfl|rfl|rfl|rfl|rfl|rfl|rfl<;>kernel_rfl
def cr(C a c b n w):QR (cn C) ("Broken",[("word",.str w),("place",.int n)]) [a,c,b,.cl (.lst []),.cl .non,.cl .non,.un]=S (.nx [a,c,b,.cl (.lst ((mk "Broken").map .bl)),.cl (.tup [.int n,.str w]),.cl .non,.un]):=by kernel_rfl
abbrev Kd(p:Xp):=(p.2=[]/\p.1∈zm)\/∃n w,p=(("Broken",[("word",V.str w),("place",V.int n)]):Xp)
def qv{a p}(h:(a.length:Int)<=b.size)(e:zM b a=S p):Kd p:=by
 have i:("NoKind" : Str)∈zm:=by decide
 have g:("Stuck" : Str)∈zm:=by decide
 unfold zM zg at e;rw[if_neg (show¬b.size<a.length by lia)]at e;by_cases c:va b a=G
 ·rw[if_pos c]at e;obtain rfl:=Zj e;exact .inl #[rfl,i]
 ·rw[if_neg c]at e;cases f:J8 b _ a with
  |mk s o=>
  rw[f]at e;cases o with
  |some w=>obtain rfl:=Zj e;exact .inr #[_,_,rfl]
  |none=>
   cases d:eR b a with
   |true=>rw[d]at e;exact Zn e
   |false=>rw[d]at e;obtain rfl:=Zj e;exact .inl #[rfl,g]
def qw(e:yq d n=S p):Kd p:=by
 have b:("BadName" : Str)∈zm:=by decide
 have a:("Known" : Str)∈zm:=by decide
 have c:("Many" : Str)∈zm:=by decide
 rcases Gd d n with h|h|h|h<;>rw[h]at e<;>cases e
 ·exact .inl #[rfl,b]
 ·exact .inl #[rfl,a]
 ·exact .inl #[rfl,c]
def kQ{ks ss dd p}(h:OkB b)(e:jK b ks ss dd=S p):Kd p:=by
 have d:("NoName" : Str)∈zm:=by decide
 have l:("BadName" : Str)∈zm:=by decide
 have i:("Whole" : Str)∈zm:=by decide
 have j:("SamePoet" : Str)∈zm:=by decide
 have o:=h.s1;cases dd with
 |beg n=>
  unfold jK at e;dsimp only at e;cases a:yq ks n with
  |some q=>rw[a]at e;obtain rfl:=Zj e;exact qw a
  |none=>rw[a]at e;exact qv (by simp;lia) e
 |off n q k=>
  unfold jK at e;dsimp only at e;cases a:Yd ks ss n with
  |none=>rw[a]at e;obtain rfl:=Zj e;exact .inl #[rfl,d]
  |some s=>
   rw[a]at e;have e:Ur b s.1 q k=S p:=e;unfold Ur at e;by_cases c:GA q=G
   ·rw[if_pos c]at e;obtain rfl:=Zj e;exact .inl #[rfl,l]
   ·rw[if_neg c]at e;by_cases g:b.size<=(s.1.length)
    ·rw[if_pos g]at e;obtain rfl:=Zj e;exact .inl #[rfl,i]
    ·rw[if_neg g]at e;by_cases f:U4 s.1 q=B
     ·rw[if_pos f]at e;obtain rfl:=Zj e;exact .inl #[rfl,j]
     ·rw[if_neg f]at e;exact qv (by simp[JS];lia) e
 |frk n m=>
  unfold jK at e;dsimp only at e;cases a:Yd ks ss n with
  |none=>rw[a]at e;obtain rfl:=Zj e;exact .inl #[rfl,d]
  |some s=>rw[a]at e;exact qw e
 |drp n=>
  unfold jK at e;dsimp only at e;cases a:Yd ks ss n with
  |none=>rw[a]at e;obtain rfl:=Zj e;exact .inl #[rfl,d]
  |some s=>rw[a]at e;exact Zn e
def D9(C b ks ss f h c dd)(k:OkB b)(r:b.size<=6)(I:Ivs b ks ss)(v:dd.gu)(o:f.length<sizeLine)(s:ks.length<sizeLine):uV (kG C) (J1 C b ks (ss.map jF) f h) [c,dD dd]=S (.ok (.tup [.non,.lst ((mk (z9 (jK b ks ss dd))).map .bl),z_ (jK b ks ss dd)]),(zN C b ks ss f h dd).2):=by
 have A:=mt C b ks ss f h c dd k r I v o s;unfold zN at A⊢;generalize J1 C b ks _ f h=g at *;have a:ZZ C [.lo B g,.cl c,.cl (dD dd),.un,.un,.un,.un]=S (.rh (.tup [.non,.lst ((mk (z9 (jK b ks ss dd))).map .bl),z_ (jK b ks ss dd)]) [.lo B (match jK b ks ss dd with
   |S p=>(Rx.xc p,g)
   |none=>(Rx.ok .non,J1 C b (Vk ks dd) ((Y6 ks ss dd).map jF) (f++[Xq C b ks ss dd]) [])).2,.cl c,.cl (dD dd),.cl (.lst ((mk (z9 (jK b ks ss dd))).map .bl)),.cl (z_ (jK b ks ss dd)),.cl .non,.un]):=by
  refine sq rfl (sq rfl (sq rfl ?_));change jb (uW _ _ (cn C)) _ _=_;cases i:jK b ks ss dd with
  |none=>
   rw[i]at A;refine sq (a:=[.lo B (J1 C b (Vk ks dd) ((Y6 ks ss dd).map jF) (f++[Xq C b ks ss dd]) []),.cl c,.cl (dD dd),.cl (.lst []),.cl .non,.cl .non,.un]) ?_ ?_
   ·unfold uW;simp[A]
   ·have e:mk (z9 J)=[]:=by kernel_rfl
    rfl
  |some p=>
   rw[i]at A;have T:uW (yE 0 (ZY C) [(tC 1),(tC 2)]) (Z1 (yE 0 (uV (ZY C)) [(tC 1),(tC 2)]) λd m=>S (.nx (m.set 5 (.cl d)))) (cn C) [.lo B g,.cl c,.cl (dD dd),.cl (.lst []),.cl .non,.cl .non,.un]=QR (cn C) p [.lo B g,.cl c,.cl (dD dd),.cl (.lst []),.cl .non,.cl .non,.un]:=by
    unfold uW;simp[A]
   rcases kQ k i with⟨l,j⟩|⟨n,w,rfl⟩
   ·let q w x:=p;subst l;have t:¬w ="Broken":= λz=>by
     rw[z]at j;revert j;decide
    have e:z_ (S (w,[]))=.non:=by exact if_neg t
    rw[e];exact sq (T.trans (cq C _ _ _ w j)) rfl
   ·have e:z_ (S (("Broken",[("word",.str w),("place",.int n)])))=.tup [.int n,.str w]:=by
     have u:(("place" : Str)=="word")=G:=by decide
     simp[z_,Zp,List.lookup,u]
    exact sq (T.trans (cr C _ _ _ n w)) rfl
 show(((ZZ C [.lo B g,.cl c,.cl (dD dd),.un,.un,.un,.un]).bind _).bind _)=_;rw[a];rfl
def Da(C w):zG C [.str w]=S (.lst ((mk w).map .bl)):=by
 have c:=JO (g:=gN 0) (dc:=Jc) (de:=d2 jX (dV 0) (dV 1)) (k:=[.un,.bo (.str w)]) D.str (λx=>D.bl _) (xs:=kP) λx _=>#[_,rfl,rfl,rfl]
 have z:(12)<=sizeLine:=by decide
 unfold mk;by_cases h:w =""
 ·simp only[zG,zF];simp[h]
 ·rw[if_neg h];have b:JX (gN 0) Jc (d2 jX (dV 0) (dV 1)) (kP.map D.str) [.un,.bo (.str w)]=S ((kP.map λx=>decide (w=x)).map D.bl):=by
   rw[c,List.map_map];congr 1;exact List.map_congr_left λx _=>by simp[eq_comm]
  have a:zF C [.bo (.str w),.un]=S (.rf (.lst ((kP.map λx=>decide (w=x)).map .bl))):=by
   refine sq (a:=[.bo _,.cl (.lst ((kP.take 10).map D.str))]) rfl (sq (jH (by simp[h]) rfl) ?_);have d:JH (dL (Yb yp (dV 1) (dL (jP [(B,(dK (.str "Broken"))),(B,(dK (.str "Stranded")))])))) [.bo (.str w),.cl (.lst ((kP.take 10).map D.str))]=S (kP.map D.str):=by kernel_rfl
   rw[Yo,yK,d,uEa,show V4 1 [0] _=[.un,.bo _] from rfl,b,uEa,if_pos (by exact z)];rfl
  show(zF C [.bo _,.un]).bind _=_;rw[a];rfl
def qy(h:yq ks n=J):(Js n ks).isSome=G/\ks.length<8:=by
 unfold yq at h;by_cases a:GA n=G
 ·simp_all
 ·rw[if_neg a]at h;by_cases b:(Js n ks).isSome=B
  ·simp_all
  ·simp_all
def WH{b:Type}{ks a}(h:ks.length=a.length)(k)(v:b):(J5 ks k).length=(J0 ks a k v).length:=by
 unfold J5 J0;cases e:Js k ks with
 |none=>simp[h]
 |some j=>simp[h]
def aW(h:∀k∈ks,Gu k)(a:Gu n):∀k∈J5 ks n,Gu k:=by
 unfold J5;split
 ·exact h
 ·exact YT h a
def KZ{c:Type}{P:c->Prop}{ks b n v}(h:∀x∈b,P x)(a:P v):∀x∈J0 ks b n v,P x:=by
 unfold J0;cases Js n ks with
 |none=>exact YT h a
 |some j=>
  intro x d;rcases List.mem_or_eq_of_mem_set d with z|z
  ·exact h x z
  ·rw[z];exact a
def Xs:(J5 ks n).length<=ks.length+1:=by
 unfold J5;split<;>simp
def cu{a}(h:zM b a=J):RowG b a:=by
 unfold zM at h;cases c:zg b a with
 |some p=>rw[c]at h;exact Zs h
 |none=>exact KY.mp c
def Ivs.next{ks ss dd}(o:OkB b)(I:Ivs b ks ss)(f:dd.gu)(c:jK b ks ss dd=J):Ivs b (Vk ks dd) (Y6 ks ss dd):=by
 cases dd with
 |beg n=>
  have j:yq ks n=J:=by
   unfold jK at c;dsimp only at c;cases d:yq ks n with
   |none=>rfl
   |some p=>rw[d]at c;exact Zs c
  have i:=(qy j).2;have l:=Xs (ks:=ks) (n:=n);exact#[WH I.len _ _,by show(J5 ks n).length<=8;lia,aW I.gu f,KZ I.ok (aV o),WG I.nd]
 |off n p k=>
  unfold jK at c;dsimp only at c;cases d:Yd ks ss n with
  |none=>rw[d]at c;exact Zs c
  |some s=>
   rw[d]at c;have c:Ur b s.1 p k=J:=c;have e:Y6 ks ss (.off n p k)=J0 ks ss n (s.1++[(p,k)],s.2):=by simp[Y6,d]
   have a:RowG b (JS (s.1++[(p,k)])):=by
    unfold Ur at c;split at c
    ·exact Zs c
    ·split at c
     ·exact Zs c
     ·split at c
      ·exact Zs c
      ·have:=cu c;simpa[JS]using this
   have r:(Js n ks).isSome=B:=by rw[<-ZA I.len,d];rfl
   have g:J5 ks n=ks:=by simp_all
   have h:=WH I.len n ((s.1++[(p,k)],s.2));rw[e];exact#[h,by show(J5 ks n).length<=8;rw[g];exact I.k8,by show∀k∈J5 ks n,Gu k;rw[g];exact I.gu,KZ I.ok a,WG I.nd]
 |frk n m=>
  unfold jK at c;dsimp only at c;cases d:Yd ks ss n with
  |none=>rw[d]at c;exact Zs c
  |some s=>
   rw[d]at c;have i:=(qy c).2;have l:=Xs (ks:=ks) (n:=m);have e:Y6 ks ss (.frk n m)=J0 ks ss m s:=by simp[Y6,d]
   rw[e];exact#[WH I.len _ _,by show(J5 ks m).length<=8;lia,aW I.gu f.2,KZ I.ok (I.ok s (VJ d)),WG I.nd]
 |drp n=>
  have K:=wS (n:=n) I.len (tt:=ks) rfl;have L00:=UG n (c:=ks) (d:=ks);have k8:=I.k8;exact#[by show(Jp n ks ks).1.length=_;rw[<-K];exact(UG n).1,by show(Jp n ks ks).1.length<=8;lia,λk h=>I.gu k (Q0.1 k h),λs h=>I.ok s (Q0.2 s h),bC I.nd]
def cv(C:Addr)(b:Bk)(ks:L Str)(ss:L Sh)(dd:Dd)(r:OkB b)(I:Ivs b ks ss)(e:jK b ks ss dd=J):Vf C [mD ks ss,dD dd]=S (mD (Vk ks dd) (Y6 ks ss dd)):=by
 have h:ks.length<sizeLine:=ya (by have:=I.k8;lia);refine fE ?_;unfold Ve;have j:∀d:D,Y3 (dC 0) (gT 2 (gC (gN 2) (gC (gN 3) gZ))) [.cl Sm,.bo d,.un,.un,.un,.un]=S _:=λd=>rfl;have l:∀d:D,Zr 3 (Jg UF [(fV 3)]) [.cl Sm,.bo d,.cl (.int 0),.cl Sj,.un,.un]=S _:=λd=>rfl;refine sq (j _) (sq (l _) ?_);cases dd with
 |beg n=>
  have f:=U9 Jf ks ss n (([],0):Sh);refine sq Sy (yu (JG Sx (sq (a:=[.cl Sm,.bo (dD (.beg n)),.cl (.int 0),.ow J (.dk (J5 ks n) (J0 ks (ss.map Jf) n (Jf ([],0)))),.un,.un]) (by simp[h,Jf]) ?_)));rw[f];rfl
 |off n p k=>
  unfold jK at e;dsimp only at e;cases c:Yd ks ss n with
  |none=>rw[c]at e;exact Zs e
  |some s=>
   have i:Y6 ks ss (.off n p k)=J0 ks ss n (s.1++[(p,k)],s.2):=by simp[Y6,c]
   have f:=U9 Jf ks ss n ((s.1++[(p,k)],s.2):Sh);have g:=U5 (ks:=ks) (ss:=ss) (n:=n) Jf;rw[c]at g;have g:yB Sj (.str n)=S (.tup [.lst (s.1.map Je),.int s.2]):=g;have a:=I.ok s (VJ c);have t:(JS s.1).length=s.1.length:=by simp[JS]
   have v:=a.ln;have u:=r.s2;have o:=a.zz r;rw[i];refine sq Sy (sq Sy (sq (a:=[.cl Sm,.bo (dD (.off n p k)),.cl (.int 0),.ow J Sj,.cl (.lst (s.1.map Je)),.cl (.int s.2)]) (Bn g rfl) ?_));refine sq (a:=[.cl Sm,.bo (dD (.off n p k)),.cl (.int 0),.ow J (.dk (J5 ks n) (J0 ks (ss.map Jf) n (Jf (s.1++[(p,k)],s.2)))),.cl (.lst (s.1.map Je)),.cl (.int s.2)]) (JG Sx (by simp[h,Jf,o,Je])) ?_;rw[f];refine sq Sy (sq Sy (sq Sy (sq Sy (sq Sy rfl))))
 |frk n m=>
  unfold jK at e;dsimp only at e;cases c:Yd ks ss n with
  |none=>rw[c]at e;exact Zs e
  |some s=>
   have i:Y6 ks ss (.frk n m)=J0 ks ss m s:=by simp[Y6,c]
   have f:=U9 Jf ks ss m s;have g:=U5 (ks:=ks) (ss:=ss) (n:=n) Jf;rw[c]at g;have g:yB Sj (.str n)=S (.tup [.lst (s.1.map Je),.int s.2]):=g;rw[i];refine sq Sy (sq Sy (sq (a:=[.cl Sm,.bo (dD (.frk n m)),.cl (.int 0),.ow J Sj,.cl (.lst (s.1.map Je)),.cl (.int s.2)]) (Bn g rfl) ?_));refine sq Sy (sq Sy (sq Sy (sq Sy ?_)));refine sq (a:=[.cl Sm,.bo (dD (.frk n m)),.cl (.int 0),.ow J (.dk (J5 ks m) (J0 ks (ss.map Jf) m (Jf s))),.cl (.lst (s.1.map Je)),.cl (.int s.2)]) (JG Sx (by simp[h,Jf])) ?_;rw[f];exact sq Sy rfl
 |drp n=>
  unfold jK at e;dsimp only at e;cases c:Yd ks ss n with
  |none=>rw[c]at e;exact Zs e
  |some s=>
   have f:=Xo (n:=n) Jf ks ss;have K:=wS (n:=n) I.len (tt:=ks) rfl;have g:=U5 (ks:=ks) (ss:=ss) (n:=n) Jf;have v:(Js n ks).isSome=B:=by rw[<-ZA I.len,c];rfl
   rw[c]at g;have g:yB Sj (.str n)=S (.tup [.lst (s.1.map Je),.int s.2]):=g;refine sq Sy (sq Sy (sq (a:=[.cl Sm,.bo (dD (.drp n)),.cl (.int 0),.ow J Sj,.cl (.lst (s.1.map Je)),.cl (.int s.2)]) (Bn g rfl) ?_));refine sq Sy (sq Sy (sq Sy (sq Sy (sq Sy ?_))));refine sq (a:=[.cl Sm,.bo (dD (.drp n)),.cl (.int 0),.ow J (.dk (Jp n ks ks).1 ((Jp n ks ss).2.map Jf)),.cl (.lst (s.1.map Je)),.cl (.int s.2)]) (JG Sx (by simp[v,f,K])) rfl
theorem qz:∀l:L Str,yH (l.map D.str)=0
 |[]=>rfl
 |x::l=>by rw[vWa,yH,qz l];rfl
theorem qA:∀l:L Str,WE (l.map D.str)
 |[]=>trivial
 |x::l=>#[trivial,qA l]
theorem wT:∀l:L _,WE (l.map Je)
 |[]=>trivial
 |x::l=>#[#[by show 2<=sizeLine;decide,trivial,trivial,trivial],wT l]
theorem wU:∀l:L T3,zu (l.map t3) (l.map t3)=S B
 |[]=>rfl
 |x::l=>by
  rw[vWa,zu,wU l];have e:zt (t3 x) (t3 x)=S B:=by
   let q a b c:=x;simp[t3,zt,zu]
  rw[e];rfl
theorem kR:∀l:L T3,yH (l.map t3)<=1
 |[]=>by simp 
 |x::l=>by
  have d:=kR l;let q a b c:=x;have e:dep (t3 (a,b,c))<=1:=by simp[t3]
  rw[vWa,yH];omega
abbrev zO(b:Bk):L D:=[.int b.size,.lst (b.kinds.map t3),.lst (b.shuns.map t3),.lst (b.bars.map t3),.lst (b.dues.map t3)]
def hZ(b):Ju (.lst (zO b)) (.lst (zO b))=S (.bl G):=by
 have c:=kR b.kinds;have g:=kR b.shuns;have d:=kR b.bars;have f:=kR b.dues;have e:dep (.lst (zO b))<=20:=by simp only[zO,Zu,We,Im,oQ,oY,oZ,o_,O1];omega
 have a:vg (D.lst (zO b)) (D.lst (zO b))=B:=rfl;unfold Ju VY;rw[if_pos a,if_pos #[a,e],zt,if_pos rfl];simp only[zO,zu,zt,wU];simp
def bG(C b):YY C [jC C b]=S (.lst (b.kinds.map t3))/\YZ C [jC C b]=S (.lst (b.shuns.map t3))/\zH C [jC C b]=S (.lst (b.bars.map t3))/\zI C [jC C b]=S (.lst (b.dues.map t3)):=by
 refine#[?_,?_,?_,?_]
 ·simp[YY,Vh]
 ·simp[YZ,Vi]
 ·simp[zH,uC]
 ·simp[zI,uD]
def Ua{m F}(h:m∉(["size","kind_rows","shun_rows","bar_rows","due_rows"]:L Str)):YU C m F (jC C b)=F [jC C b]:=by
 exact if_pos #[rfl,h]
def h_(C b l m i g f o a k e):jx 6 (dL (jP [(B,(d1 (Ja C "size") (dV 5))),(B,(dL (Ki (YU C "kinds" (YY C)) (dV 5)))),(B,(dL (Ki (YU C "shuns" (YZ C)) (dV 5)))),(B,(dL (Ki (YU C "bars" (zH C)) (dV 5)))),(B,(dL (Ki (YU C "dues" (zI C)) (dV 5))))])) [l,m,i,g,f,.cl (jC C b),o,a,k,e]=S (.nx [l,m,i,g,f,.cl (jC C b),.cl (.lst (zO b)),a,k,e]):=by
 let Jm r p s n:=bG C b;have j:=Ua (C:=C) (b:=b) (m:="kinds") (F:=YY C) Sq;have d:=Ua (C:=C) (b:=b) (m:="shuns") (F:=YZ C) Sq;have h:=Ua (C:=C) (b:=b) (m:="bars") (F:=zH C) Sq;have c:=Ua (C:=C) (b:=b) (m:="dues") (F:=zI C) Sq;rw[r]at j;rw[p]at d;rw[s]at h;rw[n]at c;simp[j,d,h,c,zO]
@[simp] theorem rJ(s):jg (jF s) (.int 0)=S (.tup (s.1.map Je)):=rfl
@[simp] theorem rK(s):jg (jF s) (.int 1)=S (.int s.2):=rfl
def H9(h:k∈ks):(Js k ks).isSome=B:=by
 induction ks with
 |nil=>cases h
 |cons a l b=>
  rw[Js];by_cases e:a=k
  ·rw[if_pos e];rfl
  ·rcases uTa h with z|z
   ·simp_all
   ·simp_all
def Xu(C:Addr)(b:Bk)(l:L D)(ks:L Str)(ss:L Sh)(dn un:L D)(M:OkB b)(I:Ivs b ks ss):uF C [(J1 C b ks (ss.map jF) dn un).toD,.lst (jy b::l),mD ks ss]=S (.bl B):=by
 have f:=ZE C b ks (ss.map jF) dn un;have H:=λn=>Ge C b ks ss dn un n I.len;have N:=λn=>za (C:=C) (b:=b) (ks:=ks) (vs:=ss.map jF) (dn:=dn) (un:=un) (m:="sheet") (F:=Jl C) (ds:=[.str n]) Sq;have R:=λn=>za (C:=C) (b:=b) (ks:=ks) (vs:=ss.map jF) (dn:=dn) (un:=un) (m:="verses") (F:=zY C) (ds:=[.str n]) Sq;have x2:=λn=>za (C:=C) (b:=b) (ks:=ks) (vs:=ss.map jF) (dn:=dn) (un:=un) (m:="turned") (F:=zZ C) (ds:=[.str n]) Sq;have F:=za (C:=C) (b:=b) (ks:=ks) (vs:=ss.map jF) (dn:=dn) (un:=un) (m:="rules") (F:=Zo C) (ds:=[]) Sq;have w:=za (C:=C) (b:=b) (ks:=ks) (vs:=ss.map jF) (dn:=dn) (un:=un) (m:="names") (F:=Y_ C) (ds:=[]) Sq;have k8:=I.k8;generalize(J1 C b ks (ss.map jF) dn un).toD=j at *;have X:ks.length<=sizeLine:=zd (wSa I.k8 Sq);have p:atI (jy b::l) 0=S (jy b):=UM (vEa 0) rfl;have Q:Zo C [j]=S (.ok (jC C b)):=by simp[Zo,Vg,f]
 have UQ:Y_ C [j]=S (.ok S0):=by simp[Y_,Vj,f,zw]
 rw[Q]at F;rw[UQ]at w;have r1:∀n s,Yd ks ss n=S s->zY C [j,.str n]=S (.ok (.lst (s.1.map Je))):=λn s h=>by
  have y:=N n;rw[H n,h]at y;have e:=I.ok s (VJ h);have ll:(JS s.1).length=s.1.length:=by simp[JS]
  have gl:=e.ln;have s2:=M.s2;have z:=Nat.le_of_succ_le (e.zz M);simp[zY,vC,y,Yc,z]
 have T:∀n s,Yd ks ss n=S s->zZ C [j,.str n]=S (.ok (.int s.2)):=λn s h=>by
  have y:=N n;rw[H n,h]at y;simp[zZ,vF,y]
 have W:J9 C 6 [.lst (ks.map .str),.lst (ks.map .str)]=S (.bl B):=VI C _ 6 #[by rw[vYa];exact X,qA ks] (by rw[Zu,qz];decide);let Ub Z a r u0:=zy (g:=UX) (s:=UY C) (items:=ks.map D.str) (λi m=>∃r u t:Sl,m=[.bo j,.bo (.lst (jy b::l)),.cl Sm,.cl (.int 0),.cl Sj,.cl (jC C b),.cl (.lst (zO b)),r,u,t]) (by
  rintro i d m hi ⟨r,u,t,rfl⟩;obtain⟨k,hk,rfl⟩:∃k,k∈ks/\d=.str k:=by
   have:=wYa hi;let q k h1 P:=uVa this;exact#[k,h1,P.symm]
  have v:=H9 hk;rw[<-ZA (ss:=ss) I.len]at v;cases o:Yd ks ss k with
  |none=>rw[o]at v;exact Zf v
  |some s=>
   have e:=I.ok s (VJ o);have ll:(JS s.1).length=s.1.length:=by simp[JS]
   have gl:=e.ln;have s2:=M.s2;have z:=Nat.le_of_succ_le (e.zz M);have g:=U5 (ks:=ks) (ss:=ss) (n:=k) Jf;rw[o]at g;have g:yB Sj (.str k)=S (.tup [.lst (s.1.map Je),.int s.2]):=g;have sl:J9 C 6 [.lst (s.1.map Je),.lst (s.1.map Je)]=S (.bl B):=VI C _ 6 #[by rw[vYa];exact z,wT _] (by rw[Zu];have:=Gc s.1;omega);have O:J9 C 6 [.int s.2,.int s.2]=S (.bl B):=VI C _ 6 trivial (by show 0<6;decide);have A:=R k;have x:=x2 k;rw[r1 k s o]at A;rw[T k s o]at x;refine#[_,[.bo j,.bo (.lst (jy b::l)),.cl Sm,.cl (.int 0),.cl Sj,.cl (jC C b),.cl (.lst (zO b)),.cl (.str k),.cl (.lst (s.1.map Je)),.cl (.int s.2)],rfl,?_,_,_,_,rfl];refine sq (Bn g rfl) (jH ?_ rfl);simp[A,x,sl,O]) (a:=[.bo j,.bo (.lst (jy b::l)),.cl Sm,.cl (.int 0),.cl Sj,.cl (jC C b),.cl (.lst (zO b)),.un,.un,.un]) #[_,_,_,rfl];let Vl u t rfl:=u0
 refine fE ?_;unfold uE;refine sq rfl (sq (a:=[.bo j,.bo (.lst (jy b::l)),.cl Sm,.cl (.int 0),.cl Sj,.cl (jC C b),.un,.un,.un,.un]) (by simp[F]) (sq (h_ C b _ _ _ _ _ _ _ _ _) ?_));have nb:=hZ b;have T1:jv (d2 Ju (dV 6) (dL (Jg Yc [(G,(d2 jg (dV 1) (dV 3)))]))) [.bo j,.bo (.lst (jy b::l)),.cl Sm,.cl (.int 0),.cl Sj,.cl (jC C b),.cl (.lst (zO b)),.un,.un,.un]=S G:=by
  have z5:(5:Nat)<=sizeLine:=by decide
  have tk:jy b=.tup (zO b):=rfl;have lb:(zO b).length=5:=rfl;have D1:dL (Jg Yc [(G,(d2 jg (dV 1) (dV 3)))]) [.bo j,.bo (.lst (jy b::l)),.cl Sm,.cl (.int 0),.cl Sj,.cl (jC C b),.cl (.lst (zO b)),.un,.un,.un]=S (.lst (zO b)):=by
   rw[tk]at p⊢;simp[p]
  rw[show∀c:DE,∀m:jD,m[6]?=S (.cl (.lst (zO b)))->jv (d2 Ju (dV 6) c) m=((c m).bind λy=>Ju (.lst (zO b)) y).bind VU from λc m h=>by rw[jv,d2,dV,h];rfl]
  rotate_left
  ·rfl
  rw[D1];show(Ju (.lst (zO b)) (.lst (zO b))).bind VU=_;rw[nb];rfl
 have T2:JJ (jo (J9 C 6) [(G,(G_ (yg CH "names" (Y_ C) (dV 0) []))),(G,(dL (Jg zw [(fV 4)])))]) [.bo j,.bo (.lst (jy b::l)),.cl Sm,.cl (.int 0),.cl Sj,.cl (jC C b),.cl (.lst (zO b)),.un,.un,.un]=S B:=by
  simp[w,zw,W]
 refine sq (jH ?_ rfl) ?_
 ·rw[Ye,T1,JQ,T2];rfl
 ·refine sq (a:=[.bo j,.bo (.lst (jy b::l)),.cl Sm,.cl (.int 0),.cl Sj,.cl (jC C b),.cl (.lst (zO b)),r,u,t]) ?_ rfl;rw[Yg];simp[zw,a]
theorem Gf:∀l:L _,yH (l.map D.str)=0
 |[]=>rfl
 |x::l=>by rw[vWa,yH,Gf l];rfl
def Ha(l:L _):Ju (.lst (l.map D.str)) (.lst [])=S (.bl (!l.isEmpty)):=by
 have e:dep (.lst (l.map D.str))<=20:=by rw[Zu,Gf];decide
 have a:vg (D.lst (l.map D.str)) (D.lst [])=B:=rfl;unfold Ju VY;rw[if_pos a,if_pos #[a,e],zt];cases l<;>simp[zu]
def Hb(l:L _):jX (.lst (l.map D.str)) (.lst [])=S (.bl l.isEmpty):=by
 have e:dep (.lst (l.map D.str))<=20:=by rw[Zu,Gf];decide
 have a:vg (D.lst (l.map D.str)) (D.lst [])=B:=rfl;unfold jX VY;rw[if_pos a,if_pos #[a,e],zt];cases l<;>simp[zu]
def wV{a:L _}(h:∀t∈a,Gu t){i:Int}(c:0<=i)(d:i<a.length):∃t,Gu t/\atI (a.map D.str) i=S (.str t):=by
 have b:i.toNat<a.length:=by lia
 refine#[a.getD _ "",?_,vk c d];rw[uBa,uCa b];exact h _ (List.getElem_mem b)
abbrev YD:L Str:=["begin","begin","fork","begin","offer","drop","begin","fork","begin"]
def Db:GZ (.str "begin begin fork begin offer drop begin fork begin") (.str " ")=S (.lst (YD.map .str)):=by kernel_rfl
def mu(c:0<=i)(d:i<9):∃w:Str,(w ="offer"\/w ="begin"\/w ="fork"\/w ="drop")/\atI (YD.map D.str) i=S (.str w):=by
 have a:i.toNat<YD.length:=by show i.toNat<9;lia
 refine#[YD.getD _ "",?_,vk c Sa];rw[uBa,uCa a];have:∀t∈YD,t ="offer"\/t ="begin"\/t ="fork"\/t ="drop":= by
  intro t b;simp only[YD,List.mem_cons,List.not_mem_nil,or_false]at b;rcases b with rfl|rfl|rfl|rfl|rfl|rfl|rfl|rfl|rfl<;>simp
 exact this _ (List.getElem_mem a)
def Os:d2 (Zb G) (dV 11) (dL (jP [(B,(dK (.str "begin"))),(B,(dK (.str "take"))),(B,(dK (.str "turn"))),(B,(dK (.str "drop")))]))=λa=>(dV 11 a).bind λx=>Zb G x Sg:=rfl
def nY:Zb G (.str "begin") Sg=S (.bl B):=rfl
def nZ:Zb G (.str "offer") Sg=S (.bl G):=rfl
def n_:Zb G (.str "fork") Sg=S (.bl G):=rfl
def N0:Zb G (.str "drop") Sg=S (.bl B):=rfl
def Hc(C:Addr)(b:Bk)(bs:L D)(ks:L Str)(ss:L Sh)(d:L Str)(f:L Int)(ok:OkB b)(I:Ivs b ks ss)(t11:d.length=11)(UQ:∀t∈d,Gu t)(h5:5<=f.length):∃dd:Dd,dd.gu/\Uo C [.lst (jy b::bs),mD ks ss,.lst (d.map .str),.lst (f.map .int),.lst (YD.map .str)]=S (dD dd):=by
 have W:atI (jy b::bs) 0=S (jy b):=UM (vEa 0) rfl;have j:∀k:Int,0<=k->k<5->∃v:Int,atI (f.map D.int) k=S (.int v):=λk h0 h1=>uH h0 (by lia);let q n0 a0:=j 0 Sq Sq;let q R T:=j 1 Sq Sq;let q x F:=j 2 Sq Sq;let q n3 a3:=j 3 Sq Sq;let q n4 X:=j 4 Sq Sq;have k8:=I.k8;have zk:ks.length<=sizeLine:=zd (wSa k8 Sq);have kk1:=ok.k1;have kk2:=ok.k2;have zn:=ok.zk;have pn:0<b.kinds.length:=kk1;generalize hB:D.lst (jy b::bs)=c at *;have B0:jg c (.int 0)=S (jy b):=by rw[<-hB];exact W
 have m1:=Ji (a:=R) (b:=5) Sq;let ja O g8 e8:=wV UQ (i:=R%5) m1.1 (by lia);obtain⟨i,y,S8⟩:∃i:Str,Gu i/\jr (Jr (jv (d2 Ju (dV 7) (dL (jP [])))) (jv (d2 VS (d2 jN (d2 YJ (d2 jg (dV 3) (dN 1)) (dN 5)) (dN 5)) (dN 0)))) (jx 8 (d2 jg (dV 7) (d2 jN (d2 YJ (d2 jg (dV 3) (dN 1)) (dN 25)) (jo Jv [(fV 7)])))) jA [.bo c,.cl Sm,.bo (.lst (d.map .str)),.bo So,.bo (.lst (YD.map .str)),.cl (.int 0),.cl Sj,.cl S0,.cl (.str O),.un,.un,.un,.un]=S (.nx [.bo c,.cl Sm,.bo (.lst (d.map .str)),.bo So,.bo (.lst (YD.map .str)),.cl (.int 0),.cl Sj,.cl S0,.cl (.str i),.un,.un,.un,.un]):=by
  have n:jv (d2 Ju (dV 7) (dL (jP []))) [.bo c,.cl Sm,.bo (.lst (d.map .str)),.bo So,.bo (.lst (YD.map .str)),.cl (.int 0),.cl Sj,.cl S0,.cl (.str O),.un,.un,.un,.un]=S (!ks.isEmpty):=by
   show(Ju S0 (.lst [])).bind VU=_;rw[Ha];rfl
  cases A:ks.isEmpty with
  |true=>
   rw[A]at n;exact#[O,g8,jH (by rw[Jr,n];rfl) rfl]
  |false=>
   rw[A]at n;by_cases h:0<R/5%5
   ·have pk:0<ks.length:=by
     cases ks with
     |nil=>exact Zt A
     |cons a l=>simp
    have N:(0:Int)<(ks.length:Int):=by lia
    have m:=Ji (a:=R/25) N;let ja t gt e:=wV I.gu m.1 m.2;refine#[t,gt,JG (by rw[Jr,n];simp[T,h]) ?_];simp[T,zk,pk,N,e]
   ·exact#[O,g8,jH (by rw[Jr,n];simp[T,h]) rfl]
 obtain⟨o,Z⟩:∃o:Int,jr (jv (d2 jX (d2 jN (d2 YJ (d2 jg (dV 3) (dN 3)) (dN 5)) (dN 9)) (dN 8))) (jx 10 (d2 jg (dL (jP [(B,(V2 (dN 1))),(tC 9),(B,(d2 Qt (dN 10) (dN 20)))])) (d2 jN (d2 jg (dV 3) (dN 4)) (dN 3)))) jA [.bo c,.cl Sm,.bo (.lst (d.map .str)),.bo So,.bo (.lst (YD.map .str)),.cl (.int 0),.cl Sj,.cl S0,.cl (.str i),.cl (.int b.kinds.length),.cl (.int (n3%b.kinds.length)),.un,.un]=S (.nx [.bo c,.cl Sm,.bo (.lst (d.map .str)),.bo So,.bo (.lst (YD.map .str)),.cl (.int 0),.cl Sj,.cl S0,.cl (.str i),.cl (.int b.kinds.length),.cl (.int o),.un,.un]):=by
  by_cases h:n3/5%9=8
  ·have m4:=Ji (a:=n4) (b:=3) Sq;let q v e:=uH (ds:=[-1,(b.kinds.length:Int),100000000000000000000]) m4.1 (by simpa using m4.2);refine#[v,JG (by simp[a3,h]) ?_];simp at e;simp[X,e]
  ·exact#[_,jH (by simp[a3,h]) rfl]
 let ja M H e0:=mu (i:=n0%9) (Ji Sq).1 (Ji Sq).2;obtain⟨w,hw,S11⟩:∃w:Str,(w ="offer"\/w ="begin"\/w ="fork"\/w ="drop")/\jr (Jr (jv (d2 jX (dV 7) (dL (jP [])))) (jv (d2 VS (d2 jN (d2 jg (dV 3) (dN 4)) (dN 4)) (dN 0)))) (jx 11 (dK (.str "begin"))) jA [.bo c,.cl Sm,.bo (.lst (d.map .str)),.bo So,.bo (.lst (YD.map .str)),.cl (.int 0),.cl Sj,.cl S0,.cl (.str i),.cl (.int b.kinds.length),.cl (.int o),.cl (.str M),.un]=S (.nx [.bo c,.cl Sm,.bo (.lst (d.map .str)),.bo So,.bo (.lst (YD.map .str)),.cl (.int 0),.cl Sj,.cl S0,.cl (.str i),.cl (.int b.kinds.length),.cl (.int o),.cl (.str w),.un]):=by
  have n:jv (d2 jX (dV 7) (dL (jP []))) [.bo c,.cl Sm,.bo (.lst (d.map .str)),.bo So,.bo (.lst (YD.map .str)),.cl (.int 0),.cl Sj,.cl S0,.cl (.str i),.cl (.int b.kinds.length),.cl (.int o),.cl (.str M),.un]=S ks.isEmpty:=by
   show(jX S0 (.lst [])).bind VU=_;rw[Hb];rfl
  cases A:ks.isEmpty with
  |false=>
   rw[A]at n;exact#[M,H,jH (by rw[Jr,n];rfl) rfl]
  |true=>
   rw[A]at n;by_cases h:0<n4%4
   ·exact#["begin",by simp,JG (by rw[Jr,n];simp[X,h]) rfl]
   ·exact#[M,H,jH (by rw[Jr,n];simp[X,h]) rfl]
 have z:∀dd:Dd,(Zh C [.bo c,.cl Sm,.bo (.lst (d.map .str)),.bo So,.bo (.lst (YD.map .str)),.un,.un,.un,.un,.un,.un,.un,.un]=S (.rt (dD dd)))->Uo C [c,mD ks ss,.lst (d.map .str),.lst (f.map .int),.lst (YD.map .str)]=S (dD dd):=λdd h=>fE h;have z10:(9:Nat)<=sizeLine:=by decide
 have lw:(YD.map D.str).length=9:=rfl
 suffices h:∃dd:Dd,dd.gu/\Zh C [.bo c,.cl Sm,.bo (.lst (d.map .str)),.bo So,.bo (.lst (YD.map .str)),.un,.un,.un,.un,.un,.un,.un,.un]=S (.rt (dD dd)) by
  let ja dd g h:=h;exact#[dd,g,z dd h]
 have P:∀(r:Y Rs) (s:DS.DS),s [.bo c,.cl Sm,.bo (.lst (d.map .str)),.bo So,.bo (.lst (YD.map .str)),.cl (.int 0),.cl Sj,.cl S0,.cl (.str i),.cl (.int b.kinds.length),.cl (.int o),.cl (.str w),.un]=r->True:=λ_ _ _=>trivial;clear P;generalize hwd:YD.map D.str=u at *;unfold Zh;rw[sq (a:=[.bo c,.cl Sm,.bo (.lst (d.map .str)),.bo So,.bo (.lst u),.cl (.int 0),.cl Sj,.un,.un,.un,.un,.un,.un]) rfl rfl,
  sq (a:=[.bo c,.cl Sm,.bo (.lst (d.map .str)),.bo So,.bo (.lst u),.cl (.int 0),.cl Sj,.cl S0,.un,.un,.un,.un,.un]) rfl rfl,
  sq (a:=[.bo c,.cl Sm,.bo (.lst (d.map .str)),.bo So,.bo (.lst u),.cl (.int 0),.cl Sj,.cl S0,.cl (.str O),.un,.un,.un,.un]) (by simp[T,e8]) rfl,
  sq S8 rfl,
  sq (a:=[.bo c,.cl Sm,.bo (.lst (d.map .str)),.bo So,.bo (.lst u),.cl (.int 0),.cl Sj,.cl S0,.cl (.str i),.cl (.int b.kinds.length),.un,.un,.un]) (by simp[B0,zn]) rfl,
  sq (a:=[.bo c,.cl Sm,.bo (.lst (d.map .str)),.bo So,.bo (.lst u),.cl (.int 0),.cl Sj,.cl S0,.cl (.str i),.cl (.int b.kinds.length),.cl (.int (n3%b.kinds.length)),.un,.un]) (by simp[a3,pn]) rfl,
  sq Z rfl,
  sq (a:=[.bo c,.cl Sm,.bo (.lst (d.map .str)),.bo So,.bo (.lst u),.cl (.int 0),.cl Sj,.cl S0,.cl (.str i),.cl (.int b.kinds.length),.cl (.int o),.cl (.str M),.un]) (by simp[a0,lw,z10,e0]) rfl,
  sq S11 rfl]
 rw[Os];rcases hw with rfl|rfl|rfl|rfl
 ·have m2:=Ji (a:=x%13) (b:=4) Sq;let ja p gp ep:=wV UQ (i:=5+x%13%4) (by lia) (by lia);refine#[.off i p o,#[y,gp],?_];refine sq (jH (by show(Zb G (.str "offer") Sg).bind VU=_;rw[nZ];rfl) rfl) (yu (JG Sx ?_));simp[F,ep,dD]
 ·obtain⟨Q,g9,S9⟩:∃Q:Str,Gu Q/\jr (Jr (jv (d2 jX (dV 11) (dK (.str "begin")))) (jv (d2 VS (d2 jN (d2 jg (dV 3) (dN 2)) (dN 3)) (dN 0)))) (jx 8 (d2 jg (dV 2) (d2 jN (d2 YJ (d2 jg (dV 3) (dN 2)) (dN 3)) (dN 11)))) jA [.bo c,.cl Sm,.bo (.lst (d.map .str)),.bo So,.bo (.lst u),.cl (.int 0),.cl Sj,.cl S0,.cl (.str i),.cl (.int b.kinds.length),.cl (.int o),.cl (.str "begin"),.un]=S (.nx [.bo c,.cl Sm,.bo (.lst (d.map .str)),.bo So,.bo (.lst u),.cl (.int 0),.cl Sj,.cl S0,.cl (.str Q),.cl (.int b.kinds.length),.cl (.int o),.cl (.str "begin"),.un]):=by
   by_cases h:0<x%3
   ·have m:=Ji (a:=x/3) (b:=11) Sq;let ja t gt e:=wV UQ (i:=x/3%11) m.1 (by lia);exact#[t,gt,JG (by simp[F,h]) (by simp[F,e])]
   ·exact#[i,y,jH (by simp[F,h]) rfl]
  exact#[.beg Q,g9,yu (JG (by show(Zb G (.str "begin") Sg).bind VU=_;rw[nY];rfl) (sq S9 (by simp[dD])))]
 ·have m2:=Ji (a:=x) (b:=11) Sq;let ja p gp ep:=wV UQ (i:=x%11) m2.1 (by lia);refine#[.frk i p,#[y,gp],?_];refine sq (jH (by show(Zb G (.str "fork") Sg).bind VU=_;rw[n_];rfl) rfl) (sq Sy (sq Sy (yu (JG Sx ?_))));simp[F,ep,dD]
 ·exact#[.drp i,y,yu (JG (by show(Zb G (.str "drop") Sg).bind VU=_;rw[N0];rfl) (sq Sy (by simp[dD])))]
def N1(o):vD o=.tup [.str (z9 o),z_ o]:=by cases o<;>rfl
def cw(C b):bh (jC C b)=S b:=by
 unfold jC bh BR;simp[KH]
def He(C b):Ej (jC C b)=Y5 b:=by
 unfold Ej;rw[cw]
def Hf:∀n,n<10->tN n<=349525:=by decide
def Hg(a:OkB b)(c:b.size<=9):(Y5 b).length<=sizeLine:=by
 unfold Y5;rw[vYa];have e:=Xj a.k2 b.size.toNat
 have d:=Hf b.size.toNat (by lia)
 have:(349525)<=sizeLine:=by decide
 lia
def mw(C b)(g:OkB b)(d:b.size<=9):ui C (QV CH) [jC C b]=S (.ok .non,J1 C b [] [] [] []):=by
 have z:=Hg g d;have e:=He C b;have f:JR "now" ["opened"]=J:=by decide
 have h:JR "done" []=J:=rfl;have c:JR "undone" ["done"]=J:=by decide
 have a:YR C [.lo B (QV CH),.cl (jC C b)]=S (.nx [.lo B (J1 C b [] [] [] []),.cl (jC C b)]):=by
  refine sq rfl (sq (a:=[.lo B #[CH,["opened","now"],[jC C b,Yj C b [] []],[],[]],.cl (jC C b)]) ?_ (sq (a:=[.lo B #[CH,["opened","now"],[jC C b,Yj C b [] []],["done"],[[]]],.cl (jC C b)]) ?_ ?_))
  ·simp[e,z,f,Yj]
  ·simp[Eo,h]
  ·simp[Ep,c,J1]
 show(YR C [.lo B _,.cl _]).bind _=_;rw[a];rfl
theorem wW:∀l:L Bool,zu (l.map D.bl) (l.map D.bl)=S B
 |[]=>rfl
 |x::l=>by rw[vWa,zu,wW l,zt];simp
def Dg(l:L Bool):Ju (.lst (l.map D.bl)) (.lst (l.map D.bl))=S (.bl G):=by
 have e:dep (.lst (l.map D.bl))<=20:=by rw[Zu,Xd];decide
 have a:vg (D.lst (l.map D.bl)) (D.lst (l.map D.bl))=B:=rfl;unfold Ju VY;rw[if_pos a,if_pos #[a,e],zt,if_pos rfl,wW];rfl
def cx(C){o}(h:∀p,o=S p->Kd p):J9 C 6 [z_ o,z_ o]=S (.bl B):=by
 cases o with
 |none=>exact VI C _ 6 trivial Sq
 |some p=>
  rcases h p rfl with⟨f,a⟩|⟨n,w,rfl⟩
  ·let q w c:=p;have a:w∈zm:=a;have d:¬w ="Broken":= λz=>by
    rw[z]at a;revert a;decide
   have e:z_ (S (w,c))=.non:=by exact if_neg d
   rw[e];exact VI C _ 6 trivial Sq
  ·have e:z_ (S (("Broken",[("word",.str w),("place",.int n)])))=.tup [.int n,.str w]:=by
    have b:(("place" : Str)=="word")=G:=by decide
    simp[z_,Zp,List.lookup,b]
   exact VI C _ 6 #[by show 2<=sizeLine;decide,trivial,trivial,trivial] (by show 1<6;decide)
def Di{ks ss dd}(f:OkB b):z9 (jK b ks ss dd) ="" ↔jK b ks ss dd=J:=by
 have a:∀w∈zm,¬w ="":= by decide
 have c:¬("Broken" : Str) ="":= by decide
 cases d:jK b ks ss dd with
 |none=>simp[z9]
 |some p=>
  rcases kQ f d with⟨_,e⟩|⟨n,w,rfl⟩
  ·have:=a _ e;simp[z9,this]
  ·simp[z9,c]
def Hh(C:Addr)(b:Bk)(UQ:L D)(d:D)(F:D)(l:L Int)(x:L Str)(ks:L Str)(ss:L Sh)(R un:L D)(i:Nat)(x9 x10 Gz Q P X o:Sl)(H:OkB b)(s6:b.size<=6)(I:Ivs b ks ss)(t11:x.length=11)(hg:∀t∈x,Gu t)(m350:l.length=350)(hi:i<40)(hl:R.length<=i):
  ∃(e:L Str) (f:L Sh) (g k:L D) (Z y10 y11 n s m r:Sl),Wz C [.bo F,.cl (.lst (l.map .int)),.cl (.lst (jy b::UQ)),.cl d,.cl (.lst (x.map .str)),.lo G (J1 C b ks (ss.map jF) R un),.cl Sm,.cl (.lst (YD.map .str)),.cl (.int (i:Int)),x9,x10,Gz,Q,P,X,o]=S (.nx [.bo F,.cl (.lst (l.map .int)),.cl (.lst (jy b::UQ)),.cl d,.cl (.lst (x.map .str)),.lo G (J1 C b e (f.map jF) g k),.cl (mD e f),.cl (.lst (YD.map .str)),.cl (.int (i:Int)),Z,y10,y11,n,s,m,r])/\Ivs b e f/\g.length<=i+1:=by
 have hk:ks.length<sizeLine:=ya (by have:=I.k8;lia);have hdn:R.length<sizeLine:=ya (by lia);have cut:Jd (l.map D.int) (S (145+5*(i:Int))) J=(l.drop (145+5*i)).map D.int:=by
  rw[J_,show(145+5*(i:Int))=((145+5*i:Nat):Int) by lia,wK]
 let ja j gd ed:=Hc C b UQ ks ss x (l.drop (145+5*i)) H I t11 hg (by grind);have er:=bF C b UQ ks ss j H s6 I gd;rw[N1]at er;have et:=D9 C b ks ss R un d j H s6 I gd hdn hk;have em:=Da C (z9 (jK b ks ss j));have nm:=Dg (mk (z9 (jK b ks ss j)));have st:=cx C (o:=jK b ks ss j) λp hp=>kQ H hp;have u:∃v:Int,atI (l.map D.int) 142=S (.int v):=uH Sq (by lia);have w:∃v:Int,atI (l.map D.int) 143=S (.int v):=uH Sq (by lia);let q O u:=u;let q A w:=w;have pm:0<1+A%4:=by lia
 have c5:Kt 5 (i:Int)=B:=U0 Sq Sq;obtain⟨e,f,g,k,eH,I',hl',eB⟩:∃(e:L Str) (f:L Sh) (g k:L D),(zN C b ks ss R un j).2=J1 C b e (f.map jF) g k/\Ivs b e f/\g.length<=i+1/\∀Z n s m r:Sl,jr (jv (d2 jX (dV 10) (dK (.str "")))) (jx 6 (jo (Vf C) [(tC 6),(fV 9)])) jA [.bo F,.cl (.lst (l.map .int)),.cl (.lst (jy b::UQ)),.cl d,.cl _,.lo G (J1 C b e (f.map jF) g k),.cl Sm,.cl _,.cl (.int (i:Int)),.cl (dD j),.cl (.str (z9 (jK b ks ss j))),Z,n,s,m,r]=S (.nx [.bo F,.cl _,.cl _,.cl d,.cl (.lst (x.map .str)),.lo G (J1 C b e (f.map jF) g k),.cl (mD e f),.cl (.lst (YD.map .str)),.cl (.int (i:Int)),.cl (dD j),.cl (.str (z9 (jK b ks ss j))),Z,n,s,m,r]):=by
  have we:=Di (ks:=ks) (ss:=ss) (dd:=j) H;unfold zN;cases hv:jK b ks ss j with
  |some p=>
   have nw:¬z9 (S p) ="":= λz=>by lia
   exact#[ks,ss,R,un,rfl,I,by lia,λZ n s m r=>jH (by simp[nw]) rfl]
  |none=>
   have eb:=cv C b ks ss j H I hv;refine#[Vk ks j,Y6 ks ss j,_,[],rfl,I.next H gd hv,by simp;lia,λZ n s m r=>JG rfl ?_];simp[eb]
 have er2:=Xu C b UQ e f g k H I';rw[eH]at et;generalize hM:mk _=M at *;generalize hT:z_ (jK b ks ss j)=T at *;generalize hW:z9 (jK b ks ss j)=W at *;generalize hB:D.lst (jy b::UQ)=c at *;generalize hN:D.lst (YD.map .str)=N at *;generalize J1 C b ks (ss.map jF) R un=h0 at *;generalize hh:J1 C b e (f.map jF) g k=h1 at *;refine#[e,f,g,k,.cl (dD j),.cl (.str W),.cl T,.cl .non,.cl (.lst (M.map .bl)),.cl T,.cl (.bl (decide (((i:Int)+O)%(1+A%4)=0))),?_,I',hl'];rw[hh];unfold Wz;refine sq (a:=[.bo F,.cl (.lst (l.map .int)),.cl c,.cl d,.cl (.lst (x.map .str)),.lo G h0,.cl Sm,.cl N,.cl (.int (i:Int)),.cl (dD j),x10,Gz,Q,P,X,o]) (by simp[c5,cut,ed,-List.map_drop]) ?_;refine sq (a:=[.bo F,.cl (.lst (l.map .int)),.cl c,.cl d,.cl (.lst (x.map .str)),.lo G h0,.cl Sm,.cl N,.cl (.int (i:Int)),.cl (dD j),.cl (.str W),.cl T,Q,P,X,o]) (Bn er rfl) ?_;refine sq (a:=[.bo F,.cl (.lst (l.map .int)),.cl c,.cl d,.cl (.lst (x.map .str)),.lo G h1,.cl Sm,.cl N,.cl (.int (i:Int)),.cl (dD j),.cl (.str W),.cl T,.cl .non,.cl (.lst (M.map .bl)),.cl T,o]) ?_ ?_
 ·simp_all
 refine sq (jH ?_ rfl) (sq (eB _ _ _ _ _) ?_)
 ·have T1:jv (d2 Ju (dV 13) (dL (Jg (zG C) [(fV 10)]))) [.bo F,.cl (.lst (l.map .int)),.cl c,.cl d,.cl (.lst (x.map .str)),.lo G h1,.cl Sm,.cl N,.cl (.int (i:Int)),.cl (dD j),.cl (.str W),.cl T,.cl .non,.cl (.lst (M.map .bl)),.cl T,o]=S G:=by
   have D1:dL (Jg (zG C) [(fV 10)]) [.bo F,.cl (.lst (l.map .int)),.cl c,.cl d,.cl (.lst (x.map .str)),.lo G h1,.cl Sm,.cl N,.cl (.int (i:Int)),.cl (dD j),.cl (.str W),.cl T,.cl .non,.cl (.lst (M.map .bl)),.cl T,o]=S (.lst (M.map .bl)):=by simp[em]
   rw[show∀a:DE,∀ρ:jD,ρ[13]?=S (.cl (.lst (M.map .bl)))->jv (d2 Ju (dV 13) a) ρ=((a ρ).bind λy=>Ju (.lst (M.map .bl)) y).bind VU from λa ρ h=>by rw[jv,d2,dV,h];rfl]
   rotate_left
   ·rfl
   rw[D1];show(Ju (.lst (M.map .bl)) (.lst (M.map .bl))).bind VU=_;rw[nm];rfl
  rw[Ye,Ye,T1];simp[st]
 ·refine sq (by simp[u,w,pm]) (jH ?_ rfl);cases decide (((i:Int)+O)%(1+A%4)=0)with
  |false=>simp
  |true=>simp[er2,-HS.toD]
def Dj(C:Addr)(j:L Int)(Q:j.length<=63):bn C [.scr j]=S (.bl B):=by
 let ja h e1 hm:=br C j 350 Q Sq Sq;have hm:h.length=350:=by lia
 let zo c g f e2 u M P s0:=d_ C h 4 (by lia) Sq Sq;have d1:=WC C c u;have d2':=WC C g M;have d3:=WC C f P;have Z:Jd (h.map D.int) (S 131) J=(h.drop 131).map D.int:=by rw[J_,show(131:Int)=((131:Nat):Int) by rfl,wK]
 let jw y e4 R hg:=dZ C (h.drop 131) (by grind);have eI:=mw C c u (by lia);obtain⟨w,X⟩:∃v:Int,atI (h.map D.int) 141=S (.int v):=uH Sq (by lia);have sm:yj (1+w%40)=B:=zT (by lia) (by lia);have z3:(3:Nat)<=sizeLine:=by decide
 let Ub ρ' a t u0:=zy (g:=az) (items:=JZ 0 (1+w%40).toNat) (λi W=>∃(t:L Str) (s:L Sh) (x z:L D) (F A m r k p l n:Sl),W=[.bo (.scr j),.cl _,.cl _,.cl _,.cl _,.lo G (J1 C c t (s.map jF) x z),.cl (mD t s),.cl _,F,A,m,r,k,p,l,n]/\Ivs c t s/\x.length<=i) (by
  rintro i d W hd ⟨t,s,x,z,F,A,m,r,k,p,l,n,rfl,I,hl⟩;let q hi rfl:=Gb hd;let q UQ H O T x9 x10 Gz kK wJ x14 x15 e I' N:=Hh C c [jy g,jy f] _ (.scr j) h y t s x z i A m r k p l n u (by lia) I R hg hm (by lia) hl;exact#[_,_,rfl,e,UQ,H,O,T,_,_,_,_,_,_,_,_,rfl,I',N]) (a:=[.bo (.scr j),.cl _,.cl _,.cl (.lst [jC C c,jC C g,jC C f]),.cl _,.lo G _,.cl (mD [] []),.cl _,.un,.un,.un,.un,.un,.un,.un,.un]) #[[],[],[],[],_,_,_,_,_,_,_,_,rfl,#[rfl,by simp,by simp,by simp,by simp],by simp];let JC s x z F A m r v0:=u0;let VG k p l n rfl I _:=v0
 have er:=Xu C c [jy g,jy f] t s x z u I;refine fE ?_;refine sq (a:=[.bo (.scr j),.cl (.lst (h.map .int)),.un,.un,.un,.un,.un,.un,.un,.un,.un,.un,.un,.un,.un,.un]) (by simp[e1]) ?_;refine sq (a:=[.bo (.scr j),.cl (.lst (h.map .int)),.cl (.lst [jy c,jy g,jy f]),.un,.un,.un,.un,.un,.un,.un,.un,.un,.un,.un,.un,.un]) (by simp[e2]) ?_;refine sq (a:=[.bo (.scr j),.cl (.lst (h.map .int)),.cl (.lst [jy c,jy g,jy f]),.cl (.lst [jC C c,jC C g,jC C f]),.un,.un,.un,.un,.un,.un,.un,.un,.un,.un,.un,.un]) ?_ ?_
 ·have cm:JX (gN 0) Jc (dL (Jg (ze C) [(fV 0)])) [jy c,jy g,jy f] [.un]=S _:=JO jy (λb=>jC C b) (xs:=[c,g,f]) λb hb=>by
   refine#[_,rfl,rfl,?_];have e:ze C [jy b]=S (KC C b):=by grind
   show((ze C [jy b]).bind λo=>S o.toD)=_;rw[e];rfl
  have it:JH (dP 2) [.bo (.scr j),.cl (.lst (h.map .int)),.cl (.lst _),.un,.un,.un,.un,.un,.un,.un,.un,.un,.un,.un,.un,.un]=S [jy c,jy g,jy f]:=rfl;rw[jx,dL,yK,it,uEa,show V4 1 [] _=[.un] from rfl,cm,uEa,if_pos (show[jy c,jy g,jy f].length<=sizeLine from z3)];rfl
 refine sq (a:=[.bo (.scr j),.cl (.lst (h.map .int)),.cl (.lst [jy c,jy g,jy f]),.cl (.lst [jC C c,jC C g,jC C f]),.cl (.lst (y.map .str)),.un,.un,.un,.un,.un,.un,.un,.un,.un,.un,.un]) Sa ?_;refine sq (a:=[.bo (.scr j),.cl (.lst (h.map .int)),.cl (.lst [jy c,jy g,jy f]),.cl (.lst [jC C c,jC C g,jC C f]),.cl (.lst (y.map .str)),.lo G (J1 C c [] [] [] []),.un,.un,.un,.un,.un,.un,.un,.un,.un,.un]) ?_ ?_
 ·have a0:atI [jC C c,jC C g,jC C f] 0=S (jC C c):=rfl;have nl:Wl (([.bo (.scr j),.cl (.lst (h.map .int)),.cl (.lst [jy c,jy g,jy f]),.cl (.lst [jC C c,jC C g,jC C f]),.cl (.lst (y.map .str)),.un,.un,.un,.un,.un,.un,.un,.un,.un,.un,.un]:jD).set 5 .un)=B:=rfl;rw[GY,if_pos nl];simp[a0,eI]
 refine sq (a:=[.bo (.scr j),.cl _,.cl _,.cl _,.cl _,.lo G _,.cl (mD [] []),.un,.un,.un,.un,.un,.un,.un,.un,.un]) rfl ?_;refine sq (a:=[.bo (.scr j),.cl (.lst (h.map .int)),.cl (.lst [jy c,jy g,jy f]),.cl (.lst [jC C c,jC C g,jC C f]),.cl (.lst (y.map .str)),.lo G (J1 C c [] [] [] []),.cl (mD [] []),.cl (.lst (YD.map .str)),.un,.un,.un,.un,.un,.un,.un,.un]) (by simp[Db]) ?_;refine sq (a:=[.bo (.scr j),.cl (.lst (h.map .int)),.cl (.lst [jy c,jy g,jy f]),.cl (.lst [jC C c,jC C g,jC C f]),.cl (.lst (y.map .str)),.lo G (J1 C c t (s.map jF) x z),.cl (mD t s),.cl (.lst (YD.map .str)),F,A,m,r,k,p,l,n]) ?_ ?_
 ·simp_all
 ·simp[er,-HS.toD]
end M
namespace M
open PySem L2 DS CP
def k0:kH.chks 2 l0=gG l0:=by kernel_rfl
def k1:uf LP x1.de G=S (YQ 679):=by kernel_rfl
def k2:LQ.chks 20 l2=gG l2:=by kernel_rfl
def k3:Yi LR x3.de=S x3.b:=by kernel_rfl
def k4:LS.chks 28 l4=gG l4:=by kernel_rfl
def k5:LU.chkB 54 l5=xI l5:=by kernel_rfl
def k6:LV.chks 56 l6=gG l6:=by kernel_rfl
def Pj(m:Nat):uf (Ek.ag "can_be_ended" (.fE (100+2*m) x7.de.ps x7.de.ks (G1 679 m))) y7.de G=S (yy (G1 679 m)):=by kernel_rfl
def Pk(m:Nat):uf (Ek.ag "any_can_be_ended" (.fE (100+2*m+1) y7.de.ps y7.de.ks (G2 679 m))) x7.de G=S (vB 679 (G2 679 m)):=by kernel_rfl
def k8:LW.chkB 118 l8=xI l8:=by kernel_rfl
def k9:Yi LX x9.de=S x9.b:=by kernel_rfl
def Pl:dh.chks 136 aA=gG aA:=by kernel_rfl
def mz:xH dj Gz.de=S Gz.b:=by kernel_rfl
def Pm:Yi dl kK.de=S kK.b:=by kernel_rfl
def Pn(m:Nat):uf (dr.ag "_law_same" (.fE (140+m) wJ.de.ps wJ.de.ks (J9 679 m))) wJ.de G=S (vS 679 (J9 679 m)):=by kernel_rfl
def Po:du.chks 146 aB=gG aB:=by kernel_rfl
def Pp:dw.chkB 148 aD=xI aD:=by kernel_rfl
def mB:dz.chks 150 aE=gG aE:=by kernel_rfl
def mC:dA.chkB 158 aF=xI aF:=by kernel_rfl
def mG:dB.chks 164 aG=gG aG:=by kernel_rfl
def N2:uf LY Ga.de G=S (bj 679):=by kernel_rfl
end M
set_option maxHeartbeats 0
abbrev PySem.W.Fast.tw4083911038280661520:PySem.Program:=PySem.Challenge.pw_moonseat_k29_sheets_begun
theorem PySem.W.Fast.te4083911038280661520:PySem.Challenge.pw_moonseat_k29_sheets_begun=PySem.W.Fast.tw4083911038280661520:=rfl
namespace Hd
noncomputable section
open PySem PySem.W PyProof.Rows L2 M CP
noncomputable abbrev pw:=PySem.Challenge.pw_moonseat_k29_sheets_begun
theorem prm:((λ(_:Params->Obj)=>B) boot_o_0)=B:=by first|k_qdec|rfl
abbrev de(P:Params)(x:Str)(t:Nat)(v:Value):DictEntry:=#[PyData.keyHash P x,.str x t,v]
abbrev f3(a b:Int)(r:Nat)(l:L Value):L Value:=.int a 0::.int b 0::.ref r::l
abbrev fC(n q:Str)(a b c:Nat)(l x1 x2 x3 x4:Int)(r1:Nat)(z:Bool)(k:Int)(r2:Nat)(m:Int)(e:Nat):Data:=.fields #v[.str n a,.str q b,.str "/claim/cut.py" c,.int l 0,.int x1 0,.int x2 0,.int x3 0,.int x4 0,.ref r1,.bool z,.int k 0,.ref r2,.none,.none,.none,.none,.int m 0,.int l 0,.str "/claim/cut.py" e]
abbrev oU(l:L Value):Obj:=#[.type "tuple",J,.seq (List.toArray l) 0,#v[]]
abbrev oF(n q:Str)(s:Stmt)(m:Str)(t cd:Nat):Obj:=#[.type "function",J,.func (fnOf n q (defArgs s) (defBody s) (defScope s) .none .none .none (.str m t) J (.ref cd) .none),#v[]]
abbrev oT(n q:Str)(s:Stmt):Obj:=#[.none,J,.func {name:=n,qualname:=q,params:=defArgs s,body:=.stmts (defBody s),scope:=defScope s,globals:=0,closure:=[],defaults:=.none,kwdefaults:=.none,doc:=.none,pyModule:=.none,annotations:=J,code:=.none,closureTuple:=.none,builtins:=0},#v[]]
abbrev ins2:BT->Nat->Obj->BT
 |.nil,_,o=>.node o .nil .nil
 |.node v l r,i,o=>match Nat.beq i 0 with
  |true=>.node o l r
  |false=>match Nat.beq (i%2) 1 with
   |true=>.node v (ins2 l (i/2) o) r
   |false=>.node v l (ins2 r (i/2-1) o)
abbrev putAll(t:BT)(l:L (Nat×Obj)):BT:=l.foldl (λt q=>ins2 t q.1 q.2) t
abbrev env:Env:={scope:=pw.main.scope,locals:=mainNs,globals:=mainNs,cells:=[],code:=.ref 13,frame:=S 14}
abbrev bd:L Stmt:=behindTheImports pw
abbrev cE:Code:=.body bd env
abbrev oD(l:L DictEntry)(k:Nat):Obj:=#[.type "dict",J,.dict (List.toArray l) k,#v[]]
abbrev oX(c d:Nat)(m:Str)(t:Nat):Obj:=#[.type "frame",J,.plain,#v[S (.ref c),S (.ref 3),S (.ref d),J,S (.str m t),J,S (.ref 0)]]
abbrev oS(a:Nat):Obj:=#[.type "super",J,.fields #v[.ref a,.ref a,.ref a],#v[]]
abbrev oB(a:Nat):Obj:=#[.type "builtin_function_or_method",J,.fields #v[.builtin "object.__init_subclass__",.ref a],#v[]]
abbrev oP:Obj:=#[.type "builtin_function_or_method",J,.fields #v[.builtin "type.__prepare__",.type "type"],#v[]]
abbrev oE(d:Data):Obj:=#[.type "code",J,d,#v[]]
abbrev oK(n:Str)(b o:L Value)(s:Nat)(u:L Value)(f:Y Value)(t t':Nat)(w:String):Obj:=#[.type "type",J,.cls {name:=n,bases:=b,mro:=o,ns:=s,qualname:=n,hasDict:=B,slotNames:=[],subclasses:=u,abstract:=G,collection:=J,hasDel:=G},#v[f,J,S (.str n t),S (.str n t'),S (.builtin w),S (.bool B)]]
abbrev oW(t:Nat):L Str->L Value
 |[]=>[]
 |x::l=>.str x t::oW (t+1) l
abbrev oV(t:Nat)(l:L Str):Obj:=oU (oW t l)
abbrev o0:Obj:=oU []
abbrev o1:Obj:=#[.none,J,.fields #v[],#v[]]
abbrev nz:Nat->L Obj->L (Nat×Obj)
 |_,[]=>[]
 |n,o::l=>(n,o)::nz (n+1) l
abbrev vN(s:Stmt):L Str:=((defScope s).names.filter λy=>y.2==.local).map (·.1)
abbrev oC(n q:Str)(s:Stmt)(a r:Nat)(l:L Value)(m:Nat):Obj:=oE (.fields (List.toArray (.str n a::.str q (a+1)::.str "/claim/cut.py" (a+2)::.int s.pos.line 0::.int (defArgs s).args.length 0::.int 0 0::.int 0 0::.int 3 0::.ref r::.bool B::.int 181 0::.ref (r+1)::.none::List.append l [.int m 0,.int s.pos.line 0,.str "/claim/cut.py" (m+1)])))
abbrev fO(q:Str)(m:Str)(u:Nat)(s:Stmt)(v:Bool)(a t:Nat):L Obj:=match v with
 |true=>[o0,o1,oV (t+3) (vN s),o0,oT (sN s) q s,oC (sN s) q s t a [.ref (a+2),.ref (a+3),.ref (a+4)] (t+3+(vN s).length),oF (sN s) q s m u (a+5)]
 |false=>[o0,o1,oT (sN s) q s,oC (sN s) q s t a [.none,.none,.ref (a+2)] (t+3),oF (sN s) q s m u (a+3)]
abbrev cO(P:Params)(m:Str)(u:Nat)(s:Stmt)(a t:Nat):L Obj:=
 [oU [.ref 31],oP,oD [de P "__module__" (t+7) (.str m u),de P "__qualname__" (t+9) (.str (sN s) (t+8)),de P "__firstlineno__" (t+11) (.int s.pos.line (t+10)),de P "__static_attributes__" (t+12) (.ref (a+7))] 4,o0,o1,
  oE (fC (sN s) (sN s) (t+2) (t+3) (t+4) s.pos.line 0 0 0 0 (a+3) G 181 (a+4) ↑(t+5) (t+6)),oX (a+5) (a+2) m u,o0,
  oD [de P "__module__" (t+7) (.str m u),de P "__firstlineno__" (t+11) (.int s.pos.line (t+10)),de P "__static_attributes__" (t+12) (.ref (a+7)),de P "__doc__" (t+13) .none] 2,
  oK (sN s) [.ref 31] [.ref (a+9),.ref 31,.type "ValueError",.type "Exception",.type "BaseException",.type "object"] (a+8) [] (S (.ref a)) t (t+8) "ValueError.__new__",oS (a+9),oB (a+9)]
noncomputable abbrev It:=Nat×Bool×Nat×Nat
abbrev iO(m:Str)(u:Nat)(y:It):L Obj:=fO (sN (top y.1)) m u (top y.1) y.2.1 y.2.2.1 y.2.2.2
abbrev iF(y:It):Nat:=y.2.2.1+cond y.2.1 6 4
abbrev iE(P:Params)(y:It):DictEntry:=de P (sN (top y.1)) (y.2.2.2+5+cond y.2.1 (vN (top y.1)).length 0) (.ref (iF y))
abbrev kI(y:It):L Nat:=cond y.2.1 [y.2.2.1,y.2.2.1+2,y.2.2.1+3,y.2.2.1+5,y.2.2.1+6] [y.2.2.1,y.2.2.1+3,y.2.2.1+4]
abbrev iT(y:It)(l:L Value):L Value:=f3 (top y.1).pos.line 0 (iF y-1) l
abbrev jO(P:Params)(m:Str)(u:Nat)(y:Nat×Nat×Nat):L Obj:=cO P m u (top y.1) y.2.1 y.2.2
abbrev jE(P:Params)(y:Nat×Nat×Nat):DictEntry:=de P (sN (top y.1)) (y.2.2+15) (.ref (y.2.1+9))
abbrev jT(y:Nat×Nat×Nat)(l:L Value):L Value:=f3 (top y.1).pos.line 0 (y.2.1+5) l
abbrev kJ(y:Nat×Nat×Nat):L Nat:=[y.2.1,y.2.1+7,y.2.1+8,y.2.1+9]
abbrev vE(u:L Value):Obj:=oK "VerseError" [.type "ValueError"] [.ref 31,.type "ValueError",.type "Exception",.type "BaseException",.type "object"] 30 u (S (.ref 22)) 196 204 "ValueError.__new__"
abbrev i1:L It:=[(0,B,15,187)]
abbrev i2:L (Nat×Nat×Nat):=[(3,35,214),(4,47,230),(5,59,246)]
abbrev i3:L (Nat×Nat×Nat):=[(6,71,262),(7,83,278),(8,95,294),(9,107,310)]
abbrev i4:L (Nat×Nat×Nat):=[(10,119,326),(11,131,342),(12,143,358),(13,155,374)]
abbrev i5:L (Nat×Nat×Nat):=[(14,167,390),(15,179,406)]
abbrev i6:L It:=[(19,B,229,476),(20,B,236,485)]
abbrev i7:L It:=[(21,G,243,493),(22,B,248,499),(23,B,255,515),(24,B,262,527),(25,B,269,540),(26,B,276,549),(27,B,283,559),(28,B,290,567),(29,B,297,580),(30,B,304,592),(31,B,311,601),(32,B,318,610),(33,B,325,619)]
abbrev i8:L It:=[(35,B,332,632),(36,G,339,640),(37,B,344,646),(38,B,351,654),(39,B,358,665)]
abbrev i9:L It:=[(41,G,365,677),(42,B,370,683)]
abbrev i10:L It:=[(46,G,377,699),(47,G,382,705),(48,B,387,711)]
abbrev i11:L It:=[(59,B,595,1010),(60,B,602,1020),(61,B,609,1031),(62,B,616,1043),(63,G,623,1054)]
abbrev i12:L It:=[(66,B,684,1134),(67,G,691,1147),(68,B,696,1153),(69,B,703,1171),(70,B,710,1178),(71,G,717,1194),(72,G,722,1200),(73,B,727,1206),(74,B,734,1215),(75,B,741,1231),(76,B,748,1244)]
abbrev i13:L It:=[(77,G,755,1254),(78,G,760,1260),(79,B,765,1266),(80,B,772,1274),(81,G,779,1284),(82,B,784,1290),(83,B,791,1299),(84,B,798,1311),(85,B,805,1320),(86,B,812,1335),(87,B,819,1347),(88,B,826,1366),(89,G,833,1375),(90,B,838,1381),(91,B,845,1394),(92,G,852,1410)]
abbrev n0(P:Params)(u:L Value):L Obj:=(List.append (i1.flatMap (iO "__main__" 164)) (List.append [oU [.type "ValueError"],oP,oD [de P "__module__" 203 (.str "moonseat.errors" 194),de P "__qualname__" 205 (.str "VerseError" 204),de P "__firstlineno__" 207 (.int 5 206),de P "__static_attributes__" 208 (.ref 29)] 4,o0,o1,oE (fC "VerseError" "VerseError" 198 199 200 5 0 0 0 0 25 G 181 26 201 202),oX 27 24 "moonseat.errors" 194,o0,oD [de P "__module__" 203 (.str "moonseat.errors" 194),de P "__firstlineno__" 207 (.int 5 206),de P "__static_attributes__" 208 (.ref 29),de P "__weakref__" 210 (.ref 32),de P "__doc__" 211 .none] 3,vE u,#[.type "getset_descriptor",J,(.fields #v[.str "__weakref__" 209,.ref 31,.builtin "ExceptionGroup.__weakref__",.none]),#v[]],oS 31,oB 31] (i2.flatMap (jO P "moonseat.errors" 194))))
abbrev n1(P:Params)(u:L Value):L Obj:=(i3.flatMap (jO P "moonseat.errors" 194))
abbrev n2(P:Params)(u:L Value):L Obj:=(i4.flatMap (jO P "moonseat.errors" 194))
abbrev n3(P:Params)(u:L Value):L Obj:=(List.append (i5.flatMap (jO P "moonseat.errors" 194)) (List.append [oU [.ref 31],oP,oD [de P "__module__" 429 (.str "moonseat.errors" 194),de P "__qualname__" 431 (.str "Broken" 430),de P "__firstlineno__" 433 (.int 33 432),de P "__init__" 442 (.ref 204),de P "__static_attributes__" 445 (.ref 205)] 5,o0,#[.none,J,(.fields #v[.int 35 0,.int 4 0,.ref 203]),#v[]],oE (fC "Broken" "Broken" 424 425 426 33 0 0 0 0 194 G 181 195 427 428),oX 196 193 "moonseat.errors" 194] (List.append (fO "Broken.__init__" "moonseat.errors" 194 (inClass (top 16) 0) B 198 434) (List.append [oV 443 ["place","word"],oD [de P "__module__" 429 (.str "moonseat.errors" 194),de P "__firstlineno__" 433 (.int 33 432),de P "__init__" 442 (.ref 204),de P "__static_attributes__" 445 (.ref 205),de P "__doc__" 446 .none] 2,oK "Broken" [.ref 31] [.ref 207,.ref 31,.type "ValueError",.type "Exception",.type "BaseException",.type "object"] 206 [] (S (.ref 191)) 422 430 "ValueError.__new__",oS 207,oB 207,oU [.ref 31],oP,oD [de P "__module__" 456 (.str "moonseat.errors" 194),de P "__qualname__" 458 (.str "Stranded" 457),de P "__firstlineno__" 460 (.int 38 459),de P "__init__" 468 (.ref 223),de P "__static_attributes__" 470 (.ref 224)] 5,o0,#[.none,J,(.fields #v[.int 40 0,.int 4 0,.ref 222]),#v[]],oE (fC "Stranded" "Stranded" 451 452 453 38 0 0 0 0 213 G 181 214 454 455),oX 215 212 "moonseat.errors" 194] (List.append (fO "Stranded.__init__" "moonseat.errors" 194 (inClass (top 17) 0) B 217 461) (List.append [oU [.str "name" 469],oD [de P "__module__" 456 (.str "moonseat.errors" 194),de P "__firstlineno__" 460 (.int 38 459),de P "__init__" 468 (.ref 223),de P "__static_attributes__" 470 (.ref 224),de P "__doc__" 471 .none] 2,oK "Stranded" [.ref 31] [.ref 226,.ref 31,.type "ValueError",.type "Exception",.type "BaseException",.type "object"] 225 [] (S (.ref 210)) 449 457 "ValueError.__new__",oS 226,oB 226] (i6.flatMap (iO "moonseat.stands" 474))))))))
abbrev n4(P:Params)(u:L Value):L Obj:=(List.append (i7.flatMap (iO "moonseat.stands" 474)) (List.append (i8.flatMap (iO "moonseat.sheets" 630)) (List.append (i9.flatMap (iO "moonseat.ahead" 675)) (i10.flatMap (iO "moonseat.house" 693)))))
abbrev n5(P:Params)(u:L Value):L Obj:=(List.append [o0,oP,oD [de P "__module__" 728 (.str "moonseat.house" 693),de P "__qualname__" 730 (.str "House" 729),de P "__firstlineno__" 732 (.int 179 731),de P "__init__" 740 (.ref 407),de P "sheet" 749 (.ref 414),de P "row" 757 (.ref 421),de P "check_new" 765 (.ref 428),de P "check_ends" 777 (.ref 435),de P "do" 786 (.ref 442),de P "put" 801 (.ref 449),de P "begin" 809 (.ref 456),de P "offer" 822 (.ref 463),de P "take" 832 (.ref 470),de P "amend" 846 (.ref 477),de P "turn" 856 (.ref 484),de P "fork" 867 (.ref 491),de P "drop" 873 (.ref 496),de P "change" 886 (.ref 503),de P "back" 895 (.ref 510),de P "again" 904 (.ref 517),de P "deeds" 911 (.ref 524),de P "rules" 918 (.ref 531),de P "first" 925 (.ref 538),de P "names" 932 (.ref 545),de P "verses" 940 (.ref 552),de P "turned" 948 (.ref 559),de P "onwards" 956 (.ref 566),de P "plan" 964 (.ref 573),de P "fitting" 972 (.ref 580),de P "twin" 979 (.ref 587),de P "__static_attributes__" 984 (.ref 588)] 31,o0,#[.none,J,(.fields (List.toArray (List.append (f3 181 4 406 (f3 187 4 413 (f3 193 4 420 (f3 196 4 427 (f3 203 4 434 (f3 209 4 441 (f3 214 4 448 (f3 220 4 455 ([]))))))))) (List.append (f3 225 4 462 (f3 236 4 469 (f3 242 4 476 (f3 253 4 483 (f3 259 4 490 (f3 264 4 495 (f3 270 4 502 (f3 278 4 509 ([]))))))))) (List.append (f3 285 4 516 (f3 292 4 523 (f3 295 4 530 (f3 298 4 537 (f3 301 4 544 (f3 304 4 551 (f3 307 4 558 (f3 310 4 565 ([]))))))))) (f3 313 4 572 (f3 316 4 579 (f3 319 4 586 ([]))))))))),#v[]],oE (fC "House" "House" 723 724 725 179 0 0 0 0 397 G 181 398 726 727),oX 399 396 "moonseat.house" 693] (List.append (fO "House.__init__" "moonseat.house" 693 (inClass (top 49) 0) B 401 733) (List.append (fO "House.sheet" "moonseat.house" 693 (inClass (top 49) 1) B 408 741) (List.append (fO "House.row" "moonseat.house" 693 (inClass (top 49) 2) B 415 750) (List.append (fO "House.check_new" "moonseat.house" 693 (inClass (top 49) 3) B 422 758) (List.append (fO "House.check_ends" "moonseat.house" 693 (inClass (top 49) 4) B 429 766) (List.append (fO "House.do" "moonseat.house" 693 (inClass (top 49) 5) B 436 778) (List.append (fO "House.put" "moonseat.house" 693 (inClass (top 49) 6) B 443 787) (List.append (fO "House.begin" "moonseat.house" 693 (inClass (top 49) 7) B 450 802) (List.append (fO "House.offer" "moonseat.house" 693 (inClass (top 49) 8) B 457 810) (List.append (fO "House.take" "moonseat.house" 693 (inClass (top 49) 9) B 464 823) (List.append (fO "House.amend" "moonseat.house" 693 (inClass (top 49) 10) B 471 833) (List.append (fO "House.turn" "moonseat.house" 693 (inClass (top 49) 11) B 478 847) (List.append (fO "House.fork" "moonseat.house" 693 (inClass (top 49) 12) B 485 857) (List.append (fO "House.drop" "moonseat.house" 693 (inClass (top 49) 13) G 492 868) (List.append (fO "House.change" "moonseat.house" 693 (inClass (top 49) 14) B 497 874) (List.append (fO "House.back" "moonseat.house" 693 (inClass (top 49) 15) B 504 887) (List.append (fO "House.again" "moonseat.house" 693 (inClass (top 49) 16) B 511 896) (List.append (fO "House.deeds" "moonseat.house" 693 (inClass (top 49) 17) B 518 905) (List.append (fO "House.rules" "moonseat.house" 693 (inClass (top 49) 18) B 525 912) (List.append (fO "House.first" "moonseat.house" 693 (inClass (top 49) 19) B 532 919) (List.append (fO "House.names" "moonseat.house" 693 (inClass (top 49) 20) B 539 926) (List.append (fO "House.verses" "moonseat.house" 693 (inClass (top 49) 21) B 546 933) (List.append (fO "House.turned" "moonseat.house" 693 (inClass (top 49) 22) B 553 941) (List.append (fO "House.onwards" "moonseat.house" 693 (inClass (top 49) 23) B 560 949) (List.append (fO "House.plan" "moonseat.house" 693 (inClass (top 49) 24) B 567 957) (List.append (fO "House.fitting" "moonseat.house" 693 (inClass (top 49) 25) B 574 965) (List.append (fO "House.twin" "moonseat.house" 693 (inClass (top 49) 26) B 581 973) [oV 980 ["done","now","opened","undone"],oD [de P "__module__" 728 (.str "moonseat.house" 693),de P "__firstlineno__" 732 (.int 179 731),de P "__init__" 740 (.ref 407),de P "sheet" 749 (.ref 414),de P "row" 757 (.ref 421),de P "check_new" 765 (.ref 428),de P "check_ends" 777 (.ref 435),de P "do" 786 (.ref 442),de P "put" 801 (.ref 449),de P "begin" 809 (.ref 456),de P "offer" 822 (.ref 463),de P "take" 832 (.ref 470),de P "amend" 846 (.ref 477),de P "turn" 856 (.ref 484),de P "fork" 867 (.ref 491),de P "drop" 873 (.ref 496),de P "change" 886 (.ref 503),de P "back" 895 (.ref 510),de P "again" 904 (.ref 517),de P "deeds" 911 (.ref 524),de P "rules" 918 (.ref 531),de P "first" 925 (.ref 538),de P "names" 932 (.ref 545),de P "verses" 940 (.ref 552),de P "turned" 948 (.ref 559),de P "onwards" 956 (.ref 566),de P "plan" 964 (.ref 573),de P "fitting" 972 (.ref 580),de P "twin" 979 (.ref 587),de P "__static_attributes__" 984 (.ref 588),de P "__dict__" 986 (.ref 591),de P "__weakref__" 988 (.ref 592),de P "__doc__" 989 .none] 4,oK "House" [.type "object"] [.ref 590,.type "object"] 589 [] (J) 721 729 "object.__new__",#[.type "getset_descriptor",J,(.fields #v[.str "__dict__" 985,.ref 590,.builtin "function.__dict__",.builtin "function.__dict__#set"]),#v[]],#[.type "getset_descriptor",J,(.fields #v[.str "__weakref__" 987,.ref 590,.builtin "ExceptionGroup.__weakref__",.none]),#v[]],oS 590,oB 590]))))))))))))))))))))))))))))
abbrev n6(P:Params)(u:L Value):L Obj:=(List.append (i11.flatMap (iO "moonseat.rules" 992)) (List.append [o0,oP,oD [de P "__module__" 1067 (.str "moonseat.rules" 992),de P "__qualname__" 1069 (.str "Rules" 1068),de P "__firstlineno__" 1071 (.int 356 1070),de P "__init__" 1083 (.ref 641),de P "kinds" 1090 (.ref 648),de P "shuns" 1097 (.ref 655),de P "bars" 1104 (.ref 662),de P "dues" 1111 (.ref 669),de P "many" 1118 (.ref 676),de P "__static_attributes__" 1124 (.ref 677)] 10,o0,#[.none,J,(.fields (List.toArray (f3 358 4 640 (f3 369 4 647 (f3 372 4 654 (f3 375 4 661 (f3 378 4 668 (f3 381 4 675 ([]))))))))),#v[]],oE (fC "Rules" "Rules" 1062 1063 1064 356 0 0 0 0 631 G 181 632 1065 1066),oX 633 630 "moonseat.rules" 992] (List.append (fO "Rules.__init__" "moonseat.rules" 992 (inClass (top 64) 0) B 635 1072) (List.append (fO "Rules.kinds" "moonseat.rules" 992 (inClass (top 64) 1) B 642 1084) (List.append (fO "Rules.shuns" "moonseat.rules" 992 (inClass (top 64) 2) B 649 1091) (List.append (fO "Rules.bars" "moonseat.rules" 992 (inClass (top 64) 3) B 656 1098) (List.append (fO "Rules.dues" "moonseat.rules" 992 (inClass (top 64) 4) B 663 1105) (List.append (fO "Rules.many" "moonseat.rules" 992 (inClass (top 64) 5) B 670 1112) (List.append [oV 1119 ["bar_rows","due_rows","kind_rows","shun_rows","size"],oD [de P "__module__" 1067 (.str "moonseat.rules" 992),de P "__firstlineno__" 1071 (.int 356 1070),de P "__init__" 1083 (.ref 641),de P "kinds" 1090 (.ref 648),de P "shuns" 1097 (.ref 655),de P "bars" 1104 (.ref 662),de P "dues" 1111 (.ref 669),de P "many" 1118 (.ref 676),de P "__static_attributes__" 1124 (.ref 677),de P "__dict__" 1126 (.ref 680),de P "__weakref__" 1128 (.ref 681),de P "__doc__" 1129 .none] 4,oK "Rules" [.type "object"] [.ref 679,.type "object"] 678 [] (J) 1060 1068 "object.__new__",#[.type "getset_descriptor",J,(.fields #v[.str "__dict__" 1125,.ref 679,.builtin "function.__dict__",.builtin "function.__dict__#set"]),#v[]],#[.type "getset_descriptor",J,(.fields #v[.str "__weakref__" 1127,.ref 679,.builtin "ExceptionGroup.__weakref__",.none]),#v[]],oS 679,oB 679] (i12.flatMap (iO "law_moonseat_k29_sheets_begun" 1132)))))))))))
abbrev n7(P:Params)(u:L Value):L Obj:=(i13.flatMap (iO "law_moonseat_k29_sheets_begun" 1132))
abbrev E(P:Params):L DictEntry:=(List.append [de P "__doc__" 166 .none,de P "__package__" 167 .none,de P "__loader__" 168 (.builtin "__main__.__loader__#opaque"),de P "__spec__" 169 .none,de P "__annotations__" 170 (.ref 6),de P "__builtins__" 171 (.ref 4),de P "__file__" 173 (.str "/claim/cut.py" 172),de P "__cached__" 174 .none] (List.append (i1.map (iE P)) (List.append [de P "VerseError" 213 (.ref 31)] (List.append (i2.map (jE P)) (List.append (i3.map (jE P)) (List.append (i4.map (jE P)) (List.append (i5.map (jE P)) (List.append [de P "Broken" 448 (.ref 207),de P "Stranded" 473 (.ref 226)] (List.append (i6.map (iE P)) (List.append (i7.map (iE P)) (List.append (i8.map (iE P)) (List.append (i9.map (iE P)) (List.append [de P "MOST_SHEETS" 696 (.int 8 695),de P "MOST_LETTERS" 698 (.int 8 697)] (List.append (i10.map (iE P)) (List.append [de P "House" 991 (.ref 590),de P "MOST_SIZE" 995 (.int 30 994),de P "MOST_KINDS" 997 (.int 4 996),de P "MOST_SHUNS" 999 (.int 20 998),de P "MOST_BARS" 1001 (.int 12 1000),de P "MOST_DUES" 1003 (.int 3 1002),de P "MOST_RUN" 1005 (.int 4 1004),de P "MOST_REST" 1007 (.int 4 1006),de P "MOST_FAR" 1009 (.int 2 1008)] (List.append (i11.map (iE P)) (List.append [de P "Rules" 1131 (.ref 679)] (List.append (i12.map (iE P)) (i13.map (iE P))))))))))))))))))))
abbrev mT(k:Nat):Obj:=#[.none,J,.fields (List.toArray (List.take (3*k) (i1.foldr iT (f3 5 0 27 (i2.foldr jT (i3.foldr jT (i4.foldr jT (i5.foldr jT (f3 33 0 196 (f3 38 0 215 (i6.foldr iT (i7.foldr iT (i8.foldr iT (i9.foldr iT (i10.foldr iT (f3 179 0 399 (i11.foldr iT (f3 356 0 633 (i12.foldr iT (i13.foldr iT [])))))))))))))))))))),#v[]]
abbrev mD(P:Params)(x:Str)(t k:Nat):Obj:=oD (de P "__name__" 165 (.str x t)::(E P).take k) (k+1)
abbrev lA(P:Params):L Obj:=[boot_o_0 P,boot_o_1 P,boot_o_2 P,boot_o_3 P,boot_o_4 P,boot_o_5 P,boot_o_6 P,boot_o_7 P,boot_o_8 P,boot_o_9 P,boot_o_10 P,o0,o1,oE (fC "<module>" "<module>" 182 183 184 1 0 0 0 0 11 G 181 12 185 186),oX 13 3 "__main__" 164]
abbrev hA(P:Params):Heap:=#[#[lA P],{}]
abbrev t0(P:Params):BT:=putAll .nil (nz 0 (lA P))
abbrev t1(P:Params):BT:=putAll (t0 P) ((3,mD P "moonseat.errors" 194 13)::(12,mT 5)::nz 15 (n0 P [.ref 44,.ref 56,.ref 68]))
abbrev t2(P:Params):BT:=putAll (t1 P) ((3,mD P "moonseat.errors" 194 17)::(12,mT 9)::(31,vE [.ref 44,.ref 56,.ref 68,.ref 80,.ref 92,.ref 104,.ref 116])::nz 71 (n1 P [.ref 44,.ref 56,.ref 68,.ref 80,.ref 92,.ref 104,.ref 116]))
abbrev t3(P:Params):BT:=putAll (t2 P) ((3,mD P "moonseat.errors" 194 21)::(12,mT 13)::(31,vE [.ref 44,.ref 56,.ref 68,.ref 80,.ref 92,.ref 104,.ref 116,.ref 128,.ref 140,.ref 152,.ref 164])::nz 119 (n2 P [.ref 44,.ref 56,.ref 68,.ref 80,.ref 92,.ref 104,.ref 116,.ref 128,.ref 140,.ref 152,.ref 164]))
abbrev t4(P:Params):BT:=putAll (t3 P) ((3,mD P "moonseat.stands" 474 27)::(12,mT 19)::(31,vE [.ref 44,.ref 56,.ref 68,.ref 80,.ref 92,.ref 104,.ref 116,.ref 128,.ref 140,.ref 152,.ref 164,.ref 176,.ref 188,.ref 207,.ref 226])::nz 167 (n3 P [.ref 44,.ref 56,.ref 68,.ref 80,.ref 92,.ref 104,.ref 116,.ref 128,.ref 140,.ref 152,.ref 164,.ref 176,.ref 188,.ref 207,.ref 226]))
abbrev t5(P:Params):BT:=putAll (t4 P) ((3,mD P "moonseat.house" 693 52)::(12,mT 42)::nz 243 (n4 P []))
abbrev t6(P:Params):BT:=putAll (t5 P) ((3,mD P "moonseat.house" 693 53)::(12,mT 43)::nz 394 (n5 P []))
abbrev t7(P:Params):BT:=putAll (t6 P) ((3,mD P "law_moonseat_k29_sheets_begun" 1132 78)::(12,mT 60)::nz 595 (n6 P []))
abbrev t8(P:Params):BT:=putAll (t7 P) ((3,mD P "law_moonseat_k29_sheets_begun" 1132 94)::(12,mT 76)::nz 755 (n7 P []))
abbrev lF(P:Params):L Obj:=(List.append [boot_o_0 P,boot_o_1 P,boot_o_2 P,mD P "law_moonseat_k29_sheets_begun" 1132 94,boot_o_4 P,boot_o_5 P,boot_o_6 P,boot_o_7 P,boot_o_8 P,boot_o_9 P,boot_o_10 P,o0,mT 76,oE (fC "<module>" "<module>" 182 183 184 1 0 0 0 0 11 G 181 12 185 186),oX 13 3 "__main__" 164] (List.append (n0 P [.ref 44,.ref 56,.ref 68,.ref 80,.ref 92,.ref 104,.ref 116,.ref 128,.ref 140,.ref 152,.ref 164,.ref 176,.ref 188,.ref 207,.ref 226]) (List.append (n1 P [.ref 44,.ref 56,.ref 68,.ref 80,.ref 92,.ref 104,.ref 116,.ref 128,.ref 140,.ref 152,.ref 164,.ref 176,.ref 188,.ref 207,.ref 226]) (List.append (n2 P [.ref 44,.ref 56,.ref 68,.ref 80,.ref 92,.ref 104,.ref 116,.ref 128,.ref 140,.ref 152,.ref 164,.ref 176,.ref 188,.ref 207,.ref 226]) (List.append (n3 P [.ref 44,.ref 56,.ref 68,.ref 80,.ref 92,.ref 104,.ref 116,.ref 128,.ref 140,.ref 152,.ref 164,.ref 176,.ref 188,.ref 207,.ref 226]) (List.append (n4 P [.ref 44,.ref 56,.ref 68,.ref 80,.ref 92,.ref 104,.ref 116,.ref 128,.ref 140,.ref 152,.ref 164,.ref 176,.ref 188,.ref 207,.ref 226]) (List.append (n5 P [.ref 44,.ref 56,.ref 68,.ref 80,.ref 92,.ref 104,.ref 116,.ref 128,.ref 140,.ref 152,.ref 164,.ref 176,.ref 188,.ref 207,.ref 226]) (List.append (n6 P [.ref 44,.ref 56,.ref 68,.ref 80,.ref 92,.ref 104,.ref 116,.ref 128,.ref 140,.ref 152,.ref 164,.ref 176,.ref 188,.ref 207,.ref 226]) (n7 P [.ref 44,.ref 56,.ref 68,.ref 80,.ref 92,.ref 104,.ref 116,.ref 128,.ref 140,.ref 152,.ref 164,.ref 176,.ref 188,.ref 207,.ref 226])))))))))
abbrev hF(P:Params):Heap:=#[#[lF P],{}]
abbrev kA:L Addr:=(List.append [2,3] (List.append (i1.flatMap kI) (List.append [22,29,30,31,32] (List.append (i2.flatMap kJ) (List.append (i3.flatMap kJ) (List.append (i4.flatMap kJ) (List.append (i5.flatMap kJ) (List.append [191,198,200,201,203,204,205,206,207,210,217,219,220,222,223,224,225,226] (List.append (i6.flatMap kI) (List.append (i7.flatMap kI) (List.append (i8.flatMap kI) (List.append (i9.flatMap kI) (List.append (i10.flatMap kI) (List.append [401,403,404,406,407,408,410,411,413,414,415,417,418,420,421,422,424,425,427,428,429,431,432,434,435,436,438,439,441,442,443,445,446,448,449,450,452,453,455,456,457,459,460,462,463,464,466,467,469,470,471,473,474,476,477,478,480,481,483,484,485,487,488,490,491,492,495,496,497,499,500,502,503,504,506,507,509,510,511,513,514,516,517,518,520,521,523,524,525,527,528,530,531,532,534,535,537,538,539,541,542,544,545,546,548,549,551,552,553,555,556,558,559,560,562,563,565,566,567,569,570,572,573,574,576,577,579,580,581,583,584,586,587,588,589,590,591,592] (List.append (i11.flatMap kI) (List.append [635,637,638,640,641,642,644,645,647,648,649,651,652,654,655,656,658,659,661,662,663,665,666,668,669,670,672,673,675,676,677,678,679,680,681] (List.append (i12.flatMap kI) (i13.flatMap kI))))))))))))))))))
abbrev K(P:Params):Frag:=kA.map λa=>(a,(lF P).getD a o0)
def kOk:∀P,kA=(K P).map (·.1):=λ_=>by kernel_rfl
abbrev sts0:L Stmt:=(List.range' 0 6).map top
abbrev sts1:L Stmt:=(List.range' 6 4).map top
abbrev sts2:L Stmt:=(List.range' 10 4).map top
abbrev sts3:L Stmt:=(List.range' 14 7).map top
abbrev sts4:L Stmt:=(List.range' 21 28).map top
abbrev sts5:L Stmt:=(List.range' 49 1).map top
abbrev sts6:L Stmt:=(List.range' 50 27).map top
abbrev sts7:L Stmt:=(List.range' 77 16).map top
abbrev q:Program:={pw with main:={pw.main with body:=((List.append (List.range' 0 1) (List.append (List.range' 2 16) (List.append (List.range' 19 15) (List.append (List.range' 35 5) (List.append (List.range' 41 2) (List.append (List.range' 44 6) (List.append (List.range' 51 14) (List.range' 66 27))))))))).map top} }
noncomputable abbrev Xt:Shared->Bool:=λs=>xlAt q [] s&&recOk (RowW.records (OpenRow.toRowW (OpenLaw.row PySem.Challenge.rw_moonseat_k29_sheets_begun))) s
abbrev G2(p:Program)(w:World)(m:Nat)(an:Y Value)(n:Nat)(s:Shared)(t:Thread):=segRun treeTable p w m an 1 n s t
lay_quick G2
def g2{p:Program}{w:World}{m:Nat}{an:Y Value}{n:Nat}{s:Shared}{t:Thread}{r}(e:PySem.W.Fast.tw10880070632800087129 p w m an n s t=r):segRun treeTable p w m an 1 n s t=r:=by rw[<-PySem.W.Fast.te10880070632800087129]at e;exact e
abbrev G3(p:Program)(w:World)(m:Nat)(an:Y Value)(n:Nat)(s:SharedT)(t:Thread):=segRunT treeTable p w m an 1 n s t
lay_quick G3
def g3{p:Program}{w:World}{m:Nat}{an:Y Value}{n:Nat}{s:SharedT}{t:Thread}{r}(e:PySem.W.Fast.tw4145583888436359099 p w m an n s t=r):segRunT treeTable p w m an 1 n s t=r:=by rw[<-PySem.W.Fast.te4145583888436359099]at e;exact e
abbrev G4(p:Program)(w:World)(m:Nat)(an:Y Value)(n:Nat)(s:Shared)(t:Thread):=topRun treeTable p w m an n s t
lay_quick G4
def g4{p:Program}{w:World}{m:Nat}{an:Y Value}{n:Nat}{s:Shared}{t:Thread}{r}(e:PySem.W.Fast.tw6531939937263253831 p w m an n s t=r):topRun treeTable p w m an n s t=r:=by rw[<-PySem.W.Fast.te6531939937263253831]at e;exact e
abbrev G7(p:Program)(g h:Heap)(s:Shared):=(staticsOk (importedModules p.main.body) g h&&namesBound p h&&gensDone s&&laidKept g h)
lay_quick G7
def g7{p:Program}{g h:Heap}{s:Shared}{r}(e:PySem.W.Fast.tw9566738594451217396 p g h s=r):(staticsOk (importedModules p.main.body) g h&&namesBound p h&&gensDone s&&laidKept g h)=r:=by rw[<-PySem.W.Fast.te9566738594451217396]at e;exact e
abbrev G9(h:Heap):=(h.isNs mainGlobals&&(Array.mk []:Array GenState).size==0,h.objs.size,h.nsMap mainGlobals "__annotations__")
lay_quick G9
def g9{h:Heap}{r}(e:PySem.W.Fast.tw14578262778655688011 h=r):(h.isNs mainGlobals&&(Array.mk []:Array GenState).size==0,h.objs.size,h.nsMap mainGlobals "__annotations__")=r:=by rw[<-PySem.W.Fast.te14578262778655688011]at e;exact e
abbrev G5(q:Program)(R:WRecords)(md:L Str)(s:Shared):=(openSeen q [] md (λs=>xlAt q [] s&&recOk R s) B s)
abbrev G6(q:Program):=openGood q []
lay_quick G5 G6
def g5{q:Program}{R:WRecords}{md:L Str}{s:Shared}{α:Type}(f:_->α)(e:f (PySem.W.Fast.tw5989712690265804088 q R md s)=f (PySem.W.Fast.tw12956129408465502666 q)):f (openSeen q [] md (λs=>xlAt q [] s&&recOk R s) B s)=f (openGood q []):=by rw[<-PySem.W.Fast.te5989712690265804088,<-PySem.W.Fast.te12956129408465502666]at e;exact e
abbrev Lpre(w:World)(os:OsState):=topGo treeTable pw w 11 (S (.ref 6)) 12 (#[boot_heap w.params,Array.mk [],boot_drawn,boot_toks,os]:Shared) (topStub pw)
abbrev Rpre(w:World)(os:OsState):=S ((#[hA w.params,Array.mk [],{},187,os]:Shared),(#[denote treeTable cE,cE,(#[0,0,0,0]:Pos),[topFrame (#[0,0,0,0]:Pos)]]:Thread))
lay_quick Lpre Rpre
def Qpre:Lpre=Rpre:=PySem.W.Fast.te10476676399240795362.trans ((by kernel_rfl:PySem.W.Fast.tw10476676399240795362=PySem.W.Fast.tw9996742816549557572).trans PySem.W.Fast.te9996742816549557572.symm)
def Ppre(w:World)(os:OsState):topGo treeTable pw w 11 (S (.ref 6)) 12 (#[boot_heap w.params,Array.mk [],boot_drawn,boot_toks,os]:Shared) (topStub pw)=S ((#[hA w.params,Array.mk [],{},187,os]:Shared),(#[denote treeTable cE,cE,(#[0,0,0,0]:Pos),[topFrame (#[0,0,0,0]:Pos)]]:Thread)):=congrFun (congrFun Qpre w) os
def Pblk(w:World)(os:OsState):segRun treeTable pw w 11 (S (.ref 6)) 1 1 (#[hA w.params,Array.mk [],{},187,os]:Shared) (blockOf bd env cE (#[0,0,0,0]:Pos) [topFrame (#[0,0,0,0]:Pos)])=S (Flow.next,SharedT.abs (#[t0 w.params,15,{},Array.mk [],{},187,os]:SharedT),cE,(#[0,0,0,0]:Pos)):=g2 Sw
def P0(w:World)(os:OsState):segRunT treeTable pw w 11 (S (.ref 6)) 1 864 (#[t0 w.params,15,{},Array.mk [],{},187,os]:SharedT) (piecesOf sts0 env cE (#[0,0,0,0]:Pos) [topFrame (#[0,0,0,0]:Pos)])=S (Flow.next,(#[t1 w.params,71,{},Array.mk [],{},262,os]:SharedT),cE,(#[11,0,12,8]:Pos)):=g3 Sw
def P1(w:World)(os:OsState):segRunT treeTable pw w 11 (S (.ref 6)) 1 853 (#[t1 w.params,71,{},Array.mk [],{},262,os]:SharedT) (piecesOf sts1 env cE (#[11,0,12,8]:Pos) [topFrame (#[0,0,0,0]:Pos)])=S (Flow.next,(#[t2 w.params,119,{},Array.mk [],{},326,os]:SharedT),cE,(#[19,0,20,8]:Pos)):=g3 Sw
def P2(w:World)(os:OsState):segRunT treeTable pw w 11 (S (.ref 6)) 1 853 (#[t2 w.params,119,{},Array.mk [],{},326,os]:SharedT) (piecesOf sts2 env cE (#[19,0,20,8]:Pos) [topFrame (#[0,0,0,0]:Pos)])=S (Flow.next,(#[t3 w.params,167,{},Array.mk [],{},390,os]:SharedT),cE,(#[27,0,28,8]:Pos)):=g3 Sw
def P3(w:World)(os:OsState):segRunT treeTable pw w 11 (S (.ref 6)) 1 989 (#[t3 w.params,167,{},Array.mk [],{},390,os]:SharedT) (piecesOf sts3 env cE (#[27,0,28,8]:Pos) [topFrame (#[0,0,0,0]:Pos)])=S (Flow.next,(#[t4 w.params,243,{},Array.mk [],{},493,os]:SharedT),cE,(#[47,0,50,12]:Pos)):=g3 Sw
def P4(w:World)(os:OsState):segRunT treeTable pw w 11 (S (.ref 6)) 1 760 (#[t4 w.params,243,{},Array.mk [],{},493,os]:SharedT) (piecesOf sts4 env cE (#[47,0,50,12]:Pos) [topFrame (#[0,0,0,0]:Pos)])=S (Flow.next,(#[t5 w.params,394,{},Array.mk [],{},721,os]:SharedT),cE,(#[173,0,178,44]:Pos)):=g3 Sw
def P5(w:World)(os:OsState):segRunT treeTable pw w 11 (S (.ref 6)) 1 1087 (#[t5 w.params,394,{},Array.mk [],{},721,os]:SharedT) (piecesOf sts5 env cE (#[173,0,178,44]:Pos) [topFrame (#[0,0,0,0]:Pos)])=S (Flow.next,(#[t6 w.params,595,{},Array.mk [],{},992,os]:SharedT),cE,(#[179,0,320,16]:Pos)):=g3 Sw
def P6(w:World)(os:OsState):segRunT treeTable pw w 11 (S (.ref 6)) 1 990 (#[t6 w.params,595,{},Array.mk [],{},992,os]:SharedT) (piecesOf sts6 env cE (#[179,0,320,16]:Pos) [topFrame (#[0,0,0,0]:Pos)])=S (Flow.next,(#[t7 w.params,755,{},Array.mk [],{},1254,os]:SharedT),cE,(#[482,0,487,15]:Pos)):=g3 Sw
def P7(w:World)(os:OsState):segRunT treeTable pw w 11 (S (.ref 6)) 1 505 (#[t7 w.params,755,{},Array.mk [],{},1254,os]:SharedT) (piecesOf sts7 env cE (#[482,0,487,15]:Pos) [topFrame (#[0,0,0,0]:Pos)])=S (Flow.next,(#[t8 w.params,857,{},Array.mk [],{},1416,os]:SharedT),cE,(#[660,0,679,62]:Pos)):=g3 Sw
def Pfin(w:World)(os:OsState):topRun treeTable pw w 11 (S (.ref 6)) 2 (SharedT.abs (#[t8 w.params,857,{},Array.mk [],{},1416,os]:SharedT)) (#[doneF .next,cE,(#[660,0,679,62]:Pos),[topFrame (#[0,0,0,0]:Pos)]]:Thread)=S (#[hF w.params,Array.mk [],{},1416,os]:Shared):=g4 Sw
def Pc0(w:World)(os:OsState):(openSeen q [] (importedModules pw.main.body) Xt B (#[hF w.params,Array.mk [],{},1416,os]:Shared)).1=(openGood q []).1:=g5 (·.1) Sw
def Pc1(w:World)(os:OsState):(openSeen q [] (importedModules pw.main.body) Xt B (#[hF w.params,Array.mk [],{},1416,os]:Shared)).2.1=(openGood q []).2.1:=g5 (·.2.1) Sw
def Pc2(w:World)(os:OsState):(openSeen q [] (importedModules pw.main.body) Xt B (#[hF w.params,Array.mk [],{},1416,os]:Shared)).2.2.1=(openGood q []).2.2.1:=g5 (·.2.2.1) Sw
def Pc3(w:World)(os:OsState):(openSeen q [] (importedModules pw.main.body) Xt B (#[hF w.params,Array.mk [],{},1416,os]:Shared)).2.2.2.1=(openGood q []).2.2.2.1:=g5 (·.2.2.2.1) Sw
def Pc4(w:World)(os:OsState):(openSeen q [] (importedModules pw.main.body) Xt B (#[hF w.params,Array.mk [],{},1416,os]:Shared)).2.2.2.2.1=(openGood q []).2.2.2.2.1:=g5 (·.2.2.2.2.1) Sw
def Pc5(w:World)(os:OsState):(openSeen q [] (importedModules pw.main.body) Xt B (#[hF w.params,Array.mk [],{},1416,os]:Shared)).2.2.2.2.2.1=(openGood q []).2.2.2.2.2.1:=g5 (·.2.2.2.2.2.1) Sw
def Pc6(w:World)(os:OsState):(openSeen q [] (importedModules pw.main.body) Xt B (#[hF w.params,Array.mk [],{},1416,os]:Shared)).2.2.2.2.2.2.1=(openGood q []).2.2.2.2.2.2.1:=g5 (·.2.2.2.2.2.2.1) Sw
def Pc7(w:World)(os:OsState):(openSeen q [] (importedModules pw.main.body) Xt B (#[hF w.params,Array.mk [],{},1416,os]:Shared)).2.2.2.2.2.2.2.1=(openGood q []).2.2.2.2.2.2.2.1:=g5 (·.2.2.2.2.2.2.2.1) Sw
def Pc8(w:World)(os:OsState):(openSeen q [] (importedModules pw.main.body) Xt B (#[hF w.params,Array.mk [],{},1416,os]:Shared)).2.2.2.2.2.2.2.2=(openGood q []).2.2.2.2.2.2.2.2:=g5 (·.2.2.2.2.2.2.2.2) Sw
def Pa(w:World)(os:OsState):(staticsOk (importedModules pw.main.body) (boot_heap w.params) (hF w.params)&&namesBound pw (hF w.params)&&gensDone (#[hF w.params,Array.mk [],{},1416,os]:Shared)&&laidKept (boot_heap w.params) (hF w.params))=B:=g7 Sw
def Py(w:World)(os:OsState):kA.map ((#[hF w.params,Array.mk [],{},1416,os]:Shared)).heap.get?=(K w.params).map λp=>S p.2:=by kernel_rfl
def Pz(w:World):((boot_heap w.params).isNs mainGlobals&&(Array.mk []:Array GenState).size==0,(boot_heap w.params).objs.size,(boot_heap w.params).nsMap mainGlobals "__annotations__")=(B,11,(S (.ref 6))):=g9 Sw
def run(w:World)(os:OsState):topRun treeTable pw w 11 (S (.ref 6)) (12+(1+(864+(853+(853+(989+(760+(1087+(990+(505+2)))))))))) (#[boot_heap w.params,Array.mk [],boot_drawn,boot_toks,os]:Shared) (topStub pw)=S (#[hF w.params,Array.mk [],{},1416,os]:Shared):=
 go_top (Ppre w os) (piece_block (Pblk w os) (piece_app (l:=sts0) (segRun_of (P0 w os)) (piece_app (l:=sts1) (segRun_of (P1 w os)) (piece_app (l:=sts2) (segRun_of (P2 w os)) (piece_app (l:=sts3) (segRun_of (P3 w os)) (piece_app (l:=sts4) (segRun_of (P4 w os)) (piece_app (l:=sts5) (segRun_of (P5 w os)) (piece_app (l:=sts6) (segRun_of (P6 w os)) (piece_app (l:=sts7) (segRun_of (P7 w os)) (piece_nil (Pfin w os)))))))))))
def opn:opening pw=plainProg pw.main.scope.names:=by kernel_rfl
def fen(s:Shared):fenceModules? pw s=S s:=by kernel_rfl
def left:LeftO pw q [] Xt (Hook.obs (kHook K kA kOk)) (Hook.val (kHook K kA kOk)) 13912:=
 LeftO.of_pieces (H₀:=boot_heap) (H₁:=hF) (boot_open opn Sq fen) Pz run Sq λw=>funext λos=>Prod.ext (Pa w os) (Prod.ext (Prod.ext (Pc0 w os) (Prod.ext (Pc1 w os) (Prod.ext (Pc2 w os) (Prod.ext (Pc3 w os) (Prod.ext (Pc4 w os) (Prod.ext (Pc5 w os) (Prod.ext (Pc6 w os) (Prod.ext (Pc7 w os) (Pc8 w os))))))))) (Py w os))
end
end Hd
namespace M
open PySem L2 DS CP
abbrev wX(K:W.Frag):Sp:=λvs H Q _=>∃(a:Addr) (ns:L Int),vs=[.ref a]/\Jk K H a (ns.map V.int)/\ns.length<=63/\∀H',Q (.bl B) H'
def Hi{K:W.Frag}(vs:L V)(H:Hp)(Q:VK)(E:XK)(h:wX K vs H Q E):VV K [G] (bn 679) vs H Q E:=by
 let q a ns rfl hS hl q:=h;have e:ji H []=H:=by funext b;rfl
 exact#[[],[.scr ns],.bl B,(λa h=>by cases h),#[.inl (by rw[e];show DS.J2 K H (.scr ns) _;rw[DS.J2];exact#[a,rfl,hS]),trivial],Dj 679 ns hl,λv H' _ r=>by rw[DS.J2]at r;rw[r];exact q H']
abbrev Xv:Df:=dM 16 0 "Broken.__init__" 204 0 [1,0,0] jA
abbrev wY:Df:=dM 17 0 "Stranded.__init__" 223 0 [1,0] jA
def mI{l:W.OpenLaw}{w:World}{K:W.Frag}{h:Heap}{mg:Tj}{fa:Addr}(X:K.In h)(G00:h.Ns mainGlobals mg)(hfa:mg "law" = S (.ref fa))
 (aC:W.nsIn K mainGlobals "Rules" = S (S (.ref 679)))
 (pg:W.plainGet K 679 Str.empty=B)
 (hd:W.hasDictIn K 679=B)
 (po:W.plainOver K 679=B)
 (sa:W.findIn K (.ref 679) "__setattr__" = S Sf)
 (mk:W.makesIn K 679=B)
 (kc:W.keepIn K (.ref 679)=B)
 (aCH:W.nsIn K mainGlobals "House" = S (S (.ref 590)))
 (pgH:W.plainGet K 590 Str.empty=B)
 (hdH:W.hasDictIn K 590=B)
 (poH:W.plainOver K 590=B)
 (saH:W.findIn K (.ref 590) "__setattr__" = S Sf)
 (mkH:W.makesIn K 590=B)
 (kcH:W.keepIn K (.ref 590)=B)
 (A0:l0.map (yt K 679)=l0.map (yC K))
 (A1:yt K 679 x1=yC K x1)
 (A2:l2.map (yt K 679)=l2.map (yC K))
 (A3:yt K 590 x3=yC K x3)
 (A4:l4.map (yt K 679)=l4.map (yC K))
 (A5:l5.map (λd=>yt K 590 d.d)=l5.map (λd=>yC K d.d))
 (A6:l6.map (yt K 679)=l6.map (yC K))
 (A7:yt K 679 x7=yC K x7)
 (B7:yt K 679 y7=yC K y7)
 (A8:l8.map (λd=>yt K 590 d.d)=l8.map (λd=>yC K d.d))
 (A9:yt K 679 x9=yC K x9)
 (A10:aA.map (yt K 679)=aA.map (yC K))
 (A11:yt K 679 Gz=yC K Gz)
 (A12:yt K 679 kK=yC K kK)
 (A13:yt K 679 wJ=yC K wJ)
 (A14:aB.map (yt K 679)=aB.map (yC K))
 (A15:aD.map (λd=>yt K 590 d.d)=aD.map (λd=>yC K d.d))
 (A16:aE.map (yt K 679)=aE.map (yC K))
 (A17:aF.map (λd=>yt K 590 d.d)=aF.map (λd=>yC K d.d))
 (A18:aG.map (yt K 679)=aG.map (yC K))
 (X1:xt.ex.map (LH K)=xt.ex.map (LI K))
 (X2:(xt.ex.map λx=>xt.ex.map λy=>W.kitOne K Si (.ref (jV K y)))=xt.ex.map λx=>xt.ex.map λy=>S (x==y))
 (X3:xt.ct.map (λh=>(W.nsIn K mainGlobals h.1,h.2.1.map (λx=>W.exmOne K Si (.ref (jV K h.1))),h.2.2.map λx=>W.exmOne K Si (.ref (jV K h.1))))=xt.ct.map λh=>(S (S (.ref (jV K h.1))),h.2.1.map (λ_=>S B),h.2.2.map λ_=>S G))
 (X4:xt.xf.map (LJ K)=xt.xf.map λ_=>(S (S (.builtin "BaseException.__getattribute__")),S J,B,B,S J))
 (X5:xt.xp.map (λx=>(W.nsIn K mainGlobals x,W.excIn K (jV K x) wG "ValueError.__new__"))=xt.xp.map λx=>(S (S Si),B))
 (YBroken1:W.nsIn K mainGlobals "Broken" = S (S (.ref (jV K "Broken"))))
 (YBroken2:ub K (jV K "Broken") wG "ValueError.__new__" 204=B)
 (YBroken3:W.keepIn K (.ref (jV K "Broken"))=B)
 (YBroken4:W.findIn K (.ref (jV K "Broken")) "__init__" = S (S (.ref 204)))
 (YBroken5:yt K (jV K "Broken") Xv=yC K Xv)
 (YBroken6:qf K "Broken" "place" = (S Sf,B,S J,B))
 (YBroken7:qf K "Broken" "word" = (S Sf,B,S J,B))
 (YStranded1:W.nsIn K mainGlobals "Stranded" = S (S (.ref (jV K "Stranded"))))
 (YStranded2:ub K (jV K "Stranded") wG "ValueError.__new__" 223=B)
 (YStranded3:W.keepIn K (.ref (jV K "Stranded"))=B)
 (YStranded4:W.findIn K (.ref (jV K "Stranded")) "__init__" = S (S (.ref 223)))
 (YStranded5:yt K (jV K "Stranded") wY=yC K wY)
 (YStranded6:qf K "Stranded" "name" = (S Sf,B,S J,B))
 (Al:yt K 679 Ga=yC K Ga)
 (hF:kH.fl.map (W.findIn K (.ref 679))=kH.fl.map λ_=>S J)
 (hFH:(kH.hfl++kH.hls).map (W.findIn K (.ref 590))=(kH.hfl++kH.hls).map λ_=>S J)
 (hG:kH.gs.map (λp=>(Eg (W.nsIn K mainGlobals p.1),(Eh p.2).isSome))=kH.gs.map λp=>(Eh p.2,B)):
  ∃fd:FuncData,(∀(s:Shared) (v:Value),BindsTo s fd #[[v],[]] [("_law_script",v)])/\∀base:Heap,K.In base->base.Ns mainGlobals mg->FnOk l.prog w K mg base Y9 167 fa fd ["_law_script"] (wX K):=by
 have XG:∀x v,W.nsIn K mainGlobals x=S (S v)->mg x=S v:=λx v a=>W.mg_of X G00 a;let q f_law bn a_law F_law:=Vw Al rfl;have e:=hfa.symm.trans (XG _ _ a_law);cases e;let q _ _ kV dc pm an cd ct _ rfl _ _:=F_law.ex;refine#[W.fnOf "law" "law" (defArgs Ga.st) (defBody Ga.st) (defScope Ga.st) .none kV dc pm an cd ct,λs v=>.of_eq rfl,λbase _ _=>?_];have h:TOk l.prog w K mg base 2 kH:=#[λp hp=>nH XG (λx a=>W.mg_none_of X G00 a) (nI hG p hp),(λ_ h=>by cases h),#[pg,hd,po,sa],yT hF,nJ XG X1 X2 X3 X4 (λz=>by cases z) rfl,nK X5,λx fs e=>?_,#[pgH,hdH,poH,saH],λf hf=>yT hFH f (List.mem_append.mpr hf),(λp hp=>by cases hp),λp hp=>by cases hp]
 rotate_left
 ·have m:=YM e;rcases uTa m with z|m
  ·cases z;exact LK YBroken1 YBroken2 YBroken3 YBroken4 (ug YBroken5 rfl) YBroken6 YBroken7 Sw rfl Sw Sw Sw (Yq Sw)
  rcases uTa m with z|m
  ·cases z;exact LL YStranded1 YStranded2 YStranded3 YStranded4 (ug YStranded5 rfl) YStranded6 rfl Sw Sw Sw (Yq Sw)
  ·cases m
 have h:TOk l.prog w K mg base 18 LP:=TOk.adds XG l0 h k0 A0;have h:TOk l.prog w K mg base 20 LQ:=TOk.I XG (d:=x1.de) h (ug A1 rfl) Sw k1 Sw (Yq Sw) mk kc aC (Kf 679);have h:TOk l.prog w K mg base 26 LR:=TOk.adds XG l2 h k2 A2;have h:TOk l.prog w K mg base 28 LS:=TOk.hIB XG (d:=x3) (ks:=[B]) (C:=590) (x:="House") h h A3 Sw k3 Sw mkH kcH aCH;have h:TOk l.prog w K mg base 54 LU:=TOk.adds XG l4 h k4 A4;have h:TOk l.prog w K mg base 56 LV:=TOk.addsB l5 h k5 A5;have h:TOk l.prog w K mg base 100 Ek:=TOk.adds XG l6 h k6 A6;have h:TOk l.prog w K mg base 118 LW:=TOk.R2 XG (d1:=x7.de) (d2:=y7.de) h (Vw A7 rfl) (Vw B7 rfl) (G1 679) (G2 679) (vB 679) yy 9 (λ_=>rfl) (λ_=>rfl) (λ_=>rfl) Pj Pk Sw (Yq Sw) Sw (Yq Sw);have h:TOk l.prog w K mg base 134 LX:=TOk.addsB l8 h k8 A8;have h:TOk l.prog w K mg base 136 dh:=TOk.GB XG (d:=x9) h A9 rfl k9 Sw;have h:TOk l.prog w K mg base 138 dj:=TOk.adds XG aA h Pl A10;have h:TOk l.prog w K mg base 138 dl:=TOk.SB XG (d:=Gz) h A11 rfl mz Sw;have h:TOk l.prog w K mg base 140 dr:=TOk.GB XG (d:=kK) h A12 rfl Pm Sw;have h:TOk l.prog w K mg base 146 du:=TOk.R XG (d:=wJ.de) h (Vw A13 rfl) (J9 679) (vS 679) 6 (λ_=>rfl) (λ_=>rfl) Pn Sw (Yq Sw);have h:TOk l.prog w K mg base 148 dw:=TOk.adds XG aB h Po A14;have h:TOk l.prog w K mg base 150 dz:=TOk.addsB aD h Pp A15;have h:TOk l.prog w K mg base 158 dA:=TOk.adds XG aE h mB A16;have h:TOk l.prog w K mg base 164 dB:=TOk.addsB aF h mC A17;have h:TOk l.prog w K mg base 166 LY:=TOk.adds XG aG h mG A18;exact(aw (d:=Ga.de) h F_law N2 rfl).imp Hi
def walk{l:W.OpenLaw}{q:Program}{loose:L Str}{XP:(Str->Y Value)->Heap->Prop}{YP:World->Heap->Prop}{d:DefRec}{K:Params->W.Frag}(hn:l.most=S 63)(hdf:d.params.defaults=[])
  (hY:∀(w:World) (h:Heap),YP w h->(K w.params).In h)
  (F:∀(w:World) (mg:Tj) (fa:Addr) (h:Heap),(K w.params).In h->h.Ns mainGlobals mg->mg d.name=S (.ref fa)->
   ∃fd:FuncData,(∀(s:Shared) (u:Value),BindsTo s fd #[[u],[]] [("_law_script",u)])/\∀base:Heap,(K w.params).In base->base.Ns mainGlobals mg->FnOk l.prog w (K w.params) mg base Y9 167 fa fd ["_law_script"] (wX (K w.params))):
  W.WalkO q loose XP YP l.row.toRowW d [] (λf vs=>PySem.call f vs):=
 L2.EK (n:=63) (k:=167) (x:="_law_script") (CX:=λ_=>Y9) (sp:=λw=>wX (K w.params)) hn Sq hdf #[rfl,by decide,by decide] hY F (λ_ _ a ns hl _ hS=>#[a,ns,rfl,hS,hl,λ_=>rfl]) λ_ _ _ _ _ z=>z
end M
open PySem PySem.W PyProof.Rows
set_option maxHeartbeats 0 in
theorem PySem.Challenge.cw_moonseat_k29_sheets_begun_holds : PySem.Challenge.rw_moonseat_k29_sheets_begun.Holds := by
 w_on;o_law
 refine holds_open (q:=Hd.q) (loose:=[]) (Xt:=Hd.Xt) (XP:=XL Hd.q []) (Yf:=Hook.obs (kHook Hd.K Hd.kA Hd.kOk)) (Ya:=Hook.val (kHook Hd.K Hd.kA Hd.kOk)) (YP:=Hook.says (kHook Hd.K Hd.kA Hd.kOk)) (N:=13912) Hd.left (Hook.of _) (Hook.keeps _) (fun s e=>xl_of s (Bool.and_eq_true_iff.mp e).1) XL.keeps (by rfl) (by rfl) (by rfl) (fun s e=>recFacts_of (Bool.and_eq_true_iff.mp e).2) (by rfl) (by assumption) (by decide +kernel) ⟨rfl,rfl,rfl,rfl,rfl,by decide +kernel⟩ ?hw ?hc
 case hw=>w_witness2
 exact M.walk (l:=PySem.Challenge.rw_moonseat_k29_sheets_begun) rfl rfl (fun w h Y00=>kIn_of Y00) fun w mg fa h KX G00 hmg=>M.mI KX G00 hmg (by kernel_rfl) (by kernel_rfl) (by kernel_rfl) (by kernel_rfl) (by kernel_rfl) (by kernel_rfl) (by kernel_rfl) (by kernel_rfl) (by kernel_rfl) (by kernel_rfl) (by kernel_rfl) (by kernel_rfl) (by kernel_rfl) (by kernel_rfl) (by kernel_rfl) (by kernel_rfl) (by kernel_rfl) (by kernel_rfl) (by kernel_rfl) (by kernel_rfl) (by kernel_rfl) (by kernel_rfl) (by kernel_rfl) (by kernel_rfl) (by kernel_rfl) (by kernel_rfl) (by kernel_rfl) (by kernel_rfl) (by kernel_rfl) (by kernel_rfl) (by kernel_rfl) (by kernel_rfl) (by kernel_rfl) (by kernel_rfl) (by kernel_rfl) (by kernel_rfl) (by kernel_rfl) (by kernel_rfl) (by kernel_rfl) (by kernel_rfl) (by kernel_rfl) (by kernel_rfl) (by kernel_rfl) (by kernel_rfl) (by kernel_rfl) (by kernel_rfl) (by kernel_rfl) (by kernel_rfl) (by kernel_rfl) (by kernel_rfl) (by kernel_rfl) (by kernel_rfl) (by kernel_rfl) (by kernel_rfl) (by kernel_rfl) (by kernel_rfl)
