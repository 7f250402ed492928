import PyProof.Rows.All
import Wide.All
import OpenK.AllK
import Wide.FinOn
import PyProof.EqAt
import PyProof.EqKinds
import PyProof.TupleCall
import PyProof.StrLawsRepr
import Lean
import PyProof.P3Eq
import PyProof.P3In
import PyProof.NeData
import KE.KRevIter
import PyProof.StrWalks
import PyProof.StrBlockH
import PyProof.Conv_int_bool
import PyProof.SetKind
import PyProof.Rows.SetFrom
import PyProof.Rows.SortStr
import PyProof.WalksS
import PyProof.Seq
import PyProof.Walks
import PyProof.FactsAll.set
import PyProof.ForAny
import PyProof.FactsSeq
import PyProof.CollectWalk
import PyProof.SetRoads
import PySem.Challenge.RW_hookhall_k04_rings_shown
theorem PySem.W.Fast.tw7734742424903581641 : True := trivial
theorem PySem.W.Fast.tw10956142331413250963 : True := trivial
theorem PySem.W.Fast.tw5229021968923607269 : True := trivial
theorem PySem.W.Fast.tw14607699134087343473 : True := trivial
theorem PySem.W.Fast.tw16485036035137804511 : True := trivial
theorem PySem.W.Fast.tw12253077501763880240 : True := trivial
theorem PySem.W.Fast.tw13611252317102275571 : True := trivial
theorem PySem.W.Fast.tw9555024695850620092 : True := trivial
theorem PySem.W.Fast.tw10603872994102235732 : True := trivial
theorem PySem.W.Fast.tw1945929955923960073 : True := trivial
theorem PySem.W.Fast.tw3325882622802646476 : True := trivial
theorem PySem.W.Fast.tw13296070009128483750 : True := trivial
theorem PySem.W.Fast.tw14789021101588442120 : True := trivial
theorem PySem.W.Fast.tw1025260780565712970 : True := trivial
theorem PySem.W.Fast.tw10242196796759967523 : True := trivial
theorem PySem.W.Fast.tw12422045608273466073 : True := trivial
theorem PySem.W.Fast.tw5507733204649737209 : True := trivial
theorem PySem.W.Fast.tw13953661728129911167 : True := trivial
noncomputable section
set_option maxHeartbeats 0
set_option Elab.async false
set_option linter.all false
set_option maxRecDepth 100000
namespace L2
open PySem PySem.Spec PyProof.Rows
abbrev Key:=Sum Int Str
def zok:Key->Value->Bool
 |.inl k,v=>Value.isInt k v
 |.inr x,v=>Value.isStrOf x v
def keyH(w:World):Key->Int
 |.inl k=>hashInt k
 |.inr x=>hashStr w x
theorem zbf:∀{k:Key} {v:Value},zok k v=true->(∃i t,k=Sum.inl i/\v=Value.int i t)\/(∃x t,k=Sum.inr x/\v=Value.str x t)
 | .inl i,v,h=>by
   obtain⟨t,e⟩:=Value.isInt_shape (k:=i) (v:=v) h;exact .inl ⟨i,t,rfl,e⟩
 | .inr x,v,h=>by
   obtain⟨t,e⟩:=Value.isStrOf_shape (x:=x) (v:=v) h;exact .inr ⟨x,t,rfl,e⟩
theorem zut(i:Int)(t:Tok):zok (.inl i) (.int i t)=true:=by simp[zok,Value.isInt]
theorem zuu(x:Str)(t:Tok):zok (.inr x) (.str x t)=true:=by simp[zok,Value.isStrOf]
theorem z4b(a b:Int):decide ((Sum.inl a:Key)=Sum.inl b)=(a==b):=by
 by_cases e:a=b
 ·subst e;simp
 ·have h:¬(Sum.inl a:Key)=Sum.inl b:=fun q=>e (Sum.inl.inj q)
  rw[decide_eq_false h];exact(beq_eq_false_iff_ne.mpr e).symm
theorem z4c(a b:Str):decide ((Sum.inr a:Key)=Sum.inr b)=decide (a=b):=by
 by_cases e:a=b
 ·subst e;simp
 ·have h:¬(Sum.inr a:Key)=Sum.inr b:=fun q=>e (Sum.inr.inj q)
  rw[decide_eq_false h,decide_eq_false e]
theorem z4d(a:Int)(b:Str):decide ((Sum.inl a:Key)=Sum.inr b)=false:=decide_eq_false (fun q=>nomatch q)
theorem z4e(a:Str)(b:Int):decide ((Sum.inr a:Key)=Sum.inl b)=false:=decide_eq_false (fun q=>nomatch q)
def za5(prog:Program)(w:World):PySem.KeyKind prog w Key where
 is:=zok
 hash:=keyH w
 inj:=fun v a b ha hb=>by
  rcases zbf ha with⟨i,t,rfl,rfl⟩ | ⟨x,t,rfl,rfl⟩
  ·rcases zbf hb with⟨j,u,rfl,e⟩ | ⟨y,u,rfl,e⟩
   ·injection e with e1 _;rw[e1]
   ·exact nomatch e
  ·rcases zbf hb with⟨j,u,rfl,e⟩ | ⟨y,u,rfl,e⟩
   ·exact nomatch e
   ·injection e with e1 _;rw[e1]
 byValue:=fun k v h=>by
  rcases zbf h with⟨i,t,rfl,rfl⟩ | ⟨x,t,rfl,rfl⟩<;>rfl
 pyHash:=fun hv h=>by
  rcases zbf hv with⟨i,t,rfl,rfl⟩ | ⟨x,t,rfl,rfl⟩
  ·exact wpAny_pyHash_int h
  ·exact wpAny_pyHash_str h
 eqBool:=fun hu hv h=>by
  rcases zbf hu with⟨i,t,rfl,rfl⟩ | ⟨x,t,rfl,rfl⟩
  ·rcases zbf hv with⟨j,u,rfl,rfl⟩ | ⟨y,u,rfl,rfl⟩
   ·rw[z4b] at h;exact wpAny_eqBool_int h
   ·rw[z4d] at h;exact SeqAt.EqAt.int_str i t y u _ _ _ _ h
  ·rcases zbf hv with⟨j,u,rfl,rfl⟩ | ⟨y,u,rfl,rfl⟩
   ·rw[z4e] at h;exact SeqAt.EqAt.str_int x t j u _ _ _ _ h
   ·rw[z4c] at h;exact wpAny_eqBool_str h
 «strs»:=fun k x t v h=>by
  rcases zbf h with⟨i,u,rfl,e⟩ | ⟨y,u,rfl,e⟩
  ·exact nomatch e
  ·injection e with e1 _
   subst e1;cases v<;>rfl
theorem zqj(prog:Program)(w:World)(i:Int)(t:Tok):(za5 prog w).is (.inl i) (.int i t)=true:=zut i t
theorem zqk(prog:Program)(w:World)(x:Str)(t:Tok):(za5 prog w).is (.inr x) (.str x t)=true:=zuu x t
end L2
namespace L2
open PySem PySem.Spec PyProof.Rows
inductive V where
 |non | bl (b:Bool) | int (i:Int) | str (x:Str) | byt (b:Array UInt8) | flt (b:UInt64) | ref (a:Addr) | ty (n:String)
 deriving DecidableEq
def RelV:V->Value->Prop
 |.non,u=>u=Value.none
 |.bl b,u=>u=Value.bool b
 |.int i,u=>∃t,u=Value.int i t
 |.str x,u=>∃t,u=Value.str x t
 |.byt b,u=>∃t,u=Value.bytes b t
 |.flt b,u=>∃t,u=Value.float b t
 |.ref a,u=>u=Value.ref a
 |.ty n,u=>u=Value.type n
abbrev Vals:List V->List Value->Prop:=Paired RelV
theorem Vals.length{xs:List V}{us:List Value}(r:Vals xs us):xs.length=us.length:=Paired.length r
theorem Vals.get:∀{xs:List V} {us:List Value} {i:Nat} {x:V},Vals xs us->xs[i]?=some x->∃u,us[i]?=some u/\RelV x u
 |_,_,_,_,.nil,e=>by simp at e
 |_,_,0,_,.cons r _,e=>by simp at e;subst e;exact⟨_,rfl,r⟩
 | _,_,i+1,x,.cons _ t,e=>by
   obtain⟨u,h1,h2⟩:=Vals.get (i:=i) (x:=x) t (by simpa using e);exact⟨u,by simpa using h1,h2⟩
theorem Vals.set{x:V}{u:Value}(r:RelV x u):∀{xs:List V} {us:List Value} (i:Nat),Vals xs us->Vals (xs.set i x) (us.set i u)
 |_,_,_,.nil=>.nil
 |_,_,0,.cons _ t=>.cons r t
 |_,_,i+1,.cons q t=>.cons q (Vals.set r i t)
theorem Vals.append:∀{xs ys:List V} {us ws:List Value},Vals xs us->Vals ys ws->Vals (xs++ys) (us++ws)
 |_,_,_,_,.nil,s=>s
 |_,_,_,_,.cons r t,s=>.cons r (Vals.append t s)
theorem Vals.take:∀{xs:List V} {us:List Value} (n:Nat),Vals xs us->Vals (xs.take n) (us.take n)
 |_,_,0,_=>.nil
 |_,_,_+1,.nil=>.nil
 |_,_,n+1,.cons r t=>.cons r (Vals.take n t)
theorem Vals.drop:∀{xs:List V} {us:List Value} (n:Nat),Vals xs us->Vals (xs.drop n) (us.drop n)
 |_,_,0,r=>r
 |_,_,_+1,.nil=>.nil
 |_,_,n+1,.cons _ t=>Vals.drop n t
def RelO:Option V->Option Value->Prop
 |some v,some u=>RelV v u
 |none,none=>True
 |_,_=>False
def KV{κ:Type}:List (κ×V)->List (κ×Value)->Prop:=Paired fun(p:κ×V) (q:κ×Value)=>p.1=q.1/\RelV p.2 q.2
def kV:Key->V
 |.inl i=>.int i
 |.inr x=>.str x
inductive HO where
 |lst (xs:List V)
 |tup (xs:List V)
 |dK (kvs:List (Key×V)) | dT (kvs:List (List Key×V))
 |set (S:Int->Bool) (n:Nat)
 |ins (C dx:Addr) (fs:List (Str×V))
 |own (x:Addr)
 |xd (fs:List (Str×V))
 |met (f x:Addr)
 |rng (lo hi:Int)
 |frz (o:Obj) (u:HO)
 |tbl (ps:Array Value)
 |ext (φ:Heap->Prop)
abbrev Hp:=Addr->Option HO
def upd(H:Hp)(a:Addr)(o:HO):Hp:=fun b=>if b=a then some o else H b
theorem zai{H:Hp}{a:Addr}{o:HO}:upd H a o a=some o:=by unfold upd;rw[if_pos rfl]
theorem zag{H:Hp}{a b:Addr}{o:HO}(h:b≠a):upd H a o b=H b:=by unfold upd;rw[if_neg h]
theorem z73{H:Hp}{a b:Addr}{o u:HO}(h:H a=some o)(h':H b=some u)(d:o≠u):a≠b:=by
 intro e;subst e;rw[h] at h';exact d (Option.some.inj h')
theorem zbk{H:Hp}{a b:Addr}{o:HO}(h:H a=some o)(h':H b=none):a≠b:=by
 intro e;subst e;rw[h] at h';cases h'
section
variable (P:Program)(w:World)
def zc0(H:Hp)(h:Heap)(a:Addr):HO->Prop
 |.lst xs=>xs.length<=sizeLine/\∃(its:List Value) (n:Nat),Vals xs its/\h.get? a=some { cls:=.type "list",data:=.seq its.toArray n }
 |.tup xs=>xs.length<=sizeLine/\∃its:List Value,Vals xs its/\IsTup h a its.toArray
 |.dK kvs=>kvs.length<=sizeLine/\(a==sysModules)=false/\∃vs,KV kvs vs/\h.DictOf (za5 P w) a vs
 |.dT kvs=>kvs.length<=sizeLine/\(a==sysModules)=false/\∃xs:List (List Key×Addr×Value),
  Paired (fun(p:List Key×V) (q:List Key×Addr×Value)=>p.1=q.1/\H q.2.1=some (.tup (p.1.map kV))/\RelV p.2 q.2.2) kvs xs /\
  ∃o es ep,h.get? a=some o/\o.ExactDict/\o.data=.dict es ep/\es.toList=xs.map (entryOfKey (tupleKind (za5 P w)))/\(xs.map (·.1)).Nodup
 |.set S n=>h.SetOf (intKind P w) a S n
 |.ins C dx fs=>H dx=some (.own a)/\fs.length<=1000/\dx≠a/\h.get? a=some (PySem.W.instObj C dx) /\
  ∃mA,h.Ns1 dx mA/\(∀f,RelO (fs.lookup f) (mA f))/\PySem.Within mA (fs.map (·.1))
 |.own _=>∃o,h.get? a=some o
 |.xd fs=>∃mA,h.Ns1 a mA/\∀f,RelO (fs.lookup f) (mA f)
 |.rng lo hi=>∃t u v,h.get? a=some { cls:=.type "range",data:=.fields #[.int lo t,.int hi u,.int 1 v] }
 |.frz o u=>h.get? a=some o/\zc0 H h a u
 |.tbl ps=>h.get? a=some { cls:=.none,data:=.fields ps }
 |.met f x=>h.get? a=some (PySem.W.methodObj (.ref f) (.ref x))
 |.ext φ=>φ h/\(∃o,h.get? a=some o)/\∀h1 h2:Heap,φ h1->(∀o,h1.get? a=some o->h2.get? a=some o)->φ h2
def HOk(H:Hp)(h:Heap):Prop:=∀a o,H a=some o->zc0 P w H h a o
end
section
variable {P:Program}{w:World}{H H':Hp}{h h':Heap}{a:Addr}{o:HO}
theorem zc0.lt(x:zc0 P w H h a o):a<h.objs.size:=by
 cases o with
 |lst xs=>obtain⟨_,_,_,_,e⟩:=x;exact Heap.lt_size e
 |tup xs=>obtain⟨_,_,_,p⟩:=x;exact p.lt
 |dK kvs=>obtain⟨_,_,_,_,o,_,_,e,_⟩:=x;exact Heap.lt_size e
 |dT kvs=>obtain⟨_,_,_,_,o,_,_,e,_⟩:=x;exact Heap.lt_size e
 |set S n=>obtain⟨o,_,_,_,e,_⟩:=x;exact Heap.lt_size e
 |ins C dx fs=>obtain⟨_,_,_,e,_⟩:=x;exact Heap.lt_size e
 |own y=>obtain⟨_,e⟩:=x;exact Heap.lt_size e
 |xd fs=>obtain⟨_,⟨_,_,_,e,_⟩,_⟩:=x;exact Heap.lt_size e
 |rng lo hi=>obtain⟨_,_,_,e⟩:=x;exact Heap.lt_size e
 |frz ob u=>obtain⟨e,_⟩:=x;exact Heap.lt_size e
 |tbl ps=>exact Heap.lt_size (show h.get? a=some _ from x)
 |met f y=>exact Heap.lt_size (show h.get? a=some _ from x)
 |ext φ=>obtain⟨_,⟨_,e⟩,_⟩:=x;exact Heap.lt_size e
theorem Paired.mapP{α β:Type}{F G:α->β->Prop}:∀{l₁:List α} {l₂:List β},Paired F l₁ l₂->(∀a b,F a b->G a b)->Paired G l₁ l₂
 |_,_,.nil,_=>.nil
 |_,_,.cons r t,f=>.cons (f _ _ r) (Paired.mapP t f)
theorem zc0.stay(x:zc0 P w H h a o)(k:∀b u,(b=a\/H b=some (.own a))->h.get? b=some u->h'.get? b=some u)
  (ho:∀b,H b=some (.own a)->H' b=some (.own a)) (ht:∀b xs,H b=some (.tup xs)->H' b=some (.tup xs)):zc0 P w H' h' a o:=by
 induction o with
 |lst xs=>obtain⟨z,its,n,r,e⟩:=x;exact⟨z,its,n,r,k _ _ (.inl rfl) e⟩
 |tup xs=>obtain⟨z,its,r,ob,e,c⟩:=x;exact⟨z,its,r,ob,k _ _ (.inl rfl) e,c⟩
 |dK kvs=>obtain⟨z,y,vs,r,ob,es,ep,e,c⟩:=x;exact⟨z,y,vs,r,ob,es,ep,k _ _ (.inl rfl) e,c⟩
 | dT kvs=>
   obtain⟨z,y,xs,r,ob,es,ep,e,c⟩:=x;exact⟨z,y,xs,Paired.mapP r fun p q z=>⟨z.1,ht _ _ z.2.1,z.2.2⟩,ob,es,ep,k _ _ (.inl rfl) e,c⟩
 |set S n=>obtain⟨ob,es,ep,t,e,c⟩:=x;exact⟨ob,es,ep,t,k _ _ (.inl rfl) e,c⟩
 | ins C dx fs=>
   obtain⟨d,z,ne,e,mA,⟨od,es,ep,e2,c⟩,r⟩:=x;exact⟨ho _ d,z,ne,k _ _ (.inl rfl) e,mA,⟨od,es,ep,k _ _ (.inr d) e2,c⟩,r⟩
 |own y=>obtain⟨ob,e⟩:=x;exact⟨ob,k _ _ (.inl rfl) e⟩
 |xd fs=>obtain⟨mA,⟨od,es,ep,e,c⟩,r⟩:=x;exact⟨mA,⟨od,es,ep,k _ _ (.inl rfl) e,c⟩,r⟩
 |rng lo hi=>obtain⟨t,u,v,e⟩:=x;exact⟨t,u,v,k _ _ (.inl rfl) e⟩
 |frz ob u ih=>obtain⟨e,q⟩:=x;exact⟨k _ _ (.inl rfl) e,ih q⟩
 | tbl ps=>
   have e:h.get? a=some { cls:=.none,data:=.fields ps }:=x;show h'.get? a=some { cls:=.none,data:=.fields ps };exact k a _ (.inl rfl) e
 | met f y=>
   have e:h.get? a=some (PySem.W.methodObj (.ref f) (.ref y)):=x;show h'.get? a=some (PySem.W.methodObj (.ref f) (.ref y));exact k a _ (.inl rfl) e
 |ext φ=>obtain⟨p,⟨o,e⟩,st⟩:=x;exact⟨st _ _ p fun o q=>k _ _ (.inl rfl) q,⟨o,k _ _ (.inl rfl) e⟩,st⟩
theorem HOk.lt(x:HOk P w H h)(e:H a=some o):a<h.objs.size:=(x a o e).lt
theorem HOk.fresh(x:HOk P w H h)(e:h.objs.size<=a):H a=none:=by
 cases q:H a with
 |none=>rfl
 |some u=>exact absurd (Nat.lt_of_lt_of_le (x.lt q) e) (Nat.lt_irrefl _)
theorem HOk.kept(x:HOk P w H h)(k:∀b u,h.get? b=some u->h'.get? b=some u):HOk P w H h':=fun a o e=>
 (x a o e).stay (fun b u _ q=>k b u q) (fun _ q=>q) fun _ _ q=>q
theorem HOk.laid(x:HOk P w H h)(k:∀b u,h.get? b=some u->h'.get? b=some u)(hp:h.objs.size<=a)(new:zc0 P w (upd H a o) h' a o):HOk P w (upd H a o) h':=fun b u e=>by
 have hn:=x.fresh hp;by_cases hb:b=a
 ·subst hb;rw[zai] at e;cases e;exact new
 ·rw[zag hb] at e
  exact(x b u e).stay (fun c v _ q=>k c v q) (fun c q=>by rw[zag (zbk q hn)];exact q) fun c xs q=>by rw[zag (zbk q hn)];exact q
end
def Rd(H:Hp)(a:Addr)(u:HO):Prop:=H a=some u\/∃o,H a=some (.frz o u)
theorem Rd.ok{P:Program}{w:World}{H:Hp}{h:Heap}{a:Addr}{u:HO}(r:Rd H a u)(x:HOk P w H h):zc0 P w H h a u:=by
 rcases r with r | ⟨o,r⟩
 ·exact x a u r
 ·obtain⟨_,q⟩:=x a _ r
  exact q
def Mut:Option HO->Prop
 |some (.lst _)=>True
 |some (.dK _)=>True
 |some (.dT _)=>True
 |some (.set _ _)=>True
 |some (.ins _ _ _)=>True
 |some (.ext _)=>True
 |_=>False
section
variable {P:Program}{w:World}{H:Hp}{h h':Heap}{x e:Addr}{o':HO}
theorem HOk.write(ok:HOk P w H h)(mu:Mut (H x))(he:e=x\/H e=some (.own x))(k:∀b u,b≠e->h.get? b=some u->h'.get? b=some u)(heo:∃u,h'.get? e=some u)
  (new:zc0 P w (upd H x o') h' x o'):HOk P w (upd H x o') h':=fun b u q=>by
 have nown:∀c y,H c=some (.own y)->c≠x:=fun c y r z=>by subst z;rw[r] at mu;exact mu
 have ntup:∀c xs,H c=some (.tup xs)->c≠x:=fun c xs r z=>by subst z;rw[r] at mu;exact mu
 by_cases hb:b=x
 ·subst hb;rw[zai] at q;cases q;exact new
 ·rw[zag hb] at q
  by_cases hbe:b=e
  ·have q':H b=some (.own x):=by
    rcases he with z | z
    ·exact absurd (hbe.trans z) hb
    ·rw[hbe];exact z
   rw[q] at q';cases q';obtain⟨v,hv⟩:=heo;exact⟨v,by rw[hbe];exact hv⟩
  ·refine(ok b u q).stay (fun c v hc r=>k c v ?_ r) (fun c r=>by rw[zag (nown c b r)];exact r) fun c xs r=>by rw[zag (ntup c xs r)];exact r
   rcases hc with rfl | hc
   ·exact hbe
   ·rintro rfl
    rcases he with z | z
    ·exact nown c b hc z
    ·rw[hc] at z;cases z;exact hb rfl
end
structure Un(fs ex:List Addr)(H H':Hp)(h h':Heap):Prop where
 keep:∀b o,h.get? b=some o->H b=none->b∉fs->b∉ex->h'.get? b=some o
 slot:∀b o,h.get? b=some o->H b=none->b∈fs->b∉ex->∃sl,h'.get? b=some { o with slots:=sl }
 free:∀b o,h.get? b=some o->H b=none->b∉ex->H' b=none
 there:∀b o,h.get? b=some o->b∉ex->∃o',h'.get? b=some o'
 tups:∀b xs,H b=some (.tup xs)->H' b=some (.tup xs)
 frzs:∀b o u,H b=some (.frz o u)->H' b=some (.frz o u)
 tbls:∀b ps,H b=some (.tbl ps)->∃more,H' b=some (.tbl (ps++more))
section
variable {fs fs' ex ex':List Addr}{H H1 H2:Hp}{h h1 h2 h':Heap}{a x e:Addr}{o:HO}
theorem Un.any(u:Un fs ex H H1 h h1){b:Addr}{ob:Obj}(q:h.get? b=some ob)(n:H b=none)(hx:b∉ex):∃sl,h1.get? b=some { ob with slots:=sl }:=by
 by_cases hb:b∈fs
 ·exact u.slot b ob q n hb hx
 ·exact⟨ob.slots,u.keep b ob q n hb hx⟩
theorem Un.kept(k:∀b u,h.get? b=some u->h'.get? b=some u):Un fs ex H H h h':=
 ⟨fun b ob q _ _ _=>k b ob q,fun b ob q _ _ _=>⟨ob.slots,k b ob q⟩,fun _ _ _ n _=>n,fun b ob q _=>⟨ob,k b ob q⟩,fun _ _ q=>q,fun _ _ _ q=>q,fun _ ps q=>⟨#[],by rw[q];simp⟩⟩
theorem Un.refl:Un fs ex H H h h:=Un.kept fun _ _ q=>q
theorem Un.laid(k:∀b u,h.get? b=some u->h'.get? b=some u)(hp:h.objs.size<=a)(hn:H a=none):Un fs ex H (upd H a o) h h' where
 keep:=fun b u q _ _ _=>k b u q
 slot:=fun b u q _ _ _=>⟨u.slots,k b u q⟩
 free:=fun b u q n _=>by rw[zag (Nat.ne_of_lt (Nat.lt_of_lt_of_le (Heap.lt_size q) hp))];exact n
 there:=fun b u q _=>⟨u,k b u q⟩
 tups:=fun b xs q=>by rw[zag (zbk q hn)];exact q
 frzs:=fun b u xs q=>by rw[zag (zbk q hn)];exact q
 tbls:=fun b ps q=>⟨#[],by rw[zag (zbk q hn),q];simp⟩
theorem Un.write(mu:Mut (H x))(he:e=x\/H e=some (.own x))(k:∀b u,b≠e->h.get? b=some u->h'.get? b=some u)(heo:∃u,h'.get? e=some u):Un fs ex H (upd H x o) h h':=by
 have hx:∀b,H b=none->b≠x:=fun b n z=>by subst z;rw[n] at mu;exact mu
 have hb:∀b,H b=none->b≠e:=fun b n z=>by
  subst z;rcases he with r | r
  ·exact hx b n r
  ·rw[n] at r;cases r
 have hm:∀b u,H b=some u->¬Mut (some u)->b≠x:=fun b u q nm z=>by subst z;rw[q] at mu;exact nm mu
 refine⟨fun b u q n _ _=>k b u (hb b n) q,fun b u q n _ _=>⟨u.slots,k b u (hb b n) q⟩,fun b u q n _=>by rw[zag (hx b n)];exact n,fun b u q _=>?_,
  fun b xs q=>by rw[zag (hm b _ q fun z=>z)];exact q,fun b u xs q=>by rw[zag (hm b _ q fun z=>z)];exact q,fun b ps q=>⟨#[],by rw[zag (hm b _ q fun z=>z),q];simp⟩⟩
 by_cases hbe:b=e
 ·subst hbe;exact heo
 ·exact⟨u,k b u hbe q⟩
end
def trk(h:Heap)(H:Hp):List Addr:=(List.range h.objs.size).filter fun a=>(H a).isSome
def hidT(h:Heap)(H:Hp):Heap:=PySem.W.hideAll h (trk h H)
theorem zuv(h:Heap)(H:Hp):(hidT h H).objs.size=h.objs.size:=PySem.W.hideAll_size _ _
theorem zy0{h:Heap}{H:Hp}{b:Addr}{o:Obj}(e:h.get? b=some o)(n:H b=none):(hidT h H).get? b=some o:=
 PySem.W.hideAll_get _ e fun hm=>by
  have q:(H b).isSome=true:=(List.mem_filter.mp hm).2;rw[n] at q;simp at q
theorem z10{h:Heap}{H:Hp}{b:Addr}{o:Obj}(e:(hidT h H).get? b=some o):h.get? b=some o/\H b=none:=by
 have e':h.get? b=some o:=PySem.W.of_hideAll (trk h H) e;refine⟨e',?_⟩;cases q:H b with
 |none=>rfl
 | some x=>
   have hm:b∈trk h H:=List.mem_filter.mpr ⟨List.mem_range.mpr (Heap.lt_size e'),by simp[q]⟩;have z:(hidT h H).get? b=none:=PySem.W.hideAll_none (trk h H) hm;rw[z] at e;cases e
def z11(g h:Heap)(L:Addr):List (Addr×Obj):=(List.range h.objs.size).filterMap fun a=>if a=L\/(g.get? a).isSome=true then none else(h.get? a).map fun o=>(a,o)
def rest(g h:Heap)(L d:Addr):List (Addr×Obj):=(z11 g h L).filter fun p=>decide (p.1≠d)
end L2
namespace L2
open PySem PySem.Spec PyProof.Rows
structure Mod(K:PySem.W.Frag)(mg:Str->Option Value)(base:Heap):Prop where
 kin:K.In base
 glob:base.Ns mainGlobals mg
 blt:∃mb,base.Ns builtinsNs mb/\∀x:Str,x ≠ "__name__" -> mb x=bootBuiltins x
 nolimit:base.NoLimit
structure Cx where
 prog:Program
 w:World
 K:PySem.W.Frag
 mg:Str->Option Value
 base:Heap
 A:Around
 N:List Str
 s₀:Shared
 H₀:Hp
 env:Env
 outer:List Env
 stack:List Env
 ex:List Addr
 fn:Str->Bool
 calm:Bool
 pn:List (Addr×Obj)
 xe:Value->Shared->Prop
 kn:List (Option V):=[]
def frs(l:List Env):List Addr:=l.filterMap (·.frame)
abbrev Cx.fs(X:Cx):List Addr:=frs X.outer
def Vis(sc:Scope)(x:Str):Prop:=sc.names.lookup x=some .local\/sc.names.lookup x=some .cell\/sc.names.lookup x=some .free
def Loc(sc:Scope)(x:Str):Prop:=sc.names.lookup x=some .local\/sc.names.lookup x=some .cell
def Look(env:Env)(h:Heap)(m:Str->Option Value)(x:Str)(u:Value):Prop:=
 (env.kindOf x=some .local/\m x=some u)\/((env.kindOf x=some .cell\/env.kindOf x=some .free)/\∃c,env.cells.lookup x=some c/\h.IsCell c (some u))
structure Cx.Ok(X:Cx):Prop where
 mod:Mod X.K X.mg X.base
 kind:X.env.scope.kind=.function
 glob:X.env.globals=mainGlobals
 blt:X.env.builtins=builtinsNs
 above:X.s₀.heap.objs.size<=X.env.locals
 inj:∀x y c,X.env.cells.lookup x=some c->X.env.cells.lookup y=some c->x=y
 has:∀x,(X.env.kindOf x=some .cell\/X.env.kindOf x=some .free)->∃c,X.env.cells.lookup x=some c
 cab:∀x c,X.fn x=true->X.env.cells.lookup x=some c->X.s₀.heap.objs.size<=c
 hd:X.calm=true->X.A.handled=none
 frames:X.A.frames=some X.stack
 stk:X.stack=X.outer\/(X.stack=X.env::X.outer/\X.env.frame=some X.env.locals)
 exf:∀b∈X.ex,b≠X.env.locals/\∀x c,X.env.cells.lookup x=some c->c≠b
 bs:∀b o,X.base.get? b=some o->X.s₀.heap.get? b=some o/\X.H₀ b=none
 bsz:X.base.objs.size<=X.s₀.heap.objs.size
 noex:∀b o,X.base.get? b=some o->b∉X.ex
 exfs:∀b∈X.ex,b∉X.fs
 funs:X.s₀.heap.FunFrames X.base X.outer
 frf:∀b∈X.fs,X.H₀ b=none
structure Inv(X:Cx)(pins:List (Addr×Obj))(σ:List (Option V))(H:Hp)(s:Shared):Prop where
 ok:X.Ok
 os:s.os=X.s₀.os
 bare:AllBare s.gens
 base:Un X.fs X.ex X.H₀ H X.s₀.heap s.heap
 loc:∃m,s.heap.Ns X.env.locals m/\∀(i:Nat) (x:Str) (v:V),X.N[i]?=some x->σ[i]?=some (some v)->Vis X.env.scope x->∃u,RelV v u/\Look X.env s.heap m x u
 cell:∀x c,X.env.cells.lookup x=some c->∃v,s.heap.IsCell c v
 free:H X.env.locals=none
 freeC:∀x c,X.env.cells.lookup x=some c->H c=none
 pin:∀p∈X.pn++pins,s.heap.get? p.1=some p.2/\H p.1=none/\p.1≠X.env.locals/\p.1∉X.fs/\∀v,p.2.data≠.cell v
 hok:HOk X.prog X.w H s.heap
 len:σ.length=X.N.length
 kn:∀(i:Nat) (v:V),X.kn[i]?=some (some v)->σ[i]?=some (some v)
section
variable {X:Cx}{pins:List (Addr×Obj)}{σ:List (Option V)}{H H':Hp}{s:Shared}{h':Heap}
theorem Cx.Ok.nofr(ok:X.Ok){b:Addr}{o:Obj}(e:X.base.get? b=some o):b∉X.fs:=fun hb=>by
 have:=(ok.funs.mem hb).1;rw[e] at this;cases this
theorem Inv.bs(I:Inv X pins σ H s):∀b o,X.base.get? b=some o->s.heap.get? b=some o/\H b=none:=fun b o e=>
 ⟨I.base.keep b o (I.ok.bs b o e).1 (I.ok.bs b o e).2 (I.ok.nofr e) (I.ok.noex b o e),I.base.free b o (I.ok.bs b o e).1 (I.ok.bs b o e).2 (I.ok.noex b o e)⟩
theorem Inv.bk(I:Inv X pins σ H s):∀b o,X.base.get? b=some o->s.heap.get? b=some o:=fun b o e=>(I.bs b o e).1
theorem Inv.mod(I:Inv X pins σ H s):Mod X.K X.mg X.base:=I.ok.mod
theorem Inv.kIn(I:Inv X pins σ H s):X.K.In s.heap:=I.ok.mod.kin.keeps I.bk
theorem Inv.fr(I:Inv X pins σ H s):∃m,Fr X.base X.env.locals s.heap m:=
 let ⟨m,hn,_⟩:=I.loc
 ⟨m,hn,I.bk,Nat.le_trans I.ok.bsz I.ok.above⟩
theorem Inv.lt(I:Inv X pins σ H s):X.env.locals<s.heap.objs.size:=let ⟨_,hn,_⟩:=I.loc;hn.lt
theorem Inv.sz(I:Inv X pins σ H s):X.s₀.heap.objs.size<=s.heap.objs.size:=Nat.le_trans I.ok.above (Nat.le_of_lt I.lt)
theorem Inv.nofs(I:Inv X pins σ H s){a:Addr}(h:s.heap.objs.size<=a):a∉X.fs:=fun hb=>by
 obtain⟨_,o,ho,_⟩:=I.ok.funs.mem hb;exact absurd (Nat.lt_of_lt_of_le (Heap.lt_size ho) (Nat.le_trans I.sz h)) (Nat.lt_irrefl _)
theorem Inv.cne(I:Inv X pins σ H s):∀x c,X.env.cells.lookup x=some c->c≠X.env.locals:=fun x c e z=>by
 obtain⟨v,o,ho,hd⟩:=I.cell x c e;obtain⟨m,⟨o',es,ep,ho',hd',_⟩,_⟩:=I.loc;rw[z,ho'] at ho;cases ho;rw[hd'] at hd;cases hd
theorem Inv.funs(I:Inv X pins σ H s):s.heap.FunFrames X.base X.outer:=by
 have all:∀(l:List Env),(∀b∈frs l,b∈X.fs)->X.s₀.heap.FunFrames X.base l->s.heap.FunFrames X.base l:=by
  intro l
  induction l with
  |nil=>intro _ _;trivial
  | cons env r ih=>
    intro hs hl;obtain⟨hk,⟨L,o,hf,hn,ho,hd⟩,hr⟩:=hl;have hL:L∈X.fs:=hs L (by unfold frs;rw[List.filterMap_cons,hf];exact List.mem_cons_self);obtain⟨sl,e⟩:=I.base.slot L o ho (I.ok.frf L hL) hL fun z=>I.ok.exfs L z hL;exact⟨hk,⟨L,_,hf,hn,e,hd⟩,ih (fun b hb=>hs b (by unfold frs;rw[List.filterMap_cons,hf];exact List.mem_cons_of_mem _ hb)) hr⟩
 exact all X.outer (fun _ hb=>hb) I.ok.funs
theorem Inv.stack(I:Inv X pins σ H s):s.heap.FunFrames X.base X.stack:=by
 rcases I.ok.stk with e | ⟨e,hf⟩
 ·rw[e];exact I.funs
 ·rw[e]
  obtain⟨m,hn,_⟩:=I.loc;refine .cons (by rw[I.ok.kind];decide) hf hn ?_ I.funs;exact Heap.get?_none_of_le (Nat.le_trans I.ok.bsz I.ok.above)
theorem Inv.stkSub(I:Inv X pins σ H s):∀b∈frs X.stack,b∈X.env.locals::X.fs:=fun b hb=>by
 rcases I.ok.stk with e | ⟨e,hf⟩
 ·rw[e] at hb;exact List.mem_cons_of_mem _ hb
 ·rw[e] at hb
  unfold frs at hb;rw[List.filterMap_cons,hf] at hb;exact hb
theorem Inv.stkFree(I:Inv X pins σ H s):∀b∈frs X.stack,H b=none:=fun b hb=>by
 rcases List.mem_cons.mp (I.stkSub b hb) with e | hb
 ·rw[e];exact I.free
 ·obtain⟨_,o,ho,_⟩:=I.ok.funs.mem hb
  exact I.base.free b o ho (I.ok.frf b hb) fun z=>I.ok.exfs b z hb
theorem Inv.step{g':Array GenState}{t':Nat}{d':Drawn}{ch:List Addr}(I:Inv X pins σ H s)
  (hch:∀b∈ch,(b∈X.ex\/X.s₀.heap.objs.size<=b)/\b≠X.env.locals/\(∀x c,X.env.cells.lookup x=some c->c≠b)/\∀p∈X.pn++pins,p.1≠b)
  (keep:∀b o,b≠X.env.locals->b∉X.fs->b∉ch->s.heap.get? b=some o->H b=none->h'.get? b=some o)
  (slot:∀b o,b≠X.env.locals->b∈X.fs->b∉ch->s.heap.get? b=some o->H b=none->∃sl,h'.get? b=some { o with slots:=sl }) (free:∀b o,b∉ch->s.heap.get? b=some o->H b=none->H' b=none)
  (there:∀b o,b∉ch->s.heap.get? b=some o->∃o',h'.get? b=some o')
  (tups:∀b xs,H b=some (.tup xs)->H' b=some (.tup xs)) (frzs:∀b o u,H b=some (.frz o u)->H' b=some (.frz o u)) (tbls:∀b ps,H b=some (.tbl ps)->∃more,H' b=some (.tbl (ps++more)))
  (ns:∀m,s.heap.Ns X.env.locals m->h'.Ns X.env.locals m) (hok:HOk X.prog X.w H' h') (hg:AllBare g') :
  Inv X pins σ H' { s with heap:=h',gens:=g',drawn:=d',toks:=t' }:=by
 have neL:∀b o,X.s₀.heap.get? b=some o->b≠X.env.locals:=fun b o e=>Nat.ne_of_lt (Nat.lt_of_lt_of_le (Heap.lt_size e) I.ok.above);have neC:∀b o,X.s₀.heap.get? b=some o->b∉X.ex->b∉ch:=fun b o e hx hb=>by
  rcases(hch b hb).1 with z | z
  ·exact hx z
  ·exact absurd (Nat.lt_of_lt_of_le (Heap.lt_size e) z) (Nat.lt_irrefl _)
 have cellK:∀x c,X.env.cells.lookup x=some c->∀v,s.heap.IsCell c v->h'.IsCell c v:=fun x c e v ⟨o,ho,hd⟩=>by
  have nch:c∉ch:=fun z=>(hch c z).2.2.1 x c e rfl;by_cases hc:c∈X.fs
  ·obtain⟨sl,q⟩:=slot c o (I.cne x c e) hc nch ho (I.freeC x c e)
   exact⟨_,q,hd⟩
  ·exact⟨o,keep c o (I.cne x c e) hc nch ho (I.freeC x c e),hd⟩
 refine⟨I.ok,I.os,hg,⟨fun b o e n hb hx=>?_,fun b o e n hb hx=>?_,fun b o e n hx=>?_,fun b o e hx=>?_,fun b xs e=>tups b xs (I.base.tups b xs e),fun b o xs e=>frzs b o xs (I.base.frzs b o xs e),fun b ps e=>?_⟩,?_,fun x c e=>?_,?_,fun x c e=>?_,fun p hp=>?_,hok,I.len,I.kn⟩
 ·exact keep b o (neL b o e) hb (neC b o e hx) (I.base.keep b o e n hb hx) (I.base.free b o e n hx)
 ·obtain⟨sl,e1⟩:=I.base.slot b o e n hb hx
  obtain⟨sl',e2⟩:=slot b _ (neL b o e) hb (neC b o e hx) e1 (I.base.free b o e n hx);exact⟨sl',e2⟩
 ·obtain⟨o',e1⟩:=I.base.there b o e hx
  exact free b o' (neC b o e hx) e1 (I.base.free b o e n hx)
 ·obtain⟨o',e1⟩:=I.base.there b o e hx
  exact there b o' (neC b o e hx) e1
 ·obtain⟨m1,e1⟩:=I.base.tbls b ps e
  obtain⟨m2,e2⟩:=tbls b _ e1;exact⟨m1++m2,by rw[e2,Array.append_assoc]⟩
 ·obtain⟨m,hn,hl⟩:=I.loc
  refine⟨m,ns m hn,fun i x v e1 e2 e3=>?_⟩;obtain⟨u,r,l⟩:=hl i x v e1 e2 e3;refine⟨u,r,?_⟩;rcases l with l | ⟨k,c,e,z⟩
  ·exact .inl l
  ·exact .inr ⟨k,c,e,cellK x c e _ z⟩
 ·obtain⟨v,z⟩:=I.cell x c e
  exact⟨v,cellK x c e v z⟩
 ·obtain⟨m,⟨o,_,_,ho,_⟩,_⟩:=I.loc
  exact free _ o (fun z=>(hch _ z).2.1 rfl) ho I.free
 ·obtain⟨v,o,ho,hd⟩:=I.cell x c e
  exact free c o (fun z=>(hch c z).2.2.1 x c e rfl) ho (I.freeC x c e)
 ·obtain⟨e,n,ne,nf,d⟩:=I.pin p hp
  have nch:p.1∉ch:=fun z=>(hch p.1 z).2.2.2 p hp rfl;exact⟨keep p.1 p.2 ne nf nch e n,free p.1 p.2 nch e n,ne,nf,d⟩
theorem Inv.un{t':Nat}(I:Inv X pins σ H s)(u:Un X.fs [] H H' s.heap h')(hok:HOk X.prog X.w H' h'):Inv X pins σ H' { s with heap:=h',toks:=t' }:=by
 obtain⟨m,⟨o,es,ep,ho,r⟩,_⟩:=id I.loc;obtain⟨sl,hL⟩:=u.any ho I.free (by simp);exact I.step (g':=s.gens) (d':=s.drawn) (ch:=[]) (fun _ z=>nomatch z) (fun b o _ hb _ e n=>u.keep b o e n hb (by simp)) (fun b o _ hb _ e n=>u.slot b o e n hb (by simp)) (fun b o _ e n=>u.free b o e n (by simp)) (fun b o _ e=>u.there b o e (by simp)) u.tups u.frzs u.tbls (fun m' hm=>by
  obtain⟨o',es',ep',ho',r'⟩:=hm;rw[ho] at ho';cases ho';exact⟨_,es',ep',hL,r'⟩) hok I.bare
theorem Inv.call{g':Array GenState}{t':Nat}{d':Drawn}{ch:List Addr}(I:Inv X pins σ H s)(u:Un (frs X.stack) ch H H' s.heap h')(hok:HOk X.prog X.w H' h')(hg:AllBare g')
  (hch:∀b∈ch,(b∈X.ex\/X.s₀.heap.objs.size<=b)/\b≠X.env.locals/\(∀x c,X.env.cells.lookup x=some c->c≠b)/\∀p∈X.pn++pins,p.1≠b) :
  Inv X pins σ H' { s with heap:=h',gens:=g',drawn:=d',toks:=t' }:=by
 obtain⟨m,⟨o,es,ep,ho,r⟩,_⟩:=id I.loc;obtain⟨sl,hL⟩:=u.any ho I.free fun z=>(hch _ z).2.1 rfl;exact I.step (ch:=ch) hch (fun b o hL hb hc e n=>u.keep b o e n (fun z=>(List.mem_cons.mp (I.stkSub b z)).elim hL hb) hc) (fun b o _ _ hc e n=>u.any e n hc) (fun b o hc e n=>u.free b o e n hc) (fun b o hc e=>u.there b o e hc) u.tups u.frzs u.tbls (fun m' hm=>by
  obtain⟨o',es',ep',ho',r'⟩:=hm;rw[ho] at ho';cases ho';exact⟨_,es',ep',hL,r'⟩) hok hg
theorem Inv.turned{t':Nat}{it:Addr}(I:Inv X pins σ H s)(k:∀b o,b≠it->s.heap.get? b=some o->h'.get? b=some o)(hn:H it=none)(hL:it≠X.env.locals)
  (h1:it∈X.ex\/X.s₀.heap.objs.size<=it) (h2:∀x c,X.env.cells.lookup x=some c->c≠it) (h3:∀p∈X.pn++pins,p.1≠it):Inv X pins σ H { s with heap:=h',toks:=t' }:=by
 have nit:∀b u,H b=some u->b≠it:=fun b u e z=>by rw[z,hn] at e;cases e
 refine I.step (g':=s.gens) (d':=s.drawn) (ch:=[it]) (fun b hb=>?_) (fun b o _ _ hc e _=>k b o (fun z=>hc (by simp[z])) e) (fun b o _ _ hc e _=>⟨o.slots,k b o (fun z=>hc (by simp[z])) e⟩) (fun _ _ _ _ n=>n)
  (fun b o hc e=>⟨o,k b o (fun z=>hc (by simp[z])) e⟩) (fun _ _ e=>e) (fun _ _ _ e=>e) (fun b ps e=>⟨#[],by rw[e];simp⟩) (fun m hm=>?_) (fun b u e=>?_) I.bare
 ·have e:b=it:=by simpa using hb
  subst e;exact⟨h1,hL,h2,h3⟩
 ·obtain⟨o,es,ep,ho,r⟩:=hm
  exact⟨o,es,ep,k _ o (Ne.symm hL) ho,r⟩
 ·refine(I.hok b u e).stay (fun c v hc q=>k c v ?_ q) (fun _ q=>q) fun _ _ q=>q
  rcases hc with z | z
  ·rw[z];exact nit b u e
  ·exact nit c _ z
theorem Inv.tok(I:Inv X pins σ H s)(t:Nat):Inv X pins σ H { s with toks:=t }:=I.un (h':=s.heap) (t':=t) Un.refl I.hok
theorem Inv.kept{t':Nat}(I:Inv X pins σ H s)(k:∀b u,s.heap.get? b=some u->h'.get? b=some u):Inv X pins σ H { s with heap:=h',toks:=t' }:=I.un (Un.kept k) (I.hok.kept k)
theorem Inv.laid{a:Addr}{o:HO}{t':Nat}(I:Inv X pins σ H s)(k:∀b u,s.heap.get? b=some u->h'.get? b=some u)(hp:s.heap.objs.size<=a)(new:zc0 X.prog X.w (upd H a o) h' a o) :
 Inv X pins σ (upd H a o) { s with heap:=h',toks:=t' }:=I.un (Un.laid k hp (I.hok.fresh hp)) (I.hok.laid k hp new)
theorem Inv.write{x e:Addr}{o:HO}{t':Nat}(I:Inv X pins σ H s)(mu:Mut (H x))(he:e=x\/H e=some (.own x))(k:∀b u,b≠e->s.heap.get? b=some u->h'.get? b=some u)(heo:∃u,h'.get? e=some u)
 (new:zc0 X.prog X.w (upd H x o) h' x o):Inv X pins σ (upd H x o) { s with heap:=h',toks:=t' }:=I.un (Un.write mu he k heo) (I.hok.write mu he k heo new)
theorem Inv.weak{σ':List (Option V)}(I:Inv X pins σ H s)(hl:σ'.length=σ.length)(w:∀(i:Nat) v,σ'[i]?=some (some v)->σ[i]?=some (some v))(wk:∀(i:Nat) (v:V),X.kn[i]?=some (some v)->σ'[i]?=some (some v)):Inv X pins σ' H s:=
 ⟨I.ok,I.os,I.bare,I.base,let ⟨m,hn,hl'⟩:=I.loc;⟨m,hn,fun i x v e1 e2 e3=>hl' i x v e1 (w i v e2) e3⟩,I.cell,I.free,I.freeC,I.pin,I.hok,hl.trans I.len,wk⟩
theorem Inv.pins_of{pins':List (Addr×Obj)}(I:Inv X pins σ H s)(h:∀p∈pins',s.heap.get? p.1=some p.2/\H p.1=none/\p.1≠X.env.locals/\p.1∉X.fs/\∀v,p.2.data≠.cell v):Inv X pins' σ H s:=
 ⟨I.ok,I.os,I.bare,I.base,I.loc,I.cell,I.free,I.freeC,fun p hp=>(List.mem_append.mp hp).elim (fun z=>I.pin p (List.mem_append_left _ z)) (h p),I.hok,I.len,I.kn⟩
theorem zm8{N:List Str}(hN:N.Nodup){i j:Nat}{x:Str}(a:N[i]?=some x)(b:N[j]?=some x):i=j:=by
 obtain⟨h1,e1⟩:=List.getElem?_eq_some_iff.mp a;obtain⟨h2,e2⟩:=List.getElem?_eq_some_iff.mp b;exact(List.getElem_inj hN).mp (e1.trans e2.symm)
theorem zkr{M:Model}{A:Around}{E:Value->Shared->Prop}{i:Nat}{x:Str}{v:V}{u:Value}{Q:Unit->Shared->Prop}(I:Inv X pins σ H s)(hN:X.N.Nodup)(hi:X.N[i]?=some x)(hx:Loc X.env.scope x)(r:RelV v u)
  (h:∀s',Inv X pins (σ.set i (some v)) H s'->(∃a,Heap.SameBut a s.heap s'.heap/\(a=X.env.locals\/X.env.cells.lookup x=some a))->Q () s') (hf:X.fn x=true\/X.env.scope.names.lookup x=some .local:=by first | exact .inl rfl | exact .inr rfl | assumption) (hkn:∀u:V,X.kn[i]?≠some (some u):=by first | assumption | exact fun u h=>nomatch (show(none:Option (Option V))=some (some u) from h) | exact fun u h=>nomatch (Option.some.inj (show some (none:Option V)=some (some u) from h))):wpAny M A (storeName X.env x u) Q E s:=by
 obtain⟨m,hn,hl⟩:=id I.loc;have hcls:(X.env.scope.kind==.class || (X.env.scope.kind==.module&&X.env.locals != X.env.globals))=false:=by rw[I.ok.kind];rfl
 have hiσ:i < σ.length:=by rw[I.len];exact(List.getElem?_eq_some_iff.mp hi).1
 have cne:=I.cne;have kn':∀(j:Nat) (v':V),X.kn[j]?=some (some v')->(σ.set i (some v))[j]?=some (some v'):=fun j v' e=>by
  by_cases hj:j=i
  ·subst hj;exact absurd e (hkn v')
  ·rw[List.getElem?_set_ne (Ne.symm hj)];exact I.kn j v' e
 have tracked:∀{a:Addr} {h':Heap},(∃o,s.heap.get? a=some o/\H a=none)->Heap.SameBut a s.heap h'->HOk X.prog X.w H h':=fun {a h'} ha hs b ob e=>by
  obtain⟨_,_,hfree⟩:=ha;refine(I.hok b ob e).stay (fun c w' hc q=>(hs.2 c ?_).trans q) (fun _ q=>q) fun _ _ q=>q;rintro rfl;rcases hc with rfl | hc
  ·rw[hfree] at e;cases e
  ·rw[hfree] at hc;cases hc
 rcases hx with hk | hk
 ·refine wpAny_storeName_local hk hn (fun h' hn' hs=>?_) hcls
  obtain⟨oL,_,_,hoL,_⟩:=id hn;refine h _ ⟨I.ok,I.os,I.bare,⟨fun b o e n hb hx=>?_,fun b o e n hb hx=>?_,I.base.free,fun b o e hx=>?_,I.base.tups,I.base.frzs,I.base.tbls⟩,⟨_,hn',fun j y v' e1 e2 e3=>?_⟩,fun y c e=>?_,I.free,I.freeC,fun p hp=>?_,tracked ⟨oL,hoL,I.free⟩ hs,by simpa using I.len,kn'⟩ ⟨_,hs,.inl rfl⟩
  ·exact(hs.2 b (Nat.ne_of_lt (Nat.lt_of_lt_of_le (Heap.lt_size e) I.ok.above))).trans (I.base.keep b o e n hb hx)
  ·obtain⟨sl,e1⟩:=I.base.slot b o e n hb hx
   exact⟨sl,(hs.2 b (Nat.ne_of_lt (Nat.lt_of_lt_of_le (Heap.lt_size e) I.ok.above))).trans e1⟩
  ·obtain⟨o',e1⟩:=I.base.there b o e hx
   exact⟨o',(hs.2 b (Nat.ne_of_lt (Nat.lt_of_lt_of_le (Heap.lt_size e) I.ok.above))).trans e1⟩
  ·by_cases hj:j=i
   ·subst hj
    rw[hi] at e1;cases e1;rw[List.getElem?_set_self hiσ] at e2;cases e2;exact⟨u,r,.inl ⟨hk,by simp⟩⟩
   ·rw[List.getElem?_set_ne (Ne.symm hj)] at e2
    obtain⟨u',r',q⟩:=hl j y v' e1 e2 e3;refine⟨u',r',?_⟩;rcases q with⟨k,e⟩ | ⟨k,c,e,z⟩
    ·refine .inl ⟨k,?_⟩
     have:y≠x:=fun e=>hj (zm8 hN e1 (e▸hi));simp[this,e]
    ·exact .inr ⟨k,c,e,z.sameBut hs (cne y c e)⟩
  ·obtain⟨w',z⟩:=I.cell y c e
   exact⟨w',z.sameBut hs (cne y c e)⟩
  ·obtain⟨e,n,ne,nf,d⟩:=I.pin p hp
   exact⟨(hs.2 p.1 ne).trans e,n,ne,nf,d⟩
 ·have hfn:X.fn x=true:=by
   rcases hf with z | z
   ·exact z
   ·rw[z] at hk;cases hk
  obtain⟨c,hc⟩:=I.ok.has x (.inl hk);obtain⟨w',z⟩:=I.cell x c hc;refine wpAny_storeName_cell I.ok.kind hk hc z (fun h' hc' hs=>?_);obtain⟨oc,hoc,hocd⟩:=id z;refine h { s with heap:=h' } ⟨I.ok,I.os,I.bare,⟨fun b o e n hb hx=>?_,fun b o e n hb hx=>?_,I.base.free,fun b o e hx=>?_,I.base.tups,I.base.frzs,I.base.tbls⟩,⟨m,hn.sameBut hs (Ne.symm (cne x c hc)),fun j y v' e1 e2 e3=>?_⟩,fun y c' e=>?_,I.free,I.freeC,fun p hp=>?_,tracked ⟨oc,hoc,I.freeC x c hc⟩ hs,by simpa using I.len,kn'⟩ ⟨c,hs,.inr hc⟩
  ·exact(hs.2 b (Nat.ne_of_lt (Nat.lt_of_lt_of_le (Heap.lt_size e) (I.ok.cab x c hfn hc)))).trans (I.base.keep b o e n hb hx)
  ·obtain⟨sl,e1⟩:=I.base.slot b o e n hb hx
   exact⟨sl,(hs.2 b (Nat.ne_of_lt (Nat.lt_of_lt_of_le (Heap.lt_size e) (I.ok.cab x c hfn hc)))).trans e1⟩
  ·obtain⟨o',e1⟩:=I.base.there b o e hx
   exact⟨o',(hs.2 b (Nat.ne_of_lt (Nat.lt_of_lt_of_le (Heap.lt_size e) (I.ok.cab x c hfn hc)))).trans e1⟩
  ·by_cases hj:j=i
   ·subst hj
    rw[hi] at e1;cases e1;rw[List.getElem?_set_self hiσ] at e2;cases e2;exact⟨u,r,.inr ⟨.inl hk,c,hc,hc'⟩⟩
   ·rw[List.getElem?_set_ne (Ne.symm hj)] at e2
    obtain⟨u',r',q⟩:=hl j y v' e1 e2 e3;refine⟨u',r',?_⟩;rcases q with q | ⟨k,c',e,z'⟩
    ·exact .inl q
    ·refine .inr ⟨k,c',e,z'.sameBut hs ?_⟩
     rintro rfl;exact hj (zm8 hN e1 (I.ok.inj _ _ _ e hc▸hi))
  ·by_cases hcc:c'=c
   ·subst hcc;exact⟨_,hc'⟩
   ·obtain⟨w2,z2⟩:=I.cell y c' e
    exact⟨w2,z2.sameBut hs hcc⟩
  ·obtain⟨e,n,ne,nf,d⟩:=I.pin p hp
   refine⟨(hs.2 p.1 ?_).trans e,n,ne,nf,d⟩;intro q;rw[q,hoc] at e;have q':oc=p.2:=Option.some.inj e;exact d w' (by rw[<- q'];exact hocd)
theorem zke{M:Model}{A:Around}{E:Value->Shared->Prop}{i:Nat}{x:Str}{v:V}{u:Value}{Q:Unit->Shared->Prop}(I:Inv X pins σ H s)(hN:X.N.Nodup)(hi:X.N[i]?=some x)(hx:Loc X.env.scope x)(r:RelV v u)
  (h:∀s',Inv X pins (σ.set i (some v)) H s'->Q () s') (hf:X.fn x=true\/X.env.scope.names.lookup x=some .local:=by first | exact .inl rfl | exact .inr rfl | assumption) (hkn:∀u:V,X.kn[i]?≠some (some u):=by first | assumption | exact fun u h=>nomatch (show(none:Option (Option V))=some (some u) from h) | exact fun u h=>nomatch (Option.some.inj (show some (none:Option V)=some (some u) from h))):wpAny M A (storeName X.env x u) Q E s:=
 zkr I hN hi hx r (fun s' I' _=>h s' I') hf hkn
theorem Inv.call'{s':Shared}{ch:List Addr}(I:Inv X pins σ H s)(ho:s'.os=s.os)(u:Un (frs X.stack) ch H H' s.heap s'.heap)(hok:HOk X.prog X.w H' s'.heap)(hg:AllBare s'.gens)
  (hch:∀b∈ch,(b∈X.ex\/X.s₀.heap.objs.size<=b)/\b≠X.env.locals/\(∀x c,X.env.cells.lookup x=some c->c≠b)/\∀p∈X.pn++pins,p.1≠b):Inv X pins σ H' s':=by
 obtain⟨h',g',d',t',o'⟩:=s';have e:o'=s.os:=ho;subst e;exact I.call (g':=g') (t':=t') (d':=d') u hok hg hch
end
abbrev XK:=Value->Option Addr->Hp->Prop
abbrev St:=List (Option V)
abbrev VK:=V->Hp->Prop
abbrev TE:=St->Hp->VK->Prop
abbrev TT:=St->Hp->(Bool->Hp->Prop)->Prop
abbrev TA:=St->Hp->(List V->Hp->Prop)->Prop
structure Ends where
 nx:St->Hp->Prop
 rt:VK
 bk:St->Hp->Prop:=fun _ _=>False
 ct:St->Hp->Prop:=fun _ _=>False
abbrev TS:=Ends->St->Hp->Prop
def EP(X:Cx)(pins:List (Addr×Obj))(σ:St)(Q:VK)(u:Value)(s':Shared):Prop:=∃v H',Inv X pins σ H' s'/\RelV v u/\Q v H'
def TP(X:Cx)(pins:List (Addr×Obj))(σ:St)(Q:Bool->Hp->Prop)(b:Bool)(s':Shared):Prop:=∃H',Inv X pins σ H' s'/\Q b H'
def AP(X:Cx)(pins:List (Addr×Obj))(σ:St)(Q:List V->Hp->Prop)(us:List Value)(s':Shared):Prop:=∃vs H',Inv X pins σ H' s'/\Vals vs us/\Q vs H'
def SP(X:Cx)(pins:List (Addr×Obj))(D:Ends)(f:Flow)(s':Shared):Prop:=
 match f with
 |.next=>∃σ' H',Inv X pins σ' H' s'/\D.nx σ' H'
 |.brk=>∃σ' H',Inv X pins σ' H' s'/\D.bk σ' H'
 |.cont=>∃σ' H',Inv X pins σ' H' s'/\D.ct σ' H'
 |.ret u=>∃v σ' H',Inv X pins σ' H' s'/\RelV v u/\D.rt v H'
def PE(X:Cx)(e:Expr)(t:TE):Prop:=
 ∀(pins:List (Addr×Obj)) (s:Shared) (σ:St) (H:Hp) (Q:VK),Inv X pins σ H s->t σ H Q->wpAny (model X.prog X.w) X.A (eval e X.env) (EP X pins σ Q) X.xe s
def PT(X:Cx)(e:Expr)(t:TT):Prop:=
 ∀(pins:List (Addr×Obj)) (s:Shared) (σ:St) (H:Hp) (Q:Bool->Hp->Prop),Inv X pins σ H s->t σ H Q->wpAny (model X.prog X.w) X.A (isTrue e X.env (eval e X.env)) (TP X pins σ Q) X.xe s
def PW(X:Cx)(e:Expr)(t:TT):Prop:=
 ∀(whole:Sem Value) (pins:List (Addr×Obj)) (s:Shared) (σ:St) (H:Hp) (Q:Bool->Hp->Prop),Inv X pins σ H s->t σ H Q->wpAny (model X.prog X.w) X.A (isTrue e X.env whole) (TP X pins σ Q) X.xe s
theorem PW.pt{X:Cx}{e:Expr}{t:TT}(h:PW X e t):PT X e t:=h _
def PA(X:Cx)(es:List Expr)(t:TA):Prop:=
 ∀(pos:Pos) (pins:List (Addr×Obj)) (s:Shared) (σ:St) (H:Hp) (Q:List V->Hp->Prop),Inv X pins σ H s->t σ H Q->wpAny (model X.prog X.w) X.A (spliced (backTo pos (starEach es X.env))) (AP X pins σ Q) X.xe s
def PS(X:Cx)(st:Stmt)(t:TS):Prop:=
 ∀(pins:List (Addr×Obj)) (s:Shared) (σ:St) (H:Hp) (D:Ends),Inv X pins σ H s->t D σ H->wpAny (model X.prog X.w) X.A (exec st X.env) (SP X pins D) X.xe s
def PSs(X:Cx)(st:List Stmt)(t:TS):Prop:=
 ∀(pins:List (Addr×Obj)) (s:Shared) (σ:St) (H:Hp) (D:Ends),Inv X pins σ H s->t D σ H->wpAny (model X.prog X.w) X.A (execs st X.env) (SP X pins D) X.xe s
theorem thn{α:Type}{t:Sem α}{Q Q':α->Shared->Prop}{M:Model}{A:Around}{E:Value->Shared->Prop}{s:Shared}(h:wpAny M A t Q E s)(hQ:∀a s,Q a s->Q' a s):wpAny M A t Q' E s:=wpAny_mono h hQ fun _ _ x=>x
end L2
namespace L2
open PySem PySem.Spec PyProof.Rows
section
variable {X:Cx}
theorem bin{a b:Expr}{ta tb:TE}(ha:PE X a ta)(hb:PE X b tb){pins:List (Addr×Obj)}{s:Shared}{σ:St}{H:Hp}{R:V->V->Hp->Prop}(I:Inv X pins σ H s)(h:ta σ H fun x H1=>tb σ H1 fun y H2=>R x y H2)
  {α:Type} {Q:α->Shared->Prop} {f:Value->Value->Sem α}
  (hf:∀v u s2 x y H2,Inv X pins σ H2 s2->RelV x v->RelV y u->R x y H2->wpAny (model X.prog X.w) X.A (f v u) Q X.xe s2) :
  wpAny (model X.prog X.w) X.A (eval a X.env) (fun v s₁=>wpAny (model X.prog X.w) X.A (eval b X.env) (fun u s₂=>wpAny (model X.prog X.w) X.A (f v u) Q X.xe s₂) X.xe s₁) X.xe s:=by
 refine thn (ha pins s σ H _ I h) fun v s1 hq_=>?_;obtain⟨x,H1,I1,r1,q1⟩:=hq_;refine thn (hb pins s1 σ H1 _ I1 q1) fun u s2 hq_=>?_;obtain⟨y,H2,I2,r2,q2⟩:=hq_;exact hf v u s2 x y H2 I2 r1 r2 q2
def tVar(i:Nat):TE:=fun σ H Q=>∃v,σ[i]?=some (some v)/\Q v H
def tC(v:V):TE:=fun _ H Q=>Q v H
theorem zol{i:Nat}{x:Str}{pos:Pos}(hN:X.N[i]?=some x)(hv:Vis X.env.scope x)(hd:(x==("__debug__" : Str))=false:=by decide)(hcd:(x==("__classdict__" : Str))=false:=by decide):PE X (.Name x pos) (tVar i):=by
 intro pins s σ H Q I h;obtain⟨v,e,h⟩:=h;obtain⟨m,hn,hl⟩:=I.loc;obtain⟨u,r,l⟩:=hl i x v hN e hv;have fin:EP X pins σ Q u s:=⟨v,H,I,r,h⟩;rcases l with⟨hk,hm⟩ | ⟨hk,c,hc,hcell⟩
 ·exact wpAny_Name (wpAny_loadName_local I.ok.kind hk hn hm fin) hd
 ·rcases hk with hk | hk
  ·exact wpAny_Name (wpAny_loadName_cell I.ok.kind hk hc hcell fin) hd
  ·exact wpAny_Name (wpAny_loadName_free I.ok.kind hk hc hcell fin hcd) hd
theorem z4f{i j pos}:PE X (.Constant (.int i) j pos) (tC (.int i)):=fun _ _ _ H _ I h=>wpAny_Constant_int ⟨.int i,H,I.tok _,⟨_,rfl⟩,h⟩
theorem z74{b j pos}:PE X (.Constant (.bool b) j pos) (tC (.bl b)):=fun _ _ _ H _ I h=>Constant_bool ⟨.bl b,H,I,rfl,h⟩
theorem z4g{j pos}:PE X (.Constant .none j pos) (tC .non):=fun _ _ _ H _ I h=>Constant_none ⟨.non,H,I,rfl,h⟩
theorem z0v{x j pos}:PE X (.Constant (.str x) j pos) (tC (.str x)):=fun _ _ _ H _ I h=>Calls.Constant_str ⟨.str x,H,I.tok _,⟨_,rfl⟩,h⟩
def Gl(X:Cx)(x:Str):Prop:=X.env.kindOf x=some .globalImplicit
theorem zhd{E:Value->Shared->Prop}{pins:List (Addr×Obj)}{s:Shared}{σ:St}{H:Hp}{x:Str}{u:Value}{pos:Pos}{Q:Value->Shared->Prop}(I:Inv X pins σ H s)(hg:Gl X x)(hm:X.mg x=some u)(h:Q u s)
  (hd:(x==("__debug__" : Str))=false:=by decide):wpAny (model X.prog X.w) X.A (eval (.Name x pos) X.env) Q E s:=
 Calls.Name_function_global I.ok.kind hg (Calls.loadGlobal_global (by rw[I.ok.glob];exact I.mod.glob.keeps I.bk) hm h) hd
theorem zhe{E:Value->Shared->Prop}{pins:List (Addr×Obj)}{s:Shared}{σ:St}{H:Hp}{x:Str}{u:Value}{pos:Pos}{Q:Value->Shared->Prop}(I:Inv X pins σ H s)(hg:Gl X x)(hm:X.mg x=none)(hv:bootBuiltins x=some u)(h:Q u s)
  (hn:x ≠ "__name__":=by decide) (hd:(x==("__debug__" : Str))=false:=by decide):wpAny (model X.prog X.w) X.A (eval (.Name x pos) X.env) Q E s:=by
 obtain⟨mb,h1,h2⟩:=I.mod.blt;exact Calls.Name_function_global I.ok.kind hg (Calls.loadGlobal_builtin (by rw[I.ok.glob];exact I.mod.glob.keeps I.bk) hm (by rw[I.ok.blt];exact h1.keeps I.bk) ((h2 x hn).trans hv) h) hd
theorem zuw{x:Str}{v:V}{u:Value}{pos:Pos}(hg:Gl X x)(hm:X.mg x=some u)(r:RelV v u)(hd:(x==("__debug__" : Str))=false:=by decide):PE X (.Name x pos) (tC v):=
 fun _ _ _ H _ I h=>zhd I hg hm ⟨v,H,I,r,h⟩ hd
theorem zux{x:Str}{v:V}{u:Value}{pos:Pos}(hg:Gl X x)(hm:X.mg x=none)(hv:bootBuiltins x=some u)(r:RelV v u)(hn:x ≠ "__name__":=by decide)(hd:(x==("__debug__" : Str))=false:=by decide):PE X (.Name x pos) (tC v):=
 fun _ _ _ H _ I h=>zhe I hg hm hv ⟨v,H,I,r,h⟩ hn hd
variable {a b:Expr}{ta tb:TE}{pos:Pos}
def PC(X:Cx)(op:CmpOp)(a b:Expr)(t:TE):Prop:=
 ∀ (pins:List (Addr×Obj)) (s:Shared) (σ:St) (H:Hp) (Q:VK),Inv X pins σ H s->t σ H Q ->
   wpAny (model X.prog X.w) X.A (eval a X.env) (fun v s₁=>wpAny (model X.prog X.w) X.A (eval b X.env) (fun u s₂=>wpAny (model X.prog X.w) X.A (compareOp op v u) (EP X pins σ Q) X.xe s₂) X.xe s₁) X.xe s
theorem zry(b:Expr){op:CmpOp}(h:op≠.In)(h2:op≠.NotIn):behindInMarks op b=false:=by
 have e1:(op==CmpOp.In)=false:=by cases op<;>first | rfl | exact absurd rfl h
 have e2:(op==CmpOp.NotIn)=false:=by cases op<;>first | rfl | exact absurd rfl h2
 cases b<;>simp[behindInMarks,e1,e2]
def tB(t:TE):TT:=fun σ H Q=>t σ H fun x H1=>∃c,x=.bl c/\Q c H1
theorem z4h{op:CmpOp}{t:TE}(h:PC X op a b t)(h1:behindInMarks op b=false:=by first | exact zry _ (by decide) (by decide) | rfl):PE X (.Compare a [op] [b] pos) t:=fun pins s σ H Q I hw=>wpAny_Compare1 (h pins s σ H Q I hw) h1
theorem z0w{op:CmpOp}{t:TE}(h:PC X op a b t)(h1:behindInMarks op b=false:=by first | exact zry _ (by decide) (by decide) | rfl):PT X (.Compare a [op] [b] pos) (tB t):=by
 intro pins s σ H Q I hw;refine wpAny_isTrue_Compare1 (thn (h pins s σ H _ I hw) fun v s1 h1=>thn h1 fun u s2 h2=>thn h2 fun c s3 hq_=>?_) h1;obtain⟨x,H1,I1,r1,q1⟩:=hq_;obtain⟨d,rfl,q⟩:=q1;cases r1;exact wpAny_truthy_bool ⟨H1,I1,q⟩
variable {tA tB':TT}{rest:List Expr}
def tAnd(t u:TT):TT:=fun σ H Q=>t σ H fun c H1=>if c=true then u σ H1 Q else Q false H1
def tOr(t u:TT):TT:=fun σ H Q=>t σ H fun c H1=>if c=true then Q true H1 else u σ H1 Q
def tNot(t:TT):TT:=fun σ H Q=>t σ H fun c H1=>Q (!c) H1
theorem z12(ha:PT X a tA):PW X (.BoolOp .And [a] pos) tA:=by
 intro wh pins s σ H Q I h;refine isTrue_and (thn (ha pins s σ H Q I h) fun c s1 e=>?_);cases c with
 |true=>exact isTrue_and_nil e
 |false=>exact e
theorem z4i(ha:PT X a tA):PW X (.BoolOp .Or [a] pos) tA:=by
 intro wh pins s σ H Q I h;refine isTrue_or (thn (ha pins s σ H Q I h) fun c s1 e=>?_);cases c with
 |false=>exact isTrue_or_nil e
 |true=>exact e
theorem z4j(ha:PT X a tA)(hb:PW X (.BoolOp .And (b::rest) pos) tB'):PW X (.BoolOp .And (a::b::rest) pos) (tAnd tA tB'):=by
 intro wh pins s σ H Q I h;refine isTrue_and (thn (ha pins s σ H _ I h) fun c s1 hq_=>?_);obtain⟨H1,I1,q1⟩:=hq_;cases c with
 |true=>exact hb wh pins s1 σ H1 Q I1 q1
 |false=>exact⟨H1,I1,q1⟩
theorem z75(ha:PT X a tA)(hb:PW X (.BoolOp .Or (b::rest) pos) tB'):PW X (.BoolOp .Or (a::b::rest) pos) (tOr tA tB'):=by
 intro wh pins s σ H Q I h;refine isTrue_or (thn (ha pins s σ H _ I h) fun c s1 hq_=>?_);obtain⟨H1,I1,q1⟩:=hq_;cases c with
 |true=>exact⟨H1,I1,q1⟩
 |false=>exact hb wh pins s1 σ H1 Q I1 q1
theorem z4k(ha:PT X a tA):PT X (.UnaryOp .Not a pos) (tNot tA):=by
 intro pins s σ H Q I h;exact isTrue_not (ha pins s σ H (fun c H1=>Q (!c) H1) I h)
def tIf(t:TT)(ta tb:TE):TE:=fun σ H Q=>t σ H fun c H1=>if c=true then ta σ H1 Q else tb σ H1 Q
theorem zy1{c:Expr}(hc:PT X c tA)(ha:PE X a ta)(hb:PE X b tb):PE X (.IfExp c a b pos) (tIf tA ta tb):=by
 intro pins s σ H Q I h;refine wpAny_IfExp (thn (hc pins s σ H _ I h) fun d s1 hq_=>?_);obtain⟨H1,I1,q1⟩:=hq_;cases d with
 |true=>exact ha pins s1 σ H1 Q I1 q1
 |false=>exact hb pins s1 σ H1 Q I1 q1
end
end L2
namespace L2
open PySem PySem.Spec PyProof.Rows
def SqL(K:PySem.W.Frag)(H:Hp)(a:Addr)(xs:List V):Prop:=
 Rd H a (.lst xs) \/
  ∃(o:Obj) (its:Array Value) (n:Nat),K.lookup a=some o/\o.cls=.type "list" /\ o.dict=none/\o.data=.seq its n/\its.size<=sizeLine/\Vals xs its.toList
def SqT(K:PySem.W.Frag)(H:Hp)(a:Addr)(xs:List V):Prop:=
 Rd H a (.tup xs) \/
  ∃(o:Obj) (its:Array Value) (n:Nat),K.lookup a=some o/\o.cls=.type "tuple" /\ o.data=.seq its n/\its.size<=sizeLine/\Vals xs its.toList
def absV:Value->Option V
 |.none=>some .non
 |.bool b=>some (.bl b)
 |.int i _=>some (.int i)
 |.str x _=>some (.str x)
 |.bytes b _=>some (.byt b)
 |.float b _=>some (.flt b)
 |.ref a=>some (.ref a)
 |.type n=>some (.ty n)
 |_=>none
theorem RelV.abs{x:V}{u:Value}(r:RelV x u):absV u=some x:=by
 cases x with
 |non=>cases r;rfl
 |bl _=>cases r;rfl
 |int _=>obtain⟨t,rfl⟩:=r;rfl
 |str _=>obtain⟨t,rfl⟩:=r;rfl
 |byt _=>obtain⟨t,rfl⟩:=r;rfl
 |flt _=>obtain⟨t,rfl⟩:=r;rfl
 |ref _=>cases r;rfl
 |ty _=>cases r;rfl
theorem RelV.inj{x y:V}{u:Value}(r:RelV x u)(q:RelV y u):x=y:=Option.some.inj (r.abs.symm.trans q.abs)
theorem Vals.inj:∀{xs ys:List V} {us:List Value},Vals xs us->Vals ys us->xs=ys
 |_,_,_,.nil,.nil=>rfl
 |_,_,_,.cons r t,.cons r' t'=>by rw[r.inj r',Vals.inj t t']
section
variable {X:Cx}{pins:List (Addr×Obj)}{σ:St}{H:Hp}{s:Shared}{a:Addr}{xs ys:List V}
theorem Inv.list(I:Inv X pins σ H s)(h:SqL X.K H a xs):∃its:List Value,Vals xs its/\PlainL s.heap a its.toArray/\xs.length<=sizeLine:=by
 rcases h with h | ⟨o,its,n,hk,hc,hd,hs,hz,r⟩
 ·obtain⟨z,its,n,r,e⟩:=h.ok I.hok
  exact⟨its,r,⟨_,n,e,rfl,rfl,rfl⟩,z⟩
 ·refine⟨its.toList,r,⟨o,n,I.kIn a o hk,hc,hd,by simpa using hs⟩,?_⟩
  have e:=r.length;simp only[Array.length_toList] at e;omega
theorem Inv.tuple(I:Inv X pins σ H s)(h:SqT X.K H a xs):∃its:List Value,Vals xs its/\IsTup s.heap a its.toArray/\xs.length<=sizeLine:=by
 rcases h with h | ⟨o,its,n,hk,hc,hs,hz,r⟩
 ·obtain⟨z,its,r,p⟩:=h.ok I.hok
  exact⟨its,r,p,z⟩
 ·refine⟨its.toList,r,⟨o,I.kIn a o hk,hc,n,by simpa using hs⟩,?_⟩
  have e:=r.length;simp only[Array.length_toList] at e;omega
theorem Inv.list_inj(I:Inv X pins σ H s)(h:SqL X.K H a xs)(h':SqL X.K H a ys):xs=ys:=by
 obtain⟨its,r,⟨o,n,e,_,_,d⟩,_⟩:=I.list h;obtain⟨its',r',⟨o',n',e',_,_,d'⟩,_⟩:=I.list h';rw[e] at e';cases e';rw[d] at d';injection d' with d1 _;have:its=its':=by simpa using congrArg Array.toList d1
 subst this;exact r.inj r'
end
abbrev Cx.wish(X:Cx)(E:Value->Shared->Prop):Cx:={ X with xe:=E }
section
variable {X:Cx}{st:Stmt}{rest:List Stmt}{t u:TS}{e:Expr}{te:TE}{pos:Pos}
def z76:TS:=fun D σ H=>D.nx σ H
def tSeq(t u:TS):TS:=fun D σ H=>t { D with nx:=u D } σ H
theorem z13:PSs X [] z76:=fun _ _ σ H _ I h=>wpAny_execs_nil ⟨σ,H,I,h⟩
theorem zrz(h1:PS X st t)(h2:PSs X rest u):PSs X (st::rest) (tSeq t u):=by
 intro pins s σ H D I h;refine wpAny_execs_cons (thn (h1 pins s σ H { D with nx:=u D } I h) fun f s1 q=>?_);cases f with
 | next=>
   obtain⟨σ',H',I',q⟩:=q;exact h2 pins s1 σ' H' D I' q
 |ret v=>exact q
 |brk=>exact q
 |cont=>exact q
theorem zuy(h1:PS X st t):PSs X [st] t:=by
 intro pins s σ H D I h;refine wpAny_execs_cons (thn (h1 pins s σ H D I h) fun f s1 q=>?_);cases f with
 |next=>exact wpAny_execs_nil q
 |ret v=>exact q
 |brk=>exact q
 |cont=>exact q
theorem Inv.quiet{pins:List (Addr×Obj)}{σ:St}{H:Hp}{s:Shared}(I:Inv X pins σ H s):interactive X.env=false:=by simp[interactive,I.ok.kind]
def z4l(te:TE):TS:=fun D σ H=>te σ H fun _ H1=>D.nx σ H1
theorem zuz(he:PE X e te)(hs:swapsWith e none pos.line X.env=pure false:=by rfl):PS X (.Expr e pos) (z4l te):=by
 intro pins s σ H D I h;exact wpAny_Expr_any (thn (he pins s σ H _ I h) fun v s1 ⟨x,H1,I1,r1,q1⟩=>⟨σ,H1,I1,q1⟩) I.quiet hs
def tRet(te:TE):TS:=fun D σ H=>te σ H D.rt
theorem z4m(he:PE X e te):PS X (.Return (some e) pos) (tRet te):=by
 intro pins s σ H D I h;exact wpAny_Return_some (thn (he pins s σ H _ I h) fun v s1 ⟨x,H1,I1,r1,q1⟩=>⟨x,σ,H1,I1,r1,q1⟩)
def tIfS(c:TT)(t u:TS):TS:=fun D σ H=>c σ H fun b H1=>if b=true then t D σ H1 else u D σ H1
theorem z77{c:Expr}{a b:List Stmt}{tc:TT}(hc:PT X c tc)(ha:PSs X a t)(hb:PSs X b u):PS X (.If c a b pos) (tIfS tc t u):=by
 intro pins s σ H D I h;refine wpAny_If (thn (hc pins s σ H _ I h) fun d s1 hq_=>?_);obtain⟨H1,I1,q1⟩:=hq_;cases d with
 |true=>exact ha pins s1 σ H1 D I1 q1
 |false=>exact hb pins s1 σ H1 D I1 q1
end
abbrev TG:=V->St->Hp->(St->Hp->Prop)->Prop
abbrev TGs:=List V->St->Hp->(St->Hp->Prop)->Prop
def PG(X:Cx)(target:Expr)(t:TG):Prop:=
 ∀ (pins:List (Addr×Obj)) (s:Shared) (σ:St) (H:Hp) (v:V) (u:Value) (Q:St->Hp->Prop),Inv X pins σ H s->RelV v u->t v σ H Q ->
   wpAny (model X.prog X.w) X.A (assign target X.env u) (fun _ s'=>∃σ' H',Inv X pins σ' H' s'/\Q σ' H') X.xe s
def PGs(X:Cx)(ts:List Expr)(t:TGs):Prop:=
 ∀ (pins:List (Addr×Obj)) (s:Shared) (σ:St) (H:Hp) (vs:List V) (us:List Value) (Q:St->Hp->Prop),Inv X pins σ H s->Vals vs us->t vs σ H Q ->
   wpAny (model X.prog X.w) X.A (assignInOrder ((assignEach ts X.env).map (·.2)) us) (fun _ s'=>∃σ' H',Inv X pins σ' H' s'/\Q σ' H') X.xe s
abbrev TSet:=V->V->V->Hp->(Hp->Prop)->Prop
def PSet(X:Cx)(t:TSet):Prop:=
 ∀ (pins:List (Addr×Obj)) (s:Shared) (σ:St) (H:Hp) (o i v:V) (ov iv u:Value) (Q:Hp->Prop),Inv X pins σ H s->RelV o ov->RelV i iv->RelV v u->t o i v H Q ->
   wpAny (model X.prog X.w) X.A (setItem ov iv u) (fun _ s'=>∃H',Inv X pins σ H' s'/\Q H') X.xe s
section
variable {X:Cx}{pos:Pos}
def zlx(i:Nat):TG:=fun v σ H Q=>Q (σ.set i (some v)) H
theorem zba{i:Nat}{x:Str}(hN:X.N.Nodup)(hi:X.N[i]?=some x)(hx:Loc X.env.scope x)(hf:X.fn x=true\/X.env.scope.names.lookup x=some .local:=by first | exact .inl rfl | exact .inr rfl | assumption)(hkn:∀u:V,X.kn[i]?≠some (some u):=by first | assumption | exact fun u h=>nomatch (show(none:Option (Option V))=some (some u) from h) | exact fun u h=>nomatch (Option.some.inj (show some (none:Option V)=some (some u) from h))):PG X (.Name x pos) (zlx i):=by
 intro pins s σ H v u Q I r h;exact wpAny_assign_Name (zke I hN hi hx r (fun s' I'=>⟨_,H,I',h⟩) hf hkn)
def gNil:TGs:=fun vs σ H Q=>vs=[]/\Q σ H
def z14(t:TG)(u:TGs):TGs:=fun vs σ H Q=>∃v r,vs=v::r/\t v σ H fun σ' H'=>u r σ' H' Q
theorem z15:PGs X [] gNil:=by
 intro pins s σ H vs us Q I r h;obtain⟨e,h⟩:=h;subst e;cases r;exact assignInOrder_nil ⟨σ,H,I,h⟩
theorem zr0{e:Expr}{es:List Expr}{t:TG}{u:TGs}(h1:PG X e t)(h2:PGs X es u)
  (hs:(assignEach (e::es) X.env).map (·.2)=assign e X.env::(assignEach es X.env).map (·.2):=by rfl):PGs X (e::es) (z14 t u):=by
 intro pins s σ H vs us Q I r h;obtain⟨v,vr,e1,h⟩:=h;subst e1;cases r with
 | cons r rr=>
   rw[hs];refine assignInOrder_cons (thn (h1 pins s σ H _ _ _ I r h) fun _ s1 hq_=>?_);obtain⟨σ1,H1,I1,q1⟩:=hq_;exact h2 pins s1 σ1 H1 _ _ Q I1 rr q1
def gTup(K:PySem.W.Frag)(n:Nat)(t:TGs):TG:=fun v σ H Q=>∃a xs,v=.ref a/\SqT K H a xs/\xs.length=n/\t xs σ H Q
theorem z4n{es:List Expr}{k:Nat}{t:TGs}{n:Nat}(hc:X.calm=true)(h:PGs X es t)
  (hn:(assignEach es X.env).length=n:=by rfl) (hst:(assignEach es X.env).findIdx? (·.1)=none:=by rfl):PG X (.Tuple es k pos) (gTup X.K n t):=by
 intro pins s σ H v u Q I r hw;obtain⟨a,xs,e1,hq,hl,hw⟩:=hw;subst e1;cases r;obtain⟨its,rv,ht,hz⟩:=I.tuple hq;refine assign_Tuple_tuple (I.ok.hd hc) ht (by simp[hn,<- hl,rv.length]) hst fun h' hx=>?_;have I1:Inv X pins σ H { s with heap:=h' }:=I.kept (t':=s.toks) fun b o e=>hx b o (Nat.ne_of_lt (Heap.lt_size e)) e;exact h pins _ σ H xs _ Q I1 (by simpa using rv) hw
def gSub(to ti:TE)(t:TSet):TG:=fun v σ H Q=>to σ H fun o H1=>ti σ H1 fun i H2=>t o i v H2 fun H3=>Q σ H3
theorem z4o{o i:Expr}{to ti:TE}{t:TSet}(ho:PE X o to)(hi:PE X i ti)(hs:PSet X t)
  (ha:∀v,assign (.Subscript o i pos) X.env v=(do
   let ov <- holding [v] (eval o X.env);let iv <- holding [v,ov] (eval i X.env)
   standAt pos
   holding [v,ov,iv] (setItem ov iv v)
   release [v,ov,iv] []):=by intro _;rfl):PG X (.Subscript o i pos) (gSub to ti t):=by
 intro pins s σ H v u Q I r h;rw[ha];refine wpAny_bind (wpAny_holding (thn (ho pins s σ H _ I h) fun ov s1 hq_=>?_));obtain⟨x,H1,I1,r1,q1⟩:=hq_;refine wpAny_bind (wpAny_holding (thn (hi pins s1 σ H1 _ I1 q1) fun iv s2 hq_=>?_));obtain⟨y,H2,I2,r2,q2⟩:=hq_;refine wpAny_bind (wpAny_standAt (wpAny_bind (wpAny_holding (thn (hs pins s2 σ H2 x y v ov iv u _ I2 r1 r2 r q2) fun _ s3 hq_=>?_))));obtain⟨H3,I3,q3⟩:=hq_;exact wpAny_release ⟨σ,H3,I3,q3⟩
def tAsg(te:TE)(g:TG):TS:=fun D σ H=>te σ H fun x H1=>g x σ H1 D.nx
theorem z4p{tg e:Expr}{te:TE}{g:TG}(he:PE X e te)(hg:PG X tg g)(hs:swapsWithSole [tg] e pos.line X.env=pure false:=by rfl)(hw:swappedStores [tg] e X.env=pure none:=by rfl)
  (h1:(assignEach [tg] X.env).map (·.2)=[assign tg X.env]:=by rfl):PS X (.Assign [tg] e pos) (tAsg te g):=by
 intro pins s σ H D I h;refine wpAny_Assign_stores (thn (he pins s σ H _ I h) fun v s1 hq_=>?_) hs hw;obtain⟨x,H1,I1,r1,q1⟩:=hq_;rw[h1];exact thn (hg pins s1 σ H1 x v _ I1 r1 q1) fun _ s2 q=>q
theorem z4q{i:Nat}{x:Str}{e:Expr}{te:TE}{pos':Pos}(hN:X.N.Nodup)(hi:X.N[i]?=some x)(hx:Loc X.env.scope x)(he:PE X e te)(hs:swapsWith e (some (.Name x pos')) pos.line X.env=pure false:=by rfl)(hf:X.fn x=true\/X.env.scope.names.lookup x=some .local:=by first | exact .inl rfl | exact .inr rfl | assumption)(hkn:∀u:V,X.kn[i]?≠some (some u):=by first | assumption | exact fun u h=>nomatch (show(none:Option (Option V))=some (some u) from h) | exact fun u h=>nomatch (Option.some.inj (show some (none:Option V)=some (some u) from h))) :
  PS X (.Assign [.Name x pos'] e pos) (tAsg te (zlx i)):=by
 intro pins s σ H D I h;refine wpAny_Assign_Name (thn (he pins s σ H _ I h) fun v s1 hq_=>?_) hs;obtain⟨y,H1,I1,r1,q1⟩:=hq_;exact zke I1 hN hi hx r1 (fun s2 I2=>⟨_,H1,I2,q1⟩) hf hkn
end
section
variable {X:Cx}{pos:Pos}
def z4r(c:TT)(tb:TS):TS:=fun D σ H=>∃W:Nat->St->Hp->Prop,(∃m,W m σ H)/\∀m σ H,W m σ H ->
 c σ H fun b H1=>if b=true then∃N:St->Hp->Prop,(∀σ' H',N σ' H'->∃m',m'<m/\W m' σ' H')/\tb { D with nx:=N,ct:=N,bk:=D.nx } σ H1 else D.nx σ H1
theorem zy2{c:Expr}{body:List Stmt}{tc:TT}{tb:TS}(hp:PassesOwn (model X.prog X.w) X.A X.env X.xe)(hc:PT X c tc)(hb:PSs X body tb):PS X (.While c body [] pos) (z4r tc tb):=by
 intro pins s σ H D I h;obtain⟨W,⟨m0,w0⟩,turn⟩:=h;refine wpAny_While (codeAny_whileLoop (fun n s'=>∃σ' H',Inv X pins σ' H' s'/\W n σ' H') ?_ m0 ⟨σ,H,I,w0⟩);rintro n s1 ⟨σ1,H1,I1,w1⟩;refine wpAny_passesOwn hp (thn (hc pins s1 σ1 H1 _ I1 (turn n σ1 H1 w1)) fun b s2 hq_=>?_);obtain⟨H2,I2,q2⟩:=hq_;cases b with
 | true=>
   obtain⟨N,hN,q2⟩:=q2;rw[if_pos rfl];refine wpAny_passesOwn hp (thn (hb pins s2 σ1 H2 _ I2 q2) fun f s3 q3=>?_);cases f with
   | next=>
     obtain⟨σ3,H3,I3,n3⟩:=q3;obtain⟨m',hm,w3⟩:=hN σ3 H3 n3;exact⟨m',hm,σ3,H3,I3,w3⟩
   | cont=>
     obtain⟨σ3,H3,I3,n3⟩:=q3;obtain⟨m',hm,w3⟩:=hN σ3 H3 n3;exact⟨m',hm,σ3,H3,I3,w3⟩
   |brk=>exact q3
   |ret v=>exact q3
 | false=>
   rw[if_neg Bool.false_ne_true];exact wpAny_execs_nil ⟨σ1,H2,I2,q2⟩
end
structure It where
 go:Nat->Hp->Prop
 yld:Nat->Hp->V->Hp->Prop
 stop:Nat->Hp->Prop
def FpOk(X:Cx)(pins:List (Addr×Obj))(H:Hp)(b:Addr):Prop:=
 H b=none/\b≠X.env.locals/\b∉X.fs/\(b∈X.ex\/X.s₀.heap.objs.size<=b)/\(∀x c,X.env.cells.lookup x=some c->c≠b)/\∀p∈X.pn++pins,p.1≠b
theorem Inv.fpOk{X:Cx}{pins:List (Addr×Obj)}{σ:St}{H H':Hp}{s:Shared}{b:Addr}(I:Inv X pins σ H s)(hb:s.heap.objs.size<=b)(hn:H' b=none):FpOk X pins H' b:=by
 refine⟨hn,Nat.ne_of_gt (Nat.lt_of_lt_of_le I.lt hb),I.nofs hb,.inr (Nat.le_trans I.sz hb),fun x c e z=>?_,fun p hp z=>?_⟩
 ·obtain⟨v,q⟩:=I.cell x c e
  exact absurd (Nat.lt_of_lt_of_le q.lt (by rw[z];exact hb)) (Nat.lt_irrefl _)
 ·exact absurd (Nat.lt_of_lt_of_le (Heap.lt_size (I.pin p hp).1) (by rw[z];exact hb)) (Nat.lt_irrefl _)
structure Turn(P:Program)(w:World)(K:PySem.W.Frag)(tg:Expr)(J:It)(fp:List Addr)(it:Addr)(tn:Nat->Heap->Prop):Prop where
 mem:it∈fp
 obj:∀i h,tn i h->∀b∈fp,∃o,h.get? b=some o/\∀v,o.data≠.cell v
 keep:∀i h h',tn i h->(∀b∈fp,∀o,h.get? b=some o->h'.get? b=some o)->tn i h'
 item:∀(X:Cx),X.prog=P->X.w=w->X.K=K->X.calm=true->∀(i:Nat) (pins:List (Addr×Obj)) (s:Shared) (σ:St) (H:Hp) (E:Value->Shared->Prop),Inv X pins σ H s->(∀b∈fp,FpOk X pins H b)->tn i s.heap->J.go i H ->
  wpAny (model P w) X.A (pyNext (.ref it)) (fun r s1=>∃u,r=some u /\
   wpAny (model P w) X.A (letOwnedTupleGo tg (.ref it) u) (fun _ s2=>∃x H',Inv X pins σ H' s2/\RelV x u/\J.yld i H x H'/\tn (i+1) s2.heap/\∀b∈fp,H' b=none) E s1) E s
 done:∀(X:Cx),X.prog=P->X.w=w->X.K=K->X.calm=true->∀(i:Nat) (pins:List (Addr×Obj)) (s:Shared) (σ:St) (H:Hp) (E:Value->Shared->Prop),Inv X pins σ H s->(∀b∈fp,FpOk X pins H b)->tn i s.heap->J.stop i H ->
  wpAny (model P w) X.A (pyNext (.ref it)) (fun r s1=>r=none/\Inv X pins σ H s1) E s
 self:∀(A:Around) (i:Nat) (s:Shared) (Q:Value->Shared->Prop) (E:Value->Shared->Prop),tn i s.heap->Q (.ref it) s->wpAny (model P w) A (pyIter (.ref it)) Q E s
abbrev TI:=St->Hp->(It->Hp->Prop)->Prop
def PIE(X:Cx)(pins:List (Addr×Obj))(σ:St)(tg:Expr)(R:It->Hp->Prop)(itv:Value)(s2:Shared):Prop:=
 ∃(it:Addr) (fp:List Addr) (tn:Nat->Heap->Prop) (J:It) (H':Hp),itv=.ref it/\Inv X pins σ H' s2/\Turn X.prog X.w X.K tg J fp it tn/\tn 0 s2.heap/\(∀b∈fp,FpOk X pins H' b)/\R J H'
def PI(X:Cx)(tg iter:Expr)(wi:TI):Prop:=
 ∀ (pins:List (Addr×Obj)) (s:Shared) (σ:St) (H:Hp) (R:It->Hp->Prop),Inv X pins σ H s->wi σ H R ->
   wpAny (model X.prog X.w) X.A (eval iter X.env) (fun v s1=>wpAny (model X.prog X.w) X.A (pyIter v) (PIE X pins σ tg R) X.xe s1) X.xe s
theorem z4s{M:Model}{A:Around}{E:Value->Shared->Prop}{s:Shared}{tg:Expr}{it:Addr}{u:Value}{o:Obj}{n:String}{vs:Array Value}{Q:Unit->Shared->Prop}(ho:s.heap.get? it=some o)(hc:o.cls=.type n)(hd:o.data=.fields vs)
  (hn:["enumerate", "zip", "dict_itemiterator", "dict_reverseitemiterator", "odict_iterator", "itertools.zip_longest", "itertools.pairwise"].contains n=false) (hQ:Q () s):wpAny M A (letOwnedTupleGo tg (.ref it) u) Q E s:=by
 unfold letOwnedTupleGo;cases tg<;>first
  |exact wpAny_pure hQ
  |(cases u<;>first
   |exact wpAny_pure hQ
   | (refine wpAny_bind (wpAny_load ho ?_)
      rw[hc,hd];show wpAny M A (if(["enumerate", "zip", "dict_itemiterator", "dict_reverseitemiterator", "odict_iterator", "itertools.zip_longest", "itertools.pairwise"].contains n&&vs[0]?==some (rawInt _))=true then _ else _) Q E s;rw[if_neg (by intro h;rw[hn,Bool.false_and] at h;cases h)];exact wpAny_pure hQ))
def Itl(K:PySem.W.Frag)(a:Addr):It:=
 ⟨fun i H=>∃xs x,SqL K H a xs/\xs[i]?=some x,fun i H x H'=>H'=H/\∀xs,SqL K H a xs->xs[i]?=some x,fun i H=>∃xs,SqL K H a xs/\xs.length<=i⟩
def Itr(lo:Int)(n:Nat):It:=⟨fun i _=>i<n,fun i H x H'=>H'=H/\x=.int (lo+i),fun i _=>n<=i⟩
theorem zu0{P:Program}{w:World}{K:PySem.W.Frag}{tg:Expr}(a it:Addr):Turn P w K tg (Itl K a) [it] it (fun i h=>h.IsListIter it a i) where
 mem:=by simp
 obj:=fun i h st b hb=>by
  have e:b=it:=by simpa using hb
  subst e;obtain⟨o,e,c,d⟩:=st;exact⟨o,e,fun v z=>by rw[d] at z;cases z⟩
 keep:=fun i h h' st k=>st.at fun o e=>k it (by simp) o e
 item:=by
  intro X hP hw hK hc i pins s σ H E I hf st hg;subst hP hw hK;obtain⟨xs,x,hq,hx⟩:=hg;obtain⟨its,rv,p,hz⟩:=I.list hq;obtain⟨u,hu,ru⟩:=rv.get hx;obtain⟨f0,f1,f2,f3,f4,f5⟩:=hf it (by simp);refine wpAny_pyNext_list_item st p.isList (x:=u) (by simpa using hu) fun h' st' sb=>?_;have I1:Inv X pins σ H { s with heap:=h' }:=I.turned (t':=s.toks) (fun b o hb e=>(sb.2 b hb).trans e) f0 f1 f3 f4 f5;obtain⟨o,e,c,d⟩:=id st';exact⟨u,rfl,z4s (s:={ s with heap:=h' }) e c d (by decide) ⟨x,H,I1,ru,⟨rfl,fun ys hy=>by rw[I.list_inj hy hq];exact hx⟩,st',fun b hb=>(hf b hb).1⟩⟩
 done:=by
  intro X hP hw hK hc i pins s σ H E I hf st hg;subst hP hw hK;obtain⟨xs,hq,hx⟩:=hg;obtain⟨its,rv,p,hz⟩:=I.list hq;obtain⟨f0,f1,f2,f3,f4,f5⟩:=hf it (by simp);have hl:=rv.length;exact wpAny_pyNext_list_end (I.ok.hd hc) st p.isList (by simp;omega) fun h' eb=>⟨rfl,I.turned (t':=s.toks) (fun b o hb e=>eb b o hb e) f0 f1 f3 f4 f5⟩
 self:=fun _ _ _ _ _ st h=>wpAny_pyIter_listiter st h
theorem zti{P:Program}{w:World}{K:PySem.W.Frag}{tg:Expr}(it:Addr)(lo:Int)(n:Nat):Turn P w K tg (Itr lo n) [it] it (fun i h=>IsRangeIter h it (lo+(i:Nat)*1) ((n:Int)-(i:Nat)) 1) where
 mem:=by simp
 obj:=fun i h st b hb=>by
  have e:b=it:=by simpa using hb
  subst e;exact⟨_,st,fun v z=>by
   have z':Data.fields _=Data.cell v:=z;cases z'⟩
 keep:=fun i h h' st k=>k it (by simp) _ st
 item:=by
  intro X hP hw hK hc i pins s σ H E I hf st hg;subst hP hw hK;obtain⟨f0,f1,f2,f3,f4,f5⟩:=hf it (by simp);have W:=Walks.range (prog:=X.prog) (w:=X.w) (I.ok.hd hc) it lo 1 n;refine W.item i s _ _ hg st fun v h' tk hv st' kk=>?_;obtain⟨t,rfl⟩:=hv;have I1:Inv X pins σ H { s with heap:=h',toks:=tk }:=I.turned (fun b o hb e=>kk b o (by simpa using hb) e) f0 f1 f3 f4 f5;refine⟨_,rfl,z4s (s:={ s with heap:=h',toks:=tk }) (n := "range_iterator") st' rfl rfl (by decide) ⟨.int (lo+i),H,I1,⟨t,?_⟩,⟨rfl,rfl⟩,st',fun b hb=>(hf b hb).1⟩⟩;rw[Int.mul_one]
 done:=by
  intro X hP hw hK hc i pins s σ H E I hf st hg;subst hP hw hK;obtain⟨f0,f1,f2,f3,f4,f5⟩:=hf it (by simp);exact wpAny_pyNext_range_end (I.ok.hd hc) st (by have:n<=i:=hg;omega) fun h' eb=>⟨rfl,I.turned (t':=s.toks) (fun b o hb e=>eb b o hb e) f0 f1 f3 f4 f5⟩
 self:=fun _ _ _ _ _ st h=>wpAny_pyIter_rangeiter st h
end L2
namespace L2
open PySem PySem.Spec PyProof.Rows
section
variable {X:Cx}{tg:Expr}
def z4t(K:PySem.W.Frag)(tl:TE):TI:=fun σ H R=>tl σ H fun x H1=>∃a,x=.ref a/\(∃xs,SqL K H1 a xs)/\R (Itl K a) H1
theorem zck{l:Expr}{tl:TE}(hl:PE X l tl):PI X tg l (z4t X.K tl):=by
 intro pins s σ H R I h;refine thn (hl pins s σ H _ I h) fun v s1 hq_=>?_;obtain⟨x,H1,I1,r1,q1⟩:=hq_;obtain⟨a,e,⟨xs,hq⟩,q⟩:=q1;subst e;cases r1;obtain⟨its,rv,p,hz⟩:=I1.list hq;refine wpAny_pyIter_list p.isList ?_;refine⟨s1.heap.objs.size,[s1.heap.objs.size],_,_,H1,rfl,I1.kept (t':=s1.toks) fun b o e=>Heap.get?_push_of_some _ e,zu0 a _,⟨_,Heap.get?_push_size _ rfl,rfl,rfl⟩,fun b hb=>?_,q⟩;have e:b=s1.heap.objs.size:=by simpa using hb
 subst e;exact I1.fpOk (Nat.le_refl _) (I1.hok.fresh (Nat.le_refl _))
theorem zr1{pins:List (Addr×Obj)}{σ:St}{H:Hp}{s:Shared}{R:It->Hp->Prop}{E:Value->Shared->Prop}{lo hi:Int}{t u v:Tok}{tk:Nat}(I:Inv X pins σ H s)(h1:-(2 ^ 62)<=lo)(h2:lo<2 ^ 62)(h3:-(2 ^ 62)<=hi)(h4:hi<2 ^ 62)
  (q:R (Itr lo (hi-lo).toNat) H):wpAny (model X.prog X.w) X.A (pyIter (.ref s.heap.objs.size)) (PIE X pins σ tg R) E { s with heap:=s.heap.push { cls:=.type "range",data:=.fields #[.int lo t,.int hi u,.int 1 v] },toks:=tk }:=by
 refine wpAny_pyIter_range (IsRange.new ..) (small_one h1 h2 h3 h4) ?_;have I1:Inv X pins σ H { s with heap:=s.heap.push { cls:=.type "range",data:=.fields #[.int lo t,.int hi u,.int 1 v] },toks:=tk }:=I.kept fun b o e=>Heap.get?_push_of_some _ e;refine⟨(s.heap.push { cls:=.type "range",data:=.fields #[.int lo t,.int hi u,.int 1 v] }).objs.size,[(s.heap.push { cls:=.type "range",data:=.fields #[.int lo t,.int hi u,.int 1 v] }).objs.size],_,_,H,rfl,
  I1.kept (t':=tk) fun b o e=>Heap.get?_push_of_some _ e,zti _ lo (hi-lo).toNat,?_,fun b hb=>?_,q⟩
 ·have e1:lo+((0:Nat):Int)*1=lo:=by simp
  have e2:(((hi-lo).toNat:Nat):Int)-((0:Nat):Int)=Builtin.Range.rangeSize lo hi 1:=by rw[rangeSize_one];split<;>omega
  show IsRangeIter _ _ (lo+((0:Nat):Int)*1) ((((hi-lo).toNat:Nat):Int)-((0:Nat):Int)) 1;rw[e1,e2];exact Heap.get?_push_size _ rfl
 ·have e:b=(s.heap.push { cls:=.type "range",data:=.fields #[.int lo t,.int hi u,.int 1 v] }).objs.size:=by simpa using hb
  subst e;exact I1.fpOk (Nat.le_refl _) (I1.hok.fresh (Nat.le_refl _))
def z4u(ta:TA):TI:=fun σ H R=>ta σ H fun vs H1=>∃j:Int,vs=[.int j] /\ -(2 ^ 62)<=j/\j<2 ^ 62/\R (Itr 0 j.toNat) H1
def z4v(ta:TA):TI:=fun σ H R=>ta σ H fun vs H1=>∃i j:Int,vs=[.int i,.int j]/\(-(2 ^ 62)<=i/\i<2 ^ 62 /\ -(2 ^ 62)<=j/\j<2 ^ 62)/\R (Itr i (j-i).toNat) H1
theorem zhf{a:Expr}{ta:TA}{p pos:Pos}(hg:Gl X "range")(hm:X.mg "range" = none)(ha:PA X [a] ta)(hs:starEach [a] X.env=[(false,eval a X.env)]:=by rfl):PI X tg (.Call (.Name "range" p) [a] [] pos) (z4u ta):=by
 intro pins s σ H R I h;refine Call_ (zhe I hg hm boot_range (PyProof.Rows.callWith_type1 (thn (ha pos pins s σ H _ I h) fun us s1 hq_=>?_) hs rfl));obtain⟨vs,H1,I1,r1,q1⟩:=hq_;obtain⟨j,e,q1,q2,q⟩:=q1;subst e;cases r1 with
 | cons r rr=>
   cases rr;obtain⟨t,rfl⟩:=r;exact call_range_1 (zr1 I1 (by omega) (by omega) q1 q2 (by simpa using q))
theorem zu1{a b:Expr}{ta:TA}{p pos:Pos}(hg:Gl X "range")(hm:X.mg "range" = none)(ha:PA X [a,b] ta)(hs:starEach [a,b] X.env=[(false,eval a X.env),(false,eval b X.env)]:=by rfl)(hs2:starEach [b] X.env=[(false,eval b X.env)]:=by rfl) :
  PI X tg (.Call (.Name "range" p) [a,b] [] pos) (z4v ta):=by
 intro pins s σ H R I h;refine Call_ (zhe I hg hm boot_range (PyProof.Rows.callWith_type1 (thn (ha pos pins s σ H _ I h) fun us s1 ⟨vs,H1,I1,r1,q1⟩=>?_) (by rw[hs,hs2]) (by rw[hs2];rfl)));obtain⟨i,j,e,⟨q1,q2,q3,q4⟩,q⟩:=q1;subst e;cases r1 with
 | cons r rr=>
   cases rr with
   | cons r' rr=>
     cases rr;obtain⟨t,rfl⟩:=r;obtain⟨t',rfl⟩:=r';exact call_range_2 (zr1 I1 q1 q2 q3 q4 q)
def tFor(wi:TI)(g:TG)(tb:TS):TS:=fun D σ H=>wi σ H fun J H1=>∃W:Nat->Nat->St->Hp->Prop,(∃m,W 0 m σ H1)/\∀i m σ H,W i m σ H ->
 (J.stop i H/\D.nx σ H)\/(J.go i H/\∃N:St->Hp->Prop,(∀σ' H',N σ' H'->∃m',m'<m/\W (i+1) m' σ' H')/\∀x H',J.yld i H x H'->g x σ H' fun σ2 H2=>tb { D with nx:=N,ct:=N,bk:=D.nx } σ2 H2)
def zr2(fp:List Addr)(h:Heap):List (Addr×Obj):=fp.filterMap fun b=>(h.get? b).map fun o=>(b,o)
theorem zh4{fp:List Addr}{h:Heap}{b:Addr}{o:Obj}(hb:b∈fp)(e:h.get? b=some o):(b,o)∈zr2 fp h:=List.mem_filterMap.mpr ⟨b,hb,by rw[e];rfl⟩
theorem zu2{fp:List Addr}{h:Heap}{p:Addr×Obj}(hp:p∈zr2 fp h):p.1∈fp/\h.get? p.1=some p.2:=by
 obtain⟨b,hb,e⟩:=List.mem_filterMap.mp hp;cases q:h.get? b with
 |none=>rw[q] at e;cases e
 | some o=>
   rw[q] at e;have e':(b,o)=p:=Option.some.inj e;subst e';exact⟨hb,q⟩
theorem Inv.pinned{pins:List (Addr×Obj)}{σ:St}{H:Hp}{s:Shared}{fp:List Addr}(I:Inv X pins σ H s)(hf:∀b∈fp,FpOk X pins H b)(ho:∀b∈fp,∃o,s.heap.get? b=some o/\∀v,o.data≠.cell v):Inv X (pins++zr2 fp s.heap) σ H s:=
 I.pins_of fun p hp=>(List.mem_append.mp hp).elim (fun z=>I.pin p (List.mem_append_right _ z)) fun z=>by
  obtain⟨hb,e⟩:=zu2 z;obtain⟨f0,f1,f2,_⟩:=hf p.1 hb;obtain⟨o,e',d⟩:=ho p.1 hb;rw[e] at e';cases e';exact⟨e,f0,f1,f2,d⟩
theorem Inv.unpinned{pins pl:List (Addr×Obj)}{σ:St}{H:Hp}{s:Shared}(I:Inv X (pins++pl) σ H s):Inv X pins σ H s:=I.pins_of fun p hp=>I.pin p (List.mem_append_right _ (List.mem_append_left _ hp))
theorem z4w{iter:Expr}{body:List Stmt}{wi:TI}{g:TG}{tb:TS}{pos:Pos}(hp:PassesOwn (model X.prog X.w) X.A X.env X.xe)(hc:X.calm=true)(hi:PI X tg iter wi)(hg:PG X tg g)(hb:PSs X body tb)
  (hs:∀x,foldedSetIterable iter X.env x=pure x:=by intro _;rfl):PS X (.For tg iter body [] pos) (tFor wi g tb):=by
 intro pins s σ H D I h;refine wpAny_For (thn (hi pins s σ H _ I h) fun v s1 h1=>thn h1 fun itv s2 h2=>?_) hs;obtain⟨it,fp,tn,J,H2,e,I2,T,st2,f2,W,⟨m0,w0⟩,turn⟩:=h2;subst e;have stat:∀{H':Hp},(∀b∈fp,H' b=none)->∀b∈fp,FpOk X pins H' b:=fun hn b hb=>⟨hn b hb,(f2 b hb).2⟩;refine codeAny_forLoop_any (fun n s'=>∃i σ' H',Inv X pins σ' H' s'/\tn i s'.heap/\(∀b∈fp,H' b=none)/\W i n σ' H') ?_ m0 ⟨0,σ,H2,I2,st2,fun b hb=>(f2 b hb).1,w0⟩;rintro n s3 ⟨i,σ3,H3,I3,st3,fr3,w3⟩;rcases turn i n σ3 H3 w3 with⟨stop,qn⟩ | ⟨go,N,hN,step⟩
 ·refine wpAny_passesOwn hp (thn (T.done X rfl rfl rfl hc i pins s3 σ3 H3 X.xe I3 (stat fr3) st3 stop) fun r s4 hq_=>?_)
  obtain⟨hr,I4⟩:=hq_;subst hr;exact wpAny_execs_nil ⟨σ3,H3,I4,qn⟩
 ·refine wpAny_passesOwn hp (thn (T.item X rfl rfl rfl hc i pins s3 σ3 H3 X.xe I3 (stat fr3) st3 go) fun r s4 hq_=>?_)
  obtain⟨u,hr,h4⟩:=hq_;subst hr;refine wpAny_passesOwn hp (thn h4 fun _ s5 hq_=>?_);obtain⟨x,H5,I5,r5,y5,st5,fr5⟩:=hq_;have I5':=I5.pinned (stat fr5) (T.obj _ _ st5);refine wpAny_passesOwn hp (thn (hg _ s5 σ3 H5 x u _ I5' r5 (step x H5 y5)) fun _ s6 hq_=>?_);obtain⟨σ6,H6,I6,q6⟩:=hq_;refine wpAny_passesOwn hp (thn (hb _ s6 σ6 H6 _ I6 q6) fun f s7 q7=>?_);have again:∀{σ7:St} {H7:Hp},Inv X (pins++zr2 fp s5.heap) σ7 H7 s7->N σ7 H7->∃m,m<n/\∃i σ' H',Inv X pins σ' H' s7/\tn i s7.heap/\(∀b∈fp,H' b=none)/\W i m σ' H':=fun {σ7 H7} I7 n7=>by
   obtain⟨m',hm,w7⟩:=hN σ7 H7 n7;refine⟨m',hm,i+1,σ7,H7,I7.unpinned,T.keep _ _ _ st5 fun b hb o e=>(I7.pin (b,o) (List.mem_append_right _ (List.mem_append_right _ (zh4 hb e)))).1,fun b hb=>?_,w7⟩;obtain⟨o,e,d⟩:=T.obj _ _ st5 b hb;exact(I7.pin (b,o) (List.mem_append_right _ (List.mem_append_right _ (zh4 hb e)))).2.1
  cases f with
  |next=>obtain⟨σ7,H7,I7,n7⟩:=q7;exact again I7 n7
  |cont=>obtain⟨σ7,H7,I7,n7⟩:=q7;exact again I7 n7
  |brk=>obtain⟨σ7,H7,I7,q7⟩:=q7;exact⟨σ7,H7,I7.unpinned,q7⟩
  |ret v=>obtain⟨x7,σ7,H7,I7,r7,q7⟩:=q7;exact⟨x7,σ7,H7,I7.unpinned,r7,q7⟩
end
end L2
namespace L2
open PySem PySem.Spec PyProof.Rows
abbrev R2:=V->V->Hp->VK->Prop
def OpR(X:Cx)(f:Value->Value->Sem Value)(r:R2):Prop:=
 ∀ (pins:List (Addr×Obj)) (s:Shared) (σ:St) (H:Hp) (x y:V) (v u:Value) (Q:VK),Inv X pins σ H s->RelV x v->RelV y u->r x y H Q ->
   wpAny (model X.prog X.w) X.A (f v u) (EP X pins σ Q) X.xe s
def UnR(X:Cx)(f:Value->Sem Value)(r:V->Hp->VK->Prop):Prop:=
 ∀ (pins:List (Addr×Obj)) (s:Shared) (σ:St) (H:Hp) (x:V) (v:Value) (Q:VK),Inv X pins σ H s->RelV x v->r x H Q ->
   wpAny (model X.prog X.w) X.A (f v) (EP X pins σ Q) X.xe s
def zh7(X:Cx)(f:Value)(r:List V->Hp->VK->Prop):Prop:=
 ∀ (pins:List (Addr×Obj)) (s:Shared) (σ:St) (H:Hp) (xs:List V) (us:List Value) (Q:VK),Inv X pins σ H s->Vals xs us->r xs H Q ->
   wpAny (model X.prog X.w) X.A (call f us) (EP X pins σ Q) X.xe s
def TruR(X:Cx)(r:V->Hp->(Bool->Hp->Prop)->Prop):Prop:=
 ∀ (pins:List (Addr×Obj)) (s:Shared) (σ:St) (H:Hp) (x:V) (v:Value) (Q:Bool->Hp->Prop),Inv X pins σ H s->RelV x v->r x H Q ->
   wpAny (model X.prog X.w) X.A (truthy v) (TP X pins σ Q) X.xe s
def tOp(r:R2)(ta tb:TE):TE:=fun σ H Q=>ta σ H fun x H1=>tb σ H1 fun y H2=>r x y H2 Q
def tUn(r:V->Hp->VK->Prop)(ta:TE):TE:=fun σ H Q=>ta σ H fun x H1=>r x H1 Q
def rI(C:Int->Int->Prop)(g:Int->Int->V):R2:=fun x y H Q=>∃i j,x=.int i/\y=.int j/\C i j/\Q (g i j) H
def rI0(g:Int->Int->V):R2:=fun x y H Q=>∃i j,x=.int i/\y=.int j/\Q (g i j) H
def rU(g:Int->V):V->Hp->VK->Prop:=fun x H Q=>∃i,x=.int i/\Q (g i) H
section
variable {X:Cx}{a b c:Expr}{ta tb tc:TE}{pos:Pos}
theorem binT(ha:PE X a ta)(hb:PE X b tb){pins:List (Addr×Obj)}{s:Shared}{σ:St}{H:Hp}{R:V->V->Hp->Prop}(I:Inv X pins σ H s)
  (h:ta σ H fun x H1=>tb σ H1 fun y H2=>R x y H2) {Q:Value->Shared->Prop} {f:Value->Value->Sem Value}
  (hf:∀v u s2 x y H2,Inv X pins σ H2 s2->RelV x v->RelV y u->R x y H2->wpAny (model X.prog X.w) X.A (f v u) Q X.xe s2) :
  wpAny (model X.prog X.w) X.A (eval a X.env) (fun v s₁=>wpAny (model X.prog X.w) X.A (eval b X.env) (fun u s₂=>wpAny (model X.prog X.w) X.A (f v u) Q X.xe s₂) X.xe s₁) X.xe s:=by
 refine thn (ha pins s σ H _ I h) fun v s1 hq_=>?_;obtain⟨x,H1,I1,r1,q1⟩:=hq_;refine thn (hb pins s1 σ H1 _ I1 q1) fun u s2 hq_=>?_;obtain⟨y,H2,I2,r2,q2⟩:=hq_;exact hf v u s2 x y H2 I2 r1 r2 q2
theorem ztj{op:Operator}{r:R2}(ho:OpR X (binaryOp op) r)(ha:PE X a ta)(hb:PE X b tb):PE X (.BinOp a op b pos) (tOp r ta tb):=by
 intro pins s σ H Q I h;exact wpAny_BinOp (binT ha hb I h fun v u s2 x y H2 I2 rx ry q=>ho pins s2 σ H2 x y v u Q I2 rx ry q)
theorem z78{op:UnaryOp}{r:V->Hp->VK->Prop}(ho:UnR X (unaryOp op) r)(ha:PE X a ta):PE X (.UnaryOp op a pos) (tUn r ta):=by
 intro pins s σ H Q I h;exact UnaryOp_ (thn (ha pins s σ H _ I h) fun v s1 ⟨x,H1,I1,r1,q1⟩=>ho pins s1 σ H1 x v Q I1 r1 q1)
theorem opI{f:Value->Value->Sem Value}{C:Int->Int->Prop}{g:Int->Int->Int}
  (rule:∀(i j:Int) (t u:Tok) (s:Shared) (Q:Value->Shared->Prop) (E:Value->Shared->Prop),C i j->Q (.int (g i j) s.toks) { s with toks:=s.toks+1 }->wpAny (model X.prog X.w) X.A (f (.int i t) (.int j u)) Q E s) :
  OpR X f (rI C fun i j=>.int (g i j)):=by
 intro pins s σ H x y v u Q I rx ry h;obtain⟨i,j,rfl,rfl,hc,q⟩:=h;obtain⟨t,rfl⟩:=rx;obtain⟨t',rfl⟩:=ry;exact rule i j t t' s _ _ hc ⟨.int (g i j),H,I.tok _,⟨_,rfl⟩,q⟩
theorem opI0{f:Value->Value->Sem Value}{g:Int->Int->Int}
  (rule:∀(i j:Int) (t u:Tok) (s:Shared) (Q:Value->Shared->Prop) (E:Value->Shared->Prop),Q (.int (g i j) s.toks) { s with toks:=s.toks+1 }->wpAny (model X.prog X.w) X.A (f (.int i t) (.int j u)) Q E s) :
  OpR X f (rI0 fun i j=>.int (g i j)):=by
 intro pins s σ H x y v u Q I rx ry h;obtain⟨i,j,rfl,rfl,q⟩:=h;obtain⟨t,rfl⟩:=rx;obtain⟨t',rfl⟩:=ry;exact rule i j t t' s _ _ ⟨.int (g i j),H,I.tok _,⟨_,rfl⟩,q⟩
theorem opB0{f:Value->Value->Sem Value}{g:Int->Int->Bool}
  (rule:∀(i j:Int) (t u:Tok) (s:Shared) (Q:Value->Shared->Prop) (E:Value->Shared->Prop),Q (.bool (g i j)) s->wpAny (model X.prog X.w) X.A (f (.int i t) (.int j u)) Q E s) :
  OpR X f (rI0 fun i j=>.bl (g i j)):=by
 intro pins s σ H x y v u Q I rx ry h;obtain⟨i,j,rfl,rfl,q⟩:=h;obtain⟨t,rfl⟩:=rx;obtain⟨t',rfl⟩:=ry;exact rule i j t t' s _ _ ⟨.bl (g i j),H,I,rfl,q⟩
def CDiv(i j:Int):Prop:=0<j/\j<1073741824
def CPow(i j:Int):Prop:=0<=j/\j<=1000000/\i.natAbs<2 ^ 64
def CMul(i j:Int):Prop:=(-(2 ^ 64)<i/\i<2 ^ 64)\/(-(2 ^ 64)<j/\j<2 ^ 64)
theorem CMul.ok{i j:Int}(h:CMul i j):IntMulOk i j:=by
 rcases h with⟨h1,h2⟩ | ⟨h1,h2⟩
 ·exact .of_left (intBits_le_64 h1 h2)
 ·exact .of_right (intBits_le_64 h1 h2)
theorem z4x:OpR X (binaryOp .Add) (rI0 fun i j=>.int (i+j)):=opI0 fun _ _ _ _ _ _ _ q=>add_int q
theorem z4y:OpR X (binaryOp .Sub) (rI0 fun i j=>.int (i-j)):=opI0 fun _ _ _ _ _ _ _ q=>sub_int q
theorem z4z:OpR X (binaryOp .Mult) (rI CMul fun i j=>.int (i*j)):=opI fun _ _ _ _ _ _ _ hc q=>mul_int q hc.ok
theorem z16:OpR X (binaryOp .FloorDiv) (rI CDiv fun i j=>.int (i / j)):=opI fun i j _ _ _ _ _ hc q=>by
 have h1:(0:Int)<j:=hc.1;have h2:j<1073741824:=hc.2;exact floordiv_int (by omega) (by rw[Int.fdiv_eq_ediv_of_nonneg i (by omega)];exact q) (.inl (PyProof.noPylong_small (by omega)))
theorem z40:OpR X (binaryOp .Mod) (rI (fun _ j=>0<j) fun i j=>.int (i%j)):=opI fun i j _ _ _ _ _ hc q=>by
 have h1:(0:Int)<j:=hc;exact mod_int' (by omega) (by rw[Int.fmod_eq_emod_of_nonneg i (by omega)];exact q)
theorem z41:OpR X (binaryOp .Pow) (rI CPow fun i j=>.int (i ^ j.toNat)):=opI fun _ _ _ _ _ _ _ hc q=>pow_int_small hc.1 hc.2.1 hc.2.2 q
theorem unI{f:Value->Sem Value}{g:Int->Int}
  (rule:∀(i:Int) (t:Tok) (s:Shared) (Q:Value->Shared->Prop) (E:Value->Shared->Prop),Q (.int (g i) s.toks) { s with toks:=s.toks+1 }->wpAny (model X.prog X.w) X.A (f (.int i t)) Q E s) :
  UnR X f (rU fun i=>.int (g i)):=by
 intro pins s σ H x v Q I rx h;obtain⟨i,rfl,q⟩:=h;obtain⟨t,rfl⟩:=rx;exact rule i t s _ _ ⟨.int (g i),H,I.tok _,⟨_,rfl⟩,q⟩
theorem z42:UnR X (unaryOp .USub) (rU fun i=>.int (-i)):=unI fun _ _ _ _ _ q=>neg_int q
end
def scal:V->V->Bool
 |.non,.non=>true | .non,.int _=>true | .int _,.non=>true | .non,.bl _=>true | .bl _,.non=>true | .non,.str _=>true | .str _,.non=>true
 |.int _,.int _=>true | .bl _,.bl _=>true | .str _,.str _=>true | .byt _,.byt _=>true
 |.int _,.str _=>true | .str _,.int _=>true | .bl _,.str _=>true | .str _,.bl _=>true
 |_,_=>false
def rEq:R2:=fun x y H Q=>scal x y=true/\Q (.bl (decide (x=y))) H
def rNe:R2:=fun x y H Q=>scal x y=true/\Q (.bl (!decide (x=y))) H
theorem zu3{i j:Int}:decide (V.int i=V.int j)=(i==j):=by
 rw[Bool.eq_iff_iff];simp
theorem z0x{i j:Bool}:decide (V.bl i=V.bl j)=(i==j):=by
 rw[Bool.eq_iff_iff];simp
theorem zu4{i j:Str}:decide (V.str i=V.str j)=(i==j):=by
 rw[Bool.eq_iff_iff];simp
theorem zu5{i j:Array UInt8}:decide (V.byt i=V.byt j)=(i.toList==j.toList):=by
 rw[Bool.eq_iff_iff];cases i;cases j;simp
section
variable {X:Cx}{a b c:Expr}{ta tb tc:TE}{pos:Pos}
theorem zbs{pins:List (Addr×Obj)}{σ:St}{H:Hp}{s:Shared}{Q:VK}{k k':Bool}(I:Inv X pins σ H s)(q:Q (.bl k) H)(e:k=k'):EP X pins σ Q (.bool k') s:=by
 subst e;exact⟨.bl k,H,I,rfl,q⟩
theorem z79:OpR X (compareOp .Eq) rEq:=by
 intro pins s σ H x y v u Q I rx ry h;obtain⟨hs,q⟩:=h;cases x with
 | non=>
   cases rx;cases y with
   |non=>cases ry;exact PySem.EqNone.eq_none_none (zbs I q (by simp))
   |bl j=>cases ry;exact PySem.EqNone.eq_none_bool (zbs I q (by simp))
   |int j=>obtain⟨t',rfl⟩:=ry;exact PySem.EqNone.eq_none_int (zbs I q (by simp))
   |str j=>obtain⟨t',rfl⟩:=ry;exact PySem.EqNone.eq_none_str (zbs I q (by simp))
   |_=>exact absurd (show false=true from hs) Bool.false_ne_true
 | bl i=>
   cases rx;cases y with
   |non=>cases ry;exact PySem.EqNone.eq_bool_none (zbs I q (by simp))
   |bl j=>cases ry;exact eq_bool (zbs I q z0x)
   |str j=>obtain⟨t',rfl⟩:=ry;exact PySem.EqMixed.eq_bool_str (zbs I q (by simp))
   |_=>exact absurd (show false=true from hs) Bool.false_ne_true
 | int i=>
   obtain⟨t,rfl⟩:=rx;cases y with
   |non=>cases ry;exact PySem.EqNone.eq_int_none (zbs I q (by simp))
   |int j=>obtain⟨t',rfl⟩:=ry;exact eq_int (zbs I q zu3)
   |str j=>obtain⟨t',rfl⟩:=ry;exact PySem.EqMixed.eq_int_str (zbs I q (by simp))
   |_=>exact absurd (show false=true from hs) Bool.false_ne_true
 | str i=>
   obtain⟨t,rfl⟩:=rx;cases y with
   |non=>cases ry;exact PySem.EqNone.eq_str_none (zbs I q (by simp))
   |bl j=>cases ry;exact PySem.EqMixed.eq_str_bool (zbs I q (by simp))
   |int j=>obtain⟨t',rfl⟩:=ry;exact PySem.EqMixed.eq_str_int (zbs I q (by simp))
   |str j=>obtain⟨t',rfl⟩:=ry;exact eq_str (zbs I q zu4)
   |_=>exact absurd (show false=true from hs) Bool.false_ne_true
 | byt i=>
   obtain⟨t,rfl⟩:=rx;cases y with
   |byt j=>obtain⟨t',rfl⟩:=ry;exact PySem.W.eq_bytes (zbs I q zu5)
   |_=>exact absurd (show false=true from hs) Bool.false_ne_true
 |_=>cases y<;>exact absurd (show false=true from hs) Bool.false_ne_true
theorem z43:OpR X (compareOp .NotEq) rNe:=by
 intro pins s σ H x y v u Q I rx ry h;obtain⟨hs,q⟩:=h;cases x with
 | non=>
   cases rx;cases y with
   |non=>cases ry;exact PySem.EqNone.ne_none_none (zbs I q (by simp))
   |bl j=>cases ry;exact PySem.EqNone.ne_none_bool (zbs I q (by simp))
   |int j=>obtain⟨t',rfl⟩:=ry;exact PySem.EqNone.ne_none_int (zbs I q (by simp))
   |str j=>obtain⟨t',rfl⟩:=ry;exact PySem.EqNone.ne_none_str (zbs I q (by simp))
   |_=>exact absurd (show false=true from hs) Bool.false_ne_true
 | bl i=>
   cases rx;cases y with
   |non=>cases ry;exact PySem.EqNone.ne_bool_none (zbs I q (by simp))
   |bl j=>cases ry;exact ne_bool (zbs I q (congrArg not z0x))
   |str j=>obtain⟨t',rfl⟩:=ry;exact PySem.EqMixed.ne_bool_str (zbs I q (by simp))
   |_=>exact absurd (show false=true from hs) Bool.false_ne_true
 | int i=>
   obtain⟨t,rfl⟩:=rx;cases y with
   |non=>cases ry;exact PySem.EqNone.ne_int_none (zbs I q (by simp))
   |int j=>obtain⟨t',rfl⟩:=ry;exact ne_int (zbs I q (congrArg not zu3))
   |str j=>obtain⟨t',rfl⟩:=ry;exact PySem.EqMixed.ne_int_str (zbs I q (by simp))
   |_=>exact absurd (show false=true from hs) Bool.false_ne_true
 | str i=>
   obtain⟨t,rfl⟩:=rx;cases y with
   |non=>cases ry;exact PySem.EqNone.ne_str_none (zbs I q (by simp))
   |bl j=>cases ry;exact PySem.EqMixed.ne_str_bool (zbs I q (by simp))
   |int j=>obtain⟨t',rfl⟩:=ry;exact PySem.EqMixed.ne_str_int (zbs I q (by simp))
   |str j=>obtain⟨t',rfl⟩:=ry;exact ne_str (zbs I q (congrArg not zu4))
   |_=>exact absurd (show false=true from hs) Bool.false_ne_true
 | byt i=>
   obtain⟨t,rfl⟩:=rx;cases y with
   |byt j=>obtain⟨t',rfl⟩:=ry;exact PySem.W.ne_bytes (zbs I q (congrArg not zu5))
   |_=>exact absurd (show false=true from hs) Bool.false_ne_true
 |_=>cases y<;>exact absurd (show false=true from hs) Bool.false_ne_true
theorem z8a:OpR X (compareOp .Lt) (rI0 fun i j=>.bl (decide (i<j))):=opB0 fun _ _ _ _ _ _ _ q=>lt_int q
theorem z8b:OpR X (compareOp .LtE) (rI0 fun i j=>.bl (decide (i<=j))):=opB0 fun _ _ _ _ _ _ _ q=>le_int q
theorem z8c:OpR X (compareOp .Gt) (rI0 fun i j=>.bl (decide (j<i))):=opB0 fun _ _ _ _ _ _ _ q=>gt_int q
theorem z8d:OpR X (compareOp .GtE) (rI0 fun i j=>.bl (decide (j<=i))):=opB0 fun _ _ _ _ _ _ _ q=>ge_int q
theorem z0y:OpR X (compareOp .Is) (fun x y H Q=>y=.non/\Q (.bl (decide (x=.non))) H):=by
 intro pins s σ H x y v u Q I rx ry h;obtain⟨rfl,q⟩:=h;cases ry;refine is_none_gen (zbs I q ?_);cases x<;>first
  |(cases rx;rfl)
  |(obtain⟨t,rfl⟩:=rx;rfl)
theorem z17:OpR X (compareOp .IsNot) (fun x y H Q=>y=.non/\Q (.bl (!decide (x=.non))) H):=by
 intro pins s σ H x y v u Q I rx ry h;obtain⟨rfl,q⟩:=h;cases ry;refine isnot_none_gen (zbs I q ?_);cases x<;>first
  |(cases rx;rfl)
  |(obtain⟨t,rfl⟩:=rx;rfl)
theorem OpR.or{f:Value->Value->Sem Value}{r r':R2}(h:OpR X f r)(h':OpR X f r'):OpR X f (fun x y H Q=>r x y H Q\/r' x y H Q):=by
 intro pins s σ H x y v u Q I rx ry q;rcases q with q | q
 ·exact h pins s σ H x y v u Q I rx ry q
 ·exact h' pins s σ H x y v u Q I rx ry q
theorem zia(b:Expr){op:CmpOp}(h:op≠.In:=by decide)(h2:op≠.NotIn:=by decide):behindInMarks op b=false:=by
 have e1:(op==CmpOp.In)=false:=by cases op<;>first | rfl | exact absurd rfl h
 have e2:(op==CmpOp.NotIn)=false:=by cases op<;>first | rfl | exact absurd rfl h2
 cases b<;>simp[behindInMarks,e1,e2]
theorem zu6{op:CmpOp}{r:R2}(ho:OpR X (compareOp op) r)(ha:PE X a ta)(hb:PE X b tb)(hm:behindInMarks op b=false):PE X (.Compare a [op] [b] pos) (tOp r ta tb):=by
 intro pins s σ H Q I h;exact wpAny_Compare1 (binT ha hb I h fun v u s2 x y H2 I2 rx ry q=>ho pins s2 σ H2 x y v u Q I2 rx ry q) hm
def z8e(t:TE):TT:=fun σ H Q=>t σ H fun x H'=>∃k,x=.bl k/\Q k H'
theorem z18{op:CmpOp}{r:R2}(ho:OpR X (compareOp op) r)(ha:PE X a ta)(hb:PE X b tb)(hm:behindInMarks op b=false):PT X (.Compare a [op] [b] pos) (z8e (tOp r ta tb)):=by
 intro pins s σ H Q I h;refine wpAny_isTrue_Compare1 (thn (ha pins s σ H _ I h) fun v s1 ⟨x,H1,I1,r1,q1⟩=>thn (hb pins s1 σ H1 _ I1 q1) fun u s2 ⟨y,H2,I2,r2,q2⟩=>
  thn (ho pins s2 σ H2 x y v u _ I2 r1 r2 q2) fun c s3 ⟨z,H3,I3,r3,k,e,q3⟩=>?_) hm
 subst e;cases r3;exact wpAny_truthy_bool ⟨H3,I3,q3⟩
def TruV(K:PySem.W.Frag)(x:V)(H:Hp)(k:Bool):Prop:=
 match x with
 |.non=>k=false
 |.bl b=>k=b
 |.int i=>k=(i != 0)
 |.str y=>y.length<=sizeLine/\k=((y.length:Int) != 0)
 |.byt y=>y.size<=sizeLine/\k=((y.size:Int) != 0)
 |.ref p=>(∃xs,SqL K H p xs/\k=!xs.isEmpty)\/(∃xs,SqT K H p xs/\k=!xs.isEmpty)\/∃kvs,H p=some (.dK kvs)/\k=!kvs.isEmpty
 |_=>False
theorem ztk{κ:Type}{kvs:List (κ×V)}{vs:List (κ×Value)}(r:KV kvs vs):(!vs.isEmpty)=!kvs.isEmpty:=by
 cases r<;>rfl
theorem zmh{xs:List V}{its:List Value}(r:Vals xs its):(!its.toArray.isEmpty)=!xs.isEmpty:=by
 cases r<;>simp
theorem zmi:(sizeLine:Nat)<2 ^ 63:=by rw[sizeLine_eq];decide
theorem z44:TruR X (fun x H Q=>∃k,TruV X.K x H k/\Q k H):=by
 intro pins s σ H x v Q I rx h;obtain⟨k,e,q⟩:=h;have hl:=zmi;have hs:sizeLine=16777216:=sizeLine_eq;cases x with
 | non=>
   cases rx;have e':k=false:=e;subst e';exact truthy_none ⟨H,I,q⟩
 | bl b=>
   cases rx;have e':k=b:=e;subst e';exact wpAny_truthy_bool ⟨H,I,q⟩
 | int i=>
   obtain⟨t,rfl⟩:=rx;have e':k=(i != 0):=e;subst e';exact PySem.P.truthy_int ⟨H,I,q⟩
 | str y=>
   obtain⟨t,rfl⟩:=rx;obtain⟨hy,e'⟩:y.length<=sizeLine/\k=((y.length:Int) != 0):=e;subst e';exact PySem.P.truthy_str (by omega) ⟨H,I.tok _,q⟩
 | byt y=>
   obtain⟨t,rfl⟩:=rx;obtain⟨hy,e'⟩:y.size<=sizeLine/\k=((y.size:Int) != 0):=e;subst e';exact PySem.W.truthy_bytes (by omega) ⟨H,I.tok _,q⟩
 | ref p=>
   cases rx;have e':(∃xs,SqL X.K H p xs/\k=!xs.isEmpty)\/(∃xs,SqT X.K H p xs/\k=!xs.isEmpty)\/∃kvs,H p=some (.dK kvs)/\k=!kvs.isEmpty:=e;rcases e' with⟨xs,hx,e'⟩ | ⟨xs,hx,e'⟩ | ⟨kvs,hx,e'⟩
   ·subst e'
    obtain⟨its,r,pl,hz⟩:=I.list hx;have hlen:=r.length;exact wpAny_truthy_list pl.isList (by simp only[List.size_toArray];omega) ⟨H,I.tok _,by rw[zmh r];exact q⟩
   ·subst e'
    obtain⟨its,r,pl,hz⟩:=I.tuple hx;have hlen:=r.length;exact truthy_tuple pl (by simp only[List.size_toArray];omega) ⟨H,I.tok _,by rw[zmh r];exact q⟩
   ·subst e'
    obtain⟨hz,hS,vs,r,m⟩:kvs.length<=sizeLine/\(p==sysModules)=false/\∃vs,KV kvs vs/\s.heap.DictOf (za5 X.prog X.w) p vs:=I.hok p _ hx;have hlen:kvs.length=vs.length:=Paired.length r;exact wpAny_truthy_dict hS m (by omega) ⟨H,I.tok _,by rw[ztk r];exact q⟩
 |_=>exact(show False from e).elim
theorem zy3(ha:PE X a ta)(he:∀whole,isTrue a X.env whole=(do let v <- whole;standAt a.pos;holding [v] (truthy v))) :
  PT X a (fun σ H Q=>ta σ H fun x H'=>∃k,TruV X.K x H' k/\Q k H'):=by
 intro pins s σ H Q I h;exact isTrue_plain (thn (ha pins s σ H _ I h) fun v s1 ⟨x,H1,I1,r1,q1⟩=>z44 pins s1 σ H1 x v Q I1 r1 q1) (he _)
theorem ztl:OpR X (binaryOp .Add) (fun x y H Q=>∃i j,x=.str i/\y=.str j/\i.length+j.length<=sizeLine/\Q (.str (i++j)) H):=by
 intro pins s σ H x y v u Q I rx ry h;obtain⟨i,j,rfl,rfl,hz,q⟩:=h;obtain⟨t,rfl⟩:=rx;obtain⟨t',rfl⟩:=ry;exact add_str (fun t' tk=>⟨.str (i++j),H,I.tok _,⟨_,rfl⟩,q⟩) hz
theorem zm9{x:V}{us:List Value}(r:Vals [x] us):∃u,us=[u]/\RelV x u:=by
 cases r with
 |cons r1 r2=>cases r2;exact⟨_,rfl,r1⟩
theorem z45{x y:V}{us:List Value}(r:Vals [x,y] us):∃u w',us=[u,w']/\RelV x u/\RelV y w':=by
 cases r with
 | cons r1 r2=>
   cases r2 with
   |cons r3 r4=>cases r4;exact⟨_,_,rfl,r1,r3⟩
def LenV(K:PySem.W.Frag)(x:V)(H:Hp)(n:Nat):Prop:=
 match x with
 |.str y=>y.length<=sizeLine/\n=y.length
 |.byt y=>y.size<=sizeLine/\n=y.size
 |.ref p=>(∃xs,SqL K H p xs/\n=xs.length)\/∃xs,SqT K H p xs/\n=xs.length
 |_=>False
theorem zy4:zh7 X (.builtin "len") (fun xs H Q=>∃x n,xs=[x]/\LenV X.K x H n/\Q (.int n) H):=by
 intro pins s σ H xs us Q I r h;obtain⟨x,n,rfl,e,q⟩:=h;obtain⟨u,rfl,rx⟩:=zm9 r;have hl:=zmi;have hs:sizeLine=16777216:=sizeLine_eq;cases x with
 | str y=>
   obtain⟨t,rfl⟩:=rx;obtain⟨hy,e'⟩:y.length<=sizeLine/\n=y.length:=e;subst e';exact len_str (by omega) ⟨.int _,H,I.tok _,⟨_,rfl⟩,q⟩
 | byt y=>
   obtain⟨t,rfl⟩:=rx;obtain⟨hy,e'⟩:y.size<=sizeLine/\n=y.size:=e;subst e';exact PySem.W.len_bytes (by omega) ⟨.int _,H,I.tok _,⟨_,rfl⟩,q⟩
 | ref p=>
   cases rx;have e':(∃xs,SqL X.K H p xs/\n=xs.length)\/∃xs,SqT X.K H p xs/\n=xs.length:=e;rcases e' with⟨xs,hx,e'⟩ | ⟨xs,hx,e'⟩
   ·subst e'
    obtain⟨its,r',pl,hz⟩:=I.list hx;have hlen:=r'.length;exact Calls.call_len_list pl.isList (by simp only[List.size_toArray];omega) ⟨.int xs.length,H,I.tok _,⟨_,by simp only[List.size_toArray];rw[hlen]⟩,q⟩
   ·subst e'
    obtain⟨its,r',pl,hz⟩:=I.tuple hx;have hlen:=r'.length;exact len_tuple pl (by simp only[List.size_toArray];omega) ⟨.int xs.length,H,I.tok _,⟨_,by simp only[List.size_toArray];rw[hlen]⟩,q⟩
 |_=>exact(show False from e).elim
end
end L2
namespace L2
open PySem PySem.Spec PyProof.Rows
structure ObjM(h:Heap)(x dx C:Addr)(mA:Str->Option Value):Prop where
 obj:h.get? x=some (PySem.W.instObj C dx)
 ns:h.Ns1 dx mA
 ne:dx≠x
theorem zks{h:Heap}{dx:Addr}{mA:Str->Option Value}(n:h.Ns1 dx mA):∃od,h.get? dx=some od/\∀name,PySem.W.lookIn name od=some (mA name):=by
 obtain⟨o,es,ep,ho,hd,hk,_,hm⟩:=n;refine⟨o,ho,fun name=>?_⟩;have e:=hm name;unfold nsFind findBy at e;rw[<- Array.find?_toList] at e;unfold PySem.W.lookIn;rw[hd];dsimp only
 split
 ·rename_i y q
  rw[q] at e;exact congrArg some e
 ·rename_i q
  rw[q] at e;have a:es.toList.any (·.refKey)=false:=by
   rw[List.any_eq_false];intro y hy;obtain⟨z,t,hkey⟩:=hk y (Array.mem_toList_iff.mp hy);simp[DictEntry.refKey,hkey]
  have a':¬es.toList.any (·.refKey)=true:=by rw[a];exact Bool.false_ne_true
  rw[if_neg a'];exact congrArg some e
theorem ObjM.look{h:Heap}{x dx C:Addr}{mA:Str->Option Value}(I:ObjM h x dx C mA):∃od,PySem.W.InstAt h x (PySem.W.instObj C dx) C (some od)/\∀name,PySem.W.lookIn name od=some (mA name):=
 let ⟨od,ho,hl⟩:=zks I.ns
 ⟨od,⟨I.obj,rfl,rfl,ho⟩,hl⟩
section
variable {prog:Program}{w:World}{A:Around}{E:Value->Shared->Prop}{s:Shared}{K:PySem.W.Frag}{x dx C f:Addr}{mA:Str->Option Value}{name:Str}{v:Value}
theorem z19{expr:Bool}{Q:Value->Shared->Prop}(X:K.In s.heap)(I:ObjM s.heap x dx C mA)(hg:PySem.W.plainGet K C name=true)(hh:PySem.W.hasDictIn K C=true)
  (ha:PySem.W.findIn K (.ref C) name=some none) (hv:mA name=some v) (hv':PySem.W.handedIn v=true) (h:Q v { s with toks:=s.toks+1 }) :
  wpAny (model prog w) A (getAttr (.ref x) name expr) Q E s:=by
 obtain⟨od,J,hl⟩:=I.look;exact PySem.W.get_value X J (PySem.W.plainGet_of hg).1 (PySem.W.findObj_own hh ha rfl (by rw[hl,hv])) hv' h
theorem zy5{pl:Sem Bool}{Q:Value×List Value->Shared->Prop}(X:K.In s.heap)(I:ObjM s.heap x dx C mA)(hg:PySem.W.plainGet K C name=true)
  (hf:PySem.W.findIn K (.ref C) name=some (some (.ref f))) (ht:PySem.W.isFn K (.ref f)=true) (hv:mA name=none) (h:Q (.ref f,[.ref x]) s) :
  wpAny (model prog w) A (getMethod (.ref x) name pl) Q E s:=by
 obtain⟨od,J,hl⟩:=I.look;exact PySem.W.method_fn X J (PySem.W.plainGet_of hg).1 (PySem.W.plainGet_of hg).2 hf (beq_iff_eq.mp ht) (by show(PySem.W.lookIn name od).map (·.isSome)=some false;rw[hl,hv];rfl) h
theorem z2a{ns:List Str}{Q:Unit->Shared->Prop}(X:K.In s.heap)(I:ObjM s.heap x dx C mA)
  (hs:PySem.W.findIn K (.ref C) "__setattr__" = some (some (.builtin "object.__setattr__"))) (hp:PySem.W.plainOver K C=true) (ht:PySem.W.takerIn K C name=some none) (hh:PySem.W.hasDictIn K C=true)
  (hw:PySem.Within mA ns) (hsz:ns.length<=sizeLine)
  (h:∀h',ObjM h' x dx C (fun y=>if y=name then some v else mA y)->Heap.SameBut dx s.heap h'->Q () { s with heap:=h',toks:=s.toks+2 }) :
  wpAny (model prog w) A (setAttr (.ref x) name v) Q E s:=by
 obtain⟨od,J,hl⟩:=I.look;refine PySem.W.set_plain X J hs (PySem.W.osa_open (s:={ s with toks:=s.toks+1 }) (r:=none) X J hp ht fun b=>?_);obtain⟨cd,hc,hd'⟩:=PySem.W.any_some hh;have hx:s.heap.get? x=some ⟨.ref C,some dx,.plain,#[]⟩:=I.obj;refine wpAny_bind (wpAny_pure (wpAny_bind (wpAny_bind (wpAny_loadPart hx (wpAny_bind (PySem.W.Looks.here (s:={ s with toks:=s.toks+1 }) (PySem.W.looks_clsIn X hc) ?_))))));rw[hd'];refine wpAny_pure (a:=some dx) (wpAny_bind (wpAny_pure (wpAny_bind ?_)));refine wpAny_nsSet1 (s:={ s with toks:=s.toks+1 }) I.ns fun h' hn2 hs2=>?_;obtain⟨oD,esD,epD,hoD,hdD,hcD⟩:=hn2.count (PySem.Within.cons name v hw);refine wpAny_bind (wpAny_lookBehind hoD (by rw[hdD];exact pastItsLine_dict (Nat.le_trans hcD (by rw[List.length_cons];omega))) ?_);exact wpAny_pure (h _ ⟨(hs2.2 _ (Ne.symm I.ne)).trans I.obj,hn2,I.ne⟩ hs2)
theorem zy6{R:Result->Shared->Prop}{vs:List Value}{kw:List (Str×Value)}(X:K.In s.heap)(hm:PySem.W.makesIn K C=true)
  (hi:PySem.W.findIn K (.ref C) "__init__" = some (some (.ref f))) (hf:PySem.W.typeIn K (.ref f)=some (.type "function"))
  (h:codeAny (model prog w) (A.under (.builtin "type.__call__" ⟨.ref C::vs,kw⟩)) (.call (.ref f) ⟨.ref (s.heap.objs.size+1)::vs,kw⟩) (PySem.W.InitBack (s.heap.objs.size+1) R)
   { s with heap:=(s.heap.push PySem.W.emptyDict).push (PySem.W.instObj C s.heap.objs.size) }) :
  codeAny (model prog w) A (.call (.ref C) ⟨vs,kw⟩) R s:=by
 obtain⟨hh,g,d,t,os⟩:=s;exact PySem.W.make_core (PySem.W.makes_of X hm) (PySem.W.looks_findIn X hi) (fun self=>PySem.W.bind_fn X self hf) (.inl rfl) h
end
def putF(f:Str)(v:V):List (Str×V)->List (Str×V)
 |[]=>[(f,v)]
 |(g,x)::r=>if g=f then(g,v)::r else(g,x)::putF f v r
theorem zif(f g:Str)(v:V):∀fs:List (Str×V),(putF f v fs).lookup g=if g=f then some v else fs.lookup g
 | []=>by
   show List.lookup g [(f,v)]=_;by_cases h:g=f
   ·have hb:(g==f)=true:=beq_iff_eq.mpr h
    simp only[List.lookup,hb,if_pos h]
   ·have hb:(g==f)=false:=beq_eq_false_iff_ne.mpr h
    simp only[List.lookup,hb,if_neg h]
 | (k,x)::r=>by
   have ih:=zif f g v r;rw[show putF f v ((k,x)::r)=(if k=f then(k,v)::r else(k,x)::putF f v r) from rfl];by_cases hk:k=f
   ·rw[if_pos hk]
    by_cases h:g=k
    ·have hb:(g==k)=true:=beq_iff_eq.mpr h
     simp only[List.lookup,hb,if_pos (h.trans hk)]
    ·have hb:(g==k)=false:=beq_eq_false_iff_ne.mpr h
     simp only[List.lookup,hb,if_neg (fun e:g=f=>h (e.trans hk.symm))]
   ·rw[if_neg hk]
    by_cases h:g=k
    ·have hb:(g==k)=true:=beq_iff_eq.mpr h
     simp only[List.lookup,hb,if_neg (fun e:g=f=>hk (h.symm.trans e))]
    ·have hb:(g==k)=false:=beq_eq_false_iff_ne.mpr h
     simp only[List.lookup,hb];exact ih
theorem zkt(f:Str)(v:V):∀fs:List (Str×V),f∈(putF f v fs).map (·.1)/\∀g,g∈fs.map (·.1)->g∈(putF f v fs).map (·.1)
 |[]=>⟨by simp[putF],fun g h=>by simp at h⟩
 | (k,x)::r=>by
   obtain⟨i1,i2⟩:=zkt f v r;rw[show putF f v ((k,x)::r)=(if k=f then(k,v)::r else(k,x)::putF f v r) from rfl];by_cases hk:k=f
   ·rw[if_pos hk]
    subst hk;exact⟨by simp,fun g h=>by simpa using h⟩
   ·rw[if_neg hk]
    refine⟨?_,fun g h=>?_⟩
    ·rw[List.map_cons]
     exact List.mem_cons_of_mem _ i1
    ·rw[List.map_cons] at h ⊢
     rcases List.mem_cons.mp h with e | e
     ·exact List.mem_cons.mpr (.inl e)
     ·exact List.mem_cons_of_mem _ (i2 g e)
theorem zku(f:Str)(v:V):∀fs:List (Str×V),(putF f v fs).length<=fs.length+1
 |[]=>by simp[putF]
 | (k,x)::r=>by
   have ih:=zku f v r;rw[show putF f v ((k,x)::r)=(if k=f then(k,v)::r else(k,x)::putF f v r) from rfl];by_cases hk:k=f
   ·rw[if_pos hk,List.length_cons,List.length_cons];omega
   ·rw[if_neg hk,List.length_cons,List.length_cons];omega
theorem RelO.some_of{v:V}{o:Option Value}(r:RelO (some v) o):∃u,o=some u/\RelV v u:=by
 cases o with
 |none=>exact(show False from r).elim
 |some u=>exact⟨u,rfl,r⟩
theorem RelO.none_of{o:Option Value}(r:RelO none o):o=none:=by
 cases o with
 |none=>rfl
 |some u=>exact(show False from r).elim
theorem zom{v:V}{u:Value}(r:RelV v u):PySem.W.handedIn u=true:=by
 cases v with
 |non=>cases (show u=Value.none from r);rfl
 |bl b=>cases (show u=Value.bool b from r);rfl
 |int i=>obtain⟨t,e⟩:=(show∃t,u=Value.int i t from r);cases e;rfl
 |str x=>obtain⟨t,e⟩:=(show∃t,u=Value.str x t from r);cases e;rfl
 |byt b=>obtain⟨t,e⟩:=(show∃t,u=Value.bytes b t from r);cases e;rfl
 |flt b=>obtain⟨t,e⟩:=(show∃t,u=Value.float b t from r);cases e;rfl
 |ref a=>cases (show u=Value.ref a from r);rfl
 |ty n=>cases (show u=Value.type n from r);rfl
section
variable {P:Program}{w:World}{H H':Hp}{h h':Heap}{a C dx:Addr}{fs fs':List (Str×V)}
theorem zna(hok:HOk P w H h)(e:H a=some (.ins C dx fs)):∃mA,ObjM h a dx C mA/\(∀f,RelO (fs.lookup f) (mA f))/\PySem.Within mA (fs.map (·.1))/\fs.length<=1000/\H dx=some (.own a):=by
 obtain⟨d,z,ne,ob,mA,n,r,q⟩:=(show zc0 P w H h a (.ins C dx fs) from hok a _ e);exact⟨mA,⟨ob,n,ne⟩,r,q,z,d⟩
end
structure Cls(K:PySem.W.Frag)(C:Addr):Prop where
 pg:PySem.W.plainGet K C Str.empty=true
 hd:PySem.W.hasDictIn K C=true
 po:PySem.W.plainOver K C=true
 sa:PySem.W.findIn K (.ref C) "__setattr__" = some (some (.builtin "object.__setattr__"))
theorem Cls.get{K:PySem.W.Frag}{C:Addr}(c:Cls K C)(f:Str):PySem.W.plainGet K C f=true:=c.pg
def zdn(K:PySem.W.Frag)(C:Addr)(f:Str):Prop:=PySem.W.findIn K (.ref C) f=some none
theorem zdn.taker{K:PySem.W.Frag}{C:Addr}{f:Str}(n:zdn K C f):PySem.W.takerIn K C f=some none:=by
 unfold PySem.W.takerIn;rw[show PySem.W.findIn K (.ref C) f=some none from n];rfl
structure Meth(K:PySem.W.Frag)(C:Addr)(m:Str)(f:Addr):Prop where
 at_:PySem.W.findIn K (.ref C) m=some (some (.ref f))
 fn:PySem.W.isFn K (.ref f)=true
 kp:PySem.W.keepIn K (.ref f)=true
section
variable {X:Cx}{pins:List (Addr×Obj)}{σ:St}{H:Hp}{s:Shared}{a C dx:Addr}{fs:List (Str×V)}{f:Str}{v:V}{A:Around}{E:Value->Shared->Prop}
theorem ztm{b:Bool}{Q:Value->Shared->Prop}(I:Inv X pins σ H s)(e:H a=some (.ins C dx fs))(c:Cls X.K C)(n:zdn X.K C f)(l:fs.lookup f=some v)
  (h:∀u s',Inv X pins σ H s'->RelV v u->Q u s'):wpAny (model X.prog X.w) A (getAttr (.ref a) f b) Q E s:=by
 obtain⟨mA,O,r,_,_,_⟩:=zna I.hok e;obtain⟨u,hu,ru⟩:=RelO.some_of (v:=v) (o:=mA f) (by rw[<- l];exact r f);exact z19 I.kIn O (c.get f) c.hd n hu (zom ru) (h u _ (I.tok _) ru)
theorem zmj{m:Str}{g:Addr}{pl:Sem Bool}{Q:Value×List Value->Shared->Prop}(I:Inv X pins σ H s)(e:H a=some (.ins C dx fs))(c:Cls X.K C)(k:Meth X.K C m g)(l:fs.lookup m=none)
  (h:Q (.ref g,[.ref a]) s):wpAny (model X.prog X.w) A (getMethod (.ref a) m pl) Q E s:=by
 obtain⟨mA,O,r,_,_,_⟩:=zna I.hok e;have hn:mA m=none:=RelO.none_of (by rw[<- l];exact r m);exact zy5 I.kIn O (c.get m) k.at_ k.fn hn h
theorem ztn{y:V}{u:Value}{Q:Unit->Shared->Prop}(I:Inv X pins σ H s)(e:H a=some (.ins C dx fs))(c:Cls X.K C)(n:zdn X.K C f)(hl:fs.length<1000)(ry:RelV y u)
  (h:∀s',Inv X pins σ (upd H a (.ins C dx (putF f y fs))) s'->Q () s'):wpAny (model X.prog X.w) A (setAttr (.ref a) f u) Q E s:=by
 obtain⟨mA,O,r,wi,_,ho⟩:=zna I.hok e;have hz:(fs.map (·.1)).length<=sizeLine:=by rw[List.length_map,sizeLine_eq];omega
 refine z2a I.kIn O c.sa c.po n.taker c.hd wi hz fun h' O' sb=>h _ ?_;have hd:∃o,h'.get? dx=some o:=let ⟨o,_,_,e',_⟩:=O'.ns;⟨o,e'⟩;refine I.write (x:=a) (e:=dx) (by rw[e];exact True.intro) (.inr ho) (fun b q hb z=>(sb.2 b hb).trans z) hd ?_;refine⟨by rw[zag O.ne];exact ho,?_,O.ne,O'.obj,_,O'.ns,fun g=>?_,fun g hg=>?_⟩
 ·have:=zku f y fs;omega
 ·show RelO ((putF f y fs).lookup g) (if g=f then some u else mA g)
  rw[zif];by_cases q:g=f
  ·rw[if_pos q,if_pos q];exact ry
  ·rw[if_neg q,if_neg q];exact r g
 ·by_cases q:g=f
  ·rw[q];exact(zkt f y fs).1
  ·refine(zkt f y fs).2 g (wi g fun z=>hg ?_)
   show(if g=f then some u else mA g)=none;rw[if_neg q];exact z
theorem Inv.made(I:Inv X pins σ H s):Inv X pins σ (upd (upd H s.heap.objs.size (.own (s.heap.objs.size+1))) (s.heap.objs.size+1) (.ins C s.heap.objs.size []))
  { s with heap:=(s.heap.push PySem.W.emptyDict).push (PySem.W.instObj C s.heap.objs.size) }:=by
 have e1:(s.heap.push PySem.W.emptyDict).get? s.heap.objs.size=some PySem.W.emptyDict:=Heap.get?_push_size s.heap rfl;have e2:((s.heap.push PySem.W.emptyDict).push (PySem.W.instObj C s.heap.objs.size)).get? (s.heap.objs.size+1)=some (PySem.W.instObj C s.heap.objs.size):=by
  have:=Heap.get?_push_size (s.heap.push PySem.W.emptyDict) (o:=PySem.W.instObj C s.heap.objs.size) rfl;rwa[Heap.size_push] at this
 have e3:(s.heap.push PySem.W.emptyDict).Ns s.heap.objs.size (fun _=>none):=⟨PySem.W.emptyDict,#[],_,e1,rfl,(fun e he=>absurd he (by simp)),fun _=>rfl⟩;have I1:=I.laid (a:=s.heap.objs.size) (o:=.own (s.heap.objs.size+1)) (h':=s.heap.push PySem.W.emptyDict) (t':=s.toks) (fun b u q=>Heap.get?_push_of_some _ q) (Nat.le_refl _) ⟨_,e1⟩;refine I1.laid (a:=s.heap.objs.size+1) (o:=.ins C s.heap.objs.size []) (t':=s.toks) (fun b u q=>Heap.get?_push_of_some _ q) (Nat.le_of_eq (Heap.size_push _ _)) ?_;have ne:s.heap.objs.size≠s.heap.objs.size+1:=Nat.ne_of_lt (Nat.lt_succ_self _);refine⟨by rw[zag ne,zai],Nat.zero_le _,ne,e2,fun _=>none,(Heap.Ns1.of_empty e3).at fun o q=>Heap.get?_push_of_some _ q,fun _=>True.intro,fun y hy=>absurd rfl hy⟩
theorem zu7{prog:Program}{w:World}{env:Env}{e:Expr}{f:Str}{pos:Pos}{s:Shared}{Q:Value->Shared->Prop}(hb:attributeBase e f env (eval e env)=eval e env)
  (h:wpAny (model prog w) A (eval e env) (fun o s₁=>wpAny (model prog w) A (getAttr o f true) Q E s₁) E s):wpAny (model prog w) A (eval (.Attribute e f pos) env) Q E s:=
 Attribute_any_ h (by rw[arm_eval_Attribute,hb])
end
def tFld(K:PySem.W.Frag)(ta:TE)(f:Str):TE:=fun σ H Q=>ta σ H fun x H1=>∃a C dx fs v,x=.ref a/\H1 a=some (.ins C dx fs)/\Cls K C/\zdn K C f/\fs.lookup f=some v/\Q v H1
def sFld(K:PySem.W.Frag)(ta tv:TE)(f:Str):TS:=fun D σ H=>tv σ H fun y H1=>ta σ H1 fun x H2=>∃a C dx fs,x=.ref a/\H2 a=some (.ins C dx fs)/\Cls K C/\zdn K C f/\fs.length<1000 /\
 D.nx σ (upd H2 a (.ins C dx (putF f y fs)))
section
variable {X:Cx}{o e value:Expr}{f:Str}{pos pos' tpos:Pos}{ta tv:TE}
theorem z46(he:PE X e ta)(hb:attributeBase e f X.env (eval e X.env)=eval e X.env):PE X (.Attribute e f pos) (tFld X.K ta f):=by
 intro pins s σ H Q I h;refine zu7 hb (thn (he pins s σ H _ I h) fun u s1 hq_=>?_);obtain⟨x,H1,I1,rx,a,C,dx,fs,v,ex,ea,c,n,l,q⟩:=hq_;subst ex;obtain rfl:u=Value.ref a:=rx;exact ztm I1 ea c n l fun u' s2 I2 ru=>⟨v,H1,I2,ru,q⟩
theorem z47(ha:PE X o ta)(hv:PE X value tv)(hs:swapsWith value (some (.Attribute o f pos')) pos.line X.env=pure false):PS X (.Assign [.Attribute o f pos'] value pos) (sFld X.K ta tv f):=by
 intro pins s σ H D I h;refine plainObj_wpAny_Assign_Attribute (thn (hv pins s σ H _ I h) fun u s1 hq_=>?_) hs;obtain⟨y,H1,I1,ry,q⟩:=hq_;refine thn (ha pins s1 σ H1 _ I1 q) fun ov s2 hq_=>?_;obtain⟨x,H2,I2,rx,a,C,dx,fs,ex,ea,c,n,l,q2⟩:=hq_;subst ex;obtain rfl:ov=Value.ref a:=rx;exact ztn I2 ea c n l ry fun s3 I3=>⟨σ,_,I3,q2⟩
theorem z2b{pl:Sem Bool}{m:Str}{apos:Pos}{args:List Expr}{pins:List (Addr×Obj)}{s:Shared}{σ:St}{H:Hp}{Q:Value->Shared->Prop}{te:TE}(he:PE X e te)(I:Inv X pins σ H s)
  (h:te σ H fun x H1=>∃a C dx fs g,x=.ref a/\H1 a=some (.ins C dx fs)/\Cls X.K C/\Meth X.K C m g/\fs.lookup m=none /\
   ∀s1,Inv X pins σ H1 s1->wpAny (model X.prog X.w) X.A (callWith pos (.ref g) [.ref a] (backTo pos (starEach args X.env)) (backToKw pos (keywordEach [] X.env))) Q X.xe s1)
  (ht:eval (.Call (.Attribute e m apos) args [] pos) X.env=(do
   let ov <- eval e X.env
   standAt apos.atName
   let (f,first) <- holding [ov] (getMethod ov m pl)
   callWith pos f first (backTo pos (starEach args X.env)) (backToKw pos (keywordEach [] X.env)))) :
  wpAny (model X.prog X.w) X.A (eval (.Call (.Attribute e m apos) args [] pos) X.env) Q X.xe s:=by
 refine PySem.W.methodCall_KW (pl:=pl) (thn (he pins s σ H _ I h) fun u s1 hq_=>?_) ht;obtain⟨x,H1,I1,rx,a,C,dx,fs,g,ex,ea,c,k,l,q⟩:=hq_;subst ex;obtain rfl:u=Value.ref a:=rx;exact zmj I1 ea c k l (q s1 I1)
end
section
variable {X:Cx}{pins:List (Addr×Obj)}{σ:St}{H:Hp}{s:Shared}{A:Around}{E:Value->Shared->Prop}{Q:Value->Shared->Prop}{c:Value}{b:Bool}
inductive TyOf(K:PySem.W.Frag)(H:Hp):V->Value->Prop where
 |non:TyOf K H .non (.type "NoneType")
 |bl (x:Bool):TyOf K H (.bl x) (.type "bool")
 |int (i:Int):TyOf K H (.int i) (.type "int")
 |str (x:Str):TyOf K H (.str x) (.type "str")
 |flt (x:UInt64):TyOf K H (.flt x) (.type "float")
 |lst {a:Addr} {xs:List V} (e:H a=some (.lst xs)):TyOf K H (.ref a) (.type "list")
 |frz {a:Addr} {o:Obj} {xs:List V} (e:H a=some (.frz o (.lst xs))):TyOf K H (.ref a) (.type "list")
 |tup {a:Addr} {xs:List V} (e:H a=some (.tup xs)):TyOf K H (.ref a) (.type "tuple")
 |dK {a:Addr} {kvs:List (Key×V)} (e:H a=some (.dK kvs)):TyOf K H (.ref a) (.type "dict")
 |dT {a:Addr} {kvs:List (List Key×V)} (e:H a=some (.dT kvs)):TyOf K H (.ref a) (.type "dict")
 |ins {a C dx:Addr} {fs:List (Str×V)} (e:H a=some (.ins C dx fs)) (cl:Cls K C) (ha:PySem.W.findIn K (.ref C) "__class__" = some (some (.builtin "object.__class__")))
  (hn:PySem.W.specialIn K (.builtin "object.__class__") "__get__" = some (some (.builtin "getset_descriptor.__get__"))) (htk:PySem.W.takesIn K (.builtin "object.__class__")=some true)
  (hm:PySem.W.mroIn K C (.type "object")=some true):TyOf K H (.ref a) (.ref C)
theorem zu8{x:V}{u t:Value}(I:Inv X pins σ H s)(rx:RelV x u)(ty:TyOf X.K H x t)(e:PySem.W.kitOne X.K t c=some b)(h:∀tk,Q (.bool b) { s with toks:=tk }) :
  wpAny (model X.prog X.w) A (call (.builtin "isinstance") [u,c]) Q E s:=by
 cases ty with
 |non=>cases (show u=Value.none from rx);exact PySem.W.kia_one PySem.W.kitx_none I.kIn True.intro e (fun z=>nomatch z) h
 |bl y=>cases (show u=Value.bool y from rx);exact PySem.W.kia_one PySem.W.kitx_bool I.kIn True.intro e (fun z=>nomatch z) h
 |int i=>obtain⟨t,q⟩:=(show∃t,u=Value.int i t from rx);cases q;exact PySem.W.kia_one PySem.W.kitx_int I.kIn True.intro e (fun z=>nomatch z) h
 |str y=>obtain⟨t,q⟩:=(show∃t,u=Value.str y t from rx);cases q;exact PySem.W.kia_one PySem.W.kitx_str I.kIn True.intro e (fun z=>nomatch z) h
 |flt y=>obtain⟨t,q⟩:=(show∃t,u=Value.float y t from rx);cases q;exact PySem.W.kia_one PySem.W.kitx_float I.kIn True.intro e (fun z=>nomatch z) h
 | @lst a xs ea=>
   cases (show u=Value.ref a from rx);obtain⟨_,_,n,_,h1⟩:=(show zc0 X.prog X.w H s.heap a (.lst xs) from I.hok a _ ea);exact PySem.W.kia_one PySem.W.kitx_list I.kIn ⟨_,h1,rfl⟩ e (fun z=>nomatch z) h
 | @frz a ob xs ea=>
   cases (show u=Value.ref a from rx);obtain⟨_,_,_,n,_,h1⟩:=(show zc0 X.prog X.w H s.heap a (.frz ob (.lst xs)) from I.hok a _ ea);exact PySem.W.kia_one PySem.W.kitx_list I.kIn ⟨_,h1,rfl⟩ e (fun z=>nomatch z) h
 | @tup a xs ea=>
   cases (show u=Value.ref a from rx);obtain⟨_,_,_,p⟩:=(show zc0 X.prog X.w H s.heap a (.tup xs) from I.hok a _ ea);obtain⟨o,h1,h2,_⟩:=p;exact PySem.W.kia_one PySem.W.kitx_tuple I.kIn ⟨o,h1,h2⟩ e (fun z=>nomatch z) h
 | @dK a kvs ea=>
   cases (show u=Value.ref a from rx);obtain⟨_,_,vs,_,p⟩:=(show zc0 X.prog X.w H s.heap a (.dK kvs) from I.hok a _ ea);obtain⟨o,es,ep,h1,h2,_⟩:=p;exact PySem.W.kia_one PySem.W.kitx_dict I.kIn ⟨o,h1,h2.1⟩ e (fun z=>nomatch z) h
 | @dT a kvs ea=>
   cases (show u=Value.ref a from rx);obtain⟨_,_,xs,_,o,es,ep,h1,h2,_⟩:=(show zc0 X.prog X.w H s.heap a (.dT kvs) from I.hok a _ ea);exact PySem.W.kia_one PySem.W.kitx_dict I.kIn ⟨o,h1,h2.1⟩ e (fun z=>nomatch z) h
 | @ins a C dx fs ea cl ha hn htk hm=>
   cases (show u=Value.ref a from rx);obtain⟨mA,O,_⟩:=zna I.hok ea;obtain⟨od,J,_⟩:=O.look;exact PySem.W.kia_one (PySem.W.kitx_own (cl.get _) cl.hd ha hn htk hm) I.kIn J e (fun z=>nomatch z) h
end
end L2
namespace L2
open PySem PySem.Spec PyProof.Rows
structure Room(k:Nat)(A:Around):Prop where
 hd:A.handled=none
 dp:A.depth+3*k+5<recursionLimit
 un:A.units+16*k+200<cLine
 gd:A.guards=some []
theorem Room.mono{j k:Nat}{A:Around}(r:Room k A)(h:j<=k):Room j A:=⟨r.hd,by have:=r.dp;omega,by have:=r.un;omega,r.gd⟩
theorem Room.deeper{k:Nat}{A:Around}(r:Room (k+1) A)(env:Env):Room k (A.deeper env):=
 ⟨r.hd,by have:=r.dp;show A.depth+1+3*k+5<_;omega,by have:=r.un;show A.units+3+16*k+200<_;omega,r.gd⟩
theorem zto{A:Around}{C:Addr}{us:List Value}{kw:List (Str×Value)}:(A.under (.builtin "type.__call__" ⟨.ref C::us,kw⟩)).depth=A.depth+1:=by
 first | rfl | simp[Around.under,Code.weight,Code.isCreation,Code.isGuard,Code.isCaller,Code.frames,Code.isFrame,guardIds]
theorem ztp{A:Around}{C:Addr}{us:List Value}{kw:List (Str×Value)}:(A.under (.builtin "type.__call__" ⟨.ref C::us,kw⟩)).units=A.units+1:=by
 first | rfl | simp[Around.under,Code.cUnits,Code.frames,Code.isFrame]
theorem zql{A:Around}{C:Addr}{us:List Value}{kw:List (Str×Value)}(h:A.guards=some []):(A.under (.builtin "type.__call__" ⟨.ref C::us,kw⟩)).guards=some []:=by
 have e:(Code.builtin "type.__call__" ⟨.ref C::us,kw⟩).guards=[]:=by first | rfl | simp[Code.guards,Code.isGuard,guardIds]
 unfold Around.under;simp only[e,h];rfl
theorem Room.make{k:Nat}{A:Around}(r:Room (k+1) A)(C:Addr)(us:List Value)(kw:List (Str×Value)):Room k (A.under (.builtin "type.__call__" ⟨.ref C::us,kw⟩)):=
 ⟨r.hd,by have:=r.dp;rw[zto];omega,by have:=r.un;rw[ztp];omega,zql r.gd⟩
theorem Room.depth{k:Nat}{A:Around}(r:Room k A):A.depth<recursionLimit:=by have:=r.dp;omega
theorem Room.units{k:Nat}{A:Around}(r:Room k A):A.units+64<cLine:=by have:=r.un;omega
def tNil:TA:=fun _ H Q=>Q [] H
def ztq(ta:TE)(tr:TA):TA:=fun σ H Q=>ta σ H fun x H1=>tr σ H1 fun xs H2=>Q (x::xs) H2
section
variable {X:Cx}{e:Expr}{es:List Expr}{te:TE}{t:TA}{pos:Pos}
theorem zhg:PA X [] tNil:=fun _ _ _ _ H Q I h=>Calls.spliced_nil ⟨[],H,I,.nil,h⟩
theorem zdr(ha:PE X e te)(hr:PA X es t)(hs:starEach (e::es) X.env=(false,eval e X.env)::starEach es X.env:=by rfl):PA X (e::es) (ztq te t):=by
 intro pos pins s σ H Q I h;rw[hs];show wpAny _ _ (spliced ((false,eval e X.env)::backTo pos (starEach es X.env))) _ _ s;refine Calls.spliced_cons (thn (ha pins s σ H _ I h) fun u s1 hq_=>?_);obtain⟨x,H1,I1,r1,q1⟩:=hq_;exact thn (hr pos pins s1 σ H1 _ I1 q1) fun us s2 ⟨xs,H2,I2,r2,q2⟩=>⟨x::xs,H2,I2,.cons r1 r2,q2⟩
def tTup(t:TA):TE:=fun σ H Q=>t σ H fun xs H1=>xs.length<=sizeLine/\∀p,H1 p=none->Q (.ref p) (upd H1 p (.tup xs))
def tLst(t:TA):TE:=fun σ H Q=>t σ H fun xs H1=>xs.length<=sizeLine/\∀p,H1 p=none->Q (.ref p) (upd H1 p (.lst xs))
theorem z48{x1}(h:PA X es t):PE X (.Tuple es x1 pos) (tTup t):=by
 intro pins s σ H Q I hq;refine wpAny_Tuple_spliced (thn (h pos pins s σ H _ I hq) fun us s1 ⟨xs,H1,I1,r,z,q⟩=>⟨by rw[<- r.length];exact z,?_⟩);have hf:H1 s1.heap.objs.size=none:=I1.hok.fresh (Nat.le_refl _);refine⟨.ref s1.heap.objs.size,upd H1 s1.heap.objs.size (.tup xs),I1.laid (t':=s1.toks) (fun b u e=>Heap.get?_push_of_some _ e) (Nat.le_refl _) ?_,rfl,q _ hf⟩;exact⟨z,us,r,⟨_,Heap.get?_push_size _ rfl,rfl,_,rfl⟩⟩
theorem z0z(h:PA X es t):PE X (.List es pos) (tLst t):=by
 intro pins s σ H Q I hq;refine wpAny_List_spliced (thn (h pos pins s σ H _ I hq) fun us s1 ⟨xs,H1,I1,r,z,q⟩=>⟨by rw[<- r.length];exact z,?_⟩);have hf:H1 s1.heap.objs.size=none:=I1.hok.fresh (Nat.le_refl _);refine⟨.ref s1.heap.objs.size,upd H1 s1.heap.objs.size (.lst xs),I1.laid (t':=s1.toks) (fun b u e=>Heap.get?_push_of_some _ e) (Nat.le_refl _) ?_,rfl,q _ hf⟩;exact⟨z,us,0,r,Heap.get?_push_size _ rfl⟩
end
abbrev Sp:=List V->Hp->VK->XK->Prop
abbrev CXT:=List Env->Hp->Shared->XK->Value->Shared->Prop
structure Env0(P:Program)(w:World)(K:PySem.W.Frag)(mg:Str->Option Value)(base:Heap)(A:Around)(outer:List Env)(s:Shared)(H:Hp):Prop where
 frames:A.frames=some outer
 mod:Mod K mg base
 bs:∀b o,base.get? b=some o->s.heap.get? b=some o/\H b=none
 bsz:base.objs.size<=s.heap.objs.size
 funs:s.heap.FunFrames base outer
 frf:∀b∈frs outer,H b=none
 hok:HOk P w H s.heap
 bare:AllBare s.gens
def CE(outer:List Env)(P:Program)(w:World)(H:Hp)(s:Shared)(Q:VK)(u:Value)(s':Shared):Prop:=
 ∃v H',s'.os=s.os/\AllBare s'.gens/\Un (frs outer) [] H H' s.heap s'.heap/\HOk P w H' s'.heap/\RelV v u/\Q v H'
def CR(CX:CXT)(outer:List Env)(P:Program)(w:World)(H:Hp)(s:Shared)(Q:VK)(E:XK)(r:Result)(s':Shared):Prop:=
 match r with
 |.ok (.ret u)=>CE outer P w H s Q u s'
 |.ok _=>False
 |.error e=>CX outer H s E e s'
structure FnOk(P:Program)(w:World)(K:PySem.W.Frag)(mg:Str->Option Value)(base:Heap)(CX:CXT)(k:Nat)(f:Addr)(fd:FuncData)(ps:List Str)(sp:Sp):Prop where
 len:∀vs H Q E,sp vs H Q E->vs.length=ps.length
 run:∀(A:Around) (outer:List Env) (s:Shared) (H:Hp) (args:Args) (us:List Value) (vs:List V) (Q:VK) (E:XK),Room k A->Env0 P w K mg base A outer s H->BindsTo s fd args (ps.zip us)->Vals vs us->sp vs H Q E ->
  codeAny (model P w) A (.call (.ref f) args) (CR CX outer P w H s Q E) s
theorem FnOk.mono{P:Program}{w:World}{K:PySem.W.Frag}{mg:Str->Option Value}{base:Heap}{CX:CXT}{j k:Nat}{f:Addr}{fd:FuncData}{ps:List Str}{sp:Sp}(F:FnOk P w K mg base CX j f fd ps sp)(h:j<=k) :
 FnOk P w K mg base CX k f fd ps sp:=⟨F.len,fun A outer s H args us vs Q E hr=>F.run A outer s H args us vs Q E (hr.mono h)⟩
theorem FnOk.imp{P:Program}{w:World}{K:PySem.W.Frag}{mg:Str->Option Value}{base:Heap}{CX:CXT}{k:Nat}{f:Addr}{fd:FuncData}{ps:List Str}{sp sp':Sp}(F:FnOk P w K mg base CX k f fd ps sp)
  (h:∀vs H Q E,sp' vs H Q E->sp vs H Q E):FnOk P w K mg base CX k f fd ps sp':=
 ⟨fun vs H Q E q=>F.len vs H Q E (h _ _ _ _ q),fun A outer s H args us vs Q E hr he hb hv hs=>F.run A outer s H args us vs Q E hr he hb hv (h _ _ _ _ hs)⟩
theorem Env0.make{P:Program}{w:World}{K:PySem.W.Frag}{mg:Str->Option Value}{base:Heap}{A:Around}{outer:List Env}{s:Shared}{H:Hp}(e:Env0 P w K mg base A outer s H)(C:Addr)(us:List Value)(kw:List (Str×Value)) :
 Env0 P w K mg base (A.under (.builtin "type.__call__" ⟨.ref C::us,kw⟩)) outer s H:=⟨by first | exact e.frames | (simpa[Around.under,Code.envs,Code.isFrame,pushEnvs] using e.frames),e.mod,e.bs,e.bsz,e.funs,e.frf,e.hok,e.bare⟩
section
variable {X:Cx}{pins:List (Addr×Obj)}{σ:St}{H:Hp}{s s':Shared}
theorem Inv.env0(I:Inv X pins σ H s):Env0 X.prog X.w X.K X.mg X.base X.A X.stack s H:=
 ⟨I.ok.frames,I.ok.mod,I.bs,Nat.le_trans I.ok.bsz I.sz,I.stack,I.stkFree,I.hok,I.bare⟩
theorem Inv.after{Q:VK}{u:Value}(I:Inv X pins σ H s)(h:CE X.stack X.prog X.w H s Q u s'):EP X pins σ Q u s':=by
 obtain⟨v,H',os,bare,un,hok,r,q⟩:=h;obtain⟨hh,g,d,t,os'⟩:=s';obtain rfl:os'=s.os:=os;exact⟨v,H',I.call (h':=hh) (g':=g) (d':=d) (t':=t) (ch:=[]) un hok bare (fun b z=>absurd z (by simp)),r,q⟩
end
def z49(sp:Sp)(dvs:List V)(E:XK)(t:TA):TE:=fun σ H Q=>t σ H fun vs H1=>sp (vs++dvs) H1 Q E
def z5a(C:Addr)(m:Str)(sp:Sp)(dvs:List V)(E:XK)(ta:TE)(t:TA):TE:=fun σ H Q=>ta σ H fun x H1=>∃a dx fs,x=.ref a/\H1 a=some (.ins C dx fs)/\fs.lookup m=none /\
 t σ H1 fun vs H2=>sp (x::(vs++dvs)) H2 Q E
def z2c(C:Addr)(sp:Sp)(dvs:List V)(E:XK)(t:TA):TE:=fun σ H Q=>t σ H fun vs H1=>∀x dx,H1 x=none->H1 dx=none->dx≠x ->
 sp (.ref x::(vs++dvs)) (upd (upd H1 dx (.own x)) x (.ins C dx [])) (fun v H2=>v=.non/\Q (.ref x) H2) E
def zf6(K:PySem.W.Frag)(fd:FuncData)(ps:List Str)(ds:List Value):Prop:=
 ∀(s:Shared) (us:List Value),K.In s.heap->(us++ds).length=ps.length->BindsTo s fd ⟨us,[]⟩ (ps.zip (us++ds))
theorem zf6.all{K:PySem.W.Frag}{fd:FuncData}{ps:List Str}(h:∀us:List Value,us.length=ps.length->bindArgs fd ⟨us,[]⟩=pure (ps.zip us)):zf6 K fd ps []:=fun s us _ hl=>by
 rw[List.append_nil] at hl ⊢;exact .of_eq (h us hl)
def zeb(CX:CXT)(X:Cx)(E:XK):Prop:=∀(pins:List (Addr×Obj)) (σ:St) (H:Hp) (s:Shared) (e:Value) (s':Shared),Inv X pins σ H s->CX X.stack H s E e s'->X.xe e s'
section
variable {X:Cx}{CX:CXT}{k:Nat}{f C:Addr}{fd:FuncData}{ps:List Str}{sp:Sp}{dvs:List V}{ds:List Value}{E:XK}{x m:Str}{p pos apos:Pos}{e o:Expr}{es:List Expr}{ta:TE}{t:TA}
theorem z00{pins:List (Addr×Obj)}{σ:St}{H:Hp}{s:Shared}{Q:VK}{us:List Value}{vs:List V}(F:FnOk X.prog X.w X.K X.mg X.base CX k f fd ps sp)(hr:Room k X.A)(hb:zf6 X.K fd ps ds)(hd:Vals dvs ds)(hx:zeb CX X E)
  (I:Inv X pins σ H s) (r:Vals vs us) (h:sp (vs++dvs) H Q E):wpAny (model X.prog X.w) X.A (call (.ref f) us) (EP X pins σ Q) X.xe s:=by
 have r2:Vals (vs++dvs) (us++ds):=r.append hd;have hl:(us++ds).length=ps.length:=by rw[<- r2.length];exact F.len _ _ _ _ h
 refine wpAny_call (codeAny_mono (F.run X.A X.stack s H ⟨us,[]⟩ (us++ds) (vs++dvs) Q E hr I.env0 (hb s us I.kIn hl) r2 h) fun r s' hq=>?_);cases r with
 |error e=>exact hx pins σ H s e s' I hq
 | ok fl=>
   cases fl with
   |ret u=>exact I.after hq
   |next=>exact False.elim hq
   |brk=>exact False.elim hq
   |cont=>exact False.elim hq
theorem z2d(F:FnOk X.prog X.w X.K X.mg X.base CX k f fd ps sp)(hr:Room k X.A)(hg:Gl X x)(hm:X.mg x=some (.ref f))(hk:PySem.W.keepIn X.K (.ref f)=true)(hb:zf6 X.K fd ps ds)(hd:Vals dvs ds)(hx:zeb CX X E)
  (ha:PA X (e::es) t) (hdb:(x==("__debug__" : Str))=false:=by decide) (he:starEach (e::es) X.env=(false,eval e X.env)::starEach es X.env:=by rfl) (hpl:(backTo pos (starEach es X.env)).any (·.1)=false:=by rfl) :
  PE X (.Call (.Name x p) (e::es) [] pos) (z49 sp dvs E t):=by
 intro pins s σ H Q I h;refine wpAny_Call_Name_kw (zhd I hg hm ?_ hdb);refine PySem.W.callWith_K (h₀:=X.base) I.ok.mod.kin hk (thn (ha pos pins s σ H _ I h) fun us s1 ⟨vs,H1,I1,r,q⟩=>⟨I1.kIn,?_⟩) he hpl;exact z00 F hr hb hd hx I1 r q
theorem zu9{pl:Sem Bool}(he:PE X o ta)(c:Cls X.K C)(hm:Meth X.K C m f)(F:FnOk X.prog X.w X.K X.mg X.base CX k f fd ps sp)(hr:Room k X.A)(hb:zf6 X.K fd ps ds)(hd:Vals dvs ds)(hx:zeb CX X E)(ha:PA X (e::es) t)
  (hst:starEach (e::es) X.env=(false,eval e X.env)::starEach es X.env:=by rfl) (hpl:(backTo pos (starEach es X.env)).any (·.1)=false:=by rfl)
  (ht:eval (.Call (.Attribute o m apos) (e::es) [] pos) X.env=(do
   let ov <- eval o X.env
   standAt apos.atName
   let (f,first) <- holding [ov] (getMethod ov m pl)
   callWith pos f first (backTo pos (starEach (e::es) X.env)) (backToKw pos (keywordEach [] X.env))):=by rfl) :
  PE X (.Call (.Attribute o m apos) (e::es) [] pos) (z5a C m sp dvs E ta t):=by
 intro pins s σ H Q I h;refine PySem.W.methodCall_KW (pl:=pl) (thn (he pins s σ H _ I h) fun u s1 hq_=>?_) ht;obtain⟨x,H1,I1,rx,a,dx,fs,ex,ea,l,q⟩:=hq_;subst ex;obtain rfl:u=Value.ref a:=rx;refine zmj I1 ea c hm l ?_;refine PySem.W.callWith_K (first:=[.ref a]) (h₀:=X.base) I.ok.mod.kin hm.kp (thn (ha pos pins s1 σ H1 _ I1 q) fun us s2 ⟨vs,H2,I2,r,q2⟩=>⟨I2.kIn,?_⟩) hst hpl;exact z00 (us:=.ref a::us) (vs:=.ref a::vs) F hr hb hd hx I2 (.cons rfl r) q2
structure Mk(K:PySem.W.Frag)(C f:Addr):Prop where
 makes:PySem.W.makesIn K C=true
 init:PySem.W.findIn K (.ref C) "__init__" = some (some (.ref f))
 fn:PySem.W.isFn K (.ref f)=true
 kp:PySem.W.keepIn K (.ref C)=true
theorem zr3{pins:List (Addr×Obj)}{σ:St}{H:Hp}{s:Shared}{Q:VK}{us:List Value}{vs:List V}(M:Mk X.K C f)(F:FnOk X.prog X.w X.K X.mg X.base CX k f fd ps sp)(hr:Room (k+1) X.A)(hb:zf6 X.K fd ps ds)(hd:Vals dvs ds)
  (hx:zeb CX X E) (I:Inv X pins σ H s) (r:Vals vs us)
  (h:∀x dx,H x=none->H dx=none->dx≠x->sp (.ref x::(vs++dvs)) (upd (upd H dx (.own x)) x (.ins C dx [])) (fun v H2=>v=.non/\Q (.ref x) H2) E) :
  wpAny (model X.prog X.w) X.A (call (.ref C) us) (EP X pins σ Q) X.xe s:=by
 have hq:=h (s.heap.objs.size+1) s.heap.objs.size (I.hok.fresh (Nat.le_succ _)) (I.hok.fresh (Nat.le_refl _)) (Nat.ne_of_lt (Nat.lt_succ_self _));have I2:=Inv.made (C:=C) I;have r2:Vals (V.ref (s.heap.objs.size+1)::(vs++dvs)) (Value.ref (s.heap.objs.size+1)::(us++ds)):=.cons rfl (r.append hd);have hl:(Value.ref (s.heap.objs.size+1)::us++ds).length=ps.length:=by
  have e:=r2.length;rw[F.len _ _ _ _ hq] at e;exact e.symm
 refine wpAny_call (zy6 (f:=f) I.kIn M.makes M.init (beq_iff_eq.mp M.fn) (codeAny_mono (F.run _ X.stack _ _ ⟨Value.ref (s.heap.objs.size+1)::us,[]⟩ (Value.ref (s.heap.objs.size+1)::(us++ds)) _ _ E (hr.make C us [])
  (I2.env0.make C us []) (hb _ (Value.ref (s.heap.objs.size+1)::us) I2.kIn hl) r2 hq) fun r s' hq'=>?_))
 cases r with
 |error e=>exact hx pins σ _ _ e s' I2 hq'
 | ok fl=>
   cases fl with
   | ret u=>
     obtain⟨v,H',I3,rv,ev,q3⟩:=I2.after hq';subst ev;exact⟨rv,⟨V.ref (s.heap.objs.size+1),H',I3,rfl,q3⟩⟩
   |next=>exact False.elim hq'
   |brk=>exact False.elim hq'
   |cont=>exact False.elim hq'
theorem z2e(M:Mk X.K C f)(F:FnOk X.prog X.w X.K X.mg X.base CX k f fd ps sp)(hr:Room (k+1) X.A)(hg:Gl X x)(hm:X.mg x=some (.ref C))(hb:zf6 X.K fd ps ds)(hd:Vals dvs ds)(hx:zeb CX X E)
  (ha:PA X (e::es) t) (hdb:(x==("__debug__" : Str))=false:=by decide) (he:starEach (e::es) X.env=(false,eval e X.env)::starEach es X.env:=by rfl) (hpl:(backTo pos (starEach es X.env)).any (·.1)=false:=by rfl) :
  PE X (.Call (.Name x p) (e::es) [] pos) (z2c C sp dvs E t):=by
 intro pins s σ H Q I h;refine wpAny_Call_Name_kw (zhd I hg hm ?_ hdb);refine PySem.W.callWith_K (h₀:=X.base) I.ok.mod.kin M.kp (thn (ha pos pins s σ H _ I h) fun us s1 ⟨vs,H1,I1,r,q⟩=>⟨I1.kIn,?_⟩) he hpl;exact zr3 M F hr hb hd hx I1 r q
theorem zy7(M:Mk X.K C f)(F:FnOk X.prog X.w X.K X.mg X.base CX k f fd ps sp)(hr:Room (k+1) X.A)(hg:Gl X x)(hm:X.mg x=some (.ref C))(hb:zf6 X.K fd ps ds)(hd:Vals dvs ds)(hx:zeb CX X E)
  (hdb:(x==("__debug__" : Str))=false:=by decide):PE X (.Call (.Name x p) [] [] pos) (z2c C sp dvs E tNil):=by
 intro pins s σ H Q I h;refine wpAny_Call_Name_kw (zhd I hg hm ?_ hdb);exact PySem.W.callWith_K0 I.kIn M.kp (zr3 (us:=[]) M F hr hb hd hx I .nil h)
end
structure zax(N P:List Str)(sc:Scope):Prop where
 kind:sc.kind=.function
 co:sc.isCoroutine=false
 gen:sc.isGenerator=false
 nd:N.Nodup
 pre:N.take P.length=P
 par:∀x∈P,sc.names.lookup x=some .local\/sc.names.lookup x=some .cell
 nofree:∀y∈sc.names,y.2≠.free
theorem zon{kindOf:Str->Option NameKind}{x:Str}:∀{binds:List (Str×Value)} {m:Str->Option Value},(∀v,(x,v)∉binds)->bindL kindOf binds m x=m x
 |[],_,_=>rfl
 | (n,v)::r,m,h=>by
   unfold bindL;rw[zon fun w hw=>h w (List.mem_cons_of_mem _ hw)]
   split
   ·have:x≠n:=by rintro rfl;exact h v List.mem_cons_self
    simp[this]
   ·rfl
theorem zoo{kindOf:Str->Option NameKind}{x:Str}:∀{binds:List (Str×Value)} {m:Str->Option Value},(∀v,(x,v)∉binds)->bindC kindOf binds m x=m x
 |[],_,_=>rfl
 | (n,v)::r,m,h=>by
   unfold bindC;rw[zoo fun w hw=>h w (List.mem_cons_of_mem _ hw)]
   split
   ·rfl
   ·have:x≠n:=by rintro rfl;exact h v List.mem_cons_self
    simp[this]
theorem zop{kindOf:Str->Option NameKind}{x:Str}{v:Value}:∀{P:List Str} {vs:List Value} {i:Nat} {m:Str->Option Value},P.Nodup->P[i]?=some x->vs[i]?=some v->kindOf x=some .local ->
  bindL kindOf (P.zip vs) m x=some v
 |[],_,_,_,_,h,_,_=>by simp at h
 |_::_,[],_,_,_,_,h,_=>by simp at h
 | p::P,w::vs,0,m,nd,h1,h2,hk=>by
   simp at h1 h2;subst h1;subst h2;show bindL kindOf ((p,w)::P.zip vs) m p=_;unfold bindL;rw[zon fun v hv=>(List.nodup_cons.mp nd).1 (List.of_mem_zip hv).1,if_pos hk];simp
 | p::P,w::vs,i+1,m,nd,h1,h2,hk=>by
   show bindL kindOf ((p,w)::P.zip vs) m x=_;unfold bindL;exact zop (i:=i) (List.nodup_cons.mp nd).2 (by simpa using h1) (by simpa using h2) hk
theorem zoq{kindOf:Str->Option NameKind}{x:Str}{v:Value}:∀{P:List Str} {vs:List Value} {i:Nat} {m:Str->Option Value},P.Nodup->P[i]?=some x->vs[i]?=some v->kindOf x≠some .local ->
  bindC kindOf (P.zip vs) m x=some v
 |[],_,_,_,_,h,_,_=>by simp at h
 |_::_,[],_,_,_,_,h,_=>by simp at h
 | p::P,w::vs,0,m,nd,h1,h2,hk=>by
   simp at h1 h2;subst h1;subst h2;show bindC kindOf ((p,w)::P.zip vs) m p=_;unfold bindC;rw[zoo fun v hv=>(List.nodup_cons.mp nd).1 (List.of_mem_zip hv).1,if_neg hk];simp
 | p::P,w::vs,i+1,m,nd,h1,h2,hk=>by
   show bindC kindOf ((p,w)::P.zip vs) m x=_;unfold bindC;exact zoq (i:=i) (List.nodup_cons.mp nd).2 (by simpa using h1) (by simpa using h2) hk
def start(N:List Str)(vs:List V):St:=vs.map some++List.replicate (N.length-vs.length) none
def cxOf(CX:CXT)(P:Program)(w:World)(K:PySem.W.Frag)(mg:Str->Option Value)(base:Heap)(N:List Str)(qual:Str)(scope:Scope)(f:Addr)(cd:Value)(A:Around)(outer:List Env)(s:Shared)(H:Hp)(E:XK):Cx where
 prog:=P
 w:=w
 K:=K
 mg:=mg
 base:=base
 A:=A.deeper (envOfC qual scope s.heap.objs.size f cd)
 N:=N
 s₀:=s
 H₀:=H
 env:=envOfC qual scope s.heap.objs.size f cd
 outer:=outer
 stack:=envOfC qual scope s.heap.objs.size f cd::outer
 ex:=[]
 calm:=true
 fn:=fun _=>true
 pn:=[]
 xe:=fun e s'=>wpAny (model P w) (A.deeper (envOfC qual scope s.heap.objs.size f cd)) (leaving (envOfC qual scope s.heap.objs.size f cd) e) (fun _ s''=>CX outer H s E e s'') (fun e' s''=>CX outer H s E e' s'') s'
theorem zr4{sc:Scope}{n:Nat}{x:Str}(h:sc.names.lookup x=some .cell):∃c,(cellsFrom n sc.names []).lookup x=some c:=by
 have q:=PySem.W.cellsFrom_some sc.names n [] (.inl h);exact Option.isSome_iff_exists.mp q
theorem zva{CX:CXT}{P:Program}{w:World}{K:PySem.W.Frag}{mg:Str->Option Value}{base:Heap}{N ps:List Str}{qual:Str}{scope:Scope}{f:Addr}{cd:Value}{A:Around}{outer:List Env}{s s1:Shared}{H:Hp}{E:XK}{us:List Value}{vs:List V}
  (S:zax N ps scope) (hd:A.handled=none) (e0:Env0 P w K mg base A outer s H) (hl:vs.length=ps.length) (r:Vals vs us)
  (x:InCallC s s.heap.objs.size (bindL (envOfC qual scope s.heap.objs.size f cd).kindOf (ps.zip us) fun _=>none) (cellsFrom (s.heap.objs.size+1) scope.names []) (bindC (envOfC qual scope s.heap.objs.size f cd).kindOf (ps.zip us) fun _=>none) s1) :
  Inv (cxOf CX P w K mg base N qual scope f cd A outer s H E) [] (start N vs) H s1:=by
 have hpl:ps.length<=N.length:=by have:=congrArg List.length S.pre;rw[List.length_take] at this;omega
 obtain⟨h1,tk,rfl,hk⟩:=x.done;have noA:∀b:Addr,b∉(cxOf CX P w K mg base N qual scope f cd A outer s H E).ex:=fun b z=>absurd (show b∈([]:List Addr) from z) (by simp);refine⟨⟨e0.mod,S.kind,rfl,rfl,Nat.le_refl _,fun y z c h1 h2=>?_,fun y hy=>?_,fun y c _ h=>?_,fun _=>hd,Around.frames_deeper e0.frames,.inr ⟨rfl,rfl⟩,fun b z=>absurd z (noA b),e0.bs,e0.bsz,fun b _ _=>noA b,fun b z=>absurd z (noA b),e0.funs,e0.frf⟩,
  rfl,e0.bare,Un.kept hk,⟨_,x.toInCall.ns,fun i y v h1 h2 h3=>?_⟩,fun y c h=>⟨_,x.cell y c h⟩,e0.hok.fresh (Nat.le_refl _),fun y c h=>?_,fun p hp=>absurd (show p∈([]:List (Addr×Obj)) from hp) (by simp),e0.hok.kept hk,?_,fun i v e=>nomatch (show(none:Option (Option V))=some (some v) from e)⟩
 ·exact name_of_addr x.apart (PySem.mem_of_lookup h1) (PySem.mem_of_lookup h2)
 ·have hy:scope.names.lookup y=some .cell\/scope.names.lookup y=some .free:=hy
  rcases hy with hy | hy
  ·exact zr4 hy
  ·exact absurd rfl (S.nofree _ (PySem.mem_of_lookup hy))
 ·exact Nat.le_of_lt (x.above y c (PySem.mem_of_lookup h))
 ·have hi:i<vs.length:=by
   unfold start at h2;by_cases hi:i<vs.length
   ·exact hi
   ·rw[List.getElem?_append_right (by simpa using hi)] at h2
    rw[List.getElem?_replicate] at h2
    split at h2<;>cases h2
  have ha:vs[i]?=some v:=by
   unfold start at h2;rw[List.getElem?_append_left (by simpa using hi),List.getElem?_map] at h2;cases e:vs[i]? with
   |none=>rw[e] at h2;cases h2
   |some a=>rw[e] at h2;cases h2;rfl
  obtain⟨u,hu,rv⟩:=r.get ha;have hp:ps[i]?=some y:=by
   rw[<- S.pre,List.getElem?_take_of_lt (by omega)];exact h1
  have ndP:ps.Nodup:=by rw[<- S.pre];exact S.nd.sublist (List.take_sublist _ _)
  refine⟨u,rv,?_⟩;rcases S.par y (List.mem_of_getElem? hp) with k | k
  ·exact .inl ⟨k,zop ndP hp hu k⟩
  ·obtain⟨c,e⟩:=zr4 (n:=s.heap.objs.size+1) k
   refine .inr ⟨.inl k,c,e,?_⟩;have q:=x.cell y c e;rw[zoq ndP hp hu (by show scope.names.lookup y≠_;rw[k];decide)] at q;exact q
 ·exact e0.hok.fresh (Nat.le_of_lt (x.above y c (PySem.mem_of_lookup h)))
 ·unfold start
  show _=N.length;rw[List.length_append,List.length_map,List.length_replicate];omega
theorem z8f{CX:CXT}{P:Program}{w:World}{K:PySem.W.Frag}{mg:Str->Option Value}{base:Heap}{k:Nat}{f:Addr}{name qual:Str}{params:Arguments}{body:List Stmt}{scope:Scope}{dV kV doc pm cdv ct oc:Value}{an od:Option Addr}
  {osl:Array (Option Value)} {N ps:List Str} {sp:Sp} (lk:K.lookup f=some ⟨oc,od,.func (PySem.W.fnOf name qual params body scope dV kV doc pm an cdv ct),osl⟩) (hcd:PySem.W.codeIn K cdv qual=true) (S:zax N ps scope)
  (len:∀vs H Q E,sp vs H Q E->vs.length=ps.length)
  (hbody:∀(A:Around) (outer:List Env) (s:Shared) (H:Hp) (vs:List V) (Q:VK) (E:XK),Room k (A.deeper (envOfC qual scope s.heap.objs.size f cdv))->sp vs H Q E ->
   ∃t,PSs (cxOf CX P w K mg base N qual scope f cdv A outer s H E) body t/\t { nx:=fun _ H'=>Q .non H',rt:=Q } (start N vs) H) :
  FnOk P w K mg base CX (k+1) f (PySem.W.fnOf name qual params body scope dV kV doc pm an cdv ct) ps sp:=by
 refine⟨len,fun A outer s H args us vs Q E hr e0 hb r hsp=>?_⟩;have hl:=len _ _ _ _ hsp;have KX:K.In s.heap:=e0.mod.kin.keeps fun b o e=>(e0.bs b o e).1;have lim:s.heap.NoLimit:=e0.mod.nolimit.keeps fun b o e=>(e0.bs b o e).1;have hkind:∀y∈ps.zip us,scope.names.lookup y.1=some .local\/(scope.names.lookup y.1=some .cell/\((cellsFrom (s.heap.objs.size+1) scope.names []).lookup y.1).isSome=true):=fun⟨n,v⟩ hy=>by
  rcases S.par n (List.of_mem_zip hy).1 with q | q
  ·exact .inl q
  ·exact .inr ⟨q,PySem.W.cellsFrom_some _ _ _ (.inl q)⟩
 refine codeAny_call_function hr.depth (KX _ _ lk) rfl S.co S.gen rfl (PySem.W.codeRec_of KX hcd) (hb _ _ _ _ ?_);refine wpAny_newFunctionEnv_cells S.kind hkind fun env he s1 x=>?_;subst he;refine⟨lim.keeps x.toInCall.keep,codeAny_func ?_⟩;obtain⟨t,ht,hq⟩:=hbody A outer s H vs Q E (hr.deeper _) hsp;have I:Inv (cxOf CX P w K mg base N qual scope f cdv A outer s H E) [] (start N vs) H s1:=zva S hr.hd e0 hl r x;refine wpAny_mono (ht [] s1 (start N vs) H _ I hq) (fun fl s' hs=>?_) fun e s' hs=>hs;have fin:∀{σ':St} {H':Hp} {v:V} {u:Value},Inv (cxOf CX P w K mg base N qual scope f cdv A outer s H E) [] σ' H' s'->RelV v u->Q v H'->CE outer P w H s Q u s':=
  fun {σ' H' v u} J rv q=>⟨v,H',J.os,J.bare,J.base,J.hok,rv,q⟩
 cases fl with
 | ret u=>
   obtain⟨v,σ',H',J,rv,q⟩:=hs;exact fin J rv q
 | next=>
   obtain⟨σ',H',J,q⟩:=hs;exact fin (v:=V.non) (u:=Value.none) J rfl q
 | brk=>
   obtain⟨_,_,_,q⟩:=hs;exact False.elim q
 | cont=>
   obtain⟨_,_,_,q⟩:=hs;exact False.elim q
end L2
namespace L2
open PySem PySem.Spec PyProof.Rows
section
variable {X:Cx}{x:Str}{p pos:Pos}{e:Expr}{es:List Expr}{t:TA}{id T:String}{r:List V->Hp->VK->Prop}
def tCB(r:List V->Hp->VK->Prop)(t:TA):TE:=fun σ H Q=>t σ H fun vs H1=>r vs H1 Q
theorem zkf(hc:zh7 X (.builtin id) r)(hg:Gl X x)(hm:X.mg x=none)(hv:bootBuiltins x=some (.builtin id))(ha:PA X (e::es) t)(hn:x ≠ "__name__":=by decide)(hdb:(x==("__debug__" : Str))=false:=by decide)
  (he:starEach (e::es) X.env=(false,eval e X.env)::starEach es X.env:=by rfl) (hpl:(backTo pos (starEach es X.env)).any (·.1)=false:=by rfl):PE X (.Call (.Name x p) (e::es) [] pos) (tCB r t):=by
 intro pins s σ H Q I h;refine wpAny_Call_Name_kw (zhe I hg hm hv ?_ hn hdb);exact PyProof.Rows.callWith_builtin1 (thn (ha pos pins s σ H _ I h) fun us s1 ⟨vs,H1,I1,r1,q1⟩=>hc pins s1 σ H1 vs us Q I1 r1 q1) he hpl
theorem zor(hc:zh7 X (.type T) r)(hg:Gl X x)(hm:X.mg x=none)(hv:bootBuiltins x=some (.type T))(ha:PA X (e::es) t)(hn:x ≠ "__name__":=by decide)(hdb:(x==("__debug__" : Str))=false:=by decide)
  (he:starEach (e::es) X.env=(false,eval e X.env)::starEach es X.env:=by rfl) (hpl:(backTo pos (starEach es X.env)).any (·.1)=false:=by rfl):PE X (.Call (.Name x p) (e::es) [] pos) (tCB r t):=by
 intro pins s σ H Q I h;refine wpAny_Call_Name_kw (zhe I hg hm hv ?_ hn hdb);exact PyProof.Rows.callWith_type1 (thn (ha pos pins s σ H _ I h) fun us s1 ⟨vs,H1,I1,r1,q1⟩=>hc pins s1 σ H1 vs us Q I1 r1 q1) he hpl
end
end L2
namespace L2
open PySem PySem.Spec PyProof.Rows
section
variable {κ:Type}[DecidableEq κ]
def valV(kvs:List (κ×V))(k:κ):Option V:=(kvs.find? fun kv=>decide (kv.1=k)).map (·.2)
def putK(kvs:List (κ×V))(k:κ)(v:V):List (κ×V):=
 if(kvs.any fun kv=>decide (kv.1=k))=true then kvs.map (fun kv=>if kv.1=k then(kv.1,v) else kv) else kvs++[(k,v)]
theorem zkg{p:κ×V}{r:List (κ×V)}{k:κ}(e:p.1=k):valV (p::r) k=some p.2:=by simp[valV,List.find?_cons,e]
theorem zkh{p:κ×V}{r:List (κ×V)}{k:κ}(e:¬p.1=k):valV (p::r) k=valV r k:=by simp[valV,List.find?_cons,e]
theorem zr5(k:κ):∀kvs:List (κ×V),(kvs.any fun kv=>decide (kv.1=k))=(valV kvs k).isSome
 |[]=>rfl
 | p::r=>by
   rw[List.any_cons];by_cases e:p.1=k
   ·simp only[zkg e,decide_eq_true e,Bool.true_or,Option.isSome_some]
   ·rw[zkh e,decide_eq_false e,Bool.false_or];exact zr5 k r
theorem zig(kvs:List (κ×V))(k:κ)(v:V):(putK kvs k v).length<=kvs.length+1:=by
 unfold putK
 split
 ·rw[List.length_map];omega
 ·rw[List.length_append,List.length_cons,List.length_nil];omega
theorem RelO.isSome_eq{o:Option V}{u:Option Value}(r:RelO o u):o.isSome=u.isSome:=by
 cases o with
 | none=>cases u with
   |none=>rfl
   |some _=>exact(show False from r).elim
 | some _=>cases u with
   |none=>exact(show False from r).elim
   |some _=>rfl
theorem KV.val{kvs:List (κ×V)}{vs:List (κ×Value)}(r:KV kvs vs)(k:κ):RelO (valV kvs k) (valueAt vs k):=by
 unfold KV at r
 induction r with
 |nil=>exact True.intro
 | @cons p q ps qs h t ih=>
   obtain⟨h1,h2⟩:=h;by_cases e:p.1=k
   ·have e':q.1=k:=h1.symm.trans e
    have b:valueAt (q::qs) k=some q.2:=by simp[valueAt,List.find?_cons,e']
    rw[zkg e,b];exact h2
   ·have e':¬q.1=k:=fun z=>e (h1.trans z)
    have b:valueAt (q::qs) k=valueAt qs k:=by simp[valueAt,List.find?_cons,e']
    rw[zkh e,b];exact ih
theorem KV.any{kvs:List (κ×V)}{vs:List (κ×Value)}(r:KV kvs vs)(k:κ):(kvs.any fun kv=>decide (kv.1=k))=vs.any fun kv=>decide (kv.1=k):=by
 unfold KV at r
 induction r with
 |nil=>rfl
 |cons h t ih=>rw[List.any_cons,List.any_cons,ih,h.1]
theorem KV.repl{kvs:List (κ×V)}{vs:List (κ×Value)}(r:KV kvs vs)(k:κ){y:V}{u:Value}(ry:RelV y u) :
  KV (kvs.map fun kv=>if kv.1=k then(kv.1,y) else kv) (vs.map fun kv=>if kv.1=k then(kv.1,u) else kv):=by
 unfold KV at r ⊢
 induction r with
 |nil=>exact .nil
 | @cons p q ps qs h t ih=>
   rw[List.map_cons,List.map_cons];refine .cons ?_ ih;obtain⟨h1,h2⟩:=h;by_cases e:p.1=k
   ·rw[if_pos e,if_pos (h1.symm.trans e)];exact⟨h1,ry⟩
   ·rw[if_neg e,if_neg (fun z=>e (h1.trans z))];exact⟨h1,h2⟩
theorem KV.put{kvs:List (κ×V)}{vs:List (κ×Value)}(r:KV kvs vs)(k:κ){y:V}{u:Value}(ry:RelV y u):KV (putK kvs k y) (stored vs k u):=by
 unfold putK stored;rw[r.any k];by_cases e:(vs.any fun kv=>decide (kv.1=k))=true
 ·rw[if_pos e,if_pos e];exact r.repl k ry
 ·rw[if_neg e,if_neg e];exact Paired.snoc r ⟨rfl,ry⟩
theorem KV.length{kvs:List (κ×V)}{vs:List (κ×Value)}(r:KV kvs vs):kvs.length=vs.length:=Paired.length r
end
theorem ztr{P:Program}{w:World}{k:Key}{u:Value}(r:RelV (kV k) u):(za5 P w).is k u=true:=by
 cases k with
 |inl i=>obtain⟨t,e⟩:=(show∃t,u=Value.int i t from r);subst e;exact zqj P w i t
 |inr x=>obtain⟨t,e⟩:=(show∃t,u=Value.str x t from r);subst e;exact zqk P w x t
theorem zos{P:Program}{w:World}:∀{ks:List Key} {us:List Value},Vals (ks.map kV) us->ItemsAre (za5 P w) ks us
 |[],_,r=>by rw[List.map_nil] at r;cases r;exact .nil
 | k::ks,_,r=>by
   rw[List.map_cons] at r;cases r with
   |cons h t=>exact .cons (ztr h) (zos t)
abbrev KT(H:Hp):List (List Key×V)->List (List Key×Addr×Value)->Prop:=Paired fun p q=>p.1=q.1/\H q.2.1=some (.tup (p.1.map kV))/\RelV p.2 q.2.2
theorem KT.val{H:Hp}{kvs:List (List Key×V)}{xs:List (List Key×Addr×Value)}(r:KT H kvs xs)(k:List Key):RelO (valV kvs k) ((atKey xs k).map (·.2)):=by
 induction r with
 |nil=>exact True.intro
 | @cons p q ps qs h t ih=>
   obtain⟨h1,_,h2⟩:=h;by_cases e:p.1=k
   ·have e':q.1=k:=h1.symm.trans e
    have b:atKey (q::qs) k=some q.2:=by simp[atKey,List.find?_cons,e']
    rw[zkg e,b];exact h2
   ·have e':¬q.1=k:=fun z=>e (h1.trans z)
    have b:atKey (q::qs) k=atKey qs k:=by simp[atKey,List.find?_cons,e']
    rw[zkh e,b];exact ih
theorem KT.repl{H:Hp}{kvs:List (List Key×V)}{xs:List (List Key×Addr×Value)}(r:KT H kvs xs)(k:List Key){y:V}{u:Value}(ry:RelV y u) :
  KT H (kvs.map fun kv=>if kv.1=k then(kv.1,y) else kv) (xs.map (putAt k u)):=by
 induction r with
 |nil=>exact .nil
 | @cons p q ps qs h t ih=>
   rw[List.map_cons,List.map_cons];refine .cons ?_ ih;obtain⟨h1,h2,h3⟩:=h;unfold putAt;by_cases e:p.1=k
   ·rw[if_pos e,if_pos (h1.symm.trans e)];exact⟨h1,h2,ry⟩
   ·rw[if_neg e,if_neg (fun z=>e (h1.trans z))];exact⟨h1,h2,h3⟩
theorem KT.put{H:Hp}{kvs:List (List Key×V)}{xs:List (List Key×Addr×Value)}(r:KT H kvs xs)(k:List Key){b:Addr}{y:V}{u:Value}(hb:H b=some (.tup (k.map kV)))(ry:RelV y u) :
  KT H (putK kvs k y) (storedH xs k b u):=by
 have e:(kvs.any fun kv=>decide (kv.1=k))=(atKey xs k).isSome:=by
  rw[zr5,(r.val k).isSome_eq,Option.isSome_map]
 unfold putK storedH;rw[e];by_cases q:(atKey xs k).isSome=true
 ·rw[if_pos q,if_pos q];exact r.repl k ry
 ·rw[if_neg q,if_neg q];exact Paired.snoc r ⟨rfl,hb,ry⟩
theorem KT.keeps{H H':Hp}{kvs:List (List Key×V)}{xs:List (List Key×Addr×Value)}(r:KT H kvs xs)(ht:∀b ys,H b=some (.tup ys)->H' b=some (.tup ys)):KT H' kvs xs:=
 Paired.mapP r fun _ _ z=>⟨z.1,ht _ _ z.2.1,z.2.2⟩
section
variable {P:Program}{w:World}{H:Hp}{h:Heap}{a:Addr}
theorem z5b{u:HO}(ok:HOk P w H h)(e:Rd H a u):zc0 P w H h a u:=e.ok ok
theorem znb{kvs:List (Key×V)}(ok:HOk P w H h)(e:Rd H a (.dK kvs)):kvs.length<=sizeLine/\(a==sysModules)=false/\∃vs,KV kvs vs/\h.DictOf (za5 P w) a vs:=
 show zc0 P w H h a (.dK kvs) from z5b ok e
theorem z5c{kvs:List (Key×V)}(ok:HOk P w H h)(e:H a=some (.dK kvs)):kvs.length<=sizeLine/\(a==sysModules)=false/\∃vs,KV kvs vs/\h.DictOf (za5 P w) a vs:=znb ok (.inl e)
theorem zot{ks:List Key}(ok:HOk P w H h)(e:H a=some (.tup (ks.map kV))):(tupleKind (za5 P w)).is h ks a:=by
 obtain⟨_,its,r,o,h1,h2,n,h3⟩:=(show zc0 P w H h a (.tup (ks.map kV)) from ok a _ e);exact⟨o,its.toArray,n,h1,h2,h3,by simpa using zos r⟩
theorem zts{kvs:List (List Key×V)}(ok:HOk P w H h)(e:Rd H a (.dT kvs)):kvs.length<=sizeLine/\(a==sysModules)=false /\
  ∃xs,KT H kvs xs/\h.DictOfH (tupleKind (za5 P w)) a xs:=by
 obtain⟨z,y,xs,r,o,es,ep,h1,h2,h3,h4,h5⟩:=(show zc0 P w H h a (.dT kvs) from z5b ok e);refine⟨z,y,xs,r,o,es,ep,h1,h2,h3,h4,fun x hx=>?_,h5⟩;have all:∀{l:List (List Key×V)} {m:List (List Key×Addr×Value)},KT H l m->∀x∈m,(tupleKind (za5 P w)).is h x.1 x.2.1:=by
  intro l m q
  induction q with
  |nil=>intro x hx;exact nomatch hx
  | @cons p q ps qs hq t ih=>
    intro x hx;rcases List.mem_cons.mp hx with e | hx
    ·subst e
     exact zot ok (by rw[<- hq.1];exact hq.2.1)
    ·exact ih x hx
 exact all r x hx
theorem z8g{kvs:List (List Key×V)}(ok:HOk P w H h)(e:H a=some (.dT kvs)):kvs.length<=sizeLine/\(a==sysModules)=false /\
 ∃xs,KT H kvs xs/\h.DictOfH (tupleKind (za5 P w)) a xs:=zts ok (.inl e)
end
def DGet(H:Hp)(a:Addr)(y:V)(r:Option V):Prop:=
 (∃kvs k,Rd H a (.dK kvs)/\y=kV k/\r=valV kvs k)\/∃kvs k b,Rd H a (.dT kvs)/\y=.ref b/\H b=some (.tup (k.map kV))/\r=valV kvs k
def DPut(H:Hp)(a:Addr)(y v:V)(H':Hp):Prop:=
 (∃kvs k,H a=some (.dK kvs)/\y=kV k/\kvs.length<sizeLine/\H'=upd H a (.dK (putK kvs k v))) \/
 ∃kvs k b,H a=some (.dT kvs)/\y=.ref b/\H b=some (.tup (k.map kV))/\kvs.length<sizeLine/\H'=upd H a (.dT (putK kvs k v))
section
variable {X:Cx}{pins:List (Addr×Obj)}{σ:St}{H:Hp}{s:Shared}{a:Addr}{y v:V}{u r:Value}{o:Option V}{A:Around}{E:Value->Shared->Prop}
theorem Inv.big(I:Inv X pins σ H s):sysModules<s.heap.objs.size:=by
 have h:mainGlobals<s.heap.objs.size:=(I.mod.glob.keeps I.bk).lt;exact Nat.lt_trans (by decide) h
theorem zvb{Q:Value->Shared->Prop}(hu:A.units+1<cLine)(I:Inv X pins σ H s)(g:DGet H a y (some v))(ry:RelV y u)(h:∀w' s',Inv X pins σ H s'->RelV v w'->Q w' s') :
  wpAny (model X.prog X.w) A (getItem (.ref a) u) Q E s:=by
 rcases g with⟨kvs,k,e,ey,l⟩ | ⟨kvs,k,b,e,ey,eb,l⟩
 ·subst ey
  obtain⟨z,hd,vs,rel,dd⟩:=znb I.hok e;obtain⟨w',hw,rw'⟩:=RelO.some_of (v:=v) (o:=valueAt vs k) (by rw[l];exact rel.val k);exact wpAny_getItem_of (ztr ry) dd.mapOf hw (h w' _ (I.tok _) rw')
 ·subst ey
  cases (show u=Value.ref b from ry);obtain⟨z,hd,xs,rel,dd⟩:=zts I.hok e;obtain⟨w',hw,rw'⟩:=RelO.some_of (v:=v) (o:=(atKey xs k).map (·.2)) (by rw[l];exact rel.val k);obtain⟨p,hp,hp2⟩:=Option.map_eq_some_iff.mp hw;refine wpAny_getItem_heap (tupleKind_room_in1 hu) (zot I.hok eb) dd hp ?_;rw[hp2];exact h w' _ (I.tok _) rw'
theorem d_in{Q:Value->Shared->Prop}(hu:A.units+1<cLine)(I:Inv X pins σ H s)(g:DGet H a y o)(ry:RelV y u)(h:∀s',Inv X pins σ H s'->Q (.bool o.isSome) s') :
  wpAny (model X.prog X.w) A (compareOp .In u (.ref a)) Q E s:=by
 rcases g with⟨kvs,k,e,ey,l⟩ | ⟨kvs,k,b,e,ey,eb,l⟩
 ·subst ey
  obtain⟨z,hd,vs,rel,dd⟩:=znb I.hok e;refine wpAny_in_of (ztr ry) hd dd.mapOf ?_;rw[<- (rel.val k).isSome_eq,<- l];exact h _ (I.tok _)
 ·subst ey
  cases (show u=Value.ref b from ry);obtain⟨z,hd,xs,rel,dd⟩:=zts I.hok e;refine wpAny_in_heap (tupleKind_room_in1 hu) (zot I.hok eb) hd dd ?_;have q:=(rel.val k).isSome_eq;rw[Option.isSome_map] at q;rw[<- q,<- l];exact h _ (I.tok _)
theorem z2f{Q:Value->Shared->Prop}(hu:A.units+1<cLine)(I:Inv X pins σ H s)(g:DGet H a y o)(ry:RelV y u)(h:∀s',Inv X pins σ H s'->Q (.bool (!o.isSome)) s') :
  wpAny (model X.prog X.w) A (compareOp .NotIn u (.ref a)) Q E s:=by
 rcases g with⟨kvs,k,e,ey,l⟩ | ⟨kvs,k,b,e,ey,eb,l⟩
 ·subst ey
  obtain⟨z,hd,vs,rel,dd⟩:=znb I.hok e;refine wpAny_notIn_of (ztr ry) hd dd.mapOf ?_;rw[<- (rel.val k).isSome_eq,<- l];exact h _ (I.tok _)
 ·subst ey
  cases (show u=Value.ref b from ry);obtain⟨z,hd,xs,rel,dd⟩:=zts I.hok e;refine wpAny_notIn_heap (tupleKind_room_in1 hu) (zot I.hok eb) hd dd ?_;have q:=(rel.val k).isSome_eq;rw[Option.isSome_map] at q;rw[<- q,<- l];exact h _ (I.tok _)
theorem zqm{h':Heap}{t':Nat}{ob:HO}(I:Inv X pins σ H s)(mu:Mut (H a))(hs:Heap.SameBut a s.heap h')(he:∃q,h'.get? a=some q)(new:zc0 X.prog X.w (upd H a ob) h' a ob) :
  Inv X pins σ (upd H a ob) { s with heap:=h',toks:=t' }:=
 I.write (x:=a) (e:=a) mu (.inl rfl) (fun b q hb z=>(hs.2 b hb).trans z) he new
theorem z01{P:Program}{w:World}{H':Hp}{h':Heap}{kvs:List (Key×V)}{vs:List (Key×Value)}(z:kvs.length<=sizeLine)(hd:(a==sysModules)=false)(rel:KV kvs vs)(dd:h'.DictOf (za5 P w) a vs) :
 zc0 P w H' h' a (.dK kvs):=⟨z,hd,vs,rel,dd⟩
theorem zvc{H':Hp}{Q:Unit->Shared->Prop}(hu:A.units+1<cLine)(I:Inv X pins σ H s)(g:DPut H a y v H')(ry:RelV y u)(rv:RelV v r)(h:∀s',Inv X pins σ H' s'->Q () s') :
  wpAny (model X.prog X.w) A (setItem (.ref a) u r) Q E s:=by
 rcases g with⟨kvs,k,e,ey,l,eH⟩ | ⟨kvs,k,b,e,ey,eb,l,eH⟩
 ·subst ey eH
  obtain⟨z,hd,vs,rel,dd⟩:=z5c I.hok e;have hz:vs.length<=sizeLine:=by rw[<- rel.length];exact z
  have hl:(putK kvs k v).length<=sizeLine:=by have:=zig kvs k v;omega
  refine wpAny_setItem_pairs (hsz:=hz) (ztr ry) dd fun h' dd' hs=>h _ ?_;have he:∃q,h'.get? a=some q:=let ⟨q,_,_,hq,_⟩:=dd';⟨q,hq⟩;exact zqm I (by rw[e];exact True.intro) hs he (z01 hl hd (rel.put k rv) dd')
 ·subst ey eH
  cases (show u=Value.ref b from ry);obtain⟨z,hd,xs,rel,dd⟩:=z8g I.hok e;have hz:xs.length<=sizeLine:=by rw[<- Paired.length rel];exact z
  have hl:(putK kvs k v).length<=sizeLine:=by have:=zig kvs k v;omega
  refine wpAny_setItem_heap (hsz:=hz) (tupleKind_room_in1 hu) (zot I.hok eb) dd fun h' dd' hs=>h _ ?_;obtain⟨q,es,ep,hq,h2,h3,h4,_,h5⟩:=dd';refine zqm I (by rw[e];exact True.intro) hs ⟨q,hq⟩ ⟨hl,hd,_,(rel.put k eb rv).keeps fun c ys ec=>?_,q,es,ep,hq,h2,h3,h4,h5⟩;rw[zag (z73 ec e (fun z=>nomatch z))];exact ec
end
section
variable {X:Cx}{pins:List (Addr×Obj)}{σ:St}{H:Hp}{s:Shared}{a:Addr}{kvs:List (Key×V)}{k:Key}{u:Value}{A:Around}{E:Value->Shared->Prop}
theorem z8h{Q:Value->Shared->Prop}(I:Inv X pins σ H s)(e:Rd H a (.dK kvs))(h:∀t s',Inv X pins σ H s'->Q (.int kvs.length t) s'):wpAny (model X.prog X.w) A (call (.builtin "len") [.ref a]) Q E s:=by
 obtain⟨z,hd,vs,rel,dd⟩:=znb I.hok e;refine call_len_dict hd dd (by rw[<- rel.length];rw[sizeLine_eq] at z;omega) ?_;rw[<- rel.length];exact h _ _ (I.tok _)
end
def NoSl(i:Expr):Prop:=∀ov iv,subscripted i false ov iv=operate [ov,iv] (getItem ov iv)
theorem z2g{prog:Program}{w:World}{A:Around}{E:Value->Shared->Prop}{s:Shared}{env:Env}{value slice:Expr}{pos:Pos}{T id:String}{Q:Value->Shared->Prop}
  (hl:typeLookup (.type T) "__getitem__" = pure (some (.builtin id))) (hs:NoSl slice)
  (h:wpAny (model prog w) A (eval value env) (fun o s₁=>wpAny (model prog w) A (eval slice env) (fun i s₂=>s₂.TypeIs o T/\wpAny (model prog w) A (getItem o i) Q E s₂) E s₁) E s) :
  wpAny (model prog w) A (eval (.Subscript value slice pos) env) Q E s:=by
 refine Subscript_ (wpAny_mono h (fun o s₁ h₁=>wpAny_mono h₁ (fun i s₂ h₂=>?_) fun _ _ x=>x) fun _ _ x=>x);obtain⟨hT,h₂⟩:=h₂;unfold subscriptTail;refine wpAny_bind ?_;rw[getitemInPython_of_ne hT.not_modules];refine wpAny_bind (wpAny_specialOf hT hl ?_);have fin:wpAny (model prog w) A (subscripted slice false o i) (fun r s₃=>wpAny (model prog w) A (letTemporaryGo value o r >>= fun _=>pure r) Q E s₃) E s₂:=by
  rw[hs o i];exact wpAny_operating (wpAny_mono h₂ (fun r s₃ h₃=>wpAny_bind (wpAny_letTemporaryGo (wpAny_pure h₃))) fun _ _ x=>x)
 first
  |exact wpAny_pure (wpAny_bind fin)
  |exact wpAny_bind (wpAny_pure (wpAny_bind fin))
  |exact wpAny_bind fin
theorem zqn{X:Cx}{pins:List (Addr×Obj)}{σ:St}{H:Hp}{s:Shared}{a:Addr}{y:V}{o:Option V}(I:Inv X pins σ H s)(g:DGet H a y o):s.TypeIs (.ref a) "dict":=by
 rcases g with⟨kvs,k,e,_,_⟩ | ⟨kvs,k,b,e,_,_,_⟩
 ·obtain⟨_,_,vs,_,dd⟩:=znb I.hok e
  exact dd.typeIs
 ·obtain⟨_,_,xs,_,dd⟩:=zts I.hok e
  exact dd.typeIs
def z8i(td ty:TE):TE:=fun σ H Q=>td σ H fun x H1=>ty σ H1 fun y H2=>∃a v,x=.ref a/\DGet H2 a y (some v)/\Q v H2
def z2h(ty td:TE):TE:=fun σ H Q=>ty σ H fun y H1=>td σ H1 fun x H2=>∃a o,x=.ref a/\DGet H2 a y o/\Q (.bl (!o.isSome)) H2
def z8j(td ty tv:TE):TS:=fun D σ H=>tv σ H fun v H1=>td σ H1 fun x H2=>ty σ H2 fun y H3=>∃a H4,x=.ref a/\DPut H3 a y v H4/\D.nx σ H4
section
variable {X:Cx}{o i e value:Expr}{pos pos' tpos:Pos}{td ty tv:TE}
theorem z2i(hu:X.A.units+1<cLine)(ho:PE X o td)(hi:PE X i ty)(hs:NoSl i):PE X (.Subscript o i pos) (z8i td ty):=by
 intro pins s σ H Q I h;refine z2g PySem.F.slot_dict_getitem.lookup hs (thn (ho pins s σ H _ I h) fun u s1 hq_=>?_);obtain⟨x,H1,I1,rx,q1⟩:=hq_;refine thn (hi pins s1 σ H1 _ I1 q1) fun iv s2 hq_=>?_;obtain⟨y,H2,I2,ry,a,v,ex,g,q2⟩:=hq_;subst ex;obtain rfl:u=Value.ref a:=rx;exact⟨zqn I2 g,zvb hu I2 g ry fun w' s3 I3 rw'=>⟨v,H2,I3,rw',q2⟩⟩
theorem zvd(hu:X.A.units+1<cLine)(hi:PE X i ty)(ho:PE X o td):PC X .NotIn i o (z2h ty td):=by
 intro pins s σ H Q I h;refine thn (hi pins s σ H _ I h) fun iv s1 hq_=>?_;obtain⟨y,H1,I1,ry,q1⟩:=hq_;refine thn (ho pins s1 σ H1 _ I1 q1) fun u s2 hq_=>?_;obtain⟨x,H2,I2,rx,a,ov,ex,g,q2⟩:=hq_;subst ex;obtain rfl:u=Value.ref a:=rx;exact z2f hu I2 g ry fun s3 I3=>⟨.bl (!ov.isSome),H2,I3,rfl,q2⟩
theorem z2j(hu:X.A.units+1<cLine)(ho:PE X o td)(hi:PE X i ty)(hv:PE X value tv)(hs:swapsWith value (some (.Subscript o i pos')) pos.line X.env=pure false) :
  PS X (.Assign [.Subscript o i pos'] value pos) (z8j td ty tv):=by
 intro pins s σ H D I h;refine wpAny_Assign_Subscript (thn (hv pins s σ H _ I h) fun r s1 hq_=>?_) hs;obtain⟨v,H1,I1,rv,q1⟩:=hq_;refine thn (ho pins s1 σ H1 _ I1 q1) fun u s2 hq_=>?_;obtain⟨x,H2,I2,rx,q2⟩:=hq_;refine thn (hi pins s2 σ H2 _ I2 q2) fun iv s3 hq_=>?_;obtain⟨y,H3,I3,ry,a,H4,ex,g,q3⟩:=hq_;subst ex;obtain rfl:u=Value.ref a:=rx;exact zvc hu I3 g ry rv fun s4 I4=>⟨σ,H4,I4,q3⟩
end
theorem zr6{P:Program}{w:World}{H:Hp}(h:Heap)(hb:sysModules<h.objs.size):zc0 P w H (h.push { cls:=.type "dict",data:=.dict #[] }) h.objs.size (.dK []):=
 ⟨Nat.zero_le _,beq_eq_false_iff_ne.mpr (Ne.symm (Nat.ne_of_lt hb)),[],.nil,Heap.DictOf.new h⟩
def z5d:TE:=fun _ H Q=>∀p,H p=none->Q (.ref p) (upd H p (.dK []))
section
variable {X:Cx}{pos:Pos}
theorem zy8:PE X (.Dict [] [] pos) z5d:=fun pins s σ H Q I h=>
 wpAny_Dict_empty ⟨.ref s.heap.objs.size,_,I.laid (a:=s.heap.objs.size) (o:=.dK []) (t':=s.toks) (fun _ _ q=>Heap.get?_push_of_some _ q) (Nat.le_refl _) (zr6 s.heap I.big),rfl,h _ (I.hok.fresh (Nat.le_refl _))⟩
end
def zve:List (TE×TE)->St->Hp->(List (V×V)->Hp->Prop)->Prop
 |[],_,H,Q=>Q [] H
 |(tk,tv)::r,σ,H,Q=>tk σ H fun x H1=>tv σ H1 fun y H2=>zve r σ H2 fun ps H3=>Q ((x,y)::ps) H3
abbrev VV:List (V×V)->List (Value×Value)->Prop:=Paired fun p q=>RelV p.1 q.1/\RelV p.2 q.2
def PPs(X:Cx)(pos:Pos)(keys:List (Option Expr))(values:List Expr)(trs:List (TE×TE)):Prop:=
 ∀ (pins:List (Addr×Obj)) (s:Shared) (σ:St) (H:Hp) (Q:List (V×V)->Hp->Prop),Inv X pins σ H s->zve trs σ H Q ->
   wpAny (model X.prog X.w) X.A (evalPairs (pairTrees keys values X.env pos)) (fun vs s'=>∃ps H',Inv X pins σ H' s'/\VV ps vs/\Q ps H') X.xe s
theorem z2k{X:Cx}{pos:Pos}:PPs X pos [] [] []:=fun pins s σ H Q I h=>pairTrees_nil_walk ⟨[],H,I,.nil,h⟩
theorem zy9{X:Cx}{pos:Pos}{k v:Expr}{ks:List (Option Expr)}{vs:List Expr}{tk tv:TE}{trs:List (TE×TE)}(hk:PE X k tk)(hv:PE X v tv)(hr:PPs X pos ks vs trs) :
  PPs X pos (some k::ks) (v::vs) ((tk,tv)::trs):=fun pins s σ H Q I h=>
 pairTrees_cons_walk (thn (hk pins s σ H _ I h) fun u s1 ⟨x,H1,I1,rx,q1⟩=>thn (hv pins s1 σ H1 _ I1 q1) fun w2 s2 ⟨y,H2,I2,ry,q2⟩=>
  thn (hr pins s2 σ H2 _ I2 q2) fun ws s3 ⟨ps,H3,I3,rel,q3⟩=>⟨(x,y)::ps,H3,I3,.cons ⟨rx,ry⟩ rel,q3⟩)
def zmk(kvs more:List (Key×V)):List (Key×V):=more.foldl (fun acc kv=>putK acc kv.1 kv.2) kvs
theorem KV.merge:∀{more:List (Key×V)} {rs:List (Key×Value)} {kvs:List (Key×V)} {vs:List (Key×Value)},KV more rs->KV kvs vs->KV (zmk kvs more) (merged vs rs):=by
 intro more rs kvs vs r;unfold KV at r
 induction r generalizing kvs vs with
 |nil=>intro q;exact q
 | @cons p q ps qs h t ih=>
   intro r0;have e:KV (putK kvs p.1 p.2) (stored vs q.1 q.2):=by
    have:=r0.put p.1 h.2;rw[<- h.1];exact this
   exact ih e
theorem ziq:∀(more kvs:List (Key×V)),(zmk kvs more).length<=kvs.length+more.length
 |[],kvs=>by show kvs.length<=kvs.length+0;omega
 | p::r,kvs=>by
   have h1:=ziq r (putK kvs p.1 p.2);have h2:=zig kvs p.1 p.2;show(zmk (putK kvs p.1 p.2) r).length<=_;rw[List.length_cons];omega
theorem zml{P:Program}{w:World}:∀{kvs:List (Key×V)} {ws:List (Value×Value)},VV (kvs.map fun kv=>(kV kv.1,kv.2)) ws->∃rs,Carries (za5 P w) ws rs/\KV kvs rs
 |[],_,r=>by rw[List.map_nil] at r;cases r;exact⟨[],True.intro,.nil⟩
 | p :: kvs,_,r=>by
   rw[List.map_cons] at r;cases r with
   | @cons a b as bs h t=>
     obtain⟨rs,c,q⟩:=zml (P:=P) (w:=w) t;obtain⟨b1,b2⟩:=b;exact⟨(p.1,b2)::rs,⟨ztr h.1,rfl,c⟩,.cons ⟨rfl,h.2⟩ q⟩
def z8k(trs:List (TE×TE)):TE:=fun σ H Q=>∀p,H p=none->zve trs σ (upd H p (.dK [])) fun ps H2=>H2 p=some (.dK [])/\∃kvs:List (Key×V),ps=kvs.map (fun kv=>(kV kv.1,kv.2))/\kvs.length<=15/\Q (.ref p) (upd H2 p (.dK (zmk [] kvs)))
theorem z2l{X:Cx}{pos:Pos}{keys:List (Option Expr)}{values:List Expr}{trs:List (TE×TE)}(h:PPs X pos keys values trs)(hall:keys.all (·.isSome)=true)(hl:keys.length=values.length)(h0:keys≠[])
  (h15:keys.length<=15):PE X (.Dict keys values pos) (z8k trs):=by
 intro pins s σ H Q I q;have hn:=I.hok.fresh (Nat.le_refl s.heap.objs.size);have I1:=I.laid (a:=s.heap.objs.size) (o:=.dK []) (h':=s.heap.push { cls:=.type "dict",data:=.dict #[] }) (t':=s.toks) (fun _ _ q=>Heap.get?_push_of_some _ q) (Nat.le_refl _) (zr6 s.heap I.big);refine wpAny_Dict_walk (knd:=za5 X.prog X.w) hall hl h0 h15 (thn (h pins _ σ _ _ I1 (q _ hn)) fun ws s2 hq_=>?_);obtain⟨ps,H2,I2,rel,e,kvs,ep,lk,q2⟩:=hq_;subst ep;obtain⟨rs,c,rk⟩:=zml (P:=X.prog) (w:=X.w) rel;obtain⟨z,hd,vs0,r0,dd⟩:=z5c I2.hok e;cases r0;refine⟨rs,c,dd,fun h' dd' hs=>⟨.ref s.heap.objs.size,_,?_,rfl,q2⟩⟩;have hz:(zmk [] kvs).length<=sizeLine:=by
  have h1:=ziq kvs [];rw[List.length_nil] at h1;rw[sizeLine_eq];omega
 have he:∃q,h'.get? s.heap.objs.size=some q:=let ⟨q,_,_,hq,_⟩:=dd';⟨q,hq⟩;exact zqm I2 (by rw[e];exact True.intro) hs he (z01 hz hd (rk.merge .nil) dd')
def IsD(H:Hp)(a:Addr):Prop:=(∃kvs,Rd H a (.dK kvs))\/∃kvs,Rd H a (.dT kvs)
theorem z5e{X:Cx}{pins:List (Addr×Obj)}{σ:St}{H:Hp}{s:Shared}{a:Addr}(I:Inv X pins σ H s)(d:IsD H a) :
  s.TypeIs (.ref a) "dict" /\ (∀b,Value.ref a=.ref b->∃ob,s.heap.get? b=some ob/\ob.dict=none)/\(a==sysModules)=false:=by
 rcases d with⟨kvs,e⟩ | ⟨kvs,e⟩
 ·obtain⟨_,hd,vs,_,dd⟩:=znb I.hok e
  refine⟨dd.typeIs,fun b q=>?_,hd⟩;cases q;obtain⟨ob,_,_,h1,h2,_⟩:=dd;exact⟨ob,h1,h2.2.1⟩
 ·obtain⟨_,hd,xs,_,dd⟩:=zts I.hok e
  refine⟨dd.typeIs,fun b q=>?_,hd⟩;cases q;obtain⟨ob,_,_,h1,h2,_⟩:=dd;exact⟨ob,h1,h2.2.1⟩
end L2
namespace HT
open PySem PyProof.Rows
section
variable {prog:Program}{w:World}{A:Around}{E:Value->Shared->Prop}{s:Shared}
def sIx(n d:Nat):Option Int->Nat
 |none=>d
 |some v=>if v<0 then(v+(n:Int)).toNat else min v.toNat n
end
end HT
namespace L2
open PySem PySem.Spec PyProof.Rows
abbrev TO:=St->Hp->(Option Int->Hp->Prop)->Prop
def PO(X:Cx)(e:Option Expr)(t:TO):Prop:=
 ∀ (pins:List (Addr×Obj)) (s:Shared) (σ:St) (H:Hp) (Q:Option Int->Hp->Prop),Inv X pins σ H s->t σ H Q ->
   wpAny (model X.prog X.w) X.A (evalPart e X.env) (fun u s'=>∃o H',Inv X pins σ H' s'/\IsPart u o/\Q o H') X.xe s
def z2m:TO:=fun _ H Q=>Q none H
def z8l(t:TE):TO:=fun σ H Q=>t σ H fun x H1=>∃i,x=.int i/\Q (some i) H1
section
variable {X:Cx}{e:Expr}{te:TE}{lo hi:Option Expr}{tl th:TO}{pos p2:Pos}
theorem z2n:PO X none z2m:=by
 intro pins s σ H Q I h;rw[evalPart_none];exact wpAny_pure ⟨none,H,I,.none,h⟩
theorem z2o(h:PE X e te):PO X (some e) (z8l te):=by
 intro pins s σ H Q I hw;rw[evalPart_some];refine thn (h pins s σ H _ I hw) fun u s1 hq_=>?_;obtain⟨x,H1,I1,r1,q1⟩:=hq_;obtain⟨i,rfl,q⟩:=q1;obtain⟨t,rfl⟩:=r1;exact⟨some i,H1,I1,.int i t,q⟩
def SlR(X:Cx)(r:V->Option Int->Option Int->Hp->VK->Prop):Prop:=
 ∀ (pins:List (Addr×Obj)) (s:Shared) (σ:St) (H:Hp) (x:V) (v vl vu:Value) (lo hi:Option Int) (sl:Addr) (Q:VK),Inv X pins σ H s->RelV x v->s.heap.IsSliceOf sl vl vu .none->IsPart vl lo->IsPart vu hi->r x lo hi H Q ->
   ∃T id,typeLookup (.type T) "__getitem__" = pure (some (.builtin id))/\s.TypeIs v T/\wpAny (model X.prog X.w) X.A (getItem v (.ref sl)) (EP X pins σ Q) X.xe s
def tSl(r:V->Option Int->Option Int->Hp->VK->Prop)(te:TE)(tl th:TO):TE:=fun σ H Q=>te σ H fun x H1=>tl σ H1 fun l H2=>th σ H2 fun u H3=>r x l u H3 Q
theorem zza{r:V->Option Int->Option Int->Hp->VK->Prop}(hr:SlR X r)(he:PE X e te)(hl:PO X lo tl)(hu:PO X hi th):PE X (.Subscript e (.Slice lo hi none p2) pos) (tSl r te tl th):=by
 intro pins s σ H Q I h;refine Subscript_ (thn (he pins s σ H _ I h) fun v s1 hq_=>?_);obtain⟨x,H1,I1,r1,q1⟩:=hq_;refine wpAny_Slice (thn (hl pins s1 σ H1 _ I1 q1) fun vl s2 hq_=>?_);obtain⟨l,H2,I2,pl,q2⟩:=hq_;refine thn (hu pins s2 σ H2 _ I2 q2) fun vu s3 hq_=>?_;obtain⟨u,H3,I3,pu,q3⟩:=hq_;rw[evalPart_none];refine wpAny_pure ?_;have I4:Inv X pins σ H3 { s3 with heap:=s3.heap.push { cls:=.type "slice",data:=.fields #[vl,vu,.none] } }:=I3.kept (t':=s3.toks) fun b ob q=>Heap.get?_push_of_some _ q;obtain⟨T,id,hT,ht,hg⟩:=hr pins { s3 with heap:=s3.heap.push { cls:=.type "slice",data:=.fields #[vl,vu,.none] } } σ H3 x v vl vu l u s3.heap.objs.size Q I4 r1 (Heap.IsSliceOf.new ..) pl pu q3;show wpAny (model X.prog X.w) X.A (subscriptTail e (.Slice lo hi none p2) v (.ref s3.heap.objs.size)) (EP X pins σ Q) X.xe { s3 with heap:=s3.heap.push { cls:=.type "slice",data:=.fields #[vl,vu,.none] } };exact tail_any (ops:=[.ref s3.heap.objs.size,v]) ht hT hg (by with_unfolding_all rfl)
def cutV(xs:List V)(lo hi:Option Int):List V:=(xs.drop (HT.sIx xs.length 0 lo)).take (HT.sIx xs.length xs.length hi-HT.sIx xs.length 0 lo)
theorem zqo(xs:List V)(lo hi:Option Int):(cutV xs lo hi).length<=xs.length:=by
 unfold cutV;rw[List.length_take,List.length_drop];omega
end
end L2
namespace L2
open PySem PySem.Spec PyProof.Rows
def ixN(n:Nat)(i:Int):Option Nat:=if 0<=i then(if i<n then some i.toNat else none) else if -(n:Int)<=i then some (i+n).toNat else none
def atI{α:Type}(xs:List α)(i:Int):Option α:=(ixN xs.length i).bind fun j=>xs[j]?
theorem zvf{n:Nat}{i:Int}{j:Nat}(h:ixN n i=some j):seqIndex? i n=some j/\j<n /\ -(n:Int)<=i/\i<n:=by
 unfold ixN at h;by_cases h0:0<=i
 ·rw[if_pos h0] at h
  by_cases h1:i<n
  ·rw[if_pos h1] at h
   have e:i.toNat=j:=Option.some.inj h;exact⟨by rw[seqIndex_of h0 h1,e],by omega,by omega,h1⟩
  ·rw[if_neg h1] at h;cases h
 ·rw[if_neg h0] at h
  by_cases h1:-(n:Int)<=i
  ·rw[if_pos h1] at h
   have e:(i+n).toNat=j:=Option.some.inj h;exact⟨by rw[seqIndex_neg (by omega) h1,e],by omega,h1,by omega⟩
  ·rw[if_neg h1] at h;cases h
theorem zqp{α:Type}{xs:List α}{i:Int}{v:α}(h:atI xs i=some v):∃j,seqIndex? i xs.length=some j/\xs[j]?=some v/\j<xs.length /\ -(xs.length:Int)<=i/\i<xs.length:=by
 unfold atI at h;cases e:ixN xs.length i with
 |none=>rw[e] at h;cases h
 | some j=>
   rw[e] at h;obtain⟨h1,h2,h3,h4⟩:=zvf e;exact⟨j,h1,h,h2,h3,h4⟩
theorem zf0{α:Type}{xs:List α}{j:Nat}{v:α}(h:xs[j]?=some v):atI xs (j:Int)=some v:=by
 have hj:j<xs.length:=(List.getElem?_eq_some_iff.mp h).1;have e:ixN xs.length (j:Int)=some j:=by
  unfold ixN;rw[if_pos (by omega),if_pos (by omega)];simp
 unfold atI;rw[e];exact h
def zvg(b:Expr):Prop:=∀o i,subscripted b false o i=operate [o,i] (getItem o i)
def IxR(X:Cx)(r:R2):Prop:=
 ∀ (value slice:Expr) (pins:List (Addr×Obj)) (s:Shared) (σ:St) (H:Hp) (x y:V) (v u:Value) (Q:VK),Inv X pins σ H s->RelV x v->RelV y u->r x y H Q ->
   subscripted slice false v u=operate [v,u] (getItem v u)->wpAny (model X.prog X.w) X.A (subscriptTail value slice v u) (EP X pins σ Q) X.xe s
def MtR(X:Cx)(id:String)(r:V->List V->Hp->VK->Prop):Prop:=
 ∀ (pins:List (Addr×Obj)) (s:Shared) (σ:St) (H:Hp) (x:V) (xs:List V) (v:Value) (us:List Value) (Q:VK),Inv X pins σ H s->RelV x v->Vals xs us->r x xs H Q ->
   wpAny (model X.prog X.w) X.A (call (.builtin id) (v::us)) (EP X pins σ Q) X.xe s
section
variable {X:Cx}{a b:Expr}{ta tb:TE}{pos:Pos}
theorem IxR.or{r r':R2}(h:IxR X r)(h':IxR X r'):IxR X (fun x y H Q=>r x y H Q\/r' x y H Q):=by
 intro value slice pins s σ H x y v u Q I rx ry q hs;rcases q with q | q
 ·exact h value slice pins s σ H x y v u Q I rx ry q hs
 ·exact h' value slice pins s σ H x y v u Q I rx ry q hs
theorem z8m{r:R2}(hr:IxR X r)(ha:PE X a ta)(hb:PE X b tb)(hs:zvg b):PE X (.Subscript a b pos) (tOp r ta tb):=by
 intro pins s σ H Q I h;exact Subscript_ (binT ha hb I h fun v u s2 x y H2 I2 rx ry q=>hr a b pins s2 σ H2 x y v u Q I2 rx ry q (hs _ _))
def rIxL(K:PySem.W.Frag):R2:=fun x y H Q=>∃p xs i v,x=.ref p/\y=.int i/\SqL K H p xs/\atI xs i=some v/\Q v H
def rIxT(K:PySem.W.Frag):R2:=fun x y H Q=>∃p xs i v,x=.ref p/\y=.int i/\SqT K H p xs/\atI xs i=some v/\Q v H
def rIxS:R2:=fun x y H Q=>∃z i c,x=.str z/\y=.int i/\z.length<=sizeLine/\atI z.cps.toList i=some c/\Q (.str ⟨#[c]⟩) H
theorem z2p:IxR X (rIxL X.K):=by
 intro value slice pins s σ H x y v u Q I rx ry h hs;obtain⟨p,xs,i,z,rfl,rfl,hq,he,q⟩:=h;cases rx;obtain⟨t,rfl⟩:=ry;obtain⟨its,r,pl,hz⟩:=I.list hq;obtain⟨j,h1,h2,h3,h4,h5⟩:=zqp he;obtain⟨w,ew,rw'⟩:=r.get h2;have hl:=r.length;have hn:=zmi;have fin:EP X pins σ Q w s:=⟨z,H,I,rw',q⟩;by_cases h0:0<=i
 ·have hj:i.toNat=j:=by
   rw[seqIndex_of h0 h5] at h1;exact Option.some.inj h1
  exact item_listR pl.isList h0 (by omega) (by rw[hj];simpa using ew) fin hs
 ·have hj:(i+(its.toArray.size:Int)).toNat=j:=by
   rw[seqIndex_neg (by omega) h4] at h1;rw[List.size_toArray,<- hl];exact Option.some.inj h1
  exact subscriptTail_builtinR (x:=w) pl.isList.typeIs slot_list_getitem.lookup
   (wpAny_getItem_list_neg (Q:=fun r s'=>r=w/\EP X pins σ Q r s') pl.isList (by omega) (by rw[List.size_toArray]<;>omega) (by omega) (by rw[hj];simpa using ew) ⟨rfl,fin⟩) hs
theorem z5f:IxR X (rIxT X.K):=by
 intro value slice pins s σ H x y v u Q I rx ry h hs;obtain⟨p,xs,i,z,rfl,rfl,hq,he,q⟩:=h;cases rx;obtain⟨t,rfl⟩:=ry;obtain⟨its,r,pl,hz⟩:=I.tuple hq;obtain⟨j,h1,h2,h3,h4,h5⟩:=zqp he;obtain⟨w,ew,rw'⟩:=r.get h2;have hl:=r.length;have hn:=zmi;have fin:EP X pins σ Q w s:=⟨z,H,I,rw',q⟩;exact subscriptTail_builtinR (x:=w) pl.typeIs slot_tuple_getitem.lookup
  (getItem_tuple (j:=j) (Q:=fun r s'=>r=w/\EP X pins σ Q r s') pl (by omega) (by omega) (by rw[List.size_toArray,<- hl];exact h1) (by simpa using ew) ⟨rfl,fin⟩) hs
theorem z5g:IxR X rIxS:=by
 intro value slice pins s σ H x y v u Q I rx ry h hs;obtain⟨z,i,c,rfl,rfl,hz,he,q⟩:=h;obtain⟨t,rfl⟩:=rx;obtain⟨t',rfl⟩:=ry;obtain⟨j,h1,h2,h3,h4,h5⟩:=zqp he;have hl:z.cps.toList.length=z.length:=by simp[Str.length]
 rw[hl] at h1 h4 h5;have hn:=zmi;exact tail_any (typeIs_str s z t) slot_str_getitem.lookup (getItem_str (c:=c) (by
  have e1:decide (i < -(2 ^ 63:Int))=false:=decide_eq_false (by omega);have e2:decide (i>=2 ^ 63)=false:=decide_eq_false (by omega);rw[e1,e2,Bool.or_false]) (by rw[h1];simpa using h2) ⟨.str ⟨#[c]⟩,H,I.tok _,⟨_,rfl⟩,q⟩) hs
def rIx(K:PySem.W.Frag):R2:=fun x y H Q=>rIxL K x y H Q\/rIxT K x y H Q\/rIxS x y H Q
theorem z5h:IxR X (rIx X.K):=z2p.or (z5f.or z5g)
theorem ztt(its:List Value)(n j:Nat)(u:Value):Obj.mapSeq (·.setIfInBounds j u) { cls:=.type "list",data:=.seq its.toArray n }={ cls:=.type "list",data:=.seq (its.set j u).toArray n }:=by
 simp[Obj.mapSeq]
theorem Inv.lst{pins:List (Addr×Obj)}{σ:St}{H:Hp}{s:Shared}{p:Addr}{xs:List V}(I:Inv X pins σ H s)(h:H p=some (.lst xs)) :
  ∃(its:List Value) (n:Nat),Vals xs its/\s.heap.get? p=some { cls:=.type "list",data:=.seq its.toArray n }/\xs.length<=sizeLine:=by
 obtain⟨z,its,n,r,e⟩:=I.hok p _ h;exact⟨its,n,r,e,z⟩
theorem Inv.lstUpd{pins:List (Addr×Obj)}{σ:St}{H:Hp}{s:Shared}{p:Addr}{xs ys:List V}{its its':List Value}{n n':Nat}{f:Obj->Obj}(I:Inv X pins σ H s)(h:H p=some (.lst xs))
  (ho:s.heap.get? p=some { cls:=.type "list",data:=.seq its.toArray n }) (hf:f { cls:=.type "list",data:=.seq its.toArray n }={ cls:=.type "list",data:=.seq its'.toArray n' }) (r:Vals ys its') (hz:ys.length<=sizeLine) (t:Nat) :
  Inv X pins σ (upd H p (.lst ys)) { s with heap:=s.heap.update p f,toks:=t }:=by
 have e:(s.heap.update p f).get? p=some { cls:=.type "list",data:=.seq its'.toArray n' }:=by
  rw[Heap.get?_update_self f ho (by rw[hf]<;>rfl),hf]
 refine I.write (x:=p) (e:=p) (by rw[h];trivial) (.inl rfl) (fun b u hb q=>(Heap.get?_update_other _ _ (Ne.symm hb)).trans q) ⟨_,e⟩ ?_;exact⟨hz,its',n',r,e⟩
def z5i:V->V->V->Hp->(Hp->Prop)->Prop:=fun o i v H Q=>∃p xs k j,o=.ref p/\i=.int k/\H p=some (.lst xs)/\ixN xs.length k=some j/\Q (upd H p (.lst (xs.set j v)))
theorem zzb:PSet X z5i:=by
 intro pins s σ H o i v ov iv u Q I ro ri rv h;obtain⟨p,xs,k,j,rfl,rfl,hp,hj,q⟩:=h;cases ro;obtain⟨t,rfl⟩:=ri;obtain⟨its,n,r,ho,hz⟩:=I.lst hp;obtain⟨h1,h2,h3,h4⟩:=zvf hj;have hl:=r.length;have hn:=zmi;have I':Inv X pins σ (upd H p (.lst (xs.set j v))) { s with heap:=s.heap.update p (Obj.mapSeq (·.setIfInBounds j u)) }:=
  I.lstUpd hp ho (ztt its n j u) (r.set rv j) (by rw[List.length_set];exact hz) s.toks
 by_cases h0:0<=k
 ·have hk:k.toNat=j:=by
   rw[seqIndex_of h0 h4] at h1;exact Option.some.inj h1
  exact PySem.W.ki_setAt ho h0 (by omega) (by rw[List.size_toArray,<- hl];exact h4) (by rw[hk];exact⟨_,I',q⟩)
 ·have hk:(k+(its.toArray.size:Int)).toNat=j:=by
   rw[seqIndex_neg (by omega) h3] at h1;rw[List.size_toArray,<- hl];exact Option.some.inj h1
  exact PySem.W.ki_setBack ho (by omega) (by rw[List.size_toArray,<- hl];exact h3) (by omega) (by rw[hk];exact⟨_,I',q⟩)
theorem zou(lo hi:Option Int)(n:Nat):(sliceBounds lo hi none n).1=((HT.sIx n 0 lo:Nat):Int)/\(sliceBounds lo hi none n).2.1=((HT.sIx n n hi:Nat):Int)/\(sliceBounds lo hi none n).2.2=1:=by
 refine⟨?_,?_,rfl⟩
 ·cases lo with
  |none=>simp[sliceBounds,HT.sIx]
  | some i=>
    simp only[sliceBounds,HT.sIx,Option.getD_none,show(1:Int)>0 by decide,if_true];by_cases h:i<0
    ·simp only[h,if_true]<;>omega
    ·simp only[h,if_false]<;>omega
 ·cases hi with
  |none=>simp[sliceBounds,HT.sIx]
  | some i=>
    simp only[sliceBounds,HT.sIx,Option.getD_none,show(1:Int)>0 by decide,if_true];by_cases h:i<0
    ·simp only[h,if_true]<;>omega
    ·simp only[h,if_false]<;>omega
theorem znc(its:List Value)(lo hi:Option Int):slicePick its.toArray lo hi none=((its.drop (HT.sIx its.length 0 lo)).take (HT.sIx its.length its.length hi-HT.sIx its.length 0 lo)).toArray:=by
 obtain⟨h1,h2,h3⟩:=zou lo hi its.toArray.size;unfold slicePick;rw[h1,h2,h3];simp only[sliceRange_one,pick_run,List.size_toArray]<;>rfl
def rSlL(K:PySem.W.Frag):V->Option Int->Option Int->Hp->VK->Prop:=fun x lo hi H Q=>∃a xs,x=.ref a/\SqL K H a xs/\∀p,H p=none->Q (.ref p) (upd H p (.lst (cutV xs lo hi)))
theorem z2q:SlR X (rSlL X.K):=by
 intro pins s σ H x v vl vu lo hi sl Q I rx hs pl pu h;obtain⟨a,xs,rfl,hx,q⟩:=h;cases rx;obtain⟨its,r,ht,hz⟩:=I.list hx;have hlen:=r.length;refine⟨"list",_,slot_list_getitem.lookup,ht.isList.typeIs,?_⟩;refine wpAny_getItem_list_slice ht.isList hs pl pu .none (by simp) ?_ (by rw[List.size_toArray]<;>omega);rw[znc,<- hlen];refine⟨.ref s.heap.objs.size,_,I.laid (t':=s.toks) (o:=.lst (cutV xs lo hi)) (fun b ob q=>Heap.get?_push_of_some _ q) (Nat.le_refl _) ?_,rfl,q _ (I.hok.fresh (Nat.le_refl _))⟩;exact⟨Nat.le_trans (zqo xs lo hi) hz,_,0,(r.drop (HT.sIx xs.length 0 lo)).take (HT.sIx xs.length xs.length hi-HT.sIx xs.length 0 lo),Heap.get?_push_size _ rfl⟩
def zfc:V->Bool
 |.non=>true
 |.bl _=>true
 |.int _=>true
 |.str _=>true
 |_=>false
def eqV:V->V->Bool
 |.non,.non=>true
 |.bl a,.bl b=>a==b
 |.bl a,.int b=>(if a then 1 else 0)==b
 |.int a,.bl b=>a==(if b then 1 else 0)
 |.int a,.int b=>a==b
 |.str a,.str b=>a==b
 |_,_=>false
theorem z02{A:Around}{s:Shared}{y x:V}{u v:Value}(ry:RelV y u)(rx:RelV x v)(fy:zfc y=true)(fx:zfc x=true):SeqAt.EqAt A s u v (eqV y x):=by
 cases y with
 | non=>
   cases ry;cases x with
   |non=>cases rx;exact SeqAt.EqAt.same _
   |bl b=>cases rx;exact SeqAt.EqAt.none_bool b
   |int b=>obtain⟨t,rfl⟩:=rx;exact SeqAt.EqAt.none_int b t
   |str b=>obtain⟨t,rfl⟩:=rx;exact SeqAt.EqAt.none_str b t
   |_=>exact absurd (show false=true from fx) Bool.false_ne_true
 | bl a=>
   cases ry;cases x with
   |non=>cases rx;exact SeqAt.EqAt.bool_none a
   |bl b=>cases rx;exact SeqAt.EqAt.bool_bool a b
   |int b=>obtain⟨t,rfl⟩:=rx;exact SeqAt.EqAt.bool_int a b t
   |str b=>obtain⟨t,rfl⟩:=rx;exact SeqAt.EqAt.bool_str a b t
   |_=>exact absurd (show false=true from fx) Bool.false_ne_true
 | int a=>
   obtain⟨t',rfl⟩:=ry;cases x with
   |non=>cases rx;exact SeqAt.EqAt.int_none a t'
   |bl b=>cases rx;exact SeqAt.EqAt.int_bool a t' b
   |int b=>obtain⟨t,rfl⟩:=rx;exact SeqAt.EqAt.int_int a t' b t
   |str b=>obtain⟨t,rfl⟩:=rx;exact SeqAt.EqAt.int_str a t' b t
   |_=>exact absurd (show false=true from fx) Bool.false_ne_true
 | str a=>
   obtain⟨t',rfl⟩:=ry;cases x with
   |non=>cases rx;exact SeqAt.EqAt.str_none a t'
   |bl b=>cases rx;exact SeqAt.EqAt.str_bool a t' b
   |int b=>obtain⟨t,rfl⟩:=rx;exact SeqAt.EqAt.str_int a t' b t
   |str b=>obtain⟨t,rfl⟩:=rx;exact SeqAt.EqAt.str_str a t' b t
   |_=>exact absurd (show false=true from fx) Bool.false_ne_true
 |_=>exact absurd (show false=true from fy) Bool.false_ne_true
def eqU(x:V)(u:Value):Bool:=match u with
 |.none=>eqV .non x
 |.bool b=>eqV (.bl b) x
 |.int i _=>eqV (.int i) x
 |.str z _=>eqV (.str z) x
 |_=>false
theorem zov{x y:V}{u:Value}(r:RelV y u)(f:zfc y=true):eqU x u=eqV y x:=by
 cases y with
 |non=>cases r;rfl
 |bl b=>cases r;rfl
 |int i=>obtain⟨t,rfl⟩:=r;rfl
 |str z=>obtain⟨t,rfl⟩:=r;rfl
 |_=>exact absurd (show false=true from f) Bool.false_ne_true
theorem zkv{x:V}:∀{xs:List V} {us:List Value},Vals xs us->xs.all zfc=true->us.any (eqU x)=xs.any fun y=>eqV y x
 |_,_,.nil,_=>rfl
 | y::xs,u::us,.cons r t,f=>by
   rw[List.all_cons,Bool.and_eq_true] at f;rw[List.any_cons,List.any_cons,zov r f.1,zkv t f.2]
theorem zir{A:Around}{s:Shared}{x:V}{v:Value}(rx:RelV x v)(fx:zfc x=true):∀{xs:List V} {us:List Value},Vals xs us->xs.all zfc=true->∀u∈us,SeqAt.EqAt A s u v (eqU x u)
 |_,_,.nil,_=>fun u hu=>by cases hu
 | y::xs,u::us,.cons r t,f=>fun u' hu=>by
   rw[List.all_cons,Bool.and_eq_true] at f;rcases List.mem_cons.mp hu with rfl | hu
   ·rw[zov r f.1];exact z02 r rx f.1 fx
   ·exact zir rx fx t f.2 u' hu
def inV(x:V)(xs:List V):Bool:=xs.any fun y=>eqV y x
def rIn(K:PySem.W.Frag)(neg:Bool):R2:=fun x y H Q=>∃p xs,y=.ref p/\(SqL K H p xs\/SqT K H p xs)/\zfc x=true/\xs.all zfc=true/\Q (.bl (if neg then !inV x xs else inV x xs)) H
theorem zvh:OpR X (compareOp .In) (rIn X.K false):=by
 intro pins s σ H x y v u Q I rx ry h;obtain⟨p,xs,rfl,hq,fx,fs,q⟩:=h;cases ry;rcases hq with hq | hq
 ·obtain⟨its,r,pl,hz⟩:=I.list hq
  refine SeqAt.in_listAt (eqU x) pl.isList (fun w hw=>zir rx fx r fs w (by simpa using hw)) ⟨.bl _,H,I,rfl,?_⟩;rw[show its.toArray.any (eqU x)=its.any (eqU x) by simp,zkv r fs];exact q
 ·obtain⟨its,r,pl,hz⟩:=I.tuple hq
  refine SeqAt.in_tupleAt (eqU x) pl (fun w hw=>zir rx fx r fs w (by simpa using hw)) ⟨.bl _,H,I,rfl,?_⟩;rw[show its.toArray.any (eqU x)=its.any (eqU x) by simp,zkv r fs];exact q
theorem zow:OpR X (compareOp .NotIn) (rIn X.K true):=by
 intro pins s σ H x y v u Q I rx ry h;obtain⟨p,xs,rfl,hq,fx,fs,q⟩:=h;cases ry;rcases hq with hq | hq
 ·obtain⟨its,r,pl,hz⟩:=I.list hq
  refine SeqAt.notIn_listAt (eqU x) pl.isList (fun w hw=>zir rx fx r fs w (by simpa using hw)) ⟨.bl _,H,I,rfl,?_⟩;rw[show its.toArray.any (eqU x)=its.any (eqU x) by simp,zkv r fs];exact q
 ·obtain⟨its,r,pl,hz⟩:=I.tuple hq
  refine SeqAt.notIn_tupleAt (eqU x) pl (fun w hw=>zir rx fx r fs w (by simpa using hw)) ⟨.bl _,H,I,rfl,?_⟩;rw[show its.toArray.any (eqU x)=its.any (eqU x) by simp,zkv r fs];exact q
theorem zh7.or{f:Value}{r r':List V->Hp->VK->Prop}(h:zh7 X f r)(h':zh7 X f r'):zh7 X f (fun xs H Q=>r xs H Q\/r' xs H Q):=by
 intro pins s σ H xs us Q I rs q;rcases q with q | q
 ·exact h pins s σ H xs us Q I rs q
 ·exact h' pins s σ H xs us Q I rs q
theorem zhh:zh7 X (.type "list") (fun xs H Q=>∃p ys,xs=[.ref p]/\(SqL X.K H p ys\/SqT X.K H p ys)/\∀l,H l=none->Q (.ref l) (upd H l (.lst ys))):=by
 intro pins s σ H xs us Q I r h;obtain⟨p,ys,rfl,hq,q⟩:=h;obtain⟨u,rfl,rx⟩:=zm9 r;cases rx;have fin:∀(its:List Value),Vals ys its->ys.length<=sizeLine->∀(h':Heap) (c':Nat),(∀b o',s.heap.get? b=some o'->h'.get? b=some o') ->
   h'.get? s.heap.objs.size=some { cls:=.type "list",dict:=none,data:=.seq its.toArray c',slots:=#[] }->EP X pins σ Q (.ref s.heap.objs.size) { s with heap:=h' }:=fun its r' hz h' c' kp e=>
  ⟨.ref s.heap.objs.size,_,I.laid (t':=s.toks) kp (Nat.le_refl _) (show zc0 X.prog X.w _ h' _ (.lst ys) from⟨hz,its,c',r',e⟩),rfl,q _ (I.hok.fresh (Nat.le_refl _))⟩
 rcases hq with hq | hq
 ·obtain⟨its,r',pl,hz⟩:=I.list hq
  have hlen:=r'.length;obtain⟨o,ho,hc,n,hd⟩:=pl.isList;exact call_list_seq p (.inl rfl) ho hc hd (fun h' c' kp e=>fin its r' hz h' c' kp e) (by simp only[List.size_toArray]<;>omega)
 ·obtain⟨its,r',pl,hz⟩:=I.tuple hq
  have hlen:=r'.length;obtain⟨o,ho,hc,n,hd⟩:=pl;exact call_list_seq p (.inr rfl) ho hc hd (fun h' c' kp e=>fin its r' hz h' c' kp e) (by simp only[List.size_toArray]<;>omega)
theorem znd:zh7 X (.type "tuple") (fun xs H Q=>∃p ys,xs=[.ref p]/\((SqL X.K H p ys/\∀l,H l=none->Q (.ref l) (upd H l (.tup ys)))\/(SqT X.K H p ys/\Q (.ref p) H))):=by
 intro pins s σ H xs us Q I r h;obtain⟨p,ys,rfl,h⟩:=h;obtain⟨u,rfl,rx⟩:=zm9 r;cases rx;rcases h with⟨hq,q⟩ | ⟨hq,q⟩
 ·obtain⟨its,r',pl,hz⟩:=I.list hq
  have hlen:=r'.length;refine call_tuple_list pl.isList (fun h' kp=>?_) (by simp only[List.size_toArray]<;>omega);have I1:Inv X pins σ H { s with heap:=h' }:=I.kept (t':=s.toks) kp;have I2:Inv X pins σ (upd H h'.objs.size (.tup ys)) { s with heap:=h'.push { cls:=.type "tuple",data:=.seq its.toArray } }:=
   I1.laid (t':=s.toks) (fun b o e=>Heap.get?_push_of_some _ e) (Nat.le_refl _) (show zc0 X.prog X.w _ _ _ (.tup ys) from⟨hz,its,r',IsTup.new _ _⟩)
  exact⟨.ref h'.objs.size,_,I2,rfl,q _ (I1.hok.fresh (Nat.le_refl _))⟩
 ·obtain⟨its,r',pl,hz⟩:=I.tuple hq
  exact call_tuple_same pl ⟨.ref p,H,I,rfl,q⟩
def tyV(K:PySem.W.Frag)(T:String)(x:V)(H:Hp):Prop:=match x with
 |.str _=>T = "str"
 |.int _=>T = "int"
 |.ref p=>(T = "list" /\ ∃xs,SqL K H p xs)\/(T = "tuple" /\ ∃o,K.lookup p=some o/\o.cls=.type "tuple" /\ o.dict=none) \/
  (T = "dict" /\ ((∃kvs,H p=some (.dK kvs))\/∃kvs,H p=some (.dT kvs)))\/(T = "set" /\ ∃S n,H p=some (.set S n))
 |_=>False
theorem z5j{pins:List (Addr×Obj)}{σ:St}{H:Hp}{s:Shared}{T:String}{x:V}{v:Value}(I:Inv X pins σ H s)(r:RelV x v)(ty:tyV X.K T x H) :
  s.TypeIs v T/\∀a,v=.ref a->∃ob,s.heap.get? a=some ob/\ob.dict=none:=by
 cases x with
 | str z=>
   obtain⟨t,rfl⟩:=r;cases (show T = "str" from ty);exact⟨typeIs_str s z t,fun _ e=>nomatch e⟩
 | int i=>
   obtain⟨t,rfl⟩:=r;cases (show T = "int" from ty);exact⟨typeIs_int s i t,fun _ e=>nomatch e⟩
 | ref p=>
   cases r;rcases ty with⟨rfl,xs,hq⟩ | ⟨rfl,o,hk,hc,hd⟩ | ⟨rfl,hk⟩ | ⟨rfl,S,n,hk⟩
   ·obtain⟨its,_,pl,_⟩:=I.list hq
    refine⟨pl.isList.typeIs,fun a e=>?_⟩;cases e;obtain⟨o,n,e,c,hd,_⟩:=pl;exact⟨o,e,hd⟩
   ·refine⟨⟨o,I.kIn p o hk,hc⟩,fun a e=>?_⟩
    cases e;exact⟨o,I.kIn _ o hk,hd⟩
   ·have z:∃o,s.heap.get? p=some o/\o.ExactDict:=by
     rcases hk with⟨kvs,hk⟩ | ⟨kvs,hk⟩
     ·obtain⟨_,_,_,_,o,_,_,e,ex,_⟩:=I.hok p _ hk
      exact⟨o,e,ex⟩
     ·obtain⟨_,_,_,_,o,_,_,e,ex,_⟩:=I.hok p _ hk
      exact⟨o,e,ex⟩
    obtain⟨o,e,ex⟩:=z;refine⟨⟨o,e,ex.1⟩,fun a e2=>?_⟩;cases e2;exact⟨o,e,ex.2.1⟩
   ·obtain⟨o,_,_,_,e,ex,_⟩:=I.hok p _ hk
    refine⟨⟨o,e,ex.1⟩,fun a e2=>?_⟩;cases e2;exact⟨o,e,ex.2.1⟩
 |_=>exact False.elim ty
def tBM(K:PySem.W.Frag)(T:String)(r:V->List V->Hp->VK->Prop)(to:TE)(t:TA):TE:=fun σ H Q=>to σ H fun x H1=>tyV K T x H1/\t σ H1 fun xs H2=>r x xs H2 Q
variable {o e:Expr}{es:List Expr}{to:TE}{t:TA}{name:Str}{apos cpos:Pos}{T id:String}{r:V->List V->Hp->VK->Prop}
theorem z8n(pa:PlainAttrs T)(slot:Slot T name id)(hty:typeOf (.builtin id)=pure (.type "method_descriptor"))(hm:MtR X id r)(ho:PE X o to)(ha:PA X (e::es) t)
  (hbase:attributeBase o name X.env (eval o X.env)=eval o X.env:=by rfl)
  (hfew:((backTo cpos (starEach (e::es) X.env)).all (fun x=>!x.1)&&(backToKw cpos (keywordEach [] X.env)).all (fun x=>x.1.isSome)
   && decide ((e::es).length+([]:List Keyword).length+(if([]:List Keyword).isEmpty then 0 else 1)<30))=true:=by rfl)
  (hline:(apos.endLine==cpos.line)=true:=by rfl) (hs:starEach (e::es) X.env=(false,eval e X.env)::starEach es X.env:=by rfl) (hplain:(backTo cpos (starEach es X.env)).any (·.1)=false:=by rfl) :
  PE X (.Call (.Attribute o name apos) (e::es) [] cpos) (tBM X.K T r to t):=by
 intro pins s σ H Q I h;refine wpAny_Call_method_late hbase hfew hline rfl (thn (ho pins s σ H _ I h) fun v s1 hq_=>?_);obtain⟨x,H1,I1,r1,ty,q1⟩:=hq_;obtain⟨h1,h2⟩:=z5j I1 r1 ty;refine⟨T,id,pa,slot,hty,h1,h2,?_⟩;have hA:=ha cpos pins s1 σ H1 _ I1 q1;rw[hs] at hA ⊢;refine Calls.callWith_builtin (by show(false || (backTo cpos (starEach es X.env)).any (·.1))=false;rw[hplain]<;>rfl) (Calls.evalArgs_plain ?_);exact thn hA fun us s2 ⟨vs,H2,I2,r2,q2⟩=>hm pins s2 σ H2 x vs v us Q I2 r1 r2 q2
end
end L2
namespace L2
open PySem PySem.Spec PyProof.Rows
def MtM(X:Cx)(id:String)(r:V->List V->Hp->VK->Prop):Prop:=
 ∀ (pins:List (Addr×Obj)) (s:Shared) (σ:St) (H:Hp) (x:V) (xs:List V) (v:Value) (us:List Value) (Q:VK),Inv X pins σ H s->RelV x v->Vals xs us->r x xs H Q ->
   wpAny (model X.prog X.w) X.A (call (.builtin id) (v::us)) (EP X pins σ Q) X.xe s
theorem Vals.one{x:V}{us:List Value}(h:Vals [x] us):∃u,us=[u]/\RelV x u:=by
 cases h with
 |cons r t=>cases t;exact⟨_,rfl,r⟩
theorem Vals.eraseIdx:∀{xs:List V} {us:List Value} (i:Nat),Vals xs us->Vals (xs.eraseIdx i) (us.eraseIdx i)
 |_,_,_,.nil=>.nil
 |_,_,0,.cons _ t=>t
 |_,_,i+1,.cons r t=>.cons r (Vals.eraseIdx i t)
theorem zox{α:Type}:∀(l:List α) (i:Nat),(l.eraseIdx i).length<=l.length
 |[],_=>Nat.le_refl _
 |_::_,0=>Nat.le_succ _
 |_::r,i+1=>Nat.succ_le_succ (zox r i)
section
variable {X:Cx}{pins:List (Addr×Obj)}{σ:St}{H:Hp}{s:Shared}{l b:Addr}{xs ys zs:List V}
theorem Inv.lset{its its':List Value}{n:Nat}{f:Array Value->Array Value}{t':Nat}(I:Inv X pins σ H s)(hH:H l=some (.lst xs))
  (e:s.heap.get? l=some { cls:=.type "list",data:=.seq its.toArray n }) (hf:f its.toArray=its'.toArray) (hv:Vals ys its') (hz:ys.length<=sizeLine) :
  Inv X pins σ (upd H l (.lst ys)) { s with heap:=s.heap.update l (Obj.mapSeq f),toks:=t' }:=by
 have q:=PySem.IsL.update e f;rw[hf] at q;refine I.write (x:=l) (e:=l) (by rw[hH];exact trivial) (.inl rfl) (fun b' u hb hu=>(Heap.get?_update_other s.heap (Obj.mapSeq f) (Ne.symm hb)).trans hu) ⟨_,q⟩ ?_;exact⟨hz,its',_,hv,q⟩
theorem Inv.lnew{its:List Value}{t':Nat}(I:Inv X pins σ H s)(hv:Vals ys its)(hz:ys.length<=sizeLine) :
  Inv X pins σ (upd H s.heap.objs.size (.lst ys)) { s with heap:=s.heap.push { cls:=.type "list",data:=.seq its.toArray },toks:=t' }:=
 I.laid (fun _ _ q=>Heap.get?_push_of_some _ q) (Nat.le_refl _) ⟨hz,its,0,hv,Heap.get?_push_size _ rfl⟩
theorem Inv.fresh(I:Inv X pins σ H s):H s.heap.objs.size=none:=I.hok.fresh (Nat.le_refl _)
theorem Inv.lstM(I:Inv X pins σ H s)(hH:H l=some (.lst xs)):xs.length<=sizeLine/\∃(its:List Value) (n:Nat),Vals xs its/\xs.length=its.length/\s.heap.get? l=some { cls:=.type "list",data:=.seq its.toArray n }:=by
 obtain⟨z,its,n,r,e⟩:=I.hok l _ hH;exact⟨z,its,n,r,r.length,e⟩
theorem zzc{n:Nat}(h:n<=sizeLine):Builtin.List.listTooLong n=false:=by
 unfold Builtin.List.listTooLong;exact decide_eq_false (by omega)
end
section
variable {X:Cx}
def zvi:V->List V->Hp->VK->Prop:=fun x vs H Q=>∃l xs y,x=.ref l/\vs=[y]/\H l=some (.lst xs)/\xs.length<sizeLine/\Q .non (upd H l (.lst (xs++[y])))
theorem zkw:MtM X "list.append" zvi:=by
 intro pins s σ H x vs v us Q I rx rv h;obtain⟨l,xs,y,rfl,rfl,hH,hz,q⟩:=h;cases rx;obtain⟨u,rfl,ru⟩:=rv.one;obtain⟨z,its,n,r,hl,e⟩:=I.lstM hH;refine call_meets F.slot_list_append ⟨_,e,rfl⟩ F.entry_list_append (F.args_list_append_2 _ _) (PySem.list_append l its.toArray n u (by rw[List.size_toArray];omega)) ⟨e,?_⟩;refine⟨.non,_,I.lset (its':=its++[u]) hH e (by simp) (r.append (.cons ru .nil)) ?_,rfl,q⟩;rw[List.length_append,List.length_singleton];omega
end
end L2
namespace Att
open PySem PySem.W PySem.Calls PyProof.Rows
theorem zkx{P:Params}{h:Heap}:∀(ns:List Int) (vs:List Value),WellAll P h vs (ns.map WData.int)->IntsAre vs ns:=by
 intro ns
 induction ns with
 | nil=>
   intro vs w;rw[List.map_nil] at w;cases w;exact .nil
 | cons n ns ih=>
   intro vs w;rw[List.map_cons] at w;cases w with
   | cons a b=>
     cases a;exact .cons _ _ (ih _ b)
theorem zvj{l:OpenLaw}{n:Nat}(hn:l.most=some n){P:Params}{h:Heap}{args:List WData}{vals:List Value}
  (hpre:l.row.toRowW.claim.pre args=true) (hwl:WellAll P h vals args) :
  ∃a vs ns,vals=[Value.ref a]/\args=[WData.list (ns.map WData.int)]/\h.get? a=some { cls:=.type "list",data:=.seq vs.toArray }/\IntsAre vs ns/\ns.length<=n:=by
 have hsh:WShape.hasAll [] args [.list .int]=true:=(pre_splitW hpre).1;have hc:l.pre.holds [] { args:=args }=true:=(pre_splitW hpre).2;obtain⟨d,r,rfl,h1,h2⟩:=hasAllW_cons hsh;obtain rfl:=hasAllW_nil h2;obtain⟨xs,rfl,h3⟩:=hasW_list h1;obtain⟨ns,rfl⟩:=items_int h3;have hlen:ns.length<=n:=by
  unfold OpenLaw.pre at hc;have h4:(WTm.not (.lt (.lit (.int (n:Int))) (.len (.arg 0)))).holds [] { args:=[.list (ns.map .int)] }=true:=by
   have h4:=(holds_andW hc).1;rw[hn] at h4;exact h4
  have h5:=condW_of h4 (w_not (w_lt w_lit (w_len_list (w_arg rfl))));rw[List.length_map] at h5;refine Nat.le_of_not_lt fun q=>?_;have q':(n:Int)<((ns.length:Nat):Int):=by omega
  first
   |(rw[decide_eq_true q'] at h5;exact absurd h5 (by decide))
   |(simp at h5;omega)
 cases hwl with
 | cons w1 w2=>
   cases w2;cases w1 with
   |list ho hall=>exact⟨_,_,ns,rfl,rfl,ho,zkx ns _ hall,hlen⟩
theorem zvk(l:OpenLaw)(args:List WData):l.row.toRowW.claim.post args (.bool true) args=true:=
 postW_of (r:=l.row.toRowW) (X:=(true==true))
  (show WShape.has [] (.bool true) .bool=true by first | rfl | decide | simp[WShape.has,WShape.arms,WShape.armsAll])
  (show(WTm.eq .res (.lit (.bool true))).value [] { args:=args,res:=some (.bool true),after:=args }=some (.bool (true==true)) from w_eq_bool (w_res rfl) w_lit) rfl
theorem attach_call{l:OpenLaw}{n:Nat}{q:Program}{loose:List Str}{XP:(Str->Option Value)->Heap->Prop}{YP:World->Heap->Prop}{d:DefRec}
  (hn:l.most=some n) (hdf:d.params.defaults=[])
  (call:∀(w:World) (s₀ s₁:Shared) (mg mb:Str->Option Value) (fa:Addr) (o:Obj) (pm cd doc:Value) (a:Addr) (vs:List Value) (ns:List Int),
   Ground q loose [] XP w s₀ mg mb s₁.heap->YP w s₁.heap ->
   s₁.heap.get? fa=some o->o.data=.func (docDef d.name d.params d.body d.scope pm cd doc)->s₁.heap.CodeRec cd d.name->mg d.name=some (.ref fa) ->
   s₁.heap.get? a=some { cls:=.type "list",data:=.seq vs.toArray }->IntsAre vs ns->ns.length<=n->s₁.gens=#[] ->
   codeAny (model l.prog w) callerA (.call (.ref fa) ⟨[.ref a],[]⟩) (fun r s'=>r=.ok (.ret (.bool true))/\OldK s₁.heap s'.heap/\s'.os=s₁.os/\AllBare s'.gens) s₁) :
  WalkO q loose XP YP l.row.toRowW d [] (fun f vs=>PySem.call f vs):=by
 intro w s₀ s₁ mg mb G Y fa o pm cd doc dV kV ho hd hcd hD hmg hg args vals as hpre hlay hrd hwl hlo;obtain rfl:dV=.none:=Dflts.none hD hdf;obtain rfl:kV=.none:=Dflts.noKw hD;obtain⟨a,vs,ns,rfl,rfl,hobj,hints,hlen⟩:=zvj hn hpre hwl;refine enter_call (codeAny_mono (call w s₀ s₁ mg mb fa o pm cd doc a vs ns G Y ho (fd_plain hd) hcd hmg hobj hints hlen hg) fun r s' hq=>?_);obtain⟨rfl,h2,h3,h4⟩:=hq;exact⟨.inl ⟨.bool true,.bool true,[],rfl,fun _=>rfl,.bool true,zvk l _,fun _=>⟨List.Pairwise.nil,fun _ hm=>(nomatch hm)⟩⟩,h2,h3,h4⟩
end Att
namespace L2
open PySem PySem.Spec PyProof.Rows
theorem zoy:∀{vs:List Value} {ns:List Int},IntsAre vs ns->Vals (ns.map V.int) vs
 |_,_,.nil=>.nil
 |_,_,.cons n t h=>.cons ⟨t,rfl⟩ (zoy h)
def Only(H:Hp):Prop:=∀b,H b=none\/∃o xs,H b=some (.frz o (.lst xs))
theorem zzd {P:Program} {w:World} {K:PySem.W.Frag} {mg mb:Str->Option Value} {CX:CXT} {k:Nat} {fa a:Addr} {fd:FuncData} {x:Str} {sp:Sp} {s₁:Shared} {vs:List Value} {ns:List Int}
  (KX:K.In s₁.heap) (hns:s₁.heap.Ns mainGlobals mg) (hb:s₁.heap.Ns builtinsNs mb) (hbb:∀x:Str,x ≠ "__name__" -> mb x=bootBuiltins x) (hlim:s₁.heap.NoLimit) (hg:s₁.gens=#[])
  (ha:s₁.heap.get? a=some { cls:=.type "list",data:=.seq vs.toArray }) (hi:IntsAre vs ns) (hl:ns.length<=sizeLine) (hr:Room k callerA)
  (F:∀base:Heap,K.In base->base.Ns mainGlobals mg->FnOk P w K mg base CX k fa fd [x] sp) (hbind:∀(s:Shared) (u:Value),BindsTo s fd ⟨[u],[]⟩ [(x,u)])
  (hsp:∀H:Hp,Only H->SqL K H a (ns.map V.int)->sp [.ref a] H (fun v _=>v=.bl true) fun _ _ _=>False)
  (hCX:∀H e s',CX [] H s₁ (fun _ _ _=>False) e s'->False) :
  codeAny (model P w) callerA (.call (.ref fa) ⟨[.ref a],[]⟩) (fun r s'=>r=.ok (.ret (.bool true))/\OldK s₁.heap s'.heap/\s'.os=s₁.os/\AllBare s'.gens) s₁:=by
 have rv := zoy hi;have lenV:=hi.length;have core:∀H:Hp,Only H->SqL K H a (ns.map V.int)->HOk P w H s₁.heap->(∀b,H b≠none->b=a)->(H a≠none->K.lookup a=none) ->
   codeAny (model P w) callerA (.call (.ref fa) ⟨[.ref a],[]⟩) (fun r s'=>r=.ok (.ret (.bool true))/\OldK s₁.heap s'.heap/\s'.os=s₁.os/\AllBare s'.gens) s₁:=by
  intro H hO hS hok hA hK;have base_of:∀{b:Addr} {o:Obj},s₁.heap.get? b=some o->H b=none->(hidT s₁.heap H).get? b=some o:=fun e n=>zy0 e n;have noA:∀{b:Addr} {o:Obj} {es:Array DictEntry} {ep:Nat},s₁.heap.get? b=some o->o.data=.dict es ep->H b=none:=fun {b o es ep} e d=>by
   cases q:H b with
   |none=>rfl
   | some u=>
     have e':b=a:=hA b (by rw[q];simp);subst e';rw[ha] at e;cases e;have d':Data.seq vs.toArray _=Data.dict es ep:=d;cases d'
  have nsK:∀{b:Addr} {m:Str->Option Value},s₁.heap.Ns b m->(hidT s₁.heap H).Ns b m:=fun {b m} ⟨o,es,ep,e,d,r⟩=>⟨o,es,ep,base_of e (noA e d),d,r⟩;have hKb:K.In (hidT s₁.heap H):=fun b o e=>base_of (KX b o e) (by
   cases q:H b with
   |none=>rfl
   | some u=>
     have e':b=a:=hA b (by rw[q];simp);subst e';rw[hK (by rw[q];simp)] at e;cases e)
  have hM:Mod K mg (hidT s₁.heap H):=⟨hKb,nsK hns,⟨mb,nsK hb,hbb⟩,let ⟨mc,h1,h2⟩:=hlim;⟨mc,nsK h1,h2⟩⟩;have e0:Env0 P w K mg (hidT s₁.heap H) callerA [] s₁ H:=⟨rfl,hM,fun b o e=>z10 e,Nat.le_of_eq (zuv _ _),trivial,fun b hb=>absurd (show b∈([]:List Addr) from hb) (by simp),hok,.of_eq hg⟩;refine codeAny_mono ((F _ hKb (nsK hns)).run callerA [] s₁ H ⟨[.ref a],[]⟩ [.ref a] [.ref a] _ _ hr e0 (hbind s₁ (.ref a)) (.cons rfl .nil) (hsp H hO hS)) fun r s' h=>?_;cases r with
  |error e=>exact(hCX H e s' h).elim
  | ok fl=>
    cases fl with
    |next=>exact False.elim h
    |brk=>exact False.elim h
    |cont=>exact False.elim h
    | ret u=>
      obtain⟨v,H',os,bare,un,hok',r',q⟩:=h;have q':v=.bl true:=q;subst q';obtain rfl:u=Value.bool true:=r';refine⟨rfl,OldK.of_keep fun b o e=>?_,os,bare⟩;cases q:H b with
      |none=>exact un.keep b o e q (by intro z;exact absurd (show b∈([]:List Addr) from z) (by simp)) (by simp)
      | some u=>
        rcases hO b with z | ⟨ob,xs,z⟩
        ·rw[q] at z;cases z
        ·have z2:=un.frzs b ob _ z
         obtain⟨e1,_⟩:=hok b _ z;obtain⟨e2,_⟩:=hok' b _ z2;rw[e] at e1;cases e1;exact e2
 cases hk:K.lookup a with
 | some o=>
   have e:=KX a o hk;rw[ha] at e;cases e;refine core (fun _=>none) (fun _=>.inl rfl) (.inr ⟨_,vs.toArray,_,hk,rfl,rfl,rfl,by rw[List.size_toArray,lenV];exact hl,by simpa using rv⟩) (fun b u z=>by have z':(none:Option HO)=some u:=z;cases z') (fun b z=>absurd rfl z) fun z=>absurd rfl z
 | none=>
   refine core (fun b=>if b=a then some (.frz { cls:=.type "list",data:=.seq vs.toArray } (.lst (ns.map V.int))) else none) (fun b=>?_) (.inl (.inr ⟨{ cls:=.type "list",data:=.seq vs.toArray },if_pos rfl⟩)) (fun b u z=>?_) (fun b z=>?_) fun _=>hk
   ·by_cases hb:b=a
    ·exact .inr ⟨_,_,if_pos hb⟩
    ·exact .inl (if_neg hb)
   ·by_cases hb:b=a
    ·have z':=(if_pos hb).symm.trans z
     cases z';subst hb;exact⟨ha,by rw[List.length_map];exact hl,vs,_,rv,ha⟩
    ·have z':=(if_neg hb).symm.trans z
     cases z'
   ·by_cases hb:b=a
    ·exact hb
    ·exact absurd (if_neg hb) z
end L2
namespace L2
open PySem PySem.Spec PyProof.Rows
theorem walk_of{l:PySem.W.OpenLaw}{n k:Nat}{q:Program}{loose:List Str}{XP:(Str->Option Value)->Heap->Prop}{YP:World->Heap->Prop}{d:DefRec}{K:Params->PySem.W.Frag}{CX:World->CXT}{sp:World->Sp}{x:Str}
  (hn:l.most=some n) (hn2:n<=sizeLine) (hdf:d.params.defaults=[]) (hr:Room k callerA)
  (hY:∀(w:World) (h:Heap),YP w h->(K w.params).In h)
  (F : ∀(w:World) (mg:Str->Option Value) (fa:Addr) (h:Heap),(K w.params).In h->h.Ns mainGlobals mg->mg d.name=some (.ref fa) ->
   ∃ fd:FuncData,(∀(s:Shared) (u:Value),BindsTo s fd ⟨[u],[]⟩ [(x,u)]) /\
     ∀base:Heap,(K w.params).In base->base.Ns mainGlobals mg->FnOk l.prog w (K w.params) mg base (CX w) k fa fd [x] (sp w))
  (hsp:∀(w:World) (H:Hp) (a:Addr) (ns:List Int),ns.length<=n->Only H->SqL (K w.params) H a (ns.map V.int)->sp w [.ref a] H (fun v _=>v=.bl true) fun _ _ _=>False)
  (hCX:∀(w:World) (H:Hp) (s:Shared) (e:Value) (s':Shared),CX w [] H s (fun _ _ _=>False) e s'->False) :
  PySem.W.WalkO q loose XP YP l.row.toRowW d [] (fun f vs=>PySem.call f vs):=by
 refine Att.attach_call hn hdf fun w s₀ s₁ mg mb fa o pm cd doc a vs ns G Y ho hd hcd hmg hobj hints hlen hg=>?_;have KX:=hY w _ Y;obtain⟨fd,hb,hF⟩:=F w mg fa _ KX G.T.g hmg;exact zzd KX G.T.g G.T.b G.T.builtins G.T.nolimit hg hobj hints (Nat.le_trans hlen hn2) hr hF hb (fun H hO hS=>hsp w H a ns hlen hO hS) fun H e s'=>hCX w H s₁ e s'
end L2
namespace L2
open PySem PySem.Spec PyProof.Rows
def zfd(s:Stmt)(j:Nat):Stmt:=match s with
 |.ClassDef _ _ _ body _ _ _ _ _ _ _=>body.getD j (.Pass ⟨0,0,0,0⟩)
 |_=>.Pass ⟨0,0,0,0⟩
def zaq(s:Stmt):Arguments:=match s with
 |.FunctionDef _ a _ _ _ _ _ _ _ _=>a
 |_=>{ posonlyargs:=[],args:=[],vararg:=none,kwonlyargs:=[],kw_defaults:=[],kwarg:=none,defaults:=[] }
def zao(s:Stmt):List Stmt:=match s with
 |.FunctionDef _ _ b _ _ _ _ _ _ _=>b
 |_=>[]
def zab(s:Stmt):Scope:=match s with
 |.FunctionDef _ _ _ _ _ _ sc _ _ _=>sc
 |_=>{ kind:=.function,names:=[],isGenerator:=false,isCoroutine:=false }
abbrev CX0:CXT:=fun _ _ _ _ _ _=>False
abbrev E0:XK:=fun _ _ _=>False
structure Fun(K:PySem.W.Frag)(x qual:Str)(st:Stmt)(f:Addr)(fd:FuncData):Prop where
 ex:∃(oc:Value) (od:Option Addr) (kV doc pm:Value) (an:Option Addr) (cdv ct:Value) (osl:Array (Option Value)),
  fd=PySem.W.fnOf x qual (zaq st) (zao st) (zab st) .none kV doc pm an cdv ct/\K.lookup f=some ⟨oc,od,.func fd,osl⟩/\PySem.W.codeIn K cdv qual=true
 kp:PySem.W.keepIn K (.ref f)=true
section
variable {P:Program}{w:World}{K:PySem.W.Frag}{mg:Str->Option Value}{base:Heap}
theorem Fun.binds{x qual:Str}{st:Stmt}{f:Addr}{fd:FuncData}{ps:List Str}(F:Fun K x qual st f fd)
  (h:∀(kV doc pm:Value) (an:Option Addr) (cdv ct:Value) (us:List Value),us.length=ps.length->bindArgs (PySem.W.fnOf x qual (zaq st) (zao st) (zab st) .none kV doc pm an cdv ct) ⟨us,[]⟩=pure (ps.zip us)):zf6 K fd ps []:=by
 obtain⟨oc,od,kV,doc,pm,an,cdv,ct,osl,rfl,lk,hcd⟩:=F.ex;exact .all (h kV doc pm an cdv ct)
theorem zbt{x qual:Str}{st:Stmt}{f:Addr}{oc:Value}{od an:Option Addr}{osl:Array (Option Value)}{kV doc pm cdv ct:Value}(l:K.lookup f=some ⟨oc,od,.func (PySem.W.fnOf x qual (zaq st) (zao st) (zab st) .none kV doc pm an cdv ct),osl⟩)
 (c:PySem.W.codeIn K cdv qual=true) (k:PySem.W.keepIn K (.ref f)=true):Fun K x qual st f (PySem.W.fnOf x qual (zaq st) (zao st) (zab st) .none kV doc pm an cdv ct):=⟨⟨oc,od,kV,doc,pm,an,cdv,ct,osl,rfl,l,c⟩,k⟩
end
theorem z8o{A:Around}{k:Nat}(hr:Room k A):A.units+1<cLine:=Nat.lt_of_le_of_lt (Nat.add_le_add_left (by decide:1<=64) _) hr.units
theorem zoz{n:Nat}(h:n<=1000):n<sizeLine:=Nat.lt_of_le_of_lt h (by decide)
section
variable {X:Cx}
theorem pv(i:Nat){x:Str}{pos:Pos}(hN:X.N[i]?=some x:=by rfl)(hv:Vis X.env.scope x:=by first | exact Or.inl rfl | exact Or.inr (Or.inl rfl) | exact Or.inr (Or.inr rfl))(hd:(x==("__debug__" : Str))=false:=by decide)
 (hcd:(x==("__classdict__" : Str))=false:=by decide):PE X (.Name x pos) (tVar i):=zol hN hv hd hcd
end
theorem iteF{A B:Prop}(h:B):if false=true then A else B:=by
 rw[if_neg Bool.false_ne_true];exact h
theorem iteT{A B:Prop}(h:A):if true=true then A else B:=by
 rw[if_pos rfl];exact h
end L2
namespace L2
open PySem PySem.Spec PyProof.Rows
section
variable {X:Cx}
theorem zvl:zh7 X (.builtin "len") (fun xs H Q=>∃a kvs,xs=[V.ref a]/\H a=some (.dK kvs)/\Q (.int kvs.length) H):=by
 intro pins s σ H xs us Q I r h;obtain⟨a,kvs,rfl,ha,q⟩:=h;obtain⟨u,rfl,ru⟩:=zm9 r;cases ru;exact z8h I (.inl ha) fun t s' I'=>⟨.int kvs.length,H,I',⟨t,rfl⟩,q⟩
end
end L2
namespace L2
open PySem PySem.Spec PyProof.Rows
section
variable {α β:Type}
def Dk:Sem α->Prop
 |.pure _=>True
 |.raise _=>True
 |.unsupported _=>True
 |.finish _=>True
 |.rule _ k=>Dk (k ())
 |.at _ k=>Dk (k ())
 |.load _ _ k=>∀o,Dk (k o)
 |.update _ _ f k=>(∀o,(f o).dict=o.dict/\(f o).isFreed=o.isFreed)/\Dk (k ())
 |.loadIfAlive _ k=>∀o,Dk (k o)
 |.point _ k=>Dk (k ())
 |.register _ _=>True
 |.alloc _ k=>∀a,Dk (k a)
 |.fresh k=>∀t,Dk (k t)
 |.ask k=>∀x,Dk (k x)
 |.choose _ _ k=>∀x,Dk (k x)
 |.os _ _ k=>∀x,Dk (k x)
 |.handled _ k=>∀x,Dk (k x)
 |.newGen _ k=>∀x,Dk (k x)
 |.stack k=>∀x,Dk (k x)
 |.thread k=>∀x,Dk (k x)
 |_=>False
def HasD(e:Addr)(d:Option Addr)(h:Heap):Prop:=∃o,h.get? e=some o/\o.dict=d
theorem HasD.upd{e a:Addr}{d:Option Addr}{h:Heap}{f:Obj->Obj}(x:HasD e d h)(hf:∀o,(f o).dict=o.dict/\(f o).isFreed=o.isFreed):HasD e d (h.update a f):=by
 obtain⟨o,h1,h2⟩:=x;by_cases q:a=e
 ·subst q
  refine⟨f o,Heap.get?_update_self f h1 ?_,by rw[(hf o).1];exact h2⟩;rw[(hf o).2];exact(Heap.get?_some_iff.mp h1).2
 ·exact⟨o,by rw[Heap.get?_update_other _ _ q];exact h1,h2⟩
theorem z8p{M:Model}{Γ:PySem.Ctx}{e:Addr}{d:Option Addr}:∀{t:Sem α} {Q:α->Pos->Shared->Prop} {E:Value->Pos->Shared->Prop} {p:Pos} {s:Shared},Dk t->HasD e d s.heap->Sem.wp M Γ t Q E p s ->
  Sem.wp M Γ t (fun a p s'=>Q a p s'/\HasD e d s'.heap) (fun x p s'=>E x p s'/\HasD e d s'.heap) p s:=by
 intro t
 induction t with
 |pure a=>exact fun _ hd h=>⟨h,hd⟩
 |raise a=>exact fun _ hd h=>⟨h,hd⟩
 |unsupported a=>exact fun _ hd h=>h
 |finish a=>exact fun _ hd h=>h
 |rule a k ih=>exact fun dk hd h=>ih () dk hd h
 | «at» a k ih=>exact fun dk hd h=>ih () dk hd h
 |load a b k ih=>exact fun dk hd ⟨o,h1,h2⟩=>⟨o,h1,ih o (dk o) hd h2⟩
 |update a b f k ih=>exact fun dk hd ⟨h1,h2⟩=>⟨h1,ih () dk.2 (hd.upd dk.1) h2⟩
 |loadIfAlive a k ih=>exact fun dk hd h=>ih _ (dk _) hd h
 |point a k ih=>exact fun dk hd h=>ih () dk hd h
 |register a k ih=>exact fun dk hd h=>h
 |alloc o k ih=>exact fun dk hd h=>ih _ (dk _) (by obtain⟨q,h1,h2⟩:=hd;exact⟨q,Heap.get?_push_of_some _ h1,h2⟩) h
 |fresh k ih=>exact fun dk hd h=>ih _ (dk _) hd h
 |ask k ih=>exact fun dk hd h=>ih _ (dk _) hd h
 |choose a b k ih=>exact fun dk hd ⟨h0,h⟩=>⟨h0,ih _ (dk _) hd h⟩
 |os a b k ih=>exact fun dk hd h=>ih _ (dk _) hd h
 |call c h a b k ih=>exact fun dk=>dk.elim
 |handled a k ih=>exact fun dk hd h=>ih _ (dk _) hd h
 |genState g k ih=>exact fun dk=>dk.elim
 |newGen c k ih=>exact fun dk hd h=>ih _ (dk _) hd h
 |resume g r a k ih=>exact fun dk=>dk.elim
 |yield=>exact fun dk=>dk.elim
 |stack k ih=>exact fun dk hd h=>ih _ (dk _) hd h
 |await=>exact fun dk=>dk.elim
 |fork=>exact fun dk=>dk.elim
 |thread k ih=>exact fun dk hd h=>ih _ (dk _) hd h
theorem zmm{M:Model}{A:Around}{e:Addr}{d:Option Addr}{t:Sem α}{Q:α->Shared->Prop}{E:Value->Shared->Prop}{s:Shared}(dk:Dk t)(hd:HasD e d s.heap)(h:wpAny M A t Q E s) :
 wpAny M A t (fun a s'=>Q a s'/\HasD e d s'.heap) (fun x s'=>E x s'/\HasD e d s'.heap) s:=fun Γ p hi=>z8p dk hd (h Γ p hi)
theorem Dk.bind{m:Sem α}{f:α->Sem β}(h:Dk m)(hf:∀a,Dk (f a)):Dk (m >>= f):=by
 revert h
 show Dk m->Dk (Sem.bind m f)
 induction m with
 |pure a=>exact fun _=>hf a
 |raise a=>exact fun _=>trivial
 |unsupported a=>exact fun _=>trivial
 |finish a=>exact fun _=>trivial
 |rule a k ih=>exact fun dk=>ih () dk
 | «at» a k ih=>exact fun dk=>ih () dk
 |load a b k ih=>exact fun dk o=>ih o (dk o)
 |update a b f k ih=>exact fun dk=>⟨dk.1,ih () dk.2⟩
 |loadIfAlive a k ih=>exact fun dk o=>ih o (dk o)
 |point a k ih=>exact fun dk=>ih () dk
 |register a k ih=>exact fun dk=>trivial
 |alloc o k ih=>exact fun dk o=>ih o (dk o)
 |fresh k ih=>exact fun dk o=>ih o (dk o)
 |ask k ih=>exact fun dk o=>ih o (dk o)
 |choose a b k ih=>exact fun dk o=>ih o (dk o)
 |os a b k ih=>exact fun dk o=>ih o (dk o)
 |call c h a b k ih=>exact fun dk=>dk.elim
 |handled a k ih=>exact fun dk o=>ih o (dk o)
 |genState g k ih=>exact fun dk=>dk.elim
 |newGen c k ih=>exact fun dk o=>ih o (dk o)
 |resume g r a k ih=>exact fun dk=>dk.elim
 |yield=>exact fun dk=>dk.elim
 |stack k ih=>exact fun dk o=>ih o (dk o)
 |await=>exact fun dk=>dk.elim
 |fork=>exact fun dk=>dk.elim
 |thread k ih=>exact fun dk o=>ih o (dk o)
end
theorem zvm{α:Type}{a:α}:Dk (pure a:Sem α):=trivial
theorem zqq{a:Addr}:Dk (load a):=fun _=>trivial
theorem z03{a:Addr}{f:Obj->Obj}(h:∀o,(f o).dict=o.dict/\(f o).isFreed=o.isFreed):Dk (update a f):=⟨h,trivial⟩
theorem zly{f:Array Value->Array Value}(o:Obj):(Obj.mapFields f o).dict=o.dict/\(Obj.mapFields f o).isFreed=o.isFreed:=by
 obtain⟨c,d,x,sl⟩:=o;cases x<;>exact⟨rfl,rfl⟩
theorem zih{v u:Value}{i:Nat}:Dk (setField v i u):=by
 unfold setField
 split
 ·unfold updateField
  refine zqq.bind fun o=>?_
  split
  ·split
   ·exact z03 fun o=>zly o
   ·trivial
  ·trivial
 ·trivial
theorem zki{v:Value}{i:Nat}:Dk (field v i):=by
 unfold field fieldsOf;refine Dk.bind ?_ fun x=>?_
 ·split
  ·refine zqq.bind fun o=>?_
   split<;>trivial
  ·trivial
 ·split<;>trivial
theorem zky{v:Value}{f:Option Addr}:Dk (setFlight v f):=by
 unfold setFlight;refine zki.bind fun tb=>?_
 split
 ·exact zih
 ·trivial
theorem zne:Dk stack:=fun _=>trivial
theorem zvn{env:Env}{l:List Env}:Dk (behindIsImport env l):=by
 unfold behindIsImport
 split
 ·trivial
 ·split
  ·trivial
  ·exact zki.bind fun _=>trivial
theorem zqr{env:Env}{b:Bool}{l:List Env}:Dk (keptBack env b l):=by
 unfold keptBack
 split
 ·split
  ·trivial
  ·unfold underTheClaimsCaller
   refine Dk.bind (m:=stack >>= fun _=>pure _) (zne.bind fun _=>zvm) fun _=>zvm
 ·trivial
theorem zr7:∀l:List Env,Dk (readyFrames l)
 |[]=>trivial
 | env::outer=>by
   unfold readyFrames
   split
   ·refine zqq.bind fun o=>?_
    split
    ·trivial
    ·exact zvn.bind fun b=>zqr.bind fun v=>Dk.bind (z03 (by intro o;obtain⟨c,d,x,sl⟩:=o;cases x<;>exact⟨rfl,rfl⟩)) fun _=>zr7 outer
   ·trivial
theorem ztu{env:Env}:Dk (PySem.frameOf env):=by
 unfold PySem.frameOf;refine Dk.bind ?_ fun l=>Dk.bind ?_ fun x=>?_
 ·unfold frameEnvs
  exact zne.bind fun _=>trivial
 ·unfold frameObject
  split
  ·trivial
  ·exact(zr7 _).bind fun _=>trivial
 ·split<;>trivial
theorem zze{f:Addr}{b:Bool}:Dk (entryPlaceOf f b):=by
 unfold entryPlaceOf;refine zne.bind fun l=>?_
 split<;>trivial
theorem zo0{x:String}{vs:List Value}:Dk (newFields x vs):=by
 unfold newFields newObj newObjAsIs;dsimp only
 split
 ·trivial
 ·exact fun a=>trivial
theorem zvo{v:Value}{env:Env}:Dk (noteFrame v env):=by
 unfold noteFrame
 split
 ·refine zki.bind fun hd=>?_
  have fin:∀f:Addr,Dk (do setField v 1 (<- EntryCells.newEntry hd (<- PySem.frameOf env) .none (rawInt f) .none (<- entryPlaceOf f (hd != .none)))):=fun f=>
   ztu.bind fun a=>zze.bind fun b=>Dk.bind (by unfold EntryCells.newEntry;exact zo0) fun _=>zih
  split
  ·refine zki.bind fun _=>?_
   split
   ·trivial
   ·exact zih.bind fun _=>fin _
  ·exact fin _
 ·trivial
theorem zjf{v:Value}{env:Env}:Dk (leaving env v):=by
 unfold leaving;exact zvo.bind fun _=>zky
end L2
namespace L2
open PySem PySem.Spec PyProof.Rows
def CXE(P:Program)(w:World):CXT:=fun outer H s E e s'=>
 ∃ (ea:Addr) (cls a0:Value) (B:Heap) (H':Hp) (dx:Option Addr),e=.ref ea/\s'.os=s.os/\AllBare s'.gens /\
   Heap.FlyingW B outer ea cls a0 s'.heap/\HOk P w H' B /\
   (∀b o,s.heap.get? b=some o->H b=none->b∉frs outer->B.get? b=some o) /\
   (∀b o,s.heap.get? b=some o->H b=none->b∈frs outer->∃sl,s'.heap.get? b=some { o with slots:=sl }) /\
   (∀b o,s.heap.get? b=some o->H b=none->H' b=none) /\
   (∀b o,s.heap.get? b=some o->b∉frs outer->∃o',B.get? b=some o') /\
   (∀b xs,H b=some (.tup xs)->H' b=some (.tup xs))/\(∀b o u,H b=some (.frz o u)->H' b=some (.frz o u)) /\
   (∀b ps,H b=some (.tbl ps)->∃more,H' b=some (.tbl (ps++more)))/\HasD ea dx s'.heap/\E cls dx H'
theorem HOk.hide{P:Program}{w:World}{H:Hp}{h:Heap}{l:List Addr}(ok:HOk P w H h)(hl:∀b∈l,H b=none):HOk P w H (PySem.W.hideAll h l):=fun a o e=>
 (ok a o e).stay (fun b u hb q=>PySem.W.hideAll_get _ q fun m=>by
  rcases hb with z | z
  ·rw[z] at m;rw[hl a m] at e;cases e
  ·rw[hl b m] at z;cases z) (fun _ q=>q) fun _ _ q=>q
def znf(X:Cx)(E:XK):Prop:=∀(pins:List (Addr×Obj)) (σ:St) (H:Hp) (s:Shared) (ea C:Addr) (vs:List Value) (h':Heap),Inv X pins σ H s ->
 Heap.MadeExcOf s.heap h' ea (.ref C) vs->E (.ref C) none H->X.xe (.ref ea) { s with heap:=h' }
section
variable {P:Program}{w:World}{K:PySem.W.Frag}{mg:Str->Option Value}{base:Heap}{N:List Str}{qual:Str}{scope:Scope}{f:Addr}{cd:Value}{A:Around}{outer:List Env}{s₀:Shared}{H₀:Hp}{E:XK}
theorem zf7:znf (cxOf (CXE P w) P w K mg base N qual scope f cd A outer s₀ H₀ E) E:=by
 intro pins σ H s ea C vs h' I hm hE;let X:=cxOf (CXE P w) P w K mg base N qual scope f cd A outer s₀ H₀ E;have hst:X.stack=X.env::outer:=rfl;have hfrl:∀b,b∈frs X.stack↔b=X.env.locals\/b∈frs outer:=fun b=>by
  show b∈X.env.locals::frs outer↔_;exact List.mem_cons
 have hF:s.heap.FunFrames (PySem.W.hideAll s.heap (frs X.stack)) X.stack:=PySem.W.funFrames_hide I.stack fun env he a ha=>List.mem_filterMap.mpr ⟨env,he,ha⟩;show wpAny (model P w) X.A (leaving X.env (.ref ea)) _ _ _;have hd0:HasD ea none h':=by obtain⟨t,he,_⟩:=hm.there;exact⟨_,he,rfl⟩
 refine wpAny_mono (zmm (e:=ea) (d:=none) (s:={ s with heap:=h' }) zjf hd0 (wpAny_leaves_madeW (Q:=fun _ s2=>∃h1 t,s2={ s with heap:=h1 }/\Heap.FlyingW (PySem.W.hideAll s.heap (frs X.stack)) outer ea (.ref C) (.ref t) h1/\Heap.UpToSlots h' h1)
  (s:={ s with heap:=h' }) (base:=PySem.W.hideAll s.heap (frs X.stack)) (h:=s.heap) (env:=X.env) (outer:=outer) (L:=X.env.locals) I.ok.frames rfl (fun b o q=>PySem.W.of_hideAll _ q) hF hm fun h1 t x1 x2 x3 x4=>⟨h1,t,rfl,x1,x4⟩)) (fun _ s2 z=>?_) fun _ _ z=>z.1
 obtain⟨⟨h1,t,rfl,x1,x4⟩,hd1⟩:=z;have up:∀b o,s.heap.get? b=some o->b∈frs X.stack->∃sl,h1.get? b=some { o with slots:=sl }:=fun b o e hb=>by
  obtain⟨o',e',nd⟩:=(I.stack.mem hb).2;rw[e] at e';cases e';exact x4 b o (hm.keeps b o e) nd
 refine⟨ea,.ref C,.ref t,_,H,none,rfl,I.os,I.bare,x1,I.hok.hide I.stkFree,fun b o e n hb=>?_,fun b o e n hb=>?_,fun b o e n=>I.base.free b o e n (by simp[cxOf]),fun b o e hb=>?_,I.base.tups,I.base.frzs,I.base.tbls,hd1,hE⟩
 ·have hL:b≠X.env.locals:=Nat.ne_of_lt (Nat.lt_of_lt_of_le (Heap.lt_size e) I.ok.above)
  refine PySem.W.hideAll_get _ (I.base.keep b o e n hb (by simp[cxOf])) fun m=>?_;rcases(hfrl b).mp m with z | z
  ·exact hL z
  ·exact hb z
 ·obtain⟨sl,e1⟩:=I.base.slot b o e n hb (by simp[cxOf])
  obtain⟨sl',e2⟩:=up b _ e1 ((hfrl b).mpr (.inr hb));exact⟨sl',e2⟩
 ·have hL:b≠X.env.locals:=Nat.ne_of_lt (Nat.lt_of_lt_of_le (Heap.lt_size e) I.ok.above)
  obtain⟨o',e1⟩:=I.base.there b o e (by simp[cxOf]);refine⟨o',PySem.W.hideAll_get _ e1 fun m=>?_⟩;rcases(hfrl b).mp m with z | z
  ·exact hL z
  ·exact hb z
theorem zam:zeb (CXE P w) (cxOf (CXE P w) P w K mg base N qual scope f cd A outer s₀ H₀ E) E:=by
 intro pins σ H s e s' I h;obtain⟨ea,cls,a0,B,H',dx,rfl,ho,hb,fly,hok,keep,slot,free,there,tups,frzs,tbls,hd,hE⟩:=h;let X:=cxOf (CXE P w) P w K mg base N qual scope f cd A outer s₀ H₀ E;have hfrl:∀b,b∈frs X.stack↔b=X.env.locals\/b∈frs outer:=fun b=>by
  show b∈X.env.locals::frs outer↔_;exact List.mem_cons
 show wpAny (model P w) X.A (leaving X.env (.ref ea)) _ _ _;refine wpAny_mono (zmm zjf hd (wpAny_leaves_onW (Q:=fun _ s2=>∃h1,s2={ s' with heap:=h1 }/\Heap.FlyingW B outer ea cls a0 h1/\Heap.UpToSlots s'.heap h1) (base:=B) (env:=X.env) (outer:=outer) (L:=X.env.locals) I.ok.frames rfl fly fun h1 x1 x4=>⟨h1,rfl,x1,x4⟩)) (fun _ s2 z=>?_) fun _ _ z=>z.1;obtain⟨⟨h1,rfl,x1,x4⟩,hd1⟩:=z;have ndata:∀b,b∈frs X.stack->∀o,s'.heap.get? b=some o->∃sl,h1.get? b=some { o with slots:=sl }:=fun b hb o e=>by
  obtain⟨o',e',nd⟩:=(fly.2.2.1.mem hb).2;rw[e] at e';cases e';exact x4 b o e nd
 refine⟨ea,cls,a0,B,H',dx,rfl,ho.trans I.os,hb,x1,hok,fun b o e n hb=>?_,fun b o e n hb=>?_,fun b o e n=>?_,fun b o e hb=>?_,fun b xs q=>tups b xs (I.base.tups b xs q),fun b o u q=>frzs b o u (I.base.frzs b o u q),fun b ps q=>?_,hd1,hE⟩
 ·have hL:b≠X.env.locals:=Nat.ne_of_lt (Nat.lt_of_lt_of_le (Heap.lt_size e) I.ok.above)
  refine keep b o (I.base.keep b o e n hb (by simp[cxOf])) (I.base.free b o e n (by simp[cxOf])) fun m=>?_;rcases(hfrl b).mp m with z | z
  ·exact hL z
  ·exact hb z
 ·obtain⟨sl,e1⟩:=I.base.slot b o e n hb (by simp[cxOf])
  obtain⟨sl',e2⟩:=slot b _ e1 (I.base.free b o e n (by simp[cxOf])) ((hfrl b).mpr (.inr hb));obtain⟨sl2,e3⟩:=ndata b ((hfrl b).mpr (.inr hb)) _ e2;exact⟨sl2,e3⟩
 ·obtain⟨o',e1⟩:=I.base.there b o e (by simp[cxOf])
  exact free b o' e1 (I.base.free b o e n (by simp[cxOf]))
 ·have hL:b≠X.env.locals:=Nat.ne_of_lt (Nat.lt_of_lt_of_le (Heap.lt_size e) I.ok.above)
  obtain⟨o',e1⟩:=I.base.there b o e (by simp[cxOf]);refine there b o' e1 fun m=>?_;rcases(hfrl b).mp m with z | z
  ·exact hL z
  ·exact hb z
 ·obtain⟨m1,q1⟩:=I.base.tbls b ps q
  obtain⟨m2,q2⟩:=tbls b _ q1;exact⟨m1++m2,by rw[q2,Array.append_assoc]⟩
end
abbrev bmVE:List Value:=[.type "ValueError",.type "Exception",.type "BaseException",.type "object"]
def zd1(K:PySem.W.Frag)(C:Addr):Option (List Value):=match K.lookup C with
 | some ⟨.type "type",_,.cls cd,sl⟩=>(match cd.mro,sl.toList with
   |.ref C'::bm,[_,_,_,_,some (.builtin _),_]=>bif (C'==C)&&!cd.hasDel&&bm.contains (.type "BaseException") then some bm else none
   |_,_=>none)
 |_=>none
theorem z04{K:PySem.W.Frag}{h:Heap}{C:Addr}{bm:List Value}(X:K.In h)(q:zd1 K C=some bm) :
  bm.contains (.type "BaseException")=true/\∃nm qn N bs hdct sn sub ab col dd k0 k1 k2 k3 k5 newId,h.get? C=some (excClassObj nm qn C N bs bm hdct sn sub ab col dd k0 k1 k2 k3 k5 newId):=by
 unfold zd1 at q
 split at q
 ·rename_i dct cdt slt look
  split at q
  ·rename_i C2 bm2 j0 j1 j2 j3 nid j5 em es
   cases c:((C2==C)&&!cdt.hasDel&&bm2.contains (.type "BaseException")) with
   |false=>rw[c] at q;cases q
   | true=>
     rw[c] at q;have e2:bm2=bm:=Option.some.inj q;simp only[Bool.and_eq_true,beq_iff_eq,Bool.not_eq_true'] at c;obtain⟨⟨c1,c2⟩,c3⟩:=c;subst c1 e2;refine⟨c3,?_⟩;have ob:=X _ _ look;obtain⟨a1,a2,a3,a4,a5,a6,a7,a8,a9,b1,b2⟩:=cdt;have em:a3=.ref C2::bm2:=em;have c2:b2=false:=c2;have hsl:slt=#[j0,j1,j2,j3,some (.builtin nid),j5]:=by
      obtain⟨l⟩:=slt;exact congrArg Array.mk es
     rw[em,c2,hsl] at ob;exact⟨_,_,_,_,_,_,_,_,_,_,_,_,_,_,_,_,ob⟩
  ·cases q
 ·cases q
theorem zzf{K:PySem.W.Frag}{h:Heap}{C:Addr}{bmB:List Value}{newId:String}(X:K.In h)(q:PySem.W.excIn K C bmB newId=true) :
  ∃bm N nm qn bs hdct sn sub ab col dd k0 k1 k2 k3 k5 mN,h.get? C=some (excClassObj nm qn C N bs bm hdct sn sub ab col dd k0 k1 k2 k3 k5 newId)/\h.Ns N mN/\mN "__init__" = none/\OwnTail h bmB bm:=by
 unfold PySem.W.excIn at q
 split at q
 ·rename_i dct cdt slt look
  split at q
  ·rename_i C2 bm2 j0 j1 j2 j3 nid j5 em es
   simp only[Bool.and_eq_true,beq_iff_eq,Bool.not_eq_true'] at q;obtain⟨⟨⟨⟨⟨c1,c2⟩,c3⟩,tl⟩,okN⟩,noI⟩:=q;subst c1 c2;have ob:=X _ _ look;obtain⟨a1,a2,a3,a4,a5,a6,a7,a8,a9,b1,b2⟩:=cdt;have em:a3=.ref C2::bm2:=em;have c3:b2=false:=c3;have hsl:slt=#[j0,j1,j2,j3,some (.builtin nid),j5]:=by
    obtain⟨l⟩:=slt;exact congrArg Array.mk es
   rw[em,c3,hsl] at ob;exact⟨_,_,_,_,_,_,_,_,_,_,_,_,_,_,_,_,_,ob,.of_isNs (PySem.W.isNs_of_in X okN),PySem.W.nsMap_none_of_in X okN noI,PySem.W.tail_of_in X tl⟩
  ·cases q
 ·cases q
theorem zlz{M:Model}{A:Around}{E:Value->Shared->Prop}{K:PySem.W.Frag}{s:Shared}{e C D:Addr}{oe:Obj}{bmC bmD:List Value}{Q:Bool->Shared->Prop}(X:K.In s.heap)(qC:zd1 K C=some bmC)(qD:zd1 K D=some bmD)
  (he:s.heap.get? e=some oe) (hcls:oe.cls=.ref C) (hq:Q ((Value.ref C::bmC).contains (.ref D)) s):wpAny M A (excMatches (.ref e) (.ref D)) Q E s:=by
 obtain⟨h,g,d,t,os⟩:=s;obtain⟨bC,_,_,_,_,_,_,_,_,_,_,_,_,_,_,_,_,hC⟩:=z04 X qC;obtain⟨bD,_,_,_,_,_,_,_,_,_,_,_,_,_,_,_,_,hD⟩:=z04 X qD;have hDB:(Value.ref D::bmD).contains (.type "BaseException")=true:=by rw[List.contains_cons,bD,Bool.or_true]
 have f:=tc_notTuple;unfold excMatches;generalize hv:(Value.ref C::bmC).contains (.ref D)=v at hq
 repeat (first | (with_reducible refine wpAny_loadPart_at he ?_;rw[hcls]) | with_reducible refine wpAny_loadPart_at hD ?_ | (with_reducible refine wpAny_isSubtype_exc hD ?_;rw[hDB]) | (with_reducible refine wpAny_isSubtype_exc hC ?_;rw[hv]) | wp_step)
 cases v<;>(wp_walk;exact hq)
section
variable {X:Cx}
def z5k(C:Addr)(E:XK)(t:TA):TS:=fun _ σ H=>t σ H fun vs H1=>vs.length<=sizeLine/\E (.ref C) none H1
theorem zzg{C:Addr}{E:XK}{x:Str}{np cpos pos:Pos}{e:Expr}{es:List Expr}{t:TA}(hx:znf X E)(hc:X.calm=true)(q:PySem.W.excIn X.K C bmVE "ValueError.__new__" = true)(hg:Gl X x)(hm:X.mg x=some (.ref C))(ha:PA X (e::es) t)
  (hdb:(x==("__debug__" : Str))=false:=by decide) (he:starEach (e::es) X.env=(false,eval e X.env)::starEach es X.env:=by rfl) (hpl:(backTo cpos (starEach es X.env)).any (·.1)=false:=by rfl) :
  PS X (.Raise (some (.Call (.Name x np) (e::es) [] cpos)) none pos) (z5k C E t):=by
 intro pins s σ H D I h;obtain⟨bm,N,nm,qn,bs,hdct,sn,sub,ab,col,dd,k0,k1,k2,k3,k5,mN,hC,hN,hni,T⟩:=zzf I.ok.mod.kin q;refine wpAny_Raise_call_subT (C:=C) (nm:=nm) (q:=qn) (N:=N) (bs:=bs) (bm:=bm) (hdct:=hdct) (sn:=sn) (sub:=sub) (ab:=ab) (col:=col) (dd:=dd) (k0:=k0) (k1:=k1) (k2:=k2) (k3:=k3) (k5:=k5)
  PySem.F.excBase_ValueError (mN:=mN) (T.hasType PySem.F.excBase_ValueError.hasBase) (I.ok.hd hc) (by rw[he];show(false || (backTo cpos (starEach es X.env)).any (·.1))=false;rw[hpl];rfl) hni (zhd I hg hm ⟨rfl,?_⟩ hdb)
 have a:=ha cpos pins s σ H _ I h;rw[he] at a ⊢;exact Calls.evalArgs_plain (thn a fun us s2 ⟨vs,H2,I2,r,l,z⟩=>⟨rfl,by show us.length<=sizeLine;rw[<- r.length];exact l,I2.bk _ _ hC,hN.keeps I2.bk,T.keeps I2.bk,fun h' ea mk=>hx pins σ H2 s2 ea C us h' I2 mk z⟩)
abbrev Cx.tryIn(X:Cx)(pn:List (Addr×Obj))(kn:St)(xe:Value->Shared->Prop):Cx:={ X with pn:=pn,kn:=kn,xe:=xe }
abbrev Cx.inExc(X:Cx)(ea:Addr):Cx:={ X with A:=X.A.mark (some (.ref ea)),calm:=false,xe:=fun _ _=>False }
theorem Cx.Ok.tryIn(ok:X.Ok)(pn:List (Addr×Obj))(kn:St)(xe:Value->Shared->Prop):(X.tryIn pn kn xe).Ok:=
 ⟨ok.mod,ok.kind,ok.glob,ok.blt,ok.above,ok.inj,ok.has,ok.cab,ok.hd,ok.frames,ok.stk,ok.exf,ok.bs,ok.bsz,ok.noex,ok.exfs,ok.funs,ok.frf⟩
theorem Cx.Ok.inExc(ok:X.Ok)(ea:Addr):(X.inExc ea).Ok:=
 ⟨ok.mod,ok.kind,ok.glob,ok.blt,ok.above,ok.inj,ok.has,ok.cab,(fun h=>nomatch h),ok.frames,ok.stk,ok.exf,ok.bs,ok.bsz,ok.noex,ok.exfs,ok.funs,ok.frf⟩
theorem Inv.inExc{pins:List (Addr×Obj)}{σ:St}{H:Hp}{s:Shared}(I:Inv X pins σ H s)(ea:Addr):Inv (X.inExc ea) pins σ H s:=
 ⟨I.ok.inExc ea,I.os,I.bare,I.base,I.loc,I.cell,I.free,I.freeC,I.pin,I.hok,I.len,I.kn⟩
theorem Inv.outExc{pins:List (Addr×Obj)}{σ:St}{H:Hp}{s:Shared}{ea:Addr}(ok:X.Ok)(I:Inv (X.inExc ea) pins σ H s):Inv X pins σ H s:=
 ⟨ok,I.os,I.bare,I.base,I.loc,I.cell,I.free,I.freeC,I.pin,I.hok,I.len,I.kn⟩
theorem zc0.there{P:Program}{w:World}{H:Hp}{h:Heap}{a:Addr}{o:HO}(x:zc0 P w H h a o):∃u,h.get? a=some u:=by
 cases o with
 |lst xs=>obtain⟨_,_,_,_,e⟩:=x;exact⟨_,e⟩
 |tup xs=>obtain⟨_,_,_,ob,e,_⟩:=x;exact⟨_,e⟩
 |dK kvs=>obtain⟨_,_,_,_,o,_,_,e,_⟩:=x;exact⟨_,e⟩
 |dT kvs=>obtain⟨_,_,_,_,o,_,_,e,_⟩:=x;exact⟨_,e⟩
 |set S n=>obtain⟨o,_,_,_,e,_⟩:=x;exact⟨_,e⟩
 |ins C dx fs=>obtain⟨_,_,_,e,_⟩:=x;exact⟨_,e⟩
 |own y=>exact x
 |xd fs=>obtain⟨_,⟨_,_,_,e,_⟩,_⟩:=x;exact⟨_,e⟩
 |rng lo hi=>obtain⟨_,_,_,e⟩:=x;exact⟨_,e⟩
 |frz ob u=>obtain⟨e,_⟩:=x;exact⟨_,e⟩
 |tbl ps=>exact⟨_,(show h.get? a=some _ from x)⟩
 |met f y=>exact⟨_,(show h.get? a=some _ from x)⟩
 |ext φ=>exact x.2.1
abbrev THd:=Value->Option Addr->Addr->Ends->St->Hp->Prop
def PH(X:Cx)(hs:List ExceptHandler)(t:THd):Prop:=
 ∀ (pins:List (Addr×Obj)) (s:Shared) (σ:St) (H:Hp) (D:Ends) (ea:Addr) (cls a0:Value) (dx:Option Addr) (B:Heap),X.Ok->(∀h',B.StaysIn h'->s.heap.UpToSlots h'->Inv X pins σ H { s with heap:=h' }) ->
   (∀h' φ,B.StaysIn h'->s.heap.UpToSlots h'->zc0 X.prog X.w H h' ea (.ext φ)->Inv X pins σ (upd H ea (.ext φ)) { s with heap:=h' })->Heap.FlyingW B X.stack ea cls a0 s.heap->(HasD ea dx s.heap/\H ea=none)->t cls dx ea D σ H->wpAny (model X.prog X.w) X.A (handleBy (.ref ea) X.env hs) (SP X pins D) X.xe s
def tTry(X:Cx)(body:List Stmt)(th:THd):TS:=fun D σ H=>∃(kn:St) (R:XK) (tb:TS),kn.length=σ.length/\(∀(i:Nat) (v:V),kn[i]?=some (some v)->σ[i]?=some (some v)) /\
 (∀(i:Nat) (v:V),X.kn[i]?=some (some v)->kn[i]?=some (some v)) /\
 (∀(pn:List (Addr×Obj)) (xe:Value->Shared->Prop),zeb (CXE X.prog X.w) (X.tryIn pn kn xe) R->PassesOwn (model X.prog X.w) X.A X.env xe->PSs (X.tryIn pn kn xe) body tb) /\
 tb D σ H/\∀cls dx ea H',R cls dx H'->th cls dx ea D kn H'
theorem z5l{body:List Stmt}{h₀:ExceptHandler}{hs:List ExceptHandler}{th:THd}{pos:Pos}(hph:PH X (h₀::hs) th)(hst:X.stack=X.env::X.outer:=by rfl)(hfr:X.env.frame=some X.env.locals:=by rfl) :
  PS X (.Try body (h₀::hs) [] [] pos) (tTry X body th):=by
 intro pins s σ H D I h;obtain⟨kn,R,tb,hl,hk,hk2,hb,h,hth⟩:=h;refine wpAny_Try_except ?_;have own:=PassesOwn.looking (M:=model X.prog X.w) (A:=X.A) (env:=X.env) (E₁:=X.xe) (K:=fun e s₂=>wpAny (model X.prog X.w) X.A (setFlight e none) (fun _ s₃=>wpAny (model X.prog X.w) X.A (handleBy e X.env (h₀::hs)) (SP X pins D) X.xe s₃) X.xe s₂);have back:∀{pn:List (Addr×Obj)} {xe:Value->Shared->Prop} {pins':List (Addr×Obj)} {σ':St} {H':Hp} {s':Shared},(∀p∈X.pn++pins,p∈pn)->Inv (X.tryIn pn kn xe) pins' σ' H' s'->Inv X pins σ' H' s':=fun {pn xe pins' σ' H' s'} hp J=>
  ⟨I.ok,J.os,J.bare,J.base,J.loc,J.cell,J.free,J.freeC,fun p z=>J.pin p (List.mem_append_left _ (hp p z)),J.hok,J.len,fun i v e=>J.kn i v (hk2 i v e)⟩
 have pas:zeb (CXE X.prog X.w) (X.tryIn (X.pn++pins) kn fun e s₁=>wpAny (model X.prog X.w) X.A (noteFrame e X.env) (fun _ s₂=>wpAny (model X.prog X.w) X.A (setFlight e none) (fun _ s₃=>wpAny (model X.prog X.w) X.A (handleBy e X.env (h₀::hs)) (SP X pins D) X.xe s₃) X.xe s₂) X.xe s₁) R:=by
  intro pins' σ' H1 s1 e s' I1 T;obtain⟨ea,cls,a0,B,H',dx,rfl,ho,hbare,fly,hok,keep,slot,free,there,tups,frzs,tbls,hd,hE⟩:=T;have I2:Inv X pins kn H1 s1:=(back (fun _ z=>z) I1).weak (by rw[hl,I.len];exact(I1.len).symm) (fun i v e=>I1.kn i v e) hk2;have slot1:∀h',s'.heap.UpToSlots h'->∀b o,s1.heap.get? b=some o->H1 b=none->b∈frs X.stack->∃sl,h'.get? b=some { o with slots:=sl }:=fun h' up b o e n hb=>by
   obtain⟨sl,e1⟩:=slot b o e n hb;obtain⟨o',e',nd⟩:=(fly.2.2.1.mem hb).2;rw[e1] at e';cases e';obtain⟨sl2,e2⟩:=up b _ e1 nd;exact⟨sl2,e2⟩
  have there1:∀h',B.StaysIn h'->s'.heap.UpToSlots h'->∀b o,s1.heap.get? b=some o->∃o',h'.get? b=some o':=fun h' st up b o e=>by
   by_cases hb:b∈frs X.stack
   ·obtain⟨sl,e2⟩:=slot1 h' up b o e (I2.stkFree b hb) hb
    exact⟨_,e2⟩
   ·obtain⟨o',e2⟩:=there b o e hb
    exact⟨o',st b o' e2⟩
  have car:∀h',B.StaysIn h'->s'.heap.UpToSlots h'->Inv X pins kn H' { s' with heap:=h' }:=fun h' st up=>
   I2.call' (s':={ s' with heap:=h' }) (ch:=[]) ho ⟨fun b o e n hb _=>st b o (keep b o e n hb),fun b o e n hb _=>slot1 h' up b o e n hb,fun b o e n _=>free b o e n,fun b o e _=>there1 h' st up b o e,tups,frzs,tbls⟩ (hok.kept fun b u z=>st b u z) hbare (fun _ z=>nomatch z)
  have inB:∀b u,H' b=some u->b≠ea:=fun b u z w=>by
   obtain⟨v,hv⟩:=(hok b u z).there;rw[w,fly.2.1] at hv;cases hv
  have car2:∀h' φ,B.StaysIn h'->s'.heap.UpToSlots h'->zc0 X.prog X.w H' h' ea (.ext φ)->Inv X pins kn (upd H' ea (.ext φ)) { s' with heap:=h' }:=fun h' φ st up new=>by
   have kp:∀b u,H' b=some u->upd H' ea (.ext φ) b=some u:=fun b u z=>by rw[zag (inB b u z)];exact z
   refine I2.call' (s':={ s' with heap:=h' }) (ch:=[]) ho ⟨fun b o e n hb _=>st b o (keep b o e n hb),fun b o e n hb _=>slot1 h' up b o e n hb,fun b o e n _=>?_,fun b o e _=>there1 h' st up b o e,
    fun b xs e=>kp b _ (tups b xs e),fun b o u e=>kp b _ (frzs b o u e),fun b ps e=>let ⟨m,q⟩:=tbls b ps e;⟨m,kp b _ q⟩⟩ (fun b u z=>?_) hbare (fun _ z=>nomatch z)
   ·rw[zag];exact free b o e n
    rintro rfl;by_cases hb:b∈frs X.stack
    ·obtain⟨oe,vs,ge,_,gd,_⟩:=fly.first
     obtain⟨o',e',nd⟩:=(fly.2.2.1.mem hb).2;rw[ge] at e';cases e';exact nd vs gd
    ·have:=keep b o e n hb
     rw[fly.2.1] at this;cases this
   ·by_cases hb:b=ea
    ·subst hb;rw[zai] at z;cases z
     exact new
    ·rw[zag hb] at z
     exact(hok b u z).stay (fun c v _ r=>st c v r) (fun c r=>kp c _ r) fun c xs r=>kp c _ r
  have hfr2:X.A.frames=some (X.env::X.outer):=hst▸I.ok.frames;have fly1:Heap.FlyingW B (X.env::X.outer) ea cls a0 s'.heap:=hst▸fly;show wpAny (model X.prog X.w) X.A (noteFrame (.ref ea) X.env) _ _ _;refine wpAny_mono (zmm zvo hd (wpAny_looks_onW (Q:=fun _ s2=>∃h4,s2={ s' with heap:=h4 }/\Heap.HeldW B (X.env::X.outer) ea cls a0 X.env.locals h4/\Heap.UpToSlots s'.heap h4) hfr2 hfr fly1 fun h4 held4 sm4=>⟨h4,rfl,held4,sm4⟩)) (fun _ s2 z=>?_) fun _ _ z=>z.1;obtain⟨⟨h4,rfl,held4,sm4⟩,hd4⟩:=z;refine wpAny_mono (zmm zky hd4 (wpAny_landsW (Q:=fun _ s2=>∃h5,s2={ s' with heap:=h5 }/\Heap.FlyingW B (X.env::X.outer) ea cls a0 h5/\Heap.UpToSlots h4 h5) held4 fun h5 fly5 sm5=>⟨h5,rfl,fly5,sm5⟩)) (fun _ s2 z=>?_) fun _ _ z=>z.1;obtain⟨⟨h5,rfl,fly5,sm5⟩,hd5⟩:=z;exact hph pins { s' with heap:=h5 } kn H' D ea cls a0 dx B I.ok (fun h' st up=>car h' st ((sm4.trans sm5).trans up)) (fun h' φ st up new=>car2 h' φ st ((sm4.trans sm5).trans up) new) (hst▸fly5) ⟨hd5,by cases q:H' ea with|none=>rfl | some u=>exact absurd rfl (inB ea u q)⟩ (hth cls dx ea H' hE)
 have I':Inv (X.tryIn (X.pn++pins) kn fun e s₁=>wpAny (model X.prog X.w) X.A (noteFrame e X.env) (fun _ s₂=>wpAny (model X.prog X.w) X.A (setFlight e none) (fun _ s₃=>wpAny (model X.prog X.w) X.A (handleBy e X.env (h₀::hs)) (SP X pins D) X.xe s₃) X.xe s₂) X.xe s₁) [] σ H s:=
  ⟨I.ok.tryIn _ _ _,I.os,I.bare,I.base,I.loc,I.cell,I.free,I.freeC,fun p z=>I.pin p (by simpa using z),I.hok,I.len,hk⟩
 refine wpAny_mono (hb _ _ pas own [] s σ H D I' h) (fun f s1 q=>?_) fun _ _ z=>z;cases f with
 |next=>obtain⟨a,b,c,d⟩:=q;exact wpAny_execs_nil ⟨a,b,back (fun _ z=>z) c,d⟩
 |brk=>obtain⟨a,b,c,d⟩:=q;exact⟨a,b,back (fun _ z=>z) c,d⟩
 |cont=>obtain⟨a,b,c,d⟩:=q;exact⟨a,b,back (fun _ z=>z) c,d⟩
 |ret u=>obtain⟨v,a,b,c,d⟩:=q;exact⟨v,a,b,back (fun _ z=>z) c,d⟩
end
structure FunV(K:PySem.W.Frag)(x qual:Str)(st:Stmt)(dV:Value)(f:Addr)(fd:FuncData):Prop where
 ex:∃(oc:Value) (od:Option Addr) (kV doc pm:Value) (an:Option Addr) (cdv ct:Value) (osl:Array (Option Value)),
  fd=PySem.W.fnOf x qual (zaq st) (zao st) (zab st) dV kV doc pm an cdv ct/\K.lookup f=some ⟨oc,od,.func fd,osl⟩/\PySem.W.codeIn K cdv qual=true
 kp:PySem.W.keepIn K (.ref f)=true
section
variable {P:Program}{w:World}{K:PySem.W.Frag}{mg:Str->Option Value}{base:Heap}
theorem Fun.toV{x qual:Str}{st:Stmt}{f:Addr}{fd:FuncData}(F:Fun K x qual st f fd):FunV K x qual st .none f fd:=⟨F.ex,F.kp⟩
theorem FunV.okE{x qual:Str}{st:Stmt}{dV:Value}{f:Addr}{fd:FuncData}{N ps:List Str}{k:Nat}{sp:Sp}(F:FunV K x qual st dV f fd)(S:zax N ps (zab st))(len:∀vs H Q E,sp vs H Q E->vs.length=ps.length)
  (hbody:∀(cdv:Value) (A:Around) (outer:List Env) (s:Shared) (H:Hp) (vs:List V) (Q:VK) (E:XK),Room k (A.deeper (envOfC qual (zab st) s.heap.objs.size f cdv))->sp vs H Q E ->
   ∃t,PSs (cxOf (CXE P w) P w K mg base N qual (zab st) f cdv A outer s H E) (zao st) t/\t { nx:=fun _ H'=>Q .non H',rt:=Q } (start N vs) H):FnOk P w K mg base (CXE P w) (k+1) f fd ps sp:=by
 obtain⟨oc,od,kV,doc,pm,an,cdv,ct,osl,rfl,lk,hcd⟩:=F.ex;exact z8f lk hcd S len fun A outer s H vs Q E hr hsp=>hbody cdv A outer s H vs Q E hr hsp
theorem FnOk.calm{k:Nat}{f:Addr}{fd:FuncData}{ps:List Str}{sp:Sp}(F:FnOk P w K mg base (CXE P w) k f fd ps sp):FnOk P w K mg base CX0 k f fd ps (fun vs H Q _=>sp vs H Q E0):=
 ⟨fun vs H Q _ h=>F.len vs H Q E0 h,fun A outer s H args us vs Q E hr e0 hb r h=>codeAny_mono (F.run A outer s H args us vs Q E0 hr e0 hb r h) fun res s' q=>by
  cases res with
  |ok fl=>cases fl<;>exact q
  | error e=>
    obtain⟨_,_,_,_,_,_,_,_,_,_,_,_,_,_,_,_,_,_,_,z⟩:=q;exact z⟩
end
end L2
namespace L2
open PySem PySem.Spec PyProof.Rows
section
variable {X:Cx}{pins:List (Addr×Obj)}{σ:St}{H:Hp}{s:Shared}{a:Addr}
theorem Inv.swap{o1 o2:HO}(I:Inv X pins σ H s)(e:H a=some o1)(n1:∀xs,o1≠.tup xs)(n2:∀x,o1≠.own x)(n3:∀ps,o1≠.tbl ps)(hz:∀o u,X.H₀ a=some (.frz o u)->o2=.frz o u)
  (new:zc0 X.prog X.w (upd H a o2) s.heap a o2):Inv X pins σ (upd H a o2) s:=by
 have hf:∀b,H b=none->upd H a o2 b=none:=fun b n=>by rw[zag (by rintro rfl;rw[e] at n;cases n)];exact n
 have tu:∀b xs,H b=some (.tup xs)->upd H a o2 b=some (.tup xs):=fun b xs n=>by rw[zag (by rintro rfl;rw[e] at n;exact n1 xs (Option.some.inj n))];exact n
 refine⟨I.ok,I.os,I.bare,⟨I.base.keep,I.base.slot,fun b o q n hx=>hf b (I.base.free b o q n hx),I.base.there,fun b xs q=>tu b xs (I.base.tups b xs q),fun b o u q=>?_,fun b ps q=>?_⟩,I.loc,I.cell,hf _ I.free,fun x c q=>hf c (I.freeC x c q),fun p hp=>?_,fun b u q=>?_,I.len,I.kn⟩
 ·by_cases hb:b=a
  ·subst hb;rw[zai,hz o u q]
  ·rw[zag hb];exact I.base.frzs b o u q
 ·obtain⟨m,q'⟩:=I.base.tbls b ps q
  exact⟨m,by rw[zag (by rintro rfl;rw[e] at q';exact n3 _ (Option.some.inj q'))];exact q'⟩
 ·obtain⟨a1,a2,a3,a4,a5⟩:=I.pin p hp
  exact⟨a1,hf _ a2,a3,a4,a5⟩
 ·by_cases hb:b=a
  ·subst hb;rw[zai] at q;cases q;exact new
  ·rw[zag hb] at q
   exact(I.hok b u q).stay (fun _ _ _ z=>z) (fun c z=>by rw[zag (by rintro rfl;rw[e] at z;exact n2 _ (Option.some.inj z))];exact z) tu
theorem Inv.freeze{kvs:List (Key×V)}(I:Inv X pins σ H s)(e:H a=some (.dK kvs)):(∀o u,X.H₀ a≠some (.frz o u))/\∃o,s.heap.get? a=some o/\Inv X pins σ (upd H a (.frz o (.dK kvs))) s:=by
 have nf:∀o u,X.H₀ a≠some (.frz o u):=fun o u q=>by
  have z:=I.base.frzs a o u q;rw[e] at z;cases z
 obtain⟨z,y,vs,r,o,es,ep,q,c⟩:=I.hok a _ e;exact⟨nf,o,q,I.swap e (fun _ h=>nomatch h) (fun _ h=>nomatch h) (fun _ h=>nomatch h) (fun o u q=>absurd q (nf o u)) ⟨q,z,y,vs,r,o,es,ep,q,c⟩⟩
theorem Inv.thaw{o:Obj}{kvs:List (Key×V)}(I:Inv X pins σ H s)(nf:∀o u,X.H₀ a≠some (.frz o u))(e:H a=some (.frz o (.dK kvs))):Inv X pins σ (upd H a (.dK kvs)) s:=by
 obtain⟨_,z⟩:=I.hok a _ e;exact I.swap e (fun _ h=>nomatch h) (fun _ h=>nomatch h) (fun _ h=>nomatch h) (fun o u q=>absurd q (nf o u)) z
theorem Inv.frozen{o:Obj}{kvs:List (Key×V)}{es:Array DictEntry}{ep:Nat}(I:Inv X pins σ H s)(e:H a=some (.frz o (.dK kvs)))(hd:o.data=.dict es ep) :
  kvs.length<=sizeLine/\(a==sysModules)=false/\∃vs,KV kvs vs/\s.heap.DictAt (za5 X.prog X.w) a vs ep:=by
 obtain⟨q,z,y,vs,r,o',es',ep',q',c1,c2,c3⟩:=I.hok a _ e;rw[q] at q';cases q';rw[hd] at c2;cases c2;exact⟨z,y,vs,r,o,es,q,c1,hd,c3⟩
end
theorem KV.at{kvs:List (Key×V)}{vs:List (Key×Value)}(r:KV kvs vs){i:Nat}{k:Key}{v:V}(e:kvs[i]?=some (k,v)):∃u,vs[i]?=some (k,u)/\RelV v u:=by
 induction r generalizing i with
 |nil=>simp at e
 | cons p t ih=>
   cases i with
   | zero=>
     simp at e;rename_i a b _ _;obtain⟨p1,p2⟩:=p;refine⟨b.2,?_,?_⟩
     ·simp only[List.getElem?_cons_zero,Option.some.injEq]
      rw[e] at p1;exact Prod.ext p1.symm rfl
     ·rw[e] at p2;exact p2
   | succ j=>
     obtain⟨u,h1,h2⟩:=ih (i:=j) (by simpa using e);exact⟨u,by simpa using h1,h2⟩
theorem zqs{P:Program}{w:World}{k:Key}{u:Value}(h:(za5 P w).is k u=true):RelV (kV k) u:=by
 rcases zbf h with⟨i,t,rfl,rfl⟩ | ⟨x,t,rfl,rfl⟩
 ·exact⟨t,rfl⟩
 ·exact⟨t,rfl⟩
def Itd(a:Addr)(o:Obj)(kvs:List (Key×V)):It:=
 ⟨fun i H=>H a=some (.frz o (.dK kvs))/\i<kvs.length,fun i H x H'=>∃p k v,kvs[i]?=some (k,v)/\H p=none/\x=.ref p/\H'=upd H p (.tup [kV k,v]),fun i H=>H a=some (.frz o (.dK kvs))/\kvs.length<=i⟩
def Itk(a:Addr)(o:Obj)(kvs:List (Key×V)):It:=
 ⟨fun i H=>H a=some (.frz o (.dK kvs))/\i<kvs.length,fun i H x H'=>∃k v,kvs[i]?=some (k,v)/\x=kV k/\H'=H,fun i H=>H a=some (.frz o (.dK kvs))/\kvs.length<=i⟩
theorem ztv {P:Program} {w:World} {K:PySem.W.Frag} {elts:List Expr} {kk:Nat} {tp:Pos} {a it:Addr} {o:Obj} {es:Array DictEntry} {ep:Nat} {kvs:List (Key×V)} (hd:o.data=.dict es ep) :
  Turn P w K (.Tuple elts kk tp) (Itd a o kvs) [it] it (fun i h=>∃ok ov,IsItemIter h it a i kvs.length ep ok ov) where
 mem:=by simp
 obj:=fun i h ⟨ok,ov,e⟩ b hb=>by
  obtain rfl:b=it:=by simpa using hb
  exact⟨_,e,(fun v z=>nomatch z)⟩
 keep:=fun i h h' ⟨ok,ov,e⟩ k=>⟨ok,ov,k it (by simp) _ e⟩
 item:=by
  intro X e1 e2 e3 hc i pins s σ H E I fp ⟨ok,ov,e⟩ ⟨hz,hi⟩;subst e1 e2 e3;obtain⟨f1,f2,f3,f4,f5,f6⟩:=fp it (by simp);obtain⟨zl,_,vs,r,da⟩:=I.frozen hz hd;obtain⟨⟨k,v⟩,hk⟩:∃p,kvs[i]?=some p:=⟨kvs[i],by simp[hi]⟩;obtain⟨u,hu,ru⟩:=r.at hk;have hl:vs.length=kvs.length:=r.length.symm;refine wpAny_pyNext_items_item (knd:=za5 X.prog X.w) (kvs:=vs) (ok:=ok) (ov:=ov) (by rw[hl];exact e) da hu fun key h1 hkey io ht hsz keep=>⟨_,rfl,?_⟩;refine wpAny_letOwnedTupleGo_items (i:=i+1) (n:=vs.length) io fun h2 io2 sb=>?_;have hp:s.heap.objs.size≠it:=Nat.ne_of_gt (Heap.lt_size e);have I1:Inv X pins σ (upd H s.heap.objs.size (.tup [kV k,v])) { s with heap:=s.heap.push { cls:=.type "tuple",data:=.seq #[key,u] } }:=
   I.laid (t':=s.toks) (fun b q z=>Heap.get?_push_of_some _ z) (Nat.le_refl _) ⟨by show 2<=sizeLine;decide,[key,u],.cons (zqs hkey) (.cons ru .nil),_,Heap.get?_push_size _ rfl,rfl,_,rfl⟩
  have I2:=I1.turned (h':=h2) (t':=s.toks) (it:=it) (fun b q hb z=>by
   refine sb.extBut b q hb ?_;by_cases hbp:b=s.heap.objs.size
   ·rw[hbp] at z ⊢
    rw[Heap.get?_push_size _ rfl] at z;cases z;exact ht
   ·exact keep b q hb (by
     have:=Heap.lt_size z;rw[Heap.size_push] at this;have lt:b<s.heap.objs.size:=Nat.lt_of_le_of_ne (Nat.le_of_lt_succ this) hbp;cases z':s.heap.get? b with
     |some q'=>rw[Heap.get?_push_of_some _ z'] at z;exact z
     | none=>
       exfalso;have:(s.heap.push { cls:=.type "tuple",data:=.seq #[key,u] }).get? b=none:=by
        simp only[Heap.get?,Heap.push] at z' ⊢;rw[Array.getElem?_push_lt lt];rw[Array.getElem?_eq_getElem lt] at z';exact z'
       rw[this] at z;cases z)) (by rw[zag (Ne.symm hp)];exact f1) f2 f4 f5 f6
  exact⟨.ref s.heap.objs.size,_,I2,rfl,⟨_,k,v,hk,I.hok.fresh (Nat.le_refl _),rfl,rfl⟩,⟨_,_,by rw[<- hl];exact io2⟩,fun b hb=>by
   obtain rfl:b=it:=by simpa using hb
   rw[zag (Ne.symm hp)];exact f1⟩
 done:=by
  intro X e1 e2 e3 hc i pins s σ H E I fp ⟨ok,ov,e⟩ ⟨hz,hi⟩;subst e1 e2 e3;obtain⟨f1,f2,f3,f4,f5,f6⟩:=fp it (by simp);obtain⟨zl,_,vs,r,da⟩:=I.frozen hz hd;have hl:vs.length=kvs.length:=r.length.symm;exact wpAny_pyNext_items_end (knd:=za5 X.prog X.w) (kvs:=vs) (ok:=ok) (ov:=ov) (I.ok.hd hc) (by rw[hl];exact e) da (List.getElem?_eq_none_iff.mpr (by omega)) fun h' hx=>⟨rfl,I.turned (t':=s.toks) (fun b q hb z=>hx b q hb z) f1 f2 f4 f5 f6⟩
 self:=fun A i s Q E ⟨ok,ov,e⟩ h=>PySem.W.kcp_self e h
theorem zvp{P:Program}{w:World}{K:PySem.W.Frag}{tg:Expr}{a it:Addr}{o:Obj}{es:Array DictEntry}{ep:Nat}{kvs:List (Key×V)}(hd:o.data=.dict es ep) :
  Turn P w K tg (Itk a o kvs) [it] it (fun i h=>h.IsKeyIter it a i kvs.length ep) where
 mem:=by simp
 obj:=fun i h ⟨q,e,c,d⟩ b hb=>by
  obtain rfl:b=it:=by simpa using hb
  exact⟨_,e,fun v z=>by rw[d] at z;cases z⟩
 keep:=fun i h h' ⟨q,e,c⟩ k=>⟨q,k it (by simp) _ e,c⟩
 item:=by
  intro X e1 e2 e3 hc i pins s σ H E I fp e ⟨hz,hi⟩;subst e1 e2 e3;obtain⟨f1,f2,f3,f4,f5,f6⟩:=fp it (by simp);obtain⟨zl,_,vs,r,da⟩:=I.frozen hz hd;obtain⟨⟨k,v⟩,hk⟩:∃p,kvs[i]?=some p:=⟨kvs[i],by simp[hi]⟩;obtain⟨u,hu,ru⟩:=r.at hk;have hl:vs.length=kvs.length:=r.length.symm;refine wpAny_pyNext_dict_item (knd:=za5 X.prog X.w) (kvs:=vs) (by rw[hl];exact e) da hu fun key h1 hkey io sb=>⟨_,rfl,?_⟩;have I2:Inv X pins σ H { s with heap:=h1 }:=I.turned (h':=h1) (t':=s.toks) (it:=it) (fun b q hb z=>sb.extBut b q hb z) f1 f2 f4 f5 f6;refine PyProof.Rows.letGo_keyiter io ⟨kV k,H,I2,zqs hkey,⟨k,v,hk,rfl,rfl⟩,by rw[<- hl];exact io,fun b hb=>?_⟩;obtain rfl:b=it:=by simpa using hb
  exact f1
 done:=by
  intro X e1 e2 e3 hc i pins s σ H E I fp e ⟨hz,hi⟩;subst e1 e2 e3;obtain⟨f1,f2,f3,f4,f5,f6⟩:=fp it (by simp);obtain⟨zl,_,vs,r,da⟩:=I.frozen hz hd;have hl:vs.length=kvs.length:=r.length.symm;exact wpAny_pyNext_dict_end (knd:=za5 X.prog X.w) (kvs:=vs) (I.ok.hd hc) (by rw[hl];exact e) da (List.getElem?_eq_none_iff.mpr (by omega)) fun h' hx=>⟨rfl,I.turned (t':=s.toks) (fun b q hb z=>hx b q hb z) f1 f2 f4 f5 f6⟩
 self:=fun A i s Q E e h=>wpAny_pyIter_keyiter e h
section
variable {X:Cx}{tg:Expr}
def z5m(X:Cx)(te:TE):TI:=fun σ H R=>te σ H fun x H1=>∃a kvs,x=.ref a /\
 ((H1 a=some (.dK kvs)/\∀o,(∀o' u,X.H₀ a≠some (.frz o' u))->R (Itd a o kvs) (upd H1 a (.frz o (.dK kvs))))\/∃o,H1 a=some (.frz o (.dK kvs))/\R (Itd a o kvs) H1)
def z5n(X:Cx)(te:TE):TI:=fun σ H R=>te σ H fun x H1=>∃a kvs,x=.ref a /\
 ((H1 a=some (.dK kvs)/\∀o,(∀o' u,X.H₀ a≠some (.frz o' u))->R (Itk a o kvs) (upd H1 a (.frz o (.dK kvs))))\/∃o,H1 a=some (.frz o (.dK kvs))/\R (Itk a o kvs) H1)
theorem zr8{pins:List (Addr×Obj)}{σ:St}{H:Hp}{s:Shared}{a:Addr}{o:Obj}{kvs:List (Key×V)}(I:Inv X pins σ H s)(e:H a=some (.frz o (.dK kvs))):s.heap.get? a=some o/\∃es ep,o.data=.dict es ep:=by
 obtain⟨q,z,y,vs,r,o',es',ep',q',c1,c2,c3⟩:=I.hok a _ e;rw[q] at q';cases q';exact⟨q,es',ep',c2⟩
theorem zvq{l:Expr}{tl:TE}(hl:PE X l tl):PI X tg l (z5n X tl):=by
 intro pins s σ H R I h;refine thn (hl pins s σ H _ I h) fun u s1 hq_=>?_;obtain⟨x,H1,I1,r1,a,kvs,e,q⟩:=hq_;subst e;obtain rfl:u=Value.ref a:=r1;have go:∀(o:Obj) (H2:Hp),Inv X pins σ H2 s1->H2 a=some (.frz o (.dK kvs))->R (Itk a o kvs) H2->wpAny (model X.prog X.w) X.A (pyIter (.ref a)) (PIE X pins σ tg R) X.xe s1:=fun o H2 I2 e2 q2=>by
  obtain⟨g,es,ep,hd⟩:=zr8 I2 e2;obtain⟨zl,zm,vs,r,da⟩:=I2.frozen e2 hd;have hlen:vs.length=kvs.length:=r.length.symm;refine wpAny_pyIter_dict (knd:=za5 X.prog X.w) zm da ?_;have I3:=I2.kept (h':=s1.heap.push { cls:=.type "dict_keyiterator",data:=.fields #[.ref a,.int 0 0,.int vs.length 0,.int ep 0] }) (t':=s1.toks) fun b q z=>Heap.get?_push_of_some _ z;refine⟨s1.heap.objs.size,[s1.heap.objs.size],_,Itk a o kvs,H2,rfl,I3,zvp hd,⟨_,Heap.get?_push_size _ rfl,rfl,by rw[hlen];rfl⟩,fun b hb=>?_,q2⟩;obtain rfl:b=s1.heap.objs.size:=by simpa using hb
  exact I2.fpOk (Nat.le_refl _) (I2.hok.fresh (Nat.le_refl _))
 rcases q with⟨e1,q⟩ | ⟨o,e1,q⟩
 ·obtain⟨nf,o,g,I2⟩:=I1.freeze e1
  exact go o _ I2 zai (q o nf)
 ·exact go o _ I1 e1 q
theorem zzh{l:Expr}{tl:TE}{elts:List Expr}{kk:Nat}{tp apos cpos:Pos}(hl:PE X l tl)(hbase:attributeBase l "items" X.env (eval l X.env)=eval l X.env:=by rfl)(hline:(apos.endLine==cpos.line)=true:=by rfl) :
  PI X (.Tuple elts kk tp) (.Call (.Attribute l "items" apos) [] [] cpos) (z5m X tl):=by
 intro pins s σ H R I h;refine wpAny_Call_method0_late hbase hline (thn (hl pins s σ H _ I h) fun u s1 hq_=>?_);obtain⟨x,H1,I1,r1,a,kvs,e,q⟩:=hq_;subst e;obtain rfl:u=Value.ref a:=r1;have go:∀(o:Obj) (H2:Hp),Inv X pins σ H2 s1->H2 a=some (.frz o (.dK kvs))->R (Itd a o kvs) H2->MethodOn X.prog X.w X.A "items" cpos (.ref a) [] (fun v s2=>wpAny (model X.prog X.w) X.A (pyIter v) (PIE X pins σ (.Tuple elts kk tp) R) X.xe s2) X.xe s1:=fun o H2 I2 e2 q2=>by
  obtain⟨g,es,ep,hd⟩:=zr8 I2 e2;obtain⟨zl,zm,vs,r,da⟩:=I2.frozen e2 hd;have hlen:vs.length=kvs.length:=r.length.symm;obtain⟨t1,t2,_⟩:=z5e I2 (.inl ⟨kvs,.inr ⟨o,e2⟩⟩);refine⟨"dict",_,PySem.F.plainAttrs_dict,PySem.F.slot_dict_items,PySem.F.type_dict_items,t1,t2,Calls.callWith_builtin rfl (PySem.evalArgs_none ?_)⟩;refine call_meetsIn PySem.F.slot_dict_items t1 PySem.F.entry_dict_items (PySem.F.args_dict_items_1 _) (meets_dict_items (za5 X.prog X.w) a zm) ⟨⟨vs,da.dictOf⟩,?_⟩;have I3:=I2.kept (h':=s1.heap.push { cls:=.type "dict_items",data:=.fields #[.ref a] }) (t':=s1.toks) fun b q z=>Heap.get?_push_of_some _ z;refine wpAny_pyIter_items (d:=a) (kvs:=vs) (ep:=ep) (knd:=za5 X.prog X.w) ⟨_,Heap.get?_push_size _ rfl,rfl,rfl⟩ (da.push _) ?_;have I4:=I3.kept (h':=(s1.heap.push { cls:=.type "dict_items",data:=.fields #[.ref a] }).push { cls:=.type "dict_itemiterator",data:=.fields #[.none,.bool false,.ref a,.int 0 0,.int vs.length 0,.int ep 0,.none,.none] }) (t':=s1.toks) fun b q z=>Heap.get?_push_of_some _ z;refine⟨_,[_],_,Itd a o kvs,H2,rfl,I4,ztv hd,⟨.none,.none,by rw[<- hlen];exact Heap.get?_push_size _ rfl⟩,fun b hb=>?_,q2⟩;rw[List.mem_singleton.mp hb];exact I3.fpOk (Nat.le_refl _) (I3.hok.fresh (Nat.le_refl _))
 rcases q with⟨e1,q⟩ | ⟨o,e1,q⟩
 ·obtain⟨nf,o,g,I2⟩:=I1.freeze e1
  exact go o _ I2 zai (q o nf)
 ·exact go o _ I1 e1 q
def Th(X:Cx)(H:Hp)(R:Hp->Prop):Prop:=∃a o kvs,H a=some (.frz o (.dK kvs))/\(∀o' u,X.H₀ a≠some (.frz o' u))/\R (upd H a (.dK kvs))
theorem z2r{e:Expr}{t:TE}(h:PE X e t):PE X e (fun σ H Q=>t σ H fun v H'=>Th X H' fun H''=>Q v H''):=by
 intro pins s σ H Q I q;refine thn (h pins s σ H _ I q) fun u s1 z=>?_;obtain⟨v,H1,I1,rv,a,o,kvs,e,nf,r⟩:=z;exact⟨v,_,I1.thaw nf e,rv,r⟩
end
end L2
namespace L2
open PySem PySem.Spec PyProof.Rows
def zo1(X:Cx)(scope:Scope)(cl:List (Str×Addr)):List Str->List Nat->Prop
 |[],[]=>True
 |x::xs,j::js=>(X.N[j]?=some x/\Vis X.env.scope x/\(X.env.kindOf x=some .cell\/X.env.kindOf x=some .free)/\((relabel scope X.env).names.lookup x=some .cell\/(relabel scope X.env).names.lookup x=some .free)/\cl.lookup x=X.env.cells.lookup x)/\zo1 X scope cl xs js
 |_,_=>False
def zo2(σ:St)(js:List Nat):St:=js.map fun j=>(σ[j]?).join
theorem zo1.len{X:Cx}{scope:Scope}{cl:List (Str×Addr)}:∀{xs:List Str} {js:List Nat},zo1 X scope cl xs js->xs.length=js.length
 |[],[],_=>rfl
 |_::xs,_::js,h=>by simp[zo1.len h.2]
theorem zo1.get{X:Cx}{scope:Scope}{cl:List (Str×Addr)}:∀{xs:List Str} {js:List Nat} {k:Nat} {x:Str},zo1 X scope cl xs js->xs[k]?=some x->∃j,js[k]?=some j/\X.N[j]?=some x/\Vis X.env.scope x /\
  (X.env.kindOf x=some .cell\/X.env.kindOf x=some .free)/\((relabel scope X.env).names.lookup x=some .cell\/(relabel scope X.env).names.lookup x=some .free)/\cl.lookup x=X.env.cells.lookup x
 |[],[],_,_,_,e=>by simp at e
 | y::xs,j::js,0,x,h,e=>by
   simp at e;subst e;exact⟨j,rfl,h.1⟩
 | y::xs,j::js,k+1,x,h,e=>by
   obtain⟨j',h1,h2⟩:=zo1.get (k:=k) h.2 (by simpa using e);exact⟨j',by simpa using h1,h2⟩
abbrev za3(X:Cx)(scope:Scope)(cl:List (Str×Addr))(N':List Str)(fp:List Addr)(s3:Shared)(H2:Hp):Cx:=
 { X with N:=N',s₀:=s3,H₀:=H2,env:=compEnvC scope cl s3.heap.objs.size X.env,outer:=X.stack,stack:=X.stack,ex:=fp,fn:=fun _=>false,pn:=[],xe:=fun _ _=>False,kn:=[] }
structure zex(X:Cx)(scope:Scope)(cl:List (Str×Addr))(ts xs:List Str)(js:List Nat):Prop where
 clos:closureFor scope X.env=pure cl
 ncell:∀y∈scope.names,y.2≠.cell
 kind:scope.kind=.function
 names:∀y∈scope.names,y.2=.local->scope.names.lookup y.1=some .local
 sub:∀p∈cl,X.env.cells.lookup p.1=some p.2
 has:(scope.names.filter fun y=>y.2==.free).all (fun y=>(cl.map (·.1)).contains y.1)=true
 cap:zo1 X scope cl xs js
def tYes:TT:=fun _ H Q=>Q true H
def zr9(p:Addr)(J:It)(g:TG)(tc:TT)(te:TE)(Q:VK)(W:Nat->Nat->St->Hp->List V->Prop):Prop:=
 ∀ i m σ2 H2 acc,W i m σ2 H2 acc->H2 p=some (.lst acc)/\((J.stop i H2/\Q (.ref p) H2)\/(J.go i H2/\∃N:St->Hp->List V->Prop,(∀σ' H' acc',N σ' H' acc'->∃m',m'<m/\W (i+1) m' σ' H' acc')/\∀x H3,J.yld i H2 x H3->g x σ2 H3 fun σ4 H4=>tc σ4 H4 fun ok H5=>
     if ok=true then te σ4 H5 fun y H6=>H6 p=some (.lst acc)/\acc.length<sizeLine/\N σ4 (upd H6 p (.lst (acc++[y]))) (acc++[y]) else N σ4 H5 acc))
def zqt(nt:Nat)(js:List Nat)(wi:TI)(g:TG)(tc:TT)(te:TE):TE:=fun σ H Q=>wi σ H fun J H1=>∀p,H1 p=none ->
 ∃W:Nat->Nat->St->Hp->List V->Prop,(∃m,W 0 m (List.replicate nt none++zo2 σ js) (upd H1 p (.lst [])) [])/\zr9 p J g tc te Q W
section
variable {X:Cx}{pins:List (Addr×Obj)}{σ:St}{H1:Hp}{s2:Shared}{scope:Scope}{cl:List (Str×Addr)}{ts xs:List Str}{js:List Nat}{fp:List Addr}{it:Addr}{tn:Nat->Heap->Prop}{J:It}{tg:Expr}
theorem zmn{s3:Shared}{h4:Heap}{tk:Nat}{H2:Hp}(C:zex X scope cl ts xs js)(I3:Inv X pins σ H2 s3)(fo:∀b∈fp,FpOk X pins H2 b)(fl:∀b∈fp,b<s3.heap.objs.size)
  (ns:∃m,h4.Ns s3.heap.objs.size m) (k:∀b o,s3.heap.get? b=some o->h4.get? b=some o) :
  Inv (za3 X scope cl (ts++xs) fp s3 H2) [] (List.replicate ts.length none++zo2 σ js) H2 { s3 with heap:=h4,toks:=tk }:=by
 have lk:∀x c,cl.lookup x=some c->X.env.cells.lookup x=some c:=fun x c e=>C.sub (x,c) (PySem.mem_of_lookup e);have clt:∀x c,X.env.cells.lookup x=some c->c<s3.heap.objs.size:=fun x c e=>by
  obtain⟨v,o,ho,_⟩:=I3.cell x c e;exact Heap.lt_size ho
 have hasC:∀x,((relabel scope X.env).names.lookup x=some .cell\/(relabel scope X.env).names.lookup x=some .free)->∃c,cl.lookup x=some c:=fun x h=>by
  have hfree:(x,NameKind.free)∈scope.names:=by
   obtain⟨k,hk,hm⟩:∃k,(k=.cell\/k=.free)/\(x,k)∈(relabel scope X.env).names:=by
    rcases h with h | h
    ·exact⟨_,.inl rfl,PySem.mem_of_lookup h⟩
    ·exact⟨_,.inr rfl,PySem.mem_of_lookup h⟩
   obtain⟨⟨n,k'⟩,hm',e⟩:=List.mem_map.mp hm;have nc:=C.ncell _ hm';dsimp only at e nc
   split at e
   ·rename_i c
    cases e;simp only[Bool.and_eq_true,beq_iff_eq] at c;rw[<- c.1.1];exact hm'
   ·cases e
    rcases hk with rfl | rfl
    ·exact absurd rfl nc
    ·exact hm'
  have q:=List.all_eq_true.mp C.has _ (List.mem_filter.mpr ⟨hfree,rfl⟩);have q:x∈cl.map (·.1):=by simpa using q
  obtain⟨⟨y,c⟩,hy,rfl⟩:=List.mem_map.mp q;cases z:cl.lookup y with
  |some c'=>exact⟨c',rfl⟩
  | none=>
    exfalso;have:=List.lookup_eq_none_iff.mp z (y,c) hy;simp at this
 obtain⟨m,hm⟩:=ns;refine⟨⟨I3.ok.mod,C.kind,I3.ok.glob,I3.ok.blt,Nat.le_refl _,fun x y c h1 h2=>I3.ok.inj x y c (lk x c h1) (lk y c h2),fun x h=>hasC x h,(fun x c h=>nomatch h),I3.ok.hd,I3.ok.frames,.inl rfl,fun b hb=>⟨Nat.ne_of_lt (fl b hb),fun x c e=>(fo b hb).2.2.2.2.1 x c (lk x c e)⟩,
   I3.bs,Nat.le_trans I3.ok.bsz I3.sz,fun b o e hb=>?_,fun b hb hf=>?_,I3.stack,I3.stkFree⟩,
  rfl,I3.bare,Un.kept k,⟨m,hm,fun i x v e1 e2 e3=>?_⟩,fun x c e=>?_,I3.hok.fresh (Nat.le_refl _),fun x c e=>I3.freeC x c (lk x c e),fun p hp=>absurd hp (by simp),I3.hok.kept k,?_,(fun i v e=>nomatch (show(none:Option (Option V))=some (some v) from e))⟩
 ·rcases(fo b hb).2.2.2.1 with z | z
  ·exact I3.ok.noex b o e z
  ·exact absurd (Nat.lt_of_lt_of_le (Heap.lt_size (I3.ok.bs b o e).1) z) (Nat.lt_irrefl _)
 ·rcases List.mem_cons.mp (I3.stkSub b hf) with z | z
  ·exact(fo b hb).2.1 z
  ·exact(fo b hb).2.2.1 z
 ·by_cases hi:i<ts.length
  ·rw[List.getElem?_append_left (by simpa using hi),List.getElem?_replicate] at e2
   split at e2<;>cases e2
  ·have hi:ts.length<=i:=Nat.not_lt.mp hi
   rw[List.getElem?_append_right hi] at e1;rw[List.getElem?_append_right (by simpa using hi),List.length_replicate] at e2;obtain⟨j,hj,hN,hv,hk,hk2,hc⟩:=C.cap.get e1;unfold zo2 at e2;rw[List.getElem?_map,hj] at e2;have e2:(σ[j]?).join=some v:=by simpa using e2
   have e4:σ[j]?=some (some v):=by
    cases q:σ[j]? with
    |none=>rw[q] at e2;cases e2
    |some o=>rw[q] at e2;exact congrArg some e2
   obtain⟨m0,_,hl⟩:=I3.loc;obtain⟨u,ru,l⟩:=hl j x v hN e4 hv;refine⟨u,ru,.inr ⟨hk2,?_⟩⟩;rcases l with⟨z,_⟩ | ⟨_,c,ec,cc⟩
   ·rcases hk with hk | hk<;>(rw[z] at hk;cases hk)
   ·obtain⟨oc,ho,hd⟩:=cc
    exact⟨c,hc.trans ec,oc,k _ _ ho,hd⟩
 ·obtain⟨v,o,ho,hd⟩:=I3.cell x c (lk x c e)
  exact⟨v,o,k _ _ ho,hd⟩
 ·show(List.replicate ts.length none++zo2 σ js).length=(ts++xs).length
  rw[List.length_append,List.length_replicate,List.length_append,C.cap.len];simp[zo2]
theorem zsa{s3:Shared}{H2 H':Hp}{s':Shared}{σ':St}(I3:Inv X pins σ H2 s3)(fo:∀b∈fp,FpOk X pins H2 b)(Ic:Inv (za3 X scope cl (ts++xs) fp s3 H2) [] σ' H' s') :
  Inv X pins σ H' s'/\(∃m,s'.heap.Ns s3.heap.objs.size m)/\H' s3.heap.objs.size=none:=
 ⟨I3.call' Ic.os Ic.base Ic.hok Ic.bare fun b hb=>let ⟨_,f2,_,f4,f5,f6⟩:=fo b hb;⟨f4,f2,f5,f6⟩,let ⟨m,hm,_⟩:=Ic.loc;⟨m,hm⟩,Ic.free⟩
variable {elt iter c:Expr}{pos:Pos}{g:TG}{tc:TT}{te:TE}{Q:VK}
def zkz(Xc:Cx)(fp:List Addr)(tn:Nat->Heap->Prop)(W:Nat->Nat->St->Hp->List V->Prop)(n:Nat)(s':Shared):Prop:=
 ∃i σ' H' acc,Inv Xc [] σ' H' s'/\tn i s'.heap/\(∀b∈fp,H' b=none)/\W i n σ' H' acc
theorem zo3{Xc:Cx}{p:Addr}{W:Nat->Nat->St->Hp->List V->Prop}{n:Nat}{s':Shared}{E:Value->Shared->Prop}{R:Option Value->Shared->Prop}(hc:Xc.calm=true)(T:Turn Xc.prog Xc.w Xc.K tg J fp it tn)(go:zr9 p J g tc te Q W)
  (hg:PG Xc tg g) (hxe:Xc.xe=fun _ _=>False) (fo:∀{H':Hp} {b:Addr},H' b=none->b∈fp->FpOk Xc [] H' b) (h:zkz Xc fp tn W n s')
  (hend:∀σ' H' s1,Inv Xc [] σ' H' s1->Q (.ref p) H'->R none s1)
  (hsome:∀v s1,wpAny (model Xc.prog Xc.w) Xc.A (letOwnedTupleGo tg (.ref it) v) (fun _ s2=>wpAny (model Xc.prog Xc.w) Xc.A (assign tg Xc.env v) (fun _ s3=>∃(i:Nat) (pins:List (Addr×Obj)) (acc:List V) (σ4:St) (H4:Hp) (N:St->Hp->List V->Prop),Inv Xc pins σ4 H4 s3/\(∀σ' H' acc',N σ' H' acc'->∃m',m'<n/\W (i+1) m' σ' H' acc') /\
   (∀b∈fp,∃o,(b,o)∈pins/\s3.heap.get? b=some o)/\(∀h',(∀b∈fp,∀o,s3.heap.get? b=some o->h'.get? b=some o)->tn (i+1) h') /\
   tc σ4 H4 fun ok H5=>if ok=true then te σ4 H5 fun y H6=>H6 p=some (.lst acc)/\acc.length<sizeLine/\N σ4 (upd H6 p (.lst (acc++[y]))) (acc++[y]) else N σ4 H5 acc) E s2) E s1->R (some v) s1) :
  wpAny (model Xc.prog Xc.w) Xc.A (pyNext (.ref it)) R E s':=by
 obtain⟨i,σ',H',acc,I,st,fr,w⟩:=h;obtain⟨hp,cs⟩:=go i n σ' H' acc w;rcases cs with⟨stop,q⟩ | ⟨gg,N,hN,step⟩
 ·refine thn (T.done Xc rfl rfl rfl hc i [] s' σ' H' E I (fun b hb=>fo (fr b hb) hb) st stop) fun r s1 hq_=>?_
  obtain⟨hr,I1⟩:=hq_;subst hr;exact hend σ' H' s1 I1 q
 ·refine thn (T.item Xc rfl rfl rfl hc i [] s' σ' H' E I (fun b hb=>fo (fr b hb) hb) st gg) fun r s1 hq_=>?_
  obtain⟨u,hr,h1⟩:=hq_;subst hr;refine hsome u s1 (thn h1 fun _ s2 hq_=>?_);obtain⟨x,H3,I3,r3,y3,st3,fr3⟩:=hq_;have I3':=I3.pinned (fun b hb=>fo (fr3 b hb) hb) (T.obj _ _ st3);refine wpAny_mono (hg _ s2 σ' H3 x u _ I3' r3 (step x H3 y3)) (fun _ s3 ⟨σ4,H4,I4,q4⟩=>?_) fun e s z=>by rw[hxe] at z;exact z.elim
  have pn:∀b∈fp,∀o,s2.heap.get? b=some o->s3.heap.get? b=some o:=fun b hb o e=>(I4.pin (b,o) (List.mem_append_right _ (List.mem_append_right _ (zh4 hb e)))).1;refine⟨i,_,acc,σ4,H4,N,I4,hN,fun b hb=>?_,fun h' k=>T.keep _ _ _ st3 fun b hb o e=>k b hb o (pn b hb o e),q4⟩;obtain⟨o,e,_⟩:=T.obj _ _ st3 b hb;exact⟨o,List.mem_append_right _ (zh4 hb e),pn b hb o e⟩
theorem zmo(hc:X.calm=true)(C:zex X scope cl ts xs js)(I2:Inv X pins σ H1 s2)(T:Turn X.prog X.w X.K tg J fp it tn)(st:tn 0 s2.heap)(fo:∀b∈fp,FpOk X pins H1 b)
  (q:∀p,H1 p=none->∃W:Nat->Nat->St->Hp->List V->Prop,(∃m,W 0 m (List.replicate ts.length none++zo2 σ js) (upd H1 p (.lst [])) [])/\zr9 p J g tc te Q W)
  (hg:∀fp s3 H2,PG (za3 X scope cl (ts++xs) fp s3 H2) tg g) (ht:∀fp s3 H2,PT (za3 X scope cl (ts++xs) fp s3 H2) c tc) (he:∀fp s3 H2,PE (za3 X scope cl (ts++xs) fp s3 H2) elt te)
  {RR:Value->Addr->Result->Shared->Prop} (hRR:∀p C H' s',Inv X pins σ H' s'->(∃m,s'.heap.Ns C m)->H' C=none->s2.heap.objs.size<=C->Q (.ref p) H'->RR (.ref p) C (.ok .next) s') :
  wpAny (model X.prog X.w) X.A (newList []) (fun acc s3=>wpAny (model X.prog X.w) X.A (newFunctionEnv scope X.env.globals cl [] X.env.qual none .none (some X.env)) (fun cenv s4=>
   codeAny (model X.prog X.w) X.A (.compStart (.ListComp elt [⟨tg,iter,[c],0⟩] scope pos) 0 (.ref it) acc { cenv with scope:=relabel scope X.env }) (RR acc cenv.locals) s4) X.xe s3) X.xe s2:=by
 refine wpAny_newObj_type (wpAny_newFunctionEnv C.ncell (by intro y hy;simp at hy) (fun h4 ns4 sb4=>?_) C.kind);dsimp only at ns4 sb4 ⊢;have I3:Inv X pins σ (upd H1 s2.heap.objs.size (.lst [])) { s2 with heap:=s2.heap.push { cls:=.type "list",data:=.seq ([]:List Value).toArray } }:=
  I2.laid (t':=s2.toks) (fun b o e=>Heap.get?_push_of_some _ e) (Nat.le_refl _) ⟨Nat.zero_le _,[],_,.nil,Heap.get?_push_size _ rfl⟩
 generalize hs3:({ s2 with heap:=s2.heap.push { cls:=.type "list",data:=.seq ([]:List Value).toArray } }:Shared)=s3 at I3;have hsz:s3.heap.objs.size=s2.heap.objs.size+1:=by rw[<- hs3];exact Heap.size_push ..
 have hp3:s2.heap.push { cls:=.type "list",data:=.seq ([]:List Value).toArray }=s3.heap:=by rw[<- hs3]
 obtain⟨W,⟨m0,w0⟩,go⟩:=q s2.heap.objs.size (I2.hok.fresh (Nat.le_refl _));have fl:∀b∈fp,b<s2.heap.objs.size:=fun b hb=>by
  obtain⟨o,e,_⟩:=T.obj _ _ st b hb;exact Heap.lt_size e
 have fo3:∀b∈fp,FpOk X pins (upd H1 s2.heap.objs.size (.lst [])) b:=fun b hb=>⟨by rw[zag (Nat.ne_of_lt (fl b hb))];exact(fo b hb).1,(fo b hb).2⟩;have k4:∀b o,s3.heap.get? b=some o->h4.get? b=some o:=fun b o e=>by
  have hb:b≠s3.heap.objs.size:=Nat.ne_of_lt (Heap.lt_size e);rw[hp3] at sb4;exact sb4.extBut b o hb (Heap.get?_push_of_some _ e)
 rw[hp3] at ns4;have k24:∀b o,s2.heap.get? b=some o->h4.get? b=some o:=fun b o e=>k4 b o (by rw[<- hp3];exact Heap.get?_push_of_some _ e);have st4:tn 0 h4:=T.keep _ _ _ st fun b _ o e=>k24 b o e;have Ic:Inv (za3 X scope cl (ts++xs) fp s3 (upd H1 s2.heap.objs.size (.lst []))) [] _ (upd H1 s2.heap.objs.size (.lst [])) { s3 with heap:=h4,toks:=s3.toks+([]:List (Str×Value)).length }:=
  zmn C I3 fo3 (fun b hb=>by rw[hsz];exact Nat.lt_succ_of_lt (fl b hb)) ⟨_,ns4⟩ k4
 have fo':∀{H':Hp} {b:Addr},H' b=none->b∈fp->FpOk (za3 X scope cl (ts++xs) fp s3 (upd H1 s2.heap.objs.size (.lst []))) [] H' b:=fun {H' b} n hb=>
  ⟨n,Nat.ne_of_lt (show b<s3.heap.objs.size by rw[hsz];exact Nat.lt_succ_of_lt (fl b hb)),fun hf=>(Ic.ok.exfs b hb) hf,.inl hb,fun x c e=>(Ic.ok.exf b hb).2 x c e,fun p hp=>absurd hp (by simp)⟩
 have loop:∀s4:Shared,s4={ s3 with heap:=h4,toks:=s3.toks+([]:List (Str×Value)).length }->codeAny (model X.prog X.w) X.A (.compLoop (.ListComp elt [⟨tg,iter,[c],0⟩] scope pos) 0 (.ref it) (.ref s2.heap.objs.size) (compEnvC scope cl s3.heap.objs.size X.env)) (RR (.ref s2.heap.objs.size) s3.heap.objs.size) s4:=by
  rintro s4 rfl;refine PySem.W.kct_loop (zkz (za3 X scope cl (ts++xs) fp s3 (upd H1 s2.heap.objs.size (.lst []))) fp tn W) (fun n s' hI=>?_) m0 ⟨0,_,_,[],Ic,st4,fun b hb=>(fo3 b hb).1,w0⟩;refine zo3 (Xc:=za3 X scope cl (ts++xs) fp s3 (upd H1 s2.heap.objs.size (.lst []))) hc T go (hg _ _ _) rfl fo' hI (fun σ' H' s1 I1 q1=>?_) (fun v s1 h1=>?_)
  ·obtain⟨J1,J2,J3⟩:=zsa I3 fo3 I1
   exact hRR _ _ H' s1 J1 J2 J3 (by rw[hsz];exact Nat.le_succ _) q1
  ·refine thn h1 fun _ s5 h5=>thn h5 fun _ s6 h6=>?_
   obtain⟨i,pins',acc,σ4,H4,N,I4,hN,pin4,keep4,q4⟩:=h6;have fin:∀{H7:Hp} {s7:Shared} {acc':List V},Inv (za3 X scope cl (ts++xs) fp s3 (upd H1 s2.heap.objs.size (.lst []))) pins' σ4 H7 s7->N σ4 H7 acc'->∃m,m<n/\zkz (za3 X scope cl (ts++xs) fp s3 (upd H1 s2.heap.objs.size (.lst []))) fp tn W m s7:=fun {H7 s7 acc'} I7 n7=>by
    obtain⟨m',hm,w7⟩:=hN _ _ _ n7;refine⟨m',hm,i+1,σ4,H7,acc',I7.pins_of (fun p hp=>absurd hp (by simp)),keep4 _ fun b hb o e=>?_,fun b hb=>?_,w7⟩
    ·obtain⟨o',hm',e'⟩:=pin4 b hb
     rw[e] at e';cases e';exact(I7.pin (b,o) (List.mem_append_right _ hm')).1
    ·obtain⟨o',hm',e'⟩:=pin4 b hb
     exact(I7.pin (b,o') (List.mem_append_right _ hm')).2.1
   refine wpAny_mono (ht fp s3 _ pins' s6 σ4 H4 _ I4 q4) (fun ok s7 hq_=>?_) fun _ _ z=>z.elim;obtain⟨H7,I7,q7⟩:=hq_;cases ok with
   | false=>
     have n7:N σ4 H7 acc:=by simpa using q7
     have:=fin I7 n7;simpa using this
   | true=>
     have q7:=(if_pos (c:=(true=true)) rfl).mp q7;show wpAny _ _ (eval elt _) _ _ _;refine wpAny_mono (he fp s3 _ pins' s7 σ4 H7 _ I7 q7) (fun y s8 hq_=>?_) fun _ _ z=>z.elim;obtain⟨yv,H8,I8,ry,e8,l8,n8⟩:=hq_;refine wpAny_mono (zkw (X:=za3 X scope cl (ts++xs) fp s3 (upd H1 s2.heap.objs.size (.lst []))) pins' s8 σ4 H8 (.ref s2.heap.objs.size) [yv] (.ref s2.heap.objs.size) [y] (fun _ H9=>H9=upd H8 s2.heap.objs.size (.lst (acc++[yv]))) I8 rfl (.cons ry .nil) ⟨_,acc,yv,rfl,rfl,e8,l8,rfl⟩) (fun _ s9 hq_=>?_) fun _ _ z=>z.elim;obtain⟨_,H9,I9,_,e9⟩:=hq_;subst e9;exact fin I9 n8
 have hself:=T.self X.A 0 { s3 with heap:=h4,toks:=s3.toks+([]:List (Str×Value)).length } (fun it' s'=>codeAny (model X.prog X.w) X.A (.compLoop (.ListComp elt [⟨tg,iter,[c],0⟩] scope pos) 0 it' (.ref s2.heap.objs.size) (compEnvC scope cl s3.heap.objs.size X.env)) (RR (.ref s2.heap.objs.size) s3.heap.objs.size) s') (notedBy (model X.prog X.w) X.A (compEnvC scope cl s3.heap.objs.size X.env) fun x s'=>RR (.ref s2.heap.objs.size) s3.heap.objs.size (.error x) s') st4 (loop _ rfl);subst hs3;exact codeAny_compStart_list (loop _ rfl) hself
theorem zmp(hc:X.calm=true)(C:zex X scope cl ts xs js)(I2:Inv X pins σ H1 s2)(T:Turn X.prog X.w X.K tg J fp it tn)(st:tn 0 s2.heap)(fo:∀b∈fp,FpOk X pins H1 b)
  (q:∀p,H1 p=none->∃W:Nat->Nat->St->Hp->List V->Prop,(∃m,W 0 m (List.replicate ts.length none++zo2 σ js) (upd H1 p (.lst [])) [])/\zr9 p J g tYes te Q W)
  (hg:∀fp s3 H2,PG (za3 X scope cl (ts++xs) fp s3 H2) tg g) (he:∀fp s3 H2,PE (za3 X scope cl (ts++xs) fp s3 H2) elt te)
  {RR:Value->Addr->Result->Shared->Prop} (hRR:∀p C H' s',Inv X pins σ H' s'->(∃m,s'.heap.Ns C m)->H' C=none->s2.heap.objs.size<=C->Q (.ref p) H'->RR (.ref p) C (.ok .next) s') :
  wpAny (model X.prog X.w) X.A (newList []) (fun acc s3=>wpAny (model X.prog X.w) X.A (newFunctionEnv scope X.env.globals cl [] X.env.qual none .none (some X.env)) (fun cenv s4=>
   codeAny (model X.prog X.w) X.A (.compStart (.ListComp elt [⟨tg,iter,[],0⟩] scope pos) 0 (.ref it) acc { cenv with scope:=relabel scope X.env }) (RR acc cenv.locals) s4) X.xe s3) X.xe s2:=by
 refine wpAny_newObj_type (wpAny_newFunctionEnv C.ncell (by intro y hy;simp at hy) (fun h4 ns4 sb4=>?_) C.kind);dsimp only at ns4 sb4 ⊢;have I3:Inv X pins σ (upd H1 s2.heap.objs.size (.lst [])) { s2 with heap:=s2.heap.push { cls:=.type "list",data:=.seq ([]:List Value).toArray } }:=
  I2.laid (t':=s2.toks) (fun b o e=>Heap.get?_push_of_some _ e) (Nat.le_refl _) ⟨Nat.zero_le _,[],_,.nil,Heap.get?_push_size _ rfl⟩
 generalize hs3:({ s2 with heap:=s2.heap.push { cls:=.type "list",data:=.seq ([]:List Value).toArray } }:Shared)=s3 at I3;have hsz:s3.heap.objs.size=s2.heap.objs.size+1:=by rw[<- hs3];exact Heap.size_push ..
 have hp3:s2.heap.push { cls:=.type "list",data:=.seq ([]:List Value).toArray }=s3.heap:=by rw[<- hs3]
 obtain⟨W,⟨m0,w0⟩,go⟩:=q s2.heap.objs.size (I2.hok.fresh (Nat.le_refl _));have fl:∀b∈fp,b<s2.heap.objs.size:=fun b hb=>by
  obtain⟨o,e,_⟩:=T.obj _ _ st b hb;exact Heap.lt_size e
 have fo3:∀b∈fp,FpOk X pins (upd H1 s2.heap.objs.size (.lst [])) b:=fun b hb=>⟨by rw[zag (Nat.ne_of_lt (fl b hb))];exact(fo b hb).1,(fo b hb).2⟩;have k4:∀b o,s3.heap.get? b=some o->h4.get? b=some o:=fun b o e=>by
  have hb:b≠s3.heap.objs.size:=Nat.ne_of_lt (Heap.lt_size e);rw[hp3] at sb4;exact sb4.extBut b o hb (Heap.get?_push_of_some _ e)
 rw[hp3] at ns4;have k24:∀b o,s2.heap.get? b=some o->h4.get? b=some o:=fun b o e=>k4 b o (by rw[<- hp3];exact Heap.get?_push_of_some _ e);have st4:tn 0 h4:=T.keep _ _ _ st fun b _ o e=>k24 b o e;have Ic:Inv (za3 X scope cl (ts++xs) fp s3 (upd H1 s2.heap.objs.size (.lst []))) [] _ (upd H1 s2.heap.objs.size (.lst [])) { s3 with heap:=h4,toks:=s3.toks+([]:List (Str×Value)).length }:=
  zmn C I3 fo3 (fun b hb=>by rw[hsz];exact Nat.lt_succ_of_lt (fl b hb)) ⟨_,ns4⟩ k4
 have fo':∀{H':Hp} {b:Addr},H' b=none->b∈fp->FpOk (za3 X scope cl (ts++xs) fp s3 (upd H1 s2.heap.objs.size (.lst []))) [] H' b:=fun {H' b} n hb=>
  ⟨n,Nat.ne_of_lt (show b<s3.heap.objs.size by rw[hsz];exact Nat.lt_succ_of_lt (fl b hb)),fun hf=>(Ic.ok.exfs b hb) hf,.inl hb,fun x c e=>(Ic.ok.exf b hb).2 x c e,fun p hp=>absurd hp (by simp)⟩
 have loop:∀s4:Shared,s4={ s3 with heap:=h4,toks:=s3.toks+([]:List (Str×Value)).length }->codeAny (model X.prog X.w) X.A (.compLoop (.ListComp elt [⟨tg,iter,[],0⟩] scope pos) 0 (.ref it) (.ref s2.heap.objs.size) (compEnvC scope cl s3.heap.objs.size X.env)) (RR (.ref s2.heap.objs.size) s3.heap.objs.size) s4:=by
  rintro s4 rfl;refine PySem.W.kcp_loop (zkz (za3 X scope cl (ts++xs) fp s3 (upd H1 s2.heap.objs.size (.lst []))) fp tn W) (fun n s' hI=>?_) m0 ⟨0,_,_,[],Ic,st4,fun b hb=>(fo3 b hb).1,w0⟩;refine zo3 (Xc:=za3 X scope cl (ts++xs) fp s3 (upd H1 s2.heap.objs.size (.lst []))) hc T go (hg _ _ _) rfl fo' hI (fun σ' H' s1 I1 q1=>?_) (fun v s1 h1=>?_)
  ·obtain⟨J1,J2,J3⟩:=zsa I3 fo3 I1
   exact hRR _ _ H' s1 J1 J2 J3 (by rw[hsz];exact Nat.le_succ _) q1
  ·refine thn h1 fun _ s5 h5=>thn h5 fun _ s6 h6=>?_
   obtain⟨i,pins',acc,σ4,H4,N,I4,hN,pin4,keep4,q4⟩:=h6;have fin:∀{H7:Hp} {s7:Shared} {acc':List V},Inv (za3 X scope cl (ts++xs) fp s3 (upd H1 s2.heap.objs.size (.lst []))) pins' σ4 H7 s7->N σ4 H7 acc'->∃m,m<n/\zkz (za3 X scope cl (ts++xs) fp s3 (upd H1 s2.heap.objs.size (.lst []))) fp tn W m s7:=fun {H7 s7 acc'} I7 n7=>by
    obtain⟨m',hm,w7⟩:=hN _ _ _ n7;refine⟨m',hm,i+1,σ4,H7,acc',I7.pins_of (fun p hp=>absurd hp (by simp)),keep4 _ fun b hb o e=>?_,fun b hb=>?_,w7⟩
    ·obtain⟨o',hm',e'⟩:=pin4 b hb
     rw[e] at e';cases e';exact(I7.pin (b,o) (List.mem_append_right _ hm')).1
    ·obtain⟨o',hm',e'⟩:=pin4 b hb
     exact(I7.pin (b,o') (List.mem_append_right _ hm')).2.1
   have q4:te σ4 H4 (fun y H6=>H6 s2.heap.objs.size=some (.lst acc)/\acc.length<sizeLine/\N σ4 (upd H6 s2.heap.objs.size (.lst (acc++[y]))) (acc++[y])):=by
    have z:=q4;unfold tYes at z;dsimp only at z;rw[if_pos rfl] at z;exact z
   refine wpAny_mono (he fp s3 _ pins' s6 σ4 H4 _ I4 q4) (fun y s8 hq_=>?_) fun _ _ z=>z.elim;obtain⟨yv,H8,I8,ry,e8,l8,n8⟩:=hq_;refine wpAny_mono (zkw (X:=za3 X scope cl (ts++xs) fp s3 (upd H1 s2.heap.objs.size (.lst []))) pins' s8 σ4 H8 (.ref s2.heap.objs.size) [yv] (.ref s2.heap.objs.size) [y] (fun _ H9=>H9=upd H8 s2.heap.objs.size (.lst (acc++[yv]))) I8 rfl (.cons ry .nil) ⟨_,acc,yv,rfl,rfl,e8,l8,rfl⟩) (fun _ s9 hq_=>?_) fun _ _ z=>z.elim;obtain⟨_,H9,I9,_,e9⟩:=hq_;subst e9;exact fin I9 n8
 have hself:=T.self X.A 0 { s3 with heap:=h4,toks:=s3.toks+([]:List (Str×Value)).length } (fun it' s'=>codeAny (model X.prog X.w) X.A (.compLoop (.ListComp elt [⟨tg,iter,[],0⟩] scope pos) 0 it' (.ref s2.heap.objs.size) (compEnvC scope cl s3.heap.objs.size X.env)) (RR (.ref s2.heap.objs.size) s3.heap.objs.size) s') (notedBy (model X.prog X.w) X.A (compEnvC scope cl s3.heap.objs.size X.env) fun x s'=>RR (.ref s2.heap.objs.size) s3.heap.objs.size (.error x) s') st4 (loop _ rfl);subst hs3;exact codeAny_compStart_list (loop _ rfl) hself
theorem zmq{C:Addr}{H':Hp}{s':Shared}{h':Heap}(I2:Inv X pins σ H1 s2)(I:Inv X pins σ H' s')(n:H' C=none)(hC:s2.heap.objs.size<=C)(hs:Heap.SameBut C s'.heap h'):Inv X pins σ H' { s' with heap:=h' }:=by
 refine I.turned (t':=s'.toks) (it:=C) (fun b o hb e=>hs.extBut b o hb e) n (Nat.ne_of_gt (Nat.lt_of_lt_of_le I2.lt hC)) (.inr (Nat.le_trans I2.sz hC)) (fun x c e=>?_) fun p hp=>?_
 ·obtain⟨v,o,ho,_⟩:=I2.cell x c e
  exact Nat.ne_of_lt (Nat.lt_of_lt_of_le (Heap.lt_size ho) hC)
 ·exact Nat.ne_of_lt (Nat.lt_of_lt_of_le (Heap.lt_size (I2.pin p hp).1) hC)
end
section
variable {X:Cx}{elt iter c tg:Expr}{pos:Pos}{g:TG}{tc:TT}{te:TE}{wi:TI}{scope:Scope}{cl:List (Str×Addr)}{ts xs:List Str}{js:List Nat}
theorem zsb(hc:X.calm=true)(C:zex X scope cl ts xs js)(hi:PI X tg iter wi)(hg:∀fp s3 H2,PG (za3 X scope cl (ts++xs) fp s3 H2) tg g)(ht:∀fp s3 H2,PT (za3 X scope cl (ts++xs) fp s3 H2) c tc)(he:∀fp s3 H2,PE (za3 X scope cl (ts++xs) fp s3 H2) elt te)
  (hs:∀x,foldedSetIterable iter X.env x=pure x:=by intro _;rfl):PE X (.ListComp elt [⟨tg,iter,[c],0⟩] scope pos) (zqt ts.length js wi g tc te):=by
 intro pins s σ H Q I h;rw[eval_ListComp];refine wpAny_comprehension_free (use:=none) rfl hs C.clos C.kind C.names (thn (hi pins s σ H _ I h) fun xv s1 h1=>thn h1 fun itv s2 h2=>?_);obtain⟨it,fp,tn,J,H1,rfl,I2,T,st2,fo,q⟩:=h2;exact zmo (RR:=compPost (model X.prog X.w) X.A X.xe none (EP X pins σ Q)) hc C I2 T st2 fo q hg ht he fun p D H' s' I' ns n hD q'=>by
  obtain⟨m,hm⟩:=ns;exact⟨m,hm,fun h' sb=>⟨.ref p,H',zmq I2 I' n hD sb,rfl,q'⟩⟩
theorem z2s(hc:X.calm=true)(C:zex X scope cl ts xs js)(hi:PI X tg iter wi)(hg:∀fp s3 H2,PG (za3 X scope cl (ts++xs) fp s3 H2) tg g)(he:∀fp s3 H2,PE (za3 X scope cl (ts++xs) fp s3 H2) elt te)
  (hs:∀x,foldedSetIterable iter X.env x=pure x:=by intro _;rfl):PE X (.ListComp elt [⟨tg,iter,[],0⟩] scope pos) (zqt ts.length js wi g tYes te):=by
 intro pins s σ H Q I h;rw[eval_ListComp];refine wpAny_comprehension_free (use:=none) rfl hs C.clos C.kind C.names (thn (hi pins s σ H _ I h) fun xv s1 h1=>thn h1 fun itv s2 h2=>?_);obtain⟨it,fp,tn,J,H1,rfl,I2,T,st2,fo,q⟩:=h2;exact zmp (RR:=compPost (model X.prog X.w) X.A X.xe none (EP X pins σ Q)) hc C I2 T st2 fo q hg he fun p D H' s' I' ns n hD q'=>by
  obtain⟨m,hm⟩:=ns;exact⟨m,hm,fun h' sb=>⟨.ref p,H',zmq I2 I' n hD sb,rfl,q'⟩⟩
theorem ztw{i:Nat}{y:Str}{py spos:Pos}(hc:X.calm=true)(C:zex X scope cl ts xs js)(hi:PI X tg iter wi)(hg:∀fp s3 H2,PG (za3 X scope cl (ts++xs) fp s3 H2) tg g)(he:∀fp s3 H2,PE (za3 X scope cl (ts++xs) fp s3 H2) elt te)
  (hN:X.N.Nodup) (hy:X.N[i]?=some y) (hx:Loc X.env.scope y) (hkn:∀u:V,X.kn[i]?≠some (some u)) (hf:X.fn y=true\/X.env.scope.names.lookup y=some .local:=by first | exact .inl rfl | exact .inr rfl | assumption)
  (hsw:swapsWith (.ListComp elt [⟨tg,iter,[],0⟩] scope pos) (some (.Name y py)) spos.line X.env=pure true:=by rfl)
  (hs:∀x,foldedSetIterable iter X.env x=pure x:=by intro _;rfl):PS X (.Assign [.Name y py] (.ListComp elt [⟨tg,iter,[],0⟩] scope pos) spos) (tAsg (zqt ts.length js wi g tYes te) (zlx i)):=by
 intro pins s σ H D I h;rw[exec_Assign_Name_used _ _ _ _ hsw];refine wpAny_bind (wpAny_standAt (wpAny_bind ?_));show wpAny _ X.A (do let _ <- comprehension (.ListComp elt [⟨tg,iter,[],0⟩] scope pos) scope X.env _ (newList []) false (eval iter X.env) (some (assign (.Name y py) X.env))) _ _ s;refine wpAny_bind (wpAny_mono (wpAny_comprehension_free (use:=some (assign (.Name y py) X.env)) (Q:=fun _ s'=>SP X pins D .next s') rfl hs C.clos C.kind C.names (thn (hi pins s σ H _ I h) fun xv s1 h1=>thn h1 fun itv s2 h2=>?_)) (fun _ s' hq=>wpAny_pure (wpAny_pure hq)) fun _ _ e=>e);obtain⟨it,fp,tn,J,H1,rfl,I2,T,st2,fo,q⟩:=h2;refine zmp (Q:=fun x H1=>zlx i x σ H1 D.nx) (g:=g) (te:=te) (RR:=compPost (model X.prog X.w) X.A X.xe (some (assign (.Name y py) X.env)) (fun _ s'=>SP X pins D .next s')) hc C I2 T st2 fo q hg he fun p E H' s' I' ns n hE q'=>?_;obtain⟨m,hm⟩:=ns;show wpAny _ X.A (assign (.Name y py) X.env (.ref p)) _ _ _;refine wpAny_assign_Name (zkr I' hN hy hx (show RelV (.ref p) (.ref p) from rfl) (fun s3 I3 hq_=>?_) hf hkn);obtain⟨b,sb,hb⟩:=hq_;refine⟨m,hm.sameBut sb (fun z=>?_),fun h' sb'=>⟨_,H',?_,q'⟩⟩
 ·rcases hb with hb | hb
  ·exact absurd (Nat.lt_of_lt_of_le I2.lt hE) (by rw[z,hb];exact Nat.lt_irrefl _)
  ·obtain⟨v,o,ho,_⟩:=I2.cell y b hb
   exact absurd (Nat.lt_of_lt_of_le (Heap.lt_size ho) hE) (by rw[z];exact Nat.lt_irrefl _)
 ·refine I3.turned (t':=s3.toks) (it:=E) (fun b o hb e=>sb'.extBut b o hb e) n (Nat.ne_of_gt (Nat.lt_of_lt_of_le I2.lt hE)) (.inr (Nat.le_trans I2.sz hE)) (fun x c e=>?_) fun p hp=>?_
  ·obtain⟨v,o,ho,_⟩:=I2.cell x c e
   exact Nat.ne_of_lt (Nat.lt_of_lt_of_le (Heap.lt_size ho) hE)
  ·exact Nat.ne_of_lt (Nat.lt_of_lt_of_le (Heap.lt_size (I2.pin p hp).1) hE)
end
end L2
namespace L2
open PySem PySem.Spec PyProof.Rows
section
variable {X:Cx}
theorem zib(hc:X.calm=true):zh7 X (.type "list") (fun xs H Q=>∃a kvs,xs=[.ref a]/\Rd H a (.dK kvs)/\∀l,H l=none->Q (.ref l) (upd H l (.lst (kvs.map fun p=>kV p.1)))):=by
 intro pins s σ H xs us Q I r h;obtain⟨a,kvs,rfl,rd,q⟩:=h;obtain⟨u,rfl,ru⟩:=zm9 r;cases ru;obtain⟨zl,zm,vs,rv,d⟩:=znb I.hok rd;obtain⟨ep,da⟩:=d.dictAt;have hl:kvs.length=vs.length:=rv.length;refine PySem.W.kdl_call (PySem.W.kdl_dict (knd:=za5 X.prog X.w) (kvs:=vs) (ep:=ep) zm) (I.ok.hd hc) da (by omega) fun h' tk acc c k e items=>?_;refine⟨.ref s.heap.objs.size,_,I.laid (t':=tk) (o:=.lst (kvs.map fun p=>kV p.1)) k (Nat.le_refl _) ⟨by rw[List.length_map];exact zl,acc.toList,c,?_,by simpa using e⟩,rfl,q _ (I.hok.fresh (Nat.le_refl _))⟩;obtain⟨n1,n2⟩:=items;have go:∀(ks:List (Key×V)) (as:List Value),ks.length=as.length->(∀(j:Nat) (u:Value),as[j]?=some u->∃p:Key×V,ks[j]?=some p/\RelV (kV p.1) u)->Vals (ks.map fun p=>kV p.1) as:=by
  intro ks
  induction ks with
  |nil=>intro as hl _;cases as with|nil=>exact .nil | cons _ _=>simp at hl
  | cons p ks ih=>
    intro as hl h;cases as with
    |nil=>simp at hl
    | cons u as=>
      obtain⟨p',e1,r1⟩:=h 0 u rfl;simp at e1;subst e1;exact .cons r1 (ih as (by simpa using hl) fun j w' e=>by simpa using h (j+1) w' (by simpa using e))
 refine go kvs acc.toList (by have z:acc.toList.length=acc.size:=Array.length_toList;omega) fun j u e=>?_;obtain⟨k',x',e1,e2⟩:=n2 j u (by rw[<- Array.getElem?_toList];exact e);have hj:j<kvs.length:=by rw[hl];exact(List.getElem?_eq_some_iff.mp e1).1
 obtain⟨w',e3,_⟩:=rv.at (i:=j) (k:=(kvs[j]).1) (v:=(kvs[j]).2) (by simp[hj]);rw[e1] at e3;cases e3;exact⟨kvs[j],by simp[hj],zqs e2⟩
theorem zqu:zh7 X (.builtin "isinstance") (fun xs H Q=>∃x c cu t b,xs=[x,c]/\RelV c cu/\(∀u,RelV c u->u=cu)/\TyOf X.K H x t/\PySem.W.kitOne X.K t cu=some b/\Q (.bl b) H):=by
 intro pins s σ H xs us Q I r h;obtain⟨x,c,cu,t,b,rfl,_,hu,ty,e,q⟩:=h;obtain⟨u,w',rfl,rx,rc⟩:=z45 r;cases hu w' rc;exact zu8 I rx ty e fun tk=>⟨.bl b,H,I.tok tk,rfl,q⟩
theorem zo4:∀{ys:List Str} {us:List Value},Vals (ys.map V.str) us->StrsAre us ys
 |[],[],_=>.nil
 | y :: ys,u::us,h=>by
   cases h with
   | cons p t=>
     obtain⟨tk,rfl⟩:=p;exact .cons _ _ (zo4 t)
 |[],_::_,h=>nomatch h
 |_::_,[],h=>nomatch h
theorem z2t:MtR X "str.join" (fun x xs H Q=>∃z l ys,x=.str z/\xs=[.ref l]/\SqL X.K H l (ys.map V.str)/\(ys.map (·.length)).sum+ys.length*z.length<=16777216/\Q (.str (Txt.join z ys)) H):=by
 intro pins s σ H x xs v us Q I rx rv h;obtain⟨z,l,ys,rfl,rfl,sq,hz,q⟩:=h;obtain⟨t,rfl⟩:=rx;obtain⟨u,rfl,ru⟩:=rv.one;cases ru;obtain⟨its,r,pl,_⟩:=I.list sq;exact join_list pl.isList (zo4 r) hz fun t' k=>⟨.str _,H,I.tok k,⟨t',rfl⟩,q⟩
theorem z2u{e:Expr}{te:TE}{pos:Pos}(he:PE X e te):PE X (.FormattedValue e 114 none pos) (fun σ H Q=>te σ H fun v H1=>∃y,v=.str y/\(reprText y).length<=sizeLine/\Q (.str (reprText y)) H1):=by
 intro pins s σ H Q I h;refine wpAny_FormattedValue_repr (thn (he pins s σ H _ I h) fun v s1 hq_=>?_);obtain⟨x,H1,I1,r,y,e,l,q⟩:=hq_;subst e;obtain⟨t,rfl⟩:=r;refine wpAny_pyReprObj_str (hsz:=l) ?_;exact formatField_str (hsz:=l) fun t' tk=>⟨.str _,H1,I1.tok tk,⟨t',rfl⟩,q⟩
def tJ:Str->List TE->TE
 |acc,[]=>fun _ H Q=>acc.length<=sizeLine/\Q (.str acc) H
 |acc,t::ts=>fun σ H Q=>t σ H fun v H1=>∃y,v=.str y/\(acc++y).length<=sizeLine/\tJ (acc++y) ts σ H1 Q
inductive PJ(X:Cx):List Expr->List TE->Prop where
 |nil:PJ X [] []
 |cons {e:Expr} {es:List Expr} {t:TE} {ts:List TE}:PE X e t->PJ X es ts->PJ X (e::es) (t::ts)
theorem zzi{es:List Expr}{ts:List TE}(hj:PJ X es ts):∀{acc:Str} {pins:List (Addr×Obj)} {s:Shared} {σ:St} {H:Hp} {Q:VK},Inv X pins σ H s->tJ acc ts σ H Q ->
  wpAny (model X.prog X.w) X.A (joinParts acc (evalEach es X.env)) (EP X pins σ Q) X.xe s:=by
 induction hj with
 |nil=>intro acc pins s σ H Q I h;exact joinParts_nil (hsz:=h.1) ⟨.str acc,H,I.tok _,⟨_,rfl⟩,h.2⟩
 | @cons e es t ts he hj ih=>
   intro acc pins s σ H Q I h;show wpAny _ _ (joinParts acc (eval e X.env::evalEach es X.env)) _ _ _;refine joinParts_cons (thn (he pins s σ H _ I h) fun v s1 hq_=>?_);obtain⟨x,H1,I1,r,y,e,l,q⟩:=hq_;subst e;obtain⟨tk,rfl⟩:=r;exact⟨l,ih I1 q⟩
theorem zo5{a b:Expr}{r:List Expr}{ts:List TE}{pos:Pos}(h:PJ X (a::b::r) ts):PE X (.JoinedStr (a::b::r) pos) (tJ Str.empty ts):=fun pins s σ H Q I q=>JoinedStr_many (zzi h I q)
end
end L2
namespace L2
open PySem PySem.Spec PyProof.Rows
theorem zvr{prog:Program}{w:World}{A:Around}{E:Value->Shared->Prop}{s:Shared}{Q:Int->Shared->Prop}(h:Q 0xFCA86420 { s with toks:=s.toks+1 }):wpAny (model prog w) A (pyHash .none) Q E s:=by
 have hT:s.TypeIs .none "NoneType":=rfl;show wpAny _ _ (pyHashByItsType .none) Q E s;unfold pyHashByItsType;refine wpAny_bind ?_;rw[cRoomFor,if_neg (by decide)];refine wpAny_pure ?_;refine wpAny_bind (wpAny_specialOf hT PySem.F.slot_NoneType_hash.lookup ?_);rw[if_neg (by decide)];refine wpAny_bind (wpAny_specialOf hT PySem.F.slot_NoneType_hash.lookup ?_);show wpAny _ _ (callSpecialIfBoundUnlessNone? .none "__hash__" _ >>= _) Q E s;refine wpAny_bind (wpAny_callSpecialIfBoundUnlessNone?_slot hT PySem.F.slot_NoneType_hash (wpAny_call_entry PySem.F.slot_NoneType_hash hT PySem.F.entry_NoneType_hash
  (show wpAny _ _ (do ret (<- mkInt 0xFCA86420)) _ _ s from wpAny_ret_mkInt ?_) (PySem.F.args_NoneType_hash_1 _)))
 show wpAny _ _ (if(decide (-(2:Int) ^ 63<=0xFCA86420)&&decide ((0xFCA86420:Int)<2 ^ 63))=true then _ else _) Q E _;rw[if_pos (by decide)];exact wpAny_pure h
def z2v:Option Key->Value->Bool
 |none,.none=>true
 |none,_=>false
 |some k,v=>zok k v
def optH(w:World):Option Key->Int
 |none=>0xFCA86420
 |some k=>keyH w k
theorem zdu{v:Value}(h:z2v none v=true):v=.none:=by
 cases v<;>first | rfl | cases h
theorem zng{k:Key}(h:zok k .none=true):False:=by
 rcases zbf h with⟨_,_,_,e⟩ | ⟨_,_,_,e⟩<;>cases e
def zqv (prog:Program) (w:World):PySem.KeyKind prog w (Option Key) where
 is:=z2v
 hash:=optH w
 inj:=fun v a b ha hb=>by
  cases a with
  | none=>
    cases b with
    |none=>rfl
    |some b=>cases zdu ha;exact(zng hb).elim
  | some a=>
    cases b with
    |none=>cases zdu hb;exact(zng ha).elim
    |some b=>exact congrArg some ((za5 prog w).inj v a b ha hb)
 byValue:=fun k v h=>by
  cases k with
  |none=>cases zdu h;rfl
  |some k=>exact(za5 prog w).byValue k v h
 pyHash:=fun {A E s k v Q} hv h=>by
  cases k with
  |none=>cases zdu hv;exact zvr h
  |some k=>exact(za5 prog w).pyHash (k:=k) hv h
 eqBool:=fun {A E s a b u v Q} hu hv h=>by
  cases a with
  | none=>
    cases zdu hu;cases b with
    |none=>cases zdu hv;exact SeqAt.EqAt.same _ _ _ _ _ (by simpa using h)
    | some b=>
      rcases zbf hv with⟨i,t,rfl,rfl⟩ | ⟨x,t,rfl,rfl⟩
      ·exact SeqAt.EqAt.none_int _ _ _ _ _ _ (by simpa using h)
      ·exact SeqAt.EqAt.none_str _ _ _ _ _ _ (by simpa using h)
  | some a=>
    cases b with
    | none=>
      cases zdu hv;rcases zbf hu with⟨i,t,rfl,rfl⟩ | ⟨x,t,rfl,rfl⟩
      ·exact SeqAt.EqAt.int_none _ _ _ _ _ _ (by simpa using h)
      ·exact SeqAt.EqAt.str_none _ _ _ _ _ _ (by simpa using h)
    |some b=>exact(za5 prog w).eqBool (a:=a) (b:=b) hu hv (by simpa using h)
 «strs»:=fun k x t v h=>by
  cases k with
  |none=>cases h
  |some k=>exact(za5 prog w).strs k x t v h
theorem z2w{P:Program}{w:World}{h:Heap}{a:Addr}{vs:List (Key×Value)}(d:h.DictOf (za5 P w) a vs):∃f,h.MapOf (zqv P w) a f/\f none=none:=by
 obtain⟨o,es,ep,ho,ex,hd,keys,r⟩:=id d;refine⟨fun k=>findBy (zqv P w).is es k,⟨o,es,ep,ho,ex,hd,fun e he=>?_,fun k=>rfl⟩,?_⟩
 ·obtain⟨k,h1,h2⟩:=keys e he
  exact⟨some k,h1,h2⟩
 ·show findBy z2v es none=none
  unfold findBy;rw[Option.map_eq_none_iff,Array.find?_eq_none];intro e he z;obtain⟨k,h1,_⟩:=keys e he;rw[zdu z] at h1;exact zng h1
section
variable {X:Cx}{o i:Expr}{td ty:TE}
def z8q(ty td:TE):TE:=fun σ H Q=>ty σ H fun y H1=>td σ H1 fun x H2=>∃a,x=.ref a/\((∃r,DGet H2 a y r/\Q (.bl r.isSome) H2)\/(y=.non/\(∃kvs,Rd H2 a (.dK kvs))/\Q (.bl false) H2))
theorem zvs(hu:X.A.units+1<cLine)(hi:PE X i ty)(ho:PE X o td):PC X .In i o (z8q ty td):=by
 intro pins s σ H Q I h;refine thn (hi pins s σ H _ I h) fun v s1 hq_=>?_;obtain⟨y,H1,I1,ry,q1⟩:=hq_;refine thn (ho pins s1 σ H1 _ I1 q1) fun u s2 hq_=>?_;obtain⟨x,H2,I2,rx,a,ex,q2⟩:=hq_;subst ex;cases (show u=Value.ref a from rx);rcases q2 with⟨r,g,q⟩ | ⟨ey,⟨kvs,rd⟩,q⟩
 ·exact d_in hu I2 g ry fun s' I'=>⟨.bl _,H2,I',rfl,q⟩
 ·subst ey
  cases (show v=Value.none from ry);obtain⟨z,hd,vs,rel,dd⟩:=znb I2.hok rd;obtain⟨f,mf,fn⟩:=z2w dd;refine wpAny_in_of (knd:=zqv X.prog X.w) (k:=none) (f:=f) rfl hd mf ?_;rw[fn];exact⟨.bl false,H2,I2.tok _,rfl,q⟩
end
end L2
namespace L2
open PySem PySem.Spec PyProof.Rows
section
variable {X:Cx}
theorem z05:OpR X (compareOp .Is) (fun x y H Q=>∃a b,x=.bl a/\y=.bl b/\Q (.bl (a==b)) H):=by
 intro pins s σ H x y v u Q I rx ry h;obtain⟨a,b,rfl,rfl,q⟩:=h;cases rx;cases ry;refine wpAny_is_plain rfl ⟨.bl (a==b),H,I,?_,q⟩;show Value.bool (Value.bool a==Value.bool b)=Value.bool (a==b);cases a<;>cases b<;>rfl
end
end L2
namespace L2
open PySem PySem.Spec PyProof.Rows
section
variable {X:Cx}
theorem znh{xs:List V}{i:Nat}{z:V}(f:xs.all zfc=true)(h:xs[i]?=some z):zfc z=true:=List.all_eq_true.mp f z (List.mem_of_getElem? h)
theorem Vals.at:∀{xs:List V} {us:List Value},Vals xs us->∀{i:Nat} {u:Value},us[i]?=some u->∃x,xs[i]?=some x/\RelV x u
 |_,_,.nil,i,u,h=>by simp at h
 | _,_,.cons r t,0,u,h=>by
   simp at h;subst h;exact⟨_,rfl,r⟩
 | _,_,.cons r t,i+1,u,h=>by
   obtain⟨x,h1,h2⟩:=Vals.at t (i:=i) (u:=u) (by simpa using h);exact⟨x,by simpa using h1,h2⟩
end
section
variable {X:Cx}{elt iter c tg:Expr}{pos:Pos}{g:TG}{tc:TT}{te:TE}{wi:TI}{scope:Scope}{cl:List (Str×Addr)}{ts xs:List Str}{js:List Nat}
theorem zqw{i:Nat}{y:Str}{py spos:Pos}(hc:X.calm=true)(C:zex X scope cl ts xs js)(hi:PI X tg iter wi)(hg:∀fp s3 H2,PG (za3 X scope cl (ts++xs) fp s3 H2) tg g)(ht:∀fp s3 H2,PT (za3 X scope cl (ts++xs) fp s3 H2) c tc)(he:∀fp s3 H2,PE (za3 X scope cl (ts++xs) fp s3 H2) elt te)
  (hN:X.N.Nodup) (hy:X.N[i]?=some y) (hx:Loc X.env.scope y) (hkn:∀u:V,X.kn[i]?≠some (some u)) (hf:X.fn y=true\/X.env.scope.names.lookup y=some .local:=by first | exact .inl rfl | exact .inr rfl | assumption)
  (hsw:swapsWith (.ListComp elt [⟨tg,iter,[c],0⟩] scope pos) (some (.Name y py)) spos.line X.env=pure true:=by rfl)
  (hs:∀x,foldedSetIterable iter X.env x=pure x:=by intro _;rfl):PS X (.Assign [.Name y py] (.ListComp elt [⟨tg,iter,[c],0⟩] scope pos) spos) (tAsg (zqt ts.length js wi g tc te) (zlx i)):=by
 intro pins s σ H D I h;rw[exec_Assign_Name_used _ _ _ _ hsw];refine wpAny_bind (wpAny_standAt (wpAny_bind ?_));show wpAny _ X.A (do let _ <- comprehension (.ListComp elt [⟨tg,iter,[c],0⟩] scope pos) scope X.env _ (newList []) false (eval iter X.env) (some (assign (.Name y py) X.env))) _ _ s;refine wpAny_bind (wpAny_mono (wpAny_comprehension_free (use:=some (assign (.Name y py) X.env)) (Q:=fun _ s'=>SP X pins D .next s') rfl hs C.clos C.kind C.names (thn (hi pins s σ H _ I h) fun xv s1 h1=>thn h1 fun itv s2 h2=>?_)) (fun _ s' hq=>wpAny_pure (wpAny_pure hq)) fun _ _ e=>e);obtain⟨it,fp,tn,J,H1,rfl,I2,T,st2,fo,q⟩:=h2;refine zmo (Q:=fun x H1=>zlx i x σ H1 D.nx) (g:=g) (tc:=tc) (te:=te) (RR:=compPost (model X.prog X.w) X.A X.xe (some (assign (.Name y py) X.env)) (fun _ s'=>SP X pins D .next s')) hc C I2 T st2 fo q hg ht he fun p E H' s' I' ns n hE q'=>?_;obtain⟨m,hm⟩:=ns;show wpAny _ X.A (assign (.Name y py) X.env (.ref p)) _ _ _;refine wpAny_assign_Name (zkr I' hN hy hx (show RelV (.ref p) (.ref p) from rfl) (fun s3 I3 hq_=>?_) hf hkn);obtain⟨b,sb,hb⟩:=hq_;refine⟨m,hm.sameBut sb (fun z=>?_),fun h' sb'=>⟨_,H',?_,q'⟩⟩
 ·rcases hb with hb | hb
  ·exact absurd (Nat.lt_of_lt_of_le I2.lt hE) (by rw[z,hb];exact Nat.lt_irrefl _)
  ·obtain⟨v,o,ho,_⟩:=I2.cell y b hb
   exact absurd (Nat.lt_of_lt_of_le (Heap.lt_size ho) hE) (by rw[z];exact Nat.lt_irrefl _)
 ·refine I3.turned (t':=s3.toks) (it:=E) (fun b o hb e=>sb'.extBut b o hb e) n (Nat.ne_of_gt (Nat.lt_of_lt_of_le I2.lt hE)) (.inr (Nat.le_trans I2.sz hE)) (fun x c e=>?_) fun p hp=>?_
  ·obtain⟨v,o,ho,_⟩:=I2.cell x c e
   exact Nat.ne_of_lt (Nat.lt_of_lt_of_le (Heap.lt_size ho) hE)
  ·exact Nat.ne_of_lt (Nat.lt_of_lt_of_le (Heap.lt_size (I2.pin p hp).1) hE)
end
end L2
namespace L2
open PySem PySem.Spec PyProof.Rows PySem.Builtin PySem.Builtin.ObjectAttr
def zec(C:Addr)(dx:Option Addr)(t:Addr):Obj:={ cls:=.ref C,dict:=dx,data:=.fields #[.ref t,.none,.none,.none,.bool false,.none] }
def ztx:List Value->List Value
 |.ref _::r=>ztx r
 |l=>l
def zsc(l:List Value):Bool:=ztx l==bmVE
theorem zk0(self:Value):∀l:List Value,refuseLoop self "__setattr__" l=refuseLoop self "__setattr__" (ztx l)
 |[]=>rfl
 |v::r=>by cases v<;>first | rfl | (rw[refuseLoop_ref];exact zk0 self r)
theorem zsd(n:String):∀l:List Value,l.contains (.type n)=(ztx l).contains (.type n)
 |[]=>rfl
 | v::r=>by
   cases v
   case ref a=>rw[List.contains_cons,show(Value.type n==Value.ref a)=false from rfl,Bool.false_or];exact zsd n r
   all_goals rfl
theorem zvt(self:Value){l:List Value}(e:zsc l=true):refuseLoop self "__setattr__" l=pure ():=by
 rw[zk0,show ztx l=bmVE from eq_of_beq e];exact PySem.F.store_ValueError.passes self
theorem zvu{l:List Value}(e:zsc l=true){n:String}(h:bmVE.contains (.type n)=true):l.contains (.type n)=true:=by
 rw[zsd,show ztx l=bmVE from eq_of_beq e];exact h
theorem z06{l:List Value}(e:zsc l=true):l.contains (.type "object")=true/\l.contains (.type "ValueError")=true/\l.isEmpty=false:=by
 refine⟨zvu e (by decide +kernel),zvu e (by decide +kernel),?_⟩;cases l with
 |nil=>cases e
 |cons _ _=>rfl
def zni(K:PySem.W.Frag)(C:Addr):Bool:=(PySem.W.clsIn K C).any fun cd=>zsc cd.mro
structure XCls(K:PySem.W.Frag)(C:Addr):Prop where
 sa:PySem.W.findIn K (.ref C) "__setattr__" = some (some (.builtin "object.__setattr__"))
 hd:PySem.W.hasDictIn K C=true
 over:zni K C=true
section
variable {prog:Program}{w:World}{A:Around}{E:Value->Shared->Prop}{s:Shared}{K:PySem.W.Frag}{x C:Addr}{R:Result->Shared->Prop}
theorem xosa{ox:Obj}{od:Option Obj}{name:Str}{tk:Tok}{v:Value}(X:K.In s.heap)(I:PySem.W.InstAt s.heap x ox C od)(hp:zni K C=true)(hn:PySem.W.findIn K (.ref C) name=some none)
  (h:wpAny (model prog w) A.in1 (storeInOwnDict (.ref x) (.ref C) (.str name tk) name v false)
   (fun fin s'=>match fin with|.done f=>R (.ok f) s' | .again c'=>c'.quiet=true/\codeAny (model prog w) A c' R s') (fun e s'=>R (.error e) s') s) :
  codeAny (model prog w) A (.call (.builtin "object.__setattr__") ⟨[.ref x,.str name tk,v],[]⟩) R s:=by
 have SF:=PySem.F.store_object;obtain⟨cd,hc,ho⟩:=PySem.W.any_some hp;obtain⟨o1,o2,o3⟩:=z06 ho;have isob:PySem.W.Looks (model prog w) s.heap (isInstance (.ref x) (.type "object")) true:=
  I.type.andThen (PySem.W.looks_mroIn X (by unfold PySem.W.mroIn;rw[hc,Option.bind_some,if_neg (by rw[o3];decide),o1]))
 refine codeAny_call_builtin SF.slot.plain SF.entry (@PySem.W.check_slot (model prog w) _ _ s "object.__setattr__" "object" "__setattr__" (.ref x) [.str name tk,v] [] _ SF.kind SF.split isob (SF.args (.ref x) (.str name tk) v) ?_);have ml:PySem.W.Looks (model prog w) s.heap (mroOf (.ref C)) cd.mro:=(PySem.W.looks_clsIn X hc).andThen .now;rw[PySem.W.osa_eq,refuse_eq];refine wpAny_bind (wpAny_bind (I.type.here (wpAny_bind (ml.here ?_))));rw[zvt _ ho];exact wpAny_pure (wpAny_bind (I.type.here (wpAny_bind ((PySem.W.looks_findIn X hn).here (wpAny_bind (wpAny_pure h))))))
theorem zvv{dx t:Addr}{mA:Str->Option Value}{name:Str}{v:Value}{ns:List Str}{Q:Unit->Shared->Prop}(X:K.In s.heap)(c:XCls K C)(hn:PySem.W.findIn K (.ref C) name=some none)
  (hx:s.heap.get? x=some (zec C (some dx) t)) (hne:dx≠x) (n:s.heap.Ns1 dx mA) (hw:PySem.Within mA ns) (hsz:ns.length<sizeLine)
  (h:∀h',h'.Ns1 dx (fun y=>if y=name then some v else mA y)->Heap.SameBut dx s.heap h'->Q () { s with heap:=h',toks:=s.toks+2 }) :
  wpAny (model prog w) A (setAttr (.ref x) name v) Q E s:=by
 obtain⟨od,ho,hl⟩:=zks n;have J:PySem.W.InstAt s.heap x (zec C (some dx) t) C (some od):=⟨hx,rfl,rfl,ho⟩;refine PySem.W.set_plain X J c.sa (xosa (s:={ s with toks:=s.toks+1 }) X J c.over hn ?_);obtain⟨cd,hc,hd'⟩:=PySem.W.any_some c.hd;refine wpAny_bind (wpAny_pure (wpAny_bind (wpAny_bind (wpAny_loadPart hx (wpAny_bind (PySem.W.Looks.here (s:={ s with toks:=s.toks+1 }) (PySem.W.looks_clsIn X hc) ?_))))));rw[hd'];refine wpAny_pure (a:=some dx) (wpAny_bind (wpAny_pure (wpAny_bind ?_)));refine wpAny_nsSet1 (s:={ s with toks:=s.toks+1 }) n fun h' hn2 hs2=>?_;obtain⟨oD,esD,epD,hoD,hdD,hcD⟩:=hn2.count (PySem.Within.cons name v hw);refine wpAny_bind (wpAny_lookBehind hoD (by rw[hdD];exact pastItsLine_dict (Nat.le_trans hcD (by rw[List.length_cons];omega))) ?_);exact wpAny_pure (h _ hn2 hs2)
theorem zvw{t:Addr}{name:Str}{v:Value}{Q:Unit->Shared->Prop}(X:K.In s.heap)(c:XCls K C)(hn:PySem.W.findIn K (.ref C) name=some none)
  (hx:s.heap.get? x=some (zec C none t))
  (h:∀h',h'.Ns1 s.heap.objs.size (fun y=>if y=name then some v else none)->h'.get? x=some (zec C (some s.heap.objs.size) t)->(∀b o,b≠x->s.heap.get? b=some o->h'.get? b=some o)->Q () { s with heap:=h',toks:=s.toks+2 }) :
  wpAny (model prog w) A (setAttr (.ref x) name v) Q E s:=by
 have J:PySem.W.InstAt s.heap x (zec C none t) C none:=⟨hx,rfl,rfl,trivial⟩;refine PySem.W.set_plain X J c.sa (xosa (s:={ s with toks:=s.toks+1 }) X J c.over hn ?_);obtain⟨cd,hc,hd'⟩:=PySem.W.any_some c.hd;obtain⟨hh,g,d,tk,os⟩:=s;refine wpAny_bind (wpAny_pure (wpAny_bind (wpAny_bind (wpAny_loadPart hx (wpAny_bind (PySem.W.Looks.here (s:=⟨hh,g,d,tk+1,os⟩) (PySem.W.looks_clsIn X hc) ?_))))));rw[hd'];have hx1:(hh.push { cls:=.type "dict",data:=.dict #[] }).get? x=some (zec C none t):=Heap.get?_push_of_some _ hx;have hxs:x≠hh.objs.size:=Nat.ne_of_lt (Heap.lt_size hx);let h1:=(hh.push { cls:=.type "dict",data:=.dict #[] }).update x fun o=>{ o with dict:=some hh.objs.size };have gd:h1.get? hh.objs.size=some { cls:=.type "dict",data:=.dict #[] }:=(Heap.get?_update_ne _ _ _ _ hxs.symm).trans (Heap.get?_push_at rfl rfl);have gx:h1.get? x=some (zec C (some hh.objs.size) t):=Heap.get?_update_self _ hx1 rfl;have nd:h1.Ns hh.objs.size (fun _=>none):=⟨_,#[],_,gd,rfl,fun e he=>absurd he (by simp),fun _=>rfl⟩;have main:wpAny (model prog w) A.in1 (storeInDict hh.objs.size (.str name tk) name v) (fun fin s'=>match fin with|.done f=>(match f with|.ret _=>Q () s' | _=>False) | .again c'=>False) (fun _ _=>False) ⟨h1,g,d,tk+1,os⟩:=by
  unfold storeInDict newKeyGuard;refine wpAny_bind (wpAny_pure (wpAny_bind (wpAny_nsSet1 (Heap.Ns1.of_empty nd) fun h' hn' hs=>?_)));obtain⟨oD,esD,epD,hoD,hdD,hcD⟩:=hn'.count (Within.cons name v Within.nil);refine wpAny_bind (wpAny_lookBehind hoD (by rw[hdD];exact pastItsLine_dict (Nat.le_trans hcD (by rw[List.length_cons,List.length_nil,sizeLine_eq];omega))) ?_);refine wpAny_pure (h h' hn' ((hs.2 x hxs).trans gx) fun b o hb q=>(hs.2 b (Nat.ne_of_lt (Heap.lt_size q))).trans ((Heap.get?_update_ne _ _ _ _ hb).trans (Heap.get?_push_of_some _ q)))
 rw[if_neg (by decide)];show wpAny _ _ (if(!true || !typeHasDict (.ref C))=true then pure none else _) _ _ _;rw[if_neg (by simp[typeHasDict])];refine wpAny_bind (wpAny_alloc' (wpAny_bind (wpAny_update' hx1 (wpAny_pure (wpAny_mono main (fun fin s' z=>?_) fun _ _ z=>z.elim)))));rcases fin with(_ | _ | _ | _) | _<;>first | exact z | exact z.elim
def zft(K:PySem.W.Frag)(C fI:Addr):Bool:=match K.lookup C with
 | some ⟨.type "type",_,.cls cd,sl⟩=>(match cd.mro,sl.toList with
   |.ref C'::bm,[_,_,_,_,some (.builtin n),_]=>C'==C&&n == "ValueError.__new__" && !cd.hasDel&&PySem.W.tailIn K bmVE bm&&PySem.W.nsOkIn K cd.ns&&PySem.W.nsIn K cd.ns "__init__" == some (some (.ref fI))
   |_,_=>false)
 |_=>false
theorem z2x{h:Heap}{N:Addr}{mN:Str->Option Value}{n:Str}{v:Value}(X:K.In h)(G:h.Ns N mN)(e:PySem.W.nsIn K N n=some (some v)):mN n=some v:=by
 obtain⟨ob,ents,_,g1,g2,_,look⟩:=G;unfold PySem.W.nsIn at e
 split at e
 case h_1 q=>
  have z:=X _ _ q;rw[g1] at z;cases z;cases g2;rw[<- look];unfold nsFind findBy;rw[<- Array.find?_toList]
  split at e
  case h_1 he=>cases e;rw[he];rfl
  case h_2=>split at e<;>cases e
 case h_2=>cases e
theorem zhi{h:Heap}{fI:Addr}(X:K.In h)(q:zft K C fI=true) :
  ∃bm N nm qn bs hdct sn sub ab col dd k0 k1 k2 k3 k5 mN,h.get? C=some (excClassObj nm qn C N bs bm hdct sn sub ab col dd k0 k1 k2 k3 k5 "ValueError.__new__")/\h.Ns N mN/\mN "__init__" = some (.ref fI)/\OwnTail h bmVE bm:=by
 unfold zft at q
 split at q
 ·rename_i dct cdt slt look
  split at q
  ·rename_i C2 bm2 j0 j1 j2 j3 nid j5 em es
   simp only[Bool.and_eq_true,beq_iff_eq,Bool.not_eq_true'] at q;obtain⟨⟨⟨⟨⟨c1,c2⟩,c3⟩,tl⟩,okN⟩,noI⟩:=q;subst c1 c2;have ob:=X _ _ look;obtain⟨a1,a2,a3,a4,a5,a6,a7,a8,a9,b1,b2⟩:=cdt;have em:a3=.ref C2::bm2:=em;have c3:b2=false:=c3;have hsl:slt=#[j0,j1,j2,j3,some (.builtin "ValueError.__new__"),j5]:=by
    obtain⟨l⟩:=slt;exact congrArg Array.mk es
   rw[em,c3,hsl] at ob;exact⟨_,_,_,_,_,_,_,_,_,_,_,_,_,_,_,_,_,ob,.of_isNs (PySem.W.isNs_of_in X okN),z2x X (.of_isNs (PySem.W.isNs_of_in X okN)) noI,PySem.W.tail_of_in X tl⟩
  ·cases q
 ·cases q
theorem zqx{B:Addr}{pl:Sem Bool}{Q:Value×List Value->Shared->Prop}(X:K.In s.heap)(hg:PySem.W.specialIn K (.ref B) "__getattribute__" = some (some (.builtin "type.__getattribute__")))
  (hr:PySem.W.readsIn K B (.type "type")=true) (e:PySem.W.findCls K (.ref B) (.type "type") "__init__" = some (.val (.builtin "ValueError.__init__")))
  (h:Q (.builtin "ValueError.__init__",[]) { s with toks:=s.toks+1 }):wpAny (model prog w) A (getMethod (.ref B) "__init__" pl) Q E s:=
 PySem.W.method_cls X hg (PySem.W.cls_value X hr e (by rfl) h)
theorem zty{fI:Addr}{dx:Option Addr}{t:Addr}{m:Value}{Q:Value->Shared->Prop}(X:K.In s.heap)(q:zft K C fI=true)(hx:s.heap.get? x=some (zec C dx t))
  (h:∀h' t' tk',h'.get? x=some (zec C dx t')->(∀b o,b≠x->s.heap.get? b=some o->h'.get? b=some o)->Q .none { s with heap:=h',toks:=tk' }) :
  wpAny (model prog w) A (call (.builtin "ValueError.__init__") [.ref x,m]) Q E s:=by
 obtain⟨bm,N,nm,qn,bs,hdct,sn,sub,ab,col,dd,k0,k1,k2,k3,k5,mN,hC,hN,hni,T⟩:=zhi X q;have F:=PySem.F.excBase_ValueError;obtain⟨hh,g,d,tk,os⟩:=s;refine wpAny_call (codeAny_call_builtin F.init.plain F.initEntry (wpAny_check_init_subT F T hC hx rfl ?_))
 wp_walk
 exact h _ hh.objs.size tk (by rw[Heap.get?_update_self _ (Heap.get?_push_of_some _ hx) rfl];rfl) fun b o hb q=>(Heap.get?_update_ne _ _ _ _ hb).trans (Heap.get?_push_of_some _ q)
structure z5o(h h':Heap)(e C:Addr):Prop where
 keeps:∀b o,h.get? b=some o->h'.get? b=some o
 new:h.objs.size<=e
 obj:∃t,h'.get? e=some (zec C none t)
theorem ztz{fI:Addr}{oI:Obj}{us:List Value}{Q:Fin->Shared->Prop}(X:K.In s.heap)(q:zft K C fI=true)(hf:s.heap.get? fI=some oI)(hfc:oI.cls=.type "function")(hlen:us.length<=sizeLine)
  (hq:∀h' e,z5o s.heap h' e C->wpAny (model prog w) A (call (.ref fI) (.ref e::us)) (fun r s'=>r=.none/\Q (.done (.ret (.ref e))) s') E { s with heap:=h' }) :
  wpAny (model prog w) A (Builtin.«type.__call__» ⟨.ref C::us,[]⟩) Q E s:=by
 obtain⟨bm,N,nm,qn,bs,hdct,sn,sub,ab,col,dd,k0,k1,k2,k3,k5,mN,gC,gN,gi,T⟩:=zhi X q;have F:=PySem.F.excBase_ValueError;obtain⟨hh,g,d,tk,os⟩:=s
 repeat (first | with_reducible refine wpAny_loadPart_at gC ?_ | with_reducible refine wpAny_madeBy_exc gC ?_ | wp_step)
 refine codeAny_call_builtin_code (Code.quiet_builtin _ F.quiet) (wpAny_check_new_subT F T gC ?_);refine codeAny_exc_new_subT F T gC ?_ hlen;let h1:=(hh.push { cls:=.type "tuple",data:=.seq us.toArray }).push { cls:=.ref C,data:=.fields #[.ref hh.objs.size,.none,.none,.none,.bool false,.none] };have kp:∀b o,hh.get? b=some o->h1.get? b=some o:=fun b o z=>Heap.get?_push_of_some _ (Heap.get?_push_of_some _ z);have ge:h1.get? (hh.objs.size+1)=some { cls:=.ref C,data:=.fields #[.ref hh.objs.size,.none,.none,.none,.bool false,.none] }:=by
  have:=Heap.get?_push_size (hh.push { cls:=.type "tuple",data:=.seq us.toArray }) (o:=zec C none hh.objs.size) rfl;rwa[Heap.size_push] at this
 have gC1:=kp _ _ gC;have self1:(Value.ref C::bm).contains (.ref C)=true:=by simp
 have gN1:h1.Ns N mN:=gN.keeps kp;show wpAny _ _ _ _ _ (⟨h1,g,d,tk,os⟩:Shared);unfold isInstance
 repeat (first | with_reducible refine wpAny_loadPart_at ge ?_ | (with_reducible refine wpAny_isSubtype_exc gC1 ?_;rw[self1]) | wp_step)
 show wpAny _ _ (typeLookup (.ref C) _) _ _ _;refine wpAny_typeLookup_tail gC1 gN1 (T.keeps kp) F.mroIs F.init.lookup ?_;rw[gi];refine wpAny_holding (wpAny_bind ?_);unfold bindSpecial;refine wpAny_bind (wpAny_typeOf (T := "function") ⟨_,kp _ _ hf,hfc⟩ ?_);rw[if_pos (by decide)];refine wpAny_pure (wpAny_bind (wpAny_mono (hq h1 (hh.objs.size+1) ⟨kp,Nat.le_succ _,_,ge⟩) (fun r s' z=>?_) fun _ _ z=>z));obtain⟨rfl,z⟩:=z
 wp_walk
 exact z
theorem z8r{fI:Addr}{oI:Obj}{us:List Value}{Q:Value->Shared->Prop}(X:K.In s.heap)(q:zft K C fI=true)(hf:s.heap.get? fI=some oI)(hfc:oI.cls=.type "function")(hlen:us.length<=sizeLine)
  (hq:∀h' e,z5o s.heap h' e C->wpAny (model prog w) (A.under (.builtin "type.__call__" ⟨.ref C::us,[]⟩)) (call (.ref fI) (.ref e::us)) (fun r s'=>r=.none/\Q (.ref e) s') E { s with heap:=h' }) :
  wpAny (model prog w) A (call (.ref C) us) Q E s:=by
 obtain⟨bm,N,nm,qn,bs,hdct,sn,sub,ab,col,dd,k0,k1,k2,k3,k5,mN,gC,gN,gi,T⟩:=zhi X q;have r1:=tc_lookup;have r2:=tc_bind (.ref C);have isT:s.TypeIs (.ref C) "type":=⟨_,gC,rfl⟩;refine wpAny_call (codeAny_of_tree ?_);show wpAny _ _ (callAny (.ref C) _) _ _ _;obtain⟨hh,g,d,tk,os⟩:=s
 repeat (any_goals (first | assumption | with_reducible refine wpAny_loadPart_at gC ?_ | wp_step))
 refine⟨rfl,?_⟩;exact codeAny_call_builtin_at (Code.quiet_builtin _ (by decide +kernel)) entry_typeCall (wpAny_check_type_call_sub gC (ztz X q hf hfc hlen fun h' e mk=>hq h' e mk))
theorem z5p{env:Env}{fI:Addr}{m:Sem Value}{Q:Flow->Shared->Prop}(q:zft K C fI=true)(hd:A.handled=none)
  (h:wpAny (model prog w) A m (fun v s1=>K.In s1.heap/\∃e t dx,v=.ref e/\s1.heap.get? e=some (zec C dx t)/\E (.ref e) s1) E s):wpAny (model prog w) A (raiseStmt env (some m) none) Q E s:=by
 unfold raiseStmt;refine wpAny_bind (wpAny_mono h (fun v s1 z=>?_) fun _ _ z=>z);obtain⟨X,e,t,dx,rfl,ge,hE⟩:=z;obtain⟨bm,N,nm,qn,bs,hdct,sn,sub,ab,col,dd,k0,k1,k2,k3,k5,mN,gC,gN,gi,T⟩:=zhi X q;have isB:(Value.ref C::bm).contains (.type "BaseException")=true:=by rw[List.contains_cons,T.hasType PySem.F.excBase_ValueError.hasBase,Bool.or_true]
 obtain⟨hp,g,d,tk,os⟩:=s1;have ge:hp.get? e=some { cls:=.ref C,dict:=dx,data:=.fields #[.ref t,.none,.none,.none,.bool false,.none] }:=ge
 repeat (first | with_reducible refine wpAny_loadPart_at ge ?_ | with_reducible refine wpAny_loadPart_at gC ?_ | (with_reducible refine wpAny_isSubtype_exc gC ?_;rw[isB]) | wp_step)
 exact wpAny_raiseNew_none hd hE
theorem z5q{env:Env}{fI:Addr}{y:Str}{np cpos pos:Pos}{args:List Expr}{Q:Flow->Shared->Prop}(q:zft K C fI=true)(hd:A.handled=none)(hpl:(backTo cpos (starEach args env)).any (·.1)=false)
  (h:wpAny (model prog w) A (eval (.Name y np) env) (fun f s1=>f=.ref C/\wpAny (model prog w) A (evalArgs (.ref C) true (backTo cpos (starEach args env)) []) (fun a s2=>a.kw=[]/\K.In s2.heap /\
   wpAny (model prog w) A (call (.ref C) a.pos) (fun v s3=>K.In s3.heap/\∃e t dx,v=.ref e/\s3.heap.get? e=some (zec C dx t)/\E (.ref e) s3) E s2) E s1) E s) :
  wpAny (model prog w) A (exec (.Raise (some (.Call (.Name y np) args [] cpos)) none pos) env) Q E s:=by
 rw[arm_exec_Raise];have core:wpAny (model prog w) A (eval (.Call (.Name y np) args [] cpos) env) (fun v s3=>K.In s3.heap/\∃e t dx,v=.ref e/\s3.heap.get? e=some (zec C dx t)/\E (.ref e) s3) E s:=by
  refine wpAny_Call_ofName (wpAny_mono h (fun f s1 z=>?_) fun _ _ z=>z);obtain⟨rfl,z⟩:=z;unfold callWith;refine wpAny_bind (wpAny_holding (wpAny_mono z (fun a s2 y2=>wpAny_bind (wpAny_standAt ?_)) fun _ _ z=>z));obtain⟨ap,ak⟩:=a;obtain⟨e1,X,y2⟩:=y2;obtain rfl:ak=[]:=e1;obtain⟨bm,N,nm,qn,bs,hdct,sn,sub,ab,col,dd,k0,k1,k2,k3,k5,mN,gC,gN,gi,T⟩:=zhi X q;obtain⟨hp,g,d,tk,os⟩:=s2;simp only[hpl];refine wpAny_bind (wpAny_keeperOf_exc gC ?_);exact wpAny_bind (wpAny_mono y2 (fun v s3 z=>wpAny_bind (wpAny_holding (wpAny_point (wpAny_pure z)))) fun _ _ z=>z)
 exact wpAny_bind (wpAny_standAt (z5p q hd (wpAny_bind (wpAny_mono core (fun v s3 z=>wpAny_bind (wpAny_standAt (wpAny_pure z))) fun _ _ z=>z))))
end
end L2
namespace L2
open PySem PySem.Spec PyProof.Rows
def excO(x C:Addr)(dx:Option Addr):HO:=.ext fun h=>∃t,h.get? x=some (zec C dx t)
def unt(H:Hp)(a:Addr):Hp:=fun b=>if b=a then none else H b
theorem zk1{H:Hp}{a b:Addr}(h:b≠a):unt H a b=H b:=by unfold unt;rw[if_neg h]
theorem zkj{H:Hp}{a:Addr}:unt H a a=none:=by unfold unt;rw[if_pos rfl]
theorem z5r{H:Hp}{a:Addr}{o:HO}(e:H a=some o):upd H a o=H:=by
 funext b;unfold upd;split
 ·rename_i z;rw[z,e]
 ·rfl
section
variable {P:Program}{w:World}{H:Hp}{h h':Heap}{x C d:Addr}{dx:Option Addr}{t:Addr}{fs fs':List (Str×V)}
theorem zqy(e:h.get? x=some (zec C dx t)):zc0 P w H h x (excO x C dx):=⟨⟨t,e⟩,⟨_,e⟩,fun _ _ z k=>let ⟨t,e⟩:=z;⟨t,k _ e⟩⟩
theorem zkk(ok:HOk P w H h)(e:H x=some (excO x C dx)):∃t,h.get? x=some (zec C dx t):=(ok x _ e).1
theorem HOk.writeX(ok:HOk P w H h)(hd:H d=some (.xd fs))(k:∀b u,b≠d->h.get? b=some u->h'.get? b=some u)(new:zc0 P w (upd H d (.xd fs')) h' d (.xd fs')):HOk P w (upd H d (.xd fs')) h':=fun b u q=>by
 by_cases hb:b=d
 ·subst hb;rw[zai] at q;cases q;exact new
 ·rw[zag hb] at q
  refine(ok b u q).stay (fun c v hc r=>k c v ?_ r) (fun c r=>?_) fun c xs r=>?_
  ·rintro rfl
   rcases hc with z | z
   ·exact hb z.symm
   ·rw[hd] at z;cases z
  ·rw[zag];exact r
   rintro rfl;rw[hd] at r;cases r
  ·rw[zag];exact r
   rintro rfl;rw[hd] at r;cases r
theorem Un.writeX{fr ex:List Addr}(hd:H d=some (.xd fs))(k:∀b u,b≠d->h.get? b=some u->h'.get? b=some u)(hdo:∃u,h'.get? d=some u):Un fr ex H (upd H d (.xd fs')) h h':=by
 have ne:∀b,H b=none->b≠d:=fun b n z=>by rw[z,hd] at n;cases n
 refine⟨fun b u q n _ _=>k b u (ne b n) q,fun b u q n _ _=>⟨u.slots,k b u (ne b n) q⟩,fun b u q n _=>by rw[zag (ne b n)];exact n,fun b u q _=>?_,
  fun b xs q=>?_,fun b u xs q=>?_,fun b ps q=>⟨#[],?_⟩⟩
 ·by_cases z:b=d
  ·subst z;exact hdo
  ·exact⟨u,k b u z q⟩
 ·rw[zag];exact q
  rintro rfl;rw[hd] at q;cases q
 ·rw[zag];exact q
  rintro rfl;rw[hd] at q;cases q
 ·rw[zag,q];simp
  rintro rfl;rw[hd] at q;cases q
theorem HOk.unt(ok:HOk P w H h){φ:Heap->Prop}(e:H x=some (.ext φ)):HOk P w (unt H x) h:=fun b u q=>by
 by_cases hb:b=x
 ·subst hb;rw[zkj] at q;cases q
 ·rw[zk1 hb] at q
  refine(ok b u q).stay (fun _ _ _ z=>z) (fun c r=>?_) fun c xs r=>?_
  ·rw[zk1];exact r
   rintro rfl;rw[e] at r;cases r
  ·rw[zk1];exact r
   rintro rfl;rw[e] at r;cases r
end
theorem mem_of_lookup{g:Str}{v:V}:∀{fs:List (Str×V)},fs.lookup g=some v->g∈fs.map (·.1)
 | (k,u)::r,e=>by
   by_cases z:g=k
   ·rw[z];exact List.mem_cons_self
   ·have hb:(g==k)=false:=beq_eq_false_iff_ne.mpr z
    rw[List.lookup,hb] at e;exact List.mem_cons_of_mem _ (mem_of_lookup e)
theorem zvx{fs:List (Str×V)}{mA:Str->Option Value}(r:∀f,RelO (fs.lookup f) (mA f)):PySem.Within mA (fs.map (·.1)):=fun g hg=>by
 have z:=r g;cases e:fs.lookup g with
 |some v=>exact mem_of_lookup e
 | none=>
   rw[e] at z;cases q:mA g with
   |none=>exact absurd q hg
   |some u=>rw[q] at z;exact z.elim
def z07(K:PySem.W.Frag)(t:TA):TE:=fun σ H Q=>t σ H fun vs H1=>∃a m C fI dx,vs=[.ref a,m]/\H1 a=some (excO a C dx)/\zft K C fI=true/\Q .non H1
section
variable {X:Cx}{E:XK}{B:Addr}{y f:Str}{np apos pos pos':Pos}{e o value:Expr}{es:List Expr}{t:TA}{ta tv:TE}
theorem zzj{pl:Sem Bool}(hg:Gl X y)(hm:X.mg y=some (.ref B))(h1:PySem.W.specialIn X.K (.ref B) "__getattribute__" = some (some (.builtin "type.__getattribute__")))
  (h2:PySem.W.readsIn X.K B (.type "type")=true) (h3:PySem.W.findCls X.K (.ref B) (.type "type") "__init__" = some (.val (.builtin "ValueError.__init__"))) (ha:PA X (e::es) t)
  (hdb:(y==("__debug__" : Str))=false:=by decide) (hst:starEach (e::es) X.env=(false,eval e X.env)::starEach es X.env:=by rfl) (hpl:(backTo pos (starEach es X.env)).any (·.1)=false:=by rfl)
  (ht:eval (.Call (.Attribute (.Name y np) "__init__" apos) (e::es) [] pos) X.env=(do
   let ov <- eval (.Name y np) X.env
   standAt apos.atName
   let (f,first) <- holding [ov] (getMethod ov "__init__" pl)
   callWith pos f first (backTo pos (starEach (e::es) X.env)) (backToKw pos (keywordEach [] X.env))):=by rfl) :
  PE X (.Call (.Attribute (.Name y np) "__init__" apos) (e::es) [] pos) (z07 X.K t):=by
 intro pins s σ H Q I h;refine PySem.W.methodCall_KW (pl:=pl) (zhd I hg hm ?_ hdb) ht;refine zqx I.kIn h1 h2 h3 ?_;refine PyProof.Rows.callWith_builtin1 (thn (ha pos pins _ σ H _ (I.tok _) h) fun us s1 hq_=>?_) hst hpl;obtain⟨vs,H1,I1,r1,a,m,C,fI,dx,ev,ea,q,z⟩:=hq_;subst ev;cases r1 with
 | cons ra rm=>
   cases rm with
   | cons rm0 rn=>
     cases rn;obtain rfl:=(show _=Value.ref a from ra);obtain⟨t0,hx⟩:=zkk I1.hok ea;refine zty I1.kIn q hx fun h' t' tk' g k=>⟨.non,H1,?_,rfl,z⟩;have I2:=I1.write (h':=h') (t':=tk') (x:=a) (e:=a) (o:=excO a C dx) (by rw[ea];exact trivial) (.inl rfl) k ⟨_,g⟩ (zqy g);rw[z5r ea] at I2;exact I2
def z5s(K:PySem.W.Frag)(ta tv:TE)(f:Str):TS:=fun D σ H=>tv σ H fun y H1=>ta σ H1 fun x H2=>∃a C,x=.ref a/\XCls K C/\PySem.W.findIn K (.ref C) f=some none /\
 ((H2 a=some (excO a C none)/\∀d,H2 d=none->D.nx σ (upd (upd H2 a (excO a C (some d))) d (.xd [(f,y)]))) \/
  ∃d fs,H2 a=some (excO a C (some d))/\H2 d=some (.xd fs)/\fs.length<1000/\D.nx σ (upd H2 d (.xd (putF f y fs))))
theorem z2y(ha:PE X o ta)(hv:PE X value tv)(hs:swapsWith value (some (.Attribute o f pos')) pos.line X.env=pure false):PS X (.Assign [.Attribute o f pos'] value pos) (z5s X.K ta tv f):=by
 intro pins s σ H D I h;refine plainObj_wpAny_Assign_Attribute (thn (hv pins s σ H _ I h) fun u s1 hq_=>?_) hs;obtain⟨y,H1,I1,ry,q⟩:=hq_;refine thn (ha pins s1 σ H1 _ I1 q) fun ov s2 hq_=>?_;obtain⟨x,H2,I2,rx,a,C,ex,c,n,q2⟩:=hq_;subst ex;obtain rfl:ov=Value.ref a:=rx;rcases q2 with⟨ea,q2⟩ | ⟨d,fs,ea,ed,hl,q2⟩
 ·obtain⟨t,hx⟩:=zkk I2.hok ea
  refine zvw I2.kIn c n hx fun h' n1 g k=>⟨σ,_,?_,q2 s2.heap.objs.size (I2.hok.fresh (Nat.le_refl _))⟩;have ha':a≠s2.heap.objs.size:=Nat.ne_of_lt (Heap.lt_size hx);have hd0:H2 s2.heap.objs.size=none:=I2.hok.fresh (Nat.le_refl _);have na:∀b,H2 b=none->b≠a:=fun b z w=>by rw[w,ea] at z;cases z
  have nd:∀b v,s2.heap.get? b=some v->b≠s2.heap.objs.size:=fun b v z=>Nat.ne_of_lt (Heap.lt_size z);have nk:∀b v,H2 b=some v->(∀φ,v≠.ext φ)->upd (upd H2 a (excO a C (some s2.heap.objs.size))) s2.heap.objs.size (.xd [(f,y)]) b=some v:=fun b v z w=>by
   rw[zag (fun q=>by rw[q,hd0] at z;cases z),zag (fun q=>by rw[q,ea] at z;cases z;exact w _ rfl)];exact z
  have un:Un X.fs [] H2 (upd (upd H2 a (excO a C (some s2.heap.objs.size))) s2.heap.objs.size (.xd [(f,y)])) s2.heap h':=
   ⟨fun b v z nn _ _=>k b v (na b nn) z,fun b v z nn _ _=>⟨v.slots,k b v (na b nn) z⟩,fun b v z nn _=>by rw[zag (nd b v z),zag (na b nn)];exact nn,
    fun b v z _=>(by
     by_cases w:b=a
     ·rw[w];exact⟨_,g⟩
     ·exact⟨v,k b v w z⟩),
    fun b xs z=>nk b _ z (by intro _ w;cases w),fun b v xs z=>nk b _ z (by intro _ w;cases w),fun b ps z=>⟨#[],by rw[nk b _ z (by intro _ w;cases w)];simp⟩⟩
  refine I2.un un fun b v z=>?_;by_cases w:b=s2.heap.objs.size
  ·subst w
   rw[zai] at z;cases z;refine⟨_,n1,fun g'=>?_⟩;show RelO (List.lookup g' [(f,y)]) (if g'=f then some u else none);by_cases z2:g'=f
   ·have hb:(g'==f)=true:=beq_iff_eq.mpr z2
    simp only[List.lookup,hb,if_pos z2];exact ry
   ·have hb:(g'==f)=false:=beq_eq_false_iff_ne.mpr z2
    simp only[List.lookup,hb,if_neg z2];trivial
  ·rw[zag w] at z
   by_cases w2:b=a
   ·subst w2
    rw[zai] at z;cases z;exact zqy g
   ·rw[zag w2] at z
    refine(I2.hok b v z).stay (fun c' v' hc r=>k c' v' ?_ r) (fun c' r=>nk c' _ r (by intro _ w;cases w)) fun c' xs r=>nk c' _ r (by intro _ w;cases w);rcases hc with q | q
    ·rw[q];exact w2
    ·rintro rfl;rw[ea] at q;cases q
 ·obtain⟨t,hx⟩:=zkk I2.hok ea
  obtain⟨mA,n1,r⟩:=I2.hok d _ ed;have hne:d≠a:=fun z=>by rw[z,ea] at ed;cases ed
  have wi:=zvx r;refine zvv I2.kIn c n hx hne n1 wi (by rw[List.length_map,sizeLine_eq];omega) fun h' n2 sb=>⟨σ,_,?_,q2⟩;obtain⟨od,_,_,hod,_⟩:=id n2;refine I2.un (Un.writeX ed (fun b v hb z=>(sb.2 b hb).trans z) ⟨od,hod⟩) (I2.hok.writeX ed (fun b v hb z=>(sb.2 b hb).trans z) ⟨_,n2,fun g=>?_⟩);show RelO ((putF f y fs).lookup g) (if g=f then some u else mA g);rw[zif];by_cases z:g=f
  ·rw[if_pos z,if_pos z];exact ry
  ·rw[if_neg z,if_neg z];exact r g
end
end L2
namespace L2
open PySem PySem.Spec PyProof.Rows
def zk2(X:Cx)(E:XK):Prop:=∀(pins:List (Addr×Obj)) (σ:St) (H1:Hp) (s1:Shared) (H:Hp) (s:Shared) (ea C t:Addr) (dx:Option Addr),Inv X pins σ H1 s1->s1.heap.objs.size<=ea->Inv X pins σ H s ->
 H ea=some (excO ea C dx)->s.heap.get? ea=some (zec C dx t)->E (.ref C) dx (unt H ea)->X.xe (.ref ea) s
section
variable {P:Program}{w:World}{K:PySem.W.Frag}{mg:Str->Option Value}{base:Heap}{N:List Str}{qual:Str}{scope:Scope}{f:Addr}{cd:Value}{A:Around}{outer:List Env}{s₀:Shared}{H₀:Hp}{E:XK}
theorem zt0:zk2 (cxOf (CXE P w) P w K mg base N qual scope f cd A outer s₀ H₀ E) E:=by
 intro pins σ H1 s1 H s ea C t dx I1 hea I eH he hE;let X:=cxOf (CXE P w) P w K mg base N qual scope f cd A outer s₀ H₀ E;let B:=PySem.W.hideAll s.heap (ea::frs X.stack);have hfrl:∀b,b∈frs X.stack↔b=X.env.locals\/b∈frs outer:=fun b=>by
  show b∈X.env.locals::frs outer↔_;exact List.mem_cons
 have old:∀b o,s₀.heap.get? b=some o->b≠ea:=fun b o e=>Nat.ne_of_lt (Nat.lt_of_lt_of_le (Heap.lt_size e) (Nat.le_trans I1.sz hea));have hF:s.heap.FunFrames B X.stack:=PySem.W.funFrames_hide I.stack fun env hv a ha=>List.mem_cons_of_mem _ (List.mem_filterMap.mpr ⟨env,hv,ha⟩);have hB:B.get? ea=none:=PySem.W.hideAll_none _ List.mem_cons_self;have kB:∀b o,s.heap.get? b=some o->b≠ea->b∉frs X.stack->B.get? b=some o:=fun b o e n1 n2=>PySem.W.hideAll_get _ e fun m=>(List.mem_cons.mp m).elim n1 n2;have ntr:∀b v,H b=some v->(∀φ,v≠.ext φ)->unt H ea b=some v:=fun b v z q=>by
  rw[zk1 (fun y=>by rw[y,eH] at z;cases z;exact q _ rfl)];exact z
 show wpAny (model P w) X.A (leaving X.env (.ref ea)) _ _ _;refine wpAny_mono (zmm (e:=ea) (d:=dx) zjf ⟨_,he,rfl⟩ (wpAny_leaving_firstW (Q:=fun _ s2=>∃h1,s2={ s with heap:=h1 }/\Heap.LeftW B X.stack ea (.ref C) (.ref t) s.heap h1)
  (base:=B) (env:=X.env) (outer:=outer) (L:=X.env.locals) (a0:=.ref t) I.ok.frames hF rfl he (fun b o q=>PySem.W.of_hideAll _ q) hB rfl rfl rfl fun h1 k=>⟨h1,rfl,k⟩)) (fun _ s2 z=>?_) fun _ _ z=>z.1
 obtain⟨⟨h1,rfl,k1,⟨_,_,k2⟩,k3,k4⟩,hd1⟩:=z;refine⟨ea,.ref C,.ref t,B,unt H ea,dx,rfl,I.os,I.bare,⟨k1,hB,k2,k3⟩,?_,fun b o e n hb=>?_,fun b o e n hb=>?_,fun b o e n=>?_,fun b o e hb=>?_,fun b xs e=>?_,fun b o u e=>?_,fun b ps e=>?_,hd1,hE⟩
 ·refine HOk.hide (HOk.unt I.hok eH) fun b hb=>?_
  rcases List.mem_cons.mp hb with z | z
  ·rw[z];exact zkj
  ·by_cases q:b=ea
   ·rw[q];exact zkj
   ·rw[zk1 q];exact I.stkFree b z
 ·have hL:b≠X.env.locals:=Nat.ne_of_lt (Nat.lt_of_lt_of_le (Heap.lt_size e) I.ok.above)
  refine kB b o (I.base.keep b o e n hb (by simp[cxOf])) (old b o e) fun m=>?_;rcases(hfrl b).mp m with z | z
  ·exact hL z
  ·exact hb z
 ·obtain⟨sl,e1⟩:=I.base.slot b o e n hb (by simp[cxOf])
  obtain⟨o',e',nd⟩:=(I.stack.mem ((hfrl b).mpr (.inr hb))).2;rw[e1] at e';cases e';obtain⟨sl',e2⟩:=k4 b _ e1 nd;exact⟨sl',e2⟩
 ·rw[zk1 (old b o e)];exact I.base.free b o e n (by simp[cxOf])
 ·have hL:b≠X.env.locals:=Nat.ne_of_lt (Nat.lt_of_lt_of_le (Heap.lt_size e) I.ok.above)
  obtain⟨o',e1⟩:=I.base.there b o e (by simp[cxOf]);refine⟨o',kB b o' e1 (old b o e) fun m=>?_⟩;rcases(hfrl b).mp m with z | z
  ·exact hL z
  ·exact hb z
 ·exact ntr b _ (I.base.tups b xs e) (by intro _ z;cases z)
 ·exact ntr b _ (I.base.frzs b o u e) (by intro _ z;cases z)
 ·obtain⟨more,e1⟩:=I.base.tbls b ps e
  exact⟨more,ntr b _ e1 (by intro _ z;cases z)⟩
end
def z2z(C:Addr)(sp:Sp)(E:XK)(t:TA):TS:=fun _ σ H=>t σ H fun vs H1=>vs.length<=sizeLine/\∀ea,H1 ea=none ->
 sp (.ref ea::vs) (upd H1 ea (excO ea C none)) (fun v H2=>v=.non/\∃dx,H2 ea=some (excO ea C dx)/\E (.ref C) dx (unt H2 ea)) E0
section
variable {X:Cx}{E:XK}{k:Nat}{C fI:Addr}{fd:FuncData}{ps:List Str}{sp:Sp}{y:Str}{np cpos pos:Pos}{e:Expr}{es:List Expr}{t:TA}
theorem zvy(hx:zk2 X E)(hp:zeb (CXE X.prog X.w) X E0)(hc:X.calm=true)(q:zft X.K C fI=true)(hf:PySem.W.isFn X.K (.ref fI)=true)(F:FnOk X.prog X.w X.K X.mg X.base (CXE X.prog X.w) k fI fd ps sp)(hr:Room (k+1) X.A)(hb:zf6 X.K fd ps [])
  (hg:Gl X y) (hm:X.mg y=some (.ref C)) (ha:PA X (e::es) t)
  (hdb:(y==("__debug__" : Str))=false:=by decide) (he:starEach (e::es) X.env=(false,eval e X.env)::starEach es X.env:=by rfl) (hpl:(backTo cpos (starEach es X.env)).any (·.1)=false:=by rfl) :
  PS X (.Raise (some (.Call (.Name y np) (e::es) [] cpos)) none pos) (z2z C sp E t):=by
 intro pins s σ H D I h;refine z5q (K:=X.K) q (I.ok.hd hc) (by rw[he];show(false || (backTo cpos (starEach es X.env)).any (·.1))=false;rw[hpl];rfl) (zhd I hg hm ⟨rfl,?_⟩ hdb);have a:=ha cpos pins s σ H _ I h;rw[he] at a ⊢;refine Calls.evalArgs_plain (thn a fun us s2 ⟨vs,H2,I2,r,l,z⟩=>⟨rfl,I2.kIn,?_⟩);obtain⟨oI,g1,g2⟩:∃oI,s2.heap.get? fI=some oI/\oI.cls=.type "function":=by
  obtain⟨o,ho,hc'⟩:=Option.map_eq_some_iff.mp (show(X.K.lookup fI).map (·.cls)=some (.type "function") from eq_of_beq hf);exact⟨o,I2.kIn _ _ ho,hc'⟩
 refine z8r I2.kIn q g1 g2 (by show us.length<=sizeLine;rw[<- r.length];exact l) fun h' ea mk=>?_;obtain⟨t0,ht0⟩:=mk.obj;have I3:Inv X pins σ (upd H2 ea (excO ea C none)) { s2 with heap:=h' }:=I2.laid (t':=s2.toks) mk.keeps mk.new (zqy ht0);have r2:Vals (V.ref ea::vs) (Value.ref ea::us):=.cons rfl r;have sq:=z ea (I2.hok.fresh mk.new);have hl:(Value.ref ea::us++[]).length=ps.length:=by
  rw[List.append_nil,<- r2.length];exact F.len _ _ _ _ sq
 have bb:=hb { s2 with heap:=h' } (Value.ref ea::us) I3.kIn hl;rw[List.append_nil] at bb;refine wpAny_call (codeAny_mono (F.run _ X.stack _ _ ⟨Value.ref ea::us,[]⟩ (Value.ref ea::us) _ _ E0 (hr.make C us []) (I3.env0.make C us []) bb r2 sq) fun r' s' hq=>?_);cases r' with
 |error ex=>exact hp pins σ _ _ ex s' I3 hq
 | ok fl=>
   cases fl with
   | ret u=>
     obtain⟨v,H',I4,rv,ev,dx,e4,q4⟩:=I3.after hq;subst ev;obtain⟨t4,g4⟩:=zkk I4.hok e4;exact⟨rv,I4.kIn,ea,t4,dx,rfl,g4,hx pins σ H2 s2 H' s' ea C t4 dx I2 mk.new I4 e4 g4 q4⟩
   |next=>exact False.elim hq
   |brk=>exact False.elim hq
   |cont=>exact False.elim hq
end
end L2
namespace L2
open PySem PySem.Spec PyProof.Rows PySem.Builtin PySem.Builtin.ObjectAttr
structure XGet(K:PySem.W.Frag)(C:Addr):Prop where
 ga:PySem.W.findIn K (.ref C) "__getattribute__" = some (some (.builtin "BaseException.__getattribute__"))
 gh:PySem.W.findIn K (.ref C) "__getattr__" = some none
 hd:PySem.W.hasDictIn K C=true
 over:zni K C=true
section
variable {prog:Program}{w:World}{A:Around}{E:Value->Shared->Prop}{s:Shared}{K:PySem.W.Frag}{x C:Addr}
theorem z5t{ox:Obj}{od:Option Obj}{name:Str}{tk:Tok}{fill expr:Bool}{Q:Value->Shared->Prop}(X:K.In s.heap)(c:XGet K C)(J:PySem.W.InstAt s.heap x ox C od)
  (h:wpAny (model prog w) A.in1 (Builtin.«object.__getattribute__» ⟨[.ref x,.str name tk],[]⟩) (fun fin s'=>match fin with|.done (.ret v)=>wpAny (model prog w) A (handedOut v) Q E s' | _=>False) (fun _ _=>False) s) :
  wpAny (model prog w) A (getAttrBy (.ref x) (.str name tk) fill expr) Q E s:=by
 have FB:=PySem.F.attrBase_ValueError;have neq:(onTheHeap (Value.ref C)&&Value.builtin "BaseException.__getattribute__" == Value.builtin "object.__getattribute__")=false:=by
  rw[show(Value.builtin "BaseException.__getattribute__" == Value.builtin "object.__getattribute__")=false from by decide +kernel,Bool.and_false]
 obtain⟨cd,gcd,gv⟩:=PySem.W.any_some c.over;have isB:PySem.W.Looks (model prog w) s.heap (isInstance (.ref x) (.type "BaseException")) true:=
  J.type.andThen (PySem.W.looks_mroIn X (by unfold PySem.W.mroIn;rw[gcd,Option.bind_some,if_neg (by rw[(z06 gv).2.2];decide),zvu gv (by decide +kernel)]))
 unfold getAttrBy;refine wpAny_holding (wpAny_bind (J.type.here (wpAny_bind ((PySem.W.looks_findIn X c.ga).here ?_))));dsimp only;rw[neq,if_neg (by decide)];unfold getAttrByItsOwn;refine wpAny_bind ((PySem.W.looks_hook (r:=none) X (by rw[if_pos (by rfl)];exact c.gh)).here (wpAny_bind (wpAny_attempt (wpAny_holding ?_))));unfold callGetattribute;rw[show(expr&&onTheHeap (Value.builtin "BaseException.__getattribute__"))=false from by cases expr<;>rfl,if_neg (by decide)];unfold boundAndCalled;rw[FB.ga.bind];refine wpAny_bind (wpAny_pure ?_);show wpAny _ _ (call (.builtin "BaseException.__getattribute__") [.ref x,.str name tk]) _ _ _;refine wpAny_call (codeAny_call_builtin FB.ga.plain PySem.F.entry_bexc_ga ?_);refine @PySem.W.check_slot (model prog w) _ _ s "BaseException.__getattribute__" "BaseException" "__getattribute__" (.ref x) [.str name tk] [] _ (by decide +kernel) (by decide +kernel) isB (PySem.F.args_bexc_ga (.ref x) (.str name tk)) ?_;refine wpAny_mono h (fun fin s' z=>?_) fun _ _ z=>z.elim;rcases fin with(_ | _ | _ | _) | _<;>first | exact z | exact z.elim
theorem xget{dx:Addr}{ox:Obj}{mA:Str->Option Value}{name:Str}{v:Value}{expr:Bool}{Q:Value->Shared->Prop}(X:K.In s.heap)(c:XGet K C)(hn:PySem.W.findIn K (.ref C) name=some none)
  (hx:s.heap.get? x=some ox) (hc:ox.cls=.ref C) (hd:ox.dict=some dx) (hnc:PySem.W.notCls ox=true) (n:s.heap.Ns1 dx mA) (hv:mA name=some v) (hh:PySem.W.handedIn v=true) (h:Q v { s with toks:=s.toks+1 }) :
  wpAny (model prog w) A (getAttr (.ref x) name expr) Q E s:=by
 obtain⟨od,ho,hl⟩:=zks n;have J:PySem.W.InstAt s.heap x ox C (some od):=⟨hx,hc,hnc,by rw[hd];exact ho⟩;have L:=PySem.W.looks_find (M:=model prog w) X J (PySem.W.findObj_own c.hd hn rfl (by rw[hl,hv]));unfold getAttr;refine wpAny_bind (wpAny_mkText (z5t (s:={ s with toks:=s.toks+1 }) X c J ?_));unfold Builtin.«object.__getattribute__»;refine wpAny_bind (wpAny_pure (wpAny_bind (wpAny_pure (wpAny_bind (PySem.W.Looks.here (s:={ s with toks:=s.toks+1 }) J.type (wpAny_bind (PySem.W.Looks.here (s:={ s with toks:=s.toks+1 }) L ?_)))))));refine wpAny_pure ?_;show wpAny _ _ (handedOut v) _ _ _;rw[PySem.W.handedOut_of hh];exact wpAny_pure h
structure XKit(K:PySem.W.Frag)(C:Addr):Prop extends XGet K C where
 ha:PySem.W.findIn K (.ref C) "__class__" = some (some (.builtin "object.__class__"))
 hn:PySem.W.specialIn K (.builtin "object.__class__") "__get__" = some (some (.builtin "getset_descriptor.__get__"))
 htk:PySem.W.takesIn K (.builtin "object.__class__")=some true
 hm:PySem.W.mroIn K C (.type "object")=some true
theorem z5u{ox:Obj}{od:Option Obj}{Q:Option Value->Shared->Prop}(X:K.In s.heap)(c:XKit K C)(J:PySem.W.InstAt s.heap x ox C od)(h:Q (some (.ref C)) { s with toks:=s.toks+1 }) :
  wpAny (model prog w) A (getAttr? (.ref x) "__class__") Q E s:=by
 have fo:PySem.W.findObj K C od "__class__" = some (.bind (.builtin "getset_descriptor.__get__") (.builtin "object.__class__")):=by
  obtain⟨cd,hc,_⟩:=PySem.W.any_some c.hd;unfold PySem.W.findObj;rw[hc,Option.bind_some,c.ha,Option.bind_some];simp[c.hn,c.htk]
 have L:=PySem.W.looks_find (M:=model prog w) X J fo;unfold getAttr? getAttrBy?;refine wpAny_bind (wpAny_mkText (wpAny_bind (wpAny_attempt (z5t (s:={ s with toks:=s.toks+1 }) X c.toXGet J ?_))));unfold Builtin.«object.__getattribute__»;refine wpAny_bind (wpAny_pure (wpAny_bind (wpAny_pure (wpAny_bind (PySem.W.Looks.here (s:={ s with toks:=s.toks+1 }) J.type (wpAny_bind (PySem.W.Looks.here (s:={ s with toks:=s.toks+1 }) L ?_)))))));unfold bindTo;refine wpAny_bind (wpAny_holding (wpAny_call (PySem.W.class_get (s:={ s with toks:=s.toks+1 }) (ox:=ox) (od:=od) X J c.hm (wpAny_pure (PySem.W.handed_on rfl (wpAny_pure h))))))
theorem zzk{ox:Obj}{od:Option Obj}(c:XKit K C):PySem.W.KitX K (.ref x) (.ref C) (fun h=>PySem.W.InstAt h x ox C od) where
 ty:=fun _ _ _ I=>I.type
 it:=fun _ _ X _=>by
  obtain⟨cd,hc,_⟩:=PySem.W.any_some c.hd;unfold PySem.W.clsIn at hc
  split at hc
  case h_1 q=>
   intro A' Q' E' s' k z;unfold isType loadHead;exact wpAny_bind (wpAny_loadPart (k _ _ (X _ _ q)) (wpAny_pure z))
  case h_2=>cases hc
 ne:=fun h tp dd its n sl X htp=>by
  obtain⟨cd,hc,_⟩:=PySem.W.any_some c.hd;refine Bool.eq_false_iff.mpr fun w=>?_;obtain rfl:C=tp:=Value.ref.inj (beq_iff_eq.mp w);unfold PySem.W.clsIn at hc
  split at hc
  case h_1 q=>cases (X _ _ q).symm.trans htp
  case h_2=>cases hc
 ca:=fun X I k=>z5u X c I k
end
def excL(x C:Addr)(dx:Option Addr):HO:=.ext fun h=>∃o,h.get? x=some o/\o.cls=.ref C/\o.dict=dx/\PySem.W.notCls o=true
theorem z20{P:Program}{w:World}{H:Hp}{h:Heap}{x C:Addr}{dx:Option Addr}{o:Obj}(e:h.get? x=some o)(e1:o.cls=.ref C)(e2:o.dict=dx)(e3:PySem.W.notCls o=true):zc0 P w H h x (excL x C dx):=
 ⟨⟨o,e,e1,e2,e3⟩,⟨o,e⟩,fun _ _ z k=>let ⟨o,e,e1⟩:=z;⟨o,k _ e,e1⟩⟩
theorem zse{P:Program}{w:World}{H:Hp}{h:Heap}{x C:Addr}{dx:Option Addr}(ok:HOk P w H h)(e:H x=some (excL x C dx)):∃o,h.get? x=some o/\o.cls=.ref C/\o.dict=dx/\PySem.W.notCls o=true:=(ok x _ e).1
def goes(i:Nat)(D:Ends):Ends:={ nx:=fun σ H=>D.nx (σ.set i none) H,bk:=fun σ H=>D.bk (σ.set i none) H,ct:=fun σ H=>D.ct (σ.set i none) H,rt:=D.rt }
def z5v(K:PySem.W.Frag)(D:Addr)(i:Nat)(ts:TS)(tr:THd):THd:=fun cls dx ea En σ H=>∃C bmC,cls=.ref C/\zd1 K C=some bmC /\
 if(Value.ref C::bmC).contains (.ref D)=true then(H ea=none->ts (goes i En) (σ.set i (some (.ref ea))) (upd H ea (excL ea C dx))) else tr cls dx ea En σ H
section
variable {X:Cx}
theorem zsf{es:Array DictEntry}(sk:StrKeys es){oc:Value}{od:Option Addr}{ep:Nat}{osl:Array (Option Value)}(y:Str):nsLookByArray y ⟨oc,od,.dict es ep,osl⟩=pure (nsFind es y):=by
 unfold nsLookByArray nsFind findBy;dsimp only;cases q:es.find? (fun e=>e.key.isStr y) with
 |some en=>rfl
 | none=>
   have noref:(es.any fun e=>e.refKey)=false:=by
    rw[Array.any_eq_false'];intro en hen;obtain⟨_,_,z⟩:=sk en hen;simp[DictEntry.refKey,z]
   dsimp only;rw[noref];rfl
theorem zt1{M:Model}{A:Around}{E:Value->Shared->Prop}{s:Shared}{a:Addr}{m:Str->Option Value}{name:Str}{u:Value}{Q:Bool->Shared->Prop}(hn:s.heap.Ns a m)(hu:m name=some u)
  (hQ:∀h' m',h'.Ns a m'->(∀y,y≠name->m' y=m y)->Heap.SameBut a s.heap h'->Q true { s with heap:=h' }):wpAny M A (nsDel a name) Q E s:=by
 obtain⟨o,es,ep,ho,hd,sk,look⟩:=hn;obtain⟨en,gen,_⟩:=Option.map_eq_some_iff.mp (show(es.find? fun e=>e.key.isStr name).map (·.val)=some u from(look name).trans hu);have gk:en.key.isStr name=true:=by
  have:=Array.find?_some (p:=fun e:DictEntry=>e.key.isStr name) gen;exact this
 have isIn:(es.any fun e=>e.key.isStr name)=true:=Array.any_eq_true'.mpr ⟨en,Array.mem_of_find?_eq_some gen,gk⟩;obtain⟨j,hj⟩:∃j,es.findIdx? (fun e=>e.key.isStr name)=some j:=by
  cases q:es.findIdx? (fun e=>e.key.isStr name) with
  |some j=>exact⟨j,rfl⟩
  | none=>
    have:=(Array.findIdx?_eq_none_iff.mp q) en (Array.mem_of_find?_eq_some gen);rw[gk] at this;cases this
 have has:nsHas name o=pure true:=by
  rw[nsHas_eq];unfold nsHasByArray;rw[hd];show(if(es.any fun e=>e.key.isStr name)=true then _ else _)=_;rw[isIn];rfl
 unfold nsDel;refine wpAny_bind (wpAny_loadPart ho ?_);rw[has];refine wpAny_bind (wpAny_pure (wpAny_bind (wpAny_updatePart ho (wpAny_pure ?_))));obtain⟨oc,od,odt,osl⟩:=o;have hd:odt=.dict es ep:=hd;subst hd;have e1:Obj.dropName name ⟨oc,od,.dict es ep,osl⟩=⟨oc,od,.dict (es.eraseIdxIfInBounds j) (ep+1),osl⟩:=by rw[Obj.dropName_eq];simp only[Obj.dropNameByArray,hj]
 have sk2:=sk.erase j;refine hQ _ (nsFind (es.eraseIdxIfInBounds j)) ⟨_,_,_,Heap.get?_update_self _ ho (by rw[e1];rfl),by rw[e1],sk2,fun _=>rfl⟩ (fun y hy=>?_) (Heap.SameBut.update ..);have l1:=nsLook_dropName hy ⟨oc,od,.dict es ep,osl⟩;rw[e1,nsLook_eq,zsf sk2,zsf sk] at l1;have l2:nsFind (es.eraseIdxIfInBounds j) y=nsFind es y:=by injection l1
 rw[l2,look]
theorem Inv.gone{pins:List (Addr×Obj)}{σ:St}{H:Hp}{s:Shared}{i:Nat}{x:Str}{h':Heap}{t':Nat}{m m':Str->Option Value}(I:Inv X pins σ H s)(hN:X.N.Nodup)(hi:X.N[i]?=some x)(hk:∀u:V,X.kn[i]?≠some (some u))
  (hm:∀(j:Nat) (y:Str) (v:V),X.N[j]?=some y->σ[j]?=some (some v)->Vis X.env.scope y->∃u,RelV v u/\Look X.env s.heap m y u)
  (hn:h'.Ns X.env.locals m') (oth:∀y,y≠x->m' y=m y) (sb:Heap.SameBut X.env.locals s.heap h'):Inv X pins (σ.set i none) H { s with heap:=h',toks:=t' }:=by
 have hL:∀b o,X.s₀.heap.get? b=some o->b≠X.env.locals:=fun b o e=>Nat.ne_of_lt (Nat.lt_of_lt_of_le (Heap.lt_size e) I.ok.above);have hiσ:i < σ.length:=by rw[I.len];exact(List.getElem?_eq_some_iff.mp hi).1
 refine⟨I.ok,I.os,I.bare,⟨fun b o e n hb hx=>(sb.2 b (hL b o e)).trans (I.base.keep b o e n hb hx),fun b o e n hb hx=>?_,I.base.free,fun b o e hx=>?_,I.base.tups,I.base.frzs,I.base.tbls⟩,⟨m',hn,fun j y v e1 e2 e3=>?_⟩,fun y c e=>?_,I.free,I.freeC,fun p hp=>?_,fun b ob e=>?_,?_,fun j v e=>?_⟩
 ·obtain⟨sl,e1⟩:=I.base.slot b o e n hb hx
  exact⟨sl,(sb.2 b (hL b o e)).trans e1⟩
 ·obtain⟨o',e1⟩:=I.base.there b o e hx
  exact⟨o',(sb.2 b (hL b o e)).trans e1⟩
 ·by_cases hj:j=i
  ·subst hj
   rw[List.getElem?_set_self hiσ] at e2;cases e2
  ·rw[List.getElem?_set_ne (Ne.symm hj)] at e2
   obtain⟨u',r',q⟩:=hm j y v e1 e2 e3;refine⟨u',r',?_⟩;rcases q with⟨k,e⟩ | ⟨k,c,e,z⟩
   ·exact .inl ⟨k,by rw[oth y fun w=>hj (zm8 hN e1 (w▸hi))];exact e⟩
   ·exact .inr ⟨k,c,e,z.sameBut sb (I.cne y c e)⟩
 ·obtain⟨w',z⟩:=I.cell y c e
  exact⟨w',z.sameBut sb (I.cne y c e)⟩
 ·obtain⟨e,n,ne,nf,d⟩:=I.pin p hp
  exact⟨(sb.2 p.1 ne).trans e,n,ne,nf,d⟩
 ·refine(I.hok b ob e).stay (fun c w' hc q=>(sb.2 c ?_).trans q) (fun _ q=>q) fun _ _ q=>q
  rintro rfl;rcases hc with z | z
  ·rw[<- z,I.free] at e;cases e
  ·rw[I.free] at z;cases z
 ·show(σ.set i none).length=_
  rw[List.length_set];exact I.len
 ·by_cases hj:j=i
  ·subst hj;exact absurd e (hk v)
  ·rw[List.getElem?_set_ne (Ne.symm hj)];exact I.kn j v e
theorem zis{pins:List (Addr×Obj)}{σ:St}{H:Hp}{s:Shared}{A:Around}{E:Value->Shared->Prop}{i:Nat}{x:Str}{pos:Pos}{Q:Unit->Shared->Prop}(I:Inv X pins σ H s)(hN:X.N.Nodup)(hi:X.N[i]?=some x)(hx:X.env.scope.names.lookup x=some .local)(hk:∀u:V,X.kn[i]?≠some (some u))
  (h:∀s',Inv X pins (σ.set i none) H s'->Q () s'):wpAny (model X.prog X.w) A (do bindName X.env x .none;unbindBehindTheSuite X.env x pos) Q E s:=by
 have nocls:(X.env.scope.kind==.class || (X.env.scope.kind==.module&&X.env.locals != X.env.globals))=false:=by rw[I.ok.kind];rfl
 have kx:X.env.kindOf x=some .local:=hx;have hiσ:i < σ.length:=by rw[I.len];exact(List.getElem?_eq_some_iff.mp hi).1
 refine wpAny_bind (wpAny_bindName (zke (v:=.non) I hN hi (.inl hx) rfl (fun s1 I1=>?_) (.inr hx) hk));obtain⟨m,hn,hl⟩:=id I1.loc;obtain⟨u,_,lk⟩:=hl i x .non hi (List.getElem?_set_self hiσ) (.inl hx);have hu:m x=some u:=by
  rcases lk with⟨_,z⟩ | ⟨z,_⟩
  ·exact z
  ·rw[kx] at z;rcases z with z | z<;>cases z
 unfold unbindBehindTheSuite unbindName deleteName;refine wpAny_onRaise (wpAny_bind (wpAny_point (wpAny_bind ?_)));simp only[kx,nocls];rw[if_neg (by decide)];refine wpAny_bind (zt1 hn hu fun h' m' hn' oth sb=>?_);simp only[Bool.not_true,Bool.false_eq_true,if_false];refine wpAny_pure (wpAny_point ?_);have I2:=I1.gone (t':=s1.toks) hN hi hk hl hn' oth sb;rw[List.set_set] at I2;exact h _ I2
theorem zzl{D:Addr}{bmD:List Value}{i:Nat}{x n:Str}{np pos:Pos}{b₀:Stmt}{suite:List Stmt}{rest:List ExceptHandler}{ts:TS}{tr:THd}(hg:Gl X x)(hm:X.mg x=some (.ref D))(qD:zd1 X.K D=some bmD)(hN:X.N.Nodup)(hi:X.N[i]?=some n)(hx:X.env.scope.names.lookup n=some .local)(hk:∀u:V,X.kn[i]?≠some (some u))
  (hs:∀ea,PSs (X.inExc ea) (b₀::suite) ts) (hr:PH X rest tr) (hdb:(x==("__debug__" : Str))=false:=by decide) :
  PH X (.ExceptHandler (some (.Name x np)) (some n) (b₀::suite) pos::rest) (z5v X.K D i ts tr):=by
 intro pins s σ H En ea cls a0 dx B ok car car2 fly hd h;obtain⟨C,bmC,rfl,qC,h⟩:=h;have I:Inv X pins σ H s:=car s.heap fly.1 (.refl _);have I':=I.inExc ea;obtain⟨oe,hoe,hoc⟩:=fly.there;refine wpAny_handleBy_cons (codeAny_handlers_test ?_) (by intro q;cases q);refine zhd (X:=X.inExc ea) I' hg hm ?_ hdb;refine zlz I.kIn qC qD hoe hoc ?_;cases c:(Value.ref C::bmC).contains (.ref D) with
 | false=>
   rw[c] at h;exact hr pins s σ H En ea _ a0 dx B ok car car2 fly hd (by simpa using h)
 | true=>
   rw[c] at h;have h:H ea=none->ts (goes i En) (σ.set i (some (.ref ea))) (upd H ea (excL ea C dx)):=by simpa using h
   refine codeAny_handlers_suite_as ?_;refine wpAny_mono (zmm zky hd.1 (lands_againW (Q:=fun _ s2=>∃h6,s2={ s with heap:=h6 }/\Heap.FlyingW B X.stack ea (.ref C) a0 h6/\Heap.UpToSlots s.heap h6) fly fun h6 fly6 sm6=>⟨h6,rfl,fly6,sm6⟩)) (fun _ s2 z=>?_) fun _ _ z=>z.1;obtain⟨⟨h6,rfl,fly6,sm6⟩,oh,go,gd⟩:=z;obtain⟨o1,vs1,g1,g2,g3,_⟩:=fly6.first
   have go:h6.get? ea=some oh:=go;rw[g1] at go;cases go;have I6:Inv X pins σ (upd H ea (excL ea C dx)) { s with heap:=h6 }:=car2 h6 _ fly6.1 sm6 (z20 g1 g2 gd (by unfold PySem.W.notCls;rw[g3]));refine zke (X:=X.inExc ea) (v:=.ref ea) (I6.inExc ea) hN hi (.inl hx) rfl (fun s3 I3=>?_) (.inr hx) hk;refine wpAny_mono (hs ea pins s3 _ _ (goes i En) I3 (h hd.2)) (fun f s4 q=>?_) fun _ _ z=>z.elim;cases f with
   |next=>obtain⟨a,b,c,d⟩:=q;exact zis (c.outExc ok) hN hi hx hk fun s5 I5=>⟨_,_,I5,d⟩
   |brk=>obtain⟨a,b,c,d⟩:=q;exact zis (c.outExc ok) hN hi hx hk fun s5 I5=>⟨_,_,I5,d⟩
   |cont=>obtain⟨a,b,c,d⟩:=q;exact zis (c.outExc ok) hN hi hx hk fun s5 I5=>⟨_,_,I5,d⟩
   |ret u=>obtain⟨v,a,b,c,r,d⟩:=q;exact zis (c.outExc ok) hN hi hx hk fun s5 I5=>⟨v,_,_,I5,r,d⟩
variable {e:Expr}{f:Str}{pos:Pos}{ta:TE}
def tXat(K:PySem.W.Frag)(ta:TE)(f:Str):TE:=fun σ H Q=>ta σ H fun x H1=>∃a C d fs v,x=.ref a/\H1 a=some (excL a C (some d))/\XGet K C/\PySem.W.findIn K (.ref C) f=some none/\H1 d=some (.xd fs)/\fs.lookup f=some v/\Q v H1
theorem z5w(he:PE X e ta)(hb:attributeBase e f X.env (eval e X.env)=eval e X.env):PE X (.Attribute e f pos) (tXat X.K ta f):=by
 intro pins s σ H Q I h;refine zu7 hb (thn (he pins s σ H _ I h) fun u s1 hq_=>?_);obtain⟨x,H1,I1,rx,a,C,d,fs,v,ex,ea,c,n,ed,l,q⟩:=hq_;subst ex;obtain rfl:u=Value.ref a:=rx;obtain⟨o,g1,g2,g3,g4⟩:=zse I1.hok ea;obtain⟨mA,n1,r⟩:=I1.hok d _ ed;obtain⟨u',hu,ru⟩:=RelO.some_of (v:=v) (o:=mA f) (by rw[<- l];exact r f);exact xget I1.kIn c n g1 g2 g3 g4 n1 hu (zom ru) ⟨v,H1,I1.tok _,ru,q⟩
theorem zmr:zh7 X (.builtin "isinstance") (fun xs H Q=>∃a C dx c cu b,xs=[.ref a,c]/\(∀u,RelV c u->u=cu)/\H a=some (excL a C dx)/\XKit X.K C/\PySem.W.kitOne X.K (.ref C) cu=some b/\(∀d,dx=some d->∃fs,H d=some (.xd fs))/\Q (.bl b) H):=by
 intro pins s σ H xs us Q I r h;obtain⟨a,C,dx,c,cu,b,rfl,hu,ea,k,e,hdx,q⟩:=h;obtain⟨u,w',rfl,rx,rc⟩:=z45 r;cases hu w' rc;cases (show u=Value.ref a from rx);obtain⟨o,g1,g2,g3,g4⟩:=zse I.hok ea;have J:∃od,PySem.W.InstAt s.heap a o C od:=by
  cases dx with
  |none=>exact⟨none,g1,g2,g4,by rw[g3];trivial⟩
  | some d=>
    obtain⟨fs,ed⟩:=hdx d rfl;obtain⟨od,ho⟩:=(I.hok d _ ed).there;exact⟨some od,g1,g2,g4,by rw[g3];exact ho⟩
 obtain⟨od,J⟩:=J;exact PySem.W.kia_one (zzk k) I.kIn J e (fun z=>nomatch z) fun tk=>⟨.bl b,H,I.tok tk,rfl,q⟩
end
end L2
namespace MF
open PySem L2
inductive T where
 |non | bl (b:Bool) | int (i:Int) | str (x:Str) | lst (ts:List T) | tup (ts:List T) | dic (kvs:List (Key×T)) | obj (k:Nat)
inductive Cell where
 |lst (ts:List T) | dic (kvs:List (Key×T)) | ins (C:Addr) (fs:List (Str×T)) | exc (C:Addr) (fs:Option (List (Str×T))) | lck (kvs:List (Key×T))
abbrev Sto:=List Cell
structure Wd where
 HS:Hp
 μ:Nat->Addr
 n:Nat
 Z:Addr->Option (Obj×HO)
 P:Hp
structure Wd.le(W W':Wd):Prop where
 hs:∀a o,W.HS a=some o->W'.HS a=some o
 z:∀a o,W.Z a=some o->W'.Z a=some o
 p:∀a o,W.P a=some o->W'.P a=some o
 n:W.n<=W'.n
 μ:∀k,k<W.n->W'.μ k=W.μ k
theorem Wd.le.refl(W:Wd):W.le W:=⟨fun _ _ h=>h,fun _ _ h=>h,fun _ _ h=>h,Nat.le_refl _,fun _ _=>rfl⟩
theorem Wd.le.trans{W W1 W2:Wd}(a:W.le W1)(b:W1.le W2):W.le W2:=
 ⟨fun x o h=>b.hs x o (a.hs x o h),fun x o h=>b.z x o (a.z x o h),fun x o h=>b.p x o (a.p x o h),Nat.le_trans a.n b.n,fun k h=>(b.μ k (Nat.lt_of_lt_of_le h a.n)).trans (a.μ k h)⟩
mutual
def Den(W:Wd):T->V->Prop
 |.non,v=>v=.non
 |.bl b,v=>v=.bl b
 |.int i,v=>v=.int i
 |.str x,v=>v=.str x
 |.lst ts,v=>∃a vs,v=.ref a/\W.HS a=some (.lst vs)/\Dens W ts vs
 |.tup ts,v=>∃a vs,v=.ref a/\W.HS a=some (.tup vs)/\Dens W ts vs
 |.dic kvs,v=>∃a ks,v=.ref a/\W.HS a=some (.dK ks)/\DenK W kvs ks
 |.obj k,v=>v=.ref (W.μ k)/\k<W.n
def Dens(W:Wd):List T->List V->Prop
 |[],vs=>vs=[]
 |t::ts,vs=>∃v r,vs=v::r/\Den W t v/\Dens W ts r
def DenK(W:Wd):List (Key×T)->List (Key×V)->Prop
 |[],vs=>vs=[]
 |(k,t)::ts,vs=>∃v r,vs=(k,v)::r/\Den W t v/\DenK W ts r
end
mutual
theorem Den.mono{W W':Wd}(l:W.le W'):∀(t:T) (v:V),Den W t v->Den W' t v
 |.non,_,h=>by simpa[Den] using h
 |.bl _,_,h=>by simpa[Den] using h
 |.int _,_,h=>by simpa[Den] using h
 |.str _,_,h=>by simpa[Den] using h
 | .lst ts,v,h=>by
   obtain⟨a,vs,e,h1,h2⟩:=(by simpa only[Den] using h:∃a vs,v=.ref a/\W.HS a=some (.lst vs)/\Dens W ts vs);simp only[Den];exact⟨a,vs,e,l.hs _ _ h1,Dens.mono l ts vs h2⟩
 | .tup ts,v,h=>by
   obtain⟨a,vs,e,h1,h2⟩:=(by simpa only[Den] using h:∃a vs,v=.ref a/\W.HS a=some (.tup vs)/\Dens W ts vs);simp only[Den];exact⟨a,vs,e,l.hs _ _ h1,Dens.mono l ts vs h2⟩
 | .dic ks,v,h=>by
   obtain⟨a,vs,e,h1,h2⟩:=(by simpa only[Den] using h:∃a vs,v=.ref a/\W.HS a=some (.dK vs)/\DenK W ks vs);simp only[Den];exact⟨a,vs,e,l.hs _ _ h1,DenK.mono l ks vs h2⟩
 | .obj k,v,h=>by
   obtain⟨e,h1⟩:=(by simpa only[Den] using h:v=.ref (W.μ k)/\k<W.n);simp only[Den];exact⟨by rw[l.μ k h1];exact e,Nat.lt_of_lt_of_le h1 l.n⟩
theorem Dens.mono{W W':Wd}(l:W.le W'):∀(ts:List T) (vs:List V),Dens W ts vs->Dens W' ts vs
 |[],vs,h=>by simpa only[Dens] using h
 | t::ts,vs,h=>by
   obtain⟨v,r,e,h1,h2⟩:=(by simpa only[Dens] using h:∃v r,vs=v::r/\Den W t v/\Dens W ts r);simp only[Dens];exact⟨v,r,e,Den.mono l t v h1,Dens.mono l ts r h2⟩
theorem DenK.mono{W W':Wd}(l:W.le W'):∀(ts:List (Key×T)) (vs:List (Key×V)),DenK W ts vs->DenK W' ts vs
 |[],vs,h=>by simpa only[DenK] using h
 | (k,t)::ts,vs,h=>by
   obtain⟨v,r,e,h1,h2⟩:=(by simpa only[DenK] using h:∃v r,vs=(k,v)::r/\Den W t v/\DenK W ts r);simp only[DenK];exact⟨v,r,e,Den.mono l t v h1,DenK.mono l ts r h2⟩
end
section
variable {W:Wd}
theorem zcl{v:V}:Den W .non v↔v=.non:=by simp only[Den]
theorem zbb{b:Bool}{v:V}:Den W (.bl b) v↔v=.bl b:=by simp only[Den]
theorem zat{i:Int}{v:V}:Den W (.int i) v↔v=.int i:=by simp only[Den]
theorem zbg{x:Str}{v:V}:Den W (.str x) v↔v=.str x:=by simp only[Den]
theorem zds{ts:List T}{v:V}:Den W (.lst ts) v↔∃a vs,v=.ref a/\W.HS a=some (.lst vs)/\Dens W ts vs:=by simp only[Den]
theorem zdt{ts:List T}{v:V}:Den W (.tup ts) v↔∃a vs,v=.ref a/\W.HS a=some (.tup vs)/\Dens W ts vs:=by simp only[Den]
theorem zgj{ts:List (Key×T)}{v:V}:Den W (.dic ts) v↔∃a vs,v=.ref a/\W.HS a=some (.dK vs)/\DenK W ts vs:=by simp only[Den]
theorem zbn{k:Nat}{v:V}:Den W (.obj k) v↔v=.ref (W.μ k)/\k<W.n:=by simp only[Den]
theorem zbl{vs:List V}:Dens W [] vs↔vs=[]:=by simp only[Dens]
theorem za1{t:T}{ts:List T}{vs:List V}:Dens W (t::ts) vs↔∃v r,vs=v::r/\Den W t v/\Dens W ts r:=by simp only[Dens]
theorem zcm{vs:List (Key×V)}:DenK W [] vs↔vs=[]:=by simp only[DenK]
theorem zb7{k:Key}{t:T}{ts:List (Key×T)}{vs:List (Key×V)}:DenK W ((k,t)::ts) vs↔∃v r,vs=(k,v)::r/\Den W t v/\DenK W ts r:=by simp only[DenK]
theorem Dens.nil':Dens W [] []:=zbl.mpr rfl
theorem Dens.cons'{t:T}{ts:List T}{v:V}{vs:List V}(h:Den W t v)(r:Dens W ts vs):Dens W (t::ts) (v::vs):=za1.mpr ⟨v,vs,rfl,h,r⟩
theorem Dens.length:∀{ts:List T} {vs:List V},Dens W ts vs->ts.length=vs.length
 |[],vs,h=>by rw[zbl.mp h];rfl
 | t::ts,vs,h=>by
   obtain⟨v,r,e,_,h2⟩:=za1.mp h;subst e;simp[Dens.length h2]
theorem Dens.get:∀{ts:List T} {vs:List V} {i:Nat} {t:T},Dens W ts vs->ts[i]?=some t->∃v,vs[i]?=some v/\Den W t v
 |[],_,_,_,_,e=>by simp at e
 | t0::ts,vs,i,t,h,e=>by
   obtain⟨v,r,rfl,h1,h2⟩:=za1.mp h;cases i with
   |zero=>simp at e;subst e;exact⟨v,rfl,h1⟩
   | succ i=>
     obtain⟨v',e1,e2⟩:=Dens.get (i:=i) h2 (by simpa using e);exact⟨v',by simpa using e1,e2⟩
theorem Dens.get':∀{ts:List T} {vs:List V} {i:Nat} {v:V},Dens W ts vs->vs[i]?=some v->∃t,ts[i]?=some t/\Den W t v
 |[],_,_,_,h,e=>by rw[zbl.mp h] at e;simp at e
 | t0::ts,vs,i,v',h,e=>by
   obtain⟨v,r,rfl,h1,h2⟩:=za1.mp h;cases i with
   |zero=>simp at e;subst e;exact⟨t0,rfl,h1⟩
   | succ i=>
     obtain⟨t,e1,e2⟩:=Dens.get' (i:=i) h2 (by simpa using e);exact⟨t,by simpa using e1,e2⟩
theorem Dens.append:∀{ts us:List T} {vs ws:List V},Dens W ts vs->Dens W us ws->Dens W (ts++us) (vs++ws)
 |[],_,_,_,h,g=>by rw[zbl.mp h];exact g
 | t::ts,us,vs,ws,h,g=>by
   obtain⟨v,r,rfl,h1,h2⟩:=za1.mp h;exact Dens.cons' h1 (Dens.append h2 g)
theorem Dens.set{t:T}{v:V}(hv:Den W t v):∀{ts:List T} {vs:List V} (i:Nat),Dens W ts vs->Dens W (ts.set i t) (vs.set i v)
 |[],_,_,h=>by rw[zbl.mp h];exact Dens.nil'
 | t::ts,vs,i,h=>by
   obtain⟨v,r,rfl,h1,h2⟩:=za1.mp h;cases i with
   |zero=>exact Dens.cons' hv h2
   |succ i=>exact Dens.cons' h1 (Dens.set hv i h2)
theorem Dens.take:∀{ts:List T} {vs:List V} (i:Nat),Dens W ts vs->Dens W (ts.take i) (vs.take i)
 |ts,vs,0,_=>by simpa using Dens.nil'
 |[],_,_,h=>by rw[zbl.mp h];simpa using Dens.nil'
 | t::ts,vs,i+1,h=>by
   obtain⟨v,r,rfl,h1,h2⟩:=za1.mp h;exact Dens.cons' h1 (Dens.take i h2)
theorem Dens.drop:∀{ts:List T} {vs:List V} (i:Nat),Dens W ts vs->Dens W (ts.drop i) (vs.drop i)
 |ts,vs,0,h=>by simpa using h
 |[],_,_,h=>by rw[zbl.mp h];simpa using Dens.nil'
 | t::ts,vs,i+1,h=>by
   obtain⟨v,r,rfl,h1,h2⟩:=za1.mp h;simpa using Dens.drop i h2
theorem Dens.eraseIdx:∀{ts:List T} {vs:List V} (i:Nat),Dens W ts vs->Dens W (ts.eraseIdx i) (vs.eraseIdx i)
 |[],_,_,h=>by rw[zbl.mp h];simpa using Dens.nil'
 | t::ts,vs,i,h=>by
   obtain⟨v,r,rfl,h1,h2⟩:=za1.mp h;cases i with
   |zero=>exact h2
   |succ i=>exact Dens.cons' h1 (Dens.eraseIdx i h2)
theorem DenK.length:∀{ts:List (Key×T)} {vs:List (Key×V)},DenK W ts vs->ts.length=vs.length
 |[],vs,h=>by rw[zcm.mp h];rfl
 | (k,t)::ts,vs,h=>by
   obtain⟨v,r,e,_,h2⟩:=zb7.mp h;subst e;simp[DenK.length h2]
theorem DenK.nil':DenK W [] []:=zcm.mpr rfl
theorem DenK.cons'{k:Key}{t:T}{ts:List (Key×T)}{v:V}{vs:List (Key×V)}(h:Den W t v)(r:DenK W ts vs):DenK W ((k,t)::ts) ((k,v)::vs):=zb7.mpr ⟨v,vs,rfl,h,r⟩
end
def DenF(W:Wd):List (Str×T)->List (Str×V)->Prop
 |[],vs=>vs=[]
 |(k,t)::ts,vs=>∃v r,vs=(k,v)::r/\Den W t v/\DenF W ts r
theorem DenF.mono{W W':Wd}(l:W.le W'):∀{ts:List (Str×T)} {vs:List (Str×V)},DenF W ts vs->DenF W' ts vs
 |[],_,h=>h
 | (k,t)::ts,vs,h=>by
   obtain⟨v,r,e,h1,h2⟩:=h;exact⟨v,r,e,Den.mono l _ _ h1,DenF.mono l h2⟩
theorem DenF.length{W:Wd}:∀{ts:List (Str×T)} {vs:List (Str×V)},DenF W ts vs->ts.length=vs.length
 |[],_,h=>by rw[show _=[] from h];rfl
 | (k,t)::ts,vs,h=>by
   obtain⟨v,r,rfl,h1,h2⟩:=h;simp[DenF.length h2]
def XP(W:Wd):Option Addr->Option (List (Str×T))->Prop
 |none,none=>True
 |some d,some fs=>∃ks,W.P d=some (.xd ks)/\DenF W fs ks
 |_,_=>False
theorem XP.mono{W W':Wd}(l:W.le W'):∀{dx:Option Addr} {fs:Option (List (Str×T))},XP W dx fs->XP W' dx fs
 |none,none,_=>trivial
 |some _,some _,⟨ks,h1,h2⟩=>⟨ks,l.p _ _ h1,DenF.mono l h2⟩
 |none,some _,h=>h.elim
 |some _,none,h=>h.elim
def zbu(W:Wd)(H:Hp)(a:Addr):Cell->Prop
 |.lst ts=>∃vs,H a=some (.lst vs)/\Dens W ts vs
 |.dic kvs=>∃ks,H a=some (.dK ks)/\DenK W kvs ks
 |.ins C fs=>∃dx ks,H a=some (.ins C dx ks)/\DenF W fs ks
 |.exc C fs=>∃dx,H a=some (excL a C dx)/\XP W dx fs
 |.lck kvs=>∃o ks,H a=some (.frz o (.dK ks))/\DenK W kvs ks
theorem zbu.mono{W W':Wd}(l:W.le W'){H:Hp}{a:Addr}:∀{c:Cell},zbu W H a c->zbu W' H a c
 |.lst ts,⟨vs,h1,h2⟩=>⟨vs,h1,Dens.mono l _ _ h2⟩
 |.dic ts,⟨vs,h1,h2⟩=>⟨vs,h1,DenK.mono l _ _ h2⟩
 |.ins C ts,⟨dx,vs,h1,h2⟩=>⟨dx,vs,h1,DenF.mono l h2⟩
 |.exc C fs,⟨dx,h1,h2⟩=>⟨dx,h1,h2.mono l⟩
 |.lck ts,⟨o,vs,h1,h2⟩=>⟨o,vs,h1,DenK.mono l _ _ h2⟩
theorem zbu.at{W:Wd}{H H':Hp}{a:Addr}(e:H' a=H a):∀{c:Cell},zbu W H a c->zbu W H' a c
 |.lst ts,⟨vs,h1,h2⟩=>⟨vs,e.trans h1,h2⟩
 |.dic ts,⟨vs,h1,h2⟩=>⟨vs,e.trans h1,h2⟩
 |.ins C ts,⟨dx,vs,h1,h2⟩=>⟨dx,vs,e.trans h1,h2⟩
 |.exc C ts,⟨dx,h1,h2⟩=>⟨dx,e.trans h1,h2⟩
 |.lck ts,⟨o,vs,h1,h2⟩=>⟨o,vs,e.trans h1,h2⟩
theorem zbu.some{W:Wd}{H:Hp}{a:Addr}:∀{c:Cell},zbu W H a c->∃o,H a=some o/\∀y,o≠.own y
 |.lst ts,⟨vs,h1,h2⟩=>⟨_,h1,(by intro _ z;cases z)⟩
 |.dic ts,⟨vs,h1,h2⟩=>⟨_,h1,(by intro _ z;cases z)⟩
 |.ins C ts,⟨dx,vs,h1,h2⟩=>⟨_,h1,(by intro _ z;cases z)⟩
 |.exc C ts,⟨dx,h1,h2⟩=>⟨_,h1,(by intro _ z;cases z)⟩
 |.lck ts,⟨o,vs,h1,h2⟩=>⟨_,h1,(by intro _ z;cases z)⟩
def zzm:HO->Prop
 |.frz _ _=>False
 |_=>True
def RdX(H:Hp)(a:Addr)(o:HO):Prop:=H a=some o\/((∃q,H a=some (.frz q o))/\∀xs,o≠.tup xs)
theorem RdX.rd{H:Hp}{a:Addr}{o:HO}(h:RdX H a o):Rd H a o:=by
 rcases h with h | ⟨h,_⟩
 ·exact .inl h
 ·exact .inr h
theorem RdX.ex{H:Hp}{a:Addr}{o:HO}(h:RdX H a o):∃u,H a=some u:=by
 rcases h with h | ⟨⟨q,h⟩,_⟩
 ·exact⟨_,h⟩
 ·exact⟨_,h⟩
theorem RdX.at{H H':Hp}{a:Addr}{o:HO}(e:H' a=H a)(h:RdX H a o):RdX H' a o:=by
 rcases h with h | ⟨⟨q,h⟩,n⟩
 ·exact .inl (e.trans h)
 ·exact .inr ⟨⟨q,e.trans h⟩,n⟩
theorem RdX.tup{H:Hp}{a:Addr}{xs:List V}(h:RdX H a (.tup xs)):H a=some (.tup xs):=by
 rcases h with h | ⟨_,n⟩
 ·exact h
 ·exact absurd rfl (n xs)
structure Rep(W:Wd)(S:Sto)(H:Hp):Prop where
 sub:∀a o,W.HS a=some o->RdX H a o/\zzm o
 len:S.length=W.n
 cell:∀k c,S[k]?=some c->zbu W H (W.μ k) c/\W.HS (W.μ k)=none
 inj:∀j k,j<W.n->k<W.n->W.μ j=W.μ k->j=k
 zed:∀a q,W.Z a=some q->H a=some (.frz q.1 q.2)
 prv:∀a o,W.P a=some o->H a=some o/\W.HS a=none/\∀k,k<W.n->W.μ k≠a
theorem Rep.lt{W:Wd}{S:Sto}{H:Hp}(r:Rep W S H){k:Nat}{c:Cell}(h:S[k]?=some c):k<W.n:=by
 rw[<- r.len];exact(List.getElem?_eq_some_iff.mp h).1
inductive R(α:Type) where
 |ok (a:α) (S:Sto)
 |exc (C:Addr) (fs:Option (List (Str×T))) (S:Sto)
 |bad
abbrev M(α:Type):=Sto->R α
def M.pure{α:Type}(a:α):M α:=fun S=>.ok a S
def M.bind{α β:Type}(m:M α)(f:α->M β):M β:=fun S=>match m S with
 |.ok a S'=>f a S'
 |.exc C fs S'=>.exc C fs S'
 |.bad=>.bad
def M.bad{α:Type}:M α:=fun _=>.bad
def M.raise{α:Type}(C:Addr)(fs:Option (List (Str×T))):M α:=fun S=>.exc C fs S
def XOk(W:Wd)(H:Hp):Option Addr->Option (List (Str×T))->Prop
 |none,none=>True
 |some d,some fs=>∃ks,H d=some (.xd ks)/\W.HS d=none/\DenF W fs ks
 |_,_=>False
def Post{α:Type}(E:XK)(W:Wd)(Q:α->Wd->Sto->Hp->Prop):R α->Prop
 |.ok a S'=>∀W' H',W.le W'->Rep W' S' H'->Q a W' S' H'
 |.exc C fs S'=>∀W' H' dx,W.le W'->Rep W' S' H'->XOk W' H' dx fs->E (.ref C) dx H'
 |.bad=>False
theorem Post.imp{α:Type}{E:XK}{W:Wd}{Q Q':α->Wd->Sto->Hp->Prop}{r:R α}(h:Post E W Q r)(f:∀a W' S' H',W.le W'->Rep W' S' H'->Q a W' S' H'->Q' a W' S' H'):Post E W Q' r:=by
 cases r with
 |ok a S=>exact fun W' H' l rp=>f a W' S H' l rp (h W' H' l rp)
 |exc C fs S=>exact h
 |bad=>exact h
theorem Post.bind{α β:Type}{E:XK}{W:Wd}{Q:β->Wd->Sto->Hp->Prop}{m:M α}{f:α->M β}{S:Sto}(h:Post E W Q (M.bind m f S)) :
  Post E W (fun a W1 S1 _=>Post E W1 Q (f a S1)) (m S):=by
 unfold M.bind at h;cases e:m S with
 | ok a S1=>
   rw[e] at h;have h:Post E W Q (f a S1):=h;intro W1 H1 l _;show Post E W1 Q (f a S1);cases e2:f a S1 with
   |ok b S2=>rw[e2] at h;exact fun W2 H2 l2 rp=>h W2 H2 (l.trans l2) rp
   |exc C fs S2=>rw[e2] at h;exact fun W2 H2 dx l2 rp=>h W2 H2 dx (l.trans l2) rp
   |bad=>rw[e2] at h;exact h
 |exc C fs S1=>rw[e] at h;exact h
 |bad=>rw[e] at h;exact h
abbrev Ev:=List (Option T)
def zo6(W:Wd):Option T->Option V->Prop
 |none,_=>True
 |some t,some v=>Den W t v
 |some _,none=>False
def za6(W:Wd):Ev->St->Prop
 |[],σ=>σ=[]
 |o::ρ,σ=>∃s r,σ=s::r/\zo6 W o s/\za6 W ρ r
theorem zo6.mono{W W':Wd}(l:W.le W'):∀{o:Option T} {s:Option V},zo6 W o s->zo6 W' o s
 |none,_,_=>trivial
 |some t,some v,h=>Den.mono l t v h
theorem za6.mono{W W':Wd}(l:W.le W'):∀{ρ:Ev} {σ:St},za6 W ρ σ->za6 W' ρ σ
 |[],_,h=>h
 |o::ρ,σ,⟨s,r,e,h1,h2⟩=>⟨s,r,e,h1.mono l,h2.mono l⟩
theorem za6.get{W:Wd}:∀{ρ:Ev} {σ:St} {i:Nat} {t:T},za6 W ρ σ->ρ[i]?=some (some t)->∃v,σ[i]?=some (some v)/\Den W t v
 |[],_,_,_,_,e=>by simp at e
 | o :: ρ,σ,i,t,⟨s,r,e0,h1,h2⟩,e=>by
   subst e0;cases i with
   | zero=>
     simp at e;subst e;cases s with
     |none=>exact h1.elim
     |some v=>exact⟨v,rfl,h1⟩
   | succ i=>
     obtain⟨v,e1,e2⟩:=za6.get (i:=i) h2 (by simpa using e);exact⟨v,by simpa using e1,e2⟩
theorem za6.set{W:Wd}{t:T}{v:V}(hv:Den W t v):∀{ρ:Ev} {σ:St} (i:Nat),za6 W ρ σ->za6 W (ρ.set i (some t)) (σ.set i (some v))
 |[],σ,i,h=>by rw[show σ=[] from h];exact rfl
 | o::ρ,σ,i,⟨s,r,e0,h1,h2⟩=>by
   subst e0;cases i with
   |zero=>exact⟨_,_,rfl,hv,h2⟩
   |succ i=>exact⟨_,_,rfl,h1,za6.set hv i h2⟩
theorem za6.append{W:Wd}:∀{ρ ρ':Ev} {σ σ':St},za6 W ρ σ->za6 W ρ' σ'->za6 W (ρ++ρ') (σ++σ')
 |[],_,σ,_,h,g=>by rw[show σ=[] from h];exact g
 | o::ρ,ρ',σ,σ',⟨s,r,e0,h1,h2⟩,g=>by
   subst e0;exact⟨_,_,rfl,h1,za6.append h2 g⟩
theorem za6.nones{W:Wd}{σ:St}:∀(n:Nat),σ.length=n->za6 W (List.replicate n none) σ:=by
 induction σ with
 |nil=>intro n h;subst h;exact rfl
 | cons s σ ih=>
   intro n h;subst h;exact⟨s,σ,rfl,trivial,ih _ rfl⟩
theorem za6.ofDens{W:Wd}:∀{ts:List T} {vs:List V},Dens W ts vs->za6 W (ts.map some) (vs.map some)
 |[],vs,h=>by rw[zbl.mp h];exact rfl
 | t::ts,vs,h=>by
   obtain⟨v,r,rfl,h1,h2⟩:=za1.mp h;exact⟨_,_,rfl,h1,za6.ofDens h2⟩
theorem za6.cap{W:Wd}{ρ:Ev}{σ:St}(h:za6 W ρ σ):∀(js:List Nat),za6 W (js.map fun j=>(ρ[j]?).join) (zo2 σ js)
 |[]=>rfl
 | j :: js=>by
   refine⟨_,_,rfl,?_,za6.cap h js⟩;show zo6 W ((ρ[j]?).join) ((σ[j]?).join);cases e:ρ[j]? with
   |none=>exact trivial
   | some o=>
     cases o with
     |none=>exact trivial
     | some t=>
       obtain⟨v,e1,h1⟩:=h.get e;rw[e1];exact h1
abbrev DE:=Ev->M T
abbrev DT:=Ev->M Bool
abbrev DA:=Ev->M (List T)
inductive Fl where
 |nx (ρ:Ev) | rt (t:T) | bk (ρ:Ev) | ct (ρ:Ev)
abbrev DS:=Ev->M Fl
abbrev QV(Q:VK):T->Wd->Sto->Hp->Prop:=fun t W' _ H'=>∀v,Den W' t v->Q v H'
def RE(E:XK)(f:DE):TE:=fun σ H Q=>∃W S ρ,Rep W S H/\za6 W ρ σ/\Post E W (QV Q) (f ρ S)
def RT(E:XK)(f:DT):TT:=fun σ H Q=>∃W S ρ,Rep W S H/\za6 W ρ σ/\Post E W (fun b _ _ H'=>Q b H') (f ρ S)
def RA(E:XK)(f:DA):TA:=fun σ H Q=>∃W S ρ,Rep W S H/\za6 W ρ σ/\Post E W (fun ts W' _ H'=>∀vs,Dens W' ts vs->Q vs H') (f ρ S)
def QF(D:Ends):Fl->Wd->Sto->Hp->Prop
 |.nx ρ',W',_,H'=>∀σ',za6 W' ρ' σ'->D.nx σ' H'
 |.rt t,W',_,H'=>∀v,Den W' t v->D.rt v H'
 |.bk ρ',W',_,H'=>∀σ',za6 W' ρ' σ'->D.bk σ' H'
 |.ct ρ',W',_,H'=>∀σ',za6 W' ρ' σ'->D.ct σ' H'
def RS(E:XK)(f:DS):TS:=fun D σ H=>∃W S ρ,Rep W S H/\za6 W ρ σ/\Post E W (QF D) (f ρ S)
theorem zb1{X:Cx}{e:Expr}{t t':TE}(h:PE X e t)(w:∀σ H Q,t' σ H Q->t σ H Q):PE X e t':=fun pins s σ H Q I q=>h pins s σ H Q I (w σ H Q q)
theorem zvz{X:Cx}{e:Expr}{t t':TT}(h:PT X e t)(w:∀σ H Q,t' σ H Q->t σ H Q):PT X e t':=fun pins s σ H Q I q=>h pins s σ H Q I (w σ H Q q)
theorem z5x{X:Cx}{e:List Expr}{t t':TA}(h:PA X e t)(w:∀σ H Q,t' σ H Q->t σ H Q):PA X e t':=fun p pins s σ H Q I q=>h p pins s σ H Q I (w σ H Q q)
theorem zit{X:Cx}{st:Stmt}{t t':TS}(h:PS X st t)(w:∀D σ H,t' D σ H->t D σ H):PS X st t':=fun pins s σ H D I q=>h pins s σ H D I (w D σ H q)
theorem z08{X:Cx}{st:List Stmt}{t t':TS}(h:PSs X st t)(w:∀D σ H,t' D σ H->t D σ H):PSs X st t':=fun pins s σ H D I q=>h pins s σ H D I (w D σ H q)
end MF
namespace MF
open PySem L2
section
variable {W:Wd}{S:Sto}{H:Hp}
theorem Rep.hsNone(r:Rep W S H){p:Addr}(h:H p=none):W.HS p=none:=by
 cases e:W.HS p with
 |none=>rfl
 | some o=>
   obtain⟨u,z⟩:=(r.sub p o e).1.ex;rw[h] at z;cases z
theorem Rep.cellAt(r:Rep W S H){k:Nat}(h:k<W.n):∃c,S[k]?=some c:=by
 rw[<- r.len] at h;exact⟨S[k],List.getElem?_eq_getElem h⟩
theorem Rep.μne(r:Rep W S H){p:Addr}(h:H p=none){k:Nat}(hk:k<W.n):W.μ k≠p:=by
 intro e;obtain⟨c,hc⟩:=r.cellAt hk;obtain⟨o,ho,_⟩:=(r.cell k c hc).1.some;rw[e,h] at ho;cases ho
def Wd.frz(W:Wd)(p:Addr)(o:HO):Wd:=⟨upd W.HS p o,W.μ,W.n,W.Z,W.P⟩
theorem Wd.frz_le{p:Addr}{o:HO}(h:W.HS p=none):W.le (W.frz p o):=⟨fun a u e=>by
 show upd W.HS p o a=some u;rw[zag (fun z=>by rw[z,h] at e;cases e)];exact e,fun _ _ e=>e,fun _ _ e=>e,Nat.le_refl _,fun _ _=>rfl⟩
theorem RdX.upd{p a:Addr}{o u:HO}(hp:H p=none)(h:RdX H a u):RdX (upd H p o) a u:=by
 obtain⟨w,z⟩:=h.ex;exact h.at (zag (zbk z hp))
theorem Rep.extra(r:Rep W S H){p:Addr}(hp:H p=none)(o:HO):Rep W S (upd H p o) where
 sub:=fun a u e=>⟨RdX.upd hp (r.sub a u e).1,(r.sub a u e).2⟩
 len:=r.len
 cell:=fun k c e=>⟨(r.cell k c e).1.at (zag (r.μne hp (r.lt e))),(r.cell k c e).2⟩
 inj:=r.inj
 zed:=fun a q e=>by
  have h2:=r.zed a q e;rw[zag (zbk h2 hp)];exact h2
 prv:=fun a q e=>by
  obtain⟨h1,h2⟩:=r.prv a q e;exact⟨by rw[zag (zbk h1 hp)];exact h1,h2⟩
theorem Rep.frz(r:Rep W S H){p:Addr}(hp:H p=none)(o:HO)(no:zzm o):Rep (W.frz p o) S (upd H p o) where
 sub:=fun a u e=>by
  by_cases z:a=p
  ·subst z
   have e:upd W.HS a o a=some u:=e;rw[zai] at e;cases e;exact⟨.inl zai,no⟩
  ·have e:upd W.HS p o a=some u:=e
   rw[zag z] at e;exact⟨RdX.upd hp (r.sub a u e).1,(r.sub a u e).2⟩
 len:=r.len
 cell:=fun k c e=>⟨((r.cell k c e).1.at (zag (r.μne hp (r.lt e)))).mono (Wd.frz_le (r.hsNone hp)),by
  show upd W.HS p o (W.μ k)=none;rw[zag (r.μne hp (r.lt e))];exact(r.cell k c e).2⟩
 inj:=r.inj
 zed:=fun a q e=>by
  have h2:=r.zed a q e;rw[zag (zbk h2 hp)];exact h2
 prv:=fun a q e=>by
  obtain⟨h1,h2,h3⟩:=r.prv a q e;have ne:=zbk h1 hp;exact⟨by rw[zag ne];exact h1,by show upd W.HS p o a=none;rw[zag ne];exact h2,h3⟩
def Wd.add(W:Wd)(p:Addr):Wd:=⟨W.HS,fun k=>if k=W.n then p else W.μ k,W.n+1,W.Z,W.P⟩
theorem Wd.add_le{p:Addr}:W.le (W.add p):=⟨fun _ _ e=>e,fun _ _ e=>e,fun _ _ e=>e,Nat.le_succ _,fun k h=>by
 show(if k=W.n then p else W.μ k)=W.μ k;rw[if_neg (Nat.ne_of_lt h)]⟩
theorem Wd.add_at{p:Addr}:(W.add p).μ W.n=p:=by show(if W.n=W.n then p else _)=p;rw[if_pos rfl]
theorem Wd.add_old{p:Addr}{k:Nat}(h:k<W.n):(W.add p).μ k=W.μ k:=Wd.add_le.μ k h
theorem Rep.cellNew'(r:Rep W S H){p:Addr}{H':Hp}(hp:H p=none)(keep:∀a o,H a=some o->H' a=some o)(c:Cell)(hc:zbu (W.add p) H' p c):Rep (W.add p) (S++[c]) H' where
 sub:=fun a u e=>by
  obtain⟨h1,h2⟩:=r.sub a u e;obtain⟨w,z⟩:=h1.ex;exact⟨h1.at ((keep _ _ z).trans z.symm),h2⟩
 len:=by rw[List.length_append,List.length_singleton,r.len];rfl
 cell:=fun k c' e=>by
  by_cases z:k<S.length
  ·rw[List.getElem?_append_left z] at e
   have hk:k<W.n:=r.len▸z;rw[Wd.add_old hk];obtain⟨h1,h2⟩:=r.cell k c' e;obtain⟨o,ho,_⟩:=h1.some;exact⟨(h1.at ((keep _ _ ho).trans ho.symm)).mono Wd.add_le,h2⟩
  ·have hk:k=W.n:=by
    have:=(List.getElem?_eq_some_iff.mp e).1;rw[List.length_append,List.length_singleton] at this;have l:=r.len;omega
   subst hk;rw[<- r.len,List.getElem?_append_right (Nat.le_refl _),Nat.sub_self] at e;have e:c=c':=by simpa using e
   subst e;rw[Wd.add_at];exact⟨hc,r.hsNone hp⟩
 inj:=fun j k hj hk e=>by
  have hj:j<W.n+1:=hj;have hk:k<W.n+1:=hk;by_cases z:j<W.n
  ·by_cases y:k<W.n
   ·rw[Wd.add_old z,Wd.add_old y] at e;exact r.inj j k z y e
   ·have:k=W.n:=by omega
    subst this;rw[Wd.add_old z,Wd.add_at] at e;exact absurd e (r.μne hp z)
  ·have:j=W.n:=by omega
   subst this;by_cases y:k<W.n
   ·rw[Wd.add_old y,Wd.add_at] at e
    exact absurd e.symm (r.μne hp y)
   ·omega
 zed:=fun a q e=>by
  exact keep _ _ (r.zed a q e)
 prv:=fun a q e=>by
  obtain⟨h1,h2,h3⟩:=r.prv a q e;refine⟨keep _ _ h1,h2,fun k hk z=>?_⟩;have hk:k<W.n+1:=hk;by_cases y:k<W.n
  ·rw[Wd.add_old y] at z;exact h3 k y z
  ·have:k=W.n:=by omega
   subst this;rw[Wd.add_at] at z;rw[z,h1] at hp;cases hp
theorem Rep.cellNew(r:Rep W S H){p:Addr}(hp:H p=none)(c:Cell)(o:HO)(hc:zbu (W.add p) (upd H p o) p c):Rep (W.add p) (S++[c]) (upd H p o):=
 r.cellNew' hp (fun a u e=>by rw[zag (zbk e hp)];exact e) c hc
theorem Rep.noZ(r:Rep W S H){k:Nat}{c:Cell}(h:S[k]?=some c)(nl:∀kvs,c≠.lck kvs):W.Z (W.μ k)=none:=by
 cases e:W.Z (W.μ k) with
 |none=>rfl
 | some q=>
   have z:=r.zed _ _ e;have y:=(r.cell k c h).1;cases c with
   |lst ts=>obtain⟨_,h1,_⟩:=y;rw[z] at h1;cases h1
   |dic ts=>obtain⟨_,h1,_⟩:=y;rw[z] at h1;cases h1
   |ins _ ts=>obtain⟨_,_,h1,_⟩:=y;rw[z] at h1;cases h1
   |exc _ ts=>obtain⟨_,h1,_⟩:=y;rw[z] at h1;cases h1
   |lck ts=>exact absurd rfl (nl ts)
theorem Rep.cellSet(r:Rep W S H){k:Nat}{c:Cell}(h:S[k]?=some c)(c':Cell)(o:HO)(hc:zbu W (upd H (W.μ k) o) (W.μ k) c')(nz:W.Z (W.μ k)=none:=by
  exact Rep.noZ (by assumption) (by assumption) (by intro _ z;cases z)):Rep W (S.set k c') (upd H (W.μ k) o) where
 sub:=fun a u e=>by
  have ne:a≠W.μ k:=fun z=>by rw[z,(r.cell k c h).2] at e;cases e
  exact⟨(r.sub a u e).1.at (zag ne),(r.sub a u e).2⟩
 len:=by rw[List.length_set];exact r.len
 cell:=fun j c2 e=>by
  by_cases z:j=k
  ·subst z
   have hj:=r.lt h;rw[List.getElem?_set_self (by rw[r.len];exact hj)] at e;cases e;exact⟨hc,(r.cell j c h).2⟩
  ·rw[List.getElem?_set_ne (Ne.symm z)] at e
   have hj:=r.lt e;exact⟨(r.cell j c2 e).1.at (zag fun y=>z (r.inj j k hj (r.lt h) y)),(r.cell j c2 e).2⟩
 inj:=r.inj
 zed:=fun a q e=>by
  rw[zag fun z=>by rw[z,nz] at e;cases e];exact r.zed a q e
 prv:=fun a q e=>by
  obtain⟨h1,h2,h3⟩:=r.prv a q e;exact⟨by rw[zag (Ne.symm (h3 k (r.lt h)))];exact h1,h2,h3⟩
def Wd.priv(W:Wd)(p:Addr)(o:HO):Wd:=⟨W.HS,W.μ,W.n,W.Z,upd W.P p o⟩
theorem Wd.priv_le{p:Addr}{o:HO}(h:W.P p=none):W.le (W.priv p o):=⟨fun _ _ e=>e,fun _ _ e=>e,fun a u e=>by
 show upd W.P p o a=some u;rw[zag (fun z=>by rw[z,h] at e;cases e)];exact e,Nat.le_refl _,fun _ _=>rfl⟩
theorem Rep.prvNone(r:Rep W S H){p:Addr}(h:H p=none):W.P p=none:=by
 cases e:W.P p with
 |none=>rfl
 |some o=>rw[(r.prv p o e).1] at h;cases h
theorem Rep.samePriv{W':Wd}{H':Hp}(r:Rep W S H)(hs:W'.HS=W.HS)(hμ:W'.μ=W.μ)(hn:W'.n=W.n)(hz:W'.Z=W.Z)(c:∀{k:Nat} {c:Cell},S[k]?=some c->zbu W H (W.μ k) c->zbu W' H' (W.μ k) c)
  (sub:∀a o,W.HS a=some o->RdX H a o->RdX H' a o) (z:∀a o u,W.Z a=some (o,u)->H a=some (.frz o u)->H' a=some (.frz o u))
  (prv:∀a o,W'.P a=some o->H' a=some o/\W.HS a=none/\∀k,k<W.n->W.μ k≠a):Rep W' S H' where
 sub:=fun a o e=>by rw[hs] at e;exact⟨sub a o e (r.sub a o e).1,(r.sub a o e).2⟩
 len:=by rw[hn];exact r.len
 cell:=fun k c' e=>by rw[hs,hμ];exact⟨c e (r.cell k c' e).1,(r.cell k c' e).2⟩
 inj:=by rw[hn,hμ];exact r.inj
 zed:=fun a o e=>by
  rw[hz] at e;exact z a o.1 o.2 e (r.zed a o e)
 prv:=fun a o e=>by rw[hs,hn,hμ];exact prv a o e
mutual
theorem Den.hs{W W':Wd}(hs:W'.HS=W.HS)(hμ:W'.μ=W.μ)(hn:W'.n=W.n):∀(t:T) (v:V),Den W t v->Den W' t v
 |.non,_,h=>zcl.mpr (zcl.mp h)
 |.bl _,_,h=>zbb.mpr (zbb.mp h)
 |.int _,_,h=>zat.mpr (zat.mp h)
 |.str _,_,h=>zbg.mpr (zbg.mp h)
 |.lst ts,v,h=>by obtain⟨a,vs,e,h1,h2⟩:=zds.mp h;exact zds.mpr ⟨a,vs,e,by rw[hs];exact h1,Dens.hs hs hμ hn ts vs h2⟩
 |.tup ts,v,h=>by obtain⟨a,vs,e,h1,h2⟩:=zdt.mp h;exact zdt.mpr ⟨a,vs,e,by rw[hs];exact h1,Dens.hs hs hμ hn ts vs h2⟩
 |.dic ts,v,h=>by obtain⟨a,vs,e,h1,h2⟩:=zgj.mp h;exact zgj.mpr ⟨a,vs,e,by rw[hs];exact h1,DenK.hs hs hμ hn ts vs h2⟩
 |.obj k,v,h=>by obtain⟨e,h1⟩:=zbn.mp h;exact zbn.mpr ⟨by rw[hμ];exact e,by rw[hn];exact h1⟩
theorem Dens.hs{W W':Wd}(hs:W'.HS=W.HS)(hμ:W'.μ=W.μ)(hn:W'.n=W.n):∀(ts:List T) (vs:List V),Dens W ts vs->Dens W' ts vs
 |[],vs,h=>zbl.mpr (zbl.mp h)
 |t::ts,vs,h=>by obtain⟨v,r,e,h1,h2⟩:=za1.mp h;exact za1.mpr ⟨v,r,e,Den.hs hs hμ hn t v h1,Dens.hs hs hμ hn ts r h2⟩
theorem DenK.hs{W W':Wd}(hs:W'.HS=W.HS)(hμ:W'.μ=W.μ)(hn:W'.n=W.n):∀(ts:List (Key×T)) (vs:List (Key×V)),DenK W ts vs->DenK W' ts vs
 |[],vs,h=>zcm.mpr (zcm.mp h)
 |(k,t)::ts,vs,h=>by obtain⟨v,r,e,h1,h2⟩:=zb7.mp h;exact zb7.mpr ⟨v,r,e,Den.hs hs hμ hn t v h1,DenK.hs hs hμ hn ts r h2⟩
end
theorem DenF.hs{W W':Wd}(hs:W'.HS=W.HS)(hμ:W'.μ=W.μ)(hn:W'.n=W.n):∀{ts:List (Str×T)} {vs:List (Str×V)},DenF W ts vs->DenF W' ts vs
 |[],_,h=>h
 |(k,t)::ts,vs,⟨v,r,e,h1,h2⟩=>⟨v,r,e,Den.hs hs hμ hn t v h1,DenF.hs hs hμ hn h2⟩
theorem zbu.hs{W W':Wd}(hs:W'.HS=W.HS)(hμ:W'.μ=W.μ)(hn:W'.n=W.n)(hp:∀d ks,W.P d=Option.some (.xd ks)->W'.P d=Option.some (.xd ks)){a:Addr}:∀{c:Cell},zbu W H a c->zbu W' H a c
 |.lst ts,⟨vs,h1,h2⟩=>⟨vs,h1,Dens.hs hs hμ hn _ _ h2⟩
 |.dic ts,⟨vs,h1,h2⟩=>⟨vs,h1,DenK.hs hs hμ hn _ _ h2⟩
 |.ins C ts,⟨dx,vs,h1,h2⟩=>⟨dx,vs,h1,DenF.hs hs hμ hn h2⟩
 |.lck ts,⟨o,vs,h1,h2⟩=>⟨o,vs,h1,DenK.hs hs hμ hn _ _ h2⟩
 |.exc C none,⟨none,h1,h2⟩=>⟨none,h1,trivial⟩
 |.exc C (Option.some fs),⟨Option.some d,h1,⟨ks,h2,h3⟩⟩=>⟨Option.some d,h1,ks,hp d ks h2,DenF.hs hs hμ hn h3⟩
 |.exc C none,⟨Option.some _,_,h2⟩=>h2.elim
 |.exc C (Option.some _),⟨none,_,h2⟩=>h2.elim
theorem Rep.privNew(r:Rep W S H){p:Addr}(hp:H p=none)(o:HO):Rep (W.priv p o) S (upd H p o):=
 r.samePriv rfl rfl rfl rfl (fun e c=>zbu.hs (W:=W) (W':=W.priv p o) rfl rfl rfl (fun d ks z=>by
  show upd W.P p o d=_;rw[zag (fun q=>by have y:=(r.prv d _ z).1;rw[q,hp] at y;cases y)];exact z) (zbu.at (zag (r.μne hp (r.lt e))) c)) (fun a u _ h=>RdX.upd hp h) (fun a q u _ h=>by rw[zag (zbk h hp)];exact h) fun a u e=>by
  have e:upd W.P p o a=some u:=e;by_cases z:a=p
  ·subst z
   rw[zai] at e;cases e;exact⟨zai,r.hsNone hp,fun k hk=>r.μne hp hk⟩
  ·rw[zag z] at e ⊢
   exact r.prv a u e
theorem Rep.privSet(r:Rep W S H){p:Addr}{o:HO}(hp:W.P p=some o)(nx:∀ks,o≠.xd ks)(nfz:∀q u,o≠.frz q u)(o':HO):Rep (W.priv p o') S (upd H p o'):=by
 obtain⟨h1,h2,h3⟩:=r.prv p o hp;have ne:∀a u,W.HS a=some u->a≠p:=fun a u e z=>by rw[z,h2] at e;cases e
 refine r.samePriv rfl rfl rfl rfl (fun e c=>zbu.hs (W:=W) (W':=W.priv p o') rfl rfl rfl (fun d ks z=>by
  show upd W.P p o' d=_;rw[zag (fun q=>by rw[q,hp] at z;cases z;exact nx _ rfl)];exact z) (zbu.at (zag (h3 _ (r.lt e))) c)) (fun a u e h=>h.at (zag (ne a u e))) (fun a q u e h=>by rw[zag (fun z=>by rw[z,h1] at h;cases h;exact nfz _ _ rfl)];exact h) fun a u e=>?_
 have e:upd W.P p o' a=some u:=e;by_cases z:a=p
 ·subst z
  rw[zai] at e;cases e;exact⟨zai,h2,h3⟩
 ·rw[zag z] at e ⊢
  exact r.prv a u e
def Wd.unp(W:Wd)(p:Addr):Wd:=⟨W.HS,W.μ,W.n,W.Z,fun a=>if a=p then none else W.P a⟩
theorem Rep.unp(r:Rep W S H)(p:Addr)(nx:∀ks,W.P p≠some (.xd ks)):Rep (W.unp p) S H:=
 r.samePriv rfl rfl rfl rfl (fun e c=>zbu.hs (W:=W) (W':=W.unp p) rfl rfl rfl (fun d ks z=>by
  show(if d=p then none else W.P d)=_;rw[if_neg (fun q=>by rw[q] at z;exact nx _ z)];exact z) c) (fun a u _ h=>h) (fun a q u _ h=>h) fun a u e=>by
  have e:(if a=p then none else W.P a)=some u:=e;by_cases z:a=p
  ·rw[if_pos z] at e;cases e
  ·rw[if_neg z] at e;exact r.prv a u e
theorem Rep.privFrz(r:Rep W S H){p:Addr}{o:HO}(hp:W.P p=some o)(no:zzm o)(nx:∀ks,o≠.xd ks):Rep ((W.unp p).frz p o) S H:=by
 obtain⟨h1,h2,h3⟩:=r.prv p o hp;have r':=r.unp p (fun ks z=>by rw[hp] at z;cases z;exact nx _ rfl);have l:(W.unp p).le ((W.unp p).frz p o):=Wd.frz_le h2;refine⟨fun a u e=>?_,r.len,fun k c e=>⟨(r'.cell k c e).1.mono l,?_⟩,r.inj,fun a q e=>?_,fun a u e=>?_⟩
 ·have e:upd W.HS p o a=some u:=e
  by_cases z:a=p
  ·subst z
   rw[zai] at e;cases e;exact⟨.inl h1,no⟩
  ·rw[zag z] at e;exact r.sub a u e
 ·show upd W.HS p o (W.μ k)=none
  rw[zag (h3 k (r.lt e))];exact(r.cell k c e).2
 ·exact r'.zed a q e
 ·obtain⟨g1,g2,g3⟩:=r'.prv a u e
  refine⟨g1,?_,g3⟩;show upd W.HS p o a=none;by_cases z:a=p
  ·have e:(if a=p then none else W.P a)=some u:=e
   rw[if_pos z] at e;cases e
  ·rw[zag z];exact g2
theorem Rep.privCell(r:Rep W S H){p:Addr}{o:HO}(hp:W.P p=some o)(nx:∀ks,o≠.xd ks)(c:Cell)(hc:zbu ((W.unp p).add p) H p c):Rep ((W.unp p).add p) (S++[c]) H:=by
 obtain⟨h1,h2,h3⟩:=r.prv p o hp;have r':=r.unp p (fun ks z=>by rw[hp] at z;cases z;exact nx _ rfl);have l:(W.unp p).le ((W.unp p).add p):=Wd.add_le;refine⟨r.sub,by rw[List.length_append,List.length_singleton,r.len];rfl,fun k c' e=>?_,fun j k hj hk e=>?_,r'.zed,fun a u e=>?_⟩
 ·by_cases z:k<S.length
  ·rw[List.getElem?_append_left z] at e
   have hk:k<W.n:=r.len▸z;rw[show((W.unp p).add p).μ k=W.μ k from Wd.add_old (W:=W.unp p) hk];exact⟨(r'.cell k c' e).1.mono l,(r.cell k c' e).2⟩
  ·have hk:k=W.n:=by
    have:=(List.getElem?_eq_some_iff.mp e).1;rw[List.length_append,List.length_singleton] at this;have l:=r.len;omega
   subst hk;rw[<- r.len,List.getElem?_append_right (Nat.le_refl _),Nat.sub_self] at e;have e:c=c':=by simpa using e
   subst e;have hμ:((W.unp p).add p).μ W.n=p:=Wd.add_at (W:=W.unp p);rw[hμ];exact⟨hc,h2⟩
 ·have hj:j<W.n+1:=hj
  have hk:k<W.n+1:=hk;have hμ:((W.unp p).add p).μ W.n=p:=Wd.add_at (W:=W.unp p);by_cases z:j<W.n
  ·have ej:((W.unp p).add p).μ j=W.μ j:=Wd.add_old (W:=W.unp p) z
   by_cases y:k<W.n
   ·have ek:((W.unp p).add p).μ k=W.μ k:=Wd.add_old (W:=W.unp p) y
    rw[ej,ek] at e;exact r.inj j k z y e
   ·have:k=W.n:=by omega
    subst this;rw[ej,hμ] at e;exact absurd e (h3 j z)
  ·have:j=W.n:=by omega
   subst this;by_cases y:k<W.n
   ·have ek:((W.unp p).add p).μ k=W.μ k:=Wd.add_old (W:=W.unp p) y
    rw[ek,hμ] at e;exact absurd e.symm (h3 k y)
   ·omega
 ·obtain⟨g1,g2,g3⟩:=r'.prv a u e
  refine⟨g1,g2,fun k hk z=>?_⟩;have hk:k<W.n+1:=hk;by_cases y:k<W.n
  ·rw[show((W.unp p).add p).μ k=W.μ k from Wd.add_old (W:=W.unp p) y] at z;exact g3 k y z
  ·have:k=W.n:=by omega
   subst this;rw[show((W.unp p).add p).μ W.n=p from Wd.add_at (W:=W.unp p)] at z;have e:(if a=p then none else W.P a)=some u:=e;rw[if_pos z.symm] at e;cases e
end
def zal(S:Sto):T->Option (List T)
 |.lst ts=>some ts
 | .obj k=>match S[k]? with
   |some (.lst ts)=>some ts
   |_=>none
 |_=>none
def zdl(S:Sto):T->Option (List T)
 |.tup ts=>some ts
 |t=>zal S t
def zf1(S:Sto):T->Option (List (Key×T))
 |.dic ts=>some ts
 | .obj k=>match S[k]? with
   |some (.dic ts)=>some ts
   |_=>none
 |_=>none
section
variable {W:Wd}{S:Sto}{H:Hp}
theorem zo7{k:Nat}{ts:List T}(h:zal S (.obj k)=some ts):S[k]?=some (.lst ts):=by
 unfold zal at h;cases e:S[k]? with
 |none=>simp[e] at h
 |some c=>cases c<;>simp[e] at h;subst h;rfl
theorem zv0{k:Nat}{ts:List (Key×T)}(h:zf1 S (.obj k)=some ts):S[k]?=some (.dic ts):=by
 unfold zf1 at h;cases e:S[k]? with
 |none=>simp[e] at h
 |some c=>cases c<;>simp[e] at h;subst h;rfl
theorem Rep.list(r:Rep W S H){t:T}{v:V}{ts:List T}(d:Den W t v)(h:zal S t=some ts):∃a vs,v=.ref a/\Rd H a (.lst vs)/\Dens W ts vs:=by
 cases t with
 | lst xs=>
   have e:xs=ts:=by simpa[zal] using h
   subst e;obtain⟨a,vs,rfl,h1,h2⟩:=zds.mp d;exact⟨a,vs,rfl,(r.sub a _ h1).1.rd,h2⟩
 | obj k=>
   obtain⟨rfl,hk⟩:=zbn.mp d;obtain⟨⟨vs,h1,h2⟩,_⟩:=r.cell k _ (zo7 h);exact⟨_,vs,rfl,.inl h1,h2⟩
 |_=>simp[zal] at h
theorem Rep.seq(r:Rep W S H){t:T}{v:V}{ts:List T}(d:Den W t v)(h:zdl S t=some ts):∃a vs,v=.ref a/\(Rd H a (.lst vs)\/Rd H a (.tup vs))/\Dens W ts vs:=by
 cases t with
 | tup xs=>
   have e:xs=ts:=by simpa[zdl] using h
   subst e;obtain⟨a,vs,rfl,h1,h2⟩:=zdt.mp d;exact⟨a,vs,rfl,.inr (r.sub a _ h1).1.rd,h2⟩
 |lst xs=>obtain⟨a,vs,e,h1,h2⟩:=r.list d (by simpa[zdl] using h);exact⟨a,vs,e,.inl h1,h2⟩
 |obj k=>obtain⟨a,vs,e,h1,h2⟩:=r.list d (by simpa[zdl] using h);exact⟨a,vs,e,.inl h1,h2⟩
 |_=>simp[zdl,zal] at h
theorem Rep.dict(r:Rep W S H){t:T}{v:V}{ts:List (Key×T)}(d:Den W t v)(h:zf1 S t=some ts):∃a vs,v=.ref a/\Rd H a (.dK vs)/\DenK W ts vs:=by
 cases t with
 | dic xs=>
   have e:xs=ts:=by simpa[zf1] using h
   subst e;obtain⟨a,vs,rfl,h1,h2⟩:=zgj.mp d;exact⟨a,vs,rfl,(r.sub a _ h1).1.rd,h2⟩
 | obj k=>
   obtain⟨rfl,hk⟩:=zbn.mp d;obtain⟨⟨vs,h1,h2⟩,_⟩:=r.cell k _ (zv0 h);exact⟨_,vs,rfl,.inl h1,h2⟩
 |_=>simp[zf1] at h
end
def eVar(i:Nat):DE:=fun ρ=>match ρ[i]? with
 |some (some t)=>M.pure t
 |_=>M.bad
def eC(t:T):DE:=fun _=>M.pure t
def e2(g:T->T->M T)(fa fb:DE):DE:=fun ρ=>(fa ρ).bind fun x=>(fb ρ).bind fun y=>g x y
def e1(g:T->M T)(fa:DE):DE:=fun ρ=>(fa ρ).bind g
def aNil:DA:=fun _=>M.pure []
def zac(fa:DE)(r:DA):DA:=fun ρ=>(fa ρ).bind fun t=>(r ρ).bind fun ts=>M.pure (t::ts)
section
variable {X:Cx}{E:XK}{a b e:Expr}{es:List Expr}{fa fb:DE}{fr:DA}{pos:Pos}
theorem z5y{i:Nat}{σ:St}{H:Hp}{Q:VK}(h:RE E (eVar i) σ H Q):tVar i σ H Q:=by
 obtain⟨W,S,ρ,r,env,p⟩:=h;unfold eVar at p;cases e:ρ[i]? with
 |none=>rw[e] at p;exact p.elim
 | some o=>
   cases o with
   |none=>rw[e] at p;exact p.elim
   | some t=>
     rw[e] at p;obtain⟨v,e1,d⟩:=env.get e;exact⟨v,e1,p W H (Wd.le.refl W) r v d⟩
theorem ev(i:Nat){x:Str}(hN:X.N[i]?=some x:=by rfl)(hv:Vis X.env.scope x:=by first | exact Or.inl rfl | exact Or.inr (Or.inl rfl) | exact Or.inr (Or.inr rfl))(hd:(x==("__debug__" : Str))=false:=by decide)
 (hcd:(x==("__classdict__" : Str))=false:=by decide):PE X (.Name x pos) (RE E (eVar i)):=zb1 (pv i hN hv hd hcd) fun _ _ _=>z5y
theorem re_c{t:T}{v:V}(hd:∀W,Den W t v){σ:St}{H:Hp}{Q:VK}(h:RE E (eC t) σ H Q):Q v H:=by
 obtain⟨W,S,ρ,r,env,p⟩:=h;exact p W H (Wd.le.refl W) r v (hd W)
theorem zah{i j}:PE X (.Constant (.int i) j pos) (RE E (eC (.int i))):=zb1 z4f fun _ _ _=>re_c fun W=>zat.mpr rfl
theorem ziu{i j}:PE X (.Constant (.bool i) j pos) (RE E (eC (.bl i))):=zb1 z74 fun _ _ _=>re_c fun W=>zbb.mpr rfl
theorem zbm{i j}:PE X (.Constant (.str i) j pos) (RE E (eC (.str i))):=zb1 z0v fun _ _ _=>re_c fun W=>zbg.mpr rfl
theorem ziv{j}:PE X (.Constant .none j pos) (RE E (eC .non)):=zb1 z4g fun _ _ _=>re_c fun W=>zcl.mpr rfl
def G2(E:XK)(r:R2)(g:T->T->M T):Prop:=∀(tx ty:T) (W:Wd) (S:Sto) (H:Hp) (x y:V) (Q:VK),Rep W S H->Den W tx x->Den W ty y->Post E W (QV Q) (g tx ty S)->r x y H Q
theorem re2{r:R2}{g:T->T->M T}(hg:G2 E r g){σ:St}{H:Hp}{Q:VK}(h:RE E (e2 g fa fb) σ H Q):tOp r (RE E fa) (RE E fb) σ H Q:=by
 obtain⟨W,S,ρ,rp,env,p⟩:=h;refine⟨W,S,ρ,rp,env,(Post.bind p).imp fun tx W1 S1 H1 l1 r1 p1 x dx=>?_⟩;refine⟨W1,S1,ρ,r1,env.mono l1,(Post.bind p1).imp fun ty W2 S2 H2 l2 r2 p2 y dy=>?_⟩;exact hg tx ty W2 S2 H2 x y Q r2 (Den.mono l2 _ _ dx) dy p2
def G1(E:XK)(r:V->Hp->VK->Prop)(g:T->M T):Prop:=∀(tx:T) (W:Wd) (S:Sto) (H:Hp) (x:V) (Q:VK),Rep W S H->Den W tx x->Post E W (QV Q) (g tx S)->r x H Q
theorem re1{r:V->Hp->VK->Prop}{g:T->M T}(hg:G1 E r g){σ:St}{H:Hp}{Q:VK}(h:RE E (e1 g fa) σ H Q):RE E fa σ H (fun x H1=>r x H1 Q):=by
 obtain⟨W,S,ρ,rp,env,p⟩:=h;exact⟨W,S,ρ,rp,env,(Post.bind p).imp fun tx W1 S1 H1 l1 r1 p1 x dx=>hg tx W1 S1 H1 x Q r1 dx p1⟩
theorem zaf:PA X [] (RA E aNil):=z5x zhg fun σ H Q h=>by
 obtain⟨W,S,ρ,r,env,p⟩:=h;exact p W H (Wd.le.refl W) r [] Dens.nil'
theorem zaa(ha:PE X e (RE E fa))(hr:PA X es (RA E fr))(hs:starEach (e::es) X.env=(false,eval e X.env)::starEach es X.env:=by rfl):PA X (e::es) (RA E (zac fa fr)):=
 z5x (zdr ha hr hs) fun σ H Q h=>by
  obtain⟨W,S,ρ,rp,env,p⟩:=h;refine⟨W,S,ρ,rp,env,(Post.bind p).imp fun tx W1 S1 H1 l1 r1 p1 x dx=>?_⟩;refine⟨W1,S1,ρ,r1,env.mono l1,(Post.bind p1).imp fun ts W2 S2 H2 l2 r2 p2 vs dvs=>?_⟩;exact p2 W2 H2 (Wd.le.refl _) r2 _ (Dens.cons' (Den.mono l2 _ _ dx) dvs)
end
def gI(f:Int->Int->Option T)(x y:T):M T:=fun S=>match x,y with
 | .int i,.int j=>(match f i j with
   |some t=>.ok t S
   |none=>.bad)
 |_,_=>.bad
theorem z5z{E:XK}{W:Wd}{S:Sto}{f:Int->Int->Option T}{tx ty:T}{Q:T->Wd->Sto->Hp->Prop}(p:Post E W Q (gI f tx ty S)):∃i j t,tx=.int i/\ty=.int j/\f i j=some t/\Post E W Q (.ok t S):=by
 unfold gI at p;cases tx with
 | int i=>
   cases ty with
   | int j=>
     cases e:f i j with
     |none=>simp only[e] at p;exact p.elim
     |some t=>simp only[e] at p;exact⟨i,j,t,rfl,rfl,e,p⟩
   |_=>exact p.elim
 |_=>exact p.elim
def fSub(i j:Int):Option T:=some (.int (i-j))
def fMul(i j:Int):Option T:=if(-(2 ^ 64)<i/\i<2 ^ 64)\/(-(2 ^ 64)<j/\j<2 ^ 64) then some (.int (i*j)) else none
def fDiv(i j:Int):Option T:=if 0<j/\j<1073741824 then some (.int (i / j)) else none
def fMod(i j:Int):Option T:=if 0<j then some (.int (i%j)) else none
def fPow(i j:Int):Option T:=if 0<=j/\j<=1000/\i.natAbs<2 ^ 64 then some (.int (i ^ j.toNat)) else none
def fLt(i j:Int):Option T:=some (.bl (decide (i<j)))
def fLe(i j:Int):Option T:=some (.bl (decide (i<=j)))
def fGt(i j:Int):Option T:=some (.bl (decide (j<i)))
def fGe(i j:Int):Option T:=some (.bl (decide (j<=i)))
section
variable {X:Cx}{E:XK}{a b e:Expr}{fa fb:DE}{pos:Pos}
theorem now{E:XK}{W:Wd}{S:Sto}{H:Hp}{t:T}{v:V}{Q:VK}(p:Post E W (QV Q) (.ok t S))(r:Rep W S H)(d:Den W t v):Q v H:=p W H (Wd.le.refl W) r v d
theorem zv1{f:Int->Int->V}{g:Int->Int->Option T}(h:∀i j t,g i j=some t->∀W,Den W t (f i j)):G2 E (rI0 f) (gI g):=by
 intro tx ty W S H x y Q r dx dy p;obtain⟨i,j,t,rfl,rfl,e,p⟩:=z5z p;exact⟨i,j,zat.mp dx,zat.mp dy,now p r (h i j t e W)⟩
theorem g2_I{C:Int->Int->Prop}{f:Int->Int->V}{g:Int->Int->Option T}(h:∀i j t,g i j=some t->C i j/\∀W,Den W t (f i j)):G2 E (rI C f) (gI g):=by
 intro tx ty W S H x y Q r dx dy p;obtain⟨i,j,t,rfl,rfl,e,p⟩:=z5z p;exact⟨i,j,zat.mp dx,zat.mp dy,(h i j t e).1,now p r ((h i j t e).2 W)⟩
theorem z50(ha:PE X a (RE E fa))(hb:PE X b (RE E fb)):PE X (.BinOp a .Sub b pos) (RE E (e2 (gI fSub) fa fb)):=zb1 (ztj z4y ha hb) fun _ _ _=>re2 (zv1 fun i j t e W=>by cases e;exact zat.mpr rfl)
theorem zzn(ha:PE X a (RE E fa))(hb:PE X b (RE E fb)):PE X (.BinOp a .Mult b pos) (RE E (e2 (gI fMul) fa fb)):=zb1 (ztj z4z ha hb) fun _ _ _=>re2 (g2_I fun i j t e=>by
 unfold fMul at e;split at e
 ·rename_i h;cases e;exact⟨h,fun W=>zat.mpr rfl⟩
 ·cases e)
theorem zl0(ha:PE X a (RE E fa))(hb:PE X b (RE E fb)):PE X (.BinOp a .FloorDiv b pos) (RE E (e2 (gI fDiv) fa fb)):=zb1 (ztj z16 ha hb) fun _ _ _=>re2 (g2_I fun i j t e=>by
 unfold fDiv at e;split at e
 ·rename_i h;cases e;exact⟨h,fun W=>zat.mpr rfl⟩
 ·cases e)
theorem zfs(ha:PE X a (RE E fa))(hb:PE X b (RE E fb)):PE X (.BinOp a .Mod b pos) (RE E (e2 (gI fMod) fa fb)):=zb1 (ztj z40 ha hb) fun _ _ _=>re2 (g2_I fun i j t e=>by
 unfold fMod at e;split at e
 ·rename_i h;cases e;exact⟨h,fun W=>zat.mpr rfl⟩
 ·cases e)
theorem z51(ha:PE X a (RE E fa))(hb:PE X b (RE E fb)):PE X (.BinOp a .Pow b pos) (RE E (e2 (gI fPow) fa fb)):=zb1 (ztj z41 ha hb) fun _ _ _=>re2 (g2_I fun i j t e=>by
 unfold fPow at e;split at e
 ·rename_i h;cases e;exact⟨⟨h.1,Int.le_trans h.2.1 (by decide),h.2.2⟩,fun W=>zat.mpr rfl⟩
 ·cases e)
def gAdd(x y:T):M T:=fun S=>match x,y with
 |.int i,.int j=>.ok (.int (i+j)) S
 |.str i,.str j=>if i.length+j.length<=1000 then .ok (.str (i++j)) S else .bad
 | _,_=>match zal S x,zal S y with
   |some xs,some ys=>if xs.length+ys.length<=1000 then .ok (.lst (xs++ys)) S else .bad
   |_,_=>.bad
theorem z21:OpR X (binaryOp .Add) (fun x y H Q=>∃l b xs zs,x=.ref l/\y=.ref b/\Rd H l (.lst xs)/\Rd H b (.lst zs)/\xs.length+zs.length<=sizeLine/\∀p,H p=none->Q (.ref p) (upd H p (.lst (xs++zs)))):=by
 intro pins s σ H x y v u Q I rx ry h;obtain⟨l,b,xs,zs,rfl,rfl,hH,hB,hz,q⟩:=h;cases rx;cases ry;obtain⟨z,its,n,r,e⟩:=hH.ok I.hok;obtain⟨z2,its2,n2,r2,e2⟩:=hB.ok I.hok;have hl:=r.length;have hl2:=r2.length;refine PySem.P.add_list e e2 ?_ (by rw[List.size_toArray,List.size_toArray];omega);have ea:its.toArray++its2.toArray=(its++its2).toArray:=by simp
 rw[ea];exact⟨.ref _,_,I.lnew (t':=s.toks) (r.append r2) (by rw[List.length_append];omega),rfl,q _ I.fresh⟩
theorem big{n:Nat}(h:n<=1000):n<=sizeLine:=Nat.le_of_lt (zoz h)
theorem zo8{E:XK}{W:Wd}{S:Sto}{H:Hp}{Q:VK}{ts:List T}{vs:List V}(p:Post E W (QV Q) (.ok (.lst ts) S))(r:Rep W S H)(d:Dens W ts vs):∀a,H a=none->Q (.ref a) (upd H a (.lst vs)):=fun a ha=>by
 have l:W.le (W.frz a (.lst vs)):=Wd.frz_le (r.hsNone ha);exact p (W.frz a (.lst vs)) _ l (r.frz ha _ trivial) _ (zds.mpr ⟨a,vs,rfl,zai,Dens.mono l _ _ d⟩)
theorem zqz{E:XK}{W:Wd}{S:Sto}{H:Hp}{Q:VK}{ts:List T}{vs:List V}(p:Post E W (QV Q) (.ok (.tup ts) S))(r:Rep W S H)(d:Dens W ts vs):∀a,H a=none->Q (.ref a) (upd H a (.tup vs)):=fun a ha=>by
 have l:W.le (W.frz a (.tup vs)):=Wd.frz_le (r.hsNone ha);exact p (W.frz a (.tup vs)) _ l (r.frz ha _ trivial) _ (zdt.mpr ⟨a,vs,rfl,zai,Dens.mono l _ _ d⟩)
theorem zsg{E:XK}{W:Wd}{S:Sto}{H:Hp}{Q:VK}{ts:List T}{vs:List V}(p:Post E W (QV Q) (.ok (.obj S.length) (S++[.lst ts])))(r:Rep W S H)(d:Dens W ts vs):∀a,H a=none->Q (.ref a) (upd H a (.lst vs)):=fun a ha=>by
 refine p (W.add a) _ Wd.add_le (r.cellNew ha (.lst ts) _ ⟨vs,zai,Dens.mono Wd.add_le _ _ d⟩) _ (zbn.mpr ⟨?_,?_⟩)
 ·rw[r.len,Wd.add_at]
 ·rw[r.len];exact Nat.lt_succ_self _
theorem z52:G2 E (fun x y H Q=>(rI0 (fun i j=>.int (i+j)) x y H Q\/(∃i j,x=.str i/\y=.str j/\i.length+j.length<=sizeLine/\Q (.str (i++j)) H))\/(∃l b xs zs,x=.ref l/\y=.ref b/\Rd H l (.lst xs)/\Rd H b (.lst zs)/\xs.length+zs.length<=sizeLine/\∀p,H p=none->Q (.ref p) (upd H p (.lst (xs++zs))))) gAdd:=by
 intro tx ty W S H x y Q r dx dy p;have lists:∀{tx ty:T},Den W tx x->Den W ty y->Post E W (QV Q) (match zal S tx,zal S ty with|some xs,some ys=>if xs.length+ys.length<=1000 then .ok (.lst (xs++ys)) S else .bad | _,_=>.bad)->(∃l b xs zs,x=.ref l/\y=.ref b/\Rd H l (.lst xs)/\Rd H b (.lst zs)/\xs.length+zs.length<=sizeLine/\∀p,H p=none->Q (.ref p) (upd H p (.lst (xs++zs)))):=by
  intro tx ty dx dy p;cases e1:zal S tx with
  |none=>simp only[e1] at p;exact p.elim
  | some xs=>
    cases e2:zal S ty with
    |none=>simp only[e1,e2] at p;exact p.elim
    | some ys=>
      simp only[e1,e2] at p
      split at p
      ·rename_i hl
       obtain⟨a,vs,rfl,h1,h2⟩:=r.list dx e1;obtain⟨b,ws,rfl,h3,h4⟩:=r.list dy e2;refine⟨a,b,vs,ws,rfl,rfl,h1,h3,big (by rw[<- h2.length,<- h4.length];exact hl),zo8 p r (h2.append h4)⟩
      ·exact p.elim
 unfold gAdd at p
 split at p
 ·exact .inl (.inl ⟨_,_,zat.mp dx,zat.mp dy,now p r (zat.mpr rfl)⟩)
 ·split at p
  ·rename_i hl
   exact .inl (.inr ⟨_,_,zbg.mp dx,zbg.mp dy,big hl,now p r (zbg.mpr rfl)⟩)
  ·exact p.elim
 ·exact .inr (lists dx dy p)
theorem zgk(ha:PE X a (RE E fa))(hb:PE X b (RE E fb)):PE X (.BinOp a .Add b pos) (RE E (e2 gAdd fa fb)):=zb1 (ztj ((z4x.or ztl).or z21) ha hb) fun _ _ _=>re2 z52
end
end MF
namespace MF
open PySem L2 PySem.SeqAt
mutual
def pd:T->Option PyData
 |.non=>some .none
 |.bl b=>some (.bool b)
 |.int i=>some (.int i)
 |.str x=>some (.str x)
 |.lst ts=>(pds ts).map .list
 |.tup ts=>(pds ts).map .tuple
 |.dic _=>none
 |.obj _=>none
def pds:List T->Option (List PyData)
 |[]=>some []
 | t::ts=>match pd t,pds ts with
   |some d,some ds=>some (d::ds)
   |_,_=>none
end
mutual
def RdD(H:Hp):PyData->V->Prop
 |.none,v=>v=.non
 |.bool b,v=>v=.bl b
 |.int i,v=>v=.int i
 |.str x,v=>v=.str x
 |.list ds,v=>∃a vs,v=.ref a/\Rd H a (.lst vs)/\RdDs H ds vs
 |.tuple ds,v=>∃a vs,v=.ref a/\Rd H a (.tup vs)/\RdDs H ds vs
 |.dict _,_=>False
def RdDs(H:Hp):List PyData->List V->Prop
 |[],vs=>vs=[]
 |d::ds,vs=>∃v r,vs=v::r/\RdD H d v/\RdDs H ds r
end
section
variable {W:Wd}{S:Sto}{H:Hp}
mutual
theorem zv2(r:Rep W S H):∀(t:T) (v:V) (d:PyData),Den W t v->pd t=some d->RdD H d v
 |.non,v,d,h,e=>by simp only[pd] at e;cases e;simp only[RdD];exact zcl.mp h
 |.bl _,v,d,h,e=>by simp only[pd] at e;cases e;simp only[RdD];exact zbb.mp h
 |.int _,v,d,h,e=>by simp only[pd] at e;cases e;simp only[RdD];exact zat.mp h
 |.str _,v,d,h,e=>by simp only[pd] at e;cases e;simp only[RdD];exact zbg.mp h
 | .lst ts,v,d,h,e=>by
   simp only[pd] at e;obtain⟨ds,e1,rfl⟩:=Option.map_eq_some_iff.mp e;obtain⟨a,vs,rfl,h1,h2⟩:=zds.mp h;simp only[RdD];exact⟨a,vs,rfl,(r.sub _ _ h1).1.rd,rdDs_of r ts vs ds h2 e1⟩
 | .tup ts,v,d,h,e=>by
   simp only[pd] at e;obtain⟨ds,e1,rfl⟩:=Option.map_eq_some_iff.mp e;obtain⟨a,vs,rfl,h1,h2⟩:=zdt.mp h;simp only[RdD];exact⟨a,vs,rfl,(r.sub _ _ h1).1.rd,rdDs_of r ts vs ds h2 e1⟩
 |.dic _,v,d,h,e=>by simp only[pd] at e;cases e
 |.obj _,v,d,h,e=>by simp only[pd] at e;cases e
theorem rdDs_of(r:Rep W S H):∀(ts:List T) (vs:List V) (ds:List PyData),Dens W ts vs->pds ts=some ds->RdDs H ds vs
 |[],vs,ds,h,e=>by simp only[pds] at e;cases e;simp only[RdDs];exact zbl.mp h
 | t :: ts,vs,ds,h,e=>by
   obtain⟨v,q,rfl,h1,h2⟩:=za1.mp h;simp only[pds] at e;cases e1:pd t with
   |none=>simp[e1] at e
   | some d=>
     cases e2:pds ts with
     |none=>simp[e1,e2] at e
     | some ds'=>
       simp[e1,e2] at e;subst e;simp only[RdDs];exact⟨v,q,rfl,zv2 r t v d h1 e1,rdDs_of r ts q ds' h2 e2⟩
end
end
mutual
theorem reads_of{P:Program}{w:World}{H:Hp}{h:Heap}(ok:HOk P w H h):∀(d:PyData) (v:V) (u:Value),RdD H d v->RelV v u->∃as,Reads h u d as
 |.none,v,u,q,r=>by simp only[RdD] at q;subst q;cases r;exact⟨_,.none⟩
 |.bool b,v,u,q,r=>by simp only[RdD] at q;subst q;cases r;exact⟨_,.bool b⟩
 |.int i,v,u,q,r=>by simp only[RdD] at q;subst q;obtain⟨t,rfl⟩:=r;exact⟨_,.int i t⟩
 |.str i,v,u,q,r=>by simp only[RdD] at q;subst q;obtain⟨t,rfl⟩:=r;exact⟨_,.str i t⟩
 | .list ds,v,u,q,r=>by
   simp only[RdD] at q;obtain⟨a,vs,rfl,h1,h2⟩:=q;cases r;obtain⟨_,its,n,r,e⟩:=h1.ok ok;obtain⟨as,ra⟩:=readsAll_of ok ds vs its h2 r;exact⟨_,.list e rfl rfl (by simpa using ra)⟩
 | .tuple ds,v,u,q,r=>by
   simp only[RdD] at q;obtain⟨a,vs,rfl,h1,h2⟩:=q;cases r;obtain⟨_,its,r,o,e,hc,n,hd⟩:=h1.ok ok;obtain⟨as,ra⟩:=readsAll_of ok ds vs its h2 r;exact⟨_,.tuple e hc hd (by simpa using ra)⟩
 |.dict _,v,u,q,r=>by simp only[RdD] at q
theorem readsAll_of{P:Program}{w:World}{H:Hp}{h:Heap}(ok:HOk P w H h):∀(ds:List PyData) (vs:List V) (us:List Value),RdDs H ds vs->Vals vs us->∃as,ReadsAll h us ds as
 |[],vs,us,q,r=>by simp only[RdDs] at q;subst q;cases r;exact⟨_,.nil⟩
 | d :: ds,vs,us,q,r=>by
   simp only[RdDs] at q;obtain⟨v,vr,rfl,h1,h2⟩:=q;cases r with
   | cons r1 r2=>
     obtain⟨as,ra⟩:=reads_of ok d v _ h1 r1;obtain⟨bs,rb⟩:=readsAll_of ok ds vr _ h2 r2;exact⟨_,.cons ra rb⟩
end
def pdS(S:Sto):T->Option PyData
 | .obj k=>match S[k]? with
   |some (.lst ts)=>(pds ts).map .list
   |_=>none
 |t=>pd t
theorem z09{W:Wd}{S:Sto}{H:Hp}(r:Rep W S H){t:T}{v:V}{d:PyData}(h:Den W t v)(e:pdS S t=some d):RdD H d v:=by
 cases t with
 | obj k=>
   obtain⟨rfl,hk⟩:=zbn.mp h;unfold pdS at e;cases e0:S[k]? with
   |none=>simp[e0] at e
   | some c=>
     cases c with
     | lst ts=>
       simp only[e0] at e;obtain⟨ds,e1,rfl⟩:=Option.map_eq_some_iff.mp e;obtain⟨⟨vs,h1,h2⟩,_⟩:=r.cell k _ e0;simp only[RdD];exact⟨_,vs,rfl,.inl h1,rdDs_of r ts vs ds h2 e1⟩
     |dic _=>simp[e0] at e
     |ins _ _=>simp[e0] at e
     |exc _ _=>simp[e0] at e
     |lck _=>simp[e0] at e
 |_=>exact zv2 r _ v d h (by simpa[pdS] using e)
def toV:T->Option V
 |.non=>some .non
 |.bl b=>some (.bl b)
 |.int i=>some (.int i)
 |.str x=>some (.str x)
 |_=>none
theorem zk3{W:Wd}{t:T}{v u:V}(h:Den W t v)(e:toV t=some u):v=u:=by
 cases t<;>simp only[toV,Option.some.injEq] at e<;>first | (subst e;first | exact zcl.mp h | exact zbb.mp h | exact zat.mp h | exact zbg.mp h) | cases e
def eqS(S:Sto)(x y:T):Option Bool:=match toV x,toV y with
 |some u,some v=>if scal u v=true then some (decide (u=v)) else none
 | _,_=>match pdS S x,pdS S y with
   |some a,some b=>if(a.canLay0&&b.canLay0&&decide (a.depth<=50))=true then some (PyData.eqv a b) else none
   |_,_=>none
def gEq(x y:T):M T:=fun S=>match eqS S x y with
 |some b=>.ok (.bl b) S
 |none=>.bad
def gNe(x y:T):M T:=fun S=>match eqS S x y with
 |some b=>.ok (.bl (!b)) S
 |none=>.bad
def rEqD(neg:Bool):R2:=fun x y H Q=>∃a b,RdD H a x/\RdD H b y/\a.canLay0=true/\b.canLay0=true/\a.depth<=50/\Q (.bl (if neg then !PyData.eqv a b else PyData.eqv a b)) H
section
variable {X:Cx}{E:XK}{a b e:Expr}{es:List Expr}{fa fb fc:DE}{fr:DA}{pos:Pos}
theorem z53(hu:X.A.units+64<cLine):OpR X (compareOp .Eq) (rEqD false):=by
 intro pins s σ H x y v u Q I rx ry h;obtain⟨a,b,ra,rb,ca,cb,hd,q⟩:=h;obtain⟨as,qa⟩:=reads_of I.hok a x v ra rx;obtain⟨bs,qb⟩:=reads_of I.hok b y u rb ry;exact compareEq_reads qa qb ca cb (by have:=Nat.min_le_left a.depth b.depth;omega) ⟨.bl _,H,I,rfl,q⟩
theorem z1a(hu:X.A.units+64<cLine):OpR X (compareOp .NotEq) (rEqD true):=by
 intro pins s σ H x y v u Q I rx ry h;obtain⟨a,b,ra,rb,ca,cb,hd,q⟩:=h;obtain⟨as,qa⟩:=reads_of I.hok a x v ra rx;obtain⟨bs,qb⟩:=reads_of I.hok b y u rb ry;exact compareNe_reads qa qb ca cb (by have:=Nat.min_le_left a.depth b.depth;omega) ⟨.bl _,H,I,rfl,q⟩
theorem z1b{W:Wd}{S:Sto}{H:Hp}{tx ty:T}{x y:V}{c:Bool}(r:Rep W S H)(dx:Den W tx x)(dy:Den W ty y)(e:eqS S tx ty=some c) :
  (scal x y=true/\c=decide (x=y))\/∃a b,RdD H a x/\RdD H b y/\a.canLay0=true/\b.canLay0=true/\a.depth<=50/\c=PyData.eqv a b:=by
 have data:(match pdS S tx,pdS S ty with|some a,some b=>if(a.canLay0&&b.canLay0&&decide (a.depth<=50))=true then some (PyData.eqv a b) else none | _,_=>none)=some c->∃a b,RdD H a x/\RdD H b y/\a.canLay0=true/\b.canLay0=true/\a.depth<=50/\c=PyData.eqv a b:=fun e=>by
  cases e1:pdS S tx with
  |none=>simp[e1] at e
  | some a=>
    cases e2:pdS S ty with
    |none=>simp[e1,e2] at e
    | some b=>
      simp only[e1,e2] at e
      split at e
      ·rename_i hc
       simp only[Bool.and_eq_true,decide_eq_true_eq] at hc;cases e;exact⟨a,b,z09 r dx e1,z09 r dy e2,hc.1.1,hc.1.2,hc.2,rfl⟩
      ·cases e
 unfold eqS at e;cases e1:toV tx with
 |none=>simp only[e1] at e;exact .inr (data e)
 | some u=>
   cases e2:toV ty with
   |none=>simp only[e1,e2] at e;exact .inr (data e)
   | some v=>
     simp only[e1,e2] at e
     split at e
     ·rename_i hs
      cases e;have h1:=zk3 dx e1;have h2:=zk3 dy e2;subst h1 h2;exact .inl ⟨hs,rfl⟩
     ·cases e
theorem z8s:G2 E (fun x y H Q=>rEq x y H Q\/rEqD false x y H Q) gEq:=by
 intro tx ty W S H x y Q r dx dy p;unfold gEq at p;cases e:eqS S tx ty with
 |none=>simp only[e] at p;exact p.elim
 | some c=>
   simp only[e] at p;rcases z1b r dx dy e with⟨h1,rfl⟩ | ⟨a,b,h1,h2,h3,h4,h5,rfl⟩
   ·exact .inl ⟨h1,now p r (zbb.mpr rfl)⟩
   ·exact .inr ⟨a,b,h1,h2,h3,h4,h5,now p r (zbb.mpr rfl)⟩
theorem z54:G2 E (fun x y H Q=>rNe x y H Q\/rEqD true x y H Q) gNe:=by
 intro tx ty W S H x y Q r dx dy p;unfold gNe at p;cases e:eqS S tx ty with
 |none=>simp only[e] at p;exact p.elim
 | some c=>
   simp only[e] at p;rcases z1b r dx dy e with⟨h1,rfl⟩ | ⟨a,b,h1,h2,h3,h4,h5,rfl⟩
   ·exact .inl ⟨h1,now p r (zbb.mpr rfl)⟩
   ·exact .inr ⟨a,b,h1,h2,h3,h4,h5,now p r (zbb.mpr rfl)⟩
theorem e_ne(hu:X.A.units+64<cLine)(ha:PE X a (RE E fa))(hb:PE X b (RE E fb)):PE X (.Compare a [.NotEq] [b] pos) (RE E (e2 gNe fa fb)):=zb1 (zu6 (z43.or (z1a hu)) ha hb (zia _)) fun _ _ _=>re2 z54
def inF(x:T)(ts:List T):Option Bool:=match toV x,ts.mapM toV with
 |some u,some vs=>if(zfc u&&vs.all zfc)=true then some (inV u vs) else none
 |_,_=>none
def inS(S:Sto)(x y:T):Option Bool:=match zdl S y with
 | some ts=>(match inF x ts with
   |some b=>some b
   | none=>match pd x,pds ts with
     |some d,some ds=>if(d.canLay0&&PyData.canLayAll0 ds&&decide (d.depth<=20)&&decide (PyData.depthAll ds<=20))=true then some (ds.any fun z=>PyData.eqv z d) else none
     |_,_=>none)
 |none=>none
def gIn(x y:T):M T:=fun S=>match inS S x y with
 |some b=>.ok (.bl b) S
 |none=>.bad
def ziw(x y:T):M T:=fun S=>match inS S x y with
 |some b=>.ok (.bl (!b)) S
 |none=>.bad
theorem znj{W:Wd}:∀{ts:List T} {vs us:List V},Dens W ts vs->ts.mapM toV=some us->vs=us
 | [],vs,us,h,e=>by
   have e:some []=some us:=by simpa using e
   rw[zbl.mp h,<- Option.some.inj e]
 | t :: ts,vs,us,h,e=>by
   obtain⟨v,r,rfl,h1,h2⟩:=za1.mp h;rw[List.mapM_cons] at e;cases e1:toV t with
   |none=>simp[e1] at e
   | some u=>
     cases e2:ts.mapM toV with
     |none=>simp[e1,e2] at e
     | some ws=>
       simp[e1,e2] at e;subst e;rw[zk3 h1 e1,znj h2 e2]
def rInD(neg:Bool):R2:=fun x y H Q=>∃p xs ds d,y=.ref p/\(Rd H p (.lst xs)\/Rd H p (.tup xs))/\RdDs H ds xs/\RdD H d x/\PyData.canLayAll0 ds=true/\d.canLay0=true/\d.depth<=20/\PyData.depthAll ds<=20 /\
 Q (.bl (if neg then !(ds.any fun z=>PyData.eqv z d) else ds.any fun z=>PyData.eqv z d)) H
theorem z1c{W:Wd}{S:Sto}{H:Hp}{tx ty:T}{x y:V}{c:Bool}(K:PySem.W.Frag)(r:Rep W S H)(dx:Den W tx x)(dy:Den W ty y)(e:inS S tx ty=some c) :
  (∃p xs,y=.ref p/\(SqL K H p xs\/SqT K H p xs)/\zfc x=true/\xs.all zfc=true/\c=inV x xs) \/
  ∃p xs ds d,y=.ref p/\(Rd H p (.lst xs)\/Rd H p (.tup xs))/\RdDs H ds xs/\RdD H d x/\PyData.canLayAll0 ds=true/\d.canLay0=true/\d.depth<=20/\PyData.depthAll ds<=20/\c=ds.any fun z=>PyData.eqv z d:=by
 unfold inS at e;cases e0:zdl S ty with
 |none=>simp only[e0] at e;cases e
 | some ts=>
   obtain⟨p,xs,rfl,h1,h2⟩:=r.seq dy e0;simp only[e0] at e;cases ef:inF tx ts with
   | some b=>
     simp only[ef] at e;cases e;unfold inF at ef;cases e1:toV tx with
     |none=>simp[e1] at ef
     | some u=>
       cases e2:ts.mapM toV with
       |none=>simp[e1,e2] at ef
       | some us=>
         simp only[e1,e2] at ef
         split at ef
         ·rename_i hf
          rw[Bool.and_eq_true] at hf;cases ef;have q1:=zk3 dx e1;have q2:=znj h2 e2;subst q1 q2;refine .inl ⟨p,xs,rfl,?_,hf.1,hf.2,rfl⟩;rcases h1 with h1 | h1
          ·exact .inl (.inl h1)
          ·exact .inr (.inl h1)
         ·cases ef
   | none =>
     simp only[ef] at e;cases e1:pd tx with
     |none=>simp[e1] at e
     | some d=>
       cases e2:pds ts with
       |none=>simp[e1,e2] at e
       | some ds=>
         simp only[e1,e2] at e
         split at e
         ·rename_i hc
          simp only[Bool.and_eq_true,decide_eq_true_eq] at hc;cases e;exact .inr ⟨p,xs,ds,d,rfl,h1,rdDs_of r _ _ _ h2 e2,zv2 r _ _ _ dx e1,hc.1.1.2,hc.1.1.1,hc.1.2,hc.2,rfl⟩
         ·cases e
theorem z55(hu:X.A.units+64<cLine):OpR X (compareOp .In) (rInD false):=by
 intro pins s σ H x y v u Q I rx ry h;obtain⟨p,xs,ds,d,rfl,hp,rs,rd,cs,cd,hd,hds,q⟩:=h;cases ry;obtain⟨bs,qb⟩:=reads_of I.hok d x v rd rx;rcases hp with hp | hp
 ·obtain⟨as,qa⟩:=reads_of I.hok (.list ds) (.ref p) (.ref p) (by simp only[RdD];exact⟨p,xs,rfl,hp,rs⟩) rfl
  exact in_list_reads qa qb cs cd (by omega) ⟨.bl _,H,I,rfl,q⟩
 ·obtain⟨as,qa⟩:=reads_of I.hok (.tuple ds) (.ref p) (.ref p) (by simp only[RdD];exact⟨p,xs,rfl,hp,rs⟩) rfl
  exact in_tuple_reads qa qb cs cd (by omega) ⟨.bl _,H,I,rfl,q⟩
theorem zv3(hu:X.A.units+64<cLine):OpR X (compareOp .NotIn) (rInD true):=by
 intro pins s σ H x y v u Q I rx ry h;obtain⟨p,xs,ds,d,rfl,hp,rs,rd,cs,cd,hd,hds,q⟩:=h;cases ry;obtain⟨bs,qb⟩:=reads_of I.hok d x v rd rx;rcases hp with hp | hp
 ·obtain⟨as,qa⟩:=reads_of I.hok (.list ds) (.ref p) (.ref p) (by simp only[RdD];exact⟨p,xs,rfl,hp,rs⟩) rfl
  exact notIn_list_reads qa qb cs cd (by omega) ⟨.bl _,H,I,rfl,q⟩
 ·obtain⟨as,qa⟩:=reads_of I.hok (.tuple ds) (.ref p) (.ref p) (by simp only[RdD];exact⟨p,xs,rfl,hp,rs⟩) rfl
  exact notIn_tuple_reads qa qb cs cd (by omega) ⟨.bl _,H,I,rfl,q⟩
theorem z8t(K:PySem.W.Frag):G2 E (fun x y H Q=>rIn K false x y H Q\/rInD false x y H Q) gIn:=by
 intro tx ty W S H x y Q r dx dy p;unfold gIn at p;cases e:inS S tx ty with
 |none=>simp only[e] at p;exact p.elim
 | some c=>
   simp only[e] at p;rcases z1c K r dx dy e with⟨q,xs,rfl,h1,h2,h3,rfl⟩ | ⟨q,xs,ds,d,rfl,h1,h2,h3,h4,h5,h6,h7,rfl⟩
   ·exact .inl ⟨q,xs,rfl,h1,h2,h3,now p r (zbb.mpr rfl)⟩
   ·exact .inr ⟨q,xs,ds,d,rfl,h1,h2,h3,h4,h5,h6,h7,now p r (zbb.mpr rfl)⟩
theorem zzo(K:PySem.W.Frag):G2 E (fun x y H Q=>rIn K true x y H Q\/rInD true x y H Q) ziw:=by
 intro tx ty W S H x y Q r dx dy p;unfold ziw at p;cases e:inS S tx ty with
 |none=>simp only[e] at p;exact p.elim
 | some c=>
   simp only[e] at p;rcases z1c K r dx dy e with⟨q,xs,rfl,h1,h2,h3,rfl⟩ | ⟨q,xs,ds,d,rfl,h1,h2,h3,h4,h5,h6,h7,rfl⟩
   ·exact .inl ⟨q,xs,rfl,h1,h2,h3,now p r (zbb.mpr rfl)⟩
   ·exact .inr ⟨q,xs,ds,d,rfl,h1,h2,h3,h4,h5,h6,h7,now p r (zbb.mpr rfl)⟩
end
end MF
namespace MF
open PySem L2
def z22(t:T):M Bool:=fun S=>match t with
 |.bl b=>.ok b S
 |_=>.bad
def truM(t:T):M Bool:=fun S=>match t with
 |.non=>.ok false S
 |.bl b=>.ok b S
 |.int i=>.ok (i != 0) S
 |.str x=>if x.length<=1000 then .ok ((x.length:Int) != 0) S else .bad
 | t=>match zdl S t with
   |some ts=>.ok (!ts.isEmpty) S
   |none=>.bad
def tst(f:DE):DT:=fun ρ=>(f ρ).bind z22
def tru(f:DE):DT:=fun ρ=>(f ρ).bind truM
def znk(f g:DT):DT:=fun ρ=>(f ρ).bind fun c=>if c=true then g ρ else M.pure false
def tOrD(f g:DT):DT:=fun ρ=>(f ρ).bind fun c=>if c=true then M.pure true else g ρ
def zo9(f:DT):DT:=fun ρ=>(f ρ).bind fun c=>M.pure (!c)
section
variable {X:Cx}{E:XK}{a b c e:Expr}{es:List Expr}{fa fb fc:DE}{ta tb:DT}{fr:DA}{pos:Pos}
theorem zv4{f:DE}{σ:St}{H:Hp}{Q:Bool->Hp->Prop}(h:RT E (tst f) σ H Q):RE E f σ H (fun x H'=>∃k,x=.bl k/\Q k H'):=by
 obtain⟨W,S,ρ,rp,env,p⟩:=h;refine⟨W,S,ρ,rp,env,(Post.bind p).imp fun t W1 S1 H1 l1 r1 p1 v dv=>?_⟩;cases t with
 |bl k=>exact⟨k,zbb.mp dv,p1 W1 H1 (Wd.le.refl _) r1⟩
 |_=>exact p1.elim
theorem zl1{op:CmpOp}{r:R2}{g:T->T->M T}(ho:OpR X (compareOp op) r)(hg:G2 E r g)(ha:PE X a (RE E fa))(hb:PE X b (RE E fb))(hm:behindInMarks op b=false):PT X (.Compare a [op] [b] pos) (RT E (tst (e2 g fa fb))):=
 zvz (z18 ho ha hb hm) fun σ H Q h=>re2 hg (zv4 h)
theorem t_eq(hu:X.A.units+64<cLine)(ha:PE X a (RE E fa))(hb:PE X b (RE E fb)):PT X (.Compare a [.Eq] [b] pos) (RT E (tst (e2 gEq fa fb))):=zl1 (z79.or (z53 hu)) z8s ha hb (zia _)
theorem t_ne(hu:X.A.units+64<cLine)(ha:PE X a (RE E fa))(hb:PE X b (RE E fb)):PT X (.Compare a [.NotEq] [b] pos) (RT E (tst (e2 gNe fa fb))):=zl1 (z43.or (z1a hu)) z54 ha hb (zia _)
theorem t_lt(ha:PE X a (RE E fa))(hb:PE X b (RE E fb)):PT X (.Compare a [.Lt] [b] pos) (RT E (tst (e2 (gI fLt) fa fb))):=zl1 z8a (zv1 fun i j t e W=>by cases e;exact zbb.mpr rfl) ha hb (zia _)
theorem t_le(ha:PE X a (RE E fa))(hb:PE X b (RE E fb)):PT X (.Compare a [.LtE] [b] pos) (RT E (tst (e2 (gI fLe) fa fb))):=zl1 z8b (zv1 fun i j t e W=>by cases e;exact zbb.mpr rfl) ha hb (zia _)
theorem t_gt(ha:PE X a (RE E fa))(hb:PE X b (RE E fb)):PT X (.Compare a [.Gt] [b] pos) (RT E (tst (e2 (gI fGt) fa fb))):=zl1 z8c (zv1 fun i j t e W=>by cases e;exact zbb.mpr rfl) ha hb (zia _)
theorem t_ge(ha:PE X a (RE E fa))(hb:PE X b (RE E fb)):PT X (.Compare a [.GtE] [b] pos) (RT E (tst (e2 (gI fGe) fa fb))):=zl1 z8d (zv1 fun i j t e W=>by cases e;exact zbb.mpr rfl) ha hb (zia _)
theorem t_in(hu:X.A.units+64<cLine)(ha:PE X a (RE E fa))(hb:PE X b (RE E fb))(hm:behindInMarks .In b=false:=by with_unfolding_all rfl):PT X (.Compare a [.In] [b] pos) (RT E (tst (e2 gIn fa fb))):=zl1 (zvh.or (z55 hu)) (z8t X.K) ha hb hm
theorem z23(hu:X.A.units+64<cLine)(ha:PE X a (RE E fa))(hb:PE X b (RE E fb))(hm:behindInMarks .NotIn b=false:=by with_unfolding_all rfl):PT X (.Compare a [.NotIn] [b] pos) (RT E (tst (e2 ziw fa fb))):=zl1 (zow.or (zv3 hu)) (zzo X.K) ha hb hm
theorem z56{W:Wd}{S:Sto}{H:Hp}{t:T}{v:V}{Q:Bool->Hp->Prop}{K:PySem.W.Frag}(r:Rep W S H)(d:Den W t v)(p:Post E W (fun b _ _ H'=>Q b H') (truM t S)):∃k,TruV K v H k/\Q k H:=by
 have go:∀{k:Bool},Post E W (fun b _ _ H'=>Q b H') (.ok k S)->Q k H:=fun p=>p W H (Wd.le.refl _) r;have sq:∀{t:T},Den W t v->Post E W (fun b _ _ H'=>Q b H') (match zdl S t with|some ts=>.ok (!ts.isEmpty) S | none=>.bad)->∃k,TruV K v H k/\Q k H:=fun {t} d p=>by
  cases e:zdl S t with
  |none=>simp only[e] at p;exact p.elim
  | some ts=>
    simp only[e] at p;obtain⟨a,vs,rfl,h1,h2⟩:=r.seq d e;have hl:(!ts.isEmpty)=!vs.isEmpty:=by
     have:=h2.length;cases ts<;>cases vs<;>simp_all
    refine⟨_,?_,go p⟩;rcases h1 with h1 | h1
    ·exact .inl ⟨vs,.inl h1,hl⟩
    ·exact .inr (.inl ⟨vs,.inl h1,hl⟩)
 unfold truM at p
 split at p
 ·rw[zcl.mp d];exact⟨_,rfl,go p⟩
 ·rw[zbb.mp d];exact⟨_,rfl,go p⟩
 ·rw[zat.mp d];exact⟨_,rfl,go p⟩
 ·split at p
  ·rename_i hl;rw[zbg.mp d];exact⟨_,⟨big hl,rfl⟩,go p⟩
  ·exact p.elim
 ·exact sq d p
theorem zix(ha:PE X a (RE E fa))(he:∀whole,isTrue a X.env whole=(do let v <- whole;standAt a.pos;holding [v] (truthy v)):=by intro _;rfl):PT X a (RT E (tru fa)):=
 zvz (zy3 ha he) fun σ H Q h=>by
  obtain⟨W,S,ρ,rp,env,p⟩:=h;exact⟨W,S,ρ,rp,env,(Post.bind p).imp fun t W1 S1 H1 l1 r1 p1 v dv=>z56 r1 dv p1⟩
theorem z57{e:Expr}{t t':TT}(h:PW X e t)(w:∀σ H Q,t' σ H Q->t σ H Q):PW X e t':=fun wh pins s σ H Q I q=>h wh pins s σ H Q I (w σ H Q q)
theorem zpa(ha:PT X a (RT E ta)):PW X (.BoolOp .And [a] pos) (RT E ta):=z12 ha
theorem z58(ha:PT X a (RT E ta)):PW X (.BoolOp .Or [a] pos) (RT E ta):=z4i ha
theorem zv5{c:Bool}{σ:St}{H:Hp}{Q:Bool->Hp->Prop}(h:RT E (fun _=>M.pure c) σ H Q):Q c H:=by
 obtain⟨W,S,ρ,rp,env,p⟩:=h;exact p W H (Wd.le.refl _) rp
theorem zt2(ha:PT X a (RT E ta))(hb:PW X (.BoolOp .And (b::es) pos) (RT E tb)):PW X (.BoolOp .And (a::b::es) pos) (RT E (znk ta tb)):=
 z57 (z4j ha hb) fun σ H Q h=>by
  obtain⟨W,S,ρ,rp,env,p⟩:=h;refine⟨W,S,ρ,rp,env,(Post.bind p).imp fun c W1 S1 H1 l1 r1 p1=>?_⟩;cases c with
  |true=>exact iteT ⟨W1,S1,ρ,r1,env.mono l1,p1⟩
  |false=>exact iteF (p1 W1 H1 (Wd.le.refl _) r1)
theorem t_or(ha:PT X a (RT E ta))(hb:PW X (.BoolOp .Or (b::es) pos) (RT E tb)):PW X (.BoolOp .Or (a::b::es) pos) (RT E (tOrD ta tb)):=
 z57 (z75 ha hb) fun σ H Q h=>by
  obtain⟨W,S,ρ,rp,env,p⟩:=h;refine⟨W,S,ρ,rp,env,(Post.bind p).imp fun c W1 S1 H1 l1 r1 p1=>?_⟩;cases c with
  |false=>exact iteF ⟨W1,S1,ρ,r1,env.mono l1,p1⟩
  |true=>exact iteT (p1 W1 H1 (Wd.le.refl _) r1)
theorem zv6(ha:PT X a (RT E ta)):PT X (.UnaryOp .Not a pos) (RT E (zo9 ta)):=zvz (z4k ha) fun σ H Q h=>by
 obtain⟨W,S,ρ,rp,env,p⟩:=h;exact⟨W,S,ρ,rp,env,(Post.bind p).imp fun c W1 S1 H1 l1 r1 p1=>p1 W1 H1 (Wd.le.refl _) r1⟩
def eIf(c:DT)(f g:DE):DE:=fun ρ=>(c ρ).bind fun b=>if b=true then f ρ else g ρ
theorem z24(hc:PT X c (RT E ta))(ha:PE X a (RE E fa))(hb:PE X b (RE E fb)):PE X (.IfExp c a b pos) (RE E (eIf ta fa fb)):=zb1 (zy1 hc ha hb) fun σ H Q h=>by
 obtain⟨W,S,ρ,rp,env,p⟩:=h;refine⟨W,S,ρ,rp,env,(Post.bind p).imp fun k W1 S1 H1 l1 r1 p1=>?_⟩;cases k with
 |true=>exact iteT ⟨W1,S1,ρ,r1,env.mono l1,p1⟩
 |false=>exact iteF ⟨W1,S1,ρ,r1,env.mono l1,p1⟩
def zk4:T->Bool
 |.non=>true
 |_=>false
theorem zpb{W:Wd}{t:T}{v:V}(d:Den W t v):decide (v=.non)=zk4 t:=by
 cases t with
 |non=>rw[zcl.mp d];rfl
 |bl _=>rw[zbb.mp d];rfl
 |int _=>rw[zat.mp d];rfl
 |str _=>rw[zbg.mp d];rfl
 |lst _=>obtain⟨a,vs,rfl,_⟩:=zds.mp d;rfl
 |tup _=>obtain⟨a,vs,rfl,_⟩:=zdt.mp d;rfl
 |dic _=>obtain⟨a,vs,rfl,_⟩:=zgj.mp d;rfl
 |obj _=>obtain⟨rfl,_⟩:=zbn.mp d;rfl
def gIs(x y:T):M T:=fun S=>match y with
 |.non=>.ok (.bl (zk4 x)) S
 | .bl b=>(match x with
   |.bl a=>.ok (.bl (a==b)) S
   |_=>.bad)
 |_=>.bad
def zhj(x y:T):M T:=fun S=>match y with
 |.non=>.ok (.bl (!zk4 x)) S
 | .bl b=>(match x with
   |.bl a=>.ok (.bl (!(a==b))) S
   |_=>.bad)
 |_=>.bad
theorem zv7:OpR X (compareOp .IsNot) (fun x y H Q=>∃a b,x=.bl a/\y=.bl b/\Q (.bl (!(a==b))) H):=by
 intro pins s σ H x y v u Q I rx ry h;obtain⟨a,b,rfl,rfl,q⟩:=h;cases rx;cases ry;refine wpAny_isNot_plain rfl ⟨.bl (!(a==b)),H,I,?_,q⟩;show Value.bool (!(Value.bool a==Value.bool b))=Value.bool (!(a==b));cases a<;>cases b<;>rfl
theorem z59:G2 E (fun x y H Q=>(y=.non/\Q (.bl (decide (x=.non))) H)\/(∃a b,x=.bl a/\y=.bl b/\Q (.bl (a==b)) H)) gIs:=by
 intro tx ty W S H x y Q r dx dy p;unfold gIs at p
 split at p
 ·exact .inl ⟨zcl.mp dy,by rw[zpb dx];exact now p r (zbb.mpr rfl)⟩
 ·split at p
  ·exact .inr ⟨_,_,zbb.mp dx,zbb.mp dy,now p r (zbb.mpr rfl)⟩
  ·exact p.elim
 ·exact p.elim
theorem zzp:G2 E (fun x y H Q=>(y=.non/\Q (.bl (!decide (x=.non))) H)\/(∃a b,x=.bl a/\y=.bl b/\Q (.bl (!(a==b))) H)) zhj:=by
 intro tx ty W S H x y Q r dx dy p;unfold zhj at p
 split at p
 ·exact .inl ⟨zcl.mp dy,by rw[zpb dx];exact now p r (zbb.mpr rfl)⟩
 ·split at p
  ·exact .inr ⟨_,_,zbb.mp dx,zbb.mp dy,now p r (zbb.mpr rfl)⟩
  ·exact p.elim
 ·exact p.elim
theorem e_is(ha:PE X a (RE E fa))(hb:PE X b (RE E fb)):PE X (.Compare a [.Is] [b] pos) (RE E (e2 gIs fa fb)):=zb1 (zu6 (z0y.or z05) ha hb (zia _)) fun _ _ _=>re2 z59
theorem t_is(ha:PE X a (RE E fa))(hb:PE X b (RE E fb)):PT X (.Compare a [.Is] [b] pos) (RT E (tst (e2 gIs fa fb))):=zl1 (z0y.or z05) z59 ha hb (zia _)
theorem zv8(ha:PE X a (RE E fa))(hb:PE X b (RE E fb)):PT X (.Compare a [.IsNot] [b] pos) (RT E (tst (e2 zhj fa fb))):=zl1 (z17.or zv7) zzp ha hb (zia _)
theorem Dens.atI{W:Wd}{ts:List T}{vs:List V}{i:Int}{t:T}(h:Dens W ts vs)(e:atI ts i=some t):∃v,L2.atI vs i=some v/\Den W t v:=by
 unfold L2.atI at e ⊢;rw[<- h.length];cases e1:ixN ts.length i with
 |none=>rw[e1] at e;cases e
 | some j=>
   rw[e1] at e;exact h.get e
def gIx(x y:T):M T:=fun S=>match y with
 | .int i=>(match zdl S x with
   | some ts=>(match atI ts i with
     |some t=>.ok t S
     |none=>.bad)
   | none=>match x with
     | .str z=>if z.length<=1000 then(match atI z.cps.toList i with
       |some c=>.ok (.str ⟨#[c]⟩) S
       |none=>.bad) else .bad
     |_=>.bad)
 |_=>.bad
theorem z8u (K:PySem.W.Frag):G2 E (rIx K) gIx:=by
 intro tx ty W S H x y Q r dx dy p;unfold gIx at p
 split at p
 ·rename_i i
  cases e:zdl S tx with
  | some ts=>
    simp only[e] at p;cases e2:atI ts i with
    |none=>simp only[e2] at p;exact p.elim
    | some t=>
      simp only[e2] at p;obtain⟨a,vs,rfl,h1,h2⟩:=r.seq dx e;obtain⟨v,e3,dv⟩:=h2.atI e2;rcases h1 with h1 | h1
      ·exact .inl ⟨a,vs,i,v,rfl,zat.mp dy,.inl h1,e3,now p r dv⟩
      ·exact .inr (.inl ⟨a,vs,i,v,rfl,zat.mp dy,.inl h1,e3,now p r dv⟩)
  | none=>
    simp only[e] at p
    split at p
    ·rename_i z
     split at p
     ·rename_i hl
      cases e2:atI z.cps.toList i with
      |none=>simp only[e2] at p;exact p.elim
      | some c=>
        simp only[e2] at p;exact .inr (.inr ⟨z,i,c,zbg.mp dx,zat.mp dy,big hl,e2,now p r (zbg.mpr rfl)⟩)
     ·exact p.elim
    ·exact p.elim
 ·exact p.elim
theorem e_ix(ha:PE X a (RE E fa))(hb:PE X b (RE E fb))(hs:zvg b:=by exact fun _ _=>rfl):PE X (.Subscript a b pos) (RE E (e2 gIx fa fb)):=zb1 (z8m z5h ha hb hs) fun _ _ _=>re2 (z8u X.K)
def keyT:T->Option Key
 |.int i=>some (.inl i)
 |.str x=>some (.inr x)
 |_=>none
theorem znl{W:Wd}{t:T}{v:V}{k:Key}(d:Den W t v)(e:keyT t=some k):v=kV k:=by
 cases t with
 |int i=>cases e;exact zat.mp d
 |str i=>cases e;exact zbg.mp d
 |_=>cases e
def valT(kvs:List (Key×T))(k:Key):Option T:=(kvs.find? fun kv=>decide (kv.1=k)).map (·.2)
def putT(kvs:List (Key×T))(k:Key)(v:T):List (Key×T):=
 if(kvs.any fun kv=>decide (kv.1=k))=true then kvs.map (fun kv=>if kv.1=k then(kv.1,v) else kv) else kvs++[(k,v)]
theorem DenK.val{W:Wd}:∀{kvs:List (Key×T)} {ks:List (Key×V)} (k:Key),DenK W kvs ks->(∀t,valT kvs k=some t->∃v,valV ks k=some v/\Den W t v)/\(valT kvs k=none->valV ks k=none)
 |[],ks,k,h=>by rw[zcm.mp h];exact⟨(fun t e=>by cases e),fun _=>rfl⟩
 | (k',t)::kvs,ks,k,h=>by
   obtain⟨v,r,rfl,h1,h2⟩:=zb7.mp h;have ih:=DenK.val k h2;by_cases e:k'=k
   ·have a:valT ((k',t)::kvs) k=some t:=by simp[valT,List.find?_cons,e]
    have b:valV ((k',v)::r) k=some v:=zkg e;rw[a,b];exact⟨fun t' e'=>by cases e';exact⟨v,rfl,h1⟩,fun z=>by cases z⟩
   ·have a:valT ((k',t)::kvs) k=valT kvs k:=by simp[valT,List.find?_cons,e]
    have b:valV ((k',v)::r) k=valV r k:=zkh e;rw[a,b];exact ih
theorem DenK.any{W:Wd}:∀{kvs:List (Key×T)} {ks:List (Key×V)} (k:Key),DenK W kvs ks->(kvs.any fun kv=>decide (kv.1=k))=ks.any fun kv=>decide (kv.1=k)
 |[],ks,k,h=>by rw[zcm.mp h];rfl
 | (k',t)::kvs,ks,k,h=>by
   obtain⟨v,r,rfl,h1,h2⟩:=zb7.mp h;rw[List.any_cons,List.any_cons,DenK.any k h2]
theorem DenK.repl{W:Wd}{t0:T}{v0:V}(d:Den W t0 v0):∀{kvs:List (Key×T)} {ks:List (Key×V)} (k:Key),DenK W kvs ks->DenK W (kvs.map (fun kv=>if kv.1=k then(kv.1,t0) else kv)) (ks.map (fun kv=>if kv.1=k then(kv.1,v0) else kv))
 |[],ks,k,h=>by rw[zcm.mp h];exact DenK.nil'
 | (k',t)::kvs,ks,k,h=>by
   obtain⟨v,r,rfl,h1,h2⟩:=zb7.mp h;have ih:=DenK.repl d k h2;rw[List.map_cons,List.map_cons];by_cases e:k'=k
   ·rw[if_pos e,if_pos e];exact DenK.cons' d ih
   ·rw[if_neg e,if_neg e];exact DenK.cons' h1 ih
theorem DenK.snoc{W:Wd}{t0:T}{v0:V}(d:Den W t0 v0):∀{kvs:List (Key×T)} {ks:List (Key×V)} (k:Key),DenK W kvs ks->DenK W (kvs++[(k,t0)]) (ks++[(k,v0)])
 |[],ks,k,h=>by rw[zcm.mp h];exact DenK.cons' d DenK.nil'
 | (k',t)::kvs,ks,k,h=>by
   obtain⟨v,r,rfl,h1,h2⟩:=zb7.mp h;exact DenK.cons' h1 (DenK.snoc d k h2)
theorem DenK.put{W:Wd}{t0:T}{v0:V}(d:Den W t0 v0){kvs:List (Key×T)}{ks:List (Key×V)}(k:Key)(h:DenK W kvs ks):DenK W (putT kvs k t0) (putK ks k v0):=by
 unfold putT putK;rw[h.any k];by_cases e:(ks.any fun kv=>decide (kv.1=k))=true
 ·rw[if_pos e,if_pos e];exact DenK.repl d k h
 ·rw[if_neg e,if_neg e];exact DenK.snoc d k h
def gDix(x y:T):M T:=fun S=>match zf1 S x,keyT y with
 | some kvs,some k=>(match valT kvs k with
   |some t=>.ok t S
   |none=>.bad)
 |_,_=>.bad
def gDin(y x:T):M T:=fun S=>match zf1 S x with
 | some kvs=>(match keyT y with
   |some k=>.ok (.bl (valT kvs k).isSome) S
   | none=>match y with
     |.non=>.ok (.bl false) S
     |_=>.bad)
 |none=>.bad
def zfe(y x:T):M T:=fun S=>match zf1 S x,keyT y with
 |some kvs,some k=>.ok (.bl (!(valT kvs k).isSome)) S
 |_,_=>.bad
theorem zq0{W:Wd}{S:Sto}{H:Hp}(r:Rep W S H){tx ty:T}{x y:V}{kvs:List (Key×T)}{k:Key}(dx:Den W tx x)(dy:Den W ty y)(e1:zf1 S tx=some kvs)(e2:keyT ty=some k) :
  ∃a o,x=.ref a/\DGet H a y o/\(∀t,valT kvs k=some t->∃v,o=some v/\Den W t v)/\(valT kvs k).isSome=o.isSome:=by
 obtain⟨a,ks,rfl,h1,h2⟩:=r.dict dx e1;obtain⟨q1,q2⟩:=h2.val k;refine⟨a,valV ks k,rfl,.inl ⟨ks,k,h1,znl dy e2,rfl⟩,q1,?_⟩;cases e:valT kvs k with
 |none=>rw[q2 e];rfl
 |some t=>obtain⟨v,e3,_⟩:=q1 t e;rw[e3];rfl
theorem zt3 (hu:X.A.units+1<cLine) (ha:PE X a (RE E fa)) (hb:PE X b (RE E fb)) (hs:NoSl b:=by exact fun _ _=>rfl):PE X (.Subscript a b pos) (RE E (e2 gDix fa fb)):=
 zb1 (z2i hu ha hb hs) fun σ H Q h=>re2 (r:=fun x y H Q=>∃a v,x=.ref a/\DGet H a y (some v)/\Q v H) (fun tx ty W S H x y Q r dx dy p=>by
  unfold gDix at p;cases e1:zf1 S tx with
  |none=>simp only[e1] at p;exact p.elim
  | some kvs=>
    cases e2:keyT ty with
    |none=>simp only[e1,e2] at p;exact p.elim
    | some k=>
      simp only[e1,e2] at p;cases e3:valT kvs k with
      |none=>simp only[e3] at p;exact p.elim
      | some t=>
        simp only[e3] at p;obtain⟨a,o,rfl,g,q1,_⟩:=zq0 r dx dy e1 e2;obtain⟨v,rfl,dv⟩:=q1 t e3;exact⟨a,v,rfl,g,now p r dv⟩) h
theorem z1d:G2 E (fun y x H Q=>∃a,x=.ref a/\((∃r,DGet H a y r/\Q (.bl r.isSome) H)\/(y=.non/\(∃kvs,Rd H a (.dK kvs))/\Q (.bl false) H))) gDin:=by
 intro ty tx W S H y x Q r dy dx p;unfold gDin at p;cases e1:zf1 S tx with
 |none=>simp only[e1] at p;exact p.elim
 | some kvs=>
   simp only[e1] at p;cases e2:keyT ty with
   | some k=>
     simp only[e2] at p;obtain⟨a,o,rfl,g,_,q⟩:=zq0 r dx dy e1 e2;exact⟨a,rfl,.inl ⟨o,g,by rw[<- q];exact now p r (zbb.mpr rfl)⟩⟩
   | none=>
     simp only[e2] at p
     split at p
     ·obtain⟨a,ks,rfl,h1,h2⟩:=r.dict dx e1
      exact⟨a,rfl,.inr ⟨zcl.mp dy,⟨ks,h1⟩,now p r (zbb.mpr rfl)⟩⟩
     ·exact p.elim
theorem zv9:G2 E (fun y x H Q=>∃a o,x=.ref a/\DGet H a y o/\Q (.bl (!o.isSome)) H) zfe:=by
 intro ty tx W S H y x Q r dy dx p;unfold zfe at p;cases e1:zf1 S tx with
 |none=>simp only[e1] at p;exact p.elim
 | some kvs=>
   cases e2:keyT ty with
   |none=>simp only[e1,e2] at p;exact p.elim
   | some k=>
     simp only[e1,e2] at p;obtain⟨a,o,rfl,g,_,q⟩:=zq0 r dx dy e1 e2;exact⟨a,o,rfl,g,by rw[<- q];exact now p r (zbb.mpr rfl)⟩
theorem z8v(hu:X.A.units+1<cLine)(ha:PE X a (RE E fa))(hb:PE X b (RE E fb))(hm:behindInMarks .In b=false:=by with_unfolding_all rfl):PE X (.Compare a [.In] [b] pos) (RE E (e2 gDin fa fb)):=zb1 (z4h (zvs hu ha hb) hm) fun σ H Q h=>re2 z1d h
theorem zzq(hu:X.A.units+1<cLine)(ha:PE X a (RE E fa))(hb:PE X b (RE E fb))(hm:behindInMarks .In b=false:=by with_unfolding_all rfl):PT X (.Compare a [.In] [b] pos) (RT E (tst (e2 gDin fa fb))):=zvz (z0w (zvs hu ha hb) hm) fun σ H Q h=>re2 z1d (zv4 h)
theorem znm(hu:X.A.units+1<cLine)(ha:PE X a (RE E fa))(hb:PE X b (RE E fb))(hm:behindInMarks .NotIn b=false:=by with_unfolding_all rfl):PT X (.Compare a [.NotIn] [b] pos) (RT E (tst (e2 zfe fa fb))):=zvz (z0w (zvd hu ha hb) hm) fun σ H Q h=>re2 zv9 (zv4 h)
end
end MF
namespace MF
open PySem L2
def lstF(ts:List T):M T:=fun S=>if ts.length<=1000 then .ok (.lst ts) S else .bad
def lstC(ts:List T):M T:=fun S=>if ts.length<=1000 then .ok (.obj S.length) (S++[.lst ts]) else .bad
def tupF(ts:List T):M T:=fun S=>if ts.length<=1000 then .ok (.tup ts) S else .bad
def eA(g:List T->M T)(f:DA):DE:=fun ρ=>(f ρ).bind g
def zms:DE:=fun _ S=>.ok (.obj S.length) (S++[.dic []])
section
variable {X:Cx}{E:XK}{a b c e o:Expr}{es:List Expr}{fa fb fc:DE}{ta tb:DT}{fr:DA}{pos:Pos}
theorem reA{g:List T->M T}{r:List V->Hp->VK->Prop}(hg:∀(ts:List T) (W:Wd) (S:Sto) (H:Hp) (vs:List V) (Q:VK),Rep W S H->Dens W ts vs->Post E W (QV Q) (g ts S)->r vs H Q){σ:St}{H:Hp}{Q:VK}
  (h:RE E (eA g fr) σ H Q):RA E fr σ H (fun vs H1=>r vs H1 Q):=by
 obtain⟨W,S,ρ,rp,env,p⟩:=h;exact⟨W,S,ρ,rp,env,(Post.bind p).imp fun ts W1 S1 H1 l1 r1 p1 vs dv=>hg ts W1 S1 H1 vs Q r1 dv p1⟩
theorem zh8(h:PA X es (RA E fr)):PE X (.List es pos) (RE E (eA lstF fr)):=zb1 (z0z h) fun σ H Q q=>reA (r:=fun vs H Q=>vs.length<=sizeLine/\∀p,H p=none->Q (.ref p) (upd H p (.lst vs))) (fun ts W S H vs Q r d p=>by
 unfold lstF at p
 split at p
 ·rename_i hl;exact⟨big (by rw[<- d.length];exact hl),zo8 p r d⟩
 ·exact p.elim) q
theorem ziy(h:PA X es (RA E fr)):PE X (.List es pos) (RE E (eA lstC fr)):=zb1 (z0z h) fun σ H Q q=>reA (r:=fun vs H Q=>vs.length<=sizeLine/\∀p,H p=none->Q (.ref p) (upd H p (.lst vs))) (fun ts W S H vs Q r d p=>by
 unfold lstC at p
 split at p
 ·rename_i hl;exact⟨big (by rw[<- d.length];exact hl),zsg p r d⟩
 ·exact p.elim) q
theorem zl2{k}(h:PA X es (RA E fr)):PE X (.Tuple es k pos) (RE E (eA tupF fr)):=zb1 (z48 h) fun σ H Q q=>reA (r:=fun vs H Q=>vs.length<=sizeLine/\∀p,H p=none->Q (.ref p) (upd H p (.tup vs))) (fun ts W S H vs Q r d p=>by
 unfold tupF at p
 split at p
 ·rename_i hl;exact⟨big (by rw[<- d.length];exact hl),zqz p r d⟩
 ·exact p.elim) q
theorem znn:PE X (.Dict [] [] pos) (RE E zms):=zb1 zy8 fun σ H Q h a ha=>by
 obtain⟨W,S,ρ,r,env,p⟩:=h;refine p (W.add a) _ Wd.add_le (r.cellNew ha (.dic []) _ ⟨[],zai,DenK.nil'⟩) _ (zbn.mpr ⟨?_,?_⟩)
 ·rw[r.len,Wd.add_at]
 ·rw[r.len];exact Nat.lt_succ_self _
def gLen(t:T):M T:=fun S=>match zdl S t with
 |some ts=>.ok (.int ts.length) S
 | none=>match t with
   |.str x=>if x.length<=1000 then .ok (.int x.length) S else .bad
   |_=>.bad
theorem zfu{W:Wd}{t:T}{vs:List V}(h:Dens W [t] vs):∃v,vs=[v]/\Den W t v:=by
 obtain⟨v,r,rfl,h1,h2⟩:=za1.mp h;rw[zbl.mp h2];exact⟨v,rfl,h1⟩
theorem zq1{x:Str}{id:String}{p:Pos}{r:List V->Hp->VK->Prop}{g:T->M T}(hc:zh7 X (.builtin id) r)(hg:∀(t:T) (W:Wd) (S:Sto) (H:Hp) (v:V) (Q:VK),Rep W S H->Den W t v->Post E W (QV Q) (g t S)->r [v] H Q)
  (gl:Gl X x) (hm:X.mg x=none) (hv:bootBuiltins x=some (.builtin id)) (ha:PE X e (RE E fa)) (hn:x ≠ "__name__") (hdb:(x==("__debug__" : Str))=false)
  (he:starEach [e] X.env=(false,eval e X.env)::starEach [] X.env) (hpl:(backTo pos (starEach [] X.env)).any (·.1)=false):PE X (.Call (.Name x p) [e] [] pos) (RE E (e1 g fa)):=
 zb1 (zkf hc gl hm hv (zdr ha zhg he) hn hdb he hpl) fun σ H Q h=>re1 (r:=fun x H Q=>r [x] H Q) hg h
theorem zq2{x:Str}{id:String}{p:Pos}{r:List V->Hp->VK->Prop}{g:T->M T}(hc:zh7 X (.type id) r)(hg:∀(t:T) (W:Wd) (S:Sto) (H:Hp) (v:V) (Q:VK),Rep W S H->Den W t v->Post E W (QV Q) (g t S)->r [v] H Q)
  (gl:Gl X x) (hm:X.mg x=none) (hv:bootBuiltins x=some (.type id)) (ha:PE X e (RE E fa)) (hn:x ≠ "__name__") (hdb:(x==("__debug__" : Str))=false)
  (he:starEach [e] X.env=(false,eval e X.env)::starEach [] X.env) (hpl:(backTo pos (starEach [] X.env)).any (·.1)=false):PE X (.Call (.Name x p) [e] [] pos) (RE E (e1 g fa)):=
 zb1 (zor hc gl hm hv (zdr ha zhg he) hn hdb he hpl) fun σ H Q h=>re1 (r:=fun x H Q=>r [x] H Q) hg h
theorem z8w(K:PySem.W.Frag)(t:T)(W:Wd)(S:Sto)(H:Hp)(v:V)(Q:VK)(r:Rep W S H)(d:Den W t v)(p:Post E W (QV Q) (gLen t S)):∃x n,[v]=[x]/\LenV K x H n/\Q (.int n) H:=by
 unfold gLen at p;cases e:zdl S t with
 | some ts=>
   simp only[e] at p;obtain⟨a,vs,rfl,h1,h2⟩:=r.seq d e;refine⟨_,ts.length,rfl,?_,now p r (zat.mpr rfl)⟩;rcases h1 with h1 | h1
   ·exact .inl ⟨vs,.inl h1,h2.length⟩
   ·exact .inr ⟨vs,.inl h1,h2.length⟩
 | none=>
   simp only[e] at p
   split at p
   ·split at p
    ·rename_i hl;rw[zbg.mp d];exact⟨_,_,rfl,⟨big hl,rfl⟩,now p r (zat.mpr rfl)⟩
    ·exact p.elim
   ·exact p.elim
theorem zt4{p:Pos}(gl:Gl X "len")(hm:X.mg "len" = none)(ha:PE X e (RE E fa))
  (he:starEach [e] X.env=(false,eval e X.env)::starEach [] X.env:=by rfl) (hpl:(backTo pos (starEach [] X.env)).any (·.1)=false:=by rfl):PE X (.Call (.Name "len" p) [e] [] pos) (RE E (e1 gLen fa)):=
 zq1 zy4 (z8w X.K) gl hm PySem.boot_len ha (by decide) (by decide) he hpl
def zpc(t:T):M T:=fun S=>match t with
 | .obj k=>(match S[k]? with
   |some (.dic kvs)=>.ok (.int kvs.length) S
   |_=>.bad)
 |_=>.bad
theorem z1e{p:Pos}(gl:Gl X "len")(hm:X.mg "len" = none)(ha:PE X e (RE E fa))
  (he:starEach [e] X.env=(false,eval e X.env)::starEach [] X.env:=by rfl) (hpl:(backTo pos (starEach [] X.env)).any (·.1)=false:=by rfl):PE X (.Call (.Name "len" p) [e] [] pos) (RE E (e1 zpc fa)):=
 zq1 zvl (fun t W S H v Q r d p=>by
  unfold zpc at p
  split at p
  ·rename_i k
   split at p
   ·rename_i kvs e
    obtain⟨rfl,_⟩:=zbn.mp d;obtain⟨⟨ks,h1,h2⟩,_⟩:=r.cell k _ e;exact⟨_,ks,rfl,h1,by rw[<- h2.length];exact now p r (zat.mpr rfl)⟩
   ·exact p.elim
  ·exact p.elim) gl hm PySem.boot_len ha (by decide) (by decide) he hpl
def kT:Key->T
 |.inl i=>.int i
 |.inr x=>.str x
theorem z1f{W:Wd}(k:Key):Den W (kT k) (kV k):=by
 cases k with
 |inl i=>exact zat.mpr rfl
 |inr i=>exact zbg.mpr rfl
def zff(S:Sto)(t:T):Option (List T):=match zdl S t with
 |some ts=>some ts
 |none=>(zf1 S t).map fun kvs=>kvs.map fun p=>kT p.1
def zpd(t:T):M T:=fun S=>match zff S t with
 |some ts=>.ok (.lst ts) S
 |none=>.bad
def zjz(t:T):M T:=fun S=>match zff S t with
 |some ts=>.ok (.obj S.length) (S++[.lst ts])
 |none=>.bad
theorem zno{W:Wd}:∀{kvs:List (Key×T)} {ks:List (Key×V)},DenK W kvs ks->Dens W (kvs.map fun p=>kT p.1) (ks.map fun p=>kV p.1)
 |[],ks,h=>by rw[zcm.mp h];exact Dens.nil'
 | (k,t)::kvs,ks,h=>by
   obtain⟨v,r,rfl,h1,h2⟩:=zb7.mp h;exact Dens.cons' (z1f k) (zno h2)
abbrev z8x(K:PySem.W.Frag):List V->Hp->VK->Prop:=fun xs H Q=>(∃p ys,xs=[.ref p]/\(SqL K H p ys\/SqT K H p ys)/\∀l,H l=none->Q (.ref l) (upd H l (.lst ys))) \/
 (∃a kvs,xs=[.ref a]/\Rd H a (.dK kvs)/\∀l,H l=none->Q (.ref l) (upd H l (.lst (kvs.map fun p=>kV p.1))))
theorem zsh{K:PySem.W.Frag}{W:Wd}{S:Sto}{H:Hp}{t:T}{v:V}{ts:List T}{Q:VK}(r:Rep W S H)(d:Den W t v)(e:zff S t=some ts)(h:∀vs,Dens W ts vs->∀l,H l=none->Q (.ref l) (upd H l (.lst vs))):z8x K [v] H Q:=by
 unfold zff at e;cases e1:zdl S t with
 | some us=>
   simp only[e1] at e;cases e;obtain⟨a,vs,rfl,h1,h2⟩:=r.seq d e1;refine .inl ⟨a,vs,rfl,?_,h vs h2⟩;rcases h1 with h1 | h1
   ·exact .inl (.inl h1)
   ·exact .inr (.inl h1)
 | none=>
   simp only[e1] at e;obtain⟨kvs,e2,rfl⟩:=Option.map_eq_some_iff.mp e;obtain⟨a,ks,rfl,h1,h2⟩:=r.dict d e2;exact .inr ⟨a,ks,rfl,h1,h _ (zno h2)⟩
theorem z6a:bootBuiltins "list" = some (.type "list"):=by decide +kernel
theorem z6b:bootBuiltins "tuple" = some (.type "tuple"):=by decide +kernel
theorem z1g{p:Pos}(hc:X.calm=true)(gl:Gl X "list")(hm:X.mg "list" = none)(ha:PE X e (RE E fa))
  (he:starEach [e] X.env=(false,eval e X.env)::starEach [] X.env:=by rfl) (hpl:(backTo pos (starEach [] X.env)).any (·.1)=false:=by rfl):PE X (.Call (.Name "list" p) [e] [] pos) (RE E (e1 zpd fa)):=
 zq2 (zhh.or (zib hc)) (fun t W S H v Q r d p=>by
  unfold zpd at p;cases e:zff S t with
  |none=>simp only[e] at p;exact p.elim
  |some ts=>simp only[e] at p;exact zsh r d e fun vs dv=>zo8 p r dv) gl hm z6a ha (by decide) (by decide) he hpl
theorem zwa{p:Pos}(hc:X.calm=true)(gl:Gl X "list")(hm:X.mg "list" = none)(ha:PE X e (RE E fa))
  (he:starEach [e] X.env=(false,eval e X.env)::starEach [] X.env:=by rfl) (hpl:(backTo pos (starEach [] X.env)).any (·.1)=false:=by rfl):PE X (.Call (.Name "list" p) [e] [] pos) (RE E (e1 zjz fa)):=
 zq2 (zhh.or (zib hc)) (fun t W S H v Q r d p=>by
  unfold zjz at p;cases e:zff S t with
  |none=>simp only[e] at p;exact p.elim
  |some ts=>simp only[e] at p;exact zsh r d e fun vs dv=>zsg p r dv) gl hm z6a ha (by decide) (by decide) he hpl
def zsi(t:T):M T:=fun S=>match zdl S t with
 |some ts=>.ok (.tup ts) S
 |none=>.bad
theorem z25{p:Pos}(gl:Gl X "tuple")(hm:X.mg "tuple" = none)(ha:PE X e (RE E fa))
  (he:starEach [e] X.env=(false,eval e X.env)::starEach [] X.env:=by rfl) (hpl:(backTo pos (starEach [] X.env)).any (·.1)=false:=by rfl):PE X (.Call (.Name "tuple" p) [e] [] pos) (RE E (e1 zsi fa)):=
 zq2 znd (fun t W S H v Q r d p=>by
  unfold zsi at p;cases t with
  | tup ts=>
    simp only[zdl] at p;obtain⟨a,vs,rfl,h1,h2⟩:=zdt.mp d;exact⟨a,vs,rfl,.inr ⟨.inl (r.sub _ _ h1).1.rd,now p r d⟩⟩
  | lst ts=>
    simp only[zdl,zal] at p;obtain⟨a,vs,rfl,h1,h2⟩:=r.list d rfl;exact⟨a,vs,rfl,.inl ⟨.inl h1,zqz p r h2⟩⟩
  | obj k=>
    cases e:zal S (.obj k) with
    |none=>simp only[zdl,e] at p;exact p.elim
    | some ts=>
      simp only[zdl,e] at p;obtain⟨a,vs,rfl,h1,h2⟩:=r.list d e;exact⟨a,vs,rfl,.inl ⟨.inl h1,zqz p r h2⟩⟩
  |_=>exact p.elim) gl hm z6b ha (by decide) (by decide) he hpl
inductive BT where
 |list | tuple | str | int | bool
def BT.nm:BT->String
 |.list => "list" |.tuple => "tuple" |.str => "str" |.int => "int" |.bool => "bool"
def isaS(S:Sto)(c:BT):T->Option Bool
 |.non=>some false
 |.bl _=>some (match c with|.bool=>true | .int=>true | _=>false)
 |.int _=>some (match c with|.int=>true | _=>false)
 |.str _=>some (match c with|.str=>true | _=>false)
 |.lst _=>some (match c with|.list=>true | _=>false)
 |.tup _=>some (match c with|.tuple=>true | _=>false)
 |.dic _=>none
 | .obj k=>match S[k]? with
   |some (.lst _)=>some (match c with|.list=>true | _=>false)
   |_=>none
def gIsa(c:BT)(t:T):M T:=fun S=>match isaS S c t with
 |some b=>.ok (.bl b) S
 |none=>.bad
theorem zq3:bootBuiltins "isinstance" = some (.builtin "isinstance"):=by decide +kernel
theorem tyL{K:PySem.W.Frag}{H:Hp}{a:Addr}{vs:List V}(h:Rd H a (.lst vs)):TyOf K H (.ref a) (.type "list"):=by
 rcases h with h | ⟨o,h⟩
 ·exact .lst h
 ·exact .frz h
theorem z6c{p q:Pos}{y:Str}(c:BT)(gl:Gl X "isinstance")(hm:X.mg "isinstance" = none)(ha:PE X e (RE E fa))(gy:Gl X y)(my:X.mg y=none)(by_:bootBuiltins y=some (.type c.nm))(ny:y ≠ "__name__":=by decide)(dy:(y==("__debug__" : Str))=false:=by decide)
  (he:starEach [e,.Name y q] X.env=(false,eval e X.env)::starEach [.Name y q] X.env:=by rfl) (he2:starEach [.Name y q] X.env=(false,eval (.Name y q) X.env)::starEach [] X.env:=by rfl) (hpl:(backTo pos (starEach [.Name y q] X.env)).any (·.1)=false:=by rfl) :
  PE X (.Call (.Name "isinstance" p) [e,.Name y q] [] pos) (RE E (e1 (gIsa c) fa)):=
 zb1 (zkf zqu gl hm zq3 (zdr ha (zdr (zux (v:=.ty c.nm) gy my by_ rfl ny dy) zhg he2) he) (by decide) (by decide) he hpl) fun σ H Q h=>
  re1 (r := fun x H Q=>∃x' c' cu t b,[x,.ty c.nm]=[x',c']/\RelV c' cu/\(∀u,RelV c' u->u=cu)/\TyOf X.K H x' t/\PySem.W.kitOne X.K t cu=some b/\Q (.bl b) H) (fun t W S H v Q r d p=>by
   have go:∀{ty:Value} {b:Bool},Post E W (QV Q) (.ok (.bl b) S)->TyOf X.K H v ty->PySem.W.kitOne X.K ty (.type c.nm)=some b->∃x' c' cu t b,[v,.ty c.nm]=[x',c']/\RelV c' cu/\(∀u,RelV c' u->u=cu)/\TyOf X.K H x' t/\PySem.W.kitOne X.K t cu=some b/\Q (.bl b) H:=
    fun p ht hk=>⟨_,_,_,_,_,rfl,rfl,(fun u z=>z),ht,hk,now p r (zbb.mpr rfl)⟩
   unfold gIsa at p;cases t with
   |non=>rw[zcl.mp d] at go ⊢;cases c<;>exact go p .non rfl
   |bl b=>rw[zbb.mp d] at go ⊢;cases c<;>exact go p (.bl b) rfl
   |int b=>rw[zat.mp d] at go ⊢;cases c<;>exact go p (.int b) rfl
   |str b=>rw[zbg.mp d] at go ⊢;cases c<;>exact go p (.str b) rfl
   |lst ts=>obtain⟨a,vs,rfl,h1,h2⟩:=r.list d rfl;cases c<;>exact go p (tyL h1) rfl
   | tup ts=>
     obtain⟨a,vs,rfl,h1,h2⟩:=zdt.mp d;cases c<;>exact go p (.tup (r.sub _ _ h1).1.tup) rfl
   |dic _=>exact p.elim
   | obj k=>
     obtain⟨rfl,_⟩:=zbn.mp d;cases e:S[k]? with
     |none=>simp only[isaS,e] at p;exact p.elim
     | some cl=>
       cases cl with
       | lst ts=>
         simp only[isaS,e] at p;obtain⟨⟨vs,h1,h2⟩,_⟩:=r.cell k _ e;cases c<;>exact go p (.lst h1) rfl
       |dic _=>simp only[isaS,e] at p;exact p.elim
       |ins _ _=>simp only[isaS,e] at p;exact p.elim
       |exc _ _=>simp only[isaS,e] at p;exact p.elim
       |lck _=>simp only[isaS,e] at p;exact p.elim) h
end
end MF
namespace MF
open PySem L2
def zl3(f:Str)(v:T):List (Str×T)->List (Str×T)
 |[]=>[(f,v)]
 |(g,x)::r=>if g=f then(g,v)::r else(g,x)::zl3 f v r
theorem DenF.look{W:Wd}{f:Str}:∀{fs:List (Str×T)} {ks:List (Str×V)},DenF W fs ks->(∀t,fs.lookup f=some t->∃v,ks.lookup f=some v/\Den W t v)/\(fs.lookup f=none->ks.lookup f=none)
 |[],ks,h=>by rw[show ks=[] from h];exact⟨(fun t e=>by cases e),fun _=>rfl⟩
 | (g,t)::fs,ks,h=>by
   obtain⟨v,r,rfl,h1,h2⟩:=h;have ih:=DenF.look (f:=f) h2;by_cases e:f=g
   ·have b:(f==g)=true:=beq_iff_eq.mpr e
    simp only[List.lookup,b];exact⟨fun t' e'=>by cases e';exact⟨v,rfl,h1⟩,fun z=>by cases z⟩
   ·have b:(f==g)=false:=beq_eq_false_iff_ne.mpr e
    simp only[List.lookup,b];exact ih
theorem DenF.put{W:Wd}{f:Str}{t0:T}{v0:V}(d:Den W t0 v0):∀{fs:List (Str×T)} {ks:List (Str×V)},DenF W fs ks->DenF W (zl3 f t0 fs) (putF f v0 ks)
 |[],ks,h=>by rw[show ks=[] from h];exact⟨_,_,rfl,d,rfl⟩
 | (g,t)::fs,ks,h=>by
   obtain⟨v,r,rfl,h1,h2⟩:=h;have ih:=DenF.put (f:=f) d h2;rw[show zl3 f t0 ((g,t)::fs)=(if g=f then(g,t0)::fs else(g,t)::zl3 f t0 fs) from rfl,show putF f v0 ((g,v)::r)=(if g=f then(g,v0)::r else(g,v)::putF f v0 r) from rfl];by_cases e:g=f
   ·rw[if_pos e,if_pos e];exact⟨_,_,rfl,d,h2⟩
   ·rw[if_neg e,if_neg e];exact⟨_,_,rfl,h1,ih⟩
def zhc(S:Sto)(C:Addr):T->Option (Nat×List (Str×T))
 | .obj k=>match S[k]? with
   |some (.ins C' fs)=>if C'=C then some (k,fs) else none
   |_=>none
 |_=>none
theorem Rep.inst {W:Wd} {S:Sto} {H:Hp} (r:Rep W S H) {C:Addr} {t:T} {v:V} {k:Nat} {fs:List (Str×T)} (d:Den W t v) (h:zhc S C t=some (k,fs)) :
  ∃dx ks,v=.ref (W.μ k)/\S[k]?=some (.ins C fs)/\H (W.μ k)=some (.ins C dx ks)/\DenF W fs ks:=by
 cases t with
 | obj j=>
   obtain⟨rfl,hj⟩:=zbn.mp d;unfold zhc at h;cases e:S[j]? with
   |none=>simp[e] at h
   | some c=>
     cases c with
     | ins C' fs'=>
       simp only[e] at h
       split at h
       ·rename_i hc
        cases h;subst hc;obtain⟨⟨dx,ks,h1,h2⟩,_⟩:=r.cell _ _ e;exact⟨dx,ks,rfl,e,h1,h2⟩
       ·cases h
     |lst _=>simp[e] at h
     |dic _=>simp[e] at h
     |exc _ _=>simp[e] at h
     |lck _=>simp[e] at h
 |_=>simp[zhc] at h
def gFld(C:Addr)(f:Str)(t:T):M T:=fun S=>match zhc S C t with
 | some (_,fs)=>(match fs.lookup f with
   |some u=>.ok u S
   |none=>.bad)
 |none=>.bad
def zii(C:Addr)(f:Str)(fo fv:DE):DS:=fun ρ=>(fv ρ).bind fun t=>(fo ρ).bind fun o=>fun S=>match zhc S C o with
 |some (k,fs)=>if fs.length<900 then .ok (.nx ρ) (S.set k (.ins C (zl3 f t fs))) else .bad
 |none=>.bad
def znp(fd fk fv:DE):DS:=fun ρ=>(fv ρ).bind fun t=>(fd ρ).bind fun d=>(fk ρ).bind fun k=>fun S=>match d,keyT k with
 | .obj j,some key=>(match S[j]? with
   |some (.dic kvs)=>if kvs.length<=900 then .ok (.nx ρ) (S.set j (.dic (putT kvs key t))) else .bad
   |_=>.bad)
 |_,_=>.bad
def z26(fl fi fv:DE):DS:=fun ρ=>(fv ρ).bind fun t=>(fl ρ).bind fun l=>(fi ρ).bind fun i=>fun S=>match l,i with
 | .obj j,.int n=>(match S[j]? with
   | some (.lst ts)=>(match ixN ts.length n with
     |some m=>.ok (.nx ρ) (S.set j (.lst (ts.set m t)))
     |none=>.bad)
   |_=>.bad)
 |_,_=>.bad
section
variable {X:Cx}{E:XK}{a b c e o i value:Expr}{es:List Expr}{fa fb fc fo fv fi:DE}{ta tb:DT}{fr:DA}{pos pos':Pos}{f:Str}{C:Addr}
theorem zgl(cl:Cls X.K C)(na:zdn X.K C f)(ha:PE X e (RE E fa))(hb:attributeBase e f X.env (eval e X.env)=eval e X.env:=by rfl):PE X (.Attribute e f pos) (RE E (e1 (gFld C f) fa)):=
 zb1 (z46 ha hb) fun σ H Q h=>re1 (r:=fun x H1 Q=>∃a C dx fs v,x=.ref a/\H1 a=some (.ins C dx fs)/\Cls X.K C/\zdn X.K C f/\fs.lookup f=some v/\Q v H1) (fun t W S H v Q r d p=>by
  unfold gFld at p;cases e:zhc S C t with
  |none=>simp only[e] at p;exact p.elim
  | some q=>
    obtain⟨k,fs⟩:=q;simp only[e] at p;cases e2:fs.lookup f with
    |none=>simp only[e2] at p;exact p.elim
    | some u=>
      simp only[e2] at p;obtain⟨dx,ks,rfl,h0,h1,h2⟩:=r.inst d e;obtain⟨v,e3,dv⟩:=h2.look.1 u e2;exact⟨_,C,dx,ks,v,rfl,h1,cl,na,e3,now p r dv⟩) h
theorem zjg(cl:Cls X.K C)(na:zdn X.K C f)(ho:PE X o (RE E fo))(hv:PE X value (RE E fv))(hs:swapsWith value (some (.Attribute o f pos')) pos.line X.env=pure false:=by rfl):PS X (.Assign [.Attribute o f pos'] value pos) (RS E (zii C f fo fv)):=
 zit (z47 ho hv hs) fun D σ H h=>by
  obtain⟨W,S,ρ,rp,env,p⟩:=h;refine⟨W,S,ρ,rp,env,(Post.bind p).imp fun t W1 S1 H1 l1 r1 p1 y dy=>?_⟩;refine⟨W1,S1,ρ,r1,env.mono l1,(Post.bind p1).imp fun o W2 S2 H2 l2 r2 p2 x dx=>?_⟩;cases e:zhc S2 C o with
  |none=>simp only[e] at p2;exact p2.elim
  | some q=>
    obtain⟨k,fs⟩:=q;simp only[e] at p2
    split at p2
    ·rename_i hl
     obtain⟨d',ks,rfl,h0,h1,h2⟩:=r2.inst dx e;refine⟨_,C,d',ks,rfl,h1,cl,na,by rw[<- h2.length];omega,?_⟩;exact p2 W2 _ (Wd.le.refl _) (r2.cellSet h0 _ _ ⟨d',_,zai,h2.put (Den.mono l2 _ _ dy)⟩) σ (env.mono (l1.trans l2))
    ·exact p2.elim
theorem zmt(hu:X.A.units+1<cLine)(ho:PE X o (RE E fo))(hi:PE X i (RE E fi))(hv:PE X value (RE E fv))(hs:swapsWith value (some (.Subscript o i pos')) pos.line X.env=pure false:=by rfl):PS X (.Assign [.Subscript o i pos'] value pos) (RS E (znp fo fi fv)):=
 zit (z2j hu ho hi hv hs) fun D σ H h=>by
  obtain⟨W,S,ρ,rp,env,p⟩:=h;refine⟨W,S,ρ,rp,env,(Post.bind p).imp fun t W1 S1 H1 l1 r1 p1 v dv=>?_⟩;refine⟨W1,S1,ρ,r1,env.mono l1,(Post.bind p1).imp fun d W2 S2 H2 l2 r2 p2 x dx=>?_⟩;refine⟨W2,S2,ρ,r2,env.mono (l1.trans l2),(Post.bind p2).imp fun k W3 S3 H3 l3 r3 p3 y dy=>?_⟩;have dx:=Den.mono l3 _ _ dx;have dv:=Den.mono (l2.trans l3) _ _ dv
  split at p3
  ·rename_i e2
   split at p3
   ·rename_i kvs e
    split at p3
    ·rename_i hl
     obtain⟨rfl,_⟩:=zbn.mp dx;obtain⟨⟨ks,h1,h2⟩,_⟩:=r3.cell _ _ e;refine⟨_,_,rfl,.inl ⟨ks,_,h1,znl dy ‹keyT k=some _›,zoz (by rw[<- h2.length];omega),rfl⟩,?_⟩;exact p3 W3 _ (Wd.le.refl _) (r3.cellSet e _ _ ⟨_,zai,h2.put dv _⟩) σ (env.mono (l1.trans (l2.trans l3)))
    ·exact p3.elim
   ·exact p3.elim
  ·exact p3.elim
theorem z6d(ho:PE X o (RE E fo))(hi:PE X i (RE E fi))(hv:PE X value (RE E fv))(hg:∀{to ti:TE},PE X o to->PE X i ti->PG X (.Subscript o i pos') (gSub to ti z5i):=by exact fun h1 h2=>z4o h1 h2 zzb)
  (hs:swapsWithSole [.Subscript o i pos'] value pos.line X.env=pure false:=by rfl) (hw:swappedStores [.Subscript o i pos'] value X.env=pure none:=by rfl)
  (h1:(assignEach [.Subscript o i pos'] X.env).map (·.2)=[assign (.Subscript o i pos') X.env]:=by rfl):PS X (.Assign [.Subscript o i pos'] value pos) (RS E (z26 fo fi fv)):=
 zit (z4p hv (hg ho hi) hs hw h1) fun D σ H h=>by
  obtain⟨W,S,ρ,rp,env,p⟩:=h;refine⟨W,S,ρ,rp,env,(Post.bind p).imp fun t W1 S1 H1 l1 r1 p1 v dv=>?_⟩;refine⟨W1,S1,ρ,r1,env.mono l1,(Post.bind p1).imp fun d W2 S2 H2 l2 r2 p2 x dx=>?_⟩;refine⟨W2,S2,ρ,r2,env.mono (l1.trans l2),(Post.bind p2).imp fun k W3 S3 H3 l3 r3 p3 y dy=>?_⟩;have dx:=Den.mono l3 _ _ dx;have dv:=Den.mono (l2.trans l3) _ _ dv
  split at p3
  ·split at p3
   ·rename_i ts e
    split at p3
    ·rename_i m em
     obtain⟨rfl,_⟩:=zbn.mp dx;obtain⟨⟨vs,h1,h2⟩,_⟩:=r3.cell _ _ e;refine⟨_,vs,_,m,rfl,zat.mp dy,h1,by rw[<- h2.length];exact em,?_⟩;exact p3 W3 _ (Wd.le.refl _) (r3.cellSet e _ _ ⟨_,zai,h2.set dv m⟩) σ (env.mono (l1.trans (l2.trans l3)))
    ·exact p3.elim
   ·exact p3.elim
  ·exact p3.elim
def eMt(ok:Sto->T->Bool)(g:T->List T->M T)(fo:DE)(fr:DA):DE:=fun ρ=>(fo ρ).bind fun t=>fun S=>if ok S t=true then((fr ρ).bind fun ts=>g t ts) S else .bad
def okL(S:Sto)(t:T):Bool:=(zal S t).isSome
def okS(_:Sto):T->Bool
 |.str _=>true
 |_=>false
def GM(E:XK)(r:V->List V->Hp->VK->Prop)(g:T->List T->M T):Prop:=∀(t:T) (ts:List T) (W:Wd) (S:Sto) (H:Hp) (v:V) (vs:List V) (Q:VK),Rep W S H->Den W t v->Dens W ts vs->Post E W (QV Q) (g t ts S)->r v vs H Q
theorem zwb{K:PySem.W.Frag}{W:Wd}{S:Sto}{H:Hp}{t:T}{v:V}(r:Rep W S H)(d:Den W t v)(h:okL S t=true):tyV K "list" v H:=by
 obtain⟨ts,e⟩:=Option.isSome_iff_exists.mp h;obtain⟨a,vs,rfl,h1,_⟩:=r.list d e;exact .inl ⟨rfl,vs,.inl h1⟩
theorem z6e{K:PySem.W.Frag}{W:Wd}{S:Sto}{H:Hp}{t:T}{v:V}(r:Rep W S H)(d:Den W t v)(h:okS S t=true):tyV K "str" v H:=by
 cases t with
 |str x=>rw[zbg.mp d];exact rfl
 |_=>cases h
theorem e_mt{ok:Sto->T->Bool}{T' id:String}{name:Str}{r:V->List V->Hp->VK->Prop}{g:T->List T->M T}{apos:Pos}(pa:PlainAttrs T')(slot:Slot T' name id)(hty:typeOf (.builtin id)=pure (.type "method_descriptor"))(hm:MtR X id r)
  (hok:∀{W:Wd} {S:Sto} {H:Hp} {t:T} {v:V},Rep W S H->Den W t v->ok S t=true->tyV X.K T' v H) (hg:GM E r g) (ho:PE X o (RE E fo)) (ha:PA X (e::es) (RA E fr))
  (hbase:attributeBase o name X.env (eval o X.env)=eval o X.env:=by rfl)
  (hfew:((backTo pos (starEach (e::es) X.env)).all (fun x=>!x.1)&&(backToKw pos (keywordEach [] X.env)).all (fun x=>x.1.isSome)
   && decide ((e::es).length+([]:List Keyword).length+(if([]:List Keyword).isEmpty then 0 else 1)<30))=true:=by rfl)
  (hline:(apos.endLine==pos.line)=true:=by rfl) (hs:starEach (e::es) X.env=(false,eval e X.env)::starEach es X.env:=by rfl) (hplain:(backTo pos (starEach es X.env)).any (·.1)=false:=by rfl) :
  PE X (.Call (.Attribute o name apos) (e::es) [] pos) (RE E (eMt ok g fo fr)):=
 zb1 (z8n pa slot hty hm ho ha hbase hfew hline hs hplain) fun σ H Q h=>by
  obtain⟨W,S,ρ,rp,env,p⟩:=h;refine⟨W,S,ρ,rp,env,(Post.bind p).imp fun t W1 S1 H1 l1 r1 p1 v dv=>?_⟩
  split at p1
  ·rename_i h
   refine⟨hok r1 dv h,W1,S1,ρ,r1,env.mono l1,(Post.bind p1).imp fun ts W2 S2 H2 l2 r2 p2 vs dvs=>?_⟩;exact hg t ts W2 S2 H2 v vs Q r2 (Den.mono l2 _ _ dv) dvs p2
  ·exact p1.elim
def cellL(S:Sto):T->Option (Nat×List T)
 | .obj k=>match S[k]? with
   |some (.lst ts)=>some (k,ts)
   |_=>none
 |_=>none
theorem Rep.cellL{W:Wd}{S:Sto}{H:Hp}(r:Rep W S H){t:T}{v:V}{k:Nat}{ts:List T}(d:Den W t v)(h:cellL S t=some (k,ts)):∃vs,v=.ref (W.μ k)/\S[k]?=some (.lst ts)/\H (W.μ k)=some (.lst vs)/\Dens W ts vs:=by
 cases t with
 | obj j=>
   obtain⟨rfl,hj⟩:=zbn.mp d;unfold MF.cellL at h;cases e:S[j]? with
   |none=>simp[e] at h
   | some c=>
     cases c with
     | lst us=>
       simp only[e] at h;cases h;obtain⟨⟨vs,h1,h2⟩,_⟩:=r.cell _ _ e;exact⟨vs,rfl,e,h1,h2⟩
     |dic _=>simp[e] at h
     |ins _ _=>simp[e] at h
     |exc _ _=>simp[e] at h
     |lck _=>simp[e] at h
 |_=>simp[MF.cellL] at h
def gApp(t:T)(as:List T):M T:=fun S=>match cellL S t,as with
 |some (k,ts),[y]=>if ts.length<1000 then .ok .non (S.set k (.lst (ts++[y]))) else .bad
 |_,_=>.bad
def gExt(t:T)(as:List T):M T:=fun S=>match cellL S t,as with
 | some (k,ts),[y]=>(match zal S y with
   |some us=>if ts.length+us.length<=1000 then .ok .non (S.set k (.lst (ts++us))) else .bad
   |none=>.bad)
 |_,_=>.bad
theorem z6f:GM E zvi gApp:=by
 intro t as W S H v vs Q r d da p;unfold gApp at p
 split at p
 ·rename_i k ts y e
  split at p
  ·rename_i hl
   obtain⟨us,rfl,h0,h1,h2⟩:=r.cellL d e;obtain⟨w,rfl,dw⟩:=zfu da;exact⟨_,us,w,rfl,rfl,h1,Nat.lt_of_lt_of_le (by rw[<- h2.length];exact hl) (big (Nat.le_refl _)),p W _ (Wd.le.refl _) (r.cellSet h0 _ _ ⟨_,zai,h2.append (Dens.cons' dw Dens.nil')⟩) _ (zcl.mpr rfl)⟩
  ·exact p.elim
 ·exact p.elim
def zsj:V->List V->Hp->VK->Prop:=fun x vs H Q=>∃l b xs zs,x=.ref l/\vs=[.ref b]/\H l=some (.lst xs)/\Rd H b (.lst zs)/\xs.length+zs.length<=sizeLine/\Q .non (upd H l (.lst (xs++zs)))
theorem zt5:MtR X "list.extend" zsj:=by
 intro pins s σ H x vs v us Q I rx rv h;obtain⟨l,b,xs,zs,rfl,rfl,hH,hB,hz,q⟩:=h;cases rx;obtain⟨u,rfl,ru⟩:=rv.one;cases ru;obtain⟨z,its,n,r,hl,e⟩:=I.lstM hH;obtain⟨z2,its2,n2,r2,e2⟩:=hB.ok I.hok;have hl2:=r2.length;have hsz:its.toArray.size+its2.toArray.size<=sizeLine:=by rw[List.size_toArray,List.size_toArray];omega
 have hlong:¬(!its.toArray.isEmpty&&Builtin.List.listTooLong (its.toArray.size+its2.toArray.size))=true:=by
  rw[zzc hsz,Bool.and_false];exact Bool.false_ne_true
 refine call_meets F.slot_list_extend ⟨_,e,rfl⟩ F.entry_list_extend (F.args_list_extend_2 _ _)
  (AutoSeq1.list_extend_list_list_0 l its.toArray n b its2.toArray n2 hlong (by rw[List.size_toArray];omega) (by omega)) ⟨e,e2,?_⟩
 refine⟨.non,_,I.lset (its':=its++its2) hH e (by simp) (r.append r2) ?_,rfl,q⟩;rw[List.length_append];omega
theorem z6g:GM E zsj gExt:=by
 intro t as W S H v vs Q r d da p;unfold gExt at p
 split at p
 ·rename_i k ts y e
  cases e2:zal S y with
  |none=>simp only[e2] at p;exact p.elim
  | some zs=>
    simp only[e2] at p
    split at p
    ·rename_i hl
     obtain⟨us,rfl,h0,h1,h2⟩:=r.cellL d e;obtain⟨w,rfl,dw⟩:=zfu da;obtain⟨b,ws,rfl,h3,h4⟩:=r.list dw e2;exact⟨_,b,us,ws,rfl,rfl,h1,h3,big (by rw[<- h2.length,<- h4.length];exact hl),p W _ (Wd.le.refl _) (r.cellSet h0 _ _ ⟨_,zai,h2.append h4⟩) _ (zcl.mpr rfl)⟩
    ·exact p.elim
 ·exact p.elim
def zee:List T->Option (List Str)
 |[]=>some []
 |.str x::ts=>(zee ts).map (x::·)
 |_::_=>none
theorem ziz{W:Wd}:∀{ts:List T} {vs:List V} {ys:List Str},Dens W ts vs->zee ts=some ys->vs=ys.map V.str
 |[],vs,ys,h,e=>by cases e;exact zbl.mp h
 | t :: ts,vs,ys,h,e=>by
   obtain⟨v,r,rfl,h1,h2⟩:=za1.mp h;cases t with
   | str x=>
     simp only[zee] at e;obtain⟨zs,e1,rfl⟩:=Option.map_eq_some_iff.mp e;rw[zbg.mp h1,ziz h2 e1];rfl
   |_=>simp[zee] at e
def zt6(t:T)(as:List T):M T:=fun S=>match t,as with
 | .str z,[y]=>(match (zal S y).bind zee with
   |some ys=>if(ys.map (·.length)).sum+ys.length*z.length<=100000 then .ok (.str (Txt.join z ys)) S else .bad
   |none=>.bad)
 |_,_=>.bad
theorem z27(K:PySem.W.Frag):GM E (fun x xs H Q=>∃z l ys,x=.str z/\xs=[.ref l]/\SqL K H l (ys.map V.str)/\(ys.map (·.length)).sum+ys.length*z.length<=16777216/\Q (.str (Txt.join z ys)) H) zt6:=by
 intro t as W S H v vs Q r d da p;unfold zt6 at p
 split at p
 ·rename_i z y
  cases e:(zal S y).bind zee with
  |none=>simp only[e] at p;exact p.elim
  | some ys=>
    simp only[e] at p
    split at p
    ·rename_i hl
     obtain⟨us,e1,e2⟩:=Option.bind_eq_some_iff.mp e;obtain⟨w,rfl,dw⟩:=zfu da;obtain⟨b,ws,rfl,h3,h4⟩:=r.list dw e1;rw[ziz h4 e2] at h3;exact⟨z,b,ys,zbg.mp d,rfl,.inl h3,by omega,now p r (zbg.mpr rfl)⟩
    ·exact p.elim
 ·exact p.elim
theorem zzr{apos:Pos}(ho:PE X o (RE E fo))(ha:PA X [e] (RA E fr))(hbase:attributeBase o "append" X.env (eval o X.env)=eval o X.env:=by rfl)
  (hline:(apos.endLine==pos.line)=true:=by rfl) (hs:starEach [e] X.env=(false,eval e X.env)::starEach [] X.env:=by rfl)
  (hfew:((backTo pos (starEach [e] X.env)).all (fun x=>!x.1)&&(backToKw pos (keywordEach [] X.env)).all (fun x=>x.1.isSome)&&decide ([e].length+([]:List Keyword).length+(if([]:List Keyword).isEmpty then 0 else 1)<30))=true:=by rfl):PE X (.Call (.Attribute o "append" apos) [e] [] pos) (RE E (eMt okL gApp fo fr)):=
 e_mt PySem.F.plainAttrs_list PySem.F.slot_list_append PySem.F.type_list_append zkw zwb z6f ho ha hbase hfew hline hs rfl
theorem zt7{apos:Pos}(ho:PE X o (RE E fo))(ha:PA X [e] (RA E fr))(hbase:attributeBase o "extend" X.env (eval o X.env)=eval o X.env:=by rfl)
  (hline:(apos.endLine==pos.line)=true:=by rfl) (hs:starEach [e] X.env=(false,eval e X.env)::starEach [] X.env:=by rfl)
  (hfew:((backTo pos (starEach [e] X.env)).all (fun x=>!x.1)&&(backToKw pos (keywordEach [] X.env)).all (fun x=>x.1.isSome)&&decide ([e].length+([]:List Keyword).length+(if([]:List Keyword).isEmpty then 0 else 1)<30))=true:=by rfl):PE X (.Call (.Attribute o "extend" apos) [e] [] pos) (RE E (eMt okL gExt fo fr)):=
 e_mt PySem.F.plainAttrs_list PySem.F.slot_list_extend PySem.F.type_list_extend zt5 zwb z6g ho ha hbase hfew hline hs rfl
theorem z6h{apos:Pos}(ho:PE X o (RE E fo))(ha:PA X [e] (RA E fr))(hbase:attributeBase o "join" X.env (eval o X.env)=eval o X.env:=by rfl)
  (hline:(apos.endLine==pos.line)=true:=by rfl) (hs:starEach [e] X.env=(false,eval e X.env)::starEach [] X.env:=by rfl)
  (hfew:((backTo pos (starEach [e] X.env)).all (fun x=>!x.1)&&(backToKw pos (keywordEach [] X.env)).all (fun x=>x.1.isSome)&&decide ([e].length+([]:List Keyword).length+(if([]:List Keyword).isEmpty then 0 else 1)<30))=true:=by rfl):PE X (.Call (.Attribute o "join" apos) [e] [] pos) (RE E (eMt okS zt6 fo fr)):=
 e_mt PySem.F.plainAttrs_str PySem.F.slot_str_join PySem.F.type_str_join z2t z6e (z27 X.K) ho ha hbase hfew hline hs rfl
end
end MF
namespace MF
open PySem L2
def sNx:DS:=fun ρ=>M.pure (.nx ρ)
def sSeq(f g:DS):DS:=fun ρ=>(f ρ).bind fun x=>match x with
 |.nx ρ'=>g ρ'
 |o=>M.pure o
def sRet(f:DE):DS:=fun ρ=>(f ρ).bind fun t=>M.pure (.rt t)
def zez(f:DE):DS:=fun ρ=>(f ρ).bind fun _=>M.pure (.nx ρ)
def sSet(i:Nat)(f:DE):DS:=fun ρ=>(f ρ).bind fun t=>M.pure (.nx (ρ.set i (some t)))
def sIf(c:DT)(f g:DS):DS:=fun ρ=>(c ρ).bind fun b=>if b=true then f ρ else g ρ
theorem zk5{α:Type}{E:XK}{W W':Wd}{Q:α->Wd->Sto->Hp->Prop}{r:R α}(h:Post E W Q r)(l:W.le W'):Post E W' Q r:=by
 cases r with
 |ok a S=>exact fun W2 H2 l2 rp=>h W2 H2 (l.trans l2) rp
 |exc C fs S=>exact fun W2 H2 dx l2 rp=>h W2 H2 dx (l.trans l2) rp
 |bad=>exact h
section
variable {X:Cx}{E:XK}{a b c e o:Expr}{es:List Expr}{fa fb fc:DE}{tc:DT}{fr:DA}{pos:Pos}{st:Stmt}{rest sa sb:List Stmt}{f g:DS}
theorem z8y{D:Ends}{σ:St}{H:Hp}(h:RS E sNx D σ H):D.nx σ H:=by
 obtain⟨W,S,ρ,rp,env,p⟩:=h;exact p W H (Wd.le.refl _) rp σ env
theorem zbp:PSs X [] (RS E sNx):=z08 z13 fun D σ H h=>z8y h
theorem z6i{D:Ends}{σ:St}{H:Hp}(h:RS E (sSeq f g) D σ H):tSeq (RS E f) (RS E g) D σ H:=by
 obtain⟨W,S,ρ,rp,env,p⟩:=h;refine⟨W,S,ρ,rp,env,(Post.bind p).imp fun x W1 S1 H1 l1 r1 p1=>?_⟩;cases x with
 |nx ρ'=>exact fun σ' e'=>⟨W1,S1,ρ',r1,e',p1⟩
 |rt t=>exact p1 W1 H1 (Wd.le.refl _) r1
 |bk ρ'=>exact p1 W1 H1 (Wd.le.refl _) r1
 |ct ρ'=>exact p1 W1 H1 (Wd.le.refl _) r1
theorem zad(h1:PS X st (RS E f))(h2:PSs X rest (RS E g)):PSs X (st::rest) (RS E (sSeq f g)):=z08 (zrz h1 h2) fun D σ H h=>z6i h
theorem zaj(h1:PS X st (RS E f)):PSs X [st] (RS E f):=zuy h1
theorem zca(ha:PE X e (RE E fa)):PS X (.Return (some e) pos) (RS E (sRet fa)):=zit (z4m ha) fun D σ H h=>by
 obtain⟨W,S,ρ,rp,env,p⟩:=h;exact⟨W,S,ρ,rp,env,(Post.bind p).imp fun t W1 S1 H1 l1 r1 p1 v dv=>p1 W1 H1 (Wd.le.refl _) r1 v dv⟩
theorem zdj(ha:PE X e (RE E fa))(hs:swapsWith e none pos.line X.env=pure false:=by rfl):PS X (.Expr e pos) (RS E (zez fa)):=zit (zuz ha hs) fun D σ H h=>by
 obtain⟨W,S,ρ,rp,env,p⟩:=h;exact⟨W,S,ρ,rp,env,(Post.bind p).imp fun t W1 S1 H1 l1 r1 p1 v dv=>p1 W1 H1 (Wd.le.refl _) r1 σ (env.mono l1)⟩
theorem zwc{i:Nat}{D:Ends}{σ:St}{H:Hp}(h:RS E (sSet i fa) D σ H):tAsg (RE E fa) (zlx i) D σ H:=by
 obtain⟨W,S,ρ,rp,env,p⟩:=h;exact⟨W,S,ρ,rp,env,(Post.bind p).imp fun t W1 S1 H1 l1 r1 p1 v dv=>p1 W1 H1 (Wd.le.refl _) r1 _ ((env.mono l1).set dv i)⟩
theorem zcb{i:Nat}{x:Str}{pos':Pos}(hN:X.N.Nodup)(hi:X.N[i]?=some x)(hx:Loc X.env.scope x)(he:PE X e (RE E fa))(hs:swapsWith e (some (.Name x pos')) pos.line X.env=pure false:=by rfl)(hf:X.fn x=true\/X.env.scope.names.lookup x=some .local:=by first | exact .inl rfl | exact .inr rfl | assumption)
 (hkn:∀u:V,X.kn[i]?≠some (some u):=by first | assumption | exact fun u h=>nomatch (show(none:Option (Option V))=some (some u) from h) | exact fun u h=>nomatch (Option.some.inj (show some (none:Option V)=some (some u) from h))) :
 PS X (.Assign [.Name x pos'] e pos) (RS E (sSet i fa)):=zit (z4q hN hi hx he hs hf hkn) fun D σ H h=>zwc h
theorem s_if(hc:PT X c (RT E tc))(ha:PSs X sa (RS E f))(hb:PSs X sb (RS E g)):PS X (.If c sa sb pos) (RS E (sIf tc f g)):=zit (z77 hc ha hb) fun D σ H h=>by
 obtain⟨W,S,ρ,rp,env,p⟩:=h;refine⟨W,S,ρ,rp,env,(Post.bind p).imp fun k W1 S1 H1 l1 r1 p1=>?_⟩;cases k with
 |true=>exact iteT ⟨W1,S1,ρ,r1,env.mono l1,p1⟩
 |false=>exact iteF ⟨W1,S1,ρ,r1,env.mono l1,p1⟩
abbrev DG:=T->Ev->Option Ev
def GT(gl:TG)(g:DG):Prop:=∀(W:Wd) (S:Sto) (H:Hp) (t:T) (x:V) (ρ ρ2:Ev) (σ:St) (Q:St->Hp->Prop),Rep W S H->Den W t x->za6 W ρ σ->g t ρ=some ρ2->(∀σ2,za6 W ρ2 σ2->Q σ2 H)->gl x σ H Q
def zaw(i:Nat):DG:=fun t ρ=>some (ρ.set i (some t))
theorem zbh(i:Nat):GT (zlx i) (zaw i):=fun W S H t x ρ ρ2 σ Q r d env e h=>by
 cases e;exact h _ (env.set d i)
def zt8(i j:Nat):DG:=fun t ρ=>match t with
 |.tup [a,b]=>some ((ρ.set i (some a)).set j (some b))
 |_=>none
theorem z28(K:PySem.W.Frag)(i j:Nat):GT (gTup K 2 (z14 (zlx i) (z14 (zlx j) gNil))) (zt8 i j):=fun W S H t x ρ ρ2 σ Q r d env e h=>by
 unfold zt8 at e
 split at e
 ·cases e
  obtain⟨p,vs,rfl,h1,h2⟩:=zdt.mp d;obtain⟨v,r1,rfl,d1,h3⟩:=za1.mp h2;obtain⟨w,rfl,d2⟩:=zfu h3;exact⟨p,_,rfl,.inl (r.sub _ _ h1).1.rd,rfl,v,_,rfl,w,_,rfl,rfl,h _ ((env.set d1 i).set d2 j)⟩
 ·cases e
structure ItOk(W1:Wd)(ts:List T)(st:Sto->Prop)(J:It):Prop where
 go:∀i W' S' H',W1.le W'->Rep W' S' H'->st S'->i<ts.length->J.go i H'/\∀x H'',J.yld i H' x H''->∃W'' t,W'.le W''/\Rep W'' S' H''/\ts[i]?=some t/\Den W'' t x
 stop:∀i W' S' H',W1.le W'->Rep W' S' H'->st S'->i=ts.length->J.stop i H'
abbrev DI:=Ev->M (List T×(Sto->Prop))
def RI(E:XK)(it:DI)(wi:TI):Prop:=∀(σ:St) (H:Hp) (R:It->Hp->Prop),(∃W S ρ,Rep W S H/\za6 W ρ σ/\Post E W (fun q W1 S1 H1=>∀J W2 H2,W1.le W2->Rep W2 S1 H2->ItOk W2 q.1 q.2 J->R J H2) (it ρ S))->wi σ H R
def iL(f:DE):DI:=fun ρ=>(f ρ).bind fun t=>fun S=>match zal S t with
 |some ts=>.ok (ts,fun S'=>zal S' t=some ts) S
 |none=>.bad
theorem zcn(K:PySem.W.Frag):RI E (iL fa) (z4t K (RE E fa)):=fun σ H R h=>by
 obtain⟨W,S,ρ,rp,env,p⟩:=h;refine⟨W,S,ρ,rp,env,(Post.bind p).imp fun t W1 S1 H1 l1 r1 p1 v dv=>?_⟩;cases e:zal S1 t with
 |none=>simp only[e] at p1;exact p1.elim
 | some ts=>
   simp only[e] at p1;obtain⟨a,vs,rfl,h1,h2⟩:=r1.list dv e;refine⟨a,rfl,⟨vs,.inl h1⟩,p1 W1 H1 (Wd.le.refl _) r1 _ W1 H1 (Wd.le.refl _) r1 ⟨fun i W' S' H' l r' st hi=>?_,fun i W' S' H' l r' st hi=>?_⟩⟩
   ·obtain⟨a',us,ea,g1,g2⟩:=r'.list (Den.mono l _ _ dv) st
    cases ea;have hi':i<us.length:=g2.length▸hi;refine⟨⟨us,us[i],.inl g1,List.getElem?_eq_getElem hi'⟩,fun x H'' y=>?_⟩;obtain⟨rfl,y⟩:=y;have ex:=y us (.inl g1);obtain⟨t',e1,d1⟩:=g2.get' ex;exact⟨W',t',Wd.le.refl _,r',e1,d1⟩
   ·obtain⟨a',us,ea,g1,g2⟩:=r'.list (Den.mono l _ _ dv) st
    cases ea;exact⟨us,.inl g1,by rw[<- g2.length];exact Nat.le_of_eq hi.symm⟩
def zeu(lo:Int)(n:Nat):List T:=(List.range n).map fun(k:Nat)=>T.int (lo+k)
theorem zfg(lo:Int)(n:Nat):(zeu lo n).length=n:=by simp[zeu]
theorem zsk{lo:Int}{n i:Nat}(h:i<n):(zeu lo n)[i]?=some (.int (lo+i)):=by simp[zeu,h]
def iR1(f:DA):DI:=fun ρ=>(f ρ).bind fun ts=>fun S=>match ts with
 |[.int j]=>if -1000000<=j/\j<=1000000 then .ok (zeu 0 j.toNat,fun _=>True) S else .bad
 |_=>.bad
def iR2(f:DA):DI:=fun ρ=>(f ρ).bind fun ts=>fun S=>match ts with
 |[.int i,.int j]=>if -1000000<=i/\i<=1000000 /\ -1000000<=j/\j<=1000000 then .ok (zeu i (j-i).toNat,fun _=>True) S else .bad
 |_=>.bad
theorem zsl(W:Wd)(lo:Int)(n:Nat):ItOk W (zeu lo n) (fun _=>True) (Itr lo n):=⟨fun i W' S' H' l r' _ hi=>by
 rw[zfg] at hi;refine⟨hi,fun x H'' y=>?_⟩;obtain⟨rfl,rfl⟩:=y;exact⟨W',_,Wd.le.refl _,r',zsk hi,zat.mpr rfl⟩,fun i W' S' H' l r' _ hi=>by
 rw[zfg] at hi;exact Nat.le_of_eq hi.symm⟩
theorem zhk:RI E (iR1 fr) (z4u (RA E fr)):=fun σ H R h=>by
 obtain⟨W,S,ρ,rp,env,p⟩:=h;refine⟨W,S,ρ,rp,env,(Post.bind p).imp fun ts W1 S1 H1 l1 r1 p1 vs dv=>?_⟩
 split at p1
 ·rename_i j
  split at p1
  ·rename_i hj
   obtain⟨v,rfl,d1⟩:=zfu dv;exact⟨j,by rw[zat.mp d1],by omega,by omega,p1 W1 H1 (Wd.le.refl _) r1 _ W1 H1 (Wd.le.refl _) r1 (zsl W1 0 _)⟩
  ·exact p1.elim
 ·exact p1.elim
theorem zwd:RI E (iR2 fr) (z4v (RA E fr)):=fun σ H R h=>by
 obtain⟨W,S,ρ,rp,env,p⟩:=h;refine⟨W,S,ρ,rp,env,(Post.bind p).imp fun ts W1 S1 H1 l1 r1 p1 vs dv=>?_⟩
 split at p1
 ·rename_i i j
  split at p1
  ·rename_i hj
   obtain⟨v,r,rfl,d1,d2⟩:=za1.mp dv;obtain⟨w,rfl,d3⟩:=zfu d2;exact⟨i,j,by rw[zat.mp d1,zat.mp d3],⟨by omega,by omega,by omega,by omega⟩,p1 W1 H1 (Wd.le.refl _) r1 _ W1 H1 (Wd.le.refl _) r1 (zsl W1 i _)⟩
  ·exact p1.elim
 ·exact p1.elim
def iK(f:DE):DI:=fun ρ=>(f ρ).bind fun t=>fun S=>match t with
 |.dic kvs=>.ok (kvs.map fun p=>kT p.1,fun _=>True) S
 |_=>.bad
def Wd.zed(W:Wd)(a:Addr)(o:Obj×HO):Wd:=⟨W.HS,W.μ,W.n,fun b=>if b=a then some o else W.Z b,W.P⟩
theorem Rep.zedNew{W:Wd}{S:Sto}{H:Hp}{a:Addr}{u:HO}{o:Obj}(r:Rep W S H)(hs:W.HS a=some u)(hH:H a=some u)(nt:∀xs,u≠.tup xs)(no:zzm u):Rep (W.zed a (o,u)) S (upd H a (.frz o u))/\W.le (W.zed a (o,u)):=by
 have zn:W.Z a=none:=by
  cases e:W.Z a with
  |none=>rfl
  | some q=>
    have h2:=r.zed a q e;rw[hH] at h2;cases h2;exact no.elim
 have l:W.le (W.zed a (o,u)):=⟨fun _ _ e=>e,fun b q e=>by
  show(if b=a then some (o,u) else W.Z b)=some q;by_cases z:b=a
  ·rw[z,zn] at e;cases e
  ·rw[if_neg z];exact e,fun _ _ e=>e,Nat.le_refl _,fun _ _=>rfl⟩
 refine⟨⟨fun b w e=>?_,r.len,fun k c e=>?_,r.inj,fun b q e=>?_,fun b w e=>?_⟩,l⟩
 ·by_cases z:b=a
  ·subst z
   have e:W.HS b=some w:=e;rw[hs] at e;cases e;exact⟨.inr ⟨⟨o,zai⟩,nt⟩,no⟩
  ·exact⟨(r.sub b w e).1.at (zag z),(r.sub b w e).2⟩
 ·have ne:W.μ k≠a:=fun z=>by have:=(r.cell k c e).2;rw[z,hs] at this;cases this
  exact⟨((r.cell k c e).1.at (zag ne)).mono l,(r.cell k c e).2⟩
 ·have e:(if b=a then some (o,u) else W.Z b)=some q:=e
  by_cases z:b=a
  ·rw[if_pos z] at e
   cases e;subst z;exact zai
  ·rw[if_neg z] at e
   rw[zag z];exact r.zed b q e
 ·obtain⟨h1,h2,h3⟩:=r.prv b w e
  have ne:b≠a:=fun z=>by rw[z,hs] at h2;cases h2
  exact⟨by rw[zag ne];exact h1,h2,h3⟩
theorem Rep.zedOld{W:Wd}{S:Sto}{H:Hp}{a:Addr}{u:HO}{o:Obj}(r:Rep W S H)(hs:W.HS a=some u)(hH:H a=some (.frz o u)):Rep (W.zed a (o,u)) S H/\W.le (W.zed a (o,u)):=by
 have l:W.le (W.zed a (o,u)):=⟨fun _ _ e=>e,fun b q e=>by
  show(if b=a then some (o,u) else W.Z b)=some q;by_cases z:b=a
  ·have h2:=r.zed b q e
   rw[z,hH] at h2;obtain⟨q1,q2⟩:=q;cases h2;rw[if_pos z]
  ·rw[if_neg z];exact e,fun _ _ e=>e,Nat.le_refl _,fun _ _=>rfl⟩
 refine⟨⟨r.sub,r.len,fun k c e=>⟨(r.cell k c e).1.mono l,(r.cell k c e).2⟩,r.inj,fun b q e=>?_,r.prv⟩,l⟩;have e:(if b=a then some (o,u) else W.Z b)=some q:=e;by_cases z:b=a
 ·rw[if_pos z] at e
  cases e;subst z;exact hH
 ·rw[if_neg z] at e
  exact r.zed b q e
theorem zwe{W:Wd}{a:Addr}{o:Obj}{kvs:List (Key×T)}{ks:List (Key×V)}(hz:W.Z a=some (o,.dK ks))(d:DenK W kvs ks):ItOk W (kvs.map fun p=>kT p.1) (fun _=>True) (Itk a o ks):=⟨fun i W' S' H' l r' _ hi=>by
 have h2:=r'.zed a _ (l.z a _ hz);rw[List.length_map,d.length] at hi;refine⟨⟨h2,hi⟩,fun x H'' y=>?_⟩;obtain⟨k,v,e1,rfl,rfl⟩:=y;have dk:=zno d;obtain⟨t,e2,d2⟩:=dk.get' (i:=i) (v:=kV k) (by rw[List.getElem?_map,e1];rfl);exact⟨W',t,Wd.le.refl _,r',e2,Den.mono l _ _ d2⟩,fun i W' S' H' l r' _ hi=>by
 have h2:=r'.zed a _ (l.z a _ hz);rw[List.length_map,d.length] at hi;exact⟨h2,Nat.le_of_eq hi.symm⟩⟩
theorem zwf:RI E (iK fa) (z5n X (RE E fa)):=fun σ H R h=>by
 obtain⟨W,S,ρ,rp,env,p⟩:=h;refine⟨W,S,ρ,rp,env,(Post.bind p).imp fun t W1 S1 H1 l1 r1 p1 v dv=>?_⟩
 split at p1
 ·rename_i kvs
  obtain⟨a,ks,rfl,h1,h2⟩:=zgj.mp dv;refine⟨a,ks,rfl,?_⟩;rcases(r1.sub a _ h1).1 with g | ⟨⟨o,g⟩,_⟩
  ·refine .inl ⟨g,fun o _=>?_⟩
   obtain⟨r2,l2⟩:=r1.zedNew (o:=o) h1 g (by intro xs z;cases z) trivial;exact p1 W1 H1 (Wd.le.refl _) r1 _ _ _ l2 r2 (zwe (by show(if a=a then some (o,HO.dK ks) else _)=some (o,HO.dK ks);rw[if_pos rfl]) (DenK.mono l2 _ _ h2))
  ·refine .inr ⟨o,g,?_⟩
   obtain⟨r2,l2⟩:=r1.zedOld h1 g;exact p1 W1 H1 (Wd.le.refl _) r1 _ _ _ l2 r2 (zwe (by show(if a=a then some (o,HO.dK ks) else _)=some (o,HO.dK ks);rw[if_pos rfl]) (DenK.mono l2 _ _ h2))
 ·exact p1.elim
end
open Classical in
def za9(st:Sto->Prop)(g:DG)(body:DS):List T->Ev->M Fl
 |[],ρ=>fun S=>if st S then .ok (.nx ρ) S else .bad
 | t :: ts,ρ=>fun S=>if st S then(match g t ρ with
   | some ρ1=>(body ρ1).bind (fun x=>match x with
     |.nx ρ2=>za9 st g body ts ρ2
     |.ct ρ2=>za9 st g body ts ρ2
     |.bk ρ2=>M.pure (.nx ρ2)
     |.rt t=>M.pure (.rt t)) S
   |none=>.bad) else .bad
def sFor(it:DI)(g:DG)(body:DS):DS:=fun ρ=>(it ρ).bind fun q=>za9 q.2 g body q.1 ρ
section
variable {X:Cx}{E:XK}{tg iter:Expr}{body:List Stmt}{it:DI}{wi:TI}{gl:TG}{g:DG}{fb:DS}{pos:Pos}
theorem zzs(hG:GT gl g){D:Ends}{σ:St}{H2:Hp}{W2:Wd}{S1:Sto}{ρ:Ev}{ts:List T}{st:Sto->Prop}{J:It}(r2:Rep W2 S1 H2)(env:za6 W2 ρ σ)(ok:ItOk W2 ts st J)(p1:Post E W2 (QF D) (za9 st g fb ts ρ S1)) :
  tFor (fun _ _ R=>R J H2) gl (RS E fb) D σ H2:=by
 refine⟨fun i m σ H=>i<=ts.length/\m=ts.length-i/\∃W S ρ,W2.le W/\Rep W S H/\za6 W ρ σ/\Post E W (QF D) (za9 st g fb (ts.drop i) ρ S),⟨_,Nat.zero_le _,rfl,W2,S1,ρ,Wd.le.refl _,r2,env,?_⟩,?_⟩
 ·rw[List.drop_zero]
  exact p1
 ·rintro i m σ H ⟨hi,rfl,W3,S3,ρ3,l3,r3,e3,p3⟩
  by_cases hlt:i<ts.length
  ·rw [List.drop_eq_getElem_cons hlt] at p3
   unfold za9 at p3
   split at p3
   ·rename_i hst
    obtain⟨go,yl⟩:=ok.go i W3 S3 H l3 r3 hst hlt;refine .inr ⟨go,_,fun σ' H' n=>⟨ts.length-(i+1),by omega,hlt,rfl,n⟩,fun x H' y=>?_⟩;obtain⟨W4,t,l4,r4,et,dt⟩:=yl x H' y;rw[List.getElem?_eq_getElem hlt] at et;cases et;cases e:g ts[i] ρ3 with
    |none=>simp only[e] at p3;exact p3.elim
    | some ρ4=>
      simp only[e] at p3;refine hG W4 S3 H' _ x ρ3 ρ4 σ _ r4 dt (e3.mono l4) e fun σ2 e4=>⟨W4,S3,ρ4,r4,e4,(Post.bind (zk5 p3 l4)).imp fun fl W5 S5 H5 l5 r5 p5=>?_⟩;cases fl with
      |nx ρ5=>exact fun σ5 e5=>⟨W5,S5,ρ5,l3.trans (l4.trans l5),r5,e5,p5⟩
      |ct ρ5=>exact fun σ5 e5=>⟨W5,S5,ρ5,l3.trans (l4.trans l5),r5,e5,p5⟩
      |bk ρ5=>exact p5 W5 H5 (Wd.le.refl _) r5
      |rt t=>exact p5 W5 H5 (Wd.le.refl _) r5
   ·exact p3.elim
  ·have e:i=ts.length:=by omega
   subst e;rw[List.drop_length] at p3;unfold za9 at p3
   split at p3
   ·rename_i hst
    exact .inl ⟨ok.stop _ W3 S3 H l3 r3 hst rfl,p3 W3 H (Wd.le.refl _) r3 σ e3⟩
   ·exact p3.elim
theorem zhl(hp:PassesOwn (model X.prog X.w) X.A X.env X.xe)(hc:X.calm=true)(hi:PI X tg iter wi)(hI:RI E it wi)(hg:PG X tg gl)(hG:GT gl g)(hb:PSs X body (RS E fb))
  (hs:∀x,foldedSetIterable iter X.env x=pure x:=by intro _;rfl):PS X (.For tg iter body [] pos) (RS E (sFor it g fb)):=
 zit (z4w hp hc hi hg hb hs) fun D σ H h=>by
  obtain⟨W,S,ρ,rp,env,p⟩:=h;exact hI σ H _ ⟨W,S,ρ,rp,env,(Post.bind p).imp fun q W1 S1 H1 l1 r1 p1 J W2 H2 l2 r2 ok=>zzs hG r2 (env.mono (l1.trans l2)) ok (zk5 p1 l2)⟩
end
end MF
namespace MF
open PySem L2
def zci(c:DT)(body:DS):Nat->Ev->M Fl
 |0,_=>M.bad
 | n + 1,ρ=>(c ρ).bind fun b=>if b=true then(body ρ).bind (fun x=>match x with
     |.nx ρ2=>zci c body n ρ2
     |.ct ρ2=>zci c body n ρ2
     |.bk ρ2=>M.pure (.nx ρ2)
     |.rt t=>M.pure (.rt t)) else M.pure (.nx ρ)
def zi0(c:DT)(body:DS):DS:=zci c body 1000
section
variable {X:Cx}{E:XK}{c:Expr}{body:List Stmt}{tc:DT}{fb:DS}{pos:Pos}
theorem zq4(hp:PassesOwn (model X.prog X.w) X.A X.env X.xe)(hc:PT X c (RT E tc))(hb:PSs X body (RS E fb)):PS X (.While c body [] pos) (RS E (zi0 tc fb)):=
 zit (zy2 hp hc hb) fun D σ H h=>by
  obtain⟨W,S,ρ,rp,env,p⟩:=h;refine⟨fun m σ H=>∃W S ρ,Rep W S H/\za6 W ρ σ/\Post E W (QF D) (zci tc fb m ρ S),⟨1000,W,S,ρ,rp,env,p⟩,?_⟩;rintro m σ H ⟨W1,S1,ρ1,r1,e1,p1⟩;cases m with
  |zero=>exact p1.elim
  | succ n=>
    refine⟨W1,S1,ρ1,r1,e1,(Post.bind p1).imp fun b W2 S2 H2 l2 r2 p2=>?_⟩;cases b with
    |false=>exact iteF (p2 W2 H2 (Wd.le.refl _) r2 σ (e1.mono l2))
    | true=>
      refine iteT ⟨fun σ H=>∃W S ρ,Rep W S H/\za6 W ρ σ/\Post E W (QF D) (zci tc fb n ρ S),fun σ' H' q=>⟨n,Nat.lt_succ_self _,q⟩,W2,S2,ρ1,r2,e1.mono l2,?_⟩;refine(Post.bind (show Post E W2 (QF D) (M.bind (fb ρ1) _ S2) from p2)).imp fun fl W5 S5 H5 l5 r5 p5=>?_;cases fl with
      |nx ρ5=>exact fun σ5 e5=>⟨W5,S5,ρ5,r5,e5,p5⟩
      |ct ρ5=>exact fun σ5 e5=>⟨W5,S5,ρ5,r5,e5,p5⟩
      |bk ρ5=>exact p5 W5 H5 (Wd.le.refl _) r5
      |rt t=>exact p5 W5 H5 (Wd.le.refl _) r5
end
def noX{α:Type}(m:M α):M α:=fun S=>match m S with
 |.exc _ _ _=>.bad
 |r=>r
theorem zzt{α:Type}{E E':XK}{W:Wd}{Q:α->Wd->Sto->Hp->Prop}{m:M α}{S:Sto}(h:Post E W Q (noX m S)):Post E' W Q (m S):=by
 unfold noX at h;cases e:m S with
 |ok a S1=>rw[e] at h;exact h
 |exc C fs S1=>rw[e] at h;exact h.elim
 |bad=>rw[e] at h;exact h.elim
def yesD:DT:=fun _=>M.pure true
open Classical in
def zfh(st:Sto->Prop)(g:DG)(tc:DT)(te:DE):List T->Ev->List T->M (List T)
 |[],_,acc=>fun S=>if st S then .ok acc S else .bad
 | t::ts,ρ,acc=>fun S=>if st S then(match g t ρ with
   |some ρ1=>((tc ρ1).bind fun ok=>if ok=true then(te ρ1).bind fun y=>if acc.length<1000 then zfh st g tc te ts ρ1 (acc++[y]) else M.bad else zfh st g tc te ts ρ1 acc) S
   |none=>.bad) else .bad
def zef(nt:Nat)(js:List Nat)(it:DI)(g:DG)(tc:DT)(te:DE)(fin:List T->M T):DE:=fun ρ=>
 (it ρ).bind fun q=>(noX (zfh q.2 g tc te q.1 (List.replicate nt none++js.map fun j=>(ρ[j]?).join) [])).bind fin
def finF(ts:List T):M T:=M.pure (.lst ts)
def finC(ts:List T):M T:=fun S=>.ok (.obj S.length) (S++[.lst ts])
theorem z6j(W:Wd)(p:Addr):(W.unp p).le W:=⟨fun _ _ e=>e,fun _ _ e=>e,fun a o e=>by
 have e:(if a=p then none else W.P a)=some o:=e;by_cases z:a=p
 ·rw[if_pos z] at e;cases e
 ·rw[if_neg z] at e;exact e,Nat.le_refl _,fun _ _=>rfl⟩
theorem zsm{W W':Wd}(l:W.le W')(p:Addr):(W.unp p).le (W'.unp p):=⟨l.hs,l.z,fun a o e=>by
 have e:(if a=p then none else W.P a)=some o:=e;show(if a=p then none else W'.P a)=some o;by_cases z:a=p
 ·rw[if_pos z] at e;cases e
 ·rw[if_neg z] at e ⊢;exact l.p a o e,l.n,l.μ⟩
theorem zsn{W:Wd}{p:Addr}{o:HO}:(W.unp p).le ((W.priv p o).unp p):=⟨fun _ _ e=>e,fun _ _ e=>e,fun a u e=>by
 have e:(if a=p then none else W.P a)=some u:=e;show(if a=p then none else upd W.P p o a)=some u;by_cases z:a=p
 ·rw[if_pos z] at e;cases e
 ·rw[if_neg z] at e ⊢;rw[zag z];exact e,Nat.le_refl _,fun _ _=>rfl⟩
theorem z6k{W:Wd}{p:Addr}(h:W.P p=none):W.le (W.unp p):=⟨fun _ _ e=>e,fun _ _ e=>e,fun a u e=>by
 show(if a=p then none else W.P a)=some u;rw[if_neg (fun z=>by rw[z,h] at e;cases e)];exact e,Nat.le_refl _,fun _ _=>rfl⟩
theorem za6.hs{W W':Wd}(hs:W'.HS=W.HS)(hμ:W'.μ=W.μ)(hn:W'.n=W.n):∀{ρ:Ev} {σ:St},za6 W ρ σ->za6 W' ρ σ
 |[],_,h=>h
 |none::ρ,σ,⟨s,r,e,h1,h2⟩=>⟨s,r,e,trivial,za6.hs hs hμ hn h2⟩
 |some t::ρ,σ,⟨none,r,e,h1,h2⟩=>h1.elim
 |some t::ρ,σ,⟨some v,r,e,h1,h2⟩=>⟨some v,r,e,Den.hs hs hμ hn t v h1,za6.hs hs hμ hn h2⟩
def znq(E:XK)(fin:List T->M T):Prop:=∀(acc:List V) (ts:List T) (W1 W3:Wd) (S:Sto) (H:Hp) (p:Addr) (Q:VK),W1.le (W3.unp p)->W3.P p=some (.lst acc)->Rep W3 S H->Dens W3 ts acc->Post E W1 (QV Q) (fin ts S)->Q (.ref p) H
theorem zl4{E:XK}:znq E finF:=fun acc ts W1 W3 S H p Q l hp r d h=>by
 have l2:(W3.unp p).le ((W3.unp p).frz p (.lst acc)):=Wd.frz_le (r.prv p _ hp).2.1;have d1:Dens (W3.unp p) ts acc:=Dens.hs (W:=W3) (W':=W3.unp p) rfl rfl rfl ts acc d;exact h _ _ (l.trans l2) (r.privFrz hp trivial (by intro _ z;cases z)) _ (zds.mpr ⟨p,acc,rfl,zai,Dens.mono l2 _ _ d1⟩)
theorem z8z{E:XK}:znq E finC:=fun acc ts W1 W3 S H p Q l hp r d h=>by
 have l2:(W3.unp p).le ((W3.unp p).add p):=Wd.add_le;have d1:Dens (W3.unp p) ts acc:=Dens.hs (W:=W3) (W':=W3.unp p) rfl rfl rfl ts acc d;refine h _ _ (l.trans l2) (r.privCell hp (by intro _ z;cases z) (.lst ts) ⟨acc,(r.prv p _ hp).1,Dens.mono l2 _ _ d1⟩) _ (zbn.mpr ⟨?_,?_⟩)
 ·rw[r.len];exact congrArg V.ref (Wd.add_at (W:=W3.unp p)).symm
 ·rw[r.len];exact Nat.lt_succ_self _
section
variable {X:Cx}{E:XK}{elt iter c tg:Expr}{it:DI}{wi:TI}{gl:TG}{g:DG}{tc:DT}{tcl:TT}{te:DE}{fin:List T->M T}{nt:Nat}{js:List Nat}
theorem Post.bindAt{α β:Type}{E:XK}{W W2:Wd}{Q:β->Wd->Sto->Hp->Prop}{m:M α}{f:α->M β}{S:Sto}(h:Post E W2 Q (M.bind m f S))(l:W2.le W):Post E W (fun a _ S1 _=>Post E W2 Q (f a S1)) (m S):=by
 unfold M.bind at h;cases e:m S with
 |ok a S1=>rw[e] at h;exact fun _ _ _ _=>h
 |exc C fs S1=>rw[e] at h;exact fun W' H' dx l'=>h W' H' dx (l.trans l')
 |bad=>rw[e] at h;exact h
theorem zpe (hG:GT gl g) (htc:∀σ H Q,RT E0 tc σ H Q->tcl σ H Q) {PF:List T->Sto->Prop} {σ:St} {H2:Hp} {Q:VK} {W2:Wd} {S1:Sto} {ρ:Ev} {ts:List T} {st:Sto->Prop} {J:It} (r2:Rep W2 S1 H2) (env:za6 W2 ρ σ) (ok:ItOk W2 ts st J)
  (hend:∀(acc:List V) (us:List T) (W3:Wd) (S3:Sto) (H3:Hp) (p:Addr),W3.P p=some (.lst acc)->Rep W3 S3 H3->Dens W3 us acc->W2.le (W3.unp p)->PF us S3->Q (.ref p) H3)
  (p1:Post E0 W2 (fun res _ S' _=>PF res S') (zfh st g tc te ts (List.replicate nt none++js.map fun j=>(ρ[j]?).join) [] S1)):zqt nt js (fun _ _ R=>R J H2) gl tcl (RE E0 te) σ H2 Q:=by
 intro a ha;have pn:W2.P a=none:=r2.prvNone ha;refine⟨fun i m σ2 H acc=>i<=ts.length/\m=ts.length-i/\∃W3 S ρ accT,W2.le (W3.unp a)/\W3.P a=some (.lst acc)/\Rep W3 S H/\za6 W3 ρ σ2/\Dens W3 accT acc /\
  Post E0 W2 (fun res _ S' _=>PF res S') (zfh st g tc te (ts.drop i) ρ accT S),⟨_,Nat.zero_le _,rfl,W2.priv a (.lst []),S1,List.replicate nt none++js.map fun j=>(ρ[j]?).join,[],?_,zai,r2.privNew ha _,?_,Dens.nil',?_⟩,?_⟩
 ·exact(z6k pn).trans zsn
 ·refine za6.append (za6.nones nt (List.length_replicate ..)) ?_
  exact(za6.cap env js).mono (Wd.priv_le pn)
 ·rw[List.drop_zero];exact p1
 ·rintro i m σ2 H acc ⟨hi,rfl,W3,S3,ρ3,accT,l3,hp,r3,e3,dacc,p3⟩
  have l23:W2.le W3:=l3.trans (z6j W3 a);refine⟨(r3.prv a _ hp).1,?_⟩;by_cases hlt:i<ts.length
  ·rw [List.drop_eq_getElem_cons hlt] at p3
   unfold zfh at p3
   split at p3
   ·rename_i hst
    obtain⟨go,yl⟩:=ok.go i W3 S3 H l23 r3 hst hlt;refine .inr ⟨go,_,fun σ' H' acc' n=>⟨ts.length-(i+1),by omega,hlt,rfl,n⟩,fun x H' y=>?_⟩;obtain⟨W4,t,l4,r4,et,dt⟩:=yl x H' y;rw[List.getElem?_eq_getElem hlt] at et;cases et;cases e:g ts[i] ρ3 with
    |none=>simp only[e] at p3;exact p3.elim
    | some ρ4=>
      simp only[e] at p3;refine hG W4 S3 H' _ x ρ3 ρ4 σ2 _ r4 dt (e3.mono l4) e fun σ4 e4=>?_;refine htc _ _ _ ⟨W4,S3,ρ4,r4,e4,(Post.bindAt p3 (l23.trans l4)).imp fun b W5 S5 H5 l5 r5 p5=>?_⟩;have l35:W3.le W5:=l4.trans l5;cases b with
      |false=>exact iteF ⟨W5,S5,ρ4,accT,l3.trans (zsm l35 a),l35.p a _ hp,r5,e4.mono l5,Dens.mono l35 _ _ dacc,p5⟩
      | true=>
        refine iteT ⟨W5,S5,ρ4,r5,e4.mono l5,(Post.bindAt (show Post E0 W2 _ (M.bind (te ρ4) _ S5) from p5) (l23.trans l35)).imp fun ty W6 S6 H6 l6 r6 p6 y dy=>?_⟩;have l36:W3.le W6:=l35.trans l6;have hp6:=l36.p a _ hp
        split at p6
        ·rename_i hl
         have hla:acc.length<1000:=by rw[<- dacc.length];exact hl
         refine⟨(r6.prv a _ hp6).1,Nat.lt_of_lt_of_le hla (big (Nat.le_refl _)),W6.priv a (.lst (acc++[y])),S6,ρ4,accT++[ty],(l3.trans (zsm l36 a)).trans zsn,zai,r6.privSet hp6 (by intro _ z;cases z) (by intro _ _ z;cases z) _,?_,?_,p6⟩
         ·exact za6.hs (W:=W6) (W':=W6.priv a (.lst (acc++[y]))) rfl rfl rfl ((e4.mono l5).mono l6)
         ·exact Dens.hs (W:=W6) (W':=W6.priv a (.lst (acc++[y]))) rfl rfl rfl _ _ ((Dens.mono l36 _ _ dacc).append (Dens.cons' dy Dens.nil'))
        ·exact p6.elim
   ·exact p3.elim
  ·have e:i=ts.length:=by omega
   subst e;rw[List.drop_length] at p3;unfold zfh at p3
   split at p3
   ·rename_i hst
    exact .inl ⟨ok.stop _ W3 S3 H l23 r3 hst rfl,hend acc accT W3 S3 H a hp r3 dacc l3 (p3 (W3.unp a) H l3 (r3.unp a (by rw[hp];intro _ z;cases z)))⟩
   ·exact p3.elim
theorem znr(hI:RI E it wi)(hG:GT gl g)(htc:∀σ H Q,RT E0 tc σ H Q->tcl σ H Q)(hf:znq E fin){σ:St}{H:Hp}{Q:VK}(h:RE E (zef nt js it g tc te fin) σ H Q):zqt nt js wi gl tcl (RE E0 te) σ H Q:=by
 obtain⟨W,S,ρ,rp,env,p⟩:=h;refine hI σ H _ ⟨W,S,ρ,rp,env,(Post.bind p).imp fun q W1 S1 H1 l1 r1 p1 J W2 H2 l2 r2 ok=>?_⟩;exact zpe (PF:=fun us S3=>Post E W2 (QV Q) (fin us S3)) hG htc r2 (env.mono (l1.trans l2)) ok (fun acc us W3 S3 H3 a hp r3 dacc l3 p4=>hf acc us W2 W3 S3 H3 a Q l3 hp r3 dacc p4) (zzt (E':=E0) (Post.bindAt (zk5 p1 l2) (Wd.le.refl _)))
variable {scope:Scope}{cl:List (Str×Addr)}{nts xs:List Str}{pos:Pos}
theorem z1h(hc:X.calm=true)(C:zex X scope cl nts xs js)(hi:PI X tg iter wi)(hI:RI E it wi)(hg:∀fp s3 H2,PG (za3 X scope cl (nts++xs) fp s3 H2) tg gl)(hG:GT gl g)(he:∀fp s3 H2,PE (za3 X scope cl (nts++xs) fp s3 H2) elt (RE E0 te))(hf:znq E fin)
  (hs:∀x,foldedSetIterable iter X.env x=pure x:=by intro _;rfl):PE X (.ListComp elt [⟨tg,iter,[],0⟩] scope pos) (RE E (zef nts.length js it g yesD te fin)):=
 zb1 (z2s hc C hi hg he hs) fun σ H Q h=>znr hI hG (fun σ H Q h=>zv5 h) hf h
theorem zk6(hc:X.calm=true)(C:zex X scope cl nts xs js)(hi:PI X tg iter wi)(hI:RI E it wi)(hg:∀fp s3 H2,PG (za3 X scope cl (nts++xs) fp s3 H2) tg gl)(hG:GT gl g)(ht:∀fp s3 H2,PT (za3 X scope cl (nts++xs) fp s3 H2) c (RT E0 tc))(he:∀fp s3 H2,PE (za3 X scope cl (nts++xs) fp s3 H2) elt (RE E0 te))(hf:znq E fin)
  (hs:∀x,foldedSetIterable iter X.env x=pure x:=by intro _;rfl):PE X (.ListComp elt [⟨tg,iter,[c],0⟩] scope pos) (RE E (zef nts.length js it g tc te fin)):=
 zb1 (zsb hc C hi hg ht he hs) fun σ H Q h=>znr hI hG (fun σ H Q h=>h) hf h
theorem z1i{i:Nat}{y:Str}{py spos:Pos}(hc:X.calm=true)(C:zex X scope cl nts xs js)(hi:PI X tg iter wi)(hI:RI E it wi)(hg:∀fp s3 H2,PG (za3 X scope cl (nts++xs) fp s3 H2) tg gl)(hG:GT gl g)(he:∀fp s3 H2,PE (za3 X scope cl (nts++xs) fp s3 H2) elt (RE E0 te))(hf:znq E fin)
  (hN:X.N.Nodup) (hy:X.N[i]?=some y) (hx:Loc X.env.scope y) (hkn:∀u:V,X.kn[i]?≠some (some u)) (hff:X.fn y=true\/X.env.scope.names.lookup y=some .local:=by first | exact .inl rfl | exact .inr rfl | assumption)
  (hsw:swapsWith (.ListComp elt [⟨tg,iter,[],0⟩] scope pos) (some (.Name y py)) spos.line X.env=pure true:=by rfl)
  (hs:∀x,foldedSetIterable iter X.env x=pure x:=by intro _;rfl):PS X (.Assign [.Name y py] (.ListComp elt [⟨tg,iter,[],0⟩] scope pos) spos) (RS E (sSet i (zef nts.length js it g yesD te fin))):=
 zit (ztw hc C hi hg he hN hy hx hkn hff hsw hs) fun D σ H h=>znr hI hG (fun σ H Q h=>zv5 h) hf (zwc h)
theorem z29{i:Nat}{y:Str}{py spos:Pos}(hc:X.calm=true)(C:zex X scope cl nts xs js)(hi:PI X tg iter wi)(hI:RI E it wi)(hg:∀fp s3 H2,PG (za3 X scope cl (nts++xs) fp s3 H2) tg gl)(hG:GT gl g)(ht:∀fp s3 H2,PT (za3 X scope cl (nts++xs) fp s3 H2) c (RT E0 tc))(he:∀fp s3 H2,PE (za3 X scope cl (nts++xs) fp s3 H2) elt (RE E0 te))(hf:znq E fin)
  (hN:X.N.Nodup) (hy:X.N[i]?=some y) (hx:Loc X.env.scope y) (hkn:∀u:V,X.kn[i]?≠some (some u)) (hff:X.fn y=true\/X.env.scope.names.lookup y=some .local:=by first | exact .inl rfl | exact .inr rfl | assumption)
  (hsw:swapsWith (.ListComp elt [⟨tg,iter,[c],0⟩] scope pos) (some (.Name y py)) spos.line X.env=pure true:=by rfl)
  (hs:∀x,foldedSetIterable iter X.env x=pure x:=by intro _;rfl):PS X (.Assign [.Name y py] (.ListComp elt [⟨tg,iter,[c],0⟩] scope pos) spos) (RS E (sSet i (zef nts.length js it g tc te fin))):=
 zit (zqw hc C hi hg ht he hN hy hx hkn hff hsw hs) fun D σ H h=>znr hI hG (fun σ H Q h=>h) hf (zwc h)
end
end MF
namespace MF
open PySem PySem.Spec PyProof.Rows L2
abbrev Fn:=List T->M T
def spM(n:Nat)(F:Fn):Sp:=fun vs H Q E=>∃W S ts,Rep W S H/\Dens W ts vs/\ts.length=n/\Post E W (QV Q) (F ts S)
def runD(n:Nat)(d:DS):Fn:=fun ts=>(d (ts.map some++List.replicate (n-ts.length) none)).bind fun x=>match x with
 |.rt t=>M.pure t
 |.nx _=>M.pure .non
 |_=>M.bad
section
variable {P:Program}{w:World}{K:PySem.W.Frag}{mg:Str->Option Value}{base:Heap}
theorem z80{x qual:Str}{st:Stmt}{dV:Value}{f:Addr}{fd:FuncData}{N ps:List Str}{k:Nat}{d:DS}(F:FunV K x qual st dV f fd)(S:zax N ps (zab st))
  (hbody:∀(cdv:Value) (A:Around) (outer:List Env) (s:Shared) (H:Hp) (E:XK),Room k (A.deeper (envOfC qual (zab st) s.heap.objs.size f cdv)) ->
   PSs (cxOf (CXE P w) P w K mg base N qual (zab st) f cdv A outer s H E) (zao st) (RS E d)):FnOk P w K mg base (CXE P w) (k+1) f fd ps (spM ps.length (runD N.length d)):=by
 refine F.okE S (fun vs H Q E h=>?_) fun cdv A outer s H vs Q E hr h=>⟨RS E d,hbody cdv A outer s H E hr,?_⟩
 ·obtain⟨W,S,ts,_,d,e,_⟩:=h
  rw[<- d.length];exact e
 ·obtain⟨W,S0,ts,rp,dn,e,p⟩:=h
  refine⟨W,S0,ts.map some++List.replicate (N.length-ts.length) none,rp,?_,(Post.bind p).imp fun x W1 S1 H1 l1 r1 p1=>?_⟩
  ·unfold L2.start
   rw[<- dn.length];exact za6.append (za6.ofDens dn) (za6.nones _ (List.length_replicate ..))
  ·cases x with
   |rt t=>exact p1 W1 H1 (Wd.le.refl _) r1
   |nx ρ=>exact fun σ' _=>p1 W1 H1 (Wd.le.refl _) r1 .non (zcl.mpr rfl)
   |bk ρ=>exact p1.elim
   |ct ρ=>exact p1.elim
end
mutual
def HB(n:Nat):T->Prop
 |.lst ts=>HBs n ts
 |.tup ts=>HBs n ts
 |.dic kvs=>HBk n kvs
 |.obj k=>k<n
 |.non=>True
 |.bl _=>True
 |.int _=>True
 |.str _=>True
def HBs(n:Nat):List T->Prop
 |[]=>True
 |t::ts=>HB n t/\HBs n ts
def HBk(n:Nat):List (Key×T)->Prop
 |[]=>True
 |(_,t)::ts=>HB n t/\HBk n ts
end
def HBf(n:Nat):List (Str×T)->Prop
 |[]=>True
 |(_,t)::ts=>HB n t/\HBf n ts
mutual
theorem z3a{W:Wd}:∀(t:T) (v:V),Den W t v->HB W.n t
 |.non,_,_=>by simp only[HB]
 |.bl _,_,_=>by simp only[HB]
 |.int _,_,_=>by simp only[HB]
 |.str _,_,_=>by simp only[HB]
 |.lst ts,v,h=>by obtain⟨a,vs,_,_,h2⟩:=zds.mp h;simp only[HB];exact hbs_of ts vs h2
 |.tup ts,v,h=>by obtain⟨a,vs,_,_,h2⟩:=zdt.mp h;simp only[HB];exact hbs_of ts vs h2
 |.dic ts,v,h=>by obtain⟨a,vs,_,_,h2⟩:=zgj.mp h;simp only[HB];exact hbk_of ts vs h2
 |.obj k,v,h=>by simp only[HB];exact(zbn.mp h).2
theorem hbs_of{W:Wd}:∀(ts:List T) (vs:List V),Dens W ts vs->HBs W.n ts
 |[],_,_=>by simp only[HBs]
 |t::ts,vs,h=>by obtain⟨v,r,_,h1,h2⟩:=za1.mp h;simp only[HBs];exact⟨z3a t v h1,hbs_of ts r h2⟩
theorem hbk_of{W:Wd}:∀(ts:List (Key×T)) (vs:List (Key×V)),DenK W ts vs->HBk W.n ts
 |[],_,_=>by simp only[HBk]
 |(k,t)::ts,vs,h=>by obtain⟨v,r,_,h1,h2⟩:=zb7.mp h;simp only[HBk];exact⟨z3a t v h1,hbk_of ts r h2⟩
end
theorem zwg{W:Wd}:∀{ts:List (Str×T)} {vs:List (Str×V)},DenF W ts vs->HBf W.n ts
 |[],_,_=>trivial
 |(k,t)::ts,vs,⟨v,r,_,h1,h2⟩=>⟨z3a t v h1,zwg h2⟩
structure Cut(W W':Wd)(n:Nat):Prop where
 hs:∀a o,W.HS a=some o->W'.HS a=some o
 μ:∀k,k<n->W'.μ k=W.μ k
 n:W'.n=n
 p:∀a o,W.P a=some o->W'.P a=some o
mutual
theorem Den.cut{W W':Wd}{n:Nat}(c:Cut W W' n):∀(t:T) (v:V),HB n t->Den W t v->Den W' t v
 |.non,_,_,h=>zcl.mpr (zcl.mp h)
 |.bl _,_,_,h=>zbb.mpr (zbb.mp h)
 |.int _,_,_,h=>zat.mpr (zat.mp h)
 |.str _,_,_,h=>zbg.mpr (zbg.mp h)
 |.lst ts,v,b,h=>by obtain⟨a,vs,e,h1,h2⟩:=zds.mp h;simp only[HB] at b;exact zds.mpr ⟨a,vs,e,c.hs _ _ h1,Dens.cut c ts vs b h2⟩
 |.tup ts,v,b,h=>by obtain⟨a,vs,e,h1,h2⟩:=zdt.mp h;simp only[HB] at b;exact zdt.mpr ⟨a,vs,e,c.hs _ _ h1,Dens.cut c ts vs b h2⟩
 |.dic ts,v,b,h=>by obtain⟨a,vs,e,h1,h2⟩:=zgj.mp h;simp only[HB] at b;exact zgj.mpr ⟨a,vs,e,c.hs _ _ h1,DenK.cut c ts vs b h2⟩
 |.obj k,v,b,h=>by obtain⟨e,h1⟩:=zbn.mp h;simp only[HB] at b;exact zbn.mpr ⟨by rw[c.μ k b];exact e,by rw[c.n];exact b⟩
theorem Dens.cut{W W':Wd}{n:Nat}(c:Cut W W' n):∀(ts:List T) (vs:List V),HBs n ts->Dens W ts vs->Dens W' ts vs
 |[],vs,_,h=>zbl.mpr (zbl.mp h)
 |t::ts,vs,b,h=>by obtain⟨v,r,e,h1,h2⟩:=za1.mp h;simp only[HBs] at b;exact za1.mpr ⟨v,r,e,Den.cut c t v b.1 h1,Dens.cut c ts r b.2 h2⟩
theorem DenK.cut{W W':Wd}{n:Nat}(c:Cut W W' n):∀(ts:List (Key×T)) (vs:List (Key×V)),HBk n ts->DenK W ts vs->DenK W' ts vs
 |[],vs,_,h=>zcm.mpr (zcm.mp h)
 |(k,t)::ts,vs,b,h=>by obtain⟨v,r,e,h1,h2⟩:=zb7.mp h;simp only[HBk] at b;exact zb7.mpr ⟨v,r,e,Den.cut c t v b.1 h1,DenK.cut c ts r b.2 h2⟩
end
theorem DenF.cut{W W':Wd}{n:Nat}(c:Cut W W' n):∀{ts:List (Str×T)} {vs:List (Str×V)},HBf n ts->DenF W ts vs->DenF W' ts vs
 |[],_,_,h=>h
 |(k,t)::ts,vs,b,⟨v,r,e,h1,h2⟩=>⟨v,r,e,Den.cut c t v b.1 h1,DenF.cut c b.2 h2⟩
def HBc(n:Nat):Cell->Prop
 |.lst ts=>HBs n ts
 |.dic ts=>HBk n ts
 |.ins _ fs=>HBf n fs
 |.lck ts=>HBk n ts
 |.exc _ none=>True
 |.exc _ (some fs)=>HBf n fs
theorem z6l{W:Wd}{H:Hp}{a:Addr}:∀{c:Cell},zbu W H a c->HBc W.n c
 |.lst _,⟨_,_,h⟩=>hbs_of _ _ h
 |.dic _,⟨_,_,h⟩=>hbk_of _ _ h
 |.ins _ _,⟨_,_,_,h⟩=>zwg h
 |.lck _,⟨_,_,_,h⟩=>hbk_of _ _ h
 |.exc _ none,_=>trivial
 |.exc _ (some _),⟨some _,_,_,_,h⟩=>zwg h
 |.exc _ (some _),⟨none,_,h⟩=>h.elim
theorem zbu.cut{W W':Wd}{H:Hp}{a:Addr}{n:Nat}(c:Cut W W' n):∀{q:Cell},HBc n q->zbu W H a q->zbu W' H a q
 |.lst _,b,⟨_,h1,h⟩=>⟨_,h1,Dens.cut c _ _ b h⟩
 |.dic _,b,⟨_,h1,h⟩=>⟨_,h1,DenK.cut c _ _ b h⟩
 |.ins _ _,b,⟨_,_,h1,h⟩=>⟨_,_,h1,DenF.cut c b h⟩
 |.lck _,b,⟨_,_,h1,h⟩=>⟨_,_,h1,DenK.cut c _ _ b h⟩
 |.exc _ none,b,⟨none,h1,_⟩=>⟨none,h1,trivial⟩
 |.exc _ (Option.some _),b,⟨Option.some _,h1,ks,h2,h⟩=>⟨_,h1,ks,c.p _ _ h2,DenF.cut c b h⟩
 |.exc _ none,_,⟨Option.some _,_,h⟩=>h.elim
 |.exc _ (Option.some _),_,⟨none,_,h⟩=>h.elim
def mapO{α β:Type}(f:α->Option β):List α->Option (List β)
 |[]=>some []
 | a::r=>match f a,mapO f r with
   |some b,some bs=>some (b::bs)
   |_,_=>none
open Classical in
def fz(S:Sto)(n:Nat):Nat->T->Option T
 |0,t=>if HB n t then some t else none
 | f + 1,t=>if HB n t then some t else match t with
   | .obj k=>(match S[k]? with
     |some (.lst ts)=>(mapO (fz S n f) ts).map .lst
     |some (.dic kvs)=>(mapO (fun p=>(fz S n f p.2).map fun t=>(p.1,t)) kvs).map .dic
     |_=>none)
   |.lst ts=>(mapO (fz S n f) ts).map .lst
   |.tup ts=>(mapO (fz S n f) ts).map .tup
   |_=>none
open Classical in
def frzF(F:Fn):Fn:=fun ts S=>match F ts S with
 | .ok t S'=>if S'.take S.length=S then(match fz S' S.length 6 t with
   |some t'=>.ok t' S
   |none=>.bad) else .bad
 |.exc C none S'=>if S'.take S.length=S then .exc C none S else .bad
 | .exc C (some fs) S'=>if S'.take S.length=S then(match mapO (fun p=>(fz S' S.length 6 p.2).map fun t=>(p.1,t)) fs with
   |some fs'=>.exc C (some fs') S
   |none=>.bad) else .bad
 |.bad=>.bad
section
variable {W:Wd}{S:Sto}{H:Hp}
def unF:HO->HO
 |.frz _ u=>u
 |o=>o
open Classical in
def Wd.cut(W:Wd)(H:Hp)(n:Nat):Wd:=⟨fun a=>if W.HS a≠none then W.HS a else if(∃k,n<=k/\k<W.n/\W.μ k=a) then(H a).map unF else none,W.μ,n,W.Z,W.P⟩
open Classical in
theorem zso{n:Nat}{a:Addr}{o:HO}(h:W.HS a=some o):(W.cut H n).HS a=some o:=by
 show(if W.HS a≠none then W.HS a else _)=some o;rw[if_pos (by rw[h];intro z;cases z)];exact h
open Classical in
theorem zwh{n k:Nat}(r:Rep W S H)(hk:n<=k)(hn:k<W.n):(W.cut H n).HS (W.μ k)=(H (W.μ k)).map unF:=by
 obtain⟨c,hc⟩:=r.cellAt hn;show(if W.HS (W.μ k)≠none then _ else if(∃j,n<=j/\j<W.n/\W.μ j=W.μ k) then(H (W.μ k)).map unF else none)=_;rw[if_neg (by rw[(r.cell k c hc).2];exact fun z=>z rfl),if_pos ⟨k,hk,hn,rfl⟩]
theorem zwi{n:Nat}:Cut W (W.cut H n) n:=⟨fun _ _ h=>zso h,fun _ _=>rfl,rfl,fun _ _ h=>h⟩
theorem zwj{W0:Wd}{n:Nat}(l:W0.le W)(hn:W0.n=n):W0.le (W.cut H n):=⟨fun a o h=>zso (l.hs a o h),l.z,l.p,Nat.le_of_eq hn,l.μ⟩
open Classical in
theorem Rep.cut(r:Rep W S H){n:Nat}(hn:n<=W.n)(hb:∀k c,k<n->S[k]?=some c->HBc n c):Rep (W.cut H n) (S.take n) H where
 sub:=fun a o e=>by
  have e:(if W.HS a≠none then W.HS a else if(∃k,n<=k/\k<W.n/\W.μ k=a) then(H a).map unF else none)=some o:=e
  split at e
  ·exact r.sub a o e
  ·split at e
   ·rename_i hk
    obtain⟨k,h1,h2,rfl⟩:=hk;obtain⟨c,hc⟩:=r.cellAt h2;have z:=(r.cell k c hc).1;cases c with
    |lst ts=>obtain⟨_,h1,_⟩:=z;rw[h1] at e;cases e;exact⟨.inl h1,trivial⟩
    |dic ts=>obtain⟨_,h1,_⟩:=z;rw[h1] at e;cases e;exact⟨.inl h1,trivial⟩
    |ins _ ts=>obtain⟨_,_,h1,_⟩:=z;rw[h1] at e;cases e;exact⟨.inl h1,trivial⟩
    |exc _ ts=>obtain⟨_,h1,_⟩:=z;rw[h1] at e;cases e;exact⟨.inl h1,trivial⟩
    |lck ts=>obtain⟨q,_,h1,_⟩:=z;rw[h1] at e;cases e;exact⟨.inr ⟨⟨q,h1⟩,by intro _ y;cases y⟩,trivial⟩
   ·cases e
 len:=by rw[List.length_take,r.len];exact Nat.min_eq_left hn
 cell:=fun k c e=>by
  have hk:k<n:=by
   have:=(List.getElem?_eq_some_iff.mp e).1;rw[List.length_take] at this;omega
  rw[List.getElem?_take_of_lt hk] at e;refine⟨(r.cell k c e).1.cut zwi (hb k c hk e),?_⟩;show(if W.HS (W.μ k)≠none then _ else if(∃j,n<=j/\j<W.n/\W.μ j=W.μ k) then _ else none)=none;rw[if_neg (by rw[(r.cell k c e).2];exact fun z=>z rfl),if_neg];rintro⟨j,h1,h2,h3⟩;have:=r.inj j k h2 (r.lt e) h3;omega
 inj:=fun j k hj hk e=>r.inj j k (Nat.lt_of_lt_of_le hj hn) (Nat.lt_of_lt_of_le hk hn) e
 zed:=r.zed
 prv:=fun a o e=>by
  obtain⟨h1,h2,h3⟩:=r.prv a o e;refine⟨h1,?_,fun k hk=>h3 k (Nat.lt_of_lt_of_le hk hn)⟩;show(if W.HS a≠none then _ else if(∃k,n<=k/\k<W.n/\W.μ k=a) then _ else none)=none;rw[if_neg (by rw[h2];exact fun z=>z rfl),if_neg];rintro⟨j,_,h5,h6⟩;exact h3 j h5 h6
theorem zns{n:Nat}{g:T->Option T}(hg:∀t t' v,g t=some t'->Den W t v->Den (W.cut H n) t' v):∀{ts ts':List T} {vs:List V},mapO g ts=some ts'->Dens W ts vs->Dens (W.cut H n) ts' vs
 |[],ts',vs,e,h=>by cases e;exact zbl.mpr (zbl.mp h)
 | t :: ts,ts',vs,e,h=>by
   obtain⟨v,r,rfl,h1,h2⟩:=za1.mp h;unfold mapO at e;cases e1:g t with
   |none=>simp[e1] at e
   | some t'=>
     cases e2:mapO g ts with
     |none=>simp[e1,e2] at e
     | some ts2=>
       simp[e1,e2] at e;subst e;exact Dens.cons' (hg t t' v e1 h1) (zns hg e2 h2)
theorem zwk{n:Nat}{g:T->Option T}(hg:∀t t' v,g t=some t'->Den W t v->Den (W.cut H n) t' v):∀{ts ts':List (Key×T)} {vs:List (Key×V)},mapO (fun p=>(g p.2).map fun t=>(p.1,t)) ts=some ts'->DenK W ts vs->DenK (W.cut H n) ts' vs
 |[],ts',vs,e,h=>by cases e;exact zcm.mpr (zcm.mp h)
 | (k, t)::ts,ts',vs,e,h=>by
   obtain⟨v,r,rfl,h1,h2⟩:=zb7.mp h;unfold mapO at e;cases e1:g t with
   |none=>simp[e1] at e
   | some t'=>
     cases e2:mapO (fun p=>(g p.2).map fun t=>(p.1,t)) ts with
     |none=>simp[e1,e2] at e
     | some ts2=>
       simp[e1,e2] at e;subst e;exact DenK.cons' (hg t t' v e1 h1) (zwk hg e2 h2)
theorem zwl{n:Nat}{g:T->Option T}(hg:∀t t' v,g t=some t'->Den W t v->Den (W.cut H n) t' v):∀{ts ts':List (Str×T)} {vs:List (Str×V)},mapO (fun p=>(g p.2).map fun t=>(p.1,t)) ts=some ts'->DenF W ts vs->DenF (W.cut H n) ts' vs
 |[],ts',vs,e,h=>by cases e;exact h
 | (k, t)::ts,ts',vs,e,⟨v,r,e0,h1,h2⟩=>by
   unfold mapO at e;cases e1:g t with
   |none=>simp[e1] at e
   | some t'=>
     cases e2:mapO (fun p=>(g p.2).map fun t=>(p.1,t)) ts with
     |none=>simp[e1,e2] at e
     | some ts2=>
       simp[e1,e2] at e;subst e;exact⟨v,r,e0,hg t t' v e1 h1,zwl hg e2 h2⟩
open Classical in
theorem z6m{n:Nat}{d:Addr}{ks:List (Str×V)}(r:Rep W S H)(hd:H d=some (.xd ks))(h0:W.HS d=none):(W.cut H n).HS d=none:=by
 show(if W.HS d≠none then W.HS d else if(∃k,n<=k/\k<W.n/\W.μ k=d) then(H d).map unF else none)=none;rw[if_neg (by rw[h0];exact fun z=>z rfl),if_neg];rintro⟨k,_,hk,rfl⟩;obtain⟨c,hc⟩:=r.cellAt hk;have z:=(r.cell k c hc).1;cases c with
 |lst ts=>obtain⟨_,h1,_⟩:=z;rw[hd] at h1;cases h1
 |dic ts=>obtain⟨_,h1,_⟩:=z;rw[hd] at h1;cases h1
 |ins _ ts=>obtain⟨_,_,h1,_⟩:=z;rw[hd] at h1;cases h1
 |exc _ ts=>obtain⟨_,h1,_⟩:=z;rw[hd] at h1;cases h1
 |lck ts=>obtain⟨_,_,h1,_⟩:=z;rw[hd] at h1;cases h1
theorem zmu(r:Rep W S H){n:Nat}:∀(f:Nat) (t t':T) (v:V),fz S n f t=some t'->Den W t v->Den (W.cut H n) t' v
 | 0,t,t',v,e,d=>by
   unfold fz at e
   split at e
   ·rename_i h;cases e;exact Den.cut zwi _ _ h d
   ·cases e
 | f + 1,t,t',v,e,d=>by
   unfold fz at e
   split at e
   ·rename_i h;cases e;exact Den.cut zwi _ _ h d
   ·rename_i hnb
    split at e
    ·rename_i k
     obtain⟨rfl,hk⟩:=zbn.mp d;have hnk:n<=k:=by
      simp only[HB] at hnb;omega
     split at e
     ·rename_i ts ec
      obtain⟨ts',e1,rfl⟩:=Option.map_eq_some_iff.mp e;obtain⟨⟨vs,h1,h2⟩,_⟩:=r.cell k _ ec;exact zds.mpr ⟨_,vs,rfl,(zwh r hnk hk).trans (by rw[h1];rfl),zns (zmu r f) e1 h2⟩
     ·rename_i kvs ec
      obtain⟨ts',e1,rfl⟩:=Option.map_eq_some_iff.mp e;obtain⟨⟨vs,h1,h2⟩,_⟩:=r.cell k _ ec;exact zgj.mpr ⟨_,vs,rfl,(zwh r hnk hk).trans (by rw[h1];rfl),zwk (zmu r f) e1 h2⟩
     ·cases e
    ·rename_i ts
     obtain⟨ts',e1,rfl⟩:=Option.map_eq_some_iff.mp e;obtain⟨a,vs,rfl,h1,h2⟩:=zds.mp d;exact zds.mpr ⟨a,vs,rfl,zso h1,zns (zmu r f) e1 h2⟩
    ·rename_i ts
     obtain⟨ts',e1,rfl⟩:=Option.map_eq_some_iff.mp e;obtain⟨a,vs,rfl,h1,h2⟩:=zdt.mp d;exact zdt.mpr ⟨a,vs,rfl,zso h1,zns (zmu r f) e1 h2⟩
    ·cases e
end
theorem z3b{n:Nat}{F:Fn}{vs:List V}{H:Hp}{Q:VK}{E:XK}(h:spM n (frzF F) vs H Q E):spM n F vs H Q E:=by
 obtain⟨W,S,ts,rp,d,hl,p⟩:=h;refine⟨W,S,ts,rp,d,hl,?_⟩;have old:∀{S':Sto} {W':Wd} {H':Hp},S'.take S.length=S->W.le W'->Rep W' S' H'->Rep (W'.cut H' W.n) S H':=fun {S' W' H'} e l r=>by
  have:=r.cut (n:=W.n) l.n (fun k c hk ec=>by
   have e2:S[k]?=some c:=by rw[<- e,List.getElem?_take_of_lt (by rw[rp.len];exact hk)];exact ec
   exact z6l (rp.cell k c e2).1)
  rw[<- rp.len] at this;rw[e] at this;rw[<- rp.len];exact this
 unfold frzF at p;cases e:F ts S with
 |bad=>rw[e] at p;exact p.elim
 | ok t S'=>
   rw[e] at p;simp only at p
   split at p
   ·rename_i es
    cases ez:fz S' S.length 6 t with
    |none=>rw[ez] at p;exact p.elim
    | some t'=>
      rw[ez] at p;intro W' H' l r v dv;refine p (W'.cut H' W.n) H' (zwj l rfl) (old es l r) v ?_;rw[rp.len] at ez;exact zmu r 6 t t' v ez dv
   ·exact p.elim
 | exc C fs S'=>
   rw[e] at p;cases fs with
   | some fs=>
     simp only at p
     split at p
     ·rename_i es
      split at p
      ·rename_i fs' ef
       intro W' H' dx l r x;refine p (W'.cut H' W.n) H' dx (zwj l rfl) (old es l r) ?_;cases dx with
       |none=>exact x.elim
       | some d=>
         obtain⟨ks,x1,x2,x3⟩:=x;exact⟨ks,x1,z6m r x1 x2,zwl (zmu r 6) (by rw[<- rp.len];exact ef) x3⟩
      ·exact p.elim
     ·exact p.elim
   | none=>
     simp only at p
     split at p
     ·rename_i es
      intro W' H' dx l r x;refine p (W'.cut H' W.n) H' dx (zwj l rfl) (old es l r) ?_;cases dx with
      |none=>exact trivial
      |some _=>exact x.elim
     ·exact p.elim
theorem FnOk.frz{P:Program}{w:World}{K:PySem.W.Frag}{mg:Str->Option Value}{base:Heap}{CX:CXT}{k:Nat}{f:Addr}{fd:FuncData}{ps:List Str}{n:Nat}{F:Fn}(h:FnOk P w K mg base CX k f fd ps (spM n F)):FnOk P w K mg base CX k f fd ps (spM n (frzF F)):=
 h.imp fun vs H Q E q=>z3b q
end MF
namespace MF
open PySem PySem.Spec L2
structure FnAt(P:Program)(w:World)(K:PySem.W.Frag)(mg:Str->Option Value)(base:Heap)(k:Nat)(x:Str)(ps:List Str)(F:Fn)(f:Addr)(fd:FuncData):Prop where
 ok:FnOk P w K mg base (CXE P w) k f fd ps (spM ps.length F)
 m:mg x=some (.ref f)
 kp:PySem.W.keepIn K (.ref f)=true
 b:zf6 K fd ps []
structure MeAt(P:Program)(w:World)(K:PySem.W.Frag)(mg:Str->Option Value)(base:Heap)(k:Nat)(C:Addr)(m:Str)(ps:List Str)(F:Fn)(f:Addr)(fd:FuncData):Prop where
 ok:FnOk P w K mg base (CXE P w) k f fd ps (spM ps.length F)
 cl:Cls K C
 me:Meth K C m f
 b:zf6 K fd ps []
structure MkAt(P:Program)(w:World)(K:PySem.W.Frag)(mg:Str->Option Value)(base:Heap)(k:Nat)(x:Str)(C:Addr)(ps:List Str)(F:Fn)(f:Addr)(fd:FuncData):Prop where
 ok:FnOk P w K mg base (CXE P w) k f fd ps (spM ps.length F)
 m:mg x=some (.ref C)
 mk1:Mk K C f
 b:zf6 K fd ps []
def zbd(F:Fn)(ds:List T)(fr:DA):DE:=fun ρ=>(fr ρ).bind fun ts=>F (ts++ds)
def zh9(C:Addr)(m:Str)(F:Fn)(ds:List T)(fo:DE)(fr:DA):DE:=fun ρ=>(fo ρ).bind fun o=>fun S=>match zhc S C o with
 |some (_,fs)=>if(fs.lookup m).isNone=true then((fr ρ).bind fun ts=>F (o::(ts++ds))) S else .bad
 |none=>.bad
def zq5(C:Addr)(F:Fn)(ds:List T)(fr:DA):DE:=fun ρ=>(fr ρ).bind fun ts=>fun S=>M.bind (F (.obj S.length::(ts++ds))) (fun t=>match t with
 |.non=>M.pure (.obj S.length)
 |_=>M.bad) (S++[.ins C []])
theorem zwm{P:Program}{w:World}{X:Cx}:zeb (CXE P w) X E0:=fun pins σ H s e s' I h=>by
 obtain⟨_,_,_,_,_,_,_,_,_,_,_,_,_,_,_,_,_,_,_,z⟩:=h;exact z.elim
section
variable {X:Cx}{E:XK}{k:Nat}{f C:Addr}{fd:FuncData}{ps:List Str}{F:Fn}{x m:Str}{p pos apos:Pos}{e o:Expr}{es:List Expr}{fo:DE}{fr:DA}{ds:List T}{dvs:List V}{dus:List Value}
def lenF(n:Nat)(F:Fn):Fn:=fun ts S=>if ts.length=n then F ts S else .bad
theorem zzu(hd:∀W,Dens W ds dvs){σ:St}{H:Hp}{Q:VK}(h:RE E (zbd (lenF ps.length F) ds fr) σ H Q):z49 (spM ps.length F) dvs E (RA E fr) σ H Q:=by
 obtain⟨W,S,ρ,rp,env,q⟩:=h;refine⟨W,S,ρ,rp,env,(Post.bind q).imp fun ts W1 S1 H1 l1 r1 p1 vs dv=>?_⟩;unfold lenF at p1
 split at p1
 ·rename_i z;exact⟨W1,S1,ts++ds,r1,dv.append (hd W1),z,p1⟩
 ·exact p1.elim
theorem zbe{n:Nat}(G:FnAt X.prog X.w X.K X.mg X.base k x ps F f fd)(hr:Room k X.A)(hg:Gl X x)(hx:zeb (CXE X.prog X.w) X E)(ha:PA X (e::es) (RA E fr))
  (hdb:(x==("__debug__" : Str))=false:=by decide) (he:starEach (e::es) X.env=(false,eval e X.env)::starEach es X.env:=by rfl) (hpl:(backTo pos (starEach es X.env)).any (·.1)=false:=by rfl) (hn:ps.length=n:=by rfl):PE X (.Call (.Name x p) (e::es) [] pos) (RE E (zbd (lenF n F) [] fr)):=by
 subst hn;exact zb1 (z2d G.ok hr hg G.m G.kp G.b .nil hx ha hdb he hpl) fun σ H Q h=>zzu (fun W=>Dens.nil') h
theorem zwn(hd:∀W,Dens W ds dvs){σ:St}{H:Hp}{Q:VK}(h:RE E (zh9 C m (lenF ps.length F) ds fo fr) σ H Q):z5a C m (spM ps.length F) dvs E (RE E fo) (RA E fr) σ H Q:=by
 obtain⟨W,S,ρ,rp,env,q⟩:=h;refine⟨W,S,ρ,rp,env,(Post.bind q).imp fun t W1 S1 H1 l1 r1 p1 v dv=>?_⟩;cases e:zhc S1 C t with
 |none=>simp only[e] at p1;exact p1.elim
 | some q=>
   obtain⟨j,fs⟩:=q;simp only[e] at p1
   split at p1
   ·rename_i hm
    obtain⟨dx,ks,rfl,h0,h1,h2⟩:=r1.inst dv e;refine⟨_,dx,ks,rfl,h1,h2.look.2 (Option.isNone_iff_eq_none.mp hm),W1,S1,ρ,r1,env.mono l1,(Post.bind p1).imp fun ts W2 S2 H2 l2 r2 p2 vs dvs=>?_⟩;unfold lenF at p2
    split at p2
    ·rename_i z;exact⟨W2,S2,t::(ts++ds),r2,Dens.cons' (Den.mono l2 _ _ dv) (dvs.append (hd W2)),z,p2⟩
    ·exact p2.elim
   ·exact p1.elim
theorem zhm{n:Nat}{pl:Sem Bool}(G:MeAt X.prog X.w X.K X.mg X.base k C m ps F f fd)(hr:Room k X.A)(hx:zeb (CXE X.prog X.w) X E)(ho:PE X o (RE E fo))(ha:PA X (e::es) (RA E fr))
  (hst:starEach (e::es) X.env=(false,eval e X.env)::starEach es X.env:=by rfl) (hpl:(backTo pos (starEach es X.env)).any (·.1)=false:=by rfl)
  (ht:eval (.Call (.Attribute o m apos) (e::es) [] pos) X.env=(do
   let ov <- eval o X.env
   standAt apos.atName
   let (f,first) <- holding [ov] (getMethod ov m pl)
   callWith pos f first (backTo pos (starEach (e::es) X.env)) (backToKw pos (keywordEach [] X.env))):=by rfl) (hn:ps.length=n:=by rfl):PE X (.Call (.Attribute o m apos) (e::es) [] pos) (RE E (zh9 C m (lenF n F) [] fo fr)):=by
 subst hn;exact zb1 (zu9 ho G.cl G.me G.ok hr G.b .nil hx ha hst hpl ht) fun σ H Q h=>zwn (fun W=>Dens.nil') h
theorem z3c{n:Nat}{pl:Sem Bool}(G:MeAt X.prog X.w X.K X.mg X.base k C m ps F f fd)(hr:Room k X.A)(hx:zeb (CXE X.prog X.w) X E)(hb:zf6 X.K fd ps dus)(hv:Vals dvs dus)(hd:∀W,Dens W ds dvs)(ho:PE X o (RE E fo))(ha:PA X (e::es) (RA E fr))
  (hst:starEach (e::es) X.env=(false,eval e X.env)::starEach es X.env:=by rfl) (hpl:(backTo pos (starEach es X.env)).any (·.1)=false:=by rfl)
  (ht:eval (.Call (.Attribute o m apos) (e::es) [] pos) X.env=(do
   let ov <- eval o X.env
   standAt apos.atName
   let (f,first) <- holding [ov] (getMethod ov m pl)
   callWith pos f first (backTo pos (starEach (e::es) X.env)) (backToKw pos (keywordEach [] X.env))):=by rfl) (hn:ps.length=n:=by rfl):PE X (.Call (.Attribute o m apos) (e::es) [] pos) (RE E (zh9 C m (lenF n F) ds fo fr)):=by
 subst hn;exact zb1 (zu9 ho G.cl G.me G.ok hr hb hv hx ha hst hpl ht) fun σ H Q h=>zwn hd h
theorem zwo(hd:∀W,Dens W ds dvs){σ:St}{H:Hp}{Q:VK}(h:RE E (zq5 C (lenF ps.length F) ds fr) σ H Q):z2c C (spM ps.length F) dvs E (RA E fr) σ H Q:=by
 obtain⟨W,S,ρ,rp,env,q⟩:=h;refine⟨W,S,ρ,rp,env,(Post.bind q).imp fun ts W1 S1 H1 l1 r1 p1 vs dv a dx ha hdx hne=>?_⟩;have keep:∀b u,H1 b=some u->upd (upd H1 dx (.own a)) a (.ins C dx []) b=some u:=fun b u z=>by
  rw[zag (zbk z ha),zag (zbk z hdx)];exact z
 have r2:Rep (W1.add a) (S1++[.ins C []]) (upd (upd H1 dx (.own a)) a (.ins C dx [])):=r1.cellNew' ha keep (.ins C []) ⟨dx,[],zai,rfl⟩;have l2:W1.le (W1.add a):=Wd.add_le;have da:Den (W1.add a) (.obj S1.length) (.ref a):=zbn.mpr ⟨by rw[r1.len,Wd.add_at],by rw[r1.len];exact Nat.lt_succ_self _⟩;have p2:=Post.bind (zk5 p1 l2);by_cases z:(T.obj S1.length::(ts++ds)).length=ps.length
 ·have e:lenF ps.length F (.obj S1.length::(ts++ds)) (S1++[.ins C []])=F (.obj S1.length::(ts++ds)) (S1++[.ins C []]):=if_pos z
  rw[e] at p2;refine⟨W1.add a,S1++[.ins C []],.obj S1.length::(ts++ds),r2,Dens.cons' da ((Dens.mono l2 _ _ dv).append (hd _)),z,p2.imp fun t W3 S3 H3 l3 r3 p4 v dv3=>?_⟩;cases t with
  |non=>exact⟨zcl.mp dv3,now p4 r3 (Den.mono l3 _ _ da)⟩
  |_=>exact p4.elim
 ·have e:lenF ps.length F (.obj S1.length::(ts++ds)) (S1++[.ins C []])=.bad:=if_neg z
  rw[e] at p2;exact p2.elim
theorem z1j{n:Nat}(G:MkAt X.prog X.w X.K X.mg X.base k x C ps F f fd)(hr:Room (k+1) X.A)(hg:Gl X x)(hx:zeb (CXE X.prog X.w) X E)(ha:PA X (e::es) (RA E fr))
  (hdb:(x==("__debug__" : Str))=false:=by decide) (he:starEach (e::es) X.env=(false,eval e X.env)::starEach es X.env:=by rfl) (hpl:(backTo pos (starEach es X.env)).any (·.1)=false:=by rfl) (hn:ps.length=n:=by rfl):PE X (.Call (.Name x p) (e::es) [] pos) (RE E (zq5 C (lenF n F) [] fr)):=by
 subst hn;exact zb1 (z2e G.mk1 G.ok hr hg G.m G.b .nil hx ha hdb he hpl) fun σ H Q h=>zwo (fun W=>Dens.nil') h
theorem z3d{n:Nat}(G:MkAt X.prog X.w X.K X.mg X.base k x C ps F f fd)(hr:Room (k+1) X.A)(hg:Gl X x)(hx:zeb (CXE X.prog X.w) X E)
  (hdb:(x==("__debug__" : Str))=false:=by decide) (hn:ps.length=n:=by rfl):PE X (.Call (.Name x p) [] [] pos) (RE E (zq5 C (lenF n F) [] aNil)):=by
 subst hn;exact zb1 (zy7 G.mk1 G.ok hr hg G.m G.b .nil hx hdb) fun σ H Q h=>by
  have h:=zwo (fun W=>Dens.nil') h;obtain⟨W,S,ρ,rp,env,p⟩:=h;exact p W H (Wd.le.refl _) rp [] Dens.nil'
theorem z6n{i:Int}{t:Tok}(hg:Gl X x)(hm:X.mg x=some (.int i t))(hd:(x==("__debug__" : Str))=false:=by decide):PE X (.Name x p) (RE E (eC (.int i))):=
 zb1 (zuw (v:=.int i) hg hm ⟨t,rfl⟩ hd) fun σ H Q h=>re_c (fun W=>zat.mpr rfl) h
def zq6(t:T):M T:=fun S=>match t with
 |.str y=>if(reprText y).length<=1000 then .ok (.str (reprText y)) S else .bad
 |_=>.bad
theorem zsp(he:PE X e (RE E fo)):PE X (.FormattedValue e 114 none pos) (RE E (e1 zq6 fo)):=zb1 (z2u he) fun σ H Q h=>
 re1 (r:=fun v H1 Q=>∃y,v=.str y/\(reprText y).length<=sizeLine/\Q (.str (reprText y)) H1) (fun t W S H v Q r d p=>by
  unfold zq6 at p
  split at p
  ·split at p
   ·rename_i hl;exact⟨_,zbg.mp d,big hl,now p r (zbg.mpr rfl)⟩
   ·exact p.elim
  ·exact p.elim) h
def jT:Str->List DE->DE
 |acc,[]=>fun _ S=>if acc.length<=1000 then .ok (.str acc) S else .bad
 | acc,f::fs=>fun ρ=>(f ρ).bind fun t=>match t with
   |.str y=>(fun S=>if(acc++y).length<=1000 then jT (acc++y) fs ρ S else .bad)
   |_=>M.bad
inductive PJM(X:Cx)(E:XK):List Expr->List DE->Prop where
 |nil:PJM X E [] []
 |cons {e:Expr} {es:List Expr} {f:DE} {fs:List DE}:PE X e (RE E f)->PJM X E es fs->PJM X E (e::es) (f::fs)
theorem PJM.pj{es:List Expr}{fs:List DE}(h:PJM X E es fs):PJ X es (fs.map (RE E)):=by
 induction h with
 |nil=>exact .nil
 |cons h _ ih=>exact .cons h ih
theorem re_j:∀(fs:List DE) (acc:Str) {σ:St} {H:Hp} {Q:VK},RE E (jT acc fs) σ H Q->tJ acc (fs.map (RE E)) σ H Q
 | [],acc,σ,H,Q,h=>by
   obtain⟨W,S,ρ,rp,env,p⟩:=h;unfold jT at p
   split at p
   ·rename_i hl;exact⟨big hl,now p rp (zbg.mpr rfl)⟩
   ·exact p.elim
 | f :: fs,acc,σ,H,Q,h=>by
   obtain⟨W,S,ρ,rp,env,p⟩:=h;refine⟨W,S,ρ,rp,env,(Post.bind p).imp fun t W1 S1 H1 l1 r1 p1 v dv=>?_⟩
   split at p1
   ·split at p1
    ·rename_i y hl
     exact⟨y,zbg.mp dv,big hl,re_j fs (acc++y) ⟨W1,S1,ρ,r1,env.mono l1,p1⟩⟩
    ·exact p1.elim
   ·exact p1.elim
theorem zkl{a b:Expr}{r:List Expr}{fs:List DE}(h:PJM X E (a::b::r) fs):PE X (.JoinedStr (a::b::r) pos) (RE E (jT Str.empty fs)):=zb1 (zo5 h.pj) fun σ H Q h=>re_j fs Str.empty h
def zhn(C:Addr)(fr:DA):DS:=fun ρ=>(fr ρ).bind fun ts=>fun S=>if ts.length<=1000 then .exc C none S else .bad
theorem zjh{np cpos:Pos}(hx:znf X E)(hc:X.calm=true)(q:PySem.W.excIn X.K C bmVE "ValueError.__new__" = true)(hg:Gl X x)(hm:X.mg x=some (.ref C))(ha:PA X (e::es) (RA E fr))
  (hdb:(x==("__debug__" : Str))=false:=by decide) (he:starEach (e::es) X.env=(false,eval e X.env)::starEach es X.env:=by rfl) (hpl:(backTo cpos (starEach es X.env)).any (·.1)=false:=by rfl) :
  PS X (.Raise (some (.Call (.Name x np) (e::es) [] cpos)) none pos) (RS E (zhn C fr)):=zit (zzg hx hc q hg hm ha hdb he hpl) fun D σ H h=>by
 obtain⟨W,S,ρ,rp,env,p⟩:=h;refine⟨W,S,ρ,rp,env,(Post.bind p).imp fun ts W1 S1 H1 l1 r1 p1 vs dv=>?_⟩
 split at p1
 ·rename_i hl;exact⟨big (by rw[<- dv.length];exact hl),p1 W1 H1 none (Wd.le.refl _) r1 trivial⟩
 ·exact p1.elim
def cutT(xs:List T)(lo hi:Option Int):List T:=(xs.drop (HT.sIx xs.length 0 lo)).take (HT.sIx xs.length xs.length hi-HT.sIx xs.length 0 lo)
abbrev DO:=Ev->M (Option Int)
def z3e:DO:=fun _=>M.pure none
def z3f(f:DE):DO:=fun ρ=>(f ρ).bind fun t=>match t with
 |.int i=>M.pure (some i)
 |_=>M.bad
def eSl(f:DE)(lo hi:DO):DE:=fun ρ=>(f ρ).bind fun t=>(lo ρ).bind fun l=>(hi ρ).bind fun h=>fun S=>match zal S t with
 |some ts=>.ok (.lst (cutT ts l h)) S
 |none=>.bad
def RO(E:XK)(f:DO):TO:=fun σ H Q=>∃W S ρ,Rep W S H/\za6 W ρ σ/\Post E W (fun o _ _ H'=>Q o H') (f ρ S)
theorem z6o{a:Option Expr}{t t':TO}(h:PO X a t)(w:∀σ H Q,t' σ H Q->t σ H Q):PO X a t':=fun pins s σ H Q I q=>h pins s σ H Q I (w σ H Q q)
theorem z6p:PO X none (RO E z3e):=z6o z2n fun σ H Q h=>by
 obtain⟨W,S,ρ,rp,env,p⟩:=h;exact p W H (Wd.le.refl _) rp
theorem z6q(h:PE X e (RE E fo)):PO X (some e) (RO E (z3f fo)):=z6o (z2o h) fun σ H Q h=>by
 obtain⟨W,S,ρ,rp,env,p⟩:=h;refine⟨W,S,ρ,rp,env,(Post.bind p).imp fun t W1 S1 H1 l1 r1 p1 v dv=>?_⟩;cases t with
 |int i=>exact⟨i,zat.mp dv,p1 W1 H1 (Wd.le.refl _) r1⟩
 |_=>exact p1.elim
theorem z3g{lo hi:Option Expr}{p2:Pos}{fl fh:DO}(he:PE X e (RE E fo))(hl:PO X lo (RO E fl))(hh:PO X hi (RO E fh)):PE X (.Subscript e (.Slice lo hi none p2) pos) (RE E (eSl fo fl fh)):=
 zb1 (zza z2q he hl hh) fun σ H Q h=>by
  obtain⟨W,S,ρ,rp,env,p⟩:=h;refine⟨W,S,ρ,rp,env,(Post.bind p).imp fun t W1 S1 H1 l1 r1 p1 v dv=>?_⟩;refine⟨W1,S1,ρ,r1,env.mono l1,(Post.bind p1).imp fun l W2 S2 H2 l2 r2 p2=>?_⟩;refine⟨W2,S2,ρ,r2,env.mono (l1.trans l2),(Post.bind p2).imp fun u W3 S3 H3 l3 r3 p3=>?_⟩;cases e:zal S3 t with
  |none=>simp only[e] at p3;exact p3.elim
  | some ts=>
    simp only[e] at p3;obtain⟨a,vs,rfl,h1,h2⟩:=r3.list (Den.mono (l2.trans l3) _ _ dv) e;refine⟨a,vs,rfl,.inl h1,zo8 p3 r3 ?_⟩;unfold cutT cutV;rw[h2.length];exact(h2.drop _).take _
end
end MF
namespace MF
open PySem L2
theorem zwp{i:Nat}:∀u:V,([]:St)[i]?≠some (some u):=fun u h=>nomatch (show(none:Option (Option V))=some (some u) from h)
theorem zwq:Vals [V.non] [Value.none]:=.cons rfl .nil
theorem zwr(W:Wd):Dens W [T.non] [V.non]:=Dens.cons' (zcl.mpr rfl) Dens.nil'
structure Cl where
 hall:Addr
 place:Addr
 piece:Addr
 run:Addr
 hallError:Addr
 nameThere:Addr
 noPlace:Addr
 noPiece:Addr
 tooMany:Addr
 noAnswer:Addr
 ring:Addr
 barred:Addr
 deedFault:Addr
section
variable {X:Cx}{E:XK}{a b c e o:Expr}{es:List Expr}{fa fb fc fo:DE}{fr:DA}{pos p:Pos}{x:Str}
theorem z1k{i:Int}(hg:Gl X x)(hm:∃t,X.mg x=some (.int i t))(hd:(x==("__debug__" : Str))=false:=by decide):PE X (.Name x p) (RE E (eC (.int i))):=by
 obtain⟨t,hm⟩:=hm;exact z6n hg hm hd
def iRev(f:DA):DI:=fun ρ=>(f ρ).bind fun as=>fun S=>match as with
 | [t]=>(match zal S t with
   |some ts=>.ok (ts.reverse,fun S'=>zal S' t=some ts) S
   |none=>.bad)
 |_=>.bad
def idxF(x:T)(ts:List T):Option Nat:=match toV x,ts.mapM toV with
 |some u,some vs=>if(zfc u&&vs.all zfc)=true then vs.findIdx? (fun y=>eqV y u) else none
 |_,_=>none
def z9k(t:T)(as:List T):M T:=fun S=>match zal S t,as with
 | some ts,[y]=>(match idxF y ts with
   |some j=>if ts.length<=1000 then .ok (.int j) S else .bad
   |none=>.bad)
 |_,_=>.bad
def zij(t:T)(as:List T):M T:=fun S=>match cellL S t,as with
 | some (k,ts),[y]=>(match idxF y ts with
   |some j=>if ts.length<=1000 then .ok .non (S.set k (.lst (ts.eraseIdx j))) else .bad
   |none=>.bad)
 |_,_=>.bad
theorem z3h{W:Wd}{x:T}{ts:List T}{v:V}{vs:List V}{j:Nat}(d:Den W x v)(ds:Dens W ts vs)(e:idxF x ts=some j) :
  zfc v=true/\vs.all zfc=true/\(∃z,vs[j]?=some z/\eqV z v=true)/\(∀i z,i<j->vs[i]?=some z->eqV z v=false):=by
 unfold idxF at e;cases e1:toV x with
 |none=>simp[e1] at e
 | some u=>
   cases e2:ts.mapM toV with
   |none=>simp[e1,e2] at e
   | some us=>
     simp only[e1,e2] at e
     split at e
     ·rename_i hf
      rw[Bool.and_eq_true] at hf;have q1:=zk3 d e1;have q2:=znj ds e2;subst q1 q2;rw[List.findIdx?_eq_some_iff_getElem] at e;obtain⟨hj,h1,h2⟩:=e;refine⟨hf.1,hf.2,⟨vs[j],List.getElem?_eq_getElem hj,h1⟩,fun i z hi hz=>?_⟩;have hil:i<vs.length:=Nat.lt_trans hi hj;rw[List.getElem?_eq_getElem hil] at hz;cases hz;have:=h2 i hi;simpa using this
     ·cases e
def zws:V->List V->Hp->VK->Prop:=fun x vs H Q=>∃l xs y j,x=.ref l/\vs=[y]/\H l=some (.lst xs)/\zfc y=true/\xs.all zfc=true/\xs.length<=1000/\(∃z,xs[j]?=some z/\eqV z y=true)/\(∀i z,i<j->xs[i]?=some z->eqV z y=false)/\Q .non (upd H l (.lst (xs.eraseIdx j)))
theorem zwt{y x:V}{u v:Value}(ry:RelV y u)(rx:RelV x v)(fy:zfc y=true)(fx:zfc x=true):PySem.MeetsSeq.EqGives u v (eqV y x):=fun prog w A E s Q h=>z02 (A:=A) (s:=s) ry rx fy fx prog w E Q h
theorem zwu:MtR X "list.remove" zws:=by
 intro pins s σ H x vs v us Q I rx rv h;obtain⟨l,xs,y,j,rfl,rfl,hH,fy,fx,hl1,⟨z,hj,hz⟩,hno,q⟩:=h;cases rx;obtain⟨u,rfl,ru⟩:=rv.one;obtain⟨zz,its,n,r,hl,e⟩:=I.lstM hH;have hjl:j<its.length:=by rw[<- hl];exact(List.getElem?_eq_some_iff.mp hj).1
 have ea:∀i (hi:i<its.length),∃x',xs[i]?=some x'/\RelV x' its[i]:=fun i hi=>Vals.at r (by rw[List.getElem?_eq_getElem hi]);refine call_meets F.slot_list_remove ⟨_,e,rfl⟩ F.entry_list_remove (F.args_list_remove_2 _ _) (MeetsSeq.list_remove l its.toArray n u (eqU y) ?_ j (by simpa using hjl) ?_ ?_ (by rw[List.size_toArray];omega)) ⟨e,?_⟩
 ·intro w' hw
  have hw':w'∈its:=by simpa using hw
  obtain⟨i,hi,rfl⟩:=List.getElem_of_mem hw';obtain⟨x',h1,h2⟩:=ea i hi;rw[zov h2 (znh fx h1)];exact zwt h2 ru (znh fx h1) fy
 ·obtain⟨x',h1,h2⟩:=ea j hjl
  rw[hj] at h1;cases h1;have:its.toArray[j]'(by simpa using hjl)=its[j]:=by simp
  rw[this,zov h2 (znh fx hj)];exact hz
 ·intro m hm hmj
  have hm':m<its.length:=by simpa using hm
  obtain⟨x',h1,h2⟩:=ea m hm';have:its.toArray[m]'hm=its[m]:=by simp
  rw[this,zov h2 (znh fx h1)];exact hno m x' hmj h1
 ·refine⟨.non,_,I.lset (t':=s.toks) (its':=its.eraseIdx j) hH e ?_ (r.eraseIdx j) ?_,rfl,q⟩
  ·show its.toArray.eraseIdxIfInBounds j=(its.eraseIdx j).toArray
   rw[List.eraseIdxIfInBounds_toArray]
  ·have:=zox xs j
   omega
theorem zwv:GM E zws zij:=by
 intro t as W S H v vs Q r d da p;unfold zij at p
 split at p
 ·rename_i k ts y e
  cases e2:idxF y ts with
  |none=>simp only[e2] at p;exact p.elim
  | some j=>
    simp only[e2] at p
    split at p
    ·rename_i hl
     obtain⟨us,rfl,h0,h1,h2⟩:=r.cellL d e;obtain⟨w,rfl,dw⟩:=zfu da;obtain⟨g1,g2,g3,g4⟩:=z3h dw h2 e2;exact⟨_,us,w,j,rfl,rfl,h1,g1,g2,by rw[<- h2.length];exact hl,g3,g4,p W _ (Wd.le.refl _) (r.cellSet h0 _ _ ⟨_,zai,h2.eraseIdx _⟩) _ (zcl.mpr rfl)⟩
    ·exact p.elim
 ·exact p.elim
theorem zsq{apos:Pos}(ho:PE X o (RE E fo))(ha:PA X [e] (RA E fr))(hbase:attributeBase o "remove" X.env (eval o X.env)=eval o X.env:=by rfl)
  (hline:(apos.endLine==pos.line)=true:=by rfl) (hs:starEach [e] X.env=(false,eval e X.env)::starEach [] X.env:=by rfl)
  (hfew:((backTo pos (starEach [e] X.env)).all (fun x=>!x.1)&&(backToKw pos (keywordEach [] X.env)).all (fun x=>x.1.isSome)&&decide ([e].length+([]:List Keyword).length+(if([]:List Keyword).isEmpty then 0 else 1)<30))=true:=by rfl):PE X (.Call (.Attribute o "remove" apos) [e] [] pos) (RE E (eMt okL zij fo fr)):=
 e_mt PySem.F.plainAttrs_list PySem.F.slot_list_remove PySem.F.type_list_remove zwu zwb zwv ho ha hbase hfew hline hs rfl
end
end MF
namespace MF
open PySem L2
variable {S:Sto}{ρ:Ev}
@[simp]theorem zan{α β:Type}(m:M α)(f:α->M β):M.bind m f S=(match m S with|.ok a S'=>f a S' | .exc C fs S'=>.exc C fs S' | .bad=>.bad):=rfl
@[simp]theorem z9l{α:Type}(a:α):M.pure a S=.ok a S:=rfl
@[simp]theorem Zab{α:Type}:(M.bad:M α) S=.bad:=rfl
@[simp] theorem zt9 (i:Nat):eVar i ρ S=(match ρ[i]? with|some (some t)=>.ok t S | _=>.bad):=by
  unfold eVar
  split<;>simp_all
@[simp]theorem x_c(t:T):eC t ρ S=.ok t S:=rfl
@[simp]theorem x_e2(g:T->T->M T)(a b:DE):e2 g a b ρ S=(a ρ).bind (fun x=>(b ρ).bind fun y=>g x y) S:=rfl
@[simp]theorem x_e1(g:T->M T)(a:DE):e1 g a ρ S=(a ρ).bind g S:=rfl
@[simp]theorem z9m:aNil ρ S=.ok [] S:=rfl
@[simp]theorem z3i(a:DE)(r:DA):zac a r ρ S=(a ρ).bind (fun t=>(r ρ).bind fun ts=>M.pure (t::ts)) S:=rfl
@[simp]theorem x_eA(g:List T->M T)(f:DA):eA g f ρ S=(f ρ).bind g S:=rfl
@[simp]theorem x_gI(f:Int->Int->Option T)(i j:Int):gI f (.int i) (.int j) S=(match f i j with|some t=>.ok t S | none=>.bad):=rfl
@[simp]theorem z9n(i j:Int):fSub i j=some (.int (i-j)):=rfl
@[simp]theorem Zac(i j:Int):fLt i j=some (.bl (decide (i<j))):=rfl
@[simp]theorem Zad(i j:Int):fLe i j=some (.bl (decide (i<=j))):=rfl
@[simp]theorem Zae(i j:Int):fGt i j=some (.bl (decide (j<i))):=rfl
@[simp]theorem Zaf(i j:Int):fGe i j=some (.bl (decide (j<=i))):=rfl
@[simp]theorem z9o(i j:Int):fMul i j=(if(-(2 ^ 64)<i/\i<2 ^ 64)\/(-(2 ^ 64)<j/\j<2 ^ 64) then some (.int (i*j)) else none):=rfl
@[simp]theorem z9p(i j:Int):fDiv i j=(if 0<j/\j<1073741824 then some (.int (i / j)) else none):=rfl
@[simp]theorem z9q(i j:Int):fMod i j=(if 0<j then some (.int (i%j)) else none):=rfl
@[simp]theorem z9r(i j:Int):fPow i j=(if 0<=j/\j<=1000/\i.natAbs<2 ^ 64 then some (.int (i ^ j.toNat)) else none):=rfl
@[simp]theorem z9s(i j:Int):gAdd (.int i) (.int j) S=.ok (.int (i+j)) S:=rfl
@[simp]theorem z9t(i j:Str):gAdd (.str i) (.str j) S=(if i.length+j.length<=1000 then .ok (.str (i++j)) S else .bad):=rfl
@[simp]theorem z1l(xs ys:List T):gAdd (.lst xs) (.lst ys) S=(if xs.length+ys.length<=1000 then .ok (.lst (xs++ys)) S else .bad):=rfl
@[simp] theorem Zag (i j:Int):gEq (.int i) (.int j) S=.ok (.bl (decide (i=j))) S:=by
  simp[gEq,eqS,toV,scal]
@[simp] theorem Zah (i j:Str):gEq (.str i) (.str j) S=.ok (.bl (decide (i=j))) S:=by
  simp[gEq,eqS,toV,scal]
@[simp] theorem Zai (i j:Bool):gEq (.bl i) (.bl j) S=.ok (.bl (decide (i=j))) S:=by
  simp[gEq,eqS,toV,scal]
@[simp] theorem Zaj (i j:Int):gNe (.int i) (.int j) S=.ok (.bl (!decide (i=j))) S:=by
  simp[gNe,eqS,toV,scal]
@[simp] theorem Zak (i j:Str):gNe (.str i) (.str j) S=.ok (.bl (!decide (i=j))) S:=by
  simp[gNe,eqS,toV,scal]
@[simp]theorem zww(b:Bool):z22 (.bl b) S=.ok b S:=rfl
@[simp]theorem z9u(b:Bool):truM (.bl b) S=.ok b S:=rfl
@[simp]theorem z9v(ts:List T):truM (.lst ts) S=.ok (!ts.isEmpty) S:=rfl
@[simp]theorem z6r(f:DE):tst f ρ S=(f ρ).bind z22 S:=rfl
@[simp]theorem Zal(f:DE):tru f ρ S=(f ρ).bind truM S:=rfl
@[simp]theorem Zam(f g:DT):znk f g ρ S=(f ρ).bind (fun c=>if c=true then g ρ else M.pure false) S:=rfl
@[simp]theorem x_or(f g:DT):tOrD f g ρ S=(f ρ).bind (fun c=>if c=true then M.pure true else g ρ) S:=rfl
@[simp]theorem Zan(f:DT):zo9 f ρ S=(f ρ).bind (fun c=>M.pure (!c)) S:=rfl
@[simp]theorem Zao(c:DT)(f g:DE):eIf c f g ρ S=(c ρ).bind (fun b=>if b=true then f ρ else g ρ) S:=rfl
@[simp]theorem z9w(ts:List T):lstF ts S=(if ts.length<=1000 then .ok (.lst ts) S else .bad):=rfl
@[simp]theorem z9x(ts:List T):lstC ts S=(if ts.length<=1000 then .ok (.obj S.length) (S++[.lst ts]) else .bad):=rfl
@[simp]theorem z9y(ts:List T):tupF ts S=(if ts.length<=1000 then .ok (.tup ts) S else .bad):=rfl
@[simp]theorem z3j:zms ρ S=.ok (.obj S.length) (S++[.dic []]):=rfl
@[simp]theorem x_nx:sNx ρ S=.ok (.nx ρ) S:=rfl
@[simp]theorem z6s(f g:DS):sSeq f g ρ S=(f ρ).bind (fun x=>match x with|.nx ρ'=>g ρ' | o=>M.pure o) S:=rfl
@[simp]theorem z81(f:DE):sRet f ρ S=(f ρ).bind (fun t=>M.pure (.rt t)) S:=rfl
@[simp]theorem z9z(f:DE):zez f ρ S=(f ρ).bind (fun _=>M.pure (.nx ρ)) S:=rfl
@[simp]theorem z82(i:Nat)(f:DE):sSet i f ρ S=(f ρ).bind (fun t=>M.pure (.nx (ρ.set i (some t)))) S:=rfl
@[simp]theorem x_if(c:DT)(f g:DS):sIf c f g ρ S=(c ρ).bind (fun b=>if b=true then f ρ else g ρ) S:=rfl
@[simp] theorem z6t (n:Nat) (d:DS) (ts:List T):runD n d ts S=(match d (ts.map some++List.replicate (n-ts.length) none) S with
  |.ok (.rt t) S'=>.ok t S' | .ok (.nx _) S'=>.ok .non S' | .ok _ _=>.bad | .exc C fs S'=>.exc C fs S' | .bad=>.bad):=by
  unfold runD;rw[zan]
  split<;>simp_all
  rename_i x _ _;cases x<;>rfl
@[simp]theorem z6u(F:Fn)(ds:List T)(fr:DA):zbd F ds fr ρ S=(fr ρ).bind (fun ts=>F (ts++ds)) S:=rfl
@[simp]theorem z83(n:Nat)(F:Fn)(ts:List T):lenF n F ts S=(if ts.length=n then F ts S else .bad):=rfl
@[simp]theorem z6v(ts:List T):zdl S (.lst ts)=some ts:=rfl
@[simp]theorem z90(ts:List T):zdl S (.tup ts)=some ts:=rfl
@[simp]theorem zwx(ts:List T):zal S (.lst ts)=some ts:=rfl
@[simp]theorem z91(ts:List T):gLen (.lst ts) S=.ok (.int ts.length) S:=rfl
@[simp]theorem z6w(ts:List T)(i:Int):gIx (.lst ts) (.int i) S=(match atI ts i with|some t=>.ok t S | none=>.bad):=rfl
@[simp]theorem Zap(ts:List T)(i:Int):gIx (.tup ts) (.int i) S=(match atI ts i with|some t=>.ok t S | none=>.bad):=rfl
@[simp]theorem Zaq(z:Str)(i:Int):gIx (.str z) (.int i) S=(if z.length<=1000 then(match atI z.cps.toList i with|some c=>.ok (.str ⟨#[c]⟩) S | none=>.bad) else .bad):=rfl
@[simp] theorem Zar {α:Type} (a:α) (r:List α):atI (a::r) 0=some a:=by
  have:(0:Int)=((0:Nat):Int):=rfl;rw[this];exact zf0 rfl
@[simp] theorem Zas {α:Type} (a b:α) (r:List α):atI (a::b::r) 1=some b:=by
  have:(1:Int)=((1:Nat):Int):=rfl;rw[this];exact zf0 rfl
@[simp] theorem Zat {α:Type} (a b d:α) (r:List α):atI (a::b::d::r) 2=some d:=by
  have:(2:Int)=((2:Nat):Int):=rfl;rw[this];exact zf0 rfl
@[simp] theorem Zau {α:Type} (a b d e:α) (r:List α):atI (a::b::d::e::r) 3=some e:=by
  have:(3:Int)=((3:Nat):Int):=rfl;rw[this];exact zf0 rfl
@[simp] theorem Zav {α:Type} (a b d e f:α) (r:List α):atI (a::b::d::e::f::r) 4=some f:=by
  have:(4:Int)=((4:Nat):Int):=rfl;rw[this];exact zf0 rfl
theorem z1m{α:Type}{ts:List α}{i:Int}(h0:0<=i)(h1:i<ts.length):atI ts i=ts[i.toNat]?:=by
 obtain⟨j,rfl⟩:=Int.eq_ofNat_of_zero_le h0;have hl:j<ts.length:=by omega
 have:=zf0 (j:=j) (v:=ts[j]) (List.getElem?_eq_getElem hl);rw[this,Int.toNat_natCast,List.getElem?_eq_getElem hl]
end MF
namespace MF
open PySem L2
variable {S:Sto}{ρ:Ev}
@[simp]theorem z6x{α:Type}{p:Prop}[Decidable p](m n:M α):(if p then m else n) S=if p then m S else n S:=by split<;>rfl
@[simp]theorem x_iL(f:DE):iL f ρ S=(f ρ).bind (fun t=>fun S=>match zal S t with|some ts=>.ok (ts,fun S'=>zal S' t=some ts) S | none=>.bad) S:=rfl
@[simp]theorem z84(f:DA):iR1 f ρ S=(f ρ).bind (fun ts=>fun S=>match ts with|[.int j]=>if -1000000<=j/\j<=1000000 then .ok (zeu 0 j.toNat,fun(_:Sto)=>True) S else .bad | _=>.bad) S:=rfl
@[simp]theorem z85(f:DA):iR2 f ρ S=(f ρ).bind (fun ts=>fun S=>match ts with|[.int i,.int j]=>if -1000000<=i/\i<=1000000 /\ -1000000<=j/\j<=1000000 then .ok (zeu i (j-i).toNat,fun(_:Sto)=>True) S else .bad | _=>.bad) S:=rfl
@[simp]theorem z92(f:DA):iRev f ρ S=(f ρ).bind (fun as=>fun S=>match as with|[t]=>(match zal S t with|some ts=>.ok (ts.reverse,fun S'=>zal S' t=some ts) S | none=>.bad) | _=>.bad) S:=rfl
theorem zsr{st:Sto->Prop}{g:DG}{body:DS}(Inv:List T->Ev->Sto->Prop):∀(ts pre:List T) (ρ:Ev) (S:Sto),Inv pre ρ S ->
  (∀pre' t post ρ S,pre++ts=pre'++t::post->Inv pre' ρ S->st S/\∃ρ1,g t ρ=some ρ1/\∃ρ2 S2,body ρ1 S=.ok (.nx ρ2) S2/\Inv (pre'++[t]) ρ2 S2)->(∀ρ S,Inv (pre++ts) ρ S->st S) ->
  ∃ρ' S',za9 st g body ts ρ S=.ok (.nx ρ') S'/\Inv (pre++ts) ρ' S'
 | [],pre,ρ,S,h,_,he=>by
   rw[List.append_nil] at he ⊢;refine⟨ρ,S,?_,h⟩;unfold za9;rw[if_pos (he ρ S h)]
 | t::ts,pre,ρ,S,h,hs,he=>by
   obtain⟨hst,ρ1,e1,ρ2,S2,e2,h2⟩:=hs pre t ts ρ S rfl h;have e:pre++t::ts=(pre++[t])++ts:=by simp
   obtain⟨ρ',S',e3,h3⟩:=zsr Inv ts (pre++[t]) ρ2 S2 h2 (by rw[<- e];exact hs) (by rw[<- e];exact he);refine⟨ρ',S',?_,by rw[e];exact h3⟩;unfold za9;rw[if_pos hst,e1];simp only[zan,e2];exact e3
theorem zji{it:DI}{g:DG}{body:DS}{ts:List T}{st:Sto->Prop}{S1:Sto}(Inv:List T->Ev->Sto->Prop)(hit:it ρ S=.ok (ts,st) S1)(h0:Inv [] ρ S1)
  (hs:∀pre t post ρ S,ts=pre++t::post->Inv pre ρ S->st S/\∃ρ1,g t ρ=some ρ1/\∃ρ2 S2,body ρ1 S=.ok (.nx ρ2) S2/\Inv (pre++[t]) ρ2 S2) (he:∀ρ S,Inv ts ρ S->st S) :
  ∃ρ' S',sFor it g body ρ S=.ok (.nx ρ') S'/\Inv ts ρ' S':=by
 obtain⟨ρ',S',e,h⟩:=zsr (st:=st) (g:=g) (body:=body) Inv ts [] ρ S1 h0 hs he;refine⟨ρ',S',?_,h⟩;unfold sFor;simp only[zan,hit];exact e
theorem znt{st:Sto->Prop}{tc:DT}{te:DE}{caps:Ev}{p:T->Bool}{f:T->T}(hst:st S):∀(ts:List T) (o:Option T) (acc:List T),acc.length+ts.length<=1000->(∀t∈ts,tc (some t::caps) S=.ok (p t) S)->(∀t∈ts,p t=true->te (some t::caps) S=.ok (f t) S) ->
  zfh st (zaw 0) tc te ts (o::caps) acc S=.ok (acc++(ts.filter p).map f) S
 | [],o,acc,_,_,_=>by
   unfold zfh;rw[if_pos hst];simp
 | t :: ts,o,acc,hl,hc,he=>by
   have ih:=fun acc h=>znt (tc:=tc) (te:=te) hst ts (some t) acc h (fun u hu=>hc u (List.mem_cons_of_mem _ hu)) (fun u hu=>he u (List.mem_cons_of_mem _ hu));have h1:=hc t (List.mem_cons_self ..);rw[List.length_cons] at hl;unfold zfh;rw[if_pos hst];show(M.bind (tc (some t::caps)) _) S=_;rw[zan,h1];cases e:p t with
   | false=>
     have:=ih acc (by omega);simpa[e] using this
   | true=>
     have h2:=he t (List.mem_cons_self ..) e;have:=ih (acc++[f t]) (by rw[List.length_append,List.length_singleton];omega);have hlt:acc.length<1000:=by omega
     simp only[if_true,zan,h2,z6x,hlt];simpa[e,h2] using this
theorem zf8{js:List Nat}{it:DI}{tc:DT}{te:DE}{ts:List T}{st:Sto->Prop}{p:T->Bool}{f:T->T}(hit:it ρ S=.ok (ts,st) S)(hst:st S)(hl:ts.length<=1000)
  (hc:∀t∈ts,tc (some t::js.map fun j=>(ρ[j]?).join) S=.ok (p t) S) (he:∀t∈ts,p t=true->te (some t::js.map fun j=>(ρ[j]?).join) S=.ok (f t) S) :
  zef 1 js it (zaw 0) tc te finF ρ S=.ok (.lst ((ts.filter p).map f)) S:=by
 unfold zef;rw[zan,hit];show(M.bind (noX _) finF) S=_;rw[zan];have:=znt (tc:=tc) (te:=te) (caps:=js.map fun j=>(ρ[j]?).join) hst ts none [] (by simpa using hl) hc he;have e2:noX (zfh st (zaw 0) tc te ts (List.replicate 1 none++js.map fun j=>(ρ[j]?).join) []) S=.ok ((ts.filter p).map f) S:=by
  unfold noX;rw[show(List.replicate 1 (none:Option T)++js.map fun j=>(ρ[j]?).join)=none::js.map fun j=>(ρ[j]?).join from rfl,this];rfl
 simp only[e2];rfl
theorem zk7{js:List Nat}{it:DI}{te:DE}{ts:List T}{st:Sto->Prop}{f:T->T}(hit:it ρ S=.ok (ts,st) S)(hst:st S)(hl:ts.length<=1000)
  (he:∀t∈ts,te (some t::js.map fun j=>(ρ[j]?).join) S=.ok (f t) S) :
  zef 1 js it (zaw 0) yesD te finF ρ S=.ok (.lst (ts.map f)) S:=by
 have:=zf8 (tc:=yesD) (p:=fun _=>true) hit hst hl (fun _ _=>rfl) (fun t h _=>he t h);rwa[List.filter_eq_self.mpr (fun _ _=>rfl)] at this
theorem zwy{g:T->Option T}:∀{ts:List T},(∀t∈ts,g t=some t)->mapO g ts=some ts
 |[],_=>rfl
 | t::ts,h=>by
   unfold mapO;rw[h t (List.mem_cons_self ..),zwy fun u hu=>h u (List.mem_cons_of_mem _ hu)]
theorem z3k{S:Sto}{n f:Nat}{t:T}(h:HB n t):fz S n f t=some t:=by
 cases f<;>(unfold fz;rw[if_pos h])
theorem znu{F:Fn}{ts us:List T}{S':Sto}{k:Nat}(h:F ts S=.ok (.obj k) S')(hS:S'.take S.length=S)(hk:S.length<=k)(hc:S'[k]?=some (.lst us))(hb:∀t∈us,HB S.length t):frzF F ts S=.ok (.lst us) S:=by
 unfold frzF;rw[h];simp only[if_pos hS];have e:fz S' S.length 6 (.obj k)=some (.lst us):=by
  unfold fz;rw[if_neg (by simp only[HB];omega)];simp only[hc];rw[zwy fun t ht=>z3k (hb t ht)];rfl
 rw[e]
theorem zk8{F:Fn}{ts:List T}{S':Sto}{t:T}(h:F ts S=.ok t S')(hS:S'.take S.length=S)(hb:HB S.length t):frzF F ts S=.ok t S:=by
 unfold frzF;rw[h];simp only[if_pos hS];rw[z3k hb]
@[simp]theorem x_mt(ok:Sto->T->Bool)(g:T->List T->M T)(fo:DE)(fr:DA):eMt ok g fo fr ρ S=(fo ρ).bind (fun t=>fun S=>if ok S t=true then((fr ρ).bind fun ts=>g t ts) S else .bad) S:=rfl
theorem zzv{k:Nat}{ts:List T}{y:T}(h:S[k]?=some (.lst ts))(hl:ts.length<1000):gApp (.obj k) [y] S=.ok .non (S.set k (.lst (ts++[y]))):=by
 simp[gApp,cellL,h,hl]
theorem z3l{k:Nat}{ts us:List T}{y:T}(h:S[k]?=some (.lst ts))(hy:zal S y=some us)(hl:ts.length+us.length<=1000):gExt (.obj k) [y] S=.ok .non (S.set k (.lst (ts++us))):=by
 simp[gExt,cellL,h,hy,hl]
theorem zj7{k:Nat}{ts:List T}(h:S[k]?=some (.lst ts)):okL S (.obj k)=true:=by simp[okL,zal,h]
theorem zfv{k:Nat}{ts:List T}(h:S[k]?=some (.lst ts)):zal S (.obj k)=some ts:=by simp[zal,h]
@[simp]theorem z6y(n:Nat)(x:Str):HB n (.str x):=by simp[HB]
@[simp]theorem z93(n:Nat)(x:Int):HB n (.int x):=by simp[HB]
@[simp]theorem z86(n:Nat)(x:Bool):HB n (.bl x):=by simp[HB]
@[simp]theorem z94(n:Nat):HB n .non:=by simp[HB]
theorem zq7{n:Nat}:∀{ts:List T},(∀t∈ts,HB n t)->HBs n ts
 |[],_=>by simp only[HBs]
 |t::ts,h=>by simp only[HBs];exact⟨h t (List.mem_cons_self ..),zq7 fun u hu=>h u (List.mem_cons_of_mem _ hu)⟩
theorem z1n{n:Nat}{ts:List T}(h:∀t∈ts,HB n t):HB n (.lst ts):=by simp only[HB];exact zq7 h
theorem zmv{n:Nat}{ts:List T}(h:∀t∈ts,HB n t):HB n (.tup ts):=by simp only[HB];exact zq7 h
def strL(l:List Str):T:=.lst (l.map .str)
theorem zwz{n:Nat}(l:List Str):HB n (strL l):=z1n fun t ht=>by
 obtain⟨x,_,rfl⟩:=List.mem_map.mp ht;exact z6y n x
theorem zgm:∀(l:List Str),(l.map T.str).mapM toV=some (l.map V.str)
 |[]=>rfl
 | a::r=>by
   rw[List.map_cons,List.mapM_cons,zgm r];rfl
theorem zjj:∀{l:List Str},(l.map V.str).all zfc=true
 |[]=>rfl
 | a::r=>by
   rw[List.map_cons,List.all_cons,zjj];rfl
theorem zpf{x:Str}:∀{l:List Str},inV (.str x) (l.map V.str)=l.contains x
 |[]=>rfl
 | a::r=>by
   rw[List.contains_cons,<- zpf (l:=r)];show((a==x) || _)=_;rw[BEq.comm];rfl
theorem zss(x:Str)(l:List Str):inF (.str x) (l.map T.str)=some (l.contains x):=by
 unfold inF;rw[zgm];simp only[toV];rw[if_pos (by rw[zjj];rfl),zpf]
theorem z6z{x:Str}{y:T}{l:List Str}(h:zdl S y=some (l.map T.str)):gIn (.str x) y S=.ok (.bl (l.contains x)) S:=by
 simp[gIn,inS,h,zss]
theorem zzw{x:Str}{y:T}{l:List Str}(h:zdl S y=some (l.map T.str)):ziw (.str x) y S=.ok (.bl (!l.contains x)) S:=by
 simp[ziw,inS,h,zss]
@[simp]theorem z87(x:Str)(l:List Str):gIn (.str x) (strL l) S=.ok (.bl (l.contains x)) S:=z6z rfl
@[simp]theorem z71(x:Str)(l:List Str):ziw (.str x) (strL l) S=.ok (.bl (!l.contains x)) S:=zzw rfl
end MF
namespace MF
open PySem L2
theorem zst{α:Type}:∀{K:List (Addr×α)} {a:Addr} {o:α},K.lookup a=some o->(a,o)∈K
 |[],_,_,e=>by cases e
 | (b,x)::K,a,o,e=>by
   rw[List.lookup_cons] at e;cases h:a==b with
   | true=>
     rw[h] at e;cases e;rw[eq_of_beq h];exact List.mem_cons_self ..
   | false=>
     rw[h] at e;exact List.mem_cons_of_mem _ (zst e)
def zw0(K:PySem.W.Frag):Bool:=K.all fun p=>!(p.2.cls==Value.type "list")
theorem zw1{K:PySem.W.Frag}{a:Addr}{o:Obj}(h:zw0 K=true)(e:K.lookup a=some o):o.cls≠.type "list":=fun z=>by
 have hm:(a,o)∈K:=zst e;have:=List.all_eq_true.mp h (a,o) hm;rw[show(a,o).2.cls=Value.type "list" from z] at this;simp at this
def zzx(K:PySem.W.Frag):Sp:=fun vs H Q _=>∃(a:Addr) (ns:List Int),vs=[.ref a]/\SqL K H a (ns.map V.int)/\ns.length<=63/\∀H',Q (.bl true) H'
theorem zpg{W:Wd}:∀(ns:List Int),Dens W (ns.map T.int) (ns.map V.int)
 |[]=>Dens.nil'
 |n::ns=>Dens.cons' (zat.mpr rfl) (zpg ns)
theorem z60{P:Program}{w:World}{K:PySem.W.Frag}{mg:Str->Option Value}{base:Heap}{k:Nat}{f:Addr}{fd:FuncData}{F:Fn}(G:FnOk P w K mg base (CXE P w) k f fd ["script"] (spM 1 F))(nl:zw0 K=true)
  (h:∀ns:List Int,ns.length<=63->∃S',F [.lst (ns.map .int)] []=.ok (.bl true) S'):FnOk P w K mg base CX0 k f fd ["script"] (zzx K):=by
 refine G.calm.imp fun vs H Q E q=>?_;obtain⟨a,ns,rfl,sq,hl,q⟩:=q;have rd:Rd H a (.lst (ns.map V.int)):=by
  rcases sq with rd | ⟨o,its,n,hk,hc,_⟩
  ·exact rd
  ·exact absurd hc (zw1 nl hk)
 refine⟨⟨fun b=>if b=a then some (.lst (ns.map V.int)) else none,fun _=>0,0,fun _=>none,fun _=>none⟩,[],[.lst (ns.map .int)],⟨fun b o e=>?_,rfl,(fun k c e=>by simp at e),(fun j k hj=>absurd hj (Nat.not_lt_zero _)),(fun b o e=>nomatch e),fun b o e=>nomatch e⟩,Dens.cons' (zds.mpr ⟨a,_,rfl,if_pos rfl,zpg ns⟩) Dens.nil',rfl,?_⟩
 ·have e:(if b=a then some (HO.lst (ns.map V.int)) else none)=some o:=e
  by_cases z:b=a
  ·rw[if_pos z] at e
   cases e;subst z;refine⟨?_,trivial⟩;rcases rd with r | r
   ·exact .inl r
   ·exact .inr ⟨r,by intro xs z;cases z⟩
  ·rw[if_neg z] at e;cases e
 ·obtain⟨S',e⟩:=h ns hl
  rw[e];intro W' H' _ _ v dv;rw[zbb.mp dv];exact q H'
theorem walkM{l:PySem.W.OpenLaw}{q:Program}{loose:List Str}{XP:(Str->Option Value)->Heap->Prop}{YP:World->Heap->Prop}{d:DefRec}{K:Params->PySem.W.Frag}{k:Nat}(hk:Room k PySem.callerA)(hn:l.most=some 63)(hdf:d.params.defaults=[])
  (hY:∀(w:World) (h:Heap),YP w h->(K w.params).In h)
  (F:∀(w:World) (mg:Str->Option Value) (fa:Addr) (h:Heap),(K w.params).In h->h.Ns mainGlobals mg->mg d.name=some (.ref fa) ->
   ∃fd:FuncData,(∀(s:Shared) (u:Value),BindsTo s fd ⟨[u],[]⟩ [("script",u)])/\∀base:Heap,(K w.params).In base->base.Ns mainGlobals mg->FnOk l.prog w (K w.params) mg base CX0 k fa fd ["script"] (zzx (K w.params))) :
  PySem.W.WalkO q loose XP YP l.row.toRowW d [] (fun f vs=>PySem.call f vs):=
 L2.walk_of (n:=63) (k:=k) (x := "script") (CX:=fun _=>CX0) (sp:=fun w=>zzx (K w.params)) hn (by decide) hdf hk hY F (fun _ _ a ns hl _ hS=>⟨a,ns,rfl,hS,hl,fun _=>rfl⟩) fun _ _ _ _ _ z=>z
end MF
namespace MF
open PySem PySem.Spec L2
section
variable {W:Wd}{S:Sto}{H:Hp}
theorem Rep.privTake(r:Rep W S H){d:Addr}{ks:List (Str×V)}(hd:H d=some (.xd ks))(h0:W.HS d=none):∃W1:Wd,W.le W1/\Rep W1 S H/\W1.P d=some (.xd ks)/\W1.HS=W.HS/\W1.μ=W.μ/\W1.n=W.n:=by
 have nc:∀k,k<W.n->W.μ k≠d:=fun k hk z=>by
  obtain⟨c,hc⟩:=r.cellAt hk;have q:=(r.cell k c hc).1;rw[z] at q;cases c with
  |lst ts=>obtain⟨_,h1,_⟩:=q;rw[hd] at h1;cases h1
  |dic ts=>obtain⟨_,h1,_⟩:=q;rw[hd] at h1;cases h1
  |ins _ ts=>obtain⟨_,_,h1,_⟩:=q;rw[hd] at h1;cases h1
  |exc _ ts=>obtain⟨_,h1,_⟩:=q;rw[hd] at h1;cases h1
  |lck ts=>obtain⟨_,_,h1,_⟩:=q;rw[hd] at h1;cases h1
 cases e:W.P d with
 | some o=>
   have:=(r.prv d o e).1;rw[hd] at this;cases this;exact⟨W,Wd.le.refl W,r,e,rfl,rfl,rfl⟩
 | none=>
   refine⟨W.priv d (.xd ks),Wd.priv_le e,?_,zai,rfl,rfl,rfl⟩;refine r.samePriv rfl rfl rfl rfl (fun ek c=>zbu.hs (W:=W) (W':=W.priv d (.xd ks)) rfl rfl rfl (fun d' ks' z=>?_) c) (fun a u _ h=>h) (fun a q u _ h=>h) fun a u z=>?_
   ·show upd W.P d (.xd ks) d'=_
    rw[zag (fun q=>by rw[q,e] at z;cases z)];exact z
   ·have z:upd W.P d (.xd ks) a=some u:=z
    by_cases q:a=d
    ·subst q;rw[zai] at z;cases z;exact⟨hd,h0,nc⟩
    ·rw[zag q] at z;exact r.prv a u z
theorem Rep.caught(r:Rep W S H){ea C:Addr}{dx:Option Addr}{fs:Option (List (Str×T))}(he:H ea=none)(x:XOk W H dx fs) :
  ∃W1:Wd,W.le W1/\Rep W1 (S++[.exc C fs]) (upd H ea (excL ea C dx))/\W1.μ S.length=ea/\S.length<W1.n:=by
 have key:∃W1:Wd,W.le W1/\Rep W1 S H/\XP W1 dx fs/\W1.n=W.n:=by
  cases dx with
  | none=>
    cases fs with
    |none=>exact⟨W,Wd.le.refl W,r,trivial,rfl⟩
    |some _=>exact x.elim
  | some d=>
    cases fs with
    |none=>exact x.elim
    | some fs=>
      obtain⟨ks,x1,x2,x3⟩:=x;obtain⟨W1,l,r1,p1,_,_,n1⟩:=r.privTake x1 x2;exact⟨W1,l,r1,⟨ks,p1,DenF.mono l x3⟩,n1⟩
 obtain⟨W1,l,r1,x1,n1⟩:=key;refine⟨W1.add ea,l.trans Wd.add_le,r1.cellNew he (.exc C fs) (excL ea C dx) ⟨dx,zai,x1.mono Wd.add_le⟩,?_,?_⟩
 ·rw[r.len,<- n1];exact Wd.add_at
 ·rw[r.len,<- n1];exact Nat.lt_succ_self _
end
def msk{α:Type}(js:List Nat)(l:List (Option α)):List (Option α):=js.foldl (fun r j=>r.set j none) l
theorem zw2{α:Type}:∀(js:List Nat) (l:List (Option α)),(msk js l).length=l.length
 |[],_=>rfl
 |j::js,l=>by show(msk js (l.set j none)).length=_;rw[zw2 js,List.length_set]
theorem zq8{α:Type}:∀(js:List Nat) (l:List (Option α)) {i:Nat} {v:α},(msk js l)[i]?=some (some v)->l[i]?=some (some v)
 |[],_,_,_,h=>h
 | j::js,l,i,v,h=>by
   have h:=zq8 js (l.set j none) h;by_cases z:i=j
   ·subst z
    rw[List.getElem?_set] at h;simp at h
   ·rwa[List.getElem?_set_ne (Ne.symm z)] at h
theorem zsu{α:Type}:∀(js:List Nat) (l:List (Option α)) {i:Nat},i∈js->∀v:α,(msk js l)[i]?≠some (some v)
 | j::js,l,i,hi,v=>by
   intro h;have h2:=zq8 js (l.set j none) h;rcases List.mem_cons.mp hi with z | z
   ·subst z
    rw[List.getElem?_set] at h2;simp at h2
   ·exact zsu js (l.set j none) z v h
theorem za6.unset{W:Wd}:∀{ρ:Ev} {σ:St} (i:Nat),za6 W ρ σ->za6 W (ρ.set i none) (σ.set i none)
 |[],σ,i,h=>by rw[show σ=[] from h];exact rfl
 | o::ρ,σ,i,⟨s,r,e0,h1,h2⟩=>by
   subst e0;cases i with
   |zero=>exact⟨_,_,rfl,trivial,h2⟩
   |succ i=>exact⟨_,_,rfl,h1,za6.unset i h2⟩
theorem za6.msk{W:Wd}:∀(js:List Nat) {ρ:Ev} {σ:St},za6 W ρ σ->za6 W (msk js ρ) (msk js σ)
 |[],_,_,h=>h
 |j::js,_,_,h=>za6.msk js (za6.unset j h)
def zzy{α:Type}:R α->R α
 |.exc _ _ _=>.bad
 |r=>r
def unI(i:Nat):R Fl->R Fl
 |.ok (.nx ρ) S=>.ok (.nx (ρ.set i none)) S
 |.ok (.bk ρ) S=>.ok (.bk (ρ.set i none)) S
 |.ok (.ct ρ) S=>.ok (.ct (ρ.set i none)) S
 |r=>r
abbrev DH:=Addr->Option (List (Str×T))->DS
def dTry(fb:DS)(js:List Nat)(fh:DH):DS:=fun ρ S=>match fb ρ S with
 |.ok x S'=>.ok x S'
 |.exc C fs S'=>fh C fs (msk js ρ) S'
 |.bad=>.bad
def RH(E:XK)(fh:DH):THd:=fun cls dx _ D σ H=>∃C fs W S ρ,cls=.ref C/\Rep W S H/\XOk W H dx fs/\za6 W ρ σ/\Post E W (QF D) (fh C fs ρ S)
def zw3:DH:=fun _ _ _ _=>.bad
def Zaw(sub:Addr->Option Bool)(ds:DS)(r:DH):DH:=fun C fs ρ S=>match sub C with
 |some true=>zzy (ds ρ S)
 |some false=>r C fs ρ S
 |none=>.bad
def hdAs(sub:Addr->Option Bool)(i:Nat)(ds:DS)(r:DH):DH:=fun C fs ρ S=>match sub C with
 |some true=>unI i (zzy (ds (ρ.set i (some (.obj S.length))) (S++[.exc C fs])))
 |some false=>r C fs ρ S
 |none=>.bad
def SubK(K:PySem.W.Frag)(D:Addr)(sub:Addr->Option Bool):Prop:=∀C b,sub C=some b->∃bm,zd1 K C=some bm/\(Value.ref C::bm).contains (.ref D)=b
section
variable {X:Cx}{E:XK}{x n:Str}{np pos:Pos}{b₀:Stmt}{suite body:List Stmt}{rest hs:List ExceptHandler}{h₀:ExceptHandler}{D:Addr}{bmD:List Value}{sub:Addr->Option Bool}{ds fb:DS}{fr fh:DH}{i:Nat}{js:List Nat}
theorem z1o:PH X [] (RH E zw3):=fun pins s σ H D ea cls a0 dx B ok car car2 fly hd h=>by
 obtain⟨_,_,_,_,_,_,_,_,_,p⟩:=h;exact p.elim
theorem z88{t t':THd}(h:PH X hs t)(w:∀cls dx ea D σ H,t' cls dx ea D σ H->t cls dx ea D σ H):PH X hs t':=fun pins s σ H D ea cls a0 dx B ok car car2 fly hd q=>h pins s σ H D ea cls a0 dx B ok car car2 fly hd (w _ _ _ _ _ _ q)
theorem h_as(hN:X.N.Nodup)(hi:X.N[i]?=some n)(hx:X.env.scope.names.lookup n=some .local)(hg:Gl X x)(hm:X.mg x=some (.ref D))(qD:zd1 X.K D=some bmD)(sk:SubK X.K D sub)(hs:∀ea,PSs (X.inExc ea) (b₀::suite) (RS E0 ds))(hr:PH X rest (RH E fr))
  (hk:∀u:V,X.kn[i]?≠some (some u):=by exact fun u h=>nomatch (show(none:Option (Option V))=some (some u) from h)) (hdb:(x==("__debug__" : Str))=false:=by decide) :
  PH X (.ExceptHandler (some (.Name x np)) (some n) (b₀::suite) pos::rest) (RH E (hdAs sub i ds fr)):=z88 (zzl hg hm qD hN hi hx hk hs hr hdb) fun cls dx ea En σ H h=>by
 obtain⟨C,fs,W,S,ρ,rfl,r,xo,env,p⟩:=h;unfold hdAs at p;cases e:sub C with
 |none=>rw[e] at p;exact p.elim
 | some b=>
   obtain⟨bm,q1,q2⟩:=sk C b e;rw[e] at p;refine⟨C,bm,rfl,q1,?_⟩;rw[q2];cases b with
   |false=>rw[if_neg (by decide)];exact⟨C,fs,W,S,ρ,rfl,r,xo,env,p⟩
   | true=>
     rw[if_pos rfl];intro he;obtain⟨W1,l1,r1,m1,n1⟩:=r.caught (C:=C) he xo;refine⟨W1,_,_,r1,(env.mono l1).set (zbn.mpr ⟨by rw[m1],n1⟩) i,?_⟩
     revert p
     cases ds (ρ.set i (some (.obj S.length))) (S++[.exc C fs]) with
     |bad=>exact fun p=>p.elim
     |exc _ _ _=>exact fun p=>p.elim
     | ok y S2=>
       cases y with
       |nx ρ2=>exact fun p W2 H2 l2 r2 σ2 e2=>p W2 H2 (l1.trans l2) r2 _ (e2.unset i)
       |bk ρ2=>exact fun p W2 H2 l2 r2 σ2 e2=>p W2 H2 (l1.trans l2) r2 _ (e2.unset i)
       |ct ρ2=>exact fun p W2 H2 l2 r2 σ2 e2=>p W2 H2 (l1.trans l2) r2 _ (e2.unset i)
       |rt t=>exact fun p W2 H2 l2 r2=>p W2 H2 (l1.trans l2) r2
theorem z61(hb:∀(pn:List (Addr×Obj)) (kn:St) (xe:Value->Shared->Prop) (R:XK),(∀j∈js,∀u:V,kn[j]?≠some (some u))->zeb (CXE X.prog X.w) (X.tryIn pn kn xe) R->PassesOwn (model X.prog X.w) X.A X.env xe->PSs (X.tryIn pn kn xe) body (RS R fb))
  (hh:PH X (h₀::hs) (RH E fh)) (h0:X.kn=[]:=by rfl) (hst:X.stack=X.env::X.outer:=by rfl) (hfr:X.env.frame=some X.env.locals:=by rfl) :
  PS X (.Try body (h₀::hs) [] [] pos) (RS E (dTry fb js fh)):=zit (z5l hh hst hfr) fun D σ H h=>by
 obtain⟨W,S,ρ,r,env,p⟩:=h;refine⟨msk js σ,fun cls dx H'=>∃C fs W' S',cls=.ref C/\W.le W'/\Rep W' S' H'/\XOk W' H' dx fs/\Post E W' (QF D) (fh C fs (msk js ρ) S'),RS _ fb,zw2 js σ,fun i v e=>zq8 js σ e,fun i v e=>by rw[h0] at e;simp at e,
  fun pn xe pas own=>hb pn _ xe _ (fun j hj u=>zsu js σ hj u) pas own,⟨W,S,ρ,r,env,?_⟩,fun cls dx ea H' q=>?_⟩
 ·unfold dTry at p
  revert p
  cases fb ρ S with
  |ok y S2=>exact fun p=>p
  |bad=>exact fun p=>p.elim
  | exc C fs S2=>
    intro p W2 H2 dx l2 r2 x2;refine⟨C,fs,W2,S2,rfl,l2,r2,x2,?_⟩
    revert p
    show Post E W (QF D) (fh C fs (msk js ρ) S2)->_;cases fh C fs (msk js ρ) S2 with
    |ok y S3=>exact fun p W3 H3 l3 r3=>p W3 H3 (l2.trans l3) r3
    |exc _ _ _=>exact fun p W3 H3 dx l3 r3=>p W3 H3 dx (l2.trans l3) r3
    |bad=>exact fun p=>p
 ·obtain⟨C,fs,W',S',rfl,l,r',x',p'⟩:=q
  exact⟨C,fs,W',S',_,rfl,r',x',(env.mono l).msk js,p'⟩
end
end MF
namespace MF
open PySem PySem.Spec PyProof.Rows L2
section
variable {X:Cx}{E:XK}{k:Nat}{C fI:Addr}{fd:FuncData}{ps:List Str}{f g y:Str}{two:Bool}{np cpos pos:Pos}{e:Expr}{es:List Expr}{fr:DA}{fa:DE}
def gXat(C:Addr)(f:Str)(t:T):M T:=fun S=>match t with
 | .obj k=>(match S[k]? with
   | some (.exc D (some fs))=>if D=C then(match fs.lookup f with
     |some t=>.ok t S
     |none=>.bad) else .bad
   |_=>.bad)
 |_=>.bad
theorem z89 (hX:XGet X.K C) (hn:PySem.W.findIn X.K (.ref C) f=some none) (he:PE X e (RE E fa)) (hb:attributeBase e f X.env (eval e X.env)=eval e X.env:=by rfl):PE X (.Attribute e f pos) (RE E (e1 (gXat C f) fa)):=
 zb1 (z5w he hb) fun σ H Q h=>re1 (r:=fun x H1 Q=>∃a C d fs v,x=.ref a/\H1 a=some (excL a C (some d))/\XGet X.K C/\PySem.W.findIn X.K (.ref C) f=some none/\H1 d=some (.xd fs)/\fs.lookup f=some v/\Q v H1) (fun t W S H v Q r d p=>by
  unfold gXat at p
  split at p
  case h_2=>exact p.elim
  case h_1 k=>
   split at p
   case h_2=>exact p.elim
   case h_1 D fs ec=>
    split at p
    case isFalse=>exact p.elim
    case isTrue eD=>
     subst eD
     split at p
     case h_2=>exact p.elim
     case h_1 t el=>
      obtain⟨rfl,hk⟩:=zbn.mp d;obtain⟨⟨dx,h1,h2⟩,_⟩:=r.cell k _ ec;cases dx with
      |none=>exact h2.elim
      | some d0=>
        obtain⟨ks,g1,g2⟩:=h2;obtain⟨v,lv,dv⟩:=(DenF.look g2).1 t el;exact⟨_,_,d0,ks,v,rfl,h1,hX,hn,(r.prv d0 _ g1).1,lv,now p r dv⟩) h
def gIsX(sub:Addr->Option Bool)(t:T):M T:=fun S=>match t with
 | .obj k=>(match S[k]? with
   | some (.exc D _)=>(match sub D with
     |some b=>.ok (.bl b) S
     |none=>.bad)
   |_=>.bad)
 |_=>.bad
def SubX(K:PySem.W.Frag)(cu:Value)(sub:Addr->Option Bool):Prop:=∀C b,sub C=some b->XKit K C/\PySem.W.kitOne K (.ref C) cu=some b
theorem z1p{cu:Value}{c:V}{sub:Addr->Option Bool}(hu:∀u,RelV c u->u=cu)(sk:SubX X.K cu sub){σ:L2.St}{H:Hp}{Q:VK}(h:RE E (e1 (gIsX sub) fa) σ H Q) :
  ztq (RE E fa) (ztq (tC c) tNil) σ H (fun xs H1=>∃a C dx c cu b,xs=[.ref a,c]/\(∀u,RelV c u->u=cu)/\H1 a=some (excL a C dx)/\XKit X.K C/\PySem.W.kitOne X.K (.ref C) cu=some b/\(∀d,dx=some d->∃fs,H1 d=some (.xd fs))/\Q (.bl b) H1):=
 re1 (r:=fun x H1 Q=>∃a C dx c' cu b,[x,c]=[.ref a,c']/\(∀u,RelV c' u->u=cu)/\H1 a=some (excL a C dx)/\XKit X.K C/\PySem.W.kitOne X.K (.ref C) cu=some b/\(∀d,dx=some d->∃fs,H1 d=some (.xd fs))/\Q (.bl b) H1) (fun t W S H v Q r d p=>by
  unfold gIsX at p
  split at p
  case h_2=>exact p.elim
  case h_1 k=>
   split at p
   case h_2=>exact p.elim
   case h_1 D fs ec=>
    split at p
    case h_2=>exact p.elim
    case h_1 b es=>
     obtain⟨rfl,hk⟩:=zbn.mp d;obtain⟨⟨dx,h1,h2⟩,_⟩:=r.cell k _ ec;obtain⟨q1,q2⟩:=sk D b es;refine⟨_,D,dx,c,cu,b,rfl,hu,h1,q1,q2,fun d0 z=>?_,now p r (zbb.mpr rfl)⟩;subst z;cases fs with
     |none=>exact h2.elim
     | some fs=>
       obtain⟨ks,g1,_⟩:=h2;exact⟨ks,(r.prv d0 _ g1).1⟩) h
theorem z3m{D:Addr}{p q:Pos}{sub:Addr->Option Bool}(gl:Gl X "isinstance")(hm:X.mg "isinstance" = none)(ha:PE X e (RE E fa))(gy:Gl X y)(my:X.mg y=some (.ref D))(sk:SubX X.K (.ref D) sub)(dy:(y==("__debug__" : Str))=false:=by decide)
  (he:starEach [e,.Name y q] X.env=(false,eval e X.env)::starEach [.Name y q] X.env:=by rfl) (he2:starEach [.Name y q] X.env=(false,eval (.Name y q) X.env)::starEach [] X.env:=by rfl) (hpl:(backTo pos (starEach [.Name y q] X.env)).any (·.1)=false:=by rfl) :
  PE X (.Call (.Name "isinstance" p) [e,.Name y q] [] pos) (RE E (e1 (gIsX sub) fa)):=
 zb1 (zkf zmr gl hm zq3 (zdr ha (zdr (zuw (v:=.ref D) gy my rfl dy) zhg he2) he) (by decide) (by decide) he hpl) fun σ H Q h=>z1p (c:=.ref D) (cu:=.ref D) (fun u z=>z) sk h
theorem z62{p q:Pos}{sub:Addr->Option Bool}(gl:Gl X "isinstance")(hm:X.mg "isinstance" = none)(ha:PE X e (RE E fa))(gy:Gl X "ValueError")(my:X.mg "ValueError" = none)(sk:SubX X.K (.type "ValueError") sub)
  (he:starEach [e,.Name "ValueError" q] X.env=(false,eval e X.env)::starEach [.Name "ValueError" q] X.env:=by rfl) (he2:starEach [.Name "ValueError" q] X.env=(false,eval (.Name "ValueError" q) X.env)::starEach [] X.env:=by rfl) (hpl:(backTo pos (starEach [.Name "ValueError" q] X.env)).any (·.1)=false:=by rfl) :
  PE X (.Call (.Name "isinstance" p) [e,.Name "ValueError" q] [] pos) (RE E (e1 (gIsX sub) fa)):=
 zb1 (zkf zmr gl hm zq3 (zdr ha (zdr (zux (v:=.ty "ValueError") gy my (by decide +kernel) rfl) zhg he2) he) (by decide) (by decide) he hpl) fun σ H Q h=>z1p (c:=.ty "ValueError") (cu:=.type "ValueError") (fun u z=>z) sk h
end
end MF
namespace MF
open PySem L2
def Wd.unz(W:Wd)(a:Addr):Wd:=⟨W.HS,W.μ,W.n,fun b=>if b=a then none else W.Z b,W.P⟩
section
variable {W:Wd}{S:Sto}{H:Hp}
theorem Rep.lock(r:Rep W S H){k:Nat}{kvs:List (Key×T)}(h:S[k]?=some (.dic kvs))(o:Obj):∃ks,H (W.μ k)=some (.dK ks)/\DenK W kvs ks /\
  Rep (W.zed (W.μ k) (o,.dK ks)) (S.set k (.lck kvs)) (upd H (W.μ k) (.frz o (.dK ks)))/\W.le (W.zed (W.μ k) (o,.dK ks)):=by
 obtain⟨⟨ks,h1,h2⟩,h3⟩:=r.cell k _ h;have hk:=r.lt h;have zn:W.Z (W.μ k)=none:=r.noZ h (by intro _ z;cases z);have l:W.le (W.zed (W.μ k) (o,.dK ks)):=⟨fun _ _ e=>e,fun b q e=>by
  show(if b=W.μ k then some (o,HO.dK ks) else W.Z b)=some q;by_cases z:b=W.μ k
  ·rw[z,zn] at e;cases e
  ·rw[if_neg z];exact e,fun _ _ e=>e,Nat.le_refl _,fun _ _=>rfl⟩
 refine⟨ks,h1,h2,⟨fun b w e=>?_,?_,fun j c e=>?_,r.inj,fun b q e=>?_,fun b w e=>?_⟩,l⟩
 ·have ne:b≠W.μ k:=fun z=>by rw[z] at e;rw[show(W.zed (W.μ k) (o,HO.dK ks)).HS=W.HS from rfl,h3] at e;cases e
  exact⟨(r.sub b w e).1.at (zag ne),(r.sub b w e).2⟩
 ·rw[List.length_set];exact r.len
 ·by_cases z:k=j
  ·subst z
   have:c=.lck kvs:=by
    rw[List.getElem?_set_self (by rw[r.len];exact hk)] at e;exact(Option.some.inj e).symm
   subst this;exact⟨⟨o,ks,zai,DenK.mono l _ _ h2⟩,h3⟩
  ·rw[List.getElem?_set_ne z] at e
   have hj:=r.lt e;have ne:W.μ j≠W.μ k:=fun q=>z (r.inj _ _ hk hj q.symm);exact⟨((r.cell j c e).1.at (zag ne)).mono l,(r.cell j c e).2⟩
 ·have e:(if b=W.μ k then some (o,HO.dK ks) else W.Z b)=some q:=e
  by_cases z:b=W.μ k
  ·rw[if_pos z] at e
   cases e;subst z;exact zai
  ·rw[if_neg z] at e
   rw[zag z];exact r.zed b q e
 ·obtain⟨g1,g2,g3⟩:=r.prv b w e
  have ne:b≠W.μ k:=fun z=>g3 k hk z.symm;exact⟨by rw[zag ne];exact g1,g2,g3⟩
theorem zbu.unz{a b:Addr}:∀{c:Cell},zbu W H b c->zbu (W.unz a) H b c:=fun {c} h=>zbu.hs (W:=W) (W':=W.unz a) rfl rfl rfl (fun _ _ e=>e) h
theorem Rep.unlock(r:Rep W S H){k:Nat}{kvs:List (Key×T)}{o:Obj}{ks:List (Key×V)}(h:S[k]?=some (.lck kvs))(hz:H (W.μ k)=some (.frz o (.dK ks))) :
  Rep (W.unz (W.μ k)) (S.set k (.dic kvs)) (upd H (W.μ k) (.dK ks)):=by
 obtain⟨⟨o',ks',h1,h2⟩,h3⟩:=r.cell k _ h;rw[hz] at h1;cases h1;have hk:=r.lt h;refine⟨fun b w e=>?_,?_,fun j c e=>?_,r.inj,fun b q e=>?_,fun b w e=>?_⟩
 ·have ne:b≠W.μ k:=fun z=>by rw[z] at e;rw[show(W.unz (W.μ k)).HS=W.HS from rfl,h3] at e;cases e
  exact⟨(r.sub b w e).1.at (zag ne),(r.sub b w e).2⟩
 ·rw[List.length_set];exact r.len
 ·by_cases z:k=j
  ·subst z
   have:c=.dic kvs:=by
    rw[List.getElem?_set_self (by rw[r.len];exact hk)] at e;exact(Option.some.inj e).symm
   subst this;exact⟨⟨ks,zai,DenK.hs (W:=W) (W':=W.unz _) rfl rfl rfl _ _ h2⟩,h3⟩
  ·rw[List.getElem?_set_ne z] at e
   have hj:=r.lt e;have ne:W.μ j≠W.μ k:=fun q=>z (r.inj _ _ hk hj q.symm);exact⟨((r.cell j c e).1.at (zag ne)).unz,(r.cell j c e).2⟩
 ·have e:(if b=W.μ k then none else W.Z b)=some q:=e
  by_cases z:b=W.μ k
  ·rw[if_pos z] at e;cases e
  ·rw[if_neg z] at e
   rw[zag z];exact r.zed b q e
 ·obtain⟨g1,g2,g3⟩:=r.prv b w e
  have ne:b≠W.μ k:=fun z=>g3 k hk z.symm;exact⟨by rw[zag ne];exact g1,g2,g3⟩
theorem z63{W1 W4:Wd}{a:Addr}(zn:W1.Z a=none)(l:W1.le W4):W1.le (W4.unz a):=⟨l.hs,fun b q e=>by
 show(if b=a then none else W4.Z b)=some q;rw[if_neg (fun z=>by rw[z,zn] at e;cases e)];exact l.z b q e,l.p,l.n,l.μ⟩
def zf9(kvs:List (Key×T)):List T:=kvs.map fun p=>.tup [kT p.1,p.2]
theorem DenK.at'{W:Wd}:∀{kvs:List (Key×T)} {ks:List (Key×V)} {i:Nat} {k:Key} {v:V},DenK W kvs ks->ks[i]?=some (k,v)->∃t,kvs[i]?=some (k,t)/\Den W t v
 |[],ks,_,_,_,h,e=>by rw[zcm.mp h] at e;simp at e
 | (k0,t0)::kvs,ks,i,k,v,h,e=>by
   obtain⟨v0,r,rfl,h1,h2⟩:=zb7.mp h;cases i with
   |zero=>simp at e;obtain⟨rfl,rfl⟩:=e;exact⟨t0,rfl,h1⟩
   | succ i=>
     obtain⟨t,e1,e2⟩:=DenK.at' (i:=i) h2 (by simpa using e);exact⟨t,by simpa using e1,e2⟩
theorem zzz{a:Addr}{o:Obj}{kvs:List (Key×T)}{ks:List (Key×V)}(hz:W.Z a=some (o,.dK ks))(d:DenK W kvs ks):ItOk W (zf9 kvs) (fun _=>True) (Itd a o ks):=⟨fun i W' S' H' l r' _ hi=>by
 have h2:=r'.zed a _ (l.z a _ hz);rw[zf9,List.length_map,d.length] at hi;refine⟨⟨h2,hi⟩,fun x H'' y=>?_⟩;obtain⟨p,k,v,e1,hp,rfl,rfl⟩:=y;obtain⟨t,e2,d2⟩:=d.at' e1;have l2:W'.le (W'.frz p (.tup [kV k,v])):=Wd.frz_le (r'.hsNone hp);exact⟨W'.frz p (.tup [kV k,v]),.tup [kT k,t],l2,r'.frz hp _ trivial,by rw[zf9,List.getElem?_map,e2];rfl,zdt.mpr ⟨p,_,rfl,zai,Dens.cons' (z1f k) (Dens.cons' (Den.mono (l.trans l2) _ _ d2) Dens.nil')⟩⟩,fun i W' S' H' l r' _ hi=>by
 have h2:=r'.zed a _ (l.z a _ hz);rw[zf9,List.length_map,d.length] at hi;exact⟨h2,Nat.le_of_eq hi.symm⟩⟩
end
open Classical in
def unl{α:Type}(k:Nat)(kvs:List (Key×T)):R α->R α
 |.ok a S=>if S[k]?=some (.lck kvs) then .ok a (S.set k (.dic kvs)) else .bad
 |_=>.bad
def zph(f:List (Key×T)->List T)(nt:Nat)(js:List Nat)(fd:DE)(g:DG)(tc:DT)(te:DE)(fin:List T->M T):DE:=fun ρ=>(fd ρ).bind fun t=>fun S=>match t with
 | .obj k=>(match S[k]? with
   |some (.dic kvs)=>unl k kvs (M.bind (noX (zfh (fun _=>True) g tc te (f kvs) (List.replicate nt none++js.map fun j=>(ρ[j]?).join) [])) fin (S.set k (.lck kvs)))
   |_=>.bad)
 |_=>.bad
def iW(X:Cx)(J:Addr->Obj->List (Key×V)->It)(te:TE):TI:=fun σ H R=>te σ H fun x H1=>∃a kvs,x=.ref a /\
 ((H1 a=some (.dK kvs)/\∀o,(∀o' u,X.H₀ a≠some (.frz o' u))->R (J a o kvs) (upd H1 a (.frz o (.dK kvs))))\/∃o,H1 a=some (.frz o (.dK kvs))/\R (J a o kvs) H1)
def JOk(f:List (Key×T)->List T)(J:Addr->Obj->List (Key×V)->It):Prop:=∀{W:Wd} {a:Addr} {o:Obj} {kvs:List (Key×T)} {ks:List (Key×V)},W.Z a=some (o,.dK ks)->DenK W kvs ks->ItOk W (f kvs) (fun _=>True) (J a o ks)
theorem z3n:JOk zf9 Itd:=fun hz d=>zzz hz d
section
variable {X:Cx}{E:XK}{f:List (Key×T)->List T}{J:Addr->Obj->List (Key×V)->It}{fd:DE}{gl:TG}{g:DG}{tc:DT}{tcl:TT}{te:DE}{fb:DS}{fin:List T->M T}{nt:Nat}{js:List Nat}
theorem z3o{W1 W2 W4:Wd}{S4:Sto}{H4:Hp}{k:Nat}{kvs:List (Key×T)}{ks:List (Key×V)}{o:Obj}(r1n:k<W1.n)(zn:W1.Z (W1.μ k)=none)(l12:W1.le W2)(hz:W2.Z (W1.μ k)=some (o,.dK ks))(nf:∀o' u,X.H₀ (W1.μ k)≠some (.frz o' u))(l24:W2.le W4)(r4:Rep W4 S4 H4)(e4:S4[k]?=some (.lck kvs)){Rr:Hp->Prop}
  (h:∀W',W1.le W'->(W'.HS=W4.HS/\W'.μ=W4.μ/\W'.n=W4.n)->∀H',Rep W' (S4.set k (.dic kvs)) H'->Rr H'):Th X H4 Rr:=by
 have l14:=l12.trans l24;have e:=l14.μ k r1n;have z4:=r4.zed _ _ (l24.z _ _ hz);refine⟨W1.μ k,o,ks,z4,nf,?_⟩;have hu:=r4.unlock e4 (by rw[e];exact z4);rw[e] at hu;exact h _ (z63 zn l14) ⟨rfl,rfl,rfl⟩ _ hu
open Classical in
theorem zz0(hJ:JOk f J)(hG:GT gl g)(htc:∀σ H Q,RT E0 tc σ H Q->tcl σ H Q)(hf:znq E fin){σ:St}{H:Hp}{Q:VK}(h:RE E (zph f nt js fd g tc te fin) σ H Q):zqt nt js (iW X J (RE E fd)) gl tcl (RE E0 te) σ H (fun v H'=>Th X H' fun H''=>Q v H''):=by
 obtain⟨W,S,ρ,rp,env,p⟩:=h;refine⟨W,S,ρ,rp,env,(Post.bind p).imp fun t W1 S1 H1 l1 r1 p1 v dv=>?_⟩;cases t with
 | obj k=>
   obtain⟨rfl,hk⟩:=zbn.mp dv;simp only at p1
   split at p1
   case h_2=>exact p1.elim
   case h_1 kvs ek=>
    obtain⟨⟨ks,g1,g2⟩,_⟩:=r1.cell k _ ek;refine⟨W1.μ k,ks,rfl,.inl ⟨g1,fun o nf=>?_⟩⟩;obtain⟨ks',g1',g2',r2,l2⟩:=r1.lock ek o;rw[g1] at g1';cases g1';have zn:W1.Z (W1.μ k)=none:=r1.noZ ek (by intro _ z;cases z);have hz:(W1.zed (W1.μ k) (o,.dK ks)).Z (W1.μ k)=some (o,.dK ks):=by show(if W1.μ k=W1.μ k then some (o,HO.dK ks) else _)=_;rw[if_pos rfl]
    refine zpe (PF:=fun us S3=>Post E W1 (QV Q) (unl k kvs (fin us S3))) hG htc r2 ((env.mono l1).mono l2) (hJ hz (DenK.mono l2 _ _ g2)) (fun acc us W3 S3 H3 a hp r3 dacc l3 p4=>?_) ?_
    ·refine hf acc us _ W3 S3 H3 a (fun v H'=>Th X H' fun H''=>Q v H'') l3 hp r3 dacc ?_
     revert p4
     cases fin us S3 with
     |bad=>exact fun z=>z
     |exc _ _ _=>exact fun z=>z.elim
     | ok t S4=>
       intro p4 W4 H4 l4 r4 v4 d4;have p4:Post E W1 (QV Q) (if S4[k]?=some (.lck kvs) then .ok t (S4.set k (.dic kvs)) else .bad):=p4
       split at p4
       case isFalse=>exact p4.elim
       case isTrue e4=>exact z3o hk zn l2 hz nf l4 r4 e4 fun W' l' ⟨q1,q2,q3⟩ H' r'=>p4 W' H' l' r' v4 (Den.hs q1 q2 q3 _ _ d4)
    ·revert p1
     show Post E W1 (QV Q) (unl k kvs (M.bind (noX (zfh (fun _=>True) g tc te (f kvs) (List.replicate nt none++js.map fun j=>(ρ[j]?).join) [])) fin (S1.set k (.lck kvs))))->_;unfold M.bind noX;cases zfh (fun _=>True) g tc te (f kvs) (List.replicate nt none++js.map fun j=>(ρ[j]?).join) [] (S1.set k (.lck kvs)) with
     |bad=>exact fun z=>z
     |exc _ _ _=>exact fun z=>z.elim
     |ok us S3=>exact fun z W' H' _ _=>z
 |_=>exact p1.elim
end
section
variable {X:Cx}{E:XK}{elt iter c tg d:Expr}{fd:DE}{gl:TG}{g:DG}{tc:DT}{te:DE}{fin:List T->M T}{js:List Nat}{scope:Scope}{cl:List (Str×Addr)}{nts xs:List Str}{pos apos cpos:Pos}{elts:List Expr}{kk:Nat}{tp:Pos}{body:List Stmt}{fb:DS}
theorem z3p(hc:X.calm=true)(C:zex X scope cl nts xs js)(hd:PE X d (RE E fd))(hg:∀fp s3 H2,PG (za3 X scope cl (nts++xs) fp s3 H2) (.Tuple elts kk tp) gl)(hG:GT gl g)(ht:∀fp s3 H2,PT (za3 X scope cl (nts++xs) fp s3 H2) c (RT E0 tc))(he:∀fp s3 H2,PE (za3 X scope cl (nts++xs) fp s3 H2) elt (RE E0 te))(hf:znq E fin)
  (hbase:attributeBase d "items" X.env (eval d X.env)=eval d X.env:=by rfl) (hline:(apos.endLine==cpos.line)=true:=by rfl)
  (hs:∀x,foldedSetIterable (.Call (.Attribute d "items" apos) [] [] cpos) X.env x=pure x:=by intro _;rfl):PE X (.ListComp elt [⟨.Tuple elts kk tp,.Call (.Attribute d "items" apos) [] [] cpos,[c],0⟩] scope pos) (RE E (zph zf9 nts.length js fd g tc te fin)):=
 zb1 (z2r (zsb hc C (zzh hd hbase hline) hg ht he hs)) fun σ H Q h=>zz0 (X:=X) z3n hG (fun σ H Q h=>h) hf h
end
end MF
namespace MF
open PySem L2
def zsv(fk fv:DE):DE:=fun ρ S=>((fk ρ).bind fun k=>(fv ρ).bind fun v=>fun S'=>match keyT k,S'[S.length]? with
 |some key,some (.dic [])=>.ok (.obj S.length) (S'.set S.length (.dic [(key,v)]))
 |_,_=>.bad) (S++[.dic []])
section
variable {X:Cx}{E:XK}{o e k v:Expr}{fd fk fv:DE}{pos apos cpos:Pos}
theorem z3q(hk:PE X k (RE E fk))(hv:PE X v (RE E fv)):PE X (.Dict [some k] [v] pos) (RE E (zsv fk fv)):=zb1 (z2l (zy9 hk hv z2k) rfl rfl (by simp) (by simp)) fun σ H Q h p hp=>by
 obtain⟨W,S,ρ,r,env,p0⟩:=h;have lA:W.le (W.add p):=Wd.add_le;have rA:=r.cellNew hp (.dic []) (.dK []) ⟨[],zai,DenK.nil'⟩;have p0:Post E W (QV Q) (((fk ρ).bind fun k=>(fv ρ).bind fun v=>fun S'=>match keyT k,S'[S.length]? with
  |some key,some (.dic [])=>R.ok (T.obj S.length) (S'.set S.length (.dic [(key,v)]))
  |_,_=>.bad) (S++[.dic []])):=p0
 refine⟨W.add p,_,ρ,rA,env.mono lA,(Post.bind (zk5 p0 lA)).imp fun tk W1 S1 H1 l1 r1 p1 x dx=>?_⟩;refine⟨W1,S1,ρ,r1,(env.mono lA).mono l1,(Post.bind p1).imp fun tv W2 S2 H2 l2 r2 p2 y dy=>?_⟩
 split at p2
 case h_2=>exact p2.elim
 case h_1 key ek es=>
  have eN:S.length=W.n:=r.len;have hn:S.length<(W.add p).n:=by rw[eN];exact Nat.lt_succ_self _
  have eμ:W2.μ S.length=p:=by rw[(l1.trans l2).μ _ hn,eN,Wd.add_at]
  have hn2:=r2.lt es;obtain⟨⟨ks,g1,g2⟩,_⟩:=r2.cell _ _ es;obtain rfl:=zcm.mp g2;rw[eμ] at g1;refine⟨g1,[(key,y)],by rw[znl dx ek];rfl,by simp,?_⟩;have e2:zmk [] [(key,y)]=[(key,y)]:=rfl;rw[e2,<- eμ];exact p2 W2 _ (Wd.le.refl _) (r2.cellSet es _ _ ⟨_,zai,DenK.cons' dy DenK.nil'⟩) _ (zbn.mpr ⟨rfl,hn2⟩)
end
end MF
namespace MF
open PySem L2
def subH(L:List Addr):Addr->Option Bool:=fun C=>if C∈L then some true else none
def subL(L:List Addr)(D:Addr):Addr->Option Bool:=fun C=>if C∈L then some (decide (C=D)) else none
section
variable {K:PySem.W.Frag}{h D:Addr}{L:List Addr}
theorem z64(D:Addr):bmVE.contains (.ref D)=false:=rfl
theorem zw4(C D:Addr):(Value.ref C==Value.ref D)=decide (C=D):=by
 by_cases e:C=D
 ·subst e;simp
 ·rw[decide_eq_false e];exact beq_eq_false_iff_ne.mpr (fun z=>e (Value.ref.inj z))
theorem z65(m:∀C∈L,C≠h->zd1 K C=some (.ref h::bmVE))(mh:zd1 K h=some bmVE):SubK K h (subH L):=fun C b e=>by
 unfold subH at e
 split at e
 case isFalse=>cases e
 case isTrue hC=>
  cases e;by_cases z:C=h
  ·subst z;exact⟨_,mh,by rw[List.contains_cons,beq_self_eq_true];rfl⟩
  ·exact⟨_,m C hC z,by rw[List.contains_cons,List.contains_cons,beq_self_eq_true];simp⟩
theorem z66(m:∀C∈L,C≠h->zd1 K C=some (.ref h::bmVE))(mh:zd1 K h=some bmVE)(hD:D≠h):SubK K D (subL L D):=fun C b e=>by
 unfold subL at e
 split at e
 case isFalse=>cases e
 case isTrue hC=>
  cases e;by_cases z:C=h
  ·subst z;exact⟨_,mh,by rw[List.contains_cons,z64,zw4,Bool.or_false];exact decide_eq_decide.mpr ⟨Eq.symm,Eq.symm⟩⟩
  ·refine⟨_,m C hC z,?_⟩
   rw[List.contains_cons,List.contains_cons,z64,zw4,zw4,Bool.or_false,decide_eq_false (show¬D=h from hD),Bool.or_false];exact decide_eq_decide.mpr ⟨Eq.symm,Eq.symm⟩
theorem zw5(m:∀C∈L,XKit K C/\PySem.W.kitOne K (.ref C) (.ref D)=some (decide (C=D))):SubX K (.ref D) (subL L D):=fun C b e=>by
 unfold subL at e
 split at e
 case isFalse=>cases e
 case isTrue hC=>cases e;exact m C hC
theorem z67(m:∀C∈L,XKit K C/\PySem.W.kitOne K (.ref C) (.type "ValueError")=some true):SubX K (.type "ValueError") (subH L):=fun C b e=>by
 unfold subH at e
 split at e
 case isFalse=>cases e
 case isTrue hC=>cases e;exact m C hC
end
end MF
namespace L2
open PySem PySem.Spec PyProof.Rows
section
variable {X:Cx}{pins:List (Addr×Obj)}{σ:List (Option V)}{H:Hp}{s:Shared}{h':Heap}
theorem Inv.around{t':Nat}(I:Inv X pins σ H s)(k:∀b o,b≠X.env.locals->s.heap.get? b=some o->h'.get? b=some o)(hn:∀m,s.heap.Ns X.env.locals m->h'.Ns X.env.locals m):Inv X pins σ H { s with heap:=h',toks:=t' }:=by
 have nL:∀b u,H b=some u->b≠X.env.locals:=fun b u e z=>by rw[z,I.free] at e;cases e
 refine I.step (g':=s.gens) (d':=s.drawn) (ch:=[]) (fun b hb=>absurd hb List.not_mem_nil) (fun b o hl _ _ e _=>k b o hl e) (fun b o hl _ _ e _=>⟨o.slots,k b o hl e⟩) (fun _ _ _ _ n=>n) (fun b o _ e=>?_) (fun _ _ e=>e) (fun _ _ _ e=>e) (fun b ps e=>⟨#[],by rw[e];simp⟩) hn (fun b u e=>?_) I.bare
 ·by_cases z:b=X.env.locals
  ·obtain⟨m,hm,_⟩:=I.loc
   obtain⟨o',es,ep,ho,_⟩:=hn m hm;exact⟨o',by rw[z];exact ho⟩
  ·exact⟨o,k b o z e⟩
 ·refine(I.hok b u e).stay (fun c v hc q=>k c v ?_ q) (fun _ q=>q) fun _ _ q=>q
  rcases hc with z | z
  ·rw[z];exact nL b u e
  ·exact nL c _ z
theorem z68{h:Heap}{a:Addr}{m m':Str->Option Value}(p:h.Ns a m)(q:h.Ns a m'):m=m':=by
 obtain⟨o,es,ep,ho,hd,_,l⟩:=p;obtain⟨o',es',ep',ho',hd',_,l'⟩:=q;rw[ho] at ho';cases ho';rw[hd] at hd';cases hd';funext n;rw[<- l n,l' n]
theorem znv:∀{xs:List V} {us:List Value} {i:Nat} {u:Value},Vals xs us->us[i]?=some u->∃x,xs[i]?=some x/\RelV x u
 |_,_,_,_,.nil,e=>by simp at e
 |_,_,0,_,.cons r _,e=>by simp at e;subst e;exact⟨_,rfl,r⟩
 | _,_,i+1,_,.cons _ t,e=>by
   obtain⟨x,e1,e2⟩:=znv (i:=i) t (by simpa using e);exact⟨x,by simpa using e1,e2⟩
theorem zw6(hc:X.calm=true):zh7 X (.builtin "any") (fun xs H Q=>∃(a:Addr) (bs:List Bool),xs=[.ref a]/\Rd H a (.lst (bs.map V.bl))/\Q (.bl (bs.any id)) H):=by
 intro pins s σ H xs us Q I r h;obtain⟨a,bs,rfl,rd,q⟩:=h;obtain⟨u,rfl,rx⟩:=zm9 r;cases (show u=Value.ref a from rx);obtain⟨z,its,n,rv,e⟩:=rd.ok I.hok;have hl:s.heap.IsList a its.toArray:=⟨_,e,rfl,n,rfl⟩;have hlen:=rv.length;have alt:=Heap.lt_size e;refine call_any_walk (wpAny_pyIter_list hl ?_);have hh:X.A.in1.handled=none:=I.ok.hd hc;refine⟨_,_,_,_,_,_,fun i=>bs.getD i false,rfl,Walks.list hh s.heap.objs.size a (Nat.ne_of_lt alt) its.toArray,⟨⟨_,Heap.get?_push_size _ rfl,rfl,rfl⟩,hl.push _⟩,?_,fun h' tk hk=>?_⟩
 ·intro i v s' Q' E' hP hQ
  obtain⟨x,e1,e2⟩:=znv (i:=i) (u:=v) rv (by simpa using hP);rw[List.getElem?_map] at e1;cases e3:bs[i]? with
  |none=>rw[e3] at e1;cases e1
  | some b=>
    rw[e3] at e1;cases e1;cases (show v=Value.bool b from e2);have:bs.getD i false=b:=by simp[List.getD,e3]
    have hQ:Q' (bs.getD i false) s':=hQ;rw[this] at hQ;exact wpAny_truthy_bool hQ
 ·have ev:(List.range its.toArray.size).any (fun i=>bs.getD i false)=bs.any id:=by
   rw[List.size_toArray,<- hlen,List.length_map,Bool.eq_iff_iff,List.any_eq_true,List.any_eq_true];constructor
   ·rintro⟨i,hi,e⟩
    have hi:=List.mem_range.mp hi;refine⟨bs[i],List.getElem_mem hi,?_⟩;simpa[List.getD,List.getElem?_eq_getElem hi] using e
   ·rintro⟨b,hb,e⟩
    obtain⟨i,hi,rfl⟩:=List.getElem_of_mem hb;exact⟨i,List.mem_range.mpr hi,by simpa[List.getD,List.getElem?_eq_getElem hi] using e⟩
  rw[ev];exact⟨.bl _,H,I.kept fun b o eb=>hk b o (by simpa using Nat.ne_of_lt (Heap.lt_size eb)) (Heap.get?_push_of_some _ eb),rfl,q⟩
def rMin:List V->Hp->VK->Prop:=fun xs H Q=>∃(a:Addr) (ys:List V) (kf:Nat->Int),xs=[.ref a]/\Rd H a (.lst ys)/\0<ys.length/\(∀(i:Nat) x,ys[i]?=some x->∃b zs,x=.ref b/\Rd H b (.lst zs)/\kf i=(zs.length:Int)) /\
 ∀(i:Nat) x,ys[i]?=some x->(∀j,j<ys.length->kf i<=kf j/\(j<i->kf i<kf j))->Q x H
theorem zq9{H:Hp}{a:Addr}{o:HO}(r:Rd H a o):∃u,H a=some u:=by
 rcases r with r | ⟨q,r⟩
 ·exact⟨_,r⟩
 ·exact⟨_,r⟩
theorem zra{xs:List V}{us:List Value}{Q:VK}{E:Value->Shared->Prop}(hc:X.calm=true)(I:Inv X pins σ H s)(r:Vals xs us)(h:rMin xs H Q) :
  wpAny (model X.prog X.w) X.A (call (.builtin "min") us [(Str.ofString "key",.builtin "len")]) (fun u s'=>∃v H',Inv X pins σ H' s'/\RelV v u/\Q v H') E s:=by
 obtain⟨a,ys,kf,rfl,rd,hne,hk,q⟩:=h;obtain⟨u,rfl,rx⟩:=zm9 r;cases (show u=Value.ref a from rx);obtain⟨z,its,n,rv,e⟩:=rd.ok I.hok;obtain⟨m,hm,_⟩:=I.loc;have hlen:=rv.length;have nL:∀b u,H b=some u->b≠X.env.locals:=fun b u e z=>by rw[z,I.free] at e;cases e
 have h0:∀b,({}:Heap).get? b=none:=by intro b;simp[Heap.get?]
 obtain⟨news,mem⟩:∃news:List (Addr×Obj),∀b o,(b,o)∈news↔b≠X.env.locals/\s.heap.get? b=some o:=by
  refine⟨(List.range s.heap.objs.size).filterMap fun b=>if b=X.env.locals then none else(s.heap.get? b).map fun o=>(b,o),fun b o=>?_⟩;rw[List.mem_filterMap];constructor
  ·rintro⟨c,_,e⟩
   by_cases z:c=X.env.locals
   ·rw[if_pos z] at e;cases e
   ·rw[if_neg z] at e
    cases e2:s.heap.get? c with
    |none=>rw[e2] at e;cases e
    |some o'=>rw[e2] at e;cases e;exact⟨z,e2⟩
  ·rintro⟨z,e⟩
   exact⟨b,List.mem_range.mpr (Heap.lt_size e),by rw[if_neg z,e];rfl⟩
 have F:Fr {} X.env.locals s.heap m:=⟨hm,fun b o e=>(by rw[h0] at e;cases e),Nat.zero_le _⟩;have N:News {} X.env.locals s.heap news:=fun p hp=>by
  obtain⟨b,o⟩:=p;obtain⟨h1,h2⟩:=(mem b o).mp hp;exact⟨h2,h1,h0 _⟩
 obtain⟨ua,ea⟩:=zq9 rd;have hl:∀h,Fr {} X.env.locals h m->News {} X.env.locals h news->h.IsList a its.toArray:=fun h _ N'=>⟨_,(N' (a,_) ((mem a _).mpr ⟨nL a _ ea,e⟩)).1,rfl,n,rfl⟩;refine kmb_min (kid := "len") (vs:=its) kf (I.ok.hd hc) F N hl (by rw[<- hlen];exact hne) (fun i v hv h tk own F' N'=>?_) (fun i v h' tk' hv hb F' N'=>?_)
 ·obtain⟨x,e1,e2⟩:=znv rv hv
  obtain⟨b,zs,rfl,rdb,ek⟩:=hk i x e1;cases (show v=Value.ref b from e2);obtain⟨z2,its2,n2,rv2,eb⟩:=rdb.ok I.hok;obtain⟨ub,eub⟩:=zq9 rdb;have hlb:h.IsList b its2.toArray:=⟨_,(N' (b,_) (List.mem_append_left _ ((mem b _).mpr ⟨nL b _ eub,eb⟩))).1,rfl,n2,rfl⟩;have hl2:=rv2.length;have hs:sizeLine=16777216:=sizeLine_eq;refine Calls.call_len_list (s:={ s with heap:=h,toks:=tk }) hlb (by simp only[List.size_toArray];omega) ?_;have ek2:kf i=((its2.toArray.size:Nat):Int):=by rw[ek,List.size_toArray,hl2]
  rw[ek2];exact KskEnd.intro F' N' fun p hp=>hp
 ·obtain⟨x,e1,e2⟩:=znv rv hv
  exact⟨x,H,I.around (fun b o hb eb=>(N' (b,o) ((mem b o).mpr ⟨hb,eb⟩)).1) (fun m' hm'=>by rw[z68 hm' hm];exact F'.ns),e2,q i x e1 fun j hj=>hb j (by rw[<- hlen];exact hj)⟩
theorem zw7{e:Expr}{te:TA}{p kp kpos pos:Pos}(hc:X.calm=true)(hg:Gl X "min")(hm:X.mg "min" = none)(hg2:Gl X "len")(hm2:X.mg "len" = none)(he:PA X [e] te)
  (hb:backTo pos (starEach [e] X.env)=(false,eval e X.env)::backTo pos (starEach [] X.env):=by rfl) (hpl:(backTo pos (starEach [e] X.env)).any (·.1)=false:=by rfl) :
  PE X (.Call (.Name "min" p) [e] [⟨some "key",.Name "len" kp,kpos⟩] pos) (tCB rMin te):=by
 intro pins s σ H Q I h;refine wpAny_Call_Name_kw (zhe I hg hm boot_min ?_);refine callWith_kw (thn (he pos pins s σ H _ I h) fun us s1 hq_=>?_) hb hpl;obtain⟨vs,H1,I1,r1,q1⟩:=hq_;refine kws_cons (zhe I1 hg2 hm2 boot_len (kws_nil ?_));exact zra hc I1 r1 q1
theorem zz1{e:Expr}{te:TE}{pos:Pos}(hgd:X.A.guards=some [])(hu:X.A.units+64<cLine)(he:PE X e te):PE X (.FormattedValue e 114 none pos) (fun σ H Q=>te σ H fun v H1=>∃d a,MF.RdD H1 d v/\v=.ref a/\d.showable=true/\d.hasDict=false/\d.depth<=50/\d.shown.length<=sizeLine/\Q (.str d.shown) H1):=by
 intro pins s σ H Q I h;refine wpAny_FormattedValue_repr (thn (he pins s σ H _ I h) fun v s1 hq_=>?_);obtain⟨x,H1,I1,r,d,a,rd,e,hs,hd,hdep,l,q⟩:=hq_;subst e;cases (show v=Value.ref a from r);obtain⟨as,rr⟩:=MF.reads_of I1.hok d _ _ rd rfl;refine pyReprObj_of_reads rr hs (fun z=>by rw[hd] at z;cases z) hgd (by omega) (fun b o e=>e) (fun h' u tk hk=>?_) l;exact formatField_str (hsz:=l) fun t' tk=>⟨.str _,H1,(I1.kept (t':=tk) hk),⟨t',rfl⟩,q⟩
end
end L2
namespace MF
open PySem L2
def zpi:List T->Option (List Bool)
 |[]=>some []
 |.bl b::ts=>(zpi ts).map (b::·)
 |_::_=>none
theorem zw8{W:Wd}:∀{ts:List T} {vs:List V} {bs:List Bool},Dens W ts vs->zpi ts=some bs->vs=bs.map V.bl
 |[],vs,ys,h,e=>by cases e;exact zbl.mp h
 | t :: ts,vs,ys,h,e=>by
   obtain⟨v,r,rfl,h1,h2⟩:=za1.mp h;cases t with
   | bl x=>
     simp only[zpi] at e;obtain⟨zs,e1,rfl⟩:=Option.map_eq_some_iff.mp e;rw[zbb.mp h1,zw8 h2 e1];rfl
   |_=>simp[zpi] at e
def gAny(t:T):M T:=fun S=>match (zal S t).bind zpi with
 |some bs=>.ok (.bl (bs.any id)) S
 |none=>.bad
def zz2(S:Sto)(ts:List T):Option (List Nat):=mapO (fun t=>(zal S t).map List.length) ts
def zk9(ls:List Nat)(i:Nat):Prop:=∃n,ls[i]?=some n/\∀j k,ls[j]?=some k->n<=k/\(j<i->n<k)
theorem zk9.one{ls:List Nat}{i j:Nat}(a:zk9 ls i)(b:zk9 ls j):i=j:=by
 obtain⟨n,e1,h1⟩:=a;obtain⟨k,e2,h2⟩:=b;have p:=h1 j k e2;have q:=h2 i n e1;rcases Nat.lt_trichotomy i j with h | h | h
 ·have:=q.2 h;omega
 ·exact h
 ·have:=p.2 h;omega
open Classical in
def gMin(t:T):M T:=fun S=>match zal S t with
 | some ts=>(match zz2 S ts with
   | some ls=>if h:∃i,zk9 ls i then(match ts[h.choose]? with
     |some u=>.ok u S
     |none=>.bad) else .bad
   |none=>.bad)
 |none=>.bad
theorem zw9{α β:Type}{f:α->Option β}:∀{l:List α} {m:List β},mapO f l=some m->l.length=m.length/\∀(i:Nat) x,l[i]?=some x->∃y,m[i]?=some y/\f x=some y
 |[],m,e=>by cases e;exact⟨rfl,fun i x h=>by simp at h⟩
 | a :: l,m,e=>by
   unfold mapO at e;cases e1:f a with
   |none=>simp[e1] at e
   | some b=>
     cases e2:mapO f l with
     |none=>simp[e1,e2] at e
     | some r=>
       simp[e1,e2] at e;subst e;obtain⟨h1,h2⟩:=zw9 e2;refine⟨by simp[h1],fun i x h=>?_⟩;cases i with
       |zero=>simp at h;subst h;exact⟨b,rfl,e1⟩
       |succ i=>simpa using h2 i x (by simpa using h)
theorem zpj:∀(l:List Str),PyData.showableAll (l.map PyData.str)=true
 |[]=>by simp[PyData.showableAll]
 |a::r=>by simp[PyData.showableAll,PyData.showable,zpj r]
theorem zpk:∀(l:List Str),PyData.hasDictAll (l.map PyData.str)=false
 |[]=>by simp[PyData.hasDictAll]
 |a::r=>by simp[PyData.hasDictAll,PyData.hasDict,zpk r]
theorem zla:∀(l:List Str),PyData.depthAll (l.map PyData.str)=0
 |[]=>by simp[PyData.depthAll]
 |a::r=>by simp[PyData.depthAll,PyData.depth,zla r]
theorem zpl{H:Hp}:∀(l:List Str),RdDs H (l.map PyData.str) (l.map V.str)
 |[]=>by simp[RdDs]
 | a::r=>by
   simp only[List.map_cons,RdDs];exact⟨_,_,rfl,by simp[RdD],zpl r⟩
section
variable {X:Cx}{E:XK}{e:Expr}{fa:DE}{pos p kp kpos:Pos}
theorem z9a(hc:X.calm=true)(gl:Gl X "any")(hm:X.mg "any" = none)(ha:PE X e (RE E fa))
  (he:starEach [e] X.env=(false,eval e X.env)::starEach [] X.env:=by rfl) (hpl:(backTo pos (starEach [] X.env)).any (·.1)=false:=by rfl):PE X (.Call (.Name "any" p) [e] [] pos) (RE E (e1 gAny fa)):=
 zq1 (zw6 hc) (fun t W S H v Q r d p=>by
  unfold gAny at p;cases e:(zal S t).bind zpi with
  |none=>rw[e] at p;exact p.elim
  | some bs=>
    rw[e] at p;obtain⟨ts,e1,e2⟩:=Option.bind_eq_some_iff.mp e;obtain⟨a,vs,rfl,h1,h2⟩:=r.list d e1;rw[zw8 h2 e2] at h1;exact⟨a,bs,rfl,h1,now p r (zbb.mpr rfl)⟩) gl hm PyProof.Rows.boot_any ha (by decide) (by decide) he hpl
theorem zz3 (hc:X.calm=true) (hg:Gl X "min") (hm:X.mg "min" = none) (hg2:Gl X "len") (hm2:X.mg "len" = none) (ha:PE X e (RE E fa))
  (hs:starEach [e] X.env=(false,eval e X.env)::starEach [] X.env:=by rfl)
  (hb:backTo pos (starEach [e] X.env)=(false,eval e X.env)::backTo pos (starEach [] X.env):=by rfl) (hpl:(backTo pos (starEach [e] X.env)).any (·.1)=false:=by rfl) :
  PE X (.Call (.Name "min" p) [e] [⟨some "key",.Name "len" kp,kpos⟩] pos) (RE E (e1 gMin fa)):=
 zb1 (zw7 hc hg hm hg2 hm2 (zdr ha zhg hs) hb hpl) fun σ H Q h=>re1 (r:=fun x H Q=>rMin [x] H Q) (fun t W S H v Q r d p=>by
  unfold gMin at p;cases e1:zal S t with
  |none=>simp only[e1] at p;exact p.elim
  | some ts=>
    simp only[e1] at p;cases e2:zz2 S ts with
    |none=>simp only[e2] at p;exact p.elim
    | some ls=>
      simp only[e2] at p
      split at p
      case isFalse=>exact p.elim
      case isTrue hx=>
       obtain⟨a,vs,rfl,h1,h2⟩:=r.list d e1;obtain⟨l1,l2⟩:=zw9 e2;have hlen:=h2.length;refine⟨a,vs,fun i=>((ls[i]?).getD 0:Nat),rfl,h1,?_,fun i x ex=>?_,fun i x ex hbest=>?_⟩
       ·obtain⟨i,n,en,_⟩:=hx
        have:=(List.getElem?_eq_some_iff.mp en).1;omega
       ·obtain⟨tx,et,dx⟩:=h2.get' ex
        obtain⟨n,en,hn⟩:=l2 i tx et;obtain⟨us,eu,rfl⟩:=Option.map_eq_some_iff.mp hn;obtain⟨b,ws,rfl,g1,g2⟩:=r.list dx eu;refine⟨b,ws,rfl,g1,?_⟩;show(((ls[i]?).getD 0:Nat):Int)=_;rw[en,<- g2.length];rfl
       ·obtain⟨tx,et,dx⟩:=h2.get' ex
        obtain⟨n,en,hn⟩:=l2 i tx et;have bi:zk9 ls i:=⟨n,en,fun j k ek=>by
         have hj:j<vs.length:=by have:=(List.getElem?_eq_some_iff.mp ek).1;omega
         have:=hbest j hj;simp only[en,ek,Option.getD_some] at this;omega⟩
        have ec:=zk9.one hx.choose_spec bi;rw[ec,et] at p;exact now p r dx) h
end
end MF
namespace MF
open PySem L2 PyProof.Rows
theorem zj0:∀(l:List Str),sortedS l=true->l.Pairwise fun a b=>a.cps.toList<=b.cps.toList:=by
 have go:∀(l:List Str) (p:Str),risingS p l=true->(∀x∈l,p.cps.toList<=x.cps.toList)/\l.Pairwise fun a b=>a.cps.toList<=b.cps.toList:=by
  intro l
  induction l with
  |nil=>intro p _;exact⟨(by intro x hx;cases hx),.nil⟩
  | cons x r ih=>
    intro p h;have h:(!PySem.Spec.ltCps x.cps.toList p.cps.toList&&risingS x r)=true:=h;rw[Bool.and_eq_true,ltCps_eq] at h;obtain⟨h1,h2⟩:=h;have le:p.cps.toList<=x.cps.toList:=by
     have:¬x.cps.toList<p.cps.toList:=by simpa using h1
     exact this
    obtain⟨a,b⟩:=ih x h2;refine⟨fun y hy=>?_,List.pairwise_cons.mpr ⟨a,b⟩⟩;rcases List.mem_cons.mp hy with rfl | hy
    ·exact le
    ·exact List.le_trans le (a y hy)
 intro l h;cases l with
 |nil=>exact .nil
 | cons x r=>
   obtain⟨a,b⟩:=go r x h;exact List.pairwise_cons.mpr ⟨a,b⟩
theorem zua{a b:List Str}(p:a.Perm b)(ha:sortedS a=true)(hb:sortedS b=true):a=b:=
 List.Perm.eq_of_pairwise (le:=fun a b:Str=>a.cps.toList<=b.cps.toList) (fun x y _ _ h1 h2=>by
  have:=List.le_antisymm h1 h2;cases x;cases y;simpa using this) (zj0 a ha) (zj0 b hb) p
open Classical in
def zjk(ys:List Str):List Str:=if h:∃zs:List Str,zs.Perm ys/\sortedS zs=true then h.choose else ys
theorem zz4{zs ys:List Str}(p:zs.Perm ys)(h:sortedS zs=true):zjk ys=zs:=by
 have ex:∃zs:List Str,zs.Perm ys/\sortedS zs=true:=⟨zs,p,h⟩;unfold zjk;rw[dif_pos ex];exact zua (ex.choose_spec.1.trans p.symm) ex.choose_spec.2 h
def z9b(t:T):M T:=fun S=>match (zal S t).bind zee with
 |some ys=>if ys.length<64 then .ok (.lst ((zjk ys).map T.str)) S else .bad
 |none=>.bad
theorem zlb{W:Wd}:∀(l:List Str),Dens W (l.map T.str) (l.map V.str)
 |[]=>Dens.nil'
 |a::r=>Dens.cons' (zbg.mpr rfl) (zlb r)
def spX1(C:Addr)(f:Str):Sp:=fun vs H Q _=>∃(e a:Addr) (zs:List Str),vs=[.ref e,.ref a]/\H e=some (excO e C none)/\Rd H a (.lst (zs.map V.str))/\zs.length<=1000/\(PyData.shown (.list (zs.map PyData.str))).length<=800 /\
 ∀l d,H l=none->l≠d->H d=none->Q .non (upd (upd (upd H l (.lst (zs.map V.str))) e (excO e C (some d))) d (.xd [(f,.ref l)]))
section
variable {P:Program}{w:World}{K:PySem.W.Frag}{mg:Str->Option Value}{base:Heap}
theorem zz5{qual:Str}{st:Stmt}{dV:Value}{C fI:Addr}{fd:FuncData}{p1 f:Str}{k:Nat}{tm tl:TE}(F:FunV K "__init__" qual st dV fI fd)(S:zax ["self",p1] ["self",p1] (zab st))
  (hx:XCls K C) (q:zft K C fI=true) (nf:PySem.W.findIn K (.ref C) f=some none)
  (hbody:∀(cdv:Value) (A:Around) (outer:List Env) (s:Shared) (H:Hp) (E:XK),Room k (A.deeper (envOfC qual (zab st) s.heap.objs.size fI cdv)) ->
   PSs (cxOf (CXE P w) P w K mg base ["self",p1] qual (zab st) fI cdv A outer s H E) (zao st) (tSeq (z4l (z07 K (ztq (tVar 0) (ztq tm tNil)))) (z5s K (tVar 0) tl f)))
  (hmsg:∀(e a:Addr) (zs:List Str) (H:Hp) (Q:VK),Rd H a (.lst (zs.map V.str))->(PyData.shown (.list (zs.map PyData.str))).length<=800->(∀m,Q (.str m) H)->tm [some (.ref e),some (.ref a)] H Q)
  (hlist:∀(e a:Addr) (zs:List Str) (H:Hp) (Q:VK),Rd H a (.lst (zs.map V.str))->(∀l,H l=none->Q (.ref l) (upd H l (.lst (zs.map V.str))))->tl [some (.ref e),some (.ref a)] H Q) :
  FnOk P w K mg base (CXE P w) (k+1) fI fd ["self",p1] (spX1 C f):=by
 refine F.okE S (fun vs H Q E h=>?_) fun cdv A outer s H vs Q E hr h=>⟨_,hbody cdv A outer s H E hr,?_⟩
 ·obtain⟨e,a,zs,rfl,_⟩:=h;rfl
 ·obtain⟨e,a,zs,rfl,he,rd,hz,hsh,h⟩:=h
  refine⟨.ref e,rfl,hmsg e a zs H _ rd hsh fun m=>?_⟩;refine⟨e,.str m,C,fI,none,rfl,he,q,?_⟩;refine hlist e a zs H _ rd fun l hl=>?_;have le:l≠e:=fun z=>by rw[z,he] at hl;cases hl
  refine⟨.ref e,rfl,e,C,rfl,hx,nf,.inl ⟨by rw[zag (Ne.symm le)];exact he,fun d hd=>?_⟩⟩;have dl:d≠l:=fun z=>by rw[z,zai] at hd;cases hd
  rw[zag dl] at hd;exact h l d hl (Ne.symm dl) hd
end
def znw(C:Addr)(f:Str)(fr:DA):DS:=fun ρ=>(fr ρ).bind fun ts=>fun S=>match ts with
 | [x]=>(match (zal S x).bind zee with
   |some zs=>if zs.length<=1000/\(PyData.shown (.list (zs.map PyData.str))).length<=800 then .exc C (some [(f,.lst (zs.map T.str))]) S else .bad
   |none=>.bad)
 |_=>.bad
section
variable {X:Cx}{E:XK}{k:Nat}{C fI:Addr}{fd:FuncData}{ps:List Str}{f y:Str}{np cpos pos:Pos}{e:Expr}{es:List Expr}{fr:DA}
theorem zz6 (hx:zk2 X E) (hc:X.calm=true) (q:zft X.K C fI=true) (hf:PySem.W.isFn X.K (.ref fI)=true) (F:FnOk X.prog X.w X.K X.mg X.base (CXE X.prog X.w) k fI fd ps (spX1 C f)) (hr:Room (k+1) X.A) (hb:zf6 X.K fd ps [])
  (hg:Gl X y) (hm:X.mg y=some (.ref C)) (ha:PA X (e::es) (RA E fr))
  (hdb:(y==("__debug__" : Str))=false:=by decide) (he:starEach (e::es) X.env=(false,eval e X.env)::starEach es X.env:=by rfl) (hpl:(backTo cpos (starEach es X.env)).any (·.1)=false:=by rfl) :
  PS X (.Raise (some (.Call (.Name y np) (e::es) [] cpos)) none pos) (RS E (znw C f fr)):=zit (zvy hx zwm hc q hf F hr hb hg hm ha hdb he hpl) fun D σ H h=>by
 obtain⟨W,S,ρ,rp,env,p⟩:=h;refine⟨W,S,ρ,rp,env,(Post.bind p).imp fun ts W1 S1 H1 l1 r1 p1 vs dv=>?_⟩
 split at p1
 case h_2=>exact p1.elim
 case h_1 tx=>
  cases ez:(zal S1 tx).bind zee with
  |none=>simp only[ez] at p1;exact p1.elim
  | some zs=>
    simp only[ez] at p1
    split at p1
    case isFalse=>exact p1.elim
    case isTrue ok=>
     obtain⟨u,rfl,du⟩:=zfu dv;obtain⟨us,e1,e2⟩:=Option.bind_eq_some_iff.mp ez;obtain⟨a,ws,rfl,g1,g2⟩:=r1.list du e1;rw[ziz g2 e2] at g1;obtain⟨ua,eua⟩:=zq9 g1;refine⟨by show 1<=sizeLine;rw[sizeLine_eq];omega,fun ea hea=>?_⟩;have aea:a≠ea:=fun z=>by rw[z,hea] at eua;cases eua
     have g1':Rd (upd H1 ea (excO ea C none)) a (.lst (zs.map V.str)):=by
      rcases g1 with g | ⟨o,g⟩
      ·exact .inl (by rw[zag aea];exact g)
      ·exact .inr ⟨o,by rw[zag aea];exact g⟩
     refine⟨ea,a,zs,rfl,zai,g1',ok.1,ok.2,fun l d hl ld hd=>⟨rfl,some d,?_,?_⟩⟩
     ·have ne:ea≠d:=fun z=>by rw[z,zai] at hd;cases hd
      rw[zag ne,zai]
     ·have dne:d≠ea:=fun z=>by rw[z,zai] at hd;cases hd
      have lne:l≠ea:=fun z=>by rw[z,zai] at hl;cases hl
      have hd1:H1 d=none:=by rw[zag dne] at hd;exact hd
      have hl1:H1 l=none:=by rw[zag lne] at hl;exact hl
      have eqH:unt (upd (upd (upd (upd H1 ea (excO ea C none)) l (.lst (zs.map V.str))) ea (excO ea C (some d))) d (.xd [(f,.ref l)])) ea=upd (upd H1 l (.lst (zs.map V.str))) d (.xd [(f,.ref l)]):=by
       funext b;by_cases z:b=ea
       ·subst z
        rw[zkj,zag (Ne.symm dne),zag (Ne.symm lne)];exact hea.symm
       ·rw[zk1 z]
        by_cases z2:b=d
        ·subst z2;rw[zai,zai]
        ·rw[zag z2,zag z,zag z2]
         by_cases z3:b=l
         ·subst z3;rw[zai,zai]
         ·rw[zag z3,zag z,zag z3]
      rw[eqH];have l2:W1.le (W1.frz l (.lst (zs.map V.str))):=Wd.frz_le (r1.hsNone hl1);have r2:=r1.frz hl1 (.lst (zs.map V.str)) trivial;have hd2:upd H1 l (.lst (zs.map V.str)) d=none:=by rw[zag (Ne.symm ld)];exact hd1
      exact p1 _ _ (some d) l2 (r2.extra hd2 _) ⟨_,zai,r2.hsNone hd2,⟨.ref l,_,rfl,zds.mpr ⟨l,_,rfl,zai,zlb zs⟩,rfl⟩⟩
end
end MF
namespace MF
open PySem L2 PyProof.Rows
theorem len1{α:Type}:∀{l:List α},l.length=1->∃a0,l=[a0]
 |[a0],_=>⟨a0,rfl⟩
theorem len2{α:Type}:∀{l:List α},l.length=2->∃a0 a1,l=[a0,a1]
 |[a0,a1],_=>⟨a0,a1,rfl⟩
theorem len3{α:Type}:∀{l:List α},l.length=3->∃a0 a1 a2,l=[a0,a1,a2]
 |[a0,a1,a2],_=>⟨a0,a1,a2,rfl⟩
theorem len4{α:Type}:∀{l:List α},l.length=4->∃a0 a1 a2 a3,l=[a0,a1,a2,a3]
 |[a0,a1,a2,a3],_=>⟨a0,a1,a2,a3,rfl⟩
theorem len5{α:Type}:∀{l:List α},l.length=5->∃a0 a1 a2 a3 a4,l=[a0,a1,a2,a3,a4]
 |[a0,a1,a2,a3,a4],_=>⟨a0,a1,a2,a3,a4,rfl⟩
theorem len6{α:Type}:∀{l:List α},l.length=6->∃a0 a1 a2 a3 a4 a5,l=[a0,a1,a2,a3,a4,a5]
 |[a0,a1,a2,a3,a4,a5],_=>⟨a0,a1,a2,a3,a4,a5,rfl⟩
def gNeg(t:T):M T:=fun S=>match t with
 |.int i=>.ok (.int (-i)) S
 |_=>.bad
section
variable {X:Cx}{E:XK}{e:Expr}{fa:DE}{pos:Pos}
theorem z9c(ha:PE X e (RE E fa)):PE X (.UnaryOp .USub e pos) (RE E (e1 gNeg fa)):=zb1 (z78 z42 ha) fun σ H Q h=>re1 (r:=rU fun i=>.int (-i)) (fun t W S H v Q r d p=>by
 unfold gNeg at p
 split at p
 ·rename_i i;exact⟨i,zat.mp d,now p r (zat.mpr rfl)⟩
 ·exact p.elim) h
end
def z69(te:TE):TE:=fun σ H Q=>te σ H fun v H1=>∃d a,RdD H1 d v/\v=.ref a/\d.showable=true/\d.hasDict=false/\d.depth<=50/\d.shown.length<=sizeLine/\Q (.str d.shown) H1
def z3r(K:PySem.W.Frag):TE:=tCB (fun xs H Q=>∃p ys,xs=[.ref p]/\(SqL K H p ys\/SqT K H p ys)/\∀l,H l=none->Q (.ref l) (upd H l (.lst ys))) (ztq (tVar 1) tNil)
theorem zz7(pre:String)(hp:(Str.ofString pre).length<=100):∀(e a:Addr) (zs:List Str) (H:Hp) (Q:VK),Rd H a (.lst (zs.map V.str))->(PyData.shown (.list (zs.map PyData.str))).length<=800->(∀m,Q (.str m) H)->tJ Str.empty [tC (.str pre),z69 (tVar 1)] [some (.ref e),some (.ref a)] H Q:=by
 intro e a zs H Q rd hl q;have e0:Str.empty.length=0:=rfl;have hs:sizeLine=16777216:=sizeLine_eq;refine⟨_,rfl,by rw[Str.length_append];omega,.ref a,rfl,.list (zs.map PyData.str),a,by simp only[RdD];exact⟨a,_,rfl,rd,zpl zs⟩,rfl,by simp[PyData.showable,zpj],by simp[PyData.hasDict,zpk],by simp[PyData.depth,zla],by omega,_,rfl,by rw[Str.length_append,Str.length_append];omega,?_⟩;exact⟨by rw[Str.length_append,Str.length_append];omega,q _⟩
theorem zxa(K:PySem.W.Frag):∀(e a:Addr) (zs:List Str) (H:Hp) (Q:VK),Rd H a (.lst (zs.map V.str))->(∀l,H l=none->Q (.ref l) (upd H l (.lst (zs.map V.str))))->z3r K [some (.ref e),some (.ref a)] H Q:=
 fun e a zs H Q rd q=>⟨.ref a,rfl,a,_,rfl,.inl (.inl rd),q⟩
structure X1At(P:Program)(w:World)(K:PySem.W.Frag)(mg:Str->Option Value)(base:Heap)(k:Nat)(C:Addr)(f:Str)(ps:List Str)(fI:Addr)(fd:FuncData):Prop where
 ok:FnOk P w K mg base (CXE P w) k fI fd ps (spX1 C f)
 q:zft K C fI=true
 hf:PySem.W.isFn K (.ref fI)=true
 hb:zf6 K fd ps []
section
variable {X:Cx}{E:XK}{e:Expr}{es:List Expr}{fr:DA}{pos p:Pos}{P:Program}{w:World}{K:PySem.W.Frag}{mg:Str->Option Value}{base:Heap}{A:Around}{k:Nat}{x:Str}{ps:List Str}{F:Fn}{f:Addr}{fd:FuncData}
theorem zxb{n:Nat}(G:FnAt P w K mg base k x ps F f fd)(hr:Room k A)(hg:Gl X x)(hx:zeb (CXE X.prog X.w) X E)(ha:PA X (e::es) (RA E fr))
  (hP:X.prog=P:=by rfl) (hw:X.w=w:=by rfl) (hK:X.K=K:=by rfl) (hmg:X.mg=mg:=by rfl) (hB:X.base=base:=by rfl) (hA:X.A=A:=by rfl)
  (hdb:(x==("__debug__" : Str))=false:=by decide) (he:starEach (e::es) X.env=(false,eval e X.env)::starEach es X.env:=by rfl) (hpl:(backTo pos (starEach es X.env)).any (·.1)=false:=by rfl) (hn:ps.length=n:=by rfl) :
  PE X (.Call (.Name x p) (e::es) [] pos) (RE E (zbd (lenF n F) [] fr)):=by
 subst hP hw hK hmg hB hA hn;exact zbe G hr hg hx ha hdb he hpl
end
end MF
namespace MF
open PySem L2 PyProof.Rows
theorem mfx{P:Program}{w:World}{K:PySem.W.Frag}{mg:Str->Option Value}{base:Heap}{x qual:Str}{st:Stmt}{dV:Value}{f:Addr}{fd:FuncData}{N ps:List Str}{k:Nat}{d:DS}(F:FunV K x qual st dV f fd)(S:zax N ps (zab st))
  (h:∀(cdv:Value) (A:Around) (outer:List Env) (s:Shared) (H:Hp) (E:XK),Room k (A.deeper (envOfC qual (zab st) s.heap.objs.size f cdv))->(A.deeper (envOfC qual (zab st) s.heap.objs.size f cdv)).units+1<cLine->(A.deeper (envOfC qual (zab st) s.heap.objs.size f cdv)).units+64<cLine ->
   PSs (cxOf (CXE P w) P w K mg base N qual (zab st) f cdv A outer s H E) (zao st) (RS E d)):FnOk P w K mg base (CXE P w) (k+1) f fd ps (spM ps.length (runD N.length d)):=
 z80 F S fun cdv A outer s H E hr=>h cdv A outer s H E hr (z8o hr) hr.units
variable {E:XK}{fa:DE}
end MF
namespace L2
open PySem PySem.Spec PyProof.Rows
def SetS(P:Program)(w:World)(bt:Bool)(h:Heap)(a:Addr)(zs:List Str):Prop:=
 ∃o es ep t,h.get? a=some o/\o.ExactSet/\o.data=.set es ep t/\ElemsOf (PySem.strKind P w) es.toList/\StrsAre (es.toList.map (·.2)) zs/\zs.Nodup/\t.fits es.size=true/\(bt=false->t.led=true)/\(zs≠[]->t.plain=false)
theorem z7a(t:SetTable)(n:Nat):(t.orStandIn n).led=t.led:=by
 unfold SetTable.orStandIn
 split<;>rfl
theorem zxc(t:SetTable)(es:Array (Int×Value))(h:Int)(x:Value):(layNew t es h x).2.1.led=t.led:=by
 unfold layNew
 split
 ·exact(z7a _ _).trans rfl
 ·rfl
theorem zub{m f v:Nat}{l p:Bool}{hs:Array Int}{t:SetTable}{o:Array Nat}(e:SetTable.laid m f v l p hs=some (t,o)):t.led=l/\t.plain=p:=by
 unfold SetTable.laid at e;cases q:SetTable.layClean m hs with
 |none=>rw[q] at e;cases e
 | some ow=>
   rw[q] at e;simp only[Option.bind_eq_bind,Option.bind_some,Option.pure_def,Option.some.injEq,Prod.mk.injEq] at e;rw[<- e.1];exact⟨rfl,rfl⟩
theorem zrb(t:SetTable)(es:Array (Int×Value))(n:Nat):(relayAll t es n).2.1.led=t.led/\(t.plain=false->(relayAll t es n).2.1.plain=false):=by
 unfold relayAll;cases q:t.relaid (es.map (·.1)) n with
 |none=>exact⟨rfl,fun _=>rfl⟩
 | some p=>
   obtain⟨t',o⟩:=p;obtain⟨h1,h2⟩:=zub q;dsimp only
   split
   ·exact⟨h1,fun e=>h2.trans e⟩
   ·exact⟨rfl,fun _=>rfl⟩
theorem zlc:∀{us vs:List Value} {xs ys:List Str},StrsAre us xs->StrsAre vs ys->StrsAre (us++vs) (xs++ys)
 |_,_,_,_,.nil,h=>h
 |_,_,_,_,.cons x t g,h=>.cons x t (zlc g h)
theorem zho{l m:List (Int×Value)}(p:l.Perm m):∀{zs:List Str},StrsAre (m.map (·.2)) zs->∃ys,StrsAre (l.map (·.2)) ys/\ys.Perm zs:=fun {zs} hz=>by
 have q:=(p.map (·.2));refine⟨(l.map (·.2)).map strOf,strsAre_map _ fun v hv=>hz.all v (q.mem_iff.mp hv),?_⟩;have:=q.map strOf;rw[hz.strs] at this;exact this
section
variable {P:Program}{w:World}{A:Around}{E:Value->Shared->Prop}{s:Shared}{bt:Bool}{a:Addr}{zs:List Str}{x:Str}{u:Tok}
theorem zpm(x:Str)(u:Tok):(PySem.strKind P w).is x (.str x u)=true:=by
 show Value.isStrOf x (.str x u)=true;simp[Value.isStrOf]
theorem zpn{l:List (Int×Value)}(h:StrsAre (l.map (·.2)) zs)(x:Str):(∃e∈l,(PySem.strKind P w).is x e.2=true)↔x∈zs:=by
 induction l generalizing zs with
 |nil=>cases h;simp
 | cons e l ih=>
   obtain⟨i,v⟩:=e;cases h with
   | cons y t h=>
     have ih:=ih h;simp only[List.mem_cons,exists_eq_or_imp,ih];have:(PySem.strKind P w).is x (.str y t)=true↔x=y:=by
      constructor
      ·intro q;exact(PySem.strKind P w).inj _ _ _ q (zpm y t)
      ·rintro rfl;exact zpm _ _
     rw[this]
theorem zxd{h:Heap}{o:Obj}{es es':Array (Int×Value)}{ep:Nat}{t t':SetTable}(ho:h.get? a=some o)(hex:o.ExactSet)(hd:o.data=.set es ep t)(hel:ElemsOf (PySem.strKind P w) es'.toList)(hz:StrsAre (es'.toList.map (·.2)) zs)(nd:zs.Nodup)(hf:t'.fits es'.size=true)(hl:bt=false->t'.led=true)(hp:zs≠[]->t'.plain=false):SetS P w bt (h.update a (Obj.putSet es' t')) a zs:=by
 have e:=putSet_of es' t' hd;have g:=Heap.get?_update_self (Obj.putSet es' t') ho (e▸rfl);exact⟨_,es',ep+1,t',g.trans (congrArg some e),hex,rfl,hel,hz,nd,hf,hl,hp⟩
theorem z7b{g:Bool->Sem Unit}(hg:∀(b:Bool) (s₁:Shared) (Q':Unit->Shared->Prop),Q' () s₁->wpAny (model P w) A (g b) Q' E s₁){o:Obj}{es es1:Array (Int×Value)}{ep:Nat}{t t2:SetTable}(ho:s.heap.get? a=some o)(hex:o.ExactSet)(hd:o.data=.set es ep t)
  (hel:ElemsOf (PySem.strKind P w) es1.toList) (hz:StrsAre (es1.toList.map (·.2)) zs) (nd:zs.Nodup) (hb:es1.size<scanBound) (hf:t2.fits es1.size=true) (hl:bt=false->t2.led=true) (hp:t2.plain=false) {wd:Bool} {R:Option Bool->Shared->Prop}
  (h:∀h' ys,Heap.SameBut a s.heap h'->SetS P w bt h' a ys->ys.Perm zs->R (some true) { s with heap:=h' }) :
  wpAny (model P w) A (storeSet a es1 t2 >>= fun _=>if(!wd&&t2.tooFull)=true then(g (relayAll t2 es1 (SetTable.grown es1.size)).2.2 >>= fun _=>storeSet a (relayAll t2 es1 (SetTable.grown es1.size)).1 (relayAll t2 es1 (SetTable.grown es1.size)).2.1 >>= fun _=>pure (some true)) else pure (some true)) R E s:=by
 have S1:=zxd (bt:=bt) ho hex hd hel hz nd hf hl (fun _=>hp);have b1:=Heap.SameBut.update s.heap a (Obj.putSet es1 t2);refine wpAny_bind (wpAny_storeSet_of ho hd ?_ (fits_of_scanBound hb))
 split
 ·obtain⟨o1,x1,p1,y1,h1,h2,h3,-⟩:=id S1
  have pm:=relayAll_perm t2 es1 (SetTable.grown es1.size);have ft:=relayAll_fits t2 es1 (SetTable.grown es1.size);obtain⟨f1,f2⟩:=zrb t2 es1 (SetTable.grown es1.size);obtain⟨ys,k1,k2⟩:=zho pm hz;have sz:(relayAll t2 es1 (SetTable.grown es1.size)).1.size=es1.size:=by
   have:=pm.length_eq;simpa using this
  refine wpAny_bind (hg _ _ _ (wpAny_bind (wpAny_storeSet_of h1 h3 (wpAny_pure (h _ ys (b1.trans (Heap.SameBut.update _ a _)) ?_ k2)) (fits_of_scanBound (by rw[sz];exact hb)))));exact zxd h1 h2 h3 (hel.perm pm) k1 (k2.nodup_iff.mpr nd) ft (fun e=>f1.trans (hl e)) fun _=>f2 hp
 ·exact wpAny_pure (h _ zs b1 S1 (List.Perm.refl _))
theorem add_str{Q:Bool->Shared->Prop}(hS:SetS P w bt s.heap a zs)(hroom:zs.length+1<100)
  (h:∀b h' ys,Heap.SameBut a s.heap h'->SetS P w bt h' a ys->(∀y,y∈ys↔y∈zs\/y=x)->ys.length<=zs.length+1->Q b { s with heap:=h' }) :
  wpAny (model P w) A (setAddHashed a (.str x u) (hashStr w x)) Q E s:=by
 obtain⟨o,es,ep,t,ho,hex,hd,hel,hz,nd,hf,hl,hp⟩:=hS;have hlen:es.size=zs.length:=by
  have:=congrArg List.length hz.strs;simpa using this
 have hb:es.size<scanBound:=by rw[hlen];unfold scanBound;omega
 unfold setAddHashed setAddHashedIn;refine wpAny_holding (wpAny_bind (wpAny_setState_of ho hd hf ?_));dsimp only;rw[byScan_of (knd:=PySem.strKind P w) (x:=.str x u) rfl hb hel];simp only[↓reduceIte];unfold setAddByScan;refine wpAny_bind (wpAny_bind (wpAny_rule (wpAny_bind (wpAny_setScan_of (knd:=PySem.strKind P w) (k:=x) (zpm x u) ho hd hf hel ?_))));cases hr:List.findIdx? (fun e=>(PySem.strKind P w).is x e.2) es.toList with
 | some j=>
   obtain⟨hj,hpj,_⟩:=List.findIdx?_eq_some_iff_getElem.mp hr;have hin:x∈zs:=(zpn hz x).mp ⟨_,List.getElem_mem hj,hpj⟩;refine wpAny_pure (wpAny_pure ?_);have:=h false s.heap zs (Heap.SameBut.refl a s.heap) ⟨o,es,ep,t,ho,hex,hd,hel,hz,nd,hf,hl,hp⟩ (fun y=>⟨.inl,fun q=>q.elim id fun e=>e▸hin⟩) (Nat.le_succ _);exact this
 | none=>
   have hno:x∉zs:=fun hc=>by
    obtain⟨e,he,q⟩:=(zpn (P:=P) (w:=w) hz x).mpr hc;have:=List.findIdx?_eq_none_iff.mp hr e he;rw[q] at this;cases this
   have gw:∀(b:Bool) (s₁:Shared) (Q':Unit->Shared->Prop),Q' () s₁->wpAny (model P w) A (match b with|true=>rule "set.scan.the-table-gave-way" |false=>pure ()) Q' E s₁:=fun b s₁ Q' q=>by
    cases b
    ·exact wpAny_pure q
    ·exact wpAny_rule q
   have pm:=layNew_perm t es (hashStr w x) (.str x u);have ft:=layNew_fits t es (hashStr w x) (.str x u);have fl:=zxc t es (hashStr w x) (.str x u);have hz1:StrsAre ((es.push (hashStr w x,Value.str x u)).toList.map (·.2)) (zs++[x]):=by
    rw[Array.toList_push,List.map_append];exact zlc hz (.cons x u .nil)
   obtain⟨ys,k1,k2⟩:=zho pm hz1;have el1:ElemsOf (PySem.strKind P w) (layNew t es (hashStr w x) (.str x u)).1.toList:=by
    refine ElemsOf.perm ?_ pm;rw[Array.toList_push];exact hel.push (k:=x) (zpm x u) rfl
   have sz:(layNew t es (hashStr w x) (.str x u)).1.size=zs.length+1:=by
    have:=pm.length_eq;simpa[hlen] using this
   have yl:ys.length=zs.length+1:=by rw[k2.length_eq];simp
   have ynd:ys.Nodup:=k2.nodup_iff.mpr (List.nodup_append.mpr ⟨nd,by simp,fun p hp q hq e=>hno (by rw[List.mem_singleton.mp hq] at e;exact e▸hp)⟩);have ymem:∀y,y∈ys↔y∈zs\/y=x:=fun y=>by rw[k2.mem_iff];simp
   generalize layNew t es (hashStr w x) (.str x u)=L at pm ft fl k1 el1 sz ⊢;obtain⟨es1,t1,wd,gave⟩:=L;dsimp only at pm ft fl k1 el1 sz ⊢;refine wpAny_bind (gw _ _ _ ?_);have fin:∀t2:SetTable,t2.fits es1.size=true->t2.led=t1.led->t2.plain=false->wpAny (model P w) A (storeSet a es1 t2 >>= fun _=>if(!wd&&t2.tooFull)=true then((fun b:Bool=>match b with|true=>rule "set.scan.the-table-gave-way" |false=>pure ()) (relayAll t2 es1 (SetTable.grown es1.size)).2.2 >>= fun _=>storeSet a (relayAll t2 es1 (SetTable.grown es1.size)).1 (relayAll t2 es1 (SetTable.grown es1.size)).2.1 >>= fun _=>pure (some true)) else pure (some true)) (fun r s'=>wpAny (model P w) A (match r with|some added=>pure added | none=>setAddHashedIn a (.str x u) (hashStr w x) 99999) Q E s') E s:=fun t2 q1 q2 q3=>
    z7b (bt:=bt) gw ho hex hd el1 k1 ynd (by rw[sz];unfold scanBound;omega) q1 (fun e=>q2.trans (fl.trans (hl e))) q3 fun h' vs sb sv pv=>
     wpAny_pure (h true h' vs sb sv (fun y=>by rw[pv.mem_iff];exact ymem y) (by rw[pv.length_eq,yl];exact Nat.le_refl _))
   by_cases pl:t1.plain=true
   ·rw[pl]
    simp only[↓reduceIte];rw[hashByValue_scannable 8 (x:=.str x u) rfl];refine wpAny_bind (wpAny_pure ?_);exact fin { t1 with plain:=false } (SetTable.fits_plain_off ft) rfl rfl
   ·have pl:t1.plain=false:=by simpa using pl
    rw[pl];refine wpAny_bind (wpAny_pure ?_);exact fin t1 ft rfl pl
end
end L2
namespace L2
open PySem PySem.Spec PyProof.Rows
theorem SetS.move{P:Program}{w:World}{bt:Bool}{h h':Heap}{a:Addr}{zs:List Str}(S:SetS P w bt h a zs)(k:∀o,h.get? a=some o->h'.get? a=some o):SetS P w bt h' a zs:=by
 obtain⟨o,es,ep,t,ho,r⟩:=S;exact⟨o,es,ep,t,k o ho,r⟩
section
variable {P:Program}{w:World}{A:Around}{R:Result->Shared->Prop}{I:Addr}{fp wr:List Addr}{G:Array GenState->Array GenState->Prop}{n:Nat}{Pv:Nat->Value->Prop}{St:Nat->Shared->Prop}{bt:Bool}
theorem z3s(W:WalksS P w A.in1 I fp wr G n Pv St)(S:Addr)(hSf:S∉fp)(val:Nat->Str)(hval:∀i v,Pv i v->∃t,v=.str (val i) t)(hb:n<90) :
  ∀ (k i:Nat) (s:Shared) (zs:List Str),i+k=n->St i s->SetS P w bt s.heap S zs->(∀y,y∈zs↔∃j,j<i/\y=val j)->zs.length<=i ->
    (∀s' ys,Moved (S::wr) G s s'->SetS P w bt s'.heap S ys->(∀y,y∈ys↔∃j,j<n/\y=val j)->ys.length<=n->R (.ok (.ret .none)) s') ->
    codeAny (model P w) A (.builtin "set.update.loop" ⟨[.ref S,.ref I],[]⟩) R s:=by
 have out:S∉wr:=fun z=>hSf (W.sub S z);have wide:∀b∈wr,b∈S::wr:=fun b q=>.tail _ q;intro k
 induction k with
 | zero=>
   intro i s zs hi st sz mz lz fin;obtain rfl:i=n:=by omega
   refine codeAny_builtin PyProof.Rows.F.entry_set_update_loop ?_;rw[Around.under_plainId PyProof.Rows.F.plain_set_update_loop];refine wpAny_bind (W.done s _ _ st fun s' mv=>wpAny_pure (fin s' zs (mv.mono wide) (sz.move fun o e=>mv.heap S o out e) mz lz))
 | succ k ih=>
   intro i s zs hi st sz mz lz fin;have lt:i<n:=by omega
   refine codeAny_builtin PyProof.Rows.F.entry_set_update_loop ?_;rw[Around.under_plainId PyProof.Rows.F.plain_set_update_loop];refine wpAny_bind (W.item i s _ _ lt st fun v s1 hv st1 mv=>?_);obtain⟨t,rfl⟩:=hval i v hv;have sz1:=sz.move (h':=s1.heap) fun o e=>mv.heap S o out e;show wpAny _ A.in1 (holding [Value.str (val i) t] (setAdd S (.str (val i) t)) >>= _) _ _ s1;refine wpAny_bind (wpAny_holding ?_);unfold setAdd;refine wpAny_holding (wpAny_bind ((PySem.strKind P w).pyHash (zpm (val i) t) ?_));refine add_str (s:={ s1 with toks:=s1.toks+1 }) sz1 (by omega) fun b h' ys sb sy my ly=>?_;have stn:=W.frame (i+1) s1 h' (s1.toks+1) st1 (Nat.le_succ _) fun c hc o e=>by
    rw[sb.2 c fun z=>hSf (z▸hc)];exact e
   refine wpAny_pure ⟨plainId_quiet PyProof.Rows.F.plain_set_update_loop _,ih (i+1) _ ys (by omega) stn sy (fun y=>?_) (by omega) fun s' vs mv' sv=>fin s' vs (Moved.trans W.gtrans ((mv.mono wide).then_heap (Nat.le_succ _) fun c o hc e=>?_) mv') sv⟩
   ·rw[my y,mz y]
    constructor
    ·rintro(⟨j,h1,h2⟩ | h)
     ·exact⟨j,by omega,h2⟩
     ·exact⟨i,by omega,h⟩
    ·rintro⟨j,h1,h2⟩
     by_cases e:j=i
     ·exact .inr (e▸h2)
     ·exact .inl ⟨j,by omega,h2⟩
   ·rw[sb.2 c fun z=>hc (z▸.head _)];exact e
end
end L2
namespace L2
open PySem PySem.Spec PyProof.Rows
def zf2(w:World):Bool:=w.params.followText "set-order"
def newS(w:World):Obj:={ cls:=.type "set",dict:=none,data:=.set #[] 0 (.fresh 0 0 (!zf2 w)) }
section
variable {P:Program}{w:World}{A:Around}{E:Value->Shared->Prop}{s:Shared}
theorem zz8(v:Value){Q:Value->Shared->Prop}(h:Q (.ref s.heap.objs.size) { s with heap:=s.heap.push (newS w) }) :
  codeAny (model P w) A (.call (.builtin "set.__new__") ⟨[.type "set",v],[]⟩) (wants Q E) s:=by
 refine codeAny_of_tree ?_;show wpAny _ A.in1 (checkBuiltinCall "set.__new__" ⟨[.type "set",v],[]⟩ >>= fun _=>again (.builtin "set.__new__" ⟨[.type "set",v],[]⟩)) _ _ s;refine wpAny_bind (wpAny_of_eq (PySem.F.newCall_set_1 v) (wpAny_pure ⟨plainId_quiet PySem.F.plain_set_new _,codeAny_builtin PySem.F.entry_set_new ?_⟩));rw[Around.under_plainId PySem.F.plain_set_new];unfold Builtin.«set.__new__» Builtin.Frozenset.newClass;have sub0:=sub_set_self;cases s with
 | mk hp g d tk os=>
   dsimp only at h ⊢
   wp_walk
   refine wpAny_askSetting (wpAny_pure ?_);dsimp only;simp only[newObj];exact wpAny_bind (wpAny_alloc (wpAny_pure (wpAny_pure h)))
theorem z1q:∀{vs:List Value} {xs:List Str},StrsAre vs xs->∀(i:Nat) (v:Value),vs[i]?=some v->∃t,v=.str (xs.getD i Str.empty) t
 |_,_,.nil,i,v,q=>by simp at q
 |_,_,.cons x t h,0,v,q=>⟨t,by simpa using q.symm⟩
 | _,_,.cons x t h,i+1,v,q=>by
   obtain⟨u,e⟩:=z1q h i v (by simpa using q);exact⟨u,by simpa using e⟩
theorem zfw{vs:List Value}{xs:List Str}(h:StrsAre vs xs):vs.length=xs.length:=by
 have:=congrArg List.length h.strs;simpa using this
theorem z3t:SetS P w (zf2 w) (s.heap.push (newS w)) s.heap.objs.size []:=by
 refine⟨newS w,#[],0,_,Heap.get?_push_size _ rfl,⟨rfl,rfl,rfl⟩,rfl,fun e q=>absurd q List.not_mem_nil,.nil,.nil,rfl,fun q=>?_,fun q=>absurd rfl q⟩;show(!zf2 w)=true;rw[q];rfl
theorem zpo {l:Addr} {vs:List Value} {xs:List Str} {Q:Value->Shared->Prop} (hh:A.handled=none) (hl:s.heap.IsList l vs.toArray) (hx:StrsAre vs xs) (hb:vs.length<90)
  (h:∀(h':Heap) (tk:Nat) (ys:List Str),SetS P w (zf2 w) h' s.heap.objs.size ys->(∀y,y∈ys↔y∈xs)->ys.length<=xs.length->(∀b o,s.heap.get? b=some o->h'.get? b=some o)->Q (.ref s.heap.objs.size) { s with heap:=h',toks:=tk }) :
  wpAny (model P w) A (call (.type "set") [.ref l]) Q E s:=by
 obtain⟨cc,rest,q1⟩:=PySem.F.called_set.mro;have q2:=PySem.F.called_set.made;have q3:=PySem.F.called_set.sub;refine wpAny_call (codeAny_of_tree (?_:wpAny _ _ (callAny (.type "set") _) _ _ _));refine wpAny_pure ⟨Code.quiet_builtin _ (by decide +kernel),codeAny_builtin PySem.F.entry_type_call ?_⟩;rw[Around.under_plain (weight_type_call_type "set" [Value.ref l] []) rfl];have q4:=PySem.F.called_set.notType;have q5:=PySem.F.called_set.canCreate;have q6:=PySem.F.typeCall_set_1 (.ref l)
 repeat (any_goals (first | assumption | wp_step))
 refine codeAny_mono (zz8 (.ref l) (E:=E) (Q:=fun v z=>v=.ref s.heap.objs.size/\z={ s with heap:=s.heap.push (newS w) }) ⟨rfl,rfl⟩) fun r z hr=>?_;cases r with
 |error e=>exact hr
 | ok fl =>
   cases fl with
   | ret v=>
     obtain⟨rfl,rfl⟩:=hr;have g0:(s.heap.push (newS w)).get? s.heap.objs.size=some (newS w):=Heap.get?_push_size _ rfl;have ty:Shared.TypeIs { s with heap:=s.heap.push (newS w) } (.ref s.heap.objs.size) "set":=⟨_,g0,rfl⟩;have q7:=PySem.F.called_set.init.lookup;have q8:=PySem.F.called_set.init.bind (.ref s.heap.objs.size)
     repeat (any_goals (first | assumption | wp_step))
     refine codeAny_mono (codeAny_call_builtin (R:=wants (fun r z=>r=.none/\∃h' tk ys,z={ s with heap:=h',toks:=tk }/\SetS P w (zf2 w) h' s.heap.objs.size ys/\(∀y,y∈ys↔y∈xs)/\ys.length<=xs.length/\∀b o,s.heap.get? b=some o->h'.get? b=some o) E) PySem.F.called_set.init.plain PySem.F.entry_set_init (check_set_init_1 ty ?_)) fun r2 z2 hr2=>?_
     ·obtain⟨⟨k1,k2,k3,k4⟩,hol,e1,nl,e2⟩:=hl
      simp only at e1 e2;subst e1 e2;have hol':(s.heap.push (newS w)).get? l=some { cls:=.type "list",dict:=k2,data:=.seq vs.toArray nl,slots:=k4 }:=Heap.get?_push_of_some _ hol;have f1:=PySem.F.sub_list_set;have f2:=PySem.F.sub_list_frozenset;have f3:(Value.type "list" == Value.type "dict")=false:=by decide
      have l1:(s.heap.push (newS w)).IsList l vs.toArray:=⟨_,hol',rfl,nl,rfl⟩;have llt:l<s.heap.objs.size:=Heap.lt_size hol;unfold Builtin.«set.__init__» noKeywords Builtin.Frozenset.updateFrom;generalize hPI:pyIter=PI
      wp_walk
      subst hPI;refine wpAny_pyIter_list l1 (wpAny_bind (wpAny_runValue ?_));have hs2:(s.heap.push (newS w)).objs.size=s.heap.objs.size+1:=Heap.size_push ..;have ne1:l≠(s.heap.push (newS w)).objs.size:=by rw[hs2];exact Nat.ne_of_lt (Nat.lt_succ_of_lt llt)
      have out:s.heap.objs.size∉[(s.heap.push (newS w)).objs.size,l]:=by
       rw[hs2];simp only[List.mem_cons,List.not_mem_nil,or_false,not_or];exact⟨Nat.ne_of_lt (Nat.lt_succ_self _),Nat.ne_of_gt llt⟩
      have sz0:=(z3t (P:=P) (w:=w) (s:=s)).move (h':=(s.heap.push (newS w)).push { cls:=.type "list_iterator",data:=.fields #[.ref l,.int 0 0] }) fun o e=>Heap.get?_push_of_some _ e;refine z3s (((Walks.list (by simp[hh]) _ l ne1 vs.toArray)).toS) s.heap.objs.size out (fun i=>xs.getD i Str.empty) (fun i v q=>z1q hx i v (by simpa using q)) (by simpa using hb) vs.toArray.size 0 _ [] (by simp) ⟨⟨_,Heap.get?_push_size _ rfl,rfl,rfl⟩,l1.push _⟩ sz0 (by simp) (Nat.le_refl _) fun s' ys mv sy my ly=>?_;cases s' with
      | mk h' g' d' tk' os'=>
        have eg:g'=s.gens:=mv.gens;have ed:d'=s.drawn:=mv.drawn;have eo:os'=s.os:=mv.os;subst eg ed eo;refine wpAny_pure (wpAny_pure ⟨rfl,h',tk',ys,rfl,sy,fun y=>?_,by have:=zfw hx;simp at ly;omega,fun b o e=>?_⟩)
        ·rw[my y]
         have hv:=zfw hx;constructor
         ·rintro⟨j,h1,h2⟩
          have h1:j<xs.length:=by simpa[hv] using h1
          rw[h2,List.getD_eq_getElem?_getD,List.getElem?_eq_getElem h1];exact List.getElem_mem h1
         ·intro q
          obtain⟨j,h1,h2⟩:=List.getElem_of_mem q;exact⟨j,by simpa[hv] using h1,by rw[List.getD_eq_getElem?_getD,List.getElem?_eq_getElem h1];exact h2.symm⟩
        ·have lt:=Heap.lt_size e
         refine mv.heap b o ?_ (Heap.get?_push_of_some _ (Heap.get?_push_of_some _ e));rw[hs2];simp only[List.mem_cons,List.not_mem_nil,or_false,not_or];exact⟨Nat.ne_of_lt lt,Nat.ne_of_lt (Nat.lt_succ_of_lt lt)⟩
     ·cases r2 with
      |error e=>exact hr2
      | ok f2=>
        cases f2 with
        | ret r=>
          obtain⟨rfl,h',tk,ys,rfl,sy,my,ly,kp⟩:=hr2
          repeat (any_goals (first | assumption | wp_step))
          exact h _ _ _ sy my ly kp
        |_=>exact hr2.elim
   |_=>exact hr.elim
end
end L2
namespace L2
open PySem PySem.Spec PyProof.Rows
theorem zz9:entryFor table "set.__iter__" = some Builtin.«frozenset.__iter__»:=entryFor_alias (id' := "frozenset.__iter__") (by kernel_rfl) rfl (by decide +kernel) (by kernel_rfl)
theorem zfi:Slot "set_iterator" "__next__" "set_iterator.__next__":=.of (owner := "set_iterator") (n := "__next__") (by rw[typeLookup_type,builtinLookup_eq_fast];kernel_rfl) (by decide +kernel) (by decide +kernel) (by decide +kernel) (by first | exact .inl (by decide +kernel) | exact .inr (by decide +kernel)) (by rw[isSubtype_type];kernel_rfl)
theorem zsw:entryFor table "set_iterator.__next__" = some Builtin.«set_iterator.__next__»:=entryFor_of_tree (by kernel_rfl)
theorem zxe:Slot "set_iterator" "__iter__" "set_iterator.__iter__":=.of (owner := "set_iterator") (n := "__iter__") (by rw[typeLookup_type,builtinLookup_eq_fast];kernel_rfl) (by decide +kernel) (by decide +kernel) (by decide +kernel) (by first | exact .inl (by decide +kernel) | exact .inr (by decide +kernel)) (by rw[isSubtype_type];kernel_rfl)
theorem zrc{α:Type}:∀(l:List α) (i:Nat) (h:i<l.length),(l[i]::l.eraseIdx i).Perm l
 |a::l,0,_=>List.Perm.refl _
 |a::l,i+1,h=>(List.Perm.swap a _ _).trans ((zrc l i (by simpa using h)).cons a)
section
variable {P:Program}{w:World}{A:Around}{E:Value->Shared->Prop}{s:Shared}
theorem zxf(next:Nat->Nat){α:Type}:∀(f k:Nat) (left:List α) (out:Array α),left.length=f->∃r:List α,(pickOrder.go next f k left out).toList=out.toList++r/\r.Perm left
 |0,k,left,out,h=>⟨[],by simp[pickOrder.go],by rw[List.eq_nil_of_length_eq_zero h]⟩
 | f+1,k,left,out,h=>by
   have lt:next k%left.length<left.length:=Nat.mod_lt _ (by omega);unfold pickOrder.go;rw[List.getElem?_eq_getElem lt];obtain⟨r,h1,h2⟩:=zxf next f (k+1) (left.eraseIdx (next k%left.length)) (out.push left[next k%left.length]) (by rw[List.length_eraseIdx_of_lt lt];omega);refine⟨left[next k%left.length]::r,by rw[h1];simp,?_⟩;exact(h2.cons _).trans (zrc left _ lt)
theorem zld(next:Nat->Nat){α:Type}(xs:Array α):(pickOrder next xs).toList.Perm xs.toList:=by
 obtain⟨r,h1,h2⟩:=zxf next xs.size 0 xs.toList #[] (by simp);unfold pickOrder;rw[h1];simpa using h2
theorem znx{src:Source}{n:Nat}{Q:Nat->Shared->Prop}(h0:n≠0)(h:∀i d,i<n->Q i { s with drawn:=d }):wpAny (model P w) A (choose src n) Q E s:=fun Γ p _=>by
 unfold choose;rw[Sem.wp_choose];exact⟨h0,h _ _ (Nat.mod_lt _ (Nat.pos_of_ne_zero h0))⟩
theorem zxg{α:Type}:∀(n:Nat) (xs:List α) {s:Shared} {Q:List α->Shared->Prop},xs.length=n->(∀ys d,ys.Perm xs->Q ys { s with drawn:=d })->wpAny (model P w) A (drawOrder n xs) Q E s
 | 0,xs,s,Q,hl,h=>by
   rw[List.eq_nil_of_length_eq_zero hl] at h ⊢;exact wpAny_pure (h [] s.drawn (List.Perm.refl _))
 |n+1,[],s,Q,hl,h=>by simp at hl
 | n+1,x::xs,s,Q,hl,h=>by
   unfold drawOrder;refine wpAny_bind (znx (by simp) fun i d hi=>?_);rw[List.getElem?_eq_getElem hi];refine wpAny_bind (zxg n ((x::xs).eraseIdx i) (by rw[List.length_eraseIdx_of_lt hi];simpa using hl) fun ys d' hp=>wpAny_pure ?_);exact h _ d' ((hp.cons _).trans (zrc (x::xs) _ hi))
def itS(f:Value)(i:Nat)(a:Addr)(n ep:Nat):Obj:={ cls:=.type "set_iterator",data:=.fields #[f,.int i 0,.ref a,.int n 0,.int ep 0] }
theorem zxh{a:Addr}{o:Obj}{es:Array (Int×Value)}{ep:Nat}{t:SetTable}{Q:Value->Shared->Prop}(ho:s.heap.get? a=some o)(hex:o.ExactSet)(hd:o.data=.set es ep t)(hf:t.fits es.size=true)(hz:es.size<100)
  (h1:(zf2 w=true\/t.plain=true\/es.size<=1)->Q (.ref s.heap.objs.size) { s with heap:=s.heap.push (itS (.int 0 0) 0 a es.size ep) })
  (h2:zf2 w=false->t.plain=false->1<es.size->∀(pl:List Nat) d,pl.Perm (List.range es.size)->Q (.ref (s.heap.objs.size+1)) { s with heap:=(s.heap.push { cls:=.type "tuple",data:=.seq (pl.map fun i:Nat=>Value.int i 0).toArray }).push (itS (.ref s.heap.objs.size) 0 a es.size ep),drawn:=d }) :
  wpAny (model P w) A (pyIter (.ref a)) Q E s:=by
 have ty:s.TypeIs (.ref a) "set":=⟨o,ho,hex.1⟩;refine wpAny_pyIter_slot ty PySem.F.slot_set_iter (wpAny_call_entry PySem.F.slot_set_iter ty zz9 ?_ (PySem.F.args_set_iter_1 _));unfold Builtin.«frozenset.__iter__»;rw[show Builtin.Frozenset.slot0 "__iter__" ⟨[Value.ref a],[]⟩=pure a from rfl];refine wpAny_bind (wpAny_pure ?_);unfold Builtin.Frozenset.sizeOf;refine wpAny_bind (wpAny_bind (wpAny_setEntries_of ho hd hf (wpAny_pure ?_)));have dr:∀{R:Bool->Shared->Prop},R (!zf2 w&&(!t.plain&&decide (es.size>1))) s->wpAny (model P w) A.in1 (setDrawn a) R E s:=fun {R} q=>by
  unfold setDrawn setsByText;exact wpAny_bind (wpAny_setState_of ho hd hf (wpAny_bind (wpAny_bind (wpAny_askSetting (wpAny_pure (wpAny_pure q))))))
 refine wpAny_bind (dr ?_);by_cases hc:zf2 w=true\/t.plain=true\/es.size<=1
 ·have e:(!zf2 w&&(!t.plain&&decide (es.size>1)))=false:=by
   rcases hc with h | h | h
   ·simp[h]
   ·simp[h]
   ·simp;omega
  rw[e];refine wpAny_bind (wpAny_pure (wpAny_bind (wpAny_setEpoch_of ho hd hf ?_)));exact wpAny_bind (wpAny_newObj_type (wpAny_pure ⟨_,rfl, "set_iterator",_,⟨_,Heap.get?_push_size _ rfl,rfl⟩,zfi.lookup,h1 hc⟩))
 ·simp only[not_or] at hc
  obtain⟨c1,c2,c3⟩:=hc;have c1:zf2 w=false:=by simpa using c1
  have c2:t.plain=false:=by simpa using c2
  have c3:1<es.size:=by omega
  rw[show(!zf2 w&&(!t.plain&&decide (es.size>1)))=true by simp[c1,c2,c3]];refine wpAny_bind (zxg es.size (List.range es.size) (by simp) fun pl d hp=>?_);have pn:pl.length=es.size:=by rw[hp.length_eq];simp
  refine wpAny_bind (wpAny_newObj_type (hd:=by simp[sizeOk,pn];exact Nat.le_trans (Nat.le_of_lt hz) (by decide)) ?_);have ho2:(s.heap.push { cls:=.type "tuple",data:=.seq (pl.map fun i:Nat=>rawInt i).toArray }).get? a=some o:=Heap.get?_push_of_some _ ho;refine wpAny_bind (wpAny_setEpoch_of ho2 hd hf ?_);have e1:(s.heap.push { cls:=.type "tuple",data:=.seq (pl.map fun i:Nat=>rawInt i).toArray }).objs.size=s.heap.objs.size+1:=Heap.size_push ..;have q:=h2 c1 c2 c3 pl d hp;rw[<- e1] at q;exact wpAny_bind (wpAny_newObj_type (wpAny_pure ⟨_,rfl, "set_iterator",_,⟨_,Heap.get?_push_size _ rfl,rfl⟩,zfi.lookup,q⟩))
end
end L2
namespace L2
open PySem PySem.Spec PyProof.Rows
section
variable {P:Program}{w:World}{A:Around}{E:Value->Shared->Prop}{s:Shared}
theorem zny(v:Value):argsOk "set_iterator.__next__" ⟨[v],[]⟩:=by
 unfold argsOk
 kernel_rfl
theorem zsx{I a:Addr}{o:Obj}{es:Array (Int×Value)}{ep sl i nx:Nat}{t:SetTable}{v:Value}{Q:Option Value->Shared->Prop}(hI:s.heap.get? I=some (itS (.int sl 0) i a es.size ep))(ho:s.heap.get? a=some o)(hd:o.data=.set es ep t)(hf:t.fits es.size=true)
  (hn:∀(A':Around) (R:Option (Value×Nat)->Shared->Prop) (E':Value->Shared->Prop),R (some (v,nx)) s->wpAny (model P w) A' (setNext a sl i ep) R E' s)
  (h:∀h',h'.get? I=some (itS (.int nx 0) (i+1) a es.size ep)->Heap.SameBut I s.heap h'->Q (some v) { s with heap:=h' }) :
  wpAny (model P w) A (pyNext (.ref I)) Q E s:=by
 have ty:s.TypeIs (.ref I) "set_iterator":=⟨_,hI,rfl⟩;unfold pyNext;refine wpAny_bind (wpAny_attempt (wpAny_callSpecial?_slot (name:=Str.ofString "__next__") ty zfi (wpAny_call_entry zfi ty zsw ?_ (zny _))));unfold Builtin.«set_iterator.__next__»;rw[show slotArgs "__next__" 0 ⟨[Value.ref I],[]⟩=pure (Value.ref I,[]) from rfl];refine wpAny_bind (wpAny_pure (wpAny_bind (wpAny_fieldsOf hI rfl ?_)));refine wpAny_bind (wpAny_setEntries_of ho hd hf ?_);dsimp only;rw[if_neg (by simp)];simp only[Int.toNat_natCast];refine wpAny_bind (hn _ _ _ ?_);dsimp only;refine wpAny_bind (wpAny_setField_rec hI (by simp) fun h1 e1 b1=>?_);refine wpAny_bind (wpAny_setField_rec (s:={ s with heap:=h1 }) e1 (by simp) fun h2 e2 b2=>?_);exact wpAny_pure ⟨v,rfl,wpAny_pure (h h2 e2 (b1.trans b2))⟩
theorem zuc{I a tp:Addr}{o:Obj}{es:Array (Int×Value)}{ep i p:Nat}{t:SetTable}{v:Value}{hs:Int}{pl:List Nat}{ot:Obj}{nt:Nat}{Q:Option Value->Shared->Prop}(hI:s.heap.get? I=some (itS (.ref tp) i a es.size ep))(ho:s.heap.get? a=some o)(hd:o.data=.set es ep t)(hf:t.fits es.size=true)
  (ht:s.heap.get? tp=some ot) (hdt:ot.data=.seq (pl.map fun k:Nat=>Value.int k 0).toArray nt) (hp:pl[i]?=some p) (hv:es[p]?=some (hs,v))
  (h:∀h',h'.get? I=some (itS (.ref tp) (i+1) a es.size ep)->Heap.SameBut I s.heap h'->Q (some v) { s with heap:=h' }) :
  wpAny (model P w) A (pyNext (.ref I)) Q E s:=by
 have ty:s.TypeIs (.ref I) "set_iterator":=⟨_,hI,rfl⟩;unfold pyNext;refine wpAny_bind (wpAny_attempt (wpAny_callSpecial?_slot (name:=Str.ofString "__next__") ty zfi (wpAny_call_entry zfi ty zsw ?_ (zny _))));unfold Builtin.«set_iterator.__next__»;rw[show slotArgs "__next__" 0 ⟨[Value.ref I],[]⟩=pure (Value.ref I,[]) from rfl];refine wpAny_bind (wpAny_pure (wpAny_bind (wpAny_fieldsOf hI rfl ?_)));refine wpAny_bind (wpAny_setEntries_of ho hd hf ?_);dsimp only;rw[if_neg (by simp)];simp only[Int.toNat_natCast];refine wpAny_bind (wpAny_seqItems ht hdt ?_);have e1:(pl.map fun k:Nat=>Value.int k 0).toArray[i]?=some (.int p 0):=by simp[hp]
 dsimp only;rw[e1];dsimp only;unfold setNextDrawn;refine wpAny_bind (wpAny_bind (wpAny_setState_of ho hd hf ?_));dsimp only;rw[if_neg (by simp)];simp only[Int.toNat_natCast,hv];refine wpAny_pure (wpAny_bind (wpAny_setField_rec hI (by simp) fun h1 e1 b1=>?_));exact wpAny_pure ⟨v,rfl,wpAny_pure (h h1 e1 b1)⟩
theorem zmw{β:Type}{Q1:β->Shared->Prop}{E1:Value->Shared->Prop}(hh:A.handled=none)(h:∀e h',Shared.TypeIs { s with heap:=h' } e "StopIteration" -> (∀b o,s.heap.get? b=some o->h'.get? b=some o)->E1 e { s with heap:=h' }) :
  wpAny (model P w) A (newExc (.type "StopIteration") [] >>= fun e=>(raiseNew e:Sem β)) Q1 E1 s:=by
 refine wpAny_bind ?_;simp only[newExc,newTuple];refine wpAny_bind (wpAny_newObj_type (?_) (by size_fits));refine wpAny_bind (m:=firstArgMember _ _) (wpAny_of_eq (a:=Value.none) (by first | rfl | (simp only[firstArgMember];rfl)) (wpAny_newObj_type ?_ (by size_fits)));simp only[raiseNew];refine wpAny_bind (wpAny_handled ?_);rw[hh];refine wpAny_bind (wpAny_pure (wpAny_throw ?_));exact h (.ref _) _ ⟨_,Heap.get?_push_size _ rfl,rfl⟩ fun b o e=>Heap.get?_push_of_some _ (Heap.get?_push_of_some _ e)
theorem zj1{I a:Addr}{o:Obj}{es:Array (Int×Value)}{ep sl i:Nat}{t:SetTable}{Q:Option Value->Shared->Prop}(hh:A.handled=none)(hI:s.heap.get? I=some (itS (.int sl 0) i a es.size ep))(ho:s.heap.get? a=some o)(hd:o.data=.set es ep t)(hf:t.fits es.size=true)
  (hn:∀(A':Around) (R:Option (Value×Nat)->Shared->Prop) (E':Value->Shared->Prop),R none s->wpAny (model P w) A' (setNext a sl i ep) R E' s)
  (h:∀h',(∀b o,b≠I->s.heap.get? b=some o->h'.get? b=some o)->Q none { s with heap:=h' }) :
  wpAny (model P w) A (pyNext (.ref I)) Q E s:=by
 have ty:s.TypeIs (.ref I) "set_iterator":=⟨_,hI,rfl⟩;unfold pyNext;refine wpAny_bind (wpAny_attempt (wpAny_callSpecial?_slot (name:=Str.ofString "__next__") ty zfi (wpAny_call_entry zfi ty zsw ?_ (zny _))));unfold Builtin.«set_iterator.__next__»;rw[show slotArgs "__next__" 0 ⟨[Value.ref I],[]⟩=pure (Value.ref I,[]) from rfl];refine wpAny_bind (wpAny_pure (wpAny_bind (wpAny_fieldsOf hI rfl ?_)));refine wpAny_bind (wpAny_setEntries_of ho hd hf ?_);dsimp only;rw[if_neg (by simp)];simp only[Int.toNat_natCast];refine wpAny_bind (hn _ _ _ ?_);dsimp only;refine wpAny_bind (wpAny_setField_rec hI (by simp) fun h1 e1 b1=>?_);refine zmw (s:={ s with heap:=h1 }) hh fun e h2 te k2=>?_;refine wpAny_bind (wpAny_isInstance (b:=true) te isSubtype_stop (wpAny_pure (h h2 fun b o hb eb=>k2 b o ?_)));exact(b1.2 b hb).trans eb
theorem zl5{I a tp:Addr}{o:Obj}{es:Array (Int×Value)}{ep i:Nat}{t:SetTable}{pl:List Nat}{ot:Obj}{nt:Nat}{Q:Option Value->Shared->Prop}(hh:A.handled=none)(hI:s.heap.get? I=some (itS (.ref tp) i a es.size ep))(ho:s.heap.get? a=some o)(hd:o.data=.set es ep t)(hf:t.fits es.size=true)
  (ht:s.heap.get? tp=some ot) (hdt:ot.data=.seq (pl.map fun k:Nat=>Value.int k 0).toArray nt) (hp:pl[i]?=none)
  (h:∀h',(∀b o,b≠I->s.heap.get? b=some o->h'.get? b=some o)->Q none { s with heap:=h' }) :
  wpAny (model P w) A (pyNext (.ref I)) Q E s:=by
 have ty:s.TypeIs (.ref I) "set_iterator":=⟨_,hI,rfl⟩;unfold pyNext;refine wpAny_bind (wpAny_attempt (wpAny_callSpecial?_slot (name:=Str.ofString "__next__") ty zfi (wpAny_call_entry zfi ty zsw ?_ (zny _))));unfold Builtin.«set_iterator.__next__»;rw[show slotArgs "__next__" 0 ⟨[Value.ref I],[]⟩=pure (Value.ref I,[]) from rfl];refine wpAny_bind (wpAny_pure (wpAny_bind (wpAny_fieldsOf hI rfl ?_)));refine wpAny_bind (wpAny_setEntries_of ho hd hf ?_);dsimp only;rw[if_neg (by simp)];simp only[Int.toNat_natCast];refine wpAny_bind (wpAny_seqItems ht hdt ?_);have e1:(pl.map fun k:Nat=>Value.int k 0).toArray[i]?=none:=by simpa using hp
 dsimp only;rw[e1];dsimp only;refine wpAny_bind (wpAny_setField_rec hI (by simp) fun h1 e1 b1=>?_);refine wpAny_bind (wpAny_setField_rec (s:={ s with heap:=h1 }) e1 (by simp) fun h2 e2 b2=>?_);refine zmw (s:={ s with heap:=h2 }) hh fun e h3 te k3=>?_;refine wpAny_bind (wpAny_isInstance (b:=true) te isSubtype_stop (wpAny_pure (h h3 fun b o hb eb=>k3 b o ?_)));exact((b1.trans b2).2 b hb).trans eb
end
end L2
namespace L2
open PySem PySem.Spec PyProof.Rows
section
variable {P:Program}{w:World}{A:Around}{E:Value->Shared->Prop}{s:Shared}{a:Addr}{o:Obj}{es:Array (Int×Value)}{ep sl i:Nat}{t:SetTable}
theorem z7c(p:Nat):SetTable.below #[p] 0=0:=by
 simp[SetTable.below,SetTable.below.go]
theorem z7d(p:Nat):SetTable.below #[p] (p+1)=1:=by
 simp[SetTable.below,SetTable.below.go]
theorem zxi{R:Option (Value×Nat)->Shared->Prop}(ho:s.heap.get? a=some o)(hd:o.data=.set es ep t)(hf:t.fits es.size=true)(hb:zf2 w=true)(h:R (((pickOrder (w.params.setOrder a ep) es)[i]?).map fun e=>(e.2,sl)) s):wpAny (model P w) A (setNext a sl i ep) R E s:=by
 unfold setNext setsByText;refine wpAny_bind (wpAny_setState_of ho hd hf (wpAny_bind (wpAny_bind (wpAny_askSetting (wpAny_pure ?_)))));rw[if_pos (by exact hb)];dsimp only;rw[if_neg (by simp)];unfold setWalk setsByText;refine wpAny_bind (wpAny_bind (wpAny_setState_of ho hd hf (wpAny_bind (wpAny_bind (wpAny_askSetting (wpAny_pure ?_))))));rw[if_pos (by exact hb)];exact wpAny_bind (wpAny_askSetting (wpAny_pure (wpAny_pure h)))
theorem z1r{R:Option (Value×Nat)->Shared->Prop}(ho:s.heap.get? a=some o)(hd:o.data=.set es ep t)(hf:t.fits es.size=true)(hb:zf2 w=false)(h1:es.size<=1)(hl:t.led=true)(h:R (match es[SetTable.below t.place sl]?,t.place[SetTable.below t.place sl]? with|some (_,x),some j=>some (x,j+1) | _,_=>none) s):wpAny (model P w) A (setNext a sl i ep) R E s:=by
 unfold setNext setsByText;refine wpAny_bind (wpAny_setState_of ho hd hf (wpAny_bind (wpAny_bind (wpAny_askSetting (wpAny_pure ?_)))));rw[if_neg (by show¬zf2 w=true;simp[hb])];dsimp only;rw[if_neg (by show¬((!t.plain&&decide (es.size>1))=true);simp;omega)];refine wpAny_bind ?_;show wpAny (model P w) A (if(!t.led&&!es.isEmpty)=true then unsupported "set:maker-not-led" else pure ()) _ _ s;rw[if_neg (by simp[hl])];exact wpAny_pure (wpAny_pure h)
theorem z7e:entryFor table "set_iterator.__iter__" = some Builtin.«dict_keyiterator.__iter__»:=entryFor_alias (id' := "dict_keyiterator.__iter__") (by kernel_rfl) rfl (by decide +kernel) (by kernel_rfl)
theorem z3u(v:Value):argsOk "set_iterator.__iter__" ⟨[v],[]⟩:=by
 unfold argsOk
 kernel_rfl
theorem zxj{I:Addr}{f:Value}{n:Nat}{Q:Value->Shared->Prop}(hI:s.heap.get? I=some (itS f i a n ep))(h:Q (.ref I) s):wpAny (model P w) A (pyIter (.ref I)) Q E s:=by
 have ty:s.TypeIs (.ref I) "set_iterator":=⟨_,hI,rfl⟩;refine wpAny_pyIter_slot ty zxe (wpAny_call_entry zxe ty z7e ?_ (z3u _));show wpAny _ _ (ret (Value.ref I)) _ _ s;exact wpAny_pure ⟨_,rfl, "set_iterator",_,ty,zfi.lookup,h⟩
theorem zud{I:Addr}(hne:a≠I)(hd:o.data=.set es ep t)(hf:t.fits es.size=true)(hb:zf2 w=true)(hh:A.handled=none) :
  Walks P w A I [I,a] [I] es.size (fun i v=>((pickOrder (w.params.setOrder a ep) es).toList.map (·.2))[i]?=some v) (fun i h=>h.get? I=some (itS (.int ((0:Nat):Int) 0) i a es.size ep)/\h.get? a=some o) where
 sub:=fun b hb=>by rw[List.mem_singleton.mp hb];exact .head _
 frame:=fun i h h' st k=>⟨k I (.head _) _ st.1,k a (.tail _ (.head _)) _ st.2⟩
 item:=fun i s Q E hi st hQ=>by
  have pm:=zld (w.params.setOrder a ep) es;have sz:(pickOrder (w.params.setOrder a ep) es).size=es.size:=by
   have:=pm.length_eq;simpa using this
  have hi':i<(pickOrder (w.params.setOrder a ep) es).size:=by rw[sz];exact hi
  refine zsx st.1 st.2 hd hf (v:=(pickOrder (w.params.setOrder a ep) es)[i].2) (nx:=0) (fun A' R E' q=>zxi st.2 hd hf hb (by rw[Array.getElem?_eq_getElem hi'];exact q)) fun h' e b=>?_;refine hQ _ h' s.toks ?_ ⟨e,?_⟩ fun c oc hc ec=>?_
  ·simp[hi']
  ·rw[b.2 a hne];exact st.2
  ·rw[b.2 c fun z=>hc (by simp[z])];exact ec
 done:=fun s Q E st hQ=>by
  have pm:=zld (w.params.setOrder a ep) es;have sz:(pickOrder (w.params.setOrder a ep) es).size=es.size:=by
   have:=pm.length_eq;simpa using this
  refine zj1 hh st.1 st.2 hd hf (fun A' R E' q=>zxi st.2 hd hf hb (by rw[Array.getElem?_eq_none (by rw[sz];exact Nat.le_refl _)];exact q)) fun h' k=>hQ h' s.toks fun c oc hc ec=>k c oc (fun z=>hc (by simp[z])) ec
 self:=fun i s Q E st q=>zxj st.1 q
end
end L2
namespace L2
open PySem PySem.Spec PyProof.Rows
section
variable {P:Program}{w:World}{A:Around}{E:Value->Shared->Prop}{s:Shared}{a:Addr}{o:Obj}{es:Array (Int×Value)}{ep sl i:Nat}{t:SetTable}
def ordD(es:Array (Int×Value))(pl:List Nat):List Value:=pl.map fun k=>(es[k]?.map (·.2)).getD .none
theorem zrd{I tp:Addr}{ot:Obj}{nt:Nat}{pl:List Nat}(hne:a≠I)(hnt:tp≠I)(hd:o.data=.set es ep t)(hf:t.fits es.size=true)(hdt:ot.data=.seq (pl.map fun k:Nat=>Value.int k 0).toArray nt)(hp:pl.Perm (List.range es.size))(hh:A.handled=none) :
  Walks P w A I [I,a,tp] [I] es.size (fun i v=>(ordD es pl)[i]?=some v) (fun i h=>h.get? I=some (itS (.ref tp) i a es.size ep)/\h.get? a=some o/\h.get? tp=some ot) where
 sub:=fun b hb=>by rw[List.mem_singleton.mp hb];exact .head _
 frame:=fun i h h' st k=>⟨k I (.head _) _ st.1,k a (.tail _ (.head _)) _ st.2.1,k tp (.tail _ (.tail _ (.head _))) _ st.2.2⟩
 item:=fun i s Q E hi st hQ=>by
  have len:pl.length=es.size:=by rw[hp.length_eq];simp
  have hi':i<pl.length:=by rw[len];exact hi
  have hk:pl[i]<es.size:=by simpa using hp.mem_iff.mp (List.getElem_mem hi')
  refine zuc st.1 st.2.1 hd hf st.2.2 hdt (p:=pl[i]) (hs:=es[pl[i]].1) (v:=es[pl[i]].2) (List.getElem?_eq_getElem hi') (by simp[hk]) fun h' e b=>?_;refine hQ _ h' s.toks ?_ ⟨e,?_,?_⟩ fun c oc hc ec=>?_
  ·simp[ordD,hi',hk]
  ·rw[b.2 a hne];exact st.2.1
  ·rw[b.2 tp hnt];exact st.2.2
  ·rw[b.2 c fun z=>hc (by simp[z])];exact ec
 done:=fun s Q E st hQ=>by
  have len:pl.length=es.size:=by rw[hp.length_eq];simp
  exact zl5 hh st.1 st.2.1 hd hf st.2.2 hdt (List.getElem?_eq_none (by omega)) fun h' k=>hQ h' s.toks fun c oc hc ec=>k c oc (fun z=>hc (by simp[z])) ec
 self:=fun i s Q E st q=>zxj st.1 q
theorem zxk{I:Addr}(hne:a≠I)(hd:o.data=.set es ep t)(hf:t.fits es.size=true)(hb:zf2 w=false)(h1:es.size<=1)(hl:t.led=true)(hh:A.handled=none) :
  Walks P w A I [I,a] [I] es.size (fun i v=>(es.toList.map (·.2))[i]?=some v) (fun i h=>∃sl:Nat,h.get? I=some (itS (.int sl 0) i a es.size ep)/\h.get? a=some o/\(i=0->sl=0)/\(i=1->∃p,t.place=#[p]/\sl=p+1)) where
 sub:=fun b hb=>by rw[List.mem_singleton.mp hb];exact .head _
 frame:=fun i h h' st k=>by
  obtain⟨sl,e1,e2,r⟩:=st;exact⟨sl,k I (.head _) _ e1,k a (.tail _ (.head _)) _ e2,r⟩
 item:=fun i s Q E hi st hQ=>by
  obtain⟨sl,e1,e2,z,_⟩:=st;have n1:es.size=1:=by omega
  obtain rfl:i=0:=by omega
  obtain rfl:=z rfl;have pz:t.place.size=1:=by
   simp only[SetTable.fits,Bool.and_eq_true,beq_iff_eq] at hf;rw[hf.1,n1]
  obtain⟨p,hp⟩:∃p,t.place=#[p]:=⟨t.place[0],by
   apply Array.ext
   ·simp[pz]
   ·intro j h1 h2
    have:j=0:=by omega
    subst this;rfl⟩
  have h0:0<es.size:=by omega
  refine zsx e1 e2 hd hf (v:=es[0].2) (nx:=p+1) (fun A' R E' q=>z1r e2 hd hf hb h1 hl (by rw[hp,z7c];simp[h0];exact q)) fun h' e b=>?_;refine hQ _ h' s.toks (by simp[h0]) ⟨p+1,e,?_,(fun z=>absurd z (by decide)),fun _=>⟨p,hp,rfl⟩⟩ fun c oc hc ec=>?_
  ·rw[b.2 a hne];exact e2
  ·rw[b.2 c fun z=>hc (by simp[z])];exact ec
 done:=fun s Q E st hQ=>by
  obtain⟨sl,e1,e2,_,z⟩:=st;refine zj1 hh e1 e2 hd hf (fun A' R E' q=>z1r e2 hd hf hb h1 hl ?_) fun h' k=>hQ h' s.toks fun c oc hc ec=>k c oc (fun z=>hc (by simp[z])) ec;by_cases n1:es.size=1
  ·obtain⟨p,hp,rfl⟩:=z n1
   rw[hp,z7d];have:es[1]?=none:=Array.getElem?_eq_none (by omega);rw[this];exact q
  ·have:es[SetTable.below t.place sl]?=none:=Array.getElem?_eq_none (by omega)
   rw[this];exact q
 self:=fun i s Q E st q=>by
  obtain⟨sl,e1,_⟩:=st;exact zxj e1 q
end
end L2
namespace L2
open PySem PySem.Spec PyProof.Rows
section
variable {P:Program}{w:World}{A:Around}{E:Value->Shared->Prop}{s:Shared}{a:Addr}
theorem z3v:typeLookup (.type "set") "__len__" = pure (some (.builtin "set.__len__")):=by rw[typeLookup_type,builtinLookup_eq_fast];kernel_rfl
theorem zxl{L:Addr}{xs:Array Value}{n0:Nat}{Q:Unit->Shared->Prop}(eL:s.heap.get? L=some { cls:=.type "list",data:=.seq xs n0 })
  (h:∀(h2:Heap) (c:Nat),h2.get? L=some { cls:=.type "list",data:=.seq xs c }->(∀b o,b≠L->s.heap.get? b=some o->h2.get? b=some o)->Q () { s with heap:=h2 }) (hz:xs.size<100):wpAny (model P w) A (Builtin.List.listTouch (.ref L)) Q E s:=by
 show wpAny _ A (updateSeq L (·.push .none) >>= fun _=>updateSeq L (·.pop)) _ _ s;have g1:=Heap.get?_update_self (Obj.mapSeq (·.push Value.none)) eL rfl;have g2:=Heap.get?_update_self (Obj.mapSeq (·.pop)) g1 rfl;refine wpAny_bind (wpAny_updateSeq eL rfl (wpAny_updateSeq g1 rfl (h _ (n0+1+1) (g2.trans ?_) fun b o hb e=>?_)))
 ·simp[Obj.mapSeq]
 ·exact(Heap.get?_update_other _ _ (Ne.symm hb)).trans ((Heap.get?_update_other _ _ (Ne.symm hb)).trans e)
theorem zpp{zs:List Str}{Q:List Value->Shared->Prop}(S:SetS P w (zf2 w) s.heap a zs)(hz:zs.length<90)(hh:A.handled=none)
  (hQ:∀(s':Shared) (vs:List Value) (ys:List Str),StrsAre vs ys->ys.Perm zs->(∀b o,s.heap.get? b=some o->s'.heap.get? b=some o)->s'.gens=s.gens->s'.os=s.os->Q vs s') :
  wpAny (model P w) A (collect (.ref a)) Q E s:=by
 obtain⟨o,es,ep,t,ho,hex,hd,hel,hs,nd,hf,hl,hp⟩:=S;have hlen:es.size=zs.length:=by
  have:=congrArg List.length hs.strs;simpa using this
 unfold collect;refine wpAny_bind (wpAny_runValue (codeAny_builtin PySem.F.entry_proto_collect ?_));rw[Around.under_plainId PySem.F.plain_proto_collect];show wpAny _ A.in1 (newList [] >>= fun q=>again (.builtin "list.__iadd__" ⟨[q,.ref a],[]⟩)) _ _ s;refine wpAny_bind (wpAny_newObj_type (wpAny_pure ⟨plainId_quiet PySem.F.plain_list_iadd _,codeAny_builtin PySem.F.entry_list_iadd ?_⟩));rw[Around.under_plainId PySem.F.plain_list_iadd];show wpAny _ A.in1 (Builtin.List.listExtendWith (.ref s.heap.objs.size) (.ref a) (.ref s.heap.objs.size)) _ _ _;have alt:a<s.heap.objs.size:=Heap.lt_size ho;generalize hH:s.heap.push { cls:=.type "list",data:=.seq ([]:List Value).toArray }=H;have ho1:H.get? a=some o:=by rw[<- hH];exact Heap.get?_push_of_some _ ho
 have hsz:H.objs.size=s.heap.objs.size+1:=by rw[<- hH];exact Heap.size_push ..
 have hL:H.get? s.heap.objs.size=some { cls:=.type "list",data:=.seq ([]:List Value).toArray }:=by rw[<- hH];exact Heap.get?_push_size _ rfl
 have ty:Shared.TypeIs { s with heap:=H } (.ref a) "set":=⟨o,ho1,hex.1⟩;unfold Builtin.List.listExtendWith;refine wpAny_bind (wpAny_typeOf ty ?_);have f1:Builtin.List.listSameRef (.ref s.heap.objs.size) (.ref a)=false:=by
  have:s.heap.objs.size≠a:=Nat.ne_of_gt alt;simp[Builtin.List.listSameRef,this]
 have f2:(Value.type "set" == Value.type "list")=false:=by decide
 have f3:(Value.type "set" == Value.type "tuple")=false:=by decide
 simp only[f1,f2,f3,Bool.or_false,Bool.false_eq_true,if_false];have hint:∀{s1:Shared} {R:Bool->Shared->Prop} {E1:Value->Shared->Prop},s1.TypeIs (.ref a) "set" -> R false s1->wpAny (model P w) A.in1 (Builtin.List.listLengthHint (.ref a)) R E1 s1:=fun {s1 R E1} ty2 q=>by
  unfold Builtin.List.listLengthHint;refine wpAny_bind (wpAny_specialOf ty2 z3v ?_);dsimp only;rw[show splitId "set.__len__" = some ("set", "__len__") from by decide +kernel];dsimp only;refine wpAny_bind (wpAny_isInstance (b:=true) ty2 sub_set_self ?_);rw[if_neg (by decide)];rw[if_pos (by decide +kernel)];exact wpAny_bind (wpAny_typeOf ty2 (wpAny_pure q))
 refine wpAny_bind (zxh (s:={ s with heap:=H }) ho1 hex hd hf (by omega) (fun hc=>?_) fun c1 c2 c3 pl d pm=>?_)
 ·have g1:(H.push (itS (.int 0 0) 0 a es.size ep)).get? a=some o:=Heap.get?_push_of_some _ ho1
  refine wpAny_bind (wpAny_holding (hint (s1:={ s with heap:=H.push (itS (.int 0 0) 0 a es.size ep) }) ⟨o,g1,hex.1⟩ ?_));rw[if_pos (by decide)];have e0:(H.push (itS (.int 0 0) 0 a es.size ep)).get? H.objs.size=some (itS (.int 0 0) 0 a es.size ep):=Heap.get?_push_size _ rfl;have eL:(H.push (itS (.int 0 0) 0 a es.size ep)).get? s.heap.objs.size=some { cls:=.type "list",data:=.seq #[] 0 }:=Heap.get?_push_of_some _ hL;have nI:a≠H.objs.size:=by rw[hsz];exact Nat.ne_of_lt (Nat.lt_succ_of_lt alt)
  have nL:s.heap.objs.size∉[H.objs.size,a]:=by
   rw[hsz];simp only[List.mem_cons,List.not_mem_nil,or_false,not_or];exact⟨Nat.ne_of_lt (Nat.lt_succ_self _),Nat.ne_of_gt alt⟩
  refine wpAny_bind (wpAny_rule (wpAny_bind (zxl (s:={ s with heap:=H.push (itS (.int 0 0) 0 a es.size ep) }) eL (fun h2 c eL2 k2=>?_) (by simp))));have e02:=k2 _ _ (fun z=>nL (by rw[z];exact .head _)) e0;have g12:=k2 _ _ (fun z=>nL (by rw[z];exact .tail _ (.head _))) g1;have tail:∀(ord:List Value) (ys:List Str),StrsAre ord ys->ys.Perm zs->∀(s':Shared) (acc:Array Value) (c':Nat),Moved (s.heap.objs.size::[H.objs.size]) (fun g g'=>g'=g) { s with heap:=h2 } s'->ItemsOf (fun i v=>ord[i]?=some v) acc es.size->Q acc.toList s':=fun ord ys so py s' acc c' mv it=>by
   have len:ord.length=es.size:=by rw[zfw so,py.length_eq,hlen]
   have ea:acc.toList=ord:=by
    apply List.ext_getElem?;intro j;by_cases hj:j<es.size
    ·have h1:j<acc.size:=by rw[it.1];exact hj
     have:=it.2 j acc[j] (Array.getElem?_eq_getElem h1);rw[this];simp[h1]
    ·rw[List.getElem?_eq_none (by rw[Array.length_toList,it.1];omega),List.getElem?_eq_none (by omega)]
   refine hQ s' acc.toList ys (ea▸so) py (fun b ob eb=>?_) mv.gens mv.os;have lt:=Heap.lt_size eb;refine mv.heap b ob ?_ (k2 b ob (Nat.ne_of_lt lt) (Heap.get?_push_of_some _ (by rw[<- hH];exact Heap.get?_push_of_some _ eb)));rw[hsz];simp only[List.mem_cons,List.not_mem_nil,or_false,not_or];exact⟨Nat.ne_of_lt lt,Nat.ne_of_lt (Nat.lt_succ_of_lt lt)⟩
  by_cases hb:zf2 w=true
  ·have W:=fun A' hA=>zud (P:=P) (w:=w) (A:=A') (I:=H.objs.size) nI hd hf hb hA
   refine wpAny_pure ⟨plainId_quiet PySem.F.plain_extend_loop _,codeAny_extend_loopS (W A.in1 hh).toS (Nat.le_trans (by omega:es.size<=90) (by decide)) _ nL _ es.size 0 _ _ _ rfl (Nat.zero_le _) ⟨e02,g12⟩ eL2 (ItemsOf.nil _) fun s' acc c' mv eS it=>?_⟩;refine wpAny_bind (wpAny_load eS ?_);obtain⟨ys,k1,k3⟩:=zho (zld (w.params.setOrder a ep) es) hs;exact wpAny_pure (tail _ ys k1 k3 s' acc c' mv it)
  ·have hb:zf2 w=false:=by simpa using hb
   have few:es.size<=1:=by
    rcases hc with q | q | q
    ·rw[hb] at q;cases q
    ·by_cases e:zs=[]
     ·rw[hlen,e];exact Nat.zero_le _
     ·rw[hp e] at q;cases q
    ·exact q
   have W:=fun A' hA=>zxk (P:=P) (w:=w) (A:=A') (I:=H.objs.size) nI hd hf hb few (hl hb) hA;refine wpAny_pure ⟨plainId_quiet PySem.F.plain_extend_loop _,codeAny_extend_loopS (W A.in1 hh).toS (Nat.le_trans (by omega:es.size<=90) (by decide)) _ nL _ es.size 0 _ _ _ rfl (Nat.zero_le _) ⟨0,e02,g12,fun _=>rfl,fun z=>absurd z (by decide)⟩ eL2 (ItemsOf.nil _) fun s' acc c' mv eS it=>?_⟩;refine wpAny_bind (wpAny_load eS ?_);exact wpAny_pure (tail _ zs hs (List.Perm.refl _) s' acc c' mv it)
 ·have tpo:(H.push { cls:=.type "tuple",data:=.seq (pl.map fun i:Nat=>Value.int i 0).toArray }).get? H.objs.size=some { cls:=.type "tuple",data:=.seq (pl.map fun i:Nat=>Value.int i 0).toArray }:=Heap.get?_push_size _ rfl
  have hs2:(H.push { cls:=.type "tuple",data:=.seq (pl.map fun i:Nat=>Value.int i 0).toArray }).objs.size=H.objs.size+1:=Heap.size_push ..;have bh1:(H.push { cls:=.type "tuple",data:=.seq (pl.map fun i:Nat=>Value.int i 0).toArray }).get? a=some o:=Heap.get?_push_of_some _ ho1;have bhL:(H.push { cls:=.type "tuple",data:=.seq (pl.map fun i:Nat=>Value.int i 0).toArray }).get? s.heap.objs.size=some { cls:=.type "list",data:=.seq #[] 0 }:=Heap.get?_push_of_some _ hL;have bk:∀b ob,s.heap.get? b=some ob->(H.push { cls:=.type "tuple",data:=.seq (pl.map fun i:Nat=>Value.int i 0).toArray }).get? b=some ob:=fun b ob e=>Heap.get?_push_of_some _ (by rw[<- hH];exact Heap.get?_push_of_some _ e);show wpAny _ A.in1 _ _ _ { s with heap:=(H.push { cls:=.type "tuple",data:=.seq (pl.map fun i:Nat=>Value.int i 0).toArray }).push (itS (.ref H.objs.size) 0 a es.size ep),drawn:=d };generalize H.push { cls:=.type "tuple",data:=.seq (pl.map fun i:Nat=>Value.int i 0).toArray }=T at tpo hs2 bh1 bhL bk ⊢;have g1:(T.push (itS (.ref H.objs.size) 0 a es.size ep)).get? a=some o:=Heap.get?_push_of_some _ bh1;refine wpAny_bind (wpAny_holding (hint (s1:={ s with heap:=T.push (itS (.ref H.objs.size) 0 a es.size ep),drawn:=d }) ⟨o,g1,hex.1⟩ ?_));rw[if_pos (by decide)];have e0:(T.push (itS (.ref H.objs.size) 0 a es.size ep)).get? (H.objs.size+1)=some (itS (.ref H.objs.size) 0 a es.size ep):=by rw[<- hs2];exact Heap.get?_push_size _ rfl
  have e1:(T.push (itS (.ref H.objs.size) 0 a es.size ep)).get? H.objs.size=some { cls:=.type "tuple",data:=.seq (pl.map fun i:Nat=>Value.int i 0).toArray }:=Heap.get?_push_of_some _ tpo;have eL:(T.push (itS (.ref H.objs.size) 0 a es.size ep)).get? s.heap.objs.size=some { cls:=.type "list",data:=.seq #[] 0 }:=Heap.get?_push_of_some _ bhL;have nI:a≠H.objs.size+1:=by rw[hsz];exact Nat.ne_of_lt (Nat.lt_succ_of_lt (Nat.lt_succ_of_lt alt))
  have nT:H.objs.size≠H.objs.size+1:=Nat.ne_of_lt (Nat.lt_succ_self _);have nL:s.heap.objs.size∉[H.objs.size+1,a,H.objs.size]:=by
   rw[hsz];simp only[List.mem_cons,List.not_mem_nil,or_false,not_or];exact⟨Nat.ne_of_lt (Nat.lt_succ_of_lt (Nat.lt_succ_self _)),Nat.ne_of_gt alt,Nat.ne_of_lt (Nat.lt_succ_self _)⟩
  refine wpAny_bind (wpAny_rule (wpAny_bind (zxl (s:={ s with heap:=T.push (itS (.ref H.objs.size) 0 a es.size ep),drawn:=d }) eL (fun h2 c eL2 k2=>?_) (by simp))));have e02:=k2 _ _ (fun z=>nL (by rw[z];exact .head _)) e0;have g12:=k2 _ _ (fun z=>nL (by rw[z];exact .tail _ (.head _))) g1;have t12:=k2 _ _ (fun z=>nL (by rw[z];exact .tail _ (.tail _ (.head _)))) e1;have W:=fun A' hA=>zrd (P:=P) (w:=w) (A:=A') (I:=H.objs.size+1) (tp:=H.objs.size) (ep:=ep) nI nT hd hf (ot:={ cls:=.type "tuple",data:=.seq (pl.map fun i:Nat=>Value.int i 0).toArray }) rfl pm hA;refine wpAny_pure ⟨plainId_quiet PySem.F.plain_extend_loop _,codeAny_extend_loopS (W A.in1 hh).toS (Nat.le_trans (by omega:es.size<=90) (by decide)) _ nL _ es.size 0 _ _ _ rfl (Nat.zero_le _) ⟨e02,g12,t12⟩ eL2 (ItemsOf.nil _) fun s' acc c' mv eS it=>?_⟩;refine wpAny_bind (wpAny_load eS (wpAny_pure ?_));have pv:(ordD es pl).Perm (es.toList.map (·.2)):=by
   have e:(List.range es.size).map (fun k=>(es[k]?.map (·.2)).getD Value.none)=es.toList.map (·.2):=by
    apply List.ext_getElem?;intro j;by_cases hj:j<es.size
    ·simp[hj]
    ·simp[hj]
   rw[<- e];exact pm.map _
  obtain⟨ys,so,py⟩:∃ys,StrsAre (ordD es pl) ys/\ys.Perm zs:=by
   refine⟨(ordD es pl).map strOf,strsAre_map _ fun v hv=>hs.all v (pv.mem_iff.mp hv),?_⟩;have:=pv.map strOf;rwa[hs.strs] at this
  have len:(ordD es pl).length=es.size:=by rw[zfw so,py.length_eq,hlen]
  have ea:acc.toList=ordD es pl:=by
   apply List.ext_getElem?;intro j;by_cases hj:j<es.size
   ·have h1:j<acc.size:=by rw[it.1];exact hj
    have:=it.2 j acc[j] (Array.getElem?_eq_getElem h1);rw[this];simp[h1]
   ·rw[List.getElem?_eq_none (by rw[Array.length_toList,it.1];omega),List.getElem?_eq_none (by omega)]
  refine hQ s' acc.toList ys (ea▸so) py (fun b ob eb=>?_) mv.gens mv.os;have lt:=Heap.lt_size eb;refine mv.heap b ob ?_ (k2 b ob (Nat.ne_of_lt lt) (Heap.get?_push_of_some _ (bk b ob eb)));rw[hsz];simp only[List.mem_cons,List.not_mem_nil,or_false,not_or];exact⟨Nat.ne_of_lt lt,Nat.ne_of_lt (Nat.lt_succ_of_lt (Nat.lt_succ_of_lt lt))⟩
end
end L2
namespace L2
open PySem PySem.Spec PyProof.Rows
section
variable {P:Program}{w:World}{A:Around}{E:Value->Shared->Prop}{s:Shared}{a:Addr}
theorem zxm{h:Heap}{l:Addr}{vs:List Value}{out:Array Value}{n:Nat}(hl:h.get? l=some (seqObj "list" vs.toArray n)):(∃c,(sortedHeap h l vs out).get? l=some (seqObj "list" out c))/\∀b o,b≠l->h.get? b=some o->(sortedHeap h l vs out).get? b=some o:=by
 unfold sortedHeap;have g1:=Heap.get?_update_self (Obj.mapSeq fun _=>#[]) hl rfl;have g2:(((h.update l (Obj.mapSeq fun _=>#[])).push (seqObj "tuple" vs.toArray 0)).push (seqObj "list" #[] 0)).get? l=some (Obj.mapSeq (fun _=>#[]) (seqObj "list" vs.toArray n)):=Heap.get?_push_of_some _ (Heap.get?_push_of_some _ g1);refine⟨⟨_,(Heap.get?_update_self (Obj.mapSeq fun _=>out) g2 rfl).trans rfl⟩,fun b o hb e=>?_⟩
 ·refine(Heap.get?_update_other _ _ (Ne.symm hb)).trans (Heap.get?_push_of_some _ (Heap.get?_push_of_some _ ?_))
  exact(Heap.get?_update_other _ _ (Ne.symm hb)).trans e
theorem zre{zs:List Str}{Q:Value->Shared->Prop}(S:SetS P w (zf2 w) s.heap a zs)(hz:zs.length<64)(hh:A.handled=none)
  (hQ:∀(s1:Shared) (h':Heap) (out:Array Value) (ys:List Str) (c:Nat),StrsAre out.toList ys->ys.Perm zs->sortedS ys=true->h'.get? s1.heap.objs.size=some (seqObj "list" out c)->(∀b o,s.heap.get? b=some o->s1.heap.get? b=some o)->(∀b o,s1.heap.get? b=some o->h'.get? b=some o)->s1.gens=s.gens->s1.os=s.os->Q (.ref s1.heap.objs.size) { s1 with heap:=h' }) :
  wpAny (model P w) A (call (.builtin "sorted") [.ref a]) Q E s:=by
 refine Calls.call_function_entry kind_sorted plain_sorted entry_sorted (args_sorted1 _) ?_;unfold Builtin.«sorted»;refine wpAny_bind (m:=checkCount "sorted" 1 1 _) (wpAny_pure ?_);refine wpAny_bind (zpp S (by omega) hh fun s1 vs ys so py kp eg eo=>?_);have vl:vs.length<64:=by rw[zfw so,py.length_eq];exact hz
 refine wpAny_bind (wpAny_newList (hsz:=Nat.le_trans (Nat.le_of_lt vl) (by decide)) ?_);have hoL:(s1.heap.push (seqObj "list" vs.toArray 0)).get? s1.heap.objs.size=some (seqObj "list" vs.toArray 0):=Heap.get?_push_size _ rfl;refine wpAny_bind (wpAny_holding (wpAny_call_entry PyProof.Rows.slot_list_sort ⟨_,hoL,rfl⟩ PyProof.Rows.entry_list_sort (list_sort_treeK (s:={ s1 with heap:=s1.heap.push (seqObj "list" vs.toArray 0) }) strKind_oneLt hoL so.keysOf (fun v₁ v₂ rest e=>keyKind_strs (by rw[<- e];exact so)) vl fun st a1 a2=>⟨_,rfl,?_⟩) (PyProof.Rows.args_list_sort _)));obtain⟨zs',k1,k2,k3⟩:=sorted_out_str so a1 a2;obtain⟨⟨c,gl⟩,go⟩:=zxm (out:=(arrOf st).map (·.2)) hoL;refine wpAny_pure ⟨_,rfl,hQ s1 _ _ zs' c k1 (k2.trans py) k3 gl kp (fun b o e=>go b o ?_ (Heap.get?_push_of_some _ e)) eg eo⟩;exact Nat.ne_of_lt (Heap.lt_size e)
end
end L2
namespace L2
open PySem PySem.Spec PyProof.Rows
theorem Inv.draw{X:Cx}{pins:List (Addr×Obj)}{σ:St}{H:Hp}{s:Shared}(I:Inv X pins σ H s)(d:Drawn)(t:Nat):Inv X pins σ H { s with drawn:=d,toks:=t }:=
 ⟨I.ok,I.os,I.bare,I.base,I.loc,I.cell,I.free,I.freeC,I.pin,I.hok,I.len,I.kn⟩
def tSS(K:PySem.W.Frag)(te:TE):TE:=fun σ H Q=>te σ H fun x H1=>∃(a:Addr) (xs:List Str),x=.ref a/\SqL K H1 a (xs.map V.str)/\xs.length<64/\∀(l:Addr) (ys:List Str),H1 l=none->ys.Nodup->(∀y,y∈ys↔y∈xs)->sortedS ys=true->Q (.ref l) (upd H1 l (.lst (ys.map V.str)))
theorem zrf:∀{xs:List Str} {us:List Value},Vals (xs.map V.str) us->StrsAre us xs
 |[],_,h=>by cases h;exact .nil
 | x :: xs,_,h=>by
   cases h with
   | cons r t=>
     obtain⟨u,rfl⟩:=r;exact .cons x u (zrf t)
theorem zxn:∀{xs:List Str} {us:List Value},StrsAre us xs->Vals (xs.map V.str) us
 |_,_,.nil=>.nil
 |_,_,.cons x t h=>.cons ⟨t,rfl⟩ (zxn h)
section
variable {X:Cx}{e:Expr}{te:TE}{p q pos pos2:Pos}
theorem zsy:bootBuiltins "set" = some (.type "set"):=by decide +kernel
theorem zue(hc:X.calm=true)(g1:Gl X "sorted")(m1:X.mg "sorted" = none)(g2:Gl X "set")(m2:X.mg "set" = none)(he:PE X e te)
  (hs1:starEach [.Call (.Name "set" q) [e] [] pos2] X.env=(false,eval (.Call (.Name "set" q) [e] [] pos2) X.env)::starEach [] X.env:=by rfl) (hp1:(backTo pos (starEach [] X.env)).any (·.1)=false:=by rfl)
  (hs2:starEach [e] X.env=(false,eval e X.env)::starEach [] X.env:=by rfl) (hp2:(backTo pos2 (starEach [] X.env)).any (·.1)=false:=by rfl) :
  PE X (.Call (.Name "sorted" p) [.Call (.Name "set" q) [e] [] pos2] [] pos) (tSS X.K te):=by
 intro pins s σ H Q I h;refine wpAny_Call_Name_kw (zhe I g1 m1 boot_sorted ?_);refine PyProof.Rows.callWith_builtin1 ?_ hs1 hp1;rw[hs1];show wpAny _ _ (spliced ((false,eval (.Call (.Name "set" q) [e] [] pos2) X.env)::backTo pos (starEach [] X.env))) _ _ s;refine Calls.spliced_cons ?_;refine wpAny_Call_Name_kw (zhe I g2 m2 zsy ?_);refine PyProof.Rows.callWith_type1 ?_ hs2 hp2;refine thn ((zdr he zhg hs2) pos2 pins s σ H (fun vs H1=>match vs with
  |[x]=>∃(a:Addr) (xs:List Str),x=.ref a/\SqL X.K H1 a (xs.map V.str)/\xs.length<64/\∀(l:Addr) (ys:List Str),H1 l=none->ys.Nodup->(∀y,y∈ys↔y∈xs)->sortedS ys=true->Q (.ref l) (upd H1 l (.lst (ys.map V.str)))
  |_=>False) I h) fun us s1 ⟨vs,H1,I1,r1,q0⟩=>?_
 match vs,r1,q0 with
 | [x],r1,⟨a,xs,e2,sq,lx,q1⟩=>
   subst e2;obtain⟨u,rfl,rx⟩:=zm9 r1;cases rx;obtain⟨its,rv,pl,hz⟩:=I1.list sq;have sx:=zrf rv;have il:its.length=xs.length:=zfw sx;refine zpo (I.ok.hd hc) pl.isList sx (by omega) fun h' tk ys sy my ly kp=>?_;have I2:Inv X pins σ H1 { s1 with heap:=h',toks:=tk }:=I1.kept (t':=tk) kp;refine Calls.spliced_nil ?_;refine zre (s:={ s1 with heap:=h',toks:=tk }) sy (by omega) (I.ok.hd hc) fun s2 h2 out zs c so py srt gl k2 k3 eg eo=>?_;have nz:zs.Nodup:=by
    obtain⟨_,_,_,_,_,_,_,_,_,nd,_⟩:=sy;exact py.nodup_iff.mpr nd
   cases s2 with
   | mk hp2 g2' d2 t2 o2=>
     have eg:g2'=s1.gens:=eg;have eo:o2=s1.os:=eo;subst eg eo;have I3:Inv X pins σ H1 { s1 with heap:=hp2,drawn:=d2,toks:=t2 }:=(I2.kept (t':=t2) k2).draw d2 t2;have zl:zs.length<=64:=by
      have:=py.length_eq;omega
     refine⟨.ref hp2.objs.size,_,I3.laid (t':=t2) (o:=.lst (zs.map V.str)) k3 (Nat.le_refl _) ?_,rfl,q1 hp2.objs.size zs (I3.hok.fresh (Nat.le_refl _)) nz (fun y=>by rw[py.mem_iff];exact my y) srt⟩;exact(show zc0 X.prog X.w _ h2 _ (.lst (zs.map V.str)) from⟨by rw[List.length_map];exact Nat.le_trans zl (by decide),out.toList,c,zxn so,by simpa[seqObj] using gl⟩)
end
end L2
namespace MF
open PySem L2 PyProof.Rows
def dedS:List Str->List Str
 |[]=>[]
 |x::xs=>if x∈xs then dedS xs else x::dedS xs
theorem zle(y:Str):∀(l:List Str),y∈dedS l↔y∈l
 |[]=>Iff.rfl
 | x :: xs=>by
   unfold dedS;have ih:=zle y xs
   split
   ·rename_i h
    rw[ih];constructor
    ·exact fun q=>.tail _ q
    ·intro q
     rcases List.mem_cons.mp q with rfl | q
     ·exact h
     ·exact q
   ·rw[List.mem_cons,List.mem_cons,ih]
theorem zlf:∀(l:List Str),(dedS l).Nodup
 |[]=>.nil
 | x::xs=>by
   unfold dedS;have ih:=zlf xs
   split
   ·exact ih
   ·rename_i h
    exact List.nodup_cons.mpr ⟨fun q=>h ((zle x xs).mp q),ih⟩
theorem zrg:∀{l m:List Str},l.Nodup->m.Nodup->(∀y,y∈l↔y∈m)->l.Perm m
 | [],m,_,_,h=>by
   cases m with
   |nil=>exact .refl _
   |cons x m=>exact absurd ((h x).mpr (.head _)) List.not_mem_nil
 | x::l,m,h1,h2,h=>by
   obtain⟨hx,h1⟩:=List.nodup_cons.mp h1;have hm:x∈m:=(h x).mp (.head _);have pm:=List.perm_cons_erase hm;refine .trans (.cons x (zrg h1 (h2.erase x) fun y=>?_)) pm.symm;rw[h2.mem_erase_iff,<- h y,List.mem_cons];constructor
   ·exact fun q=>⟨fun e=>hx (e▸q),.inr q⟩
   ·exact fun⟨q1,q2⟩=>q2.resolve_left q1
def zi1(t:T):M T:=fun S=>match (zal S t).bind zee with
 |some ys=>if ys.length<64 then .ok (.lst ((zjk (dedS ys)).map T.str)) S else .bad
 |none=>.bad
section
variable {X:Cx}{E:XK}{e:Expr}{fa:DE}{p q pos pos2:Pos}
theorem zxo(hc:X.calm=true)(g1:Gl X "sorted")(m1:X.mg "sorted" = none)(g2:Gl X "set")(m2:X.mg "set" = none)(ha:PE X e (RE E fa))
  (hs1:starEach [.Call (.Name "set" q) [e] [] pos2] X.env=(false,eval (.Call (.Name "set" q) [e] [] pos2) X.env)::starEach [] X.env:=by rfl) (hp1:(backTo pos (starEach [] X.env)).any (·.1)=false:=by rfl)
  (hs2:starEach [e] X.env=(false,eval e X.env)::starEach [] X.env:=by rfl) (hp2:(backTo pos2 (starEach [] X.env)).any (·.1)=false:=by rfl) :
  PE X (.Call (.Name "sorted" p) [.Call (.Name "set" q) [e] [] pos2] [] pos) (RE E (e1 zi1 fa)):=
 zb1 (zue hc g1 m1 g2 m2 ha hs1 hp1 hs2 hp2) fun σ H Q h=>by
  obtain⟨W,S,ρ,rp,env,p⟩:=h;refine⟨W,S,ρ,rp,env,(Post.bind p).imp fun t W1 S1 H1 l1 r1 p1 v dv=>?_⟩;unfold zi1 at p1;cases e:(zal S1 t).bind zee with
  |none=>rw[e] at p1;exact p1.elim
  | some ys=>
    rw[e] at p1;obtain⟨ts,e1,e2⟩:=Option.bind_eq_some_iff.mp e;obtain⟨a,vs,rfl,h1,h2⟩:=r1.list dv e1;rw[ziz h2 e2] at h1;have p1:Post E W1 (QV Q) (if ys.length<64 then .ok (.lst ((zjk (dedS ys)).map T.str)) S1 else .bad):=p1
    split at p1
    ·rename_i hl
     refine⟨a,ys,rfl,.inl h1,hl,fun l zs hn nz mz srt=>?_⟩;rw[zz4 (zrg nz (zlf ys) fun y=>by rw[mz y,zle]) srt] at p1;exact zo8 p1 r1 (zlb zs) l hn
    ·exact p1.elim
end
end MF
namespace L2
open PySem PySem.Spec PyProof.Rows
def tLS(K:PySem.W.Frag)(te:TE):TE:=fun σ H Q=>te σ H fun x H1=>∃(a:Addr) (xs:List Str),x=.ref a/\SqL K H1 a (xs.map V.str)/\xs.length<64/\∀(ys:List Str),ys.Nodup->(∀y,y∈ys↔y∈xs)->Q (.int ys.length) H1
section
variable {X:Cx}{e:Expr}{te:TE}{p q pos pos2:Pos}
theorem zxp(hc:X.calm=true)(g1:Gl X "len")(m1:X.mg "len" = none)(g2:Gl X "set")(m2:X.mg "set" = none)(he:PE X e te)
  (hs1:starEach [.Call (.Name "set" q) [e] [] pos2] X.env=(false,eval (.Call (.Name "set" q) [e] [] pos2) X.env)::starEach [] X.env:=by rfl) (hp1:(backTo pos (starEach [] X.env)).any (·.1)=false:=by rfl)
  (hs2:starEach [e] X.env=(false,eval e X.env)::starEach [] X.env:=by rfl) (hp2:(backTo pos2 (starEach [] X.env)).any (·.1)=false:=by rfl) :
  PE X (.Call (.Name "len" p) [.Call (.Name "set" q) [e] [] pos2] [] pos) (tLS X.K te):=by
 intro pins s σ H Q I h;refine wpAny_Call_Name_kw (zhe I g1 m1 boot_len ?_);refine PyProof.Rows.callWith_builtin1 ?_ hs1 hp1;rw[hs1];show wpAny _ _ (spliced ((false,eval (.Call (.Name "set" q) [e] [] pos2) X.env)::backTo pos (starEach [] X.env))) _ _ s;refine Calls.spliced_cons ?_;refine wpAny_Call_Name_kw (zhe I g2 m2 zsy ?_);refine PyProof.Rows.callWith_type1 ?_ hs2 hp2;refine thn ((zdr he zhg hs2) pos2 pins s σ H (fun vs H1=>match vs with
  |[x]=>∃(a:Addr) (xs:List Str),x=.ref a/\SqL X.K H1 a (xs.map V.str)/\xs.length<64/\∀(ys:List Str),ys.Nodup->(∀y,y∈ys↔y∈xs)->Q (.int ys.length) H1
  |_=>False) I h) fun us s1 ⟨vs,H1,I1,r1,q0⟩=>?_
 match vs,r1,q0 with
 | [x],r1,⟨a,xs,e2,sq,lx,q1⟩=>
   subst e2;obtain⟨u,rfl,rx⟩:=zm9 r1;cases rx;obtain⟨its,rv,pl,hz⟩:=I1.list sq;have sx:=zrf rv;have il:its.length=xs.length:=zfw sx;refine zpo (I.ok.hd hc) pl.isList sx (by omega) fun h' tk ys sy my ly kp=>?_;have I2:Inv X pins σ H1 { s1 with heap:=h',toks:=tk }:=I1.kept (t':=tk) kp;refine Calls.spliced_nil ?_;obtain⟨o,es,ep,t,ho,hex,hd,hel,hst,nd,hf,_⟩:=sy;have sl:=zfw hst;rw[List.length_map,Array.length_toList] at sl;refine call_len_set (s:={ s1 with heap:=h',toks:=tk }) ho hex hd hf (by omega) ⟨.int ys.length,H1,I2.tok _,⟨tk+1,by rw[sl]⟩,q1 ys nd my⟩
end
end L2
namespace MF
open PySem L2 PyProof.Rows
def zjl(t:T):M T:=fun S=>match (zal S t).bind zee with
 |some ys=>if ys.length<64 then .ok (.int (dedS ys).length) S else .bad
 |none=>.bad
section
variable {X:Cx}{E:XK}{e:Expr}{fa:DE}{p q pos pos2:Pos}
theorem z0a(hc:X.calm=true)(g1:Gl X "len")(m1:X.mg "len" = none)(g2:Gl X "set")(m2:X.mg "set" = none)(ha:PE X e (RE E fa))
  (hs1:starEach [.Call (.Name "set" q) [e] [] pos2] X.env=(false,eval (.Call (.Name "set" q) [e] [] pos2) X.env)::starEach [] X.env:=by rfl) (hp1:(backTo pos (starEach [] X.env)).any (·.1)=false:=by rfl)
  (hs2:starEach [e] X.env=(false,eval e X.env)::starEach [] X.env:=by rfl) (hp2:(backTo pos2 (starEach [] X.env)).any (·.1)=false:=by rfl) :
  PE X (.Call (.Name "len" p) [.Call (.Name "set" q) [e] [] pos2] [] pos) (RE E (e1 zjl fa)):=
 zb1 (zxp hc g1 m1 g2 m2 ha hs1 hp1 hs2 hp2) fun σ H Q h=>by
  obtain⟨W,S,ρ,rp,env,p⟩:=h;refine⟨W,S,ρ,rp,env,(Post.bind p).imp fun t W1 S1 H1 l1 r1 p1 v dv=>?_⟩;unfold zjl at p1;cases e:(zal S1 t).bind zee with
  |none=>rw[e] at p1;exact p1.elim
  | some ys=>
    rw[e] at p1;obtain⟨ts,e1,e2⟩:=Option.bind_eq_some_iff.mp e;obtain⟨a,vs,rfl,h1,h2⟩:=r1.list dv e1;rw[ziz h2 e2] at h1;have p1:Post E W1 (QV Q) (if ys.length<64 then .ok (.int (dedS ys).length) S1 else .bad):=p1
    split at p1
    ·rename_i hl
     refine⟨a,ys,rfl,.inl h1,hl,fun zs nz mz=>?_⟩;rw[(zrg nz (zlf ys) fun y=>by rw[mz y,zle]).length_eq];exact p1 W1 H1 (Wd.le.refl _) r1 _ (zat.mpr rfl)
    ·exact p1.elim
end
end MF
namespace DN
open PySem L2 MF
def e8(c:Cl):List Addr:=[c.nameThere,c.noPlace,c.noPiece,c.tooMany,c.noAnswer,c.ring,c.barred,c.deedFault]
def zga(c:Cl):DS:=(sSeq (sIf (tst (e2 zfe (eVar 1) (e1 (gFld c.hall "pieces") (eVar 0)))) (zhn c.noPiece (zac (jT Str.empty [(eC (.str "no piece ")),(e1 zq6 (eVar 1)),(eC (.str " hangs"))]) aNil)) sNx) (sRet (e2 gDix (e1 (gFld c.hall "pieces") (eVar 0)) (eVar 1))))
def zau(c:Cl):Fn:=runD 2 (zga c)
def zg6(c:Cl):DS:=(sSeq (zii c.place "kind" (eVar 0) (eVar 1)) (zii c.place "rule" (eVar 0) (eVar 2)))
def zcr(c:Cl):Fn:=runD 3 (zg6 c)
def zg7(c:Cl):DS:=(sSeq (zii c.piece "place" (eVar 0) (eVar 1)) (sSeq (zii c.piece "deed" (eVar 0) (eVar 2)) (sSeq (zii c.piece "by" (eVar 0) (eVar 3)) (sSeq (zii c.piece "on" (eVar 0) (eC (.bl true))) (sSeq (zii c.piece "ahead" (eVar 0) (eA lstC aNil)) (sSeq (zii c.piece "behind" (eVar 0) (eA lstC aNil)) (sSeq (zii c.piece "needs" (eVar 0) (eA lstC aNil)) (zii c.piece "bars" (eVar 0) (eA lstC aNil)))))))))
def zb2(c:Cl):Fn:=runD 4 (zg7 c)
def zhp(c:Cl):DS:=(sSeq (zii c.hall "places" (eVar 0) zms) (zii c.hall "pieces" (eVar 0) zms))
def zc1(c:Cl):Fn:=runD 1 (zhp c)
def zgb(c:Cl):DS:=(sSeq (sIf (tst (e2 gDin (eVar 1) (e1 (gFld c.hall "places") (eVar 0)))) (zhn c.nameThere (zac (jT Str.empty [(eC (.str "there is a place ")),(e1 zq6 (eVar 1)),(eC (.str " already"))]) aNil)) sNx) (sSeq (sIf (tst (e2 (gI fGe) (e1 zpc (e1 (gFld c.hall "places") (eVar 0))) (eC (.int 8)))) (zhn c.tooMany (zac (eC (.str "the hall has no room for another place")) aNil)) sNx) (znp (e1 (gFld c.hall "places") (eVar 0)) (eVar 1) (zq5 c.place (lenF 3 (zcr c)) [] (zac (eVar 2) (zac (eVar 3) aNil))))))
def zbv(c:Cl):Fn:=runD 4 (zgb c)
def zgc(c:Cl):DS:=(sSeq (sIf (tst (e2 zfe (eVar 1) (e1 (gFld c.hall "places") (eVar 0)))) (zhn c.noPlace (zac (jT Str.empty [(eC (.str "there is no place ")),(e1 zq6 (eVar 1))]) aNil)) sNx) (sRet (e2 gDix (e1 (gFld c.hall "places") (eVar 0)) (eVar 1))))
def zbi(c:Cl):Fn:=runD 2 (zgc c)
def zlg(c:Cl):DS:=(sSeq (sIf (tst (e2 gDin (eVar 1) (e1 (gFld c.hall "pieces") (eVar 0)))) (zhn c.nameThere (zac (jT Str.empty [(eC (.str "a piece ")),(e1 zq6 (eVar 1)),(eC (.str " hangs already"))]) aNil)) sNx) (sSeq (zez (zh9 c.hall "find_place" (lenF 2 (zbi c)) [] (eVar 0) (zac (eVar 2) aNil))) (sSeq (sIf (tst (e2 zhj (eVar 4) (eC .non))) (zez (zh9 c.hall "find_piece" (lenF 2 (zau c)) [] (eVar 0) (zac (eVar 4) aNil))) sNx) (sSeq (sIf (tst (e2 (gI fGe) (e1 zpc (e1 (gFld c.hall "pieces") (eVar 0))) (eC (.int 24)))) (zhn c.tooMany (zac (eC (.str "the hall has no room for another piece")) aNil)) sNx) (znp (e1 (gFld c.hall "pieces") (eVar 0)) (eVar 1) (zq5 c.piece (lenF 4 (zb2 c)) [] (zac (eVar 2) (zac (eVar 3) (zac (eVar 4) aNil)))))))))
def zfj(c:Cl):Fn:=runD 5 (zlg c)
def znz(c:Cl):DS:=(sRet (eIf (tst (e2 gIs (eVar 0) (eC .non))) (eA lstF aNil) (e1 zpd (eVar 0))))
def zcy(c:Cl):Fn:=runD 1 (znz c)
def zlh(c:Cl):DS:=(sSeq (sSet 6 (zh9 c.hall "find_piece" (lenF 2 (zau c)) [] (eVar 0) (zac (eVar 1) aNil))) (sSeq (zez (eMt okL gExt (e1 (gFld c.piece "ahead") (eVar 6)) (zac (zbd (lenF 1 (zcy c)) [] (zac (eVar 2) aNil)) aNil))) (sSeq (zez (eMt okL gExt (e1 (gFld c.piece "behind") (eVar 6)) (zac (zbd (lenF 1 (zcy c)) [] (zac (eVar 3) aNil)) aNil))) (sSeq (zez (eMt okL gExt (e1 (gFld c.piece "needs") (eVar 6)) (zac (zbd (lenF 1 (zcy c)) [] (zac (eVar 4) aNil)) aNil))) (zez (eMt okL gExt (e1 (gFld c.piece "bars") (eVar 6)) (zac (zbd (lenF 1 (zcy c)) [] (zac (eVar 5) aNil)) aNil)))))))
def zfk(c:Cl):Fn:=runD 7 (zlh c)
def zi2(c:Cl):DS:=(sSeq (sSet 3 (zh9 c.hall "find_piece" (lenF 2 (zau c)) [] (eVar 0) (zac (eVar 1) aNil))) (zii c.piece "on" (eVar 3) (eVar 2)))
def zd2(c:Cl):Fn:=runD 4 (zi2 c)
def zgn(c:Cl):DS:=(sSeq (sIf (tst (e2 (gI fLt) (eVar 1) (e1 gLen (eVar 0)))) (sRet (e2 gIx (eVar 0) (eVar 1))) sNx) (sRet (eC (.int 0))))
def za0(c:Cl):Fn:=runD 2 (zgn c)
def zhq(c:Cl):DE:=(e2 gIx (eVar 1) (e2 (gI fMod) (e2 gAdd (eVar 2) (e2 (gI fMul) (eC (.int 5)) (eVar 0))) (eC (.int 26))))
def zhr(c:Cl):DI:=(iR1 (zac (e2 gAdd (eC (.int 2)) (e2 (gI fMod) (eVar 0) (eC (.int 11)))) aNil))
def zjm(c:Cl):DS:=(sSeq (sSet 1 (eC (.str "abcdefghijklmnopqrstuvwxyz"))) (sSeq (sIf (tst (e2 gEq (e2 (gI fMod) (eVar 0) (eC (.int 3))) (eC (.int 1)))) (sRet (e2 gIx (eVar 1) (e2 (gI fMod) (eVar 0) (eC (.int 26))))) sNx) (sRet (eMt okS zt6 (eC (.str "")) (zac (zef 1 [1,0] (zhr c) (zaw 0) yesD (zhq c) finF) aNil)))))
def zcs(c:Cl):Fn:=runD 2 (zjm c)
def zmx(c:Cl):DS:=(sSeq (sSet 1 (e2 (gI fSub) (e2 (gI fMod) (e2 (gI fDiv) (eVar 0) (eC (.int 8))) (eC (.int 2001))) (eC (.int 1000)))) (sSeq (sIf (tst (e2 gEq (e2 (gI fMod) (e2 (gI fDiv) (eVar 0) (eC (.int 8))) (eC (.int 9))) (eC (.int 4)))) (sSet 1 (e2 (gI fSub) (e2 (gI fMod) (eVar 0) (e2 (gI fPow) (eC (.int 10)) (eC (.int 25)))) (e2 (gI fPow) (eC (.int 10)) (eC (.int 24))))) sNx) (sSeq (sIf (tst (e2 gEq (e2 (gI fMod) (eVar 0) (eC (.int 8))) (eC (.int 3)))) (sRet (eA tupF (zac (eC (.str "say")) (zac (eVar 1) aNil)))) sNx) (sSeq (sIf (tst (e2 gEq (e2 (gI fMod) (eVar 0) (eC (.int 8))) (eC (.int 4)))) (sRet (eA tupF (zac (eC (.str "none")) aNil))) sNx) (sSeq (sIf (tst (e2 gEq (e2 (gI fMod) (eVar 0) (eC (.int 8))) (eC (.int 5)))) (sRet (eA tupF (zac (eC (.str "fail")) (zac (eVar 1) aNil)))) sNx) (sRet (eA tupF (zac (eC (.str "add")) (zac (eVar 1) aNil)))))))))
def zgd(c:Cl):Fn:=runD 2 (zmx c)
def zh5(c:Cl):DS:=(sSeq (sIf (tst (e2 (gI fGt) (e2 (gI fMod) (eVar 0) (eC (.int 4))) (eC (.int 1)))) (sRet (eA lstF aNil)) sNx) (sSeq (sIf (tst (e2 gEq (e2 (gI fMod) (eVar 0) (eC (.int 4))) (eC (.int 1)))) (sRet (eA lstF (zac (zbd (lenF 1 (zcs c)) [] (zac (e2 (gI fMod) (e2 (gI fDiv) (eVar 0) (eC (.int 4))) (eVar 1)) aNil)) (zac (zbd (lenF 1 (zcs c)) [] (zac (e2 (gI fMod) (e2 (gI fDiv) (eVar 0) (eC (.int 64))) (eVar 1)) aNil)) aNil)))) sNx) (sRet (eA lstF (zac (zbd (lenF 1 (zcs c)) [] (zac (e2 (gI fMod) (e2 (gI fDiv) (eVar 0) (eC (.int 4))) (eVar 1)) aNil)) aNil)))))
def zct(c:Cl):Fn:=runD 2 (zh5 c)
def zf3(c:Cl):DS:=(sSeq (sSet 5 (zbd (lenF 2 (za0 c)) [] (zac (eVar 0) (zac (e2 gAdd (eVar 1) (e2 (gI fMul) (eC (.int 3)) (eVar 4))) aNil)))) (sSeq (sSet 6 (zbd (lenF 2 (za0 c)) [] (zac (eVar 0) (zac (e2 gAdd (e2 gAdd (eVar 1) (e2 (gI fMul) (eC (.int 3)) (eVar 4))) (eC (.int 1))) aNil)))) (sSeq (sSet 7 (zbd (lenF 2 (za0 c)) [] (zac (eVar 0) (zac (e2 gAdd (e2 gAdd (eVar 1) (e2 (gI fMul) (eC (.int 3)) (eVar 4))) (eC (.int 2))) aNil)))) (sSeq (sSet 8 (e2 gIx (eA lstF (zac (eC (.str "hub")) (zac (eC (.str "hub")) (zac (eC (.str "hub")) (zac (eC (.str "side")) aNil))))) (e2 (gI fMod) (e2 (gI fDiv) (eVar 5) (eC (.int 4096))) (eC (.int 4))))) (sSeq (sSet 9 (eA lstF (zac (zbd (lenF 2 (zct c)) [] (zac (eVar 6) (zac (e2 gAdd (eVar 2) (eC (.int 1))) aNil))) (zac (zbd (lenF 2 (zct c)) [] (zac (e2 (gI fDiv) (eVar 6) (eC (.int 7))) (zac (e2 gAdd (eVar 2) (eC (.int 1))) aNil))) aNil)))) (sSeq (sSet 9 (e2 gAdd (eVar 9) (eA lstF (zac (zbd (lenF 2 (zct c)) [] (zac (eVar 7) (zac (e2 gAdd (eVar 2) (eC (.int 1))) aNil))) (zac (zbd (lenF 2 (zct c)) [] (zac (e2 (gI fDiv) (eVar 7) (eC (.int 7))) (zac (e2 gAdd (eVar 2) (eC (.int 1))) aNil))) aNil))))) (zez (eMt okL gApp (eVar 3) (zac (eA tupF (zac (zbd (lenF 1 (zcs c)) [] (zac (eVar 4) aNil)) (zac (eVar 8) (zac (zbd (lenF 1 (zgd c)) [] (zac (eVar 5) aNil)) (zac (eVar 9) (zac (e2 gNe (e2 (gI fMod) (e2 (gI fDiv) (eVar 5) (eC (.int 64))) (eC (.int 6))) (eC (.int 1))) aNil)))))) aNil)))))))))
def zhs(c:Cl):DS:=(sSeq (sSet 3 (eA lstC aNil)) (sSeq (sFor (iR1 (zac (eVar 2) aNil)) (zaw 4) (zf3 c)) (sRet (eVar 3))))
def zfx(c:Cl):Fn:=frzF (runD 10 (zhs c))
def zht(c:Cl):DS:=(zez (zh9 c.hall "hang" (lenF 5 (zfj c)) [.non] (eVar 3) (zac (e2 gIx (eVar 4) (eC (.int 0))) (zac (e2 gIx (eVar 4) (eC (.int 1))) (zac (e2 gIx (eVar 4) (eC (.int 2))) aNil)))))
def zfy(c:Cl):DS:=(sSeq (zez (zh9 c.hall "wish" (lenF 6 (zfk c)) [] (eVar 3) (zac (e2 gIx (eVar 4) (eC (.int 0))) (zac (e2 gIx (e2 gIx (eVar 4) (eC (.int 3))) (eC (.int 0))) (zac (e1 zsi (e2 gIx (e2 gIx (eVar 4) (eC (.int 3))) (eC (.int 1)))) (zac (e2 gIx (e2 gIx (eVar 4) (eC (.int 3))) (eC (.int 2))) (zac (e2 gIx (e2 gIx (eVar 4) (eC (.int 3))) (eC (.int 3))) aNil))))))) (sIf (zo9 (tru (e2 gIx (eVar 4) (eC (.int 4))))) (zez (zh9 c.hall "switch" (lenF 3 (zd2 c)) [] (eVar 3) (zac (e2 gIx (eVar 4) (eC (.int 0))) (zac (eC (.bl false)) aNil)))) sNx))
def zmy(c:Cl):DS:=(sSeq (sSet 3 (zq5 c.hall (lenF 1 (zc1 c)) [] aNil)) (sSeq (zez (zh9 c.hall "open_place" (lenF 4 (zbv c)) [] (eVar 3) (zac (eC (.str "hub")) (zac (eVar 1) (zac (eVar 2) aNil))))) (sSeq (zez (zh9 c.hall "open_place" (lenF 4 (zbv c)) [] (eVar 3) (zac (eC (.str "side")) (zac (eC (.str "all")) (zac (eC (.str "hold")) aNil))))) (sSeq (sFor (iL (eVar 0)) (zaw 4) (zht c)) (sSeq (sFor (iL (eVar 0)) (zaw 4) (zfy c)) (sRet (eVar 3)))))))
def ze4(c:Cl):Fn:=runD 5 (zmy c)
def zcu(c:Cl):DS:=(znp (eVar 2) (eVar 3) zms)
def zb8(c:Cl):DS:=(sIf (tst (e2 gDin (eVar 5) (eVar 2))) (znp (e2 gDix (eVar 2) (eVar 3)) (eVar 5) (eC (.bl true))) sNx)
def zb9(c:Cl):DS:=(sIf (tst (e2 gDin (eVar 5) (eVar 2))) (znp (e2 gDix (eVar 2) (eVar 5)) (eVar 3) (eC (.bl true))) sNx)
def zcv(c:Cl):DS:=(sSeq (sSet 4 (zh9 c.hall "find_piece" (lenF 2 (zau c)) [] (eVar 0) (zac (eVar 3) aNil))) (sSeq (sFor (iL (e1 (gFld c.piece "ahead") (eVar 4))) (zaw 5) (zb8 c)) (sFor (iL (e1 (gFld c.piece "behind") (eVar 4))) (zaw 5) (zb9 c))))
def zhu(c:Cl):DS:=(sSeq (sSet 2 zms) (sSeq (sFor (iL (eVar 1)) (zaw 3) (zcu c)) (sSeq (sFor (iL (eVar 1)) (zaw 3) (zcv c)) (sRet (eVar 2)))))
def zev(c:Cl):Fn:=frzF (runD 6 (zhu c))
def zc9(c:Cl):DE:=(e2 gDin (eVar 1) (e2 gDix (eVar 2) (eVar 0)))
def zda(c:Cl):DI:=(iL (eVar 1))
def zbw(c:Cl):DS:=(sIf (zo9 (tru (e1 gAny (zef 1 [2,0] (zda c) (zaw 0) yesD (zc9 c) finF)))) (sRet (eVar 2)) sNx)
def zfl(c:Cl):DS:=(sSeq (sFor (iL (eVar 1)) (zaw 2) (zbw c)) (sRet (eC .non)))
def zcc(c:Cl):Fn:=runD 3 (zfl c)
def zap(c:Cl):DS:=(sSeq (sIf (tst (e2 gEq (eVar 6) (eVar 1))) (sRet (eVar 5)) sNx) (sIf (tst (e2 zfe (eVar 6) (eVar 3))) (sSeq (znp (eVar 3) (eVar 6) (eC (.bl true))) (zez (eMt okL gApp (eVar 4) (zac (e2 gAdd (eVar 5) (eA lstF (zac (eVar 6) aNil))) aNil)))) sNx))
def zar(c:Cl):DS:=(sFor (iK (e2 gDix (eVar 0) (e2 gIx (eVar 5) (e1 gNeg (eC (.int 1)))))) (zaw 6) (zap c))
def zas(c:Cl):DS:=(sSeq (sSet 4 (eA lstC aNil)) (sSeq (sFor (iL (eVar 2)) (zaw 5) (zar c)) (sSet 2 (eVar 4))))
def zay(c:Cl):DT:=(tru (eVar 2))
def zem(c:Cl):DS:=(sSeq (sSet 2 (eA lstF (zac (eA lstF (zac (eVar 1) aNil)) aNil))) (sSeq (sSet 3 (zsv (eVar 1) (eC (.bl true)))) (sSeq (zi0 (zay c) (zas c)) (sRet (eA lstF aNil)))))
def zen(c:Cl):Fn:=frzF (runD 7 (zem c))
def zdb(c:Cl):DE:=(zbd (lenF 2 (zen c)) [] (zac (eVar 1) (zac (eVar 0) aNil)))
def zcd(c:Cl):DI:=(iK (eVar 0))
def zeg(c:Cl):DE:=(eVar 0)
def zeh(c:Cl):DI:=(iL (eVar 1))
def zei(c:Cl):DT:=(tru (eVar 0))
def zhv(c:Cl):DS:=(sSeq (sSet 1 (zef 1 [0] (zcd c) (zaw 0) yesD (zdb c) finF)) (sRet (e1 gMin (zef 1 [] (zeh c) (zaw 0) (zei c) (zeg c) finF))))
def zc2(c:Cl):Fn:=runD 2 (zhv c)
def zav(c:Cl):DS:=(sSeq (sSet 5 (zbd (lenF 2 (zcc c)) [] (zac (eVar 2) (zac (eVar 3) aNil)))) (sSeq (sIf (tst (e2 gIs (eVar 5) (eC .non))) (znw c.ring "ring" (zac (zbd (lenF 1 (zc2 c)) [] (zac (eVar 2) aNil)) aNil)) sNx) (sSeq (zez (eMt okL zij (eVar 3) (zac (eVar 5) aNil))) (zez (eMt okL gApp (eVar 4) (zac (eVar 5) aNil))))))
def zaz(c:Cl):DT:=(tru (eVar 3))
def zgo(c:Cl):DS:=(sSeq (sSet 2 (zbd (lenF 2 (zev c)) [] (zac (eVar 0) (zac (eVar 1) aNil)))) (sSeq (sSet 3 (e1 zjz (eVar 1))) (sSeq (sSet 4 (eA lstC aNil)) (sSeq (zi0 (zaz c) (zav c)) (sRet (eVar 4))))))
def zco(c:Cl):Fn:=runD 6 (zgo c)
def zej(c:Cl):DE:=(eVar 0)
def zgp(c:Cl):DE:=(e1 (gFld c.hall "pieces") (eVar 0))
def zc3(c:Cl):DT:=(znk (tst (e2 gEq (e1 (gFld c.piece "place") (eVar 1)) (eVar 2))) (tru (e1 (gFld c.piece "on") (eVar 1))))
def zpq(c:Cl):DS:=(sSeq (zez (zh9 c.hall "find_place" (lenF 2 (zbi c)) [] (eVar 0) (zac (eVar 1) aNil))) (sRet (zph zf9 2 [1] (zgp c) (zt8 0 1) (zc3 c) (zej c) finF)))
def zge(c:Cl):Fn:=runD 2 (zpq c)
def zrh(c:Cl):DS:=(sRet (zbd (lenF 2 (zco c)) [] (zac (eVar 0) (zac (zh9 c.hall "at" (lenF 2 (zge c)) [] (eVar 0) (zac (eVar 1) aNil)) aNil))))
def zey(c:Cl):Fn:=runD 2 (zrh c)
def zeo(c:Cl):DE:=(e2 gIx (eVar 0) (eC (.int 0)))
def zep(c:Cl):DI:=(iL (eVar 0))
def zdo(c:Cl):DT:=(znk (tst (e2 gEq (e2 gIx (eVar 0) (eC (.int 1))) (eC (.str "hub")))) (tru (e2 gIx (eVar 0) (eC (.int 4)))))
def zj2(c:Cl):DS:=(sRet (zef 1 [] (zep c) (zaw 0) (zdo c) (zeo c) finF))
def zdv(c:Cl):Fn:=runD 1 (zj2 c)
def zgq(c:Cl):DE:=(eA tupF (zac (e2 gIx (eVar 1) (eC (.int 0))) (zac (eVar 0) aNil)))
def zgr(c:Cl):DI:=(iL (e2 gIx (e2 gIx (eVar 3) (eC (.int 3))) (eC (.int 0))))
def zgs(c:Cl):DT:=(tst (e2 gIn (eVar 0) (eVar 2)))
def zgt(c:Cl):DE:=(eA tupF (zac (eVar 0) (zac (e2 gIx (eVar 1) (eC (.int 0))) aNil)))
def zgu(c:Cl):DI:=(iL (e2 gIx (e2 gIx (eVar 3) (eC (.int 3))) (eC (.int 1))))
def zgv(c:Cl):DT:=(tst (e2 gIn (eVar 0) (eVar 2)))
def ze0(c:Cl):DS:=(sIf (tst (e2 gIn (e2 gIx (eVar 3) (eC (.int 0))) (eVar 1))) (sSeq (zez (eMt okL gExt (eVar 2) (zac (zef 1 [3,1] (zgr c) (zaw 0) (zgs c) (zgq c) finF) aNil))) (zez (eMt okL gExt (eVar 2) (zac (zef 1 [3,1] (zgu c) (zaw 0) (zgv c) (zgt c) finF) aNil)))) sNx)
def zik(c:Cl):DS:=(sSeq (sSet 2 (eA lstC aNil)) (sSeq (sFor (iL (eVar 0)) (zaw 3) (ze0 c)) (sRet (eVar 2))))
def zfm(c:Cl):Fn:=frzF (runD 4 (zik c))
def zc4(c:Cl):DS:=(sIf (znk (tst (e2 gEq (e2 gIx (eVar 3) (eC (.int 1))) (eVar 0))) (tst (e2 gIn (e2 gIx (eVar 3) (eC (.int 0))) (eVar 1)))) (sRet (eC (.bl false))) sNx)
def zjn(c:Cl):DS:=(sSeq (sFor (iL (eVar 2)) (zaw 3) (zc4 c)) (sRet (eC (.bl true))))
def ze5(c:Cl):Fn:=runD 4 (zjn c)
def ze1(c:Cl):DE:=(eVar 0)
def ze2(c:Cl):DI:=(iL (eVar 2))
def ze3(c:Cl):DT:=(tru (zbd (lenF 3 (ze5 c)) [] (zac (eVar 0) (zac (eVar 1) (zac (eVar 2) aNil)))))
def za2(c:Cl):DS:=(sSeq (sSet 4 (zef 1 [2,1] (ze2 c) (zaw 0) (ze3 c) (ze1 c) finF)) (sSeq (sIf (tst (e2 gEq (eVar 4) (eA lstF aNil))) (sRet (eC .non)) sNx) (sSeq (zez (eMt okL gApp (eVar 3) (zac (e2 gIx (eVar 4) (eC (.int 0))) aNil))) (zez (eMt okL zij (eVar 2) (zac (e2 gIx (eVar 4) (eC (.int 0))) aNil))))))
def za7(c:Cl):DT:=(tst (e2 gNe (eVar 2) (eA lstF aNil)))
def zfn(c:Cl):DS:=(sSeq (sSet 2 (e1 zjz (eVar 0))) (sSeq (sSet 3 (eA lstC aNil)) (sSeq (zi0 (za7 c) (za2 c)) (sRet (eVar 3)))))
def zc5(c:Cl):Fn:=frzF (runD 5 (zfn c))
def zd3(c:Cl):DE:=(e2 gIx (eVar 0) (eC (.int 1)))
def zd4(c:Cl):DI:=(iL (eVar 0))
def zd5(c:Cl):DT:=(tst (e2 gIn (e2 gIx (eVar 0) (eC (.int 0))) (eVar 1)))
def zd6(c:Cl):DS:=(sSet 3 (e1 zi1 (zef 1 [3] (zd4 c) (zaw 0) (zd5 c) (zd3 c) finF)))
def zi3(c:Cl):DS:=(sSeq (sSet 3 (e1 zpd (eVar 1))) (sSeq (sFor (iR1 (zac (eVar 2) aNil)) (zaw 4) (zd6 c)) (sRet (eVar 3))))
def zd7(c:Cl):Fn:=runD 5 (zi3 c)
def zdp(c:Cl):DS:=(sIf (tst (e2 gIn (eVar 3) (zbd (lenF 3 (zd7 c)) [] (zac (eVar 1) (zac (eA lstF (zac (eVar 3) aNil)) (zac (eVar 2) aNil)))))) (sRet (eVar 2)) sNx)
def zeq(c:Cl):DS:=(sFor (iL (eVar 0)) (zaw 3) (zdp c))
def zj3(c:Cl):DS:=(sSeq (sFor (iR2 (zac (eC (.int 1)) (zac (e2 gAdd (e1 gLen (eVar 0)) (eC (.int 1))) aNil))) (zaw 2) (zeq c)) (sRet (eC (.int 0))))
def zdw(c:Cl):Fn:=runD 4 (zj3 c)
def zcz(c:Cl):DS:=(sIf (tOrD (zo9 (tru (e1 (gIsa .str) (e2 gIx (eVar 0) (eVar 3))))) (tst (e2 ziw (eA tupF (zac (e2 gIx (eVar 0) (eVar 3)) (zac (e2 gIx (eVar 0) (e2 (gI fMod) (e2 gAdd (eVar 3) (eC (.int 1))) (e1 gLen (eVar 0)))) aNil))) (eVar 1)))) (sRet (eC (.bl false))) sNx)
def zg8(c:Cl):DS:=(sSeq (sIf (tOrD (zo9 (tru (e1 (gIsa .list) (eVar 0)))) (tOrD (tst (e2 gNe (e1 gLen (eVar 0)) (eVar 2))) (tst (e2 gNe (e1 zjl (eVar 0)) (e1 gLen (eVar 0)))))) (sRet (eC (.bl false))) sNx) (sSeq (sFor (iR1 (zac (e1 gLen (eVar 0)) aNil)) (zaw 3) (zcz c)) (sRet (eC (.bl true)))))
def zb3(c:Cl):Fn:=runD 4 (zg8 c)
def zd8(c:Cl):DS:=(zez (zbd (lenF 2 (zey c)) [] (zac (eVar 0) (zac (eC (.str "hub")) aNil))))
def zfo(c:Cl):DS:=(sSeq (sSet 1 (eC (.str "odd"))) (sIf (znk (tru (e1 (gIsX (subL [c.ring] c.ring)) (eVar 2))) (znk (tru (e1 (gIsX (subH [c.ring])) (eVar 2))) (zo9 (tru (e1 (gIsX (subL [c.ring] c.barred)) (eVar 2)))))) (sSeq (sSet 1 (eC (.str "ring"))) (sIf (tru (e1 (gIsX (subL [c.ring] c.deedFault)) (eVar 2))) (sSet 1 (eC (.str "odd"))) sNx)) sNx))
def zgw(c:Cl):DS:=(sSeq (sSet 1 (eC .non)) (sSeq (dTry (zd8 c) [] (hdAs (subH [c.ring,c.barred,c.deedFault]) 2 (zfo c) zw3)) (sRet (eVar 1))))
def za8(c:Cl):Fn:=runD 3 (zgw c)
def zfp(c:Cl):DS:=(zez (zbd (lenF 2 (zey c)) [] (zac (eVar 0) (zac (eC (.str "hub")) aNil))))
def zfq(c:Cl):DS:=(sSet 1 (e1 (gXat c.ring "ring") (eVar 2)))
def zi4(c:Cl):DS:=(sSeq (sSet 1 (eC .non)) (sSeq (dTry (zfp c) [] (hdAs (subL [c.ring,c.barred,c.deedFault] c.ring) 2 (zfq c) zw3)) (sRet (eVar 1))))
def zdc(c:Cl):Fn:=runD 3 (zi4 c)
def zgx(c:Cl):DE:=(eA tupF (zac (e2 gIx (eVar 0) (eC (.int 0))) (zac (eC (.str "hub")) (zac (e2 gIx (eVar 0) (eC (.int 2))) (zac (e2 gIx (eVar 0) (eC (.int 3))) (zac (eC (.bl true)) aNil))))))
def zgy(c:Cl):DI:=(iL (eVar 2))
def zc6(c:Cl):DS:=(sSeq (sSet 6 (e2 gIx (e2 gIx (eVar 3) (eVar 5)) (eC (.int 3)))) (sSeq (sSet 7 (e2 gAdd (e2 gIx (eVar 6) (eC (.int 0))) (eA lstF (zac (e2 gIx (e2 gIx (eVar 3) (e2 (gI fMod) (e2 gAdd (eVar 5) (eC (.int 1))) (eVar 4))) (eC (.int 0))) aNil)))) (z26 (eVar 3) (eVar 5) (eA tupF (zac (e2 gIx (e2 gIx (eVar 3) (eVar 5)) (eC (.int 0))) (zac (eC (.str "hub")) (zac (e2 gIx (e2 gIx (eVar 3) (eVar 5)) (eC (.int 2))) (zac (e2 gAdd (eA lstF (zac (eVar 7) aNil)) (eSl (eVar 6) (z3f (eC (.int 1))) z3e)) (zac (eC (.bl true)) aNil)))))))))
def zi5(c:Cl):DS:=(sSeq (sSet 1 (e2 (gI fMod) (zbd (lenF 2 (za0 c)) [] (zac (eVar 0) (zac (eC (.int 0)) aNil))) (eC (.int 13)))) (sSeq (sSet 2 (zbd (lenF 3 (zfx c)) [] (zac (eVar 0) (zac (eC (.int 2)) (zac (eVar 1) aNil))))) (sSeq (sSet 3 (zef 1 [] (zgy c) (zaw 0) yesD (zgx c) finC)) (sSeq (sSet 4 (e2 gAdd (eC (.int 2)) (e2 (gI fMod) (e2 (gI fDiv) (zbd (lenF 2 (za0 c)) [] (zac (eVar 0) (zac (eC (.int 1)) aNil))) (eC (.int 2))) (eC (.int 11))))) (sSeq (sIf (znk (tst (e2 gEq (e2 (gI fMod) (zbd (lenF 2 (za0 c)) [] (zac (eVar 0) (zac (eC (.int 1)) aNil))) (eC (.int 2))) (eC (.int 1)))) (tst (e2 (gI fLe) (eVar 4) (eVar 1)))) (sFor (iR1 (zac (eVar 4) aNil)) (zaw 5) (zc6 c)) sNx) (sSeq (sSet 8 (zbd (lenF 3 (ze4 c)) [] (zac (eVar 3) (zac (eC (.str "chain")) (zac (eC (.str "hand")) aNil))))) (sSeq (sSet 9 (zbd (lenF 1 (zdv c)) [] (zac (eVar 3) aNil))) (sSeq (sSet 10 (zbd (lenF 2 (zfm c)) [] (zac (eVar 3) (zac (eVar 9) aNil)))) (sSeq (sIf (tst (e2 zhj (zbd (lenF 2 (zc5 c)) [] (zac (eVar 9) (zac (eVar 10) aNil))) (eC .non))) (sRet (e2 gIs (zbd (lenF 1 (za8 c)) [] (zac (eVar 8) aNil)) (eC .non))) sNx) (sSeq (sIf (tst (e2 gNe (zbd (lenF 1 (za8 c)) [] (zac (eVar 8) aNil)) (eC (.str "ring")))) (sRet (eC (.bl false))) sNx) (sRet (zbd (lenF 3 (zb3 c)) [] (zac (zbd (lenF 1 (zdc c)) [] (zac (eVar 8) aNil)) (zac (eVar 10) (zac (zbd (lenF 2 (zdw c)) [] (zac (eVar 9) (zac (eVar 10) aNil))) aNil)))))))))))))))
def zpr(c:Cl):Fn:=frzF (runD 11 (zi5 c))
end DN
namespace K04
open PySem L2 MF DN
def top(i:Nat):Stmt:=PySem.Challenge.pw_hookhall_k04_rings_shown.main.body.getD i (.Pass ⟨0,0,0,0⟩)
structure Tx(K:PySem.W.Frag)(mg:Str->Option Value)(c:Cl):Prop where
 mh:zd1 K c.hallError=some bmVE
 mro:∀C∈[c.ring,c.barred,c.deedFault],C≠c.hallError->zd1 K C=some (.ref c.hallError::bmVE)
 n_ValueError:mg "ValueError" = none
 n_any:mg "any" = none
 c_MOST_PIECES:∃t,mg "MOST_PIECES" = some (.int 24 t)
 c_MOST_PLACES:∃t,mg "MOST_PLACES" = some (.int 8 t)
 cl_hall:Cls K c.hall
 a_hall_pieces:zdn K c.hall "pieces"
 a_hall_places:zdn K c.hall "places"
 cl_piece:Cls K c.piece
 a_piece_ahead:zdn K c.piece "ahead"
 a_piece_bars:zdn K c.piece "bars"
 a_piece_behind:zdn K c.piece "behind"
 a_piece_by:zdn K c.piece "by"
 a_piece_deed:zdn K c.piece "deed"
 a_piece_needs:zdn K c.piece "needs"
 a_piece_on:zdn K c.piece "on"
 a_piece_place:zdn K c.piece "place"
 cl_place:Cls K c.place
 a_place_kind:zdn K c.place "kind"
 a_place_rule:zdn K c.place "rule"
 g_ring:XGet K c.ring
 xa_ring_ring:PySem.W.findIn K (.ref c.ring) "ring" = some none
 b_1:PySem.W.specialIn K (.ref c.hallError) "__getattribute__" = some (some (.builtin "type.__getattribute__"))
 b_2:PySem.W.readsIn K c.hallError (.type "type")=true
 b_3:PySem.W.findCls K (.ref c.hallError) (.type "type") "__init__" = some (.val (.builtin "ValueError.__init__"))
 xc_ring:XCls K c.ring
 nf_ring_ring:PySem.W.findIn K (.ref c.ring) "ring" = some none
 n_isinstance:mg "isinstance" = none
 k_barred:∀C∈[c.ring],XKit K C/\PySem.W.kitOne K (.ref C) (.ref c.barred)=some (decide (C=c.barred))
 k_deedFault:∀C∈[c.ring],XKit K C/\PySem.W.kitOne K (.ref C) (.ref c.deedFault)=some (decide (C=c.deedFault))
 k_ring:∀C∈[c.ring],XKit K C/\PySem.W.kitOne K (.ref C) (.ref c.ring)=some (decide (C=c.ring))
 kv:∀C∈[c.ring],XKit K C/\PySem.W.kitOne K (.ref C) (.type "ValueError")=some true
 n_len:mg "len" = none
 n_list:mg "list" = none
 m_barred:mg "Barred" = some (.ref c.barred)
 m_deedFault:mg "DeedFault" = some (.ref c.deedFault)
 m_hallError:mg "HallError" = some (.ref c.hallError)
 m_nameThere:mg "NameThere" = some (.ref c.nameThere)
 m_noPiece:mg "NoPiece" = some (.ref c.noPiece)
 m_noPlace:mg "NoPlace" = some (.ref c.noPlace)
 m_ring:mg "Ring" = some (.ref c.ring)
 m_tooMany:mg "TooMany" = some (.ref c.tooMany)
 n_min:mg "min" = none
 d_ring:c.ring≠c.hallError
 qd_ring:zd1 K c.ring=some (.ref c.hallError::bmVE)
 n_range:mg "range" = none
 n_set:mg "set" = none
 n_sorted:mg "sorted" = none
 n_str:mg "str" = none
 n_tuple:mg "tuple" = none
 x_nameThere:PySem.W.excIn K c.nameThere bmVE "ValueError.__new__" = true
 x_noPiece:PySem.W.excIn K c.noPiece bmVE "ValueError.__new__" = true
 x_noPlace:PySem.W.excIn K c.noPlace bmVE "ValueError.__new__" = true
 x_tooMany:PySem.W.excIn K c.tooMany bmVE "ValueError.__new__" = true
local macro_rules | `(tactic| walk_at "s") => `(tactic| exact ⟨rfl, rfl, rfl, by decide +kernel, rfl, by decide +kernel, by decide +kernel⟩)
abbrev zdd:Stmt:=top 25
theorem zl6:zax ["script", "k"] ["script", "k"] (zab zdd):=by walk_at "s"
abbrev ze6:Stmt:=top 26
theorem zli:zax ["k", "letters"] ["k"] (zab ze6):=by walk_at "s"
abbrev ze7:Stmt:=top 28
theorem zri:zax ["cell", "many"] ["cell", "many"] (zab ze7):=by walk_at "s"
abbrev ze8:Stmt:=top 27
theorem zil:zax ["cell", "number"] ["cell"] (zab ze8):=by walk_at "s"
abbrev zdx:Stmt:=top 29
theorem zbq:zax ["script", "start", "many", "pieces", "k", "one", "two", "three", "place", "wishes"] ["script", "start", "many"] (zab zdx):=by walk_at "s"
abbrev zce:Stmt:=zfd (top 22) 0
theorem zj8:zax ["self"] ["self"] (zab zce):=by walk_at "s"
abbrev zb4:Stmt:=zfd (top 20) 0
theorem zjo:zax ["self", "kind", "rule"] ["self", "kind", "rule"] (zab zb4):=by walk_at "s"
abbrev zbx:Stmt:=zfd (top 22) 1
theorem zi6:zax ["self", "name", "kind", "rule"] ["self", "name", "kind", "rule"] (zab zbx):=by walk_at "s"
abbrev zby:Stmt:=zfd (top 22) 9
theorem zi7:zax ["self", "name"] ["self", "name"] (zab zby):=by walk_at "s"
abbrev zbz:Stmt:=zfd (top 22) 10
theorem zi8:zax ["self", "name"] ["self", "name"] (zab zbz):=by walk_at "s"
abbrev zb5:Stmt:=zfd (top 21) 0
theorem zjp:zax ["self", "place", "deed", "by"] ["self", "place", "deed", "by"] (zab zb5):=by walk_at "s"
abbrev zbo:Stmt:=zfd (top 22) 2
theorem zps:zax ["self", "name", "place", "deed", "by"] ["self", "name", "place", "deed", "by"] (zab zbo):=by walk_at "s"
abbrev zh6:Stmt:=top 23
theorem zxq:zax ["names"] ["names"] (zab zh6):=by walk_at "s"
abbrev zcp:Stmt:=zfd (top 22) 3
theorem zj4:zax ["self", "name", "ahead", "behind", "needs", "bars", "piece"] ["self", "name", "ahead", "behind", "needs", "bars"] (zab zcp):=by walk_at "s"
abbrev zde:Stmt:=zfd (top 22) 7
theorem zic:zax ["self", "name", "on", "piece"] ["self", "name", "on"] (zab zde):=by walk_at "s"
abbrev ze9:Stmt:=top 30
theorem zgz:zax ["pieces", "kind", "rule", "hall", "piece"] ["pieces", "kind", "rule"] (zab ze9):=by walk_at "s"
abbrev zdy:Stmt:=top 31
theorem zn0:zax ["pieces"] ["pieces"] (zab zdy):=by walk_at "s"
abbrev zek:Stmt:=top 32
theorem zhw:zax ["pieces", "names", "pairs", "piece"] ["pieces", "names"] (zab zek):=by walk_at "s"
abbrev zfa:Stmt:=top 33
theorem zlj:zax ["name", "left", "pairs", "pair"] ["name", "left", "pairs"] (zab zfa):=by walk_at "s"
abbrev zel:Stmt:=top 34
theorem zfz:zax ["names", "pairs", "left", "found", "free"] ["names", "pairs"] (zab zel):=by walk_at "s"
abbrev zdz:Stmt:=top 13
theorem zcq:zax ["hall", "names", "seconds", "name", "piece", "other"] ["hall", "names"] (zab zdz):=by walk_at "s"
abbrev zcf:Stmt:=top 14
theorem zg9:zax ["seconds", "left", "name"] ["seconds", "left"] (zab zcf):=by walk_at "s"
abbrev zcw:Stmt:=top 16
theorem zb0:zax ["seconds", "start", "rows", "reached", "longer", "row", "second"] ["seconds", "start"] (zab zcw):=by walk_at "s"
abbrev zcg:Stmt:=top 15
theorem zha:zax ["seconds", "rings"] ["seconds"] (zab zcg):=by walk_at "s"
abbrev zch:Stmt:=zfd (top 7) 0
theorem zj9:zax ["self", "ring"] ["self", "ring"] (zab zch):=by walk_at "s"
abbrev zdf:Stmt:=top 12
theorem zdq:zax ["hall", "names", "seconds", "left", "row", "name"] ["hall", "names"] (zab zdf):=by walk_at "s"
abbrev zgf:Stmt:=zfd (top 22) 8
theorem zuf:zax ["self", "place"] ["self", "place"] (zab zgf):=by walk_at "s"
abbrev zjq:Stmt:=top 11
theorem z0b:zax ["hall", "place"] ["hall", "place"] (zab zjq):=by walk_at "s"
abbrev zdg:Stmt:=top 38
theorem zcx:zax ["hall", "told", "e"] ["hall"] (zab zdg):=by walk_at "s"
abbrev zb6:Stmt:=top 37
theorem zgg:zax ["ring", "pairs", "fewest", "k"] ["ring", "pairs", "fewest"] (zab zb6):=by walk_at "s"
abbrev zdh:Stmt:=top 35
theorem zer:zax ["pairs", "names", "steps", "found", "k"] ["pairs", "names", "steps"] (zab zdh):=by walk_at "s"
abbrev zd0:Stmt:=top 36
theorem zg0:zax ["names", "pairs", "steps", "name"] ["names", "pairs"] (zab zd0):=by walk_at "s"
abbrev zdi:Stmt:=top 39
theorem zes:zax ["hall", "ring", "e"] ["hall"] (zab zdi):=by walk_at "s"
abbrev zn1:Stmt:=top 40
theorem zhx:zax ["script", "many", "drawn", "pieces", "size", "k", "wishes", "ahead", "hall", "names", "pairs"] ["script"] (zab zn1):=by walk_at "s"
section
variable (P:Program)(w:World){K:PySem.W.Frag}{mg:Str->Option Value}(base:Heap){c:Cl}(T:Tx K mg c){f:Addr}{fd:FuncData}{dV:Value}
include T
set_option autoImplicit true
local macro_rules | `(tactic| walk_at "o") => `(tactic| first | exact Or.inl rfl | exact Or.inr rfl)
local macro_rules | `(tactic| walk_at "c") => `(tactic| exact ⟨rfl, (by first | exact Or.inr (Or.inl rfl) | exact Or.inr (Or.inr rfl)), (by walk_at "o"), (by walk_at "o"), rfl⟩)
theorem zl7(F:FunV K "_law_cell_at" "_law_cell_at" zdd dV f fd)  : FnOk P w K mg base (CXE P w) 1 f fd ["script", "k"] (spM 2 (za0 c)):=
 mfx F zl6 fun _ _ _ _ _ _ hr hu1 hu6=>by exact(zad (s_if (t_lt (ev 1) (zt4 (by rfl) T.n_len (ev 0))) (zaj (zca (e_ix (ev 0) (ev 1)))) zbp) (zaj (zca zah)))
theorem zrj(F:FunV K "_law_name" "_law_name" ze6 dV f fd)  : FnOk P w K mg base (CXE P w) 1 f fd ["k"] (spM 1 (zcs c)):=
 mfx F zli fun _ _ _ _ _ _ hr hu1 hu6=>by exact(zad (zcb (i:=1) zli.nd (by rfl) (by walk_at "o") zbm) (zad (s_if (t_eq hu6 (zfs (ev 0) zah) zah) (zaj (zca (e_ix (ev 1) (zfs (ev 0) zah)))) zbp) (zaj (zca (z6h zbm (zaa (z1h (xs:=["letters", "k"]) (js:=[1,0]) (nts:=["j"]) (by rfl) ⟨rfl,by decide +kernel,rfl,by decide +kernel,(fun p hp=>by rcases List.mem_cons.mp hp with rfl | hp;(· rfl);rcases List.mem_singleton.mp hp with rfl;rfl),rfl,⟨(by walk_at "c"),⟨(by walk_at "c"),trivial⟩⟩⟩ (zhf (by rfl) T.n_range (zaa (zgk zah (zfs (ev 0) zah)) zaf)) zhk (fun _ _ _=>(zba (i:=0) (show(["j", "letters", "k"]:List Str).Nodup by decide +kernel) (by rfl) (by walk_at "o"))) (zbh _) (fun _ _ _=>(e_ix (ev 1) (zfs (zgk (ev 2) (zzn zah (ev 0))) zah))) zl4) zaf))))))
theorem zrk(F:FunV K "_law_some" "_law_some" ze7 dV f fd)(G0:FnAt P w K mg base 1 "_law_name" ["k"] (zcs c) f0 g0):FnOk P w K mg base (CXE P w) 2 f fd ["cell", "many"] (spM 2 (zct c)):=
 mfx F zri fun _ _ _ _ _ _ hr hu1 hu6=>by exact(zad (s_if (t_gt (zfs (ev 0) zah) zah) (zaj (zca (zh8 zaf))) zbp) (zad (s_if (t_eq hu6 (zfs (ev 0) zah) zah) (zaj (zca (zh8 (zaa (zbe G0 hr (by rfl) zam (zaa (zfs (zl0 (ev 0) zah) (ev 1)) zaf)) (zaa (zbe G0 hr (by rfl) zam (zaa (zfs (zl0 (ev 0) zah) (ev 1)) zaf)) zaf))))) zbp) (zaj (zca (zh8 (zaa (zbe G0 hr (by rfl) zam (zaa (zfs (zl0 (ev 0) zah) (ev 1)) zaf)) zaf))))))
theorem zrl(F:FunV K "_law_deed" "_law_deed" ze8 dV f fd)  : FnOk P w K mg base (CXE P w) 1 f fd ["cell"] (spM 1 (zgd c)):=
 mfx F zil fun _ _ _ _ _ _ hr hu1 hu6=>by exact(zad (zcb (i:=1) zil.nd (by rfl) (by walk_at "o") (z50 (zfs (zl0 (ev 0) zah) zah) zah)) (zad (s_if (t_eq hu6 (zfs (zl0 (ev 0) zah) zah) zah) (zaj (zcb (i:=1) zil.nd (by rfl) (by walk_at "o") (z50 (zfs (ev 0) (z51 zah zah)) (z51 zah zah)))) zbp) (zad (s_if (t_eq hu6 (zfs (ev 0) zah) zah) (zaj (zca (zl2 (zaa zbm (zaa (ev 1) zaf))))) zbp) (zad (s_if (t_eq hu6 (zfs (ev 0) zah) zah) (zaj (zca (zl2 (zaa zbm zaf)))) zbp) (zad (s_if (t_eq hu6 (zfs (ev 0) zah) zah) (zaj (zca (zl2 (zaa zbm (zaa (ev 1) zaf))))) zbp) (zaj (zca (zl2 (zaa zbm (zaa (ev 1) zaf))))))))))
theorem zn2(F:FunV K "_law_pieces" "_law_pieces" zdx dV f fd)(G0:FnAt P w K mg base 2 "_law_cell_at" ["script", "k"] (za0 c) f0 g0)(G1:FnAt P w K mg base 2 "_law_some" ["cell", "many"] (zct c) f1 g1)(G2:FnAt P w K mg base 2 "_law_deed" ["cell"] (zgd c) f2 g2)(G3:FnAt P w K mg base 2 "_law_name" ["k"] (zcs c) f3 g3):FnOk P w K mg base (CXE P w) 3 f fd ["script", "start", "many"] (spM 3 (zfx c)):=
 FnOk.frz (mfx F zbq fun _ _ _ _ _ _ hr hu1 hu6=>by exact(zad (zcb (i:=3) zbq.nd (by rfl) (by walk_at "o") (ziy zaf)) (zad (zhl PassesOwn.leaving (by rfl) (zhf (by rfl) T.n_range (zaa (ev 2) zaf)) zhk (zba (i:=4) zbq.nd (by rfl) (by walk_at "o")) (zbh _) (zad (zcb (i:=5) zbq.nd (by rfl) (by walk_at "o") (zbe G0 hr (by rfl) zam (zaa (ev 0) (zaa (zgk (ev 1) (zzn zah (ev 4))) zaf)))) (zad (zcb (i:=6) zbq.nd (by rfl) (by walk_at "o") (zbe G0 hr (by rfl) zam (zaa (ev 0) (zaa (zgk (zgk (ev 1) (zzn zah (ev 4))) zah) zaf)))) (zad (zcb (i:=7) zbq.nd (by rfl) (by walk_at "o") (zbe G0 hr (by rfl) zam (zaa (ev 0) (zaa (zgk (zgk (ev 1) (zzn zah (ev 4))) zah) zaf)))) (zad (zcb (i:=8) zbq.nd (by rfl) (by walk_at "o") (e_ix (zh8 (zaa zbm (zaa zbm (zaa zbm (zaa zbm zaf))))) (zfs (zl0 (ev 5) zah) zah))) (zad (zcb (i:=9) zbq.nd (by rfl) (by walk_at "o") (zh8 (zaa (zbe G1 hr (by rfl) zam (zaa (ev 6) (zaa (zgk (ev 2) zah) zaf))) (zaa (zbe G1 hr (by rfl) zam (zaa (zl0 (ev 6) zah) (zaa (zgk (ev 2) zah) zaf))) zaf)))) (zad (zcb (i:=9) zbq.nd (by rfl) (by walk_at "o") (zgk (ev 9) (zh8 (zaa (zbe G1 hr (by rfl) zam (zaa (ev 7) (zaa (zgk (ev 2) zah) zaf))) (zaa (zbe G1 hr (by rfl) zam (zaa (zl0 (ev 7) zah) (zaa (zgk (ev 2) zah) zaf))) zaf))))) (zaj (zdj (zzr (ev 3) (zaa (zl2 (zaa (zbe G3 hr (by rfl) zam (zaa (ev 4) zaf)) (zaa (ev 8) (zaa (zbe G2 hr (by rfl) zam (zaa (ev 5) zaf)) (zaa (ev 9) (zaa (e_ne hu6 (zfs (zl0 (ev 5) zah) zah) zah) zaf)))))) zaf))))))))))) (zaj (zca (ev 3))))))
theorem zka(F:FunV K "__init__" "Hall.__init__" zce dV f fd)  : FnOk P w K mg base (CXE P w) 1 f fd ["self"] (spM 1 (zc1 c)):=
 mfx F zj8 fun _ _ _ _ _ _ hr hu1 hu6=>by exact(zad (zjg T.cl_hall T.a_hall_places (ev 0) znn) (zaj (zjg T.cl_hall T.a_hall_pieces (ev 0) znn)))
theorem zjr(F:FunV K "__init__" "Place.__init__" zb4 dV f fd)  : FnOk P w K mg base (CXE P w) 1 f fd ["self", "kind", "rule"] (spM 3 (zcr c)):=
 mfx F zjo fun _ _ _ _ _ _ hr hu1 hu6=>by exact(zad (zjg T.cl_place T.a_place_kind (ev 0) (ev 1)) (zaj (zjg T.cl_place T.a_place_rule (ev 0) (ev 2))))
theorem zi9(F:FunV K "open_place" "Hall.open_place" zbx dV f fd)(G0:MkAt P w K mg base 1 "Place" c.place ["self", "kind", "rule"] (zcr c) f0 g0):FnOk P w K mg base (CXE P w) 3 f fd ["self", "name", "kind", "rule"] (spM 4 (zbv c)):=
 mfx F zi6 fun _ _ _ _ _ _ hr hu1 hu6=>by exact(zad (s_if (zzq hu1 (ev 1) (zgl T.cl_hall T.a_hall_places (ev 0))) (zaj (zjh zf7 (by rfl) T.x_nameThere (by rfl) T.m_nameThere (zaa (zkl (.cons zbm (.cons (zsp (ev 1)) (.cons zbm .nil)))) zaf))) zbp) (zad (s_if (t_ge (z1e (by rfl) T.n_len (zgl T.cl_hall T.a_hall_places (ev 0))) (z1k (by rfl) T.c_MOST_PLACES)) (zaj (zjh zf7 (by rfl) T.x_tooMany (by rfl) T.m_tooMany (zaa zbm zaf))) zbp) (zaj (zmt hu1 (zgl T.cl_hall T.a_hall_places (ev 0)) (ev 1) (z1j G0 hr (by rfl) zam (zaa (ev 2) (zaa (ev 3) zaf)))))))
theorem zja(F:FunV K "find_place" "Hall.find_place" zby dV f fd)  : FnOk P w K mg base (CXE P w) 1 f fd ["self", "name"] (spM 2 (zbi c)):=
 mfx F zi7 fun _ _ _ _ _ _ hr hu1 hu6=>by exact(zad (s_if (znm hu1 (ev 1) (zgl T.cl_hall T.a_hall_places (ev 0))) (zaj (zjh zf7 (by rfl) T.x_noPlace (by rfl) T.m_noPlace (zaa (zkl (.cons zbm (.cons (zsp (ev 1)) .nil))) zaf))) zbp) (zaj (zca (zt3 hu1 (zgl T.cl_hall T.a_hall_places (ev 0)) (ev 1)))))
theorem zjb(F:FunV K "find_piece" "Hall.find_piece" zbz dV f fd)  : FnOk P w K mg base (CXE P w) 1 f fd ["self", "name"] (spM 2 (zau c)):=
 mfx F zi8 fun _ _ _ _ _ _ hr hu1 hu6=>by exact(zad (s_if (znm hu1 (ev 1) (zgl T.cl_hall T.a_hall_pieces (ev 0))) (zaj (zjh zf7 (by rfl) T.x_noPiece (by rfl) T.m_noPiece (zaa (zkl (.cons zbm (.cons (zsp (ev 1)) (.cons zbm .nil)))) zaf))) zbp) (zaj (zca (zt3 hu1 (zgl T.cl_hall T.a_hall_pieces (ev 0)) (ev 1)))))
theorem zjs(F:FunV K "__init__" "Piece.__init__" zb5 dV f fd)  : FnOk P w K mg base (CXE P w) 1 f fd ["self", "place", "deed", "by"] (spM 4 (zb2 c)):=
 mfx F zjp fun _ _ _ _ _ _ hr hu1 hu6=>by exact(zad (zjg T.cl_piece T.a_piece_place (ev 0) (ev 1)) (zad (zjg T.cl_piece T.a_piece_deed (ev 0) (ev 2)) (zad (zjg T.cl_piece T.a_piece_by (ev 0) (ev 3)) (zad (zjg T.cl_piece T.a_piece_on (ev 0) ziu) (zad (zjg T.cl_piece T.a_piece_ahead (ev 0) (ziy zaf)) (zad (zjg T.cl_piece T.a_piece_behind (ev 0) (ziy zaf)) (zad (zjg T.cl_piece T.a_piece_needs (ev 0) (ziy zaf)) (zaj (zjg T.cl_piece T.a_piece_bars (ev 0) (ziy zaf))))))))))
theorem zpt(F:FunV K "hang" "Hall.hang" zbo dV f fd)(G0:MeAt P w K mg base 2 c.hall "find_place" ["self", "name"] (zbi c) f0 g0)(G1:MeAt P w K mg base 2 c.hall "find_piece" ["self", "name"] (zau c) f1 g1)(G2:MkAt P w K mg base 1 "Piece" c.piece ["self", "place", "deed", "by"] (zb2 c) f2 g2):FnOk P w K mg base (CXE P w) 3 f fd ["self", "name", "place", "deed", "by"] (spM 5 (zfj c)):=
 mfx F zps fun _ _ _ _ _ _ hr hu1 hu6=>by exact(zad (s_if (zzq hu1 (ev 1) (zgl T.cl_hall T.a_hall_pieces (ev 0))) (zaj (zjh zf7 (by rfl) T.x_nameThere (by rfl) T.m_nameThere (zaa (zkl (.cons zbm (.cons (zsp (ev 1)) (.cons zbm .nil)))) zaf))) zbp) (zad (zdj (zhm G0 hr zam (ev 0) (zaa (ev 2) zaf))) (zad (s_if (zv8 (ev 4) ziv) (zaj (zdj (zhm G1 hr zam (ev 0) (zaa (ev 4) zaf)))) zbp) (zad (s_if (t_ge (z1e (by rfl) T.n_len (zgl T.cl_hall T.a_hall_pieces (ev 0))) (z1k (by rfl) T.c_MOST_PIECES)) (zaj (zjh zf7 (by rfl) T.x_tooMany (by rfl) T.m_tooMany (zaa zbm zaf))) zbp) (zaj (zmt hu1 (zgl T.cl_hall T.a_hall_pieces (ev 0)) (ev 1) (z1j G2 hr (by rfl) zam (zaa (ev 2) (zaa (ev 3) (zaa (ev 4) zaf))))))))))
theorem zxr(F:FunV K "wished" "wished" zh6 dV f fd)  : FnOk P w K mg base (CXE P w) 1 f fd ["names"] (spM 1 (zcy c)):=
 mfx F zxq fun _ _ _ _ _ _ hr hu1 hu6=>by exact(zaj (zca (z24 (t_is (ev 0) ziv) (zh8 zaf) (z1g (by rfl) (by rfl) T.n_list (ev 0)))))
theorem zpu(F:FunV K "wish" "Hall.wish" zcp dV f fd)(G0:MeAt P w K mg base 1 c.hall "find_piece" ["self", "name"] (zau c) f0 g0)(G1:FnAt P w K mg base 1 "wished" ["names"] (zcy c) f1 g1):FnOk P w K mg base (CXE P w) 2 f fd ["self", "name", "ahead", "behind", "needs", "bars"] (spM 6 (zfk c)):=
 mfx F zj4 fun _ _ _ _ _ _ hr hu1 hu6=>by exact(zad (zcb (i:=6) zj4.nd (by rfl) (by walk_at "o") (zhm G0 hr zam (ev 0) (zaa (ev 1) zaf))) (zad (zdj (zt7 (zgl T.cl_piece T.a_piece_ahead (ev 6)) (zaa (zbe G1 hr (by rfl) zam (zaa (ev 2) zaf)) zaf))) (zad (zdj (zt7 (zgl T.cl_piece T.a_piece_behind (ev 6)) (zaa (zbe G1 hr (by rfl) zam (zaa (ev 3) zaf)) zaf))) (zad (zdj (zt7 (zgl T.cl_piece T.a_piece_needs (ev 6)) (zaa (zbe G1 hr (by rfl) zam (zaa (ev 4) zaf)) zaf))) (zaj (zdj (zt7 (zgl T.cl_piece T.a_piece_bars (ev 6)) (zaa (zbe G1 hr (by rfl) zam (zaa (ev 5) zaf)) zaf))))))))
theorem zl8(F:FunV K "switch" "Hall.switch" zde dV f fd)(G0:MeAt P w K mg base 1 c.hall "find_piece" ["self", "name"] (zau c) f0 g0):FnOk P w K mg base (CXE P w) 2 f fd ["self", "name", "on"] (spM 3 (zd2 c)):=
 mfx F zic fun _ _ _ _ _ _ hr hu1 hu6=>by exact(zad (zcb (i:=3) zic.nd (by rfl) (by walk_at "o") (zhm G0 hr zam (ev 0) (zaa (ev 1) zaf))) (zaj (zjg T.cl_piece T.a_piece_on (ev 3) (ev 2))))
theorem zrm(F:FunV K "_law_hall" "_law_hall" ze9 dV f fd)(G0:MkAt P w K mg base 2 "Hall" c.hall ["self"] (zc1 c) f0 g0)(G1:MeAt P w K mg base 3 c.hall "open_place" ["self", "name", "kind", "rule"] (zbv c) f1 g1)(G2:MeAt P w K mg base 3 c.hall "hang" ["self", "name", "place", "deed", "by"] (zfj c) f2 g2)(B21:zf6 K g2 ["self", "name", "place", "deed", "by"] [.none])(G3:MeAt P w K mg base 3 c.hall "wish" ["self", "name", "ahead", "behind", "needs", "bars"] (zfk c) f3 g3)(G4:MeAt P w K mg base 3 c.hall "switch" ["self", "name", "on"] (zd2 c) f4 g4):FnOk P w K mg base (CXE P w) 4 f fd ["pieces", "kind", "rule"] (spM 3 (ze4 c)):=
 mfx F zgz fun _ _ _ _ _ _ hr hu1 hu6=>by exact(zad (zcb (i:=3) zgz.nd (by rfl) (by walk_at "o") (z3d G0 hr (by rfl) zam)) (zad (zdj (zhm G1 hr zam (ev 3) (zaa zbm (zaa (ev 1) (zaa (ev 2) zaf))))) (zad (zdj (zhm G1 hr zam (ev 3) (zaa zbm (zaa zbm (zaa zbm zaf))))) (zad (zhl PassesOwn.leaving (by rfl) (zck (ev 0)) (zcn _) (zba (i:=4) zgz.nd (by rfl) (by walk_at "o")) (zbh _) (zaj (zdj (z3c G2 hr zam B21 zwq zwr (ev 3) (zaa (e_ix (ev 4) zah) (zaa (e_ix (ev 4) zah) (zaa (e_ix (ev 4) zah) zaf))))))) (zad (zhl PassesOwn.leaving (by rfl) (zck (ev 0)) (zcn _) (zba (i:=4) zgz.nd (by rfl) (by walk_at "o")) (zbh _) (zad (zdj (zhm G3 hr zam (ev 3) (zaa (e_ix (ev 4) zah) (zaa (e_ix (e_ix (ev 4) zah) zah) (zaa (z25 (by rfl) T.n_tuple (e_ix (e_ix (ev 4) zah) zah)) (zaa (e_ix (e_ix (ev 4) zah) zah) (zaa (e_ix (e_ix (ev 4) zah) zah) zaf))))))) (zaj (s_if (zv6 (zix (e_ix (ev 4) zah))) (zaj (zdj (zhm G4 hr zam (ev 3) (zaa (e_ix (ev 4) zah) (zaa ziu zaf))))) zbp)))) (zaj (zca (ev 3))))))))
theorem zn3(F:FunV K "_law_at_hub" "_law_at_hub" zdy dV f fd)  : FnOk P w K mg base (CXE P w) 1 f fd ["pieces"] (spM 1 (zdv c)):=
 mfx F zn0 fun _ _ _ _ _ _ hr hu1 hu6=>by exact(zaj (zca (zk6 (xs:=[]) (js:=[]) (nts:=["piece"]) (by rfl) ⟨rfl,by decide +kernel,rfl,by decide +kernel,(fun p hp=>absurd hp List.not_mem_nil),rfl,trivial⟩ (zck (ev 0)) (zcn _) (fun _ _ _=>(zba (i:=0) (show(["piece"]:List Str).Nodup by decide +kernel) (by rfl) (by walk_at "o"))) (zbh _) (fun _ _ _=>((zt2 (t_eq hu6 (e_ix (ev 0) zah) zbm) (zpa (zix (e_ix (ev 0) zah))))).pt) (fun _ _ _=>(e_ix (ev 0) zah)) zl4)))
theorem zpv(F:FunV K "_law_pairs" "_law_pairs" zek dV f fd)  : FnOk P w K mg base (CXE P w) 1 f fd ["pieces", "names"] (spM 2 (zfm c)):=
 FnOk.frz (mfx F zhw fun _ _ _ _ _ _ hr hu1 hu6=>by exact(zad (zcb (i:=2) zhw.nd (by rfl) (by walk_at "o") (ziy zaf)) (zad (zhl PassesOwn.leaving (by rfl) (zck (ev 0)) (zcn _) (zba (i:=3) zhw.nd (by rfl) (by walk_at "o")) (zbh _) (zaj (s_if (t_in hu6 (e_ix (ev 3) zah) (ev 1)) (zad (zdj (zt7 (ev 2) (zaa (zk6 (xs:=["piece", "names"]) (js:=[3,1]) (nts:=["other"]) (by rfl) ⟨rfl,by decide +kernel,rfl,by decide +kernel,(fun p hp=>by rcases List.mem_cons.mp hp with rfl | hp;(· rfl);rcases List.mem_singleton.mp hp with rfl;rfl),rfl,⟨(by walk_at "c"),⟨(by walk_at "c"),trivial⟩⟩⟩ (zck (e_ix (e_ix (ev 3) zah) zah)) (zcn _) (fun _ _ _=>(zba (i:=0) (show(["other", "piece", "names"]:List Str).Nodup by decide +kernel) (by rfl) (by walk_at "o"))) (zbh _) (fun _ _ _=>(t_in hu6 (ev 0) (ev 2))) (fun _ _ _=>(zl2 (zaa (e_ix (ev 1) zah) (zaa (ev 0) zaf)))) zl4) zaf))) (zaj (zdj (zt7 (ev 2) (zaa (zk6 (xs:=["piece", "names"]) (js:=[3,1]) (nts:=["other"]) (by rfl) ⟨rfl,by decide +kernel,rfl,by decide +kernel,(fun p hp=>by rcases List.mem_cons.mp hp with rfl | hp;(· rfl);rcases List.mem_singleton.mp hp with rfl;rfl),rfl,⟨(by walk_at "c"),⟨(by walk_at "c"),trivial⟩⟩⟩ (zck (e_ix (e_ix (ev 3) zah) zah)) (zcn _) (fun _ _ _=>(zba (i:=0) (show(["other", "piece", "names"]:List Str).Nodup by decide +kernel) (by rfl) (by walk_at "o"))) (zbh _) (fun _ _ _=>(t_in hu6 (ev 0) (ev 2))) (fun _ _ _=>(zl2 (zaa (ev 0) (zaa (e_ix (ev 1) zah) zaf)))) zl4) zaf))))) zbp))) (zaj (zca (ev 2))))))
theorem zrn(F:FunV K "_law_free" "_law_free" zfa dV f fd)  : FnOk P w K mg base (CXE P w) 1 f fd ["name", "left", "pairs"] (spM 3 (ze5 c)):=
 mfx F zlj fun _ _ _ _ _ _ hr hu1 hu6=>by exact(zad (zhl PassesOwn.leaving (by rfl) (zck (ev 2)) (zcn _) (zba (i:=3) zlj.nd (by rfl) (by walk_at "o")) (zbh _) (zaj (s_if ((zt2 (t_eq hu6 (e_ix (ev 3) zah) (ev 0)) (zpa (t_in hu6 (e_ix (ev 3) zah) (ev 1))))).pt (zaj (zca ziu)) zbp))) (zaj (zca ziu)))
theorem zpw(F:FunV K "_law_order" "_law_order" zel dV f fd)(G0:FnAt P w K mg base 1 "_law_free" ["name", "left", "pairs"] (ze5 c) f0 g0):FnOk P w K mg base (CXE P w) 2 f fd ["names", "pairs"] (spM 2 (zc5 c)):=
 FnOk.frz (mfx F zfz fun _ _ _ _ _ _ hr hu1 hu6=>by exact(zad (zcb (i:=2) zfz.nd (by rfl) (by walk_at "o") (zwa (by rfl) (by rfl) T.n_list (ev 0))) (zad (zcb (i:=3) zfz.nd (by rfl) (by walk_at "o") (ziy zaf)) (zad (zq4 PassesOwn.leaving (t_ne hu6 (ev 2) (zh8 zaf)) (zad (z29 (i:=4) (xs:=["left", "pairs"]) (js:=[2,1]) (nts:=["name"]) (by rfl) ⟨rfl,by decide +kernel,rfl,by decide +kernel,(fun p hp=>by rcases List.mem_cons.mp hp with rfl | hp;(· rfl);rcases List.mem_singleton.mp hp with rfl;rfl),rfl,⟨(by walk_at "c"),⟨(by walk_at "c"),trivial⟩⟩⟩ (zck (ev 2)) (zcn _) (fun _ _ _=>(zba (i:=0) (show(["name", "left", "pairs"]:List Str).Nodup by decide +kernel) (by rfl) (by walk_at "o"))) (zbh _) (fun _ _ _=>(zix (zxb G0 hr (by rfl) zwm (zaa (ev 0) (zaa (ev 1) (zaa (ev 2) zaf)))))) (fun _ _ _=>(ev 0)) zl4 zfz.nd (by rfl) (by walk_at "o") zwp) (zad (s_if (t_eq hu6 (ev 4) (zh8 zaf)) (zaj (zca ziv)) zbp) (zad (zdj (zzr (ev 3) (zaa (e_ix (ev 4) zah) zaf))) (zaj (zdj (zsq (ev 2) (zaa (e_ix (ev 4) zah) zaf)))))))) (zaj (zca (ev 3)))))))
theorem zn4(F:FunV K "seconds_of" "seconds_of" zdz dV f fd)(G0:MeAt P w K mg base 1 c.hall "find_piece" ["self", "name"] (zau c) f0 g0):FnOk P w K mg base (CXE P w) 2 f fd ["hall", "names"] (spM 2 (zev c)):=
 FnOk.frz (mfx F zcq fun _ _ _ _ _ _ hr hu1 hu6=>by exact(zad (zcb (i:=2) zcq.nd (by rfl) (by walk_at "o") znn) (zad (zhl PassesOwn.leaving (by rfl) (zck (ev 1)) (zcn _) (zba (i:=3) zcq.nd (by rfl) (by walk_at "o")) (zbh _) (zaj (zmt hu1 (ev 2) (ev 3) znn))) (zad (zhl PassesOwn.leaving (by rfl) (zck (ev 1)) (zcn _) (zba (i:=3) zcq.nd (by rfl) (by walk_at "o")) (zbh _) (zad (zcb (i:=4) zcq.nd (by rfl) (by walk_at "o") (zhm G0 hr zam (ev 0) (zaa (ev 3) zaf))) (zad (zhl PassesOwn.leaving (by rfl) (zck (zgl T.cl_piece T.a_piece_ahead (ev 4))) (zcn _) (zba (i:=5) zcq.nd (by rfl) (by walk_at "o")) (zbh _) (zaj (s_if (zzq hu1 (ev 5) (ev 2)) (zaj (zmt hu1 (zt3 hu1 (ev 2) (ev 3)) (ev 5) ziu)) zbp))) (zaj (zhl PassesOwn.leaving (by rfl) (zck (zgl T.cl_piece T.a_piece_behind (ev 4))) (zcn _) (zba (i:=5) zcq.nd (by rfl) (by walk_at "o")) (zbh _) (zaj (s_if (zzq hu1 (ev 5) (ev 2)) (zaj (zmt hu1 (zt3 hu1 (ev 2) (ev 5)) (ev 3) ziu)) zbp))))))) (zaj (zca (ev 2)))))))
theorem zkb(F:FunV K "earliest_free" "earliest_free" zcf dV f fd)  : FnOk P w K mg base (CXE P w) 1 f fd ["seconds", "left"] (spM 2 (zcc c)):=
 mfx F zg9 fun _ _ _ _ _ _ hr hu1 hu6=>by exact(zad (zhl PassesOwn.leaving (by rfl) (zck (ev 1)) (zcn _) (zba (i:=2) zg9.nd (by rfl) (by walk_at "o")) (zbh _) (zaj (s_if (zv6 (zix (z9a (by rfl) (by rfl) T.n_any (z1h (xs:=["name", "seconds"]) (js:=[2,0]) (nts:=["first"]) (by rfl) ⟨rfl,by decide +kernel,rfl,by decide +kernel,(fun p hp=>by rcases List.mem_cons.mp hp with rfl | hp;(· rfl);rcases List.mem_singleton.mp hp with rfl;rfl),rfl,⟨(by walk_at "c"),⟨(by walk_at "c"),trivial⟩⟩⟩ (zck (ev 1)) (zcn _) (fun _ _ _=>(zba (i:=0) (show(["first", "name", "seconds"]:List Str).Nodup by decide +kernel) (by rfl) (by walk_at "o"))) (zbh _) (fun _ _ _=>(z8v hu1 (ev 1) (zt3 hu1 (ev 2) (ev 0)))) zl4)))) (zaj (zca (ev 2))) zbp))) (zaj (zca ziv)))
theorem zlk(F:FunV K "ring_through" "ring_through" zcw dV f fd)  : FnOk P w K mg base (CXE P w) 1 f fd ["seconds", "start"] (spM 2 (zen c)):=
 FnOk.frz (mfx F zb0 fun _ _ _ _ _ _ hr hu1 hu6=>by exact(zad (zcb (i:=2) zb0.nd (by rfl) (by walk_at "o") (zh8 (zaa (zh8 (zaa (ev 1) zaf)) zaf))) (zad (zcb (i:=3) zb0.nd (by rfl) (by walk_at "o") (z3q (ev 1) ziu)) (zad (zq4 PassesOwn.leaving (zix (ev 2)) (zad (zcb (i:=4) zb0.nd (by rfl) (by walk_at "o") (ziy zaf)) (zad (zhl PassesOwn.leaving (by rfl) (zck (ev 2)) (zcn _) (zba (i:=5) zb0.nd (by rfl) (by walk_at "o")) (zbh _) (zaj (zhl PassesOwn.leaving (by rfl) (zvq (zt3 hu1 (ev 0) (e_ix (ev 5) (z9c zah)))) zwf (zba (i:=6) zb0.nd (by rfl) (by walk_at "o")) (zbh _) (zad (s_if (t_eq hu6 (ev 6) (ev 1)) (zaj (zca (ev 5))) zbp) (zaj (s_if (znm hu1 (ev 6) (ev 3)) (zad (zmt hu1 (ev 3) (ev 6) ziu) (zaj (zdj (zzr (ev 4) (zaa (zgk (ev 5) (zh8 (zaa (ev 6) zaf))) zaf))))) zbp)))))) (zaj (zcb (i:=2) zb0.nd (by rfl) (by walk_at "o") (ev 4)))))) (zaj (zca (zh8 zaf)))))))
theorem zkc(F:FunV K "shortest_ring" "shortest_ring" zcg dV f fd)(G0:FnAt P w K mg base 1 "ring_through" ["seconds", "start"] (zen c) f0 g0):FnOk P w K mg base (CXE P w) 2 f fd ["seconds"] (spM 1 (zc2 c)):=
 mfx F zha fun _ _ _ _ _ _ hr hu1 hu6=>by exact(zad (z1i (i:=1) (xs:=["seconds"]) (js:=[0]) (nts:=["name"]) (by rfl) ⟨rfl,by decide +kernel,rfl,by decide +kernel,(fun p hp=>by rcases List.mem_singleton.mp hp with rfl;rfl),rfl,⟨(by walk_at "c"),trivial⟩⟩ (zvq (ev 0)) zwf (fun _ _ _=>(zba (i:=0) (show(["name", "seconds"]:List Str).Nodup by decide +kernel) (by rfl) (by walk_at "o"))) (zbh _) (fun _ _ _=>(zxb G0 hr (by rfl) zwm (zaa (ev 1) (zaa (ev 0) zaf)))) zl4 zha.nd (by rfl) (by walk_at "o") zwp) (zaj (zca (zz3 (by rfl) (by rfl) T.n_min (by rfl) T.n_len (zk6 (xs:=[]) (js:=[]) (nts:=["ring"]) (by rfl) ⟨rfl,by decide +kernel,rfl,by decide +kernel,(fun p hp=>absurd hp List.not_mem_nil),rfl,trivial⟩ (zck (ev 1)) (zcn _) (fun _ _ _=>(zba (i:=0) (show(["ring"]:List Str).Nodup by decide +kernel) (by rfl) (by walk_at "o"))) (zbh _) (fun _ _ _=>(zix (ev 0))) (fun _ _ _=>(ev 0)) zl4)))))
theorem zkd(F:FunV K "__init__" "Ring.__init__" zch dV f fd)(q:zft K c.ring f=true):FnOk P w K mg base (CXE P w) 1 f fd ["self", "ring"] (spX1 c.ring "ring"):=
 zz5 F zj9 T.xc_ring q T.nf_ring_ring (fun cdv A outer s H E hr=>zrz (zuz (zzj (by rfl) T.m_hallError T.b_1 T.b_2 T.b_3 (zdr (zol (i:=0) (by rfl) (by first | exact Or.inl rfl | exact Or.inr (Or.inl rfl) | exact Or.inr (Or.inr rfl))) (zdr (zo5 (.cons z0v (.cons (zz1 hr.gd hr.units (zol (i:=1) (by rfl) (by first | exact Or.inl rfl | exact Or.inr (Or.inl rfl) | exact Or.inr (Or.inr rfl)))) .nil))) zhg)))) (zuy (z2y (zol (i:=0) (by rfl) (by first | exact Or.inl rfl | exact Or.inr (Or.inl rfl) | exact Or.inr (Or.inr rfl))) (zor zhh (by rfl) T.n_list PyProof.Rows.boot_list (zdr (zol (i:=1) (by rfl) (by first | exact Or.inl rfl | exact Or.inr (Or.inl rfl) | exact Or.inr (Or.inr rfl))) zhg)) (by rfl)))) (zz7 "the wishes go round: " (by decide)) (zxa K)
theorem zl9(F:FunV K "order_among" "order_among" zdf dV f fd)(G0:FnAt P w K mg base 2 "seconds_of" ["hall", "names"] (zev c) f0 g0)(G1:FnAt P w K mg base 2 "earliest_free" ["seconds", "left"] (zcc c) f1 g1)(G2:FnAt P w K mg base 2 "shortest_ring" ["seconds"] (zc2 c) f2 g2)(G3:X1At P w K mg base 1 c.ring "ring" ["self", "ring"] f3 g3):FnOk P w K mg base (CXE P w) 3 f fd ["hall", "names"] (spM 2 (zco c)):=
 mfx F zdq fun _ _ _ _ _ _ hr hu1 hu6=>by exact(zad (zcb (i:=2) zdq.nd (by rfl) (by walk_at "o") (zbe G0 hr (by rfl) zam (zaa (ev 0) (zaa (ev 1) zaf)))) (zad (zcb (i:=3) zdq.nd (by rfl) (by walk_at "o") (zwa (by rfl) (by rfl) T.n_list (ev 1))) (zad (zcb (i:=4) zdq.nd (by rfl) (by walk_at "o") (ziy zaf)) (zad (zq4 PassesOwn.leaving (zix (ev 3)) (zad (zcb (i:=5) zdq.nd (by rfl) (by walk_at "o") (zbe G1 hr (by rfl) zam (zaa (ev 2) (zaa (ev 3) zaf)))) (zad (s_if (t_is (ev 5) ziv) (zaj (zz6 zt0 (by rfl) G3.q G3.hf G3.ok hr G3.hb (by rfl) T.m_ring (zaa (zbe G2 hr (by rfl) zam (zaa (ev 2) zaf)) zaf))) zbp) (zad (zdj (zsq (ev 3) (zaa (ev 5) zaf))) (zaj (zdj (zzr (ev 4) (zaa (ev 5) zaf)))))))) (zaj (zca (ev 4)))))))
theorem zug(F:FunV K "at" "Hall.at" zgf dV f fd)(G0:MeAt P w K mg base 1 c.hall "find_place" ["self", "name"] (zbi c) f0 g0):FnOk P w K mg base (CXE P w) 2 f fd ["self", "place"] (spM 2 (zge c)):=
 mfx F zuf fun _ _ _ _ _ _ hr hu1 hu6=>by exact(zad (zdj (zhm G0 hr zam (ev 0) (zaa (ev 1) zaf))) (zaj (zca (z3p (xs:=["place"]) (js:=[1]) (nts:=["name", "piece"]) (by rfl) ⟨rfl,by decide +kernel,rfl,by decide +kernel,(fun p hp=>by rcases List.mem_singleton.mp hp with rfl;rfl),rfl,⟨(by walk_at "c"),trivial⟩⟩ (zgl T.cl_hall T.a_hall_pieces (ev 0))  (fun _ _ _=>(z4n (by rfl) (zr0 (zba (i:=0) (show(["name", "piece", "place"]:List Str).Nodup by decide +kernel) (by rfl) (by walk_at "o")) (zr0 (zba (i:=1) (show(["name", "piece", "place"]:List Str).Nodup by decide +kernel) (by rfl) (by walk_at "o")) z15)))) (z28 _ _ _) (fun _ _ _=>((zt2 (t_eq hu6 (zgl T.cl_piece T.a_piece_place (ev 1)) (ev 2)) (zpa (zix (zgl T.cl_piece T.a_piece_on (ev 1)))))).pt) (fun _ _ _=>(ev 0)) zl4))))
theorem z0c(F:FunV K "order" "order" zjq dV f fd)(G0:FnAt P w K mg base 3 "order_among" ["hall", "names"] (zco c) f0 g0)(G1:MeAt P w K mg base 3 c.hall "at" ["self", "place"] (zge c) f1 g1):FnOk P w K mg base (CXE P w) 4 f fd ["hall", "place"] (spM 2 (zey c)):=
 mfx F z0b fun _ _ _ _ _ _ hr hu1 hu6=>by exact(zaj (zca (zbe G0 hr (by rfl) zam (zaa (ev 0) (zaa (zhm G1 hr zam (ev 0) (zaa (ev 1) zaf)) zaf)))))
theorem zma(F:FunV K "_law_refused" "_law_refused" zdg dV f fd)(G0:FnAt P w K mg base 4 "order" ["hall", "place"] (zey c) f0 g0):FnOk P w K mg base (CXE P w) 5 f fd ["hall"] (spM 1 (za8 c)):=
 mfx F zcx fun _ _ _ _ _ _ hr hu1 hu6=>by exact(zad (zcb (i:=1) zcx.nd (by rfl) (by walk_at "o") ziv) (zad (z61 (js:=[]) (fb:=(zd8 c)) (fun pn kn xe R hk pas own=>(zaj (zdj (zbe G0 hr (by rfl) pas (zaa (ev 0) (zaa zbm zaf)))))) (h_as (i:=2) zcx.nd (by rfl) (by rfl) (by rfl) T.m_hallError T.mh (z65 T.mro T.mh) (fun _=>(zad (zcb (i:=1) zcx.nd (by rfl) (by walk_at "o") zbm) (zaj (s_if ((zt2 (zix (z3m (by rfl) T.n_isinstance (ev 2) (by rfl) T.m_ring (zw5 T.k_ring))) (zt2 (zix (z62 (by rfl) T.n_isinstance (ev 2) (by rfl) T.n_ValueError (z67 T.kv))) (zpa (zv6 (zix (z3m (by rfl) T.n_isinstance (ev 2) (by rfl) T.m_barred (zw5 T.k_barred)))))))).pt (zad (zcb (i:=1) zcx.nd (by rfl) (by walk_at "o") zbm) (zaj (s_if (zix (z3m (by rfl) T.n_isinstance (ev 2) (by rfl) T.m_deedFault (zw5 T.k_deedFault))) (zaj (zcb (i:=1) zcx.nd (by rfl) (by walk_at "o") zbm)) zbp))) zbp)))) z1o)) (zaj (zca (ev 1)))))
theorem zjt(F:FunV K "_law_ring_right" "_law_ring_right" zb6 dV f fd)  : FnOk P w K mg base (CXE P w) 1 f fd ["ring", "pairs", "fewest"] (spM 3 (zb3 c)):=
 mfx F zgg fun _ _ _ _ _ _ hr hu1 hu6=>by exact(zad (s_if ((t_or (zv6 (zix (z6c .list (by rfl) T.n_isinstance (ev 0) (by rfl) T.n_list (by decide +kernel)))) (t_or (t_ne hu6 (zt4 (by rfl) T.n_len (ev 0)) (ev 2)) (z58 (t_ne hu6 (z0a (by rfl) (by rfl) T.n_len (by rfl) T.n_set (ev 0)) (zt4 (by rfl) T.n_len (ev 0))))))).pt (zaj (zca ziu)) zbp) (zad (zhl PassesOwn.leaving (by rfl) (zhf (by rfl) T.n_range (zaa (zt4 (by rfl) T.n_len (ev 0)) zaf)) zhk (zba (i:=3) zgg.nd (by rfl) (by walk_at "o")) (zbh _) (zaj (s_if ((t_or (zv6 (zix (z6c .str (by rfl) T.n_isinstance (e_ix (ev 0) (ev 3)) (by rfl) T.n_str (by decide +kernel)))) (z58 (z23 hu6 (zl2 (zaa (e_ix (ev 0) (ev 3)) (zaa (e_ix (ev 0) (zfs (zgk (ev 3) zah) (zt4 (by rfl) T.n_len (ev 0)))) zaf))) (ev 1))))).pt (zaj (zca ziu)) zbp))) (zaj (zca ziu))))
theorem zmb(F:FunV K "_law_reached" "_law_reached" zdh dV f fd)  : FnOk P w K mg base (CXE P w) 1 f fd ["pairs", "names", "steps"] (spM 3 (zd7 c)):=
 mfx F zer fun _ _ _ _ _ _ hr hu1 hu6=>by exact(zad (zcb (i:=3) zer.nd (by rfl) (by walk_at "o") (z1g (by rfl) (by rfl) T.n_list (ev 1))) (zad (zhl PassesOwn.leaving (by rfl) (zhf (by rfl) T.n_range (zaa (ev 2) zaf)) zhk (zba (i:=4) zer.nd (by rfl) (by walk_at "o")) (zbh _) (zaj (zcb (i:=3) zer.nd (by rfl) (by walk_at "o") (zxo (by rfl) (by rfl) T.n_sorted (by rfl) T.n_set (zk6 (xs:=["found"]) (js:=[3]) (nts:=["pair"]) (by rfl) ⟨rfl,by decide +kernel,rfl,by decide +kernel,(fun p hp=>by rcases List.mem_singleton.mp hp with rfl;rfl),rfl,⟨(by walk_at "c"),trivial⟩⟩ (zck (ev 0)) (zcn _) (fun _ _ _=>(zba (i:=0) (show(["pair", "found"]:List Str).Nodup by decide +kernel) (by rfl) (by walk_at "o"))) (zbh _) (fun _ _ _=>(t_in hu6 (e_ix (ev 0) zah) (ev 1))) (fun _ _ _=>(e_ix (ev 0) zah)) zl4))))) (zaj (zca (ev 3)))))
theorem zn5(F:FunV K "_law_fewest" "_law_fewest" zd0 dV f fd)(G0:FnAt P w K mg base 1 "_law_reached" ["pairs", "names", "steps"] (zd7 c) f0 g0):FnOk P w K mg base (CXE P w) 2 f fd ["names", "pairs"] (spM 2 (zdw c)):=
 mfx F zg0 fun _ _ _ _ _ _ hr hu1 hu6=>by exact(zad (zhl PassesOwn.leaving (by rfl) (zu1 (by rfl) T.n_range (zaa zah (zaa (zgk (zt4 (by rfl) T.n_len (ev 0)) zah) zaf))) zwd (zba (i:=2) zg0.nd (by rfl) (by walk_at "o")) (zbh _) (zaj (zhl PassesOwn.leaving (by rfl) (zck (ev 0)) (zcn _) (zba (i:=3) zg0.nd (by rfl) (by walk_at "o")) (zbh _) (zaj (s_if (t_in hu6 (ev 3) (zbe G0 hr (by rfl) zam (zaa (ev 1) (zaa (zh8 (zaa (ev 3) zaf)) (zaa (ev 2) zaf))))) (zaj (zca (ev 2))) zbp))))) (zaj (zca zah)))
theorem zmc(F:FunV K "_law_ring_of" "_law_ring_of" zdi dV f fd)(G0:FnAt P w K mg base 4 "order" ["hall", "place"] (zey c) f0 g0):FnOk P w K mg base (CXE P w) 5 f fd ["hall"] (spM 1 (zdc c)):=
 mfx F zes fun _ _ _ _ _ _ hr hu1 hu6=>by exact(zad (zcb (i:=1) zes.nd (by rfl) (by walk_at "o") ziv) (zad (z61 (js:=[]) (fb:=(zfp c)) (fun pn kn xe R hk pas own=>(zaj (zdj (zbe G0 hr (by rfl) pas (zaa (ev 0) (zaa zbm zaf)))))) (h_as (i:=2) zes.nd (by rfl) (by rfl) (by rfl) T.m_ring T.qd_ring (z66 T.mro T.mh T.d_ring) (fun _=>(zaj (zcb (i:=1) zes.nd (by rfl) (by walk_at "o") (z89 T.g_ring T.xa_ring_ring (ev 2))))) z1o)) (zaj (zca (ev 1)))))
theorem z7f(F:FunV K "law" "law" zn1 dV f fd)(G0:FnAt P w K mg base 5 "_law_cell_at" ["script", "k"] (za0 c) f0 g0)(G1:FnAt P w K mg base 5 "_law_pieces" ["script", "start", "many"] (zfx c) f1 g1)(G2:FnAt P w K mg base 5 "_law_hall" ["pieces", "kind", "rule"] (ze4 c) f2 g2)(G3:FnAt P w K mg base 5 "_law_at_hub" ["pieces"] (zdv c) f3 g3)(G4:FnAt P w K mg base 5 "_law_pairs" ["pieces", "names"] (zfm c) f4 g4)(G5:FnAt P w K mg base 5 "_law_order" ["names", "pairs"] (zc5 c) f5 g5)(G6:FnAt P w K mg base 5 "_law_refused" ["hall"] (za8 c) f6 g6)(G7:FnAt P w K mg base 5 "_law_ring_right" ["ring", "pairs", "fewest"] (zb3 c) f7 g7)(G8:FnAt P w K mg base 5 "_law_fewest" ["names", "pairs"] (zdw c) f8 g8)(G9:FnAt P w K mg base 5 "_law_ring_of" ["hall"] (zdc c) f9 g9):FnOk P w K mg base (CXE P w) 6 f fd ["script"] (spM 1 (zpr c)):=
 FnOk.frz (mfx F zhx fun _ _ _ _ _ _ hr hu1 hu6=>by exact(zad (zcb (i:=1) zhx.nd (by rfl) (by walk_at "o") (zfs (zbe G0 hr (by rfl) zam (zaa (ev 0) (zaa zah zaf))) zah)) (zad (zcb (i:=2) zhx.nd (by rfl) (by walk_at "o") (zbe G1 hr (by rfl) zam (zaa (ev 0) (zaa zah (zaa (ev 1) zaf))))) (zad (z1i (i:=3) (xs:=[]) (js:=[]) (nts:=["piece"]) (by rfl) ⟨rfl,by decide +kernel,rfl,by decide +kernel,(fun p hp=>absurd hp List.not_mem_nil),rfl,trivial⟩ (zck (ev 2)) (zcn _) (fun _ _ _=>(zba (i:=0) (show(["piece"]:List Str).Nodup by decide +kernel) (by rfl) (by walk_at "o"))) (zbh _) (fun _ _ _=>(zl2 (zaa (e_ix (ev 0) zah) (zaa zbm (zaa (e_ix (ev 0) zah) (zaa (e_ix (ev 0) zah) (zaa ziu zaf))))))) z8z zhx.nd (by rfl) (by walk_at "o") zwp) (zad (zcb (i:=4) zhx.nd (by rfl) (by walk_at "o") (zgk zah (zfs (zl0 (zbe G0 hr (by rfl) zam (zaa (ev 0) (zaa zah zaf))) zah) zah))) (zad (s_if ((zt2 (t_eq hu6 (zfs (zbe G0 hr (by rfl) zam (zaa (ev 0) (zaa zah zaf))) zah) zah) (zpa (t_le (ev 4) (ev 1))))).pt (zaj (zhl PassesOwn.leaving (by rfl) (zhf (by rfl) T.n_range (zaa (ev 4) zaf)) zhk (zba (i:=5) zhx.nd (by rfl) (by walk_at "o")) (zbh _) (zad (zcb (i:=6) zhx.nd (by rfl) (by walk_at "o") (e_ix (e_ix (ev 3) (ev 5)) zah)) (zad (zcb (i:=7) zhx.nd (by rfl) (by walk_at "o") (zgk (e_ix (ev 6) zah) (zh8 (zaa (e_ix (e_ix (ev 3) (zfs (zgk (ev 5) zah) (ev 4))) zah) zaf)))) (zaj (z6d (ev 3) (ev 5) (zl2 (zaa (e_ix (e_ix (ev 3) (ev 5)) zah) (zaa zbm (zaa (e_ix (e_ix (ev 3) (ev 5)) zah) (zaa (zgk (zh8 (zaa (ev 7) zaf)) (z3g (ev 6) (z6q zah) z6p)) (zaa ziu zaf)))))))))))) zbp) (zad (zcb (i:=8) zhx.nd (by rfl) (by walk_at "o") (zbe G2 hr (by rfl) zam (zaa (ev 3) (zaa zbm (zaa zbm zaf))))) (zad (zcb (i:=9) zhx.nd (by rfl) (by walk_at "o") (zbe G3 hr (by rfl) zam (zaa (ev 3) zaf))) (zad (zcb (i:=10) zhx.nd (by rfl) (by walk_at "o") (zbe G4 hr (by rfl) zam (zaa (ev 3) (zaa (ev 9) zaf)))) (zad (s_if (zv8 (zbe G5 hr (by rfl) zam (zaa (ev 9) (zaa (ev 10) zaf))) ziv) (zaj (zca (e_is (zbe G6 hr (by rfl) zam (zaa (ev 8) zaf)) ziv))) zbp) (zad (s_if (t_ne hu6 (zbe G6 hr (by rfl) zam (zaa (ev 8) zaf)) zbm) (zaj (zca ziu)) zbp) (zaj (zca (zbe G7 hr (by rfl) zam (zaa (zbe G9 hr (by rfl) zam (zaa (ev 8) zaf)) (zaa (ev 10) (zaa (zbe G8 hr (by rfl) zam (zaa (ev 9) (zaa (ev 10) zaf))) zaf)))))))))))))))))
end
end K04
namespace DN
open PySem L2 MF
variable {c:Cl}{S:Sto}
def cellAt(ns:List Int)(k:Int):Int:=if k<ns.length then ns.getD k.toNat 0 else 0
theorem zxs(ns:List Int)(k:Int)(hk:0<=k):za0 c [.lst (ns.map .int),.int k] S=.ok (.int (cellAt ns k)) S:=by
 unfold cellAt;by_cases h:k<ns.length
 ·have hh:k.toNat<ns.length:=by omega
  simp[za0,zgn,h,z1m hk,hh]
 ·simp[za0,zgn,h]
def zg1:Str := "abcdefghijklmnopqrstuvwxyz"
def zgh(i:Int):Str:=⟨#[zg1.cps[i.toNat]?.getD 0]⟩
theorem zuh:zg1.cps.toList.length=26:=by decide +kernel
theorem zll:zg1.length<=1000:=by decide +kernel
theorem zpx{i:Int}(h0:0<=i)(h1:i<26):atI zg1.cps.toList i=some (zg1.cps[i.toNat]?.getD 0):=by
 have hl:=zuh;rw[z1m h0 (by omega),Array.getElem?_toList];have:i.toNat<zg1.cps.size:=by rw[<- Array.length_toList];omega
 rw[Array.getElem?_eq_getElem this];rfl
def zd9(k:Int):Str:=if k%3=1 then zgh (k%26) else Txt.join Str.empty ((List.range (2+k%11).toNat).map fun(j:Nat)=>zgh ((k+5*(j:Int))%26))
theorem zfb:∀(l:List Str),zee (l.map T.str)=some l
 |[]=>rfl
 | a::r=>by
   rw[List.map_cons];unfold zee;rw[zfb r];rfl
theorem zui(i:Int):(zgh i).length=1:=rfl
theorem zlm(k:Int):∀l:List Nat,((l.map fun(j:Nat)=>zgh ((k+5*(j:Int))%26)).map (·.length)).sum=l.length
 |[]=>rfl
 | a::r=>by
   have:=zlm k r;simp only[List.map_cons,List.sum_cons,List.length_cons,zui] at this ⊢;omega
theorem zxt(k:Int):zcs c [.int k] S=.ok (.str (zd9 k)) S:=by
 have h26:=Int.emod_nonneg k (show(26:Int)≠0 by decide);have h26':=Int.emod_lt_of_pos k (show(0:Int)<26 by decide);have hL:(Str.ofString "abcdefghijklmnopqrstuvwxyz")=zg1:=rfl;unfold zd9;by_cases h:k%3=1
 ·have ha:=zpx h26 h26'
  simp[zcs,zjm,h,hL,zll,ha,zgh]
 ·have h11:=Int.emod_nonneg k (show(11:Int)≠0 by decide)
  have h11':=Int.emod_lt_of_pos k (show(0:Int)<11 by decide);have hb:-1000000<=2+k%11/\2+k%11<=1000000:=by omega
  have hm:∀t∈zeu 0 (2+k%11).toNat,zhq c [some t,some (.str zg1),some (.int k)] S=.ok ((fun t=>match t with|.int j=>T.str (zgh ((k+5*j)%26)) | _=>.non) t) S:=by
   intro t ht;obtain⟨j,hj,rfl⟩:=List.mem_map.mp ht;have m1:=Int.emod_nonneg (k+5*(0+(j:Int))) (show(26:Int)≠0 by decide);have m2:=Int.emod_lt_of_pos (k+5*(0+(j:Int))) (show(0:Int)<26 by decide);have ha:=zpx m1 m2;rw[Int.zero_add] at ha;simp[zhq,zll,ha,zgh]
  have hc:=zk7 (ρ:=[some (.int k),some (.str zg1)]) (S:=S) (js:=[1,0]) (it:=zhr c) (ts:=zeu 0 (2+k%11).toNat) (st:=fun _=>True) (by simp[zhr,hb]) trivial (by rw[zfg];omega) hm;have hsum:=zlm k (List.range (2+k%11).toNat);rw[List.length_range] at hsum;have e3:(zeu 0 (2+k%11).toNat).map (fun t=>match t with|.int j=>T.str (zgh ((k+5*j)%26)) | _=>.non)=((List.range (2+k%11).toNat).map fun(j:Nat)=>zgh ((k+5*(j:Int))%26)).map T.str:=by
   unfold zeu;rw[List.map_map,List.map_map];refine List.map_congr_left fun j _=>?_;show T.str (zgh ((k+5*(0+(j:Int)))%26))=T.str (zgh ((k+5*(j:Int))%26));rw[Int.zero_add]
  rw[e3] at hc;have hlen:((List.range (2+k%11).toNat).map fun(j:Nat)=>zgh ((k+5*(j:Int))%26)).length<=13:=by simp;omega
  generalize ((List.range (2+k%11).toNat).map fun(j:Nat)=>zgh ((k+5*(j:Int))%26))=l at hc hsum hlen ⊢;have hbig:(l.map (·.length)).sum+l.length*Str.empty.length<=100000:=by
   rw[hsum,show Str.empty.length=0 from rfl];omega
  have hj:zt6 (.str Str.empty) [.lst (l.map T.str)] S=.ok (.str (Txt.join Str.empty l)) S:=by
   unfold zt6;simp only[zwx,Option.bind_some,zfb,if_pos hbig]
  have he:Str.ofString "" = Str.empty:=rfl;simp[zcs,zjm,h,hL,hc,he,okS,hj]
def numT(x:Int):Int:=if x / 8%9=4 then x%10 ^ 25-10 ^ 24 else x / 8%2001-1000
def zuj(x:Int):T:=if x%8=3 then .tup [.str "say",.int (numT x)] else if x%8=4 then .tup [.str "none"] else if x%8=5 then .tup [.str "fail",.int (numT x)] else .tup [.str "add",.int (numT x)]
theorem z7g(x:Int):zgd c [.int x] S=.ok (zuj x) S:=by
 unfold zuj numT;by_cases h1:x / 8%9=4<;>by_cases h2:x%8=3<;>by_cases h3:x%8=4<;>by_cases h4:x%8=5<;>first
  |omega
  |simp[zgd,zmx,h1,h2,h3,h4]
def zjc(x many:Int):List Str:=if x%4>1 then[] else if x%4=1 then[zd9 (x / 4%many),zd9 (x / 64%many)] else[zd9 (x / 4%many)]
theorem z7h(x many:Int)(hm:0<many):zct c [.int x,.int many] S=.ok (strL (zjc x many)) S:=by
 unfold zjc strL;by_cases h1:1<x%4
 ·simp[zct,zh5,h1]
 ·by_cases h2:x%4=1
  ·simp[zct,zh5,h1,h2,hm,zxt]
  ·simp[zct,zh5,h1,h2,hm,zxt]
structure Pc where
 nm:Str
 pl:Str
 dd:T
 w0:List Str
 w1:List Str
 w2:List Str
 w3:List Str
 on:Bool
def Pc.t(p:Pc):T:=.tup [.str p.nm,.str p.pl,p.dd,.lst [strL p.w0,strL p.w1,strL p.w2,strL p.w3],.bl p.on]
def zhy(x:Int):Str:=if x / 4096%4=3 then "side" else "hub"
def pcAt(ns:List Int)(start many:Int)(k:Nat):Pc:=
 { nm:=zd9 k,pl:=zhy (cellAt ns (start+3*k)),dd:=zuj (cellAt ns (start+3*k)),
   w0:=zjc (cellAt ns (start+3*k+1)) (many+1),w1:=zjc (cellAt ns (start+3*k+1) / 7) (many+1),
   w2:=zjc (cellAt ns (start+3*k+2)) (many+1),w3:=zjc (cellAt ns (start+3*k+2) / 7) (many+1),on:=!decide (cellAt ns (start+3*k) / 64%6=1) }
def pcs(ns:List Int)(start many:Int):List Pc:=(List.range many.toNat).map (pcAt ns start many)
theorem zuk(x:Int):atI [T.str "hub",T.str "hub",T.str "hub",T.str "side"] (x / 4096%4)=some (.str (zhy x)):=by
 have h1:=Int.emod_nonneg (x / 4096) (show(4:Int)≠0 by decide);have h2:=Int.emod_lt_of_pos (x / 4096) (show(0:Int)<4 by decide);unfold zhy;have:x / 4096%4=0\/x / 4096%4=1\/x / 4096%4=2\/x / 4096%4=3:=by omega
 rcases this with h | h | h | h<;>rw[h]<;>rfl
theorem z3w(n:Nat)(x:Int):HB n (zuj x):=by
 unfold zuj
 split
 ·exact zmv (by simp)
 ·split
  ·exact zmv (by simp)
  ·split
   ·exact zmv (by simp)
   ·exact zmv (by simp)
theorem z9d(n:Nat)(p:Pc)(h:HB n p.dd):HB n p.t:=zmv (by
 intro t ht;simp only[List.mem_cons,List.not_mem_nil,or_false] at ht;rcases ht with rfl | rfl | rfl | rfl | rfl
 ·simp
 ·simp
 ·exact h
 ·exact z1n (by
   intro t ht;simp only[List.mem_cons,List.not_mem_nil,or_false] at ht;rcases ht with rfl | rfl | rfl | rfl<;>exact zwz _)
 ·simp)
theorem zim{n:Nat}{pre:List T}{t:T}{post:List T}(h:zeu 0 n=pre++t::post):pre.length<n/\t=.int pre.length:=by
 have hl:pre.length<(zeu 0 n).length:=by rw[h];simp
 rw[zfg] at hl;have e:=zsk (lo:=0) hl;rw[h,List.getElem?_append_right (Nat.le_refl _),Nat.sub_self] at e;simp at e;exact⟨hl,e⟩
theorem zn6{S:Sto}{x y:Cell}:(S++[x]).set S.length y=S++[y]:=by
 rw[List.set_append_right _ _ (Nat.le_refl _),Nat.sub_self];rfl
theorem zet{S:Sto}{x:Cell}:(S++[x])[S.length]?=some x:=by simp
theorem z0d(ns:List Int)(start many:Int)(hs:0<=start)(hm0:0<=many)(hm:many<=100) :
  zfx c [.lst (ns.map .int),.int start,.int many] S=.ok (.lst ((pcs ns start many).map Pc.t)) S:=by
 have run:runD 10 (zhs c) [.lst (ns.map .int),.int start,.int many] S=.ok (.obj S.length) (S++[.lst ((pcs ns start many).map Pc.t)]):=by
  have hb:-1000000<=many/\many<=1000000:=by omega
  obtain⟨ρ',S',e,q⟩:=zji (ρ:=[some (.lst (ns.map .int)),some (.int start),some (.int many),some (.obj S.length),none,none,none,none,none,none]) (S:=S++[.lst []])
   (it:=iR1 (zac (eVar 2) aNil)) (g:=zaw 4) (ts:=zeu 0 many.toNat) (st:=fun _=>True) (S1:=S++[.lst []]) (body:=zf3 c)
   (fun pre ρ S1=>(∃a1 a2 a3 a4 a5 a6,ρ=[some (.lst (ns.map .int)),some (.int start),some (.int many),some (.obj S.length),a1,a2,a3,a4,a5,a6])/\S1=S++[.lst (((List.range pre.length).map (pcAt ns start many)).map Pc.t)])
   (by simp[hb]) ⟨⟨_,_,_,_,_,_,rfl⟩,rfl⟩ (fun pre t post ρ S1 hsplit ⟨⟨a1,a2,a3,a4,a5,a6,hρ⟩,hS⟩=>by
    obtain⟨hlt,rfl⟩:=zim hsplit;subst hρ hS;refine⟨trivial,_,rfl,?_⟩;have c1:0<=start+3*(pre.length:Int):=by omega
    have c2:0<=start+3*(pre.length:Int)+1:=by omega
    have c3:0<=start+3*(pre.length:Int)+2:=by omega
    have hmm:0<many+1:=by omega
    have hlen:(((List.range pre.length).map (pcAt ns start many)).map Pc.t).length<1000:=by simp;omega
    have hmap:(((List.range (pre++[T.int pre.length]).length).map (pcAt ns start many)).map Pc.t)=(((List.range pre.length).map (pcAt ns start many)).map Pc.t)++[(pcAt ns start many pre.length).t]:=by
     rw[List.length_append,List.length_singleton,List.range_succ,List.map_append,List.map_append];rfl
    rw[hmap];generalize (((List.range pre.length).map (pcAt ns start many)).map Pc.t)=acc at hlen ⊢;have happ:=zzv (S:=S++[.lst acc]) (k:=S.length) (y:=(pcAt ns start many pre.length).t) zet hlen;rw[zn6] at happ;have hok:=zj7 (S:=S++[.lst acc]) (k:=S.length) zet;refine⟨[some (.lst (ns.map .int)),some (.int start),some (.int many),some (.obj S.length),some (.int pre.length),some (.int (cellAt ns (start+3*pre.length))),some (.int (cellAt ns (start+3*pre.length+1))),some (.int (cellAt ns (start+3*pre.length+2))),some (.str (zhy (cellAt ns (start+3*pre.length)))),
     some (.lst [strL (pcAt ns start many pre.length).w0,strL (pcAt ns start many pre.length).w1,strL (pcAt ns start many pre.length).w2,strL (pcAt ns start many pre.length).w3])],S++[.lst (acc++[(pcAt ns start many pre.length).t])],?_,⟨_,_,_,_,_,_,rfl⟩,rfl⟩
    have hT:(pcAt ns start many pre.length).t=T.tup [T.str (zd9 pre.length),T.str (zhy (cellAt ns (start+3*pre.length))),zuj (cellAt ns (start+3*pre.length)),T.lst [strL (zjc (cellAt ns (start+3*pre.length+1)) (many+1)),strL (zjc (cellAt ns (start+3*pre.length+1) / 7) (many+1)),strL (zjc (cellAt ns (start+3*pre.length+2)) (many+1)),strL (zjc (cellAt ns (start+3*pre.length+2) / 7) (many+1))],T.bl (!decide (cellAt ns (start+3*pre.length) / 64%6=1))]:=rfl;rw[hT] at happ ⊢;simp[zf3,zxs,zxt,z7g,z7h,c1,c2,c3,hmm,zuk,hok,happ,pcAt]) (fun _ _ _=>trivial)
  obtain⟨⟨a1,a2,a3,a4,a5,a6,rfl⟩,rfl⟩:=q;rw[zfg] at e;simp[zhs,e,pcs]
 refine znu run (by simp) (Nat.le_refl _) zet fun t ht=>?_;obtain⟨p,hp,rfl⟩:=List.mem_map.mp ht;obtain⟨k,_,rfl⟩:=List.mem_map.mp hp;exact z9d _ _ (z3w _ _)
end DN
namespace DN
open PySem L2 MF
variable {c:Cl}{S:Sto}
structure PlM where
 nm:Str
 kind:Str
 rule:Str
 i:Nat
structure HP where
 nm:Str
 pl:Str
 dd:T
 br:Option Str
 on:Bool
 w0:List Str
 w1:List Str
 w2:List Str
 w3:List Str
 i:Nat
def byT:Option Str->T
 |none=>.non
 |some x=>.str x
def HP.fs(p:HP):List (Str×T):=[("place",.str p.pl),("deed",p.dd),("by",byT p.br),("on",.bl p.on),("ahead",.obj (p.i+1)),("behind",.obj (p.i+2)),("needs",.obj (p.i+3)),("bars",.obj (p.i+4))]
def HP.block(c:Cl)(p:HP):List Cell:=[.ins c.piece p.fs,.lst (p.w0.map .str),.lst (p.w1.map .str),.lst (p.w2.map .str),.lst (p.w3.map .str)]
structure zbj(c:Cl)(S:Sto)(p:HP):Prop where
 o:S[p.i]?=some (.ins c.piece p.fs)
 a0:S[p.i+1]?=some (.lst (p.w0.map .str))
 a1:S[p.i+2]?=some (.lst (p.w1.map .str))
 a2:S[p.i+3]?=some (.lst (p.w2.map .str))
 a3:S[p.i+4]?=some (.lst (p.w3.map .str))
def plD(pl:List PlM):List (Key×T):=pl.map fun q=>(.inr q.nm,.obj q.i)
def psD(ps:List HP):List (Key×T):=ps.map fun p=>(.inr p.nm,.obj p.i)
def zew(h:Nat):List (Str×T):=[("places",.obj (h+1)),("pieces",.obj (h+2))]
structure za4(c:Cl)(S:Sto)(h:Nat)(pl:List PlM)(ps:List HP):Prop where
 hall:S[h]?=some (.ins c.hall (zew h))
 places:S[h+1]?=some (.dic (plD pl))
 pieces:S[h+2]?=some (.dic (psD ps))
 place:∀q∈pl,S[q.i]?=some (.ins c.place [("kind",.str q.kind),("rule",.str q.rule)])
 piece:∀p∈ps,zbj c S p
 far:∀p∈ps,h+3<=p.i
 pw:ps.Pairwise fun p q=>p.i+5<=q.i
 nd:(ps.map (·.nm)).Nodup
theorem zro(x:Str):∀(ps:List HP),valT (psD ps) (.inr x)=(ps.find? fun p=>decide (p.nm=x)).map fun p=>T.obj p.i
 |[]=>rfl
 | p :: ps=>by
   have ih:=zro x ps;by_cases h:p.nm=x
   ·have:valT (psD (p::ps)) (.inr x)=some (.obj p.i):=by simp[valT,psD,h]
    rw[this];simp[h]
   ·have e:valT (psD (p::ps)) (.inr x)=valT (psD ps) (.inr x):=by
     simp[valT,psD,List.find?_cons,h]
    rw[e,ih];simp[h]
theorem zrp(x:Str):∀(pl:List PlM),valT (plD pl) (.inr x)=(pl.find? fun p=>decide (p.nm=x)).map fun p=>T.obj p.i
 |[]=>rfl
 | p :: ps=>by
   have ih:=zrp x ps;by_cases h:p.nm=x
   ·have:valT (plD (p::ps)) (.inr x)=some (.obj p.i):=by simp[valT,plD,h]
    rw[this];simp[h]
   ·have e:valT (plD (p::ps)) (.inr x)=valT (plD ps) (.inr x):=by
     simp[valT,plD,List.find?_cons,h]
    rw[e,ih];simp[h]
@[simp]theorem Zax(C:Addr)(f:Str)(k:Nat):gFld C f (.obj k) S=(match zhc S C (.obj k) with|some (_,fs)=>(match fs.lookup f with|some u=>.ok u S | none=>.bad) | none=>.bad):=rfl
theorem zhb{C:Addr}{k:Nat}{fs:List (Str×T)}(h:S[k]?=some (.ins C fs)):zhc S C (.obj k)=some (k,fs):=by simp[zhc,h]
@[simp] theorem z95 (C:Addr) (m:Str) (F:Fn) (ds:List T) (fo:DE) (fr:DA) {ρ:Ev}:zh9 C m F ds fo fr ρ S=(fo ρ).bind (fun o=>fun S=>match zhc S C o with
  |some (_,fs)=>if(fs.lookup m).isNone=true then((fr ρ).bind fun ts=>F (o::(ts++ds))) S else .bad
  |none=>.bad) S:=rfl
theorem zpy{k:Nat}{kvs:List (Key×T)}(h:S[k]?=some (.dic kvs)):zf1 S (.obj k)=some kvs:=by simp[zf1,h]
theorem za4.ins{h:Nat}{pl:List PlM}{ps:List HP}(A:za4 c S h pl ps):zhc S c.hall (.obj h)=some (h,zew h):=zhb A.hall
theorem za4.dPieces{h:Nat}{pl:List PlM}{ps:List HP}(A:za4 c S h pl ps):zf1 S (.obj (h+2))=some (psD ps):=zpy A.pieces
theorem za4.dPlaces{h:Nat}{pl:List PlM}{ps:List HP}(A:za4 c S h pl ps):zf1 S (.obj (h+1))=some (plD pl):=zpy A.places
theorem zln(h:Nat):List.lookup (Str.ofString "places") (zew h)=some (.obj (h+1)):=by
 unfold zew;rw[List.lookup_cons];rw[show(Str.ofString "places" == Str.ofString "places")=true by decide +kernel]
theorem zin(h:Nat):List.lookup (Str.ofString "pieces") (zew h)=some (.obj (h+2)):=by
 unfold zew;rw[List.lookup_cons,show(Str.ofString "pieces" == Str.ofString "places")=false by decide +kernel];simp only;rw[List.lookup_cons,show(Str.ofString "pieces" == Str.ofString "pieces")=true by decide +kernel]
theorem zid{m:Str}(h:Nat)(h1:(m==Str.ofString "places")=false)(h2:(m==Str.ofString "pieces")=false):List.lookup m (zew h)=none:=by
 unfold zew;rw[List.lookup_cons,h1];simp only;rw[List.lookup_cons,h2];rfl
theorem zhz{h:Nat}{pl:List PlM}{ps:List HP}(A:za4 c S h pl ps){x:Str}{p:HP}(hp:ps.find? (fun p=>decide (p.nm=x))=some p):zau c [.obj h,.str x] S=.ok (.obj p.i) S:=by
 have e:=zro x ps;rw[hp] at e;simp[zau,zga,A.ins,zin,zfe,gDix,A.dPieces,keyT,e]
theorem zj5{h:Nat}{pl:List PlM}{ps:List HP}(A:za4 c S h pl ps){x:Str}{p:PlM}(hp:pl.find? (fun p=>decide (p.nm=x))=some p):zbi c [.obj h,.str x] S=.ok (.obj p.i) S:=by
 have e:=zrp x pl;rw[hp] at e;simp[zbi,zgc,A.ins,zln,zfe,gDix,A.dPlaces,keyT,e]
theorem zjd{ps:List HP}(nd:(ps.map (·.nm)).Nodup){p:HP}(hp:p∈ps):ps.find? (fun q=>decide (q.nm=p.nm))=some p:=by
 induction ps with
 |nil=>cases hp
 | cons q ps ih=>
   rw[List.map_cons,List.nodup_cons] at nd;rcases List.mem_cons.mp hp with rfl | hp
   ·simp
   ·have:q.nm≠p.nm:=fun e=>nd.1 (List.mem_map.mpr ⟨p,hp,e.symm⟩)
    rw[List.find?_cons];simp[this,ih nd.2 hp]
end DN
namespace DN
open PySem L2 MF
variable {c:Cl}{S:Sto}{ρ:Ev}
@[simp] theorem zpz (a b:String):(Str.ofString a=Str.ofString b)=(a=b):=by
  apply propext;constructor
  ·intro h
   rw[Str.ofString_eq_toList,Str.ofString_eq_toList] at h;have h1:a.toList.map Char.toNat=b.toList.map Char.toNat:=by simpa using h
   have inj:∀(x y:List Char),x.map Char.toNat=y.map Char.toNat->x=y:=by
    intro x
    induction x with
    |nil=>intro y h;cases y with|nil=>rfl | cons _ _=>simp at h
    | cons p x ih=>
      intro y h;cases y with
      |nil=>simp at h
      | cons q y=>
        simp only[List.map_cons,List.cons.injEq] at h;rw[ih y h.2];have:p=q:=by
         have:=h.1;apply Char.ext;exact UInt32.toNat_inj.mp this
        rw[this]
   exact String.toList_inj.mp (inj _ _ h1)
  ·rintro rfl;rfl
@[simp] theorem z1s (a b:String):(Str.ofString a==Str.ofString b)=(a==b):=by
  rw[Bool.eq_iff_iff,beq_iff_eq,beq_iff_eq,zpz]
@[simp] theorem z96 (C:Addr) (F:Fn) (ds:List T) (fr:DA):zq5 C F ds fr ρ S=(fr ρ).bind (fun ts=>fun S=>M.bind (F (.obj S.length::(ts++ds))) (fun t=>match t with
  |.non=>M.pure (.obj S.length)
  |_=>M.bad) (S++[.ins C []])) S:=rfl
@[simp] theorem z97 (C:Addr) (f:Str) (fo fv:DE):zii C f fo fv ρ S=(fv ρ).bind (fun t=>(fo ρ).bind fun o=>fun S=>match zhc S C o with
  |some (k,fs)=>if fs.length<900 then .ok (.nx ρ) (S.set k (.ins C (zl3 f t fs))) else .bad
  |none=>.bad) S:=rfl
@[simp] theorem z7i (fd fk fv:DE):znp fd fk fv ρ S=(fv ρ).bind (fun t=>(fd ρ).bind fun d=>(fk ρ).bind fun k=>fun S=>match d,keyT k with
  | .obj j,some key=>(match S[j]? with
    |some (.dic kvs)=>if kvs.length<=900 then .ok (.nx ρ) (S.set j (.dic (putT kvs key t))) else .bad
    |_=>.bad)
  |_,_=>.bad) S:=rfl
@[simp]theorem z72(f:Str)(v:T):zl3 f v []=[(f,v)]:=rfl
@[simp]theorem z7j(f g:Str)(v x:T)(r:List (Str×T)):zl3 f v ((g,x)::r)=if g=f then(g,v)::r else(g,x)::zl3 f v r:=rfl
theorem getR(L:List Cell)(j:Nat):(S++L)[S.length+j]?=L[j]?:=by rw[List.getElem?_append_right (by omega)];congr 1;omega
theorem setR(L:List Cell)(j:Nat)(v:Cell):(S++L).set (S.length+j) v=S++L.set j v:=by rw[List.set_append_right _ _ (by omega)];congr 2;omega
theorem zrq(L:List Cell):(S++L)[S.length]?=L[0]?:=getR L 0
theorem zxu(L:List Cell)(v:Cell):(S++L).set S.length v=S++L.set 0 v:=setR L 0 v
@[simp] theorem z98 (C:Addr) (fs:List (Str×T)) (L:List Cell):zhc (S++Cell.ins C fs::L) C (.obj S.length)=some (S.length,fs):=by
  exact zhb (by rw[zrq];rfl)
theorem zrr:zc1 c [.obj S.length] (S++[.ins c.hall []])=.ok .non (S++[.ins c.hall (zew S.length),.dic [],.dic []]):=by
 simp[zc1,zhp,zxu,zew]
theorem zp0(k r:Str):zcr c [.obj S.length,.str k,.str r] (S++[.ins c.place []])=.ok .non (S++[.ins c.place [("kind",.str k),("rule",.str r)]]):=by
 simp[zcr,zg6,zxu]
def newP(nm pl:Str)(dd:T)(br:Option Str)(i:Nat):HP:={ nm:=nm,pl:=pl,dd:=dd,br:=br,on:=true,w0:=[],w1:=[],w2:=[],w3:=[],i:=i }
theorem zp1(nm pl:Str)(dd:T)(br:Option Str):zb2 c [.obj S.length,.str pl,dd,byT br] (S++[.ins c.piece []])=.ok .non (S++(newP nm pl dd br S.length).block c):=by
 simp[zb2,zg7,zxu,HP.block,newP,HP.fs]
theorem zae{k j:Nat}{v:Cell}(h:k≠j):(S.set k v)[j]?=S[j]?:=List.getElem?_set_ne h
theorem zdm{k:Nat}{v:Cell}{u:Cell}(h:S[k]?=some u):(S.set k v)[k]?=some v:=by
 have:=(List.getElem?_eq_some_iff.mp h).1;simp[List.getElem?_set,this]
theorem zbr{L:Sto}{k:Nat}{u:Cell}(h:S[k]?=some u):(S++L)[k]?=some u:=by
 rw[List.getElem?_append_left (List.getElem?_eq_some_iff.mp h).1];exact h
theorem zbj.app{L:Sto}{p:HP}(A:zbj c S p):zbj c (S++L) p:=⟨zbr A.o,zbr A.a0,zbr A.a1,zbr A.a2,zbr A.a3⟩
theorem za4.app{L:Sto}{h:Nat}{pl:List PlM}{ps:List HP}(A:za4 c S h pl ps):za4 c (S++L) h pl ps:=
 ⟨zbr A.hall,zbr A.places,zbr A.pieces,fun q hq=>zbr (A.place q hq),fun p hp=>(A.piece p hp).app,A.far,A.pw,A.nd⟩
theorem zg2{k j:Nat}{u v:Cell}(h:S[k]?=some u)(g:S[j]?=some v)(d:u≠v):k≠j:=fun e=>by subst e;rw[h] at g;exact d (Option.some.inj g)
theorem zbj.set{k:Nat}{v:Cell}{p:HP}(A:zbj c S p)(h:∀j,j<5->k≠p.i+j):zbj c (S.set k v) p:=
 ⟨by rw[zae (show k≠p.i from h 0 (by decide))];exact A.o,by rw[zae (h 1 (by decide))];exact A.a0,by rw[zae (h 2 (by decide))];exact A.a1,by rw[zae (h 3 (by decide))];exact A.a2,by rw[zae (h 4 (by decide))];exact A.a3⟩
theorem za4.lt{h:Nat}{pl:List PlM}{ps:List HP}(A:za4 c S h pl ps):h+2<S.length:=(List.getElem?_eq_some_iff.mp A.pieces).1
theorem zbj.lt{p:HP}(A:zbj c S p):p.i+4<S.length:=(List.getElem?_eq_some_iff.mp A.a3).1
theorem za4.hang{h:Nat}{pl:List PlM}{ps:List HP}(A:za4 c S h pl ps){nm q:Str}{dd:T}{br:Option Str}(hn:nm∉ps.map (·.nm)) :
  za4 c (S.set (h+2) (.dic (psD (ps++[newP nm q dd br S.length])))++(newP nm q dd br S.length).block c) h pl (ps++[newP nm q dd br S.length]):=by
 have hl:=A.lt;have len:(S.set (h+2) (.dic (psD (ps++[newP nm q dd br S.length])))).length=S.length:=by simp
 have nb:∀j,(S.set (h+2) (.dic (psD (ps++[newP nm q dd br S.length])))++(newP nm q dd br S.length).block c)[S.length+j]?=((newP nm q dd br S.length).block c)[j]?:=fun j=>by
  have:=getR (S:=S.set (h+2) (.dic (psD (ps++[newP nm q dd br S.length])))) ((newP nm q dd br S.length).block c) j;rw[len] at this;exact this
 have hpc:∀p∈ps,zbj c (S.set (h+2) (.dic (psD (ps++[newP nm q dd br S.length])))++(newP nm q dd br S.length).block c) p:=fun p hp=>((A.piece p hp).set (fun j hj=>by have:=A.far p hp;omega)).app;refine⟨zbr (by rw[zae (by omega)];exact A.hall),zbr (by rw[zae (by omega)];exact A.places),zbr (zdm A.pieces),fun p hp=>zbr ?_,fun p hp=>?_,fun p hp=>?_,?_,?_⟩
 ·rw[zae (zg2 A.pieces (A.place p hp) (by intro z;cases z))];exact A.place p hp
 ·rcases List.mem_append.mp hp with hp | hp
  ·exact hpc p hp
  ·rw[List.mem_singleton.mp hp]
   exact⟨nb 0,nb 1,nb 2,nb 3,nb 4⟩
 ·rcases List.mem_append.mp hp with hp | hp
  ·exact A.far p hp
  ·rw[List.mem_singleton.mp hp];show h+3<=S.length;omega
 ·rw[List.pairwise_append]
  refine⟨A.pw,by simp,fun p hp r hr=>?_⟩;rw[List.mem_singleton.mp hr];show p.i+5<=S.length;have:=(A.piece p hp).lt;omega
 ·rw[List.map_append]
  refine List.nodup_append.mpr ⟨A.nd,by simp,fun x hx y hy e=>?_⟩;simp only[List.map_cons,List.map_nil,List.mem_singleton] at hy;subst e;rw[hy] at hx;exact hn hx
theorem za4.block{S':Sto}{h:Nat}{pl:List PlM}{ps:List HP}(A:za4 c S h pl ps){p p':HP}(hp:p∈ps)(hnm:p'.nm=p.nm)(hi:p'.i=p.i)(hout:∀k,(k<p.i\/p.i+5<=k)->S'[k]?=S[k]?)
  (hA:zbj c S' p'):za4 c S' h pl (ps.map fun q=>if q.nm=p.nm then p' else q):=by
 have hf:=A.far p hp;have P:=A.piece p hp;have eqp:∀q∈ps,q.nm=p.nm->q=p:=fun q hq e=>by
  have h1:=zjd A.nd hq;have h2:=zjd A.nd hp;rw[e,h2] at h1;exact(Option.some.inj h1).symm
 have far:∀q∈ps,q.nm≠p.nm->p.i+5<=q.i\/q.i+5<=p.i:=fun q hq ne=>by
  have hne:q≠p:=fun e=>ne (by rw[e]);have pw:=A.pw;have:∀l:List HP,l.Pairwise (fun p q=>p.i+5<=q.i)->p∈l->q∈l->p.i+5<=q.i\/q.i+5<=p.i:=by
   intro l
   induction l with
   |nil=>intro _ h;cases h
   | cons a l ih=>
     intro pw h1 h2;rw[List.pairwise_cons] at pw;rcases List.mem_cons.mp h1 with e1 | g1
     ·rcases List.mem_cons.mp h2 with e2 | g2
      ·exact absurd (e2.trans e1.symm) hne
      ·rw[e1];exact .inl (pw.1 q g2)
     ·rcases List.mem_cons.mp h2 with e2 | g2
      ·rw[e2];exact .inr (pw.1 p g1)
      ·exact ih pw.2 g1 g2
  exact this ps pw hp hq
 have mapI:∀q:HP,(if q.nm=p.nm then p' else q).nm=q.nm:=fun q=>by split<;>simp_all
 have mapD:psD (ps.map fun q=>if q.nm=p.nm then p' else q)=psD ps:=by
  unfold psD;rw[List.map_map];refine List.map_congr_left fun q hq=>?_;show(Sum.inr (if q.nm=p.nm then p' else q).nm,T.obj (if q.nm=p.nm then p' else q).i)=_;rw[mapI];by_cases e:q.nm=p.nm
  ·rw[if_pos e,hi,eqp q hq e]
  ·rw[if_neg e]
 refine⟨by rw[hout _ (by omega)];exact A.hall,by rw[hout _ (by omega)];exact A.places,by rw[hout _ (by omega),mapD];exact A.pieces,fun q hq=>?_,fun q hq=>?_,fun q hq=>?_,?_,?_⟩
 ·have Q:=A.place q hq
  have n0:=zg2 P.o Q (by intro z;injection z with _ z2;simp[HP.fs] at z2);have n1:=zg2 P.a0 Q (by intro z;cases z);have n2:=zg2 P.a1 Q (by intro z;cases z);have n3:=zg2 P.a2 Q (by intro z;cases z);have n4:=zg2 P.a3 Q (by intro z;cases z);rw[hout _ (by omega)];exact Q
 ·obtain⟨r,hr,rfl⟩:=List.mem_map.mp hq
  by_cases e:r.nm=p.nm
  ·rw[if_pos e];exact hA
  ·rw[if_neg e]
   have R:=A.piece r hr;have fr:=far r hr e;exact⟨by rw[hout _ (by omega)];exact R.o,by rw[hout _ (by omega)];exact R.a0,by rw[hout _ (by omega)];exact R.a1,by rw[hout _ (by omega)];exact R.a2,by rw[hout _ (by omega)];exact R.a3⟩
 ·obtain⟨r,hr,rfl⟩:=List.mem_map.mp hq
  by_cases e:r.nm=p.nm
  ·rw[if_pos e,hi];exact hf
  ·rw[if_neg e];exact A.far r hr
 ·rw[List.pairwise_map]
  refine A.pw.imp_of_mem fun {a b} ha hb hab=>?_;have ia:(if a.nm=p.nm then p' else a).i=a.i:=by
   by_cases e:a.nm=p.nm
   ·rw[if_pos e,hi,eqp a ha e]
   ·rw[if_neg e]
  have ib:(if b.nm=p.nm then p' else b).i=b.i:=by
   by_cases e:b.nm=p.nm
   ·rw[if_pos e,hi,eqp b hb e]
   ·rw[if_neg e]
  rw[ia,ib];exact hab
 ·rw[List.map_map]
  rw[show((fun x:HP=>x.nm)∘fun q=>if q.nm=p.nm then p' else q)=fun q:HP=>q.nm from funext fun q=>mapI q];exact A.nd
theorem zbj.w0{p:HP}(A:zbj c S p)(l:List Str):zbj c (S.set (p.i+1) (.lst (l.map .str))) { p with w0:=l }:=
 ⟨by rw[zae (show p.i+1≠p.i by omega)];exact A.o,zdm A.a0,by rw[zae (show p.i+1≠p.i+2 by omega)];exact A.a1,by rw[zae (show p.i+1≠p.i+3 by omega)];exact A.a2,by rw[zae (show p.i+1≠p.i+4 by omega)];exact A.a3⟩
theorem zbj.w1{p:HP}(A:zbj c S p)(l:List Str):zbj c (S.set (p.i+2) (.lst (l.map .str))) { p with w1:=l }:=
 ⟨by rw[zae (show p.i+2≠p.i by omega)];exact A.o,by rw[zae (show p.i+2≠p.i+1 by omega)];exact A.a0,zdm A.a1,by rw[zae (show p.i+2≠p.i+3 by omega)];exact A.a2,by rw[zae (show p.i+2≠p.i+4 by omega)];exact A.a3⟩
theorem zbj.w2{p:HP}(A:zbj c S p)(l:List Str):zbj c (S.set (p.i+3) (.lst (l.map .str))) { p with w2:=l }:=
 ⟨by rw[zae (show p.i+3≠p.i by omega)];exact A.o,by rw[zae (show p.i+3≠p.i+1 by omega)];exact A.a0,by rw[zae (show p.i+3≠p.i+2 by omega)];exact A.a1,zdm A.a2,by rw[zae (show p.i+3≠p.i+4 by omega)];exact A.a3⟩
theorem zbj.w3{p:HP}(A:zbj c S p)(l:List Str):zbj c (S.set (p.i+4) (.lst (l.map .str))) { p with w3:=l }:=
 ⟨by rw[zae (show p.i+4≠p.i by omega)];exact A.o,by rw[zae (show p.i+4≠p.i+1 by omega)];exact A.a0,by rw[zae (show p.i+4≠p.i+2 by omega)];exact A.a1,by rw[zae (show p.i+4≠p.i+3 by omega)];exact A.a2,zdm A.a3⟩
theorem zbj.turn{p:HP}(A:zbj c S p)(b:Bool):zbj c (S.set p.i (.ins c.piece { p with on:=b }.fs)) { p with on:=b }:=
 ⟨zdm A.o,by rw[zae (show p.i≠p.i+1 by omega)];exact A.a0,by rw[zae (show p.i≠p.i+2 by omega)];exact A.a1,by rw[zae (show p.i≠p.i+3 by omega)];exact A.a2,by rw[zae (show p.i≠p.i+4 by omega)];exact A.a3⟩
end DN
namespace DN
open PySem L2 MF
variable {c:Cl}{S:Sto}{ρ:Ev}
theorem zh0(l:List Str):zcy c [strL l] S=.ok (strL l) S:=by simp[zcy,znz,gIs,zk4,strL,zpd,zff]
theorem zp2(l:List Str):zcy c [.tup (l.map T.str)] S=.ok (strL l) S:=by simp[zcy,znz,gIs,zk4,strL,zpd,zff]
theorem zkm{kvs:List (Key×T)}{k:Key}{v:T}(h:valT kvs k=none):putT kvs k v=kvs++[(k,v)]:=by
 unfold putT;rw[if_neg];intro z;obtain⟨p,hp,e⟩:=List.any_eq_true.mp z;unfold valT at h;rw[Option.map_eq_none_iff,List.find?_eq_none] at h;exact h p hp e
theorem zxv{ps:List HP}{x:Str}(h:x∉ps.map (·.nm)):ps.find? (fun p=>decide (p.nm=x))=none:=by
 rw[List.find?_eq_none];intro p hp e;exact h (List.mem_map.mpr ⟨p,hp,by simpa using e⟩)
theorem z7k{h:Nat}{pl:List PlM}{ps:List HP}(A:za4 c S h pl ps){nm q:Str}{dd:T}{pm:PlM}(hn:nm∉ps.map (·.nm))(hq:pl.find? (fun p=>decide (p.nm=q))=some pm)(hl:ps.length<24) :
  zfj c [.obj h,.str nm,.str q,dd,.non] S=.ok .non (S.set (h+2) (.dic (psD (ps++[newP nm q dd none S.length])))++(newP nm q dd none S.length).block c):=by
 have e1:valT (psD ps) (.inr nm)=none:=by rw[zro,zxv hn];rfl
 have hm:=zid (m:=Str.ofString "find_place") h (by simp) (by simp);have e2:=zj5 A hq;have hlen:¬(24:Int)<=(psD ps).length:=by simp[psD];omega
 have e3:=zp1 (c:=c) (S:=S) nm q dd none;have len:=A.lt;have e4:(S++(newP nm q dd none S.length).block c)[h+2]?=some (.dic (psD ps)):=zbr A.pieces;have e5:(S++(newP nm q dd none S.length).block c).set (h+2) (.dic (putT (psD ps) (.inr nm) (.obj S.length)))=S.set (h+2) (.dic (psD (ps++[newP nm q dd none S.length])))++(newP nm q dd none S.length).block c:=by
  rw[List.set_append_left _ _ (by omega),zkm e1];simp[psD,newP]
 have e6:(psD ps).length<=900:=by simp[psD];omega
 have A2:zhc (S++(newP nm q dd none S.length).block c) c.hall (.obj h)=some (h,zew h):=zhb (zbr A.hall);have e7:zpc (.obj (h+2)) S=.ok (.int (psD ps).length) S:=by simp[zpc,A.pieces]
 have e3':zb2 c [.obj S.length,.str q,dd,.non] (S++[.ins c.piece []])=.ok .non (S++(newP nm q dd none S.length).block c):=e3;simp[zfj,zlg,A.ins,zin,gDin,A.dPieces,keyT,e1,hm,e2,zhj,zk4,e7,hlen,e3',A2,e4,e6,e5]
theorem z1t{h:Nat}{pl:List PlM}{ps:List HP}(A:za4 c S h pl ps){nm k r:Str}(hn:pl.find? (fun p=>decide (p.nm=nm))=none)(hl:pl.length<8) :
  zbv c [.obj h,.str nm,.str k,.str r] S=.ok .non (S.set (h+1) (.dic (plD (pl++[⟨nm,k,r,S.length⟩])))++[.ins c.place [("kind",.str k),("rule",.str r)]]):=by
 have e1:valT (plD pl) (.inr nm)=none:=by rw[zrp,hn];rfl
 have hlen:¬(8:Int)<=(plD pl).length:=by simp[plD];omega
 have e3:=zp0 (c:=c) (S:=S) k r;have len:=A.lt;have e4:(S++[Cell.ins c.place [("kind",.str k),("rule",.str r)]])[h+1]?=some (.dic (plD pl)):=zbr A.places;have e5:(S++[Cell.ins c.place [("kind",.str k),("rule",.str r)]]).set (h+1) (.dic (putT (plD pl) (.inr nm) (.obj S.length)))=S.set (h+1) (.dic (plD (pl++[⟨nm,k,r,S.length⟩])))++[.ins c.place [("kind",.str k),("rule",.str r)]]:=by
  rw[List.set_append_left _ _ (by omega),zkm e1];simp[plD]
 have e6:(plD pl).length<=900:=by simp[plD];omega
 have A2:zhc (S++[Cell.ins c.place [("kind",.str k),("rule",.str r)]]) c.hall (.obj h)=some (h,zew h):=zhb (zbr A.hall);have e7:zpc (.obj (h+1)) S=.ok (.int (plD pl).length) S:=by simp[zpc,A.places]
 generalize hN:(S++[Cell.ins c.place [("kind",.str k),("rule",.str r)]])=N at e3 e4 e5 A2;simp[zbv,zgb,A.ins,zln,gDin,A.dPlaces,keyT,e1,e7,hlen,e3,A2,e4,e6,e5]
theorem za4.open_{h:Nat}{pl:List PlM}{ps:List HP}(A:za4 c S h pl ps){nm k r:Str} :
  za4 c (S.set (h+1) (.dic (plD (pl++[⟨nm,k,r,S.length⟩])))++[.ins c.place [("kind",.str k),("rule",.str r)]]) h (pl++[⟨nm,k,r,S.length⟩]) ps:=by
 have len:=A.lt;refine⟨zbr (by rw[zae (by omega)];exact A.hall),zbr (zdm A.places),zbr (by rw[zae (by omega)];exact A.pieces),fun q hq=>?_,fun p hp=>((A.piece p hp).set (fun j hj=>by have:=A.far p hp;omega)).app,A.far,A.pw,A.nd⟩;rcases List.mem_append.mp hq with hq | hq
 ·exact zbr (by rw[zae (zg2 A.places (A.place q hq) (by intro z;cases z))];exact A.place q hq)
 ·rw[List.mem_singleton.mp hq]
  have:=zrq (S:=S.set (h+1) (.dic (plD (pl++[⟨nm,k,r,S.length⟩])))) [Cell.ins c.place [("kind",.str k),("rule",.str r)]];rw[List.length_set] at this;exact this
theorem zsz(p:HP):List.lookup (Str.ofString "ahead") p.fs=some (.obj (p.i+1)):=by simp[HP.fs,List.lookup_cons]
theorem zp3(p:HP):List.lookup (Str.ofString "behind") p.fs=some (.obj (p.i+2)):=by simp[HP.fs,List.lookup_cons]
theorem z0e(p:HP):List.lookup (Str.ofString "needs") p.fs=some (.obj (p.i+3)):=by simp[HP.fs,List.lookup_cons]
theorem z3x(p:HP):List.lookup (Str.ofString "bars") p.fs=some (.obj (p.i+4)):=by simp[HP.fs,List.lookup_cons]
def zg3(p:HP)(l0 l1 l2 l3:List Str):HP:={ p with w0:=p.w0++l0,w1:=p.w1++l1,w2:=p.w2++l2,w3:=p.w3++l3 }
theorem zs0{k:Nat}{w l:List Str}(h:S[k]?=some (.lst (w.map .str)))(hl:w.length+l.length<=1000):gExt (.obj k) [strL l] S=.ok .non (S.set k (.lst ((w++l).map .str))):=by
 have:=z3l (y:=strL l) h rfl (by simpa using hl);rw[this,List.map_append]
theorem z7l{h:Nat}{pl:List PlM}{ps:List HP}(A:za4 c S h pl ps){p:HP}(hp:p∈ps){t0 t1 t2 t3:T}{l0 l1 l2 l3:List Str}
  (e0:∀S,zcy c [t0] S=.ok (strL l0) S) (e1:∀S,zcy c [t1] S=.ok (strL l1) S) (e2:∀S,zcy c [t2] S=.ok (strL l2) S) (e3:∀S,zcy c [t3] S=.ok (strL l3) S)
  (b0:p.w0.length+l0.length<=1000) (b1:p.w1.length+l1.length<=1000) (b2:p.w2.length+l2.length<=1000) (b3:p.w3.length+l3.length<=1000) :
  ∃S',zfk c [.obj h,.str p.nm,t0,t1,t2,t3] S=.ok .non S'/\za4 c S' h pl (ps.map fun q=>if q.nm=p.nm then zg3 p l0 l1 l2 l3 else q)/\S'.length=S.length/\∀k,(k<p.i\/p.i+5<=k)->S'[k]?=S[k]?:=by
 have P0:=A.piece p hp;have P1:=P0.w0 (p.w0++l0);have P2:=P1.w1 (p.w1++l1);have P3:=P2.w2 (p.w2++l2);have P4:=P3.w3 (p.w3++l3);have hm:=zid (m:=Str.ofString "find_piece") h (by simp) (by simp);have ef:=zhz A (zjd A.nd hp);have x0:=zs0 P0.a0 b0;have x1:=zs0 P1.a1 b1;have x2:=zs0 P2.a2 b2;have x3:=zs0 P3.a3 b3;have i0:=zhb P0.o;have i1:=zhb P1.o;have i2:=zhb P2.o;have i3:=zhb P3.o;have k0:=zj7 P0.a0;have k1:=zj7 P1.a1;have k2:=zj7 P2.a2;have k3:=zj7 P3.a3;have q1:({ p with w0:=p.w0++l0 }:HP).fs=p.fs:=rfl;have q2:({ p with w0:=p.w0++l0,w1:=p.w1++l1 }:HP).fs=p.fs:=rfl;have q3:({ p with w0:=p.w0++l0,w1:=p.w1++l1,w2:=p.w2++l2 }:HP).fs=p.fs:=rfl;simp only at x0 x1 x2 x3 i0 i1 i2 i3 k0 k1 k2 k3;rw[q1] at i1;rw[q2] at i2;rw[q3] at i3;have out:∀k,(k<p.i\/p.i+5<=k)->((((S.set (p.i+1) (.lst ((p.w0++l0).map .str))).set (p.i+2) (.lst ((p.w1++l1).map .str))).set (p.i+3) (.lst ((p.w2++l2).map .str))).set (p.i+4) (.lst ((p.w3++l3).map .str)))[k]?=S[k]?:=fun k hk=>by
  rw[zae (by omega),zae (by omega),zae (by omega),zae (by omega)]
 refine⟨_,?_,A.block hp (p':=zg3 p l0 l1 l2 l3) rfl rfl out P4,by simp,out⟩;generalize hS1:S.set (p.i+1) (.lst ((p.w0++l0).map .str))=S1 at *;generalize hS2:S1.set (p.i+2) (.lst ((p.w1++l1).map .str))=S2 at *;generalize hS3:S2.set (p.i+3) (.lst ((p.w2++l2).map .str))=S3 at *;generalize hS4:S3.set (p.i+4) (.lst ((p.w3++l3).map .str))=S4 at *;simp[zfk,zlh,A.ins,hm,ef,i0,i1,i2,i3,zsz,zp3,z0e,z3x,k0,k1,k2,k3,e0,e1,e2,e3,x0,x1,x2,x3]
theorem z0f{h:Nat}{pl:List PlM}{ps:List HP}(A:za4 c S h pl ps){p:HP}(hp:p∈ps)(b:Bool) :
  ∃S',zd2 c [.obj h,.str p.nm,.bl b] S=.ok .non S'/\za4 c S' h pl (ps.map fun q=>if q.nm=p.nm then { p with on:=b } else q)/\S'.length=S.length/\∀k,(k<p.i\/p.i+5<=k)->S'[k]?=S[k]?:=by
 have P0:=A.piece p hp;have hm:=zid (m:=Str.ofString "find_piece") h (by simp) (by simp);have ef:=zhz A (zjd A.nd hp);have out:∀k,(k<p.i\/p.i+5<=k)->(S.set p.i (.ins c.piece ({ p with on:=b }:HP).fs))[k]?=S[k]?:=fun k hk=>by rw[zae (by omega)]
 have i0:=zhb P0.o;have hfs:zl3 (Str.ofString "on") (.bl b) p.fs=({ p with on:=b }:HP).fs:=by simp[HP.fs]
 have hlen:p.fs.length<900:=by simp[HP.fs]
 refine⟨_,?_,A.block hp (p':={ p with on:=b }) rfl rfl out (P0.turn b),by simp,out⟩;simp[zd2,zi2,A.ins,hm,ef,i0,hfs,hlen]
end DN
namespace DN
open PySem L2 MF
variable {c:Cl}{S:Sto}{ρ:Ev}
structure Rw where
 nm:Str
 pl:Str
 br:Option Str
 on:Bool
def ByOk:List Str->List Rw->Prop
 |_,[]=>True
 |seen,x::r=>(∀b,x.br=some b->b∈seen)/\ByOk (seen++[x.nm]) r
theorem ByOk.filter{G:List Str}:∀(L:List Rw) {seen:List Str},ByOk seen L->(∀x∈L,∀b,x.br=some b->b∈G->x.nm∈G)->ByOk (seen.filter fun y=>!G.contains y) (L.filter fun x=>!G.contains x.nm)
 |[],_,_,_=>trivial
 | x::L,seen,h,hc=>by
   have ih:=ByOk.filter L h.2 fun y hy=>hc y (List.mem_cons_of_mem _ hy);rw[List.filter_append] at ih;by_cases z:x.nm∈G
   ·rw[List.filter_cons_of_neg (by simp[z])]
    rw[show[x.nm].filter (fun y=>!G.contains y)=[] by simp[z],List.append_nil] at ih;exact ih
   ·rw[List.filter_cons_of_pos (by simp[z])]
    rw[show[x.nm].filter (fun y=>!G.contains y)=[x.nm] by simp[z]] at ih;refine⟨fun b hb=>List.mem_filter.mpr ⟨h.1 b hb,?_⟩,ih⟩;have:b∉G:=fun hm=>z (hc x (List.mem_cons_self ..) b hb hm);simp[this]
theorem ByOk.map{f:Rw->Rw}(h1:∀x,(f x).nm=x.nm)(h2:∀x,(f x).br=x.br):∀(L:List Rw) {seen:List Str},ByOk seen L->ByOk seen (L.map f)
 |[],_,_=>trivial
 |x::L,seen,h=>⟨by rw[h2];exact h.1,by rw[h1];exact ByOk.map h1 h2 L h.2⟩
theorem zg4:∀(l m:List Str),l.Nodup->(∀x∈l,x∈m)->l.length<=m.length
 |[],_,_,_=>Nat.zero_le _
 | x::l,m,nd,h=>by
   rw[List.nodup_cons] at nd;have:=zg4 l (m.erase x) nd.2 fun y hy=>(List.mem_erase_of_ne (fun e=>nd.1 (by rw[<- e];exact hy))).mpr (h y (List.mem_cons_of_mem _ hy));rw[List.length_erase_of_mem (h x (List.mem_cons_self ..))] at this;have:=List.length_pos_of_mem (h x (List.mem_cons_self ..));rw[List.length_cons];omega
def HP.rw(p:HP):Rw:=⟨p.nm,p.pl,p.br,p.on⟩
def zbc(g:List Str):List (Key×T):=g.map fun x=>(.inr x,.bl true)
theorem zgi(x:Str):∀(g:List Str),valT (zbc g) (.inr x)=if x∈g then some (.bl true) else none
 |[]=>by simp[valT,zbc]
 | y::g=>by
   have ih:=zgi x g;by_cases h:y=x
   ·simp[valT,zbc,h]
   ·have e:valT (zbc (y::g)) (.inr x)=valT (zbc g) (.inr x):=by simp[valT,zbc,List.find?_cons,h]
    rw[e,ih];simp[Ne.symm h]
theorem zmz(g:List Str)(x:Str)(h:x∉g):putT (zbc g) (.inr x) (.bl true)=zbc (g++[x]):=by
 rw[zkm (by rw[zgi,if_neg h])];simp[zbc]
theorem z0g{k:Nat}{v:Cell}(h:S[k]?=some v):S.set k v=S:=by
 obtain⟨hl,e⟩:=List.getElem?_eq_some_iff.mp h;rw[<- e];exact List.set_getElem_self hl
theorem zs1(p:HP):List.lookup (Str.ofString "place") p.fs=some (.str p.pl):=by simp[HP.fs,List.lookup_cons]
theorem z7m(p:HP):List.lookup (Str.ofString "on") p.fs=some (.bl p.on):=by simp[HP.fs,List.lookup_cons]
end DN
namespace DN
open PySem L2 MF
variable {sec:Str->List Str}
def zcj(sec:Str->List Str)(left:List Str)(x:Str):Bool:=!(left.any fun f=>decide (x∈sec f))
def topo(sec:Str->List Str):Nat->List Str->List Str->Option (List Str)
 |0,_,row=>some row
 | n+1,left,row=>match left.find? (zcj sec left) with
   |none=>none
   |some x=>topo sec n (left.erase x) (row++[x])
inductive Path(sec:Str->List Str):Str->Str->Prop
 |one {a b:Str}:b∈sec a->Path sec a b
 |more {a b d:Str}:b∈sec a->Path sec b d->Path sec a d
theorem Path.snoc{a b d:Str}(p:Path sec a b)(h:d∈sec b):Path sec a d:=by
 induction p with
 |one e=>exact .more e (.one h)
 |more e _ ih=>exact .more e (ih h)
theorem z7n{l:List Str}(f:Nat->Str)(h:∀i,f i∈l):∃i j,i<j/\f i=f j:=by
 by_cases z:∃i j,i<j/\f i=f j
 ·exact z
 ·exfalso
  have inj:∀i j,i<j->f i≠f j:=fun i j hij e=>z ⟨i,j,hij,e⟩;have nd:((List.range (l.length+1)).map f).Nodup:=by
   rw[List.Nodup,List.pairwise_map];refine List.Pairwise.imp (fun {a b} hab=>?_) List.pairwise_lt_range;exact inj a b hab
  have:=zg4 _ l nd fun x hx=>by
   obtain⟨i,_,rfl⟩:=List.mem_map.mp hx;exact h i
  simp at this;omega
theorem zul{left:List Str}(hne:left≠[])(h:∀x∈left,∃f∈left,x∈sec f):∃s∈left,Path sec s s:=by
 classical
 obtain⟨x0,hx0⟩:=List.exists_mem_of_ne_nil left hne;let pr:{ x // x∈left }->{ x // x∈left }:=fun x=>⟨(h x.1 x.2).choose,(h x.1 x.2).choose_spec.1⟩;have hpr:∀x,x.1∈sec (pr x).1:=fun x=>(h x.1 x.2).choose_spec.2;let f:Nat->{ x // x∈left }:=fun n=>Nat.rec ⟨x0,hx0⟩ (fun _ x=>pr x) n;have hf:∀n,(f n).1∈sec (f (n+1)).1:=fun n=>hpr (f n);have hp:∀j i,i<j->Path sec (f j).1 (f i).1:=by
  intro j
  induction j with
  |zero=>intro i hi;omega
  | succ j ih=>
    intro i hi;by_cases z:i=j
    ·subst z;exact .one (hf i)
    ·exact .more (hf j) (ih i (by omega))
 obtain⟨i,j,hij,e⟩:=z7n (fun n=>(f n).1) fun n=>(f n).2;have p:=hp j i hij;have e:(f i).1=(f j).1:=e;rw[e] at p;exact⟨(f j).1,(f j).2,p⟩
def zc7(row:List Str):Str:=row.getLast?.getD Str.empty
def rt1(start:Str)(row:List Str):List Str->List Str->List (List Str)->Option (List Str×List (List Str))
 |[],re,lo=>some (re,lo)
 |s::r,re,lo=>if s=start then none else if s∈re then rt1 start row r re lo else rt1 start row r (re++[s]) (lo++[row++[s]])
def rt2(sec:Str->List Str)(start:Str):List (List Str)->List Str->List (List Str)->Except (List Str) (List Str×List (List Str))
 |[],re,lo=>.ok (re,lo)
 | row::rs,re,lo=>match rt1 start row (sec (zc7 row)) re lo with
   |none=>.error row
   |some (re',lo')=>rt2 sec start rs re' lo'
def rt3(sec:Str->List Str)(start:Str):Nat->List (List Str)->List Str->List Str
 |0,_,_=>[]
 | n+1,rows,re=>if rows=[] then[] else match rt2 sec start rows re [] with
   |.error row=>row
   |.ok (re',lo)=>rt3 sec start n lo re'
structure zh1(names:List Str)(re:List Str)(row:List Str):Prop where
 ne:row≠[]
 sub:∀x∈row,x∈names
 len:row.length<=re.length
structure ReOk(names re:List Str):Prop where
 nd:re.Nodup
 sub:∀x∈re,x∈names
theorem zlo(row:List Str)(s:Str):zc7 (row++[s])=s:=by simp[zc7]
theorem zs2{row:List Str}(h:row≠[]):zc7 row∈row:=by
 unfold zc7;rw[List.getLast?_eq_some_getLast h];exact List.getLast_mem h
theorem zh1.mono{names re re' row:List Str}(r:zh1 names re row)(h:re.length<=re'.length):zh1 names re' row:=⟨r.ne,r.sub,Nat.le_trans r.len h⟩
theorem zs3{names:List Str}{start:Str}{row:List Str}:∀(ss re:List Str) (lo:List (List Str)),(∀s∈ss,s∈names)->ReOk names re->zh1 names re row->(∀r∈lo,zh1 names re r)->lo.length<=re.length->∀re' lo',rt1 start row ss re lo=some (re',lo') ->
  ReOk names re'/\(∀r∈lo',zh1 names re' r)/\lo'.length<=re'.length/\(∃u,re'=re++u)/\(∃v,lo'=lo++v/\(v=[]\/re.length<re'.length))/\(∀s∈ss,s≠start/\s∈re')/\(∀x∈re',x∈re\/∃r∈lo',zc7 r=x)
 | [],re,lo,hs,h1,h2,h3,h4,re',lo',e=>by
   cases e;exact⟨h1,h3,h4,⟨[],by simp⟩,⟨[],by simp,.inl rfl⟩,(by intro s hs;cases hs),fun x hx=>.inl hx⟩
 | s :: ss,re,lo,hs,h1,h2,h3,h4,re',lo',e=>by
   unfold rt1 at e;by_cases z:s=start
   ·rw[if_pos z] at e;cases e
   ·rw [if_neg z] at e
    have hs':∀x∈ss,x∈names:=fun x hx=>hs x (List.mem_cons_of_mem _ hx);by_cases y:s∈re
    ·rw[if_pos y] at e
     obtain⟨a1,a2,a3,⟨u,a4⟩,a5,a6,a7⟩:=zs3 ss re lo hs' h1 h2 h3 h4 re' lo' e;refine⟨a1,a2,a3,⟨u,a4⟩,a5,fun x hx=>?_,a7⟩;rcases List.mem_cons.mp hx with rfl | hx
     ·exact⟨z,by rw[a4];exact List.mem_append_left _ y⟩
     ·exact a6 x hx
    ·rw[if_neg y] at e
     have r1:ReOk names (re++[s]):=⟨by
      rw[List.nodup_append];refine⟨h1.nd,by simp,fun a ha b hb e9=>?_⟩;rw[List.mem_singleton] at hb;subst hb e9;exact y ha,fun x hx=>by
      rcases List.mem_append.mp hx with hx | hx
      ·exact h1.sub x hx
      ·rw[List.mem_singleton.mp hx];exact hs s (List.mem_cons_self ..)⟩
     have ln:(re++[s]).length=re.length+1:=by simp
     have rr:zh1 names (re++[s]) (row++[s]):=⟨by simp,fun x hx=>by
      rcases List.mem_append.mp hx with hx | hx
      ·exact h2.sub x hx
      ·rw[List.mem_singleton.mp hx];exact hs s (List.mem_cons_self ..),by have:=h2.len;simp;omega⟩
     obtain⟨a1,a2,a3,⟨u,a4⟩,⟨v,a5,_⟩,a6,a7⟩:=zs3 ss (re++[s]) (lo++[row++[s]]) hs' r1 (h2.mono (by omega)) (fun r hr=>by
      rcases List.mem_append.mp hr with hr | hr
      ·exact(h3 r hr).mono (by omega)
      ·rw[List.mem_singleton.mp hr];exact rr) (by simp;omega) re' lo' e
     refine⟨a1,a2,a3,⟨s::u,by rw[a4];simp⟩,⟨(row++[s])::v,by rw[a5];simp,.inr (by rw[a4];simp only[List.length_append,List.length_singleton];omega)⟩,fun x hx=>?_,fun x hx=>?_⟩
     ·rcases List.mem_cons.mp hx with rfl | hx
      ·exact⟨z,by rw[a4];simp⟩
      ·exact a6 x hx
     ·rcases a7 x hx with h | h
      ·rcases List.mem_append.mp h with h | h
       ·exact .inl h
       ·exact .inr ⟨row++[s],by rw[a5];simp,by rw[zlo,List.mem_singleton.mp h]⟩
      ·exact .inr h
theorem zp4{names:List Str}{start:Str}(hsec:∀a∈names,∀b∈sec a,b∈names):∀(rows:List (List Str)) (re:List Str) (lo:List (List Str)),ReOk names re->(∀r∈rows,zh1 names re r)->(∀r∈lo,zh1 names re r)->lo.length<=re.length->∀re' lo',rt2 sec start rows re lo=.ok (re',lo') ->
  ReOk names re'/\(∀r∈lo',zh1 names re' r)/\lo'.length<=re'.length/\(∃u,re'=re++u)/\(∃v,lo'=lo++v/\(v=[]\/re.length<re'.length))/\(∀r∈rows,∀s∈sec (zc7 r),s≠start/\s∈re')/\(∀x∈re',x∈re\/∃r∈lo',zc7 r=x)
 | [],re,lo,h1,h2,h3,h4,re',lo',e=>by
   cases e;exact⟨h1,h3,h4,⟨[],by simp⟩,⟨[],by simp,.inl rfl⟩,(by intro s hs;cases hs),fun x hx=>.inl hx⟩
 | row :: rs,re,lo,h1,h2,h3,h4,re',lo',e=>by
   unfold rt2 at e;cases e1:rt1 start row (sec (zc7 row)) re lo with
   |none=>simp only[e1] at e;cases e
   | some q=>
     obtain⟨re1,lo1⟩:=q;simp only[e1] at e;have hr:=h2 row (List.mem_cons_self ..);obtain⟨a1,a2,a3,⟨u,a4⟩,⟨v,a5,a5'⟩,a6,a7⟩:=zs3 _ re lo (hsec _ (hr.sub _ (zs2 hr.ne))) h1 hr h3 h4 re1 lo1 e1;have le1:re.length<=re1.length:=by rw[a4];simp
     obtain⟨b1,b2,b3,⟨u2,b4⟩,⟨v2,b5,b5'⟩,b6,b7⟩:=zp4 hsec rs re1 lo1 a1 (fun r hr=>(h2 r (List.mem_cons_of_mem _ hr)).mono le1) a2 a3 re' lo' e;have le2:re1.length<=re'.length:=by rw[b4];simp
     refine⟨b1,b2,b3,⟨u++u2,by rw[b4,a4];simp⟩,⟨v++v2,by rw[b5,a5];simp,?_⟩,fun r hr' s hs=>?_,fun x hx=>?_⟩
     ·rcases a5' with rfl | h
      ·rcases b5' with rfl | h
       ·exact .inl rfl
       ·exact .inr (by omega)
      ·exact .inr (by omega)
     ·rcases List.mem_cons.mp hr' with rfl | hr'
      ·exact⟨(a6 s hs).1,by rw[b4];exact List.mem_append_left _ (a6 s hs).2⟩
      ·exact b6 r hr' s hs
     ·rcases b7 x hx with h | h
      ·rcases a7 x h with h | ⟨r,hr',e⟩
       ·exact .inl h
       ·exact .inr ⟨r,by rw[b5];exact List.mem_append_left _ hr',e⟩
      ·exact .inr h
theorem zlp{start:Str}:∀(rows:List (List Str)) (re:List Str) (lo:List (List Str)) {row:List Str},rt2 sec start rows re lo=.error row->row∈rows
 | r :: rs,re,lo,row,e=>by
   unfold rt2 at e;cases e1:rt1 start r (sec (zc7 r)) re lo with
   |none=>simp only[e1] at e;cases e;exact List.mem_cons_self ..
   | some q=>
     simp only[e1] at e;exact List.mem_cons_of_mem _ (zlp rs _ _ e)
theorem z1u {names:List Str} {start:Str} (hsec:∀a∈names,∀b∈sec a,b∈names) (hp:Path sec start start):∀(n:Nat) (rows:List (List Str)) (re:List Str),names.length+2<=n+re.length->ReOk names re->(∀r∈rows,zh1 names re r)->start∈re ->
  (∀u∈re,(∀v∈sec u,v≠start/\v∈re)\/∃r∈rows,zc7 r=u)->rt3 sec start n rows re≠[]
 | 0,rows,re,hf,h1,_,_,_=>by
   have:=zg4 re names h1.nd h1.sub;omega
 | n + 1,rows,re,hf,h1,h2,h3,h4=>by
   have stop:(∀u∈re,∀v∈sec u,v≠start/\v∈re)->False:=fun h=>by
    have go:∀a b,Path sec a b->a∈re->b≠start/\b∈re:=by
     intro a b p
     induction p with
     |one e=>exact fun ha=>h _ ha _ e
     |more e _ ih=>exact fun ha=>ih (h _ ha _ e).2
    exact(go _ _ hp h3).1 rfl
   unfold rt3;by_cases z:rows=[]
   ·exact(stop fun u hu=>by
     rcases h4 u hu with h | ⟨r,hr,_⟩
     ·exact h
     ·rw[z] at hr;cases hr).elim
   ·rw [if_neg z]
    cases e:rt2 sec start rows re [] with
    |error row=>exact(h2 row (zlp _ _ _ e)).ne
    | ok q=>
      obtain⟨re',lo⟩:=q;obtain⟨a1,a2,a3,⟨u,a4⟩,⟨v,a5,a5'⟩,a6,a7⟩:=zp4 hsec rows re [] h1 h2 (by intro r hr;cases hr) (Nat.zero_le _) re' lo e;have h4':∀u∈re',(∀v∈sec u,v≠start/\v∈re')\/∃r∈lo,zc7 r=u:=fun x hx=>by
       rcases a7 x hx with h | h
       ·rcases h4 x h with g | ⟨r,hr,rfl⟩
        ·exact .inl fun v hv=>⟨(g v hv).1,by rw[a4];exact List.mem_append_left _ (g v hv).2⟩
        ·exact .inl fun v hv=>a6 r hr v hv
       ·exact .inr h
      rw[List.nil_append] at a5;rcases a5' with y | y
      ·rw[y] at a5
       subst a5;have hall:∀u∈re',∀v∈sec u,v≠start/\v∈re':=fun u hu=>by
        rcases h4' u hu with h | ⟨r,hr,_⟩
        ·exact h
        ·cases hr
       have go:∀a b,Path sec a b->a∈re'->b≠start/\b∈re':=by
        intro a b p
        induction p with
        |one e=>exact fun ha=>hall _ ha _ e
        |more e _ ih=>exact fun ha=>ih (hall _ ha _ e).2
       exact((go _ _ hp (by rw[a4];exact List.mem_append_left _ h3)).1 rfl).elim
      ·exact z1u hsec hp n lo re' (by omega) a1 a2 (by rw[a4];exact List.mem_append_left _ h3) h4'
theorem zxw{names:List Str}{start:Str}(hsec:∀a∈names,∀b∈sec a,b∈names):∀(n:Nat) (rows:List (List Str)) (re:List Str),ReOk names re->(∀r∈rows,zh1 names re r)->(∀x∈rt3 sec start n rows re,x∈names)/\(rt3 sec start n rows re).length<=names.length
 |0,rows,re,h1,h2=>by simp[rt3]
 | n+1,rows,re,h1,h2=>by
   unfold rt3;by_cases z:rows=[]
   ·rw[if_pos z];simp
   ·rw[if_neg z]
    cases e:rt2 sec start rows re [] with
    | error row=>
      have r:=h2 row (zlp _ _ _ e);have:=zg4 re names h1.nd h1.sub;exact⟨r.sub,Nat.le_trans r.len this⟩
    | ok q=>
      obtain⟨re',lo⟩:=q;obtain⟨a1,a2,_⟩:=zp4 hsec rows re [] h1 h2 (by intro r hr;cases hr) (Nat.zero_le _) re' lo e;exact zxw hsec n lo re' a1 a2
end DN
namespace DN
open PySem L2 MF
variable {c:Cl}{S:Sto}{ρ:Ev}
@[simp]theorem z99(acc:Str):jT acc [] ρ S=(if acc.length<=1000 then .ok (.str acc) S else .bad):=rfl
@[simp]theorem z9e(acc:Str)(f:DE)(fs:List DE):jT acc (f::fs) ρ S=(f ρ).bind (fun t=>match t with
 |.str y=>(fun S=>if(acc++y).length<=1000 then jT (acc++y) fs ρ S else .bad)
 |_=>M.bad) S:=rfl
@[simp]theorem Zaa(y:Str):zq6 (.str y) S=(if(reprText y).length<=1000 then .ok (.str (reprText y)) S else .bad):=rfl
@[simp]theorem z9f(C:Addr)(fr:DA):zhn C fr ρ S=(fr ρ).bind (fun ts=>fun S=>if ts.length<=1000 then .exc C none S else .bad) S:=rfl
@[simp] theorem Zay (fb:DS) (js:List Nat) (fh:DH):dTry fb js fh ρ S=(match fb ρ S with
  |.ok x S'=>.ok x S'
  |.exc C fs S'=>fh C fs (msk js ρ) S'
  |.bad=>.bad):=by unfold dTry;split<;>simp_all
theorem zxx{q:Str}:∀(ps:List HP) {x0 x1:Option T} {acc:List T},(∀p∈ps,S[p.i]?=some (.ins c.piece p.fs))->acc.length+ps.length<=900 ->
  zfh (fun _=>True) (zt8 0 1) (zc3 c) (zej c) (zf9 (psD ps)) [x0,x1,some (.str q)] acc S=.ok (acc++((ps.filter fun p=>decide (p.pl=q)&&p.on).map fun p=>T.str p.nm)) S
 | [],x0,x1,acc,_,_=>by
   show zfh _ _ _ _ [] _ acc S=_;unfold zfh;rw[if_pos trivial];simp
 | p :: ps,x0,x1,acc,hp,hl=>by
   have i:=zhb (hp p (List.mem_cons_self ..));rw[List.length_cons] at hl;have ih:=fun(acc:List T) (ha:acc.length+ps.length<=900)=>zxx (q:=q) ps (x0:=some (.str p.nm)) (x1:=some (.obj p.i)) (acc:=acc) (fun r hr=>hp r (List.mem_cons_of_mem _ hr)) ha;have ht:zc3 c [some (.str p.nm),some (.obj p.i),some (.str q)] S=.ok (decide (p.pl=q)&&p.on) S:=by
    by_cases z:p.pl=q
    ·simp[zc3,i,zs1,z7m,z]
    ·simp[zc3,i,zs1,z7m,z]
   have he:zej c [some (.str p.nm),some (.obj p.i),some (.str q)] S=.ok (.str p.nm) S:=by simp[zej]
   show zfh _ _ _ _ (.tup [.str p.nm,.obj p.i]::zf9 (psD ps)) _ acc S=_;unfold zfh;rw[if_pos trivial];show(M.bind (zc3 c [some (.str p.nm),some (.obj p.i),some (.str q)]) _) S=_;rw[zan,ht];have hacc:acc.length<1000:=by omega
   cases z:(decide (p.pl=q)&&p.on) with
   | false=>
     rw[List.filter_cons_of_neg (by rw[z];decide)];exact ih acc (by omega)
   | true=>
     rw[List.filter_cons_of_pos (by rw[z]),List.map_cons];have:=ih (acc++[.str p.nm]) (by rw[List.length_append,List.length_singleton];omega);rw[List.append_assoc] at this;simp only[if_true,zan,he,z6x,hacc];exact this
theorem f_at{h:Nat}{pl:List PlM}{ps:List HP}(A:za4 c S h pl ps){q:Str}{pm:PlM}(hq:pl.find? (fun p=>decide (p.nm=q))=some pm)(hl:ps.length<=800) :
  zge c [.obj h,.str q] S=.ok (strL ((ps.filter fun p=>decide (p.pl=q)&&p.on).map (·.nm))) S:=by
 have hm:=zid (m:=Str.ofString "find_place") h (by simp) (by simp);have e2:=zj5 A hq;have lk:=A.pieces;have len:=A.lt;have ec:zph zf9 2 [1] (zgp c) (zt8 0 1) (zc3 c) (zej c) finF [some (.obj h),some (.str q)] S=.ok (strL ((ps.filter fun p=>decide (p.pl=q)&&p.on).map (·.nm))) S:=by
  have e1:zgp c [some (.obj h),some (.str q)] S=.ok (.obj (h+2)) S:=by simp[zgp,A.ins,zin]
  have cc:=zxx (c:=c) (S:=S.set (h+2) (.lck (psD ps))) (q:=q) ps (x0:=none) (x1:=none) (acc:=[]) (fun p hp=>by rw[zae (by have:=A.far p hp;omega)];exact(A.piece p hp).o) (by simp;omega);have q2:(S.set (h+2) (.lck (psD ps))).set (h+2) (.dic (psD ps))=S:=by rw[List.set_set,z0g lk]
  have q1:(S.set (h+2) (.lck (psD ps)))[h+2]?=some (.lck (psD ps)):=zdm lk;unfold zph;rw[zan,e1];show(match S[h+2]? with|some (.dic kvs)=>unl (h+2) kvs (M.bind (noX (zfh _ _ _ _ (zf9 kvs) [none,none,some (.str q)] [])) finF (S.set (h+2) (.lck kvs))) | _=>.bad)=_;rw[lk];show unl (h+2) (psD ps) (M.bind (noX (zfh _ _ _ _ (zf9 (psD ps)) [none,none,some (.str q)] [])) finF (S.set (h+2) (.lck (psD ps))))=_;have:noX (zfh (fun _=>True) (zt8 0 1) (zc3 c) (zej c) (zf9 (psD ps)) [none,none,some (.str q)] []) (S.set (h+2) (.lck (psD ps)))=.ok ([]++((ps.filter fun p=>decide (p.pl=q)&&p.on).map fun p=>T.str p.nm)) (S.set (h+2) (.lck (psD ps))):=by
   unfold noX;rw[cc]
  rw[zan,this];show unl (h+2) (psD ps) (R.ok (T.lst ([]++((ps.filter fun p=>decide (p.pl=q)&&p.on).map fun p=>T.str p.nm))) (S.set (h+2) (.lck (psD ps))))=_;unfold unl;simp only[q1,if_true,q2];simp[strL]
 simp[zge,zpq,A.ins,hm,e2,ec]
end DN
namespace DN
open PySem L2 MF
variable {c:Cl}{S:Sto}{ρ:Ev}{sec:Str->List Str}{names:List Str}
def secD(names:List Str)(sec:Str->List Str):T:=.dic (names.map fun n=>(.inr n,.dic (zbc (sec n))))
theorem zn7{g:Str->T}{n:Str}:∀{names:List Str},n∈names->valT (names.map fun n=>(Sum.inr n,g n)) (.inr n)=some (g n)
 | m :: names,h=>by
   by_cases z:m=n
   ·subst z;simp[valT]
   ·have h:n∈names:=by
     rcases List.mem_cons.mp h with h | h
     ·exact absurd h.symm z
     ·exact h
    have ih:=zn7 (g:=g) h;unfold valT at ih ⊢;rw[List.map_cons,List.find?_cons];simpa[z] using ih
theorem zlq{g:Str->T}{n:Str}:∀{names:List Str},n∉names->valT (names.map fun n=>(Sum.inr n,g n)) (.inr n)=none
 |[],_=>rfl
 | m::names,h=>by
   have z:m≠n:=fun e=>h (by simp[e]);have ih:=zlq (g:=g) (n:=n) (names:=names) fun e=>h (List.mem_cons_of_mem _ e);unfold valT at ih ⊢;rw[List.map_cons,List.find?_cons];simpa[z] using ih
theorem zxy{n:Str}(hn:n∈names):gDix (secD names sec) (.str n) S=.ok (.dic (zbc (sec n))) S:=by
 simp[gDix,secD,zf1,keyT,zn7 hn]
theorem z0h(b:Str)(l:List Str):gDin (.str b) (.dic (zbc l)) S=.ok (.bl (decide (b∈l))) S:=by
 by_cases z:b∈l
 ·simp[gDin,zf1,keyT,zgi,z]
 ·simp[gDin,zf1,keyT,zgi,z]
theorem zlr{st:Sto->Prop}{body:DS}{i:Nat}{ρ0:Ev}{p:T->Option T}(hst:st S):∀(ts:List T) (ρ:Ev),(∀t,ρ.set i (some t)=ρ0.set i (some t))->(∀t∈ts,body (ρ0.set i (some t)) S=match p t with|some r=>.ok (.rt r) S | none=>.ok (.nx (ρ0.set i (some t))) S) ->
  ∃ρ',(∀t,ρ'.set i (some t)=ρ0.set i (some t))/\za9 st (zaw i) body ts ρ S=match ts.findSome? p with|some r=>.ok (.rt r) S | none=>.ok (.nx ρ') S
 | [],ρ,hρ,_=>⟨ρ,hρ,by
   unfold za9;rw[if_pos hst];rfl⟩
 | t::ts,ρ,hρ,hb=>by
   have h1:=hb t (List.mem_cons_self ..);obtain⟨ρ',hρ',e⟩:=zlr hst ts (ρ0.set i (some t)) (fun u=>by rw[List.set_set]) fun u hu=>hb u (List.mem_cons_of_mem _ hu);unfold za9;rw[if_pos hst];simp only[zaw,hρ t,List.findSome?_cons];show∃ρ',_/\(M.bind (body (ρ0.set i (some t))) _) S=_;rw[zan,h1];cases e2:p t with
   |some r=>exact⟨ρ',hρ',rfl⟩
   |none=>exact⟨ρ',hρ',e⟩
theorem zxz{α:Type}(f:α->Bool):∀(l:List α),zpi (l.map fun x=>T.bl (f x))=some (l.map f)
 |[]=>rfl
 | a::r=>by
   rw[List.map_cons];unfold zpi;rw[zxz f r];rfl
theorem zum{k:Nat}{left:List Str}(hk:S[k]?=some (.lst (left.map .str)))(hsub:∀x∈left,x∈names)(hl:left.length<=900) :
  zcc c [secD names sec,.obj k] S=.ok (match left.find? (zcj sec left) with|some x=>.str x | none=>.non) S:=by
 have hlst:=zfv hk;have any:∀x,e1 gAny (zef 1 [2,0] (zda c) (zaw 0) yesD (zc9 c) finF) [some (secD names sec),some (.obj k),some (.str x)] S=.ok (.bl (left.any fun f=>decide (x∈sec f))) S:=fun x=>by
  have hc:=zk7 (ρ:=[some (secD names sec),some (.obj k),some (.str x)]) (S:=S) (js:=[2,0]) (it:=zda c) (te:=zc9 c) (ts:=left.map .str) (st:=fun S'=>zal S' (.obj k)=some (left.map .str))
   (f:=fun t=>match t with|.str y=>.bl (decide (x∈sec y)) | _=>.non) (by simp[zda,hlst]) hlst (by simpa using(by omega:left.length<=1000)) (fun t ht=>by
    obtain⟨y,hy,rfl⟩:=List.mem_map.mp ht;simp[zc9,zxy (hsub y hy),z0h])
  rw[List.map_map] at hc;have e:gAny (.lst (left.map fun y=>T.bl (decide (x∈sec y)))) S=.ok (.bl (left.any fun f=>decide (x∈sec f))) S:=by
   unfold gAny;simp only[zwx,Option.bind_some,zxz,List.any_map];rfl
  rw[x_e1,zan,hc];exact e
 obtain⟨ρ',_,e⟩:=zlr (S:=S) (st:=fun S'=>zal S' (.obj k)=some (left.map .str)) (body:=zbw c) (i:=2) (ρ0:=[some (secD names sec),some (.obj k),none]) (p:=fun t=>match t with|.str x=>if zcj sec left x=true then some (.str x) else none | _=>none) hlst (left.map .str) [some (secD names sec),some (.obj k),none] (fun _=>rfl) (fun t ht=>by
  obtain⟨x,hx,rfl⟩:=List.mem_map.mp ht;have a:=any x;rw[x_e1,zan] at a;by_cases z:(left.any fun f=>decide (x∈sec f))=true
  ·have z2:zcj sec left x=false:=by unfold zcj;rw[z];rfl
   simp only[z2];rw[z] at a;simp[zbw,a]
  ·have z:(left.any fun f=>decide (x∈sec f))=false:=by simpa using z
   have z2:zcj sec left x=true:=by unfold zcj;rw[z];rfl
   simp only[z2,if_true];rw[z] at a;simp[zbw,a])
 have ef:(left.map T.str).findSome? (fun t=>match t with|.str x=>if zcj sec left x=true then some (T.str x) else none | _=>none)=(left.find? (zcj sec left)).map T.str:=by
  generalize zcj sec left=q;clear e any hlst hk hsub hl
  induction left with
  |nil=>rfl
  | cons a r ih=>
    rw[List.map_cons,List.findSome?_cons,List.find?_cons];cases z:q a with
    |true=>simp[z]
    |false=>simpa[z] using ih
 rw[ef] at e;have es:sFor (iL (eVar 1)) (zaw 2) (zbw c) [some (secD names sec),some (.obj k),none] S=za9 (fun S'=>zal S' (.obj k)=some (left.map .str)) (zaw 2) (zbw c) (left.map .str) [some (secD names sec),some (.obj k),none] S:=by
  unfold sFor;simp[hlst]
 cases z:left.find? (zcj sec left) with
 | none=>
   rw[z] at e;simp[zcc,zfl,es,e]
 | some x=>
   rw[z] at e;simp[zcc,zfl,es,e]
end DN
namespace DN
open PySem L2 MF
variable {c:Cl}{S:Sto}{ρ:Ev}{sec:Str->List Str}{names:List Str}
def zf4(names A:List Str)(k:Nat):List (Key×T):=A.map fun n=>(.inr n,.obj (k+1+names.idxOf n))
def stS(S:Sto)(names:List Str)(sec:Str->List Str):Sto:=S++.dic (zf4 names names S.length)::names.map fun n=>.dic (zbc (sec n))
theorem zx0{A B:List Str}{n:Str}(h:n∉A):(A++n::B).idxOf n=A.length:=by
 rw[List.idxOf_append,if_neg h];simp
theorem zn8:(stS S names sec)[S.length]?=some (.dic (zf4 names names S.length)):=by unfold stS;rw[zrq];rfl
theorem zju{j:Nat}{u:Cell}(h:S[j]?=some u):(stS S names sec)[j]?=some u:=zbr h
theorem zx1{a:Str}(ha:a∈names):(stS S names sec)[S.length+1+names.idxOf a]?=some (.dic (zbc (sec a))):=by
 unfold stS;rw[Nat.add_assoc,getR,Nat.add_comm 1,List.getElem?_cons_succ,List.getElem?_map];have hl:=List.idxOf_lt_length_of_mem ha;rw[List.getElem?_eq_getElem hl,List.getElem_idxOf hl];rfl
theorem z3y{a:Str}{l:List Str}(nd:names.Nodup)(ha:a∈names):(stS S names sec).set (S.length+1+names.idxOf a) (.dic (zbc l))=stS S names (fun n=>if n=a then l else sec n):=by
 unfold stS;rw[Nat.add_assoc,setR,Nat.add_comm 1,List.set_cons_succ];congr 2;obtain⟨A,B,rfl⟩:=List.append_of_mem ha;have hA:a∉A:=fun hm=>by
  rw[List.nodup_append] at nd;exact nd.2.2 a hm a (List.mem_cons_self ..) rfl
 have hB:a∉B:=fun hm=>by
  rw[List.nodup_append,List.nodup_cons] at nd;exact nd.2.1.1 hm
 rw[zx0 hA,List.map_append,List.map_cons,List.set_append_right _ _ (by simp),List.length_map,Nat.sub_self,List.set_cons_zero,List.map_append,List.map_cons];show _++Cell.dic (zbc l)::_=_++Cell.dic (zbc (if a=a then l else sec a))::_;rw[if_pos rfl];congr 1
 ·exact List.map_congr_left fun n hn=>by
   show _=Cell.dic (zbc (if n=a then l else sec n));rw[if_neg (fun e=>hA (by rw[<- e];exact hn))]
 ·congr 1
  exact List.map_congr_left fun n hn=>by
   show _=Cell.dic (zbc (if n=a then l else sec n));rw[if_neg (fun e=>hB (by rw[<- e];exact hn))]
def addS(sec:Str->List Str)(a b:Str):Str->List Str:=fun n=>if n=a then(if b∈sec a then sec a else sec a++[b]) else sec n
theorem zx2(g:List Str)(x:Str):putT (zbc g) (.inr x) (.bl true)=zbc (if x∈g then g else g++[x]):=by
 by_cases z:x∈g
 ·rw[if_pos z]
  unfold putT;have hany:((zbc g).any fun kv=>decide (kv.1=Sum.inr x))=true:=List.any_eq_true.mpr ⟨((Sum.inr x:Key),T.bl true),List.mem_map.mpr ⟨x,z,rfl⟩,by simp⟩;rw[if_pos hany];unfold zbc;rw[List.map_map];refine List.map_congr_left fun y _=>?_;show(if(Sum.inr y:Key)=Sum.inr x then((Sum.inr y:Key),T.bl true) else(Sum.inr y,.bl true))=_
  split<;>rfl
 ·rw[if_neg z,zmz g x z]
theorem zs4{a b x y:Str}:y∈addS sec a b x↔y∈sec x\/(x=a/\y=b):=by
 unfold addS;by_cases z:x=a
 ·rw[if_pos z]
  by_cases w:b∈sec a
  ·rw[if_pos w,z]
   constructor
   ·exact .inl
   ·rintro(h | ⟨_,rfl⟩)
    ·exact h
    ·exact w
  ·rw[if_neg w,z,List.mem_append,List.mem_singleton]
   simp
 ·rw[if_neg z]
  simp[z]
theorem zkn{a b x:Str}:(addS sec a b x).length<=(sec x).length+1:=by
 unfold addS
 split
 ·rename_i z
  subst z
  split
  ·omega
  ·simp
 ·omega
theorem zs5{n:Str}(h:n∈names):valT (zf4 names names S.length) (.inr n)=some (.obj (S.length+1+names.idxOf n)):=zn7 (g:=fun n=>.obj (S.length+1+names.idxOf n)) h
theorem zx3{n:Str}(h:n∉names):valT (zf4 names names S.length) (.inr n)=none:=zlq (g:=fun n=>.obj (S.length+1+names.idxOf n)) h
theorem zs6(n:Str):gDin (.str n) (.obj S.length) (stS S names sec)=.ok (.bl (decide (n∈names))) (stS S names sec):=by
 have d:=zpy (zn8 (S:=S) (names:=names) (sec:=sec));by_cases z:n∈names
 ·simp[gDin,d,keyT,zs5 z,z]
 ·simp[gDin,d,keyT,zx3 z,z]
theorem zx4{a b:Str}{ρ:Ev}{fd fk:DE}(nd:names.Nodup)(ha:a∈names)(hl:(sec a).length<=800)(h1:fd ρ (stS S names sec)=.ok (.obj (S.length+1+names.idxOf a)) (stS S names sec))(h2:fk ρ (stS S names sec)=.ok (.str b) (stS S names sec)) :
  znp fd fk (eC (.bl true)) ρ (stS S names sec)=.ok (.nx ρ) (stS S names (addS sec a b)):=by
 have g:=zx1 (S:=S) (sec:=sec) ha;have hl2:(zbc (sec a)).length<=900:=by simp[zbc];omega
 have e:(fun n=>if n=a then(if b∈sec a then sec a else sec a++[b]) else sec n)=addS sec a b:=rfl;simp[h1,h2,keyT,g,hl2,zx2,z3y nd ha,e]
theorem zs7{a:Str}(ha:a∈names):gDix (.obj S.length) (.str a) (stS S names sec)=.ok (.obj (S.length+1+names.idxOf a)) (stS S names sec):=by
 have d:=zpy (zn8 (S:=S) (names:=names) (sec:=sec));simp[gDix,d,keyT,zs5 ha]
def zdk(names:List Str)(nm:Str)(sec:Str->List Str)(o:Str):Str->List Str:=if o∈names then addS sec nm o else sec
def zea(names:List Str)(nm:Str)(sec:Str->List Str)(o:Str):Str->List Str:=if o∈names then addS sec o nm else sec
theorem zm0{h:Nat}{nm:Str}{t1 t4:Option T}{st:Sto->Prop}(nd:names.Nodup)(hn:nm∈names)(hst:∀sec,st (stS S names sec)):∀(os:List Str) {sec:Str->List Str} {x5:Option T},(∀x,(sec x).length+os.length<=800) ->
  ∃x5',za9 st (zaw 5) (zb8 c) (os.map .str) [some (.obj h),t1,some (.obj S.length),some (.str nm),t4,x5] (stS S names sec)=.ok (.nx [some (.obj h),t1,some (.obj S.length),some (.str nm),t4,x5']) (stS S names (os.foldl (zdk names nm) sec))
 | [],sec,x5,_=>⟨x5,by
   show za9 _ _ _ [] _ _=_;unfold za9;rw[if_pos (hst _)];rfl⟩
 | o :: os,sec,x5,hl=>by
   have hb:zb8 c [some (.obj h),t1,some (.obj S.length),some (.str nm),t4,some (.str o)] (stS S names sec)=.ok (.nx [some (.obj h),t1,some (.obj S.length),some (.str nm),t4,some (.str o)]) (stS S names (zdk names nm sec o)):=by
    unfold zdk;have d:=zs6 (S:=S) (names:=names) (sec:=sec) o;by_cases z:o∈names
    ·have p:=zx4 (S:=S) (sec:=sec) (a:=nm) (b:=o) (ρ:=[some (.obj h),t1,some (.obj S.length),some (.str nm),t4,some (.str o)]) (fd:=e2 gDix (eVar 2) (eVar 3)) (fk:=eVar 5) nd hn (by have:=hl nm;simp at this;omega) (by simp[zs7 hn]) (by simp)
     rw[if_pos z];simp only[decide_eq_true z] at d;unfold zb8;rw[x_if,zan,z6r,zan,x_e2,zan];simp only[zt9,List.getElem?_cons_succ,List.getElem?_cons_zero,zan,d,zww,if_true];exact p
    ·rw[if_neg z]
     simp only[decide_eq_false z] at d;simp[zb8,d]
   obtain⟨x5',e⟩:=zm0 (h:=h) (t1:=t1) (t4:=t4) nd hn hst os (sec:=zdk names nm sec o) (x5:=some (.str o)) (fun x=>by
    have:=hl x;rw[List.length_cons] at this;unfold zdk
    split
    ·have:=zkn (sec:=sec) (a:=nm) (b:=o) (x:=x);omega
    ·omega)
   refine⟨x5',?_⟩;show za9 _ _ _ (.str o::os.map .str) _ _=_;unfold za9;rw[if_pos (hst _)];show(M.bind (zb8 c [some (.obj h),t1,some (.obj S.length),some (.str nm),t4,some (.str o)]) _) _=_;rw[zan,hb];exact e
theorem zls{h:Nat}{nm:Str}{t1 t4:Option T}{st:Sto->Prop}(nd:names.Nodup)(hn:nm∈names)(hst:∀sec,st (stS S names sec)):∀(os:List Str) {sec:Str->List Str} {x5:Option T},(∀x,(sec x).length+os.length<=800) ->
  ∃x5',za9 st (zaw 5) (zb9 c) (os.map .str) [some (.obj h),t1,some (.obj S.length),some (.str nm),t4,x5] (stS S names sec)=.ok (.nx [some (.obj h),t1,some (.obj S.length),some (.str nm),t4,x5']) (stS S names (os.foldl (zea names nm) sec))
 | [],sec,x5,_=>⟨x5,by
   show za9 _ _ _ [] _ _=_;unfold za9;rw[if_pos (hst _)];rfl⟩
 | o :: os,sec,x5,hl=>by
   have hb:zb9 c [some (.obj h),t1,some (.obj S.length),some (.str nm),t4,some (.str o)] (stS S names sec)=.ok (.nx [some (.obj h),t1,some (.obj S.length),some (.str nm),t4,some (.str o)]) (stS S names (zea names nm sec o)):=by
    unfold zea;have d:=zs6 (S:=S) (names:=names) (sec:=sec) o;by_cases z:o∈names
    ·have p:=zx4 (S:=S) (sec:=sec) (a:=o) (b:=nm) (ρ:=[some (.obj h),t1,some (.obj S.length),some (.str nm),t4,some (.str o)]) (fd:=e2 gDix (eVar 2) (eVar 5)) (fk:=eVar 3) nd z (by have:=hl o;simp at this;omega) (by simp[zs7 z]) (by simp)
     rw[if_pos z];simp only[decide_eq_true z] at d;unfold zb9;rw[x_if,zan,z6r,zan,x_e2,zan];simp only[zt9,List.getElem?_cons_succ,List.getElem?_cons_zero,zan,d,zww,if_true];exact p
    ·rw[if_neg z]
     simp only[decide_eq_false z] at d;simp[zb9,d]
   obtain⟨x5',e⟩:=zls (h:=h) (t1:=t1) (t4:=t4) nd hn hst os (sec:=zea names nm sec o) (x5:=some (.str o)) (fun x=>by
    have:=hl x;rw[List.length_cons] at this;unfold zea
    split
    ·have:=zkn (sec:=sec) (a:=o) (b:=nm) (x:=x);omega
    ·omega)
   refine⟨x5',?_⟩;show za9 _ _ _ (.str o::os.map .str) _ _=_;unfold za9;rw[if_pos (hst _)];show(M.bind (zb9 c [some (.obj h),t1,some (.obj S.length),some (.str nm),t4,some (.str o)]) _) _=_;rw[zan,hb];exact e
end DN
namespace DN
open PySem L2 MF
variable {c:Cl}{S:Sto}{ρ:Ev}{sec:Str->List Str}{names:List Str}
theorem zp5{nm x y:Str}:∀(os:List Str) {sec:Str->List Str},y∈(os.foldl (zdk names nm) sec) x↔y∈sec x\/(x=nm/\y∈os/\y∈names)
 |[],sec=>by simp
 | o :: os,sec=>by
   rw[List.foldl_cons,zp5 os];unfold zdk;by_cases z:o∈names
   ·rw[if_pos z,zs4]
    constructor
    ·rintro((h | ⟨h1,h2⟩) | ⟨h1,h2,h3⟩)
     ·exact .inl h
     ·exact .inr ⟨h1,by rw[h2];simp,by rw[h2];exact z⟩
     ·exact .inr ⟨h1,List.mem_cons_of_mem _ h2,h3⟩
    ·rintro(h | ⟨h1,h2,h3⟩)
     ·exact .inl (.inl h)
     ·rcases List.mem_cons.mp h2 with h | h
      ·exact .inl (.inr ⟨h1,h⟩)
      ·exact .inr ⟨h1,h,h3⟩
   ·rw[if_neg z]
    constructor
    ·rintro(h | ⟨h1,h2,h3⟩)
     ·exact .inl h
     ·exact .inr ⟨h1,List.mem_cons_of_mem _ h2,h3⟩
    ·rintro(h | ⟨h1,h2,h3⟩)
     ·exact .inl h
     ·rcases List.mem_cons.mp h2 with h | h
      ·rw[h] at h3;exact absurd h3 z
      ·exact .inr ⟨h1,h,h3⟩
theorem zm1{nm x y:Str}:∀(os:List Str) {sec:Str->List Str},y∈(os.foldl (zea names nm) sec) x↔y∈sec x\/(y=nm/\x∈os/\x∈names)
 |[],sec=>by simp
 | o :: os,sec=>by
   rw[List.foldl_cons,zm1 os];unfold zea;by_cases z:o∈names
   ·rw[if_pos z,zs4]
    constructor
    ·rintro((h | ⟨h1,h2⟩) | ⟨h1,h2,h3⟩)
     ·exact .inl h
     ·exact .inr ⟨h2,by rw[h1];simp,by rw[h1];exact z⟩
     ·exact .inr ⟨h1,List.mem_cons_of_mem _ h2,h3⟩
    ·rintro(h | ⟨h1,h2,h3⟩)
     ·exact .inl (.inl h)
     ·rcases List.mem_cons.mp h2 with h | h
      ·exact .inl (.inr ⟨h,h1⟩)
      ·exact .inr ⟨h1,h,h3⟩
   ·rw[if_neg z]
    constructor
    ·rintro(h | ⟨h1,h2,h3⟩)
     ·exact .inl h
     ·exact .inr ⟨h1,List.mem_cons_of_mem _ h2,h3⟩
    ·rintro(h | ⟨h1,h2,h3⟩)
     ·exact .inl h
     ·rcases List.mem_cons.mp h2 with h | h
      ·rw[h] at h3;exact absurd h3 z
      ·exact .inr ⟨h1,h,h3⟩
def zie(names:List Str)(sec:Str->List Str)(q:HP):Str->List Str:=q.w1.foldl (zea names q.nm) (q.w0.foldl (zdk names q.nm) sec)
theorem zx5{q:HP}{x y:Str}:y∈zie names sec q x↔y∈sec x\/(x=q.nm/\y∈q.w0/\y∈names)\/(y=q.nm/\x∈q.w1/\x∈names):=by
 unfold zie;rw[zm1,zp5,or_assoc]
theorem zm2{x y:Str}:∀(qs:List HP) {sec:Str->List Str},y∈(qs.foldl (zie names) sec) x↔y∈sec x\/∃q∈qs,(x=q.nm/\y∈q.w0/\y∈names)\/(y=q.nm/\x∈q.w1/\x∈names)
 |[],sec=>by simp
 | q :: qs,sec=>by
   rw[List.foldl_cons,zm2 qs,zx5,or_assoc];constructor
   ·rintro(h | h | ⟨r,hr,h⟩)
    ·exact .inl h
    ·exact .inr ⟨q,List.mem_cons_self ..,h⟩
    ·exact .inr ⟨r,List.mem_cons_of_mem _ hr,h⟩
   ·rintro(h | ⟨r,hr,h⟩)
    ·exact .inl h
    ·rcases List.mem_cons.mp hr with rfl | hr
     ·exact .inr (.inl h)
     ·exact .inr (.inr ⟨r,hr,h⟩)
theorem zlt{nm x:Str}:∀(os:List Str) {sec:Str->List Str},((os.foldl (zdk names nm) sec) x).length<=(sec x).length+os.length
 |[],sec=>by simp
 | o::os,sec=>by
   have:=zlt (nm:=nm) (x:=x) os (sec:=zdk names nm sec o);rw[List.foldl_cons,List.length_cons];have h2:(zdk names nm sec o x).length<=(sec x).length+1:=by
    unfold zdk
    split
    ·exact zkn
    ·omega
   omega
theorem zm3{nm x:Str}:∀(os:List Str) {sec:Str->List Str},((os.foldl (zea names nm) sec) x).length<=(sec x).length+os.length
 |[],sec=>by simp
 | o::os,sec=>by
   have:=zm3 (nm:=nm) (x:=x) os (sec:=zea names nm sec o);rw[List.foldl_cons,List.length_cons];have h2:(zea names nm sec o x).length<=(sec x).length+1:=by
    unfold zea
    split
    ·exact zkn
    ·omega
   omega
theorem zm4{st:Sto->Prop}{h:Nat}{t1:Option T}(nd:names.Nodup)(hst:∀S',st S')(hbig:names.length<=900):∀(B A:List Str) {x3 x4 x5:Option T},names=A++B ->
  ∃x3',za9 st (zaw 3) (zcu c) (B.map .str) [some (.obj h),t1,some (.obj S.length),x3,x4,x5] (S++.dic (zf4 names A S.length)::List.replicate A.length (.dic []))=.ok (.nx [some (.obj h),t1,some (.obj S.length),x3',x4,x5]) (S++.dic (zf4 names names S.length)::List.replicate names.length (.dic []))
 | [],A,x3,x4,x5,e=>⟨x3,by
   rw[List.append_nil] at e;subst e;show za9 _ _ _ [] _ _=_;unfold za9;rw[if_pos (hst _)]⟩
 | n::B,A,x3,x4,x5,e=>by
   have hA:n∉A:=fun hm=>by
    rw[e,List.nodup_append] at nd;exact nd.2.2 n hm n (List.mem_cons_self ..) rfl
   have hi:names.idxOf n=A.length:=by rw[e];exact zx0 hA
   obtain⟨x3',ih⟩:=zm4 (h:=h) (t1:=t1) nd hst hbig B (A++[n]) (x3:=some (.str n)) (x4:=x4) (x5:=x5) (by rw[e];simp);refine⟨x3',?_⟩;have hlen:(S++Cell.dic (zf4 names A S.length)::List.replicate A.length (.dic [])).length=S.length+1+A.length:=by simp;omega
   have v:valT (zf4 names A S.length) (.inr n)=none:=zlq (g:=fun n=>.obj (S.length+1+names.idxOf n)) hA;have g:(S++Cell.dic (zf4 names A S.length)::List.replicate A.length (.dic [])++[.dic []])[S.length]?=some (.dic (zf4 names A S.length)):=by
    rw[List.append_assoc,zrq];rfl
   have big:A.length<=900:=by rw[e] at hbig;simp at hbig;omega
   have hl9:(zf4 names A S.length).length<=900:=by simp[zf4];omega
   have es:(S++Cell.dic (zf4 names A S.length)::List.replicate A.length (Cell.dic [])++[Cell.dic []]).set S.length (Cell.dic (zf4 names A S.length++[((Sum.inr n:Key),T.obj (S.length+1+A.length))]))=S++.dic (zf4 names (A++[n]) S.length)::List.replicate (A++[n]).length (.dic []):=by
    rw[List.append_assoc,zxu];congr 1;rw[List.cons_append,List.set_cons_zero];congr 1
    ·simp[zf4,hi]
    ·rw[List.length_append,List.length_singleton,List.replicate_succ']
   have hb:zcu c [some (.obj h),t1,some (.obj S.length),some (.str n),x4,x5] (S++.dic (zf4 names A S.length)::List.replicate A.length (.dic []))=.ok (.nx [some (.obj h),t1,some (.obj S.length),some (.str n),x4,x5]) (S++.dic (zf4 names (A++[n]) S.length)::List.replicate (A++[n]).length (.dic [])):=by
    generalize hS1:(S++Cell.dic (zf4 names A S.length)::List.replicate A.length (.dic []))=S1 at hlen g es;unfold zcu;rw[z7i,zan,z3j];simp only[zan,zt9,List.getElem?_cons_succ,List.getElem?_cons_zero,keyT,g,if_pos hl9,zkm v,hlen,es]
   show za9 _ _ _ (.str n::B.map .str) _ _=_;unfold za9;rw[if_pos (hst _)];show(M.bind (zcu c [some (.obj h),t1,some (.obj S.length),some (.str n),x4,x5]) _) _=_;rw[zan,hb];exact ih
end DN
namespace DN
open PySem L2 MF
variable {c:Cl}{S:Sto}{ρ:Ev}{sec:Str->List Str}{names:List Str}
theorem z9g{h:Nat}{pl:List PlM}{ps:List HP}(A:za4 c S h pl ps)(nd:names.Nodup){q:HP}(hq:q∈ps)(hn:q.nm∈names){t1 x4 x5:Option T}(hl:∀x,(sec x).length<=700)(h01:q.w0.length+q.w1.length<=20) :
  ∃x4' x5',zcv c [some (.obj h),t1,some (.obj S.length),some (.str q.nm),x4,x5] (stS S names sec)=.ok (.nx [some (.obj h),t1,some (.obj S.length),some (.str q.nm),x4',x5']) (stS S names (zie names sec q)):=by
 have A':∀sec,za4 c (stS S names sec) h pl ps:=fun sec=>A.app;have hm:=zid (m:=Str.ofString "find_piece") h (by simp) (by simp);have ef:=zhz (A' sec) (zjd A.nd hq);have P:=A.piece q hq;have i1:=zhb (zju (names:=names) (sec:=sec) P.o);have i2:=zhb (zju (names:=names) (sec:=q.w0.foldl (zdk names q.nm) sec) P.o);obtain⟨x5a,e1⟩:=zm0 (c:=c) (S:=S) (h:=h) (t1:=t1) (t4:=some (.obj q.i)) (st:=fun S'=>zal S' (.obj (q.i+1))=some (q.w0.map .str)) nd hn (fun sec=>zfv (zju P.a0)) q.w0 (sec:=sec) (x5:=x5) (fun x=>by have:=hl x;omega);obtain⟨x5b,e2⟩:=zls (c:=c) (S:=S) (h:=h) (t1:=t1) (t4:=some (.obj q.i)) (st:=fun S'=>zal S' (.obj (q.i+2))=some (q.w1.map .str)) nd hn (fun sec=>zfv (zju P.a1)) q.w1 (sec:=q.w0.foldl (zdk names q.nm) sec) (x5:=x5a) (fun x=>by have:=hl x;have:=zlt (names:=names) (nm:=q.nm) (x:=x) q.w0 (sec:=sec);omega);have l1:=zfv (zju (names:=names) (sec:=sec) P.a0);have l2:=zfv (zju (names:=names) (sec:=q.w0.foldl (zdk names q.nm) sec) P.a1);have s1:sFor (iL (MF.e1 (gFld c.piece "ahead") (eVar 4))) (zaw 5) (zb8 c) [some (.obj h),t1,some (.obj S.length),some (.str q.nm),some (.obj q.i),x5] (stS S names sec)=.ok (.nx [some (.obj h),t1,some (.obj S.length),some (.str q.nm),some (.obj q.i),x5a]) (stS S names (q.w0.foldl (zdk names q.nm) sec)):=by
  unfold sFor;rw[zan];have:iL (MF.e1 (gFld c.piece "ahead") (eVar 4)) [some (.obj h),t1,some (.obj S.length),some (.str q.nm),some (.obj q.i),x5] (stS S names sec)=.ok (q.w0.map .str,fun S'=>zal S' (.obj (q.i+1))=some (q.w0.map .str)) (stS S names sec):=by simp[i1,zsz,l1]
  rw[this];exact e1
 have s2:sFor (iL (MF.e1 (gFld c.piece "behind") (eVar 4))) (zaw 5) (zb9 c) [some (.obj h),t1,some (.obj S.length),some (.str q.nm),some (.obj q.i),x5a] (stS S names (q.w0.foldl (zdk names q.nm) sec))=.ok (.nx [some (.obj h),t1,some (.obj S.length),some (.str q.nm),some (.obj q.i),x5b]) (stS S names (zie names sec q)):=by
  unfold sFor;rw[zan];have:iL (MF.e1 (gFld c.piece "behind") (eVar 4)) [some (.obj h),t1,some (.obj S.length),some (.str q.nm),some (.obj q.i),x5a] (stS S names (q.w0.foldl (zdk names q.nm) sec))=.ok (q.w1.map .str,fun S'=>zal S' (.obj (q.i+2))=some (q.w1.map .str)) (stS S names (q.w0.foldl (zdk names q.nm) sec)):=by simp[i2,zp3,l2]
  rw[this];exact e2
 have i0:=(A' sec).ins;exact⟨some (.obj q.i),x5b,by simp[zcv,i0,hm,ef,s1,s2]⟩
theorem z7o{h:Nat}{pl:List PlM}{ps:List HP}{st:Sto->Prop}(A:za4 c S h pl ps)(nd:names.Nodup)(hst:∀S',st S'){t1:Option T}:∀(qs:List HP) {sec:Str->List Str} {x3 x4 x5:Option T},(∀q∈qs,q∈ps/\q.nm∈names/\q.w0.length+q.w1.length<=20)->(∀x,(sec x).length+20*qs.length<=700) ->
  ∃x3' x4' x5',za9 st (zaw 3) (zcv c) ((qs.map (·.nm)).map .str) [some (.obj h),t1,some (.obj S.length),x3,x4,x5] (stS S names sec)=.ok (.nx [some (.obj h),t1,some (.obj S.length),x3',x4',x5']) (stS S names (qs.foldl (zie names) sec))
 | [],sec,x3,x4,x5,_,_=>⟨x3,x4,x5,by
   show za9 _ _ _ [] _ _=_;unfold za9;rw[if_pos (hst _)];rfl⟩
 | q::qs,sec,x3,x4,x5,hq,hl=>by
   obtain⟨q1,q2,q3⟩:=hq q (List.mem_cons_self ..);obtain⟨y4,y5,hb⟩:=z9g (names:=names) (sec:=sec) A nd q1 q2 (t1:=t1) (x4:=x4) (x5:=x5) (fun x=>by have:=hl x;omega) q3;obtain⟨z3,z4,z5,e⟩:=z7o A nd hst qs (t1:=t1) (sec:=zie names sec q) (x3:=some (.str q.nm)) (x4:=y4) (x5:=y5) (fun r hr=>hq r (List.mem_cons_of_mem _ hr)) (fun x=>by
    have h1:=hl x;rw[List.length_cons] at h1;have h2:=zlt (names:=names) (nm:=q.nm) (x:=x) q.w0 (sec:=sec);have h3:=zm3 (names:=names) (nm:=q.nm) (x:=x) q.w1 (sec:=q.w0.foldl (zdk names q.nm) sec);unfold zie;omega)
   refine⟨z3,z4,z5,?_⟩;show za9 _ _ _ (.str q.nm::(qs.map (·.nm)).map .str) _ _=_;unfold za9;rw[if_pos (hst _)];show(M.bind (zcv c [some (.obj h),t1,some (.obj S.length),some (.str q.nm),x4,x5]) _) _=_;rw[zan,hb];exact e
theorem zko{α β γ:Type}{f:β->Option γ}{g:α->β}{k:α->γ}:∀{l:List α},(∀x∈l,f (g x)=some (k x))->mapO f (l.map g)=some (l.map k)
 |[],_=>rfl
 | a::r,h=>by
   rw[List.map_cons];unfold mapO;rw[h a (List.mem_cons_self ..),zko fun x hx=>h x (List.mem_cons_of_mem _ hx)];rfl
theorem z7p:fz (stS S names sec) S.length 6 (.obj S.length)=some (secD names sec):=by
 unfold fz;rw[if_neg (by simp only[HB];omega)];simp only[zn8];unfold zf4;rw[zko (k:=fun n=>((Sum.inr n:Key),T.dic (zbc (sec n)))) fun n hn=>?_]
 ·rfl
 ·have hg:=zx1 (S:=S) (sec:=sec) hn
  have:fz (stS S names sec) S.length 5 (.obj (S.length+1+names.idxOf n))=some (.dic (zbc (sec n))):=by
   unfold fz;rw[if_neg (by simp only[HB];omega)];simp only[hg];unfold zbc;rw[zko (k:=fun x=>((Sum.inr x:Key),T.bl true)) fun x _=>?_]
   ·rfl
   ·show(fz (stS S names sec) S.length 4 (.bl true)).map _=_
    rw[z3k (by simp)];rfl
  show(fz (stS S names sec) S.length 5 (.obj (S.length+1+names.idxOf n))).map _=_;rw[this];rfl
def zf5(names:List Str)(qs:List HP):Str->List Str:=qs.foldl (zie names) fun _=>[]
theorem zx6{h:Nat}{pl:List PlM}{ps qs:List HP}(A:za4 c S h pl ps)(nd:names.Nodup)(hq:qs.map (·.nm)=names)(hs:∀q∈qs,q∈ps/\q.w0.length+q.w1.length<=20)(hl:names.length<=24) :
  zev c [.obj h,strL names] S=.ok (secD names (zf5 names qs)) S:=by
 have ql:qs.length=names.length:=by rw[<- hq];simp
 obtain⟨x3,e1⟩:=zm4 (c:=c) (S:=S) (st:=fun S'=>zal S' (strL names)=some (names.map .str)) (h:=h) (t1:=some (strL names)) nd (fun _=>rfl) (by omega) names [] (x3:=none) (x4:=none) (x5:=none) rfl;have es:(S++Cell.dic (zf4 names names S.length)::List.replicate names.length (.dic []))=stS S names (fun _=>[]):=by
  unfold stS;congr 2;rw[List.map_const'];rfl
 rw[es] at e1;obtain⟨y3,y4,y5,e2⟩:=z7o (c:=c) (S:=S) (names:=names) A nd (st:=fun S'=>zal S' (strL names)=some (names.map .str)) (fun _=>rfl) (t1:=some (strL names)) qs (sec:=fun _=>[]) (x3:=x3) (x4:=none) (x5:=none) (fun q h=>⟨(hs q h).1,by rw[<- hq];exact List.mem_map.mpr ⟨q,h,rfl⟩,(hs q h).2⟩) (fun x=>by show 0+20*qs.length<=700;omega);rw[hq] at e2;have s1:sFor (iL (eVar 1)) (zaw 3) (zcu c) [some (.obj h),some (strL names),some (.obj S.length),none,none,none] (S++[.dic []])=.ok (.nx [some (.obj h),some (strL names),some (.obj S.length),x3,none,none]) (stS S names fun _=>[]):=by
  unfold sFor;simp only[zan,x_iL,zt9,List.getElem?_cons_succ,List.getElem?_cons_zero];exact e1
 have s2:sFor (iL (eVar 1)) (zaw 3) (zcv c) [some (.obj h),some (strL names),some (.obj S.length),x3,none,none] (stS S names fun _=>[])=.ok (.nx [some (.obj h),some (strL names),some (.obj S.length),y3,y4,y5]) (stS S names (zf5 names qs)):=by
  unfold sFor;simp only[zan,x_iL,zt9,List.getElem?_cons_succ,List.getElem?_cons_zero];exact e2
 have run:runD 6 (zhu c) [.obj h,strL names] S=.ok (.obj S.length) (stS S names (zf5 names qs)):=by
  simp[zhu,s1,s2]
 unfold zev frzF;rw[run];have tk:(stS S names (zf5 names qs)).take S.length=S:=by unfold stS;simp
 simp only[if_pos tk,z7p]
theorem zp6{qs:List HP}{x y:Str}:y∈zf5 names qs x↔∃q∈qs,(x=q.nm/\y∈q.w0/\y∈names)\/(y=q.nm/\x∈q.w1/\x∈names):=by
 unfold zf5;rw[zm2];simp
end DN
namespace DN
open PySem L2 MF
variable {c:Cl}{S:Sto}{ρ:Ev}{sec:Str->List Str}{names:List Str}
structure Sm2(S S':Sto)(kR kL:Nat):Prop where
 len:S'.length=S.length
 same:∀j,j≠kR->j≠kL->S'[j]?=S[j]?
theorem Sm2.refl(S:Sto)(a b:Nat):Sm2 S S a b:=⟨rfl,fun _ _ _=>rfl⟩
theorem Sm2.trans{S S1 S2:Sto}{a b:Nat}(p:Sm2 S S1 a b)(q:Sm2 S1 S2 a b):Sm2 S S2 a b:=⟨q.len.trans p.len,fun j h1 h2=>(q.same j h1 h2).trans (p.same j h1 h2)⟩
theorem zx7(row:List Str)(s:Str):T.lst (row.map .str++[.str s])=strL (row++[s]):=by simp[strL]
theorem zx8{kR kL:Nat}{start s:Str}{row re:List Str}{lo:List (List Str)}{t0 t2:Option T}(hR:S[kR]?=some (.dic (zbc re)))(hL:S[kL]?=some (.lst (lo.map strL)))(hl:re.length<=500)(hlo:lo.length<=500)(hrow:row.length<=500) :
  zap c [t0,some (.str start),t2,some (.obj kR),some (.obj kL),some (strL row),some (.str s)] S =
   if s=start then .ok (.rt (strL row)) S else if s∈re then .ok (.nx [t0,some (.str start),t2,some (.obj kR),some (.obj kL),some (strL row),some (.str s)]) S
   else .ok (.nx [t0,some (.str start),t2,some (.obj kR),some (.obj kL),some (strL row),some (.str s)]) ((S.set kR (.dic (zbc (re++[s])))).set kL (.lst ((lo++[row++[s]]).map strL))):=by
 have ne:kR≠kL:=zg2 hR hL (by intro z;cases z);have d:=zpy hR;by_cases z:s=start
 ·rw[if_pos z]
  simp[zap,z]
 ·rw[if_neg z]
  by_cases y:s∈re
  ·rw[if_pos y]
   have v:valT (zbc re) (.inr s)=some (.bl true):=by rw[zgi,if_pos y]
   simp[zap,z,zfe,d,keyT,v]
  ·rw[if_neg y]
   have v:valT (zbc re) (.inr s)=none:=by rw[zgi,if_neg y]
   have hl2:(zbc re).length<=900:=by simp[zbc];omega
   have hL2:(S.set kR (.dic (zbc (re++[s]))))[kL]?=some (.lst (lo.map strL)):=by rw[zae ne];exact hL
   have hok:=zj7 hL2;have happ:=zzv (y:=strL (row++[s])) hL2 (by simp;omega);have e1:lo.map strL++[strL (row++[s])]=(lo++[row++[s]]).map strL:=by simp
   rw[e1] at happ;have hadd:gAdd (strL row) (.lst [.str s]) (S.set kR (.dic (zbc (re++[s]))))=.ok (strL (row++[s])) (S.set kR (.dic (zbc (re++[s])))):=by
    have hl3:(row.map T.str).length+[T.str s].length<=1000:=by simp;omega
    show gAdd (.lst (row.map .str)) (.lst [.str s]) _=_;rw[z1l,if_pos hl3,zx7]
   simp[zap,z,zfe,d,keyT,v,hR,hl2,zmz re s y,hok,hadd,happ]
theorem zjv{kR kL:Nat}{start:Str}{row:List Str}{t0 t2:Option T}(hrow:row.length<=200):∀(ss re:List Str) (lo:List (List Str)) {x6:Option T} {S:Sto},S[kR]?=some (.dic (zbc re))->S[kL]?=some (.lst (lo.map strL))->re.length+ss.length<=500->lo.length+ss.length<=500 ->
  ∃ S' x6',Sm2 S S' kR kL/\(match rt1 start row ss re lo with
    |none=>za9 (fun _=>True) (zaw 6) (zap c) (ss.map .str) [t0,some (.str start),t2,some (.obj kR),some (.obj kL),some (strL row),x6] S=.ok (.rt (strL row)) S'
    |some (re',lo')=>za9 (fun _=>True) (zaw 6) (zap c) (ss.map .str) [t0,some (.str start),t2,some (.obj kR),some (.obj kL),some (strL row),x6] S=.ok (.nx [t0,some (.str start),t2,some (.obj kR),some (.obj kL),some (strL row),x6']) S'/\S'[kR]?=some (.dic (zbc re'))/\S'[kL]?=some (.lst (lo'.map strL)))
 | [],re,lo,x6,S,hR,hL,_,_=>⟨S,x6,Sm2.refl _ _ _,by
   show za9 _ _ _ [] _ S=_/\_;unfold za9;rw[if_pos trivial];exact⟨rfl,hR,hL⟩⟩
 | s :: ss,re,lo,x6,S,hR,hL,h1,h2=>by
   have ne:kR≠kL:=zg2 hR hL (by intro z;cases z);rw[List.length_cons] at h1 h2;have hb:=zx8 (c:=c) (start:=start) (s:=s) (row:=row) (t0:=t0) (t2:=t2) hR hL (by omega) (by omega) (by omega);have un:za9 (fun _=>True) (zaw 6) (zap c) ((s::ss).map .str) [t0,some (.str start),t2,some (.obj kR),some (.obj kL),some (strL row),x6] S=M.bind (zap c [t0,some (.str start),t2,some (.obj kR),some (.obj kL),some (strL row),some (.str s)]) (fun x=>match x with
    |.nx ρ2=>za9 (fun _=>True) (zaw 6) (zap c) (ss.map .str) ρ2
    |.ct ρ2=>za9 (fun _=>True) (zaw 6) (zap c) (ss.map .str) ρ2
    |.bk ρ2=>M.pure (.nx ρ2)
    |.rt t=>M.pure (.rt t)) S:=by
    show za9 _ _ _ (.str s::ss.map .str) _ S=_
    conv=>lhs;unfold za9
    rw[if_pos trivial];rfl
   rw[un,zan];unfold rt1;by_cases z:s=start
   ·rw[if_pos z]
    rw[if_pos z] at hb;refine⟨S,x6,Sm2.refl _ _ _,?_⟩;rw[hb];rfl
   ·rw[if_neg z]
    rw[if_neg z] at hb;by_cases y:s∈re
    ·rw[if_pos y]
     rw[if_pos y] at hb;obtain⟨S',x6',sm,e⟩:=zjv hrow ss re lo (x6:=some (.str s)) hR hL (by omega) (by omega);refine⟨S',x6',sm,?_⟩;rw[hb];exact e
    ·rw[if_neg y]
     rw[if_neg y] at hb;have hR2:((S.set kR (.dic (zbc (re++[s])))).set kL (.lst ((lo++[row++[s]]).map strL)))[kR]?=some (.dic (zbc (re++[s]))):=by rw[zae (Ne.symm ne)];exact zdm hR
     have hL2:((S.set kR (.dic (zbc (re++[s])))).set kL (.lst ((lo++[row++[s]]).map strL)))[kL]?=some (.lst ((lo++[row++[s]]).map strL)):=zdm (u:=.lst (lo.map strL)) (by rw[zae ne];exact hL);have sm1:Sm2 S ((S.set kR (.dic (zbc (re++[s])))).set kL (.lst ((lo++[row++[s]]).map strL))) kR kL:=⟨by simp,fun j h1 h2=>by rw[zae (Ne.symm h2),zae (Ne.symm h1)]⟩;obtain⟨S',x6',sm,e⟩:=zjv hrow ss (re++[s]) (lo++[row++[s]]) (x6:=some (.str s)) hR2 hL2 (by simp;omega) (by simp;omega);refine⟨S',x6',sm1.trans sm,?_⟩;rw[hb];exact e
theorem z3z{row:List Str}(h:row≠[]):gIx (strL row) (.int (-1)) S=.ok (.str (zc7 row)) S:=by
 obtain⟨A,x,rfl⟩:∃A x,row=A++[x]:=⟨row.dropLast,row.getLast h,(List.dropLast_concat_getLast h).symm⟩;have:atI ((A++[x]).map T.str) (-1)=some (.str x):=by
  have hl:((A++[x]).map T.str).length=A.length+1:=by simp
  have hi:ixN (A.length+1) (-1)=some A.length:=by
   unfold ixN;rw[if_neg (by decide),if_pos (by omega)];congr 1;omega
  unfold atI;rw[hl,hi];simp
 rw[zlo];show gIx (.lst ((A++[x]).map T.str)) (.int (-1)) S=_;rw[z6w,this]
end DN
namespace DN
open PySem L2 MF
variable {c:Cl}{S:Sto}{ρ:Ev}{sec:Str->List Str}{names:List Str}
theorem zx9(l:List Str):(zbc l).map (fun p=>kT p.1)=l.map T.str:=by simp[zbc,kT]
structure SecOk(names:List Str)(sec:Str->List Str):Prop where
 sub:∀a∈names,∀b∈sec a,b∈names
 len:∀a∈names,(sec a).length<=200
 few:names.length<=100
theorem ReOk.few{re:List Str}(h:ReOk names re)(k:SecOk names sec):re.length<=100:=Nat.le_trans (zg4 re names h.nd h.sub) k.few
theorem zm5{kR kL:Nat}{start:Str}{t2:Option T}{st:Sto->Prop}(ok:SecOk names sec):∀(rows:List (List Str)) (re:List Str) (lo:List (List Str)) {x5 x6:Option T} {S:Sto},S[kR]?=some (.dic (zbc re))->S[kL]?=some (.lst (lo.map strL))->ReOk names re->(∀r∈rows,zh1 names re r)->(∀r∈lo,zh1 names re r)->lo.length<=re.length->(∀S',Sm2 S S' kR kL->st S') ->
  ∃ S' x5' x6',Sm2 S S' kR kL/\(match rt2 sec start rows re lo with
    |.error row=>za9 st (zaw 5) (zar c) (rows.map strL) [some (secD names sec),some (.str start),t2,some (.obj kR),some (.obj kL),x5,x6] S=.ok (.rt (strL row)) S'
    |.ok (re',lo')=>za9 st (zaw 5) (zar c) (rows.map strL) [some (secD names sec),some (.str start),t2,some (.obj kR),some (.obj kL),x5,x6] S=.ok (.nx [some (secD names sec),some (.str start),t2,some (.obj kR),some (.obj kL),x5',x6']) S'/\S'[kR]?=some (.dic (zbc re'))/\S'[kL]?=some (.lst (lo'.map strL)))
 | [],re,lo,x5,x6,S,hR,hL,_,_,_,_,hst=>⟨S,x5,x6,Sm2.refl _ _ _,by
   show za9 _ _ _ [] _ S=_/\_;unfold za9;rw[if_pos (hst S (Sm2.refl _ _ _))];exact⟨rfl,hR,hL⟩⟩
 | row::rows,re,lo,x5,x6,S,hR,hL,h1,h2,h3,h4,hst=>by
   have hr:=h2 row (List.mem_cons_self ..);have hlast:=hr.sub _ (zs2 hr.ne);have f1:=h1.few ok;have f2:=ok.len _ hlast;obtain⟨S1,y6,sm1,e1⟩:=zjv (c:=c) (kR:=kR) (kL:=kL) (start:=start) (row:=row) (t0:=some (secD names sec)) (t2:=t2) (by have:=hr.len;omega) (sec (zc7 row)) re lo (x6:=x6) hR hL (by omega) (by omega);have un:za9 st (zaw 5) (zar c) ((row::rows).map strL) [some (secD names sec),some (.str start),t2,some (.obj kR),some (.obj kL),x5,x6] S=M.bind (zar c [some (secD names sec),some (.str start),t2,some (.obj kR),some (.obj kL),some (strL row),x6]) (fun x=>match x with
    |.nx ρ2=>za9 st (zaw 5) (zar c) (rows.map strL) ρ2
    |.ct ρ2=>za9 st (zaw 5) (zar c) (rows.map strL) ρ2
    |.bk ρ2=>M.pure (.nx ρ2)
    |.rt t=>M.pure (.rt t)) S:=by
    show za9 _ _ _ (strL row::rows.map strL) _ S=_
    conv=>lhs;unfold za9
    rw[if_pos (hst S (Sm2.refl _ _ _))];rfl
   have hb:zar c [some (secD names sec),some (.str start),t2,some (.obj kR),some (.obj kL),some (strL row),x6] S=za9 (fun _=>True) (zaw 6) (zap c) ((sec (zc7 row)).map .str) [some (secD names sec),some (.str start),t2,some (.obj kR),some (.obj kL),some (strL row),x6] S:=by
    have hi:iK (e2 gDix (eVar 0) (e2 gIx (eVar 5) (MF.e1 gNeg (eC (.int 1))))) [some (secD names sec),some (.str start),t2,some (.obj kR),some (.obj kL),some (strL row),x6] S=.ok ((sec (zc7 row)).map .str,fun _=>True) S:=by
     have hd:=zxy (S:=S) (sec:=sec) hlast;have ha:=z3z (S:=S) hr.ne;unfold iK;rw[zan,x_e2,zan];simp only[zt9,List.getElem?_cons_zero,zan,x_e2,List.getElem?_cons_succ,x_e1,x_c,gNeg,ha,hd,zx9]
    unfold zar sFor;rw[zan,hi]
   rw[un,zan,hb];unfold rt2;cases q:rt1 start row (sec (zc7 row)) re lo with
   | none=>
     rw[q] at e1;refine⟨S1,x5,y6,sm1,?_⟩;simp only at e1 ⊢;rw[e1];rfl
   | some p=>
     obtain⟨re1,lo1⟩:=p;rw[q] at e1;simp only at e1;obtain⟨e1,g1,g2⟩:=e1;obtain⟨a1,a2,a3,⟨u,a4⟩,_,_,_⟩:=zs3 _ re lo (ok.sub _ hlast) h1 hr h3 h4 re1 lo1 q;have le1:re.length<=re1.length:=by rw[a4];simp
     obtain⟨S2,z5,z6,sm2,e2⟩:=zm5 ok rows re1 lo1 (x5:=some (strL row)) (x6:=y6) (t2:=t2) (start:=start) (S:=S1) g1 g2 a1 (fun r hr=>(h2 r (List.mem_cons_of_mem _ hr)).mono le1) a2 a3 (fun S' h=>hst S' (sm1.trans h));refine⟨S2,z5,z6,sm1.trans sm2,?_⟩;rw[e1];exact e2
theorem zn9{t:T}{ts:List T}(h:zal S t=some ts):truM t S=.ok (!ts.isEmpty) S:=by
 cases t with
 |lst us=>cases h;rfl
 | obj k=>
   have:zdl S (.obj k)=some ts:=h;unfold truM;simp[this]
 |_=>simp[zal] at h
theorem zm6{kR:Nat}{start:Str}(ok:SecOk names sec):∀(n:Nat) (rows:List (List Str)) (re:List Str) (m:Nat) {tR:T} {x4 x5 x6:Option T} {S:Sto},n+1<=m->names.length+2<=n+re.length->S[kR]?=some (.dic (zbc re))->(∀S',(∀j,j<S.length->j≠kR->S'[j]?=S[j]?)->zal S' tR=some (rows.map strL))->ReOk names re->(∀r∈rows,zh1 names re r) ->
  ∃S' ρ',zci (zay c) (zas c) m [some (secD names sec),some (.str start),some tR,some (.obj kR),x4,x5,x6] S=(if rt3 sec start n rows re=[] then .ok (.nx ρ') S' else .ok (.rt (strL (rt3 sec start n rows re))) S')/\(∀j,j<kR->S'[j]?=S[j]?)/\S.length<=S'.length
 | 0,rows,re,m,tR,x4,x5,x6,S,_,hf,_,_,h1,_=>by
   have:=zg4 re names h1.nd h1.sub;omega
 |n+1,rows,re,0,tR,x4,x5,x6,S,hm,_,_,_,_,_=>by omega
 | n + 1, rows,re,m+1,tR,x4,x5,x6,S,hm,hf,hR,hT,h1,h2=>by
   have hl:=hT S fun _ _ _=>rfl;have kR_lt:=(List.getElem?_eq_some_iff.mp hR).1;have hw:zay c [some (secD names sec),some (.str start),some tR,some (.obj kR),x4,x5,x6] S=.ok (!rows.isEmpty) S:=by
    simp[zay,zn9 hl]
   have un:zci (zay c) (zas c) (m+1) [some (secD names sec),some (.str start),some tR,some (.obj kR),x4,x5,x6] S=if(!rows.isEmpty)=true then M.bind (zas c [some (secD names sec),some (.str start),some tR,some (.obj kR),x4,x5,x6]) (fun x=>match x with
    |.nx ρ2=>zci (zay c) (zas c) m ρ2
    |.ct ρ2=>zci (zay c) (zas c) m ρ2
    |.bk ρ2=>M.pure (.nx ρ2)
    |.rt t=>M.pure (.rt t)) S else .ok (.nx [some (secD names sec),some (.str start),some tR,some (.obj kR),x4,x5,x6]) S:=by
    conv=>lhs;unfold zci
    rw[zan,hw];simp only
    split<;>rfl
   rw[un];unfold rt3;by_cases z:rows=[]
   ·subst z
    exact⟨S,[some (secD names sec),some (.str start),some tR,some (.obj kR),x4,x5,x6],by simp,fun _ _=>rfl,Nat.le_refl _⟩
   ·have z':rows.isEmpty=false:=by simpa using z
    simp only[z',Bool.not_false,if_true,if_neg z];rw[zan];have hL:(S++[Cell.lst []])[S.length]?=some (.lst (([]:List (List Str)).map strL)):=zet;have hR':(S++[Cell.lst []])[kR]?=some (.dic (zbc re)):=zbr hR;have stq:∀S',Sm2 (S++[Cell.lst []]) S' kR S.length->zal S' tR=some (rows.map strL):=fun S' sm=>hT S' fun j hj hne=>by
     rw[sm.same j hne (by omega),List.getElem?_append_left hj]
    obtain⟨S1,y5,y6,sm,e⟩:=zm5 (c:=c) (kR:=kR) (kL:=S.length) (start:=start) (t2:=some tR) (st:=fun S'=>zal S' tR=some (rows.map strL)) ok rows re [] (x5:=x5) (x6:=x6) (S:=S++[.lst []]) hR' hL h1 h2 (by intro r hr;cases hr) (Nat.zero_le _) stq;have keep1:∀j,j<kR->S1[j]?=S[j]?:=fun j hj=>by rw[sm.same j (by omega) (by omega),List.getElem?_append_left (by omega)]
    have len1:S1.length=S.length+1:=by rw[sm.len];simp
    have hfor:sFor (iL (eVar 2)) (zaw 5) (zar c) [some (secD names sec),some (.str start),some tR,some (.obj kR),some (.obj S.length),x5,x6] (S++[.lst []])=za9 (fun S'=>zal S' tR=some (rows.map strL)) (zaw 5) (zar c) (rows.map strL) [some (secD names sec),some (.str start),some tR,some (.obj kR),some (.obj S.length),x5,x6] (S++[.lst []]):=by
     have:=stq _ (Sm2.refl _ _ _);unfold sFor;simp[this]
    cases q:rt2 sec start rows re [] with
    | error row=>
      rw[q] at e;have hb:zas c [some (secD names sec),some (.str start),some tR,some (.obj kR),x4,x5,x6] S=.ok (.rt (strL row)) S1:=by
       simp[zas,hfor,e]
      have hne:=(h2 row (zlp _ _ _ q)).ne;refine⟨S1,[],?_,keep1,by omega⟩;rw[hb,if_neg hne];rfl
    | ok p=>
      obtain⟨re',lo⟩:=p;rw[q] at e;obtain⟨e,g1,g2⟩:=e;have hb:zas c [some (secD names sec),some (.str start),some tR,some (.obj kR),x4,x5,x6] S=.ok (.nx [some (secD names sec),some (.str start),some (.obj S.length),some (.obj kR),some (.obj S.length),y5,y6]) S1:=by
       simp[zas,hfor,e]
      obtain⟨a1,a2,a3,⟨u,a4⟩,⟨v,a5,a5'⟩,_,_⟩:=zp4 ok.sub rows re [] h1 h2 (by intro r hr;cases hr) (Nat.zero_le _) re' lo q;rw[List.nil_append] at a5;have hT1:∀S',(∀j,j<S1.length->j≠kR->S'[j]?=S1[j]?)->zal S' (.obj S.length)=some (lo.map strL):=fun S' h=>zfv (by rw[h S.length (by omega) (by omega)];exact g2);rw[hb];rcases a5' with y | y
      ·rw [y] at a5
       subst a5;have r0:rt3 sec start n [] re'=[]:=by cases n<;>simp[rt3]
       have hl1:=hT1 S1 fun _ _ _=>rfl;cases m with
       |zero=>omega
       | succ m=>
         refine⟨S1,[some (secD names sec),some (.str start),some (.obj S.length),some (.obj kR),some (.obj S.length),y5,y6],?_,keep1,by omega⟩;rw[if_pos r0];show zci _ _ (m+1) _ S1=_;unfold zci;have hw1:zay c [some (secD names sec),some (.str start),some (.obj S.length),some (.obj kR),some (.obj S.length),y5,y6] S1=.ok false S1:=by
          simp[zay,zn9 hl1]
         rw[zan,hw1];rfl
      ·obtain⟨S2,ρ2,w1,w2,w3⟩:=zm6 ok n lo re' m (tR:=.obj S.length) (x4:=some (.obj S.length)) (x5:=y5) (x6:=y6) (S:=S1) (start:=start) (kR:=kR) (by omega) (by omega) g1 hT1 a1 a2
       exact⟨S2,ρ2,w1,fun j hj=>(w2 j hj).trans (keep1 j hj),by omega⟩
end DN
namespace DN
open PySem L2 MF
variable {c:Cl}{S:Sto}{ρ:Ev}{sec:Str->List Str}{names:List Str}
def zc8(sec:Str->List Str)(names:List Str)(start:Str):List Str:=rt3 sec start (names.length+1) [[start]] [start]
theorem zkp{start:Str}(h:start∈names):ReOk names [start]/\∀r∈[[start]],zh1 names [start] r:=by
 refine⟨⟨by simp,fun x hx=>by rw[List.mem_singleton.mp hx];exact h⟩,fun r hr=>?_⟩;rw[List.mem_singleton.mp hr];exact⟨by simp,fun x hx=>by rw[List.mem_singleton.mp hx];exact h,Nat.le_refl _⟩
theorem zya{start:Str}(ok:SecOk names sec)(h:start∈names)(hp:Path sec start start):zc8 sec names start≠[]:=by
 obtain⟨a,b⟩:=zkp h;refine z1u ok.sub hp (names.length+1) [[start]] [start] (by simp) a b (by simp) fun u hu=>.inr ⟨[start],by simp,?_⟩;rw[List.mem_singleton.mp hu];rfl
theorem zoa{start:Str}(ok:SecOk names sec)(h:start∈names):(∀x∈zc8 sec names start,x∈names)/\(zc8 sec names start).length<=names.length:=by
 obtain⟨a,b⟩:=zkp h;exact zxw ok.sub _ _ _ a b
theorem zyb{S S':Sto}(h:∀j,j<S.length->S'[j]?=S[j]?)(hl:S.length<=S'.length):S'.take S.length=S:=by
 apply List.ext_getElem?;intro j;rw[List.getElem?_take];by_cases z:j<S.length
 ·rw[if_pos z];exact h j z
 ·rw[if_neg z,List.getElem?_eq_none (by omega)]
theorem z7q{start:Str}(ok:SecOk names sec)(hs:start∈names):zen c [secD names sec,.str start] S=.ok (strL (zc8 sec names start)) S:=by
 obtain⟨a,b⟩:=zkp hs;have hd:zsv (eVar 1) (eC (.bl true)) [some (secD names sec),some (.str start),some (.lst [.lst [.str start]]),none,none,none,none] S=.ok (.obj S.length) (S++[.dic (zbc [start])]):=by
  simp[zsv,keyT,zbc,zxu]
 have few:=ok.few;obtain⟨S',ρ',e,k1,k2⟩:=zm6 (c:=c) (kR:=S.length) (start:=start) ok (names.length+1) [[start]] [start] 1000 (tR:=.lst [.lst [.str start]]) (x4:=none) (x5:=none) (x6:=none) (S:=S++[.dic (zbc [start])]) (by omega) (by simp) zet (fun _ _=>rfl) a b;have keep:∀j,j<S.length->S'[j]?=S[j]?:=fun j hj=>by rw[k1 j hj,List.getElem?_append_left hj]
 have hl:S.length<=S'.length:=by simp at k2;omega
 have e':zi0 (zay c) (zas c) [some (secD names sec),some (.str start),some (.lst [.lst [.str start]]),some (.obj S.length),none,none,none] (S++[.dic (zbc [start])])=_:=e;have run:runD 7 (zem c) [secD names sec,.str start] S=.ok (strL (zc8 sec names start)) S':=by
  by_cases z:zc8 sec names start=[]
  ·have z':rt3 sec start (names.length+1) [[start]] [start]=[]:=z
   rw[if_pos z'] at e';rw[z];simp[zem,hd,e',strL]
  ·have z':¬rt3 sec start (names.length+1) [[start]] [start]=[]:=z
   rw[if_neg z'] at e';simp[zem,hd,e'];rfl
 exact zk8 run (zyb keep hl) (zwz _)
theorem zyc:∀(ls:List Nat),ls≠[]->∃i,zk9 ls i
 |[],h=>absurd rfl h
 | [n],_=>⟨0,n,rfl,fun j k e=>by
   cases j with
   |zero=>simp at e;subst e;exact⟨Nat.le_refl _,fun h=>absurd h (Nat.lt_irrefl _)⟩
   |succ j=>simp at e⟩
 | n::m::r,_=>by
   obtain⟨i,k,ek,hk⟩:=zyc (m::r) (by simp);by_cases z:k<n
   ·refine⟨i+1,k,by simpa using ek,fun j u eu=>?_⟩
    cases j with
    |zero=>simp at eu;subst eu;exact⟨by omega,fun _=>z⟩
    | succ j=>
      have:=hk j u (by simpa using eu);exact⟨this.1,fun h=>this.2 (by omega)⟩
   ·refine⟨0,n,rfl,fun j u eu=>?_⟩
    cases j with
    |zero=>simp at eu;subst eu;exact⟨Nat.le_refl _,fun h=>absurd h (Nat.lt_irrefl _)⟩
    | succ j=>
      have:=hk j u (by simpa using eu);exact⟨by omega,fun h=>absurd h (Nat.not_lt_zero _)⟩
structure zje(sec:Str->List Str)(names ring:List Str):Prop where
 ne:ring≠[]
 of:∃n∈names,ring=zc8 sec names n
 min:∀n∈names,zc8 sec names n≠[]->ring.length<=(zc8 sec names n).length
theorem zun(ok:SecOk names sec)(hex:∃n∈names,zc8 sec names n≠[]):∃ring,zc2 c [secD names sec] S=.ok (strL ring) S/\zje sec names ring:=by
 have few:=ok.few;have hk:zcd c [some (secD names sec),none] S=.ok (names.map .str,fun _=>True) S:=by
  have:(names.map fun n=>((Sum.inr n:Key),T.dic (zbc (sec n)))).map (fun p=>kT p.1)=names.map T.str:=by simp[kT]
  simp[zcd,iK,secD,kT]
 have c1:=zk7 (ρ:=[some (secD names sec),none]) (S:=S) (js:=[0]) (it:=zcd c) (te:=zdb c) (ts:=names.map .str) (st:=fun _=>True) (f:=fun t=>match t with|.str n=>strL (zc8 sec names n) | _=>.non) hk trivial (by simp;omega) (fun t ht=>by
  obtain⟨n,hn,rfl⟩:=List.mem_map.mp ht;simp[zdb,z7q ok hn])
 rw[List.map_map] at c1;have c1:zef 1 [0] (zcd c) (zaw 0) yesD (zdb c) finF [some (secD names sec),none] S=.ok (.lst (names.map fun n=>strL (zc8 sec names n))) S:=c1;have c2:=zf8 (ρ:=[some (secD names sec),some (.lst (names.map fun n=>strL (zc8 sec names n)))]) (S:=S) (js:=[]) (it:=zeh c) (tc:=zei c) (te:=zeg c) (ts:=names.map fun n=>strL (zc8 sec names n)) (st:=fun S'=>zal S' (.lst (names.map fun n=>strL (zc8 sec names n)))=some (names.map fun n=>strL (zc8 sec names n)))
  (p:=fun t=>match t with|.lst us=>!us.isEmpty | _=>false) (f:=fun t=>t) (by simp[zeh]) rfl (by simp;omega) (fun t ht=>by
   obtain⟨n,hn,rfl⟩:=List.mem_map.mp ht;simp[zei,strL]) (fun t ht _=>by simp[zeg])
 have ef:((names.map fun n=>strL (zc8 sec names n)).filter (fun t=>match t with|.lst us=>!us.isEmpty | _=>false)).map (fun t=>t)=((names.map (zc8 sec names)).filter fun r=>!r.isEmpty).map strL:=by
  rw[List.map_id',List.filter_map,List.filter_map,List.map_map];congr 1;refine List.filter_congr fun n _=>?_;simp[strL]
 rw[ef] at c2;generalize hrs:((names.map (zc8 sec names)).filter fun r=>!r.isEmpty)=rs at c2;have mem:∀r∈rs,r≠[]/\∃n∈names,r=zc8 sec names n:=fun r hr=>by
  rw[<- hrs] at hr;obtain⟨h1,h2⟩:=List.mem_filter.mp hr;obtain⟨n,hn,rfl⟩:=List.mem_map.mp h1;exact⟨by simpa using h2,n,hn,rfl⟩
 have rne:rs≠[]:=by
  obtain⟨n,hn,h⟩:=hex;intro z;have:zc8 sec names n∈rs:=by rw[<- hrs];exact List.mem_filter.mpr ⟨List.mem_map.mpr ⟨n,hn,rfl⟩,by simpa using h⟩
  rw[z] at this;cases this
 have hlens:zz2 S (rs.map strL)=some (rs.map List.length):=by
  unfold zz2;exact zko (k:=List.length) fun r _=>by simp[strL]
 have hbest:=zyc (rs.map List.length) (by simpa using rne);have hm:∃ring∈rs,gMin (.lst (rs.map strL)) S=.ok (strL ring) S/\∀r∈rs,ring.length<=r.length:=by
  obtain⟨n,en,hmin⟩:=hbest.choose_spec;rw[List.getElem?_map] at en;obtain⟨ring,er,el⟩:=Option.map_eq_some_iff.mp en;refine⟨ring,List.mem_of_getElem? er,?_,fun r hr=>?_⟩
  case refine_2=>
   obtain⟨j,hj,e⟩:=List.getElem_of_mem hr;have:=(hmin j r.length (by rw[List.getElem?_map,List.getElem?_eq_getElem hj,e];rfl)).1;omega
  have e2:(rs.map strL)[hbest.choose]?=some (strL ring):=by rw[List.getElem?_map,er];rfl
  unfold gMin;simp only[zwx,hlens,dif_pos hbest,e2]
 obtain⟨ring,hr,em,hmn⟩:=hm;refine⟨ring,?_,(mem ring hr).1,(mem ring hr).2,fun n hn h=>hmn _ (by rw[<- hrs];exact List.mem_filter.mpr ⟨List.mem_map.mpr ⟨n,hn,rfl⟩,by simpa using h⟩)⟩;simp[zc2,zhv,c1,c2,em]
end DN
namespace DN
open PySem L2 MF
variable {c:Cl}{S:Sto}{ρ:Ev}{sec:Str->List Str}{names:List Str}
theorem zs8:∀(zs:List Str),(∀z∈zs,(reprText z).length<=30)->((PyData.shownAll (zs.map PyData.str)).map (·.length)).sum<=30*zs.length/\(PyData.shownAll (zs.map PyData.str)).length=zs.length
 |[],_=>by simp[PyData.shownAll]
 | z::zs,h=>by
   obtain⟨a,b⟩:=zs8 zs fun x hx=>h x (List.mem_cons_of_mem _ hx);have:=h z (List.mem_cons_self ..);simp only[List.map_cons,PyData.shownAll,PyData.shown,List.sum_cons,List.length_cons];omega
theorem zrs{zs:List Str}(h:∀z∈zs,(reprText z).length<=30)(hl:zs.length<=24):(PyData.shown (.list (zs.map PyData.str))).length<=800:=by
 obtain⟨a,b⟩:=zs8 zs h;have:=listText_len_le (PyData.shownAll (zs.map PyData.str));simp only[PyData.shown];omega
theorem z30{x:Str}{A B:List Str}(h:x∉A):idxF (.str x) ((A++x::B).map T.str)=some A.length:=by
 have go:∀(A B:List Str),x∉A->((A++x::B).map V.str).findIdx? (fun y=>eqV y (.str x))=some A.length:=by
  intro A
  induction A with
  | nil=>
    intro B _;rw[List.nil_append,List.map_cons,List.findIdx?_cons];simp[eqV]
  | cons a A ih=>
    intro B h;have h1:a≠x:=fun e=>h (by simp[e]);have:=ih B fun z=>h (List.mem_cons_of_mem _ z);rw[List.cons_append,List.map_cons,List.findIdx?_cons,this];simp[eqV,h1]
 unfold idxF;rw[zgm];simp only[toV];rw[if_pos (by rw[zjj];rfl),go A B h]
theorem zs9{k:Nat}{left:List Str}{x:Str}(hk:S[k]?=some (.lst (left.map .str)))(hx:x∈left)(hl:left.length<=1000):zij (.obj k) [.str x] S=.ok .non (S.set k (.lst ((left.erase x).map .str))):=by
 obtain⟨A,B,rfl,hA⟩:=List.eq_append_cons_of_mem hx;have e1:(A++x::B).erase x=A++B:=by rw[List.erase_append_right _ hA,List.erase_cons_head]
 have e2:((A++x::B).map T.str).eraseIdx A.length=(A++B).map T.str:=by
  rw[List.map_append,List.map_cons,List.eraseIdx_append_of_length_le (by simp),List.length_map,Nat.sub_self,List.eraseIdx_cons_zero,List.map_append]
 have hl2:((A++x::B).map T.str).length<=1000:=by rw[List.length_map];exact hl
 unfold zij;simp only[cellL,hk,z30 hA,if_pos hl2,e2,e1]
structure zyd(names:List Str)(sec:Str->List Str):Prop extends SecOk names sec where
 sm:∀x∈names,(reprText x).length<=30
 f17:names.length<=24
theorem zlu{kl kr h:Nat}{t1:Option T}(ok:zyd names sec):∀(n:Nat) (left row:List Str) (m:Nat) {x5:Option T} {S:Sto},left.length=n->n+1<=m->left.Nodup->(∀x∈left,x∈names)->S[kl]?=some (.lst (left.map .str))->S[kr]?=some (.lst (row.map .str))->kl≠kr->row.length+n<=900 ->
  (∀res,topo sec n left row=some res->∃S' x5',zci (zaz c) (zav c) m [some (.obj h),t1,some (secD names sec),some (.obj kl),some (.obj kr),x5] S=.ok (.nx [some (.obj h),t1,some (secD names sec),some (.obj kl),some (.obj kr),x5']) S'/\S'[kr]?=some (.lst (res.map .str))/\Sm2 S S' kl kr) /\
  (topo sec n left row=none->∃S' ring,zci (zaz c) (zav c) m [some (.obj h),t1,some (secD names sec),some (.obj kl),some (.obj kr),x5] S=.exc c.ring (some [("ring",strL ring)]) S'/\Sm2 S S' kl kr/\zje sec names ring)
 |n,left,row,0,x5,S,_,hm,_,_,_,_,_,_=>by omega
 | 0,left,row,m+1,x5,S,hl,_,_,_,hkl,hkr,ne,_=>by
   have:left=[]:=List.eq_nil_of_length_eq_zero hl;subst this;have hw:zaz c [some (.obj h),t1,some (secD names sec),some (.obj kl),some (.obj kr),x5] S=.ok false S:=by
    simp[zaz,zn9 (zfv hkl)]
   refine⟨fun res e=>?_,fun e=>by cases e⟩;cases e;refine⟨S,x5,?_,hkr,Sm2.refl _ _ _⟩;unfold zci;rw[zan,hw];rfl
 | n + 1,left,row,m+1,x5,S,hl,hm,nd,hsub,hkl,hkr,ne,hr=>by
   have hlne:left≠[]:=fun e=>by rw[e] at hl;simp at hl
   have hw:zaz c [some (.obj h),t1,some (secD names sec),some (.obj kl),some (.obj kr),x5] S=.ok true S:=by
    have:(left.map T.str).isEmpty=false:=by simpa using hlne
    simp[zaz,zn9 (zfv hkl),this,hlne]
   have un:zci (zaz c) (zav c) (m+1) [some (.obj h),t1,some (secD names sec),some (.obj kl),some (.obj kr),x5] S=M.bind (zav c [some (.obj h),t1,some (secD names sec),some (.obj kl),some (.obj kr),x5]) (fun x=>match x with
    |.nx ρ2=>zci (zaz c) (zav c) m ρ2
    |.ct ρ2=>zci (zaz c) (zav c) m ρ2
    |.bk ρ2=>M.pure (.nx ρ2)
    |.rt t=>M.pure (.rt t)) S:=by
    conv=>lhs;unfold zci
    rw[zan,hw];rfl
   rw[un,zan];have f100:=ok.few;have llen:=zg4 left names nd hsub;have ef:=zum (c:=c) (sec:=sec) hkl hsub (by omega);unfold topo;cases q:left.find? (zcj sec left) with
   | none=>
     rw[q] at ef;have hall:∀x∈left,∃f∈left,x∈sec f:=fun x hx=>by
      have:=List.find?_eq_none.mp q x hx;unfold zcj at this;simpa using this
     obtain⟨s,hs,hp⟩:=zul hlne hall;obtain⟨ring,er,sh⟩:=zun (c:=c) (S:=S) ok.toSecOk ⟨s,hsub s hs,zya ok.toSecOk (hsub s hs) hp⟩;obtain⟨n0,hn0,hring⟩:=sh.of;obtain⟨rs1,rs2⟩:=zoa ok.toSecOk hn0;rw[<- hring] at rs1 rs2;have hsh:=zrs (zs:=ring) (fun z hz=>ok.sm z (rs1 z hz)) (by have:=ok.f17;omega);have hcond:ring.length<=1000/\(PyData.shown (.list (ring.map PyData.str))).length<=800:=⟨by have:=ok.f17;omega,hsh⟩;refine⟨fun res e=>(by cases e),fun _=>⟨S,ring,?_,Sm2.refl _ _ _,sh⟩⟩;have hb:zav c [some (.obj h),t1,some (secD names sec),some (.obj kl),some (.obj kr),x5] S=.exc c.ring (some [("ring",strL ring)]) S:=by
      have hss:((zal S (strL ring)).bind zee)=some ring:=by simp[strL,zfb]
      simp only[strL] at hss;simp[zav,ef,gIs,zk4,znw,er,strL,hss,zfb,hcond]
     rw[hb]
   | some x=>
     rw[q] at ef;have hx:=List.mem_of_find?_eq_some q;have hrem:=zs9 hkl hx (by omega);have hkr2:(S.set kl (.lst ((left.erase x).map .str)))[kr]?=some (.lst (row.map .str)):=by rw[zae ne];exact hkr
     have happ:=zzv (y:=.str x) hkr2 (by simp;omega);have e1:row.map T.str++[T.str x]=(row++[x]).map .str:=by simp
     rw[e1] at happ;have hok1:=zj7 hkl;have hok2:=zj7 hkr2;have hb:zav c [some (.obj h),t1,some (secD names sec),some (.obj kl),some (.obj kr),x5] S=.ok (.nx [some (.obj h),t1,some (secD names sec),some (.obj kl),some (.obj kr),some (.str x)]) ((S.set kl (.lst ((left.erase x).map .str))).set kr (.lst ((row++[x]).map .str))):=by
      simp only[List.map_append,List.map_cons,List.map_nil] at happ ⊢;simp[zav,ef,gIs,zk4,hok1,hrem,hok2,happ]
     rw[hb];have g1:((S.set kl (.lst ((left.erase x).map .str))).set kr (.lst ((row++[x]).map .str)))[kl]?=some (.lst ((left.erase x).map .str)):=by rw[zae (Ne.symm ne)];exact zdm hkl
     have g2:((S.set kl (.lst ((left.erase x).map .str))).set kr (.lst ((row++[x]).map .str)))[kr]?=some (.lst ((row++[x]).map .str)):=zdm hkr2;have sm1:Sm2 S ((S.set kl (.lst ((left.erase x).map .str))).set kr (.lst ((row++[x]).map .str))) kl kr:=⟨by simp,fun j h1 h2=>by rw[zae (Ne.symm h2),zae (Ne.symm h1)]⟩;obtain⟨a,b⟩:=zlu (h:=h) (t1:=t1) ok n (left.erase x) (row++[x]) m (x5:=some (.str x)) (by rw[List.length_erase_of_mem hx];omega) (by omega) (nd.erase x) (fun y hy=>hsub y (List.mem_of_mem_erase hy)) g1 g2 ne (by simp;omega);refine⟨fun res e=>?_,fun e=>?_⟩
     ·obtain⟨S',x5',w1,w2,w3⟩:=a res e
      exact⟨S',x5',w1,w2,sm1.trans w3⟩
     ·obtain⟨S',ring,w1,w2,sh⟩:=b e
      exact⟨S',ring,w1,sm1.trans w2,sh⟩
theorem zob{h:Nat}{pl:List PlM}{ps qs:List HP}(A:za4 c S h pl ps)(nd:names.Nodup)(hq:qs.map (·.nm)=names)(hs:∀q∈qs,q∈ps/\q.w0.length+q.w1.length<=20)(ok:zyd names (zf5 names qs)) :
  (∀res,topo (zf5 names qs) names.length names []=some res->∃S',zco c [.obj h,strL names] S=.ok (.obj (S.length+1)) S'/\S'[S.length+1]?=some (.lst (res.map .str))/\∀j,j<S.length->S'[j]?=S[j]?) /\
  (topo (zf5 names qs) names.length names []=none->∃S' ring,zco c [.obj h,strL names] S=.exc c.ring (some [("ring",strL ring)]) S'/\(∀j,j<S.length->S'[j]?=S[j]?)/\zje (zf5 names qs) names ring):=by
 have es:=zx6 A nd hq hs ok.f17;have f17:=ok.f17;have e1:zjz (strL names) S=.ok (.obj S.length) (S++[.lst (names.map .str)]):=by simp[zjz,zff,strL]
 have hlen:(S++[Cell.lst (names.map .str)]).length=S.length+1:=by simp
 have g1:(S++[Cell.lst (names.map .str)]++[.lst []])[S.length]?=some (.lst (names.map .str)):=by rw[List.append_assoc,zrq];rfl
 have g2:(S++[Cell.lst (names.map .str)]++[.lst []])[S.length+1]?=some (.lst (([]:List Str).map .str)):=by rw[List.append_assoc,getR];rfl
 obtain⟨a,b⟩:=zlu (c:=c) (kl:=S.length) (kr:=S.length+1) (h:=h) (t1:=some (strL names)) ok names.length names [] 1000 (x5:=none) (S:=S++[.lst (names.map .str)]++[.lst []]) rfl (by omega) nd (fun x hx=>hx) g1 g2 (by omega) (by simp;omega);have keep:∀S',Sm2 (S++[Cell.lst (names.map .str)]++[.lst []]) S' S.length (S.length+1)->∀j,j<S.length->S'[j]?=S[j]?:=fun S' sm j hj=>by
  rw[sm.same j (by omega) (by omega),List.append_assoc,List.getElem?_append_left hj]
 refine⟨fun res e=>?_,fun e=>?_⟩
 ·obtain⟨S',x5',w1,w2,w3⟩:=a res e
  have w1:zi0 (zaz c) (zav c) [some (.obj h),some (strL names),some (secD names (zf5 names qs)),some (.obj S.length),some (.obj (S.length+1)),none] (S++[.lst (names.map .str)]++[.lst []])=_:=w1;simp only[List.append_assoc,List.cons_append,List.nil_append] at w1;refine⟨S',?_,w2,keep S' w3⟩;simp[zco,zgo,es,e1,w1]
 ·obtain⟨S',ring,w1,w3,sh⟩:=b e
  have w1:zi0 (zaz c) (zav c) [some (.obj h),some (strL names),some (secD names (zf5 names qs)),some (.obj S.length),some (.obj (S.length+1)),none] (S++[.lst (names.map .str)]++[.lst []])=_:=w1;simp only[List.append_assoc,List.cons_append,List.nil_append] at w1;refine⟨S',ring,?_,keep S' w3,sh⟩;simp[zco,zgo,es,e1,w1]
end DN
namespace DN
open PySem L2 MF
variable {c:Cl}{S:Sto}{ρ:Ev}
theorem zoc{α:Type}(A B:List α)(p:α):(A++p::B).take (A.length+1)=A++[p]:=by
 rw[show A++p::B=(A++[p])++B by simp];exact List.take_left' (by simp)
theorem z0i{α:Type}(A B:List α)(p:α):(A++p::B).drop (A.length+1)=B:=by
 rw[show A++p::B=(A++[p])++B by simp];exact List.drop_left' (by simp)
abbrev Core:=Str×Str×T×Option Str×Bool×List Str×List Str×List Str×List Str
def HP.core(p:HP):Core:=(p.nm,p.pl,p.dd,p.br,p.on,p.w0,p.w1,p.w2,p.w3)
def Pc.fresh(p:Pc):Core:=(p.nm,p.pl,p.dd,none,true,[],[],[],[])
def Pc.full(p:Pc):Core:=(p.nm,p.pl,p.dd,none,p.on,p.w0,p.w1,p.w2,p.w3)
theorem zuo{l:List HP}{m:List Core}(h:l.map HP.core=m):l.map (·.nm)=m.map (·.1):=by
 rw[<- h,List.map_map];rfl
theorem zye{h1 h2:List HP}{p x:HP}(nd:((h1++p::h2).map (·.nm)).Nodup):(h1++p::h2).map (fun q=>if q.nm=p.nm then x else q)=h1++x::h2:=by
 rw[List.map_append,List.map_cons,if_pos rfl];rw[List.map_append,List.map_cons,List.nodup_append] at nd;obtain⟨_,n2,n3⟩:=nd;rw[List.nodup_cons] at n2;congr 1
 ·refine(List.map_congr_left fun q hq=>?_).trans (List.map_id _)
  rw[if_neg fun e=>n3 q.nm (List.mem_map.mpr ⟨q,hq,rfl⟩) p.nm (List.mem_cons_self ..) e];rfl
 ·congr 1
  refine(List.map_congr_left fun q hq=>?_).trans (List.map_id _);rw[if_neg fun e=>n2.1 (List.mem_map.mpr ⟨q,hq,e⟩)];rfl
theorem zup{l:List HP}{A B:List Core}{x:Core}(h:l.map HP.core=A++x::B):∃h1 p h2,l=h1++p::h2/\h1.map HP.core=A/\p.core=x/\h2.map HP.core=B:=by
 obtain⟨h1,r,rfl,e1,e2⟩:=List.map_eq_append_iff.mp h;obtain⟨p,h2,rfl,e3,e4⟩:=List.map_eq_cons_iff.mp e2;exact⟨h1,p,h2,rfl,e1,e3,e4⟩
def zg5(kind rule:Str)(n:Nat):List PlM:=[⟨"hub",kind,rule,n+3⟩,⟨"side", "all", "hold",n+4⟩]
theorem zyf(l:List Str):zsi (strL l) S=.ok (.tup (l.map T.str)) S:=rfl
theorem z9h:za4 c (S++[.ins c.hall (zew S.length),.dic [],.dic []]) S.length [] []:=
 ⟨by rw[zrq];rfl,by rw[getR];rfl,by rw[getR];rfl,(by intro q hq;cases hq),(by intro q hq;cases hq),(by intro q hq;cases hq),.nil,.nil⟩
def Sees(S:Sto)(t:T)(ts:List T):Prop:=∀S',(∀k,k<S.length->S'[k]?=S[k]?)->zal S' t=some ts
theorem zp7{k:Nat}{ts:List T}(h:S[k]?=some (.lst ts)):Sees S (.obj k) ts:=fun S' hk=>by
 rw[zfv];rw[hk k (List.getElem?_eq_some_iff.mp h).1];exact h
theorem Sees.now{t:T}{ts:List T}(h:Sees S t ts):zal S t=some ts:=h S fun _ _=>rfl
theorem zrt{ps:List Pc}{tv:T}{kind rule:Str}(hv:Sees S tv (ps.map Pc.t))(nd:(ps.map (·.nm)).Nodup)(hl:ps.length<=24)(hpl:∀p∈ps,p.pl = "hub" \/ p.pl = "side")(hw:∀p∈ps,p.w0.length<=900/\p.w1.length<=900/\p.w2.length<=900/\p.w3.length<=900) :
  ∃S' hps,ze4 c [tv,.str kind,.str rule] S=.ok (.obj S.length) S'/\za4 c S' S.length (zg5 kind rule S.length) hps/\hps.map HP.core=ps.map Pc.full/\∀k,k<S.length->S'[k]?=S[k]?:=by
 have H0:=z9h (c:=c) (S:=S);have o1:=z1t H0 (nm := "hub") (k:=kind) (r:=rule) rfl (by decide);have H1:=H0.open_ (nm := "hub") (k:=kind) (r:=rule);have o2:=z1t H1 (nm := "side") (k := "all") (r := "hold") (by simp) (by simp);have H2:=H1.open_ (nm := "side") (k := "all") (r := "hold");generalize eS1:((S++[Cell.ins c.hall (zew S.length),.dic [],.dic []]).set (S.length+1) (.dic (plD ([]++[⟨"hub",kind,rule,(S++[Cell.ins c.hall (zew S.length),.dic [],.dic []]).length⟩])))++[.ins c.place [("kind",.str kind),("rule",.str rule)]])=S1 at o1 H1 o2 H2;have len1:S1.length=S.length+4:=by rw[<- eS1];simp
 generalize eS2:(S1.set (S.length+1) (.dic (plD ([]++[⟨"hub",kind,rule,(S++[Cell.ins c.hall (zew S.length),.dic [],.dic []]).length⟩]++[⟨"side", "all", "hold",S1.length⟩])))++[.ins c.place [("kind",.str "all"),("rule",.str "hold")]])=S2 at o2 H2;have ep:([]++[⟨"hub",kind,rule,(S++[Cell.ins c.hall (zew S.length),.dic [],.dic []]).length⟩]++[⟨"side", "all", "hold",S1.length⟩]:List PlM)=zg5 kind rule S.length:=by
  rw[len1];simp[zg5]
 rw[ep] at H2;have len2:S2.length=S.length+5:=by rw[<- eS2];simp[len1]
 have keep2:∀k,k<S.length->S2[k]?=S[k]?:=fun k hk=>by
  have a1:S1[k]?=S[k]?:=by
   rw[<- eS1,List.getElem?_append_left (by simp;omega),zae (by omega),List.getElem?_append_left hk]
  rw[<- eS2,List.getElem?_append_left (by simp;omega),zae (by omega),a1]
 have hm1:=zid (m:=Str.ofString "open_place") S.length (by simp) (by simp);have hm2:=zid (m:=Str.ofString "hang") S.length (by simp) (by simp);have hm3:=zid (m:=Str.ofString "wish") S.length (by simp) (by simp);have hm4:=zid (m:=Str.ofString "switch") S.length (by simp) (by simp);obtain⟨ρ3,S3,f3,⟨x3,rfl⟩,hps3,H3,c3,k3⟩:=zji (ρ:=[some tv,some (.str kind),some (.str rule),some (.obj S.length),none]) (S:=S2) (it:=iL (eVar 0)) (g:=zaw 4) (body:=zht c) (ts:=ps.map Pc.t) (st:=fun S'=>zal S' tv=some (ps.map Pc.t)) (S1:=S2)
  (fun pre ρ S'=>(∃x,ρ=[some tv,some (.str kind),some (.str rule),some (.obj S.length),x])/\∃hps,za4 c S' S.length (zg5 kind rule S.length) hps/\hps.map HP.core=(ps.take pre.length).map Pc.fresh/\∀k,k<S.length->S'[k]?=S[k]?)
  (by simp[hv _ keep2]) ⟨⟨_,rfl⟩,[],H2,rfl,keep2⟩ (fun pre t post ρ S' hsp ⟨⟨x,hρ⟩,hps,H,hc,hk⟩=>by
   subst hρ;obtain⟨A,B,rfl,hA,hB⟩:=List.map_eq_append_iff.mp hsp;obtain⟨p,B,rfl,rfl,hB⟩:=List.map_eq_cons_iff.mp hB;have hlen:pre.length=A.length:=by rw[<- hA];simp
   have e1:(A++p::B).take pre.length=A:=by rw[hlen];simp
   have e2:(A++p::B).take (pre++[p.t]).length=A++[p]:=by
    rw[List.length_append,List.length_singleton,hlen];exact zoc ..
   rw[e1] at hc;have hn:p.nm∉hps.map (·.nm):=by
    rw[zuo hc,List.map_map];rw[List.map_append,List.map_cons,List.nodup_append] at nd;intro hm;obtain⟨q,hq,e⟩:=List.mem_map.mp hm;exact nd.2.2 q.nm (List.mem_map.mpr ⟨q,hq,rfl⟩) p.nm (List.mem_cons_self ..) e
   have hL:hps.length<24:=by
    have:hps.length=A.length:=by have:=congrArg List.length hc;simpa using this
    rw[List.length_append,List.length_cons] at hl;omega
   obtain⟨pm,hpm⟩:∃pm,(zg5 kind rule S.length).find? (fun q=>decide (q.nm=p.pl))=some pm:=by
    rcases hpl p (by simp) with e | e
    ·exact⟨⟨"hub",kind,rule,S.length+3⟩,by rw[e];simp[zg5]⟩
    ·exact⟨⟨"side", "all", "hold",S.length+4⟩,by rw[e];simp[zg5]⟩
   have hh:=z7k H (dd:=p.dd) hn hpm hL;refine⟨hv _ hk,_,rfl,[some tv,some (.str kind),some (.str rule),some (.obj S.length),some p.t],_,?_,⟨_,rfl⟩,_,H.hang (dd:=p.dd) (br:=none) (q:=p.pl) hn,?_,fun k hk2=>?_⟩
   ·simp[zht,Pc.t,H.ins,hm2,hh]
   ·rw[e2,List.map_append,List.map_append,hc]
    rfl
   ·have:=H.lt
    rw[List.getElem?_append_left (by simp;omega),zae (by omega)];exact hk k hk2) (fun _ S' ⟨_,_,_,_,hk⟩=>hv S' hk)
 rw [List.length_map,List.take_length] at c3;obtain⟨ρ4,S4,f4,⟨x4,rfl⟩,hps4,H4,c4,k4⟩:=zji (ρ:=[some tv,some (.str kind),some (.str rule),some (.obj S.length),x3]) (S:=S3) (it:=iL (eVar 0)) (g:=zaw 4) (body:=zfy c) (ts:=ps.map Pc.t) (st:=fun S'=>zal S' tv=some (ps.map Pc.t)) (S1:=S3)
  (fun pre ρ S'=>(∃x,ρ=[some tv,some (.str kind),some (.str rule),some (.obj S.length),x])/\∃hps,za4 c S' S.length (zg5 kind rule S.length) hps/\hps.map HP.core=(ps.take pre.length).map Pc.full++(ps.drop pre.length).map Pc.fresh/\∀k,k<S.length->S'[k]?=S[k]?)
  (by simp[hv _ k3]) ⟨⟨_,rfl⟩,hps3,H3,by simpa using c3,k3⟩ (fun pre t post ρ S' hsp ⟨⟨x,hρ⟩,hps,H,hc,hk⟩=>by
   subst hρ;obtain⟨A,B,rfl,hA,hB⟩:=List.map_eq_append_iff.mp hsp;obtain⟨p,B,rfl,rfl,hB⟩:=List.map_eq_cons_iff.mp hB;have hlen:pre.length=A.length:=by rw[<- hA];simp
   have e1:(A++p::B).take pre.length=A:=by rw[hlen];simp
   have e1':(A++p::B).drop pre.length=p::B:=by rw[hlen];simp
   have e2:(A++p::B).take (pre++[p.t]).length=A++[p]:=by
    rw[List.length_append,List.length_singleton,hlen];exact zoc ..
   have e2':(A++p::B).drop (pre++[p.t]).length=B:=by
    rw[List.length_append,List.length_singleton,hlen];exact z0i ..
   rw[e1,e1',List.map_cons] at hc;rw[e2,e2'];obtain⟨h1,hp,h2,rfl,g1,g2,g3⟩:=zup hc;have hmem:hp∈h1++hp::h2:=by simp
   have w:=hw p (by simp);obtain⟨b1,b2,b3,b4,b5,b6,b7,b8,b9⟩:hp.nm=p.nm/\hp.pl=p.pl/\hp.dd=p.dd/\hp.br=none/\hp.on=true/\hp.w0=[]/\hp.w1=[]/\hp.w2=[]/\hp.w3=[]:=by
    have:=g2;simp only[HP.core,Pc.fresh,Prod.mk.injEq] at this;exact this
   obtain⟨S5,w1,w2,w3,w4⟩:=z7l H hmem (t0:=strL p.w0) (t1:=.tup (p.w1.map T.str)) (t2:=strL p.w2) (t3:=strL p.w3) (fun S=>zh0 _) (fun S=>zp2 _) (fun S=>zh0 _) (fun S=>zh0 _)
    (by rw[b6];simp;omega) (by rw[b7];simp;omega) (by rw[b8];simp;omega) (by rw[b9];simp;omega)
   rw[zye H.nd] at w2;rw[b1] at w1;have far:=H.far hp hmem;have k5:∀k,k<S.length->S5[k]?=S[k]?:=fun k hk2=>by rw[w4 k (by omega)];exact hk k hk2
   have c5:(zg3 hp p.w0 p.w1 p.w2 p.w3).core=(p.nm,p.pl,p.dd,none,true,p.w0,p.w1,p.w2,p.w3):=by
    simp[zg3,HP.core,b1,b2,b3,b4,b5,b6,b7,b8,b9]
   refine⟨hv _ hk,_,rfl,[some tv,some (.str kind),some (.str rule),some (.obj S.length),some p.t],?_⟩;by_cases hon:p.on=true
   ·refine⟨S5,?_,⟨_,rfl⟩,_,w2,?_,k5⟩
    ·simp[zfy,Pc.t,H.ins,w2.ins,hm3,zyf,w1,hon]
    ·rw[List.map_append,List.map_cons,g1,g3,c5,List.map_append]
     simp[Pc.full,hon]
   ·have hon:p.on=false:=by simpa using hon
    have hmem2:zg3 hp p.w0 p.w1 p.w2 p.w3∈h1++zg3 hp p.w0 p.w1 p.w2 p.w3::h2:=by simp
    obtain⟨S6,s1,s2,s3,s4⟩:=z0f w2 hmem2 false;rw[zye w2.nd] at s2;have n6:(zg3 hp p.w0 p.w1 p.w2 p.w3).nm=p.nm:=b1;have i6:(zg3 hp p.w0 p.w1 p.w2 p.w3).i=hp.i:=rfl;rw[n6] at s1;refine⟨S6,?_,⟨_,rfl⟩,_,s2,?_,fun k hk2=>?_⟩
    ·simp[zfy,Pc.t,H.ins,w2.ins,hm3,hm4,zyf,w1,hon,s1]
    ·rw[List.map_append,List.map_cons,g1,g3,List.map_append]
     simp[Pc.full,hon,HP.core,zg3,b1,b2,b3,b4,b5,b6,b7,b8,b9]
    ·rw[s4 k (by rw[i6];omega)];exact k5 k hk2) (fun _ S' ⟨_,_,_,_,hk⟩=>hv S' hk)
 rw[List.length_map,List.take_length,List.drop_length,List.map_nil,List.append_nil] at c4;refine⟨S4,hps4,?_,H4,c4,k4⟩;have i0:=H0.ins;have i1:=H1.ins;simp[ze4,zmy,zrr,i0,i1,hm1,o1,o2,f3,f4]
end DN
namespace DN
open PySem L2 MF
variable {c:Cl}{S:Sto}{ρ:Ev}
def okN(x:Str):Prop:=PyData.strOk x=true
theorem zod:∀(l:List Str),pds (l.map T.str)=some (l.map PyData.str)
 |[]=>by simp[pds]
 |a::r=>by simp[pds,pd,zod r]
theorem zfr:∀{l:List Str},(∀x∈l,okN x)->PyData.canLayAll0 (l.map PyData.str)=true
 |[],_=>by simp[PyData.canLayAll0]
 | a::r,h=>by
   simp only[List.map_cons,PyData.canLayAll0,PyData.canLay0,Bool.and_eq_true];exact⟨h a (List.mem_cons_self ..),zfr fun x hx=>h x (List.mem_cons_of_mem _ hx)⟩
theorem zjw:∀(l:List Str),PyData.depthAll (l.map PyData.str)=0
 |[]=>by simp[PyData.depthAll]
 |a::r=>by simp[PyData.depthAll,PyData.depth,zjw r]
theorem zoe:∀(l m:List Str),PyData.eqvAll (l.map PyData.str) (m.map PyData.str)=decide (l=m)
 |[],[]=>by simp[PyData.eqvAll]
 |[],_::_=>by simp[PyData.eqvAll]
 |_::_,[]=>by simp[PyData.eqvAll]
 | a::r,b::s=>by
   simp only[List.map_cons,PyData.eqvAll,PyData.eqv,zoe r s];rw[Bool.eq_iff_iff];simp
theorem zta{x y:T}{a b:PyData}(hx:toV x=none\/toV y=none)(ha:pdS S x=some a)(hb:pdS S y=some b)(ca:a.canLay0=true)(cb:b.canLay0=true)(da:a.depth<=50):eqS S x y=some (PyData.eqv a b):=by
 unfold eqS;rcases hx with h | h
 ·rw[h];simp[ha,hb,ca,cb,da]
 ·rw[h]
  cases toV x<;>simp[ha,hb,ca,cb,da]
theorem zof{t:T}{l:List Str}(h:zal S t=some (l.map T.str)):pdS S t=some (.list (l.map PyData.str)):=by
 cases t with
 |lst ts=>simp[zal] at h;subst h;simp[pdS,pd,zod]
 |obj k=>have:=zo7 h;simp[pdS,this,zod]
 |_=>simp[zal] at h
theorem zyg{t:T}{ts:List T}(h:zal S t=some ts):toV t=none:=by
 cases t<;>first | rfl | simp[zal] at h
theorem z7r{x y:T}{l m:List Str}(hx:zal S x=some (l.map T.str))(hy:zal S y=some (m.map T.str))(ol:∀z∈l,okN z)(om:∀z∈m,okN z):gNe x y S=.ok (.bl (!decide (l=m))) S:=by
 have:=zta (.inl (zyg hx)) (zof hx) (zof hy) (by simp only[PyData.canLay0];exact zfr ol) (by simp only[PyData.canLay0];exact zfr om) (by simp[PyData.depth,zjw]);simp[gNe,this,PyData.eqv,zoe]
structure Lk where
 w:Str
 a:Str
 b:Str
def Lk.d(k:Lk):PyData:=.tuple [.str k.w,.str k.a,.str k.b]
abbrev W3:=Str×List Str×List Str
def Pc.w(p:Pc):W3:=(p.nm,p.w2,p.w3)
def HP.w(p:HP):W3:=(p.nm,p.w2,p.w3)
theorem zyh{t:T}{ts:List T}(h:zal S t=some ts):zdl S t=some ts:=by
 cases t<;>first | exact h | simp[zal] at h
end DN
namespace DN
open PySem L2 MF
variable {c:Cl}{S:Sto}{ρ:Ev}
theorem z0j:((List.range 26).map fun(k:Nat)=>zd9 k).Nodup:=by decide +kernel
theorem zyi:∀k:Nat,k<26->okN (zd9 k):=by unfold okN;decide +kernel
theorem ztb{k m:Int}(h0:0<m)(h1:m<=26):okN (zd9 (k%m)):=by
 have a:=Int.emod_nonneg k (show m≠0 by omega);have b:=Int.emod_lt_of_pos k h0;have:=zyi (k%m).toNat (by omega);rwa[Int.toNat_of_nonneg a] at this
theorem z31{x many:Int}(h0:0<many)(h1:many<=26):∀z∈zjc x many,okN z:=by
 intro z hz;unfold zjc at hz
 split at hz
 ·cases hz
 ·split at hz
  ·simp only[List.mem_cons,List.not_mem_nil,or_false] at hz
   rcases hz with rfl | rfl<;>exact ztb h0 h1
  ·simp only[List.mem_singleton] at hz
   subst hz;exact ztb h0 h1
theorem zkq(x many:Int):(zjc x many).length<=2:=by
 unfold zjc
 split
 ·simp
 ·split<;>simp
structure Drawn(ps:List Pc):Prop where
 nd:(ps.map (·.nm)).Nodup
 len:ps.length<=13
 pl:∀p∈ps,p.pl = "hub" \/ p.pl = "side"
 w:∀p∈ps,p.w0.length<=2/\p.w1.length<=2/\p.w2.length<=2/\p.w3.length<=2
 okn:∀p∈ps,okN p.nm
 okw:∀p∈ps,∀x,x∈p.w0\/x∈p.w1\/x∈p.w2\/x∈p.w3->okN x
theorem drawn(ns:List Int)(start many:Int)(h0:0<=many)(h1:many<=13):Drawn (pcs ns start many):=by
 have mem:∀p∈pcs ns start many,∃k:Nat,k<many.toNat/\p=pcAt ns start many k:=fun p hp=>by
  obtain⟨k,hk,rfl⟩:=List.mem_map.mp hp;exact⟨k,List.mem_range.mp hk,rfl⟩
 refine⟨?_,by simp[pcs];omega,fun p hp=>?_,fun p hp=>?_,fun p hp=>?_,fun p hp x hx=>?_⟩
 ·have e:(pcs ns start many).map (·.nm)=(List.range many.toNat).map fun(k:Nat)=>zd9 k:=by
   unfold pcs;rw[List.map_map];rfl
  rw[e];have hs:((List.range many.toNat).map fun(k:Nat)=>zd9 k).Sublist ((List.range 26).map fun(k:Nat)=>zd9 k):=by
   refine List.Sublist.map _ ?_;rw[show(26:Nat)=many.toNat+(26-many.toNat) by omega,List.range_add];exact List.sublist_append_left ..
  exact z0j.sublist hs
 ·obtain⟨k,_,rfl⟩:=mem p hp
  show zhy _=_\/zhy _=_;unfold zhy
  split
  ·exact .inr rfl
  ·exact .inl rfl
 ·obtain⟨k,_,rfl⟩:=mem p hp
  exact⟨zkq _ _,zkq _ _,zkq _ _,zkq _ _⟩
 ·obtain⟨k,hk,rfl⟩:=mem p hp
  exact zyi k (by omega)
 ·obtain⟨k,_,rfl⟩:=mem p hp
  have q:(0:Int)<many+1:=by omega
  have q':many+1<=26:=by omega
  rcases hx with h | h | h | h<;>exact z31 q q' x h
theorem z0k{hps:List HP}{ps:List Pc}(h:hps.map HP.core=ps.map Pc.full):hps.length=ps.length:=by
 have:=congrArg List.length h;simpa using this
theorem zog{hps:List HP}{ps:List Pc}(h:hps.map HP.core=ps.map Pc.full){p:HP}(hp:p∈hps):∃q∈ps,p.core=q.full:=by
 have:p.core∈hps.map HP.core:=List.mem_map.mpr ⟨p,hp,rfl⟩;rw[h] at this;obtain⟨q,hq,e⟩:=List.mem_map.mp this;exact⟨q,hq,e.symm⟩
theorem zuq{js:List Nat}{it:DI}{te:DE}{ts:List T}{st:Sto->Prop}{f:T->T}(hit:it ρ S=.ok (ts,st) S)(hst:st S)(hl:ts.length<=1000)
  (he:∀t∈ts,te (some t::js.map fun j=>(ρ[j]?).join) S=.ok (f t) S) :
  zef 1 js it (zaw 0) yesD te finC ρ S=.ok (.obj S.length) (S++[.lst (ts.map f)]):=by
 unfold zef;rw[zan,hit];show(M.bind (noX _) finC) S=_;rw[zan];have:=znt (tc:=yesD) (te:=te) (caps:=js.map fun j=>(ρ[j]?).join) (p:=fun _=>true) (f:=f) hst ts none [] (by simpa using hl) (fun _ _=>rfl) (fun t h _=>he t h);rw[List.filter_eq_self.mpr (fun _ _=>rfl)] at this;have e2:noX (zfh st (zaw 0) yesD te ts (List.replicate 1 none++js.map fun j=>(ρ[j]?).join) []) S=.ok (ts.map f) S:=by
  unfold noX;rw[show(List.replicate 1 (none:Option T)++js.map fun j=>(ρ[j]?).join)=none::js.map fun j=>(ρ[j]?).join from rfl,this];rfl
 simp only[e2];rfl
end DN
namespace DN
open PySem L2 MF
variable {c:Cl}{S:Sto}{ρ:Ev}{sec:Str->List Str}{names:List Str}
def z0l(prs:List (Str×Str))(left:List Str)(x:Str):Bool:=!(prs.any fun p=>decide (p.2=x)&&decide (p.1∈left))
def zak(p:Str×Str):T:=.tup [.str p.1,.str p.2]
structure Rel(names:List Str)(sec:Str->List Str)(prs:List (Str×Str)):Prop where
 iff:∀a∈names,∀b,b∈sec a↔(a,b)∈prs
 sub:∀p∈prs,p.1∈names/\p.2∈names
theorem zyj{prs:List (Str×Str)}(r:Rel names sec prs){left:List Str}(hl:∀x∈left,x∈names)(x:Str):z0l prs left x=zcj sec left x:=by
 unfold z0l zcj;congr 1;rw[Bool.eq_iff_iff,List.any_eq_true,List.any_eq_true];constructor
 ·rintro⟨⟨a,b⟩,hp,e⟩
  simp only[Bool.and_eq_true,decide_eq_true_eq] at e;obtain⟨rfl,ha⟩:=e;exact⟨a,ha,by simpa using(r.iff a (hl a ha) b).mpr hp⟩
 ·rintro⟨f,hf,e⟩
  exact⟨(f,x),(r.iff f (hl f hf) x).mp (by simpa using e),by simp[hf]⟩
theorem z1v{x:Str}{y:T}{l:List Str}(h:zdl S y=some (l.map T.str)):gIn (.str x) y S=.ok (.bl (decide (x∈l))) S:=by
 have:=z6z (x:=x) h;simp[this]
theorem zm7(left:List Str)(x:Str):∀(prs:List (Str×Str)),(prs.map zak).findSome? (fun t=>match t with|.tup [.str a,.str b]=>if(decide (b=x)&&decide (a∈left))=true then some (T.bl false) else none | _=>none)=if(prs.any fun p=>decide (p.2=x)&&decide (p.1∈left))=true then some (.bl false) else none
 |[]=>rfl
 | p :: r=>by
   have ih:=zm7 left x r;rw[List.map_cons,List.findSome?_cons,List.any_cons];cases z:(decide (p.2=x)&&decide (p.1∈left)) with
   |true=>simp only[zak,z];rfl
   | false=>
     simp only[zak,z,Bool.false_or];exact ih
theorem z7s{prs:List (Str×Str)}{left:List Str}{L:T}{x:Str}(hL:zdl S L=some (left.map T.str)):ze5 c [.str x,L,.lst (prs.map zak)] S=.ok (.bl (z0l prs left x)) S:=by
 obtain⟨ρ',_,e⟩:=zlr (S:=S) (st:=fun S'=>zal S' (.lst (prs.map zak))=some (prs.map zak)) (body:=zc4 c) (i:=3) (ρ0:=[some (.str x),some L,some (.lst (prs.map zak)),none])
  (p:=fun t=>match t with|.tup [.str a,.str b]=>if(decide (b=x)&&decide (a∈left))=true then some (.bl false) else none | _=>none) rfl (prs.map zak) [some (.str x),some L,some (.lst (prs.map zak)),none] (fun _=>rfl) (fun t ht=>by
   obtain⟨⟨a,b⟩,hp,rfl⟩:=List.mem_map.mp ht;have hi:=z1v (x:=a) hL;by_cases z:b=x
   ·by_cases y:a∈left
    ·simp[zc4,zak,z,y,hi]
    ·simp[zc4,zak,z,y,hi]
   ·simp[zc4,zak,z])
 have ef:=zm7 left x prs;rw[ef] at e;have es:sFor (iL (eVar 2)) (zaw 3) (zc4 c) [some (.str x),some L,some (.lst (prs.map zak)),none] S=za9 (fun S'=>zal S' (.lst (prs.map zak))=some (prs.map zak)) (zaw 3) (zc4 c) (prs.map zak) [some (.str x),some L,some (.lst (prs.map zak)),none] S:=by
  unfold sFor;rw[zan,x_iL,zan];rfl
 have e2:=es.trans e;unfold z0l;by_cases z:(prs.any fun p=>decide (p.2=x)&&decide (p.1∈left))=true
 ·rw[if_pos z] at e2
  rw[z];simp[ze5,zjn,e2]
 ·rw[if_neg z] at e2
  have z:(prs.any fun p=>decide (p.2=x)&&decide (p.1∈left))=false:=by simpa using z
  rw[z];simp[ze5,zjn,e2]
theorem z9i{x y:T}{l m:List Str}(hx:zal S x=some (l.map T.str))(hy:zal S y=some (m.map T.str))(ol:∀z∈l,okN z)(om:∀z∈m,okN z):gEq x y S=.ok (.bl (decide (l=m))) S:=by
 have:=zta (.inl (zyg hx)) (zof hx) (zof hy) (by simp only[PyData.canLay0];exact zfr ol) (by simp only[PyData.canLay0];exact zfr om) (by simp[PyData.depth,zjw]);simp[gEq,this,PyData.eqv,zoe]
theorem zj6{kl kr:Nat}{t0:Option T}{prs:List (Str×Str)}(r:Rel names sec prs)(okn:∀x∈names,okN x)(few:names.length<=100):∀(n:Nat) (left row:List Str) (m:Nat) {x4:Option T} {S:Sto},left.length=n->n+1<=m->left.Nodup->(∀x∈left,x∈names)->S[kl]?=some (.lst (left.map .str))->S[kr]?=some (.lst (row.map .str))->kl≠kr->row.length+n<=900 ->
  ∃ S',Sm2 S S' kl kr/\(match topo sec n left row with
    |some res=>(∃x4',zci (za7 c) (za2 c) m [t0,some (.lst (prs.map zak)),some (.obj kl),some (.obj kr),x4] S=.ok (.nx [t0,some (.lst (prs.map zak)),some (.obj kl),some (.obj kr),x4']) S')/\S'[kr]?=some (.lst (res.map .str))
    |none=>zci (za7 c) (za2 c) m [t0,some (.lst (prs.map zak)),some (.obj kl),some (.obj kr),x4] S=.ok (.rt .non) S')
 |n,left,row,0,x4,S,_,hm,_,_,_,_,_,_=>by omega
 | 0,left,row,m+1,x4,S,hl,_,_,_,hkl,hkr,ne,_=>by
   have:left=[]:=List.eq_nil_of_length_eq_zero hl;subst this;have hne:=z7r (S:=S) (x:=.obj kl) (y:=.lst []) (l:=[]) (m:=[]) (zfv hkl) rfl (by intro z hz;cases hz) (by intro z hz;cases hz);have hw:za7 c [t0,some (.lst (prs.map zak)),some (.obj kl),some (.obj kr),x4] S=.ok false S:=by simp[za7,hne]
   refine⟨S,Sm2.refl _ _ _,⟨x4,?_⟩,hkr⟩;unfold zci;rw[zan,hw];rfl
 | n + 1,left,row,m+1,x4,S,hl,hm,nd,hsub,hkl,hkr,ne,hr=>by
   have hlne:left≠[]:=fun e=>by rw[e] at hl;simp at hl
   have okl:∀x∈left,okN x:=fun x hx=>okn x (hsub x hx);have hne:=z7r (S:=S) (x:=.obj kl) (y:=.lst []) (l:=left) (m:=[]) (zfv hkl) rfl okl (by intro z hz;cases hz);have hw:za7 c [t0,some (.lst (prs.map zak)),some (.obj kl),some (.obj kr),x4] S=.ok true S:=by simp[za7,hne,hlne]
   have un:zci (za7 c) (za2 c) (m+1) [t0,some (.lst (prs.map zak)),some (.obj kl),some (.obj kr),x4] S=M.bind (za2 c [t0,some (.lst (prs.map zak)),some (.obj kl),some (.obj kr),x4]) (fun x=>match x with
    |.nx ρ2=>zci (za7 c) (za2 c) m ρ2
    |.ct ρ2=>zci (za7 c) (za2 c) m ρ2
    |.bk ρ2=>M.pure (.nx ρ2)
    |.rt t=>M.pure (.rt t)) S:=by
    conv=>lhs;unfold zci
    rw[zan,hw];rfl
   rw[un,zan];have llen:=zg4 left names nd hsub;have hc:=zf8 (ρ:=[t0,some (.lst (prs.map zak)),some (.obj kl),some (.obj kr),x4]) (S:=S) (js:=[2,1]) (it:=ze2 c) (tc:=ze3 c) (te:=ze1 c) (ts:=left.map .str) (st:=fun S'=>zal S' (.obj kl)=some (left.map .str)) (p:=fun t=>match t with|.str x=>zcj sec left x | _=>false) (f:=fun t=>t)
    (by simp[ze2,zfv hkl]) (zfv hkl) (by simp;omega) (fun t ht=>by
     obtain⟨x,hx,rfl⟩:=List.mem_map.mp ht;have hseq:zdl S (.obj kl)=some (left.map T.str):=by simp[zdl,zal,hkl]
     have:=z7s (c:=c) (prs:=prs) (x:=x) hseq;rw[zyj r hsub] at this;simp[ze3,this]) (fun t ht _=>by simp[ze1])
   have ef:((left.map T.str).filter (fun t=>match t with|.str x=>zcj sec left x | _=>false)).map (fun t=>t)=(left.filter (zcj sec left)).map T.str:=by
    rw[List.map_id',List.filter_map];rfl
   rw[ef] at hc;have hc:zef 1 [2,1] (ze2 c) (zaw 0) (ze3 c) (ze1 c) finF [t0,some (.lst (prs.map zak)),some (.obj kl),some (.obj kr),x4] S=.ok (strL (left.filter (zcj sec left))) S:=hc;have heq:=z9i (S:=S) (x:=strL (left.filter (zcj sec left))) (y:=.lst []) (l:=left.filter (zcj sec left)) (m:=[]) rfl rfl (fun z hz=>okl z (List.mem_filter.mp hz).1) (by intro z hz;cases hz);unfold topo;cases q:left.find? (zcj sec left) with
   | none=>
     have fe:left.filter (zcj sec left)=[]:=List.filter_eq_nil_iff.mpr (List.find?_eq_none.mp q);rw[fe] at hc heq;refine⟨S,Sm2.refl _ _ _,?_⟩;have hb:za2 c [t0,some (.lst (prs.map zak)),some (.obj kl),some (.obj kr),x4] S=.ok (.rt .non) S:=by
      simp[za2,hc,heq]
     rw[hb];rfl
   | some x=>
     have hx:=List.mem_of_find?_eq_some q;obtain⟨fr,fe⟩:∃fr,left.filter (zcj sec left)=x::fr:=by
      have:=List.head?_filter (p:=zcj sec left) (l:=left);rw[q] at this;cases e:left.filter (zcj sec left) with
      |nil=>rw[e] at this;cases this
      |cons y fr=>rw[e] at this;cases this;exact⟨fr,rfl⟩
     rw[fe] at hc heq;have happ:=zzv (y:=.str x) hkr (by simp;omega);have e1:row.map T.str++[T.str x]=(row++[x]).map .str:=by simp
     rw[e1] at happ;have hkl2:(S.set kr (.lst ((row++[x]).map .str)))[kl]?=some (.lst (left.map .str)):=by rw[zae (Ne.symm ne)];exact hkl
     have hrem:=zs9 hkl2 hx (by omega);have hok1:=zj7 hkr;have hok2:=zj7 hkl2;have hix:gIx (strL (x::fr)) (.int 0) S=.ok (.str x) S:=by simp[strL]
     have hix2:gIx (strL (x::fr)) (.int 0) (S.set kr (.lst ((row++[x]).map .str)))=.ok (.str x) (S.set kr (.lst ((row++[x]).map .str))):=by simp[strL]
     have hb:za2 c [t0,some (.lst (prs.map zak)),some (.obj kl),some (.obj kr),x4] S=.ok (.nx [t0,some (.lst (prs.map zak)),some (.obj kl),some (.obj kr),some (strL (x::fr))]) ((S.set kr (.lst ((row++[x]).map .str))).set kl (.lst ((left.erase x).map .str))):=by
      generalize hS1:S.set kr (.lst ((row++[x]).map .str))=S1 at happ hrem hok2 hix2;simp[za2,hc,heq,hok1,hix,happ,hok2,hix2,hrem]
     rw[hb];have g1:((S.set kr (.lst ((row++[x]).map .str))).set kl (.lst ((left.erase x).map .str)))[kl]?=some (.lst ((left.erase x).map .str)):=zdm hkl2;have g2:((S.set kr (.lst ((row++[x]).map .str))).set kl (.lst ((left.erase x).map .str)))[kr]?=some (.lst ((row++[x]).map .str)):=by rw[zae ne];exact zdm hkr
     have sm1:Sm2 S ((S.set kr (.lst ((row++[x]).map .str))).set kl (.lst ((left.erase x).map .str))) kl kr:=⟨by simp,fun j h1 h2=>by rw[zae (Ne.symm h1),zae (Ne.symm h2)]⟩;obtain⟨S',sm,e⟩:=zj6 (t0:=t0) r okn few n (left.erase x) (row++[x]) m (x4:=some (strL (x::fr))) (by rw[List.length_erase_of_mem hx];omega) (by omega) (nd.erase x) (fun y hy=>hsub y (List.mem_of_mem_erase hy)) g1 g2 ne (by simp;omega);exact⟨S',sm1.trans sm,e⟩
theorem zru{prs:List (Str×Str)}(r:Rel names sec prs)(okn:∀x∈names,okN x)(few:names.length<=100)(nd:names.Nodup) :
  zc5 c [strL names,.lst (prs.map zak)] S=.ok (match topo sec names.length names [] with|some res=>strL res | none=>.non) S:=by
 have e1:zjz (strL names) S=.ok (.obj S.length) (S++[.lst (names.map .str)]):=by simp[zjz,zff,strL]
 have g1:(S++[Cell.lst (names.map .str)]++[.lst []])[S.length]?=some (.lst (names.map .str)):=by rw[List.append_assoc,zrq];rfl
 have g2:(S++[Cell.lst (names.map .str)]++[.lst []])[S.length+1]?=some (.lst (([]:List Str).map .str)):=by rw[List.append_assoc,getR];rfl
 obtain⟨S',sm,e⟩:=zj6 (c:=c) (kl:=S.length) (kr:=S.length+1) (t0:=some (strL names)) r okn few names.length names [] 1000 (x4:=none) (S:=S++[.lst (names.map .str)]++[.lst []]) rfl (by omega) nd (fun x hx=>hx) g1 g2 (by omega) (by simp;omega);have keep:∀j,j<S.length->S'[j]?=S[j]?:=fun j hj=>by
  rw[sm.same j (by omega) (by omega),List.append_assoc,List.getElem?_append_left hj]
 have hl:S.length<=S'.length:=by rw[sm.len];simp
 have tk:=zyb keep hl;cases q:topo sec names.length names [] with
 | none=>
   rw[q] at e;have w1:zi0 (za7 c) (za2 c) [some (strL names),some (.lst (prs.map zak)),some (.obj S.length),some (.obj (S.length+1)),none] (S++[.lst (names.map .str)]++[.lst []])=_:=e;simp only[List.append_assoc,List.cons_append,List.nil_append] at w1;have run:runD 5 (zfn c) [strL names,.lst (prs.map zak)] S=.ok .non S':=by
    simp[zfn,e1,w1]
   exact zk8 run tk (by simp)
 | some res=>
   rw[q] at e;obtain⟨⟨x4',e⟩,g⟩:=e;have w1:zi0 (za7 c) (za2 c) [some (strL names),some (.lst (prs.map zak)),some (.obj S.length),some (.obj (S.length+1)),none] (S++[.lst (names.map .str)]++[.lst []])=_:=e;simp only[List.append_assoc,List.cons_append,List.nil_append] at w1;have run:runD 5 (zfn c) [strL names,.lst (prs.map zak)] S=.ok (.obj (S.length+1)) S':=by
    simp[zfn,e1,w1]
   exact znu run tk (by omega) g fun t ht=>by
    obtain⟨x,_,rfl⟩:=List.mem_map.mp ht;simp
end DN
namespace DN
open PySem L2 MF
variable {c:Cl}{S:Sto}{ρ:Ev}
def hubP(p:Pc):Bool:=decide (p.pl = "hub")&&p.on
def hubN(ps:List Pc):List Str:=(ps.filter hubP).map (·.nm)
theorem zyk{ps:List Pc}{tv:T}(hv:zal S tv=some (ps.map Pc.t))(hl:ps.length<=24):zdv c [tv] S=.ok (strL (hubN ps)) S:=by
 have cc:=zf8 (ρ:=[some tv]) (S:=S) (js:=[]) (it:=zep c) (tc:=zdo c) (te:=zeo c) (ts:=ps.map Pc.t) (st:=fun S'=>zal S' tv=some (ps.map Pc.t)) (p:=fun t=>match t with|.tup [_,.str q,_,_,.bl on]=>decide (q = "hub")&&on | _=>false) (f:=fun t=>match t with|.tup (x::_)=>x | _=>.non)
  (by simp[zep,hv]) hv (by simp;omega) (fun t ht=>by
   obtain⟨p,_,rfl⟩:=List.mem_map.mp ht;by_cases z:p.pl = "hub"
   ·simp[zdo,Pc.t,z]
   ·simp[zdo,Pc.t,z]) (fun t ht _=>by
   obtain⟨p,_,rfl⟩:=List.mem_map.mp ht;simp[zeo,Pc.t])
 rw[List.filter_map,List.map_map] at cc;have cc:zef 1 [] (zep c) (zaw 0) (zdo c) (zeo c) finF [some tv] S=.ok (.lst ((ps.filter hubP).map fun p=>.str p.nm)) S:=cc;simp[zdv,zj2,cc,strL,hubN]
def zp8(names:List Str)(p:Pc):List (Str×Str):=(p.w0.filter fun o=>decide (o∈names)).map fun o=>(p.nm,o)
def zp9(names:List Str)(p:Pc):List (Str×Str):=(p.w1.filter fun o=>decide (o∈names)).map fun o=>(o,p.nm)
def prsL(names:List Str)(ps:List Pc):List (Str×Str):=ps.flatMap fun p=>if p.nm∈names then zp8 names p++zp9 names p else[]
theorem zqa{js:List Nat}{l names:List Str}{f:Str->Str×Str}{it:DI}{tc:DT}{te:DE}{st:Sto->Prop}(hl:l.length<=900)
  (hi:it ρ S=.ok (l.map T.str,st) S) (hs:st S) (ht:∀o,tc (some (.str o)::js.map fun j=>(ρ[j]?).join) S=.ok (decide (o∈names)) S) (he:∀o,te (some (.str o)::js.map fun j=>(ρ[j]?).join) S=.ok (zak (f o)) S) :
  zef 1 js it (zaw 0) tc te finF ρ S=.ok (.lst (((l.filter fun o=>decide (o∈names)).map f).map zak)) S:=by
 have cc:=zf8 (ρ:=ρ) (S:=S) (js:=js) (it:=it) (tc:=tc) (te:=te) (ts:=l.map T.str) (st:=st) (p:=fun t=>match t with|.str o=>decide (o∈names) | _=>false) (f:=fun t=>match t with|.str o=>zak (f o) | _=>.non) hi hs (by simp;omega)
  (fun t h=>by obtain⟨o,_,rfl⟩:=List.mem_map.mp h;exact ht o) (fun t h _=>by obtain⟨o,_,rfl⟩:=List.mem_map.mp h;exact he o)
 rw[List.filter_map,List.map_map] at cc;rw[List.map_map];exact cc
theorem zqb{ps:List Pc}{names:List Str}{tv:T}(hv:Sees S tv (ps.map Pc.t))(hl:ps.length<=24)(hw:∀p∈ps,p.w0.length<=20/\p.w1.length<=20) :
  zfm c [tv,strL names] S=.ok (.lst ((prsL names ps).map zak)) S:=by
 have hva:∀x:Cell,zal (S++[x]) tv=some (ps.map Pc.t):=fun x=>hv _ fun k hk=>List.getElem?_append_left hk;have hvx:=hva (.lst []);have run:runD 4 (zik c) [tv,strL names] S=.ok (.obj S.length) (S++[.lst ((prsL names ps).map zak)]):=by
  obtain⟨ρ',S',e,⟨x,rfl⟩,hS,_⟩:=zji (ρ:=[some tv,some (strL names),some (.obj S.length),none]) (S:=S++[.lst []]) (it:=iL (eVar 0)) (g:=zaw 3) (body:=ze0 c) (ts:=ps.map Pc.t) (st:=fun S'=>zal S' tv=some (ps.map Pc.t)) (S1:=S++[.lst []])
   (fun pre ρ S'=>(∃x,ρ=[some tv,some (strL names),some (.obj S.length),x])/\S'=S++[.lst ((prsL names (ps.take pre.length)).map zak)]/\(prsL names (ps.take pre.length)).length<=40*pre.length)
   (by simp[hvx]) ⟨⟨_,rfl⟩,rfl,by simp[prsL]⟩ (fun pre t post ρ S' hsp ⟨⟨x,hρ⟩,hS,hb⟩=>by
    subst hρ;obtain⟨A,B,rfl,hA,hB⟩:=List.map_eq_append_iff.mp hsp;obtain⟨p,B,rfl,rfl,hB⟩:=List.map_eq_cons_iff.mp hB;have hlen:pre.length=A.length:=by rw[<- hA];simp
    have e1:(A++p::B).take pre.length=A:=by rw[hlen];simp
    have e2:∀t:T,(A++p::B).take (pre++[t]).length=A++[p]:=fun t=>by
     rw[List.length_append,List.length_singleton,hlen];exact zoc ..
    rw[e1] at hS hb;rw[e2];have hl':A.length<24:=by rw[List.length_append,List.length_cons] at hl;omega
    have w:=hw p (by simp);have el:prsL names (A++[p])=prsL names A++(if p.nm∈names then zp8 names p++zp9 names p else[]):=by
     unfold prsL;rw[List.flatMap_append];simp
    rw[el];generalize prsL names A=acc at hS hb ⊢;subst hS;have hb2:acc.length<=920:=by omega
    refine⟨hva _,_,rfl,?_⟩;have l1:(zp8 names p).length<=20:=by unfold zp8;rw[List.length_map];have:=List.length_filter_le (fun o=>decide (o∈names)) p.w0;omega
    have l2:(zp9 names p).length<=20:=by unfold zp9;rw[List.length_map];have:=List.length_filter_le (fun o=>decide (o∈names)) p.w1;omega
    have hin:∀(o:Str) (Z:Sto),gIn (.str o) (strL names) Z=.ok (.bl (decide (o∈names))) Z:=fun o Z=>z1v rfl;have i0:∀Z,gIx p.t (.int 0) Z=.ok (.str p.nm) Z:=fun Z=>by simp[Pc.t]
    have i3:∀Z,gIx p.t (.int 3) Z=.ok (.lst [strL p.w0,strL p.w1,strL p.w2,strL p.w3]) Z:=fun Z=>by simp[Pc.t]
    have j0:∀Z,gIx (.lst [strL p.w0,strL p.w1,strL p.w2,strL p.w3]) (.int 0) Z=.ok (strL p.w0) Z:=fun Z=>by simp
    have j1:∀Z,gIx (.lst [strL p.w0,strL p.w1,strL p.w2,strL p.w3]) (.int 1) Z=.ok (strL p.w1) Z:=fun Z=>by simp
    have ls:∀(l:List Str) (Z:Sto),zal Z (strL l)=some (l.map .str):=fun l Z=>rfl;by_cases hc:p.nm∈names
    ·have c1:=zqa (ρ:=[some tv,some (strL names),some (.obj S.length),some p.t]) (S:=S++[.lst (acc.map zak)]) (js:=[3,1]) (l:=p.w0) (names:=names) (f:=fun o=>(p.nm,o)) (it:=zgr c) (tc:=zgs c) (te:=zgq c) (st:=fun S'=>zal S' (strL p.w0)=some (p.w0.map T.str)) (by omega)
      (by simp[zgr,i3,j0,ls]) rfl (fun o=>by simp[zgs,hin]) (fun o=>by simp[zgq,i0,zak])
     have c2:=fun a2:List (Str×Str)=>zqa (ρ:=[some tv,some (strL names),some (.obj S.length),some p.t]) (S:=S++[.lst (a2.map zak)]) (js:=[3,1]) (l:=p.w1) (names:=names) (f:=fun o=>(o,p.nm)) (it:=zgu c) (tc:=zgv c) (te:=zgt c) (st:=fun S'=>zal S' (strL p.w1)=some (p.w1.map T.str)) (by omega)
      (by simp[zgu,i3,j1,ls]) rfl (fun o=>by simp[zgv,hin]) (fun o=>by simp[zgt,i0,zak])
     have d1:((p.w0.filter fun o=>decide (o∈names)).map fun o=>(p.nm,o))=zp8 names p:=rfl;have d2:((p.w1.filter fun o=>decide (o∈names)).map fun o=>(o,p.nm))=zp9 names p:=rfl;rw[d1] at c1;rw[d2] at c2;rw[if_pos hc];generalize zp8 names p=n1 at c1 l1 ⊢;generalize zp9 names p=n2 at c2 l2 ⊢;have x1:=z3l (S:=S++[.lst (acc.map zak)]) (k:=S.length) (y:=.lst (n1.map zak)) zet rfl (by simp only[List.length_map];omega);rw[zn6,<- List.map_append] at x1;have x2:=z3l (S:=S++[.lst ((acc++n1).map zak)]) (k:=S.length) (y:=.lst (n2.map zak)) zet rfl (by simp only[List.length_map,List.length_append];omega);rw[zn6,<- List.map_append] at x2;have k1:=zj7 (S:=S++[.lst (acc.map zak)]) (k:=S.length) zet;have k2:=zj7 (S:=S++[.lst ((acc++n1).map zak)]) (k:=S.length) zet;have c2:=c2 (acc++n1);have hin':=hin p.nm (S++[.lst (acc.map zak)]);rw[decide_eq_true hc] at hin';refine⟨[some tv,some (strL names),some (.obj S.length),some p.t],S++[.lst ((acc++n1++n2).map zak)],?_,⟨_,rfl⟩,by rw[List.append_assoc],?_⟩
     ·generalize S++[Cell.lst ((acc++n1++n2).map zak)]=Z2 at x2 ⊢
      generalize S++[Cell.lst ((acc++n1).map zak)]=Z1 at x1 x2 k2 c2;generalize S++[Cell.lst (acc.map zak)]=Z0 at c1 x1 k1 hin' ⊢;simp[ze0,i0,hin',k1,c1,x1,k2,c2,x2]
     ·simp only[List.length_append,List.length_singleton]
      omega
    ·have hin':=hin p.nm (S++[.lst (acc.map zak)])
     rw[decide_eq_false hc] at hin';refine⟨[some tv,some (strL names),some (.obj S.length),some p.t],S++[.lst (acc.map zak)],?_,⟨_,rfl⟩,by rw[if_neg hc,List.append_nil],?_⟩
     ·simp[ze0,i0,hin']
     ·rw[if_neg hc,List.append_nil,List.length_append,List.length_singleton];omega) (fun _ _ ⟨_,hS,_⟩=>hS▸hva _)
  rw[List.length_map,List.take_length] at hS;subst hS;simp[zik,e]
 refine znu run (by simp) (Nat.le_refl _) zet fun t ht=>?_;obtain⟨k,_,rfl⟩:=List.mem_map.mp ht;exact zmv (by simp)
theorem zyl{names:List Str}{ps:List Pc}{a b:Str}:(a,b)∈prsL names ps↔∃p∈ps,p.nm∈names/\((a=p.nm/\b∈p.w0/\b∈names)\/(b=p.nm/\a∈p.w1/\a∈names)):=by
 unfold prsL;rw[List.mem_flatMap];constructor
 ·rintro⟨p,hp,h⟩
  by_cases hn:p.nm∈names
  ·rw[if_pos hn,List.mem_append] at h
   refine⟨p,hp,hn,?_⟩;rcases h with h | h
   ·obtain⟨o,ho,e⟩:=List.mem_map.mp h
    have:=List.mem_filter.mp ho;cases e;exact .inl ⟨rfl,this.1,by simpa using this.2⟩
   ·obtain⟨o,ho,e⟩:=List.mem_map.mp h
    have:=List.mem_filter.mp ho;cases e;exact .inr ⟨rfl,this.1,by simpa using this.2⟩
  ·rw[if_neg hn] at h;cases h
 ·rintro⟨p,hp,hn,h⟩
  refine⟨p,hp,?_⟩;rw[if_pos hn,List.mem_append];rcases h with⟨rfl,h1,h2⟩ | ⟨rfl,h1,h2⟩
  ·exact .inl (List.mem_map.mpr ⟨b,List.mem_filter.mpr ⟨h1,by simpa using h2⟩,rfl⟩)
  ·exact .inr (List.mem_map.mpr ⟨a,List.mem_filter.mpr ⟨h1,by simpa using h2⟩,rfl⟩)
end DN
namespace DN
open PySem L2 MF
variable {c:Cl}{S:Sto}{ρ:Ev}{sec:Str->List Str}{names:List Str}
def hubH(p:HP):Bool:=decide (p.pl = "hub")&&p.on
theorem zoh{hps:List HP}{ps:List Pc}(h:hps.map HP.core=ps.map Pc.full):(hps.filter hubH).map HP.core=(ps.filter hubP).map Pc.full:=by
 have e1:(hps.filter hubH).map HP.core=(hps.map HP.core).filter (fun q:Core=>decide (q.2.1 = "hub")&&q.2.2.2.2.1):=by rw[List.filter_map];rfl
 have e2:(ps.filter hubP).map Pc.full=(ps.map Pc.full).filter (fun q:Core=>decide (q.2.1 = "hub")&&q.2.2.2.2.1):=by rw[List.filter_map];rfl
 rw[e1,e2,h]
theorem z0m{hps:List HP}{ps:List Pc}(h:hps.map HP.core=ps.map Pc.full):hps.map (·.nm)=ps.map (·.nm):=by
 have:=congrArg (List.map fun q:Core=>q.1) h;rw[List.map_map,List.map_map] at this;exact this
theorem zym{hps:List HP}{ps:List Pc}(h:hps.map HP.core=ps.map Pc.full){q:Pc}(hq:q∈ps):∃p∈hps,p.core=q.full:=by
 have:q.full∈ps.map Pc.full:=List.mem_map.mpr ⟨q,hq,rfl⟩;rw[<- h] at this;obtain⟨p,hp,e⟩:=List.mem_map.mp this;exact⟨p,hp,e⟩
theorem zoi{p:HP}{q:Pc}(e:p.core=q.full):p.nm=q.nm/\p.w0=q.w0/\p.w1=q.w1:=by
 simp only[HP.core,Pc.full,Prod.mk.injEq] at e;exact⟨e.1,e.2.2.2.2.2.1,e.2.2.2.2.2.2.1⟩
theorem z7t{ps:List Pc}(nd:(ps.map (·.nm)).Nodup):∀p∈ps,∀q∈ps,p.nm=q.nm->p=q:=by
 induction ps with
 |nil=>intro p hp;cases hp
 | cons a r ih=>
   rw[List.map_cons,List.nodup_cons] at nd;intro p hp q hq e;rcases List.mem_cons.mp hp with h1 | h1
   ·rcases List.mem_cons.mp hq with h2 | h2
    ·rw[h1,h2]
    ·exact absurd (List.mem_map.mpr ⟨q,h2,by rw[<- e,h1]⟩) nd.1
   ·rcases List.mem_cons.mp hq with h2 | h2
    ·exact absurd (List.mem_map.mpr ⟨p,h1,by rw[e,h2]⟩) nd.1
    ·exact ih nd.2 p h1 q h2 e
theorem z7u{hps:List HP}{ps:List Pc}(h:hps.map HP.core=ps.map Pc.full)(nd:(ps.map (·.nm)).Nodup):Rel (hubN ps) (zf5 (hubN ps) (hps.filter hubH)) (prsL (hubN ps) ps):=by
 have hh:=zoh h;refine⟨fun a ha b=>?_,fun⟨a,b⟩ hp=>?_⟩
 ·rw[zp6,zyl]
  constructor
  ·rintro⟨q,hq,hc⟩
   obtain⟨p,hp,e⟩:=zog hh hq;obtain⟨e1,e2,e3⟩:=zoi e;refine⟨p,(List.mem_filter.mp hp).1,List.mem_map.mpr ⟨p,hp,rfl⟩,?_⟩;rw[<- e1,<- e2,<- e3];exact hc
  ·rintro⟨p,hp,hn,hc⟩
   obtain⟨p2,hp2,e0⟩:=List.mem_map.mp hn;have:=z7t nd p2 (List.mem_filter.mp hp2).1 p hp e0;subst this;obtain⟨q,hq,e⟩:=zym hh hp2;obtain⟨e1,e2,e3⟩:=zoi e;refine⟨q,hq,?_⟩;rw[e1,e2,e3];exact hc
 ·obtain⟨p,hp,hn,hc⟩:=zyl.mp hp
  rcases hc with⟨rfl,_,h2⟩ | ⟨rfl,_,h2⟩
  ·exact⟨hn,h2⟩
  ·exact⟨h2,hn⟩
theorem z1w{ps:List Pc}(nd:(ps.map (·.nm)).Nodup):(hubN ps).Nodup:=nd.sublist (List.Sublist.map _ (List.filter_sublist))
theorem zyn(ps:List Pc):(hubN ps).length<=ps.length:=by unfold hubN;rw[List.length_map];exact List.length_filter_le ..
theorem zyo{ps:List Pc}{x:Str}(h:x∈hubN ps):∃p∈ps,p.nm=x:=by
 obtain⟨p,hp,e⟩:=List.mem_map.mp h;exact⟨p,(List.mem_filter.mp hp).1,e⟩
theorem z32:∀k:Nat,k<26->(reprText (zd9 k)).length<=30:=by decide +kernel
structure Drw(ps:List Pc):Prop where
 nd:(ps.map (·.nm)).Nodup
 len:ps.length<=24
 w:∀p∈ps,p.w0.length+p.w1.length<=20
 sm:∀p∈ps,(reprText p.nm).length<=30
theorem zyp{a b x:Str}(h:(sec x).Nodup):(addS sec a b x).Nodup:=by
 unfold addS
 split
 ·rename_i e
  subst e
  split
  ·exact h
  ·rename_i hb
   exact List.nodup_append.mpr ⟨h,by simp,fun u hu v hv e=>hb (by rw[List.mem_singleton.mp hv] at e;exact e▸hu)⟩
 ·exact h
theorem ztc{nm x:Str}:∀(os:List Str) {sec:Str->List Str},(sec x).Nodup->((os.foldl (zdk names nm) sec) x).Nodup
 |[],sec,h=>h
 |o::os,sec,h=>ztc os (by unfold zdk;split;exact zyp h;exact h)
theorem zqc{nm x:Str}:∀(os:List Str) {sec:Str->List Str},(sec x).Nodup->((os.foldl (zea names nm) sec) x).Nodup
 |[],sec,h=>h
 |o::os,sec,h=>zqc os (by unfold zea;split;exact zyp h;exact h)
theorem zyq{x:Str}:∀(qs:List HP) {sec:Str->List Str},(sec x).Nodup->((qs.foldl (zie names) sec) x).Nodup
 |[],sec,h=>h
 |q::qs,sec,h=>zyq qs (zqc _ (ztc _ h))
theorem z7v{hps:List HP}{ps:List Pc}(h:hps.map HP.core=ps.map Pc.full)(D:Drw ps):zyd (hubN ps) (zf5 (hubN ps) (hps.filter hubH)):=by
 have hh:=zoh h;have hl:=zyn ps;have dl:=D.len;have sub:∀a b,b∈zf5 (hubN ps) (hps.filter hubH) a->b∈hubN ps:=fun a b hb=>by
  obtain⟨q,hq,hc⟩:=zp6.mp hb;rcases hc with⟨_,_,h2⟩ | ⟨rfl,_,_⟩
  ·exact h2
  ·obtain⟨p,hp,e⟩:=zog hh hq
   obtain⟨e1,_,_⟩:=zoi e;exact List.mem_map.mpr ⟨p,hp,e1.symm⟩
 refine⟨⟨fun a ha b hb=>sub a b hb,fun a ha=>?_,by omega⟩,fun x hx=>?_,by omega⟩
 ·have:=zg4 _ _ (zyq (names:=hubN ps) (x:=a) (hps.filter hubH) (sec:=fun _=>[]) .nil) (sub a)
  show(zf5 (hubN ps) (hps.filter hubH) a).length<=200;have:(zf5 (hubN ps) (hps.filter hubH) a).length<=(hubN ps).length:=this;omega
 ·obtain⟨p,hp,rfl⟩:=zyo hx
  exact D.sm p hp
theorem zyr{h:Nat}{pl:List PlM}{hps:List HP}{ps:List Pc}{pm:PlM}(A:za4 c S h pl hps)(hq:pl.find? (fun p=>decide (p.nm=("hub" : Str)))=some pm)(hc:hps.map HP.core=ps.map Pc.full)(D:Drw ps) :
  (∀res,topo (zf5 (hubN ps) (hps.filter hubH)) (hubN ps).length (hubN ps) []=some res->∃S',zey c [.obj h,.str "hub"] S=.ok (.obj (S.length+1)) S'/\S'[S.length+1]?=some (.lst (res.map .str))/\∀j,j<S.length->S'[j]?=S[j]?) /\
  (topo (zf5 (hubN ps) (hps.filter hubH)) (hubN ps).length (hubN ps) []=none->∃S' ring,zey c [.obj h,.str "hub"] S=.exc c.ring (some [("ring",strL ring)]) S'/\(∀j,j<S.length->S'[j]?=S[j]?)/\zje (zf5 (hubN ps) (hps.filter hubH)) (hubN ps) ring):=by
 have hl:=z0k hc;have dl:=D.len;have nms:(hps.filter hubH).map (·.nm)=hubN ps:=z0m (zoh hc);have ma:=zid (m:=Str.ofString "at") h (by simp) (by simp);have ea:=f_at A hq (by omega);have ea:zge c [.obj h,.str "hub"] S=.ok (strL ((hps.filter hubH).map (·.nm))) S:=ea;rw[nms] at ea;obtain⟨p1,p2⟩:=zob A (z1w D.nd) nms (fun q hq2=>by
  have hq3:=(List.mem_filter.mp hq2).1;obtain⟨p,hp,e⟩:=zog hc hq3;obtain⟨_,e2,e3⟩:=zoi e;have:=D.w p hp;rw[e2,e3];exact⟨hq3,this⟩) (z7v hc D)
 have i0:=A.ins;refine⟨fun res hr=>?_,fun hr=>?_⟩
 ·obtain⟨S',e,g,k⟩:=p1 res hr
  exact⟨S',by simp[zey,zrh,i0,ma,ea,e],g,k⟩
 ·obtain⟨S',ring,e,k,sh⟩:=p2 hr
  exact⟨S',ring,by simp[zey,zrh,i0,ma,ea,e],k,sh⟩
theorem z0n(ns:List Int)(start many:Int)(h0:0<=many)(h1:many<=13):∀p∈pcs ns start many,(reprText p.nm).length<=30:=fun p hp=>by
 obtain⟨k,hk,rfl⟩:=List.mem_map.mp hp;have:=List.mem_range.mp hk;exact z32 k (by omega)
theorem za4.keep{h:Nat}{pl:List PlM}{ps:List HP}{S':Sto}(A:za4 c S h pl ps)(hk:∀j,j<S.length->S'[j]?=S[j]?):za4 c S' h pl ps:=by
 have lk:∀{i:Nat} {v:Cell},S[i]?=some v->S'[i]?=some v:=fun {i v} e=>by
  rw[hk i (by
   by_cases z:i<S.length
   ·exact z
   ·rw[List.getElem?_eq_none (by omega)] at e;cases e)]
  exact e
 exact⟨lk A.hall,lk A.places,lk A.pieces,fun q hq=>lk (A.place q hq),fun p hp=>⟨lk (A.piece p hp).o,lk (A.piece p hp).a0,lk (A.piece p hp).a1,lk (A.piece p hp).a2,lk (A.piece p hp).a3⟩,A.far,A.pw,A.nd⟩
end DN
namespace DN
open PySem L2 MF
section
variable {sec:Str->List Str}{names:List Str}{start:Str}
def Wk(sec:Str->List Str)(start:Str):Nat->Str->Prop
 |0,y=>y=start
 |k+1,y=>∃x,Wk sec start k x/\y∈sec x
def Chn(sec:Str->List Str):List Str->Prop
 |[]=>True
 | a::r=>match r with
   |[]=>True
   |b::_=>b∈sec a/\Chn sec r
theorem ztd:∀{row:List Str} {s:Str},row≠[]->Chn sec row->s∈sec (zc7 row)->Chn sec (row++[s])
 |[],s,h,_,_=>absurd rfl h
 | [a],s,_,_,hs=>by
   have:zc7 [a]=a:=rfl;rw[this] at hs;exact⟨hs,trivial⟩
 | a::b::r,s,_,h,hs=>by
   have e:zc7 (a::b::r)=zc7 (b::r):=by simp[zc7]
   rw[e] at hs;exact⟨h.1,ztd (by simp) h.2 hs⟩
theorem z1x:∀{row:List Str} {i:Nat} {a b:Str},Chn sec row->row[i]?=some a->row[i+1]?=some b->b∈sec a
 |[],i,a,b,_,e,_=>by simp at e
 |[x],i,a,b,_,_,e=>by simp at e
 | x::y::r,0,a,b,h,e1,e2=>by
   simp at e1 e2;subst e1 e2;exact h.1
 |x::y::r,i+1,a,b,h,e1,e2=>z1x (row:=y::r) (i:=i) h.2 (by simpa using e1) (by simpa using e2)
structure RowK(sec:Str->List Str)(start:Str)(n:Nat)(re row:List Str):Prop where
 len:row.length=n+1
 hd:row[0]?=some start
 ch:Chn sec row
 nd:row.Nodup
 sub:∀x∈row,x∈re
 wk:Wk sec start n (zc7 row)
theorem RowK.ne{n:Nat}{re row:List Str}(h:RowK sec start n re row):row≠[]:=fun e=>by
 have:=h.len;rw[e] at this;simp at this
theorem RowK.mono{n:Nat}{re re' row:List Str}(h:RowK sec start n re row)(m:∀x∈re,x∈re'):RowK sec start n re' row:=⟨h.len,h.hd,h.ch,h.nd,fun x hx=>m x (h.sub x hx),h.wk⟩
theorem RowK.snoc{n:Nat}{re row:List Str}{s:Str}(h:RowK sec start n re row)(hs:s∈sec (zc7 row))(hn:s∉re):RowK sec start (n+1) (re++[s]) (row++[s]):=by
 refine⟨by simp[h.len],?_,ztd h.ne h.ch hs,?_,fun x hx=>?_,?_⟩
 ·rw[List.getElem?_append_left (by rw[h.len];omega)];exact h.hd
 ·exact List.nodup_append.mpr ⟨h.nd,by simp,fun a ha b hb e=>hn (by rw[List.mem_singleton.mp hb] at e;exact e▸h.sub a ha)⟩
 ·rcases List.mem_append.mp hx with hx | hx
  ·exact List.mem_append_left _ (h.sub x hx)
  ·exact List.mem_append_right _ hx
 ·rw[zlo];exact⟨zc7 row,h.wk,hs⟩
theorem z33{n:Nat}{row:List Str}:∀(ss re:List Str) (lo:List (List Str)),(∀s∈ss,s∈sec (zc7 row))->RowK sec start n re row->(∀r∈lo,RowK sec start (n+1) re r)->∀re' lo',rt1 start row ss re lo=some (re',lo')->(∀r∈lo',RowK sec start (n+1) re' r)/\∀x∈re,x∈re'
 |[],re,lo,_,_,h,re',lo',e=>by cases e;exact⟨h,fun x hx=>hx⟩
 | s :: ss,re,lo,hs,hr,h,re',lo',e=>by
   unfold rt1 at e;have hs':∀x∈ss,x∈sec (zc7 row):=fun x hx=>hs x (List.mem_cons_of_mem _ hx);by_cases z:s=start
   ·rw[if_pos z] at e;cases e
   ·rw[if_neg z] at e
    by_cases y:s∈re
    ·rw[if_pos y] at e
     exact z33 ss re lo hs' hr h re' lo' e
    ·rw[if_neg y] at e
     have m:∀x∈re,x∈re++[s]:=fun x hx=>List.mem_append_left _ hx;obtain⟨a,b⟩:=z33 ss (re++[s]) (lo++[row++[s]]) hs' (hr.mono m) (fun r hr2=>by
      rcases List.mem_append.mp hr2 with hr2 | hr2
      ·exact(h r hr2).mono m
      ·rw[List.mem_singleton.mp hr2];exact hr.snoc (hs s (List.mem_cons_self ..)) y) re' lo' e
     exact⟨a,fun x hx=>b x (m x hx)⟩
theorem zoj{row:List Str}:∀(ss re:List Str) (lo:List (List Str)),rt1 start row ss re lo=none->start∈ss
 |[],re,lo,e=>by cases e
 | s::ss,re,lo,e=>by
   unfold rt1 at e;by_cases z:s=start
   ·rw[z];exact List.mem_cons_self ..
   ·rw[if_neg z] at e
    split at e
    ·exact List.mem_cons_of_mem _ (zoj ss _ _ e)
    ·exact List.mem_cons_of_mem _ (zoj ss _ _ e)
theorem z7w{n:Nat}:∀(rows:List (List Str)) (re:List Str) (lo:List (List Str)),(∀r∈rows,RowK sec start n re r)->(∀r∈lo,RowK sec start (n+1) re r)->∀re' lo',rt2 sec start rows re lo=.ok (re',lo')->(∀r∈lo',RowK sec start (n+1) re' r)/\∀x∈re,x∈re'
 |[],re,lo,_,h,re',lo',e=>by cases e;exact⟨h,fun x hx=>hx⟩
 | row::rs,re,lo,h1,h2,re',lo',e=>by
   unfold rt2 at e;cases e1:rt1 start row (sec (zc7 row)) re lo with
   |none=>simp only[e1] at e;cases e
   | some q=>
     obtain⟨re1,lo1⟩:=q;simp only[e1] at e;obtain⟨a,m⟩:=z33 _ re lo (fun s hs=>hs) (h1 row (List.mem_cons_self ..)) h2 re1 lo1 e1;obtain⟨b,m2⟩:=z7w rs re1 lo1 (fun r hr=>(h1 r (List.mem_cons_of_mem _ hr)).mono m) a re' lo' e;exact⟨b,fun x hx=>m2 x (m x hx)⟩
theorem zqd:∀(rows:List (List Str)) (re:List Str) (lo:List (List Str)) {row:List Str},rt2 sec start rows re lo=.error row->start∈sec (zc7 row)
 | r :: rs,re,lo,row,e=>by
   unfold rt2 at e;cases e1:rt1 start r (sec (zc7 r)) re lo with
   |none=>simp only[e1] at e;cases e;exact zoj _ _ _ e1
   | some q=>
     simp only[e1] at e;exact zqd rs _ _ e
structure zys(sec:Str->List Str)(start:Str)(ring:List Str):Prop where
 hd:ring[0]?=some start
 ch:Chn sec ring
 nd:ring.Nodup
 back:start∈sec (zc7 ring)
 wk:Wk sec start ring.length start
 min:∀m,1<=m->m<ring.length->¬Wk sec start m start
theorem z7x (hsec:∀a∈names,∀b∈sec a,b∈names):∀(f n:Nat) (rows:List (List Str)) (re:List Str),ReOk names re->(∀r∈rows,zh1 names re r)->(∀r∈rows,RowK sec start n re r)->(∀k y,k<=n->Wk sec start k y->y∈re) ->
  (∀u∈re,(∀v∈sec u,v≠start/\v∈re)\/∃r∈rows,zc7 r=u)->(∀m,1<=m->m<=n->¬Wk sec start m start)->rt3 sec start f rows re≠[]->zys sec start (rt3 sec start f rows re)
 |0,n,rows,re,_,_,_,_,_,_,h=>absurd rfl h
 | f + 1,n,rows,re,h1,h2,h3,h4,h5,h6,h=>by
   unfold rt3 at h ⊢;by_cases z:rows=[]
   ·rw[if_pos z] at h;exact absurd rfl h
   ·rw [if_neg z] at h ⊢
    cases e:rt2 sec start rows re [] with
    | error row=>
      have hm:=zlp _ _ _ e;have k:=h3 row hm;have st:=zqd _ _ _ e;exact⟨k.hd,k.ch,k.nd,st,by rw[k.len];exact⟨zc7 row,k.wk,st⟩,fun m m1 m2=>h6 m m1 (by rw[k.len] at m2;omega)⟩
    | ok q=>
      obtain⟨re',lo⟩:=q;simp only[e] at h ⊢;obtain⟨a1,a2,a3,⟨u,a4⟩,a5,a6,a7⟩:=zp4 hsec rows re [] h1 h2 (by intro r hr;cases hr) (Nat.zero_le _) re' lo e;obtain⟨k1,k2⟩:=z7w (n:=n) rows re [] h3 (by intro r hr;cases hr) re' lo e;have next:∀x,x∈re->∀v∈sec x,v≠start/\v∈re':=fun x hx v hv=>by
       rcases h5 x hx with g | ⟨r,hr,rfl⟩
       ·exact⟨(g v hv).1,k2 v (g v hv).2⟩
       ·exact a6 r hr v hv
      refine z7x hsec f (n+1) lo re' a1 a2 k1 (fun k y hk w=>?_) (fun x hx=>?_) (fun m m1 m2 w=>?_) h
      ·by_cases hkn:k<=n
       ·exact k2 y (h4 k y hkn w)
       ·obtain rfl:k=n+1:=by omega
        obtain⟨x,w1,w2⟩:=w;exact(next x (h4 n x (Nat.le_refl _) w1) y w2).2
      ·rcases a7 x hx with g | g
       ·exact .inl fun v hv=>next x g v hv
       ·exact .inr g
      ·by_cases hmn:m<=n
       ·exact h6 m m1 hmn w
       ·obtain rfl:m=n+1:=by omega
        obtain⟨x,w1,w2⟩:=w;exact(next x (h4 n x (Nat.le_refl _) w1) start w2).1 rfl
theorem zte(ok:SecOk names sec)(h:start∈names)(hne:zc8 sec names start≠[]):zys sec start (zc8 sec names start):=by
 obtain⟨a,b⟩:=zkp h;refine z7x ok.sub (names.length+1) 0 [[start]] [start] a b (fun r hr=>?_) (fun k y hk w=>?_) (fun u hu=>?_) (fun m m1 m2=>by omega) hne
 ·rw[List.mem_singleton.mp hr]
  exact⟨rfl,rfl,trivial,by simp,fun x hx=>hx,rfl⟩
 ·obtain rfl:k=0:=by omega
  have:y=start:=w;rw[this];simp
 ·rw[List.mem_singleton.mp hu]
  exact .inr ⟨[start],by simp,rfl⟩
theorem zyt:∀(k:Nat) {y:Str},Wk sec start (k+1) y->Path sec start y
 | 0,y,⟨x,w,h⟩=>by
   have:x=start:=w;subst this;exact .one h
 |k+1,y,⟨x,w,h⟩=>(zyt k w).snoc h
theorem zur(ok:SecOk names sec){ring:List Str}(sh:zje sec names ring):∃s∈names,zys sec s ring/\ring.length<=names.length/\∀n∈names,∀m,1<=m->m<ring.length->¬Wk sec n m n:=by
 obtain⟨s,hs,e⟩:=sh.of;have k:=zte ok hs (e▸sh.ne);rw[<- e] at k;refine⟨s,hs,k,by rw[e];exact(zoa ok hs).2,fun n hn m m1 m2 w=>?_⟩;obtain⟨m,rfl⟩:∃j,m=j+1:=⟨m-1,by omega⟩;have hne:=zya ok hn (zyt m w);have kn:=zte ok hn hne;have l:=sh.min n hn hne;exact kn.min (m+1) m1 (by omega) w
end
end DN
namespace DN
open PySem L2 MF
variable {c:Cl}{S:Sto}
def secT(la lb:List Str):T:=.dic [(.inr "a",.dic (zbc la)),(.inr "b",.dic (zbc lb))]
local macro_rules | `(tactic| walk_at "r") => `(tactic| simp [zas, zar, zap, zay, sFor, za9, iK, zaw, gDix, gNeg, zf1, keyT, secT, zbc, valT, zfe, atI, ixN, putT, gApp, cellL, okL, zal, kT, truM, zdl])
end DN
namespace DN
open PySem L2 MF
variable {c:Cl}{S:Sto}{sec:Str->List Str}{names:List Str}
section
variable {h:Nat}{pl:List PlM}{ps qs:List HP}(A:za4 c S h pl ps)(hq:qs.map (·.nm)=(["a", "b"]:List Str))(hs:∀q∈qs,q∈ps/\q.w0.length+q.w1.length<=20)
include A hq hs
end
end DN
namespace DN
open PySem L2 MF
variable {c:Cl}{S:Sto}
structure Rn where
 kind:Str
 rule:Str
 num:T
 deeds:List T
 held:List T
 brk:Bool
 prs:List T
 fnd:T
 ard:List T
end DN
namespace DN
open PySem L2 MF
section
variable {nd:Str->Option (List Str)}{C:Str->Prop}{x:Str}
def z1y(nd:Str->Option (List Str)):List Str->Option (List Str)
 |[]=>some []
 | x::xs=>match nd x with
   |none=>none
   |some ws=>(z1y nd xs).map (ws++·)
def clos(nd:Str->Option (List Str)):Nat->List Str->Option (List Str)
 |0,found=>some found
 | k+1,found=>match z1y nd found with
   |none=>none
   |some more=>clos nd k (zjk (dedS (found++more)))
end
end DN
namespace DN
open PySem L2 MF
section
variable {nd:Str->Option (List Str)}{C:Str->Prop}{x:Str}{N:List Str}
theorem z34(l:List Str):(zjk l).Perm l:=by
 unfold zjk
 split
 ·rename_i h;exact h.choose_spec.1
 ·exact List.Perm.refl _
end
end DN
namespace DN
open PySem L2 MF
variable {c:Cl}{S:Sto}
def ndP(ps:List Pc)(x:Str):Option (List Str):=(ps.find? fun p=>decide (p.nm=x)).map (·.w2)
end DN
namespace DN
open PySem L2 MF
variable {c:Cl}{S:Sto}
theorem zmd{f g:DS}{ρ r:Ev}{S S1:Sto}(h:f ρ S=.ok (.nx r) S1):sSeq f g ρ S=g r S1:=by rw[z6s,zan,h]
theorem z9j{f g:DS}{ρ:Ev}{t:T}{S S1:Sto}(h:f ρ S=.ok (.rt t) S1):sSeq f g ρ S=.ok (.rt t) S1:=by rw[z6s,zan,h];rfl
theorem ztf{it:DI}{g:DG}{body:DS}{ts:List T}{st:Sto->Prop}{ρ:Ev}{S S1:Sto}(hit:it ρ S=.ok (ts,st) S1):sFor it g body ρ S=za9 st g body ts ρ S1:=by
 unfold sFor;rw[zan,hit]
end DN
namespace DN
open PySem L2 MF
variable {c:Cl}{S:Sto}{sec:Str->List Str}{names:List Str}
theorem zjx{st:Sto->Prop}{g:DG}{body:DS}{v t:T}{B:List T}(Inv:Ev->Prop)(hst:st S)(ht:∀ρ,Inv ρ->∃ρ1,g t ρ=some ρ1/\body ρ1 S=.ok (.rt v) S) :
  ∀(A:List T) (ρ:Ev),Inv ρ->(∀u∈A,∀ρ,Inv ρ->∃ρ1,g u ρ=some ρ1/\∃ρ2,body ρ1 S=.ok (.nx ρ2) S/\Inv ρ2)->za9 st g body (A++t::B) ρ S=.ok (.rt v) S
 | [],ρ,h,_=>by
   obtain⟨ρ1,e1,e2⟩:=ht ρ h;rw[List.nil_append];unfold za9;rw[if_pos hst,e1];simp only[zan,e2];rfl
 | u::A,ρ,h,ha=>by
   obtain⟨ρ1,e1,ρ2,e2,h2⟩:=ha u (List.mem_cons_self ..) ρ h;rw[List.cons_append];unfold za9;rw[if_pos hst,e1];simp only[zan,e2];exact zjx Inv hst ht A ρ2 h2 fun w hw=>ha w (List.mem_cons_of_mem _ hw)
theorem zh2{st:Sto->Prop}{g:DG}{body:DS}(Inv:Ev->Prop)(hst:st S):∀(A:List T) (ρ:Ev),Inv ρ->(∀u∈A,∀ρ,Inv ρ->∃ρ1,g u ρ=some ρ1/\∃ρ2,body ρ1 S=.ok (.nx ρ2) S/\Inv ρ2)->∃ρ',za9 st g body A ρ S=.ok (.nx ρ') S/\Inv ρ'
 |[],ρ,h,_=>⟨ρ,by unfold za9;rw[if_pos hst],h⟩
 | u::A,ρ,h,ha=>by
   obtain⟨ρ1,e1,ρ2,e2,h2⟩:=ha u (List.mem_cons_self ..) ρ h;obtain⟨ρ',e3,h3⟩:=zh2 (st:=st) (g:=g) (body:=body) Inv hst A ρ2 h2 fun w hw=>ha w (List.mem_cons_of_mem _ hw);refine⟨ρ',?_,h3⟩;unfold za9;rw[if_pos hst,e1];simp only[zan,e2];exact e3
theorem zrv{n:Nat}{d:DS}{ts:List T}{t:T}{S S':Sto}{ρ:Ev}(hρ:ts.map some++List.replicate (n-ts.length) none=ρ)(h:d ρ S=.ok (.rt t) S'):runD n d ts S=.ok t S':=by subst hρ;rw[z6t,h]
theorem zrw{F:Fn}{fr:DA}{ρ:Ev}{ts:List T}{t:T}{n:Nat}{S S1 S2:Sto}(hr:fr ρ S=.ok ts S1)(hl:ts.length=n)(h:F ts S1=.ok t S2):zbd (lenF n F) [] fr ρ S=.ok t S2:=by
 rw[z6u,zan,hr];show lenF n F (ts++[]) S1=_;rw[List.append_nil,z83,if_pos hl,h]
theorem zjy{a:DE}{r:DA}{ρ:Ev}{t:T}{ts:List T}{S S1 S2:Sto}(h1:a ρ S=.ok t S1)(h2:r ρ S1=.ok ts S2):zac a r ρ S=.ok (t::ts) S2:=by
 rw[z3i,zan,h1];show(r ρ).bind _ S1=_;rw[zan,h2];rfl
theorem z7y{f:DE}{ρ:Ev}{t:T}{S S1:Sto}(h:f ρ S=.ok t S1):sRet f ρ S=.ok (.rt t) S1:=by rw[z81,zan,h];rfl
theorem ztg{f:DE}{ρ:Ev}{i:Nat}{t:T}{S S1:Sto}(h:f ρ S=.ok t S1):sSet i f ρ S=.ok (.nx (ρ.set i (some t))) S1:=by rw[z82,zan,h];rfl
theorem zth{start:Str}(hsec:∀a∈names,∀b∈sec a,b∈names)(h:start∈names):∀(k:Nat) {y:Str},Wk sec start k y->y∈names
 | 0,y,w=>by
   have:y=start:=w;rw[this];exact h
 |k+1,y,⟨x,w,hy⟩=>hsec x (zth hsec h k w) y hy
def zio(prs:List (Str×Str))(f:List Str):List Str:=(prs.filter fun p=>decide (p.1∈f)).map (·.2)
theorem zyu{prs:List (Str×Str)}{f:List Str}{t1 t2 x4:Option T}(hl:prs.length<=900) :
  zef 1 [3] (zd4 c) (zaw 0) (zd5 c) (zd3 c) finF [some (.lst (prs.map zak)),t1,t2,some (strL f),x4] S=.ok (strL (zio prs f)) S:=by
 have cc:=zf8 (ρ:=[some (.lst (prs.map zak)),t1,t2,some (strL f),x4]) (S:=S) (js:=[3]) (it:=zd4 c) (tc:=zd5 c) (te:=zd3 c) (ts:=prs.map zak) (st:=fun S'=>zal S' (.lst (prs.map zak))=some (prs.map zak))
  (p:=fun t=>match t with|.tup (.str x::_)=>decide (x∈f) | _=>false) (f:=fun t=>match t with|.tup [_,.str y]=>.str y | _=>.non)
  (by simp[zd4]) rfl (by simp;omega) (fun t ht=>by
   obtain⟨p,_,rfl⟩:=List.mem_map.mp ht;simp[zd5,zak]) (fun t ht _=>by
   obtain⟨p,_,rfl⟩:=List.mem_map.mp ht;simp[zd3,zak])
 rw[cc,List.filter_map,List.map_map];unfold strL zio;rw[List.map_map];rfl
theorem zyv{prs:List (Str×Str)}{name:Str}(r:Rel names sec prs)(hsec:∀a∈names,∀b∈sec a,b∈names)(hn:name∈names)(hl:prs.length<64)(m:Nat)(hm:m<=100) :
  ∃found,zd7 c [.lst (prs.map zak),.lst [.str name],.int m] S=.ok (strL found) S/\∀y,y∈found↔Wk sec name m y:=by
 obtain⟨ρ',S',e,⟨found,x4,rfl,hf⟩,rfl⟩:=zji (ρ:=[some (.lst (prs.map zak)),some (.lst [.str name]),some (.int m),some (strL [name]),none]) (S:=S) (it:=iR1 (zac (eVar 2) aNil)) (g:=zaw 4) (body:=zd6 c) (ts:=zeu 0 m) (st:=fun _=>True) (S1:=S)
  (fun pre ρ S'=>(∃found x4,ρ=[some (.lst (prs.map zak)),some (.lst [.str name]),some (.int m),some (strL found),x4]/\∀y,y∈found↔Wk sec name pre.length y)/\S'=S)
  (by
   have:-1000000<=(m:Int)/\(m:Int)<=1000000:=by omega
   simp[this]) ⟨⟨[name],_,rfl,fun y=>by simp[Wk]⟩,rfl⟩ (fun pre t post ρ S' hsp ⟨⟨f,x4,hρ,hf⟩,hS⟩=>by
   subst hρ hS;obtain⟨hlt,rfl⟩:=zim hsp;refine⟨trivial,_,rfl,[some (.lst (prs.map zak)),some (.lst [.str name]),some (.int m),some (strL (zjk (dedS (zio prs f)))),some (.int pre.length)],S',?_,⟨zjk (dedS (zio prs f)),_,rfl,fun y=>?_⟩,rfl⟩
   ·have nc:=zyu (c:=c) (S:=S') (prs:=prs) (f:=f) (t1:=some (.lst [.str name])) (t2:=some (.int m)) (x4:=some (.int pre.length)) (by omega)
    have gs:zi1 (strL (zio prs f)) S'=.ok (strL (zjk (dedS (zio prs f)))) S':=by
     have e3:(zal S' (strL (zio prs f))).bind zee=some (zio prs f):=zfb _;have nl:(zio prs f).length<64:=by
      unfold zio;rw[List.length_map];have:=List.length_filter_le (fun p:Str×Str=>decide (p.1∈f)) prs;omega
     unfold zi1;rw[e3];show(if(zio prs f).length<64 then _ else _)=_;rw[if_pos nl];rfl
    show zd6 c [some (.lst (prs.map zak)),some (.lst [.str name]),some (.int m),some (strL f),some (.int pre.length)] S'=.ok (.nx [some (.lst (prs.map zak)),some (.lst [.str name]),some (.int m),some (strL (zjk (dedS (zio prs f)))),some (.int pre.length)]) S';generalize strL (zjk (dedS (zio prs f)))=R2 at gs ⊢;generalize strL (zio prs f)=R1 at nc gs;generalize strL f=R0 at nc ⊢;generalize prs.map zak=PL at nc ⊢;simp[zd6,nc,gs]
   ·rw[(z34 _).mem_iff,zle,List.length_append,List.length_singleton]
    unfold zio;rw[List.mem_map];constructor
    ·rintro⟨⟨a,b⟩,hp,rfl⟩
     obtain⟨h1,h2⟩:=List.mem_filter.mp hp;have h2:a∈f:=by simpa using h2
     exact⟨a,(hf a).mp h2,(r.1 a (r.2 (a,b) h1).1 b).mpr h1⟩
    ·rintro⟨x,w,hy⟩
     have hx:=zth hsec hn _ w;exact⟨(x,y),List.mem_filter.mpr ⟨(r.1 x hx y).mp hy,by simpa using(hf x).mpr w⟩,rfl⟩) (fun _ _ _=>trivial)
 rw[zfg] at hf;refine⟨found,?_,hf⟩;have gl:zpd (.lst [.str name]) S'=.ok (strL [name]) S':=by simp[zpd,zff,strL]
 generalize strL found=R at e ⊢;generalize strL [name]=N at e gl;generalize prs.map zak=PL at e ⊢;simp[zd7,zi3,gl,e]
theorem zrx{n L:Nat}(h1:1<=L)(h2:L<=n):zeu 1 n=zeu 1 (L-1)++.int L::zeu (1+L) (n-L):=by
 obtain⟨a,rfl⟩:∃a,L=a+1:=⟨L-1,by omega⟩;obtain⟨b,rfl⟩:∃b,n=a+(b+1):=⟨n-(a+1),by omega⟩;have e1:a+1-1=a:=by omega
 have e2:a+(b+1)-(a+1)=b:=by omega
 rw[e1,e2];unfold zeu;rw[List.range_add,List.map_append,List.range_succ_eq_map,List.map_cons,List.map_cons,List.map_map,List.map_map];refine congrArg _ ?_;have e3:T.int (1+((a+0:Nat):Int))=.int ((a+1:Nat):Int):=by
  refine congrArg _ ?_;omega
 rw[e3];refine congrArg _ (List.map_congr_left fun k _=>?_);show T.int (1+((a+Nat.succ k:Nat):Int))=T.int (1+((a+1:Nat):Int)+k);refine congrArg _ ?_;omega
theorem z0o {prs:List (Str×Str)} (r:Rel names sec prs) (hsec:∀a∈names,∀b∈sec a,b∈names) (hl:prs.length<64) (few:names.length<=50) {L:Nat} (h1:1<=L) (h2:L<=names.length) {s:Str} (hs:s∈names) (hw:Wk sec s L s) (hmin:∀n∈names,∀m,1<=m->m<L->¬Wk sec n m n) :
  zdw c [strL names,.lst (prs.map zak)] S=.ok (.int L) S:=by
 have one:∀(m:Nat) (n:Str),m<=100->n∈names->∃found:List Str,(∀y,y∈found↔Wk sec n m y)/\zdp c [some (strL names),some (.lst (prs.map zak)),some (.int m),some (.str n)] S=(if found.contains n=true then .ok (.rt (.int m)) S else .ok (.nx [some (strL names),some (.lst (prs.map zak)),some (.int m),some (.str n)]) S):=fun m n hm hn=>by
  obtain⟨found,e,hf⟩:=zyv (c:=c) (S:=S) r hsec hn hl m hm;refine⟨found,hf,?_⟩;have gi:=z87 (S:=S) n found;generalize strL found=R at e gi;generalize prs.map zak=PL at e ⊢;generalize strL names=NL;by_cases hm:n∈found
  ·have hc:found.contains n=true:=by simpa using hm
   rw[hc] at gi;rw[if_pos hc];simp[zdp,e,gi]
  ·have hc:found.contains n=false:=by simpa using hm
   rw[hc] at gi;rw[hc,if_neg (by simp)];simp[zdp,e,gi]
 have inner:∀(m:Nat) {x3:Option T},m<=100->(∀n∈names,¬Wk sec n m n)->∃x3',zeq c [some (strL names),some (.lst (prs.map zak)),some (.int m),x3] S=.ok (.nx [some (strL names),some (.lst (prs.map zak)),some (.int m),x3']) S:=fun m x3 hm hno=>by
  have il:iL (eVar 0) [some (strL names),some (.lst (prs.map zak)),some (.int m),x3] S=.ok (names.map .str,fun S'=>zal S' (strL names)=some (names.map .str)) S:=by simp[strL]
  obtain⟨ρ',e,x3',rfl⟩:=zh2 (S:=S) (st:=fun S'=>zal S' (strL names)=some (names.map .str)) (g:=zaw 3) (body:=zdp c) (fun ρ=>∃x3,ρ=[some (strL names),some (.lst (prs.map zak)),some (.int m),x3]) rfl (names.map .str) _ ⟨x3,rfl⟩ (fun u hu ρ ⟨x,hρ⟩=>by
   subst hρ;obtain⟨n,hn,rfl⟩:=List.mem_map.mp hu;obtain⟨found,hf,e⟩:=one m n hm hn;have:found.contains n=false:=by
    have:=fun q=>hno n hn ((hf n).mp q);simpa using this
   rw[this,if_neg (by simp)] at e;exact⟨_,rfl,_,e,_,rfl⟩)
  exact⟨x3',(ztf il).trans e⟩
 have last:∀{x3:Option T},zeq c [some (strL names),some (.lst (prs.map zak)),some (.int L),x3] S=.ok (.rt (.int L)) S:=fun {x3}=>by
  have il:iL (eVar 0) [some (strL names),some (.lst (prs.map zak)),some (.int L),x3] S=.ok (names.map .str,fun S'=>zal S' (strL names)=some (names.map .str)) S:=by simp[strL]
  refine(ztf il).trans ?_;have ex:∃A n B,names=A++n::B/\Wk sec n L n/\∀u∈A,¬Wk sec u L u:=by
   have : ∀l:List Str,s∈l->∃A n B,l=A++n::B/\Wk sec n L n/\∀u∈A,¬Wk sec u L u:=fun l=>by
    induction l with
    |nil=>intro h;cases h
    | cons a l ih=>
      intro h;by_cases ha:Wk sec a L a
      ·exact⟨[],a,l,rfl,ha,fun u hu=>absurd hu List.not_mem_nil⟩
      ·rcases List.mem_cons.mp h with rfl | h
       ·exact absurd hw ha
       ·obtain⟨A,n,B,e,w,k⟩:=ih h
        refine⟨a::A,n,B,by rw[e];rfl,w,fun u hu=>?_⟩;rcases List.mem_cons.mp hu with rfl | hu
        ·exact ha
        ·exact k u hu
   exact this names hs
  obtain⟨A,n,B,e,w,k⟩:=ex;have e':names.map T.str=A.map .str++.str n::B.map .str:=by rw[e];simp
  have hmem:∀u∈A,u∈names:=fun u hu=>by rw[e];simp[hu]
  have hnm:n∈names:=by rw[e];simp
  rw[e'];refine zjx (S:=S) (fun ρ=>∃x3,ρ=[some (strL names),some (.lst (prs.map zak)),some (.int L),x3]) (by rw[<- e'];rfl) (fun ρ ⟨x,hρ⟩=>?_) (A.map .str) _ ⟨x3,rfl⟩ (fun u hu ρ ⟨x,hρ⟩=>?_)
  ·subst hρ
   obtain⟨found,hf,e1⟩:=one L n (by omega) hnm;have:found.contains n=true:=by simpa using(hf n).mpr w
   rw[this,if_pos rfl] at e1;exact⟨_,rfl,e1⟩
  ·subst hρ
   obtain⟨v,hv,rfl⟩:=List.mem_map.mp hu;obtain⟨found,hf,e1⟩:=one L v (by omega) (hmem v hv);have:found.contains v=false:=by
    have:=fun q=>k v hv ((hf v).mp q);simpa using this
   rw[this,if_neg (by simp)] at e1;exact⟨_,rfl,_,e1,_,rfl⟩
 have ln:∀Z,gLen (strL names) Z=.ok (.int names.length) Z:=fun Z=>by simp[strL]
 have hit:iR2 (zac (eC (.int 1)) (zac (e2 gAdd (e1 gLen (eVar 0)) (eC (.int 1))) aNil)) [some (strL names),some (.lst (prs.map zak)),none,none] S=.ok (zeu 1 names.length,fun _=>True) S:=by
  obtain⟨q,hq⟩:∃q:Int,q=(names.length:Int)+1:=⟨_,rfl⟩;have ha:zac (eC (.int 1)) (zac (e2 gAdd (e1 gLen (eVar 0)) (eC (.int 1))) aNil) [some (strL names),some (.lst (prs.map zak)),none,none] S=.ok [.int 1,.int q] S:=by
   rw[hq];generalize strL names=NL at ln;simp[ln]
  have h3:-1000000<=(1:Int)/\(1:Int)<=1000000 /\ -1000000<=q/\q<=1000000:=⟨by decide,by decide,by omega,by omega⟩;have h4:(q-1).toNat=names.length:=by omega
  rw[z85,zan,ha];show(if -1000000<=(1:Int)/\(1:Int)<=1000000 /\ -1000000<=q/\q<=1000000 then R.ok (zeu 1 (q-1).toNat,fun(_:Sto)=>True) S else .bad)=_;rw[if_pos h3,h4]
 have esp:=zrx h1 h2;have run:sFor (iR2 (zac (eC (.int 1)) (zac (e2 gAdd (e1 gLen (eVar 0)) (eC (.int 1))) aNil))) (zaw 2) (zeq c) [some (strL names),some (.lst (prs.map zak)),none,none] S=.ok (.rt (.int L)) S:=by
  refine(ztf hit).trans ?_;rw[esp];refine zjx (S:=S) (fun ρ=>∃x2 x3,ρ=[some (strL names),some (.lst (prs.map zak)),x2,x3]) trivial (fun ρ ⟨x2,x3,hρ⟩=>?_) _ _ ⟨_,_,rfl⟩ (fun u hu ρ ⟨x2,x3,hρ⟩=>?_)
  ·subst hρ
   exact⟨_,rfl,last⟩
  ·subst hρ
   obtain⟨k,hk,rfl⟩:=List.mem_map.mp hu;have hk:=List.mem_range.mp hk;have ek:(1:Int)+(k:Int)=((k+1:Nat):Int):=by omega
   obtain⟨x3',e⟩:=inner (k+1) (x3:=x3) (by omega) (fun n hn=>hmin n hn (k+1) (by omega) (by omega));rw[<- ek] at e;exact⟨_,rfl,_,e,_,_,rfl⟩
 unfold zdw;refine zrv (ρ:=[some (strL names),some (.lst (prs.map zak)),none,none]) rfl ?_;unfold zj3;exact z9j run
end DN
namespace DN
open PySem L2 MF
variable {c:Cl}{S:Sto}{sec:Str->List Str}{names:List Str}
theorem z1z:∀{l:List Str},l.Nodup->dedS l=l
 |[],_=>rfl
 | x::l,h=>by
   obtain⟨h1,h2⟩:=List.nodup_cons.mp h;unfold dedS;rw[if_neg h1,z1z h2]
def zh3(p:Str×Str):PyData:=.tuple [.str p.1,.str p.2]
theorem zqe:∀(prs:List (Str×Str)),pds (prs.map zak)=some (prs.map zh3)
 |[]=>by simp[pds]
 | p::prs=>by
   have:=zqe prs;simp[pds,pd,zak,this,zh3]
theorem zqf:∀{prs:List (Str×Str)},(∀p∈prs,okN p.1/\okN p.2)->PyData.canLayAll0 (prs.map zh3)=true
 |[],_=>by simp[PyData.canLayAll0]
 | p::prs,h=>by
   obtain⟨h1,h2⟩:=h p (List.mem_cons_self ..);unfold okN at h1 h2;have:=zqf fun q hq=>h q (List.mem_cons_of_mem _ hq);simp[PyData.canLayAll0,PyData.canLay0,zh3,h1,h2,this]
theorem zlv:∀(prs:List (Str×Str)),PyData.depthAll (prs.map zh3)<=1
 |[]=>by simp[PyData.depthAll]
 | p::prs=>by
   have:=zlv prs;simp[PyData.depthAll,PyData.depth,zh3] at this ⊢;omega
theorem z0p{prs:List (Str×Str)}{a b:Str}(h:(a,b)∈prs)(ok:∀p∈prs,okN p.1/\okN p.2):ziw (.tup [.str a,.str b]) (.lst (prs.map zak)) S=.ok (.bl false) S:=by
 have e1:inF (.tup [.str a,.str b]) (prs.map zak)=none:=rfl;have e2:pd (.tup [.str a,.str b])=some (zh3 (a,b)):=by simp[pd,pds,zh3]
 have e3:(zh3 (a,b)).canLay0=true:=by
  obtain⟨h1,h2⟩:=ok _ h;unfold okN at h1 h2;simp[zh3,PyData.canLay0,PyData.canLayAll0,h1,h2]
 have e4:(zh3 (a,b)).depth<=20:=by simp[zh3,PyData.depth,PyData.depthAll]
 have e5:=zlv prs;have e6:((prs.map zh3).any fun z=>PyData.eqv z (zh3 (a,b)))=true:=by
  rw[List.any_eq_true];exact⟨zh3 (a,b),List.mem_map.mpr ⟨_,h,rfl⟩,by simp[zh3,PyData.eqv,PyData.eqvAll]⟩
 have e7:PyData.depthAll (prs.map zh3)<=20:=by omega
 have:inS S (.tup [.str a,.str b]) (.lst (prs.map zak))=some true:=by
  unfold inS;simp only[z6v,e1,e2,zqe,e3,zqf ok,e4,e7,e6];simp
 unfold ziw;rw[this];rfl
theorem zus{start:Str}{ring:List Str}(k:zys sec start ring)(i:Nat)(hi:i<ring.length):∃a b,ring[i]?=some a/\ring[(i+1)%ring.length]?=some b/\b∈sec a:=by
 refine⟨ring[i],?_⟩;have ea:=List.getElem?_eq_getElem hi;by_cases h:i+1<ring.length
 ·refine⟨ring[i+1],ea,?_,?_⟩
  ·rw[Nat.mod_eq_of_lt h];exact List.getElem?_eq_getElem h
  ·exact z1x k.ch ea (List.getElem?_eq_getElem h)
 ·have e:i+1=ring.length:=by omega
  refine⟨start,ea,?_,?_⟩
  ·rw[e,Nat.mod_self];exact k.hd
  ·have:zc7 ring=ring[i]:=by
    unfold zc7;rw[List.getLast?_eq_getElem?,show ring.length-1=i by omega,ea];rfl
   rw[<- this];exact k.back
theorem zqg{prs:List (Str×Str)}{start:Str}{ring:List Str}(r:Rel names sec prs)(ok:∀p∈prs,okN p.1/\okN p.2)(k:zys sec start ring)(hsub:∀x∈ring,x∈names)(hl:ring.length<=50) :
  zb3 c [strL ring,.lst (prs.map zak),.int ring.length] S=.ok (.bl true) S:=by
 have ls:zjl (strL ring) S=.ok (.int ring.length) S:=by
  have e3:(zal S (strL ring)).bind zee=some ring:=zfb _;unfold zjl;rw[e3];show(if ring.length<64 then _ else _)=_;rw[if_pos (by omega),z1z k.nd]
 have ln:∀Z,gLen (strL ring) Z=.ok (.int ring.length) Z:=fun Z=>by simp[strL]
 have il:∀Z,gIsa .list (strL ring) Z=.ok (.bl true) Z:=fun Z=>rfl;have hit:iR1 (zac (e1 gLen (eVar 0)) aNil) [some (strL ring),some (.lst (prs.map zak)),some (.int ring.length),none] S=.ok (zeu 0 ring.length,fun _=>True) S:=by
  obtain⟨m,hm⟩:∃m:Int,m=(ring.length:Int):=⟨_,rfl⟩;have ha:zac (e1 gLen (eVar 0)) aNil [some (strL ring),some (.lst (prs.map zak)),some (.int ring.length),none] S=.ok [.int m] S:=by
   rw[hm];generalize strL ring=R at ln;simp[ln]
  have h1:m.toNat=ring.length:=by omega
  have h2:-1000000<=m/\m<=1000000:=by omega
  rw[z84,zan,ha];simp only[if_pos h2,h1]
 obtain⟨ρ',e,x3,rfl⟩:=zh2 (S:=S) (st:=fun _=>True) (g:=zaw 3) (body:=zcz c) (fun ρ=>∃x3,ρ=[some (strL ring),some (.lst (prs.map zak)),some (.int ring.length),x3]) trivial (zeu 0 ring.length) _ ⟨none,rfl⟩ (fun u hu ρ ⟨x,hρ⟩=>by
  subst hρ;obtain⟨i,hi,rfl⟩:=List.mem_map.mp hu;have hi:=List.mem_range.mp hi;obtain⟨a,b,ea,eb,hb⟩:=zus k i hi;have hp:=(r.iff a (hsub a (List.mem_of_getElem? ea)) b).mp hb;have np:=z0p (S:=S) hp ok;have i1:gIx (strL ring) (.int i) S=.ok (.str a) S:=by
   have:atI (ring.map T.str) (i:Int)=some (.str a):=zf0 (by rw[List.getElem?_map,ea];rfl);simp[strL,this]
  have em:((i:Int)+1)%(ring.length:Int)=(((i+1)%ring.length:Nat):Int):=by rw[Int.natCast_emod,Int.natCast_add];rfl
  have i2:gIx (strL ring) (.int (((i:Int)+1)%(ring.length:Int))) S=.ok (.str b) S:=by
   rw[em];have:atI (ring.map T.str) (((i+1)%ring.length:Nat):Int)=some (.str b):=zf0 (by rw[List.getElem?_map,eb];rfl);simp only[strL,z6w,this]
  have pos:(0:Int)<ring.length:=by omega
  have iss:gIsa .str (.str a) S=.ok (.bl true) S:=rfl;have ez:(0:Int)+(i:Int)=i:=by omega
  rw[ez];refine⟨_,rfl,[some (strL ring),some (.lst (prs.map zak)),some (.int ring.length),some (.int i)],?_,_,rfl⟩;have ln:=ln S;show zcz c [some (strL ring),some (.lst (prs.map zak)),some (.int ring.length),some (.int i)] S=_;generalize strL ring=R at i1 i2 ln ⊢;generalize prs.map zak=PL at np ⊢;generalize (ring.length:Int)=q at i2 ln pos ⊢;simp[zcz,i1,iss,ln,pos,i2,np])
 unfold zb3;refine zrv (ρ:=[some (strL ring),some (.lst (prs.map zak)),some (.int ring.length),none]) rfl ?_;unfold zg8;have e0:(sIf (tOrD (zo9 (tru (e1 (gIsa .list) (eVar 0)))) (tOrD (tst (e2 gNe (e1 gLen (eVar 0)) (eVar 2))) (tst (e2 gNe (e1 zjl (eVar 0)) (e1 gLen (eVar 0)))))) (sRet (eC (.bl false))) sNx) [some (strL ring),some (.lst (prs.map zak)),some (.int ring.length),none] S=.ok (.nx [some (strL ring),some (.lst (prs.map zak)),some (.int ring.length),none]) S:=by
  have ln:=ln S;have il:=il S;generalize strL ring=R at ls ln il ⊢;simp[il,ln,ls]
 rw[zmd e0,zmd ((ztf hit).trans e)];rfl
theorem ap4(nd:[c.ring,c.barred,c.deedFault].Nodup):c.ring≠c.barred/\c.ring≠c.deedFault:=by
 simp at nd;exact⟨nd.1.1,nd.1.2⟩
theorem zqh(nd:[c.ring,c.barred,c.deedFault].Nodup){h:Nat}{ring:List Str}{S':Sto}(e:zey c [.obj h,.str "hub"] S=.exc c.ring (some [("ring",strL ring)]) S'):za8 c [.obj h] S=.ok (.str "ring") (S'++[.exc c.ring (some [("ring",strL ring)])]):=by
 obtain⟨n1,n2⟩:=ap4 nd;have e2:subH [c.ring,c.barred,c.deedFault] c.ring=some true:=by simp[subH]
 have e3:subL [c.ring] c.ring c.ring=some true:=by simp[subL]
 have e4:subH [c.ring] c.ring=some true:=by simp[subH]
 have e5:subL [c.ring] c.barred c.ring=some false:=by simp[subL,n1]
 have e6:subL [c.ring] c.deedFault c.ring=some false:=by simp[subL,n2]
 have g:(S'++[Cell.exc c.ring (some [("ring",strL ring)])])[S'.length]?=some (.exc c.ring (some [("ring",strL ring)])):=by simp
 have b2:zfo c [some (.obj h),some .non,some (.obj S'.length)] (S'++[.exc c.ring (some [("ring",strL ring)])])=.ok (.nx [some (.obj h),some (.str "ring"),some (.obj S'.length)]) (S'++[.exc c.ring (some [("ring",strL ring)])]):=by
  simp[zfo,gIsX,g,e3,e4,e5,e6]
 simp[za8,zgw,zd8,e,hdAs,e2,msk,b2,zzy,MF.unI]
theorem zqi{h:Nat}{t:T}{S':Sto}(e:zey c [.obj h,.str "hub"] S=.ok t S'):za8 c [.obj h] S=.ok .non S':=by
 simp[za8,zgw,zd8,e]
theorem z35{h:Nat}{ring:List Str}{S':Sto}(e:zey c [.obj h,.str "hub"] S=.exc c.ring (some [("ring",strL ring)]) S'):zdc c [.obj h] S=.ok (strL ring) (S'++[.exc c.ring (some [("ring",strL ring)])]):=by
 have e2:subL [c.ring,c.barred,c.deedFault] c.ring c.ring=some true:=by simp[subL]
 have g:(S'++[Cell.exc c.ring (some [("ring",strL ring)])])[S'.length]?=some (.exc c.ring (some [("ring",strL ring)])):=by simp
 generalize strL ring=R at e g ⊢;have b2:zfq c [some (.obj h),some .non,some (.obj S'.length)] (S'++[.exc c.ring (some [("ring",R)])])=.ok (.nx [some (.obj h),some R,some (.obj S'.length)]) (S'++[.exc c.ring (some [("ring",R)])]):=by
  simp[zfq,gXat,g,List.lookup_cons]
 simp[zdc,zi4,zfp,e,hdAs,e2,msk,b2,zzy,MF.unI]
end DN
namespace DN
open PySem L2 MF
variable {c:Cl}{S:Sto}
theorem z36{ρ:Ev}(fl fi fv:DE):z26 fl fi fv ρ S=(fv ρ).bind (fun t=>(fl ρ).bind fun l=>(fi ρ).bind fun i=>fun S=>match l,i with
 | .obj j,.int n=>(match S[j]? with
   | some (.lst ts)=>(match ixN ts.length n with
     |some m=>.ok (.nx ρ) (S.set j (.lst (ts.set m t)))
     |none=>.bad)
   |_=>.bad)
 |_,_=>.bad) S:=rfl
theorem z37{n j:Nat}(h:j<n):ixN n (j:Int)=some j:=by
 unfold ixN;rw[if_pos (by omega),if_pos (by omega),Int.toNat_natCast]
def Pc.hubd(p:Pc):Pc:={ p with pl := "hub",on:=true }
def Pc.more(p:Pc)(x:Str):Pc:={ p with w0:=p.w0++[x] }
theorem z7z{ps:List Pc}(hl:ps.length<=13){t0 t1 t3 t4 t5 t6 t7 t8 t9 t10:Option T}:zef 1 [] (zgy c) (zaw 0) yesD (zgx c) finC [t0,t1,some (.lst (ps.map Pc.t)),t3,t4,t5,t6,t7,t8,t9,t10] S=.ok (.obj S.length) (S++[.lst ((ps.map Pc.hubd).map Pc.t)]):=by
 have cc:=zuq (ρ:=[t0,t1,some (.lst (ps.map Pc.t)),t3,t4,t5,t6,t7,t8,t9,t10]) (S:=S) (js:=[]) (it:=zgy c) (te:=zgx c) (ts:=ps.map Pc.t) (st:=fun S'=>zal S' (.lst (ps.map Pc.t))=some (ps.map Pc.t))
  (f:=fun t=>match t with|.tup [a,_,d,w,_]=>.tup [a,.str "hub",d,w,.bl true] | _=>.non)
  (by simp[zgy]) rfl (by simp;omega) (fun t ht=>by
   obtain⟨p,_,rfl⟩:=List.mem_map.mp ht;simp[zgx,Pc.t])
 rw[cc];simp only[List.map_map];rfl
def ups(qs:List Pc)(size j:Nat):List Pc:=qs.mapIdx fun i p=>if i<j then p.more ((qs[(i+1)%size]?.map (·.nm)).getD Str.empty) else p
theorem z0q(qs:List Pc)(size:Nat):ups qs size 0=qs:=by
 unfold ups;apply List.ext_getElem?;intro i;rw[List.getElem?_mapIdx];cases qs[i]?<;>simp
theorem zlw{qs:List Pc}{size j i:Nat}{p:Pc}(h:qs[i]?=some p):(ups qs size j)[i]?=some (if i<j then p.more ((qs[(i+1)%size]?.map (·.nm)).getD Str.empty) else p):=by
 unfold ups;rw[List.getElem?_mapIdx,h];rfl
theorem z38{qs:List Pc}{size j:Nat}{p r:Pc}(h:qs[j]?=some p)(hr:qs[(j+1)%size]?=some r):((ups qs size j).map Pc.t).set j (p.more r.nm).t=(ups qs size (j+1)).map Pc.t:=by
 have hj:j<qs.length:=(List.getElem?_eq_some_iff.mp h).1;apply List.ext_getElem?;intro i;rw[List.getElem?_set];have hlen:((ups qs size j).map Pc.t).length=qs.length:=by simp[ups]
 by_cases e:j=i
 ·subst e
  rw[if_pos rfl,hlen,if_pos hj,List.getElem?_map,zlw h,if_pos (by omega),hr];rfl
 ·rw[if_neg e,List.getElem?_map,List.getElem?_map]
  cases hi:qs[i]? with
  | none=>
    unfold ups;rw[List.getElem?_mapIdx,List.getElem?_mapIdx,hi];rfl
  | some q=>
    rw[zlw hi,zlw hi];by_cases z:i<j
    ·rw[if_pos z,if_pos (by omega)]
    ·rw[if_neg z,if_neg (by omega)]
theorem zyw(qs:List Pc)(size j:Nat):(ups qs size j).length=qs.length:=by simp[ups]
theorem z70(qs:List Pc)(size j:Nat):(ups qs size j).map (·.nm)=qs.map (·.nm):=by
 apply List.ext_getElem?;intro i;rw[List.getElem?_map,List.getElem?_map];cases hi:qs[i]? with
 | none=>
   unfold ups;rw[List.getElem?_mapIdx,hi];rfl
 | some q=>
   rw[zlw hi]
   split<;>rfl
theorem z39{qs:List Pc}{size j:Nat}{p:Pc}(h:p∈ups qs size j):∃q∈qs,p=q\/∃x,p=q.more x:=by
 obtain⟨i,hi⟩:=List.getElem?_of_mem h;cases hq:qs[i]? with
 | none=>
   unfold ups at hi;rw[List.getElem?_mapIdx,hq] at hi;cases hi
 | some q=>
   rw[zlw hq] at hi;refine⟨q,List.mem_of_getElem? hq,?_⟩
   split at hi
   ·exact .inr ⟨_,(Option.some.inj hi).symm⟩
   ·exact .inl (Option.some.inj hi).symm
theorem zyx{qs:List Pc}{size j k:Nat}{t0 t1 t2 x5 x6 x7 t8 t9 t10:Option T}(hk:S[k]?=some (.lst ((ups qs size j).map Pc.t)))(hj:j<size)(hs:size<=qs.length)(hw:∀p∈qs,p.w0.length<=2)(hpl:∀p∈qs,p.pl = "hub" /\ p.on=true)(hl:qs.length<=13) :
  ∃x6' x7',zc6 c [t0,t1,t2,some (.obj k),some (.int size),some (.int j),x6,x7,t8,t9,t10] S=.ok (.nx [t0,t1,t2,some (.obj k),some (.int size),some (.int j),x6',x7',t8,t9,t10]) (S.set k (.lst ((ups qs size (j+1)).map Pc.t))):=by
 have hjl:j<qs.length:=by omega
 have hrl:(j+1)%size<qs.length:=Nat.lt_of_lt_of_le (Nat.mod_lt _ (by omega)) hs;obtain⟨p,hp⟩:∃p,qs[j]?=some p:=⟨_,List.getElem?_eq_getElem hjl⟩;obtain⟨r,hr⟩:∃r,qs[(j+1)%size]?=some r:=⟨_,List.getElem?_eq_getElem hrl⟩;have pm:=List.mem_of_getElem? hp;have up:(ups qs size j)[j]?=some p:=by rw[zlw hp,if_neg (by omega)]
 obtain⟨r',ur,rn⟩:∃r',(ups qs size j)[(j+1)%size]?=some r'/\r'.nm=r.nm:=by
  rw[zlw hr];refine⟨_,rfl,?_⟩
  split<;>rfl
 have sq:zdl S (.obj k)=some ((ups qs size j).map Pc.t):=zyh (zfv hk);have i1:gIx (.obj k) (.int j) S=.ok p.t S:=by
  have:atI ((ups qs size j).map Pc.t) (j:Int)=some p.t:=zf0 (by rw[List.getElem?_map,up];rfl);simp only[gIx,sq,this]
 have em:((j:Int)+1)%(size:Int)=(((j+1)%size:Nat):Int):=by rw[Int.natCast_emod,Int.natCast_add];rfl
 have i2:gIx (.obj k) (.int (((j:Int)+1)%(size:Int))) S=.ok r'.t S:=by
  rw[em];have:atI ((ups qs size j).map Pc.t) (((j+1)%size:Nat):Int)=some r'.t:=zf0 (by rw[List.getElem?_map,ur];rfl);simp only[gIx,sq,this]
 have p0:gIx p.t (.int 0) S=.ok (.str p.nm) S:=by simp[Pc.t]
 have p2:gIx p.t (.int 2) S=.ok p.dd S:=by simp[Pc.t]
 have p3:gIx p.t (.int 3) S=.ok (.lst [strL p.w0,strL p.w1,strL p.w2,strL p.w3]) S:=by simp[Pc.t]
 have r0:gIx r'.t (.int 0) S=.ok (.str r.nm) S:=by rw[<- rn];simp[Pc.t]
 have pos:(0:Int)<size:=by omega
 have cut:cutT [strL p.w0,strL p.w1,strL p.w2,strL p.w3] (some 1) none=[strL p.w1,strL p.w2,strL p.w3]:=rfl;have ga:gAdd (strL p.w0) (.lst [.str r.nm]) S=.ok (strL (p.w0++[r.nm])) S:=by
  have w:=hw p pm;simp only[strL,z1l,List.length_map,List.length_singleton];rw[if_pos (by omega)];simp
 have pt:(p.more r.nm).t=.tup [.str p.nm,.str "hub",p.dd,.lst [strL (p.w0++[r.nm]),strL p.w1,strL p.w2,strL p.w3],.bl true]:=by
  obtain⟨h1,h2⟩:=hpl p pm;simp[Pc.more,Pc.t,h1,h2]
 have st:=z38 hp hr;rw[pt] at st;have ixn:ixN ((ups qs size j).map Pc.t).length (j:Int)=some j:=by
  rw[List.length_map,zyw];exact z37 hjl
 refine⟨some (.lst [strL p.w0,strL p.w1,strL p.w2,strL p.w3]),some (strL (p.w0++[r.nm])),?_⟩;rw[<- st];generalize (ups qs size j).map Pc.t=UL at hk ixn;generalize (size:Int)=z at i2 pos ⊢;simp[zc6,z36,i1,p3,i2,r0,pos,ga,p0,p2,eSl,z3e,z3f,cut,hk,ixn]
theorem zyy{qs:List Pc}{size k:Nat}{t0 t1 t2 t8 t9 t10:Option T}(hk:S[k]?=some (.lst (qs.map Pc.t)))(hs:size<=qs.length)(hw:∀p∈qs,p.w0.length<=2)(hpl:∀p∈qs,p.pl = "hub" /\ p.on=true)(hl:qs.length<=13) :
  ∃x5 x6 x7,sFor (iR1 (zac (eVar 4) aNil)) (zaw 5) (zc6 c) [t0,t1,t2,some (.obj k),some (.int size),none,none,none,t8,t9,t10] S=.ok (.nx [t0,t1,t2,some (.obj k),some (.int size),x5,x6,x7,t8,t9,t10]) (S.set k (.lst ((ups qs size size).map Pc.t))):=by
 have klt:k<S.length:=(List.getElem?_eq_some_iff.mp hk).1;obtain⟨ρ',S',e,⟨x5,x6,x7,rfl⟩,hS⟩:=zji (ρ:=[t0,t1,t2,some (.obj k),some (.int size),none,none,none,t8,t9,t10]) (S:=S) (it:=iR1 (zac (eVar 4) aNil)) (g:=zaw 5) (body:=zc6 c) (ts:=zeu 0 size) (st:=fun _=>True) (S1:=S)
  (fun pre ρ S'=>(∃x5 x6 x7,ρ=[t0,t1,t2,some (.obj k),some (.int size),x5,x6,x7,t8,t9,t10])/\S'=S.set k (.lst ((ups qs size pre.length).map Pc.t)))
  (by
   have:-1000000<=(size:Int)/\(size:Int)<=1000000:=by omega
   simp[this]) ⟨⟨_,_,_,rfl⟩,by
   rw[List.length_nil,z0q];apply List.ext_getElem?;intro j;by_cases h:j=k
   ·subst h;rw[zdm hk,hk]
   ·rw[zae (Ne.symm h)]⟩ (fun pre t post ρ S' hsp ⟨⟨x5,x6,x7,hρ⟩,hS⟩=>by
   subst hρ;obtain⟨hlt,rfl⟩:=zim hsp;have hk':S'[k]?=some (.lst ((ups qs size pre.length).map Pc.t)):=by rw[hS];exact zdm hk
   obtain⟨x6',x7',eb⟩:=zyx (c:=c) (t0:=t0) (t1:=t1) (t2:=t2) (x5:=x5) (x6:=x6) (x7:=x7) (t8:=t8) (t9:=t9) (t10:=t10) hk' hlt hs hw hpl hl;refine⟨trivial,_,rfl,_,_,eb,⟨_,_,_,rfl⟩,?_⟩;rw[hS,List.set_set,List.length_append,List.length_singleton]) (fun _ _ _=>trivial)
 rw[zfg] at hS;subst hS;exact⟨x5,x6,x7,e⟩
end DN
namespace DN
open PySem L2 MF
variable {c:Cl}{S:Sto}
def z0r(c:Cl):DS:=(sSeq (sIf (tst (e2 zhj (zbd (lenF 2 (zc5 c)) [] (zac (eVar 9) (zac (eVar 10) aNil))) (eC .non))) (sRet (e2 gIs (zbd (lenF 1 (za8 c)) [] (zac (eVar 8) aNil)) (eC .non))) sNx) (sSeq (sIf (tst (e2 gNe (zbd (lenF 1 (za8 c)) [] (zac (eVar 8) aNil)) (eC (.str "ring")))) (sRet (eC (.bl false))) sNx) (sRet (zbd (lenF 3 (zb3 c)) [] (zac (zbd (lenF 1 (zdc c)) [] (zac (eVar 8) aNil)) (zac (eVar 10) (zac (zbd (lenF 2 (zdw c)) [] (zac (eVar 9) (zac (eVar 10) aNil))) aNil)))))))
def mid4(c:Cl):DS:=(sSeq (sSet 8 (zbd (lenF 3 (ze4 c)) [] (zac (eVar 3) (zac (eC (.str "chain")) (zac (eC (.str "hand")) aNil))))) (sSeq (sSet 9 (zbd (lenF 1 (zdv c)) [] (zac (eVar 3) aNil))) (sSeq (sSet 10 (zbd (lenF 2 (zfm c)) [] (zac (eVar 3) (zac (eVar 9) aNil)))) (z0r c))))
theorem z0s{names:List Str}{ps:List Pc}(hw:∀p∈ps,p.w0.length<=3/\p.w1.length<=2):(prsL names ps).length<=5*ps.length:=by
 induction ps with
 |nil=>simp[prsL]
 | cons p r ih=>
   have i:=ih fun q hq=>hw q (List.mem_cons_of_mem _ hq);have w:=hw p (List.mem_cons_self ..);have l1:(zp8 names p).length<=3:=by unfold zp8;rw[List.length_map];have:=List.length_filter_le (fun o=>decide (o∈names)) p.w0;omega
   have l2:(zp9 names p).length<=2:=by unfold zp9;rw[List.length_map];have:=List.length_filter_le (fun o=>decide (o∈names)) p.w1;omega
   unfold prsL at i ⊢;rw[List.flatMap_cons,List.length_append,List.length_cons]
   split
   ·rw[List.length_append];omega
   ·simp only[List.length_nil];omega
structure Four(qs:List Pc):Prop where
 nd:(qs.map (·.nm)).Nodup
 len:qs.length<=12
 hub:∀p∈qs,p.pl = "hub" /\ p.on=true
 w:∀p∈qs,p.w0.length<=3/\p.w1.length<=2/\p.w2.length<=2/\p.w3.length<=2
 sm:∀p∈qs,(reprText p.nm).length<=30
 okn:∀p∈qs,okN p.nm
theorem Four.drw{qs:List Pc}(D:Four qs):Drw qs:=⟨D.nd,by have:=D.len;omega,fun p hp=>by have:=D.w p hp;omega,D.sm⟩
theorem z0t(nd4:[c.ring,c.barred,c.deedFault].Nodup){t0 t1 t2 t3 t4 t5 t6 t7:Option T}{h:Nat}{qs:List Pc}{hps:List HP}{pl:List PlM}{pm:PlM}(H:za4 c S h pl hps)(hq:pl.find? (fun p=>decide (p.nm=("hub" : Str)))=some pm)(hcore:hps.map HP.core=qs.map Pc.full)(D:Four qs) :
  ∃S',z0r c [t0,t1,t2,t3,t4,t5,t6,t7,some (.obj h),some (strL (hubN qs)),some (.lst ((prsL (hubN qs) qs).map zak))] S=.ok (.rt (.bl true)) S':=by
 have r:=z7u hcore D.nd;have nd:=z1w D.nd;have hl:=zyn qs;have dl:=D.len;have pl5:=z0s (names:=hubN qs) (ps:=qs) fun p hp=>by have:=D.w p hp;omega
 have okn:∀x∈hubN qs,okN x:=fun x hx=>by
  obtain⟨p,hp,rfl⟩:=zyo hx;exact D.okn p hp
 have okp:∀p∈prsL (hubN qs) qs,okN p.1/\okN p.2:=fun p hp=>⟨okn _ (r.sub p hp).1,okn _ (r.sub p hp).2⟩;have so:=(z7v hcore D.drw).toSecOk;have eo:=zru (c:=c) (S:=S) r okn (by omega) nd;obtain⟨o1,o2⟩:=zyr H hq hcore D.drw;cases q:topo (zf5 (hubN qs) (hps.filter hubH)) (hubN qs).length (hubN qs) [] with
 | some res=>
   rw[q] at eo;obtain⟨S1,e,-,-⟩:=o1 res q;have er:=zqi e;have eo:zc5 c [strL (hubN qs),.lst ((prsL (hubN qs) qs).map zak)] S=.ok (strL res) S:=eo;have ne:zhj (strL res) .non S=.ok (.bl true) S:=by simp[zhj,zk4,strL]
   refine⟨S1,?_⟩;generalize strL res=R at eo ne;generalize (prsL (hubN qs) qs).map zak=RL at eo ⊢;generalize strL (hubN qs)=NL at eo ⊢;simp[z0r,eo,ne,er,gIs,zk4]
 | none=>
   rw[q] at eo;have eo:zc5 c [strL (hubN qs),.lst ((prsL (hubN qs) qs).map zak)] S=.ok .non S:=eo;obtain⟨S1,ring,e,k1,sh⟩:=o2 q;have er:=zqh nd4 e;have k2:∀j,j<S.length->(S1++[Cell.exc c.ring (some [("ring",strL ring)])])[j]?=S[j]?:=fun j hj=>by
    have:=k1 j hj;rw[List.getElem?_eq_getElem hj] at this ⊢;exact zbr this
   generalize hS2:S1++[Cell.exc c.ring (some [("ring",strL ring)])]=S2 at er k2;have H2:=H.keep k2;obtain⟨-,o3⟩:=zyr H2 hq hcore D.drw;obtain⟨S3,ring2,e3,-,sh2⟩:=o3 q;have eg:=z35 e3;generalize hS4:S3++[Cell.exc c.ring (some [("ring",strL ring2)])]=S4 at eg;obtain⟨s,hs,rk,rl,rmin⟩:=zur so sh2;have rne:1<=ring2.length:=by
    have:=sh2.ne;cases ring2 with
    |nil=>exact absurd rfl this
    |cons _ _=>simp
   have ef:=z0o (c:=c) (S:=S4) r so.sub (by omega) (by omega) rne rl hs rk.wk rmin;have rsub:∀x∈ring2,x∈hubN qs:=by
    obtain⟨n,hn,e⟩:=sh2.of;rw[e];exact(zoa so hn).1
   have rr:=zqg (c:=c) (S:=S4) r okp rk rsub (by omega);refine⟨S4,?_⟩;generalize (ring2.length:Int)=L at ef rr;generalize strL ring2=R2 at eg rr;generalize (prsL (hubN qs) qs).map zak=RL at eo ef rr ⊢;generalize strL (hubN qs)=NL at eo ef ⊢;unfold z0r;have i1:sIf (tst (e2 zhj (zbd (lenF 2 (zc5 c)) [] (zac (eVar 9) (zac (eVar 10) aNil))) (eC .non))) (sRet (e2 gIs (zbd (lenF 1 (za8 c)) [] (zac (eVar 8) aNil)) (eC .non))) sNx [t0,t1,t2,t3,t4,t5,t6,t7,some (.obj h),some NL,some (.lst RL)] S=.ok (.nx [t0,t1,t2,t3,t4,t5,t6,t7,some (.obj h),some NL,some (.lst RL)]) S:=by
    simp[eo,zhj,zk4]
   have i2:sIf (tst (e2 gNe (zbd (lenF 1 (za8 c)) [] (zac (eVar 8) aNil)) (eC (.str "ring")))) (sRet (eC (.bl false))) sNx [t0,t1,t2,t3,t4,t5,t6,t7,some (.obj h),some NL,some (.lst RL)] S=.ok (.nx [t0,t1,t2,t3,t4,t5,t6,t7,some (.obj h),some NL,some (.lst RL)]) S2:=by
    simp[er]
   rw[zmd i1,zmd i2];exact z7y (zrw (zjy (zrw (zjy rfl rfl) rfl eg) (zjy rfl (zjy (zrw (zjy rfl (zjy rfl rfl)) rfl ef) rfl))) rfl rr)
theorem z4a(nd4:[c.ring,c.barred,c.deedFault].Nodup){t0 t1 t2 t4 t5 t6 t7:Option T}{k:Nat}{qs:List Pc}(hk:S[k]?=some (.lst (qs.map Pc.t)))(D:Four qs) :
  ∃S',mid4 c [t0,t1,t2,some (.obj k),t4,t5,t6,t7,none,none,none] S=.ok (.rt (.bl true)) S':=by
 have dl:=D.len;have sv:=zp7 hk;obtain⟨S1,hps,eH,H,hcore,kp⟩:=zrt (c:=c) (kind := "chain") (rule := "hand") sv D.nd (by omega) (fun p hp=>.inl (D.hub p hp).1) (fun p hp=>by have:=D.w p hp;omega);have hk1:S1[k]?=some (.lst (qs.map Pc.t)):=by rw[kp k (List.getElem?_eq_some_iff.mp hk).1];exact hk
 have sv1:=zp7 hk1;have a1:=zyk (c:=c) (S:=S1) (ps:=qs) (sv1.now) (by omega);have a2:=zqb (c:=c) (S:=S1) (ps:=qs) (names:=hubN qs) sv1 (by omega) (fun p hp=>by have:=D.w p hp;omega);obtain⟨S',et⟩:=z0t (c:=c) (t0:=t0) (t1:=t1) (t2:=t2) (t3:=some (.obj k)) (t4:=t4) (t5:=t5) (t6:=t6) (t7:=t7) nd4 H (pm:=⟨"hub", "chain", "hand",S.length+3⟩) (by simp[zg5]) hcore D;refine⟨S',?_⟩;generalize (prsL (hubN qs) qs).map zak=RL at a2 et;generalize strL (hubN qs)=NL at a1 a2 et;simp[mid4,eH,a1,a2,et]
theorem zyz{ps:List Pc}(D:Drawn ps)(hl:ps.length<=12)(sm:∀p∈ps,(reprText p.nm).length<=30):Four (ps.map Pc.hubd):=by
 refine⟨?_,by simpa using hl,fun p hp=>?_,fun p hp=>?_,fun p hp=>?_,fun p hp=>?_⟩
 ·rw[List.map_map];exact D.nd
 all_goals obtain⟨q,hq,rfl⟩:=List.mem_map.mp hp
 ·exact⟨rfl,rfl⟩
 ·have:=D.w q hq
  exact⟨Nat.le_trans this.1 (by decide),this.2⟩
 ·exact sm q hq
 ·exact D.okn q hq
theorem z0u{qs:List Pc}(D:Four qs)(hw:∀p∈qs,p.w0.length<=2)(size j:Nat):Four (ups qs size j):=by
 refine⟨by rw[z70];exact D.nd,by rw[zyw];exact D.len,fun p hp=>?_,fun p hp=>?_,fun p hp=>?_,fun p hp=>?_⟩
 all_goals obtain⟨q,hq,e⟩:=z39 hp
 ·rcases e with rfl | ⟨x,rfl⟩
  ·exact D.hub _ hq
  ·exact D.hub q hq
 ·have:=D.w q hq
  have:=hw q hq;rcases e with rfl | ⟨x,rfl⟩
  ·omega
  ·simp[Pc.more];omega
 ·rcases e with rfl | ⟨x,rfl⟩
  ·exact D.sm _ hq
  ·exact D.sm q hq
 ·rcases e with rfl | ⟨x,rfl⟩
  ·exact D.okn _ hq
  ·exact D.okn q hq
theorem law4(nd4:[c.ring,c.barred,c.deedFault].Nodup)(ns:List Int):zpr c [.lst (ns.map .int)] []=.ok (.bl true) []:=by
 have h0:=Int.emod_nonneg (cellAt ns 0) (show(13:Int)≠0 by decide);have h1:=Int.emod_lt_of_pos (cellAt ns 0) (show(0:Int)<13 by decide);have D:=drawn ns 2 (cellAt ns 0%13) h0 (by omega);have sm:=z0n ns 2 (cellAt ns 0%13) h0 (by omega);have eP:=z0d (c:=c) (S:=[]) ns 2 (cellAt ns 0%13) (by decide) h0 (by omega);have c0:=zxs (c:=c) (S:=[]) ns 0 (by decide);have pl:((pcs ns 2 (cellAt ns 0%13)).length:Int)=cellAt ns 0%13:=by simp[pcs];omega
 generalize pcs ns 2 (cellAt ns 0%13)=ps at D eP sm pl;generalize hmany:cellAt ns 0%13=many at h0 h1 eP pl c0;have dl:ps.length<=12:=by omega
 have hb:=z7z (c:=c) (S:=[]) (ps:=ps) D.len (t0:=some (.lst (ns.map .int))) (t1:=some (.int many)) (t3:=none) (t4:=none) (t5:=none) (t6:=none) (t7:=none) (t8:=none) (t9:=none) (t10:=none);have F0:=zyz D dl sm;have w0:∀p∈ps.map Pc.hubd,p.w0.length<=2:=fun p hp=>by
  obtain⟨q,hq,rfl⟩:=List.mem_map.mp hp;exact(D.w q hq).1
 have ql:(ps.map Pc.hubd).length=ps.length:=by simp
 have c1:∀S,za0 c [.lst (ns.map .int),.int 1] S=.ok (.int (cellAt ns 1)) S:=fun S=>zxs ns 1 (by decide);have q0:=Int.emod_nonneg (cellAt ns 1 / 2) (show(11:Int)≠0 by decide);obtain⟨size,hsize⟩:∃size:Nat,(size:Int)=2+cellAt ns 1 / 2%11:=⟨(2+cellAt ns 1 / 2%11).toNat,by omega⟩;generalize ps.map Pc.hubd=qs at hb F0 w0 ql;generalize ps.map Pc.t=PL at eP hb;generalize ns.map T.int=NS at c0 c1 eP hb ⊢;have run:∃S',zi5 c [some (.lst NS),none,none,none,none,none,none,none,none,none,none] []=.ok (.rt (.bl true)) S':=by
  have c2:=c1 [.lst (qs.map Pc.t)];have fin:∀{us:List Pc} {x5 x6 x7:Option T},Four us->∃S',mid4 c [some (.lst NS),some (.int many),some (.lst PL),some (.obj 0),some (.int size),x5,x6,x7,none,none,none] [.lst (us.map Pc.t)]=.ok (.rt (.bl true)) S':=fun F=>z4a nd4 rfl F;have go:∀{R:MF.R Fl},(sSeq (sIf (znk (tst (e2 gEq (e2 (gI fMod) (zbd (lenF 2 (za0 c)) [] (zac (eVar 0) (zac (eC (.int 1)) aNil))) (eC (.int 2))) (eC (.int 1)))) (tst (e2 (gI fLe) (eVar 4) (eVar 1)))) (sFor (iR1 (zac (eVar 4) aNil)) (zaw 5) (zc6 c)) sNx) (mid4 c)) [some (.lst NS),some (.int many),some (.lst PL),some (.obj 0),some (.int size),none,none,none,none,none,none] [.lst (qs.map Pc.t)]=R->zi5 c [some (.lst NS),none,none,none,none,none,none,none,none,none,none] []=R:=fun h=>by
   unfold zi5;refine(zmd (ztg (t:=.int many) (S1:=[]) (by simp[c0,hmany]))).trans ?_;refine(zmd (ztg (t:=.lst PL) (S1:=[]) (by simp[eP]))).trans ?_;refine(zmd (ztg hb)).trans ?_;refine(zmd (ztg (t:=.int size) (S1:=[.lst (qs.map Pc.t)]) (by rw[hsize];simp[c2]))).trans ?_;exact h
  by_cases hc:cellAt ns 1%2=1/\(size:Int)<=many
  ·obtain⟨x5,x6,x7,el⟩:=zyy (c:=c) (S:=[.lst (qs.map Pc.t)]) (k:=0) (size:=size) (t0:=some (.lst NS)) (t1:=some (.int many)) (t2:=some (.lst PL)) (t8:=none) (t9:=none) (t10:=none) rfl (by omega) w0 F0.hub (by omega)
   obtain⟨S',em⟩:=fin (x5:=x5) (x6:=x6) (x7:=x7) (z0u F0 w0 size size);refine⟨S',go ((zmd (.trans ?_ el)).trans em)⟩;generalize sFor (iR1 (zac (eVar 4) aNil)) (zaw 5) (zc6 c)=LP;simp[c2,hc.1,hc.2]
  ·obtain⟨S',em⟩:=fin (x5:=none) (x6:=none) (x7:=none) F0
   refine⟨S',go ((zmd ?_).trans em)⟩;generalize sFor (iR1 (zac (eVar 4) aNil)) (zaw 5) (zc6 c)=LP;by_cases ha:cellAt ns 1%2=1
   ·have hb2:¬(size:Int)<=many:=fun q=>hc ⟨ha,q⟩
    simp[c2,ha,hb2]
   ·simp[c2,ha]
 obtain⟨S',e⟩:=run;exact zk8 (S':=S') (zrv rfl e) rfl (z86 _ _)
end DN
namespace K04
open PySem L2 MF DN
local macro_rules | `(tactic| walk_at "1") => `(tactic| (intro _ _ _ _ _ _ us hl; obtain ⟨a0, e⟩ := len1 hl; subst e; rfl))
local macro_rules | `(tactic| walk_at "2") => `(tactic| (intro _ _ _ _ _ _ us hl; obtain ⟨a0, a1, e⟩ := len2 hl; subst e; rfl))
local macro_rules | `(tactic| walk_at "3") => `(tactic| (intro _ _ _ _ _ _ us hl; obtain ⟨a0, a1, a2, e⟩ := len3 hl; subst e; rfl))
local macro_rules | `(tactic| walk_at "4") => `(tactic| (intro _ _ _ _ _ _ us hl; obtain ⟨a0, a1, a2, a3, e⟩ := len4 hl; subst e; rfl))
theorem zme{K:W.Frag}{T:Addr}{oc:Value}{od an:Option Addr}{sl:Array (Option Value)}{n:Nat}{kV dc pm cd ct:Value}(l:K.lookup T=some ⟨oc,od,.seq #[.none] n,sl⟩):zf6 K (W.fnOf "hang" "Hall.hang" (zaq zbo) (zao zbo) (zab zbo) (.ref T) kV dc pm an cd ct) ["self", "name", "place", "deed", "by"] []:=fun s us X hl=>by
 obtain⟨_,_,_,_,_,rfl⟩:=len5 (show us.length=5 by simpa using hl);exact W.binds_K X rfl l rfl rfl rfl
theorem zmf{K:W.Frag}{T:Addr}{oc:Value}{od an:Option Addr}{sl:Array (Option Value)}{n:Nat}{kV dc pm cd ct:Value}(l:K.lookup T=some ⟨oc,od,.seq #[.none] n,sl⟩):zf6 K (W.fnOf "hang" "Hall.hang" (zaq zbo) (zao zbo) (zab zbo) (.ref T) kV dc pm an cd ct) ["self", "name", "place", "deed", "by"] [.none]:=fun s us X hl=>by
 obtain⟨_,_,_,_,rfl⟩:=len4 (show us.length=4 by simpa using hl);exact W.binds_K X rfl l rfl rfl rfl
theorem zmg{K:W.Frag}{T:Addr}{oc:Value}{od an:Option Addr}{sl:Array (Option Value)}{n:Nat}{kV dc pm cd ct:Value}(l:K.lookup T=some ⟨oc,od,.seq #[.none,.none,.none,.none] n,sl⟩):zf6 K (W.fnOf "wish" "Hall.wish" (zaq zcp) (zao zcp) (zab zcp) (.ref T) kV dc pm an cd ct) ["self", "name", "ahead", "behind", "needs", "bars"] []:=fun s us X hl=>by
 obtain⟨_,_,_,_,_,_,rfl⟩:=len6 (show us.length=6 by simpa using hl);exact W.binds_K X rfl l rfl rfl rfl
theorem all_mk{l:W.OpenLaw}{w:World}{K:W.Frag}{h:Heap}{mg:Str->Option Value}{fa:Addr}{yq yj y0b yg y1k y2l y2k y2h y01 y26 y04 y4b y6a y69 y6f y54 y27 y1s y1d y1j y1h y1r y2y y5s yak y2q y5o y2s y6q y59 y5y y6u y5t y5a y35 y3u y3b y11 y4h y5w y4e y45 y2w y4c y58 y44 y4:Addr}{yd3 yd9 yg9 ygq yfs yfx yh0 yfz ydm yea y9q ya0 y8o y8m y7a y71 y7i y77 y6x y7b y8x y82 yf4 y7v ydt yhw yhk yf2 y7r ydk yd4 ycn yg1 yh3 ydp ye2 yfj yff yg0 ygv yew yex ydn yeh y9w y9y yaz yap ya4 y9g y9k ya1 yc4 ycl yha yhe yan ybd ycq ycc y8q y90 ycf ych yec yet yc2 yby yf y8:Option Addr}{ycw ygf ygi yfw yef y9u y8y y72 y73 y76 y8w yfi ydv yht yfb ydz yci ygl ydc yf1 yh5 yey ydg y97 yag y9i yad ybx yhb yal ycb y8u yd1 ye3 ycv yd:Array (Option Value)}{yc7 ycm yda ybw y65 ybv ygh ygj ygg yfy y9l ygr yh1 ygy yg3 yg8 y92 ygs yge ygk yga ygm y9x ygo yep ydj ye8 ydb y6o ydy y99 y94 y9c y9a y4q y9h y8v y8l y84 y8t y4i y81 y6w y7h y79 y75 y40 y7c y7k y7g y7j y7f y3y y7d y78 y6y y70 y74 y3z y7e y8b y86 y8n y8a y4d y89 yfl y7u y7y y7x y5b y7l ydi yhl yhp yhs yhu yei yhx yf8 y7t y7w y7q y4v y7m yee yc9 ybz yd7 yd5 y62 yca ygc ygp ygn yg5 yaa yg6 ye7 yer ydo ydq y6t yem yfm yfd yez yf0 y80 yfn ygu ygx yg2 ygw ya5 ygd yf7 yev yf9 yfp y7s yfg yeq yed yek ydx y6j yen yae y9f ya3 y9d y4p y9b ybi ybh ybj ybk y5j yb8 y9r y9n y98 yab y4m ya9 y9o y93 y9s y9v y4n ya7 yc3 yck ycp ycy y64 ycj yhh yhf yhd yhg ybp yh7 yax yah yas yaj y5i yb5 yd2 yct ycx ycg y61 ycr y83 y8i y8g y8h y4j y8j yc8 yc5 yc0 ybu y60 ycd yej ydh ye1 yes y67 yeg ycu ycz yc1 yd8 y63 yd0 ye yc yb y9 y5 ya:Value}{ybg yb1:Tok}{yf6 yf5:Nat}
  (X:K.In h) (G:h.Ns mainGlobals mg) (hfa:mg "law" = some (.ref fa))
  (ydl:W.nsIn K mainGlobals "Hall" = some (some (.ref yq)))
  (yaf:W.nsIn K mainGlobals "Piece" = some (some (.ref yj)))
  (yao:W.nsIn K mainGlobals "Place" = some (some (.ref y0b)))
  (y53:W.nsIn K mainGlobals "HallError" = some (some (.ref yg)))
  (y5e:W.nsIn K mainGlobals "NameThere" = some (some (.ref y1k)))
  (y6m:W.nsIn K mainGlobals "NoPlace" = some (some (.ref y2l)))
  (y6n:W.nsIn K mainGlobals "NoPiece" = some (some (.ref y2k)))
  (y6i:W.nsIn K mainGlobals "TooMany" = some (some (.ref y2h)))
  (ydu:W.nsIn K mainGlobals "Ring" = some (some (.ref y01)))
  (y8c:W.nsIn K mainGlobals "Barred" = some (some (.ref y26)))
  (y50:W.nsIn K mainGlobals "DeedFault" = some (some (.ref y04)))
  (y33:W.nsIn K mainGlobals "_law_cell_at" = some (some (.ref y4b)))
  (y1u:K.lookup y4b=some ⟨yc7,yd3,.func (W.fnOf "_law_cell_at" "_law_cell_at" (zaq zdd) (zao zdd) (zab zdd) .none ycm yda ybw yd9 y65 ybv),ycw⟩)
  (y0c:W.codeIn K y65 "_law_cell_at" = true)
  (yz:W.keepIn K (.ref y4b)=true)
  (y4s:W.nsIn K mainGlobals "_law_name" = some (some (.ref y6a)))
  (y3m:K.lookup y6a=some ⟨ygh,yg9,.func (W.fnOf "_law_name" "_law_name" (zaq ze6) (zao ze6) (zab ze6) .none ygj ygg yfy ygq y9l ygr),ygf⟩)
  (y24:W.codeIn K y9l "_law_name" = true)
  (y1c:W.keepIn K (.ref y6a)=true)
  (y6k:W.nsIn K mainGlobals "_law_some" = some (some (.ref y69)))
  (y3o:K.lookup y69=some ⟨yh1,yfs,.func (W.fnOf "_law_some" "_law_some" (zaq ze7) (zao ze7) (zab ze7) .none ygy yg3 yg8 yfx y92 ygs),ygi⟩)
  (y1y:W.codeIn K y92 "_law_some" = true)
  (y2p:W.keepIn K (.ref y69)=true)
  (y6l:W.nsIn K mainGlobals "_law_deed" = some (some (.ref y6f)))
  (y3n:K.lookup y6f=some ⟨yge,yh0,.func (W.fnOf "_law_deed" "_law_deed" (zaq ze8) (zao ze8) (zab ze8) .none ygk yga ygm yfz y9x ygo),yfw⟩)
  (y20:W.codeIn K y9x "_law_deed" = true)
  (y2n:W.keepIn K (.ref y6f)=true)
  (y4u:W.nsIn K mainGlobals "_law_pieces" = some (some (.ref y54)))
  (y2e:K.lookup y54=some ⟨yep,ydm,.func (W.fnOf "_law_pieces" "_law_pieces" (zaq zdx) (zao zdx) (zab zdx) .none ydj ye8 ydb yea y6o ydy),yef⟩)
  (y0x:W.codeIn K y6o "_law_pieces" = true)
  (y1p:W.keepIn K (.ref y54)=true)
  (y3c:W.findIn K (.ref yq) "__init__" = some (some (.ref y27)))
  (y39:W.isFn K (.ref y27)=true)
  (y17:K.lookup y27=some ⟨y99,y9q,.func (W.fnOf "__init__" "Hall.__init__" (zaq zce) (zao zce) (zab zce) .none y94 y9c y9a ya0 y4q y9h),y9u⟩)
  (yx:W.codeIn K y4q "Hall.__init__" = true)
  (y19:W.keepIn K (.ref y27)=true)
  (y31:W.findIn K (.ref y0b) "__init__" = some (some (.ref y1s)))
  (y2u:W.isFn K (.ref y1s)=true)
  (y0n:K.lookup y1s=some ⟨y8v,y8o,.func (W.fnOf "__init__" "Place.__init__" (zaq zb4) (zao zb4) (zab zb4) .none y8l y84 y8t y8m y4i y81),y8y⟩)
  (yn:W.codeIn K y4i "Place.__init__" = true)
  (y0q:W.keepIn K (.ref y1s)=true)
  (y2g:W.findIn K (.ref yq) "open_place" = some (some (.ref y1d)))
  (y2i:W.isFn K (.ref y1d)=true)
  (y0g:K.lookup y1d=some ⟨y6w,y7a,.func (W.fnOf "open_place" "Hall.open_place" (zaq zbx) (zao zbx) (zab zbx) .none y7h y79 y75 y71 y40 y7c),y72⟩)
  (ym:W.codeIn K y40 "Hall.open_place" = true)
  (yu:W.keepIn K (.ref y1d)=true)
  (y1g:W.findIn K (.ref yq) "find_place" = some (some (.ref y1j)))
  (y1e:W.isFn K (.ref y1j)=true)
  (y08:K.lookup y1j=some ⟨y7k,y7i,.func (W.fnOf "find_place" "Hall.find_place" (zaq zby) (zao zby) (zab zby) .none y7g y7j y7f y77 y3y y7d),y73⟩)
  (yl:W.codeIn K y3y "Hall.find_place" = true)
  (yh:W.keepIn K (.ref y1j)=true)
  (ys:W.findIn K (.ref yq) "find_piece" = some (some (.ref y1h)))
  (yw:W.isFn K (.ref y1h)=true)
  (y0i:K.lookup y1h=some ⟨y78,y6x,.func (W.fnOf "find_piece" "Hall.find_piece" (zaq zbz) (zao zbz) (zab zbz) .none y6y y70 y74 y7b y3z y7e),y76⟩)
  (yk:W.codeIn K y3z "Hall.find_piece" = true)
  (y6:W.keepIn K (.ref y1h)=true)
  (y2x:W.findIn K (.ref yj) "__init__" = some (some (.ref y1r)))
  (y2z:W.isFn K (.ref y1r)=true)
  (y0s:K.lookup y1r=some ⟨y8b,y8x,.func (W.fnOf "__init__" "Piece.__init__" (zaq zb5) (zao zb5) (zab zb5) .none y86 y8n y8a y82 y4d y89),y8w⟩)
  (yo:W.codeIn K y4d "Piece.__init__" = true)
  (y0p:W.keepIn K (.ref y1r)=true)
  (y5n:W.findIn K (.ref yq) "hang" = some (some (.ref y2y)))
  (y5q:W.isFn K (.ref y2y)=true)
  (y34:K.lookup y2y=some ⟨yfl,yf4,.func (W.fnOf "hang" "Hall.hang" (zaq zbo) (zao zbo) (zab zbo) (.ref y5s) y7u y7y y7x y7v y5b y7l),yfi⟩)
  (y0m:W.codeIn K y5b "Hall.hang" = true)
  (y28:W.keepIn K (.ref y2y)=true)
  (yy:K.lookup y5s=some ⟨ydi,ydt,.seq #[.none] yf6,ydv⟩)
  (ybf:W.nsIn K mainGlobals "wished" = some (some (.ref yak)))
  (y5g:K.lookup yak=some ⟨yhl,yhw,.func (W.fnOf "wished" "wished" (zaq zh6) (zao zh6) (zab zh6) .none yhp yhs yhu yhk yei yhx),yht⟩)
  (y3a:W.codeIn K yei "wished" = true)
  (y41:W.keepIn K (.ref yak)=true)
  (y5u:W.findIn K (.ref yq) "wish" = some (some (.ref y2q)))
  (y5v:W.isFn K (.ref y2q)=true)
  (y2v:K.lookup y2q=some ⟨yf8,yf2,.func (W.fnOf "wish" "Hall.wish" (zaq zcp) (zao zcp) (zab zcp) (.ref y5o) y7t y7w y7q y7r y4v y7m),yfb⟩)
  (y0t:W.codeIn K y4v "Hall.wish" = true)
  (y25:W.keepIn K (.ref y2q)=true)
  (y03:K.lookup y5o=some ⟨yee,ydk,.seq #[.none,.none,.none,.none] yf5,ydz⟩)
  (y4g:W.findIn K (.ref yq) "switch" = some (some (.ref y2s)))
  (y43:W.isFn K (.ref y2s)=true)
  (y1t:K.lookup y2s=some ⟨yc9,yd4,.func (W.fnOf "switch" "Hall.switch" (zaq zde) (zao zde) (zab zde) .none ybz yd7 yd5 ycn y62 yca),yci⟩)
  (y0h:W.codeIn K y62 "Hall.switch" = true)
  (y1b:W.keepIn K (.ref y2s)=true)
  (y6s:W.nsIn K mainGlobals "_law_hall" = some (some (.ref y6q)))
  (y3p:K.lookup y6q=some ⟨ygc,yg1,.func (W.fnOf "_law_hall" "_law_hall" (zaq ze9) (zao ze9) (zab ze9) .none ygp ygn yg5 yh3 yaa yg6),ygl⟩)
  (y1x:W.codeIn K yaa "_law_hall" = true)
  (y2o:W.keepIn K (.ref y6q)=true)
  (y5c:W.nsIn K mainGlobals "_law_at_hub" = some (some (.ref y59)))
  (y2c:K.lookup y59=some ⟨ye7,ydp,.func (W.fnOf "_law_at_hub" "_law_at_hub" (zaq zdy) (zao zdy) (zab zdy) .none yer ydo ydq ye2 y6t yem),ydc⟩)
  (y0w:W.codeIn K y6t "_law_at_hub" = true)
  (y1n:W.keepIn K (.ref y59)=true)
  (y5r:W.nsIn K mainGlobals "_law_pairs" = some (some (.ref y5y)))
  (y32:K.lookup y5y=some ⟨yfm,yfj,.func (W.fnOf "_law_pairs" "_law_pairs" (zaq zek) (zao zek) (zab zek) .none yfd yez yf0 yff y80 yfn),yf1⟩)
  (y1i:W.codeIn K y80 "_law_pairs" = true)
  (y2a:W.keepIn K (.ref y5y)=true)
  (y68:W.nsIn K mainGlobals "_law_free" = some (some (.ref y6u)))
  (y3q:K.lookup y6u=some ⟨ygu,yg0,.func (W.fnOf "_law_free" "_law_free" (zaq zfa) (zao zfa) (zab zfa) .none ygx yg2 ygw ygv ya5 ygd),yh5⟩)
  (y23:W.codeIn K ya5 "_law_free" = true)
  (y2m:W.keepIn K (.ref y6u)=true)
  (y5x:W.nsIn K mainGlobals "_law_order" = some (some (.ref y5t)))
  (y2r:K.lookup y5t=some ⟨yf7,yew,.func (W.fnOf "_law_order" "_law_order" (zaq zel) (zao zel) (zab zel) .none yev yf9 yfp yex y7s yfg),yey⟩)
  (y1l:W.codeIn K y7s "_law_order" = true)
  (y29:W.keepIn K (.ref y5t)=true)
  (y4z:W.nsIn K mainGlobals "seconds_of" = some (some (.ref y5a)))
  (y2d:K.lookup y5a=some ⟨yeq,ydn,.func (W.fnOf "seconds_of" "seconds_of" (zaq zdz) (zao zdz) (zab zdz) .none yed yek ydx yeh y6j yen),ydg⟩)
  (y0v:W.codeIn K y6j "seconds_of" = true)
  (y1o:W.keepIn K (.ref y5a)=true)
  (y3e:W.nsIn K mainGlobals "earliest_free" = some (some (.ref y35)))
  (y12:K.lookup y35=some ⟨yae,y9w,.func (W.fnOf "earliest_free" "earliest_free" (zaq zcf) (zao zcf) (zab zcf) .none y9f ya3 y9d y9y y4p y9b),y97⟩)
  (yv:W.codeIn K y4p "earliest_free" = true)
  (y06:W.keepIn K (.ref y35)=true)
  (y3t:W.nsIn K mainGlobals "ring_through" = some (some (.ref y3u)))
  (y1m:K.lookup y3u=some ⟨ybi,yaz,.func (W.fnOf "ring_through" "ring_through" (zaq zcw) (zao zcw) (zab zcw) .none ybh ybj ybk yap y5j yb8),yag⟩)
  (y02:W.codeIn K y5j "ring_through" = true)
  (y0j:W.keepIn K (.ref y3u)=true)
  (y3i:W.nsIn K mainGlobals "shortest_ring" = some (some (.ref y3b)))
  (y16:K.lookup y3b=some ⟨y9r,ya4,.func (W.fnOf "shortest_ring" "shortest_ring" (zaq zcg) (zao zcg) (zab zcg) .none y9n y98 yab y9g y4m ya9),y9i⟩)
  (yr:W.codeIn K y4m "shortest_ring" = true)
  (y05:W.keepIn K (.ref y3b)=true)
  (y5k:W.findIn K (.ref y01) "__init__" = some (some (.ref y11)))
  (y37:W.isFn K (.ref y11)=true)
  (y14:K.lookup y11=some ⟨y9o,y9k,.func (W.fnOf "__init__" "Ring.__init__" (zaq zch) (zao zch) (zab zch) .none y93 y9s y9v ya1 y4n ya7),yad⟩)
  (yt:W.codeIn K y4n "Ring.__init__" = true)
  (y10:W.keepIn K (.ref y11)=true)
  (y4k:W.nsIn K mainGlobals "order_among" = some (some (.ref y4h)))
  (y1z:K.lookup y4h=some ⟨yc3,yc4,.func (W.fnOf "order_among" "order_among" (zaq zdf) (zao zdf) (zab zdf) .none yck ycp ycy ycl y64 ycj),ybx⟩)
  (y09:W.codeIn K y64 "order_among" = true)
  (y13:W.keepIn K (.ref y4h)=true)
  (y8s:W.findIn K (.ref yq) "at" = some (some (.ref y5w)))
  (y8r:W.isFn K (.ref y5w)=true)
  (y42:K.lookup y5w=some ⟨yhh,yha,.func (W.fnOf "at" "Hall.at" (zaq zgf) (zao zgf) (zab zgf) .none yhf yhd yhg yhe ybp yh7),yhb⟩)
  (y2j:W.codeIn K ybp "Hall.at" = true)
  (y3d:W.keepIn K (.ref y5w)=true)
  (y3l:W.nsIn K mainGlobals "order" = some (some (.ref y4e)))
  (y22:K.lookup y4e=some ⟨yax,yan,.func (W.fnOf "order" "order" (zaq zjq) (zao zjq) (zab zjq) .none yah yas yaj ybd y5i yb5),yal⟩)
  (y0d:W.codeIn K y5i "order" = true)
  (y0e:W.keepIn K (.ref y4e)=true)
  (y49:W.nsIn K mainGlobals "_law_refused" = some (some (.ref y45)))
  (y21:K.lookup y45=some ⟨yd2,ycq,.func (W.fnOf "_law_refused" "_law_refused" (zaq zdg) (zao zdg) (zab zdg) .none yct ycx ycg ycc y61 ycr),ycb⟩)
  (y0f:W.codeIn K y61 "_law_refused" = true)
  (y1a:W.keepIn K (.ref y45)=true)
  (y2t:W.nsIn K mainGlobals "_law_ring_right" = some (some (.ref y2w)))
  (y0l:K.lookup y2w=some ⟨y83,y8q,.func (W.fnOf "_law_ring_right" "_law_ring_right" (zaq zb6) (zao zb6) (zab zb6) .none y8i y8g y8h y90 y4j y8j),y8u⟩)
  (yp:W.codeIn K y4j "_law_ring_right" = true)
  (y00:W.keepIn K (.ref y2w)=true)
  (y4f:W.nsIn K mainGlobals "_law_reached" = some (some (.ref y4c)))
  (y1w:K.lookup y4c=some ⟨yc8,ycf,.func (W.fnOf "_law_reached" "_law_reached" (zaq zdh) (zao zdh) (zab zdh) .none yc5 yc0 ybu ych y60 ycd),yd1⟩)
  (y07:W.codeIn K y60 "_law_reached" = true)
  (y18:W.keepIn K (.ref y4c)=true)
  (y55:W.nsIn K mainGlobals "_law_fewest" = some (some (.ref y58)))
  (y2b:K.lookup y58=some ⟨yej,yec,.func (W.fnOf "_law_fewest" "_law_fewest" (zaq zd0) (zao zd0) (zab zd0) .none ydh ye1 yes yet y67 yeg),ye3⟩)
  (y0y:W.codeIn K y67 "_law_fewest" = true)
  (y1q:W.keepIn K (.ref y58)=true)
  (y4l:W.nsIn K mainGlobals "_law_ring_of" = some (some (.ref y44)))
  (y1v:K.lookup y44=some ⟨ycu,yc2,.func (W.fnOf "_law_ring_of" "_law_ring_of" (zaq zdi) (zao zdi) (zab zdi) .none ycz yc1 yd8 yby y63 yd0),ycv⟩)
  (y0a:W.codeIn K y63 "_law_ring_of" = true)
  (y15:W.keepIn K (.ref y44)=true)
  (y3:W.nsIn K mainGlobals "law" = some (some (.ref y4)))
  (y2:K.lookup y4=some ⟨ye,yf,.func (W.fnOf "law" "law" (zaq zn1) (zao zn1) (zab zn1) .none yc yb y9 y8 y5 ya),yd⟩)
  (y0:W.codeIn K y5 "law" = true)
  (y1:W.keepIn K (.ref y4)=true)
  (y0k:W.plainGet K yq Str.empty=true)
  (y0r:W.hasDictIn K yq=true)
  (y0o:W.plainOver K yq=true)
  (y0u:W.findIn K (.ref yq) "__setattr__" = some (some (.builtin "object.__setattr__")))
  (ye0:W.makesIn K yq=true)
  (ydf:W.keepIn K (.ref yq)=true)
  (yb7:W.plainGet K yj Str.empty=true)
  (yav:W.hasDictIn K yj=true)
  (yb4:W.plainOver K yj=true)
  (ybc:W.findIn K (.ref yj) "__setattr__" = some (some (.builtin "object.__setattr__")))
  (yam:W.makesIn K yj=true)
  (yaw:W.keepIn K (.ref yj)=true)
  (yb9:W.plainGet K y0b Str.empty=true)
  (yau:W.hasDictIn K y0b=true)
  (yat:W.plainOver K y0b=true)
  (yb0:W.findIn K (.ref y0b) "__setattr__" = some (some (.builtin "object.__setattr__")))
  (yb2:W.makesIn K y0b=true)
  (yba:W.keepIn K (.ref y0b)=true)
  (y4x:W.nsIn K mainGlobals "ValueError" = some none)
  (yhz:W.nsIn K mainGlobals "any" = some none)
  (y3j:W.nsIn K mainGlobals "MOST_PIECES" = some (some (.int 24 ybg)))
  (y36:W.nsIn K mainGlobals "MOST_PLACES" = some (some (.int 8 yb1)))
  (y38:W.findIn K (.ref yq) "pieces" = some none)
  (y3k:W.findIn K (.ref yq) "places" = some none)
  (y3g:W.findIn K (.ref yj) "ahead" = some none)
  (y3v:W.findIn K (.ref yj) "bars" = some none)
  (y30:W.findIn K (.ref yj) "behind" = some none)
  (y51:W.findIn K (.ref yj) "by" = some none)
  (y3r:W.findIn K (.ref yj) "deed" = some none)
  (y3f:W.findIn K (.ref yj) "needs" = some none)
  (y56:W.findIn K (.ref yj) "on" = some none)
  (y3h:W.findIn K (.ref yj) "place" = some none)
  (y3w:W.findIn K (.ref y0b) "kind" = some none)
  (y3s:W.findIn K (.ref y0b) "rule" = some none)
  (y4y:W.nsIn K mainGlobals "isinstance" = some none)
  (yhq:W.nsIn K mainGlobals "len" = some none)
  (yfu:W.nsIn K mainGlobals "list" = some none)
  (yhj:W.nsIn K mainGlobals "min" = some none)
  (ye4:W.nsIn K mainGlobals "range" = some none)
  (yho:W.nsIn K mainGlobals "set" = some none)
  (yb6:W.nsIn K mainGlobals "sorted" = some none)
  (yhv:W.nsIn K mainGlobals "str" = some none)
  (ye9:W.nsIn K mainGlobals "tuple" = some none)
  (y5p:W.excIn K y1k bmVE "ValueError.__new__" = true)
  (y8k:W.excIn K y2k bmVE "ValueError.__new__" = true)
  (y8d:W.excIn K y2l bmVE "ValueError.__new__" = true)
  (y87:W.excIn K y2h bmVE "ValueError.__new__" = true)
  (nd:[y01,y26,y04].Nodup)
  (y8f:zd1 K y26=some (.ref yg::bmVE))
  (y52:zd1 K y04=some (.ref yg::bmVE))
  (y5d:zd1 K yg=some bmVE)
  (y9z:zd1 K y01=some (.ref yg::bmVE))
  (y2f:y01≠yg)
  (y57:W.findIn K (.ref y01) "ring" = some none)
  (bi1:W.specialIn K (.ref yg) "__getattribute__" = some (some (.builtin "type.__getattribute__")))
  (yhy:W.readsIn K yg (.type "type")=true)
  (yhn:W.findCls K (.ref yg) (.type "type") "__init__" = some (.val (.builtin "ValueError.__init__")))
  (yay:W.findIn K (.ref y01) "__setattr__" = some (some (.builtin "object.__setattr__")))
  (yaq:W.hasDictIn K y01=true)
  (yar:zni K y01=true)
  (y4w:W.findIn K (.ref y01) "ring" = some none)
  (y9t:zft K y01 y11=true)
  (khn:W.specialIn K (.builtin "object.__class__") "__get__" = some (some (.builtin "getset_descriptor.__get__")))
  (ktk:W.takesIn K (.builtin "object.__class__")=some true)
  (y88:∀C∈[y01],XKit K C)
  (xk:∀C∈[y01],∀D∈[y26,y04,y01],W.kitOne K (.ref C) (.ref D)=some (decide (C=D)))
  (xkv:∀C∈[y01],W.kitOne K (.ref C) (.type "ValueError")=some true)
  (nl:zw0 K=true)
  : ∃fd:FuncData,(∀(s:Shared) (v:Value),BindsTo s fd ⟨[v],[]⟩ [("script",v)])/\∀base:Heap,K.In base->base.Ns mainGlobals mg->FnOk l.prog w K mg base CX0 6 fa fd ["script"] (zzx K):=by
 let c:Cl:={ hall:=yq,place:=y0b,piece:=yj,run:=0,hallError:=yg,nameThere:=y1k,noPlace:=y2l,noPiece:=y2k,tooMany:=y2h,noAnswer:=0,ring:=y01,barred:=y26,deedFault:=y04 };have e0:=hfa.symm.trans (W.mg_of X G y3);cases e0;have T0:Tx K mg c:=⟨y5d,(List.forall_mem_cons.mpr ⟨(fun _=>y9z),List.forall_mem_cons.mpr ⟨(fun _=>y8f),List.forall_mem_cons.mpr ⟨(fun _=>y52),fun _ h=>absurd h List.not_mem_nil⟩⟩⟩),W.mg_none_of X G y4x,W.mg_none_of X G yhz,⟨_,W.mg_of X G y3j⟩,⟨_,W.mg_of X G y36⟩,⟨y0k,y0r,y0o,y0u⟩,y38,y3k,⟨yb7,yav,yb4,ybc⟩,y3g,y3v,y30,y51,y3r,y3f,y56,y3h,⟨yb9,yau,yat,yb0⟩,y3w,y3s,(y88 _ (.head _)).toXGet,y57,bi1,yhy,yhn,⟨yay,yaq,yar⟩,y4w,W.mg_none_of X G y4y,(fun C h=>⟨y88 C h,xk C h _ (.head _)⟩),(fun C h=>⟨y88 C h,xk C h _ (.tail _ (.head _))⟩),(fun C h=>⟨y88 C h,xk C h _ (.tail _ (.tail _ (.head _)))⟩),(fun C h=>⟨y88 C h,xkv C h⟩),W.mg_none_of X G yhq,W.mg_none_of X G yfu,W.mg_of X G y8c,W.mg_of X G y50,W.mg_of X G y53,W.mg_of X G y5e,W.mg_of X G y6n,W.mg_of X G y6m,W.mg_of X G ydu,W.mg_of X G y6i,W.mg_none_of X G yhj,y2f,y9z,W.mg_none_of X G ye4,W.mg_none_of X G yho,W.mg_none_of X G yb6,W.mg_none_of X G yhv,W.mg_none_of X G ye9,y5p,y8k,y8d,y87⟩;have y6p:=zbt (st:=zdd) y1u y0c yz;have y6e:=y6p.binds (ps:=["script", "k"]) (by walk_at "2");have ybm:=zbt (st:=ze6) y3m y24 y1c;have ybn:=ybm.binds (ps:=["k"]) (by walk_at "1");have ybs:=zbt (st:=ze7) y3o y1y y2p;have yh9:=ybs.binds (ps:=["cell", "many"]) (by walk_at "2");have ybr:=zbt (st:=ze8) y3n y20 y2n;have yh6:=ybr.binds (ps:=["cell"]) (by walk_at "1");have y7z:=zbt (st:=zdx) y2e y0x y1p;have yfh:=y7z.binds (ps:=["script", "start", "many"]) (by walk_at "3");have y5h:=zbt (st:=zce) y17 yx y19;have ybl:=y5h.binds (ps:=["self"]) (by walk_at "1");have y4r:=zbt (st:=zb4) y0n yn y0q;have ya6:=y4r.binds (ps:=["self", "kind", "rule"]) (by walk_at "3");have y4a:=zbt (st:=zbx) y0g ym yu;have y8p:=y4a.binds (ps:=["self", "name", "kind", "rule"]) (by walk_at "4");have y47:=zbt (st:=zby) y08 yl yh;have y46:=y47.binds (ps:=["self", "name"]) (by walk_at "2");have y48:=zbt (st:=zbz) y0i yk y6;have y1f:=y48.binds (ps:=["self", "name"]) (by walk_at "2");have y4o:=zbt (st:=zb5) y0s yo y0p;have ya2:=y4o.binds (ps:=["self", "place", "deed", "by"]) (by walk_at "4");have yh2:FunV K "hang" "Hall.hang" zbo (.ref y5s) y2y _:=⟨⟨_,_,_,_,_,_,_,_,_,rfl,y34,y0m⟩,y28⟩;have yfv:=zme (kV:=y7u) (dc:=y7y) (pm:=y7x) (an:=y7v) (cd:=y5b) (ct:=y7l) yy;have yfq:=zbt (st:=zh6) y5g y3a y41;have yi0:=yfq.binds (ps:=["names"]) (by walk_at "1");have yfr:FunV K "wish" "Hall.wish" zcp (.ref y5o) y2q _:=⟨⟨_,_,_,_,_,_,_,_,_,rfl,y2v,y0t⟩,y25⟩;have yft:=zmg (kV:=y7t) (dc:=y7w) (pm:=y7q) (an:=y7r) (cd:=y4v) (ct:=y7m) y03;have y6r:=zbt (st:=zde) y1t y0h y1b;have ye5:=y6r.binds (ps:=["self", "name", "on"]) (by walk_at "3");have ybo:=zbt (st:=ze9) y3p y1x y2o;have yh8:=ybo.binds (ps:=["pieces", "kind", "rule"]) (by walk_at "3");have y7p:=zbt (st:=zdy) y2c y0w y1n;have yfk:=y7p.binds (ps:=["pieces"]) (by walk_at "1");have y96:=zbt (st:=zek) y32 y1i y2a;have yg4:=y96.binds (ps:=["pieces", "names"]) (by walk_at "2");have ybq:=zbt (st:=zfa) y3q y23 y2m;have yhc:=ybq.binds (ps:=["name", "left", "pairs"]) (by walk_at "3");have y9e:=zbt (st:=zel) y2r y1l y29;have ygt:=y9e.binds (ps:=["names", "pairs"]) (by walk_at "2");have y7o:=zbt (st:=zdz) y2d y0v y1o;have yeu:=y7o.binds (ps:=["hall", "names"]) (by walk_at "2");have y5l:=zbt (st:=zcf) y12 yv y06;have yai:=y5l.binds (ps:=["seconds", "left"]) (by walk_at "2");have y5z:=zbt (st:=zcw) y1m y02 y0j;have ybt:=y5z.binds (ps:=["seconds", "start"]) (by walk_at "2");have y5f:=zbt (st:=zcg) y16 yr y05;have yb3:=y5f.binds (ps:=["seconds"]) (by walk_at "1");have y5m:=zbt (st:=zch) y14 yt y10;have ybb:=y5m.binds (ps:=["self", "ring"]) (by walk_at "2");have y6b:=zbt (st:=zdf) y1z y09 y13;have yel:=y6b.binds (ps:=["hall", "names"]) (by walk_at "2");have yds:=zbt (st:=zgf) y42 y2j y3d;have yhr:=yds.binds (ps:=["self", "place"]) (by walk_at "2");have y6d:=zbt (st:=zjq) y22 y0d y0e;have y91:=y6d.binds (ps:=["hall", "place"]) (by walk_at "2");have y6h:=zbt (st:=zdg) y21 y0f y1a;have ye6:=y6h.binds (ps:=["hall"]) (by walk_at "1");have y4t:=zbt (st:=zb6) y0l yp y00;have y9p:=y4t.binds (ps:=["ring", "pairs", "fewest"]) (by walk_at "3");have y6c:=zbt (st:=zdh) y1w y07 y18;have ydd:=y6c.binds (ps:=["pairs", "names", "steps"]) (by walk_at "3");have y7n:=zbt (st:=zd0) y2b y0y y1q;have yfe:=y7n.binds (ps:=["names", "pairs"]) (by walk_at "2");have y6g:=zbt (st:=zdi) y1v y0a y15;have yde:=y6g.binds (ps:=["hall"]) (by walk_at "1");have y7:=zbt (st:=zn1) y2 y0 y1;have yi:=y7.binds (ps:=["script"]) (by walk_at "1");refine⟨W.fnOf "law" "law" (zaq zn1) (zao zn1) (zab zn1) .none yc yb y9 y8 y5 ya,fun s v=>.of_eq rfl,fun base _ _=>?_⟩;have y66:=zl7 l.prog w base T0 y6p.toV;have yac:=zrj l.prog w base T0 ybm.toV;have ygz:=zrk l.prog w base T0 ybs.toV ⟨yac.mono (by decide),W.mg_of X G y4s,y1c,ybn⟩;have yg7:=zrl l.prog w base T0 ybr.toV;have ydr:=zn2 l.prog w base T0 y7z.toV ⟨y66.mono (by decide),W.mg_of X G y33,yz,y6e⟩ ⟨ygz.mono (by decide),W.mg_of X G y6k,y2p,yh9⟩ ⟨yg7.mono (by decide),W.mg_of X G y6l,y2n,yh6⟩ ⟨yac.mono (by decide),W.mg_of X G y4s,y1c,ybn⟩;have y9m:=zka l.prog w base T0 y5h.toV;have y85:=zjr l.prog w base T0 y4r.toV;have y6z:=zi9 l.prog w base T0 y4a.toV ⟨y85.mono (by decide),W.mg_of X G yao,⟨yb2,y31,y2u,yba⟩,ya6⟩;have y3x:=zja l.prog w base T0 y47.toV;have y0z:=zjb l.prog w base T0 y48.toV;have y8e:=zjs l.prog w base T0 y4o.toV;have yfo:=zpt l.prog w base T0 yh2 ⟨y3x.mono (by decide),⟨y0k,y0r,y0o,y0u⟩,⟨y1g,y1e,yh⟩,y46⟩ ⟨y0z.mono (by decide),⟨y0k,y0r,y0o,y0u⟩,⟨ys,yw,y6⟩,y1f⟩ ⟨y8e.mono (by decide),W.mg_of X G yaf,⟨yam,y2x,y2z,yaw⟩,ya2⟩;have yhm:=zxr l.prog w base T0 yfq.toV;have yf3:=zpu l.prog w base T0 yfr ⟨y0z.mono (by decide),⟨y0k,y0r,y0o,y0u⟩,⟨ys,yw,y6⟩,y1f⟩ ⟨yhm.mono (by decide),W.mg_of X G ybf,y41,yi0⟩;have yc6:=zl8 l.prog w base T0 y6r.toV ⟨y0z.mono (by decide),⟨y0k,y0r,y0o,y0u⟩,⟨ys,yw,y6⟩,y1f⟩;have yh4:=zrm l.prog w base T0 ybo.toV ⟨y9m.mono (by decide),W.mg_of X G ydl,⟨ye0,y3c,y39,ydf⟩,ybl⟩ ⟨y6z.mono (by decide),⟨y0k,y0r,y0o,y0u⟩,⟨y2g,y2i,yu⟩,y8p⟩ ⟨yfo.mono (by decide),⟨y0k,y0r,y0o,y0u⟩,⟨y5n,y5q,y28⟩,yfv⟩ (zmf yy) ⟨yf3.mono (by decide),⟨y0k,y0r,y0o,y0u⟩,⟨y5u,y5v,y25⟩,yft⟩ ⟨yc6.mono (by decide),⟨y0k,y0r,y0o,y0u⟩,⟨y4g,y43,y1b⟩,ye5⟩;have yeo:=zn3 l.prog w base T0 y7p.toV;have yfa:=zpv l.prog w base T0 y96.toV;have ygb:=zrn l.prog w base T0 ybq.toV;have yfc:=zpw l.prog w base T0 y9e.toV ⟨ygb.mono (by decide),W.mg_of X G y68,y2m,yhc⟩;have yeb:=zn4 l.prog w base T0 y7o.toV ⟨y0z.mono (by decide),⟨y0k,y0r,y0o,y0u⟩,⟨ys,yw,y6⟩,y1f⟩;have y95:=zkb l.prog w base T0 y5l.toV;have ybe:=zlk l.prog w base T0 y5z.toV;have ya8:=zkc l.prog w base T0 y5f.toV ⟨ybe.mono (by decide),W.mg_of X G y3t,y0j,ybt⟩;have y9j:=zkd l.prog w base T0 y5m.toV y9t;have ycs:=zl9 l.prog w base T0 y6b.toV ⟨yeb.mono (by decide),W.mg_of X G y4z,y1o,yeu⟩ ⟨y95.mono (by decide),W.mg_of X G y3e,y06,yai⟩ ⟨ya8.mono (by decide),W.mg_of X G y3i,y05,yb3⟩ ⟨y9j.mono (by decide),y9t,y37,ybb⟩;have yhi:=zug l.prog w base T0 yds.toV ⟨y3x.mono (by decide),⟨y0k,y0r,y0o,y0u⟩,⟨y1g,y1e,yh⟩,y46⟩;have y6v:=z0c l.prog w base T0 y6d.toV ⟨ycs.mono (by decide),W.mg_of X G y4k,y13,yel⟩ ⟨yhi.mono (by decide),⟨y0k,y0r,y0o,y0u⟩,⟨y8s,y8r,y3d⟩,yhr⟩;have yd6:=zma l.prog w base T0 y6h.toV ⟨y6v.mono (by decide),W.mg_of X G y3l,y0e,y91⟩;have y8z:=zjt l.prog w base T0 y4t.toV;have yce:=zmb l.prog w base T0 y6c.toV;have ydw:=zn5 l.prog w base T0 y7n.toV ⟨yce.mono (by decide),W.mg_of X G y4f,y18,ydd⟩;have yco:=zmc l.prog w base T0 y6g.toV ⟨y6v.mono (by decide),W.mg_of X G y3l,y0e,y91⟩;have oklaw:=z7f l.prog w base T0 y7.toV ⟨y66.mono (by decide),W.mg_of X G y33,yz,y6e⟩ ⟨ydr.mono (by decide),W.mg_of X G y4u,y1p,yfh⟩ ⟨yh4.mono (by decide),W.mg_of X G y6s,y2o,yh8⟩ ⟨yeo.mono (by decide),W.mg_of X G y5c,y1n,yfk⟩ ⟨yfa.mono (by decide),W.mg_of X G y5r,y2a,yg4⟩ ⟨yfc.mono (by decide),W.mg_of X G y5x,y29,ygt⟩ ⟨yd6.mono (by decide),W.mg_of X G y49,y1a,ye6⟩ ⟨y8z.mono (by decide),W.mg_of X G y2t,y00,y9p⟩ ⟨ydw.mono (by decide),W.mg_of X G y55,y1q,yfe⟩ ⟨yco.mono (by decide),W.mg_of X G y4l,y15,yde⟩;exact z60 oklaw nl fun ns hl=>⟨_,law4 (c:=c) nd ns⟩
end K04
open PySem PySem.W PyProof.Rows
local macro_rules | `(tactic| walk_at "k") => `(tactic| first | kernel_rfl! | k_is)
theorem PySem.Challenge.cw_hookhall_k04_rings_shown_holds : PySem.Challenge.rw_hookhall_k04_rings_shown.Holds := by
 w_on;o_law;k_head;(case hw=>w_witness2)
 k_fill
 refine MF.walkM (l:=PySem.Challenge.rw_hookhall_k04_rings_shown) (k:=6) ⟨rfl,by decide,by decide,rfl⟩ rfl rfl (fun w h Y=>W.kIn_of Y) ?F
 case F=>
  intro w mg fa h KX G hmg
  refine' K04.all_mk KX G hmg ?ydl ?yaf ?yao ?y53 ?y5e ?y6m ?y6n ?y6i ?ydu ?y8c ?y50 ?y33 ?y1u ?y0c ?yz ?y4s ?y3m ?y24 ?y1c ?y6k ?y3o ?y1y ?y2p ?y6l ?y3n ?y20 ?y2n ?y4u ?y2e ?y0x ?y1p ?y3c ?y39 ?y17 ?yx ?y19 ?y31 ?y2u ?y0n ?yn ?y0q ?y2g ?y2i ?y0g ?ym ?yu ?y1g ?y1e ?y08 ?yl ?yh ?ys ?yw ?y0i ?yk ?y6 ?y2x ?y2z ?y0s ?yo ?y0p ?y5n ?y5q ?y34 ?y0m ?y28 ?yy ?ybf ?y5g ?y3a ?y41 ?y5u ?y5v ?y2v ?y0t ?y25 ?y03 ?y4g ?y43 ?y1t ?y0h ?y1b ?y6s ?y3p ?y1x ?y2o ?y5c ?y2c ?y0w ?y1n ?y5r ?y32 ?y1i ?y2a ?y68 ?y3q ?y23 ?y2m ?y5x ?y2r ?y1l ?y29 ?y4z ?y2d ?y0v ?y1o ?y3e ?y12 ?yv ?y06 ?y3t ?y1m ?y02 ?y0j ?y3i ?y16 ?yr ?y05 ?y5k ?y37 ?y14 ?yt ?y10 ?y4k ?y1z ?y09 ?y13 ?y8s ?y8r ?y42 ?y2j ?y3d ?y3l ?y22 ?y0d ?y0e ?y49 ?y21 ?y0f ?y1a ?y2t ?y0l ?yp ?y00 ?y4f ?y1w ?y07 ?y18 ?y55 ?y2b ?y0y ?y1q ?y4l ?y1v ?y0a ?y15 ?y3 ?y2 ?y0 ?y1 ?y0k ?y0r ?y0o ?y0u ?ye0 ?ydf ?yb7 ?yav ?yb4 ?ybc ?yam ?yaw ?yb9 ?yau ?yat ?yb0 ?yb2 ?yba ?y4x ?yhz ?y3j ?y36 ?y38 ?y3k ?y3g ?y3v ?y30 ?y51 ?y3r ?y3f ?y56 ?y3h ?y3w ?y3s ?y4y ?yhq ?yfu ?yhj ?ye4 ?yho ?yb6 ?yhv ?ye9 ?y5p ?y8k ?y8d ?y87 ?nd ?y8f ?y52 ?y5d ?y9z ?y2f ?y57 ?bi1 ?yhy ?yhn ?yay ?yaq ?yar ?y4w ?y9t ?khn ?ktk ?y88 ?xk ?xkv ?nl
  (case ydl | yaf | yao | y53 | y5e | y6m | y6n | y6i | ydu | y8c | y50 | y33 | y1u | y0c | yz | y4s | y3m | y24 | y1c | y6k | y3o | y1y | y2p | y6l | y3n | y20 | y2n | y4u | y2e | y0x | y1p | y3c | y39 | y17 | yx | y19 | y31 | y2u | y0n | yn | y0q | y2g | y2i | y0g | ym | yu | y1g | y1e | y08 | yl | yh | ys | yw | y0i | yk | y6 | y2x | y2z | y0s | yo | y0p | y5n | y5q | y34 | y0m | y28 | yy | ybf | y5g | y3a | y41 | y5u | y5v | y2v | y0t | y25 | y03 | y4g | y43 | y1t | y0h | y1b | y6s | y3p | y1x | y2o | y5c | y2c | y0w | y1n | y5r | y32 | y1i | y2a | y68 | y3q | y23 | y2m | y5x | y2r | y1l | y29 | y4z | y2d | y0v | y1o | y3e | y12 | yv | y06 | y3t | y1m | y02 | y0j | y3i | y16 | yr | y05 | y5k | y37 | y14 | yt | y10 | y4k | y1z | y09 | y13 | y8s | y8r | y42 | y2j | y3d | y3l | y22 | y0d | y0e | y49 | y21 | y0f | y1a | y2t | y0l | yp | y00 | y4f | y1w | y07 | y18 | y55 | y2b | y0y | y1q | y4l | y1v | y0a | y15 | y3 | y2 | y0 | y1 | y0k | y0r | y0o | y0u | ye0 | ydf | yb7 | yav | yb4 | ybc | yam | yaw | yb9 | yau | yat | yb0 | yb2 | yba | y4x | yhz | y3j | y36 | y38 | y3k | y3g | y3v | y30 | y51 | y3r | y3f | y56 | y3h | y3w | y3s | y4y | yhq | yfu | yhj | ye4 | yho | yb6 | yhv | ye9=>k_is)
  (case y5p | y8k | y8d | y87=>walk_at "k")
  (case nd=>decide)
  (case y8f | y52 | y5d | y9z=>walk_at "k")
  (case y2f=>decide)
  (case y57 | bi1=>k_is)
  (case yhy | yhn=>walk_at "k")
  (case yay=>k_is)
  (case yaq | yar=>walk_at "k")
  (case y4w=>k_is)
  (case y9t | khn | ktk=>walk_at "k")
  (case y88=>intro C h;simp only[List.mem_cons,List.not_mem_nil,or_false] at h;rcases h with rfl<;>exact⟨⟨by walk_at "k",by walk_at "k",by walk_at "k",by walk_at "k"⟩,by walk_at "k",by walk_at "k",by walk_at "k",by walk_at "k"⟩)
  (case xk=>intro C h D g;simp only[List.mem_cons,List.not_mem_nil,or_false] at h g;rcases h with rfl<;>rcases g with rfl | rfl | rfl<;>walk_at "k")
  (case xkv=>intro C h;simp only[List.mem_cons,List.not_mem_nil,or_false] at h;rcases h with rfl<;>walk_at "k")
  (case nl=>walk_at "k")
end
