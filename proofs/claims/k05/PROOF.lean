import PyProof.Rows.All
import Wide.All
import OpenK.AllK
import Wide.FinOn
import PyProof.EqAt
import PyProof.EqKinds
import PyProof.TupleCall
import PyProof.StrLawsRepr
import Lean
import PyProof.P3Eq
import PyProof.P3In
import PyProof.NeData
import KE.KRevIter
import PyProof.StrWalks
import PyProof.StrBlockH
import PyProof.Conv_int_bool
import PyProof.SetKind
import PyProof.Rows.SetFrom
import PyProof.Rows.SortStr
import PyProof.WalksS
import PyProof.Seq
import PyProof.Walks
import PyProof.FactsAll.set
import PyProof.ForAny
import PyProof.FactsSeq
import PyProof.CollectWalk
import PyProof.SetRoads
import PySem.Challenge.RW_hookhall_k05_whole_calls
theorem PySem.W.Fast.tw8307505359384752063 : True := trivial
theorem PySem.W.Fast.tw18440025619889135204 : True := trivial
theorem PySem.W.Fast.tw7366630932570869865 : True := trivial
theorem PySem.W.Fast.tw14984154179599603276 : True := trivial
theorem PySem.W.Fast.tw3968990353966110996 : True := trivial
theorem PySem.W.Fast.tw1581425113612200392 : True := trivial
theorem PySem.W.Fast.tw5454667501679030269 : True := trivial
theorem PySem.W.Fast.tw10675333040820577987 : True := trivial
theorem PySem.W.Fast.tw411882537875308156 : True := trivial
theorem PySem.W.Fast.tw5802763037875983617 : True := trivial
theorem PySem.W.Fast.tw14847331422082661682 : True := trivial
theorem PySem.W.Fast.tw5654912875937444970 : True := trivial
theorem PySem.W.Fast.tw3718263599049819294 : True := trivial
theorem PySem.W.Fast.tw6405399034442277681 : True := trivial
theorem PySem.W.Fast.tw17992057341331243797 : True := trivial
theorem PySem.W.Fast.tw9463788360459138956 : True := trivial
theorem PySem.W.Fast.tw17990337586017652700 : True := trivial
theorem PySem.W.Fast.tw9735955497541803857 : True := trivial
theorem PySem.W.Fast.tw267981148238311948 : True := trivial
theorem PySem.W.Fast.tw17017808463308233478 : True := trivial
theorem PySem.W.Fast.tw7700049824162563638 : True := trivial
theorem PySem.W.Fast.tw15047263638931620645 : True := trivial
noncomputable section
set_option maxHeartbeats 0
set_option compiler.extract_closed false
set_option Elab.async false
set_option linter.all false
set_option maxRecDepth 100000
namespace L2
open PySem PySem.Spec PyProof.Rows
abbrev Key:=Sum Int Str
noncomputable def zqt:Key->Value->Bool
 |.inl k,v=>Value.isInt k v
 |.inr x,v=>Value.isStrOf x v
noncomputable def keyH(w:World):Key->Int
 |.inl k=>hashInt k
 |.inr x=>hashStr w x
theorem zbp:∀{k:Key} {v:Value},zqt k v=true->(∃i t,k=Sum.inl i/\v=Value.int i t)\/(∃x t,k=Sum.inr x/\v=Value.str x t)
 | .inl i,v,h=>by
   obtain⟨t,e⟩:=Value.isInt_shape (k:=i) (v:=v) h;exact .inl ⟨i,t,rfl,e⟩
 | .inr x,v,h=>by
   obtain⟨t,e⟩:=Value.isStrOf_shape (x:=x) (v:=v) h;exact .inr ⟨x,t,rfl,e⟩
theorem zx2(i:Int)(t:Tok):zqt (.inl i) (.int i t)=true:=by simp[zqt,Value.isInt]
theorem zx3(x:Str)(t:Tok):zqt (.inr x) (.str x t)=true:=by simp[zqt,Value.isStrOf]
theorem z7v(a b:Int):decide ((Sum.inl a:Key)=Sum.inl b)=(a==b):=by
 by_cases e:a=b
 ·subst e;simp
 ·have h:¬(Sum.inl a:Key)=Sum.inl b:=fun q=>e (Sum.inl.inj q)
  rw[decide_eq_false h];exact(beq_eq_false_iff_ne.mpr e).symm
theorem z7w(a b:Str):decide ((Sum.inr a:Key)=Sum.inr b)=decide (a=b):=by
 by_cases e:a=b
 ·subst e;simp
 ·have h:¬(Sum.inr a:Key)=Sum.inr b:=fun q=>e (Sum.inr.inj q)
  rw[decide_eq_false h,decide_eq_false e]
theorem z7x(a:Int)(b:Str):decide ((Sum.inl a:Key)=Sum.inr b)=false:=decide_eq_false (fun q=>nomatch q)
theorem z7y(a:Str)(b:Int):decide ((Sum.inr a:Key)=Sum.inl b)=false:=decide_eq_false (fun q=>nomatch q)
def zbb(prog:Program)(w:World):PySem.KeyKind prog w Key where
 is:=zqt
 hash:=keyH w
 inj:=fun v a b ha hb=>by
  rcases zbp ha with⟨i,t,rfl,rfl⟩ | ⟨x,t,rfl,rfl⟩
  ·rcases zbp hb with⟨j,u,rfl,e⟩ | ⟨y,u,rfl,e⟩
   ·injection e with e1 _;rw[e1]
   ·exact nomatch e
  ·rcases zbp hb with⟨j,u,rfl,e⟩ | ⟨y,u,rfl,e⟩
   ·exact nomatch e
   ·injection e with e1 _;rw[e1]
 byValue:=fun k v h=>by
  rcases zbp h with⟨i,t,rfl,rfl⟩ | ⟨x,t,rfl,rfl⟩<;>rfl
 pyHash:=fun hv h=>by
  rcases zbp hv with⟨i,t,rfl,rfl⟩ | ⟨x,t,rfl,rfl⟩
  ·exact wpAny_pyHash_int h
  ·exact wpAny_pyHash_str h
 eqBool:=fun hu hv h=>by
  rcases zbp hu with⟨i,t,rfl,rfl⟩ | ⟨x,t,rfl,rfl⟩
  ·rcases zbp hv with⟨j,u,rfl,rfl⟩ | ⟨y,u,rfl,rfl⟩
   ·rw[z7v] at h;exact wpAny_eqBool_int h
   ·rw[z7x] at h;exact SeqAt.EqAt.int_str i t y u _ _ _ _ h
  ·rcases zbp hv with⟨j,u,rfl,rfl⟩ | ⟨y,u,rfl,rfl⟩
   ·rw[z7y] at h;exact SeqAt.EqAt.str_int x t j u _ _ _ _ h
   ·rw[z7w] at h;exact wpAny_eqBool_str h
 «strs»:=fun k x t v h=>by
  rcases zbp h with⟨i,u,rfl,e⟩ | ⟨y,u,rfl,e⟩
  ·exact nomatch e
  ·injection e with e1 _
   subst e1;cases v<;>rfl
theorem zsz(prog:Program)(w:World)(i:Int)(t:Tok):(zbb prog w).is (.inl i) (.int i t)=true:=zx2 i t
theorem zs0(prog:Program)(w:World)(x:Str)(t:Tok):(zbb prog w).is (.inr x) (.str x t)=true:=zx3 x t
inductive V where
 |non | bl (b:Bool) | int (i:Int) | str (x:Str) | byt (b:Array UInt8) | flt (b:UInt64) | ref (a:Addr) | ty (n:String)
 deriving DecidableEq
def RelV:V->Value->Prop
 |.non,u=>u=Value.none
 |.bl b,u=>u=Value.bool b
 |.int i,u=>∃t,u=Value.int i t
 |.str x,u=>∃t,u=Value.str x t
 |.byt b,u=>∃t,u=Value.bytes b t
 |.flt b,u=>∃t,u=Value.float b t
 |.ref a,u=>u=Value.ref a
 |.ty n,u=>u=Value.type n
abbrev Vals:List V->List Value->Prop:=Paired RelV
theorem Vals.length{xs:List V}{us:List Value}(r:Vals xs us):xs.length=us.length:=Paired.length r
theorem Vals.get:∀{xs:List V} {us:List Value} {i:Nat} {x:V},Vals xs us->xs[i]?=some x->∃u,us[i]?=some u/\RelV x u
 |_,_,_,_,.nil,e=>by simp at e
 |_,_,0,_,.cons r _,e=>by simp at e;subst e;exact⟨_,rfl,r⟩
 | _,_,i+1,x,.cons _ t,e=>by
   obtain⟨u,h1,h2⟩:=Vals.get (i:=i) (x:=x) t (by simpa using e);exact⟨u,by simpa using h1,h2⟩
theorem Vals.set{x:V}{u:Value}(r:RelV x u):∀{xs:List V} {us:List Value} (i:Nat),Vals xs us->Vals (xs.set i x) (us.set i u)
 |_,_,_,.nil=>.nil
 |_,_,0,.cons _ t=>.cons r t
 |_,_,i+1,.cons q t=>.cons q (Vals.set r i t)
theorem Vals.append:∀{xs ys:List V} {us ws:List Value},Vals xs us->Vals ys ws->Vals (xs++ys) (us++ws)
 |_,_,_,_,.nil,s=>s
 |_,_,_,_,.cons r t,s=>.cons r (Vals.append t s)
theorem Vals.take:∀{xs:List V} {us:List Value} (n:Nat),Vals xs us->Vals (xs.take n) (us.take n)
 |_,_,0,_=>.nil
 |_,_,_+1,.nil=>.nil
 |_,_,n+1,.cons r t=>.cons r (Vals.take n t)
theorem Vals.drop:∀{xs:List V} {us:List Value} (n:Nat),Vals xs us->Vals (xs.drop n) (us.drop n)
 |_,_,0,r=>r
 |_,_,_+1,.nil=>.nil
 |_,_,n+1,.cons _ t=>Vals.drop n t
def RelO:Option V->Option Value->Prop
 |some v,some u=>RelV v u
 |none,none=>True
 |_,_=>False
def KV{κ:Type}:List (κ×V)->List (κ×Value)->Prop:=Paired fun(p:κ×V) (q:κ×Value)=>p.1=q.1/\RelV p.2 q.2
noncomputable def kV:Key->V
 |.inl i=>.int i
 |.inr x=>.str x
inductive HO where
 |lst (xs:List V)
 |tup (xs:List V)
 |dK (kvs:List (Key×V)) | dT (kvs:List (List Key×V))
 |set (S:Int->Bool) (n:Nat)
 |ins (C dx:Addr) (fs:List (Str×V))
 |own (x:Addr)
 |xd (fs:List (Str×V))
 |met (f x:Addr)
 |rng (lo hi:Int)
 |frz (o:Obj) (u:HO)
 |tbl (ps:Array Value)
 |ext (φ:Heap->Prop)
abbrev Hp:=Addr->Option HO
def upd(H:Hp)(a:Addr)(o:HO):Hp:=fun b=>if b=a then some o else H b
theorem zaj{H:Hp}{a:Addr}{o:HO}:upd H a o a=some o:=by unfold upd;rw[if_pos rfl]
theorem zai{H:Hp}{a b:Addr}{o:HO}(h:b≠a):upd H a o b=H b:=by unfold upd;rw[if_neg h]
theorem z47{H:Hp}{a:Addr}{o u:HO}:upd (upd H a o) a u=upd H a u:=by
 funext b;unfold upd;split<;>rfl
theorem Za9{H:Hp}{a b:Addr}{o u:HO}(h:H a=some o)(h':H b=some u)(d:o≠u):a≠b:=by
 intro e;subst e;rw[h] at h';exact d (Option.some.inj h')
theorem zbv{H:Hp}{a b:Addr}{o:HO}(h:H a=some o)(h':H b=none):a≠b:=by
 intro e;subst e;rw[h] at h';cases h'
section
variable (P:Program)(w:World)
def zc8(H:Hp)(h:Heap)(a:Addr):HO->Prop
 |.lst xs=>xs.length<=sizeLine/\∃(its:List Value) (n:Nat),Vals xs its/\h.get? a=some { cls:=.type "list",data:=.seq its.toArray n }
 |.tup xs=>xs.length<=sizeLine/\∃its:List Value,Vals xs its/\IsTup h a its.toArray
 |.dK kvs=>kvs.length<=sizeLine/\(a==sysModules)=false/\∃vs,KV kvs vs/\h.DictOf (zbb P w) a vs
 |.dT kvs=>kvs.length<=sizeLine/\(a==sysModules)=false/\∃xs:List (List Key×Addr×Value),
  Paired (fun(p:List Key×V) (q:List Key×Addr×Value)=>p.1=q.1/\H q.2.1=some (.tup (p.1.map kV))/\RelV p.2 q.2.2) kvs xs /\
  ∃o es ep,h.get? a=some o/\o.ExactDict/\o.data=.dict es ep/\es.toList=xs.map (entryOfKey (tupleKind (zbb P w)))/\(xs.map (·.1)).Nodup
 |.set S n=>h.SetOf (intKind P w) a S n
 |.ins C dx fs=>H dx=some (.own a)/\fs.length<=1000/\dx≠a/\h.get? a=some (W.instObj C dx) /\
  ∃mA,h.Ns1 dx mA/\(∀f,RelO (fs.lookup f) (mA f))/\PySem.Within mA (fs.map (·.1))
 |.own _=>∃o,h.get? a=some o
 |.xd fs=>∃mA,h.Ns1 a mA/\∀f,RelO (fs.lookup f) (mA f)
 |.rng lo hi=>∃t u v,h.get? a=some { cls:=.type "range",data:=.fields #[.int lo t,.int hi u,.int 1 v] }
 |.frz o u=>h.get? a=some o/\zc8 H h a u
 |.tbl ps=>h.get? a=some { cls:=.none,data:=.fields ps }
 |.met f x=>h.get? a=some (W.methodObj (.ref f) (.ref x))
 |.ext φ=>φ h/\(∃o,h.get? a=some o)/\∀h1 h2:Heap,φ h1->(∀o,h1.get? a=some o->h2.get? a=some o)->φ h2
def HOk(H:Hp)(h:Heap):Prop:=∀a o,H a=some o->zc8 P w H h a o
end
section
variable {P:Program}{w:World}{H H':Hp}{h h':Heap}{a:Addr}{o:HO}
theorem zc8.lt(x:zc8 P w H h a o):a<h.objs.size:=by
 cases o with
 |lst xs=>obtain⟨_,_,_,_,e⟩:=x;exact Heap.lt_size e
 |tup xs=>obtain⟨_,_,_,p⟩:=x;exact p.lt
 |dK kvs=>obtain⟨_,_,_,_,o,_,_,e,_⟩:=x;exact Heap.lt_size e
 |dT kvs=>obtain⟨_,_,_,_,o,_,_,e,_⟩:=x;exact Heap.lt_size e
 |set S n=>obtain⟨o,_,_,_,e,_⟩:=x;exact Heap.lt_size e
 |ins C dx fs=>obtain⟨_,_,_,e,_⟩:=x;exact Heap.lt_size e
 |own y=>obtain⟨_,e⟩:=x;exact Heap.lt_size e
 |xd fs=>obtain⟨_,⟨_,_,_,e,_⟩,_⟩:=x;exact Heap.lt_size e
 |rng lo hi=>obtain⟨_,_,_,e⟩:=x;exact Heap.lt_size e
 |frz ob u=>obtain⟨e,_⟩:=x;exact Heap.lt_size e
 |tbl ps=>exact Heap.lt_size (show h.get? a=some _ from x)
 |met f y=>exact Heap.lt_size (show h.get? a=some _ from x)
 |ext φ=>obtain⟨_,⟨_,e⟩,_⟩:=x;exact Heap.lt_size e
theorem Paired.mapP{α β:Type}{F G:α->β->Prop}:∀{l₁:List α} {l₂:List β},Paired F l₁ l₂->(∀a b,F a b->G a b)->Paired G l₁ l₂
 |_,_,.nil,_=>.nil
 |_,_,.cons r t,f=>.cons (f _ _ r) (Paired.mapP t f)
theorem zc8.stay(x:zc8 P w H h a o)(k:∀b u,(b=a\/H b=some (.own a))->h.get? b=some u->h'.get? b=some u)
  (ho:∀b,H b=some (.own a)->H' b=some (.own a)) (ht:∀b xs,H b=some (.tup xs)->H' b=some (.tup xs)):zc8 P w H' h' a o:=by
 induction o with
 |lst xs=>obtain⟨z,its,n,r,e⟩:=x;exact⟨z,its,n,r,k _ _ (.inl rfl) e⟩
 |tup xs=>obtain⟨z,its,r,ob,e,c⟩:=x;exact⟨z,its,r,ob,k _ _ (.inl rfl) e,c⟩
 |dK kvs=>obtain⟨z,y,vs,r,ob,es,ep,e,c⟩:=x;exact⟨z,y,vs,r,ob,es,ep,k _ _ (.inl rfl) e,c⟩
 | dT kvs=>
   obtain⟨z,y,xs,r,ob,es,ep,e,c⟩:=x;exact⟨z,y,xs,Paired.mapP r fun p q z=>⟨z.1,ht _ _ z.2.1,z.2.2⟩,ob,es,ep,k _ _ (.inl rfl) e,c⟩
 |set S n=>obtain⟨ob,es,ep,t,e,c⟩:=x;exact⟨ob,es,ep,t,k _ _ (.inl rfl) e,c⟩
 | ins C dx fs=>
   obtain⟨d,z,ne,e,mA,⟨od,es,ep,e2,c⟩,r⟩:=x;exact⟨ho _ d,z,ne,k _ _ (.inl rfl) e,mA,⟨od,es,ep,k _ _ (.inr d) e2,c⟩,r⟩
 |own y=>obtain⟨ob,e⟩:=x;exact⟨ob,k _ _ (.inl rfl) e⟩
 |xd fs=>obtain⟨mA,⟨od,es,ep,e,c⟩,r⟩:=x;exact⟨mA,⟨od,es,ep,k _ _ (.inl rfl) e,c⟩,r⟩
 |rng lo hi=>obtain⟨t,u,v,e⟩:=x;exact⟨t,u,v,k _ _ (.inl rfl) e⟩
 |frz ob u ih=>obtain⟨e,q⟩:=x;exact⟨k _ _ (.inl rfl) e,ih q⟩
 | tbl ps=>
   have e:h.get? a=some { cls:=.none,data:=.fields ps }:=x;show h'.get? a=some { cls:=.none,data:=.fields ps };exact k a _ (.inl rfl) e
 | met f y=>
   have e:h.get? a=some (W.methodObj (.ref f) (.ref y)):=x;show h'.get? a=some (W.methodObj (.ref f) (.ref y));exact k a _ (.inl rfl) e
 |ext φ=>obtain⟨p,⟨o,e⟩,st⟩:=x;exact⟨st _ _ p fun o q=>k _ _ (.inl rfl) q,⟨o,k _ _ (.inl rfl) e⟩,st⟩
theorem HOk.lt(x:HOk P w H h)(e:H a=some o):a<h.objs.size:=(x a o e).lt
theorem HOk.fresh(x:HOk P w H h)(e:h.objs.size<=a):H a=none:=by
 cases q:H a with
 |none=>rfl
 |some u=>exact absurd (Nat.lt_of_lt_of_le (x.lt q) e) (Nat.lt_irrefl _)
theorem HOk.kept(x:HOk P w H h)(k:∀b u,h.get? b=some u->h'.get? b=some u):HOk P w H h':=fun a o e=>
 (x a o e).stay (fun b u _ q=>k b u q) (fun _ q=>q) fun _ _ q=>q
theorem HOk.laid(x:HOk P w H h)(k:∀b u,h.get? b=some u->h'.get? b=some u)(hp:h.objs.size<=a)(new:zc8 P w (upd H a o) h' a o):HOk P w (upd H a o) h':=fun b u e=>by
 have hn:=x.fresh hp;by_cases hb:b=a
 ·subst hb;rw[zaj] at e;cases e;exact new
 ·rw[zai hb] at e
  exact(x b u e).stay (fun c v _ q=>k c v q) (fun c q=>by rw[zai (zbv q hn)];exact q) fun c xs q=>by rw[zai (zbv q hn)];exact q
end
def Rd(H:Hp)(a:Addr)(u:HO):Prop:=H a=some u\/∃o,H a=some (.frz o u)
theorem Rd.ok{P:Program}{w:World}{H:Hp}{h:Heap}{a:Addr}{u:HO}(r:Rd H a u)(x:HOk P w H h):zc8 P w H h a u:=by
 rcases r with r | ⟨o,r⟩
 ·exact x a u r
 ·obtain⟨_,q⟩:=x a _ r
  exact q
def Mut:Option HO->Prop
 |some (.lst _)=>True
 |some (.dK _)=>True
 |some (.dT _)=>True
 |some (.set _ _)=>True
 |some (.ins _ _ _)=>True
 |some (.ext _)=>True
 |_=>False
section
variable {P:Program}{w:World}{H:Hp}{h h':Heap}{x e:Addr}{o':HO}
theorem HOk.write(ok:HOk P w H h)(mu:Mut (H x))(he:e=x\/H e=some (.own x))(k:∀b u,b≠e->h.get? b=some u->h'.get? b=some u)(heo:∃u,h'.get? e=some u)
  (new:zc8 P w (upd H x o') h' x o'):HOk P w (upd H x o') h':=fun b u q=>by
 have nown:∀c y,H c=some (.own y)->c≠x:=fun c y r z=>by subst z;rw[r] at mu;exact mu
 have ntup:∀c xs,H c=some (.tup xs)->c≠x:=fun c xs r z=>by subst z;rw[r] at mu;exact mu
 by_cases hb:b=x
 ·subst hb;rw[zaj] at q;cases q;exact new
 ·rw[zai hb] at q
  by_cases hbe:b=e
  ·have q':H b=some (.own x):=by
    rcases he with z | z
    ·exact absurd (hbe.trans z) hb
    ·rw[hbe];exact z
   rw[q] at q';cases q';obtain⟨v,hv⟩:=heo;exact⟨v,by rw[hbe];exact hv⟩
  ·refine(ok b u q).stay (fun c v hc r=>k c v ?_ r) (fun c r=>by rw[zai (nown c b r)];exact r) fun c xs r=>by rw[zai (ntup c xs r)];exact r
   rcases hc with rfl | hc
   ·exact hbe
   ·rintro rfl
    rcases he with z | z
    ·exact nown c b hc z
    ·rw[hc] at z;cases z;exact hb rfl
end
structure Un(fs ex:List Addr)(H H':Hp)(h h':Heap):Prop where
 keep:∀b o,h.get? b=some o->H b=none->b∉fs->b∉ex->h'.get? b=some o
 slot:∀b o,h.get? b=some o->H b=none->b∈fs->b∉ex->∃sl,h'.get? b=some { o with slots:=sl }
 free:∀b o,h.get? b=some o->H b=none->b∉ex->H' b=none
 there:∀b o,h.get? b=some o->b∉ex->∃o',h'.get? b=some o'
 tups:∀b xs,H b=some (.tup xs)->H' b=some (.tup xs)
 frzs:∀b o u,H b=some (.frz o u)->H' b=some (.frz o u)
 tbls:∀b ps,H b=some (.tbl ps)->∃more,H' b=some (.tbl (ps++more))
section
variable {fs fs' ex ex':List Addr}{H H1 H2:Hp}{h h1 h2 h':Heap}{a x e:Addr}{o:HO}
theorem Un.any(u:Un fs ex H H1 h h1){b:Addr}{ob:Obj}(q:h.get? b=some ob)(n:H b=none)(hx:b∉ex):∃sl,h1.get? b=some { ob with slots:=sl }:=by
 by_cases hb:b∈fs
 ·exact u.slot b ob q n hb hx
 ·exact⟨ob.slots,u.keep b ob q n hb hx⟩
theorem Un.kept(k:∀b u,h.get? b=some u->h'.get? b=some u):Un fs ex H H h h':=
 ⟨fun b ob q _ _ _=>k b ob q,fun b ob q _ _ _=>⟨ob.slots,k b ob q⟩,fun _ _ _ n _=>n,fun b ob q _=>⟨ob,k b ob q⟩,fun _ _ q=>q,fun _ _ _ q=>q,fun _ ps q=>⟨#[],by rw[q];simp⟩⟩
theorem Un.refl:Un fs ex H H h h:=Un.kept fun _ _ q=>q
theorem Un.laid(k:∀b u,h.get? b=some u->h'.get? b=some u)(hp:h.objs.size<=a)(hn:H a=none):Un fs ex H (upd H a o) h h' where
 keep:=fun b u q _ _ _=>k b u q
 slot:=fun b u q _ _ _=>⟨u.slots,k b u q⟩
 free:=fun b u q n _=>by rw[zai (Nat.ne_of_lt (Nat.lt_of_lt_of_le (Heap.lt_size q) hp))];exact n
 there:=fun b u q _=>⟨u,k b u q⟩
 tups:=fun b xs q=>by rw[zai (zbv q hn)];exact q
 frzs:=fun b u xs q=>by rw[zai (zbv q hn)];exact q
 tbls:=fun b ps q=>⟨#[],by rw[zai (zbv q hn),q];simp⟩
theorem Un.write(mu:Mut (H x))(he:e=x\/H e=some (.own x))(k:∀b u,b≠e->h.get? b=some u->h'.get? b=some u)(heo:∃u,h'.get? e=some u):Un fs ex H (upd H x o) h h':=by
 have hx:∀b,H b=none->b≠x:=fun b n z=>by subst z;rw[n] at mu;exact mu
 have hb:∀b,H b=none->b≠e:=fun b n z=>by
  subst z;rcases he with r | r
  ·exact hx b n r
  ·rw[n] at r;cases r
 have hm:∀b u,H b=some u->¬Mut (some u)->b≠x:=fun b u q nm z=>by subst z;rw[q] at mu;exact nm mu
 refine⟨fun b u q n _ _=>k b u (hb b n) q,fun b u q n _ _=>⟨u.slots,k b u (hb b n) q⟩,fun b u q n _=>by rw[zai (hx b n)];exact n,fun b u q _=>?_,
  fun b xs q=>by rw[zai (hm b _ q fun z=>z)];exact q,fun b u xs q=>by rw[zai (hm b _ q fun z=>z)];exact q,fun b ps q=>⟨#[],by rw[zai (hm b _ q fun z=>z),q];simp⟩⟩
 by_cases hbe:b=e
 ·subst hbe;exact heo
 ·exact⟨u,k b u hbe q⟩
end
noncomputable def trk(h:Heap)(H:Hp):List Addr:=(List.range h.objs.size).filter fun a=>(H a).isSome
def hidT(h:Heap)(H:Hp):Heap:=W.hideAll h (trk h H)
theorem zx4(h:Heap)(H:Hp):(hidT h H).objs.size=h.objs.size:=W.hideAll_size _ _
theorem z1s{h:Heap}{H:Hp}{b:Addr}{o:Obj}(e:h.get? b=some o)(n:H b=none):(hidT h H).get? b=some o:=
 W.hideAll_get _ e fun hm=>by
  have q:(H b).isSome=true:=(List.mem_filter.mp hm).2;rw[n] at q;simp at q
theorem z48{h:Heap}{H:Hp}{b:Addr}{o:Obj}(e:(hidT h H).get? b=some o):h.get? b=some o/\H b=none:=by
 have e':h.get? b=some o:=W.of_hideAll (trk h H) e;refine⟨e',?_⟩;cases q:H b with
 |none=>rfl
 | some x=>
   have hm:b∈trk h H:=List.mem_filter.mpr ⟨List.mem_range.mpr (Heap.lt_size e'),by simp[q]⟩;have z:(hidT h H).get? b=none:=W.hideAll_none (trk h H) hm;rw[z] at e;cases e
noncomputable def z49(g h:Heap)(L:Addr):List (Addr×Obj):=(List.range h.objs.size).filterMap fun a=>if a=L\/(g.get? a).isSome=true then none else(h.get? a).map fun o=>(a,o)
noncomputable def rest(g h:Heap)(L d:Addr):List (Addr×Obj):=(z49 g h L).filter fun p=>decide (p.1≠d)
structure Mod(K:W.Frag)(mg:Str->Option Value)(base:Heap):Prop where
 kin:K.In base
 glob:base.Ns mainGlobals mg
 blt:∃mb,base.Ns builtinsNs mb/\∀x:Str,x ≠ "__name__" -> mb x=bootBuiltins x
 nolimit:base.NoLimit
structure Cx where
 prog:Program
 w:World
 K:W.Frag
 mg:Str->Option Value
 base:Heap
 A:Around
 N:List Str
 s₀:Shared
 H₀:Hp
 env:Env
 outer:List Env
 stack:List Env
 ex:List Addr
 fn:Str->Bool
 calm:Bool
 pn:List (Addr×Obj)
 xe:Value->Shared->Prop
 kn:List (Option V):=[]
noncomputable def frs(l:List Env):List Addr:=l.filterMap (·.frame)
abbrev Cx.fs(X:Cx):List Addr:=frs X.outer
def Vis(sc:Scope)(x:Str):Prop:=sc.names.lookup x=some .local\/sc.names.lookup x=some .cell\/sc.names.lookup x=some .free
def Loc(sc:Scope)(x:Str):Prop:=sc.names.lookup x=some .local\/sc.names.lookup x=some .cell
def Look(env:Env)(h:Heap)(m:Str->Option Value)(x:Str)(u:Value):Prop:=
 (env.kindOf x=some .local/\m x=some u)\/((env.kindOf x=some .cell\/env.kindOf x=some .free)/\∃c,env.cells.lookup x=some c/\h.IsCell c (some u))
structure Cx.Ok(X:Cx):Prop where
 mod:Mod X.K X.mg X.base
 kind:X.env.scope.kind=.function
 glob:X.env.globals=mainGlobals
 blt:X.env.builtins=builtinsNs
 above:X.s₀.heap.objs.size<=X.env.locals
 inj:∀x y c,X.env.cells.lookup x=some c->X.env.cells.lookup y=some c->x=y
 has:∀x,(X.env.kindOf x=some .cell\/X.env.kindOf x=some .free)->∃c,X.env.cells.lookup x=some c
 cab:∀x c,X.fn x=true->X.env.cells.lookup x=some c->X.s₀.heap.objs.size<=c
 hd:X.calm=true->X.A.handled=none
 frames:X.A.frames=some X.stack
 stk:X.stack=X.outer\/(X.stack=X.env::X.outer/\X.env.frame=some X.env.locals)
 exf:∀b∈X.ex,b≠X.env.locals/\∀x c,X.env.cells.lookup x=some c->c≠b
 bs:∀b o,X.base.get? b=some o->X.s₀.heap.get? b=some o/\X.H₀ b=none
 bsz:X.base.objs.size<=X.s₀.heap.objs.size
 noex:∀b o,X.base.get? b=some o->b∉X.ex
 exfs:∀b∈X.ex,b∉X.fs
 funs:X.s₀.heap.FunFrames X.base X.outer
 frf:∀b∈X.fs,X.H₀ b=none
structure Inv(X:Cx)(pins:List (Addr×Obj))(σ:List (Option V))(H:Hp)(s:Shared):Prop where
 ok:X.Ok
 os:s.os=X.s₀.os
 bare:AllBare s.gens
 base:Un X.fs X.ex X.H₀ H X.s₀.heap s.heap
 loc:∃m,s.heap.Ns X.env.locals m/\∀(i:Nat) (x:Str) (v:V),X.N[i]?=some x->σ[i]?=some (some v)->Vis X.env.scope x->∃u,RelV v u/\Look X.env s.heap m x u
 cell:∀x c,X.env.cells.lookup x=some c->∃v,s.heap.IsCell c v
 free:H X.env.locals=none
 freeC:∀x c,X.env.cells.lookup x=some c->H c=none
 pin:∀p∈X.pn++pins,s.heap.get? p.1=some p.2/\H p.1=none/\p.1≠X.env.locals/\p.1∉X.fs/\∀v,p.2.data≠.cell v
 hok:HOk X.prog X.w H s.heap
 len:σ.length=X.N.length
 kn:∀(i:Nat) (v:V),X.kn[i]?=some (some v)->σ[i]?=some (some v)
section
variable {X:Cx}{pins:List (Addr×Obj)}{σ:List (Option V)}{H H':Hp}{s:Shared}{h':Heap}
theorem Cx.Ok.nofr(ok:X.Ok){b:Addr}{o:Obj}(e:X.base.get? b=some o):b∉X.fs:=fun hb=>by
 have:=(ok.funs.mem hb).1;rw[e] at this;cases this
theorem Inv.bs(I:Inv X pins σ H s):∀b o,X.base.get? b=some o->s.heap.get? b=some o/\H b=none:=fun b o e=>
 ⟨I.base.keep b o (I.ok.bs b o e).1 (I.ok.bs b o e).2 (I.ok.nofr e) (I.ok.noex b o e),I.base.free b o (I.ok.bs b o e).1 (I.ok.bs b o e).2 (I.ok.noex b o e)⟩
theorem Inv.bk(I:Inv X pins σ H s):∀b o,X.base.get? b=some o->s.heap.get? b=some o:=fun b o e=>(I.bs b o e).1
theorem Inv.mod(I:Inv X pins σ H s):Mod X.K X.mg X.base:=I.ok.mod
theorem Inv.kIn(I:Inv X pins σ H s):X.K.In s.heap:=I.ok.mod.kin.keeps I.bk
theorem Inv.fr(I:Inv X pins σ H s):∃m,Fr X.base X.env.locals s.heap m:=
 let ⟨m,hn,_⟩:=I.loc
 ⟨m,hn,I.bk,Nat.le_trans I.ok.bsz I.ok.above⟩
theorem Inv.lt(I:Inv X pins σ H s):X.env.locals<s.heap.objs.size:=let ⟨_,hn,_⟩:=I.loc;hn.lt
theorem Inv.sz(I:Inv X pins σ H s):X.s₀.heap.objs.size<=s.heap.objs.size:=Nat.le_trans I.ok.above (Nat.le_of_lt I.lt)
theorem Inv.nofs(I:Inv X pins σ H s){a:Addr}(h:s.heap.objs.size<=a):a∉X.fs:=fun hb=>by
 obtain⟨_,o,ho,_⟩:=I.ok.funs.mem hb;exact absurd (Nat.lt_of_lt_of_le (Heap.lt_size ho) (Nat.le_trans I.sz h)) (Nat.lt_irrefl _)
theorem Inv.cne(I:Inv X pins σ H s):∀x c,X.env.cells.lookup x=some c->c≠X.env.locals:=fun x c e z=>by
 obtain⟨v,o,ho,hd⟩:=I.cell x c e;obtain⟨m,⟨o',es,ep,ho',hd',_⟩,_⟩:=I.loc;rw[z,ho'] at ho;cases ho;rw[hd'] at hd;cases hd
theorem Inv.funs(I:Inv X pins σ H s):s.heap.FunFrames X.base X.outer:=by
 have all:∀(l:List Env),(∀b∈frs l,b∈X.fs)->X.s₀.heap.FunFrames X.base l->s.heap.FunFrames X.base l:=by
  intro l
  induction l with
  |nil=>intro _ _;trivial
  | cons env r ih=>
    intro hs hl;obtain⟨hk,⟨L,o,hf,hn,ho,hd⟩,hr⟩:=hl;have hL:L∈X.fs:=hs L (by unfold frs;rw[List.filterMap_cons,hf];exact List.mem_cons_self);obtain⟨sl,e⟩:=I.base.slot L o ho (I.ok.frf L hL) hL fun z=>I.ok.exfs L z hL;exact⟨hk,⟨L,_,hf,hn,e,hd⟩,ih (fun b hb=>hs b (by unfold frs;rw[List.filterMap_cons,hf];exact List.mem_cons_of_mem _ hb)) hr⟩
 exact all X.outer (fun _ hb=>hb) I.ok.funs
theorem Inv.stack(I:Inv X pins σ H s):s.heap.FunFrames X.base X.stack:=by
 rcases I.ok.stk with e | ⟨e,hf⟩
 ·rw[e];exact I.funs
 ·rw[e]
  obtain⟨m,hn,_⟩:=I.loc;refine .cons (by rw[I.ok.kind];decide) hf hn ?_ I.funs;exact Heap.get?_none_of_le (Nat.le_trans I.ok.bsz I.ok.above)
theorem Inv.stkSub(I:Inv X pins σ H s):∀b∈frs X.stack,b∈X.env.locals::X.fs:=fun b hb=>by
 rcases I.ok.stk with e | ⟨e,hf⟩
 ·rw[e] at hb;exact List.mem_cons_of_mem _ hb
 ·rw[e] at hb
  unfold frs at hb;rw[List.filterMap_cons,hf] at hb;exact hb
theorem Inv.stkFree(I:Inv X pins σ H s):∀b∈frs X.stack,H b=none:=fun b hb=>by
 rcases List.mem_cons.mp (I.stkSub b hb) with e | hb
 ·rw[e];exact I.free
 ·obtain⟨_,o,ho,_⟩:=I.ok.funs.mem hb
  exact I.base.free b o ho (I.ok.frf b hb) fun z=>I.ok.exfs b z hb
theorem Inv.step{g':Array GenState}{t':Nat}{d':Drawn}{ch:List Addr}(I:Inv X pins σ H s)
  (hch:∀b∈ch,(b∈X.ex\/X.s₀.heap.objs.size<=b)/\b≠X.env.locals/\(∀x c,X.env.cells.lookup x=some c->c≠b)/\∀p∈X.pn++pins,p.1≠b)
  (keep:∀b o,b≠X.env.locals->b∉X.fs->b∉ch->s.heap.get? b=some o->H b=none->h'.get? b=some o)
  (slot:∀b o,b≠X.env.locals->b∈X.fs->b∉ch->s.heap.get? b=some o->H b=none->∃sl,h'.get? b=some { o with slots:=sl }) (free:∀b o,b∉ch->s.heap.get? b=some o->H b=none->H' b=none)
  (there:∀b o,b∉ch->s.heap.get? b=some o->∃o',h'.get? b=some o')
  (tups:∀b xs,H b=some (.tup xs)->H' b=some (.tup xs)) (frzs:∀b o u,H b=some (.frz o u)->H' b=some (.frz o u)) (tbls:∀b ps,H b=some (.tbl ps)->∃more,H' b=some (.tbl (ps++more)))
  (ns:∀m,s.heap.Ns X.env.locals m->h'.Ns X.env.locals m) (hok:HOk X.prog X.w H' h') (hg:AllBare g') :
  Inv X pins σ H' { s with heap:=h',gens:=g',drawn:=d',toks:=t' }:=by
 have neL:∀b o,X.s₀.heap.get? b=some o->b≠X.env.locals:=fun b o e=>Nat.ne_of_lt (Nat.lt_of_lt_of_le (Heap.lt_size e) I.ok.above);have neC:∀b o,X.s₀.heap.get? b=some o->b∉X.ex->b∉ch:=fun b o e hx hb=>by
  rcases(hch b hb).1 with z | z
  ·exact hx z
  ·exact absurd (Nat.lt_of_lt_of_le (Heap.lt_size e) z) (Nat.lt_irrefl _)
 have cellK:∀x c,X.env.cells.lookup x=some c->∀v,s.heap.IsCell c v->h'.IsCell c v:=fun x c e v ⟨o,ho,hd⟩=>by
  have nch:c∉ch:=fun z=>(hch c z).2.2.1 x c e rfl;by_cases hc:c∈X.fs
  ·obtain⟨sl,q⟩:=slot c o (I.cne x c e) hc nch ho (I.freeC x c e)
   exact⟨_,q,hd⟩
  ·exact⟨o,keep c o (I.cne x c e) hc nch ho (I.freeC x c e),hd⟩
 refine⟨I.ok,I.os,hg,⟨fun b o e n hb hx=>?_,fun b o e n hb hx=>?_,fun b o e n hx=>?_,fun b o e hx=>?_,fun b xs e=>tups b xs (I.base.tups b xs e),fun b o xs e=>frzs b o xs (I.base.frzs b o xs e),fun b ps e=>?_⟩,?_,fun x c e=>?_,?_,fun x c e=>?_,fun p hp=>?_,hok,I.len,I.kn⟩
 ·exact keep b o (neL b o e) hb (neC b o e hx) (I.base.keep b o e n hb hx) (I.base.free b o e n hx)
 ·obtain⟨sl,e1⟩:=I.base.slot b o e n hb hx
  obtain⟨sl',e2⟩:=slot b _ (neL b o e) hb (neC b o e hx) e1 (I.base.free b o e n hx);exact⟨sl',e2⟩
 ·obtain⟨o',e1⟩:=I.base.there b o e hx
  exact free b o' (neC b o e hx) e1 (I.base.free b o e n hx)
 ·obtain⟨o',e1⟩:=I.base.there b o e hx
  exact there b o' (neC b o e hx) e1
 ·obtain⟨m1,e1⟩:=I.base.tbls b ps e
  obtain⟨m2,e2⟩:=tbls b _ e1;exact⟨m1++m2,by rw[e2,Array.append_assoc]⟩
 ·obtain⟨m,hn,hl⟩:=I.loc
  refine⟨m,ns m hn,fun i x v e1 e2 e3=>?_⟩;obtain⟨u,r,l⟩:=hl i x v e1 e2 e3;refine⟨u,r,?_⟩;rcases l with l | ⟨k,c,e,z⟩
  ·exact .inl l
  ·exact .inr ⟨k,c,e,cellK x c e _ z⟩
 ·obtain⟨v,z⟩:=I.cell x c e
  exact⟨v,cellK x c e v z⟩
 ·obtain⟨m,⟨o,_,_,ho,_⟩,_⟩:=I.loc
  exact free _ o (fun z=>(hch _ z).2.1 rfl) ho I.free
 ·obtain⟨v,o,ho,hd⟩:=I.cell x c e
  exact free c o (fun z=>(hch c z).2.2.1 x c e rfl) ho (I.freeC x c e)
 ·obtain⟨e,n,ne,nf,d⟩:=I.pin p hp
  have nch:p.1∉ch:=fun z=>(hch p.1 z).2.2.2 p hp rfl;exact⟨keep p.1 p.2 ne nf nch e n,free p.1 p.2 nch e n,ne,nf,d⟩
theorem Inv.un{t':Nat}(I:Inv X pins σ H s)(u:Un X.fs [] H H' s.heap h')(hok:HOk X.prog X.w H' h'):Inv X pins σ H' { s with heap:=h',toks:=t' }:=by
 obtain⟨m,⟨o,es,ep,ho,r⟩,_⟩:=id I.loc;obtain⟨sl,hL⟩:=u.any ho I.free (by simp);exact I.step (g':=s.gens) (d':=s.drawn) (ch:=[]) (fun _ z=>nomatch z) (fun b o _ hb _ e n=>u.keep b o e n hb (by simp)) (fun b o _ hb _ e n=>u.slot b o e n hb (by simp)) (fun b o _ e n=>u.free b o e n (by simp)) (fun b o _ e=>u.there b o e (by simp)) u.tups u.frzs u.tbls (fun m' hm=>by
  obtain⟨o',es',ep',ho',r'⟩:=hm;rw[ho] at ho';cases ho';exact⟨_,es',ep',hL,r'⟩) hok I.bare
theorem Inv.call{g':Array GenState}{t':Nat}{d':Drawn}{ch:List Addr}(I:Inv X pins σ H s)(u:Un (frs X.stack) ch H H' s.heap h')(hok:HOk X.prog X.w H' h')(hg:AllBare g')
  (hch:∀b∈ch,(b∈X.ex\/X.s₀.heap.objs.size<=b)/\b≠X.env.locals/\(∀x c,X.env.cells.lookup x=some c->c≠b)/\∀p∈X.pn++pins,p.1≠b) :
  Inv X pins σ H' { s with heap:=h',gens:=g',drawn:=d',toks:=t' }:=by
 obtain⟨m,⟨o,es,ep,ho,r⟩,_⟩:=id I.loc;obtain⟨sl,hL⟩:=u.any ho I.free fun z=>(hch _ z).2.1 rfl;exact I.step (ch:=ch) hch (fun b o hL hb hc e n=>u.keep b o e n (fun z=>(List.mem_cons.mp (I.stkSub b z)).elim hL hb) hc) (fun b o _ _ hc e n=>u.any e n hc) (fun b o hc e n=>u.free b o e n hc) (fun b o hc e=>u.there b o e hc) u.tups u.frzs u.tbls (fun m' hm=>by
  obtain⟨o',es',ep',ho',r'⟩:=hm;rw[ho] at ho';cases ho';exact⟨_,es',ep',hL,r'⟩) hok hg
theorem Inv.turned{t':Nat}{it:Addr}(I:Inv X pins σ H s)(k:∀b o,b≠it->s.heap.get? b=some o->h'.get? b=some o)(hn:H it=none)(hL:it≠X.env.locals)
  (h1:it∈X.ex\/X.s₀.heap.objs.size<=it) (h2:∀x c,X.env.cells.lookup x=some c->c≠it) (h3:∀p∈X.pn++pins,p.1≠it):Inv X pins σ H { s with heap:=h',toks:=t' }:=by
 have nit:∀b u,H b=some u->b≠it:=fun b u e z=>by rw[z,hn] at e;cases e
 refine I.step (g':=s.gens) (d':=s.drawn) (ch:=[it]) (fun b hb=>?_) (fun b o _ _ hc e _=>k b o (fun z=>hc (by simp[z])) e) (fun b o _ _ hc e _=>⟨o.slots,k b o (fun z=>hc (by simp[z])) e⟩) (fun _ _ _ _ n=>n)
  (fun b o hc e=>⟨o,k b o (fun z=>hc (by simp[z])) e⟩) (fun _ _ e=>e) (fun _ _ _ e=>e) (fun b ps e=>⟨#[],by rw[e];simp⟩) (fun m hm=>?_) (fun b u e=>?_) I.bare
 ·have e:b=it:=by simpa using hb
  subst e;exact⟨h1,hL,h2,h3⟩
 ·obtain⟨o,es,ep,ho,r⟩:=hm
  exact⟨o,es,ep,k _ o (Ne.symm hL) ho,r⟩
 ·refine(I.hok b u e).stay (fun c v hc q=>k c v ?_ q) (fun _ q=>q) fun _ _ q=>q
  rcases hc with z | z
  ·rw[z];exact nit b u e
  ·exact nit c _ z
theorem Inv.tok(I:Inv X pins σ H s)(t:Nat):Inv X pins σ H { s with toks:=t }:=I.un (h':=s.heap) (t':=t) Un.refl I.hok
theorem Inv.kept{t':Nat}(I:Inv X pins σ H s)(k:∀b u,s.heap.get? b=some u->h'.get? b=some u):Inv X pins σ H { s with heap:=h',toks:=t' }:=I.un (Un.kept k) (I.hok.kept k)
theorem Inv.laid{a:Addr}{o:HO}{t':Nat}(I:Inv X pins σ H s)(k:∀b u,s.heap.get? b=some u->h'.get? b=some u)(hp:s.heap.objs.size<=a)(new:zc8 X.prog X.w (upd H a o) h' a o) :
 Inv X pins σ (upd H a o) { s with heap:=h',toks:=t' }:=I.un (Un.laid k hp (I.hok.fresh hp)) (I.hok.laid k hp new)
theorem Inv.write{x e:Addr}{o:HO}{t':Nat}(I:Inv X pins σ H s)(mu:Mut (H x))(he:e=x\/H e=some (.own x))(k:∀b u,b≠e->s.heap.get? b=some u->h'.get? b=some u)(heo:∃u,h'.get? e=some u)
 (new:zc8 X.prog X.w (upd H x o) h' x o):Inv X pins σ (upd H x o) { s with heap:=h',toks:=t' }:=I.un (Un.write mu he k heo) (I.hok.write mu he k heo new)
theorem Inv.weak{σ':List (Option V)}(I:Inv X pins σ H s)(hl:σ'.length=σ.length)(w:∀(i:Nat) v,σ'[i]?=some (some v)->σ[i]?=some (some v))(wk:∀(i:Nat) (v:V),X.kn[i]?=some (some v)->σ'[i]?=some (some v)):Inv X pins σ' H s:=
 ⟨I.ok,I.os,I.bare,I.base,let ⟨m,hn,hl'⟩:=I.loc;⟨m,hn,fun i x v e1 e2 e3=>hl' i x v e1 (w i v e2) e3⟩,I.cell,I.free,I.freeC,I.pin,I.hok,hl.trans I.len,wk⟩
theorem Inv.pins_of{pins':List (Addr×Obj)}(I:Inv X pins σ H s)(h:∀p∈pins',s.heap.get? p.1=some p.2/\H p.1=none/\p.1≠X.env.locals/\p.1∉X.fs/\∀v,p.2.data≠.cell v):Inv X pins' σ H s:=
 ⟨I.ok,I.os,I.bare,I.base,I.loc,I.cell,I.free,I.freeC,fun p hp=>(List.mem_append.mp hp).elim (fun z=>I.pin p (List.mem_append_left _ z)) (h p),I.hok,I.len,I.kn⟩
theorem zo6{N:List Str}(hN:N.Nodup){i j:Nat}{x:Str}(a:N[i]?=some x)(b:N[j]?=some x):i=j:=by
 obtain⟨h1,e1⟩:=List.getElem?_eq_some_iff.mp a;obtain⟨h2,e2⟩:=List.getElem?_eq_some_iff.mp b;exact(List.getElem_inj hN).mp (e1.trans e2.symm)
theorem zmq{M:Model}{A:Around}{E:Value->Shared->Prop}{i:Nat}{x:Str}{v:V}{u:Value}{Q:Unit->Shared->Prop}(I:Inv X pins σ H s)(hN:X.N.Nodup)(hi:X.N[i]?=some x)(hx:Loc X.env.scope x)(r:RelV v u)
  (h:∀s',Inv X pins (σ.set i (some v)) H s'->(∃a,Heap.SameBut a s.heap s'.heap/\(a=X.env.locals\/X.env.cells.lookup x=some a))->Q () s') (hf:X.fn x=true\/X.env.scope.names.lookup x=some .local:=by first | exact .inl rfl | exact .inr rfl | assumption) (hkn:∀u:V,X.kn[i]?≠some (some u):=by first | assumption | exact fun u h=>nomatch (show(none:Option (Option V))=some (some u) from h) | exact fun u h=>nomatch (Option.some.inj (show some (none:Option V)=some (some u) from h))):wpAny M A (storeName X.env x u) Q E s:=by
 obtain⟨m,hn,hl⟩:=id I.loc;have hcls:(X.env.scope.kind==.class || (X.env.scope.kind==.module&&X.env.locals != X.env.globals))=false:=by rw[I.ok.kind];rfl
 have hiσ:i < σ.length:=by rw[I.len];exact(List.getElem?_eq_some_iff.mp hi).1
 have cne:=I.cne;have kn':∀(j:Nat) (v':V),X.kn[j]?=some (some v')->(σ.set i (some v))[j]?=some (some v'):=fun j v' e=>by
  by_cases hj:j=i
  ·subst hj;exact absurd e (hkn v')
  ·rw[List.getElem?_set_ne (Ne.symm hj)];exact I.kn j v' e
 have tracked:∀{a:Addr} {h':Heap},(∃o,s.heap.get? a=some o/\H a=none)->Heap.SameBut a s.heap h'->HOk X.prog X.w H h':=fun {a h'} ha hs b ob e=>by
  obtain⟨_,_,hfree⟩:=ha;refine(I.hok b ob e).stay (fun c w' hc q=>(hs.2 c ?_).trans q) (fun _ q=>q) fun _ _ q=>q;rintro rfl;rcases hc with rfl | hc
  ·rw[hfree] at e;cases e
  ·rw[hfree] at hc;cases hc
 rcases hx with hk | hk
 ·refine wpAny_storeName_local hk hn (fun h' hn' hs=>?_) hcls
  obtain⟨oL,_,_,hoL,_⟩:=id hn;refine h _ ⟨I.ok,I.os,I.bare,⟨fun b o e n hb hx=>?_,fun b o e n hb hx=>?_,I.base.free,fun b o e hx=>?_,I.base.tups,I.base.frzs,I.base.tbls⟩,⟨_,hn',fun j y v' e1 e2 e3=>?_⟩,fun y c e=>?_,I.free,I.freeC,fun p hp=>?_,tracked ⟨oL,hoL,I.free⟩ hs,by simpa using I.len,kn'⟩ ⟨_,hs,.inl rfl⟩
  ·exact(hs.2 b (Nat.ne_of_lt (Nat.lt_of_lt_of_le (Heap.lt_size e) I.ok.above))).trans (I.base.keep b o e n hb hx)
  ·obtain⟨sl,e1⟩:=I.base.slot b o e n hb hx
   exact⟨sl,(hs.2 b (Nat.ne_of_lt (Nat.lt_of_lt_of_le (Heap.lt_size e) I.ok.above))).trans e1⟩
  ·obtain⟨o',e1⟩:=I.base.there b o e hx
   exact⟨o',(hs.2 b (Nat.ne_of_lt (Nat.lt_of_lt_of_le (Heap.lt_size e) I.ok.above))).trans e1⟩
  ·by_cases hj:j=i
   ·subst hj
    rw[hi] at e1;cases e1;rw[List.getElem?_set_self hiσ] at e2;cases e2;exact⟨u,r,.inl ⟨hk,by simp⟩⟩
   ·rw[List.getElem?_set_ne (Ne.symm hj)] at e2
    obtain⟨u',r',q⟩:=hl j y v' e1 e2 e3;refine⟨u',r',?_⟩;rcases q with⟨k,e⟩ | ⟨k,c,e,z⟩
    ·refine .inl ⟨k,?_⟩
     have:y≠x:=fun e=>hj (zo6 hN e1 (e▸hi));simp[this,e]
    ·exact .inr ⟨k,c,e,z.sameBut hs (cne y c e)⟩
  ·obtain⟨w',z⟩:=I.cell y c e
   exact⟨w',z.sameBut hs (cne y c e)⟩
  ·obtain⟨e,n,ne,nf,d⟩:=I.pin p hp
   exact⟨(hs.2 p.1 ne).trans e,n,ne,nf,d⟩
 ·have hfn:X.fn x=true:=by
   rcases hf with z | z
   ·exact z
   ·rw[z] at hk;cases hk
  obtain⟨c,hc⟩:=I.ok.has x (.inl hk);obtain⟨w',z⟩:=I.cell x c hc;refine wpAny_storeName_cell I.ok.kind hk hc z (fun h' hc' hs=>?_);obtain⟨oc,hoc,hocd⟩:=id z;refine h { s with heap:=h' } ⟨I.ok,I.os,I.bare,⟨fun b o e n hb hx=>?_,fun b o e n hb hx=>?_,I.base.free,fun b o e hx=>?_,I.base.tups,I.base.frzs,I.base.tbls⟩,⟨m,hn.sameBut hs (Ne.symm (cne x c hc)),fun j y v' e1 e2 e3=>?_⟩,fun y c' e=>?_,I.free,I.freeC,fun p hp=>?_,tracked ⟨oc,hoc,I.freeC x c hc⟩ hs,by simpa using I.len,kn'⟩ ⟨c,hs,.inr hc⟩
  ·exact(hs.2 b (Nat.ne_of_lt (Nat.lt_of_lt_of_le (Heap.lt_size e) (I.ok.cab x c hfn hc)))).trans (I.base.keep b o e n hb hx)
  ·obtain⟨sl,e1⟩:=I.base.slot b o e n hb hx
   exact⟨sl,(hs.2 b (Nat.ne_of_lt (Nat.lt_of_lt_of_le (Heap.lt_size e) (I.ok.cab x c hfn hc)))).trans e1⟩
  ·obtain⟨o',e1⟩:=I.base.there b o e hx
   exact⟨o',(hs.2 b (Nat.ne_of_lt (Nat.lt_of_lt_of_le (Heap.lt_size e) (I.ok.cab x c hfn hc)))).trans e1⟩
  ·by_cases hj:j=i
   ·subst hj
    rw[hi] at e1;cases e1;rw[List.getElem?_set_self hiσ] at e2;cases e2;exact⟨u,r,.inr ⟨.inl hk,c,hc,hc'⟩⟩
   ·rw[List.getElem?_set_ne (Ne.symm hj)] at e2
    obtain⟨u',r',q⟩:=hl j y v' e1 e2 e3;refine⟨u',r',?_⟩;rcases q with q | ⟨k,c',e,z'⟩
    ·exact .inl q
    ·refine .inr ⟨k,c',e,z'.sameBut hs ?_⟩
     rintro rfl;exact hj (zo6 hN e1 (I.ok.inj _ _ _ e hc▸hi))
  ·by_cases hcc:c'=c
   ·subst hcc;exact⟨_,hc'⟩
   ·obtain⟨w2,z2⟩:=I.cell y c' e
    exact⟨w2,z2.sameBut hs hcc⟩
  ·obtain⟨e,n,ne,nf,d⟩:=I.pin p hp
   refine⟨(hs.2 p.1 ?_).trans e,n,ne,nf,d⟩;intro q;rw[q,hoc] at e;have q':oc=p.2:=Option.some.inj e;exact d w' (by rw[<- q'];exact hocd)
theorem zmd{M:Model}{A:Around}{E:Value->Shared->Prop}{i:Nat}{x:Str}{v:V}{u:Value}{Q:Unit->Shared->Prop}(I:Inv X pins σ H s)(hN:X.N.Nodup)(hi:X.N[i]?=some x)(hx:Loc X.env.scope x)(r:RelV v u)
  (h:∀s',Inv X pins (σ.set i (some v)) H s'->Q () s') (hf:X.fn x=true\/X.env.scope.names.lookup x=some .local:=by first | exact .inl rfl | exact .inr rfl | assumption) (hkn:∀u:V,X.kn[i]?≠some (some u):=by first | assumption | exact fun u h=>nomatch (show(none:Option (Option V))=some (some u) from h) | exact fun u h=>nomatch (Option.some.inj (show some (none:Option V)=some (some u) from h))):wpAny M A (storeName X.env x u) Q E s:=
 zmq I hN hi hx r (fun s' I' _=>h s' I') hf hkn
theorem Inv.call'{s':Shared}{ch:List Addr}(I:Inv X pins σ H s)(ho:s'.os=s.os)(u:Un (frs X.stack) ch H H' s.heap s'.heap)(hok:HOk X.prog X.w H' s'.heap)(hg:AllBare s'.gens)
  (hch:∀b∈ch,(b∈X.ex\/X.s₀.heap.objs.size<=b)/\b≠X.env.locals/\(∀x c,X.env.cells.lookup x=some c->c≠b)/\∀p∈X.pn++pins,p.1≠b):Inv X pins σ H' s':=by
 obtain⟨h',g',d',t',o'⟩:=s';have e:o'=s.os:=ho;subst e;exact I.call (g':=g') (t':=t') (d':=d') u hok hg hch
end
abbrev XK:=Value->Option Addr->Hp->Prop
abbrev St:=List (Option V)
abbrev VK:=V->Hp->Prop
abbrev TE:=St->Hp->VK->Prop
abbrev TT:=St->Hp->(Bool->Hp->Prop)->Prop
abbrev TA:=St->Hp->(List V->Hp->Prop)->Prop
structure Ends where
 nx:St->Hp->Prop
 rt:VK
 bk:St->Hp->Prop:=fun _ _=>False
 ct:St->Hp->Prop:=fun _ _=>False
abbrev TS:=Ends->St->Hp->Prop
def EP(X:Cx)(pins:List (Addr×Obj))(σ:St)(Q:VK)(u:Value)(s':Shared):Prop:=∃v H',Inv X pins σ H' s'/\RelV v u/\Q v H'
def TP(X:Cx)(pins:List (Addr×Obj))(σ:St)(Q:Bool->Hp->Prop)(b:Bool)(s':Shared):Prop:=∃H',Inv X pins σ H' s'/\Q b H'
def AP(X:Cx)(pins:List (Addr×Obj))(σ:St)(Q:List V->Hp->Prop)(us:List Value)(s':Shared):Prop:=∃vs H',Inv X pins σ H' s'/\Vals vs us/\Q vs H'
def SP(X:Cx)(pins:List (Addr×Obj))(D:Ends)(f:Flow)(s':Shared):Prop:=
 match f with
 |.next=>∃σ' H',Inv X pins σ' H' s'/\D.nx σ' H'
 |.brk=>∃σ' H',Inv X pins σ' H' s'/\D.bk σ' H'
 |.cont=>∃σ' H',Inv X pins σ' H' s'/\D.ct σ' H'
 |.ret u=>∃v σ' H',Inv X pins σ' H' s'/\RelV v u/\D.rt v H'
def PE(X:Cx)(e:Expr)(t:TE):Prop:=
 ∀(pins:List (Addr×Obj)) (s:Shared) (σ:St) (H:Hp) (Q:VK),Inv X pins σ H s->t σ H Q->wpAny (model X.prog X.w) X.A (eval e X.env) (EP X pins σ Q) X.xe s
def PT(X:Cx)(e:Expr)(t:TT):Prop:=
 ∀(pins:List (Addr×Obj)) (s:Shared) (σ:St) (H:Hp) (Q:Bool->Hp->Prop),Inv X pins σ H s->t σ H Q->wpAny (model X.prog X.w) X.A (isTrue e X.env (eval e X.env)) (TP X pins σ Q) X.xe s
def PW(X:Cx)(e:Expr)(t:TT):Prop:=
 ∀(whole:Sem Value) (pins:List (Addr×Obj)) (s:Shared) (σ:St) (H:Hp) (Q:Bool->Hp->Prop),Inv X pins σ H s->t σ H Q->wpAny (model X.prog X.w) X.A (isTrue e X.env whole) (TP X pins σ Q) X.xe s
theorem PW.pt{X:Cx}{e:Expr}{t:TT}(h:PW X e t):PT X e t:=h _
def PA(X:Cx)(es:List Expr)(t:TA):Prop:=
 ∀(pos:Pos) (pins:List (Addr×Obj)) (s:Shared) (σ:St) (H:Hp) (Q:List V->Hp->Prop),Inv X pins σ H s->t σ H Q->wpAny (model X.prog X.w) X.A (spliced (backTo pos (starEach es X.env))) (AP X pins σ Q) X.xe s
def PS(X:Cx)(st:Stmt)(t:TS):Prop:=
 ∀(pins:List (Addr×Obj)) (s:Shared) (σ:St) (H:Hp) (D:Ends),Inv X pins σ H s->t D σ H->wpAny (model X.prog X.w) X.A (exec st X.env) (SP X pins D) X.xe s
def PSs(X:Cx)(st:List Stmt)(t:TS):Prop:=
 ∀(pins:List (Addr×Obj)) (s:Shared) (σ:St) (H:Hp) (D:Ends),Inv X pins σ H s->t D σ H->wpAny (model X.prog X.w) X.A (execs st X.env) (SP X pins D) X.xe s
theorem thn{α:Type}{t:Sem α}{Q Q':α->Shared->Prop}{M:Model}{A:Around}{E:Value->Shared->Prop}{s:Shared}(h:wpAny M A t Q E s)(hQ:∀a s,Q a s->Q' a s):wpAny M A t Q' E s:=wpAny_mono h hQ fun _ _ x=>x
section
variable {X:Cx}
theorem bin{a b:Expr}{ta tb:TE}(ha:PE X a ta)(hb:PE X b tb){pins:List (Addr×Obj)}{s:Shared}{σ:St}{H:Hp}{R:V->V->Hp->Prop}(I:Inv X pins σ H s)(h:ta σ H fun x H1=>tb σ H1 fun y H2=>R x y H2)
  {α:Type} {Q:α->Shared->Prop} {f:Value->Value->Sem α}
  (hf:∀v u s2 x y H2,Inv X pins σ H2 s2->RelV x v->RelV y u->R x y H2->wpAny (model X.prog X.w) X.A (f v u) Q X.xe s2) :
  wpAny (model X.prog X.w) X.A (eval a X.env) (fun v s₁=>wpAny (model X.prog X.w) X.A (eval b X.env) (fun u s₂=>wpAny (model X.prog X.w) X.A (f v u) Q X.xe s₂) X.xe s₁) X.xe s:=by
 refine thn (ha pins s σ H _ I h) fun v s1 hq_=>?_;obtain⟨x,H1,I1,r1,q1⟩:=hq_;refine thn (hb pins s1 σ H1 _ I1 q1) fun u s2 hq_=>?_;obtain⟨y,H2,I2,r2,q2⟩:=hq_;exact hf v u s2 x y H2 I2 r1 r2 q2
def tVar(i:Nat):TE:=fun σ H Q=>∃v,σ[i]?=some (some v)/\Q v H
def tC(v:V):TE:=fun _ H Q=>Q v H
theorem zih{i:Nat}{x:Str}{pos:Pos}(hN:X.N[i]?=some x)(hv:Vis X.env.scope x)(hd:(x==("__debug__" : Str))=false:=by decide)(hcd:(x==("__classdict__" : Str))=false:=by decide):PE X (.Name x pos) (tVar i):=by
 intro pins s σ H Q I h;obtain⟨v,e,h⟩:=h;obtain⟨m,hn,hl⟩:=I.loc;obtain⟨u,r,l⟩:=hl i x v hN e hv;have fin:EP X pins σ Q u s:=⟨v,H,I,r,h⟩;rcases l with⟨hk,hm⟩ | ⟨hk,c,hc,hcell⟩
 ·exact wpAny_Name (wpAny_loadName_local I.ok.kind hk hn hm fin) hd
 ·rcases hk with hk | hk
  ·exact wpAny_Name (wpAny_loadName_cell I.ok.kind hk hc hcell fin) hd
  ·exact wpAny_Name (wpAny_loadName_free I.ok.kind hk hc hcell fin hcd) hd
theorem z7z{i j pos}:PE X (.Constant (.int i) j pos) (tC (.int i)):=fun _ _ _ H _ I h=>wpAny_Constant_int ⟨.int i,H,I.tok _,⟨_,rfl⟩,h⟩
theorem Zba{b j pos}:PE X (.Constant (.bool b) j pos) (tC (.bl b)):=fun _ _ _ H _ I h=>Constant_bool ⟨.bl b,H,I,rfl,h⟩
theorem z70{j pos}:PE X (.Constant .none j pos) (tC .non):=fun _ _ _ H _ I h=>Constant_none ⟨.non,H,I,rfl,h⟩
theorem zux{x j pos}:PE X (.Constant (.str x) j pos) (tC (.str x)):=fun _ _ _ H _ I h=>Calls.Constant_str ⟨.str x,H,I.tok _,⟨_,rfl⟩,h⟩
def Gl(X:Cx)(x:Str):Prop:=X.env.kindOf x=some .globalImplicit
theorem zhe{E:Value->Shared->Prop}{pins:List (Addr×Obj)}{s:Shared}{σ:St}{H:Hp}{x:Str}{u:Value}{pos:Pos}{Q:Value->Shared->Prop}(I:Inv X pins σ H s)(hg:Gl X x)(hm:X.mg x=some u)(h:Q u s)
  (hd:(x==("__debug__" : Str))=false:=by decide):wpAny (model X.prog X.w) X.A (eval (.Name x pos) X.env) Q E s:=
 Calls.Name_function_global I.ok.kind hg (Calls.loadGlobal_global (by rw[I.ok.glob];exact I.mod.glob.keeps I.bk) hm h) hd
theorem zmr{E:Value->Shared->Prop}{pins:List (Addr×Obj)}{s:Shared}{σ:St}{H:Hp}{x:Str}{u:Value}{pos:Pos}{Q:Value->Shared->Prop}(I:Inv X pins σ H s)(hg:Gl X x)(hm:X.mg x=none)(hv:bootBuiltins x=some u)(h:Q u s)
  (hn:x ≠ "__name__":=by decide) (hd:(x==("__debug__" : Str))=false:=by decide):wpAny (model X.prog X.w) X.A (eval (.Name x pos) X.env) Q E s:=by
 obtain⟨mb,h1,h2⟩:=I.mod.blt;exact Calls.Name_function_global I.ok.kind hg (Calls.loadGlobal_builtin (by rw[I.ok.glob];exact I.mod.glob.keeps I.bk) hm (by rw[I.ok.blt];exact h1.keeps I.bk) ((h2 x hn).trans hv) h) hd
theorem z5a{x:Str}{v:V}{u:Value}{pos:Pos}(hg:Gl X x)(hm:X.mg x=some u)(r:RelV v u)(hd:(x==("__debug__" : Str))=false:=by decide):PE X (.Name x pos) (tC v):=
 fun _ _ _ H _ I h=>zhe I hg hm ⟨v,H,I,r,h⟩ hd
theorem z5b{x:Str}{v:V}{u:Value}{pos:Pos}(hg:Gl X x)(hm:X.mg x=none)(hv:bootBuiltins x=some u)(r:RelV v u)(hn:x ≠ "__name__":=by decide)(hd:(x==("__debug__" : Str))=false:=by decide):PE X (.Name x pos) (tC v):=
 fun _ _ _ H _ I h=>zmr I hg hm hv ⟨v,H,I,r,h⟩ hn hd
variable {a b:Expr}{ta tb:TE}{pos:Pos}
def PC(X:Cx)(op:CmpOp)(a b:Expr)(t:TE):Prop:=
 ∀ (pins:List (Addr×Obj)) (s:Shared) (σ:St) (H:Hp) (Q:VK),Inv X pins σ H s->t σ H Q ->
   wpAny (model X.prog X.w) X.A (eval a X.env) (fun v s₁=>wpAny (model X.prog X.w) X.A (eval b X.env) (fun u s₂=>wpAny (model X.prog X.w) X.A (compareOp op v u) (EP X pins σ Q) X.xe s₂) X.xe s₁) X.xe s
theorem zuy(b:Expr){op:CmpOp}(h:op≠.In)(h2:op≠.NotIn):behindInMarks op b=false:=by
 have e1:(op==CmpOp.In)=false:=by cases op<;>first | rfl | exact absurd rfl h
 have e2:(op==CmpOp.NotIn)=false:=by cases op<;>first | rfl | exact absurd rfl h2
 cases b<;>simp[behindInMarks,e1,e2]
def tB(t:TE):TT:=fun σ H Q=>t σ H fun x H1=>∃c,x=.bl c/\Q c H1
theorem z71{op:CmpOp}{t:TE}(h:PC X op a b t)(h1:behindInMarks op b=false:=by first | exact zuy _ (by decide) (by decide) | rfl):PE X (.Compare a [op] [b] pos) t:=fun pins s σ H Q I hw=>wpAny_Compare1 (h pins s σ H Q I hw) h1
theorem z3u{op:CmpOp}{t:TE}(h:PC X op a b t)(h1:behindInMarks op b=false:=by first | exact zuy _ (by decide) (by decide) | rfl):PT X (.Compare a [op] [b] pos) (tB t):=by
 intro pins s σ H Q I hw;refine wpAny_isTrue_Compare1 (thn (h pins s σ H _ I hw) fun v s1 h1=>thn h1 fun u s2 h2=>thn h2 fun c s3 hq_=>?_) h1;obtain⟨x,H1,I1,r1,q1⟩:=hq_;obtain⟨d,rfl,q⟩:=q1;cases r1;exact wpAny_truthy_bool ⟨H1,I1,q⟩
variable {tA tB':TT}{rest:List Expr}
def tAnd(t u:TT):TT:=fun σ H Q=>t σ H fun c H1=>if c=true then u σ H1 Q else Q false H1
def tOr(t u:TT):TT:=fun σ H Q=>t σ H fun c H1=>if c=true then Q true H1 else u σ H1 Q
def tNot(t:TT):TT:=fun σ H Q=>t σ H fun c H1=>Q (!c) H1
theorem z5c(ha:PT X a tA):PW X (.BoolOp .And [a] pos) tA:=by
 intro wh pins s σ H Q I h;refine isTrue_and (thn (ha pins s σ H Q I h) fun c s1 e=>?_);cases c with
 |true=>exact isTrue_and_nil e
 |false=>exact e
theorem z72(ha:PT X a tA):PW X (.BoolOp .Or [a] pos) tA:=by
 intro wh pins s σ H Q I h;refine isTrue_or (thn (ha pins s σ H Q I h) fun c s1 e=>?_);cases c with
 |false=>exact isTrue_or_nil e
 |true=>exact e
theorem z73(ha:PT X a tA)(hb:PW X (.BoolOp .And (b::rest) pos) tB'):PW X (.BoolOp .And (a::b::rest) pos) (tAnd tA tB'):=by
 intro wh pins s σ H Q I h;refine isTrue_and (thn (ha pins s σ H _ I h) fun c s1 hq_=>?_);obtain⟨H1,I1,q1⟩:=hq_;cases c with
 |true=>exact hb wh pins s1 σ H1 Q I1 q1
 |false=>exact⟨H1,I1,q1⟩
theorem Zbb(ha:PT X a tA)(hb:PW X (.BoolOp .Or (b::rest) pos) tB'):PW X (.BoolOp .Or (a::b::rest) pos) (tOr tA tB'):=by
 intro wh pins s σ H Q I h;refine isTrue_or (thn (ha pins s σ H _ I h) fun c s1 hq_=>?_);obtain⟨H1,I1,q1⟩:=hq_;cases c with
 |true=>exact⟨H1,I1,q1⟩
 |false=>exact hb wh pins s1 σ H1 Q I1 q1
theorem z74(ha:PT X a tA):PT X (.UnaryOp .Not a pos) (tNot tA):=by
 intro pins s σ H Q I h;exact isTrue_not (ha pins s σ H (fun c H1=>Q (!c) H1) I h)
def Zbc(ta tb:TE):TE:=fun σ H Q=>ta σ H fun x H1=>∃c,x=.bl c/\if c=true then tb σ H1 Q else Q (.bl false) H1
theorem z75{op}{t:TE}(h:PE X a t):PE X (.BoolOp op [a] pos) t:=fun pins s σ H Q I hw=>BoolOp_one (h pins s σ H Q I hw)
theorem z76(ha:PE X a ta)(hb:PE X (.BoolOp .And (b::rest) pos) tb):PE X (.BoolOp .And (a::b::rest) pos) (Zbc ta tb):=by
 intro pins s σ H Q I h;refine BoolOp_and (thn (ha pins s σ H _ I h) fun v s1 hq_=>?_);obtain⟨x,H1,I1,r1,q1⟩:=hq_;obtain⟨c,rfl,q1⟩:=q1;cases r1;refine wpAny_truthy_bool ?_;cases c with
 |true=>exact hb pins s1 σ H1 Q I1 q1
 |false=>exact⟨.bl false,H1,I1,rfl,q1⟩
def tIf(t:TT)(ta tb:TE):TE:=fun σ H Q=>t σ H fun c H1=>if c=true then ta σ H1 Q else tb σ H1 Q
theorem z1t{c:Expr}(hc:PT X c tA)(ha:PE X a ta)(hb:PE X b tb):PE X (.IfExp c a b pos) (tIf tA ta tb):=by
 intro pins s σ H Q I h;refine wpAny_IfExp (thn (hc pins s σ H _ I h) fun d s1 hq_=>?_);obtain⟨H1,I1,q1⟩:=hq_;cases d with
 |true=>exact ha pins s1 σ H1 Q I1 q1
 |false=>exact hb pins s1 σ H1 Q I1 q1
end
def SqL(K:W.Frag)(H:Hp)(a:Addr)(xs:List V):Prop:=
 Rd H a (.lst xs) \/
  ∃(o:Obj) (its:Array Value) (n:Nat),K.lookup a=some o/\o.cls=.type "list" /\ o.dict=none/\o.data=.seq its n/\its.size<=sizeLine/\Vals xs its.toList
def SqT(K:W.Frag)(H:Hp)(a:Addr)(xs:List V):Prop:=
 Rd H a (.tup xs) \/
  ∃(o:Obj) (its:Array Value) (n:Nat),K.lookup a=some o/\o.cls=.type "tuple" /\ o.data=.seq its n/\its.size<=sizeLine/\Vals xs its.toList
noncomputable def absV:Value->Option V
 |.none=>some .non
 |.bool b=>some (.bl b)
 |.int i _=>some (.int i)
 |.str x _=>some (.str x)
 |.bytes b _=>some (.byt b)
 |.float b _=>some (.flt b)
 |.ref a=>some (.ref a)
 |.type n=>some (.ty n)
 |_=>none
theorem RelV.abs{x:V}{u:Value}(r:RelV x u):absV u=some x:=by
 cases x with
 |non=>cases r;rfl
 |bl _=>cases r;rfl
 |int _=>obtain⟨t,rfl⟩:=r;rfl
 |str _=>obtain⟨t,rfl⟩:=r;rfl
 |byt _=>obtain⟨t,rfl⟩:=r;rfl
 |flt _=>obtain⟨t,rfl⟩:=r;rfl
 |ref _=>cases r;rfl
 |ty _=>cases r;rfl
theorem RelV.inj{x y:V}{u:Value}(r:RelV x u)(q:RelV y u):x=y:=Option.some.inj (r.abs.symm.trans q.abs)
theorem Vals.inj:∀{xs ys:List V} {us:List Value},Vals xs us->Vals ys us->xs=ys
 |_,_,_,.nil,.nil=>rfl
 |_,_,_,.cons r t,.cons r' t'=>by rw[r.inj r',Vals.inj t t']
section
variable {X:Cx}{pins:List (Addr×Obj)}{σ:St}{H:Hp}{s:Shared}{a:Addr}{xs ys:List V}
theorem Inv.list(I:Inv X pins σ H s)(h:SqL X.K H a xs):∃its:List Value,Vals xs its/\PlainL s.heap a its.toArray/\xs.length<=sizeLine:=by
 rcases h with h | ⟨o,its,n,hk,hc,hd,hs,hz,r⟩
 ·obtain⟨z,its,n,r,e⟩:=h.ok I.hok
  exact⟨its,r,⟨_,n,e,rfl,rfl,rfl⟩,z⟩
 ·refine⟨its.toList,r,⟨o,n,I.kIn a o hk,hc,hd,by simpa using hs⟩,?_⟩
  have e:=r.length;simp only[Array.length_toList] at e;omega
theorem Inv.tuple(I:Inv X pins σ H s)(h:SqT X.K H a xs):∃its:List Value,Vals xs its/\IsTup s.heap a its.toArray/\xs.length<=sizeLine:=by
 rcases h with h | ⟨o,its,n,hk,hc,hs,hz,r⟩
 ·obtain⟨z,its,r,p⟩:=h.ok I.hok
  exact⟨its,r,p,z⟩
 ·refine⟨its.toList,r,⟨o,I.kIn a o hk,hc,n,by simpa using hs⟩,?_⟩
  have e:=r.length;simp only[Array.length_toList] at e;omega
theorem Inv.list_inj(I:Inv X pins σ H s)(h:SqL X.K H a xs)(h':SqL X.K H a ys):xs=ys:=by
 obtain⟨its,r,⟨o,n,e,_,_,d⟩,_⟩:=I.list h;obtain⟨its',r',⟨o',n',e',_,_,d'⟩,_⟩:=I.list h';rw[e] at e';cases e';rw[d] at d';injection d' with d1 _;have:its=its':=by simpa using congrArg Array.toList d1
 subst this;exact r.inj r'
end
abbrev Cx.wish(X:Cx)(E:Value->Shared->Prop):Cx:={ X with xe:=E }
section
variable {X:Cx}{st:Stmt}{rest:List Stmt}{t u:TS}{e:Expr}{te:TE}{pos:Pos}
def Zbd:TS:=fun D σ H=>D.nx σ H
def tSeq(t u:TS):TS:=fun D σ H=>t { D with nx:=u D } σ H
theorem z5d:PSs X [] Zbd:=fun _ _ σ H _ I h=>wpAny_execs_nil ⟨σ,H,I,h⟩
theorem zme(h1:PS X st t)(h2:PSs X rest u):PSs X (st::rest) (tSeq t u):=by
 intro pins s σ H D I h;refine wpAny_execs_cons (thn (h1 pins s σ H { D with nx:=u D } I h) fun f s1 q=>?_);cases f with
 | next=>
   obtain⟨σ',H',I',q⟩:=q;exact h2 pins s1 σ' H' D I' q
 |ret v=>exact q
 |brk=>exact q
 |cont=>exact q
theorem zs1(h1:PS X st t):PSs X [st] t:=by
 intro pins s σ H D I h;refine wpAny_execs_cons (thn (h1 pins s σ H D I h) fun f s1 q=>?_);cases f with
 |next=>exact wpAny_execs_nil q
 |ret v=>exact q
 |brk=>exact q
 |cont=>exact q
theorem Inv.quiet{pins:List (Addr×Obj)}{σ:St}{H:Hp}{s:Shared}(I:Inv X pins σ H s):interactive X.env=false:=by simp[interactive,I.ok.kind]
def z5e(te:TE):TS:=fun D σ H=>te σ H fun _ H1=>D.nx σ H1
theorem zs2(he:PE X e te)(hs:swapsWith e none pos.line X.env=pure false:=by rfl):PS X (.Expr e pos) (z5e te):=by
 intro pins s σ H D I h;exact wpAny_Expr_any (thn (he pins s σ H _ I h) fun v s1 ⟨x,H1,I1,r1,q1⟩=>⟨σ,H1,I1,q1⟩) I.quiet hs
def tRet(te:TE):TS:=fun D σ H=>te σ H D.rt
theorem z77(he:PE X e te):PS X (.Return (some e) pos) (tRet te):=by
 intro pins s σ H D I h;exact wpAny_Return_some (thn (he pins s σ H _ I h) fun v s1 ⟨x,H1,I1,r1,q1⟩=>⟨x,σ,H1,I1,r1,q1⟩)
def tIfS(c:TT)(t u:TS):TS:=fun D σ H=>c σ H fun b H1=>if b=true then t D σ H1 else u D σ H1
theorem Zbe{c:Expr}{a b:List Stmt}{tc:TT}(hc:PT X c tc)(ha:PSs X a t)(hb:PSs X b u):PS X (.If c a b pos) (tIfS tc t u):=by
 intro pins s σ H D I h;refine wpAny_If (thn (hc pins s σ H _ I h) fun d s1 hq_=>?_);obtain⟨H1,I1,q1⟩:=hq_;cases d with
 |true=>exact ha pins s1 σ H1 D I1 q1
 |false=>exact hb pins s1 σ H1 D I1 q1
end
abbrev TG:=V->St->Hp->(St->Hp->Prop)->Prop
abbrev TGs:=List V->St->Hp->(St->Hp->Prop)->Prop
def PG(X:Cx)(target:Expr)(t:TG):Prop:=
 ∀ (pins:List (Addr×Obj)) (s:Shared) (σ:St) (H:Hp) (v:V) (u:Value) (Q:St->Hp->Prop),Inv X pins σ H s->RelV v u->t v σ H Q ->
   wpAny (model X.prog X.w) X.A (assign target X.env u) (fun _ s'=>∃σ' H',Inv X pins σ' H' s'/\Q σ' H') X.xe s
def PGs(X:Cx)(ts:List Expr)(t:TGs):Prop:=
 ∀ (pins:List (Addr×Obj)) (s:Shared) (σ:St) (H:Hp) (vs:List V) (us:List Value) (Q:St->Hp->Prop),Inv X pins σ H s->Vals vs us->t vs σ H Q ->
   wpAny (model X.prog X.w) X.A (assignInOrder ((assignEach ts X.env).map (·.2)) us) (fun _ s'=>∃σ' H',Inv X pins σ' H' s'/\Q σ' H') X.xe s
section
variable {X:Cx}{pos:Pos}
def zn0(i:Nat):TG:=fun v σ H Q=>Q (σ.set i (some v)) H
theorem zbi{i:Nat}{x:Str}(hN:X.N.Nodup)(hi:X.N[i]?=some x)(hx:Loc X.env.scope x)(hf:X.fn x=true\/X.env.scope.names.lookup x=some .local:=by first | exact .inl rfl | exact .inr rfl | assumption)(hkn:∀u:V,X.kn[i]?≠some (some u):=by first | assumption | exact fun u h=>nomatch (show(none:Option (Option V))=some (some u) from h) | exact fun u h=>nomatch (Option.some.inj (show some (none:Option V)=some (some u) from h))):PG X (.Name x pos) (zn0 i):=by
 intro pins s σ H v u Q I r h;exact wpAny_assign_Name (zmd I hN hi hx r (fun s' I'=>⟨_,H,I',h⟩) hf hkn)
def gNil:TGs:=fun vs σ H Q=>vs=[]/\Q σ H
def z5f(t:TG)(u:TGs):TGs:=fun vs σ H Q=>∃v r,vs=v::r/\t v σ H fun σ' H'=>u r σ' H' Q
theorem zx5:PGs X [] gNil:=by
 intro pins s σ H vs us Q I r h;obtain⟨e,h⟩:=h;subst e;cases r;exact assignInOrder_nil ⟨σ,H,I,h⟩
theorem zmf{e:Expr}{es:List Expr}{t:TG}{u:TGs}(h1:PG X e t)(h2:PGs X es u)
  (hs:(assignEach (e::es) X.env).map (·.2)=assign e X.env::(assignEach es X.env).map (·.2):=by rfl):PGs X (e::es) (z5f t u):=by
 intro pins s σ H vs us Q I r h;obtain⟨v,vr,e1,h⟩:=h;subst e1;cases r with
 | cons r rr=>
   rw[hs];refine assignInOrder_cons (thn (h1 pins s σ H _ _ _ I r h) fun _ s1 hq_=>?_);obtain⟨σ1,H1,I1,q1⟩:=hq_;exact h2 pins s1 σ1 H1 _ _ Q I1 rr q1
def gTup(K:W.Frag)(n:Nat)(t:TGs):TG:=fun v σ H Q=>∃a xs,v=.ref a/\SqT K H a xs/\xs.length=n/\t xs σ H Q
theorem z3v{es:List Expr}{k:Nat}{t:TGs}{n:Nat}(hc:X.calm=true)(h:PGs X es t)
  (hn:(assignEach es X.env).length=n:=by rfl) (hst:(assignEach es X.env).findIdx? (·.1)=none:=by rfl):PG X (.Tuple es k pos) (gTup X.K n t):=by
 intro pins s σ H v u Q I r hw;obtain⟨a,xs,e1,hq,hl,hw⟩:=hw;subst e1;cases r;obtain⟨its,rv,ht,hz⟩:=I.tuple hq;refine assign_Tuple_tuple (I.ok.hd hc) ht (by simp[hn,<- hl,rv.length]) hst fun h' hx=>?_;have I1:Inv X pins σ H { s with heap:=h' }:=I.kept (t':=s.toks) fun b o e=>hx b o (Nat.ne_of_lt (Heap.lt_size e)) e;exact h pins _ σ H xs _ Q I1 (by simpa using rv) hw
def tAsg(te:TE)(g:TG):TS:=fun D σ H=>te σ H fun x H1=>g x σ H1 D.nx
theorem z78{i:Nat}{x:Str}{e:Expr}{te:TE}{pos':Pos}(hN:X.N.Nodup)(hi:X.N[i]?=some x)(hx:Loc X.env.scope x)(he:PE X e te)(hs:swapsWith e (some (.Name x pos')) pos.line X.env=pure false:=by rfl)(hf:X.fn x=true\/X.env.scope.names.lookup x=some .local:=by first | exact .inl rfl | exact .inr rfl | assumption)(hkn:∀u:V,X.kn[i]?≠some (some u):=by first | assumption | exact fun u h=>nomatch (show(none:Option (Option V))=some (some u) from h) | exact fun u h=>nomatch (Option.some.inj (show some (none:Option V)=some (some u) from h))) :
  PS X (.Assign [.Name x pos'] e pos) (tAsg te (zn0 i)):=by
 intro pins s σ H D I h;refine wpAny_Assign_Name (thn (he pins s σ H _ I h) fun v s1 hq_=>?_) hs;obtain⟨y,H1,I1,r1,q1⟩:=hq_;exact zmd I1 hN hi hx r1 (fun s2 I2=>⟨_,H1,I2,q1⟩) hf hkn
end
section
variable {X:Cx}{pos:Pos}
def z79(c:TT)(tb:TS):TS:=fun D σ H=>∃W:Nat->St->Hp->Prop,(∃m,W m σ H)/\∀m σ H,W m σ H ->
 c σ H fun b H1=>if b=true then∃N:St->Hp->Prop,(∀σ' H',N σ' H'->∃m',m'<m/\W m' σ' H')/\tb { D with nx:=N,ct:=N,bk:=D.nx } σ H1 else D.nx σ H1
theorem z1u{c:Expr}{body:List Stmt}{tc:TT}{tb:TS}(hp:PassesOwn (model X.prog X.w) X.A X.env X.xe)(hc:PT X c tc)(hb:PSs X body tb):PS X (.While c body [] pos) (z79 tc tb):=by
 intro pins s σ H D I h;obtain⟨W,⟨m0,w0⟩,turn⟩:=h;refine wpAny_While (codeAny_whileLoop (fun n s'=>∃σ' H',Inv X pins σ' H' s'/\W n σ' H') ?_ m0 ⟨σ,H,I,w0⟩);rintro n s1 ⟨σ1,H1,I1,w1⟩;refine wpAny_passesOwn hp (thn (hc pins s1 σ1 H1 _ I1 (turn n σ1 H1 w1)) fun b s2 hq_=>?_);obtain⟨H2,I2,q2⟩:=hq_;cases b with
 | true=>
   obtain⟨N,hN,q2⟩:=q2;rw[if_pos rfl];refine wpAny_passesOwn hp (thn (hb pins s2 σ1 H2 _ I2 q2) fun f s3 q3=>?_);cases f with
   | next=>
     obtain⟨σ3,H3,I3,n3⟩:=q3;obtain⟨m',hm,w3⟩:=hN σ3 H3 n3;exact⟨m',hm,σ3,H3,I3,w3⟩
   | cont=>
     obtain⟨σ3,H3,I3,n3⟩:=q3;obtain⟨m',hm,w3⟩:=hN σ3 H3 n3;exact⟨m',hm,σ3,H3,I3,w3⟩
   |brk=>exact q3
   |ret v=>exact q3
 | false=>
   rw[if_neg Bool.false_ne_true];exact wpAny_execs_nil ⟨σ1,H2,I2,q2⟩
end
structure It where
 go:Nat->Hp->Prop
 yld:Nat->Hp->V->Hp->Prop
 stop:Nat->Hp->Prop
def FpOk(X:Cx)(pins:List (Addr×Obj))(H:Hp)(b:Addr):Prop:=
 H b=none/\b≠X.env.locals/\b∉X.fs/\(b∈X.ex\/X.s₀.heap.objs.size<=b)/\(∀x c,X.env.cells.lookup x=some c->c≠b)/\∀p∈X.pn++pins,p.1≠b
theorem Inv.fpOk{X:Cx}{pins:List (Addr×Obj)}{σ:St}{H H':Hp}{s:Shared}{b:Addr}(I:Inv X pins σ H s)(hb:s.heap.objs.size<=b)(hn:H' b=none):FpOk X pins H' b:=by
 refine⟨hn,Nat.ne_of_gt (Nat.lt_of_lt_of_le I.lt hb),I.nofs hb,.inr (Nat.le_trans I.sz hb),fun x c e z=>?_,fun p hp z=>?_⟩
 ·obtain⟨v,q⟩:=I.cell x c e
  exact absurd (Nat.lt_of_lt_of_le q.lt (by rw[z];exact hb)) (Nat.lt_irrefl _)
 ·exact absurd (Nat.lt_of_lt_of_le (Heap.lt_size (I.pin p hp).1) (by rw[z];exact hb)) (Nat.lt_irrefl _)
structure Turn(P:Program)(w:World)(K:W.Frag)(tg:Expr)(J:It)(fp:List Addr)(it:Addr)(tn:Nat->Heap->Prop):Prop where
 mem:it∈fp
 obj:∀i h,tn i h->∀b∈fp,∃o,h.get? b=some o/\∀v,o.data≠.cell v
 keep:∀i h h',tn i h->(∀b∈fp,∀o,h.get? b=some o->h'.get? b=some o)->tn i h'
 item:∀(X:Cx),X.prog=P->X.w=w->X.K=K->X.calm=true->∀(i:Nat) (pins:List (Addr×Obj)) (s:Shared) (σ:St) (H:Hp) (E:Value->Shared->Prop),Inv X pins σ H s->(∀b∈fp,FpOk X pins H b)->tn i s.heap->J.go i H ->
  wpAny (model P w) X.A (pyNext (.ref it)) (fun r s1=>∃u,r=some u /\
   wpAny (model P w) X.A (letOwnedTupleGo tg (.ref it) u) (fun _ s2=>∃x H',Inv X pins σ H' s2/\RelV x u/\J.yld i H x H'/\tn (i+1) s2.heap/\∀b∈fp,H' b=none) E s1) E s
 done:∀(X:Cx),X.prog=P->X.w=w->X.K=K->X.calm=true->∀(i:Nat) (pins:List (Addr×Obj)) (s:Shared) (σ:St) (H:Hp) (E:Value->Shared->Prop),Inv X pins σ H s->(∀b∈fp,FpOk X pins H b)->tn i s.heap->J.stop i H ->
  wpAny (model P w) X.A (pyNext (.ref it)) (fun r s1=>r=none/\Inv X pins σ H s1) E s
 self:∀(A:Around) (i:Nat) (s:Shared) (Q:Value->Shared->Prop) (E:Value->Shared->Prop),tn i s.heap->Q (.ref it) s->wpAny (model P w) A (pyIter (.ref it)) Q E s
abbrev TI:=St->Hp->(It->Hp->Prop)->Prop
def PIE(X:Cx)(pins:List (Addr×Obj))(σ:St)(tg:Expr)(R:It->Hp->Prop)(itv:Value)(s2:Shared):Prop:=
 ∃(it:Addr) (fp:List Addr) (tn:Nat->Heap->Prop) (J:It) (H':Hp),itv=.ref it/\Inv X pins σ H' s2/\Turn X.prog X.w X.K tg J fp it tn/\tn 0 s2.heap/\(∀b∈fp,FpOk X pins H' b)/\R J H'
def PI(X:Cx)(tg iter:Expr)(wi:TI):Prop:=
 ∀ (pins:List (Addr×Obj)) (s:Shared) (σ:St) (H:Hp) (R:It->Hp->Prop),Inv X pins σ H s->wi σ H R ->
   wpAny (model X.prog X.w) X.A (eval iter X.env) (fun v s1=>wpAny (model X.prog X.w) X.A (pyIter v) (PIE X pins σ tg R) X.xe s1) X.xe s
theorem z5g{M:Model}{A:Around}{E:Value->Shared->Prop}{s:Shared}{tg:Expr}{it:Addr}{u:Value}{o:Obj}{n:String}{vs:Array Value}{Q:Unit->Shared->Prop}(ho:s.heap.get? it=some o)(hc:o.cls=.type n)(hd:o.data=.fields vs)
  (hn:["enumerate", "zip", "dict_itemiterator", "dict_reverseitemiterator", "odict_iterator", "itertools.zip_longest", "itertools.pairwise"].contains n=false) (hQ:Q () s):wpAny M A (letOwnedTupleGo tg (.ref it) u) Q E s:=by
 unfold letOwnedTupleGo;cases tg<;>first
  |exact wpAny_pure hQ
  |(cases u<;>first
   |exact wpAny_pure hQ
   | (refine wpAny_bind (wpAny_load ho ?_)
      rw[hc,hd];show wpAny M A (if(["enumerate", "zip", "dict_itemiterator", "dict_reverseitemiterator", "odict_iterator", "itertools.zip_longest", "itertools.pairwise"].contains n&&vs[0]?==some (rawInt _))=true then _ else _) Q E s;rw[if_neg (by intro h;rw[hn,Bool.false_and] at h;cases h)];exact wpAny_pure hQ))
def Itl(K:W.Frag)(a:Addr):It:=
 ⟨fun i H=>∃xs x,SqL K H a xs/\xs[i]?=some x,fun i H x H'=>H'=H/\∀xs,SqL K H a xs->xs[i]?=some x,fun i H=>∃xs,SqL K H a xs/\xs.length<=i⟩
def Itr(lo:Int)(n:Nat):It:=⟨fun i _=>i<n,fun i H x H'=>H'=H/\x=.int (lo+i),fun i _=>n<=i⟩
theorem zx6{P:Program}{w:World}{K:W.Frag}{tg:Expr}(a it:Addr):Turn P w K tg (Itl K a) [it] it (fun i h=>h.IsListIter it a i) where
 mem:=by simp
 obj:=fun i h st b hb=>by
  have e:b=it:=by simpa using hb
  subst e;obtain⟨o,e,c,d⟩:=st;exact⟨o,e,fun v z=>by rw[d] at z;cases z⟩
 keep:=fun i h h' st k=>st.at fun o e=>k it (by simp) o e
 item:=by
  intro X hP hw hK hc i pins s σ H E I hf st hg;subst hP hw hK;obtain⟨xs,x,hq,hx⟩:=hg;obtain⟨its,rv,p,hz⟩:=I.list hq;obtain⟨u,hu,ru⟩:=rv.get hx;obtain⟨f0,f1,f2,f3,f4,f5⟩:=hf it (by simp);refine wpAny_pyNext_list_item st p.isList (x:=u) (by simpa using hu) fun h' st' sb=>?_;have I1:Inv X pins σ H { s with heap:=h' }:=I.turned (t':=s.toks) (fun b o hb e=>(sb.2 b hb).trans e) f0 f1 f3 f4 f5;obtain⟨o,e,c,d⟩:=id st';exact⟨u,rfl,z5g (s:={ s with heap:=h' }) e c d (by decide) ⟨x,H,I1,ru,⟨rfl,fun ys hy=>by rw[I.list_inj hy hq];exact hx⟩,st',fun b hb=>(hf b hb).1⟩⟩
 done:=by
  intro X hP hw hK hc i pins s σ H E I hf st hg;subst hP hw hK;obtain⟨xs,hq,hx⟩:=hg;obtain⟨its,rv,p,hz⟩:=I.list hq;obtain⟨f0,f1,f2,f3,f4,f5⟩:=hf it (by simp);have hl:=rv.length;exact wpAny_pyNext_list_end (I.ok.hd hc) st p.isList (by simp;omega) fun h' eb=>⟨rfl,I.turned (t':=s.toks) (fun b o hb e=>eb b o hb e) f0 f1 f3 f4 f5⟩
 self:=fun _ _ _ _ _ st h=>wpAny_pyIter_listiter st h
theorem zwp{P:Program}{w:World}{K:PySem.W.Frag}{tg:Expr}(it:Addr)(lo:Int)(n:Nat):Turn P w K tg (Itr lo n) [it] it (fun i h=>IsRangeIter h it (lo+(i:Nat)*1) ((n:Int)-(i:Nat)) 1) where
 mem:=by simp
 obj:=fun i h st b hb=>by
  have e:b=it:=by simpa using hb
  subst e;exact⟨_,st,fun v z=>by
   have z':Data.fields _=Data.cell v:=z;cases z'⟩
 keep:=fun i h h' st k=>k it (by simp) _ st
 item:=by
  intro X hP hw hK hc i pins s σ H E I hf st hg;subst hP hw hK;obtain⟨f0,f1,f2,f3,f4,f5⟩:=hf it (by simp);have W:=Walks.range (prog:=X.prog) (w:=X.w) (I.ok.hd hc) it lo 1 n;refine W.item i s _ _ hg st fun v h' tk hv st' kk=>?_;obtain⟨t,rfl⟩:=hv;have I1:Inv X pins σ H { s with heap:=h',toks:=tk }:=I.turned (fun b o hb e=>kk b o (by simpa using hb) e) f0 f1 f3 f4 f5;refine⟨_,rfl,z5g (s:={ s with heap:=h',toks:=tk }) (n := "range_iterator") st' rfl rfl (by decide) ⟨.int (lo+i),H,I1,⟨t,?_⟩,⟨rfl,rfl⟩,st',fun b hb=>(hf b hb).1⟩⟩;rw[Int.mul_one]
 done:=by
  intro X hP hw hK hc i pins s σ H E I hf st hg;subst hP hw hK;obtain⟨f0,f1,f2,f3,f4,f5⟩:=hf it (by simp);exact wpAny_pyNext_range_end (I.ok.hd hc) st (by have:n<=i:=hg;omega) fun h' eb=>⟨rfl,I.turned (t':=s.toks) (fun b o hb e=>eb b o hb e) f0 f1 f3 f4 f5⟩
 self:=fun _ _ _ _ _ st h=>wpAny_pyIter_rangeiter st h
section
variable {X:Cx}{tg:Expr}
def z8a(K:W.Frag)(tl:TE):TI:=fun σ H R=>tl σ H fun x H1=>∃a,x=.ref a/\(∃xs,SqL K H1 a xs)/\R (Itl K a) H1
theorem zcn{l:Expr}{tl:TE}(hl:PE X l tl):PI X tg l (z8a X.K tl):=by
 intro pins s σ H R I h;refine thn (hl pins s σ H _ I h) fun v s1 hq_=>?_;obtain⟨x,H1,I1,r1,q1⟩:=hq_;obtain⟨a,e,⟨xs,hq⟩,q⟩:=q1;subst e;cases r1;obtain⟨its,rv,p,hz⟩:=I1.list hq;refine wpAny_pyIter_list p.isList ?_;refine⟨s1.heap.objs.size,[s1.heap.objs.size],_,_,H1,rfl,I1.kept (t':=s1.toks) fun b o e=>Heap.get?_push_of_some _ e,zx6 a _,⟨_,Heap.get?_push_size _ rfl,rfl,rfl⟩,fun b hb=>?_,q⟩;have e:b=s1.heap.objs.size:=by simpa using hb
 subst e;exact I1.fpOk (Nat.le_refl _) (I1.hok.fresh (Nat.le_refl _))
theorem z1v{pins:List (Addr×Obj)}{σ:St}{H:Hp}{s:Shared}{R:It->Hp->Prop}{E:Value->Shared->Prop}{lo hi:Int}{t u v:Tok}{tk:Nat}(I:Inv X pins σ H s)(h1:-(2 ^ 62)<=lo)(h2:lo<2 ^ 62)(h3:-(2 ^ 62)<=hi)(h4:hi<2 ^ 62)
  (q:R (Itr lo (hi-lo).toNat) H):wpAny (model X.prog X.w) X.A (pyIter (.ref s.heap.objs.size)) (PIE X pins σ tg R) E { s with heap:=s.heap.push { cls:=.type "range",data:=.fields #[.int lo t,.int hi u,.int 1 v] },toks:=tk }:=by
 refine wpAny_pyIter_range (IsRange.new ..) (small_one h1 h2 h3 h4) ?_;have I1:Inv X pins σ H { s with heap:=s.heap.push { cls:=.type "range",data:=.fields #[.int lo t,.int hi u,.int 1 v] },toks:=tk }:=I.kept fun b o e=>Heap.get?_push_of_some _ e;refine⟨(s.heap.push { cls:=.type "range",data:=.fields #[.int lo t,.int hi u,.int 1 v] }).objs.size,[(s.heap.push { cls:=.type "range",data:=.fields #[.int lo t,.int hi u,.int 1 v] }).objs.size],_,_,H,rfl,
  I1.kept (t':=tk) fun b o e=>Heap.get?_push_of_some _ e,zwp _ lo (hi-lo).toNat,?_,fun b hb=>?_,q⟩
 ·have e1:lo+((0:Nat):Int)*1=lo:=by simp
  have e2:(((hi-lo).toNat:Nat):Int)-((0:Nat):Int)=Builtin.Range.rangeSize lo hi 1:=by rw[rangeSize_one];split<;>omega
  show IsRangeIter _ _ (lo+((0:Nat):Int)*1) ((((hi-lo).toNat:Nat):Int)-((0:Nat):Int)) 1;rw[e1,e2];exact Heap.get?_push_size _ rfl
 ·have e:b=(s.heap.push { cls:=.type "range",data:=.fields #[.int lo t,.int hi u,.int 1 v] }).objs.size:=by simpa using hb
  subst e;exact I1.fpOk (Nat.le_refl _) (I1.hok.fresh (Nat.le_refl _))
def z8b(ta:TA):TI:=fun σ H R=>ta σ H fun vs H1=>∃j:Int,vs=[.int j] /\ -(2 ^ 62)<=j/\j<2 ^ 62/\R (Itr 0 j.toNat) H1
theorem zms{a:Expr}{ta:TA}{p pos:Pos}(hg:Gl X "range")(hm:X.mg "range" = none)(ha:PA X [a] ta)(hs:starEach [a] X.env=[(false,eval a X.env)]:=by rfl):PI X tg (.Call (.Name "range" p) [a] [] pos) (z8b ta):=by
 intro pins s σ H R I h;refine Call_ (zmr I hg hm boot_range (PyProof.Rows.callWith_type1 (thn (ha pos pins s σ H _ I h) fun us s1 hq_=>?_) hs rfl));obtain⟨vs,H1,I1,r1,q1⟩:=hq_;obtain⟨j,e,q1,q2,q⟩:=q1;subst e;cases r1 with
 | cons r rr=>
   cases rr;obtain⟨t,rfl⟩:=r;exact call_range_1 (z1v I1 (by omega) (by omega) q1 q2 (by simpa using q))
def tFor(wi:TI)(g:TG)(tb:TS):TS:=fun D σ H=>wi σ H fun J H1=>∃W:Nat->Nat->St->Hp->Prop,(∃m,W 0 m σ H1)/\∀i m σ H,W i m σ H ->
 (J.stop i H/\D.nx σ H)\/(J.go i H/\∃N:St->Hp->Prop,(∀σ' H',N σ' H'->∃m',m'<m/\W (i+1) m' σ' H')/\∀x H',J.yld i H x H'->g x σ H' fun σ2 H2=>tb { D with nx:=N,ct:=N,bk:=D.nx } σ2 H2)
def zuz(fp:List Addr)(h:Heap):List (Addr×Obj):=fp.filterMap fun b=>(h.get? b).map fun o=>(b,o)
theorem zjd{fp:List Addr}{h:Heap}{b:Addr}{o:Obj}(hb:b∈fp)(e:h.get? b=some o):(b,o)∈zuz fp h:=List.mem_filterMap.mpr ⟨b,hb,by rw[e];rfl⟩
theorem zx7{fp:List Addr}{h:Heap}{p:Addr×Obj}(hp:p∈zuz fp h):p.1∈fp/\h.get? p.1=some p.2:=by
 obtain⟨b,hb,e⟩:=List.mem_filterMap.mp hp;cases q:h.get? b with
 |none=>rw[q] at e;cases e
 | some o=>
   rw[q] at e;have e':(b,o)=p:=Option.some.inj e;subst e';exact⟨hb,q⟩
theorem Inv.pinned{pins:List (Addr×Obj)}{σ:St}{H:Hp}{s:Shared}{fp:List Addr}(I:Inv X pins σ H s)(hf:∀b∈fp,FpOk X pins H b)(ho:∀b∈fp,∃o,s.heap.get? b=some o/\∀v,o.data≠.cell v):Inv X (pins++zuz fp s.heap) σ H s:=
 I.pins_of fun p hp=>(List.mem_append.mp hp).elim (fun z=>I.pin p (List.mem_append_right _ z)) fun z=>by
  obtain⟨hb,e⟩:=zx7 z;obtain⟨f0,f1,f2,_⟩:=hf p.1 hb;obtain⟨o,e',d⟩:=ho p.1 hb;rw[e] at e';cases e';exact⟨e,f0,f1,f2,d⟩
theorem Inv.unpinned{pins pl:List (Addr×Obj)}{σ:St}{H:Hp}{s:Shared}(I:Inv X (pins++pl) σ H s):Inv X pins σ H s:=I.pins_of fun p hp=>I.pin p (List.mem_append_right _ (List.mem_append_left _ hp))
theorem z8c{iter:Expr}{body:List Stmt}{wi:TI}{g:TG}{tb:TS}{pos:Pos}(hp:PassesOwn (model X.prog X.w) X.A X.env X.xe)(hc:X.calm=true)(hi:PI X tg iter wi)(hg:PG X tg g)(hb:PSs X body tb)
  (hs:∀x,foldedSetIterable iter X.env x=pure x:=by intro _;rfl):PS X (.For tg iter body [] pos) (tFor wi g tb):=by
 intro pins s σ H D I h;refine wpAny_For (thn (hi pins s σ H _ I h) fun v s1 h1=>thn h1 fun itv s2 h2=>?_) hs;obtain⟨it,fp,tn,J,H2,e,I2,T,st2,f2,W,⟨m0,w0⟩,turn⟩:=h2;subst e;have stat:∀{H':Hp},(∀b∈fp,H' b=none)->∀b∈fp,FpOk X pins H' b:=fun hn b hb=>⟨hn b hb,(f2 b hb).2⟩;refine codeAny_forLoop_any (fun n s'=>∃i σ' H',Inv X pins σ' H' s'/\tn i s'.heap/\(∀b∈fp,H' b=none)/\W i n σ' H') ?_ m0 ⟨0,σ,H2,I2,st2,fun b hb=>(f2 b hb).1,w0⟩;rintro n s3 ⟨i,σ3,H3,I3,st3,fr3,w3⟩;rcases turn i n σ3 H3 w3 with⟨stop,qn⟩ | ⟨go,N,hN,step⟩
 ·refine wpAny_passesOwn hp (thn (T.done X rfl rfl rfl hc i pins s3 σ3 H3 X.xe I3 (stat fr3) st3 stop) fun r s4 hq_=>?_)
  obtain⟨hr,I4⟩:=hq_;subst hr;exact wpAny_execs_nil ⟨σ3,H3,I4,qn⟩
 ·refine wpAny_passesOwn hp (thn (T.item X rfl rfl rfl hc i pins s3 σ3 H3 X.xe I3 (stat fr3) st3 go) fun r s4 hq_=>?_)
  obtain⟨u,hr,h4⟩:=hq_;subst hr;refine wpAny_passesOwn hp (thn h4 fun _ s5 hq_=>?_);obtain⟨x,H5,I5,r5,y5,st5,fr5⟩:=hq_;have I5':=I5.pinned (stat fr5) (T.obj _ _ st5);refine wpAny_passesOwn hp (thn (hg _ s5 σ3 H5 x u _ I5' r5 (step x H5 y5)) fun _ s6 hq_=>?_);obtain⟨σ6,H6,I6,q6⟩:=hq_;refine wpAny_passesOwn hp (thn (hb _ s6 σ6 H6 _ I6 q6) fun f s7 q7=>?_);have again:∀{σ7:St} {H7:Hp},Inv X (pins++zuz fp s5.heap) σ7 H7 s7->N σ7 H7->∃m,m<n/\∃i σ' H',Inv X pins σ' H' s7/\tn i s7.heap/\(∀b∈fp,H' b=none)/\W i m σ' H':=fun {σ7 H7} I7 n7=>by
   obtain⟨m',hm,w7⟩:=hN σ7 H7 n7;refine⟨m',hm,i+1,σ7,H7,I7.unpinned,T.keep _ _ _ st5 fun b hb o e=>(I7.pin (b,o) (List.mem_append_right _ (List.mem_append_right _ (zjd hb e)))).1,fun b hb=>?_,w7⟩;obtain⟨o,e,d⟩:=T.obj _ _ st5 b hb;exact(I7.pin (b,o) (List.mem_append_right _ (List.mem_append_right _ (zjd hb e)))).2.1
  cases f with
  |next=>obtain⟨σ7,H7,I7,n7⟩:=q7;exact again I7 n7
  |cont=>obtain⟨σ7,H7,I7,n7⟩:=q7;exact again I7 n7
  |brk=>obtain⟨σ7,H7,I7,q7⟩:=q7;exact⟨σ7,H7,I7.unpinned,q7⟩
  |ret v=>obtain⟨x7,σ7,H7,I7,r7,q7⟩:=q7;exact⟨x7,σ7,H7,I7.unpinned,r7,q7⟩
end
abbrev R2:=V->V->Hp->VK->Prop
def OpR(X:Cx)(f:Value->Value->Sem Value)(r:R2):Prop:=
 ∀ (pins:List (Addr×Obj)) (s:Shared) (σ:St) (H:Hp) (x y:V) (v u:Value) (Q:VK),Inv X pins σ H s->RelV x v->RelV y u->r x y H Q ->
   wpAny (model X.prog X.w) X.A (f v u) (EP X pins σ Q) X.xe s
def UnR(X:Cx)(f:Value->Sem Value)(r:V->Hp->VK->Prop):Prop:=
 ∀ (pins:List (Addr×Obj)) (s:Shared) (σ:St) (H:Hp) (x:V) (v:Value) (Q:VK),Inv X pins σ H s->RelV x v->r x H Q ->
   wpAny (model X.prog X.w) X.A (f v) (EP X pins σ Q) X.xe s
def zju(X:Cx)(f:Value)(r:List V->Hp->VK->Prop):Prop:=
 ∀ (pins:List (Addr×Obj)) (s:Shared) (σ:St) (H:Hp) (xs:List V) (us:List Value) (Q:VK),Inv X pins σ H s->Vals xs us->r xs H Q ->
   wpAny (model X.prog X.w) X.A (call f us) (EP X pins σ Q) X.xe s
def TruR(X:Cx)(r:V->Hp->(Bool->Hp->Prop)->Prop):Prop:=
 ∀ (pins:List (Addr×Obj)) (s:Shared) (σ:St) (H:Hp) (x:V) (v:Value) (Q:Bool->Hp->Prop),Inv X pins σ H s->RelV x v->r x H Q ->
   wpAny (model X.prog X.w) X.A (truthy v) (TP X pins σ Q) X.xe s
def tOp(r:R2)(ta tb:TE):TE:=fun σ H Q=>ta σ H fun x H1=>tb σ H1 fun y H2=>r x y H2 Q
def tUn(r:V->Hp->VK->Prop)(ta:TE):TE:=fun σ H Q=>ta σ H fun x H1=>r x H1 Q
def rI(C:Int->Int->Prop)(g:Int->Int->V):R2:=fun x y H Q=>∃i j,x=.int i/\y=.int j/\C i j/\Q (g i j) H
def rI0(g:Int->Int->V):R2:=fun x y H Q=>∃i j,x=.int i/\y=.int j/\Q (g i j) H
def rU(g:Int->V):V->Hp->VK->Prop:=fun x H Q=>∃i,x=.int i/\Q (g i) H
section
variable {X:Cx}{a b c:Expr}{ta tb tc:TE}{pos:Pos}
theorem binT(ha:PE X a ta)(hb:PE X b tb){pins:List (Addr×Obj)}{s:Shared}{σ:St}{H:Hp}{R:V->V->Hp->Prop}(I:Inv X pins σ H s)
  (h:ta σ H fun x H1=>tb σ H1 fun y H2=>R x y H2) {Q:Value->Shared->Prop} {f:Value->Value->Sem Value}
  (hf:∀v u s2 x y H2,Inv X pins σ H2 s2->RelV x v->RelV y u->R x y H2->wpAny (model X.prog X.w) X.A (f v u) Q X.xe s2) :
  wpAny (model X.prog X.w) X.A (eval a X.env) (fun v s₁=>wpAny (model X.prog X.w) X.A (eval b X.env) (fun u s₂=>wpAny (model X.prog X.w) X.A (f v u) Q X.xe s₂) X.xe s₁) X.xe s:=by
 refine thn (ha pins s σ H _ I h) fun v s1 hq_=>?_;obtain⟨x,H1,I1,r1,q1⟩:=hq_;refine thn (hb pins s1 σ H1 _ I1 q1) fun u s2 hq_=>?_;obtain⟨y,H2,I2,r2,q2⟩:=hq_;exact hf v u s2 x y H2 I2 r1 r2 q2
theorem zwq{op:Operator}{r:R2}(ho:OpR X (binaryOp op) r)(ha:PE X a ta)(hb:PE X b tb):PE X (.BinOp a op b pos) (tOp r ta tb):=by
 intro pins s σ H Q I h;exact wpAny_BinOp (binT ha hb I h fun v u s2 x y H2 I2 rx ry q=>ho pins s2 σ H2 x y v u Q I2 rx ry q)
theorem Zbf{op:UnaryOp}{r:V->Hp->VK->Prop}(ho:UnR X (unaryOp op) r)(ha:PE X a ta):PE X (.UnaryOp op a pos) (tUn r ta):=by
 intro pins s σ H Q I h;exact UnaryOp_ (thn (ha pins s σ H _ I h) fun v s1 ⟨x,H1,I1,r1,q1⟩=>ho pins s1 σ H1 x v Q I1 r1 q1)
theorem opI{f:Value->Value->Sem Value}{C:Int->Int->Prop}{g:Int->Int->Int}
  (rule:∀(i j:Int) (t u:Tok) (s:Shared) (Q:Value->Shared->Prop) (E:Value->Shared->Prop),C i j->Q (.int (g i j) s.toks) { s with toks:=s.toks+1 }->wpAny (model X.prog X.w) X.A (f (.int i t) (.int j u)) Q E s) :
  OpR X f (rI C fun i j=>.int (g i j)):=by
 intro pins s σ H x y v u Q I rx ry h;obtain⟨i,j,rfl,rfl,hc,q⟩:=h;obtain⟨t,rfl⟩:=rx;obtain⟨t',rfl⟩:=ry;exact rule i j t t' s _ _ hc ⟨.int (g i j),H,I.tok _,⟨_,rfl⟩,q⟩
theorem opI0{f:Value->Value->Sem Value}{g:Int->Int->Int}
  (rule:∀(i j:Int) (t u:Tok) (s:Shared) (Q:Value->Shared->Prop) (E:Value->Shared->Prop),Q (.int (g i j) s.toks) { s with toks:=s.toks+1 }->wpAny (model X.prog X.w) X.A (f (.int i t) (.int j u)) Q E s) :
  OpR X f (rI0 fun i j=>.int (g i j)):=by
 intro pins s σ H x y v u Q I rx ry h;obtain⟨i,j,rfl,rfl,q⟩:=h;obtain⟨t,rfl⟩:=rx;obtain⟨t',rfl⟩:=ry;exact rule i j t t' s _ _ ⟨.int (g i j),H,I.tok _,⟨_,rfl⟩,q⟩
theorem opB0{f:Value->Value->Sem Value}{g:Int->Int->Bool}
  (rule:∀(i j:Int) (t u:Tok) (s:Shared) (Q:Value->Shared->Prop) (E:Value->Shared->Prop),Q (.bool (g i j)) s->wpAny (model X.prog X.w) X.A (f (.int i t) (.int j u)) Q E s) :
  OpR X f (rI0 fun i j=>.bl (g i j)):=by
 intro pins s σ H x y v u Q I rx ry h;obtain⟨i,j,rfl,rfl,q⟩:=h;obtain⟨t,rfl⟩:=rx;obtain⟨t',rfl⟩:=ry;exact rule i j t t' s _ _ ⟨.bl (g i j),H,I,rfl,q⟩
def CDiv(i j:Int):Prop:=0<j/\j<1073741824
def CPow(i j:Int):Prop:=0<=j/\j<=1000000/\i.natAbs<2 ^ 64
def CMul(i j:Int):Prop:=(-(2 ^ 64)<i/\i<2 ^ 64)\/(-(2 ^ 64)<j/\j<2 ^ 64)
theorem CMul.ok{i j:Int}(h:CMul i j):IntMulOk i j:=by
 rcases h with⟨h1,h2⟩ | ⟨h1,h2⟩
 ·exact .of_left (intBits_le_64 h1 h2)
 ·exact .of_right (intBits_le_64 h1 h2)
theorem z8d:OpR X (binaryOp .Add) (rI0 fun i j=>.int (i+j)):=opI0 fun _ _ _ _ _ _ _ q=>add_int q
theorem z8e:OpR X (binaryOp .Sub) (rI0 fun i j=>.int (i-j)):=opI0 fun _ _ _ _ _ _ _ q=>sub_int q
theorem z8f:OpR X (binaryOp .Mult) (rI CMul fun i j=>.int (i*j)):=opI fun _ _ _ _ _ _ _ hc q=>mul_int q hc.ok
theorem z5h:OpR X (binaryOp .FloorDiv) (rI CDiv fun i j=>.int (i / j)):=opI fun i j _ _ _ _ _ hc q=>by
 have h1:(0:Int)<j:=hc.1;have h2:j<1073741824:=hc.2;exact floordiv_int (by omega) (by rw[Int.fdiv_eq_ediv_of_nonneg i (by omega)];exact q) (.inl (PyProof.noPylong_small (by omega)))
theorem z8g:OpR X (binaryOp .Mod) (rI (fun _ j=>0<j) fun i j=>.int (i%j)):=opI fun i j _ _ _ _ _ hc q=>by
 have h1:(0:Int)<j:=hc;exact mod_int' (by omega) (by rw[Int.fmod_eq_emod_of_nonneg i (by omega)];exact q)
theorem z8h:OpR X (binaryOp .Pow) (rI CPow fun i j=>.int (i ^ j.toNat)):=opI fun _ _ _ _ _ _ _ hc q=>pow_int_small hc.1 hc.2.1 hc.2.2 q
theorem unI{f:Value->Sem Value}{g:Int->Int}
  (rule:∀(i:Int) (t:Tok) (s:Shared) (Q:Value->Shared->Prop) (E:Value->Shared->Prop),Q (.int (g i) s.toks) { s with toks:=s.toks+1 }->wpAny (model X.prog X.w) X.A (f (.int i t)) Q E s) :
  UnR X f (rU fun i=>.int (g i)):=by
 intro pins s σ H x v Q I rx h;obtain⟨i,rfl,q⟩:=h;obtain⟨t,rfl⟩:=rx;exact rule i t s _ _ ⟨.int (g i),H,I.tok _,⟨_,rfl⟩,q⟩
theorem z8i:UnR X (unaryOp .USub) (rU fun i=>.int (-i)):=unI fun _ _ _ _ _ q=>neg_int q
end
noncomputable def scal:V->V->Bool
 |.non,.non=>true | .non,.int _=>true | .int _,.non=>true | .non,.bl _=>true | .bl _,.non=>true | .non,.str _=>true | .str _,.non=>true
 |.int _,.int _=>true | .bl _,.bl _=>true | .str _,.str _=>true | .byt _,.byt _=>true
 |.int _,.str _=>true | .str _,.int _=>true | .bl _,.str _=>true | .str _,.bl _=>true
 |_,_=>false
def rEq:R2:=fun x y H Q=>scal x y=true/\Q (.bl (decide (x=y))) H
def rNe:R2:=fun x y H Q=>scal x y=true/\Q (.bl (!decide (x=y))) H
theorem zx8{i j:Int}:decide (V.int i=V.int j)=(i==j):=by
 rw[Bool.eq_iff_iff];simp
theorem z3w{i j:Bool}:decide (V.bl i=V.bl j)=(i==j):=by
 rw[Bool.eq_iff_iff];simp
theorem zx9{i j:Str}:decide (V.str i=V.str j)=(i==j):=by
 rw[Bool.eq_iff_iff];simp
theorem zya{i j:Array UInt8}:decide (V.byt i=V.byt j)=(i.toList==j.toList):=by
 rw[Bool.eq_iff_iff];cases i;cases j;simp
section
variable {X:Cx}{a b c:Expr}{ta tb tc:TE}{pos:Pos}
theorem zb1{pins:List (Addr×Obj)}{σ:St}{H:Hp}{s:Shared}{Q:VK}{k k':Bool}(I:Inv X pins σ H s)(q:Q (.bl k) H)(e:k=k'):EP X pins σ Q (.bool k') s:=by
 subst e;exact⟨.bl k,H,I,rfl,q⟩
theorem z8j:OpR X (compareOp .Eq) rEq:=by
 intro pins s σ H x y v u Q I rx ry h;obtain⟨hs,q⟩:=h;cases x with
 | non=>
   cases rx;cases y with
   |non=>cases ry;exact PySem.EqNone.eq_none_none (zb1 I q (by simp))
   |bl j=>cases ry;exact PySem.EqNone.eq_none_bool (zb1 I q (by simp))
   |int j=>obtain⟨t',rfl⟩:=ry;exact PySem.EqNone.eq_none_int (zb1 I q (by simp))
   |str j=>obtain⟨t',rfl⟩:=ry;exact PySem.EqNone.eq_none_str (zb1 I q (by simp))
   |_=>exact absurd (show false=true from hs) Bool.false_ne_true
 | bl i=>
   cases rx;cases y with
   |non=>cases ry;exact PySem.EqNone.eq_bool_none (zb1 I q (by simp))
   |bl j=>cases ry;exact eq_bool (zb1 I q z3w)
   |str j=>obtain⟨t',rfl⟩:=ry;exact PySem.EqMixed.eq_bool_str (zb1 I q (by simp))
   |_=>exact absurd (show false=true from hs) Bool.false_ne_true
 | int i=>
   obtain⟨t,rfl⟩:=rx;cases y with
   |non=>cases ry;exact PySem.EqNone.eq_int_none (zb1 I q (by simp))
   |int j=>obtain⟨t',rfl⟩:=ry;exact eq_int (zb1 I q zx8)
   |str j=>obtain⟨t',rfl⟩:=ry;exact PySem.EqMixed.eq_int_str (zb1 I q (by simp))
   |_=>exact absurd (show false=true from hs) Bool.false_ne_true
 | str i=>
   obtain⟨t,rfl⟩:=rx;cases y with
   |non=>cases ry;exact PySem.EqNone.eq_str_none (zb1 I q (by simp))
   |bl j=>cases ry;exact PySem.EqMixed.eq_str_bool (zb1 I q (by simp))
   |int j=>obtain⟨t',rfl⟩:=ry;exact PySem.EqMixed.eq_str_int (zb1 I q (by simp))
   |str j=>obtain⟨t',rfl⟩:=ry;exact eq_str (zb1 I q zx9)
   |_=>exact absurd (show false=true from hs) Bool.false_ne_true
 | byt i=>
   obtain⟨t,rfl⟩:=rx;cases y with
   |byt j=>obtain⟨t',rfl⟩:=ry;exact W.eq_bytes (zb1 I q zya)
   |_=>exact absurd (show false=true from hs) Bool.false_ne_true
 |_=>cases y<;>exact absurd (show false=true from hs) Bool.false_ne_true
theorem z8k:OpR X (compareOp .NotEq) rNe:=by
 intro pins s σ H x y v u Q I rx ry h;obtain⟨hs,q⟩:=h;cases x with
 | non=>
   cases rx;cases y with
   |non=>cases ry;exact PySem.EqNone.ne_none_none (zb1 I q (by simp))
   |bl j=>cases ry;exact PySem.EqNone.ne_none_bool (zb1 I q (by simp))
   |int j=>obtain⟨t',rfl⟩:=ry;exact PySem.EqNone.ne_none_int (zb1 I q (by simp))
   |str j=>obtain⟨t',rfl⟩:=ry;exact PySem.EqNone.ne_none_str (zb1 I q (by simp))
   |_=>exact absurd (show false=true from hs) Bool.false_ne_true
 | bl i=>
   cases rx;cases y with
   |non=>cases ry;exact PySem.EqNone.ne_bool_none (zb1 I q (by simp))
   |bl j=>cases ry;exact ne_bool (zb1 I q (congrArg not z3w))
   |str j=>obtain⟨t',rfl⟩:=ry;exact PySem.EqMixed.ne_bool_str (zb1 I q (by simp))
   |_=>exact absurd (show false=true from hs) Bool.false_ne_true
 | int i=>
   obtain⟨t,rfl⟩:=rx;cases y with
   |non=>cases ry;exact PySem.EqNone.ne_int_none (zb1 I q (by simp))
   |int j=>obtain⟨t',rfl⟩:=ry;exact ne_int (zb1 I q (congrArg not zx8))
   |str j=>obtain⟨t',rfl⟩:=ry;exact PySem.EqMixed.ne_int_str (zb1 I q (by simp))
   |_=>exact absurd (show false=true from hs) Bool.false_ne_true
 | str i=>
   obtain⟨t,rfl⟩:=rx;cases y with
   |non=>cases ry;exact PySem.EqNone.ne_str_none (zb1 I q (by simp))
   |bl j=>cases ry;exact PySem.EqMixed.ne_str_bool (zb1 I q (by simp))
   |int j=>obtain⟨t',rfl⟩:=ry;exact PySem.EqMixed.ne_str_int (zb1 I q (by simp))
   |str j=>obtain⟨t',rfl⟩:=ry;exact ne_str (zb1 I q (congrArg not zx9))
   |_=>exact absurd (show false=true from hs) Bool.false_ne_true
 | byt i=>
   obtain⟨t,rfl⟩:=rx;cases y with
   |byt j=>obtain⟨t',rfl⟩:=ry;exact W.ne_bytes (zb1 I q (congrArg not zya))
   |_=>exact absurd (show false=true from hs) Bool.false_ne_true
 |_=>cases y<;>exact absurd (show false=true from hs) Bool.false_ne_true
theorem Zbg:OpR X (compareOp .Lt) (rI0 fun i j=>.bl (decide (i<j))):=opB0 fun _ _ _ _ _ _ _ q=>lt_int q
theorem Zbh:OpR X (compareOp .Gt) (rI0 fun i j=>.bl (decide (j<i))):=opB0 fun _ _ _ _ _ _ _ q=>gt_int q
theorem Zbi:OpR X (compareOp .GtE) (rI0 fun i j=>.bl (decide (j<=i))):=opB0 fun _ _ _ _ _ _ _ q=>ge_int q
theorem z3x:OpR X (compareOp .Is) (fun x y H Q=>y=.non/\Q (.bl (decide (x=.non))) H):=by
 intro pins s σ H x y v u Q I rx ry h;obtain⟨rfl,q⟩:=h;cases ry;refine is_none_gen (zb1 I q ?_);cases x<;>first
  |(cases rx;rfl)
  |(obtain⟨t,rfl⟩:=rx;rfl)
theorem z5i:OpR X (compareOp .IsNot) (fun x y H Q=>y=.non/\Q (.bl (!decide (x=.non))) H):=by
 intro pins s σ H x y v u Q I rx ry h;obtain⟨rfl,q⟩:=h;cases ry;refine isnot_none_gen (zb1 I q ?_);cases x<;>first
  |(cases rx;rfl)
  |(obtain⟨t,rfl⟩:=rx;rfl)
theorem OpR.or{f:Value->Value->Sem Value}{r r':R2}(h:OpR X f r)(h':OpR X f r'):OpR X f (fun x y H Q=>r x y H Q\/r' x y H Q):=by
 intro pins s σ H x y v u Q I rx ry q;rcases q with q | q
 ·exact h pins s σ H x y v u Q I rx ry q
 ·exact h' pins s σ H x y v u Q I rx ry q
theorem zjl(b:Expr){op:CmpOp}(h:op≠.In:=by decide)(h2:op≠.NotIn:=by decide):behindInMarks op b=false:=by
 have e1:(op==CmpOp.In)=false:=by cases op<;>first | rfl | exact absurd rfl h
 have e2:(op==CmpOp.NotIn)=false:=by cases op<;>first | rfl | exact absurd rfl h2
 cases b<;>simp[behindInMarks,e1,e2]
theorem zs3{op:CmpOp}{r:R2}(ho:OpR X (compareOp op) r)(ha:PE X a ta)(hb:PE X b tb)(hm:behindInMarks op b=false):PE X (.Compare a [op] [b] pos) (tOp r ta tb):=by
 intro pins s σ H Q I h;exact wpAny_Compare1 (binT ha hb I h fun v u s2 x y H2 I2 rx ry q=>ho pins s2 σ H2 x y v u Q I2 rx ry q) hm
def Zbj(t:TE):TT:=fun σ H Q=>t σ H fun x H'=>∃k,x=.bl k/\Q k H'
theorem z5j{op:CmpOp}{r:R2}(ho:OpR X (compareOp op) r)(ha:PE X a ta)(hb:PE X b tb)(hm:behindInMarks op b=false):PT X (.Compare a [op] [b] pos) (Zbj (tOp r ta tb)):=by
 intro pins s σ H Q I h;refine wpAny_isTrue_Compare1 (thn (ha pins s σ H _ I h) fun v s1 ⟨x,H1,I1,r1,q1⟩=>thn (hb pins s1 σ H1 _ I1 q1) fun u s2 ⟨y,H2,I2,r2,q2⟩=>
  thn (ho pins s2 σ H2 x y v u _ I2 r1 r2 q2) fun c s3 ⟨z,H3,I3,r3,k,e,q3⟩=>?_) hm
 subst e;cases r3;exact wpAny_truthy_bool ⟨H3,I3,q3⟩
def TruV(K:W.Frag)(x:V)(H:Hp)(k:Bool):Prop:=
 match x with
 |.non=>k=false
 |.bl b=>k=b
 |.int i=>k=(i != 0)
 |.str y=>y.length<=sizeLine/\k=((y.length:Int) != 0)
 |.byt y=>y.size<=sizeLine/\k=((y.size:Int) != 0)
 |.ref p=>(∃xs,SqL K H p xs/\k=!xs.isEmpty)\/(∃xs,SqT K H p xs/\k=!xs.isEmpty)\/∃kvs,H p=some (.dK kvs)/\k=!kvs.isEmpty
 |_=>False
theorem zwr{κ:Type}{kvs:List (κ×V)}{vs:List (κ×Value)}(r:KV kvs vs):(!vs.isEmpty)=!kvs.isEmpty:=by
 cases r<;>rfl
theorem zof{xs:List V}{its:List Value}(r:Vals xs its):(!its.toArray.isEmpty)=!xs.isEmpty:=by
 cases r<;>simp
theorem zqu:(sizeLine:Nat)<2 ^ 63:=by rw[sizeLine_eq];decide
theorem z3y:TruR X (fun x H Q=>∃k,TruV X.K x H k/\Q k H):=by
 intro pins s σ H x v Q I rx h;obtain⟨k,e,q⟩:=h;have hl:=zqu;have hs:sizeLine=16777216:=sizeLine_eq;cases x with
 | non=>
   cases rx;have e':k=false:=e;subst e';exact truthy_none ⟨H,I,q⟩
 | bl b=>
   cases rx;have e':k=b:=e;subst e';exact wpAny_truthy_bool ⟨H,I,q⟩
 | int i=>
   obtain⟨t,rfl⟩:=rx;have e':k=(i != 0):=e;subst e';exact PySem.P.truthy_int ⟨H,I,q⟩
 | str y=>
   obtain⟨t,rfl⟩:=rx;obtain⟨hy,e'⟩:y.length<=sizeLine/\k=((y.length:Int) != 0):=e;subst e';exact PySem.P.truthy_str (by omega) ⟨H,I.tok _,q⟩
 | byt y=>
   obtain⟨t,rfl⟩:=rx;obtain⟨hy,e'⟩:y.size<=sizeLine/\k=((y.size:Int) != 0):=e;subst e';exact W.truthy_bytes (by omega) ⟨H,I.tok _,q⟩
 | ref p=>
   cases rx;have e':(∃xs,SqL X.K H p xs/\k=!xs.isEmpty)\/(∃xs,SqT X.K H p xs/\k=!xs.isEmpty)\/∃kvs,H p=some (.dK kvs)/\k=!kvs.isEmpty:=e;rcases e' with⟨xs,hx,e'⟩ | ⟨xs,hx,e'⟩ | ⟨kvs,hx,e'⟩
   ·subst e'
    obtain⟨its,r,pl,hz⟩:=I.list hx;have hlen:=r.length;exact wpAny_truthy_list pl.isList (by simp only[List.size_toArray];omega) ⟨H,I.tok _,by rw[zof r];exact q⟩
   ·subst e'
    obtain⟨its,r,pl,hz⟩:=I.tuple hx;have hlen:=r.length;exact truthy_tuple pl (by simp only[List.size_toArray];omega) ⟨H,I.tok _,by rw[zof r];exact q⟩
   ·subst e'
    obtain⟨hz,hS,vs,r,m⟩:kvs.length<=sizeLine/\(p==sysModules)=false/\∃vs,KV kvs vs/\s.heap.DictOf (zbb X.prog X.w) p vs:=I.hok p _ hx;have hlen:kvs.length=vs.length:=Paired.length r;exact wpAny_truthy_dict hS m (by omega) ⟨H,I.tok _,by rw[zwr r];exact q⟩
 |_=>exact(show False from e).elim
theorem z1w(ha:PE X a ta)(he:∀whole,isTrue a X.env whole=(do let v <- whole;standAt a.pos;holding [v] (truthy v))) :
  PT X a (fun σ H Q=>ta σ H fun x H'=>∃k,TruV X.K x H' k/\Q k H'):=by
 intro pins s σ H Q I h;exact isTrue_plain (thn (ha pins s σ H _ I h) fun v s1 ⟨x,H1,I1,r1,q1⟩=>z3y pins s1 σ H1 x v Q I1 r1 q1) (he _)
theorem zws:OpR X (binaryOp .Add) (fun x y H Q=>∃i j,x=.str i/\y=.str j/\i.length+j.length<=sizeLine/\Q (.str (i++j)) H):=by
 intro pins s σ H x y v u Q I rx ry h;obtain⟨i,j,rfl,rfl,hz,q⟩:=h;obtain⟨t,rfl⟩:=rx;obtain⟨t',rfl⟩:=ry;exact add_str (fun t' tk=>⟨.str (i++j),H,I.tok _,⟨_,rfl⟩,q⟩) hz
theorem zs4{x:V}{us:List Value}(r:Vals [x] us):∃u,us=[u]/\RelV x u:=by
 cases r with
 |cons r1 r2=>cases r2;exact⟨_,rfl,r1⟩
theorem Zbk{x y:V}{us:List Value}(r:Vals [x,y] us):∃u w',us=[u,w']/\RelV x u/\RelV y w':=by
 cases r with
 | cons r1 r2=>
   cases r2 with
   |cons r3 r4=>cases r4;exact⟨_,_,rfl,r1,r3⟩
def LenV(K:W.Frag)(x:V)(H:Hp)(n:Nat):Prop:=
 match x with
 |.str y=>y.length<=sizeLine/\n=y.length
 |.byt y=>y.size<=sizeLine/\n=y.size
 |.ref p=>(∃xs,SqL K H p xs/\n=xs.length)\/∃xs,SqT K H p xs/\n=xs.length
 |_=>False
theorem z1x:zju X (.builtin "len") (fun xs H Q=>∃x n,xs=[x]/\LenV X.K x H n/\Q (.int n) H):=by
 intro pins s σ H xs us Q I r h;obtain⟨x,n,rfl,e,q⟩:=h;obtain⟨u,rfl,rx⟩:=zs4 r;have hl:=zqu;have hs:sizeLine=16777216:=sizeLine_eq;cases x with
 | str y=>
   obtain⟨t,rfl⟩:=rx;obtain⟨hy,e'⟩:y.length<=sizeLine/\n=y.length:=e;subst e';exact len_str (by omega) ⟨.int _,H,I.tok _,⟨_,rfl⟩,q⟩
 | byt y=>
   obtain⟨t,rfl⟩:=rx;obtain⟨hy,e'⟩:y.size<=sizeLine/\n=y.size:=e;subst e';exact W.len_bytes (by omega) ⟨.int _,H,I.tok _,⟨_,rfl⟩,q⟩
 | ref p=>
   cases rx;have e':(∃xs,SqL X.K H p xs/\n=xs.length)\/∃xs,SqT X.K H p xs/\n=xs.length:=e;rcases e' with⟨xs,hx,e'⟩ | ⟨xs,hx,e'⟩
   ·subst e'
    obtain⟨its,r',pl,hz⟩:=I.list hx;have hlen:=r'.length;exact Calls.call_len_list pl.isList (by simp only[List.size_toArray];omega) ⟨.int xs.length,H,I.tok _,⟨_,by simp only[List.size_toArray];rw[hlen]⟩,q⟩
   ·subst e'
    obtain⟨its,r',pl,hz⟩:=I.tuple hx;have hlen:=r'.length;exact len_tuple pl (by simp only[List.size_toArray];omega) ⟨.int xs.length,H,I.tok _,⟨_,by simp only[List.size_toArray];rw[hlen]⟩,q⟩
 |_=>exact(show False from e).elim
end
structure ObjM(h:Heap)(x dx C:Addr)(mA:Str->Option Value):Prop where
 obj:h.get? x=some (W.instObj C dx)
 ns:h.Ns1 dx mA
 ne:dx≠x
theorem zmt{h:Heap}{dx:Addr}{mA:Str->Option Value}(n:h.Ns1 dx mA):∃od,h.get? dx=some od/\∀name,W.lookIn name od=some (mA name):=by
 obtain⟨o,es,ep,ho,hd,hk,_,hm⟩:=n;refine⟨o,ho,fun name=>?_⟩;have e:=hm name;unfold nsFind findBy at e;rw[<- Array.find?_toList] at e;unfold W.lookIn;rw[hd];dsimp only
 split
 ·rename_i y q
  rw[q] at e;exact congrArg some e
 ·rename_i q
  rw[q] at e;have a:es.toList.any (·.refKey)=false:=by
   rw[List.any_eq_false];intro y hy;obtain⟨z,t,hkey⟩:=hk y (Array.mem_toList_iff.mp hy);simp[DictEntry.refKey,hkey]
  have a':¬es.toList.any (·.refKey)=true:=by rw[a];exact Bool.false_ne_true
  rw[if_neg a'];exact congrArg some e
theorem ObjM.look{h:Heap}{x dx C:Addr}{mA:Str->Option Value}(I:ObjM h x dx C mA):∃od,W.InstAt h x (W.instObj C dx) C (some od)/\∀name,W.lookIn name od=some (mA name):=
 let ⟨od,ho,hl⟩:=zmt I.ns
 ⟨od,⟨I.obj,rfl,rfl,ho⟩,hl⟩
section
variable {prog:Program}{w:World}{A:Around}{E:Value->Shared->Prop}{s:Shared}{K:W.Frag}{x dx C f:Addr}{mA:Str->Option Value}{name:Str}{v:Value}
theorem z5k{expr:Bool}{Q:Value->Shared->Prop}(X:K.In s.heap)(I:ObjM s.heap x dx C mA)(hg:W.plainGet K C name=true)(hh:W.hasDictIn K C=true)
  (ha:W.findIn K (.ref C) name=some none) (hv:mA name=some v) (hv':W.handedIn v=true) (h:Q v { s with toks:=s.toks+1 }) :
  wpAny (model prog w) A (getAttr (.ref x) name expr) Q E s:=by
 obtain⟨od,J,hl⟩:=I.look;exact W.get_value X J (W.plainGet_of hg).1 (W.findObj_own hh ha rfl (by rw[hl,hv])) hv' h
theorem z1y{pl:Sem Bool}{Q:Value×List Value->Shared->Prop}(X:K.In s.heap)(I:ObjM s.heap x dx C mA)(hg:W.plainGet K C name=true)
  (hf:W.findIn K (.ref C) name=some (some (.ref f))) (ht:W.isFn K (.ref f)=true) (hv:mA name=none) (h:Q (.ref f,[.ref x]) s) :
  wpAny (model prog w) A (getMethod (.ref x) name pl) Q E s:=by
 obtain⟨od,J,hl⟩:=I.look;exact W.method_fn X J (W.plainGet_of hg).1 (W.plainGet_of hg).2 hf (beq_iff_eq.mp ht) (by show(W.lookIn name od).map (·.isSome)=some false;rw[hl,hv];rfl) h
theorem z5l{ns:List Str}{Q:Unit->Shared->Prop}(X:K.In s.heap)(I:ObjM s.heap x dx C mA)
  (hs:W.findIn K (.ref C) "__setattr__" = some (some (.builtin "object.__setattr__"))) (hp:W.plainOver K C=true) (ht:W.takerIn K C name=some none) (hh:W.hasDictIn K C=true)
  (hw:PySem.Within mA ns) (hsz:ns.length<=sizeLine)
  (h:∀h',ObjM h' x dx C (fun y=>if y=name then some v else mA y)->Heap.SameBut dx s.heap h'->Q () { s with heap:=h',toks:=s.toks+2 }) :
  wpAny (model prog w) A (setAttr (.ref x) name v) Q E s:=by
 obtain⟨od,J,hl⟩:=I.look;refine W.set_plain X J hs (W.osa_open (s:={ s with toks:=s.toks+1 }) (r:=none) X J hp ht fun b=>?_);obtain⟨cd,hc,hd'⟩:=W.any_some hh;have hx:s.heap.get? x=some ⟨.ref C,some dx,.plain,#[]⟩:=I.obj;refine wpAny_bind (wpAny_pure (wpAny_bind (wpAny_bind (wpAny_loadPart hx (wpAny_bind (W.Looks.here (s:={ s with toks:=s.toks+1 }) (W.looks_clsIn X hc) ?_))))));rw[hd'];refine wpAny_pure (a:=some dx) (wpAny_bind (wpAny_pure (wpAny_bind ?_)));refine wpAny_nsSet1 (s:={ s with toks:=s.toks+1 }) I.ns fun h' hn2 hs2=>?_;obtain⟨oD,esD,epD,hoD,hdD,hcD⟩:=hn2.count (PySem.Within.cons name v hw);refine wpAny_bind (wpAny_lookBehind hoD (by rw[hdD];exact pastItsLine_dict (Nat.le_trans hcD (by rw[List.length_cons];omega))) ?_);exact wpAny_pure (h _ ⟨(hs2.2 _ (Ne.symm I.ne)).trans I.obj,hn2,I.ne⟩ hs2)
theorem z1z{R:Result->Shared->Prop}{vs:List Value}{kw:List (Str×Value)}(X:K.In s.heap)(hm:W.makesIn K C=true)
  (hi:W.findIn K (.ref C) "__init__" = some (some (.ref f))) (hf:W.typeIn K (.ref f)=some (.type "function"))
  (h:codeAny (model prog w) (A.under (.builtin "type.__call__" ⟨.ref C::vs,kw⟩)) (.call (.ref f) ⟨.ref (s.heap.objs.size+1)::vs,kw⟩) (W.InitBack (s.heap.objs.size+1) R)
   { s with heap:=(s.heap.push W.emptyDict).push (W.instObj C s.heap.objs.size) }) :
  codeAny (model prog w) A (.call (.ref C) ⟨vs,kw⟩) R s:=by
 obtain⟨hh,g,d,t,os⟩:=s;exact W.make_core (W.makes_of X hm) (W.looks_findIn X hi) (fun self=>W.bind_fn X self hf) (.inl rfl) h
end
noncomputable def putF(f:Str)(v:V):List (Str×V)->List (Str×V)
 |[]=>[(f,v)]
 |(g,x)::r=>if g=f then(g,v)::r else(g,x)::putF f v r
theorem zjv(f g:Str)(v:V):∀fs:List (Str×V),(putF f v fs).lookup g=if g=f then some v else fs.lookup g
 | []=>by
   show List.lookup g [(f,v)]=_;by_cases h:g=f
   ·have hb:(g==f)=true:=beq_iff_eq.mpr h
    simp only[List.lookup,hb,if_pos h]
   ·have hb:(g==f)=false:=beq_eq_false_iff_ne.mpr h
    simp only[List.lookup,hb,if_neg h]
 | (k,x)::r=>by
   have ih:=zjv f g v r;rw[show putF f v ((k,x)::r)=(if k=f then(k,v)::r else(k,x)::putF f v r) from rfl];by_cases hk:k=f
   ·rw[if_pos hk]
    by_cases h:g=k
    ·have hb:(g==k)=true:=beq_iff_eq.mpr h
     simp only[List.lookup,hb,if_pos (h.trans hk)]
    ·have hb:(g==k)=false:=beq_eq_false_iff_ne.mpr h
     simp only[List.lookup,hb,if_neg (fun e:g=f=>h (e.trans hk.symm))]
   ·rw[if_neg hk]
    by_cases h:g=k
    ·have hb:(g==k)=true:=beq_iff_eq.mpr h
     simp only[List.lookup,hb,if_neg (fun e:g=f=>hk (h.symm.trans e))]
    ·have hb:(g==k)=false:=beq_eq_false_iff_ne.mpr h
     simp only[List.lookup,hb];exact ih
theorem zmu(f:Str)(v:V):∀fs:List (Str×V),f∈(putF f v fs).map (·.1)/\∀g,g∈fs.map (·.1)->g∈(putF f v fs).map (·.1)
 |[]=>⟨by simp[putF],fun g h=>by simp at h⟩
 | (k,x)::r=>by
   obtain⟨i1,i2⟩:=zmu f v r;rw[show putF f v ((k,x)::r)=(if k=f then(k,v)::r else(k,x)::putF f v r) from rfl];by_cases hk:k=f
   ·rw[if_pos hk]
    subst hk;exact⟨by simp,fun g h=>by simpa using h⟩
   ·rw[if_neg hk]
    refine⟨?_,fun g h=>?_⟩
    ·rw[List.map_cons]
     exact List.mem_cons_of_mem _ i1
    ·rw[List.map_cons] at h ⊢
     rcases List.mem_cons.mp h with e | e
     ·exact List.mem_cons.mpr (.inl e)
     ·exact List.mem_cons_of_mem _ (i2 g e)
theorem zmv(f:Str)(v:V):∀fs:List (Str×V),(putF f v fs).length<=fs.length+1
 |[]=>by simp[putF]
 | (k,x)::r=>by
   have ih:=zmv f v r;rw[show putF f v ((k,x)::r)=(if k=f then(k,v)::r else(k,x)::putF f v r) from rfl];by_cases hk:k=f
   ·rw[if_pos hk,List.length_cons,List.length_cons];omega
   ·rw[if_neg hk,List.length_cons,List.length_cons];omega
theorem RelO.some_of{v:V}{o:Option Value}(r:RelO (some v) o):∃u,o=some u/\RelV v u:=by
 cases o with
 |none=>exact(show False from r).elim
 |some u=>exact⟨u,rfl,r⟩
theorem RelO.none_of{o:Option Value}(r:RelO none o):o=none:=by
 cases o with
 |none=>rfl
 |some u=>exact(show False from r).elim
theorem zqv{v:V}{u:Value}(r:RelV v u):W.handedIn u=true:=by
 cases v with
 |non=>cases (show u=Value.none from r);rfl
 |bl b=>cases (show u=Value.bool b from r);rfl
 |int i=>obtain⟨t,e⟩:=(show∃t,u=Value.int i t from r);cases e;rfl
 |str x=>obtain⟨t,e⟩:=(show∃t,u=Value.str x t from r);cases e;rfl
 |byt b=>obtain⟨t,e⟩:=(show∃t,u=Value.bytes b t from r);cases e;rfl
 |flt b=>obtain⟨t,e⟩:=(show∃t,u=Value.float b t from r);cases e;rfl
 |ref a=>cases (show u=Value.ref a from r);rfl
 |ty n=>cases (show u=Value.type n from r);rfl
section
variable {P:Program}{w:World}{H H':Hp}{h h':Heap}{a C dx:Addr}{fs fs':List (Str×V)}
theorem zo7(hok:HOk P w H h)(e:H a=some (.ins C dx fs)):∃mA,ObjM h a dx C mA/\(∀f,RelO (fs.lookup f) (mA f))/\PySem.Within mA (fs.map (·.1))/\fs.length<=1000/\H dx=some (.own a):=by
 obtain⟨d,z,ne,ob,mA,n,r,q⟩:=(show zc8 P w H h a (.ins C dx fs) from hok a _ e);exact⟨mA,⟨ob,n,ne⟩,r,q,z,d⟩
end
structure Cls(K:W.Frag)(C:Addr):Prop where
 pg:W.plainGet K C Str.empty=true
 hd:W.hasDictIn K C=true
 po:W.plainOver K C=true
 sa:W.findIn K (.ref C) "__setattr__" = some (some (.builtin "object.__setattr__"))
theorem Cls.get{K:W.Frag}{C:Addr}(c:Cls K C)(f:Str):W.plainGet K C f=true:=c.pg
def zca(K:W.Frag)(C:Addr)(f:Str):Prop:=W.findIn K (.ref C) f=some none
theorem zca.taker{K:W.Frag}{C:Addr}{f:Str}(n:zca K C f):W.takerIn K C f=some none:=by
 unfold W.takerIn;rw[show W.findIn K (.ref C) f=some none from n];rfl
structure Meth(K:W.Frag)(C:Addr)(m:Str)(f:Addr):Prop where
 at_:W.findIn K (.ref C) m=some (some (.ref f))
 fn:W.isFn K (.ref f)=true
 kp:W.keepIn K (.ref f)=true
section
variable {X:Cx}{pins:List (Addr×Obj)}{σ:St}{H:Hp}{s:Shared}{a C dx:Addr}{fs:List (Str×V)}{f:Str}{v:V}{A:Around}{E:Value->Shared->Prop}
theorem zwt{b:Bool}{Q:Value->Shared->Prop}(I:Inv X pins σ H s)(e:H a=some (.ins C dx fs))(c:Cls X.K C)(n:zca X.K C f)(l:fs.lookup f=some v)
  (h:∀u s',Inv X pins σ H s'->RelV v u->Q u s'):wpAny (model X.prog X.w) A (getAttr (.ref a) f b) Q E s:=by
 obtain⟨mA,O,r,_,_,_⟩:=zo7 I.hok e;obtain⟨u,hu,ru⟩:=RelO.some_of (v:=v) (o:=mA f) (by rw[<- l];exact r f);exact z5k I.kIn O (c.get f) c.hd n hu (zqv ru) (h u _ (I.tok _) ru)
theorem zkz{m:Str}{g:Addr}{pl:Sem Bool}{Q:Value×List Value->Shared->Prop}(I:Inv X pins σ H s)(e:H a=some (.ins C dx fs))(c:Cls X.K C)(k:Meth X.K C m g)(l:fs.lookup m=none)
  (h:Q (.ref g,[.ref a]) s):wpAny (model X.prog X.w) A (getMethod (.ref a) m pl) Q E s:=by
 obtain⟨mA,O,r,_,_,_⟩:=zo7 I.hok e;have hn:mA m=none:=RelO.none_of (by rw[<- l];exact r m);exact z1y I.kIn O (c.get m) k.at_ k.fn hn h
theorem zwu{y:V}{u:Value}{Q:Unit->Shared->Prop}(I:Inv X pins σ H s)(e:H a=some (.ins C dx fs))(c:Cls X.K C)(n:zca X.K C f)(hl:fs.length<1000)(ry:RelV y u)
  (h:∀s',Inv X pins σ (upd H a (.ins C dx (putF f y fs))) s'->Q () s'):wpAny (model X.prog X.w) A (setAttr (.ref a) f u) Q E s:=by
 obtain⟨mA,O,r,wi,_,ho⟩:=zo7 I.hok e;have hz:(fs.map (·.1)).length<=sizeLine:=by rw[List.length_map,sizeLine_eq];omega
 refine z5l I.kIn O c.sa c.po n.taker c.hd wi hz fun h' O' sb=>h _ ?_;have hd:∃o,h'.get? dx=some o:=let ⟨o,_,_,e',_⟩:=O'.ns;⟨o,e'⟩;refine I.write (x:=a) (e:=dx) (by rw[e];exact True.intro) (.inr ho) (fun b q hb z=>(sb.2 b hb).trans z) hd ?_;refine⟨by rw[zai O.ne];exact ho,?_,O.ne,O'.obj,_,O'.ns,fun g=>?_,fun g hg=>?_⟩
 ·have:=zmv f y fs;omega
 ·show RelO ((putF f y fs).lookup g) (if g=f then some u else mA g)
  rw[zjv];by_cases q:g=f
  ·rw[if_pos q,if_pos q];exact ry
  ·rw[if_neg q,if_neg q];exact r g
 ·by_cases q:g=f
  ·rw[q];exact(zmu f y fs).1
  ·refine(zmu f y fs).2 g (wi g fun z=>hg ?_)
   show(if g=f then some u else mA g)=none;rw[if_neg q];exact z
theorem Inv.made(I:Inv X pins σ H s):Inv X pins σ (upd (upd H s.heap.objs.size (.own (s.heap.objs.size+1))) (s.heap.objs.size+1) (.ins C s.heap.objs.size []))
  { s with heap:=(s.heap.push W.emptyDict).push (W.instObj C s.heap.objs.size) }:=by
 have e1:(s.heap.push W.emptyDict).get? s.heap.objs.size=some W.emptyDict:=Heap.get?_push_size s.heap rfl;have e2:((s.heap.push W.emptyDict).push (W.instObj C s.heap.objs.size)).get? (s.heap.objs.size+1)=some (W.instObj C s.heap.objs.size):=by
  have:=Heap.get?_push_size (s.heap.push W.emptyDict) (o:=W.instObj C s.heap.objs.size) rfl;rwa[Heap.size_push] at this
 have e3:(s.heap.push W.emptyDict).Ns s.heap.objs.size (fun _=>none):=⟨W.emptyDict,#[],_,e1,rfl,(fun e he=>absurd he (by simp)),fun _=>rfl⟩;have I1:=I.laid (a:=s.heap.objs.size) (o:=.own (s.heap.objs.size+1)) (h':=s.heap.push W.emptyDict) (t':=s.toks) (fun b u q=>Heap.get?_push_of_some _ q) (Nat.le_refl _) ⟨_,e1⟩;refine I1.laid (a:=s.heap.objs.size+1) (o:=.ins C s.heap.objs.size []) (t':=s.toks) (fun b u q=>Heap.get?_push_of_some _ q) (Nat.le_of_eq (Heap.size_push _ _)) ?_;have ne:s.heap.objs.size≠s.heap.objs.size+1:=Nat.ne_of_lt (Nat.lt_succ_self _);refine⟨by rw[zai ne,zaj],Nat.zero_le _,ne,e2,fun _=>none,(Heap.Ns1.of_empty e3).at fun o q=>Heap.get?_push_of_some _ q,fun _=>True.intro,fun y hy=>absurd rfl hy⟩
theorem zyb{prog:Program}{w:World}{env:Env}{e:Expr}{f:Str}{pos:Pos}{s:Shared}{Q:Value->Shared->Prop}(hb:attributeBase e f env (eval e env)=eval e env)
  (h:wpAny (model prog w) A (eval e env) (fun o s₁=>wpAny (model prog w) A (getAttr o f true) Q E s₁) E s):wpAny (model prog w) A (eval (.Attribute e f pos) env) Q E s:=
 Attribute_any_ h (by rw[arm_eval_Attribute,hb])
end
def tFld(K:W.Frag)(ta:TE)(f:Str):TE:=fun σ H Q=>ta σ H fun x H1=>∃a C dx fs v,x=.ref a/\H1 a=some (.ins C dx fs)/\Cls K C/\zca K C f/\fs.lookup f=some v/\Q v H1
def sFld(K:W.Frag)(ta tv:TE)(f:Str):TS:=fun D σ H=>tv σ H fun y H1=>ta σ H1 fun x H2=>∃a C dx fs,x=.ref a/\H2 a=some (.ins C dx fs)/\Cls K C/\zca K C f/\fs.length<1000 /\
 D.nx σ (upd H2 a (.ins C dx (putF f y fs)))
section
variable {X:Cx}{o e value:Expr}{f:Str}{pos pos' tpos:Pos}{ta tv:TE}
theorem z8l(he:PE X e ta)(hb:attributeBase e f X.env (eval e X.env)=eval e X.env):PE X (.Attribute e f pos) (tFld X.K ta f):=by
 intro pins s σ H Q I h;refine zyb hb (thn (he pins s σ H _ I h) fun u s1 hq_=>?_);obtain⟨x,H1,I1,rx,a,C,dx,fs,v,ex,ea,c,n,l,q⟩:=hq_;subst ex;obtain rfl:u=Value.ref a:=rx;exact zwt I1 ea c n l fun u' s2 I2 ru=>⟨v,H1,I2,ru,q⟩
theorem z8m(ha:PE X o ta)(hv:PE X value tv)(hs:swapsWith value (some (.Attribute o f pos')) pos.line X.env=pure false):PS X (.Assign [.Attribute o f pos'] value pos) (sFld X.K ta tv f):=by
 intro pins s σ H D I h;refine plainObj_wpAny_Assign_Attribute (thn (hv pins s σ H _ I h) fun u s1 hq_=>?_) hs;obtain⟨y,H1,I1,ry,q⟩:=hq_;refine thn (ha pins s1 σ H1 _ I1 q) fun ov s2 hq_=>?_;obtain⟨x,H2,I2,rx,a,C,dx,fs,ex,ea,c,n,l,q2⟩:=hq_;subst ex;obtain rfl:ov=Value.ref a:=rx;exact zwu I2 ea c n l ry fun s3 I3=>⟨σ,_,I3,q2⟩
theorem z5m{pl:Sem Bool}{m:Str}{apos:Pos}{args:List Expr}{pins:List (Addr×Obj)}{s:Shared}{σ:St}{H:Hp}{Q:Value->Shared->Prop}{te:TE}(he:PE X e te)(I:Inv X pins σ H s)
  (h:te σ H fun x H1=>∃a C dx fs g,x=.ref a/\H1 a=some (.ins C dx fs)/\Cls X.K C/\Meth X.K C m g/\fs.lookup m=none /\
   ∀s1,Inv X pins σ H1 s1->wpAny (model X.prog X.w) X.A (callWith pos (.ref g) [.ref a] (backTo pos (starEach args X.env)) (backToKw pos (keywordEach [] X.env))) Q X.xe s1)
  (ht:eval (.Call (.Attribute e m apos) args [] pos) X.env=(do
   let ov <- eval e X.env
   standAt apos.atName
   let (f,first) <- holding [ov] (getMethod ov m pl)
   callWith pos f first (backTo pos (starEach args X.env)) (backToKw pos (keywordEach [] X.env)))) :
  wpAny (model X.prog X.w) X.A (eval (.Call (.Attribute e m apos) args [] pos) X.env) Q X.xe s:=by
 refine W.methodCall_KW (pl:=pl) (thn (he pins s σ H _ I h) fun u s1 hq_=>?_) ht;obtain⟨x,H1,I1,rx,a,C,dx,fs,g,ex,ea,c,k,l,q⟩:=hq_;subst ex;obtain rfl:u=Value.ref a:=rx;exact zkz I1 ea c k l (q s1 I1)
end
section
variable {X:Cx}{pins:List (Addr×Obj)}{σ:St}{H:Hp}{s:Shared}{A:Around}{E:Value->Shared->Prop}{Q:Value->Shared->Prop}{c:Value}{b:Bool}
inductive TyOf(K:W.Frag)(H:Hp):V->Value->Prop where
 |non:TyOf K H .non (.type "NoneType")
 |bl (x:Bool):TyOf K H (.bl x) (.type "bool")
 |int (i:Int):TyOf K H (.int i) (.type "int")
 |str (x:Str):TyOf K H (.str x) (.type "str")
 |flt (x:UInt64):TyOf K H (.flt x) (.type "float")
 |lst {a:Addr} {xs:List V} (e:H a=some (.lst xs)):TyOf K H (.ref a) (.type "list")
 |frz {a:Addr} {o:Obj} {xs:List V} (e:H a=some (.frz o (.lst xs))):TyOf K H (.ref a) (.type "list")
 |tup {a:Addr} {xs:List V} (e:H a=some (.tup xs)):TyOf K H (.ref a) (.type "tuple")
 |dK {a:Addr} {kvs:List (Key×V)} (e:H a=some (.dK kvs)):TyOf K H (.ref a) (.type "dict")
 |dT {a:Addr} {kvs:List (List Key×V)} (e:H a=some (.dT kvs)):TyOf K H (.ref a) (.type "dict")
 |ins {a C dx:Addr} {fs:List (Str×V)} (e:H a=some (.ins C dx fs)) (cl:Cls K C) (ha:W.findIn K (.ref C) "__class__" = some (some (.builtin "object.__class__")))
  (hn:W.specialIn K (.builtin "object.__class__") "__get__" = some (some (.builtin "getset_descriptor.__get__"))) (htk:W.takesIn K (.builtin "object.__class__")=some true)
  (hm:W.mroIn K C (.type "object")=some true):TyOf K H (.ref a) (.ref C)
theorem zyc{x:V}{u t:Value}(I:Inv X pins σ H s)(rx:RelV x u)(ty:TyOf X.K H x t)(e:W.kitOne X.K t c=some b)(h:∀tk,Q (.bool b) { s with toks:=tk }) :
  wpAny (model X.prog X.w) A (call (.builtin "isinstance") [u,c]) Q E s:=by
 cases ty with
 |non=>cases (show u=Value.none from rx);exact W.kia_one W.kitx_none I.kIn True.intro e (fun z=>nomatch z) h
 |bl y=>cases (show u=Value.bool y from rx);exact W.kia_one W.kitx_bool I.kIn True.intro e (fun z=>nomatch z) h
 |int i=>obtain⟨t,q⟩:=(show∃t,u=Value.int i t from rx);cases q;exact W.kia_one W.kitx_int I.kIn True.intro e (fun z=>nomatch z) h
 |str y=>obtain⟨t,q⟩:=(show∃t,u=Value.str y t from rx);cases q;exact W.kia_one W.kitx_str I.kIn True.intro e (fun z=>nomatch z) h
 |flt y=>obtain⟨t,q⟩:=(show∃t,u=Value.float y t from rx);cases q;exact W.kia_one W.kitx_float I.kIn True.intro e (fun z=>nomatch z) h
 | @lst a xs ea=>
   cases (show u=Value.ref a from rx);obtain⟨_,_,n,_,h1⟩:=(show zc8 X.prog X.w H s.heap a (.lst xs) from I.hok a _ ea);exact W.kia_one W.kitx_list I.kIn ⟨_,h1,rfl⟩ e (fun z=>nomatch z) h
 | @frz a ob xs ea=>
   cases (show u=Value.ref a from rx);obtain⟨_,_,_,n,_,h1⟩:=(show zc8 X.prog X.w H s.heap a (.frz ob (.lst xs)) from I.hok a _ ea);exact W.kia_one W.kitx_list I.kIn ⟨_,h1,rfl⟩ e (fun z=>nomatch z) h
 | @tup a xs ea=>
   cases (show u=Value.ref a from rx);obtain⟨_,_,_,p⟩:=(show zc8 X.prog X.w H s.heap a (.tup xs) from I.hok a _ ea);obtain⟨o,h1,h2,_⟩:=p;exact W.kia_one W.kitx_tuple I.kIn ⟨o,h1,h2⟩ e (fun z=>nomatch z) h
 | @dK a kvs ea=>
   cases (show u=Value.ref a from rx);obtain⟨_,_,vs,_,p⟩:=(show zc8 X.prog X.w H s.heap a (.dK kvs) from I.hok a _ ea);obtain⟨o,es,ep,h1,h2,_⟩:=p;exact W.kia_one W.kitx_dict I.kIn ⟨o,h1,h2.1⟩ e (fun z=>nomatch z) h
 | @dT a kvs ea=>
   cases (show u=Value.ref a from rx);obtain⟨_,_,xs,_,o,es,ep,h1,h2,_⟩:=(show zc8 X.prog X.w H s.heap a (.dT kvs) from I.hok a _ ea);exact W.kia_one W.kitx_dict I.kIn ⟨o,h1,h2.1⟩ e (fun z=>nomatch z) h
 | @ins a C dx fs ea cl ha hn htk hm=>
   cases (show u=Value.ref a from rx);obtain⟨mA,O,_⟩:=zo7 I.hok ea;obtain⟨od,J,_⟩:=O.look;exact W.kia_one (W.kitx_own (cl.get _) cl.hd ha hn htk hm) I.kIn J e (fun z=>nomatch z) h
end
structure Room(k:Nat)(A:Around):Prop where
 hd:A.handled=none
 dp:A.depth+3*k+5<recursionLimit
 un:A.units+16*k+200<cLine
 gd:A.guards=some []
theorem Room.mono{j k:Nat}{A:Around}(r:Room k A)(h:j<=k):Room j A:=⟨r.hd,by have:=r.dp;omega,by have:=r.un;omega,r.gd⟩
theorem Room.deeper{k:Nat}{A:Around}(r:Room (k+1) A)(env:Env):Room k (A.deeper env):=
 ⟨r.hd,by have:=r.dp;show A.depth+1+3*k+5<_;omega,by have:=r.un;show A.units+3+16*k+200<_;omega,r.gd⟩
theorem zwv{A:Around}{C:Addr}{us:List Value}{kw:List (Str×Value)}:(A.under (.builtin "type.__call__" ⟨.ref C::us,kw⟩)).depth=A.depth+1:=by
 first | rfl | simp[Around.under,Code.weight,Code.isCreation,Code.isGuard,Code.isCaller,Code.frames,Code.isFrame,guardIds]
theorem zww{A:Around}{C:Addr}{us:List Value}{kw:List (Str×Value)}:(A.under (.builtin "type.__call__" ⟨.ref C::us,kw⟩)).units=A.units+1:=by
 first | rfl | simp[Around.under,Code.cUnits,Code.frames,Code.isFrame]
theorem zs5{A:Around}{C:Addr}{us:List Value}{kw:List (Str×Value)}(h:A.guards=some []):(A.under (.builtin "type.__call__" ⟨.ref C::us,kw⟩)).guards=some []:=by
 have e:(Code.builtin "type.__call__" ⟨.ref C::us,kw⟩).guards=[]:=by first | rfl | simp[Code.guards,Code.isGuard,guardIds]
 unfold Around.under;simp only[e,h];rfl
theorem Room.make{k:Nat}{A:Around}(r:Room (k+1) A)(C:Addr)(us:List Value)(kw:List (Str×Value)):Room k (A.under (.builtin "type.__call__" ⟨.ref C::us,kw⟩)):=
 ⟨r.hd,by have:=r.dp;rw[zwv];omega,by have:=r.un;rw[zww];omega,zs5 r.gd⟩
theorem Room.depth{k:Nat}{A:Around}(r:Room k A):A.depth<recursionLimit:=by have:=r.dp;omega
theorem Room.units{k:Nat}{A:Around}(r:Room k A):A.units+64<cLine:=by have:=r.un;omega
def tNil:TA:=fun _ H Q=>Q [] H
def zwx(ta:TE)(tr:TA):TA:=fun σ H Q=>ta σ H fun x H1=>tr σ H1 fun xs H2=>Q (x::xs) H2
section
variable {X:Cx}{e:Expr}{es:List Expr}{te:TE}{t:TA}{pos:Pos}
theorem zls:PA X [] tNil:=fun _ _ _ _ H Q I h=>Calls.spliced_nil ⟨[],H,I,.nil,h⟩
theorem zfr(ha:PE X e te)(hr:PA X es t)(hs:starEach (e::es) X.env=(false,eval e X.env)::starEach es X.env:=by rfl):PA X (e::es) (zwx te t):=by
 intro pos pins s σ H Q I h;rw[hs];show wpAny _ _ (spliced ((false,eval e X.env)::backTo pos (starEach es X.env))) _ _ s;refine Calls.spliced_cons (thn (ha pins s σ H _ I h) fun u s1 hq_=>?_);obtain⟨x,H1,I1,r1,q1⟩:=hq_;exact thn (hr pos pins s1 σ H1 _ I1 q1) fun us s2 ⟨xs,H2,I2,r2,q2⟩=>⟨x::xs,H2,I2,.cons r1 r2,q2⟩
def tTup(t:TA):TE:=fun σ H Q=>t σ H fun xs H1=>xs.length<=sizeLine/\∀p,H1 p=none->Q (.ref p) (upd H1 p (.tup xs))
def tLst(t:TA):TE:=fun σ H Q=>t σ H fun xs H1=>xs.length<=sizeLine/\∀p,H1 p=none->Q (.ref p) (upd H1 p (.lst xs))
theorem z8n{x1}(h:PA X es t):PE X (.Tuple es x1 pos) (tTup t):=by
 intro pins s σ H Q I hq;refine wpAny_Tuple_spliced (thn (h pos pins s σ H _ I hq) fun us s1 ⟨xs,H1,I1,r,z,q⟩=>⟨by rw[<- r.length];exact z,?_⟩);have hf:H1 s1.heap.objs.size=none:=I1.hok.fresh (Nat.le_refl _);refine⟨.ref s1.heap.objs.size,upd H1 s1.heap.objs.size (.tup xs),I1.laid (t':=s1.toks) (fun b u e=>Heap.get?_push_of_some _ e) (Nat.le_refl _) ?_,rfl,q _ hf⟩;exact⟨z,us,r,⟨_,Heap.get?_push_size _ rfl,rfl,_,rfl⟩⟩
theorem z3z(h:PA X es t):PE X (.List es pos) (tLst t):=by
 intro pins s σ H Q I hq;refine wpAny_List_spliced (thn (h pos pins s σ H _ I hq) fun us s1 ⟨xs,H1,I1,r,z,q⟩=>⟨by rw[<- r.length];exact z,?_⟩);have hf:H1 s1.heap.objs.size=none:=I1.hok.fresh (Nat.le_refl _);refine⟨.ref s1.heap.objs.size,upd H1 s1.heap.objs.size (.lst xs),I1.laid (t':=s1.toks) (fun b u e=>Heap.get?_push_of_some _ e) (Nat.le_refl _) ?_,rfl,q _ hf⟩;exact⟨z,us,0,r,Heap.get?_push_size _ rfl⟩
end
abbrev Sp:=List V->Hp->VK->XK->Prop
abbrev CXT:=List Env->Hp->Shared->XK->Value->Shared->Prop
structure Env0(P:Program)(w:World)(K:W.Frag)(mg:Str->Option Value)(base:Heap)(A:Around)(outer:List Env)(s:Shared)(H:Hp):Prop where
 frames:A.frames=some outer
 mod:Mod K mg base
 bs:∀b o,base.get? b=some o->s.heap.get? b=some o/\H b=none
 bsz:base.objs.size<=s.heap.objs.size
 funs:s.heap.FunFrames base outer
 frf:∀b∈frs outer,H b=none
 hok:HOk P w H s.heap
 bare:AllBare s.gens
def CE(outer:List Env)(P:Program)(w:World)(H:Hp)(s:Shared)(Q:VK)(u:Value)(s':Shared):Prop:=
 ∃v H',s'.os=s.os/\AllBare s'.gens/\Un (frs outer) [] H H' s.heap s'.heap/\HOk P w H' s'.heap/\RelV v u/\Q v H'
def CR(CX:CXT)(outer:List Env)(P:Program)(w:World)(H:Hp)(s:Shared)(Q:VK)(E:XK)(r:Result)(s':Shared):Prop:=
 match r with
 |.ok (.ret u)=>CE outer P w H s Q u s'
 |.ok _=>False
 |.error e=>CX outer H s E e s'
structure FnOk(P:Program)(w:World)(K:W.Frag)(mg:Str->Option Value)(base:Heap)(CX:CXT)(k:Nat)(f:Addr)(fd:FuncData)(ps:List Str)(sp:Sp):Prop where
 len:∀vs H Q E,sp vs H Q E->vs.length=ps.length
 run:∀(A:Around) (outer:List Env) (s:Shared) (H:Hp) (args:Args) (us:List Value) (vs:List V) (Q:VK) (E:XK),Room k A->Env0 P w K mg base A outer s H->BindsTo s fd args (ps.zip us)->Vals vs us->sp vs H Q E ->
  codeAny (model P w) A (.call (.ref f) args) (CR CX outer P w H s Q E) s
theorem FnOk.mono{P:Program}{w:World}{K:W.Frag}{mg:Str->Option Value}{base:Heap}{CX:CXT}{j k:Nat}{f:Addr}{fd:FuncData}{ps:List Str}{sp:Sp}(F:FnOk P w K mg base CX j f fd ps sp)(h:j<=k) :
 FnOk P w K mg base CX k f fd ps sp:=⟨F.len,fun A outer s H args us vs Q E hr=>F.run A outer s H args us vs Q E (hr.mono h)⟩
theorem FnOk.imp{P:Program}{w:World}{K:W.Frag}{mg:Str->Option Value}{base:Heap}{CX:CXT}{k:Nat}{f:Addr}{fd:FuncData}{ps:List Str}{sp sp':Sp}(F:FnOk P w K mg base CX k f fd ps sp)
  (h:∀vs H Q E,sp' vs H Q E->sp vs H Q E):FnOk P w K mg base CX k f fd ps sp':=
 ⟨fun vs H Q E q=>F.len vs H Q E (h _ _ _ _ q),fun A outer s H args us vs Q E hr he hb hv hs=>F.run A outer s H args us vs Q E hr he hb hv (h _ _ _ _ hs)⟩
theorem Env0.make{P:Program}{w:World}{K:W.Frag}{mg:Str->Option Value}{base:Heap}{A:Around}{outer:List Env}{s:Shared}{H:Hp}(e:Env0 P w K mg base A outer s H)(C:Addr)(us:List Value)(kw:List (Str×Value)) :
 Env0 P w K mg base (A.under (.builtin "type.__call__" ⟨.ref C::us,kw⟩)) outer s H:=⟨by first | exact e.frames | (simpa[Around.under,Code.envs,Code.isFrame,pushEnvs] using e.frames),e.mod,e.bs,e.bsz,e.funs,e.frf,e.hok,e.bare⟩
section
variable {X:Cx}{pins:List (Addr×Obj)}{σ:St}{H:Hp}{s s':Shared}
theorem Inv.env0(I:Inv X pins σ H s):Env0 X.prog X.w X.K X.mg X.base X.A X.stack s H:=
 ⟨I.ok.frames,I.ok.mod,I.bs,Nat.le_trans I.ok.bsz I.sz,I.stack,I.stkFree,I.hok,I.bare⟩
theorem Inv.after{Q:VK}{u:Value}(I:Inv X pins σ H s)(h:CE X.stack X.prog X.w H s Q u s'):EP X pins σ Q u s':=by
 obtain⟨v,H',os,bare,un,hok,r,q⟩:=h;obtain⟨hh,g,d,t,os'⟩:=s';obtain rfl:os'=s.os:=os;exact⟨v,H',I.call (h':=hh) (g':=g) (d':=d) (t':=t) (ch:=[]) un hok bare (fun b z=>absurd z (by simp)),r,q⟩
end
def z8o(sp:Sp)(dvs:List V)(E:XK)(t:TA):TE:=fun σ H Q=>t σ H fun vs H1=>sp (vs++dvs) H1 Q E
def z5n(C:Addr)(m:Str)(sp:Sp)(dvs:List V)(E:XK)(ta:TE)(t:TA):TE:=fun σ H Q=>ta σ H fun x H1=>∃a dx fs,x=.ref a/\H1 a=some (.ins C dx fs)/\fs.lookup m=none /\
 t σ H1 fun vs H2=>sp (x::(vs++dvs)) H2 Q E
def z5o(C:Addr)(sp:Sp)(dvs:List V)(E:XK)(t:TA):TE:=fun σ H Q=>t σ H fun vs H1=>∀x dx,H1 x=none->H1 dx=none->dx≠x ->
 sp (.ref x::(vs++dvs)) (upd (upd H1 dx (.own x)) x (.ins C dx [])) (fun v H2=>v=.non/\Q (.ref x) H2) E
def ze5(K:W.Frag)(fd:FuncData)(ps:List Str)(ds:List Value):Prop:=
 ∀(s:Shared) (us:List Value),K.In s.heap->(us++ds).length=ps.length->BindsTo s fd ⟨us,[]⟩ (ps.zip (us++ds))
theorem ze5.all{K:W.Frag}{fd:FuncData}{ps:List Str}(h:∀us:List Value,us.length=ps.length->bindArgs fd ⟨us,[]⟩=pure (ps.zip us)):ze5 K fd ps []:=fun s us _ hl=>by
 rw[List.append_nil] at hl ⊢;exact .of_eq (h us hl)
def zdq(CX:CXT)(X:Cx)(E:XK):Prop:=∀(pins:List (Addr×Obj)) (σ:St) (H:Hp) (s:Shared) (e:Value) (s':Shared),Inv X pins σ H s->CX X.stack H s E e s'->X.xe e s'
section
variable {X:Cx}{CX:CXT}{k:Nat}{f C:Addr}{fd:FuncData}{ps:List Str}{sp:Sp}{dvs:List V}{ds:List Value}{E:XK}{x m:Str}{p pos apos:Pos}{e o:Expr}{es:List Expr}{ta:TE}{t:TA}
theorem zyd{pins:List (Addr×Obj)}{σ:St}{H:Hp}{s:Shared}{Q:VK}{us:List Value}{vs:List V}(F:FnOk X.prog X.w X.K X.mg X.base CX k f fd ps sp)(hr:Room k X.A)(hb:ze5 X.K fd ps ds)(hd:Vals dvs ds)(hx:zdq CX X E)
  (I:Inv X pins σ H s) (r:Vals vs us) (h:sp (vs++dvs) H Q E):wpAny (model X.prog X.w) X.A (call (.ref f) us) (EP X pins σ Q) X.xe s:=by
 have r2:Vals (vs++dvs) (us++ds):=r.append hd;have hl:(us++ds).length=ps.length:=by rw[<- r2.length];exact F.len _ _ _ _ h
 refine wpAny_call (codeAny_mono (F.run X.A X.stack s H ⟨us,[]⟩ (us++ds) (vs++dvs) Q E hr I.env0 (hb s us I.kIn hl) r2 h) fun r s' hq=>?_);cases r with
 |error e=>exact hx pins σ H s e s' I hq
 | ok fl=>
   cases fl with
   |ret u=>exact I.after hq
   |next=>exact False.elim hq
   |brk=>exact False.elim hq
   |cont=>exact False.elim hq
theorem z5p(F:FnOk X.prog X.w X.K X.mg X.base CX k f fd ps sp)(hr:Room k X.A)(hg:Gl X x)(hm:X.mg x=some (.ref f))(hk:W.keepIn X.K (.ref f)=true)(hb:ze5 X.K fd ps ds)(hd:Vals dvs ds)(hx:zdq CX X E)
  (ha:PA X (e::es) t) (hdb:(x==("__debug__" : Str))=false:=by decide) (he:starEach (e::es) X.env=(false,eval e X.env)::starEach es X.env:=by rfl) (hpl:(backTo pos (starEach es X.env)).any (·.1)=false:=by rfl) :
  PE X (.Call (.Name x p) (e::es) [] pos) (z8o sp dvs E t):=by
 intro pins s σ H Q I h;refine wpAny_Call_Name_kw (zhe I hg hm ?_ hdb);refine W.callWith_K (h₀:=X.base) I.ok.mod.kin hk (thn (ha pos pins s σ H _ I h) fun us s1 ⟨vs,H1,I1,r,q⟩=>⟨I1.kIn,?_⟩) he hpl;exact zyd F hr hb hd hx I1 r q
theorem zye{pl:Sem Bool}(he:PE X o ta)(c:Cls X.K C)(hm:Meth X.K C m f)(F:FnOk X.prog X.w X.K X.mg X.base CX k f fd ps sp)(hr:Room k X.A)(hb:ze5 X.K fd ps ds)(hd:Vals dvs ds)(hx:zdq CX X E)(ha:PA X (e::es) t)
  (hst:starEach (e::es) X.env=(false,eval e X.env)::starEach es X.env:=by rfl) (hpl:(backTo pos (starEach es X.env)).any (·.1)=false:=by rfl)
  (ht:eval (.Call (.Attribute o m apos) (e::es) [] pos) X.env=(do
   let ov <- eval o X.env
   standAt apos.atName
   let (f,first) <- holding [ov] (getMethod ov m pl)
   callWith pos f first (backTo pos (starEach (e::es) X.env)) (backToKw pos (keywordEach [] X.env))):=by rfl) :
  PE X (.Call (.Attribute o m apos) (e::es) [] pos) (z5n C m sp dvs E ta t):=by
 intro pins s σ H Q I h;refine W.methodCall_KW (pl:=pl) (thn (he pins s σ H _ I h) fun u s1 hq_=>?_) ht;obtain⟨x,H1,I1,rx,a,dx,fs,ex,ea,l,q⟩:=hq_;subst ex;obtain rfl:u=Value.ref a:=rx;refine zkz I1 ea c hm l ?_;refine W.callWith_K (first:=[.ref a]) (h₀:=X.base) I.ok.mod.kin hm.kp (thn (ha pos pins s1 σ H1 _ I1 q) fun us s2 ⟨vs,H2,I2,r,q2⟩=>⟨I2.kIn,?_⟩) hst hpl;exact zyd (us:=.ref a::us) (vs:=.ref a::vs) F hr hb hd hx I2 (.cons rfl r) q2
theorem z10{pl:Sem Bool}(he:PE X o ta)(c:Cls X.K C)(hm:Meth X.K C m f)(F:FnOk X.prog X.w X.K X.mg X.base CX k f fd ps sp)(hr:Room k X.A)(hb:ze5 X.K fd ps ds)(hd:Vals dvs ds)(hx:zdq CX X E)
  (ht:eval (.Call (.Attribute o m apos) [] [] pos) X.env=(do
   let ov <- eval o X.env
   standAt apos.atName
   let (f,first) <- holding [ov] (getMethod ov m pl)
   callWith pos f first (backTo pos (starEach [] X.env)) (backToKw pos (keywordEach [] X.env))):=by rfl) :
  PE X (.Call (.Attribute o m apos) [] [] pos) (z5n C m sp dvs E ta tNil):=by
 intro pins s σ H Q I h;refine W.methodCall_KW (pl:=pl) (thn (he pins s σ H _ I h) fun u s1 hq_=>?_) ht;obtain⟨x,H1,I1,rx,a,dx,fs,ex,ea,l,q⟩:=hq_;subst ex;obtain rfl:u=Value.ref a:=rx;refine zkz I1 ea c hm l ?_;exact W.callWith_K0 (first:=[.ref a]) I1.kIn hm.kp (zyd (us:=[.ref a]) (vs:=[.ref a]) F hr hb hd hx I1 (.cons rfl .nil) q)
structure Mk(K:W.Frag)(C f:Addr):Prop where
 makes:W.makesIn K C=true
 init:W.findIn K (.ref C) "__init__" = some (some (.ref f))
 fn:W.isFn K (.ref f)=true
 kp:W.keepIn K (.ref C)=true
theorem zu0{pins:List (Addr×Obj)}{σ:St}{H:Hp}{s:Shared}{Q:VK}{us:List Value}{vs:List V}(M:Mk X.K C f)(F:FnOk X.prog X.w X.K X.mg X.base CX k f fd ps sp)(hr:Room (k+1) X.A)(hb:ze5 X.K fd ps ds)(hd:Vals dvs ds)
  (hx:zdq CX X E) (I:Inv X pins σ H s) (r:Vals vs us)
  (h:∀x dx,H x=none->H dx=none->dx≠x->sp (.ref x::(vs++dvs)) (upd (upd H dx (.own x)) x (.ins C dx [])) (fun v H2=>v=.non/\Q (.ref x) H2) E) :
  wpAny (model X.prog X.w) X.A (call (.ref C) us) (EP X pins σ Q) X.xe s:=by
 have hq:=h (s.heap.objs.size+1) s.heap.objs.size (I.hok.fresh (Nat.le_succ _)) (I.hok.fresh (Nat.le_refl _)) (Nat.ne_of_lt (Nat.lt_succ_self _));have I2:=Inv.made (C:=C) I;have r2:Vals (V.ref (s.heap.objs.size+1)::(vs++dvs)) (Value.ref (s.heap.objs.size+1)::(us++ds)):=.cons rfl (r.append hd);have hl:(Value.ref (s.heap.objs.size+1)::us++ds).length=ps.length:=by
  have e:=r2.length;rw[F.len _ _ _ _ hq] at e;exact e.symm
 refine wpAny_call (z1z (f:=f) I.kIn M.makes M.init (beq_iff_eq.mp M.fn) (codeAny_mono (F.run _ X.stack _ _ ⟨Value.ref (s.heap.objs.size+1)::us,[]⟩ (Value.ref (s.heap.objs.size+1)::(us++ds)) _ _ E (hr.make C us [])
  (I2.env0.make C us []) (hb _ (Value.ref (s.heap.objs.size+1)::us) I2.kIn hl) r2 hq) fun r s' hq'=>?_))
 cases r with
 |error e=>exact hx pins σ _ _ e s' I2 hq'
 | ok fl=>
   cases fl with
   | ret u=>
     obtain⟨v,H',I3,rv,ev,q3⟩:=I2.after hq';subst ev;exact⟨rv,⟨V.ref (s.heap.objs.size+1),H',I3,rfl,q3⟩⟩
   |next=>exact False.elim hq'
   |brk=>exact False.elim hq'
   |cont=>exact False.elim hq'
theorem z5q(M:Mk X.K C f)(F:FnOk X.prog X.w X.K X.mg X.base CX k f fd ps sp)(hr:Room (k+1) X.A)(hg:Gl X x)(hm:X.mg x=some (.ref C))(hb:ze5 X.K fd ps ds)(hd:Vals dvs ds)(hx:zdq CX X E)
  (ha:PA X (e::es) t) (hdb:(x==("__debug__" : Str))=false:=by decide) (he:starEach (e::es) X.env=(false,eval e X.env)::starEach es X.env:=by rfl) (hpl:(backTo pos (starEach es X.env)).any (·.1)=false:=by rfl) :
  PE X (.Call (.Name x p) (e::es) [] pos) (z5o C sp dvs E t):=by
 intro pins s σ H Q I h;refine wpAny_Call_Name_kw (zhe I hg hm ?_ hdb);refine W.callWith_K (h₀:=X.base) I.ok.mod.kin M.kp (thn (ha pos pins s σ H _ I h) fun us s1 ⟨vs,H1,I1,r,q⟩=>⟨I1.kIn,?_⟩) he hpl;exact zu0 M F hr hb hd hx I1 r q
theorem z11(M:Mk X.K C f)(F:FnOk X.prog X.w X.K X.mg X.base CX k f fd ps sp)(hr:Room (k+1) X.A)(hg:Gl X x)(hm:X.mg x=some (.ref C))(hb:ze5 X.K fd ps ds)(hd:Vals dvs ds)(hx:zdq CX X E)
  (hdb:(x==("__debug__" : Str))=false:=by decide):PE X (.Call (.Name x p) [] [] pos) (z5o C sp dvs E tNil):=by
 intro pins s σ H Q I h;refine wpAny_Call_Name_kw (zhe I hg hm ?_ hdb);exact W.callWith_K0 I.kIn M.kp (zu0 (us:=[]) M F hr hb hd hx I .nil h)
end
structure zal(N P:List Str)(sc:Scope):Prop where
 kind:sc.kind=.function
 co:sc.isCoroutine=false
 gen:sc.isGenerator=false
 nd:N.Nodup
 pre:N.take P.length=P
 par:∀x∈P,sc.names.lookup x=some .local\/sc.names.lookup x=some .cell
 nofree:∀y∈sc.names,y.2≠.free
theorem zqw{kindOf:Str->Option NameKind}{x:Str}:∀{binds:List (Str×Value)} {m:Str->Option Value},(∀v,(x,v)∉binds)->bindL kindOf binds m x=m x
 |[],_,_=>rfl
 | (n,v)::r,m,h=>by
   unfold bindL;rw[zqw fun w hw=>h w (List.mem_cons_of_mem _ hw)]
   split
   ·have:x≠n:=by rintro rfl;exact h v List.mem_cons_self
    simp[this]
   ·rfl
theorem zqx{kindOf:Str->Option NameKind}{x:Str}:∀{binds:List (Str×Value)} {m:Str->Option Value},(∀v,(x,v)∉binds)->bindC kindOf binds m x=m x
 |[],_,_=>rfl
 | (n,v)::r,m,h=>by
   unfold bindC;rw[zqx fun w hw=>h w (List.mem_cons_of_mem _ hw)]
   split
   ·rfl
   ·have:x≠n:=by rintro rfl;exact h v List.mem_cons_self
    simp[this]
theorem zqy{kindOf:Str->Option NameKind}{x:Str}{v:Value}:∀{P:List Str} {vs:List Value} {i:Nat} {m:Str->Option Value},P.Nodup->P[i]?=some x->vs[i]?=some v->kindOf x=some .local ->
  bindL kindOf (P.zip vs) m x=some v
 |[],_,_,_,_,h,_,_=>by simp at h
 |_::_,[],_,_,_,_,h,_=>by simp at h
 | p::P,w::vs,0,m,nd,h1,h2,hk=>by
   simp at h1 h2;subst h1;subst h2;show bindL kindOf ((p,w)::P.zip vs) m p=_;unfold bindL;rw[zqw fun v hv=>(List.nodup_cons.mp nd).1 (List.of_mem_zip hv).1,if_pos hk];simp
 | p::P,w::vs,i+1,m,nd,h1,h2,hk=>by
   show bindL kindOf ((p,w)::P.zip vs) m x=_;unfold bindL;exact zqy (i:=i) (List.nodup_cons.mp nd).2 (by simpa using h1) (by simpa using h2) hk
theorem zqz{kindOf:Str->Option NameKind}{x:Str}{v:Value}:∀{P:List Str} {vs:List Value} {i:Nat} {m:Str->Option Value},P.Nodup->P[i]?=some x->vs[i]?=some v->kindOf x≠some .local ->
  bindC kindOf (P.zip vs) m x=some v
 |[],_,_,_,_,h,_,_=>by simp at h
 |_::_,[],_,_,_,_,h,_=>by simp at h
 | p::P,w::vs,0,m,nd,h1,h2,hk=>by
   simp at h1 h2;subst h1;subst h2;show bindC kindOf ((p,w)::P.zip vs) m p=_;unfold bindC;rw[zqx fun v hv=>(List.nodup_cons.mp nd).1 (List.of_mem_zip hv).1,if_neg hk];simp
 | p::P,w::vs,i+1,m,nd,h1,h2,hk=>by
   show bindC kindOf ((p,w)::P.zip vs) m x=_;unfold bindC;exact zqz (i:=i) (List.nodup_cons.mp nd).2 (by simpa using h1) (by simpa using h2) hk
noncomputable def start(N:List Str)(vs:List V):St:=vs.map some++List.replicate (N.length-vs.length) none
noncomputable def cxOf(CX:CXT)(P:Program)(w:World)(K:W.Frag)(mg:Str->Option Value)(base:Heap)(N:List Str)(qual:Str)(scope:Scope)(f:Addr)(cd:Value)(A:Around)(outer:List Env)(s:Shared)(H:Hp)(E:XK):Cx where
 prog:=P
 w:=w
 K:=K
 mg:=mg
 base:=base
 A:=A.deeper (envOfC qual scope s.heap.objs.size f cd)
 N:=N
 s₀:=s
 H₀:=H
 env:=envOfC qual scope s.heap.objs.size f cd
 outer:=outer
 stack:=envOfC qual scope s.heap.objs.size f cd::outer
 ex:=[]
 calm:=true
 fn:=fun _=>true
 pn:=[]
 xe:=fun e s'=>wpAny (model P w) (A.deeper (envOfC qual scope s.heap.objs.size f cd)) (leaving (envOfC qual scope s.heap.objs.size f cd) e) (fun _ s''=>CX outer H s E e s'') (fun e' s''=>CX outer H s E e' s'') s'
theorem zu1{sc:Scope}{n:Nat}{x:Str}(h:sc.names.lookup x=some .cell):∃c,(cellsFrom n sc.names []).lookup x=some c:=by
 have q:=W.cellsFrom_some sc.names n [] (.inl h);exact Option.isSome_iff_exists.mp q
theorem zyf{CX:CXT}{P:Program}{w:World}{K:W.Frag}{mg:Str->Option Value}{base:Heap}{N ps:List Str}{qual:Str}{scope:Scope}{f:Addr}{cd:Value}{A:Around}{outer:List Env}{s s1:Shared}{H:Hp}{E:XK}{us:List Value}{vs:List V}
  (S:zal N ps scope) (hd:A.handled=none) (e0:Env0 P w K mg base A outer s H) (hl:vs.length=ps.length) (r:Vals vs us)
  (x:InCallC s s.heap.objs.size (bindL (envOfC qual scope s.heap.objs.size f cd).kindOf (ps.zip us) fun _=>none) (cellsFrom (s.heap.objs.size+1) scope.names []) (bindC (envOfC qual scope s.heap.objs.size f cd).kindOf (ps.zip us) fun _=>none) s1) :
  Inv (cxOf CX P w K mg base N qual scope f cd A outer s H E) [] (start N vs) H s1:=by
 have hpl:ps.length<=N.length:=by have:=congrArg List.length S.pre;rw[List.length_take] at this;omega
 obtain⟨h1,tk,rfl,hk⟩:=x.done;have noA:∀b:Addr,b∉(cxOf CX P w K mg base N qual scope f cd A outer s H E).ex:=fun b z=>absurd (show b∈([]:List Addr) from z) (by simp);refine⟨⟨e0.mod,S.kind,rfl,rfl,Nat.le_refl _,fun y z c h1 h2=>?_,fun y hy=>?_,fun y c _ h=>?_,fun _=>hd,Around.frames_deeper e0.frames,.inr ⟨rfl,rfl⟩,fun b z=>absurd z (noA b),e0.bs,e0.bsz,fun b _ _=>noA b,fun b z=>absurd z (noA b),e0.funs,e0.frf⟩,
  rfl,e0.bare,Un.kept hk,⟨_,x.toInCall.ns,fun i y v h1 h2 h3=>?_⟩,fun y c h=>⟨_,x.cell y c h⟩,e0.hok.fresh (Nat.le_refl _),fun y c h=>?_,fun p hp=>absurd (show p∈([]:List (Addr×Obj)) from hp) (by simp),e0.hok.kept hk,?_,fun i v e=>nomatch (show(none:Option (Option V))=some (some v) from e)⟩
 ·exact name_of_addr x.apart (PySem.mem_of_lookup h1) (PySem.mem_of_lookup h2)
 ·have hy:scope.names.lookup y=some .cell\/scope.names.lookup y=some .free:=hy
  rcases hy with hy | hy
  ·exact zu1 hy
  ·exact absurd rfl (S.nofree _ (PySem.mem_of_lookup hy))
 ·exact Nat.le_of_lt (x.above y c (PySem.mem_of_lookup h))
 ·have hi:i<vs.length:=by
   unfold start at h2;by_cases hi:i<vs.length
   ·exact hi
   ·rw[List.getElem?_append_right (by simpa using hi)] at h2
    rw[List.getElem?_replicate] at h2
    split at h2<;>cases h2
  have ha:vs[i]?=some v:=by
   unfold start at h2;rw[List.getElem?_append_left (by simpa using hi),List.getElem?_map] at h2;cases e:vs[i]? with
   |none=>rw[e] at h2;cases h2
   |some a=>rw[e] at h2;cases h2;rfl
  obtain⟨u,hu,rv⟩:=r.get ha;have hp:ps[i]?=some y:=by
   rw[<- S.pre,List.getElem?_take_of_lt (by omega)];exact h1
  have ndP:ps.Nodup:=by rw[<- S.pre];exact S.nd.sublist (List.take_sublist _ _)
  refine⟨u,rv,?_⟩;rcases S.par y (List.mem_of_getElem? hp) with k | k
  ·exact .inl ⟨k,zqy ndP hp hu k⟩
  ·obtain⟨c,e⟩:=zu1 (n:=s.heap.objs.size+1) k
   refine .inr ⟨.inl k,c,e,?_⟩;have q:=x.cell y c e;rw[zqz ndP hp hu (by show scope.names.lookup y≠_;rw[k];decide)] at q;exact q
 ·exact e0.hok.fresh (Nat.le_of_lt (x.above y c (PySem.mem_of_lookup h)))
 ·unfold start
  show _=N.length;rw[List.length_append,List.length_map,List.length_replicate];omega
theorem Zbl{CX:CXT}{P:Program}{w:World}{K:W.Frag}{mg:Str->Option Value}{base:Heap}{k:Nat}{f:Addr}{name qual:Str}{params:Arguments}{body:List Stmt}{scope:Scope}{dV kV doc pm cdv ct oc:Value}{an od:Option Addr}
  {osl:Array (Option Value)} {N ps:List Str} {sp:Sp} (lk:K.lookup f=some ⟨oc,od,.func (W.fnOf name qual params body scope dV kV doc pm an cdv ct),osl⟩) (hcd:W.codeIn K cdv qual=true) (S:zal N ps scope)
  (len:∀vs H Q E,sp vs H Q E->vs.length=ps.length)
  (hbody:∀(A:Around) (outer:List Env) (s:Shared) (H:Hp) (vs:List V) (Q:VK) (E:XK),Room k (A.deeper (envOfC qual scope s.heap.objs.size f cdv))->sp vs H Q E ->
   ∃t,PSs (cxOf CX P w K mg base N qual scope f cdv A outer s H E) body t/\t { nx:=fun _ H'=>Q .non H',rt:=Q } (start N vs) H) :
  FnOk P w K mg base CX (k+1) f (W.fnOf name qual params body scope dV kV doc pm an cdv ct) ps sp:=by
 refine⟨len,fun A outer s H args us vs Q E hr e0 hb r hsp=>?_⟩;have hl:=len _ _ _ _ hsp;have KX:K.In s.heap:=e0.mod.kin.keeps fun b o e=>(e0.bs b o e).1;have lim:s.heap.NoLimit:=e0.mod.nolimit.keeps fun b o e=>(e0.bs b o e).1;have hkind:∀y∈ps.zip us,scope.names.lookup y.1=some .local\/(scope.names.lookup y.1=some .cell/\((cellsFrom (s.heap.objs.size+1) scope.names []).lookup y.1).isSome=true):=fun⟨n,v⟩ hy=>by
  rcases S.par n (List.of_mem_zip hy).1 with q | q
  ·exact .inl q
  ·exact .inr ⟨q,W.cellsFrom_some _ _ _ (.inl q)⟩
 refine codeAny_call_function hr.depth (KX _ _ lk) rfl S.co S.gen rfl (W.codeRec_of KX hcd) (hb _ _ _ _ ?_);refine wpAny_newFunctionEnv_cells S.kind hkind fun env he s1 x=>?_;subst he;refine⟨lim.keeps x.toInCall.keep,codeAny_func ?_⟩;obtain⟨t,ht,hq⟩:=hbody A outer s H vs Q E (hr.deeper _) hsp;have I:Inv (cxOf CX P w K mg base N qual scope f cdv A outer s H E) [] (start N vs) H s1:=zyf S hr.hd e0 hl r x;refine wpAny_mono (ht [] s1 (start N vs) H _ I hq) (fun fl s' hs=>?_) fun e s' hs=>hs;have fin:∀{σ':St} {H':Hp} {v:V} {u:Value},Inv (cxOf CX P w K mg base N qual scope f cdv A outer s H E) [] σ' H' s'->RelV v u->Q v H'->CE outer P w H s Q u s':=
  fun {σ' H' v u} J rv q=>⟨v,H',J.os,J.bare,J.base,J.hok,rv,q⟩
 cases fl with
 | ret u=>
   obtain⟨v,σ',H',J,rv,q⟩:=hs;exact fin J rv q
 | next=>
   obtain⟨σ',H',J,q⟩:=hs;exact fin (v:=V.non) (u:=Value.none) J rfl q
 | brk=>
   obtain⟨_,_,_,q⟩:=hs;exact False.elim q
 | cont=>
   obtain⟨_,_,_,q⟩:=hs;exact False.elim q
section
variable {X:Cx}{x:Str}{p pos:Pos}{e:Expr}{es:List Expr}{t:TA}{id T:String}{r:List V->Hp->VK->Prop}
def tCB(r:List V->Hp->VK->Prop)(t:TA):TE:=fun σ H Q=>t σ H fun vs H1=>r vs H1 Q
theorem zu2(hc:zju X (.builtin id) r)(hg:Gl X x)(hm:X.mg x=none)(hv:bootBuiltins x=some (.builtin id))(ha:PA X (e::es) t)(hn:x ≠ "__name__":=by decide)(hdb:(x==("__debug__" : Str))=false:=by decide)
  (he:starEach (e::es) X.env=(false,eval e X.env)::starEach es X.env:=by rfl) (hpl:(backTo pos (starEach es X.env)).any (·.1)=false:=by rfl):PE X (.Call (.Name x p) (e::es) [] pos) (tCB r t):=by
 intro pins s σ H Q I h;refine wpAny_Call_Name_kw (zmr I hg hm hv ?_ hn hdb);exact PyProof.Rows.callWith_builtin1 (thn (ha pos pins s σ H _ I h) fun us s1 ⟨vs,H1,I1,r1,q1⟩=>hc pins s1 σ H1 vs us Q I1 r1 q1) he hpl
theorem zq0(hc:zju X (.type T) r)(hg:Gl X x)(hm:X.mg x=none)(hv:bootBuiltins x=some (.type T))(ha:PA X (e::es) t)(hn:x ≠ "__name__":=by decide)(hdb:(x==("__debug__" : Str))=false:=by decide)
  (he:starEach (e::es) X.env=(false,eval e X.env)::starEach es X.env:=by rfl) (hpl:(backTo pos (starEach es X.env)).any (·.1)=false:=by rfl):PE X (.Call (.Name x p) (e::es) [] pos) (tCB r t):=by
 intro pins s σ H Q I h;refine wpAny_Call_Name_kw (zmr I hg hm hv ?_ hn hdb);exact PyProof.Rows.callWith_type1 (thn (ha pos pins s σ H _ I h) fun us s1 ⟨vs,H1,I1,r1,q1⟩=>hc pins s1 σ H1 vs us Q I1 r1 q1) he hpl
end
section
variable {κ:Type}[DecidableEq κ]
noncomputable def valV(kvs:List (κ×V))(k:κ):Option V:=(kvs.find? fun kv=>decide (kv.1=k)).map (·.2)
noncomputable def putK(kvs:List (κ×V))(k:κ)(v:V):List (κ×V):=
 if(kvs.any fun kv=>decide (kv.1=k))=true then kvs.map (fun kv=>if kv.1=k then(kv.1,v) else kv) else kvs++[(k,v)]
theorem zmg{p:κ×V}{r:List (κ×V)}{k:κ}(e:p.1=k):valV (p::r) k=some p.2:=by simp[valV,List.find?_cons,e]
theorem zmh{p:κ×V}{r:List (κ×V)}{k:κ}(e:¬p.1=k):valV (p::r) k=valV r k:=by simp[valV,List.find?_cons,e]
theorem zu3(k:κ):∀kvs:List (κ×V),(kvs.any fun kv=>decide (kv.1=k))=(valV kvs k).isSome
 |[]=>rfl
 | p::r=>by
   rw[List.any_cons];by_cases e:p.1=k
   ·simp only[zmg e,decide_eq_true e,Bool.true_or,Option.isSome_some]
   ·rw[zmh e,decide_eq_false e,Bool.false_or];exact zu3 k r
theorem zjw(kvs:List (κ×V))(k:κ)(v:V):(putK kvs k v).length<=kvs.length+1:=by
 unfold putK
 split
 ·rw[List.length_map];omega
 ·rw[List.length_append,List.length_cons,List.length_nil];omega
theorem RelO.isSome_eq{o:Option V}{u:Option Value}(r:RelO o u):o.isSome=u.isSome:=by
 cases o with
 | none=>cases u with
   |none=>rfl
   |some _=>exact(show False from r).elim
 | some _=>cases u with
   |none=>exact(show False from r).elim
   |some _=>rfl
theorem KV.val{kvs:List (κ×V)}{vs:List (κ×Value)}(r:KV kvs vs)(k:κ):RelO (valV kvs k) (valueAt vs k):=by
 unfold KV at r
 induction r with
 |nil=>exact True.intro
 | @cons p q ps qs h t ih=>
   obtain⟨h1,h2⟩:=h;by_cases e:p.1=k
   ·have e':q.1=k:=h1.symm.trans e
    have b:valueAt (q::qs) k=some q.2:=by simp[valueAt,List.find?_cons,e']
    rw[zmg e,b];exact h2
   ·have e':¬q.1=k:=fun z=>e (h1.trans z)
    have b:valueAt (q::qs) k=valueAt qs k:=by simp[valueAt,List.find?_cons,e']
    rw[zmh e,b];exact ih
theorem KV.any{kvs:List (κ×V)}{vs:List (κ×Value)}(r:KV kvs vs)(k:κ):(kvs.any fun kv=>decide (kv.1=k))=vs.any fun kv=>decide (kv.1=k):=by
 unfold KV at r
 induction r with
 |nil=>rfl
 |cons h t ih=>rw[List.any_cons,List.any_cons,ih,h.1]
theorem KV.repl{kvs:List (κ×V)}{vs:List (κ×Value)}(r:KV kvs vs)(k:κ){y:V}{u:Value}(ry:RelV y u) :
  KV (kvs.map fun kv=>if kv.1=k then(kv.1,y) else kv) (vs.map fun kv=>if kv.1=k then(kv.1,u) else kv):=by
 unfold KV at r ⊢
 induction r with
 |nil=>exact .nil
 | @cons p q ps qs h t ih=>
   rw[List.map_cons,List.map_cons];refine .cons ?_ ih;obtain⟨h1,h2⟩:=h;by_cases e:p.1=k
   ·rw[if_pos e,if_pos (h1.symm.trans e)];exact⟨h1,ry⟩
   ·rw[if_neg e,if_neg (fun z=>e (h1.trans z))];exact⟨h1,h2⟩
theorem KV.put{kvs:List (κ×V)}{vs:List (κ×Value)}(r:KV kvs vs)(k:κ){y:V}{u:Value}(ry:RelV y u):KV (putK kvs k y) (stored vs k u):=by
 unfold putK stored;rw[r.any k];by_cases e:(vs.any fun kv=>decide (kv.1=k))=true
 ·rw[if_pos e,if_pos e];exact r.repl k ry
 ·rw[if_neg e,if_neg e];exact Paired.snoc r ⟨rfl,ry⟩
theorem KV.length{kvs:List (κ×V)}{vs:List (κ×Value)}(r:KV kvs vs):kvs.length=vs.length:=Paired.length r
end
theorem zwy{P:Program}{w:World}{k:Key}{u:Value}(r:RelV (kV k) u):(zbb P w).is k u=true:=by
 cases k with
 |inl i=>obtain⟨t,e⟩:=(show∃t,u=Value.int i t from r);subst e;exact zsz P w i t
 |inr x=>obtain⟨t,e⟩:=(show∃t,u=Value.str x t from r);subst e;exact zs0 P w x t
theorem zq1{P:Program}{w:World}:∀{ks:List Key} {us:List Value},Vals (ks.map kV) us->ItemsAre (zbb P w) ks us
 |[],_,r=>by rw[List.map_nil] at r;cases r;exact .nil
 | k::ks,_,r=>by
   rw[List.map_cons] at r;cases r with
   |cons h t=>exact .cons (zwy h) (zq1 t)
abbrev KT(H:Hp):List (List Key×V)->List (List Key×Addr×Value)->Prop:=Paired fun p q=>p.1=q.1/\H q.2.1=some (.tup (p.1.map kV))/\RelV p.2 q.2.2
theorem KT.val{H:Hp}{kvs:List (List Key×V)}{xs:List (List Key×Addr×Value)}(r:KT H kvs xs)(k:List Key):RelO (valV kvs k) ((atKey xs k).map (·.2)):=by
 induction r with
 |nil=>exact True.intro
 | @cons p q ps qs h t ih=>
   obtain⟨h1,_,h2⟩:=h;by_cases e:p.1=k
   ·have e':q.1=k:=h1.symm.trans e
    have b:atKey (q::qs) k=some q.2:=by simp[atKey,List.find?_cons,e']
    rw[zmg e,b];exact h2
   ·have e':¬q.1=k:=fun z=>e (h1.trans z)
    have b:atKey (q::qs) k=atKey qs k:=by simp[atKey,List.find?_cons,e']
    rw[zmh e,b];exact ih
theorem KT.repl{H:Hp}{kvs:List (List Key×V)}{xs:List (List Key×Addr×Value)}(r:KT H kvs xs)(k:List Key){y:V}{u:Value}(ry:RelV y u) :
  KT H (kvs.map fun kv=>if kv.1=k then(kv.1,y) else kv) (xs.map (putAt k u)):=by
 induction r with
 |nil=>exact .nil
 | @cons p q ps qs h t ih=>
   rw[List.map_cons,List.map_cons];refine .cons ?_ ih;obtain⟨h1,h2,h3⟩:=h;unfold putAt;by_cases e:p.1=k
   ·rw[if_pos e,if_pos (h1.symm.trans e)];exact⟨h1,h2,ry⟩
   ·rw[if_neg e,if_neg (fun z=>e (h1.trans z))];exact⟨h1,h2,h3⟩
theorem KT.put{H:Hp}{kvs:List (List Key×V)}{xs:List (List Key×Addr×Value)}(r:KT H kvs xs)(k:List Key){b:Addr}{y:V}{u:Value}(hb:H b=some (.tup (k.map kV)))(ry:RelV y u) :
  KT H (putK kvs k y) (storedH xs k b u):=by
 have e:(kvs.any fun kv=>decide (kv.1=k))=(atKey xs k).isSome:=by
  rw[zu3,(r.val k).isSome_eq,Option.isSome_map]
 unfold putK storedH;rw[e];by_cases q:(atKey xs k).isSome=true
 ·rw[if_pos q,if_pos q];exact r.repl k ry
 ·rw[if_neg q,if_neg q];exact Paired.snoc r ⟨rfl,hb,ry⟩
theorem KT.keeps{H H':Hp}{kvs:List (List Key×V)}{xs:List (List Key×Addr×Value)}(r:KT H kvs xs)(ht:∀b ys,H b=some (.tup ys)->H' b=some (.tup ys)):KT H' kvs xs:=
 Paired.mapP r fun _ _ z=>⟨z.1,ht _ _ z.2.1,z.2.2⟩
section
variable {P:Program}{w:World}{H:Hp}{h:Heap}{a:Addr}
theorem z8p{u:HO}(ok:HOk P w H h)(e:Rd H a u):zc8 P w H h a u:=e.ok ok
theorem zo8{kvs:List (Key×V)}(ok:HOk P w H h)(e:Rd H a (.dK kvs)):kvs.length<=sizeLine/\(a==sysModules)=false/\∃vs,KV kvs vs/\h.DictOf (zbb P w) a vs:=
 show zc8 P w H h a (.dK kvs) from z8p ok e
theorem z8q{kvs:List (Key×V)}(ok:HOk P w H h)(e:H a=some (.dK kvs)):kvs.length<=sizeLine/\(a==sysModules)=false/\∃vs,KV kvs vs/\h.DictOf (zbb P w) a vs:=zo8 ok (.inl e)
theorem zq2{ks:List Key}(ok:HOk P w H h)(e:H a=some (.tup (ks.map kV))):(tupleKind (zbb P w)).is h ks a:=by
 obtain⟨_,its,r,o,h1,h2,n,h3⟩:=(show zc8 P w H h a (.tup (ks.map kV)) from ok a _ e);exact⟨o,its.toArray,n,h1,h2,h3,by simpa using zq1 r⟩
theorem zwz{kvs:List (List Key×V)}(ok:HOk P w H h)(e:Rd H a (.dT kvs)):kvs.length<=sizeLine/\(a==sysModules)=false /\
  ∃xs,KT H kvs xs/\h.DictOfH (tupleKind (zbb P w)) a xs:=by
 obtain⟨z,y,xs,r,o,es,ep,h1,h2,h3,h4,h5⟩:=(show zc8 P w H h a (.dT kvs) from z8p ok e);refine⟨z,y,xs,r,o,es,ep,h1,h2,h3,h4,fun x hx=>?_,h5⟩;have all:∀{l:List (List Key×V)} {m:List (List Key×Addr×Value)},KT H l m->∀x∈m,(tupleKind (zbb P w)).is h x.1 x.2.1:=by
  intro l m q
  induction q with
  |nil=>intro x hx;exact nomatch hx
  | @cons p q ps qs hq t ih=>
    intro x hx;rcases List.mem_cons.mp hx with e | hx
    ·subst e
     exact zq2 ok (by rw[<- hq.1];exact hq.2.1)
    ·exact ih x hx
 exact all r x hx
theorem Zbm{kvs:List (List Key×V)}(ok:HOk P w H h)(e:H a=some (.dT kvs)):kvs.length<=sizeLine/\(a==sysModules)=false /\
 ∃xs,KT H kvs xs/\h.DictOfH (tupleKind (zbb P w)) a xs:=zwz ok (.inl e)
end
def DGet(H:Hp)(a:Addr)(y:V)(r:Option V):Prop:=
 (∃kvs k,Rd H a (.dK kvs)/\y=kV k/\r=valV kvs k)\/∃kvs k b,Rd H a (.dT kvs)/\y=.ref b/\H b=some (.tup (k.map kV))/\r=valV kvs k
def DPut(H:Hp)(a:Addr)(y v:V)(H':Hp):Prop:=
 (∃kvs k,H a=some (.dK kvs)/\y=kV k/\kvs.length<sizeLine/\H'=upd H a (.dK (putK kvs k v))) \/
 ∃kvs k b,H a=some (.dT kvs)/\y=.ref b/\H b=some (.tup (k.map kV))/\kvs.length<sizeLine/\H'=upd H a (.dT (putK kvs k v))
section
variable {X:Cx}{pins:List (Addr×Obj)}{σ:St}{H:Hp}{s:Shared}{a:Addr}{y v:V}{u r:Value}{o:Option V}{A:Around}{E:Value->Shared->Prop}
theorem Inv.big(I:Inv X pins σ H s):sysModules<s.heap.objs.size:=by
 have h:mainGlobals<s.heap.objs.size:=(I.mod.glob.keeps I.bk).lt;exact Nat.lt_trans (by decide) h
theorem zyg{Q:Value->Shared->Prop}(hu:A.units+1<cLine)(I:Inv X pins σ H s)(g:DGet H a y (some v))(ry:RelV y u)(h:∀w' s',Inv X pins σ H s'->RelV v w'->Q w' s') :
  wpAny (model X.prog X.w) A (getItem (.ref a) u) Q E s:=by
 rcases g with⟨kvs,k,e,ey,l⟩ | ⟨kvs,k,b,e,ey,eb,l⟩
 ·subst ey
  obtain⟨z,hd,vs,rel,dd⟩:=zo8 I.hok e;obtain⟨w',hw,rw'⟩:=RelO.some_of (v:=v) (o:=valueAt vs k) (by rw[l];exact rel.val k);exact wpAny_getItem_of (zwy ry) dd.mapOf hw (h w' _ (I.tok _) rw')
 ·subst ey
  cases (show u=Value.ref b from ry);obtain⟨z,hd,xs,rel,dd⟩:=zwz I.hok e;obtain⟨w',hw,rw'⟩:=RelO.some_of (v:=v) (o:=(atKey xs k).map (·.2)) (by rw[l];exact rel.val k);obtain⟨p,hp,hp2⟩:=Option.map_eq_some_iff.mp hw;refine wpAny_getItem_heap (tupleKind_room_in1 hu) (zq2 I.hok eb) dd hp ?_;rw[hp2];exact h w' _ (I.tok _) rw'
theorem d_in{Q:Value->Shared->Prop}(hu:A.units+1<cLine)(I:Inv X pins σ H s)(g:DGet H a y o)(ry:RelV y u)(h:∀s',Inv X pins σ H s'->Q (.bool o.isSome) s') :
  wpAny (model X.prog X.w) A (compareOp .In u (.ref a)) Q E s:=by
 rcases g with⟨kvs,k,e,ey,l⟩ | ⟨kvs,k,b,e,ey,eb,l⟩
 ·subst ey
  obtain⟨z,hd,vs,rel,dd⟩:=zo8 I.hok e;refine wpAny_in_of (zwy ry) hd dd.mapOf ?_;rw[<- (rel.val k).isSome_eq,<- l];exact h _ (I.tok _)
 ·subst ey
  cases (show u=Value.ref b from ry);obtain⟨z,hd,xs,rel,dd⟩:=zwz I.hok e;refine wpAny_in_heap (tupleKind_room_in1 hu) (zq2 I.hok eb) hd dd ?_;have q:=(rel.val k).isSome_eq;rw[Option.isSome_map] at q;rw[<- q,<- l];exact h _ (I.tok _)
theorem z5r{Q:Value->Shared->Prop}(hu:A.units+1<cLine)(I:Inv X pins σ H s)(g:DGet H a y o)(ry:RelV y u)(h:∀s',Inv X pins σ H s'->Q (.bool (!o.isSome)) s') :
  wpAny (model X.prog X.w) A (compareOp .NotIn u (.ref a)) Q E s:=by
 rcases g with⟨kvs,k,e,ey,l⟩ | ⟨kvs,k,b,e,ey,eb,l⟩
 ·subst ey
  obtain⟨z,hd,vs,rel,dd⟩:=zo8 I.hok e;refine wpAny_notIn_of (zwy ry) hd dd.mapOf ?_;rw[<- (rel.val k).isSome_eq,<- l];exact h _ (I.tok _)
 ·subst ey
  cases (show u=Value.ref b from ry);obtain⟨z,hd,xs,rel,dd⟩:=zwz I.hok e;refine wpAny_notIn_heap (tupleKind_room_in1 hu) (zq2 I.hok eb) hd dd ?_;have q:=(rel.val k).isSome_eq;rw[Option.isSome_map] at q;rw[<- q,<- l];exact h _ (I.tok _)
theorem zs6{h':Heap}{t':Nat}{ob:HO}(I:Inv X pins σ H s)(mu:Mut (H a))(hs:Heap.SameBut a s.heap h')(he:∃q,h'.get? a=some q)(new:zc8 X.prog X.w (upd H a ob) h' a ob) :
  Inv X pins σ (upd H a ob) { s with heap:=h',toks:=t' }:=
 I.write (x:=a) (e:=a) mu (.inl rfl) (fun b q hb z=>(hs.2 b hb).trans z) he new
theorem z30{P:Program}{w:World}{H':Hp}{h':Heap}{kvs:List (Key×V)}{vs:List (Key×Value)}(z:kvs.length<=sizeLine)(hd:(a==sysModules)=false)(rel:KV kvs vs)(dd:h'.DictOf (zbb P w) a vs) :
 zc8 P w H' h' a (.dK kvs):=⟨z,hd,vs,rel,dd⟩
theorem zyh{H':Hp}{Q:Unit->Shared->Prop}(hu:A.units+1<cLine)(I:Inv X pins σ H s)(g:DPut H a y v H')(ry:RelV y u)(rv:RelV v r)(h:∀s',Inv X pins σ H' s'->Q () s') :
  wpAny (model X.prog X.w) A (setItem (.ref a) u r) Q E s:=by
 rcases g with⟨kvs,k,e,ey,l,eH⟩ | ⟨kvs,k,b,e,ey,eb,l,eH⟩
 ·subst ey eH
  obtain⟨z,hd,vs,rel,dd⟩:=z8q I.hok e;have hz:vs.length<=sizeLine:=by rw[<- rel.length];exact z
  have hl:(putK kvs k v).length<=sizeLine:=by have:=zjw kvs k v;omega
  refine wpAny_setItem_pairs (hsz:=hz) (zwy ry) dd fun h' dd' hs=>h _ ?_;have he:∃q,h'.get? a=some q:=let ⟨q,_,_,hq,_⟩:=dd';⟨q,hq⟩;exact zs6 I (by rw[e];exact True.intro) hs he (z30 hl hd (rel.put k rv) dd')
 ·subst ey eH
  cases (show u=Value.ref b from ry);obtain⟨z,hd,xs,rel,dd⟩:=Zbm I.hok e;have hz:xs.length<=sizeLine:=by rw[<- Paired.length rel];exact z
  have hl:(putK kvs k v).length<=sizeLine:=by have:=zjw kvs k v;omega
  refine wpAny_setItem_heap (hsz:=hz) (tupleKind_room_in1 hu) (zq2 I.hok eb) dd fun h' dd' hs=>h _ ?_;obtain⟨q,es,ep,hq,h2,h3,h4,_,h5⟩:=dd';refine zs6 I (by rw[e];exact True.intro) hs ⟨q,hq⟩ ⟨hl,hd,_,(rel.put k eb rv).keeps fun c ys ec=>?_,q,es,ep,hq,h2,h3,h4,h5⟩;rw[zai (Za9 ec e (fun z=>nomatch z))];exact ec
end
section
variable {X:Cx}{pins:List (Addr×Obj)}{σ:St}{H:Hp}{s:Shared}{a:Addr}{kvs:List (Key×V)}{k:Key}{u:Value}{A:Around}{E:Value->Shared->Prop}
theorem Zbn{Q:Value->Shared->Prop}(I:Inv X pins σ H s)(e:Rd H a (.dK kvs))(h:∀t s',Inv X pins σ H s'->Q (.int kvs.length t) s'):wpAny (model X.prog X.w) A (call (.builtin "len") [.ref a]) Q E s:=by
 obtain⟨z,hd,vs,rel,dd⟩:=zo8 I.hok e;refine call_len_dict hd dd (by rw[<- rel.length];rw[sizeLine_eq] at z;omega) ?_;rw[<- rel.length];exact h _ _ (I.tok _)
end
def NoSl(i:Expr):Prop:=∀ov iv,subscripted i false ov iv=operate [ov,iv] (getItem ov iv)
theorem z5s{prog:Program}{w:World}{A:Around}{E:Value->Shared->Prop}{s:Shared}{env:Env}{value slice:Expr}{pos:Pos}{T id:String}{Q:Value->Shared->Prop}
  (hl:typeLookup (.type T) "__getitem__" = pure (some (.builtin id))) (hs:NoSl slice)
  (h:wpAny (model prog w) A (eval value env) (fun o s₁=>wpAny (model prog w) A (eval slice env) (fun i s₂=>s₂.TypeIs o T/\wpAny (model prog w) A (getItem o i) Q E s₂) E s₁) E s) :
  wpAny (model prog w) A (eval (.Subscript value slice pos) env) Q E s:=by
 refine Subscript_ (wpAny_mono h (fun o s₁ h₁=>wpAny_mono h₁ (fun i s₂ h₂=>?_) fun _ _ x=>x) fun _ _ x=>x);obtain⟨hT,h₂⟩:=h₂;unfold subscriptTail;refine wpAny_bind ?_;rw[getitemInPython_of_ne hT.not_modules];refine wpAny_bind (wpAny_specialOf hT hl ?_);have fin:wpAny (model prog w) A (subscripted slice false o i) (fun r s₃=>wpAny (model prog w) A (letTemporaryGo value o r >>= fun _=>pure r) Q E s₃) E s₂:=by
  rw[hs o i];exact wpAny_operating (wpAny_mono h₂ (fun r s₃ h₃=>wpAny_bind (wpAny_letTemporaryGo (wpAny_pure h₃))) fun _ _ x=>x)
 first
  |exact wpAny_pure (wpAny_bind fin)
  |exact wpAny_bind (wpAny_pure (wpAny_bind fin))
  |exact wpAny_bind fin
theorem zs7{X:Cx}{pins:List (Addr×Obj)}{σ:St}{H:Hp}{s:Shared}{a:Addr}{y:V}{o:Option V}(I:Inv X pins σ H s)(g:DGet H a y o):s.TypeIs (.ref a) "dict":=by
 rcases g with⟨kvs,k,e,_,_⟩ | ⟨kvs,k,b,e,_,_,_⟩
 ·obtain⟨_,_,vs,_,dd⟩:=zo8 I.hok e
  exact dd.typeIs
 ·obtain⟨_,_,xs,_,dd⟩:=zwz I.hok e
  exact dd.typeIs
def Zbo(td ty:TE):TE:=fun σ H Q=>td σ H fun x H1=>ty σ H1 fun y H2=>∃a v,x=.ref a/\DGet H2 a y (some v)/\Q v H2
def z5t(ty td:TE):TE:=fun σ H Q=>ty σ H fun y H1=>td σ H1 fun x H2=>∃a o,x=.ref a/\DGet H2 a y o/\Q (.bl (!o.isSome)) H2
def Zbp(td ty tv:TE):TS:=fun D σ H=>tv σ H fun v H1=>td σ H1 fun x H2=>ty σ H2 fun y H3=>∃a H4,x=.ref a/\DPut H3 a y v H4/\D.nx σ H4
section
variable {X:Cx}{o i e value:Expr}{pos pos' tpos:Pos}{td ty tv:TE}
theorem z5u(hu:X.A.units+1<cLine)(ho:PE X o td)(hi:PE X i ty)(hs:NoSl i):PE X (.Subscript o i pos) (Zbo td ty):=by
 intro pins s σ H Q I h;refine z5s PySem.F.slot_dict_getitem.lookup hs (thn (ho pins s σ H _ I h) fun u s1 hq_=>?_);obtain⟨x,H1,I1,rx,q1⟩:=hq_;refine thn (hi pins s1 σ H1 _ I1 q1) fun iv s2 hq_=>?_;obtain⟨y,H2,I2,ry,a,v,ex,g,q2⟩:=hq_;subst ex;obtain rfl:u=Value.ref a:=rx;exact⟨zs7 I2 g,zyg hu I2 g ry fun w' s3 I3 rw'=>⟨v,H2,I3,rw',q2⟩⟩
theorem zyi(hu:X.A.units+1<cLine)(hi:PE X i ty)(ho:PE X o td):PC X .NotIn i o (z5t ty td):=by
 intro pins s σ H Q I h;refine thn (hi pins s σ H _ I h) fun iv s1 hq_=>?_;obtain⟨y,H1,I1,ry,q1⟩:=hq_;refine thn (ho pins s1 σ H1 _ I1 q1) fun u s2 hq_=>?_;obtain⟨x,H2,I2,rx,a,ov,ex,g,q2⟩:=hq_;subst ex;obtain rfl:u=Value.ref a:=rx;exact z5r hu I2 g ry fun s3 I3=>⟨.bl (!ov.isSome),H2,I3,rfl,q2⟩
theorem z5v(hu:X.A.units+1<cLine)(ho:PE X o td)(hi:PE X i ty)(hv:PE X value tv)(hs:swapsWith value (some (.Subscript o i pos')) pos.line X.env=pure false) :
  PS X (.Assign [.Subscript o i pos'] value pos) (Zbp td ty tv):=by
 intro pins s σ H D I h;refine wpAny_Assign_Subscript (thn (hv pins s σ H _ I h) fun r s1 hq_=>?_) hs;obtain⟨v,H1,I1,rv,q1⟩:=hq_;refine thn (ho pins s1 σ H1 _ I1 q1) fun u s2 hq_=>?_;obtain⟨x,H2,I2,rx,q2⟩:=hq_;refine thn (hi pins s2 σ H2 _ I2 q2) fun iv s3 hq_=>?_;obtain⟨y,H3,I3,ry,a,H4,ex,g,q3⟩:=hq_;subst ex;obtain rfl:u=Value.ref a:=rx;exact zyh hu I3 g ry rv fun s4 I4=>⟨σ,H4,I4,q3⟩
end
theorem zu4{P:Program}{w:World}{H:Hp}(h:Heap)(hb:sysModules<h.objs.size):zc8 P w H (h.push { cls:=.type "dict",data:=.dict #[] }) h.objs.size (.dK []):=
 ⟨Nat.zero_le _,beq_eq_false_iff_ne.mpr (Ne.symm (Nat.ne_of_lt hb)),[],.nil,Heap.DictOf.new h⟩
def z8r:TE:=fun _ H Q=>∀p,H p=none->Q (.ref p) (upd H p (.dK []))
section
variable {X:Cx}{pos:Pos}
theorem z12:PE X (.Dict [] [] pos) z8r:=fun pins s σ H Q I h=>
 wpAny_Dict_empty ⟨.ref s.heap.objs.size,_,I.laid (a:=s.heap.objs.size) (o:=.dK []) (t':=s.toks) (fun _ _ q=>Heap.get?_push_of_some _ q) (Nat.le_refl _) (zu4 s.heap I.big),rfl,h _ (I.hok.fresh (Nat.le_refl _))⟩
end
def zyj:List (TE×TE)->St->Hp->(List (V×V)->Hp->Prop)->Prop
 |[],_,H,Q=>Q [] H
 |(tk,tv)::r,σ,H,Q=>tk σ H fun x H1=>tv σ H1 fun y H2=>zyj r σ H2 fun ps H3=>Q ((x,y)::ps) H3
abbrev VV:List (V×V)->List (Value×Value)->Prop:=Paired fun p q=>RelV p.1 q.1/\RelV p.2 q.2
def PPs(X:Cx)(pos:Pos)(keys:List (Option Expr))(values:List Expr)(trs:List (TE×TE)):Prop:=
 ∀ (pins:List (Addr×Obj)) (s:Shared) (σ:St) (H:Hp) (Q:List (V×V)->Hp->Prop),Inv X pins σ H s->zyj trs σ H Q ->
   wpAny (model X.prog X.w) X.A (evalPairs (pairTrees keys values X.env pos)) (fun vs s'=>∃ps H',Inv X pins σ H' s'/\VV ps vs/\Q ps H') X.xe s
theorem zyk{X:Cx}{pos:Pos}:PPs X pos [] [] []:=fun pins s σ H Q I h=>pairTrees_nil_walk ⟨[],H,I,.nil,h⟩
theorem zmi{X:Cx}{pos:Pos}{k v:Expr}{ks:List (Option Expr)}{vs:List Expr}{tk tv:TE}{trs:List (TE×TE)}(hk:PE X k tk)(hv:PE X v tv)(hr:PPs X pos ks vs trs) :
  PPs X pos (some k::ks) (v::vs) ((tk,tv)::trs):=fun pins s σ H Q I h=>
 pairTrees_cons_walk (thn (hk pins s σ H _ I h) fun u s1 ⟨x,H1,I1,rx,q1⟩=>thn (hv pins s1 σ H1 _ I1 q1) fun w2 s2 ⟨y,H2,I2,ry,q2⟩=>
  thn (hr pins s2 σ H2 _ I2 q2) fun ws s3 ⟨ps,H3,I3,rel,q3⟩=>⟨(x,y)::ps,H3,I3,.cons ⟨rx,ry⟩ rel,q3⟩)
def zlt(kvs more:List (Key×V)):List (Key×V):=more.foldl (fun acc kv=>putK acc kv.1 kv.2) kvs
theorem KV.merge:∀{more:List (Key×V)} {rs:List (Key×Value)} {kvs:List (Key×V)} {vs:List (Key×Value)},KV more rs->KV kvs vs->KV (zlt kvs more) (merged vs rs):=by
 intro more rs kvs vs r;unfold KV at r
 induction r generalizing kvs vs with
 |nil=>intro q;exact q
 | @cons p q ps qs h t ih=>
   intro r0;have e:KV (putK kvs p.1 p.2) (stored vs q.1 q.2):=by
    have:=r0.put p.1 h.2;rw[<- h.1];exact this
   exact ih e
theorem zkf:∀(more kvs:List (Key×V)),(zlt kvs more).length<=kvs.length+more.length
 |[],kvs=>by show kvs.length<=kvs.length+0;omega
 | p::r,kvs=>by
   have h1:=zkf r (putK kvs p.1 p.2);have h2:=zjw kvs p.1 p.2;show(zlt (putK kvs p.1 p.2) r).length<=_;rw[List.length_cons];omega
theorem zog{P:Program}{w:World}:∀{kvs:List (Key×V)} {ws:List (Value×Value)},VV (kvs.map fun kv=>(kV kv.1,kv.2)) ws->∃rs,Carries (zbb P w) ws rs/\KV kvs rs
 |[],_,r=>by rw[List.map_nil] at r;cases r;exact⟨[],True.intro,.nil⟩
 | p :: kvs,_,r=>by
   rw[List.map_cons] at r;cases r with
   | @cons a b as bs h t=>
     obtain⟨rs,c,q⟩:=zog (P:=P) (w:=w) t;obtain⟨b1,b2⟩:=b;exact⟨(p.1,b2)::rs,⟨zwy h.1,rfl,c⟩,.cons ⟨rfl,h.2⟩ q⟩
def Zbq(trs:List (TE×TE)):TE:=fun σ H Q=>∀p,H p=none->zyj trs σ (upd H p (.dK [])) fun ps H2=>H2 p=some (.dK [])/\∃kvs:List (Key×V),ps=kvs.map (fun kv=>(kV kv.1,kv.2))/\kvs.length<=15/\Q (.ref p) (upd H2 p (.dK (zlt [] kvs)))
theorem zyl{X:Cx}{pos:Pos}{keys:List (Option Expr)}{values:List Expr}{trs:List (TE×TE)}(h:PPs X pos keys values trs)(hall:keys.all (·.isSome)=true)(hl:keys.length=values.length)(h0:keys≠[])
  (h15:keys.length<=15):PE X (.Dict keys values pos) (Zbq trs):=by
 intro pins s σ H Q I q;have hn:=I.hok.fresh (Nat.le_refl s.heap.objs.size);have I1:=I.laid (a:=s.heap.objs.size) (o:=.dK []) (h':=s.heap.push { cls:=.type "dict",data:=.dict #[] }) (t':=s.toks) (fun _ _ q=>Heap.get?_push_of_some _ q) (Nat.le_refl _) (zu4 s.heap I.big);refine wpAny_Dict_walk (knd:=zbb X.prog X.w) hall hl h0 h15 (thn (h pins _ σ _ _ I1 (q _ hn)) fun ws s2 hq_=>?_);obtain⟨ps,H2,I2,rel,e,kvs,ep,lk,q2⟩:=hq_;subst ep;obtain⟨rs,c,rk⟩:=zog (P:=X.prog) (w:=X.w) rel;obtain⟨z,hd,vs0,r0,dd⟩:=z8q I2.hok e;cases r0;refine⟨rs,c,dd,fun h' dd' hs=>⟨.ref s.heap.objs.size,_,?_,rfl,q2⟩⟩;have hz:(zlt [] kvs).length<=sizeLine:=by
  have h1:=zkf kvs [];rw[List.length_nil] at h1;rw[sizeLine_eq];omega
 have he:∃q,h'.get? s.heap.objs.size=some q:=let ⟨q,_,_,hq,_⟩:=dd';⟨q,hq⟩;exact zs6 I2 (by rw[e];exact True.intro) hs he (z30 hz hd (rk.merge .nil) dd')
def IsD(H:Hp)(a:Addr):Prop:=(∃kvs,Rd H a (.dK kvs))\/∃kvs,Rd H a (.dT kvs)
theorem z8s{X:Cx}{pins:List (Addr×Obj)}{σ:St}{H:Hp}{s:Shared}{a:Addr}(I:Inv X pins σ H s)(d:IsD H a) :
  s.TypeIs (.ref a) "dict" /\ (∀b,Value.ref a=.ref b->∃ob,s.heap.get? b=some ob/\ob.dict=none)/\(a==sysModules)=false:=by
 rcases d with⟨kvs,e⟩ | ⟨kvs,e⟩
 ·obtain⟨_,hd,vs,_,dd⟩:=zo8 I.hok e
  refine⟨dd.typeIs,fun b q=>?_,hd⟩;cases q;obtain⟨ob,_,_,h1,h2,_⟩:=dd;exact⟨ob,h1,h2.2.1⟩
 ·obtain⟨_,hd,xs,_,dd⟩:=zwz I.hok e
  refine⟨dd.typeIs,fun b q=>?_,hd⟩;cases q;obtain⟨ob,_,_,h1,h2,_⟩:=dd;exact⟨ob,h1,h2.2.1⟩
end L2
namespace HT
open PySem PyProof.Rows
section
variable {prog:Program}{w:World}{A:Around}{E:Value->Shared->Prop}{s:Shared}
noncomputable def sIx(n d:Nat):Option Int->Nat
 |none=>d
 |some v=>if v<0 then(v+(n:Int)).toNat else min v.toNat n
end
end HT
namespace L2
open PySem PySem.Spec PyProof.Rows
abbrev TO:=St->Hp->(Option Int->Hp->Prop)->Prop
def PO(X:Cx)(e:Option Expr)(t:TO):Prop:=
 ∀ (pins:List (Addr×Obj)) (s:Shared) (σ:St) (H:Hp) (Q:Option Int->Hp->Prop),Inv X pins σ H s->t σ H Q ->
   wpAny (model X.prog X.w) X.A (evalPart e X.env) (fun u s'=>∃o H',Inv X pins σ H' s'/\IsPart u o/\Q o H') X.xe s
def z5w:TO:=fun _ H Q=>Q none H
def Zbr(t:TE):TO:=fun σ H Q=>t σ H fun x H1=>∃i,x=.int i/\Q (some i) H1
section
variable {X:Cx}{e:Expr}{te:TE}{lo hi:Option Expr}{tl th:TO}{pos p2:Pos}
theorem z5x:PO X none z5w:=by
 intro pins s σ H Q I h;rw[evalPart_none];exact wpAny_pure ⟨none,H,I,.none,h⟩
theorem z5y(h:PE X e te):PO X (some e) (Zbr te):=by
 intro pins s σ H Q I hw;rw[evalPart_some];refine thn (h pins s σ H _ I hw) fun u s1 hq_=>?_;obtain⟨x,H1,I1,r1,q1⟩:=hq_;obtain⟨i,rfl,q⟩:=q1;obtain⟨t,rfl⟩:=r1;exact⟨some i,H1,I1,.int i t,q⟩
def SlR(X:Cx)(r:V->Option Int->Option Int->Hp->VK->Prop):Prop:=
 ∀ (pins:List (Addr×Obj)) (s:Shared) (σ:St) (H:Hp) (x:V) (v vl vu:Value) (lo hi:Option Int) (sl:Addr) (Q:VK),Inv X pins σ H s->RelV x v->s.heap.IsSliceOf sl vl vu .none->IsPart vl lo->IsPart vu hi->r x lo hi H Q ->
   ∃T id,typeLookup (.type T) "__getitem__" = pure (some (.builtin id))/\s.TypeIs v T/\wpAny (model X.prog X.w) X.A (getItem v (.ref sl)) (EP X pins σ Q) X.xe s
def tSl(r:V->Option Int->Option Int->Hp->VK->Prop)(te:TE)(tl th:TO):TE:=fun σ H Q=>te σ H fun x H1=>tl σ H1 fun l H2=>th σ H2 fun u H3=>r x l u H3 Q
theorem z13{r:V->Option Int->Option Int->Hp->VK->Prop}(hr:SlR X r)(he:PE X e te)(hl:PO X lo tl)(hu:PO X hi th):PE X (.Subscript e (.Slice lo hi none p2) pos) (tSl r te tl th):=by
 intro pins s σ H Q I h;refine Subscript_ (thn (he pins s σ H _ I h) fun v s1 hq_=>?_);obtain⟨x,H1,I1,r1,q1⟩:=hq_;refine wpAny_Slice (thn (hl pins s1 σ H1 _ I1 q1) fun vl s2 hq_=>?_);obtain⟨l,H2,I2,pl,q2⟩:=hq_;refine thn (hu pins s2 σ H2 _ I2 q2) fun vu s3 hq_=>?_;obtain⟨u,H3,I3,pu,q3⟩:=hq_;rw[evalPart_none];refine wpAny_pure ?_;have I4:Inv X pins σ H3 { s3 with heap:=s3.heap.push { cls:=.type "slice",data:=.fields #[vl,vu,.none] } }:=I3.kept (t':=s3.toks) fun b ob q=>Heap.get?_push_of_some _ q;obtain⟨T,id,hT,ht,hg⟩:=hr pins { s3 with heap:=s3.heap.push { cls:=.type "slice",data:=.fields #[vl,vu,.none] } } σ H3 x v vl vu l u s3.heap.objs.size Q I4 r1 (Heap.IsSliceOf.new ..) pl pu q3;show wpAny (model X.prog X.w) X.A (subscriptTail e (.Slice lo hi none p2) v (.ref s3.heap.objs.size)) (EP X pins σ Q) X.xe { s3 with heap:=s3.heap.push { cls:=.type "slice",data:=.fields #[vl,vu,.none] } };exact tail_any (ops:=[.ref s3.heap.objs.size,v]) ht hT hg (by with_unfolding_all rfl)
def cutV(xs:List V)(lo hi:Option Int):List V:=(xs.drop (HT.sIx xs.length 0 lo)).take (HT.sIx xs.length xs.length hi-HT.sIx xs.length 0 lo)
theorem zs8(xs:List V)(lo hi:Option Int):(cutV xs lo hi).length<=xs.length:=by
 unfold cutV;rw[List.length_take,List.length_drop];omega
end
noncomputable def ixN(n:Nat)(i:Int):Option Nat:=if 0<=i then(if i<n then some i.toNat else none) else if -(n:Int)<=i then some (i+n).toNat else none
noncomputable def atI{α:Type}(xs:List α)(i:Int):Option α:=(ixN xs.length i).bind fun j=>xs[j]?
theorem z5z{n:Nat}{i:Int}{j:Nat}(h:ixN n i=some j):seqIndex? i n=some j/\j<n /\ -(n:Int)<=i/\i<n:=by
 unfold ixN at h;by_cases h0:0<=i
 ·rw[if_pos h0] at h
  by_cases h1:i<n
  ·rw[if_pos h1] at h
   have e:i.toNat=j:=Option.some.inj h;exact⟨by rw[seqIndex_of h0 h1,e],by omega,by omega,h1⟩
  ·rw[if_neg h1] at h;cases h
 ·rw[if_neg h0] at h
  by_cases h1:-(n:Int)<=i
  ·rw[if_pos h1] at h
   have e:(i+n).toNat=j:=Option.some.inj h;exact⟨by rw[seqIndex_neg (by omega) h1,e],by omega,h1,by omega⟩
  ·rw[if_neg h1] at h;cases h
theorem zs9{α:Type}{xs:List α}{i:Int}{v:α}(h:atI xs i=some v):∃j,seqIndex? i xs.length=some j/\xs[j]?=some v/\j<xs.length /\ -(xs.length:Int)<=i/\i<xs.length:=by
 unfold atI at h;cases e:ixN xs.length i with
 |none=>rw[e] at h;cases h
 | some j=>
   rw[e] at h;obtain⟨h1,h2,h3,h4⟩:=z5z e;exact⟨j,h1,h,h2,h3,h4⟩
theorem zjx{α:Type}{xs:List α}{j:Nat}{v:α}(h:xs[j]?=some v):atI xs (j:Int)=some v:=by
 have hj:j<xs.length:=(List.getElem?_eq_some_iff.mp h).1;have e:ixN xs.length (j:Int)=some j:=by
  unfold ixN;rw[if_pos (by omega),if_pos (by omega)];simp
 unfold atI;rw[e];exact h
def zym(b:Expr):Prop:=∀o i,subscripted b false o i=operate [o,i] (getItem o i)
def IxR(X:Cx)(r:R2):Prop:=
 ∀ (value slice:Expr) (pins:List (Addr×Obj)) (s:Shared) (σ:St) (H:Hp) (x y:V) (v u:Value) (Q:VK),Inv X pins σ H s->RelV x v->RelV y u->r x y H Q ->
   subscripted slice false v u=operate [v,u] (getItem v u)->wpAny (model X.prog X.w) X.A (subscriptTail value slice v u) (EP X pins σ Q) X.xe s
def MtR(X:Cx)(id:String)(r:V->List V->Hp->VK->Prop):Prop:=
 ∀ (pins:List (Addr×Obj)) (s:Shared) (σ:St) (H:Hp) (x:V) (xs:List V) (v:Value) (us:List Value) (Q:VK),Inv X pins σ H s->RelV x v->Vals xs us->r x xs H Q ->
   wpAny (model X.prog X.w) X.A (call (.builtin id) (v::us)) (EP X pins σ Q) X.xe s
section
variable {X:Cx}{a b:Expr}{ta tb:TE}{pos:Pos}
theorem IxR.or{r r':R2}(h:IxR X r)(h':IxR X r'):IxR X (fun x y H Q=>r x y H Q\/r' x y H Q):=by
 intro value slice pins s σ H x y v u Q I rx ry q hs;rcases q with q | q
 ·exact h value slice pins s σ H x y v u Q I rx ry q hs
 ·exact h' value slice pins s σ H x y v u Q I rx ry q hs
theorem Zbs{r:R2}(hr:IxR X r)(ha:PE X a ta)(hb:PE X b tb)(hs:zym b):PE X (.Subscript a b pos) (tOp r ta tb):=by
 intro pins s σ H Q I h;exact Subscript_ (binT ha hb I h fun v u s2 x y H2 I2 rx ry q=>hr a b pins s2 σ H2 x y v u Q I2 rx ry q (hs _ _))
def rIxL(K:W.Frag):R2:=fun x y H Q=>∃p xs i v,x=.ref p/\y=.int i/\SqL K H p xs/\atI xs i=some v/\Q v H
def rIxT(K:W.Frag):R2:=fun x y H Q=>∃p xs i v,x=.ref p/\y=.int i/\SqT K H p xs/\atI xs i=some v/\Q v H
def rIxS:R2:=fun x y H Q=>∃z i c,x=.str z/\y=.int i/\z.length<=sizeLine/\atI z.cps.toList i=some c/\Q (.str ⟨#[c]⟩) H
theorem z50:IxR X (rIxL X.K):=by
 intro value slice pins s σ H x y v u Q I rx ry h hs;obtain⟨p,xs,i,z,rfl,rfl,hq,he,q⟩:=h;cases rx;obtain⟨t,rfl⟩:=ry;obtain⟨its,r,pl,hz⟩:=I.list hq;obtain⟨j,h1,h2,h3,h4,h5⟩:=zs9 he;obtain⟨w,ew,rw'⟩:=r.get h2;have hl:=r.length;have hn:=zqu;have fin:EP X pins σ Q w s:=⟨z,H,I,rw',q⟩;by_cases h0:0<=i
 ·have hj:i.toNat=j:=by
   rw[seqIndex_of h0 h5] at h1;exact Option.some.inj h1
  exact item_listR pl.isList h0 (by omega) (by rw[hj];simpa using ew) fin hs
 ·have hj:(i+(its.toArray.size:Int)).toNat=j:=by
   rw[seqIndex_neg (by omega) h4] at h1;rw[List.size_toArray,<- hl];exact Option.some.inj h1
  exact subscriptTail_builtinR (x:=w) pl.isList.typeIs slot_list_getitem.lookup
   (wpAny_getItem_list_neg (Q:=fun r s'=>r=w/\EP X pins σ Q r s') pl.isList (by omega) (by rw[List.size_toArray]<;>omega) (by omega) (by rw[hj];simpa using ew) ⟨rfl,fin⟩) hs
theorem z8t:IxR X (rIxT X.K):=by
 intro value slice pins s σ H x y v u Q I rx ry h hs;obtain⟨p,xs,i,z,rfl,rfl,hq,he,q⟩:=h;cases rx;obtain⟨t,rfl⟩:=ry;obtain⟨its,r,pl,hz⟩:=I.tuple hq;obtain⟨j,h1,h2,h3,h4,h5⟩:=zs9 he;obtain⟨w,ew,rw'⟩:=r.get h2;have hl:=r.length;have hn:=zqu;have fin:EP X pins σ Q w s:=⟨z,H,I,rw',q⟩;exact subscriptTail_builtinR (x:=w) pl.typeIs slot_tuple_getitem.lookup
  (getItem_tuple (j:=j) (Q:=fun r s'=>r=w/\EP X pins σ Q r s') pl (by omega) (by omega) (by rw[List.size_toArray,<- hl];exact h1) (by simpa using ew) ⟨rfl,fin⟩) hs
theorem z8u:IxR X rIxS:=by
 intro value slice pins s σ H x y v u Q I rx ry h hs;obtain⟨z,i,c,rfl,rfl,hz,he,q⟩:=h;obtain⟨t,rfl⟩:=rx;obtain⟨t',rfl⟩:=ry;obtain⟨j,h1,h2,h3,h4,h5⟩:=zs9 he;have hl:z.cps.toList.length=z.length:=by simp[Str.length]
 rw[hl] at h1 h4 h5;have hn:=zqu;exact tail_any (typeIs_str s z t) slot_str_getitem.lookup (getItem_str (c:=c) (by
  have e1:decide (i < -(2 ^ 63:Int))=false:=decide_eq_false (by omega);have e2:decide (i>=2 ^ 63)=false:=decide_eq_false (by omega);rw[e1,e2,Bool.or_false]) (by rw[h1];simpa using h2) ⟨.str ⟨#[c]⟩,H,I.tok _,⟨_,rfl⟩,q⟩) hs
def rIx(K:W.Frag):R2:=fun x y H Q=>rIxL K x y H Q\/rIxT K x y H Q\/rIxS x y H Q
theorem z8v:IxR X (rIx X.K):=z50.or (z8t.or z8u)
theorem zq3(lo hi:Option Int)(n:Nat):(sliceBounds lo hi none n).1=((HT.sIx n 0 lo:Nat):Int)/\(sliceBounds lo hi none n).2.1=((HT.sIx n n hi:Nat):Int)/\(sliceBounds lo hi none n).2.2=1:=by
 refine⟨?_,?_,rfl⟩
 ·cases lo with
  |none=>simp[sliceBounds,HT.sIx]
  | some i=>
    simp only[sliceBounds,HT.sIx,Option.getD_none,show(1:Int)>0 by decide,if_true];by_cases h:i<0
    ·simp only[h,if_true]<;>omega
    ·simp only[h,if_false]<;>omega
 ·cases hi with
  |none=>simp[sliceBounds,HT.sIx]
  | some i=>
    simp only[sliceBounds,HT.sIx,Option.getD_none,show(1:Int)>0 by decide,if_true];by_cases h:i<0
    ·simp only[h,if_true]<;>omega
    ·simp only[h,if_false]<;>omega
theorem zo9(its:List Value)(lo hi:Option Int):slicePick its.toArray lo hi none=((its.drop (HT.sIx its.length 0 lo)).take (HT.sIx its.length its.length hi-HT.sIx its.length 0 lo)).toArray:=by
 obtain⟨h1,h2,h3⟩:=zq3 lo hi its.toArray.size;unfold slicePick;rw[h1,h2,h3];simp only[sliceRange_one,pick_run,List.size_toArray]<;>rfl
def rSlL(K:W.Frag):V->Option Int->Option Int->Hp->VK->Prop:=fun x lo hi H Q=>∃a xs,x=.ref a/\SqL K H a xs/\∀p,H p=none->Q (.ref p) (upd H p (.lst (cutV xs lo hi)))
theorem z51:SlR X (rSlL X.K):=by
 intro pins s σ H x v vl vu lo hi sl Q I rx hs pl pu h;obtain⟨a,xs,rfl,hx,q⟩:=h;cases rx;obtain⟨its,r,ht,hz⟩:=I.list hx;have hlen:=r.length;refine⟨"list",_,slot_list_getitem.lookup,ht.isList.typeIs,?_⟩;refine wpAny_getItem_list_slice ht.isList hs pl pu .none (by simp) ?_ (by rw[List.size_toArray]<;>omega);rw[zo9,<- hlen];refine⟨.ref s.heap.objs.size,_,I.laid (t':=s.toks) (o:=.lst (cutV xs lo hi)) (fun b ob q=>Heap.get?_push_of_some _ q) (Nat.le_refl _) ?_,rfl,q _ (I.hok.fresh (Nat.le_refl _))⟩;exact⟨Nat.le_trans (zs8 xs lo hi) hz,_,0,(r.drop (HT.sIx xs.length 0 lo)).take (HT.sIx xs.length xs.length hi-HT.sIx xs.length 0 lo),Heap.get?_push_size _ rfl⟩
def zfs:V->Bool
 |.non=>true
 |.bl _=>true
 |.int _=>true
 |.str _=>true
 |_=>false
noncomputable def eqV:V->V->Bool
 |.non,.non=>true
 |.bl a,.bl b=>a==b
 |.bl a,.int b=>(if a then 1 else 0)==b
 |.int a,.bl b=>a==(if b then 1 else 0)
 |.int a,.int b=>a==b
 |.str a,.str b=>a==b
 |_,_=>false
theorem z31{A:Around}{s:Shared}{y x:V}{u v:Value}(ry:RelV y u)(rx:RelV x v)(fy:zfs y=true)(fx:zfs x=true):SeqAt.EqAt A s u v (eqV y x):=by
 cases y with
 | non=>
   cases ry;cases x with
   |non=>cases rx;exact SeqAt.EqAt.same _
   |bl b=>cases rx;exact SeqAt.EqAt.none_bool b
   |int b=>obtain⟨t,rfl⟩:=rx;exact SeqAt.EqAt.none_int b t
   |str b=>obtain⟨t,rfl⟩:=rx;exact SeqAt.EqAt.none_str b t
   |_=>exact absurd (show false=true from fx) Bool.false_ne_true
 | bl a=>
   cases ry;cases x with
   |non=>cases rx;exact SeqAt.EqAt.bool_none a
   |bl b=>cases rx;exact SeqAt.EqAt.bool_bool a b
   |int b=>obtain⟨t,rfl⟩:=rx;exact SeqAt.EqAt.bool_int a b t
   |str b=>obtain⟨t,rfl⟩:=rx;exact SeqAt.EqAt.bool_str a b t
   |_=>exact absurd (show false=true from fx) Bool.false_ne_true
 | int a=>
   obtain⟨t',rfl⟩:=ry;cases x with
   |non=>cases rx;exact SeqAt.EqAt.int_none a t'
   |bl b=>cases rx;exact SeqAt.EqAt.int_bool a t' b
   |int b=>obtain⟨t,rfl⟩:=rx;exact SeqAt.EqAt.int_int a t' b t
   |str b=>obtain⟨t,rfl⟩:=rx;exact SeqAt.EqAt.int_str a t' b t
   |_=>exact absurd (show false=true from fx) Bool.false_ne_true
 | str a=>
   obtain⟨t',rfl⟩:=ry;cases x with
   |non=>cases rx;exact SeqAt.EqAt.str_none a t'
   |bl b=>cases rx;exact SeqAt.EqAt.str_bool a t' b
   |int b=>obtain⟨t,rfl⟩:=rx;exact SeqAt.EqAt.str_int a t' b t
   |str b=>obtain⟨t,rfl⟩:=rx;exact SeqAt.EqAt.str_str a t' b t
   |_=>exact absurd (show false=true from fx) Bool.false_ne_true
 |_=>exact absurd (show false=true from fy) Bool.false_ne_true
noncomputable def eqU(x:V)(u:Value):Bool:=match u with
 |.none=>eqV .non x
 |.bool b=>eqV (.bl b) x
 |.int i _=>eqV (.int i) x
 |.str z _=>eqV (.str z) x
 |_=>false
theorem zq4{x y:V}{u:Value}(r:RelV y u)(f:zfs y=true):eqU x u=eqV y x:=by
 cases y with
 |non=>cases r;rfl
 |bl b=>cases r;rfl
 |int i=>obtain⟨t,rfl⟩:=r;rfl
 |str z=>obtain⟨t,rfl⟩:=r;rfl
 |_=>exact absurd (show false=true from f) Bool.false_ne_true
theorem zta{x:V}:∀{xs:List V} {us:List Value},Vals xs us->xs.all zfs=true->us.any (eqU x)=xs.any fun y=>eqV y x
 |_,_,.nil,_=>rfl
 | y::xs,u::us,.cons r t,f=>by
   rw[List.all_cons,Bool.and_eq_true] at f;rw[List.any_cons,List.any_cons,zq4 r f.1,zta t f.2]
theorem zpa{A:Around}{s:Shared}{x:V}{v:Value}(rx:RelV x v)(fx:zfs x=true):∀{xs:List V} {us:List Value},Vals xs us->xs.all zfs=true->∀u∈us,SeqAt.EqAt A s u v (eqU x u)
 |_,_,.nil,_=>fun u hu=>by cases hu
 | y::xs,u::us,.cons r t,f=>fun u' hu=>by
   rw[List.all_cons,Bool.and_eq_true] at f;rcases List.mem_cons.mp hu with rfl | hu
   ·rw[zq4 r f.1];exact z31 r rx f.1 fx
   ·exact zpa rx fx t f.2 u' hu
noncomputable def inV(x:V)(xs:List V):Bool:=xs.any fun y=>eqV y x
def rIn(K:W.Frag)(neg:Bool):R2:=fun x y H Q=>∃p xs,y=.ref p/\(SqL K H p xs\/SqT K H p xs)/\zfs x=true/\xs.all zfs=true/\Q (.bl (if neg then !inV x xs else inV x xs)) H
theorem zyn:OpR X (compareOp .In) (rIn X.K false):=by
 intro pins s σ H x y v u Q I rx ry h;obtain⟨p,xs,rfl,hq,fx,fs,q⟩:=h;cases ry;rcases hq with hq | hq
 ·obtain⟨its,r,pl,hz⟩:=I.list hq
  refine SeqAt.in_listAt (eqU x) pl.isList (fun w hw=>zpa rx fx r fs w (by simpa using hw)) ⟨.bl _,H,I,rfl,?_⟩;rw[show its.toArray.any (eqU x)=its.any (eqU x) by simp,zta r fs];exact q
 ·obtain⟨its,r,pl,hz⟩:=I.tuple hq
  refine SeqAt.in_tupleAt (eqU x) pl (fun w hw=>zpa rx fx r fs w (by simpa using hw)) ⟨.bl _,H,I,rfl,?_⟩;rw[show its.toArray.any (eqU x)=its.any (eqU x) by simp,zta r fs];exact q
theorem zju.or{f:Value}{r r':List V->Hp->VK->Prop}(h:zju X f r)(h':zju X f r'):zju X f (fun xs H Q=>r xs H Q\/r' xs H Q):=by
 intro pins s σ H xs us Q I rs q;rcases q with q | q
 ·exact h pins s σ H xs us Q I rs q
 ·exact h' pins s σ H xs us Q I rs q
theorem zii:zju X (.type "list") (fun xs H Q=>∃p ys,xs=[.ref p]/\(SqL X.K H p ys\/SqT X.K H p ys)/\∀l,H l=none->Q (.ref l) (upd H l (.lst ys))):=by
 intro pins s σ H xs us Q I r h;obtain⟨p,ys,rfl,hq,q⟩:=h;obtain⟨u,rfl,rx⟩:=zs4 r;cases rx;have fin:∀(its:List Value),Vals ys its->ys.length<=sizeLine->∀(h':Heap) (c':Nat),(∀b o',s.heap.get? b=some o'->h'.get? b=some o') ->
   h'.get? s.heap.objs.size=some { cls:=.type "list",dict:=none,data:=.seq its.toArray c',slots:=#[] }->EP X pins σ Q (.ref s.heap.objs.size) { s with heap:=h' }:=fun its r' hz h' c' kp e=>
  ⟨.ref s.heap.objs.size,_,I.laid (t':=s.toks) kp (Nat.le_refl _) (show zc8 X.prog X.w _ h' _ (.lst ys) from⟨hz,its,c',r',e⟩),rfl,q _ (I.hok.fresh (Nat.le_refl _))⟩
 rcases hq with hq | hq
 ·obtain⟨its,r',pl,hz⟩:=I.list hq
  have hlen:=r'.length;obtain⟨o,ho,hc,n,hd⟩:=pl.isList;exact call_list_seq p (.inl rfl) ho hc hd (fun h' c' kp e=>fin its r' hz h' c' kp e) (by simp only[List.size_toArray]<;>omega)
 ·obtain⟨its,r',pl,hz⟩:=I.tuple hq
  have hlen:=r'.length;obtain⟨o,ho,hc,n,hd⟩:=pl;exact call_list_seq p (.inr rfl) ho hc hd (fun h' c' kp e=>fin its r' hz h' c' kp e) (by simp only[List.size_toArray]<;>omega)
theorem zpb:zju X (.type "tuple") (fun xs H Q=>∃p ys,xs=[.ref p]/\((SqL X.K H p ys/\∀l,H l=none->Q (.ref l) (upd H l (.tup ys)))\/(SqT X.K H p ys/\Q (.ref p) H))):=by
 intro pins s σ H xs us Q I r h;obtain⟨p,ys,rfl,h⟩:=h;obtain⟨u,rfl,rx⟩:=zs4 r;cases rx;rcases h with⟨hq,q⟩ | ⟨hq,q⟩
 ·obtain⟨its,r',pl,hz⟩:=I.list hq
  have hlen:=r'.length;refine call_tuple_list pl.isList (fun h' kp=>?_) (by simp only[List.size_toArray]<;>omega);have I1:Inv X pins σ H { s with heap:=h' }:=I.kept (t':=s.toks) kp;have I2:Inv X pins σ (upd H h'.objs.size (.tup ys)) { s with heap:=h'.push { cls:=.type "tuple",data:=.seq its.toArray } }:=
   I1.laid (t':=s.toks) (fun b o e=>Heap.get?_push_of_some _ e) (Nat.le_refl _) (show zc8 X.prog X.w _ _ _ (.tup ys) from⟨hz,its,r',IsTup.new _ _⟩)
  exact⟨.ref h'.objs.size,_,I2,rfl,q _ (I1.hok.fresh (Nat.le_refl _))⟩
 ·obtain⟨its,r',pl,hz⟩:=I.tuple hq
  exact call_tuple_same pl ⟨.ref p,H,I,rfl,q⟩
def tyV(K:W.Frag)(T:String)(x:V)(H:Hp):Prop:=match x with
 |.str _=>T = "str"
 |.int _=>T = "int"
 |.ref p=>(T = "list" /\ ∃xs,SqL K H p xs)\/(T = "tuple" /\ ∃o,K.lookup p=some o/\o.cls=.type "tuple" /\ o.dict=none) \/
  (T = "dict" /\ ((∃kvs,H p=some (.dK kvs))\/∃kvs,H p=some (.dT kvs)))\/(T = "set" /\ ∃S n,H p=some (.set S n))
 |_=>False
theorem z32{pins:List (Addr×Obj)}{σ:St}{H:Hp}{s:Shared}{T:String}{x:V}{v:Value}(I:Inv X pins σ H s)(r:RelV x v)(ty:tyV X.K T x H) :
  s.TypeIs v T/\∀a,v=.ref a->∃ob,s.heap.get? a=some ob/\ob.dict=none:=by
 cases x with
 | str z=>
   obtain⟨t,rfl⟩:=r;cases (show T = "str" from ty);exact⟨typeIs_str s z t,fun _ e=>nomatch e⟩
 | int i=>
   obtain⟨t,rfl⟩:=r;cases (show T = "int" from ty);exact⟨typeIs_int s i t,fun _ e=>nomatch e⟩
 | ref p=>
   cases r;rcases ty with⟨rfl,xs,hq⟩ | ⟨rfl,o,hk,hc,hd⟩ | ⟨rfl,hk⟩ | ⟨rfl,S,n,hk⟩
   ·obtain⟨its,_,pl,_⟩:=I.list hq
    refine⟨pl.isList.typeIs,fun a e=>?_⟩;cases e;obtain⟨o,n,e,c,hd,_⟩:=pl;exact⟨o,e,hd⟩
   ·refine⟨⟨o,I.kIn p o hk,hc⟩,fun a e=>?_⟩
    cases e;exact⟨o,I.kIn _ o hk,hd⟩
   ·have z:∃o,s.heap.get? p=some o/\o.ExactDict:=by
     rcases hk with⟨kvs,hk⟩ | ⟨kvs,hk⟩
     ·obtain⟨_,_,_,_,o,_,_,e,ex,_⟩:=I.hok p _ hk
      exact⟨o,e,ex⟩
     ·obtain⟨_,_,_,_,o,_,_,e,ex,_⟩:=I.hok p _ hk
      exact⟨o,e,ex⟩
    obtain⟨o,e,ex⟩:=z;refine⟨⟨o,e,ex.1⟩,fun a e2=>?_⟩;cases e2;exact⟨o,e,ex.2.1⟩
   ·obtain⟨o,_,_,_,e,ex,_⟩:=I.hok p _ hk
    refine⟨⟨o,e,ex.1⟩,fun a e2=>?_⟩;cases e2;exact⟨o,e,ex.2.1⟩
 |_=>exact False.elim ty
def tBM0(K:W.Frag)(T:String)(r:V->List V->Hp->VK->Prop)(to:TE):TE:=fun σ H Q=>to σ H fun x H1=>tyV K T x H1/\r x [] H1 Q
def tBM(K:W.Frag)(T:String)(r:V->List V->Hp->VK->Prop)(to:TE)(t:TA):TE:=fun σ H Q=>to σ H fun x H1=>tyV K T x H1/\t σ H1 fun xs H2=>r x xs H2 Q
variable {o e:Expr}{es:List Expr}{to:TE}{t:TA}{name:Str}{apos cpos:Pos}{T id:String}{r:V->List V->Hp->VK->Prop}
theorem z8w(pa:PlainAttrs T)(slot:Slot T name id)(hty:typeOf (.builtin id)=pure (.type "method_descriptor"))(hm:MtR X id r)(ho:PE X o to)
  (hbase:attributeBase o name X.env (eval o X.env)=eval o X.env:=by rfl) (hline:(apos.endLine==cpos.line)=true:=by rfl):PE X (.Call (.Attribute o name apos) [] [] cpos) (tBM0 X.K T r to):=by
 intro pins s σ H Q I h;refine wpAny_Call_method0_late hbase hline (thn (ho pins s σ H _ I h) fun v s1 hq_=>?_);obtain⟨x,H1,I1,r1,ty,q1⟩:=hq_;obtain⟨h1,h2⟩:=z32 I1 r1 ty;exact⟨T,id,pa,slot,hty,h1,h2,Calls.callWith_builtin rfl (PySem.evalArgs_none (hm pins s1 σ H1 x [] v [] Q I1 r1 .nil q1))⟩
theorem Zbt(pa:PlainAttrs T)(slot:Slot T name id)(hty:typeOf (.builtin id)=pure (.type "method_descriptor"))(hm:MtR X id r)(ho:PE X o to)(ha:PA X (e::es) t)
  (hbase:attributeBase o name X.env (eval o X.env)=eval o X.env:=by rfl)
  (hfew:((backTo cpos (starEach (e::es) X.env)).all (fun x=>!x.1)&&(backToKw cpos (keywordEach [] X.env)).all (fun x=>x.1.isSome)
   && decide ((e::es).length+([]:List Keyword).length+(if([]:List Keyword).isEmpty then 0 else 1)<30))=true:=by rfl)
  (hline:(apos.endLine==cpos.line)=true:=by rfl) (hs:starEach (e::es) X.env=(false,eval e X.env)::starEach es X.env:=by rfl) (hplain:(backTo cpos (starEach es X.env)).any (·.1)=false:=by rfl) :
  PE X (.Call (.Attribute o name apos) (e::es) [] cpos) (tBM X.K T r to t):=by
 intro pins s σ H Q I h;refine wpAny_Call_method_late hbase hfew hline rfl (thn (ho pins s σ H _ I h) fun v s1 hq_=>?_);obtain⟨x,H1,I1,r1,ty,q1⟩:=hq_;obtain⟨h1,h2⟩:=z32 I1 r1 ty;refine⟨T,id,pa,slot,hty,h1,h2,?_⟩;have hA:=ha cpos pins s1 σ H1 _ I1 q1;rw[hs] at hA ⊢;refine Calls.callWith_builtin (by show(false || (backTo cpos (starEach es X.env)).any (·.1))=false;rw[hplain]<;>rfl) (Calls.evalArgs_plain ?_);exact thn hA fun us s2 ⟨vs,H2,I2,r2,q2⟩=>hm pins s2 σ H2 x vs v us Q I2 r1 r2 q2
end
def MtM(X:Cx)(id:String)(r:V->List V->Hp->VK->Prop):Prop:=
 ∀ (pins:List (Addr×Obj)) (s:Shared) (σ:St) (H:Hp) (x:V) (xs:List V) (v:Value) (us:List Value) (Q:VK),Inv X pins σ H s->RelV x v->Vals xs us->r x xs H Q ->
   wpAny (model X.prog X.w) X.A (call (.builtin id) (v::us)) (EP X pins σ Q) X.xe s
theorem Vals.one{x:V}{us:List Value}(h:Vals [x] us):∃u,us=[u]/\RelV x u:=by
 cases h with
 |cons r t=>cases t;exact⟨_,rfl,r⟩
theorem Vals.zero:∀{us:List Value},Vals [] us->us=[]
 |_,.nil=>rfl
theorem Vals.eraseIdx:∀{xs:List V} {us:List Value} (i:Nat),Vals xs us->Vals (xs.eraseIdx i) (us.eraseIdx i)
 |_,_,_,.nil=>.nil
 |_,_,0,.cons _ t=>t
 |_,_,i+1,.cons r t=>.cons r (Vals.eraseIdx i t)
theorem zw0{α:Type}(l:List α):l.eraseIdx (l.length-1)=l.dropLast:=by
 induction l with
 |nil=>rfl
 | cons a r ih=>
   cases r with
   |nil=>rfl
   | cons b r=>
     have e:(a::b::r).length-1=((b::r).length-1)+1:=by
      have h1:(a::b::r).length=r.length+2:=rfl;have h2:(b::r).length=r.length+1:=rfl;omega
     rw[e,List.eraseIdx_cons_succ,ih]
     all_goals rfl
theorem zmw{α:Type}:∀(l:List α) (i:Nat),(l.eraseIdx i).length<=l.length
 |[],_=>Nat.le_refl _
 |_::_,0=>Nat.le_succ _
 |_::r,i+1=>Nat.succ_le_succ (zmw r i)
section
variable {X:Cx}{pins:List (Addr×Obj)}{σ:St}{H:Hp}{s:Shared}{l b:Addr}{xs ys zs:List V}
theorem Inv.lset{its its':List Value}{n:Nat}{f:Array Value->Array Value}{t':Nat}(I:Inv X pins σ H s)(hH:H l=some (.lst xs))
  (e:s.heap.get? l=some { cls:=.type "list",data:=.seq its.toArray n }) (hf:f its.toArray=its'.toArray) (hv:Vals ys its') (hz:ys.length<=sizeLine) :
  Inv X pins σ (upd H l (.lst ys)) { s with heap:=s.heap.update l (Obj.mapSeq f),toks:=t' }:=by
 have q:=PySem.IsL.update e f;rw[hf] at q;refine I.write (x:=l) (e:=l) (by rw[hH];exact trivial) (.inl rfl) (fun b' u hb hu=>(Heap.get?_update_other s.heap (Obj.mapSeq f) (Ne.symm hb)).trans hu) ⟨_,q⟩ ?_;exact⟨hz,its',_,hv,q⟩
theorem Inv.lnew{its:List Value}{t':Nat}(I:Inv X pins σ H s)(hv:Vals ys its)(hz:ys.length<=sizeLine) :
  Inv X pins σ (upd H s.heap.objs.size (.lst ys)) { s with heap:=s.heap.push { cls:=.type "list",data:=.seq its.toArray },toks:=t' }:=
 I.laid (fun _ _ q=>Heap.get?_push_of_some _ q) (Nat.le_refl _) ⟨hz,its,0,hv,Heap.get?_push_size _ rfl⟩
theorem Inv.fresh(I:Inv X pins σ H s):H s.heap.objs.size=none:=I.hok.fresh (Nat.le_refl _)
theorem Inv.lstM(I:Inv X pins σ H s)(hH:H l=some (.lst xs)):xs.length<=sizeLine/\∃(its:List Value) (n:Nat),Vals xs its/\xs.length=its.length/\s.heap.get? l=some { cls:=.type "list",data:=.seq its.toArray n }:=by
 obtain⟨z,its,n,r,e⟩:=I.hok l _ hH;exact⟨z,its,n,r,r.length,e⟩
theorem z14{n:Nat}(h:n<=sizeLine):Builtin.List.listTooLong n=false:=by
 unfold Builtin.List.listTooLong;exact decide_eq_false (by omega)
end
section
variable {X:Cx}
def zyo:V->List V->Hp->VK->Prop:=fun x vs H Q=>∃l xs y,x=.ref l/\vs=[y]/\H l=some (.lst xs)/\xs.length<sizeLine/\Q .non (upd H l (.lst (xs++[y])))
theorem zmx:MtM X "list.append" zyo:=by
 intro pins s σ H x vs v us Q I rx rv h;obtain⟨l,xs,y,rfl,rfl,hH,hz,q⟩:=h;cases rx;obtain⟨u,rfl,ru⟩:=rv.one;obtain⟨z,its,n,r,hl,e⟩:=I.lstM hH;refine call_meets F.slot_list_append ⟨_,e,rfl⟩ F.entry_list_append (F.args_list_append_2 _ _) (PySem.list_append l its.toArray n u (by rw[List.size_toArray];omega)) ⟨e,?_⟩;refine⟨.non,_,I.lset (its':=its++[u]) hH e (by simp) (r.append (.cons ru .nil)) ?_,rfl,q⟩;rw[List.length_append,List.length_singleton];omega
def z33:V->List V->Hp->VK->Prop:=fun x vs H Q=>∃l xs i k y,x=.ref l/\vs=[.int i]/\H l=some (.lst xs) /\ -(2 ^ 63)<=i/\i<2 ^ 63/\seqIndex? i xs.length=some k/\xs[k]?=some y/\Q y (upd H l (.lst (xs.eraseIdx k)))
theorem z15:MtM X "list.pop" z33:=by
 intro pins s σ H x vs v us Q I rx rv h;obtain⟨l,xs,i,k,y,rfl,rfl,hH,h1,h2,hk,hy,q⟩:=h;cases rx;obtain⟨u,rfl,ru⟩:=rv.one;obtain⟨t,rfl⟩:=ru;obtain⟨z,its,n,r,hl,e⟩:=I.lstM hH;obtain⟨w,hw,rw'⟩:=r.get hy;refine call_meets F.slot_list_pop ⟨_,e,rfl⟩ F.entry_list_pop (F.args_list_pop_2 _ _)
  (MeetsSeq.list_pop_at l its.toArray n i t k w (fitsIndex_both h1 h2) (by rw[List.size_toArray,<- hl];exact hk) (by rw[<- Array.getElem?_toList];exact hw) (by rw[List.size_toArray];omega)) ⟨e,?_⟩
 refine⟨y,_,I.lset (its':=its.eraseIdx k) hH e ?_ (r.eraseIdx k) ?_,rw',q⟩
 ·show its.toArray.eraseIdxIfInBounds k=(its.eraseIdx k).toArray
  rw[List.eraseIdxIfInBounds_toArray]
 ·have:=zmw xs k
  omega
def z34:V->List V->Hp->VK->Prop:=fun x vs H Q=>∃l xs,x=.ref l/\vs=[]/\H l=some (.lst xs)/\Q .non (upd H l (.lst []))
theorem z16:MtM X "list.clear" z34:=by
 intro pins s σ H x vs v us Q I rx rv h;obtain⟨l,xs,rfl,rfl,hH,q⟩:=h;cases rx;have hus:=rv.zero;subst hus;obtain⟨z,its,n,r,hl,e⟩:=I.lstM hH;refine call_meets F.slot_list_clear ⟨_,e,rfl⟩ F.entry_list_clear (F.args_list_clear_1 _) (AutoSeq1.list_clear_list_0 l its.toArray n (by rw[List.size_toArray];omega)) ⟨e,?_⟩;exact⟨.non,_,I.lset (its':=[]) (ys:=[]) hH e rfl .nil (Nat.zero_le _),rfl,q⟩
end
end L2
namespace Att
open PySem PySem.W PySem.Calls PyProof.Rows
theorem zmy{P:Params}{h:Heap}:∀(ns:List Int) (vs:List Value),WellAll P h vs (ns.map WData.int)->IntsAre vs ns:=by
 intro ns
 induction ns with
 | nil=>
   intro vs w;rw[List.map_nil] at w;cases w;exact .nil
 | cons n ns ih=>
   intro vs w;rw[List.map_cons] at w;cases w with
   | cons a b=>
     cases a;exact .cons _ _ (ih _ b)
theorem zyp{l:OpenLaw}{n:Nat}(hn:l.most=some n){P:Params}{h:Heap}{args:List WData}{vals:List Value}
  (hpre:l.row.toRowW.claim.pre args=true) (hwl:WellAll P h vals args) :
  ∃a vs ns,vals=[Value.ref a]/\args=[WData.list (ns.map WData.int)]/\h.get? a=some { cls:=.type "list",data:=.seq vs.toArray }/\IntsAre vs ns/\ns.length<=n:=by
 have hsh:WShape.hasAll [] args [.list .int]=true:=(pre_splitW hpre).1;have hc:l.pre.holds [] { args:=args }=true:=(pre_splitW hpre).2;obtain⟨d,r,rfl,h1,h2⟩:=hasAllW_cons hsh;obtain rfl:=hasAllW_nil h2;obtain⟨xs,rfl,h3⟩:=hasW_list h1;obtain⟨ns,rfl⟩:=items_int h3;have hlen:ns.length<=n:=by
  unfold OpenLaw.pre at hc;have h4:(WTm.not (.lt (.lit (.int (n:Int))) (.len (.arg 0)))).holds [] { args:=[.list (ns.map .int)] }=true:=by
   have h4:=(holds_andW hc).1;rw[hn] at h4;exact h4
  have h5:=condW_of h4 (w_not (w_lt w_lit (w_len_list (w_arg rfl))));rw[List.length_map] at h5;refine Nat.le_of_not_lt fun q=>?_;have q':(n:Int)<((ns.length:Nat):Int):=by omega
  first
   |(rw[decide_eq_true q'] at h5;exact absurd h5 (by decide))
   |(simp at h5;omega)
 cases hwl with
 | cons w1 w2=>
   cases w2;cases w1 with
   |list ho hall=>exact⟨_,_,ns,rfl,rfl,ho,zmy ns _ hall,hlen⟩
theorem zyq(l:OpenLaw)(args:List WData):l.row.toRowW.claim.post args (.bool true) args=true:=
 postW_of (r:=l.row.toRowW) (X:=(true==true))
  (show WShape.has [] (.bool true) .bool=true by first | rfl | decide | simp[WShape.has,WShape.arms,WShape.armsAll])
  (show(WTm.eq .res (.lit (.bool true))).value [] { args:=args,res:=some (.bool true),after:=args }=some (.bool (true==true)) from w_eq_bool (w_res rfl) w_lit) rfl
theorem attach_call{l:OpenLaw}{n:Nat}{q:Program}{loose:List Str}{XP:(Str->Option Value)->Heap->Prop}{YP:World->Heap->Prop}{d:DefRec}
  (hn:l.most=some n) (hdf:d.params.defaults=[])
  (call:∀(w:World) (s₀ s₁:Shared) (mg mb:Str->Option Value) (fa:Addr) (o:Obj) (pm cd doc:Value) (a:Addr) (vs:List Value) (ns:List Int),
   Ground q loose [] XP w s₀ mg mb s₁.heap->YP w s₁.heap ->
   s₁.heap.get? fa=some o->o.data=.func (docDef d.name d.params d.body d.scope pm cd doc)->s₁.heap.CodeRec cd d.name->mg d.name=some (.ref fa) ->
   s₁.heap.get? a=some { cls:=.type "list",data:=.seq vs.toArray }->IntsAre vs ns->ns.length<=n->s₁.gens=#[] ->
   codeAny (model l.prog w) callerA (.call (.ref fa) ⟨[.ref a],[]⟩) (fun r s'=>r=.ok (.ret (.bool true))/\OldK s₁.heap s'.heap/\s'.os=s₁.os/\AllBare s'.gens) s₁) :
  WalkO q loose XP YP l.row.toRowW d [] (fun f vs=>PySem.call f vs):=by
 intro w s₀ s₁ mg mb G Y fa o pm cd doc dV kV ho hd hcd hD hmg hg args vals as hpre hlay hrd hwl hlo;obtain rfl:dV=.none:=Dflts.none hD hdf;obtain rfl:kV=.none:=Dflts.noKw hD;obtain⟨a,vs,ns,rfl,rfl,hobj,hints,hlen⟩:=zyp hn hpre hwl;refine enter_call (codeAny_mono (call w s₀ s₁ mg mb fa o pm cd doc a vs ns G Y ho (fd_plain hd) hcd hmg hobj hints hlen hg) fun r s' hq=>?_);obtain⟨rfl,h2,h3,h4⟩:=hq;exact⟨.inl ⟨.bool true,.bool true,[],rfl,fun _=>rfl,.bool true,zyq l _,fun _=>⟨List.Pairwise.nil,fun _ hm=>(nomatch hm)⟩⟩,h2,h3,h4⟩
end Att
namespace L2
open PySem PySem.Spec PyProof.Rows
theorem zq5:∀{vs:List Value} {ns:List Int},IntsAre vs ns->Vals (ns.map V.int) vs
 |_,_,.nil=>.nil
 |_,_,.cons n t h=>.cons ⟨t,rfl⟩ (zq5 h)
def Only(H:Hp):Prop:=∀b,H b=none\/∃o xs,H b=some (.frz o (.lst xs))
theorem z17 {P:Program} {w:World} {K:W.Frag} {mg mb:Str->Option Value} {CX:CXT} {k:Nat} {fa a:Addr} {fd:FuncData} {x:Str} {sp:Sp} {s₁:Shared} {vs:List Value} {ns:List Int}
  (KX:K.In s₁.heap) (hns:s₁.heap.Ns mainGlobals mg) (hb:s₁.heap.Ns builtinsNs mb) (hbb:∀x:Str,x ≠ "__name__" -> mb x=bootBuiltins x) (hlim:s₁.heap.NoLimit) (hg:s₁.gens=#[])
  (ha:s₁.heap.get? a=some { cls:=.type "list",data:=.seq vs.toArray }) (hi:IntsAre vs ns) (hl:ns.length<=sizeLine) (hr:Room k callerA)
  (F:∀base:Heap,K.In base->base.Ns mainGlobals mg->FnOk P w K mg base CX k fa fd [x] sp) (hbind:∀(s:Shared) (u:Value),BindsTo s fd ⟨[u],[]⟩ [(x,u)])
  (hsp:∀H:Hp,Only H->SqL K H a (ns.map V.int)->sp [.ref a] H (fun v _=>v=.bl true) fun _ _ _=>False)
  (hCX:∀H e s',CX [] H s₁ (fun _ _ _=>False) e s'->False) :
  codeAny (model P w) callerA (.call (.ref fa) ⟨[.ref a],[]⟩) (fun r s'=>r=.ok (.ret (.bool true))/\OldK s₁.heap s'.heap/\s'.os=s₁.os/\AllBare s'.gens) s₁:=by
 have rv := zq5 hi;have lenV:=hi.length;have core:∀H:Hp,Only H->SqL K H a (ns.map V.int)->HOk P w H s₁.heap->(∀b,H b≠none->b=a)->(H a≠none->K.lookup a=none) ->
   codeAny (model P w) callerA (.call (.ref fa) ⟨[.ref a],[]⟩) (fun r s'=>r=.ok (.ret (.bool true))/\OldK s₁.heap s'.heap/\s'.os=s₁.os/\AllBare s'.gens) s₁:=by
  intro H hO hS hok hA hK;have base_of:∀{b:Addr} {o:Obj},s₁.heap.get? b=some o->H b=none->(hidT s₁.heap H).get? b=some o:=fun e n=>z1s e n;have noA:∀{b:Addr} {o:Obj} {es:Array DictEntry} {ep:Nat},s₁.heap.get? b=some o->o.data=.dict es ep->H b=none:=fun {b o es ep} e d=>by
   cases q:H b with
   |none=>rfl
   | some u=>
     have e':b=a:=hA b (by rw[q];simp);subst e';rw[ha] at e;cases e;have d':Data.seq vs.toArray _=Data.dict es ep:=d;cases d'
  have nsK:∀{b:Addr} {m:Str->Option Value},s₁.heap.Ns b m->(hidT s₁.heap H).Ns b m:=fun {b m} ⟨o,es,ep,e,d,r⟩=>⟨o,es,ep,base_of e (noA e d),d,r⟩;have hKb:K.In (hidT s₁.heap H):=fun b o e=>base_of (KX b o e) (by
   cases q:H b with
   |none=>rfl
   | some u=>
     have e':b=a:=hA b (by rw[q];simp);subst e';rw[hK (by rw[q];simp)] at e;cases e)
  have hM:Mod K mg (hidT s₁.heap H):=⟨hKb,nsK hns,⟨mb,nsK hb,hbb⟩,let ⟨mc,h1,h2⟩:=hlim;⟨mc,nsK h1,h2⟩⟩;have e0:Env0 P w K mg (hidT s₁.heap H) callerA [] s₁ H:=⟨rfl,hM,fun b o e=>z48 e,Nat.le_of_eq (zx4 _ _),trivial,fun b hb=>absurd (show b∈([]:List Addr) from hb) (by simp),hok,.of_eq hg⟩;refine codeAny_mono ((F _ hKb (nsK hns)).run callerA [] s₁ H ⟨[.ref a],[]⟩ [.ref a] [.ref a] _ _ hr e0 (hbind s₁ (.ref a)) (.cons rfl .nil) (hsp H hO hS)) fun r s' h=>?_;cases r with
  |error e=>exact(hCX H e s' h).elim
  | ok fl=>
    cases fl with
    |next=>exact False.elim h
    |brk=>exact False.elim h
    |cont=>exact False.elim h
    | ret u=>
      obtain⟨v,H',os,bare,un,hok',r',q⟩:=h;have q':v=.bl true:=q;subst q';obtain rfl:u=Value.bool true:=r';refine⟨rfl,OldK.of_keep fun b o e=>?_,os,bare⟩;cases q:H b with
      |none=>exact un.keep b o e q (by intro z;exact absurd (show b∈([]:List Addr) from z) (by simp)) (by simp)
      | some u=>
        rcases hO b with z | ⟨ob,xs,z⟩
        ·rw[q] at z;cases z
        ·have z2:=un.frzs b ob _ z
         obtain⟨e1,_⟩:=hok b _ z;obtain⟨e2,_⟩:=hok' b _ z2;rw[e] at e1;cases e1;exact e2
 cases hk:K.lookup a with
 | some o=>
   have e:=KX a o hk;rw[ha] at e;cases e;refine core (fun _=>none) (fun _=>.inl rfl) (.inr ⟨_,vs.toArray,_,hk,rfl,rfl,rfl,by rw[List.size_toArray,lenV];exact hl,by simpa using rv⟩) (fun b u z=>by have z':(none:Option HO)=some u:=z;cases z') (fun b z=>absurd rfl z) fun z=>absurd rfl z
 | none=>
   refine core (fun b=>if b=a then some (.frz { cls:=.type "list",data:=.seq vs.toArray } (.lst (ns.map V.int))) else none) (fun b=>?_) (.inl (.inr ⟨{ cls:=.type "list",data:=.seq vs.toArray },if_pos rfl⟩)) (fun b u z=>?_) (fun b z=>?_) fun _=>hk
   ·by_cases hb:b=a
    ·exact .inr ⟨_,_,if_pos hb⟩
    ·exact .inl (if_neg hb)
   ·by_cases hb:b=a
    ·have z':=(if_pos hb).symm.trans z
     cases z';subst hb;exact⟨ha,by rw[List.length_map];exact hl,vs,_,rv,ha⟩
    ·have z':=(if_neg hb).symm.trans z
     cases z'
   ·by_cases hb:b=a
    ·exact hb
    ·exact absurd (if_neg hb) z
theorem walk_of{l:W.OpenLaw}{n k:Nat}{q:Program}{loose:List Str}{XP:(Str->Option Value)->Heap->Prop}{YP:World->Heap->Prop}{d:DefRec}{K:Params->W.Frag}{CX:World->CXT}{sp:World->Sp}{x:Str}
  (hn:l.most=some n) (hn2:n<=sizeLine) (hdf:d.params.defaults=[]) (hr:Room k callerA)
  (hY:∀(w:World) (h:Heap),YP w h->(K w.params).In h)
  (F : ∀(w:World) (mg:Str->Option Value) (fa:Addr) (h:Heap),(K w.params).In h->h.Ns mainGlobals mg->mg d.name=some (.ref fa) ->
   ∃ fd:FuncData,(∀(s:Shared) (u:Value),BindsTo s fd ⟨[u],[]⟩ [(x,u)]) /\
     ∀base:Heap,(K w.params).In base->base.Ns mainGlobals mg->FnOk l.prog w (K w.params) mg base (CX w) k fa fd [x] (sp w))
  (hsp:∀(w:World) (H:Hp) (a:Addr) (ns:List Int),ns.length<=n->Only H->SqL (K w.params) H a (ns.map V.int)->sp w [.ref a] H (fun v _=>v=.bl true) fun _ _ _=>False)
  (hCX:∀(w:World) (H:Hp) (s:Shared) (e:Value) (s':Shared),CX w [] H s (fun _ _ _=>False) e s'->False) :
  W.WalkO q loose XP YP l.row.toRowW d [] (fun f vs=>PySem.call f vs):=by
 refine Att.attach_call hn hdf fun w s₀ s₁ mg mb fa o pm cd doc a vs ns G Y ho hd hcd hmg hobj hints hlen hg=>?_;have KX:=hY w _ Y;obtain⟨fd,hb,hF⟩:=F w mg fa _ KX G.T.g hmg;exact z17 KX G.T.g G.T.b G.T.builtins G.T.nolimit hg hobj hints (Nat.le_trans hlen hn2) hr hF hb (fun H hO hS=>hsp w H a ns hlen hO hS) fun H e s'=>hCX w H s₁ e s'
def zcb(s:Stmt)(j:Nat):Stmt:=match s with
 |.ClassDef _ _ _ body _ _ _ _ _ _ _=>body.getD j (.Pass ⟨0,0,0,0⟩)
 |_=>.Pass ⟨0,0,0,0⟩
def zc9(s:Stmt):Arguments:=match s with
 |.FunctionDef _ a _ _ _ _ _ _ _ _=>a
 |_=>{ posonlyargs:=[],args:=[],vararg:=none,kwonlyargs:=[],kw_defaults:=[],kwarg:=none,defaults:=[] }
def zcc(s:Stmt):List Stmt:=match s with
 |.FunctionDef _ _ b _ _ _ _ _ _ _=>b
 |_=>[]
def zag(s:Stmt):Scope:=match s with
 |.FunctionDef _ _ _ _ _ _ sc _ _ _=>sc
 |_=>{ kind:=.function,names:=[],isGenerator:=false,isCoroutine:=false }
abbrev CX0:CXT:=fun _ _ _ _ _ _=>False
abbrev E0:XK:=fun _ _ _=>False
structure Fun(K:W.Frag)(x qual:Str)(st:Stmt)(f:Addr)(fd:FuncData):Prop where
 ex:∃(oc:Value) (od:Option Addr) (kV doc pm:Value) (an:Option Addr) (cdv ct:Value) (osl:Array (Option Value)),
  fd=W.fnOf x qual (zc9 st) (zcc st) (zag st) .none kV doc pm an cdv ct/\K.lookup f=some ⟨oc,od,.func fd,osl⟩/\W.codeIn K cdv qual=true
 kp:W.keepIn K (.ref f)=true
section
variable {P:Program}{w:World}{K:W.Frag}{mg:Str->Option Value}{base:Heap}
theorem Fun.binds{x qual:Str}{st:Stmt}{f:Addr}{fd:FuncData}{ps:List Str}(F:Fun K x qual st f fd)
  (h:∀(kV doc pm:Value) (an:Option Addr) (cdv ct:Value) (us:List Value),us.length=ps.length->bindArgs (W.fnOf x qual (zc9 st) (zcc st) (zag st) .none kV doc pm an cdv ct) ⟨us,[]⟩=pure (ps.zip us)):ze5 K fd ps []:=by
 obtain⟨oc,od,kV,doc,pm,an,cdv,ct,osl,rfl,lk,hcd⟩:=F.ex;exact .all (h kV doc pm an cdv ct)
theorem zu5{x qual:Str}{st:Stmt}{f:Addr}{oc:Value}{od an:Option Addr}{osl:Array (Option Value)}{kV doc pm cdv ct:Value}(l:K.lookup f=some ⟨oc,od,.func (W.fnOf x qual (zc9 st) (zcc st) (zag st) .none kV doc pm an cdv ct),osl⟩)
 (c:W.codeIn K cdv qual=true) (k:W.keepIn K (.ref f)=true):Fun K x qual st f (W.fnOf x qual (zc9 st) (zcc st) (zag st) .none kV doc pm an cdv ct):=⟨⟨oc,od,kV,doc,pm,an,cdv,ct,osl,rfl,l,c⟩,k⟩
end
theorem Zbu{A:Around}{k:Nat}(hr:Room k A):A.units+1<cLine:=Nat.lt_of_le_of_lt (Nat.add_le_add_left (by decide:1<=64) _) hr.units
theorem zq6{n:Nat}(h:n<=1000):n<sizeLine:=Nat.lt_of_le_of_lt h (by decide)
section
variable {X:Cx}
theorem pv(i:Nat){x:Str}{pos:Pos}(hN:X.N[i]?=some x:=by rfl)(hv:Vis X.env.scope x:=by first | exact Or.inl rfl | exact Or.inr (Or.inl rfl) | exact Or.inr (Or.inr rfl))(hd:(x==("__debug__" : Str))=false:=by decide)
 (hcd:(x==("__classdict__" : Str))=false:=by decide):PE X (.Name x pos) (tVar i):=zih hN hv hd hcd
end
theorem iteF{A B:Prop}(h:B):if false=true then A else B:=by
 rw[if_neg Bool.false_ne_true];exact h
theorem iteT{A B:Prop}(h:A):if true=true then A else B:=by
 rw[if_pos rfl];exact h
section
variable {X:Cx}
theorem zyr:zju X (.builtin "len") (fun xs H Q=>∃a kvs,xs=[V.ref a]/\H a=some (.dK kvs)/\Q (.int kvs.length) H):=by
 intro pins s σ H xs us Q I r h;obtain⟨a,kvs,rfl,ha,q⟩:=h;obtain⟨u,rfl,ru⟩:=zs4 r;cases ru;exact Zbn I (.inl ha) fun t s' I'=>⟨.int kvs.length,H,I',⟨t,rfl⟩,q⟩
end
section
variable {α β:Type}
def Dk:Sem α->Prop
 |.pure _=>True
 |.raise _=>True
 |.unsupported _=>True
 |.finish _=>True
 |.rule _ k=>Dk (k ())
 |.at _ k=>Dk (k ())
 |.load _ _ k=>∀o,Dk (k o)
 |.update _ _ f k=>(∀o,(f o).dict=o.dict/\(f o).isFreed=o.isFreed)/\Dk (k ())
 |.loadIfAlive _ k=>∀o,Dk (k o)
 |.point _ k=>Dk (k ())
 |.register _ _=>True
 |.alloc _ k=>∀a,Dk (k a)
 |.fresh k=>∀t,Dk (k t)
 |.ask k=>∀x,Dk (k x)
 |.choose _ _ k=>∀x,Dk (k x)
 |.os _ _ k=>∀x,Dk (k x)
 |.handled _ k=>∀x,Dk (k x)
 |.newGen _ k=>∀x,Dk (k x)
 |.stack k=>∀x,Dk (k x)
 |.thread k=>∀x,Dk (k x)
 |_=>False
def HasD(e:Addr)(d:Option Addr)(h:Heap):Prop:=∃o,h.get? e=some o/\o.dict=d
theorem HasD.upd{e a:Addr}{d:Option Addr}{h:Heap}{f:Obj->Obj}(x:HasD e d h)(hf:∀o,(f o).dict=o.dict/\(f o).isFreed=o.isFreed):HasD e d (h.update a f):=by
 obtain⟨o,h1,h2⟩:=x;by_cases q:a=e
 ·subst q
  refine⟨f o,Heap.get?_update_self f h1 ?_,by rw[(hf o).1];exact h2⟩;rw[(hf o).2];exact(Heap.get?_some_iff.mp h1).2
 ·exact⟨o,by rw[Heap.get?_update_other _ _ q];exact h1,h2⟩
theorem Zbv{M:Model}{Γ:PySem.Ctx}{e:Addr}{d:Option Addr}:∀{t:Sem α} {Q:α->Pos->Shared->Prop} {E:Value->Pos->Shared->Prop} {p:Pos} {s:Shared},Dk t->HasD e d s.heap->Sem.wp M Γ t Q E p s ->
  Sem.wp M Γ t (fun a p s'=>Q a p s'/\HasD e d s'.heap) (fun x p s'=>E x p s'/\HasD e d s'.heap) p s:=by
 intro t
 induction t with
 |pure a=>exact fun _ hd h=>⟨h,hd⟩
 |raise a=>exact fun _ hd h=>⟨h,hd⟩
 |unsupported a=>exact fun _ hd h=>h
 |finish a=>exact fun _ hd h=>h
 |rule a k ih=>exact fun dk hd h=>ih () dk hd h
 | «at» a k ih=>exact fun dk hd h=>ih () dk hd h
 |load a b k ih=>exact fun dk hd ⟨o,h1,h2⟩=>⟨o,h1,ih o (dk o) hd h2⟩
 |update a b f k ih=>exact fun dk hd ⟨h1,h2⟩=>⟨h1,ih () dk.2 (hd.upd dk.1) h2⟩
 |loadIfAlive a k ih=>exact fun dk hd h=>ih _ (dk _) hd h
 |point a k ih=>exact fun dk hd h=>ih () dk hd h
 |register a k ih=>exact fun dk hd h=>h
 |alloc o k ih=>exact fun dk hd h=>ih _ (dk _) (by obtain⟨q,h1,h2⟩:=hd;exact⟨q,Heap.get?_push_of_some _ h1,h2⟩) h
 |fresh k ih=>exact fun dk hd h=>ih _ (dk _) hd h
 |ask k ih=>exact fun dk hd h=>ih _ (dk _) hd h
 |choose a b k ih=>exact fun dk hd ⟨h0,h⟩=>⟨h0,ih _ (dk _) hd h⟩
 |os a b k ih=>exact fun dk hd h=>ih _ (dk _) hd h
 |call c h a b k ih=>exact fun dk=>dk.elim
 |handled a k ih=>exact fun dk hd h=>ih _ (dk _) hd h
 |genState g k ih=>exact fun dk=>dk.elim
 |newGen c k ih=>exact fun dk hd h=>ih _ (dk _) hd h
 |resume g r a k ih=>exact fun dk=>dk.elim
 |yield=>exact fun dk=>dk.elim
 |stack k ih=>exact fun dk hd h=>ih _ (dk _) hd h
 |await=>exact fun dk=>dk.elim
 |fork=>exact fun dk=>dk.elim
 |thread k ih=>exact fun dk hd h=>ih _ (dk _) hd h
theorem zoh{M:Model}{A:Around}{e:Addr}{d:Option Addr}{t:Sem α}{Q:α->Shared->Prop}{E:Value->Shared->Prop}{s:Shared}(dk:Dk t)(hd:HasD e d s.heap)(h:wpAny M A t Q E s) :
 wpAny M A t (fun a s'=>Q a s'/\HasD e d s'.heap) (fun x s'=>E x s'/\HasD e d s'.heap) s:=fun Γ p hi=>Zbv dk hd (h Γ p hi)
theorem Dk.bind{m:Sem α}{f:α->Sem β}(h:Dk m)(hf:∀a,Dk (f a)):Dk (m >>= f):=by
 revert h
 show Dk m->Dk (Sem.bind m f)
 induction m with
 |pure a=>exact fun _=>hf a
 |raise a=>exact fun _=>trivial
 |unsupported a=>exact fun _=>trivial
 |finish a=>exact fun _=>trivial
 |rule a k ih=>exact fun dk=>ih () dk
 | «at» a k ih=>exact fun dk=>ih () dk
 |load a b k ih=>exact fun dk o=>ih o (dk o)
 |update a b f k ih=>exact fun dk=>⟨dk.1,ih () dk.2⟩
 |loadIfAlive a k ih=>exact fun dk o=>ih o (dk o)
 |point a k ih=>exact fun dk=>ih () dk
 |register a k ih=>exact fun dk=>trivial
 |alloc o k ih=>exact fun dk o=>ih o (dk o)
 |fresh k ih=>exact fun dk o=>ih o (dk o)
 |ask k ih=>exact fun dk o=>ih o (dk o)
 |choose a b k ih=>exact fun dk o=>ih o (dk o)
 |os a b k ih=>exact fun dk o=>ih o (dk o)
 |call c h a b k ih=>exact fun dk=>dk.elim
 |handled a k ih=>exact fun dk o=>ih o (dk o)
 |genState g k ih=>exact fun dk=>dk.elim
 |newGen c k ih=>exact fun dk o=>ih o (dk o)
 |resume g r a k ih=>exact fun dk=>dk.elim
 |yield=>exact fun dk=>dk.elim
 |stack k ih=>exact fun dk o=>ih o (dk o)
 |await=>exact fun dk=>dk.elim
 |fork=>exact fun dk=>dk.elim
 |thread k ih=>exact fun dk o=>ih o (dk o)
end
theorem zys{α:Type}{a:α}:Dk (pure a:Sem α):=trivial
theorem ztb{a:Addr}:Dk (load a):=fun _=>trivial
theorem z35{a:Addr}{f:Obj->Obj}(h:∀o,(f o).dict=o.dict/\(f o).isFreed=o.isFreed):Dk (update a f):=⟨h,trivial⟩
theorem zn1{f:Array Value->Array Value}(o:Obj):(Obj.mapFields f o).dict=o.dict/\(Obj.mapFields f o).isFreed=o.isFreed:=by
 obtain⟨c,d,x,sl⟩:=o;cases x<;>exact⟨rfl,rfl⟩
theorem zjy{v u:Value}{i:Nat}:Dk (setField v i u):=by
 unfold setField
 split
 ·unfold updateField
  refine ztb.bind fun o=>?_
  split
  ·split
   ·exact z35 fun o=>zn1 o
   ·trivial
  ·trivial
 ·trivial
theorem zmj{v:Value}{i:Nat}:Dk (field v i):=by
 unfold field fieldsOf;refine Dk.bind ?_ fun x=>?_
 ·split
  ·refine ztb.bind fun o=>?_
   split<;>trivial
  ·trivial
 ·split<;>trivial
theorem zmz{v:Value}{f:Option Addr}:Dk (setFlight v f):=by
 unfold setFlight;refine zmj.bind fun tb=>?_
 split
 ·exact zjy
 ·trivial
theorem zpc:Dk stack:=fun _=>trivial
theorem zyt{env:Env}{l:List Env}:Dk (behindIsImport env l):=by
 unfold behindIsImport
 split
 ·trivial
 ·split
  ·trivial
  ·exact zmj.bind fun _=>trivial
theorem ztc{env:Env}{b:Bool}{l:List Env}:Dk (keptBack env b l):=by
 unfold keptBack
 split
 ·split
  ·trivial
  ·unfold underTheClaimsCaller
   refine Dk.bind (m:=stack >>= fun _=>pure _) (zpc.bind fun _=>zys) fun _=>zys
 ·trivial
theorem zu6:∀l:List Env,Dk (readyFrames l)
 |[]=>trivial
 | env::outer=>by
   unfold readyFrames
   split
   ·refine ztb.bind fun o=>?_
    split
    ·trivial
    ·exact zyt.bind fun b=>ztc.bind fun v=>Dk.bind (z35 (by intro o;obtain⟨c,d,x,sl⟩:=o;cases x<;>exact⟨rfl,rfl⟩)) fun _=>zu6 outer
   ·trivial
theorem zw1{env:Env}:Dk (PySem.frameOf env):=by
 unfold PySem.frameOf;refine Dk.bind ?_ fun l=>Dk.bind ?_ fun x=>?_
 ·unfold frameEnvs
  exact zpc.bind fun _=>trivial
 ·unfold frameObject
  split
  ·trivial
  ·exact(zu6 _).bind fun _=>trivial
 ·split<;>trivial
theorem z18{f:Addr}{b:Bool}:Dk (entryPlaceOf f b):=by
 unfold entryPlaceOf;refine zpc.bind fun l=>?_
 split<;>trivial
theorem zq7{x:String}{vs:List Value}:Dk (newFields x vs):=by
 unfold newFields newObj newObjAsIs;dsimp only
 split
 ·trivial
 ·exact fun a=>trivial
theorem zyu{v:Value}{env:Env}:Dk (noteFrame v env):=by
 unfold noteFrame
 split
 ·refine zmj.bind fun hd=>?_
  have fin:∀f:Addr,Dk (do setField v 1 (<- EntryCells.newEntry hd (<- PySem.frameOf env) .none (rawInt f) .none (<- entryPlaceOf f (hd != .none)))):=fun f=>
   zw1.bind fun a=>z18.bind fun b=>Dk.bind (by unfold EntryCells.newEntry;exact zq7) fun _=>zjy
  split
  ·refine zmj.bind fun _=>?_
   split
   ·trivial
   ·exact zjy.bind fun _=>fin _
  ·exact fin _
 ·trivial
theorem zk0{v:Value}{env:Env}:Dk (leaving env v):=by
 unfold leaving;exact zyu.bind fun _=>zmz
def CXE(P:Program)(w:World):CXT:=fun outer H s E e s'=>
 ∃ (ea:Addr) (cls a0:Value) (B:Heap) (H':Hp) (dx:Option Addr),e=.ref ea/\s'.os=s.os/\AllBare s'.gens /\
   Heap.FlyingW B outer ea cls a0 s'.heap/\HOk P w H' B /\
   (∀b o,s.heap.get? b=some o->H b=none->b∉frs outer->B.get? b=some o) /\
   (∀b o,s.heap.get? b=some o->H b=none->b∈frs outer->∃sl,s'.heap.get? b=some { o with slots:=sl }) /\
   (∀b o,s.heap.get? b=some o->H b=none->H' b=none) /\
   (∀b o,s.heap.get? b=some o->b∉frs outer->∃o',B.get? b=some o') /\
   (∀b xs,H b=some (.tup xs)->H' b=some (.tup xs))/\(∀b o u,H b=some (.frz o u)->H' b=some (.frz o u)) /\
   (∀b ps,H b=some (.tbl ps)->∃more,H' b=some (.tbl (ps++more)))/\HasD ea dx s'.heap/\E cls dx H'
theorem HOk.hide{P:Program}{w:World}{H:Hp}{h:Heap}{l:List Addr}(ok:HOk P w H h)(hl:∀b∈l,H b=none):HOk P w H (W.hideAll h l):=fun a o e=>
 (ok a o e).stay (fun b u hb q=>W.hideAll_get _ q fun m=>by
  rcases hb with z | z
  ·rw[z] at m;rw[hl a m] at e;cases e
  ·rw[hl b m] at z;cases z) (fun _ q=>q) fun _ _ q=>q
def zpd(X:Cx)(E:XK):Prop:=∀(pins:List (Addr×Obj)) (σ:St) (H:Hp) (s:Shared) (ea C:Addr) (vs:List Value) (h':Heap),Inv X pins σ H s ->
 Heap.MadeExcOf s.heap h' ea (.ref C) vs->E (.ref C) none H->X.xe (.ref ea) { s with heap:=h' }
section
variable {P:Program}{w:World}{K:W.Frag}{mg:Str->Option Value}{base:Heap}{N:List Str}{qual:Str}{scope:Scope}{f:Addr}{cd:Value}{A:Around}{outer:List Env}{s₀:Shared}{H₀:Hp}{E:XK}
theorem zft:zpd (cxOf (CXE P w) P w K mg base N qual scope f cd A outer s₀ H₀ E) E:=by
 intro pins σ H s ea C vs h' I hm hE;let X:=cxOf (CXE P w) P w K mg base N qual scope f cd A outer s₀ H₀ E;have hst:X.stack=X.env::outer:=rfl;have hfrl:∀b,b∈frs X.stack↔b=X.env.locals\/b∈frs outer:=fun b=>by
  show b∈X.env.locals::frs outer↔_;exact List.mem_cons
 have hF:s.heap.FunFrames (W.hideAll s.heap (frs X.stack)) X.stack:=W.funFrames_hide I.stack fun env he a ha=>List.mem_filterMap.mpr ⟨env,he,ha⟩;show wpAny (model P w) X.A (leaving X.env (.ref ea)) _ _ _;have hd0:HasD ea none h':=by obtain⟨t,he,_⟩:=hm.there;exact⟨_,he,rfl⟩
 refine wpAny_mono (zoh (e:=ea) (d:=none) (s:={ s with heap:=h' }) zk0 hd0 (wpAny_leaves_madeW (Q:=fun _ s2=>∃h1 t,s2={ s with heap:=h1 }/\Heap.FlyingW (W.hideAll s.heap (frs X.stack)) outer ea (.ref C) (.ref t) h1/\Heap.UpToSlots h' h1)
  (s:={ s with heap:=h' }) (base:=W.hideAll s.heap (frs X.stack)) (h:=s.heap) (env:=X.env) (outer:=outer) (L:=X.env.locals) I.ok.frames rfl (fun b o q=>W.of_hideAll _ q) hF hm fun h1 t x1 x2 x3 x4=>⟨h1,t,rfl,x1,x4⟩)) (fun _ s2 z=>?_) fun _ _ z=>z.1
 obtain⟨⟨h1,t,rfl,x1,x4⟩,hd1⟩:=z;have up:∀b o,s.heap.get? b=some o->b∈frs X.stack->∃sl,h1.get? b=some { o with slots:=sl }:=fun b o e hb=>by
  obtain⟨o',e',nd⟩:=(I.stack.mem hb).2;rw[e] at e';cases e';exact x4 b o (hm.keeps b o e) nd
 refine⟨ea,.ref C,.ref t,_,H,none,rfl,I.os,I.bare,x1,I.hok.hide I.stkFree,fun b o e n hb=>?_,fun b o e n hb=>?_,fun b o e n=>I.base.free b o e n (by simp[cxOf]),fun b o e hb=>?_,I.base.tups,I.base.frzs,I.base.tbls,hd1,hE⟩
 ·have hL:b≠X.env.locals:=Nat.ne_of_lt (Nat.lt_of_lt_of_le (Heap.lt_size e) I.ok.above)
  refine W.hideAll_get _ (I.base.keep b o e n hb (by simp[cxOf])) fun m=>?_;rcases(hfrl b).mp m with z | z
  ·exact hL z
  ·exact hb z
 ·obtain⟨sl,e1⟩:=I.base.slot b o e n hb (by simp[cxOf])
  obtain⟨sl',e2⟩:=up b _ e1 ((hfrl b).mpr (.inr hb));exact⟨sl',e2⟩
 ·have hL:b≠X.env.locals:=Nat.ne_of_lt (Nat.lt_of_lt_of_le (Heap.lt_size e) I.ok.above)
  obtain⟨o',e1⟩:=I.base.there b o e (by simp[cxOf]);refine⟨o',W.hideAll_get _ e1 fun m=>?_⟩;rcases(hfrl b).mp m with z | z
  ·exact hL z
  ·exact hb z
theorem zak:zdq (CXE P w) (cxOf (CXE P w) P w K mg base N qual scope f cd A outer s₀ H₀ E) E:=by
 intro pins σ H s e s' I h;obtain⟨ea,cls,a0,B,H',dx,rfl,ho,hb,fly,hok,keep,slot,free,there,tups,frzs,tbls,hd,hE⟩:=h;let X:=cxOf (CXE P w) P w K mg base N qual scope f cd A outer s₀ H₀ E;have hfrl:∀b,b∈frs X.stack↔b=X.env.locals\/b∈frs outer:=fun b=>by
  show b∈X.env.locals::frs outer↔_;exact List.mem_cons
 show wpAny (model P w) X.A (leaving X.env (.ref ea)) _ _ _;refine wpAny_mono (zoh zk0 hd (wpAny_leaves_onW (Q:=fun _ s2=>∃h1,s2={ s' with heap:=h1 }/\Heap.FlyingW B outer ea cls a0 h1/\Heap.UpToSlots s'.heap h1) (base:=B) (env:=X.env) (outer:=outer) (L:=X.env.locals) I.ok.frames rfl fly fun h1 x1 x4=>⟨h1,rfl,x1,x4⟩)) (fun _ s2 z=>?_) fun _ _ z=>z.1;obtain⟨⟨h1,rfl,x1,x4⟩,hd1⟩:=z;have ndata:∀b,b∈frs X.stack->∀o,s'.heap.get? b=some o->∃sl,h1.get? b=some { o with slots:=sl }:=fun b hb o e=>by
  obtain⟨o',e',nd⟩:=(fly.2.2.1.mem hb).2;rw[e] at e';cases e';exact x4 b o e nd
 refine⟨ea,cls,a0,B,H',dx,rfl,ho.trans I.os,hb,x1,hok,fun b o e n hb=>?_,fun b o e n hb=>?_,fun b o e n=>?_,fun b o e hb=>?_,fun b xs q=>tups b xs (I.base.tups b xs q),fun b o u q=>frzs b o u (I.base.frzs b o u q),fun b ps q=>?_,hd1,hE⟩
 ·have hL:b≠X.env.locals:=Nat.ne_of_lt (Nat.lt_of_lt_of_le (Heap.lt_size e) I.ok.above)
  refine keep b o (I.base.keep b o e n hb (by simp[cxOf])) (I.base.free b o e n (by simp[cxOf])) fun m=>?_;rcases(hfrl b).mp m with z | z
  ·exact hL z
  ·exact hb z
 ·obtain⟨sl,e1⟩:=I.base.slot b o e n hb (by simp[cxOf])
  obtain⟨sl',e2⟩:=slot b _ e1 (I.base.free b o e n (by simp[cxOf])) ((hfrl b).mpr (.inr hb));obtain⟨sl2,e3⟩:=ndata b ((hfrl b).mpr (.inr hb)) _ e2;exact⟨sl2,e3⟩
 ·obtain⟨o',e1⟩:=I.base.there b o e (by simp[cxOf])
  exact free b o' e1 (I.base.free b o e n (by simp[cxOf]))
 ·have hL:b≠X.env.locals:=Nat.ne_of_lt (Nat.lt_of_lt_of_le (Heap.lt_size e) I.ok.above)
  obtain⟨o',e1⟩:=I.base.there b o e (by simp[cxOf]);refine there b o' e1 fun m=>?_;rcases(hfrl b).mp m with z | z
  ·exact hL z
  ·exact hb z
 ·obtain⟨m1,q1⟩:=I.base.tbls b ps q
  obtain⟨m2,q2⟩:=tbls b _ q1;exact⟨m1++m2,by rw[q2,Array.append_assoc]⟩
end
abbrev bmVE:List Value:=[.type "ValueError",.type "Exception",.type "BaseException",.type "object"]
noncomputable def zd2(K:W.Frag)(C:Addr):Option (List Value):=match K.lookup C with
 | some ⟨.type "type",_,.cls cd,sl⟩=>(match cd.mro,sl.toList with
   |.ref C'::bm,[_,_,_,_,some (.builtin _),_]=>bif (C'==C)&&!cd.hasDel&&bm.contains (.type "BaseException") then some bm else none
   |_,_=>none)
 |_=>none
theorem z36{K:W.Frag}{h:Heap}{C:Addr}{bm:List Value}(X:K.In h)(q:zd2 K C=some bm) :
  bm.contains (.type "BaseException")=true/\∃nm qn N bs hdct sn sub ab col dd k0 k1 k2 k3 k5 newId,h.get? C=some (excClassObj nm qn C N bs bm hdct sn sub ab col dd k0 k1 k2 k3 k5 newId):=by
 unfold zd2 at q
 split at q
 ·rename_i dct cdt slt look
  split at q
  ·rename_i C2 bm2 j0 j1 j2 j3 nid j5 em es
   cases c:((C2==C)&&!cdt.hasDel&&bm2.contains (.type "BaseException")) with
   |false=>rw[c] at q;cases q
   | true=>
     rw[c] at q;have e2:bm2=bm:=Option.some.inj q;simp only[Bool.and_eq_true,beq_iff_eq,Bool.not_eq_true'] at c;obtain⟨⟨c1,c2⟩,c3⟩:=c;subst c1 e2;refine⟨c3,?_⟩;have ob:=X _ _ look;obtain⟨a1,a2,a3,a4,a5,a6,a7,a8,a9,b1,b2⟩:=cdt;have em:a3=.ref C2::bm2:=em;have c2:b2=false:=c2;have hsl:slt=#[j0,j1,j2,j3,some (.builtin nid),j5]:=by
      obtain⟨l⟩:=slt;exact congrArg Array.mk es
     rw[em,c2,hsl] at ob;exact⟨_,_,_,_,_,_,_,_,_,_,_,_,_,_,_,_,ob⟩
  ·cases q
 ·cases q
theorem z19{K:W.Frag}{h:Heap}{C:Addr}{bmB:List Value}{newId:String}(X:K.In h)(q:W.excIn K C bmB newId=true) :
  ∃bm N nm qn bs hdct sn sub ab col dd k0 k1 k2 k3 k5 mN,h.get? C=some (excClassObj nm qn C N bs bm hdct sn sub ab col dd k0 k1 k2 k3 k5 newId)/\h.Ns N mN/\mN "__init__" = none/\OwnTail h bmB bm:=by
 unfold W.excIn at q
 split at q
 ·rename_i dct cdt slt look
  split at q
  ·rename_i C2 bm2 j0 j1 j2 j3 nid j5 em es
   simp only[Bool.and_eq_true,beq_iff_eq,Bool.not_eq_true'] at q;obtain⟨⟨⟨⟨⟨c1,c2⟩,c3⟩,tl⟩,okN⟩,noI⟩:=q;subst c1 c2;have ob:=X _ _ look;obtain⟨a1,a2,a3,a4,a5,a6,a7,a8,a9,b1,b2⟩:=cdt;have em:a3=.ref C2::bm2:=em;have c3:b2=false:=c3;have hsl:slt=#[j0,j1,j2,j3,some (.builtin nid),j5]:=by
    obtain⟨l⟩:=slt;exact congrArg Array.mk es
   rw[em,c3,hsl] at ob;exact⟨_,_,_,_,_,_,_,_,_,_,_,_,_,_,_,_,_,ob,.of_isNs (W.isNs_of_in X okN),W.nsMap_none_of_in X okN noI,W.tail_of_in X tl⟩
  ·cases q
 ·cases q
theorem zjm{M:Model}{A:Around}{E:Value->Shared->Prop}{K:W.Frag}{s:Shared}{e C D:Addr}{oe:Obj}{bmC bmD:List Value}{Q:Bool->Shared->Prop}(X:K.In s.heap)(qC:zd2 K C=some bmC)(qD:zd2 K D=some bmD)
  (he:s.heap.get? e=some oe) (hcls:oe.cls=.ref C) (hq:Q ((Value.ref C::bmC).contains (.ref D)) s):wpAny M A (excMatches (.ref e) (.ref D)) Q E s:=by
 obtain⟨h,g,d,t,os⟩:=s;obtain⟨bC,_,_,_,_,_,_,_,_,_,_,_,_,_,_,_,_,hC⟩:=z36 X qC;obtain⟨bD,_,_,_,_,_,_,_,_,_,_,_,_,_,_,_,_,hD⟩:=z36 X qD;have hDB:(Value.ref D::bmD).contains (.type "BaseException")=true:=by rw[List.contains_cons,bD,Bool.or_true]
 have f:=tc_notTuple;unfold excMatches;generalize hv:(Value.ref C::bmC).contains (.ref D)=v at hq
 repeat (first | (with_reducible refine wpAny_loadPart_at he ?_;rw[hcls]) | with_reducible refine wpAny_loadPart_at hD ?_ | (with_reducible refine wpAny_isSubtype_exc hD ?_;rw[hDB]) | (with_reducible refine wpAny_isSubtype_exc hC ?_;rw[hv]) | wp_step)
 cases v<;>(wp_walk;exact hq)
section
variable {X:Cx}
def z8x(C:Addr)(E:XK)(t:TA):TS:=fun _ σ H=>t σ H fun vs H1=>vs.length<=sizeLine/\E (.ref C) none H1
theorem z2a{C:Addr}{E:XK}{x:Str}{np cpos pos:Pos}{e:Expr}{es:List Expr}{t:TA}(hx:zpd X E)(hc:X.calm=true)(q:W.excIn X.K C bmVE "ValueError.__new__" = true)(hg:Gl X x)(hm:X.mg x=some (.ref C))(ha:PA X (e::es) t)
  (hdb:(x==("__debug__" : Str))=false:=by decide) (he:starEach (e::es) X.env=(false,eval e X.env)::starEach es X.env:=by rfl) (hpl:(backTo cpos (starEach es X.env)).any (·.1)=false:=by rfl) :
  PS X (.Raise (some (.Call (.Name x np) (e::es) [] cpos)) none pos) (z8x C E t):=by
 intro pins s σ H D I h;obtain⟨bm,N,nm,qn,bs,hdct,sn,sub,ab,col,dd,k0,k1,k2,k3,k5,mN,hC,hN,hni,T⟩:=z19 I.ok.mod.kin q;refine wpAny_Raise_call_subT (C:=C) (nm:=nm) (q:=qn) (N:=N) (bs:=bs) (bm:=bm) (hdct:=hdct) (sn:=sn) (sub:=sub) (ab:=ab) (col:=col) (dd:=dd) (k0:=k0) (k1:=k1) (k2:=k2) (k3:=k3) (k5:=k5)
  PySem.F.excBase_ValueError (mN:=mN) (T.hasType PySem.F.excBase_ValueError.hasBase) (I.ok.hd hc) (by rw[he];show(false || (backTo cpos (starEach es X.env)).any (·.1))=false;rw[hpl];rfl) hni (zhe I hg hm ⟨rfl,?_⟩ hdb)
 have a:=ha cpos pins s σ H _ I h;rw[he] at a ⊢;exact Calls.evalArgs_plain (thn a fun us s2 ⟨vs,H2,I2,r,l,z⟩=>⟨rfl,by show us.length<=sizeLine;rw[<- r.length];exact l,I2.bk _ _ hC,hN.keeps I2.bk,T.keeps I2.bk,fun h' ea mk=>hx pins σ H2 s2 ea C us h' I2 mk z⟩)
abbrev Cx.tryIn(X:Cx)(pn:List (Addr×Obj))(kn:St)(xe:Value->Shared->Prop):Cx:={ X with pn:=pn,kn:=kn,xe:=xe }
abbrev Cx.inExc(X:Cx)(ea:Addr):Cx:={ X with A:=X.A.mark (some (.ref ea)),calm:=false,xe:=fun _ _=>False }
theorem Cx.Ok.tryIn(ok:X.Ok)(pn:List (Addr×Obj))(kn:St)(xe:Value->Shared->Prop):(X.tryIn pn kn xe).Ok:=
 ⟨ok.mod,ok.kind,ok.glob,ok.blt,ok.above,ok.inj,ok.has,ok.cab,ok.hd,ok.frames,ok.stk,ok.exf,ok.bs,ok.bsz,ok.noex,ok.exfs,ok.funs,ok.frf⟩
theorem Cx.Ok.inExc(ok:X.Ok)(ea:Addr):(X.inExc ea).Ok:=
 ⟨ok.mod,ok.kind,ok.glob,ok.blt,ok.above,ok.inj,ok.has,ok.cab,(fun h=>nomatch h),ok.frames,ok.stk,ok.exf,ok.bs,ok.bsz,ok.noex,ok.exfs,ok.funs,ok.frf⟩
theorem Inv.inExc{pins:List (Addr×Obj)}{σ:St}{H:Hp}{s:Shared}(I:Inv X pins σ H s)(ea:Addr):Inv (X.inExc ea) pins σ H s:=
 ⟨I.ok.inExc ea,I.os,I.bare,I.base,I.loc,I.cell,I.free,I.freeC,I.pin,I.hok,I.len,I.kn⟩
theorem Inv.outExc{pins:List (Addr×Obj)}{σ:St}{H:Hp}{s:Shared}{ea:Addr}(ok:X.Ok)(I:Inv (X.inExc ea) pins σ H s):Inv X pins σ H s:=
 ⟨ok,I.os,I.bare,I.base,I.loc,I.cell,I.free,I.freeC,I.pin,I.hok,I.len,I.kn⟩
theorem zc8.there{P:Program}{w:World}{H:Hp}{h:Heap}{a:Addr}{o:HO}(x:zc8 P w H h a o):∃u,h.get? a=some u:=by
 cases o with
 |lst xs=>obtain⟨_,_,_,_,e⟩:=x;exact⟨_,e⟩
 |tup xs=>obtain⟨_,_,_,ob,e,_⟩:=x;exact⟨_,e⟩
 |dK kvs=>obtain⟨_,_,_,_,o,_,_,e,_⟩:=x;exact⟨_,e⟩
 |dT kvs=>obtain⟨_,_,_,_,o,_,_,e,_⟩:=x;exact⟨_,e⟩
 |set S n=>obtain⟨o,_,_,_,e,_⟩:=x;exact⟨_,e⟩
 |ins C dx fs=>obtain⟨_,_,_,e,_⟩:=x;exact⟨_,e⟩
 |own y=>exact x
 |xd fs=>obtain⟨_,⟨_,_,_,e,_⟩,_⟩:=x;exact⟨_,e⟩
 |rng lo hi=>obtain⟨_,_,_,e⟩:=x;exact⟨_,e⟩
 |frz ob u=>obtain⟨e,_⟩:=x;exact⟨_,e⟩
 |tbl ps=>exact⟨_,(show h.get? a=some _ from x)⟩
 |met f y=>exact⟨_,(show h.get? a=some _ from x)⟩
 |ext φ=>exact x.2.1
abbrev THd:=Value->Option Addr->Addr->Ends->St->Hp->Prop
def PH(X:Cx)(hs:List ExceptHandler)(t:THd):Prop:=
 ∀ (pins:List (Addr×Obj)) (s:Shared) (σ:St) (H:Hp) (D:Ends) (ea:Addr) (cls a0:Value) (dx:Option Addr) (B:Heap),X.Ok->(∀h',B.StaysIn h'->s.heap.UpToSlots h'->Inv X pins σ H { s with heap:=h' }) ->
   (∀h' φ,B.StaysIn h'->s.heap.UpToSlots h'->zc8 X.prog X.w H h' ea (.ext φ)->Inv X pins σ (upd H ea (.ext φ)) { s with heap:=h' })->Heap.FlyingW B X.stack ea cls a0 s.heap->(HasD ea dx s.heap/\H ea=none)->t cls dx ea D σ H->wpAny (model X.prog X.w) X.A (handleBy (.ref ea) X.env hs) (SP X pins D) X.xe s
def hOwn(K:W.Frag)(D:Addr)(ts:TS)(tr:THd):THd:=fun cls dx ea En σ H=>∃C bmC,cls=.ref C/\zd2 K C=some bmC /\
 if(Value.ref C::bmC).contains (.ref D)=true then ts En σ H else tr cls dx ea En σ H
theorem z8y{D:Addr}{bmD:List Value}{x:Str}{np pos:Pos}{b₀:Stmt}{suite:List Stmt}{rest:List ExceptHandler}{ts:TS}{tr:THd}(hg:Gl X x)(hm:X.mg x=some (.ref D))(qD:zd2 X.K D=some bmD)
  (hs:∀ea,PSs (X.inExc ea) (b₀::suite) ts) (hr:PH X rest tr) (hdb:(x==("__debug__" : Str))=false:=by decide) :
  PH X (.ExceptHandler (some (.Name x np)) none (b₀::suite) pos::rest) (hOwn X.K D ts tr):=by
 intro pins s σ H En ea cls a0 dx B ok car car2 fly hd h;obtain⟨C,bmC,rfl,qC,h⟩:=h;have I:Inv X pins σ H s:=car s.heap fly.1 (.refl _);have I':=I.inExc ea;obtain⟨oe,hoe,hoc⟩:=fly.there;refine wpAny_handleBy_cons (codeAny_handlers_test ?_) (by intro q;cases q);refine zhe (X:=X.inExc ea) I' hg hm ?_ hdb;refine zjm I.kIn qC qD hoe hoc ?_;cases c:(Value.ref C::bmC).contains (.ref D) with
 | false=>
   rw[c] at h;exact hr pins s σ H En ea _ a0 dx B ok car car2 fly hd (by simpa using h)
 | true=>
   rw[c] at h;have h:ts En σ H:=by simpa using h
   refine codeAny_handlers_suite (lands_againW fly fun h6 fly6 sm6=>?_);refine wpAny_mono (hs ea pins { s with heap:=h6 } σ H En ((car h6 fly6.1 sm6).inExc ea) h) (fun f s2 q=>?_) fun _ _ z=>z.elim;cases f with
   |next=>obtain⟨a,b,c,d⟩:=q;exact⟨a,b,c.outExc ok,d⟩
   |brk=>obtain⟨a,b,c,d⟩:=q;exact⟨a,b,c.outExc ok,d⟩
   |cont=>obtain⟨a,b,c,d⟩:=q;exact⟨a,b,c.outExc ok,d⟩
   |ret u=>obtain⟨v,a,b,c,d⟩:=q;exact⟨v,a,b,c.outExc ok,d⟩
def tTry(X:Cx)(body:List Stmt)(th:THd):TS:=fun D σ H=>∃(kn:St) (R:XK) (tb:TS),kn.length=σ.length/\(∀(i:Nat) (v:V),kn[i]?=some (some v)->σ[i]?=some (some v)) /\
 (∀(i:Nat) (v:V),X.kn[i]?=some (some v)->kn[i]?=some (some v)) /\
 (∀(pn:List (Addr×Obj)) (xe:Value->Shared->Prop),zdq (CXE X.prog X.w) (X.tryIn pn kn xe) R->PassesOwn (model X.prog X.w) X.A X.env xe->PSs (X.tryIn pn kn xe) body tb) /\
 tb D σ H/\∀cls dx ea H',R cls dx H'->th cls dx ea D kn H'
theorem z8z{body:List Stmt}{h₀:ExceptHandler}{hs:List ExceptHandler}{th:THd}{pos:Pos}(hph:PH X (h₀::hs) th)(hst:X.stack=X.env::X.outer:=by rfl)(hfr:X.env.frame=some X.env.locals:=by rfl) :
  PS X (.Try body (h₀::hs) [] [] pos) (tTry X body th):=by
 intro pins s σ H D I h;obtain⟨kn,R,tb,hl,hk,hk2,hb,h,hth⟩:=h;refine wpAny_Try_except ?_;have own:=PassesOwn.looking (M:=model X.prog X.w) (A:=X.A) (env:=X.env) (E₁:=X.xe) (K:=fun e s₂=>wpAny (model X.prog X.w) X.A (setFlight e none) (fun _ s₃=>wpAny (model X.prog X.w) X.A (handleBy e X.env (h₀::hs)) (SP X pins D) X.xe s₃) X.xe s₂);have back:∀{pn:List (Addr×Obj)} {xe:Value->Shared->Prop} {pins':List (Addr×Obj)} {σ':St} {H':Hp} {s':Shared},(∀p∈X.pn++pins,p∈pn)->Inv (X.tryIn pn kn xe) pins' σ' H' s'->Inv X pins σ' H' s':=fun {pn xe pins' σ' H' s'} hp J=>
  ⟨I.ok,J.os,J.bare,J.base,J.loc,J.cell,J.free,J.freeC,fun p z=>J.pin p (List.mem_append_left _ (hp p z)),J.hok,J.len,fun i v e=>J.kn i v (hk2 i v e)⟩
 have pas:zdq (CXE X.prog X.w) (X.tryIn (X.pn++pins) kn fun e s₁=>wpAny (model X.prog X.w) X.A (noteFrame e X.env) (fun _ s₂=>wpAny (model X.prog X.w) X.A (setFlight e none) (fun _ s₃=>wpAny (model X.prog X.w) X.A (handleBy e X.env (h₀::hs)) (SP X pins D) X.xe s₃) X.xe s₂) X.xe s₁) R:=by
  intro pins' σ' H1 s1 e s' I1 T;obtain⟨ea,cls,a0,B,H',dx,rfl,ho,hbare,fly,hok,keep,slot,free,there,tups,frzs,tbls,hd,hE⟩:=T;have I2:Inv X pins kn H1 s1:=(back (fun _ z=>z) I1).weak (by rw[hl,I.len];exact(I1.len).symm) (fun i v e=>I1.kn i v e) hk2;have slot1:∀h',s'.heap.UpToSlots h'->∀b o,s1.heap.get? b=some o->H1 b=none->b∈frs X.stack->∃sl,h'.get? b=some { o with slots:=sl }:=fun h' up b o e n hb=>by
   obtain⟨sl,e1⟩:=slot b o e n hb;obtain⟨o',e',nd⟩:=(fly.2.2.1.mem hb).2;rw[e1] at e';cases e';obtain⟨sl2,e2⟩:=up b _ e1 nd;exact⟨sl2,e2⟩
  have there1:∀h',B.StaysIn h'->s'.heap.UpToSlots h'->∀b o,s1.heap.get? b=some o->∃o',h'.get? b=some o':=fun h' st up b o e=>by
   by_cases hb:b∈frs X.stack
   ·obtain⟨sl,e2⟩:=slot1 h' up b o e (I2.stkFree b hb) hb
    exact⟨_,e2⟩
   ·obtain⟨o',e2⟩:=there b o e hb
    exact⟨o',st b o' e2⟩
  have car:∀h',B.StaysIn h'->s'.heap.UpToSlots h'->Inv X pins kn H' { s' with heap:=h' }:=fun h' st up=>
   I2.call' (s':={ s' with heap:=h' }) (ch:=[]) ho ⟨fun b o e n hb _=>st b o (keep b o e n hb),fun b o e n hb _=>slot1 h' up b o e n hb,fun b o e n _=>free b o e n,fun b o e _=>there1 h' st up b o e,tups,frzs,tbls⟩ (hok.kept fun b u z=>st b u z) hbare (fun _ z=>nomatch z)
  have inB:∀b u,H' b=some u->b≠ea:=fun b u z w=>by
   obtain⟨v,hv⟩:=(hok b u z).there;rw[w,fly.2.1] at hv;cases hv
  have car2:∀h' φ,B.StaysIn h'->s'.heap.UpToSlots h'->zc8 X.prog X.w H' h' ea (.ext φ)->Inv X pins kn (upd H' ea (.ext φ)) { s' with heap:=h' }:=fun h' φ st up new=>by
   have kp:∀b u,H' b=some u->upd H' ea (.ext φ) b=some u:=fun b u z=>by rw[zai (inB b u z)];exact z
   refine I2.call' (s':={ s' with heap:=h' }) (ch:=[]) ho ⟨fun b o e n hb _=>st b o (keep b o e n hb),fun b o e n hb _=>slot1 h' up b o e n hb,fun b o e n _=>?_,fun b o e _=>there1 h' st up b o e,
    fun b xs e=>kp b _ (tups b xs e),fun b o u e=>kp b _ (frzs b o u e),fun b ps e=>let ⟨m,q⟩:=tbls b ps e;⟨m,kp b _ q⟩⟩ (fun b u z=>?_) hbare (fun _ z=>nomatch z)
   ·rw[zai];exact free b o e n
    rintro rfl;by_cases hb:b∈frs X.stack
    ·obtain⟨oe,vs,ge,_,gd,_⟩:=fly.first
     obtain⟨o',e',nd⟩:=(fly.2.2.1.mem hb).2;rw[ge] at e';cases e';exact nd vs gd
    ·have:=keep b o e n hb
     rw[fly.2.1] at this;cases this
   ·by_cases hb:b=ea
    ·subst hb;rw[zaj] at z;cases z
     exact new
    ·rw[zai hb] at z
     exact(hok b u z).stay (fun c v _ r=>st c v r) (fun c r=>kp c _ r) fun c xs r=>kp c _ r
  have hfr2:X.A.frames=some (X.env::X.outer):=hst▸I.ok.frames;have fly1:Heap.FlyingW B (X.env::X.outer) ea cls a0 s'.heap:=hst▸fly;show wpAny (model X.prog X.w) X.A (noteFrame (.ref ea) X.env) _ _ _;refine wpAny_mono (zoh zyu hd (wpAny_looks_onW (Q:=fun _ s2=>∃h4,s2={ s' with heap:=h4 }/\Heap.HeldW B (X.env::X.outer) ea cls a0 X.env.locals h4/\Heap.UpToSlots s'.heap h4) hfr2 hfr fly1 fun h4 held4 sm4=>⟨h4,rfl,held4,sm4⟩)) (fun _ s2 z=>?_) fun _ _ z=>z.1;obtain⟨⟨h4,rfl,held4,sm4⟩,hd4⟩:=z;refine wpAny_mono (zoh zmz hd4 (wpAny_landsW (Q:=fun _ s2=>∃h5,s2={ s' with heap:=h5 }/\Heap.FlyingW B (X.env::X.outer) ea cls a0 h5/\Heap.UpToSlots h4 h5) held4 fun h5 fly5 sm5=>⟨h5,rfl,fly5,sm5⟩)) (fun _ s2 z=>?_) fun _ _ z=>z.1;obtain⟨⟨h5,rfl,fly5,sm5⟩,hd5⟩:=z;exact hph pins { s' with heap:=h5 } kn H' D ea cls a0 dx B I.ok (fun h' st up=>car h' st ((sm4.trans sm5).trans up)) (fun h' φ st up new=>car2 h' φ st ((sm4.trans sm5).trans up) new) (hst▸fly5) ⟨hd5,by cases q:H' ea with|none=>rfl | some u=>exact absurd rfl (inB ea u q)⟩ (hth cls dx ea H' hE)
 have I':Inv (X.tryIn (X.pn++pins) kn fun e s₁=>wpAny (model X.prog X.w) X.A (noteFrame e X.env) (fun _ s₂=>wpAny (model X.prog X.w) X.A (setFlight e none) (fun _ s₃=>wpAny (model X.prog X.w) X.A (handleBy e X.env (h₀::hs)) (SP X pins D) X.xe s₃) X.xe s₂) X.xe s₁) [] σ H s:=
  ⟨I.ok.tryIn _ _ _,I.os,I.bare,I.base,I.loc,I.cell,I.free,I.freeC,fun p z=>I.pin p (by simpa using z),I.hok,I.len,hk⟩
 refine wpAny_mono (hb _ _ pas own [] s σ H D I' h) (fun f s1 q=>?_) fun _ _ z=>z;cases f with
 |next=>obtain⟨a,b,c,d⟩:=q;exact wpAny_execs_nil ⟨a,b,back (fun _ z=>z) c,d⟩
 |brk=>obtain⟨a,b,c,d⟩:=q;exact⟨a,b,back (fun _ z=>z) c,d⟩
 |cont=>obtain⟨a,b,c,d⟩:=q;exact⟨a,b,back (fun _ z=>z) c,d⟩
 |ret u=>obtain⟨v,a,b,c,d⟩:=q;exact⟨v,a,b,back (fun _ z=>z) c,d⟩
end
structure FunV(K:W.Frag)(x qual:Str)(st:Stmt)(dV:Value)(f:Addr)(fd:FuncData):Prop where
 ex:∃(oc:Value) (od:Option Addr) (kV doc pm:Value) (an:Option Addr) (cdv ct:Value) (osl:Array (Option Value)),
  fd=W.fnOf x qual (zc9 st) (zcc st) (zag st) dV kV doc pm an cdv ct/\K.lookup f=some ⟨oc,od,.func fd,osl⟩/\W.codeIn K cdv qual=true
 kp:W.keepIn K (.ref f)=true
section
variable {P:Program}{w:World}{K:W.Frag}{mg:Str->Option Value}{base:Heap}
theorem Fun.toV{x qual:Str}{st:Stmt}{f:Addr}{fd:FuncData}(F:Fun K x qual st f fd):FunV K x qual st .none f fd:=⟨F.ex,F.kp⟩
theorem FunV.okE{x qual:Str}{st:Stmt}{dV:Value}{f:Addr}{fd:FuncData}{N ps:List Str}{k:Nat}{sp:Sp}(F:FunV K x qual st dV f fd)(S:zal N ps (zag st))(len:∀vs H Q E,sp vs H Q E->vs.length=ps.length)
  (hbody:∀(cdv:Value) (A:Around) (outer:List Env) (s:Shared) (H:Hp) (vs:List V) (Q:VK) (E:XK),Room k (A.deeper (envOfC qual (zag st) s.heap.objs.size f cdv))->sp vs H Q E ->
   ∃t,PSs (cxOf (CXE P w) P w K mg base N qual (zag st) f cdv A outer s H E) (zcc st) t/\t { nx:=fun _ H'=>Q .non H',rt:=Q } (start N vs) H):FnOk P w K mg base (CXE P w) (k+1) f fd ps sp:=by
 obtain⟨oc,od,kV,doc,pm,an,cdv,ct,osl,rfl,lk,hcd⟩:=F.ex;exact Zbl lk hcd S len fun A outer s H vs Q E hr hsp=>hbody cdv A outer s H vs Q E hr hsp
theorem FnOk.calm{k:Nat}{f:Addr}{fd:FuncData}{ps:List Str}{sp:Sp}(F:FnOk P w K mg base (CXE P w) k f fd ps sp):FnOk P w K mg base CX0 k f fd ps (fun vs H Q _=>sp vs H Q E0):=
 ⟨fun vs H Q _ h=>F.len vs H Q E0 h,fun A outer s H args us vs Q E hr e0 hb r h=>codeAny_mono (F.run A outer s H args us vs Q E0 hr e0 hb r h) fun res s' q=>by
  cases res with
  |ok fl=>cases fl<;>exact q
  | error e=>
    obtain⟨_,_,_,_,_,_,_,_,_,_,_,_,_,_,_,_,_,_,_,z⟩:=q;exact z⟩
end
section
variable {X:Cx}{pins:List (Addr×Obj)}{σ:St}{H:Hp}{s:Shared}{a:Addr}
theorem Inv.swap{o1 o2:HO}(I:Inv X pins σ H s)(e:H a=some o1)(n1:∀xs,o1≠.tup xs)(n2:∀x,o1≠.own x)(n3:∀ps,o1≠.tbl ps)(hz:∀o u,X.H₀ a=some (.frz o u)->o2=.frz o u)
  (new:zc8 X.prog X.w (upd H a o2) s.heap a o2):Inv X pins σ (upd H a o2) s:=by
 have hf:∀b,H b=none->upd H a o2 b=none:=fun b n=>by rw[zai (by rintro rfl;rw[e] at n;cases n)];exact n
 have tu:∀b xs,H b=some (.tup xs)->upd H a o2 b=some (.tup xs):=fun b xs n=>by rw[zai (by rintro rfl;rw[e] at n;exact n1 xs (Option.some.inj n))];exact n
 refine⟨I.ok,I.os,I.bare,⟨I.base.keep,I.base.slot,fun b o q n hx=>hf b (I.base.free b o q n hx),I.base.there,fun b xs q=>tu b xs (I.base.tups b xs q),fun b o u q=>?_,fun b ps q=>?_⟩,I.loc,I.cell,hf _ I.free,fun x c q=>hf c (I.freeC x c q),fun p hp=>?_,fun b u q=>?_,I.len,I.kn⟩
 ·by_cases hb:b=a
  ·subst hb;rw[zaj,hz o u q]
  ·rw[zai hb];exact I.base.frzs b o u q
 ·obtain⟨m,q'⟩:=I.base.tbls b ps q
  exact⟨m,by rw[zai (by rintro rfl;rw[e] at q';exact n3 _ (Option.some.inj q'))];exact q'⟩
 ·obtain⟨a1,a2,a3,a4,a5⟩:=I.pin p hp
  exact⟨a1,hf _ a2,a3,a4,a5⟩
 ·by_cases hb:b=a
  ·subst hb;rw[zaj] at q;cases q;exact new
  ·rw[zai hb] at q
   exact(I.hok b u q).stay (fun _ _ _ z=>z) (fun c z=>by rw[zai (by rintro rfl;rw[e] at z;exact n2 _ (Option.some.inj z))];exact z) tu
theorem Inv.freeze{kvs:List (Key×V)}(I:Inv X pins σ H s)(e:H a=some (.dK kvs)):(∀o u,X.H₀ a≠some (.frz o u))/\∃o,s.heap.get? a=some o/\Inv X pins σ (upd H a (.frz o (.dK kvs))) s:=by
 have nf:∀o u,X.H₀ a≠some (.frz o u):=fun o u q=>by
  have z:=I.base.frzs a o u q;rw[e] at z;cases z
 obtain⟨z,y,vs,r,o,es,ep,q,c⟩:=I.hok a _ e;exact⟨nf,o,q,I.swap e (fun _ h=>nomatch h) (fun _ h=>nomatch h) (fun _ h=>nomatch h) (fun o u q=>absurd q (nf o u)) ⟨q,z,y,vs,r,o,es,ep,q,c⟩⟩
theorem Inv.thaw{o:Obj}{kvs:List (Key×V)}(I:Inv X pins σ H s)(nf:∀o u,X.H₀ a≠some (.frz o u))(e:H a=some (.frz o (.dK kvs))):Inv X pins σ (upd H a (.dK kvs)) s:=by
 obtain⟨_,z⟩:=I.hok a _ e;exact I.swap e (fun _ h=>nomatch h) (fun _ h=>nomatch h) (fun _ h=>nomatch h) (fun o u q=>absurd q (nf o u)) z
theorem Inv.frozen{o:Obj}{kvs:List (Key×V)}{es:Array DictEntry}{ep:Nat}(I:Inv X pins σ H s)(e:H a=some (.frz o (.dK kvs)))(hd:o.data=.dict es ep) :
  kvs.length<=sizeLine/\(a==sysModules)=false/\∃vs,KV kvs vs/\s.heap.DictAt (zbb X.prog X.w) a vs ep:=by
 obtain⟨q,z,y,vs,r,o',es',ep',q',c1,c2,c3⟩:=I.hok a _ e;rw[q] at q';cases q';rw[hd] at c2;cases c2;exact⟨z,y,vs,r,o,es,q,c1,hd,c3⟩
end
theorem KV.at{kvs:List (Key×V)}{vs:List (Key×Value)}(r:KV kvs vs){i:Nat}{k:Key}{v:V}(e:kvs[i]?=some (k,v)):∃u,vs[i]?=some (k,u)/\RelV v u:=by
 induction r generalizing i with
 |nil=>simp at e
 | cons p t ih=>
   cases i with
   | zero=>
     simp at e;rename_i a b _ _;obtain⟨p1,p2⟩:=p;refine⟨b.2,?_,?_⟩
     ·simp only[List.getElem?_cons_zero,Option.some.injEq]
      rw[e] at p1;exact Prod.ext p1.symm rfl
     ·rw[e] at p2;exact p2
   | succ j=>
     obtain⟨u,h1,h2⟩:=ih (i:=j) (by simpa using e);exact⟨u,by simpa using h1,h2⟩
theorem ztd{P:Program}{w:World}{k:Key}{u:Value}(h:(zbb P w).is k u=true):RelV (kV k) u:=by
 rcases zbp h with⟨i,t,rfl,rfl⟩ | ⟨x,t,rfl,rfl⟩
 ·exact⟨t,rfl⟩
 ·exact⟨t,rfl⟩
def Itd(a:Addr)(o:Obj)(kvs:List (Key×V)):It:=
 ⟨fun i H=>H a=some (.frz o (.dK kvs))/\i<kvs.length,fun i H x H'=>∃p k v,kvs[i]?=some (k,v)/\H p=none/\x=.ref p/\H'=upd H p (.tup [kV k,v]),fun i H=>H a=some (.frz o (.dK kvs))/\kvs.length<=i⟩
def Itk(a:Addr)(o:Obj)(kvs:List (Key×V)):It:=
 ⟨fun i H=>H a=some (.frz o (.dK kvs))/\i<kvs.length,fun i H x H'=>∃k v,kvs[i]?=some (k,v)/\x=kV k/\H'=H,fun i H=>H a=some (.frz o (.dK kvs))/\kvs.length<=i⟩
theorem zw2 {P:Program} {w:World} {K:W.Frag} {elts:List Expr} {kk:Nat} {tp:Pos} {a it:Addr} {o:Obj} {es:Array DictEntry} {ep:Nat} {kvs:List (Key×V)} (hd:o.data=.dict es ep) :
  Turn P w K (.Tuple elts kk tp) (Itd a o kvs) [it] it (fun i h=>∃ok ov,IsItemIter h it a i kvs.length ep ok ov) where
 mem:=by simp
 obj:=fun i h ⟨ok,ov,e⟩ b hb=>by
  obtain rfl:b=it:=by simpa using hb
  exact⟨_,e,(fun v z=>nomatch z)⟩
 keep:=fun i h h' ⟨ok,ov,e⟩ k=>⟨ok,ov,k it (by simp) _ e⟩
 item:=by
  intro X e1 e2 e3 hc i pins s σ H E I fp ⟨ok,ov,e⟩ ⟨hz,hi⟩;subst e1 e2 e3;obtain⟨f1,f2,f3,f4,f5,f6⟩:=fp it (by simp);obtain⟨zl,_,vs,r,da⟩:=I.frozen hz hd;obtain⟨⟨k,v⟩,hk⟩:∃p,kvs[i]?=some p:=⟨kvs[i],by simp[hi]⟩;obtain⟨u,hu,ru⟩:=r.at hk;have hl:vs.length=kvs.length:=r.length.symm;refine wpAny_pyNext_items_item (knd:=zbb X.prog X.w) (kvs:=vs) (ok:=ok) (ov:=ov) (by rw[hl];exact e) da hu fun key h1 hkey io ht hsz keep=>⟨_,rfl,?_⟩;refine wpAny_letOwnedTupleGo_items (i:=i+1) (n:=vs.length) io fun h2 io2 sb=>?_;have hp:s.heap.objs.size≠it:=Nat.ne_of_gt (Heap.lt_size e);have I1:Inv X pins σ (upd H s.heap.objs.size (.tup [kV k,v])) { s with heap:=s.heap.push { cls:=.type "tuple",data:=.seq #[key,u] } }:=
   I.laid (t':=s.toks) (fun b q z=>Heap.get?_push_of_some _ z) (Nat.le_refl _) ⟨by show 2<=sizeLine;decide,[key,u],.cons (ztd hkey) (.cons ru .nil),_,Heap.get?_push_size _ rfl,rfl,_,rfl⟩
  have I2:=I1.turned (h':=h2) (t':=s.toks) (it:=it) (fun b q hb z=>by
   refine sb.extBut b q hb ?_;by_cases hbp:b=s.heap.objs.size
   ·rw[hbp] at z ⊢
    rw[Heap.get?_push_size _ rfl] at z;cases z;exact ht
   ·exact keep b q hb (by
     have:=Heap.lt_size z;rw[Heap.size_push] at this;have lt:b<s.heap.objs.size:=Nat.lt_of_le_of_ne (Nat.le_of_lt_succ this) hbp;cases z':s.heap.get? b with
     |some q'=>rw[Heap.get?_push_of_some _ z'] at z;exact z
     | none=>
       exfalso;have:(s.heap.push { cls:=.type "tuple",data:=.seq #[key,u] }).get? b=none:=by
        simp only[Heap.get?,Heap.push] at z' ⊢;rw[Array.getElem?_push_lt lt];rw[Array.getElem?_eq_getElem lt] at z';exact z'
       rw[this] at z;cases z)) (by rw[zai (Ne.symm hp)];exact f1) f2 f4 f5 f6
  exact⟨.ref s.heap.objs.size,_,I2,rfl,⟨_,k,v,hk,I.hok.fresh (Nat.le_refl _),rfl,rfl⟩,⟨_,_,by rw[<- hl];exact io2⟩,fun b hb=>by
   obtain rfl:b=it:=by simpa using hb
   rw[zai (Ne.symm hp)];exact f1⟩
 done:=by
  intro X e1 e2 e3 hc i pins s σ H E I fp ⟨ok,ov,e⟩ ⟨hz,hi⟩;subst e1 e2 e3;obtain⟨f1,f2,f3,f4,f5,f6⟩:=fp it (by simp);obtain⟨zl,_,vs,r,da⟩:=I.frozen hz hd;have hl:vs.length=kvs.length:=r.length.symm;exact wpAny_pyNext_items_end (knd:=zbb X.prog X.w) (kvs:=vs) (ok:=ok) (ov:=ov) (I.ok.hd hc) (by rw[hl];exact e) da (List.getElem?_eq_none_iff.mpr (by omega)) fun h' hx=>⟨rfl,I.turned (t':=s.toks) (fun b q hb z=>hx b q hb z) f1 f2 f4 f5 f6⟩
 self:=fun A i s Q E ⟨ok,ov,e⟩ h=>W.kcp_self e h
theorem zyv{P:Program}{w:World}{K:W.Frag}{tg:Expr}{a it:Addr}{o:Obj}{es:Array DictEntry}{ep:Nat}{kvs:List (Key×V)}(hd:o.data=.dict es ep) :
  Turn P w K tg (Itk a o kvs) [it] it (fun i h=>h.IsKeyIter it a i kvs.length ep) where
 mem:=by simp
 obj:=fun i h ⟨q,e,c,d⟩ b hb=>by
  obtain rfl:b=it:=by simpa using hb
  exact⟨_,e,fun v z=>by rw[d] at z;cases z⟩
 keep:=fun i h h' ⟨q,e,c⟩ k=>⟨q,k it (by simp) _ e,c⟩
 item:=by
  intro X e1 e2 e3 hc i pins s σ H E I fp e ⟨hz,hi⟩;subst e1 e2 e3;obtain⟨f1,f2,f3,f4,f5,f6⟩:=fp it (by simp);obtain⟨zl,_,vs,r,da⟩:=I.frozen hz hd;obtain⟨⟨k,v⟩,hk⟩:∃p,kvs[i]?=some p:=⟨kvs[i],by simp[hi]⟩;obtain⟨u,hu,ru⟩:=r.at hk;have hl:vs.length=kvs.length:=r.length.symm;refine wpAny_pyNext_dict_item (knd:=zbb X.prog X.w) (kvs:=vs) (by rw[hl];exact e) da hu fun key h1 hkey io sb=>⟨_,rfl,?_⟩;have I2:Inv X pins σ H { s with heap:=h1 }:=I.turned (h':=h1) (t':=s.toks) (it:=it) (fun b q hb z=>sb.extBut b q hb z) f1 f2 f4 f5 f6;refine PyProof.Rows.letGo_keyiter io ⟨kV k,H,I2,ztd hkey,⟨k,v,hk,rfl,rfl⟩,by rw[<- hl];exact io,fun b hb=>?_⟩;obtain rfl:b=it:=by simpa using hb
  exact f1
 done:=by
  intro X e1 e2 e3 hc i pins s σ H E I fp e ⟨hz,hi⟩;subst e1 e2 e3;obtain⟨f1,f2,f3,f4,f5,f6⟩:=fp it (by simp);obtain⟨zl,_,vs,r,da⟩:=I.frozen hz hd;have hl:vs.length=kvs.length:=r.length.symm;exact wpAny_pyNext_dict_end (knd:=zbb X.prog X.w) (kvs:=vs) (I.ok.hd hc) (by rw[hl];exact e) da (List.getElem?_eq_none_iff.mpr (by omega)) fun h' hx=>⟨rfl,I.turned (t':=s.toks) (fun b q hb z=>hx b q hb z) f1 f2 f4 f5 f6⟩
 self:=fun A i s Q E e h=>wpAny_pyIter_keyiter e h
section
variable {X:Cx}{tg:Expr}
def z80(X:Cx)(te:TE):TI:=fun σ H R=>te σ H fun x H1=>∃a kvs,x=.ref a /\
 ((H1 a=some (.dK kvs)/\∀o,(∀o' u,X.H₀ a≠some (.frz o' u))->R (Itd a o kvs) (upd H1 a (.frz o (.dK kvs))))\/∃o,H1 a=some (.frz o (.dK kvs))/\R (Itd a o kvs) H1)
def z81(X:Cx)(te:TE):TI:=fun σ H R=>te σ H fun x H1=>∃a kvs,x=.ref a /\
 ((H1 a=some (.dK kvs)/\∀o,(∀o' u,X.H₀ a≠some (.frz o' u))->R (Itk a o kvs) (upd H1 a (.frz o (.dK kvs))))\/∃o,H1 a=some (.frz o (.dK kvs))/\R (Itk a o kvs) H1)
theorem zu7{pins:List (Addr×Obj)}{σ:St}{H:Hp}{s:Shared}{a:Addr}{o:Obj}{kvs:List (Key×V)}(I:Inv X pins σ H s)(e:H a=some (.frz o (.dK kvs))):s.heap.get? a=some o/\∃es ep,o.data=.dict es ep:=by
 obtain⟨q,z,y,vs,r,o',es',ep',q',c1,c2,c3⟩:=I.hok a _ e;rw[q] at q';cases q';exact⟨q,es',ep',c2⟩
theorem zyw{l:Expr}{tl:TE}(hl:PE X l tl):PI X tg l (z81 X tl):=by
 intro pins s σ H R I h;refine thn (hl pins s σ H _ I h) fun u s1 hq_=>?_;obtain⟨x,H1,I1,r1,a,kvs,e,q⟩:=hq_;subst e;obtain rfl:u=Value.ref a:=r1;have go:∀(o:Obj) (H2:Hp),Inv X pins σ H2 s1->H2 a=some (.frz o (.dK kvs))->R (Itk a o kvs) H2->wpAny (model X.prog X.w) X.A (pyIter (.ref a)) (PIE X pins σ tg R) X.xe s1:=fun o H2 I2 e2 q2=>by
  obtain⟨g,es,ep,hd⟩:=zu7 I2 e2;obtain⟨zl,zm,vs,r,da⟩:=I2.frozen e2 hd;have hlen:vs.length=kvs.length:=r.length.symm;refine wpAny_pyIter_dict (knd:=zbb X.prog X.w) zm da ?_;have I3:=I2.kept (h':=s1.heap.push { cls:=.type "dict_keyiterator",data:=.fields #[.ref a,.int 0 0,.int vs.length 0,.int ep 0] }) (t':=s1.toks) fun b q z=>Heap.get?_push_of_some _ z;refine⟨s1.heap.objs.size,[s1.heap.objs.size],_,Itk a o kvs,H2,rfl,I3,zyv hd,⟨_,Heap.get?_push_size _ rfl,rfl,by rw[hlen];rfl⟩,fun b hb=>?_,q2⟩;obtain rfl:b=s1.heap.objs.size:=by simpa using hb
  exact I2.fpOk (Nat.le_refl _) (I2.hok.fresh (Nat.le_refl _))
 rcases q with⟨e1,q⟩ | ⟨o,e1,q⟩
 ·obtain⟨nf,o,g,I2⟩:=I1.freeze e1
  exact go o _ I2 zaj (q o nf)
 ·exact go o _ I1 e1 q
theorem z2b{l:Expr}{tl:TE}{elts:List Expr}{kk:Nat}{tp apos cpos:Pos}(hl:PE X l tl)(hbase:attributeBase l "items" X.env (eval l X.env)=eval l X.env:=by rfl)(hline:(apos.endLine==cpos.line)=true:=by rfl) :
  PI X (.Tuple elts kk tp) (.Call (.Attribute l "items" apos) [] [] cpos) (z80 X tl):=by
 intro pins s σ H R I h;refine wpAny_Call_method0_late hbase hline (thn (hl pins s σ H _ I h) fun u s1 hq_=>?_);obtain⟨x,H1,I1,r1,a,kvs,e,q⟩:=hq_;subst e;obtain rfl:u=Value.ref a:=r1;have go:∀(o:Obj) (H2:Hp),Inv X pins σ H2 s1->H2 a=some (.frz o (.dK kvs))->R (Itd a o kvs) H2->MethodOn X.prog X.w X.A "items" cpos (.ref a) [] (fun v s2=>wpAny (model X.prog X.w) X.A (pyIter v) (PIE X pins σ (.Tuple elts kk tp) R) X.xe s2) X.xe s1:=fun o H2 I2 e2 q2=>by
  obtain⟨g,es,ep,hd⟩:=zu7 I2 e2;obtain⟨zl,zm,vs,r,da⟩:=I2.frozen e2 hd;have hlen:vs.length=kvs.length:=r.length.symm;obtain⟨t1,t2,_⟩:=z8s I2 (.inl ⟨kvs,.inr ⟨o,e2⟩⟩);refine⟨"dict",_,PySem.F.plainAttrs_dict,PySem.F.slot_dict_items,PySem.F.type_dict_items,t1,t2,Calls.callWith_builtin rfl (PySem.evalArgs_none ?_)⟩;refine call_meetsIn PySem.F.slot_dict_items t1 PySem.F.entry_dict_items (PySem.F.args_dict_items_1 _) (meets_dict_items (zbb X.prog X.w) a zm) ⟨⟨vs,da.dictOf⟩,?_⟩;have I3:=I2.kept (h':=s1.heap.push { cls:=.type "dict_items",data:=.fields #[.ref a] }) (t':=s1.toks) fun b q z=>Heap.get?_push_of_some _ z;refine wpAny_pyIter_items (d:=a) (kvs:=vs) (ep:=ep) (knd:=zbb X.prog X.w) ⟨_,Heap.get?_push_size _ rfl,rfl,rfl⟩ (da.push _) ?_;have I4:=I3.kept (h':=(s1.heap.push { cls:=.type "dict_items",data:=.fields #[.ref a] }).push { cls:=.type "dict_itemiterator",data:=.fields #[.none,.bool false,.ref a,.int 0 0,.int vs.length 0,.int ep 0,.none,.none] }) (t':=s1.toks) fun b q z=>Heap.get?_push_of_some _ z;refine⟨_,[_],_,Itd a o kvs,H2,rfl,I4,zw2 hd,⟨.none,.none,by rw[<- hlen];exact Heap.get?_push_size _ rfl⟩,fun b hb=>?_,q2⟩;rw[List.mem_singleton.mp hb];exact I3.fpOk (Nat.le_refl _) (I3.hok.fresh (Nat.le_refl _))
 rcases q with⟨e1,q⟩ | ⟨o,e1,q⟩
 ·obtain⟨nf,o,g,I2⟩:=I1.freeze e1
  exact go o _ I2 zaj (q o nf)
 ·exact go o _ I1 e1 q
def Th(X:Cx)(H:Hp)(R:Hp->Prop):Prop:=∃a o kvs,H a=some (.frz o (.dK kvs))/\(∀o' u,X.H₀ a≠some (.frz o' u))/\R (upd H a (.dK kvs))
theorem z52{e:Expr}{t:TE}(h:PE X e t):PE X e (fun σ H Q=>t σ H fun v H'=>Th X H' fun H''=>Q v H''):=by
 intro pins s σ H Q I q;refine thn (h pins s σ H _ I q) fun u s1 z=>?_;obtain⟨v,H1,I1,rv,a,o,kvs,e,nf,r⟩:=z;exact⟨v,_,I1.thaw nf e,rv,r⟩
end
def zq8(X:Cx)(scope:Scope)(cl:List (Str×Addr)):List Str->List Nat->Prop
 |[],[]=>True
 |x::xs,j::js=>(X.N[j]?=some x/\Vis X.env.scope x/\(X.env.kindOf x=some .cell\/X.env.kindOf x=some .free)/\((relabel scope X.env).names.lookup x=some .cell\/(relabel scope X.env).names.lookup x=some .free)/\cl.lookup x=X.env.cells.lookup x)/\zq8 X scope cl xs js
 |_,_=>False
noncomputable def zq9(σ:St)(js:List Nat):St:=js.map fun j=>(σ[j]?).join
theorem zq8.len{X:Cx}{scope:Scope}{cl:List (Str×Addr)}:∀{xs:List Str} {js:List Nat},zq8 X scope cl xs js->xs.length=js.length
 |[],[],_=>rfl
 |_::xs,_::js,h=>by simp[zq8.len h.2]
theorem zq8.get{X:Cx}{scope:Scope}{cl:List (Str×Addr)}:∀{xs:List Str} {js:List Nat} {k:Nat} {x:Str},zq8 X scope cl xs js->xs[k]?=some x->∃j,js[k]?=some j/\X.N[j]?=some x/\Vis X.env.scope x /\
  (X.env.kindOf x=some .cell\/X.env.kindOf x=some .free)/\((relabel scope X.env).names.lookup x=some .cell\/(relabel scope X.env).names.lookup x=some .free)/\cl.lookup x=X.env.cells.lookup x
 |[],[],_,_,_,e=>by simp at e
 | y::xs,j::js,0,x,h,e=>by
   simp at e;subst e;exact⟨j,rfl,h.1⟩
 | y::xs,j::js,k+1,x,h,e=>by
   obtain⟨j',h1,h2⟩:=zq8.get (k:=k) h.2 (by simpa using e);exact⟨j',by simpa using h1,h2⟩
abbrev zba(X:Cx)(scope:Scope)(cl:List (Str×Addr))(N':List Str)(fp:List Addr)(s3:Shared)(H2:Hp):Cx:=
 { X with N:=N',s₀:=s3,H₀:=H2,env:=compEnvC scope cl s3.heap.objs.size X.env,outer:=X.stack,stack:=X.stack,ex:=fp,fn:=fun _=>false,pn:=[],xe:=fun _ _=>False,kn:=[] }
structure zfc(X:Cx)(scope:Scope)(cl:List (Str×Addr))(ts xs:List Str)(js:List Nat):Prop where
 clos:closureFor scope X.env=pure cl
 ncell:∀y∈scope.names,y.2≠.cell
 kind:scope.kind=.function
 names:∀y∈scope.names,y.2=.local->scope.names.lookup y.1=some .local
 sub:∀p∈cl,X.env.cells.lookup p.1=some p.2
 has:(scope.names.filter fun y=>y.2==.free).all (fun y=>(cl.map (·.1)).contains y.1)=true
 cap:zq8 X scope cl xs js
def tYes:TT:=fun _ H Q=>Q true H
def zu8(p:Addr)(J:It)(g:TG)(tc:TT)(te:TE)(Q:VK)(W:Nat->Nat->St->Hp->List V->Prop):Prop:=
 ∀ i m σ2 H2 acc,W i m σ2 H2 acc->H2 p=some (.lst acc)/\((J.stop i H2/\Q (.ref p) H2)\/(J.go i H2/\∃N:St->Hp->List V->Prop,(∀σ' H' acc',N σ' H' acc'->∃m',m'<m/\W (i+1) m' σ' H' acc')/\∀x H3,J.yld i H2 x H3->g x σ2 H3 fun σ4 H4=>tc σ4 H4 fun ok H5=>
     if ok=true then te σ4 H5 fun y H6=>H6 p=some (.lst acc)/\acc.length<sizeLine/\N σ4 (upd H6 p (.lst (acc++[y]))) (acc++[y]) else N σ4 H5 acc))
def zte(nt:Nat)(js:List Nat)(wi:TI)(g:TG)(tc:TT)(te:TE):TE:=fun σ H Q=>wi σ H fun J H1=>∀p,H1 p=none ->
 ∃W:Nat->Nat->St->Hp->List V->Prop,(∃m,W 0 m (List.replicate nt none++zq9 σ js) (upd H1 p (.lst [])) [])/\zu8 p J g tc te Q W
section
variable {X:Cx}{pins:List (Addr×Obj)}{σ:St}{H1:Hp}{s2:Shared}{scope:Scope}{cl:List (Str×Addr)}{ts xs:List Str}{js:List Nat}{fp:List Addr}{it:Addr}{tn:Nat->Heap->Prop}{J:It}{tg:Expr}
theorem zoi{s3:Shared}{h4:Heap}{tk:Nat}{H2:Hp}(C:zfc X scope cl ts xs js)(I3:Inv X pins σ H2 s3)(fo:∀b∈fp,FpOk X pins H2 b)(fl:∀b∈fp,b<s3.heap.objs.size)
  (ns:∃m,h4.Ns s3.heap.objs.size m) (k:∀b o,s3.heap.get? b=some o->h4.get? b=some o) :
  Inv (zba X scope cl (ts++xs) fp s3 H2) [] (List.replicate ts.length none++zq9 σ js) H2 { s3 with heap:=h4,toks:=tk }:=by
 have lk:∀x c,cl.lookup x=some c->X.env.cells.lookup x=some c:=fun x c e=>C.sub (x,c) (PySem.mem_of_lookup e);have clt:∀x c,X.env.cells.lookup x=some c->c<s3.heap.objs.size:=fun x c e=>by
  obtain⟨v,o,ho,_⟩:=I3.cell x c e;exact Heap.lt_size ho
 have hasC:∀x,((relabel scope X.env).names.lookup x=some .cell\/(relabel scope X.env).names.lookup x=some .free)->∃c,cl.lookup x=some c:=fun x h=>by
  have hfree:(x,NameKind.free)∈scope.names:=by
   obtain⟨k,hk,hm⟩:∃k,(k=.cell\/k=.free)/\(x,k)∈(relabel scope X.env).names:=by
    rcases h with h | h
    ·exact⟨_,.inl rfl,PySem.mem_of_lookup h⟩
    ·exact⟨_,.inr rfl,PySem.mem_of_lookup h⟩
   obtain⟨⟨n,k'⟩,hm',e⟩:=List.mem_map.mp hm;have nc:=C.ncell _ hm';dsimp only at e nc
   split at e
   ·rename_i c
    cases e;simp only[Bool.and_eq_true,beq_iff_eq] at c;rw[<- c.1.1];exact hm'
   ·cases e
    rcases hk with rfl | rfl
    ·exact absurd rfl nc
    ·exact hm'
  have q:=List.all_eq_true.mp C.has _ (List.mem_filter.mpr ⟨hfree,rfl⟩);have q:x∈cl.map (·.1):=by simpa using q
  obtain⟨⟨y,c⟩,hy,rfl⟩:=List.mem_map.mp q;cases z:cl.lookup y with
  |some c'=>exact⟨c',rfl⟩
  | none=>
    exfalso;have:=List.lookup_eq_none_iff.mp z (y,c) hy;simp at this
 obtain⟨m,hm⟩:=ns;refine⟨⟨I3.ok.mod,C.kind,I3.ok.glob,I3.ok.blt,Nat.le_refl _,fun x y c h1 h2=>I3.ok.inj x y c (lk x c h1) (lk y c h2),fun x h=>hasC x h,(fun x c h=>nomatch h),I3.ok.hd,I3.ok.frames,.inl rfl,fun b hb=>⟨Nat.ne_of_lt (fl b hb),fun x c e=>(fo b hb).2.2.2.2.1 x c (lk x c e)⟩,
   I3.bs,Nat.le_trans I3.ok.bsz I3.sz,fun b o e hb=>?_,fun b hb hf=>?_,I3.stack,I3.stkFree⟩,
  rfl,I3.bare,Un.kept k,⟨m,hm,fun i x v e1 e2 e3=>?_⟩,fun x c e=>?_,I3.hok.fresh (Nat.le_refl _),fun x c e=>I3.freeC x c (lk x c e),fun p hp=>absurd hp (by simp),I3.hok.kept k,?_,(fun i v e=>nomatch (show(none:Option (Option V))=some (some v) from e))⟩
 ·rcases(fo b hb).2.2.2.1 with z | z
  ·exact I3.ok.noex b o e z
  ·exact absurd (Nat.lt_of_lt_of_le (Heap.lt_size (I3.ok.bs b o e).1) z) (Nat.lt_irrefl _)
 ·rcases List.mem_cons.mp (I3.stkSub b hf) with z | z
  ·exact(fo b hb).2.1 z
  ·exact(fo b hb).2.2.1 z
 ·by_cases hi:i<ts.length
  ·rw[List.getElem?_append_left (by simpa using hi),List.getElem?_replicate] at e2
   split at e2<;>cases e2
  ·have hi:ts.length<=i:=Nat.not_lt.mp hi
   rw[List.getElem?_append_right hi] at e1;rw[List.getElem?_append_right (by simpa using hi),List.length_replicate] at e2;obtain⟨j,hj,hN,hv,hk,hk2,hc⟩:=C.cap.get e1;unfold zq9 at e2;rw[List.getElem?_map,hj] at e2;have e2:(σ[j]?).join=some v:=by simpa using e2
   have e4:σ[j]?=some (some v):=by
    cases q:σ[j]? with
    |none=>rw[q] at e2;cases e2
    |some o=>rw[q] at e2;exact congrArg some e2
   obtain⟨m0,_,hl⟩:=I3.loc;obtain⟨u,ru,l⟩:=hl j x v hN e4 hv;refine⟨u,ru,.inr ⟨hk2,?_⟩⟩;rcases l with⟨z,_⟩ | ⟨_,c,ec,cc⟩
   ·rcases hk with hk | hk<;>(rw[z] at hk;cases hk)
   ·obtain⟨oc,ho,hd⟩:=cc
    exact⟨c,hc.trans ec,oc,k _ _ ho,hd⟩
 ·obtain⟨v,o,ho,hd⟩:=I3.cell x c (lk x c e)
  exact⟨v,o,k _ _ ho,hd⟩
 ·show(List.replicate ts.length none++zq9 σ js).length=(ts++xs).length
  rw[List.length_append,List.length_replicate,List.length_append,C.cap.len];simp[zq9]
theorem zu9{s3:Shared}{H2 H':Hp}{s':Shared}{σ':St}(I3:Inv X pins σ H2 s3)(fo:∀b∈fp,FpOk X pins H2 b)(Ic:Inv (zba X scope cl (ts++xs) fp s3 H2) [] σ' H' s') :
  Inv X pins σ H' s'/\(∃m,s'.heap.Ns s3.heap.objs.size m)/\H' s3.heap.objs.size=none:=
 ⟨I3.call' Ic.os Ic.base Ic.hok Ic.bare fun b hb=>let ⟨_,f2,_,f4,f5,f6⟩:=fo b hb;⟨f4,f2,f5,f6⟩,let ⟨m,hm,_⟩:=Ic.loc;⟨m,hm⟩,Ic.free⟩
variable {elt iter c:Expr}{pos:Pos}{g:TG}{tc:TT}{te:TE}{Q:VK}
def zm0(Xc:Cx)(fp:List Addr)(tn:Nat->Heap->Prop)(W:Nat->Nat->St->Hp->List V->Prop)(n:Nat)(s':Shared):Prop:=
 ∃i σ' H' acc,Inv Xc [] σ' H' s'/\tn i s'.heap/\(∀b∈fp,H' b=none)/\W i n σ' H' acc
theorem zra{Xc:Cx}{p:Addr}{W:Nat->Nat->St->Hp->List V->Prop}{n:Nat}{s':Shared}{E:Value->Shared->Prop}{R:Option Value->Shared->Prop}(hc:Xc.calm=true)(T:Turn Xc.prog Xc.w Xc.K tg J fp it tn)(go:zu8 p J g tc te Q W)
  (hg:PG Xc tg g) (hxe:Xc.xe=fun _ _=>False) (fo:∀{H':Hp} {b:Addr},H' b=none->b∈fp->FpOk Xc [] H' b) (h:zm0 Xc fp tn W n s')
  (hend:∀σ' H' s1,Inv Xc [] σ' H' s1->Q (.ref p) H'->R none s1)
  (hsome:∀v s1,wpAny (model Xc.prog Xc.w) Xc.A (letOwnedTupleGo tg (.ref it) v) (fun _ s2=>wpAny (model Xc.prog Xc.w) Xc.A (assign tg Xc.env v) (fun _ s3=>∃(i:Nat) (pins:List (Addr×Obj)) (acc:List V) (σ4:St) (H4:Hp) (N:St->Hp->List V->Prop),Inv Xc pins σ4 H4 s3/\(∀σ' H' acc',N σ' H' acc'->∃m',m'<n/\W (i+1) m' σ' H' acc') /\
   (∀b∈fp,∃o,(b,o)∈pins/\s3.heap.get? b=some o)/\(∀h',(∀b∈fp,∀o,s3.heap.get? b=some o->h'.get? b=some o)->tn (i+1) h') /\
   tc σ4 H4 fun ok H5=>if ok=true then te σ4 H5 fun y H6=>H6 p=some (.lst acc)/\acc.length<sizeLine/\N σ4 (upd H6 p (.lst (acc++[y]))) (acc++[y]) else N σ4 H5 acc) E s2) E s1->R (some v) s1) :
  wpAny (model Xc.prog Xc.w) Xc.A (pyNext (.ref it)) R E s':=by
 obtain⟨i,σ',H',acc,I,st,fr,w⟩:=h;obtain⟨hp,cs⟩:=go i n σ' H' acc w;rcases cs with⟨stop,q⟩ | ⟨gg,N,hN,step⟩
 ·refine thn (T.done Xc rfl rfl rfl hc i [] s' σ' H' E I (fun b hb=>fo (fr b hb) hb) st stop) fun r s1 hq_=>?_
  obtain⟨hr,I1⟩:=hq_;subst hr;exact hend σ' H' s1 I1 q
 ·refine thn (T.item Xc rfl rfl rfl hc i [] s' σ' H' E I (fun b hb=>fo (fr b hb) hb) st gg) fun r s1 hq_=>?_
  obtain⟨u,hr,h1⟩:=hq_;subst hr;refine hsome u s1 (thn h1 fun _ s2 hq_=>?_);obtain⟨x,H3,I3,r3,y3,st3,fr3⟩:=hq_;have I3':=I3.pinned (fun b hb=>fo (fr3 b hb) hb) (T.obj _ _ st3);refine wpAny_mono (hg _ s2 σ' H3 x u _ I3' r3 (step x H3 y3)) (fun _ s3 ⟨σ4,H4,I4,q4⟩=>?_) fun e s z=>by rw[hxe] at z;exact z.elim
  have pn:∀b∈fp,∀o,s2.heap.get? b=some o->s3.heap.get? b=some o:=fun b hb o e=>(I4.pin (b,o) (List.mem_append_right _ (List.mem_append_right _ (zjd hb e)))).1;refine⟨i,_,acc,σ4,H4,N,I4,hN,fun b hb=>?_,fun h' k=>T.keep _ _ _ st3 fun b hb o e=>k b hb o (pn b hb o e),q4⟩;obtain⟨o,e,_⟩:=T.obj _ _ st3 b hb;exact⟨o,List.mem_append_right _ (zjd hb e),pn b hb o e⟩
theorem zoj(hc:X.calm=true)(C:zfc X scope cl ts xs js)(I2:Inv X pins σ H1 s2)(T:Turn X.prog X.w X.K tg J fp it tn)(st:tn 0 s2.heap)(fo:∀b∈fp,FpOk X pins H1 b)
  (q:∀p,H1 p=none->∃W:Nat->Nat->St->Hp->List V->Prop,(∃m,W 0 m (List.replicate ts.length none++zq9 σ js) (upd H1 p (.lst [])) [])/\zu8 p J g tc te Q W)
  (hg:∀fp s3 H2,PG (zba X scope cl (ts++xs) fp s3 H2) tg g) (ht:∀fp s3 H2,PT (zba X scope cl (ts++xs) fp s3 H2) c tc) (he:∀fp s3 H2,PE (zba X scope cl (ts++xs) fp s3 H2) elt te)
  {RR:Value->Addr->Result->Shared->Prop} (hRR:∀p C H' s',Inv X pins σ H' s'->(∃m,s'.heap.Ns C m)->H' C=none->s2.heap.objs.size<=C->Q (.ref p) H'->RR (.ref p) C (.ok .next) s') :
  wpAny (model X.prog X.w) X.A (newList []) (fun acc s3=>wpAny (model X.prog X.w) X.A (newFunctionEnv scope X.env.globals cl [] X.env.qual none .none (some X.env)) (fun cenv s4=>
   codeAny (model X.prog X.w) X.A (.compStart (.ListComp elt [⟨tg,iter,[c],0⟩] scope pos) 0 (.ref it) acc { cenv with scope:=relabel scope X.env }) (RR acc cenv.locals) s4) X.xe s3) X.xe s2:=by
 refine wpAny_newObj_type (wpAny_newFunctionEnv C.ncell (by intro y hy;simp at hy) (fun h4 ns4 sb4=>?_) C.kind);dsimp only at ns4 sb4 ⊢;have I3:Inv X pins σ (upd H1 s2.heap.objs.size (.lst [])) { s2 with heap:=s2.heap.push { cls:=.type "list",data:=.seq ([]:List Value).toArray } }:=
  I2.laid (t':=s2.toks) (fun b o e=>Heap.get?_push_of_some _ e) (Nat.le_refl _) ⟨Nat.zero_le _,[],_,.nil,Heap.get?_push_size _ rfl⟩
 generalize hs3:({ s2 with heap:=s2.heap.push { cls:=.type "list",data:=.seq ([]:List Value).toArray } }:Shared)=s3 at I3;have hsz:s3.heap.objs.size=s2.heap.objs.size+1:=by rw[<- hs3];exact Heap.size_push ..
 have hp3:s2.heap.push { cls:=.type "list",data:=.seq ([]:List Value).toArray }=s3.heap:=by rw[<- hs3]
 obtain⟨W,⟨m0,w0⟩,go⟩:=q s2.heap.objs.size (I2.hok.fresh (Nat.le_refl _));have fl:∀b∈fp,b<s2.heap.objs.size:=fun b hb=>by
  obtain⟨o,e,_⟩:=T.obj _ _ st b hb;exact Heap.lt_size e
 have fo3:∀b∈fp,FpOk X pins (upd H1 s2.heap.objs.size (.lst [])) b:=fun b hb=>⟨by rw[zai (Nat.ne_of_lt (fl b hb))];exact(fo b hb).1,(fo b hb).2⟩;have k4:∀b o,s3.heap.get? b=some o->h4.get? b=some o:=fun b o e=>by
  have hb:b≠s3.heap.objs.size:=Nat.ne_of_lt (Heap.lt_size e);rw[hp3] at sb4;exact sb4.extBut b o hb (Heap.get?_push_of_some _ e)
 rw[hp3] at ns4;have k24:∀b o,s2.heap.get? b=some o->h4.get? b=some o:=fun b o e=>k4 b o (by rw[<- hp3];exact Heap.get?_push_of_some _ e);have st4:tn 0 h4:=T.keep _ _ _ st fun b _ o e=>k24 b o e;have Ic:Inv (zba X scope cl (ts++xs) fp s3 (upd H1 s2.heap.objs.size (.lst []))) [] _ (upd H1 s2.heap.objs.size (.lst [])) { s3 with heap:=h4,toks:=s3.toks+([]:List (Str×Value)).length }:=
  zoi C I3 fo3 (fun b hb=>by rw[hsz];exact Nat.lt_succ_of_lt (fl b hb)) ⟨_,ns4⟩ k4
 have fo':∀{H':Hp} {b:Addr},H' b=none->b∈fp->FpOk (zba X scope cl (ts++xs) fp s3 (upd H1 s2.heap.objs.size (.lst []))) [] H' b:=fun {H' b} n hb=>
  ⟨n,Nat.ne_of_lt (show b<s3.heap.objs.size by rw[hsz];exact Nat.lt_succ_of_lt (fl b hb)),fun hf=>(Ic.ok.exfs b hb) hf,.inl hb,fun x c e=>(Ic.ok.exf b hb).2 x c e,fun p hp=>absurd hp (by simp)⟩
 have loop:∀s4:Shared,s4={ s3 with heap:=h4,toks:=s3.toks+([]:List (Str×Value)).length }->codeAny (model X.prog X.w) X.A (.compLoop (.ListComp elt [⟨tg,iter,[c],0⟩] scope pos) 0 (.ref it) (.ref s2.heap.objs.size) (compEnvC scope cl s3.heap.objs.size X.env)) (RR (.ref s2.heap.objs.size) s3.heap.objs.size) s4:=by
  rintro s4 rfl;refine PySem.W.kct_loop (zm0 (zba X scope cl (ts++xs) fp s3 (upd H1 s2.heap.objs.size (.lst []))) fp tn W) (fun n s' hI=>?_) m0 ⟨0,_,_,[],Ic,st4,fun b hb=>(fo3 b hb).1,w0⟩;refine zra (Xc:=zba X scope cl (ts++xs) fp s3 (upd H1 s2.heap.objs.size (.lst []))) hc T go (hg _ _ _) rfl fo' hI (fun σ' H' s1 I1 q1=>?_) (fun v s1 h1=>?_)
  ·obtain⟨J1,J2,J3⟩:=zu9 I3 fo3 I1
   exact hRR _ _ H' s1 J1 J2 J3 (by rw[hsz];exact Nat.le_succ _) q1
  ·refine thn h1 fun _ s5 h5=>thn h5 fun _ s6 h6=>?_
   obtain⟨i,pins',acc,σ4,H4,N,I4,hN,pin4,keep4,q4⟩:=h6;have fin:∀{H7:Hp} {s7:Shared} {acc':List V},Inv (zba X scope cl (ts++xs) fp s3 (upd H1 s2.heap.objs.size (.lst []))) pins' σ4 H7 s7->N σ4 H7 acc'->∃m,m<n/\zm0 (zba X scope cl (ts++xs) fp s3 (upd H1 s2.heap.objs.size (.lst []))) fp tn W m s7:=fun {H7 s7 acc'} I7 n7=>by
    obtain⟨m',hm,w7⟩:=hN _ _ _ n7;refine⟨m',hm,i+1,σ4,H7,acc',I7.pins_of (fun p hp=>absurd hp (by simp)),keep4 _ fun b hb o e=>?_,fun b hb=>?_,w7⟩
    ·obtain⟨o',hm',e'⟩:=pin4 b hb
     rw[e] at e';cases e';exact(I7.pin (b,o) (List.mem_append_right _ hm')).1
    ·obtain⟨o',hm',e'⟩:=pin4 b hb
     exact(I7.pin (b,o') (List.mem_append_right _ hm')).2.1
   refine wpAny_mono (ht fp s3 _ pins' s6 σ4 H4 _ I4 q4) (fun ok s7 hq_=>?_) fun _ _ z=>z.elim;obtain⟨H7,I7,q7⟩:=hq_;cases ok with
   | false=>
     have n7:N σ4 H7 acc:=by simpa using q7
     have:=fin I7 n7;simpa using this
   | true=>
     have q7:=(if_pos (c:=(true=true)) rfl).mp q7;show wpAny _ _ (eval elt _) _ _ _;refine wpAny_mono (he fp s3 _ pins' s7 σ4 H7 _ I7 q7) (fun y s8 hq_=>?_) fun _ _ z=>z.elim;obtain⟨yv,H8,I8,ry,e8,l8,n8⟩:=hq_;refine wpAny_mono (zmx (X:=zba X scope cl (ts++xs) fp s3 (upd H1 s2.heap.objs.size (.lst []))) pins' s8 σ4 H8 (.ref s2.heap.objs.size) [yv] (.ref s2.heap.objs.size) [y] (fun _ H9=>H9=upd H8 s2.heap.objs.size (.lst (acc++[yv]))) I8 rfl (.cons ry .nil) ⟨_,acc,yv,rfl,rfl,e8,l8,rfl⟩) (fun _ s9 hq_=>?_) fun _ _ z=>z.elim;obtain⟨_,H9,I9,_,e9⟩:=hq_;subst e9;exact fin I9 n8
 have hself:=T.self X.A 0 { s3 with heap:=h4,toks:=s3.toks+([]:List (Str×Value)).length } (fun it' s'=>codeAny (model X.prog X.w) X.A (.compLoop (.ListComp elt [⟨tg,iter,[c],0⟩] scope pos) 0 it' (.ref s2.heap.objs.size) (compEnvC scope cl s3.heap.objs.size X.env)) (RR (.ref s2.heap.objs.size) s3.heap.objs.size) s') (notedBy (model X.prog X.w) X.A (compEnvC scope cl s3.heap.objs.size X.env) fun x s'=>RR (.ref s2.heap.objs.size) s3.heap.objs.size (.error x) s') st4 (loop _ rfl);subst hs3;exact codeAny_compStart_list (loop _ rfl) hself
theorem zok(hc:X.calm=true)(C:zfc X scope cl ts xs js)(I2:Inv X pins σ H1 s2)(T:Turn X.prog X.w X.K tg J fp it tn)(st:tn 0 s2.heap)(fo:∀b∈fp,FpOk X pins H1 b)
  (q:∀p,H1 p=none->∃W:Nat->Nat->St->Hp->List V->Prop,(∃m,W 0 m (List.replicate ts.length none++zq9 σ js) (upd H1 p (.lst [])) [])/\zu8 p J g tYes te Q W)
  (hg:∀fp s3 H2,PG (zba X scope cl (ts++xs) fp s3 H2) tg g) (he:∀fp s3 H2,PE (zba X scope cl (ts++xs) fp s3 H2) elt te)
  {RR:Value->Addr->Result->Shared->Prop} (hRR:∀p C H' s',Inv X pins σ H' s'->(∃m,s'.heap.Ns C m)->H' C=none->s2.heap.objs.size<=C->Q (.ref p) H'->RR (.ref p) C (.ok .next) s') :
  wpAny (model X.prog X.w) X.A (newList []) (fun acc s3=>wpAny (model X.prog X.w) X.A (newFunctionEnv scope X.env.globals cl [] X.env.qual none .none (some X.env)) (fun cenv s4=>
   codeAny (model X.prog X.w) X.A (.compStart (.ListComp elt [⟨tg,iter,[],0⟩] scope pos) 0 (.ref it) acc { cenv with scope:=relabel scope X.env }) (RR acc cenv.locals) s4) X.xe s3) X.xe s2:=by
 refine wpAny_newObj_type (wpAny_newFunctionEnv C.ncell (by intro y hy;simp at hy) (fun h4 ns4 sb4=>?_) C.kind);dsimp only at ns4 sb4 ⊢;have I3:Inv X pins σ (upd H1 s2.heap.objs.size (.lst [])) { s2 with heap:=s2.heap.push { cls:=.type "list",data:=.seq ([]:List Value).toArray } }:=
  I2.laid (t':=s2.toks) (fun b o e=>Heap.get?_push_of_some _ e) (Nat.le_refl _) ⟨Nat.zero_le _,[],_,.nil,Heap.get?_push_size _ rfl⟩
 generalize hs3:({ s2 with heap:=s2.heap.push { cls:=.type "list",data:=.seq ([]:List Value).toArray } }:Shared)=s3 at I3;have hsz:s3.heap.objs.size=s2.heap.objs.size+1:=by rw[<- hs3];exact Heap.size_push ..
 have hp3:s2.heap.push { cls:=.type "list",data:=.seq ([]:List Value).toArray }=s3.heap:=by rw[<- hs3]
 obtain⟨W,⟨m0,w0⟩,go⟩:=q s2.heap.objs.size (I2.hok.fresh (Nat.le_refl _));have fl:∀b∈fp,b<s2.heap.objs.size:=fun b hb=>by
  obtain⟨o,e,_⟩:=T.obj _ _ st b hb;exact Heap.lt_size e
 have fo3:∀b∈fp,FpOk X pins (upd H1 s2.heap.objs.size (.lst [])) b:=fun b hb=>⟨by rw[zai (Nat.ne_of_lt (fl b hb))];exact(fo b hb).1,(fo b hb).2⟩;have k4:∀b o,s3.heap.get? b=some o->h4.get? b=some o:=fun b o e=>by
  have hb:b≠s3.heap.objs.size:=Nat.ne_of_lt (Heap.lt_size e);rw[hp3] at sb4;exact sb4.extBut b o hb (Heap.get?_push_of_some _ e)
 rw[hp3] at ns4;have k24:∀b o,s2.heap.get? b=some o->h4.get? b=some o:=fun b o e=>k4 b o (by rw[<- hp3];exact Heap.get?_push_of_some _ e);have st4:tn 0 h4:=T.keep _ _ _ st fun b _ o e=>k24 b o e;have Ic:Inv (zba X scope cl (ts++xs) fp s3 (upd H1 s2.heap.objs.size (.lst []))) [] _ (upd H1 s2.heap.objs.size (.lst [])) { s3 with heap:=h4,toks:=s3.toks+([]:List (Str×Value)).length }:=
  zoi C I3 fo3 (fun b hb=>by rw[hsz];exact Nat.lt_succ_of_lt (fl b hb)) ⟨_,ns4⟩ k4
 have fo':∀{H':Hp} {b:Addr},H' b=none->b∈fp->FpOk (zba X scope cl (ts++xs) fp s3 (upd H1 s2.heap.objs.size (.lst []))) [] H' b:=fun {H' b} n hb=>
  ⟨n,Nat.ne_of_lt (show b<s3.heap.objs.size by rw[hsz];exact Nat.lt_succ_of_lt (fl b hb)),fun hf=>(Ic.ok.exfs b hb) hf,.inl hb,fun x c e=>(Ic.ok.exf b hb).2 x c e,fun p hp=>absurd hp (by simp)⟩
 have loop:∀s4:Shared,s4={ s3 with heap:=h4,toks:=s3.toks+([]:List (Str×Value)).length }->codeAny (model X.prog X.w) X.A (.compLoop (.ListComp elt [⟨tg,iter,[],0⟩] scope pos) 0 (.ref it) (.ref s2.heap.objs.size) (compEnvC scope cl s3.heap.objs.size X.env)) (RR (.ref s2.heap.objs.size) s3.heap.objs.size) s4:=by
  rintro s4 rfl;refine PySem.W.kcp_loop (zm0 (zba X scope cl (ts++xs) fp s3 (upd H1 s2.heap.objs.size (.lst []))) fp tn W) (fun n s' hI=>?_) m0 ⟨0,_,_,[],Ic,st4,fun b hb=>(fo3 b hb).1,w0⟩;refine zra (Xc:=zba X scope cl (ts++xs) fp s3 (upd H1 s2.heap.objs.size (.lst []))) hc T go (hg _ _ _) rfl fo' hI (fun σ' H' s1 I1 q1=>?_) (fun v s1 h1=>?_)
  ·obtain⟨J1,J2,J3⟩:=zu9 I3 fo3 I1
   exact hRR _ _ H' s1 J1 J2 J3 (by rw[hsz];exact Nat.le_succ _) q1
  ·refine thn h1 fun _ s5 h5=>thn h5 fun _ s6 h6=>?_
   obtain⟨i,pins',acc,σ4,H4,N,I4,hN,pin4,keep4,q4⟩:=h6;have fin:∀{H7:Hp} {s7:Shared} {acc':List V},Inv (zba X scope cl (ts++xs) fp s3 (upd H1 s2.heap.objs.size (.lst []))) pins' σ4 H7 s7->N σ4 H7 acc'->∃m,m<n/\zm0 (zba X scope cl (ts++xs) fp s3 (upd H1 s2.heap.objs.size (.lst []))) fp tn W m s7:=fun {H7 s7 acc'} I7 n7=>by
    obtain⟨m',hm,w7⟩:=hN _ _ _ n7;refine⟨m',hm,i+1,σ4,H7,acc',I7.pins_of (fun p hp=>absurd hp (by simp)),keep4 _ fun b hb o e=>?_,fun b hb=>?_,w7⟩
    ·obtain⟨o',hm',e'⟩:=pin4 b hb
     rw[e] at e';cases e';exact(I7.pin (b,o) (List.mem_append_right _ hm')).1
    ·obtain⟨o',hm',e'⟩:=pin4 b hb
     exact(I7.pin (b,o') (List.mem_append_right _ hm')).2.1
   have q4:te σ4 H4 (fun y H6=>H6 s2.heap.objs.size=some (.lst acc)/\acc.length<sizeLine/\N σ4 (upd H6 s2.heap.objs.size (.lst (acc++[y]))) (acc++[y])):=by
    have z:=q4;unfold tYes at z;dsimp only at z;rw[if_pos rfl] at z;exact z
   refine wpAny_mono (he fp s3 _ pins' s6 σ4 H4 _ I4 q4) (fun y s8 hq_=>?_) fun _ _ z=>z.elim;obtain⟨yv,H8,I8,ry,e8,l8,n8⟩:=hq_;refine wpAny_mono (zmx (X:=zba X scope cl (ts++xs) fp s3 (upd H1 s2.heap.objs.size (.lst []))) pins' s8 σ4 H8 (.ref s2.heap.objs.size) [yv] (.ref s2.heap.objs.size) [y] (fun _ H9=>H9=upd H8 s2.heap.objs.size (.lst (acc++[yv]))) I8 rfl (.cons ry .nil) ⟨_,acc,yv,rfl,rfl,e8,l8,rfl⟩) (fun _ s9 hq_=>?_) fun _ _ z=>z.elim;obtain⟨_,H9,I9,_,e9⟩:=hq_;subst e9;exact fin I9 n8
 have hself:=T.self X.A 0 { s3 with heap:=h4,toks:=s3.toks+([]:List (Str×Value)).length } (fun it' s'=>codeAny (model X.prog X.w) X.A (.compLoop (.ListComp elt [⟨tg,iter,[],0⟩] scope pos) 0 it' (.ref s2.heap.objs.size) (compEnvC scope cl s3.heap.objs.size X.env)) (RR (.ref s2.heap.objs.size) s3.heap.objs.size) s') (notedBy (model X.prog X.w) X.A (compEnvC scope cl s3.heap.objs.size X.env) fun x s'=>RR (.ref s2.heap.objs.size) s3.heap.objs.size (.error x) s') st4 (loop _ rfl);subst hs3;exact codeAny_compStart_list (loop _ rfl) hself
theorem zol{C:Addr}{H':Hp}{s':Shared}{h':Heap}(I2:Inv X pins σ H1 s2)(I:Inv X pins σ H' s')(n:H' C=none)(hC:s2.heap.objs.size<=C)(hs:Heap.SameBut C s'.heap h'):Inv X pins σ H' { s' with heap:=h' }:=by
 refine I.turned (t':=s'.toks) (it:=C) (fun b o hb e=>hs.extBut b o hb e) n (Nat.ne_of_gt (Nat.lt_of_lt_of_le I2.lt hC)) (.inr (Nat.le_trans I2.sz hC)) (fun x c e=>?_) fun p hp=>?_
 ·obtain⟨v,o,ho,_⟩:=I2.cell x c e
  exact Nat.ne_of_lt (Nat.lt_of_lt_of_le (Heap.lt_size ho) hC)
 ·exact Nat.ne_of_lt (Nat.lt_of_lt_of_le (Heap.lt_size (I2.pin p hp).1) hC)
end
section
variable {X:Cx}{elt iter c tg:Expr}{pos:Pos}{g:TG}{tc:TT}{te:TE}{wi:TI}{scope:Scope}{cl:List (Str×Addr)}{ts xs:List Str}{js:List Nat}
theorem zva(hc:X.calm=true)(C:zfc X scope cl ts xs js)(hi:PI X tg iter wi)(hg:∀fp s3 H2,PG (zba X scope cl (ts++xs) fp s3 H2) tg g)(ht:∀fp s3 H2,PT (zba X scope cl (ts++xs) fp s3 H2) c tc)(he:∀fp s3 H2,PE (zba X scope cl (ts++xs) fp s3 H2) elt te)
  (hs:∀x,foldedSetIterable iter X.env x=pure x:=by intro _;rfl):PE X (.ListComp elt [⟨tg,iter,[c],0⟩] scope pos) (zte ts.length js wi g tc te):=by
 intro pins s σ H Q I h;rw[eval_ListComp];refine wpAny_comprehension_free (use:=none) rfl hs C.clos C.kind C.names (thn (hi pins s σ H _ I h) fun xv s1 h1=>thn h1 fun itv s2 h2=>?_);obtain⟨it,fp,tn,J,H1,rfl,I2,T,st2,fo,q⟩:=h2;exact zoj (RR:=compPost (model X.prog X.w) X.A X.xe none (EP X pins σ Q)) hc C I2 T st2 fo q hg ht he fun p D H' s' I' ns n hD q'=>by
  obtain⟨m,hm⟩:=ns;exact⟨m,hm,fun h' sb=>⟨.ref p,H',zol I2 I' n hD sb,rfl,q'⟩⟩
theorem z53(hc:X.calm=true)(C:zfc X scope cl ts xs js)(hi:PI X tg iter wi)(hg:∀fp s3 H2,PG (zba X scope cl (ts++xs) fp s3 H2) tg g)(he:∀fp s3 H2,PE (zba X scope cl (ts++xs) fp s3 H2) elt te)
  (hs:∀x,foldedSetIterable iter X.env x=pure x:=by intro _;rfl):PE X (.ListComp elt [⟨tg,iter,[],0⟩] scope pos) (zte ts.length js wi g tYes te):=by
 intro pins s σ H Q I h;rw[eval_ListComp];refine wpAny_comprehension_free (use:=none) rfl hs C.clos C.kind C.names (thn (hi pins s σ H _ I h) fun xv s1 h1=>thn h1 fun itv s2 h2=>?_);obtain⟨it,fp,tn,J,H1,rfl,I2,T,st2,fo,q⟩:=h2;exact zok (RR:=compPost (model X.prog X.w) X.A X.xe none (EP X pins σ Q)) hc C I2 T st2 fo q hg he fun p D H' s' I' ns n hD q'=>by
  obtain⟨m,hm⟩:=ns;exact⟨m,hm,fun h' sb=>⟨.ref p,H',zol I2 I' n hD sb,rfl,q'⟩⟩
theorem zw3{i:Nat}{y:Str}{py spos:Pos}(hc:X.calm=true)(C:zfc X scope cl ts xs js)(hi:PI X tg iter wi)(hg:∀fp s3 H2,PG (zba X scope cl (ts++xs) fp s3 H2) tg g)(he:∀fp s3 H2,PE (zba X scope cl (ts++xs) fp s3 H2) elt te)
  (hN:X.N.Nodup) (hy:X.N[i]?=some y) (hx:Loc X.env.scope y) (hkn:∀u:V,X.kn[i]?≠some (some u)) (hf:X.fn y=true\/X.env.scope.names.lookup y=some .local:=by first | exact .inl rfl | exact .inr rfl | assumption)
  (hsw:swapsWith (.ListComp elt [⟨tg,iter,[],0⟩] scope pos) (some (.Name y py)) spos.line X.env=pure true:=by rfl)
  (hs:∀x,foldedSetIterable iter X.env x=pure x:=by intro _;rfl):PS X (.Assign [.Name y py] (.ListComp elt [⟨tg,iter,[],0⟩] scope pos) spos) (tAsg (zte ts.length js wi g tYes te) (zn0 i)):=by
 intro pins s σ H D I h;rw[exec_Assign_Name_used _ _ _ _ hsw];refine wpAny_bind (wpAny_standAt (wpAny_bind ?_));show wpAny _ X.A (do let _ <- comprehension (.ListComp elt [⟨tg,iter,[],0⟩] scope pos) scope X.env _ (newList []) false (eval iter X.env) (some (assign (.Name y py) X.env))) _ _ s;refine wpAny_bind (wpAny_mono (wpAny_comprehension_free (use:=some (assign (.Name y py) X.env)) (Q:=fun _ s'=>SP X pins D .next s') rfl hs C.clos C.kind C.names (thn (hi pins s σ H _ I h) fun xv s1 h1=>thn h1 fun itv s2 h2=>?_)) (fun _ s' hq=>wpAny_pure (wpAny_pure hq)) fun _ _ e=>e);obtain⟨it,fp,tn,J,H1,rfl,I2,T,st2,fo,q⟩:=h2;refine zok (Q:=fun x H1=>zn0 i x σ H1 D.nx) (g:=g) (te:=te) (RR:=compPost (model X.prog X.w) X.A X.xe (some (assign (.Name y py) X.env)) (fun _ s'=>SP X pins D .next s')) hc C I2 T st2 fo q hg he fun p E H' s' I' ns n hE q'=>?_;obtain⟨m,hm⟩:=ns;show wpAny _ X.A (assign (.Name y py) X.env (.ref p)) _ _ _;refine wpAny_assign_Name (zmq I' hN hy hx (show RelV (.ref p) (.ref p) from rfl) (fun s3 I3 hq_=>?_) hf hkn);obtain⟨b,sb,hb⟩:=hq_;refine⟨m,hm.sameBut sb (fun z=>?_),fun h' sb'=>⟨_,H',?_,q'⟩⟩
 ·rcases hb with hb | hb
  ·exact absurd (Nat.lt_of_lt_of_le I2.lt hE) (by rw[z,hb];exact Nat.lt_irrefl _)
  ·obtain⟨v,o,ho,_⟩:=I2.cell y b hb
   exact absurd (Nat.lt_of_lt_of_le (Heap.lt_size ho) hE) (by rw[z];exact Nat.lt_irrefl _)
 ·refine I3.turned (t':=s3.toks) (it:=E) (fun b o hb e=>sb'.extBut b o hb e) n (Nat.ne_of_gt (Nat.lt_of_lt_of_le I2.lt hE)) (.inr (Nat.le_trans I2.sz hE)) (fun x c e=>?_) fun p hp=>?_
  ·obtain⟨v,o,ho,_⟩:=I2.cell x c e
   exact Nat.ne_of_lt (Nat.lt_of_lt_of_le (Heap.lt_size ho) hE)
  ·exact Nat.ne_of_lt (Nat.lt_of_lt_of_le (Heap.lt_size (I2.pin p hp).1) hE)
end
section
variable {X:Cx}
theorem zjn(hc:X.calm=true):zju X (.type "list") (fun xs H Q=>∃a kvs,xs=[.ref a]/\Rd H a (.dK kvs)/\∀l,H l=none->Q (.ref l) (upd H l (.lst (kvs.map fun p=>kV p.1)))):=by
 intro pins s σ H xs us Q I r h;obtain⟨a,kvs,rfl,rd,q⟩:=h;obtain⟨u,rfl,ru⟩:=zs4 r;cases ru;obtain⟨zl,zm,vs,rv,d⟩:=zo8 I.hok rd;obtain⟨ep,da⟩:=d.dictAt;have hl:kvs.length=vs.length:=rv.length;refine W.kdl_call (W.kdl_dict (knd:=zbb X.prog X.w) (kvs:=vs) (ep:=ep) zm) (I.ok.hd hc) da (by omega) fun h' tk acc c k e items=>?_;refine⟨.ref s.heap.objs.size,_,I.laid (t':=tk) (o:=.lst (kvs.map fun p=>kV p.1)) k (Nat.le_refl _) ⟨by rw[List.length_map];exact zl,acc.toList,c,?_,by simpa using e⟩,rfl,q _ (I.hok.fresh (Nat.le_refl _))⟩;obtain⟨n1,n2⟩:=items;have go:∀(ks:List (Key×V)) (as:List Value),ks.length=as.length->(∀(j:Nat) (u:Value),as[j]?=some u->∃p:Key×V,ks[j]?=some p/\RelV (kV p.1) u)->Vals (ks.map fun p=>kV p.1) as:=by
  intro ks
  induction ks with
  |nil=>intro as hl _;cases as with|nil=>exact .nil | cons _ _=>simp at hl
  | cons p ks ih=>
    intro as hl h;cases as with
    |nil=>simp at hl
    | cons u as=>
      obtain⟨p',e1,r1⟩:=h 0 u rfl;simp at e1;subst e1;exact .cons r1 (ih as (by simpa using hl) fun j w' e=>by simpa using h (j+1) w' (by simpa using e))
 refine go kvs acc.toList (by have z:acc.toList.length=acc.size:=Array.length_toList;omega) fun j u e=>?_;obtain⟨k',x',e1,e2⟩:=n2 j u (by rw[<- Array.getElem?_toList];exact e);have hj:j<kvs.length:=by rw[hl];exact(List.getElem?_eq_some_iff.mp e1).1
 obtain⟨w',e3,_⟩:=rv.at (i:=j) (k:=(kvs[j]).1) (v:=(kvs[j]).2) (by simp[hj]);rw[e1] at e3;cases e3;exact⟨kvs[j],by simp[hj],ztd e2⟩
theorem ztf:zju X (.builtin "isinstance") (fun xs H Q=>∃x c cu t b,xs=[x,c]/\RelV c cu/\(∀u,RelV c u->u=cu)/\TyOf X.K H x t/\W.kitOne X.K t cu=some b/\Q (.bl b) H):=by
 intro pins s σ H xs us Q I r h;obtain⟨x,c,cu,t,b,rfl,_,hu,ty,e,q⟩:=h;obtain⟨u,w',rfl,rx,rc⟩:=Zbk r;cases hu w' rc;exact zyc I rx ty e fun tk=>⟨.bl b,H,I.tok tk,rfl,q⟩
theorem zrb:∀{ys:List Str} {us:List Value},Vals (ys.map V.str) us->StrsAre us ys
 |[],[],_=>.nil
 | y :: ys,u::us,h=>by
   cases h with
   | cons p t=>
     obtain⟨tk,rfl⟩:=p;exact .cons _ _ (zrb t)
 |[],_::_,h=>nomatch h
 |_::_,[],h=>nomatch h
theorem z54:MtR X "str.join" (fun x xs H Q=>∃z l ys,x=.str z/\xs=[.ref l]/\SqL X.K H l (ys.map V.str)/\(ys.map (·.length)).sum+ys.length*z.length<=16777216/\Q (.str (Txt.join z ys)) H):=by
 intro pins s σ H x xs v us Q I rx rv h;obtain⟨z,l,ys,rfl,rfl,sq,hz,q⟩:=h;obtain⟨t,rfl⟩:=rx;obtain⟨u,rfl,ru⟩:=rv.one;cases ru;obtain⟨its,r,pl,_⟩:=I.list sq;exact join_list pl.isList (zrb r) hz fun t' k=>⟨.str _,H,I.tok k,⟨t',rfl⟩,q⟩
theorem zyx{e:Expr}{te:TE}{pos:Pos}(he:PE X e te):PE X (.FormattedValue e 114 none pos) (fun σ H Q=>te σ H fun v H1=>∃y,v=.str y/\(reprText y).length<=sizeLine/\Q (.str (reprText y)) H1):=by
 intro pins s σ H Q I h;refine wpAny_FormattedValue_repr (thn (he pins s σ H _ I h) fun v s1 hq_=>?_);obtain⟨x,H1,I1,r,y,e,l,q⟩:=hq_;subst e;obtain⟨t,rfl⟩:=r;refine wpAny_pyReprObj_str (hsz:=l) ?_;exact formatField_str (hsz:=l) fun t' tk=>⟨.str _,H1,I1.tok tk,⟨t',rfl⟩,q⟩
def tJ:Str->List TE->TE
 |acc,[]=>fun _ H Q=>acc.length<=sizeLine/\Q (.str acc) H
 |acc,t::ts=>fun σ H Q=>t σ H fun v H1=>∃y,v=.str y/\(acc++y).length<=sizeLine/\tJ (acc++y) ts σ H1 Q
inductive PJ(X:Cx):List Expr->List TE->Prop where
 |nil:PJ X [] []
 |cons {e:Expr} {es:List Expr} {t:TE} {ts:List TE}:PE X e t->PJ X es ts->PJ X (e::es) (t::ts)
theorem z2c{es:List Expr}{ts:List TE}(hj:PJ X es ts):∀{acc:Str} {pins:List (Addr×Obj)} {s:Shared} {σ:St} {H:Hp} {Q:VK},Inv X pins σ H s->tJ acc ts σ H Q ->
  wpAny (model X.prog X.w) X.A (joinParts acc (evalEach es X.env)) (EP X pins σ Q) X.xe s:=by
 induction hj with
 |nil=>intro acc pins s σ H Q I h;exact joinParts_nil (hsz:=h.1) ⟨.str acc,H,I.tok _,⟨_,rfl⟩,h.2⟩
 | @cons e es t ts he hj ih=>
   intro acc pins s σ H Q I h;show wpAny _ _ (joinParts acc (eval e X.env::evalEach es X.env)) _ _ _;refine joinParts_cons (thn (he pins s σ H _ I h) fun v s1 hq_=>?_);obtain⟨x,H1,I1,r,y,e,l,q⟩:=hq_;subst e;obtain⟨tk,rfl⟩:=r;exact⟨l,ih I1 q⟩
theorem zm1{a b:Expr}{r:List Expr}{ts:List TE}{pos:Pos}(h:PJ X (a::b::r) ts):PE X (.JoinedStr (a::b::r) pos) (tJ Str.empty ts):=fun pins s σ H Q I q=>JoinedStr_many (z2c h I q)
end
theorem zyy{prog:Program}{w:World}{A:Around}{E:Value->Shared->Prop}{s:Shared}{Q:Int->Shared->Prop}(h:Q 0xFCA86420 { s with toks:=s.toks+1 }):wpAny (model prog w) A (pyHash .none) Q E s:=by
 have hT:s.TypeIs .none "NoneType":=rfl;show wpAny _ _ (pyHashByItsType .none) Q E s;unfold pyHashByItsType;refine wpAny_bind ?_;rw[cRoomFor,if_neg (by decide)];refine wpAny_pure ?_;refine wpAny_bind (wpAny_specialOf hT PySem.F.slot_NoneType_hash.lookup ?_);rw[if_neg (by decide)];refine wpAny_bind (wpAny_specialOf hT PySem.F.slot_NoneType_hash.lookup ?_);show wpAny _ _ (callSpecialIfBoundUnlessNone? .none "__hash__" _ >>= _) Q E s;refine wpAny_bind (wpAny_callSpecialIfBoundUnlessNone?_slot hT PySem.F.slot_NoneType_hash (wpAny_call_entry PySem.F.slot_NoneType_hash hT PySem.F.entry_NoneType_hash
  (show wpAny _ _ (do ret (<- mkInt 0xFCA86420)) _ _ s from wpAny_ret_mkInt ?_) (PySem.F.args_NoneType_hash_1 _)))
 show wpAny _ _ (if(decide (-(2:Int) ^ 63<=0xFCA86420)&&decide ((0xFCA86420:Int)<2 ^ 63))=true then _ else _) Q E _;rw[if_pos (by decide)];exact wpAny_pure h
def z55:Option Key->Value->Bool
 |none,.none=>true
 |none,_=>false
 |some k,v=>zqt k v
def optH(w:World):Option Key->Int
 |none=>0xFCA86420
 |some k=>keyH w k
theorem zd3{v:Value}(h:z55 none v=true):v=.none:=by
 cases v<;>first | rfl | cases h
theorem zpe{k:Key}(h:zqt k .none=true):False:=by
 rcases zbp h with⟨_,_,_,e⟩ | ⟨_,_,_,e⟩<;>cases e
def ztg (prog:Program) (w:World):PySem.KeyKind prog w (Option Key) where
 is:=z55
 hash:=optH w
 inj:=fun v a b ha hb=>by
  cases a with
  | none=>
    cases b with
    |none=>rfl
    |some b=>cases zd3 ha;exact(zpe hb).elim
  | some a=>
    cases b with
    |none=>cases zd3 hb;exact(zpe ha).elim
    |some b=>exact congrArg some ((zbb prog w).inj v a b ha hb)
 byValue:=fun k v h=>by
  cases k with
  |none=>cases zd3 h;rfl
  |some k=>exact(zbb prog w).byValue k v h
 pyHash:=fun {A E s k v Q} hv h=>by
  cases k with
  |none=>cases zd3 hv;exact zyy h
  |some k=>exact(zbb prog w).pyHash (k:=k) hv h
 eqBool:=fun {A E s a b u v Q} hu hv h=>by
  cases a with
  | none=>
    cases zd3 hu;cases b with
    |none=>cases zd3 hv;exact SeqAt.EqAt.same _ _ _ _ _ (by simpa using h)
    | some b=>
      rcases zbp hv with⟨i,t,rfl,rfl⟩ | ⟨x,t,rfl,rfl⟩
      ·exact SeqAt.EqAt.none_int _ _ _ _ _ _ (by simpa using h)
      ·exact SeqAt.EqAt.none_str _ _ _ _ _ _ (by simpa using h)
  | some a=>
    cases b with
    | none=>
      cases zd3 hv;rcases zbp hu with⟨i,t,rfl,rfl⟩ | ⟨x,t,rfl,rfl⟩
      ·exact SeqAt.EqAt.int_none _ _ _ _ _ _ (by simpa using h)
      ·exact SeqAt.EqAt.str_none _ _ _ _ _ _ (by simpa using h)
    |some b=>exact(zbb prog w).eqBool (a:=a) (b:=b) hu hv (by simpa using h)
 «strs»:=fun k x t v h=>by
  cases k with
  |none=>cases h
  |some k=>exact(zbb prog w).strs k x t v h
theorem z56{P:Program}{w:World}{h:Heap}{a:Addr}{vs:List (Key×Value)}(d:h.DictOf (zbb P w) a vs):∃f,h.MapOf (ztg P w) a f/\f none=none:=by
 obtain⟨o,es,ep,ho,ex,hd,keys,r⟩:=id d;refine⟨fun k=>findBy (ztg P w).is es k,⟨o,es,ep,ho,ex,hd,fun e he=>?_,fun k=>rfl⟩,?_⟩
 ·obtain⟨k,h1,h2⟩:=keys e he
  exact⟨some k,h1,h2⟩
 ·show findBy z55 es none=none
  unfold findBy;rw[Option.map_eq_none_iff,Array.find?_eq_none];intro e he z;obtain⟨k,h1,_⟩:=keys e he;rw[zd3 z] at h1;exact zpe h1
section
variable {X:Cx}{o i:Expr}{td ty:TE}
def Zbw(ty td:TE):TE:=fun σ H Q=>ty σ H fun y H1=>td σ H1 fun x H2=>∃a,x=.ref a/\((∃r,DGet H2 a y r/\Q (.bl r.isSome) H2)\/(y=.non/\(∃kvs,Rd H2 a (.dK kvs))/\Q (.bl false) H2))
theorem zyz(hu:X.A.units+1<cLine)(hi:PE X i ty)(ho:PE X o td):PC X .In i o (Zbw ty td):=by
 intro pins s σ H Q I h;refine thn (hi pins s σ H _ I h) fun v s1 hq_=>?_;obtain⟨y,H1,I1,ry,q1⟩:=hq_;refine thn (ho pins s1 σ H1 _ I1 q1) fun u s2 hq_=>?_;obtain⟨x,H2,I2,rx,a,ex,q2⟩:=hq_;subst ex;cases (show u=Value.ref a from rx);rcases q2 with⟨r,g,q⟩ | ⟨ey,⟨kvs,rd⟩,q⟩
 ·exact d_in hu I2 g ry fun s' I'=>⟨.bl _,H2,I',rfl,q⟩
 ·subst ey
  cases (show v=Value.none from ry);obtain⟨z,hd,vs,rel,dd⟩:=zo8 I2.hok rd;obtain⟨f,mf,fn⟩:=z56 dd;refine wpAny_in_of (knd:=ztg X.prog X.w) (k:=none) (f:=f) rfl hd mf ?_;rw[fn];exact⟨.bl false,H2,I2.tok _,rfl,q⟩
end
section
variable {X:Cx}
theorem z37:OpR X (compareOp .Is) (fun x y H Q=>∃a b,x=.bl a/\y=.bl b/\Q (.bl (a==b)) H):=by
 intro pins s σ H x y v u Q I rx ry h;obtain⟨a,b,rfl,rfl,q⟩:=h;cases rx;cases ry;refine wpAny_is_plain rfl ⟨.bl (a==b),H,I,?_,q⟩;show Value.bool (Value.bool a==Value.bool b)=Value.bool (a==b);cases a<;>cases b<;>rfl
end
section
variable {X:Cx}
theorem zpf{xs:List V}{i:Nat}{z:V}(f:xs.all zfs=true)(h:xs[i]?=some z):zfs z=true:=List.all_eq_true.mp f z (List.mem_of_getElem? h)
theorem Vals.at:∀{xs:List V} {us:List Value},Vals xs us->∀{i:Nat} {u:Value},us[i]?=some u->∃x,xs[i]?=some x/\RelV x u
 |_,_,.nil,i,u,h=>by simp at h
 | _,_,.cons r t,0,u,h=>by
   simp at h;subst h;exact⟨_,rfl,r⟩
 | _,_,.cons r t,i+1,u,h=>by
   obtain⟨x,h1,h2⟩:=Vals.at t (i:=i) (u:=u) (by simpa using h);exact⟨x,by simpa using h1,h2⟩
end
section
variable {X:Cx}{elt iter c tg:Expr}{pos:Pos}{g:TG}{tc:TT}{te:TE}{wi:TI}{scope:Scope}{cl:List (Str×Addr)}{ts xs:List Str}{js:List Nat}
theorem zth{i:Nat}{y:Str}{py spos:Pos}(hc:X.calm=true)(C:zfc X scope cl ts xs js)(hi:PI X tg iter wi)(hg:∀fp s3 H2,PG (zba X scope cl (ts++xs) fp s3 H2) tg g)(ht:∀fp s3 H2,PT (zba X scope cl (ts++xs) fp s3 H2) c tc)(he:∀fp s3 H2,PE (zba X scope cl (ts++xs) fp s3 H2) elt te)
  (hN:X.N.Nodup) (hy:X.N[i]?=some y) (hx:Loc X.env.scope y) (hkn:∀u:V,X.kn[i]?≠some (some u)) (hf:X.fn y=true\/X.env.scope.names.lookup y=some .local:=by first | exact .inl rfl | exact .inr rfl | assumption)
  (hsw:swapsWith (.ListComp elt [⟨tg,iter,[c],0⟩] scope pos) (some (.Name y py)) spos.line X.env=pure true:=by rfl)
  (hs:∀x,foldedSetIterable iter X.env x=pure x:=by intro _;rfl):PS X (.Assign [.Name y py] (.ListComp elt [⟨tg,iter,[c],0⟩] scope pos) spos) (tAsg (zte ts.length js wi g tc te) (zn0 i)):=by
 intro pins s σ H D I h;rw[exec_Assign_Name_used _ _ _ _ hsw];refine wpAny_bind (wpAny_standAt (wpAny_bind ?_));show wpAny _ X.A (do let _ <- comprehension (.ListComp elt [⟨tg,iter,[c],0⟩] scope pos) scope X.env _ (newList []) false (eval iter X.env) (some (assign (.Name y py) X.env))) _ _ s;refine wpAny_bind (wpAny_mono (wpAny_comprehension_free (use:=some (assign (.Name y py) X.env)) (Q:=fun _ s'=>SP X pins D .next s') rfl hs C.clos C.kind C.names (thn (hi pins s σ H _ I h) fun xv s1 h1=>thn h1 fun itv s2 h2=>?_)) (fun _ s' hq=>wpAny_pure (wpAny_pure hq)) fun _ _ e=>e);obtain⟨it,fp,tn,J,H1,rfl,I2,T,st2,fo,q⟩:=h2;refine zoj (Q:=fun x H1=>zn0 i x σ H1 D.nx) (g:=g) (tc:=tc) (te:=te) (RR:=compPost (model X.prog X.w) X.A X.xe (some (assign (.Name y py) X.env)) (fun _ s'=>SP X pins D .next s')) hc C I2 T st2 fo q hg ht he fun p E H' s' I' ns n hE q'=>?_;obtain⟨m,hm⟩:=ns;show wpAny _ X.A (assign (.Name y py) X.env (.ref p)) _ _ _;refine wpAny_assign_Name (zmq I' hN hy hx (show RelV (.ref p) (.ref p) from rfl) (fun s3 I3 hq_=>?_) hf hkn);obtain⟨b,sb,hb⟩:=hq_;refine⟨m,hm.sameBut sb (fun z=>?_),fun h' sb'=>⟨_,H',?_,q'⟩⟩
 ·rcases hb with hb | hb
  ·exact absurd (Nat.lt_of_lt_of_le I2.lt hE) (by rw[z,hb];exact Nat.lt_irrefl _)
  ·obtain⟨v,o,ho,_⟩:=I2.cell y b hb
   exact absurd (Nat.lt_of_lt_of_le (Heap.lt_size ho) hE) (by rw[z];exact Nat.lt_irrefl _)
 ·refine I3.turned (t':=s3.toks) (it:=E) (fun b o hb e=>sb'.extBut b o hb e) n (Nat.ne_of_gt (Nat.lt_of_lt_of_le I2.lt hE)) (.inr (Nat.le_trans I2.sz hE)) (fun x c e=>?_) fun p hp=>?_
  ·obtain⟨v,o,ho,_⟩:=I2.cell x c e
   exact Nat.ne_of_lt (Nat.lt_of_lt_of_le (Heap.lt_size ho) hE)
  ·exact Nat.ne_of_lt (Nat.lt_of_lt_of_le (Heap.lt_size (I2.pin p hp).1) hE)
end
end L2
namespace L2
open PySem PySem.Spec PyProof.Rows PySem.Builtin PySem.Builtin.ObjectAttr
def zel(C:Addr)(dx:Option Addr)(t:Addr):Obj:={ cls:=.ref C,dict:=dx,data:=.fields #[.ref t,.none,.none,.none,.bool false,.none] }
def zw4:List Value->List Value
 |.ref _::r=>zw4 r
 |l=>l
def zvb(l:List Value):Bool:=zw4 l==bmVE
theorem zm2(self:Value):∀l:List Value,refuseLoop self "__setattr__" l=refuseLoop self "__setattr__" (zw4 l)
 |[]=>rfl
 |v::r=>by cases v<;>first | rfl | (rw[refuseLoop_ref];exact zm2 self r)
theorem zvc(n:String):∀l:List Value,l.contains (.type n)=(zw4 l).contains (.type n)
 |[]=>rfl
 | v::r=>by
   cases v
   case ref a=>rw[List.contains_cons,show(Value.type n==Value.ref a)=false from rfl,Bool.false_or];exact zvc n r
   all_goals rfl
theorem zy0(self:Value){l:List Value}(e:zvb l=true):refuseLoop self "__setattr__" l=pure ():=by
 rw[zm2,show zw4 l=bmVE from eq_of_beq e];exact PySem.F.store_ValueError.passes self
theorem zy1{l:List Value}(e:zvb l=true){n:String}(h:bmVE.contains (.type n)=true):l.contains (.type n)=true:=by
 rw[zvc,show zw4 l=bmVE from eq_of_beq e];exact h
theorem z38{l:List Value}(e:zvb l=true):l.contains (.type "object")=true/\l.contains (.type "ValueError")=true/\l.isEmpty=false:=by
 refine⟨zy1 e (by decide +kernel),zy1 e (by decide +kernel),?_⟩;cases l with
 |nil=>cases e
 |cons _ _=>rfl
def zk1(K:W.Frag)(C:Addr):Bool:=(W.clsIn K C).any fun cd=>zvb cd.mro
structure XCls(K:W.Frag)(C:Addr):Prop where
 sa:W.findIn K (.ref C) "__setattr__" = some (some (.builtin "object.__setattr__"))
 hd:W.hasDictIn K C=true
 over:zk1 K C=true
section
variable {prog:Program}{w:World}{A:Around}{E:Value->Shared->Prop}{s:Shared}{K:W.Frag}{x C:Addr}{R:Result->Shared->Prop}
theorem xosa{ox:Obj}{od:Option Obj}{name:Str}{tk:Tok}{v:Value}(X:K.In s.heap)(I:W.InstAt s.heap x ox C od)(hp:zk1 K C=true)(hn:W.findIn K (.ref C) name=some none)
  (h:wpAny (model prog w) A.in1 (storeInOwnDict (.ref x) (.ref C) (.str name tk) name v false)
   (fun fin s'=>match fin with|.done f=>R (.ok f) s' | .again c'=>c'.quiet=true/\codeAny (model prog w) A c' R s') (fun e s'=>R (.error e) s') s) :
  codeAny (model prog w) A (.call (.builtin "object.__setattr__") ⟨[.ref x,.str name tk,v],[]⟩) R s:=by
 have SF:=PySem.F.store_object;obtain⟨cd,hc,ho⟩:=W.any_some hp;obtain⟨o1,o2,o3⟩:=z38 ho;have isob:W.Looks (model prog w) s.heap (isInstance (.ref x) (.type "object")) true:=
  I.type.andThen (W.looks_mroIn X (by unfold W.mroIn;rw[hc,Option.bind_some,if_neg (by rw[o3];decide),o1]))
 refine codeAny_call_builtin SF.slot.plain SF.entry (@W.check_slot (model prog w) _ _ s "object.__setattr__" "object" "__setattr__" (.ref x) [.str name tk,v] [] _ SF.kind SF.split isob (SF.args (.ref x) (.str name tk) v) ?_);have ml:W.Looks (model prog w) s.heap (mroOf (.ref C)) cd.mro:=(W.looks_clsIn X hc).andThen .now;rw[W.osa_eq,refuse_eq];refine wpAny_bind (wpAny_bind (I.type.here (wpAny_bind (ml.here ?_))));rw[zy0 _ ho];exact wpAny_pure (wpAny_bind (I.type.here (wpAny_bind ((W.looks_findIn X hn).here (wpAny_bind (wpAny_pure h))))))
theorem zy2{dx t:Addr}{mA:Str->Option Value}{name:Str}{v:Value}{ns:List Str}{Q:Unit->Shared->Prop}(X:K.In s.heap)(c:XCls K C)(hn:W.findIn K (.ref C) name=some none)
  (hx:s.heap.get? x=some (zel C (some dx) t)) (hne:dx≠x) (n:s.heap.Ns1 dx mA) (hw:PySem.Within mA ns) (hsz:ns.length<sizeLine)
  (h:∀h',h'.Ns1 dx (fun y=>if y=name then some v else mA y)->Heap.SameBut dx s.heap h'->Q () { s with heap:=h',toks:=s.toks+2 }) :
  wpAny (model prog w) A (setAttr (.ref x) name v) Q E s:=by
 obtain⟨od,ho,hl⟩:=zmt n;have J:W.InstAt s.heap x (zel C (some dx) t) C (some od):=⟨hx,rfl,rfl,ho⟩;refine W.set_plain X J c.sa (xosa (s:={ s with toks:=s.toks+1 }) X J c.over hn ?_);obtain⟨cd,hc,hd'⟩:=W.any_some c.hd;refine wpAny_bind (wpAny_pure (wpAny_bind (wpAny_bind (wpAny_loadPart hx (wpAny_bind (W.Looks.here (s:={ s with toks:=s.toks+1 }) (W.looks_clsIn X hc) ?_))))));rw[hd'];refine wpAny_pure (a:=some dx) (wpAny_bind (wpAny_pure (wpAny_bind ?_)));refine wpAny_nsSet1 (s:={ s with toks:=s.toks+1 }) n fun h' hn2 hs2=>?_;obtain⟨oD,esD,epD,hoD,hdD,hcD⟩:=hn2.count (PySem.Within.cons name v hw);refine wpAny_bind (wpAny_lookBehind hoD (by rw[hdD];exact pastItsLine_dict (Nat.le_trans hcD (by rw[List.length_cons];omega))) ?_);exact wpAny_pure (h _ hn2 hs2)
theorem zy3{t:Addr}{name:Str}{v:Value}{Q:Unit->Shared->Prop}(X:K.In s.heap)(c:XCls K C)(hn:W.findIn K (.ref C) name=some none)
  (hx:s.heap.get? x=some (zel C none t))
  (h:∀h',h'.Ns1 s.heap.objs.size (fun y=>if y=name then some v else none)->h'.get? x=some (zel C (some s.heap.objs.size) t)->(∀b o,b≠x->s.heap.get? b=some o->h'.get? b=some o)->Q () { s with heap:=h',toks:=s.toks+2 }) :
  wpAny (model prog w) A (setAttr (.ref x) name v) Q E s:=by
 have J:W.InstAt s.heap x (zel C none t) C none:=⟨hx,rfl,rfl,trivial⟩;refine W.set_plain X J c.sa (xosa (s:={ s with toks:=s.toks+1 }) X J c.over hn ?_);obtain⟨cd,hc,hd'⟩:=W.any_some c.hd;obtain⟨hh,g,d,tk,os⟩:=s;refine wpAny_bind (wpAny_pure (wpAny_bind (wpAny_bind (wpAny_loadPart hx (wpAny_bind (W.Looks.here (s:=⟨hh,g,d,tk+1,os⟩) (W.looks_clsIn X hc) ?_))))));rw[hd'];have hx1:(hh.push { cls:=.type "dict",data:=.dict #[] }).get? x=some (zel C none t):=Heap.get?_push_of_some _ hx;have hxs:x≠hh.objs.size:=Nat.ne_of_lt (Heap.lt_size hx);let h1:=(hh.push { cls:=.type "dict",data:=.dict #[] }).update x fun o=>{ o with dict:=some hh.objs.size };have gd:h1.get? hh.objs.size=some { cls:=.type "dict",data:=.dict #[] }:=(Heap.get?_update_ne _ _ _ _ hxs.symm).trans (Heap.get?_push_at rfl rfl);have gx:h1.get? x=some (zel C (some hh.objs.size) t):=Heap.get?_update_self _ hx1 rfl;have nd:h1.Ns hh.objs.size (fun _=>none):=⟨_,#[],_,gd,rfl,fun e he=>absurd he (by simp),fun _=>rfl⟩;have main:wpAny (model prog w) A.in1 (storeInDict hh.objs.size (.str name tk) name v) (fun fin s'=>match fin with|.done f=>(match f with|.ret _=>Q () s' | _=>False) | .again c'=>False) (fun _ _=>False) ⟨h1,g,d,tk+1,os⟩:=by
  unfold storeInDict newKeyGuard;refine wpAny_bind (wpAny_pure (wpAny_bind (wpAny_nsSet1 (Heap.Ns1.of_empty nd) fun h' hn' hs=>?_)));obtain⟨oD,esD,epD,hoD,hdD,hcD⟩:=hn'.count (Within.cons name v Within.nil);refine wpAny_bind (wpAny_lookBehind hoD (by rw[hdD];exact pastItsLine_dict (Nat.le_trans hcD (by rw[List.length_cons,List.length_nil,sizeLine_eq];omega))) ?_);refine wpAny_pure (h h' hn' ((hs.2 x hxs).trans gx) fun b o hb q=>(hs.2 b (Nat.ne_of_lt (Heap.lt_size q))).trans ((Heap.get?_update_ne _ _ _ _ hb).trans (Heap.get?_push_of_some _ q)))
 rw[if_neg (by decide)];show wpAny _ _ (if(!true || !typeHasDict (.ref C))=true then pure none else _) _ _ _;rw[if_neg (by simp[typeHasDict])];refine wpAny_bind (wpAny_alloc' (wpAny_bind (wpAny_update' hx1 (wpAny_pure (wpAny_mono main (fun fin s' z=>?_) fun _ _ z=>z.elim)))));rcases fin with(_ | _ | _ | _) | _<;>first | exact z | exact z.elim
noncomputable def zd8(K:W.Frag)(C fI:Addr):Bool:=match K.lookup C with
 | some ⟨.type "type",_,.cls cd,sl⟩=>(match cd.mro,sl.toList with
   |.ref C'::bm,[_,_,_,_,some (.builtin n),_]=>C'==C&&n == "ValueError.__new__" && !cd.hasDel&&W.tailIn K bmVE bm&&W.nsOkIn K cd.ns&&W.nsIn K cd.ns "__init__" == some (some (.ref fI))
   |_,_=>false)
 |_=>false
theorem z57{h:Heap}{N:Addr}{mN:Str->Option Value}{n:Str}{v:Value}(X:K.In h)(G:h.Ns N mN)(e:W.nsIn K N n=some (some v)):mN n=some v:=by
 obtain⟨ob,ents,_,g1,g2,_,look⟩:=G;unfold W.nsIn at e
 split at e
 case h_1 q=>
  have z:=X _ _ q;rw[g1] at z;cases z;cases g2;rw[<- look];unfold nsFind findBy;rw[<- Array.find?_toList]
  split at e
  case h_1 he=>cases e;rw[he];rfl
  case h_2=>split at e<;>cases e
 case h_2=>cases e
theorem zij{h:Heap}{fI:Addr}(X:K.In h)(q:zd8 K C fI=true) :
  ∃bm N nm qn bs hdct sn sub ab col dd k0 k1 k2 k3 k5 mN,h.get? C=some (excClassObj nm qn C N bs bm hdct sn sub ab col dd k0 k1 k2 k3 k5 "ValueError.__new__")/\h.Ns N mN/\mN "__init__" = some (.ref fI)/\OwnTail h bmVE bm:=by
 unfold zd8 at q
 split at q
 ·rename_i dct cdt slt look
  split at q
  ·rename_i C2 bm2 j0 j1 j2 j3 nid j5 em es
   simp only[Bool.and_eq_true,beq_iff_eq,Bool.not_eq_true'] at q;obtain⟨⟨⟨⟨⟨c1,c2⟩,c3⟩,tl⟩,okN⟩,noI⟩:=q;subst c1 c2;have ob:=X _ _ look;obtain⟨a1,a2,a3,a4,a5,a6,a7,a8,a9,b1,b2⟩:=cdt;have em:a3=.ref C2::bm2:=em;have c3:b2=false:=c3;have hsl:slt=#[j0,j1,j2,j3,some (.builtin "ValueError.__new__"),j5]:=by
    obtain⟨l⟩:=slt;exact congrArg Array.mk es
   rw[em,c3,hsl] at ob;exact⟨_,_,_,_,_,_,_,_,_,_,_,_,_,_,_,_,_,ob,.of_isNs (W.isNs_of_in X okN),z57 X (.of_isNs (W.isNs_of_in X okN)) noI,W.tail_of_in X tl⟩
  ·cases q
 ·cases q
theorem zti{B:Addr}{pl:Sem Bool}{Q:Value×List Value->Shared->Prop}(X:K.In s.heap)(hg:W.specialIn K (.ref B) "__getattribute__" = some (some (.builtin "type.__getattribute__")))
  (hr:W.readsIn K B (.type "type")=true) (e:W.findCls K (.ref B) (.type "type") "__init__" = some (.val (.builtin "ValueError.__init__")))
  (h:Q (.builtin "ValueError.__init__",[]) { s with toks:=s.toks+1 }):wpAny (model prog w) A (getMethod (.ref B) "__init__" pl) Q E s:=
 W.method_cls X hg (W.cls_value X hr e (by rfl) h)
theorem zw5{fI:Addr}{dx:Option Addr}{t:Addr}{m:Value}{Q:Value->Shared->Prop}(X:K.In s.heap)(q:zd8 K C fI=true)(hx:s.heap.get? x=some (zel C dx t))
  (h:∀h' t' tk',h'.get? x=some (zel C dx t')->(∀b o,b≠x->s.heap.get? b=some o->h'.get? b=some o)->Q .none { s with heap:=h',toks:=tk' }) :
  wpAny (model prog w) A (call (.builtin "ValueError.__init__") [.ref x,m]) Q E s:=by
 obtain⟨bm,N,nm,qn,bs,hdct,sn,sub,ab,col,dd,k0,k1,k2,k3,k5,mN,hC,hN,hni,T⟩:=zij X q;have F:=PySem.F.excBase_ValueError;obtain⟨hh,g,d,tk,os⟩:=s;refine wpAny_call (codeAny_call_builtin F.init.plain F.initEntry (wpAny_check_init_subT F T hC hx rfl ?_))
 wp_walk
 exact h _ hh.objs.size tk (by rw[Heap.get?_update_self _ (Heap.get?_push_of_some _ hx) rfl];rfl) fun b o hb q=>(Heap.get?_update_ne _ _ _ _ hb).trans (Heap.get?_push_of_some _ q)
structure z82(h h':Heap)(e C:Addr):Prop where
 keeps:∀b o,h.get? b=some o->h'.get? b=some o
 new:h.objs.size<=e
 obj:∃t,h'.get? e=some (zel C none t)
theorem zw6{fI:Addr}{oI:Obj}{us:List Value}{Q:Fin->Shared->Prop}(X:K.In s.heap)(q:zd8 K C fI=true)(hf:s.heap.get? fI=some oI)(hfc:oI.cls=.type "function")(hlen:us.length<=sizeLine)
  (hq:∀h' e,z82 s.heap h' e C->wpAny (model prog w) A (call (.ref fI) (.ref e::us)) (fun r s'=>r=.none/\Q (.done (.ret (.ref e))) s') E { s with heap:=h' }) :
  wpAny (model prog w) A (Builtin.«type.__call__» ⟨.ref C::us,[]⟩) Q E s:=by
 obtain⟨bm,N,nm,qn,bs,hdct,sn,sub,ab,col,dd,k0,k1,k2,k3,k5,mN,gC,gN,gi,T⟩:=zij X q;have F:=PySem.F.excBase_ValueError;obtain⟨hh,g,d,tk,os⟩:=s
 repeat (first | with_reducible refine wpAny_loadPart_at gC ?_ | with_reducible refine wpAny_madeBy_exc gC ?_ | wp_step)
 refine codeAny_call_builtin_code (Code.quiet_builtin _ F.quiet) (wpAny_check_new_subT F T gC ?_);refine codeAny_exc_new_subT F T gC ?_ hlen;let h1:=(hh.push { cls:=.type "tuple",data:=.seq us.toArray }).push { cls:=.ref C,data:=.fields #[.ref hh.objs.size,.none,.none,.none,.bool false,.none] };have kp:∀b o,hh.get? b=some o->h1.get? b=some o:=fun b o z=>Heap.get?_push_of_some _ (Heap.get?_push_of_some _ z);have ge:h1.get? (hh.objs.size+1)=some { cls:=.ref C,data:=.fields #[.ref hh.objs.size,.none,.none,.none,.bool false,.none] }:=by
  have:=Heap.get?_push_size (hh.push { cls:=.type "tuple",data:=.seq us.toArray }) (o:=zel C none hh.objs.size) rfl;rwa[Heap.size_push] at this
 have gC1:=kp _ _ gC;have self1:(Value.ref C::bm).contains (.ref C)=true:=by simp
 have gN1:h1.Ns N mN:=gN.keeps kp;show wpAny _ _ _ _ _ (⟨h1,g,d,tk,os⟩:Shared);unfold isInstance
 repeat (first | with_reducible refine wpAny_loadPart_at ge ?_ | (with_reducible refine wpAny_isSubtype_exc gC1 ?_;rw[self1]) | wp_step)
 show wpAny _ _ (typeLookup (.ref C) _) _ _ _;refine wpAny_typeLookup_tail gC1 gN1 (T.keeps kp) F.mroIs F.init.lookup ?_;rw[gi];refine wpAny_holding (wpAny_bind ?_);unfold bindSpecial;refine wpAny_bind (wpAny_typeOf (T := "function") ⟨_,kp _ _ hf,hfc⟩ ?_);rw[if_pos (by decide)];refine wpAny_pure (wpAny_bind (wpAny_mono (hq h1 (hh.objs.size+1) ⟨kp,Nat.le_succ _,_,ge⟩) (fun r s' z=>?_) fun _ _ z=>z));obtain⟨rfl,z⟩:=z
 wp_walk
 exact z
theorem Zbx{fI:Addr}{oI:Obj}{us:List Value}{Q:Value->Shared->Prop}(X:K.In s.heap)(q:zd8 K C fI=true)(hf:s.heap.get? fI=some oI)(hfc:oI.cls=.type "function")(hlen:us.length<=sizeLine)
  (hq:∀h' e,z82 s.heap h' e C->wpAny (model prog w) (A.under (.builtin "type.__call__" ⟨.ref C::us,[]⟩)) (call (.ref fI) (.ref e::us)) (fun r s'=>r=.none/\Q (.ref e) s') E { s with heap:=h' }) :
  wpAny (model prog w) A (call (.ref C) us) Q E s:=by
 obtain⟨bm,N,nm,qn,bs,hdct,sn,sub,ab,col,dd,k0,k1,k2,k3,k5,mN,gC,gN,gi,T⟩:=zij X q;have r1:=tc_lookup;have r2:=tc_bind (.ref C);have isT:s.TypeIs (.ref C) "type":=⟨_,gC,rfl⟩;refine wpAny_call (codeAny_of_tree ?_);show wpAny _ _ (callAny (.ref C) _) _ _ _;obtain⟨hh,g,d,tk,os⟩:=s
 repeat (any_goals (first | assumption | with_reducible refine wpAny_loadPart_at gC ?_ | wp_step))
 refine⟨rfl,?_⟩;exact codeAny_call_builtin_at (Code.quiet_builtin _ (by decide +kernel)) entry_typeCall (wpAny_check_type_call_sub gC (zw6 X q hf hfc hlen fun h' e mk=>hq h' e mk))
theorem z83{env:Env}{fI:Addr}{m:Sem Value}{Q:Flow->Shared->Prop}(q:zd8 K C fI=true)(hd:A.handled=none)
  (h:wpAny (model prog w) A m (fun v s1=>K.In s1.heap/\∃e t dx,v=.ref e/\s1.heap.get? e=some (zel C dx t)/\E (.ref e) s1) E s):wpAny (model prog w) A (raiseStmt env (some m) none) Q E s:=by
 unfold raiseStmt;refine wpAny_bind (wpAny_mono h (fun v s1 z=>?_) fun _ _ z=>z);obtain⟨X,e,t,dx,rfl,ge,hE⟩:=z;obtain⟨bm,N,nm,qn,bs,hdct,sn,sub,ab,col,dd,k0,k1,k2,k3,k5,mN,gC,gN,gi,T⟩:=zij X q;have isB:(Value.ref C::bm).contains (.type "BaseException")=true:=by rw[List.contains_cons,T.hasType PySem.F.excBase_ValueError.hasBase,Bool.or_true]
 obtain⟨hp,g,d,tk,os⟩:=s1;have ge:hp.get? e=some { cls:=.ref C,dict:=dx,data:=.fields #[.ref t,.none,.none,.none,.bool false,.none] }:=ge
 repeat (first | with_reducible refine wpAny_loadPart_at ge ?_ | with_reducible refine wpAny_loadPart_at gC ?_ | (with_reducible refine wpAny_isSubtype_exc gC ?_;rw[isB]) | wp_step)
 exact wpAny_raiseNew_none hd hE
theorem z84{env:Env}{fI:Addr}{y:Str}{np cpos pos:Pos}{args:List Expr}{Q:Flow->Shared->Prop}(q:zd8 K C fI=true)(hd:A.handled=none)(hpl:(backTo cpos (starEach args env)).any (·.1)=false)
  (h:wpAny (model prog w) A (eval (.Name y np) env) (fun f s1=>f=.ref C/\wpAny (model prog w) A (evalArgs (.ref C) true (backTo cpos (starEach args env)) []) (fun a s2=>a.kw=[]/\K.In s2.heap /\
   wpAny (model prog w) A (call (.ref C) a.pos) (fun v s3=>K.In s3.heap/\∃e t dx,v=.ref e/\s3.heap.get? e=some (zel C dx t)/\E (.ref e) s3) E s2) E s1) E s) :
  wpAny (model prog w) A (exec (.Raise (some (.Call (.Name y np) args [] cpos)) none pos) env) Q E s:=by
 rw[arm_exec_Raise];have core:wpAny (model prog w) A (eval (.Call (.Name y np) args [] cpos) env) (fun v s3=>K.In s3.heap/\∃e t dx,v=.ref e/\s3.heap.get? e=some (zel C dx t)/\E (.ref e) s3) E s:=by
  refine wpAny_Call_ofName (wpAny_mono h (fun f s1 z=>?_) fun _ _ z=>z);obtain⟨rfl,z⟩:=z;unfold callWith;refine wpAny_bind (wpAny_holding (wpAny_mono z (fun a s2 y2=>wpAny_bind (wpAny_standAt ?_)) fun _ _ z=>z));obtain⟨ap,ak⟩:=a;obtain⟨e1,X,y2⟩:=y2;obtain rfl:ak=[]:=e1;obtain⟨bm,N,nm,qn,bs,hdct,sn,sub,ab,col,dd,k0,k1,k2,k3,k5,mN,gC,gN,gi,T⟩:=zij X q;obtain⟨hp,g,d,tk,os⟩:=s2;simp only[hpl];refine wpAny_bind (wpAny_keeperOf_exc gC ?_);exact wpAny_bind (wpAny_mono y2 (fun v s3 z=>wpAny_bind (wpAny_holding (wpAny_point (wpAny_pure z)))) fun _ _ z=>z)
 exact wpAny_bind (wpAny_standAt (z83 q hd (wpAny_bind (wpAny_mono core (fun v s3 z=>wpAny_bind (wpAny_standAt (wpAny_pure z))) fun _ _ z=>z))))
end
end L2
namespace L2
open PySem PySem.Spec PyProof.Rows
def excO(x C:Addr)(dx:Option Addr):HO:=.ext fun h=>∃t,h.get? x=some (zel C dx t)
def unt(H:Hp)(a:Addr):Hp:=fun b=>if b=a then none else H b
theorem zlu{H:Hp}{a b:Addr}(h:b≠a):unt H a b=H b:=by unfold unt;rw[if_neg h]
theorem zkg{H:Hp}{a:Addr}:unt H a a=none:=by unfold unt;rw[if_pos rfl]
theorem z85{H:Hp}{a:Addr}{o:HO}(e:H a=some o):upd H a o=H:=by
 funext b;unfold upd;split
 ·rename_i z;rw[z,e]
 ·rfl
section
variable {P:Program}{w:World}{H:Hp}{h h':Heap}{x C d:Addr}{dx:Option Addr}{t:Addr}{fs fs':List (Str×V)}
theorem ztj(e:h.get? x=some (zel C dx t)):zc8 P w H h x (excO x C dx):=⟨⟨t,e⟩,⟨_,e⟩,fun _ _ z k=>let ⟨t,e⟩:=z;⟨t,k _ e⟩⟩
theorem zmk(ok:HOk P w H h)(e:H x=some (excO x C dx)):∃t,h.get? x=some (zel C dx t):=(ok x _ e).1
theorem HOk.writeX(ok:HOk P w H h)(hd:H d=some (.xd fs))(k:∀b u,b≠d->h.get? b=some u->h'.get? b=some u)(new:zc8 P w (upd H d (.xd fs')) h' d (.xd fs')):HOk P w (upd H d (.xd fs')) h':=fun b u q=>by
 by_cases hb:b=d
 ·subst hb;rw[zaj] at q;cases q;exact new
 ·rw[zai hb] at q
  refine(ok b u q).stay (fun c v hc r=>k c v ?_ r) (fun c r=>?_) fun c xs r=>?_
  ·rintro rfl
   rcases hc with z | z
   ·exact hb z.symm
   ·rw[hd] at z;cases z
  ·rw[zai];exact r
   rintro rfl;rw[hd] at r;cases r
  ·rw[zai];exact r
   rintro rfl;rw[hd] at r;cases r
theorem Un.writeX{fr ex:List Addr}(hd:H d=some (.xd fs))(k:∀b u,b≠d->h.get? b=some u->h'.get? b=some u)(hdo:∃u,h'.get? d=some u):Un fr ex H (upd H d (.xd fs')) h h':=by
 have ne:∀b,H b=none->b≠d:=fun b n z=>by rw[z,hd] at n;cases n
 refine⟨fun b u q n _ _=>k b u (ne b n) q,fun b u q n _ _=>⟨u.slots,k b u (ne b n) q⟩,fun b u q n _=>by rw[zai (ne b n)];exact n,fun b u q _=>?_,
  fun b xs q=>?_,fun b u xs q=>?_,fun b ps q=>⟨#[],?_⟩⟩
 ·by_cases z:b=d
  ·subst z;exact hdo
  ·exact⟨u,k b u z q⟩
 ·rw[zai];exact q
  rintro rfl;rw[hd] at q;cases q
 ·rw[zai];exact q
  rintro rfl;rw[hd] at q;cases q
 ·rw[zai,q];simp
  rintro rfl;rw[hd] at q;cases q
theorem HOk.unt(ok:HOk P w H h){φ:Heap->Prop}(e:H x=some (.ext φ)):HOk P w (unt H x) h:=fun b u q=>by
 by_cases hb:b=x
 ·subst hb;rw[zkg] at q;cases q
 ·rw[zlu hb] at q
  refine(ok b u q).stay (fun _ _ _ z=>z) (fun c r=>?_) fun c xs r=>?_
  ·rw[zlu];exact r
   rintro rfl;rw[e] at r;cases r
  ·rw[zlu];exact r
   rintro rfl;rw[e] at r;cases r
end
theorem mem_of_lookup{g:Str}{v:V}:∀{fs:List (Str×V)},fs.lookup g=some v->g∈fs.map (·.1)
 | (k,u)::r,e=>by
   by_cases z:g=k
   ·rw[z];exact List.mem_cons_self
   ·have hb:(g==k)=false:=beq_eq_false_iff_ne.mpr z
    rw[List.lookup,hb] at e;exact List.mem_cons_of_mem _ (mem_of_lookup e)
theorem zy4{fs:List (Str×V)}{mA:Str->Option Value}(r:∀f,RelO (fs.lookup f) (mA f)):PySem.Within mA (fs.map (·.1)):=fun g hg=>by
 have z:=r g;cases e:fs.lookup g with
 |some v=>exact mem_of_lookup e
 | none=>
   rw[e] at z;cases q:mA g with
   |none=>exact absurd q hg
   |some u=>rw[q] at z;exact z.elim
def zy5(K:W.Frag)(t:TA):TE:=fun σ H Q=>t σ H fun vs H1=>∃a m C fI dx,vs=[.ref a,m]/\H1 a=some (excO a C dx)/\zd8 K C fI=true/\Q .non H1
section
variable {X:Cx}{E:XK}{B:Addr}{y f:Str}{np apos pos pos':Pos}{e o value:Expr}{es:List Expr}{t:TA}{ta tv:TE}
theorem zvd{pl:Sem Bool}(hg:Gl X y)(hm:X.mg y=some (.ref B))(h1:W.specialIn X.K (.ref B) "__getattribute__" = some (some (.builtin "type.__getattribute__")))
  (h2:W.readsIn X.K B (.type "type")=true) (h3:W.findCls X.K (.ref B) (.type "type") "__init__" = some (.val (.builtin "ValueError.__init__"))) (ha:PA X (e::es) t)
  (hdb:(y==("__debug__" : Str))=false:=by decide) (hst:starEach (e::es) X.env=(false,eval e X.env)::starEach es X.env:=by rfl) (hpl:(backTo pos (starEach es X.env)).any (·.1)=false:=by rfl)
  (ht:eval (.Call (.Attribute (.Name y np) "__init__" apos) (e::es) [] pos) X.env=(do
   let ov <- eval (.Name y np) X.env
   standAt apos.atName
   let (f,first) <- holding [ov] (getMethod ov "__init__" pl)
   callWith pos f first (backTo pos (starEach (e::es) X.env)) (backToKw pos (keywordEach [] X.env))):=by rfl) :
  PE X (.Call (.Attribute (.Name y np) "__init__" apos) (e::es) [] pos) (zy5 X.K t):=by
 intro pins s σ H Q I h;refine W.methodCall_KW (pl:=pl) (zhe I hg hm ?_ hdb) ht;refine zti I.kIn h1 h2 h3 ?_;refine PyProof.Rows.callWith_builtin1 (thn (ha pos pins _ σ H _ (I.tok _) h) fun us s1 hq_=>?_) hst hpl;obtain⟨vs,H1,I1,r1,a,m,C,fI,dx,ev,ea,q,z⟩:=hq_;subst ev;cases r1 with
 | cons ra rm=>
   cases rm with
   | cons rm0 rn=>
     cases rn;obtain rfl:=(show _=Value.ref a from ra);obtain⟨t0,hx⟩:=zmk I1.hok ea;refine zw5 I1.kIn q hx fun h' t' tk' g k=>⟨.non,H1,?_,rfl,z⟩;have I2:=I1.write (h':=h') (t':=tk') (x:=a) (e:=a) (o:=excO a C dx) (by rw[ea];exact trivial) (.inl rfl) k ⟨_,g⟩ (ztj g);rw[z85 ea] at I2;exact I2
def z2d(K:W.Frag)(ta tv:TE)(f:Str):TS:=fun D σ H=>tv σ H fun y H1=>ta σ H1 fun x H2=>∃a C,x=.ref a/\XCls K C/\W.findIn K (.ref C) f=some none /\
 ((H2 a=some (excO a C none)/\∀d,H2 d=none->D.nx σ (upd (upd H2 a (excO a C (some d))) d (.xd [(f,y)]))) \/
  ∃d fs,H2 a=some (excO a C (some d))/\H2 d=some (.xd fs)/\fs.length<1000/\D.nx σ (upd H2 d (.xd (putF f y fs))))
theorem ztk(ha:PE X o ta)(hv:PE X value tv)(hs:swapsWith value (some (.Attribute o f pos')) pos.line X.env=pure false):PS X (.Assign [.Attribute o f pos'] value pos) (z2d X.K ta tv f):=by
 intro pins s σ H D I h;refine plainObj_wpAny_Assign_Attribute (thn (hv pins s σ H _ I h) fun u s1 hq_=>?_) hs;obtain⟨y,H1,I1,ry,q⟩:=hq_;refine thn (ha pins s1 σ H1 _ I1 q) fun ov s2 hq_=>?_;obtain⟨x,H2,I2,rx,a,C,ex,c,n,q2⟩:=hq_;subst ex;obtain rfl:ov=Value.ref a:=rx;rcases q2 with⟨ea,q2⟩ | ⟨d,fs,ea,ed,hl,q2⟩
 ·obtain⟨t,hx⟩:=zmk I2.hok ea
  refine zy3 I2.kIn c n hx fun h' n1 g k=>⟨σ,_,?_,q2 s2.heap.objs.size (I2.hok.fresh (Nat.le_refl _))⟩;have ha':a≠s2.heap.objs.size:=Nat.ne_of_lt (Heap.lt_size hx);have hd0:H2 s2.heap.objs.size=none:=I2.hok.fresh (Nat.le_refl _);have na:∀b,H2 b=none->b≠a:=fun b z w=>by rw[w,ea] at z;cases z
  have nd:∀b v,s2.heap.get? b=some v->b≠s2.heap.objs.size:=fun b v z=>Nat.ne_of_lt (Heap.lt_size z);have nk:∀b v,H2 b=some v->(∀φ,v≠.ext φ)->upd (upd H2 a (excO a C (some s2.heap.objs.size))) s2.heap.objs.size (.xd [(f,y)]) b=some v:=fun b v z w=>by
   rw[zai (fun q=>by rw[q,hd0] at z;cases z),zai (fun q=>by rw[q,ea] at z;cases z;exact w _ rfl)];exact z
  have un:Un X.fs [] H2 (upd (upd H2 a (excO a C (some s2.heap.objs.size))) s2.heap.objs.size (.xd [(f,y)])) s2.heap h':=
   ⟨fun b v z nn _ _=>k b v (na b nn) z,fun b v z nn _ _=>⟨v.slots,k b v (na b nn) z⟩,fun b v z nn _=>by rw[zai (nd b v z),zai (na b nn)];exact nn,
    fun b v z _=>(by
     by_cases w:b=a
     ·rw[w];exact⟨_,g⟩
     ·exact⟨v,k b v w z⟩),
    fun b xs z=>nk b _ z (by intro _ w;cases w),fun b v xs z=>nk b _ z (by intro _ w;cases w),fun b ps z=>⟨#[],by rw[nk b _ z (by intro _ w;cases w)];simp⟩⟩
  refine I2.un un fun b v z=>?_;by_cases w:b=s2.heap.objs.size
  ·subst w
   rw[zaj] at z;cases z;refine⟨_,n1,fun g'=>?_⟩;show RelO (List.lookup g' [(f,y)]) (if g'=f then some u else none);by_cases z2:g'=f
   ·have hb:(g'==f)=true:=beq_iff_eq.mpr z2
    simp only[List.lookup,hb,if_pos z2];exact ry
   ·have hb:(g'==f)=false:=beq_eq_false_iff_ne.mpr z2
    simp only[List.lookup,hb,if_neg z2];trivial
  ·rw[zai w] at z
   by_cases w2:b=a
   ·subst w2
    rw[zaj] at z;cases z;exact ztj g
   ·rw[zai w2] at z
    refine(I2.hok b v z).stay (fun c' v' hc r=>k c' v' ?_ r) (fun c' r=>nk c' _ r (by intro _ w;cases w)) fun c' xs r=>nk c' _ r (by intro _ w;cases w);rcases hc with q | q
    ·rw[q];exact w2
    ·rintro rfl;rw[ea] at q;cases q
 ·obtain⟨t,hx⟩:=zmk I2.hok ea
  obtain⟨mA,n1,r⟩:=I2.hok d _ ed;have hne:d≠a:=fun z=>by rw[z,ea] at ed;cases ed
  have wi:=zy4 r;refine zy2 I2.kIn c n hx hne n1 wi (by rw[List.length_map,sizeLine_eq];omega) fun h' n2 sb=>⟨σ,_,?_,q2⟩;obtain⟨od,_,_,hod,_⟩:=id n2;refine I2.un (Un.writeX ed (fun b v hb z=>(sb.2 b hb).trans z) ⟨od,hod⟩) (I2.hok.writeX ed (fun b v hb z=>(sb.2 b hb).trans z) ⟨_,n2,fun g=>?_⟩);show RelO ((putF f y fs).lookup g) (if g=f then some u else mA g);rw[zjv];by_cases z:g=f
  ·rw[if_pos z,if_pos z];exact ry
  ·rw[if_neg z,if_neg z];exact r g
end
def zkh(X:Cx)(E:XK):Prop:=∀(pins:List (Addr×Obj)) (σ:St) (H1:Hp) (s1:Shared) (H:Hp) (s:Shared) (ea C t:Addr) (dx:Option Addr),Inv X pins σ H1 s1->s1.heap.objs.size<=ea->Inv X pins σ H s ->
 H ea=some (excO ea C dx)->s.heap.get? ea=some (zel C dx t)->E (.ref C) dx (unt H ea)->X.xe (.ref ea) s
section
variable {P:Program}{w:World}{K:W.Frag}{mg:Str->Option Value}{base:Heap}{N:List Str}{qual:Str}{scope:Scope}{f:Addr}{cd:Value}{A:Around}{outer:List Env}{s₀:Shared}{H₀:Hp}{E:XK}
theorem zom:zkh (cxOf (CXE P w) P w K mg base N qual scope f cd A outer s₀ H₀ E) E:=by
 intro pins σ H1 s1 H s ea C t dx I1 hea I eH he hE;let X:=cxOf (CXE P w) P w K mg base N qual scope f cd A outer s₀ H₀ E;let B:=W.hideAll s.heap (ea::frs X.stack);have hfrl:∀b,b∈frs X.stack↔b=X.env.locals\/b∈frs outer:=fun b=>by
  show b∈X.env.locals::frs outer↔_;exact List.mem_cons
 have old:∀b o,s₀.heap.get? b=some o->b≠ea:=fun b o e=>Nat.ne_of_lt (Nat.lt_of_lt_of_le (Heap.lt_size e) (Nat.le_trans I1.sz hea));have hF:s.heap.FunFrames B X.stack:=W.funFrames_hide I.stack fun env hv a ha=>List.mem_cons_of_mem _ (List.mem_filterMap.mpr ⟨env,hv,ha⟩);have hB:B.get? ea=none:=W.hideAll_none _ List.mem_cons_self;have kB:∀b o,s.heap.get? b=some o->b≠ea->b∉frs X.stack->B.get? b=some o:=fun b o e n1 n2=>W.hideAll_get _ e fun m=>(List.mem_cons.mp m).elim n1 n2;have ntr:∀b v,H b=some v->(∀φ,v≠.ext φ)->unt H ea b=some v:=fun b v z q=>by
  rw[zlu (fun y=>by rw[y,eH] at z;cases z;exact q _ rfl)];exact z
 show wpAny (model P w) X.A (leaving X.env (.ref ea)) _ _ _;refine wpAny_mono (zoh (e:=ea) (d:=dx) zk0 ⟨_,he,rfl⟩ (wpAny_leaving_firstW (Q:=fun _ s2=>∃h1,s2={ s with heap:=h1 }/\Heap.LeftW B X.stack ea (.ref C) (.ref t) s.heap h1)
  (base:=B) (env:=X.env) (outer:=outer) (L:=X.env.locals) (a0:=.ref t) I.ok.frames hF rfl he (fun b o q=>W.of_hideAll _ q) hB rfl rfl rfl fun h1 k=>⟨h1,rfl,k⟩)) (fun _ s2 z=>?_) fun _ _ z=>z.1
 obtain⟨⟨h1,rfl,k1,⟨_,_,k2⟩,k3,k4⟩,hd1⟩:=z;refine⟨ea,.ref C,.ref t,B,unt H ea,dx,rfl,I.os,I.bare,⟨k1,hB,k2,k3⟩,?_,fun b o e n hb=>?_,fun b o e n hb=>?_,fun b o e n=>?_,fun b o e hb=>?_,fun b xs e=>?_,fun b o u e=>?_,fun b ps e=>?_,hd1,hE⟩
 ·refine HOk.hide (HOk.unt I.hok eH) fun b hb=>?_
  rcases List.mem_cons.mp hb with z | z
  ·rw[z];exact zkg
  ·by_cases q:b=ea
   ·rw[q];exact zkg
   ·rw[zlu q];exact I.stkFree b z
 ·have hL:b≠X.env.locals:=Nat.ne_of_lt (Nat.lt_of_lt_of_le (Heap.lt_size e) I.ok.above)
  refine kB b o (I.base.keep b o e n hb (by simp[cxOf])) (old b o e) fun m=>?_;rcases(hfrl b).mp m with z | z
  ·exact hL z
  ·exact hb z
 ·obtain⟨sl,e1⟩:=I.base.slot b o e n hb (by simp[cxOf])
  obtain⟨o',e',nd⟩:=(I.stack.mem ((hfrl b).mpr (.inr hb))).2;rw[e1] at e';cases e';obtain⟨sl',e2⟩:=k4 b _ e1 nd;exact⟨sl',e2⟩
 ·rw[zlu (old b o e)];exact I.base.free b o e n (by simp[cxOf])
 ·have hL:b≠X.env.locals:=Nat.ne_of_lt (Nat.lt_of_lt_of_le (Heap.lt_size e) I.ok.above)
  obtain⟨o',e1⟩:=I.base.there b o e (by simp[cxOf]);refine⟨o',kB b o' e1 (old b o e) fun m=>?_⟩;rcases(hfrl b).mp m with z | z
  ·exact hL z
  ·exact hb z
 ·exact ntr b _ (I.base.tups b xs e) (by intro _ z;cases z)
 ·exact ntr b _ (I.base.frzs b o u e) (by intro _ z;cases z)
 ·obtain⟨more,e1⟩:=I.base.tbls b ps e
  exact⟨more,ntr b _ e1 (by intro _ z;cases z)⟩
end
def z58(C:Addr)(sp:Sp)(E:XK)(t:TA):TS:=fun _ σ H=>t σ H fun vs H1=>vs.length<=sizeLine/\∀ea,H1 ea=none ->
 sp (.ref ea::vs) (upd H1 ea (excO ea C none)) (fun v H2=>v=.non/\∃dx,H2 ea=some (excO ea C dx)/\E (.ref C) dx (unt H2 ea)) E0
section
variable {X:Cx}{E:XK}{k:Nat}{C fI:Addr}{fd:FuncData}{ps:List Str}{sp:Sp}{y:Str}{np cpos pos:Pos}{e:Expr}{es:List Expr}{t:TA}
theorem zrc(hx:zkh X E)(hp:zdq (CXE X.prog X.w) X E0)(hc:X.calm=true)(q:zd8 X.K C fI=true)(hf:W.isFn X.K (.ref fI)=true)(F:FnOk X.prog X.w X.K X.mg X.base (CXE X.prog X.w) k fI fd ps sp)(hr:Room (k+1) X.A)(hb:ze5 X.K fd ps [])
  (hg:Gl X y) (hm:X.mg y=some (.ref C)) (ha:PA X (e::es) t)
  (hdb:(y==("__debug__" : Str))=false:=by decide) (he:starEach (e::es) X.env=(false,eval e X.env)::starEach es X.env:=by rfl) (hpl:(backTo cpos (starEach es X.env)).any (·.1)=false:=by rfl) :
  PS X (.Raise (some (.Call (.Name y np) (e::es) [] cpos)) none pos) (z58 C sp E t):=by
 intro pins s σ H D I h;refine z84 (K:=X.K) q (I.ok.hd hc) (by rw[he];show(false || (backTo cpos (starEach es X.env)).any (·.1))=false;rw[hpl];rfl) (zhe I hg hm ⟨rfl,?_⟩ hdb);have a:=ha cpos pins s σ H _ I h;rw[he] at a ⊢;refine Calls.evalArgs_plain (thn a fun us s2 ⟨vs,H2,I2,r,l,z⟩=>⟨rfl,I2.kIn,?_⟩);obtain⟨oI,g1,g2⟩:∃oI,s2.heap.get? fI=some oI/\oI.cls=.type "function":=by
  obtain⟨o,ho,hc'⟩:=Option.map_eq_some_iff.mp (show(X.K.lookup fI).map (·.cls)=some (.type "function") from eq_of_beq hf);exact⟨o,I2.kIn _ _ ho,hc'⟩
 refine Zbx I2.kIn q g1 g2 (by show us.length<=sizeLine;rw[<- r.length];exact l) fun h' ea mk=>?_;obtain⟨t0,ht0⟩:=mk.obj;have I3:Inv X pins σ (upd H2 ea (excO ea C none)) { s2 with heap:=h' }:=I2.laid (t':=s2.toks) mk.keeps mk.new (ztj ht0);have r2:Vals (V.ref ea::vs) (Value.ref ea::us):=.cons rfl r;have sq:=z ea (I2.hok.fresh mk.new);have hl:(Value.ref ea::us++[]).length=ps.length:=by
  rw[List.append_nil,<- r2.length];exact F.len _ _ _ _ sq
 have bb:=hb { s2 with heap:=h' } (Value.ref ea::us) I3.kIn hl;rw[List.append_nil] at bb;refine wpAny_call (codeAny_mono (F.run _ X.stack _ _ ⟨Value.ref ea::us,[]⟩ (Value.ref ea::us) _ _ E0 (hr.make C us []) (I3.env0.make C us []) bb r2 sq) fun r' s' hq=>?_);cases r' with
 |error ex=>exact hp pins σ _ _ ex s' I3 hq
 | ok fl=>
   cases fl with
   | ret u=>
     obtain⟨v,H',I4,rv,ev,dx,e4,q4⟩:=I3.after hq;subst ev;obtain⟨t4,g4⟩:=zmk I4.hok e4;exact⟨rv,I4.kIn,ea,t4,dx,rfl,g4,hx pins σ H2 s2 H' s' ea C t4 dx I2 mk.new I4 e4 g4 q4⟩
   |next=>exact False.elim hq
   |brk=>exact False.elim hq
   |cont=>exact False.elim hq
end
end L2
namespace L2
open PySem PySem.Spec PyProof.Rows PySem.Builtin PySem.Builtin.ObjectAttr
structure XGet(K:W.Frag)(C:Addr):Prop where
 ga:W.findIn K (.ref C) "__getattribute__" = some (some (.builtin "BaseException.__getattribute__"))
 gh:W.findIn K (.ref C) "__getattr__" = some none
 hd:W.hasDictIn K C=true
 over:zk1 K C=true
section
variable {prog:Program}{w:World}{A:Around}{E:Value->Shared->Prop}{s:Shared}{K:W.Frag}{x C:Addr}
theorem Zby{ox:Obj}{od:Option Obj}{name:Str}{tk:Tok}{fill expr:Bool}{Q:Value->Shared->Prop}(X:K.In s.heap)(c:XGet K C)(J:W.InstAt s.heap x ox C od)
  (h:wpAny (model prog w) A.in1 (Builtin.«object.__getattribute__» ⟨[.ref x,.str name tk],[]⟩) (fun fin s'=>match fin with|.done (.ret v)=>wpAny (model prog w) A (handedOut v) Q E s' | _=>False) (fun _ _=>False) s) :
  wpAny (model prog w) A (getAttrBy (.ref x) (.str name tk) fill expr) Q E s:=by
 have FB:=PySem.F.attrBase_ValueError;have neq:(onTheHeap (Value.ref C)&&Value.builtin "BaseException.__getattribute__" == Value.builtin "object.__getattribute__")=false:=by
  rw[show(Value.builtin "BaseException.__getattribute__" == Value.builtin "object.__getattribute__")=false from by decide +kernel,Bool.and_false]
 obtain⟨cd,gcd,gv⟩:=W.any_some c.over;have isB:W.Looks (model prog w) s.heap (isInstance (.ref x) (.type "BaseException")) true:=
  J.type.andThen (W.looks_mroIn X (by unfold W.mroIn;rw[gcd,Option.bind_some,if_neg (by rw[(z38 gv).2.2];decide),zy1 gv (by decide +kernel)]))
 unfold getAttrBy;refine wpAny_holding (wpAny_bind (J.type.here (wpAny_bind ((W.looks_findIn X c.ga).here ?_))));dsimp only;rw[neq,if_neg (by decide)];unfold getAttrByItsOwn;refine wpAny_bind ((W.looks_hook (r:=none) X (by rw[if_pos (by rfl)];exact c.gh)).here (wpAny_bind (wpAny_attempt (wpAny_holding ?_))));unfold callGetattribute;rw[show(expr&&onTheHeap (Value.builtin "BaseException.__getattribute__"))=false from by cases expr<;>rfl,if_neg (by decide)];unfold boundAndCalled;rw[FB.ga.bind];refine wpAny_bind (wpAny_pure ?_);show wpAny _ _ (call (.builtin "BaseException.__getattribute__") [.ref x,.str name tk]) _ _ _;refine wpAny_call (codeAny_call_builtin FB.ga.plain PySem.F.entry_bexc_ga ?_);refine @W.check_slot (model prog w) _ _ s "BaseException.__getattribute__" "BaseException" "__getattribute__" (.ref x) [.str name tk] [] _ (by decide +kernel) (by decide +kernel) isB (PySem.F.args_bexc_ga (.ref x) (.str name tk)) ?_;refine wpAny_mono h (fun fin s' z=>?_) fun _ _ z=>z.elim;rcases fin with(_ | _ | _ | _) | _<;>first | exact z | exact z.elim
theorem xget{dx:Addr}{ox:Obj}{mA:Str->Option Value}{name:Str}{v:Value}{expr:Bool}{Q:Value->Shared->Prop}(X:K.In s.heap)(c:XGet K C)(hn:W.findIn K (.ref C) name=some none)
  (hx:s.heap.get? x=some ox) (hc:ox.cls=.ref C) (hd:ox.dict=some dx) (hnc:W.notCls ox=true) (n:s.heap.Ns1 dx mA) (hv:mA name=some v) (hh:W.handedIn v=true) (h:Q v { s with toks:=s.toks+1 }) :
  wpAny (model prog w) A (getAttr (.ref x) name expr) Q E s:=by
 obtain⟨od,ho,hl⟩:=zmt n;have J:W.InstAt s.heap x ox C (some od):=⟨hx,hc,hnc,by rw[hd];exact ho⟩;have L:=W.looks_find (M:=model prog w) X J (W.findObj_own c.hd hn rfl (by rw[hl,hv]));unfold getAttr;refine wpAny_bind (wpAny_mkText (Zby (s:={ s with toks:=s.toks+1 }) X c J ?_));unfold Builtin.«object.__getattribute__»;refine wpAny_bind (wpAny_pure (wpAny_bind (wpAny_pure (wpAny_bind (W.Looks.here (s:={ s with toks:=s.toks+1 }) J.type (wpAny_bind (W.Looks.here (s:={ s with toks:=s.toks+1 }) L ?_)))))));refine wpAny_pure ?_;show wpAny _ _ (handedOut v) _ _ _;rw[W.handedOut_of hh];exact wpAny_pure h
end
def excL(x C:Addr)(dx:Option Addr):HO:=.ext fun h=>∃o,h.get? x=some o/\o.cls=.ref C/\o.dict=dx/\W.notCls o=true
theorem z59{P:Program}{w:World}{H:Hp}{h:Heap}{x C:Addr}{dx:Option Addr}{o:Obj}(e:h.get? x=some o)(e1:o.cls=.ref C)(e2:o.dict=dx)(e3:W.notCls o=true):zc8 P w H h x (excL x C dx):=
 ⟨⟨o,e,e1,e2,e3⟩,⟨o,e⟩,fun _ _ z k=>let ⟨o,e,e1⟩:=z;⟨o,k _ e,e1⟩⟩
theorem z2e{P:Program}{w:World}{H:Hp}{h:Heap}{x C:Addr}{dx:Option Addr}(ok:HOk P w H h)(e:H x=some (excL x C dx)):∃o,h.get? x=some o/\o.cls=.ref C/\o.dict=dx/\W.notCls o=true:=(ok x _ e).1
def goes(i:Nat)(D:Ends):Ends:={ nx:=fun σ H=>D.nx (σ.set i none) H,bk:=fun σ H=>D.bk (σ.set i none) H,ct:=fun σ H=>D.ct (σ.set i none) H,rt:=D.rt }
def z86(K:W.Frag)(D:Addr)(i:Nat)(ts:TS)(tr:THd):THd:=fun cls dx ea En σ H=>∃C bmC,cls=.ref C/\zd2 K C=some bmC /\
 if(Value.ref C::bmC).contains (.ref D)=true then(H ea=none->ts (goes i En) (σ.set i (some (.ref ea))) (upd H ea (excL ea C dx))) else tr cls dx ea En σ H
section
variable {X:Cx}
theorem zve{es:Array DictEntry}(sk:StrKeys es){oc:Value}{od:Option Addr}{ep:Nat}{osl:Array (Option Value)}(y:Str):nsLookByArray y ⟨oc,od,.dict es ep,osl⟩=pure (nsFind es y):=by
 unfold nsLookByArray nsFind findBy;dsimp only;cases q:es.find? (fun e=>e.key.isStr y) with
 |some en=>rfl
 | none=>
   have noref:(es.any fun e=>e.refKey)=false:=by
    rw[Array.any_eq_false'];intro en hen;obtain⟨_,_,z⟩:=sk en hen;simp[DictEntry.refKey,z]
   dsimp only;rw[noref];rfl
theorem zw7{M:Model}{A:Around}{E:Value->Shared->Prop}{s:Shared}{a:Addr}{m:Str->Option Value}{name:Str}{u:Value}{Q:Bool->Shared->Prop}(hn:s.heap.Ns a m)(hu:m name=some u)
  (hQ:∀h' m',h'.Ns a m'->(∀y,y≠name->m' y=m y)->Heap.SameBut a s.heap h'->Q true { s with heap:=h' }):wpAny M A (nsDel a name) Q E s:=by
 obtain⟨o,es,ep,ho,hd,sk,look⟩:=hn;obtain⟨en,gen,_⟩:=Option.map_eq_some_iff.mp (show(es.find? fun e=>e.key.isStr name).map (·.val)=some u from(look name).trans hu);have gk:en.key.isStr name=true:=by
  have:=Array.find?_some (p:=fun e:DictEntry=>e.key.isStr name) gen;exact this
 have isIn:(es.any fun e=>e.key.isStr name)=true:=Array.any_eq_true'.mpr ⟨en,Array.mem_of_find?_eq_some gen,gk⟩;obtain⟨j,hj⟩:∃j,es.findIdx? (fun e=>e.key.isStr name)=some j:=by
  cases q:es.findIdx? (fun e=>e.key.isStr name) with
  |some j=>exact⟨j,rfl⟩
  | none=>
    have:=(Array.findIdx?_eq_none_iff.mp q) en (Array.mem_of_find?_eq_some gen);rw[gk] at this;cases this
 have has:nsHas name o=pure true:=by
  rw[nsHas_eq];unfold nsHasByArray;rw[hd];show(if(es.any fun e=>e.key.isStr name)=true then _ else _)=_;rw[isIn];rfl
 unfold nsDel;refine wpAny_bind (wpAny_loadPart ho ?_);rw[has];refine wpAny_bind (wpAny_pure (wpAny_bind (wpAny_updatePart ho (wpAny_pure ?_))));obtain⟨oc,od,odt,osl⟩:=o;have hd:odt=.dict es ep:=hd;subst hd;have e1:Obj.dropName name ⟨oc,od,.dict es ep,osl⟩=⟨oc,od,.dict (es.eraseIdxIfInBounds j) (ep+1),osl⟩:=by rw[Obj.dropName_eq];simp only[Obj.dropNameByArray,hj]
 have sk2:=sk.erase j;refine hQ _ (nsFind (es.eraseIdxIfInBounds j)) ⟨_,_,_,Heap.get?_update_self _ ho (by rw[e1];rfl),by rw[e1],sk2,fun _=>rfl⟩ (fun y hy=>?_) (Heap.SameBut.update ..);have l1:=nsLook_dropName hy ⟨oc,od,.dict es ep,osl⟩;rw[e1,nsLook_eq,zve sk2,zve sk] at l1;have l2:nsFind (es.eraseIdxIfInBounds j) y=nsFind es y:=by injection l1
 rw[l2,look]
theorem Inv.gone{pins:List (Addr×Obj)}{σ:St}{H:Hp}{s:Shared}{i:Nat}{x:Str}{h':Heap}{t':Nat}{m m':Str->Option Value}(I:Inv X pins σ H s)(hN:X.N.Nodup)(hi:X.N[i]?=some x)(hk:∀u:V,X.kn[i]?≠some (some u))
  (hm:∀(j:Nat) (y:Str) (v:V),X.N[j]?=some y->σ[j]?=some (some v)->Vis X.env.scope y->∃u,RelV v u/\Look X.env s.heap m y u)
  (hn:h'.Ns X.env.locals m') (oth:∀y,y≠x->m' y=m y) (sb:Heap.SameBut X.env.locals s.heap h'):Inv X pins (σ.set i none) H { s with heap:=h',toks:=t' }:=by
 have hL:∀b o,X.s₀.heap.get? b=some o->b≠X.env.locals:=fun b o e=>Nat.ne_of_lt (Nat.lt_of_lt_of_le (Heap.lt_size e) I.ok.above);have hiσ:i < σ.length:=by rw[I.len];exact(List.getElem?_eq_some_iff.mp hi).1
 refine⟨I.ok,I.os,I.bare,⟨fun b o e n hb hx=>(sb.2 b (hL b o e)).trans (I.base.keep b o e n hb hx),fun b o e n hb hx=>?_,I.base.free,fun b o e hx=>?_,I.base.tups,I.base.frzs,I.base.tbls⟩,⟨m',hn,fun j y v e1 e2 e3=>?_⟩,fun y c e=>?_,I.free,I.freeC,fun p hp=>?_,fun b ob e=>?_,?_,fun j v e=>?_⟩
 ·obtain⟨sl,e1⟩:=I.base.slot b o e n hb hx
  exact⟨sl,(sb.2 b (hL b o e)).trans e1⟩
 ·obtain⟨o',e1⟩:=I.base.there b o e hx
  exact⟨o',(sb.2 b (hL b o e)).trans e1⟩
 ·by_cases hj:j=i
  ·subst hj
   rw[List.getElem?_set_self hiσ] at e2;cases e2
  ·rw[List.getElem?_set_ne (Ne.symm hj)] at e2
   obtain⟨u',r',q⟩:=hm j y v e1 e2 e3;refine⟨u',r',?_⟩;rcases q with⟨k,e⟩ | ⟨k,c,e,z⟩
   ·exact .inl ⟨k,by rw[oth y fun w=>hj (zo6 hN e1 (w▸hi))];exact e⟩
   ·exact .inr ⟨k,c,e,z.sameBut sb (I.cne y c e)⟩
 ·obtain⟨w',z⟩:=I.cell y c e
  exact⟨w',z.sameBut sb (I.cne y c e)⟩
 ·obtain⟨e,n,ne,nf,d⟩:=I.pin p hp
  exact⟨(sb.2 p.1 ne).trans e,n,ne,nf,d⟩
 ·refine(I.hok b ob e).stay (fun c w' hc q=>(sb.2 c ?_).trans q) (fun _ q=>q) fun _ _ q=>q
  rintro rfl;rcases hc with z | z
  ·rw[<- z,I.free] at e;cases e
  ·rw[I.free] at z;cases z
 ·show(σ.set i none).length=_
  rw[List.length_set];exact I.len
 ·by_cases hj:j=i
  ·subst hj;exact absurd e (hk v)
  ·rw[List.getElem?_set_ne (Ne.symm hj)];exact I.kn j v e
theorem zki{pins:List (Addr×Obj)}{σ:St}{H:Hp}{s:Shared}{A:Around}{E:Value->Shared->Prop}{i:Nat}{x:Str}{pos:Pos}{Q:Unit->Shared->Prop}(I:Inv X pins σ H s)(hN:X.N.Nodup)(hi:X.N[i]?=some x)(hx:X.env.scope.names.lookup x=some .local)(hk:∀u:V,X.kn[i]?≠some (some u))
  (h:∀s',Inv X pins (σ.set i none) H s'->Q () s'):wpAny (model X.prog X.w) A (do bindName X.env x .none;unbindBehindTheSuite X.env x pos) Q E s:=by
 have nocls:(X.env.scope.kind==.class || (X.env.scope.kind==.module&&X.env.locals != X.env.globals))=false:=by rw[I.ok.kind];rfl
 have kx:X.env.kindOf x=some .local:=hx;have hiσ:i < σ.length:=by rw[I.len];exact(List.getElem?_eq_some_iff.mp hi).1
 refine wpAny_bind (wpAny_bindName (zmd (v:=.non) I hN hi (.inl hx) rfl (fun s1 I1=>?_) (.inr hx) hk));obtain⟨m,hn,hl⟩:=id I1.loc;obtain⟨u,_,lk⟩:=hl i x .non hi (List.getElem?_set_self hiσ) (.inl hx);have hu:m x=some u:=by
  rcases lk with⟨_,z⟩ | ⟨z,_⟩
  ·exact z
  ·rw[kx] at z;rcases z with z | z<;>cases z
 unfold unbindBehindTheSuite unbindName deleteName;refine wpAny_onRaise (wpAny_bind (wpAny_point (wpAny_bind ?_)));simp only[kx,nocls];rw[if_neg (by decide)];refine wpAny_bind (zw7 hn hu fun h' m' hn' oth sb=>?_);simp only[Bool.not_true,Bool.false_eq_true,if_false];refine wpAny_pure (wpAny_point ?_);have I2:=I1.gone (t':=s1.toks) hN hi hk hl hn' oth sb;rw[List.set_set] at I2;exact h _ I2
theorem z2f{D:Addr}{bmD:List Value}{i:Nat}{x n:Str}{np pos:Pos}{b₀:Stmt}{suite:List Stmt}{rest:List ExceptHandler}{ts:TS}{tr:THd}(hg:Gl X x)(hm:X.mg x=some (.ref D))(qD:zd2 X.K D=some bmD)(hN:X.N.Nodup)(hi:X.N[i]?=some n)(hx:X.env.scope.names.lookup n=some .local)(hk:∀u:V,X.kn[i]?≠some (some u))
  (hs:∀ea,PSs (X.inExc ea) (b₀::suite) ts) (hr:PH X rest tr) (hdb:(x==("__debug__" : Str))=false:=by decide) :
  PH X (.ExceptHandler (some (.Name x np)) (some n) (b₀::suite) pos::rest) (z86 X.K D i ts tr):=by
 intro pins s σ H En ea cls a0 dx B ok car car2 fly hd h;obtain⟨C,bmC,rfl,qC,h⟩:=h;have I:Inv X pins σ H s:=car s.heap fly.1 (.refl _);have I':=I.inExc ea;obtain⟨oe,hoe,hoc⟩:=fly.there;refine wpAny_handleBy_cons (codeAny_handlers_test ?_) (by intro q;cases q);refine zhe (X:=X.inExc ea) I' hg hm ?_ hdb;refine zjm I.kIn qC qD hoe hoc ?_;cases c:(Value.ref C::bmC).contains (.ref D) with
 | false=>
   rw[c] at h;exact hr pins s σ H En ea _ a0 dx B ok car car2 fly hd (by simpa using h)
 | true=>
   rw[c] at h;have h:H ea=none->ts (goes i En) (σ.set i (some (.ref ea))) (upd H ea (excL ea C dx)):=by simpa using h
   refine codeAny_handlers_suite_as ?_;refine wpAny_mono (zoh zmz hd.1 (lands_againW (Q:=fun _ s2=>∃h6,s2={ s with heap:=h6 }/\Heap.FlyingW B X.stack ea (.ref C) a0 h6/\Heap.UpToSlots s.heap h6) fly fun h6 fly6 sm6=>⟨h6,rfl,fly6,sm6⟩)) (fun _ s2 z=>?_) fun _ _ z=>z.1;obtain⟨⟨h6,rfl,fly6,sm6⟩,oh,go,gd⟩:=z;obtain⟨o1,vs1,g1,g2,g3,_⟩:=fly6.first
   have go:h6.get? ea=some oh:=go;rw[g1] at go;cases go;have I6:Inv X pins σ (upd H ea (excL ea C dx)) { s with heap:=h6 }:=car2 h6 _ fly6.1 sm6 (z59 g1 g2 gd (by unfold W.notCls;rw[g3]));refine zmd (X:=X.inExc ea) (v:=.ref ea) (I6.inExc ea) hN hi (.inl hx) rfl (fun s3 I3=>?_) (.inr hx) hk;refine wpAny_mono (hs ea pins s3 _ _ (goes i En) I3 (h hd.2)) (fun f s4 q=>?_) fun _ _ z=>z.elim;cases f with
   |next=>obtain⟨a,b,c,d⟩:=q;exact zki (c.outExc ok) hN hi hx hk fun s5 I5=>⟨_,_,I5,d⟩
   |brk=>obtain⟨a,b,c,d⟩:=q;exact zki (c.outExc ok) hN hi hx hk fun s5 I5=>⟨_,_,I5,d⟩
   |cont=>obtain⟨a,b,c,d⟩:=q;exact zki (c.outExc ok) hN hi hx hk fun s5 I5=>⟨_,_,I5,d⟩
   |ret u=>obtain⟨v,a,b,c,r,d⟩:=q;exact zki (c.outExc ok) hN hi hx hk fun s5 I5=>⟨v,_,_,I5,r,d⟩
variable {e:Expr}{f:Str}{pos:Pos}{ta:TE}
def tXat(K:W.Frag)(ta:TE)(f:Str):TE:=fun σ H Q=>ta σ H fun x H1=>∃a C d fs v,x=.ref a/\H1 a=some (excL a C (some d))/\XGet K C/\W.findIn K (.ref C) f=some none/\H1 d=some (.xd fs)/\fs.lookup f=some v/\Q v H1
theorem z87(he:PE X e ta)(hb:attributeBase e f X.env (eval e X.env)=eval e X.env):PE X (.Attribute e f pos) (tXat X.K ta f):=by
 intro pins s σ H Q I h;refine zyb hb (thn (he pins s σ H _ I h) fun u s1 hq_=>?_);obtain⟨x,H1,I1,rx,a,C,d,fs,v,ex,ea,c,n,ed,l,q⟩:=hq_;subst ex;obtain rfl:u=Value.ref a:=rx;obtain⟨o,g1,g2,g3,g4⟩:=z2e I1.hok ea;obtain⟨mA,n1,r⟩:=I1.hok d _ ed;obtain⟨u',hu,ru⟩:=RelO.some_of (v:=v) (o:=mA f) (by rw[<- l];exact r f);exact xget I1.kIn c n g1 g2 g3 g4 n1 hu (zqv ru) ⟨v,H1,I1.tok _,ru,q⟩
end
end L2
namespace MF
open PySem L2
inductive T where
 |non | bl (b:Bool) | int (i:Int) | str (x:Str) | lst (ts:List T) | tup (ts:List T) | dic (kvs:List (Key×T)) | obj (k:Nat)
inductive Cell where
 |lst (ts:List T) | dic (kvs:List (Key×T)) | ins (C:Addr) (fs:List (Str×T)) | exc (C:Addr) (fs:Option (List (Str×T))) | lck (kvs:List (Key×T))
abbrev Sto:=List Cell
structure Wd where
 HS:Hp
 μ:Nat->Addr
 n:Nat
 Z:Addr->Option (Obj×HO)
 P:Hp
structure Wd.le(W W':Wd):Prop where
 hs:∀a o,W.HS a=some o->W'.HS a=some o
 z:∀a o,W.Z a=some o->W'.Z a=some o
 p:∀a o,W.P a=some o->W'.P a=some o
 n:W.n<=W'.n
 μ:∀k,k<W.n->W'.μ k=W.μ k
theorem Wd.le.refl(W:Wd):W.le W:=⟨fun _ _ h=>h,fun _ _ h=>h,fun _ _ h=>h,Nat.le_refl _,fun _ _=>rfl⟩
theorem Wd.le.trans{W W1 W2:Wd}(a:W.le W1)(b:W1.le W2):W.le W2:=
 ⟨fun x o h=>b.hs x o (a.hs x o h),fun x o h=>b.z x o (a.z x o h),fun x o h=>b.p x o (a.p x o h),Nat.le_trans a.n b.n,fun k h=>(b.μ k (Nat.lt_of_lt_of_le h a.n)).trans (a.μ k h)⟩
mutual
def Den(W:Wd):T->V->Prop
 |.non,v=>v=.non
 |.bl b,v=>v=.bl b
 |.int i,v=>v=.int i
 |.str x,v=>v=.str x
 |.lst ts,v=>∃a vs,v=.ref a/\W.HS a=some (.lst vs)/\Dens W ts vs
 |.tup ts,v=>∃a vs,v=.ref a/\W.HS a=some (.tup vs)/\Dens W ts vs
 |.dic kvs,v=>∃a ks,v=.ref a/\W.HS a=some (.dK ks)/\DenK W kvs ks
 |.obj k,v=>v=.ref (W.μ k)/\k<W.n
def Dens(W:Wd):List T->List V->Prop
 |[],vs=>vs=[]
 |t::ts,vs=>∃v r,vs=v::r/\Den W t v/\Dens W ts r
def DenK(W:Wd):List (Key×T)->List (Key×V)->Prop
 |[],vs=>vs=[]
 |(k,t)::ts,vs=>∃v r,vs=(k,v)::r/\Den W t v/\DenK W ts r
end
mutual
theorem Den.mono{W W':Wd}(l:W.le W'):∀(t:T) (v:V),Den W t v->Den W' t v
 |.non,_,h=>by simpa[Den] using h
 |.bl _,_,h=>by simpa[Den] using h
 |.int _,_,h=>by simpa[Den] using h
 |.str _,_,h=>by simpa[Den] using h
 | .lst ts,v,h=>by
   obtain⟨a,vs,e,h1,h2⟩:=(by simpa only[Den] using h:∃a vs,v=.ref a/\W.HS a=some (.lst vs)/\Dens W ts vs);simp only[Den];exact⟨a,vs,e,l.hs _ _ h1,Dens.mono l ts vs h2⟩
 | .tup ts,v,h=>by
   obtain⟨a,vs,e,h1,h2⟩:=(by simpa only[Den] using h:∃a vs,v=.ref a/\W.HS a=some (.tup vs)/\Dens W ts vs);simp only[Den];exact⟨a,vs,e,l.hs _ _ h1,Dens.mono l ts vs h2⟩
 | .dic ks,v,h=>by
   obtain⟨a,vs,e,h1,h2⟩:=(by simpa only[Den] using h:∃a vs,v=.ref a/\W.HS a=some (.dK vs)/\DenK W ks vs);simp only[Den];exact⟨a,vs,e,l.hs _ _ h1,DenK.mono l ks vs h2⟩
 | .obj k,v,h=>by
   obtain⟨e,h1⟩:=(by simpa only[Den] using h:v=.ref (W.μ k)/\k<W.n);simp only[Den];exact⟨by rw[l.μ k h1];exact e,Nat.lt_of_lt_of_le h1 l.n⟩
theorem Dens.mono{W W':Wd}(l:W.le W'):∀(ts:List T) (vs:List V),Dens W ts vs->Dens W' ts vs
 |[],vs,h=>by simpa only[Dens] using h
 | t::ts,vs,h=>by
   obtain⟨v,r,e,h1,h2⟩:=(by simpa only[Dens] using h:∃v r,vs=v::r/\Den W t v/\Dens W ts r);simp only[Dens];exact⟨v,r,e,Den.mono l t v h1,Dens.mono l ts r h2⟩
theorem DenK.mono{W W':Wd}(l:W.le W'):∀(ts:List (Key×T)) (vs:List (Key×V)),DenK W ts vs->DenK W' ts vs
 |[],vs,h=>by simpa only[DenK] using h
 | (k,t)::ts,vs,h=>by
   obtain⟨v,r,e,h1,h2⟩:=(by simpa only[DenK] using h:∃v r,vs=(k,v)::r/\Den W t v/\DenK W ts r);simp only[DenK];exact⟨v,r,e,Den.mono l t v h1,DenK.mono l ts r h2⟩
end
section
variable {W:Wd}
theorem zco{v:V}:Den W .non v↔v=.non:=by simp only[Den]
theorem zbl{b:Bool}{v:V}:Den W (.bl b) v↔v=.bl b:=by simp only[Den]
theorem zay{i:Int}{v:V}:Den W (.int i) v↔v=.int i:=by simp only[Den]
theorem zbm{x:Str}{v:V}:Den W (.str x) v↔v=.str x:=by simp only[Den]
theorem zdy{ts:List T}{v:V}:Den W (.lst ts) v↔∃a vs,v=.ref a/\W.HS a=some (.lst vs)/\Dens W ts vs:=by simp only[Den]
theorem zdz{ts:List T}{v:V}:Den W (.tup ts) v↔∃a vs,v=.ref a/\W.HS a=some (.tup vs)/\Dens W ts vs:=by simp only[Den]
theorem zhf{ts:List (Key×T)}{v:V}:Den W (.dic ts) v↔∃a vs,v=.ref a/\W.HS a=some (.dK vs)/\DenK W ts vs:=by simp only[Den]
theorem zb5{k:Nat}{v:V}:Den W (.obj k) v↔v=.ref (W.μ k)/\k<W.n:=by simp only[Den]
theorem zbo{vs:List V}:Dens W [] vs↔vs=[]:=by simp only[Dens]
theorem za3{t:T}{ts:List T}{vs:List V}:Dens W (t::ts) vs↔∃v r,vs=v::r/\Den W t v/\Dens W ts r:=by simp only[Dens]
theorem zcm{vs:List (Key×V)}:DenK W [] vs↔vs=[]:=by simp only[DenK]
theorem zce{k:Key}{t:T}{ts:List (Key×T)}{vs:List (Key×V)}:DenK W ((k,t)::ts) vs↔∃v r,vs=(k,v)::r/\Den W t v/\DenK W ts r:=by simp only[DenK]
theorem Dens.nil':Dens W [] []:=zbo.mpr rfl
theorem Dens.cons'{t:T}{ts:List T}{v:V}{vs:List V}(h:Den W t v)(r:Dens W ts vs):Dens W (t::ts) (v::vs):=za3.mpr ⟨v,vs,rfl,h,r⟩
theorem Dens.length:∀{ts:List T} {vs:List V},Dens W ts vs->ts.length=vs.length
 |[],vs,h=>by rw[zbo.mp h];rfl
 | t::ts,vs,h=>by
   obtain⟨v,r,e,_,h2⟩:=za3.mp h;subst e;simp[Dens.length h2]
theorem Dens.get:∀{ts:List T} {vs:List V} {i:Nat} {t:T},Dens W ts vs->ts[i]?=some t->∃v,vs[i]?=some v/\Den W t v
 |[],_,_,_,_,e=>by simp at e
 | t0::ts,vs,i,t,h,e=>by
   obtain⟨v,r,rfl,h1,h2⟩:=za3.mp h;cases i with
   |zero=>simp at e;subst e;exact⟨v,rfl,h1⟩
   | succ i=>
     obtain⟨v',e1,e2⟩:=Dens.get (i:=i) h2 (by simpa using e);exact⟨v',by simpa using e1,e2⟩
theorem Dens.get':∀{ts:List T} {vs:List V} {i:Nat} {v:V},Dens W ts vs->vs[i]?=some v->∃t,ts[i]?=some t/\Den W t v
 |[],_,_,_,h,e=>by rw[zbo.mp h] at e;simp at e
 | t0::ts,vs,i,v',h,e=>by
   obtain⟨v,r,rfl,h1,h2⟩:=za3.mp h;cases i with
   |zero=>simp at e;subst e;exact⟨t0,rfl,h1⟩
   | succ i=>
     obtain⟨t,e1,e2⟩:=Dens.get' (i:=i) h2 (by simpa using e);exact⟨t,by simpa using e1,e2⟩
theorem Dens.append:∀{ts us:List T} {vs ws:List V},Dens W ts vs->Dens W us ws->Dens W (ts++us) (vs++ws)
 |[],_,_,_,h,g=>by rw[zbo.mp h];exact g
 | t::ts,us,vs,ws,h,g=>by
   obtain⟨v,r,rfl,h1,h2⟩:=za3.mp h;exact Dens.cons' h1 (Dens.append h2 g)
theorem Dens.set{t:T}{v:V}(hv:Den W t v):∀{ts:List T} {vs:List V} (i:Nat),Dens W ts vs->Dens W (ts.set i t) (vs.set i v)
 |[],_,_,h=>by rw[zbo.mp h];exact Dens.nil'
 | t::ts,vs,i,h=>by
   obtain⟨v,r,rfl,h1,h2⟩:=za3.mp h;cases i with
   |zero=>exact Dens.cons' hv h2
   |succ i=>exact Dens.cons' h1 (Dens.set hv i h2)
theorem Dens.take:∀{ts:List T} {vs:List V} (i:Nat),Dens W ts vs->Dens W (ts.take i) (vs.take i)
 |ts,vs,0,_=>by simpa using Dens.nil'
 |[],_,_,h=>by rw[zbo.mp h];simpa using Dens.nil'
 | t::ts,vs,i+1,h=>by
   obtain⟨v,r,rfl,h1,h2⟩:=za3.mp h;exact Dens.cons' h1 (Dens.take i h2)
theorem Dens.drop:∀{ts:List T} {vs:List V} (i:Nat),Dens W ts vs->Dens W (ts.drop i) (vs.drop i)
 |ts,vs,0,h=>by simpa using h
 |[],_,_,h=>by rw[zbo.mp h];simpa using Dens.nil'
 | t::ts,vs,i+1,h=>by
   obtain⟨v,r,rfl,h1,h2⟩:=za3.mp h;simpa using Dens.drop i h2
theorem Dens.eraseIdx:∀{ts:List T} {vs:List V} (i:Nat),Dens W ts vs->Dens W (ts.eraseIdx i) (vs.eraseIdx i)
 |[],_,_,h=>by rw[zbo.mp h];simpa using Dens.nil'
 | t::ts,vs,i,h=>by
   obtain⟨v,r,rfl,h1,h2⟩:=za3.mp h;cases i with
   |zero=>exact h2
   |succ i=>exact Dens.cons' h1 (Dens.eraseIdx i h2)
theorem DenK.length:∀{ts:List (Key×T)} {vs:List (Key×V)},DenK W ts vs->ts.length=vs.length
 |[],vs,h=>by rw[zcm.mp h];rfl
 | (k,t)::ts,vs,h=>by
   obtain⟨v,r,e,_,h2⟩:=zce.mp h;subst e;simp[DenK.length h2]
theorem DenK.nil':DenK W [] []:=zcm.mpr rfl
theorem DenK.cons'{k:Key}{t:T}{ts:List (Key×T)}{v:V}{vs:List (Key×V)}(h:Den W t v)(r:DenK W ts vs):DenK W ((k,t)::ts) ((k,v)::vs):=zce.mpr ⟨v,vs,rfl,h,r⟩
end
def DenF(W:Wd):List (Str×T)->List (Str×V)->Prop
 |[],vs=>vs=[]
 |(k,t)::ts,vs=>∃v r,vs=(k,v)::r/\Den W t v/\DenF W ts r
theorem DenF.mono{W W':Wd}(l:W.le W'):∀{ts:List (Str×T)} {vs:List (Str×V)},DenF W ts vs->DenF W' ts vs
 |[],_,h=>h
 | (k,t)::ts,vs,h=>by
   obtain⟨v,r,e,h1,h2⟩:=h;exact⟨v,r,e,Den.mono l _ _ h1,DenF.mono l h2⟩
theorem DenF.length{W:Wd}:∀{ts:List (Str×T)} {vs:List (Str×V)},DenF W ts vs->ts.length=vs.length
 |[],_,h=>by rw[show _=[] from h];rfl
 | (k,t)::ts,vs,h=>by
   obtain⟨v,r,rfl,h1,h2⟩:=h;simp[DenF.length h2]
def XP(W:Wd):Option Addr->Option (List (Str×T))->Prop
 |none,none=>True
 |some d,some fs=>∃ks,W.P d=some (.xd ks)/\DenF W fs ks
 |_,_=>False
theorem XP.mono{W W':Wd}(l:W.le W'):∀{dx:Option Addr} {fs:Option (List (Str×T))},XP W dx fs->XP W' dx fs
 |none,none,_=>trivial
 |some _,some _,⟨ks,h1,h2⟩=>⟨ks,l.p _ _ h1,DenF.mono l h2⟩
 |none,some _,h=>h.elim
 |some _,none,h=>h.elim
def zb6(W:Wd)(H:Hp)(a:Addr):Cell->Prop
 |.lst ts=>∃vs,H a=some (.lst vs)/\Dens W ts vs
 |.dic kvs=>∃ks,H a=some (.dK ks)/\DenK W kvs ks
 |.ins C fs=>∃dx ks,H a=some (.ins C dx ks)/\DenF W fs ks
 |.exc C fs=>∃dx,H a=some (excL a C dx)/\XP W dx fs
 |.lck kvs=>∃o ks,H a=some (.frz o (.dK ks))/\DenK W kvs ks
theorem zb6.mono{W W':Wd}(l:W.le W'){H:Hp}{a:Addr}:∀{c:Cell},zb6 W H a c->zb6 W' H a c
 |.lst ts,⟨vs,h1,h2⟩=>⟨vs,h1,Dens.mono l _ _ h2⟩
 |.dic ts,⟨vs,h1,h2⟩=>⟨vs,h1,DenK.mono l _ _ h2⟩
 |.ins C ts,⟨dx,vs,h1,h2⟩=>⟨dx,vs,h1,DenF.mono l h2⟩
 |.exc C fs,⟨dx,h1,h2⟩=>⟨dx,h1,h2.mono l⟩
 |.lck ts,⟨o,vs,h1,h2⟩=>⟨o,vs,h1,DenK.mono l _ _ h2⟩
theorem zb6.at{W:Wd}{H H':Hp}{a:Addr}(e:H' a=H a):∀{c:Cell},zb6 W H a c->zb6 W H' a c
 |.lst ts,⟨vs,h1,h2⟩=>⟨vs,e.trans h1,h2⟩
 |.dic ts,⟨vs,h1,h2⟩=>⟨vs,e.trans h1,h2⟩
 |.ins C ts,⟨dx,vs,h1,h2⟩=>⟨dx,vs,e.trans h1,h2⟩
 |.exc C ts,⟨dx,h1,h2⟩=>⟨dx,e.trans h1,h2⟩
 |.lck ts,⟨o,vs,h1,h2⟩=>⟨o,vs,e.trans h1,h2⟩
theorem zb6.some{W:Wd}{H:Hp}{a:Addr}:∀{c:Cell},zb6 W H a c->∃o,H a=some o/\∀y,o≠.own y
 |.lst ts,⟨vs,h1,h2⟩=>⟨_,h1,(by intro _ z;cases z)⟩
 |.dic ts,⟨vs,h1,h2⟩=>⟨_,h1,(by intro _ z;cases z)⟩
 |.ins C ts,⟨dx,vs,h1,h2⟩=>⟨_,h1,(by intro _ z;cases z)⟩
 |.exc C ts,⟨dx,h1,h2⟩=>⟨_,h1,(by intro _ z;cases z)⟩
 |.lck ts,⟨o,vs,h1,h2⟩=>⟨_,h1,(by intro _ z;cases z)⟩
def z2g:HO->Prop
 |.frz _ _=>False
 |_=>True
def RdX(H:Hp)(a:Addr)(o:HO):Prop:=H a=some o\/((∃q,H a=some (.frz q o))/\∀xs,o≠.tup xs)
theorem RdX.rd{H:Hp}{a:Addr}{o:HO}(h:RdX H a o):Rd H a o:=by
 rcases h with h | ⟨h,_⟩
 ·exact .inl h
 ·exact .inr h
theorem RdX.ex{H:Hp}{a:Addr}{o:HO}(h:RdX H a o):∃u,H a=some u:=by
 rcases h with h | ⟨⟨q,h⟩,_⟩
 ·exact⟨_,h⟩
 ·exact⟨_,h⟩
theorem RdX.at{H H':Hp}{a:Addr}{o:HO}(e:H' a=H a)(h:RdX H a o):RdX H' a o:=by
 rcases h with h | ⟨⟨q,h⟩,n⟩
 ·exact .inl (e.trans h)
 ·exact .inr ⟨⟨q,e.trans h⟩,n⟩
theorem RdX.tup{H:Hp}{a:Addr}{xs:List V}(h:RdX H a (.tup xs)):H a=some (.tup xs):=by
 rcases h with h | ⟨_,n⟩
 ·exact h
 ·exact absurd rfl (n xs)
structure Rep(W:Wd)(S:Sto)(H:Hp):Prop where
 sub:∀a o,W.HS a=some o->RdX H a o/\z2g o
 len:S.length=W.n
 cell:∀k c,S[k]?=some c->zb6 W H (W.μ k) c/\W.HS (W.μ k)=none
 inj:∀j k,j<W.n->k<W.n->W.μ j=W.μ k->j=k
 zed:∀a q,W.Z a=some q->H a=some (.frz q.1 q.2)
 prv:∀a o,W.P a=some o->H a=some o/\W.HS a=none/\∀k,k<W.n->W.μ k≠a
theorem Rep.lt{W:Wd}{S:Sto}{H:Hp}(r:Rep W S H){k:Nat}{c:Cell}(h:S[k]?=some c):k<W.n:=by
 rw[<- r.len];exact(List.getElem?_eq_some_iff.mp h).1
inductive R(α:Type) where
 |ok (a:α) (S:Sto)
 |exc (C:Addr) (fs:Option (List (Str×T))) (S:Sto)
 |bad
abbrev M(α:Type):=Sto->R α
def M.pure{α:Type}(a:α):M α:=fun S=>.ok a S
noncomputable def M.bind{α β:Type}(m:M α)(f:α->M β):M β:=fun S=>match m S with
 |.ok a S'=>f a S'
 |.exc C fs S'=>.exc C fs S'
 |.bad=>.bad
noncomputable def M.bad{α:Type}:M α:=fun _=>.bad
def XOk(W:Wd)(H:Hp):Option Addr->Option (List (Str×T))->Prop
 |none,none=>True
 |some d,some fs=>∃ks,H d=some (.xd ks)/\W.HS d=none/\DenF W fs ks
 |_,_=>False
def Post{α:Type}(E:XK)(W:Wd)(Q:α->Wd->Sto->Hp->Prop):R α->Prop
 |.ok a S'=>∀W' H',W.le W'->Rep W' S' H'->Q a W' S' H'
 |.exc C fs S'=>∀W' H' dx,W.le W'->Rep W' S' H'->XOk W' H' dx fs->E (.ref C) dx H'
 |.bad=>False
theorem Post.imp{α:Type}{E:XK}{W:Wd}{Q Q':α->Wd->Sto->Hp->Prop}{r:R α}(h:Post E W Q r)(f:∀a W' S' H',W.le W'->Rep W' S' H'->Q a W' S' H'->Q' a W' S' H'):Post E W Q' r:=by
 cases r with
 |ok a S=>exact fun W' H' l rp=>f a W' S H' l rp (h W' H' l rp)
 |exc C fs S=>exact h
 |bad=>exact h
theorem Post.bind{α β:Type}{E:XK}{W:Wd}{Q:β->Wd->Sto->Hp->Prop}{m:M α}{f:α->M β}{S:Sto}(h:Post E W Q (M.bind m f S)) :
  Post E W (fun a W1 S1 _=>Post E W1 Q (f a S1)) (m S):=by
 unfold M.bind at h;cases e:m S with
 | ok a S1=>
   rw[e] at h;have h:Post E W Q (f a S1):=h;intro W1 H1 l _;show Post E W1 Q (f a S1);cases e2:f a S1 with
   |ok b S2=>rw[e2] at h;exact fun W2 H2 l2 rp=>h W2 H2 (l.trans l2) rp
   |exc C fs S2=>rw[e2] at h;exact fun W2 H2 dx l2 rp=>h W2 H2 dx (l.trans l2) rp
   |bad=>rw[e2] at h;exact h
 |exc C fs S1=>rw[e] at h;exact h
 |bad=>rw[e] at h;exact h
abbrev Ev:=List (Option T)
def zrd(W:Wd):Option T->Option V->Prop
 |none,_=>True
 |some t,some v=>Den W t v
 |some _,none=>False
def zbd(W:Wd):Ev->St->Prop
 |[],σ=>σ=[]
 |o::ρ,σ=>∃s r,σ=s::r/\zrd W o s/\zbd W ρ r
theorem zrd.mono{W W':Wd}(l:W.le W'):∀{o:Option T} {s:Option V},zrd W o s->zrd W' o s
 |none,_,_=>trivial
 |some t,some v,h=>Den.mono l t v h
theorem zbd.mono{W W':Wd}(l:W.le W'):∀{ρ:Ev} {σ:St},zbd W ρ σ->zbd W' ρ σ
 |[],_,h=>h
 |o::ρ,σ,⟨s,r,e,h1,h2⟩=>⟨s,r,e,h1.mono l,h2.mono l⟩
theorem zbd.get{W:Wd}:∀{ρ:Ev} {σ:St} {i:Nat} {t:T},zbd W ρ σ->ρ[i]?=some (some t)->∃v,σ[i]?=some (some v)/\Den W t v
 |[],_,_,_,_,e=>by simp at e
 | o :: ρ,σ,i,t,⟨s,r,e0,h1,h2⟩,e=>by
   subst e0;cases i with
   | zero=>
     simp at e;subst e;cases s with
     |none=>exact h1.elim
     |some v=>exact⟨v,rfl,h1⟩
   | succ i=>
     obtain⟨v,e1,e2⟩:=zbd.get (i:=i) h2 (by simpa using e);exact⟨v,by simpa using e1,e2⟩
theorem zbd.set{W:Wd}{t:T}{v:V}(hv:Den W t v):∀{ρ:Ev} {σ:St} (i:Nat),zbd W ρ σ->zbd W (ρ.set i (some t)) (σ.set i (some v))
 |[],σ,i,h=>by rw[show σ=[] from h];exact rfl
 | o::ρ,σ,i,⟨s,r,e0,h1,h2⟩=>by
   subst e0;cases i with
   |zero=>exact⟨_,_,rfl,hv,h2⟩
   |succ i=>exact⟨_,_,rfl,h1,zbd.set hv i h2⟩
theorem zbd.append{W:Wd}:∀{ρ ρ':Ev} {σ σ':St},zbd W ρ σ->zbd W ρ' σ'->zbd W (ρ++ρ') (σ++σ')
 |[],_,σ,_,h,g=>by rw[show σ=[] from h];exact g
 | o::ρ,ρ',σ,σ',⟨s,r,e0,h1,h2⟩,g=>by
   subst e0;exact⟨_,_,rfl,h1,zbd.append h2 g⟩
theorem zbd.nones{W:Wd}{σ:St}:∀(n:Nat),σ.length=n->zbd W (List.replicate n none) σ:=by
 induction σ with
 |nil=>intro n h;subst h;exact rfl
 | cons s σ ih=>
   intro n h;subst h;exact⟨s,σ,rfl,trivial,ih _ rfl⟩
theorem zbd.ofDens{W:Wd}:∀{ts:List T} {vs:List V},Dens W ts vs->zbd W (ts.map some) (vs.map some)
 |[],vs,h=>by rw[zbo.mp h];exact rfl
 | t::ts,vs,h=>by
   obtain⟨v,r,rfl,h1,h2⟩:=za3.mp h;exact⟨_,_,rfl,h1,zbd.ofDens h2⟩
theorem zbd.cap{W:Wd}{ρ:Ev}{σ:St}(h:zbd W ρ σ):∀(js:List Nat),zbd W (js.map fun j=>(ρ[j]?).join) (zq9 σ js)
 |[]=>rfl
 | j :: js=>by
   refine⟨_,_,rfl,?_,zbd.cap h js⟩;show zrd W ((ρ[j]?).join) ((σ[j]?).join);cases e:ρ[j]? with
   |none=>exact trivial
   | some o=>
     cases o with
     |none=>exact trivial
     | some t=>
       obtain⟨v,e1,h1⟩:=h.get e;rw[e1];exact h1
abbrev DE:=Ev->M T
abbrev DT:=Ev->M Bool
abbrev DA:=Ev->M (List T)
inductive Fl where
 |nx (ρ:Ev) | rt (t:T) | bk (ρ:Ev) | ct (ρ:Ev)
abbrev DS:=Ev->M Fl
abbrev QV(Q:VK):T->Wd->Sto->Hp->Prop:=fun t W' _ H'=>∀v,Den W' t v->Q v H'
def RE(E:XK)(f:DE):TE:=fun σ H Q=>∃W S ρ,Rep W S H/\zbd W ρ σ/\Post E W (QV Q) (f ρ S)
def RT(E:XK)(f:DT):TT:=fun σ H Q=>∃W S ρ,Rep W S H/\zbd W ρ σ/\Post E W (fun b _ _ H'=>Q b H') (f ρ S)
def RA(E:XK)(f:DA):TA:=fun σ H Q=>∃W S ρ,Rep W S H/\zbd W ρ σ/\Post E W (fun ts W' _ H'=>∀vs,Dens W' ts vs->Q vs H') (f ρ S)
def QF(D:Ends):Fl->Wd->Sto->Hp->Prop
 |.nx ρ',W',_,H'=>∀σ',zbd W' ρ' σ'->D.nx σ' H'
 |.rt t,W',_,H'=>∀v,Den W' t v->D.rt v H'
 |.bk ρ',W',_,H'=>∀σ',zbd W' ρ' σ'->D.bk σ' H'
 |.ct ρ',W',_,H'=>∀σ',zbd W' ρ' σ'->D.ct σ' H'
def RS(E:XK)(f:DS):TS:=fun D σ H=>∃W S ρ,Rep W S H/\zbd W ρ σ/\Post E W (QF D) (f ρ S)
theorem zb2{X:Cx}{e:Expr}{t t':TE}(h:PE X e t)(w:∀σ H Q,t' σ H Q->t σ H Q):PE X e t':=fun pins s σ H Q I q=>h pins s σ H Q I (w σ H Q q)
theorem zy6{X:Cx}{e:Expr}{t t':TT}(h:PT X e t)(w:∀σ H Q,t' σ H Q->t σ H Q):PT X e t':=fun pins s σ H Q I q=>h pins s σ H Q I (w σ H Q q)
theorem z88{X:Cx}{e:List Expr}{t t':TA}(h:PA X e t)(w:∀σ H Q,t' σ H Q->t σ H Q):PA X e t':=fun p pins s σ H Q I q=>h p pins s σ H Q I (w σ H Q q)
theorem zkj{X:Cx}{st:Stmt}{t t':TS}(h:PS X st t)(w:∀D σ H,t' D σ H->t D σ H):PS X st t':=fun pins s σ H D I q=>h pins s σ H D I (w D σ H q)
theorem z39{X:Cx}{st:List Stmt}{t t':TS}(h:PSs X st t)(w:∀D σ H,t' D σ H->t D σ H):PSs X st t':=fun pins s σ H D I q=>h pins s σ H D I (w D σ H q)
section
variable {W:Wd}{S:Sto}{H:Hp}
theorem Rep.hsNone(r:Rep W S H){p:Addr}(h:H p=none):W.HS p=none:=by
 cases e:W.HS p with
 |none=>rfl
 | some o=>
   obtain⟨u,z⟩:=(r.sub p o e).1.ex;rw[h] at z;cases z
theorem Rep.cellAt(r:Rep W S H){k:Nat}(h:k<W.n):∃c,S[k]?=some c:=by
 rw[<- r.len] at h;exact⟨S[k],List.getElem?_eq_getElem h⟩
theorem Rep.μne(r:Rep W S H){p:Addr}(h:H p=none){k:Nat}(hk:k<W.n):W.μ k≠p:=by
 intro e;obtain⟨c,hc⟩:=r.cellAt hk;obtain⟨o,ho,_⟩:=(r.cell k c hc).1.some;rw[e,h] at ho;cases ho
noncomputable def Wd.frz(W:Wd)(p:Addr)(o:HO):Wd:=⟨upd W.HS p o,W.μ,W.n,W.Z,W.P⟩
theorem Wd.frz_le{p:Addr}{o:HO}(h:W.HS p=none):W.le (W.frz p o):=⟨fun a u e=>by
 show upd W.HS p o a=some u;rw[zai (fun z=>by rw[z,h] at e;cases e)];exact e,fun _ _ e=>e,fun _ _ e=>e,Nat.le_refl _,fun _ _=>rfl⟩
theorem RdX.upd{p a:Addr}{o u:HO}(hp:H p=none)(h:RdX H a u):RdX (upd H p o) a u:=by
 obtain⟨w,z⟩:=h.ex;exact h.at (zai (zbv z hp))
theorem Rep.extra(r:Rep W S H){p:Addr}(hp:H p=none)(o:HO):Rep W S (upd H p o) where
 sub:=fun a u e=>⟨RdX.upd hp (r.sub a u e).1,(r.sub a u e).2⟩
 len:=r.len
 cell:=fun k c e=>⟨(r.cell k c e).1.at (zai (r.μne hp (r.lt e))),(r.cell k c e).2⟩
 inj:=r.inj
 zed:=fun a q e=>by
  have h2:=r.zed a q e;rw[zai (zbv h2 hp)];exact h2
 prv:=fun a q e=>by
  obtain⟨h1,h2⟩:=r.prv a q e;exact⟨by rw[zai (zbv h1 hp)];exact h1,h2⟩
theorem Rep.frz(r:Rep W S H){p:Addr}(hp:H p=none)(o:HO)(no:z2g o):Rep (W.frz p o) S (upd H p o) where
 sub:=fun a u e=>by
  by_cases z:a=p
  ·subst z
   have e:upd W.HS a o a=some u:=e;rw[zaj] at e;cases e;exact⟨.inl zaj,no⟩
  ·have e:upd W.HS p o a=some u:=e
   rw[zai z] at e;exact⟨RdX.upd hp (r.sub a u e).1,(r.sub a u e).2⟩
 len:=r.len
 cell:=fun k c e=>⟨((r.cell k c e).1.at (zai (r.μne hp (r.lt e)))).mono (Wd.frz_le (r.hsNone hp)),by
  show upd W.HS p o (W.μ k)=none;rw[zai (r.μne hp (r.lt e))];exact(r.cell k c e).2⟩
 inj:=r.inj
 zed:=fun a q e=>by
  have h2:=r.zed a q e;rw[zai (zbv h2 hp)];exact h2
 prv:=fun a q e=>by
  obtain⟨h1,h2,h3⟩:=r.prv a q e;have ne:=zbv h1 hp;exact⟨by rw[zai ne];exact h1,by show upd W.HS p o a=none;rw[zai ne];exact h2,h3⟩
noncomputable def Wd.add(W:Wd)(p:Addr):Wd:=⟨W.HS,fun k=>if k=W.n then p else W.μ k,W.n+1,W.Z,W.P⟩
theorem Wd.add_le{p:Addr}:W.le (W.add p):=⟨fun _ _ e=>e,fun _ _ e=>e,fun _ _ e=>e,Nat.le_succ _,fun k h=>by
 show(if k=W.n then p else W.μ k)=W.μ k;rw[if_neg (Nat.ne_of_lt h)]⟩
theorem Wd.add_at{p:Addr}:(W.add p).μ W.n=p:=by show(if W.n=W.n then p else _)=p;rw[if_pos rfl]
theorem Wd.add_old{p:Addr}{k:Nat}(h:k<W.n):(W.add p).μ k=W.μ k:=Wd.add_le.μ k h
theorem Rep.cellNew'(r:Rep W S H){p:Addr}{H':Hp}(hp:H p=none)(keep:∀a o,H a=some o->H' a=some o)(c:Cell)(hc:zb6 (W.add p) H' p c):Rep (W.add p) (S++[c]) H' where
 sub:=fun a u e=>by
  obtain⟨h1,h2⟩:=r.sub a u e;obtain⟨w,z⟩:=h1.ex;exact⟨h1.at ((keep _ _ z).trans z.symm),h2⟩
 len:=by rw[List.length_append,List.length_singleton,r.len];rfl
 cell:=fun k c' e=>by
  by_cases z:k<S.length
  ·rw[List.getElem?_append_left z] at e
   have hk:k<W.n:=r.len▸z;rw[Wd.add_old hk];obtain⟨h1,h2⟩:=r.cell k c' e;obtain⟨o,ho,_⟩:=h1.some;exact⟨(h1.at ((keep _ _ ho).trans ho.symm)).mono Wd.add_le,h2⟩
  ·have hk:k=W.n:=by
    have:=(List.getElem?_eq_some_iff.mp e).1;rw[List.length_append,List.length_singleton] at this;have l:=r.len;omega
   subst hk;rw[<- r.len,List.getElem?_append_right (Nat.le_refl _),Nat.sub_self] at e;have e:c=c':=by simpa using e
   subst e;rw[Wd.add_at];exact⟨hc,r.hsNone hp⟩
 inj:=fun j k hj hk e=>by
  have hj:j<W.n+1:=hj;have hk:k<W.n+1:=hk;by_cases z:j<W.n
  ·by_cases y:k<W.n
   ·rw[Wd.add_old z,Wd.add_old y] at e;exact r.inj j k z y e
   ·have:k=W.n:=by omega
    subst this;rw[Wd.add_old z,Wd.add_at] at e;exact absurd e (r.μne hp z)
  ·have:j=W.n:=by omega
   subst this;by_cases y:k<W.n
   ·rw[Wd.add_old y,Wd.add_at] at e
    exact absurd e.symm (r.μne hp y)
   ·omega
 zed:=fun a q e=>by
  exact keep _ _ (r.zed a q e)
 prv:=fun a q e=>by
  obtain⟨h1,h2,h3⟩:=r.prv a q e;refine⟨keep _ _ h1,h2,fun k hk z=>?_⟩;have hk:k<W.n+1:=hk;by_cases y:k<W.n
  ·rw[Wd.add_old y] at z;exact h3 k y z
  ·have:k=W.n:=by omega
   subst this;rw[Wd.add_at] at z;rw[z,h1] at hp;cases hp
theorem Rep.cellNew(r:Rep W S H){p:Addr}(hp:H p=none)(c:Cell)(o:HO)(hc:zb6 (W.add p) (upd H p o) p c):Rep (W.add p) (S++[c]) (upd H p o):=
 r.cellNew' hp (fun a u e=>by rw[zai (zbv e hp)];exact e) c hc
theorem Rep.noZ(r:Rep W S H){k:Nat}{c:Cell}(h:S[k]?=some c)(nl:∀kvs,c≠.lck kvs):W.Z (W.μ k)=none:=by
 cases e:W.Z (W.μ k) with
 |none=>rfl
 | some q=>
   have z:=r.zed _ _ e;have y:=(r.cell k c h).1;cases c with
   |lst ts=>obtain⟨_,h1,_⟩:=y;rw[z] at h1;cases h1
   |dic ts=>obtain⟨_,h1,_⟩:=y;rw[z] at h1;cases h1
   |ins _ ts=>obtain⟨_,_,h1,_⟩:=y;rw[z] at h1;cases h1
   |exc _ ts=>obtain⟨_,h1,_⟩:=y;rw[z] at h1;cases h1
   |lck ts=>exact absurd rfl (nl ts)
theorem Rep.cellSet(r:Rep W S H){k:Nat}{c:Cell}(h:S[k]?=some c)(c':Cell)(o:HO)(hc:zb6 W (upd H (W.μ k) o) (W.μ k) c')(nz:W.Z (W.μ k)=none:=by
  exact Rep.noZ (by assumption) (by assumption) (by intro _ z;cases z)):Rep W (S.set k c') (upd H (W.μ k) o) where
 sub:=fun a u e=>by
  have ne:a≠W.μ k:=fun z=>by rw[z,(r.cell k c h).2] at e;cases e
  exact⟨(r.sub a u e).1.at (zai ne),(r.sub a u e).2⟩
 len:=by rw[List.length_set];exact r.len
 cell:=fun j c2 e=>by
  by_cases z:j=k
  ·subst z
   have hj:=r.lt h;rw[List.getElem?_set_self (by rw[r.len];exact hj)] at e;cases e;exact⟨hc,(r.cell j c h).2⟩
  ·rw[List.getElem?_set_ne (Ne.symm z)] at e
   have hj:=r.lt e;exact⟨(r.cell j c2 e).1.at (zai fun y=>z (r.inj j k hj (r.lt h) y)),(r.cell j c2 e).2⟩
 inj:=r.inj
 zed:=fun a q e=>by
  rw[zai fun z=>by rw[z,nz] at e;cases e];exact r.zed a q e
 prv:=fun a q e=>by
  obtain⟨h1,h2,h3⟩:=r.prv a q e;exact⟨by rw[zai (Ne.symm (h3 k (r.lt h)))];exact h1,h2,h3⟩
def Wd.priv(W:Wd)(p:Addr)(o:HO):Wd:=⟨W.HS,W.μ,W.n,W.Z,upd W.P p o⟩
theorem Wd.priv_le{p:Addr}{o:HO}(h:W.P p=none):W.le (W.priv p o):=⟨fun _ _ e=>e,fun _ _ e=>e,fun a u e=>by
 show upd W.P p o a=some u;rw[zai (fun z=>by rw[z,h] at e;cases e)];exact e,Nat.le_refl _,fun _ _=>rfl⟩
theorem Rep.prvNone(r:Rep W S H){p:Addr}(h:H p=none):W.P p=none:=by
 cases e:W.P p with
 |none=>rfl
 |some o=>rw[(r.prv p o e).1] at h;cases h
theorem Rep.samePriv{W':Wd}{H':Hp}(r:Rep W S H)(hs:W'.HS=W.HS)(hμ:W'.μ=W.μ)(hn:W'.n=W.n)(hz:W'.Z=W.Z)(c:∀{k:Nat} {c:Cell},S[k]?=some c->zb6 W H (W.μ k) c->zb6 W' H' (W.μ k) c)
  (sub:∀a o,W.HS a=some o->RdX H a o->RdX H' a o) (z:∀a o u,W.Z a=some (o,u)->H a=some (.frz o u)->H' a=some (.frz o u))
  (prv:∀a o,W'.P a=some o->H' a=some o/\W.HS a=none/\∀k,k<W.n->W.μ k≠a):Rep W' S H' where
 sub:=fun a o e=>by rw[hs] at e;exact⟨sub a o e (r.sub a o e).1,(r.sub a o e).2⟩
 len:=by rw[hn];exact r.len
 cell:=fun k c' e=>by rw[hs,hμ];exact⟨c e (r.cell k c' e).1,(r.cell k c' e).2⟩
 inj:=by rw[hn,hμ];exact r.inj
 zed:=fun a o e=>by
  rw[hz] at e;exact z a o.1 o.2 e (r.zed a o e)
 prv:=fun a o e=>by rw[hs,hn,hμ];exact prv a o e
mutual
theorem Den.hs{W W':Wd}(hs:W'.HS=W.HS)(hμ:W'.μ=W.μ)(hn:W'.n=W.n):∀(t:T) (v:V),Den W t v->Den W' t v
 |.non,_,h=>zco.mpr (zco.mp h)
 |.bl _,_,h=>zbl.mpr (zbl.mp h)
 |.int _,_,h=>zay.mpr (zay.mp h)
 |.str _,_,h=>zbm.mpr (zbm.mp h)
 |.lst ts,v,h=>by obtain⟨a,vs,e,h1,h2⟩:=zdy.mp h;exact zdy.mpr ⟨a,vs,e,by rw[hs];exact h1,Dens.hs hs hμ hn ts vs h2⟩
 |.tup ts,v,h=>by obtain⟨a,vs,e,h1,h2⟩:=zdz.mp h;exact zdz.mpr ⟨a,vs,e,by rw[hs];exact h1,Dens.hs hs hμ hn ts vs h2⟩
 |.dic ts,v,h=>by obtain⟨a,vs,e,h1,h2⟩:=zhf.mp h;exact zhf.mpr ⟨a,vs,e,by rw[hs];exact h1,DenK.hs hs hμ hn ts vs h2⟩
 |.obj k,v,h=>by obtain⟨e,h1⟩:=zb5.mp h;exact zb5.mpr ⟨by rw[hμ];exact e,by rw[hn];exact h1⟩
theorem Dens.hs{W W':Wd}(hs:W'.HS=W.HS)(hμ:W'.μ=W.μ)(hn:W'.n=W.n):∀(ts:List T) (vs:List V),Dens W ts vs->Dens W' ts vs
 |[],vs,h=>zbo.mpr (zbo.mp h)
 |t::ts,vs,h=>by obtain⟨v,r,e,h1,h2⟩:=za3.mp h;exact za3.mpr ⟨v,r,e,Den.hs hs hμ hn t v h1,Dens.hs hs hμ hn ts r h2⟩
theorem DenK.hs{W W':Wd}(hs:W'.HS=W.HS)(hμ:W'.μ=W.μ)(hn:W'.n=W.n):∀(ts:List (Key×T)) (vs:List (Key×V)),DenK W ts vs->DenK W' ts vs
 |[],vs,h=>zcm.mpr (zcm.mp h)
 |(k,t)::ts,vs,h=>by obtain⟨v,r,e,h1,h2⟩:=zce.mp h;exact zce.mpr ⟨v,r,e,Den.hs hs hμ hn t v h1,DenK.hs hs hμ hn ts r h2⟩
end
theorem DenF.hs{W W':Wd}(hs:W'.HS=W.HS)(hμ:W'.μ=W.μ)(hn:W'.n=W.n):∀{ts:List (Str×T)} {vs:List (Str×V)},DenF W ts vs->DenF W' ts vs
 |[],_,h=>h
 |(k,t)::ts,vs,⟨v,r,e,h1,h2⟩=>⟨v,r,e,Den.hs hs hμ hn t v h1,DenF.hs hs hμ hn h2⟩
theorem zb6.hs{W W':Wd}(hs:W'.HS=W.HS)(hμ:W'.μ=W.μ)(hn:W'.n=W.n)(hp:∀d ks,W.P d=Option.some (.xd ks)->W'.P d=Option.some (.xd ks)){a:Addr}:∀{c:Cell},zb6 W H a c->zb6 W' H a c
 |.lst ts,⟨vs,h1,h2⟩=>⟨vs,h1,Dens.hs hs hμ hn _ _ h2⟩
 |.dic ts,⟨vs,h1,h2⟩=>⟨vs,h1,DenK.hs hs hμ hn _ _ h2⟩
 |.ins C ts,⟨dx,vs,h1,h2⟩=>⟨dx,vs,h1,DenF.hs hs hμ hn h2⟩
 |.lck ts,⟨o,vs,h1,h2⟩=>⟨o,vs,h1,DenK.hs hs hμ hn _ _ h2⟩
 |.exc C none,⟨none,h1,h2⟩=>⟨none,h1,trivial⟩
 |.exc C (Option.some fs),⟨Option.some d,h1,⟨ks,h2,h3⟩⟩=>⟨Option.some d,h1,ks,hp d ks h2,DenF.hs hs hμ hn h3⟩
 |.exc C none,⟨Option.some _,_,h2⟩=>h2.elim
 |.exc C (Option.some _),⟨none,_,h2⟩=>h2.elim
theorem Rep.privNew(r:Rep W S H){p:Addr}(hp:H p=none)(o:HO):Rep (W.priv p o) S (upd H p o):=
 r.samePriv rfl rfl rfl rfl (fun e c=>zb6.hs (W:=W) (W':=W.priv p o) rfl rfl rfl (fun d ks z=>by
  show upd W.P p o d=_;rw[zai (fun q=>by have y:=(r.prv d _ z).1;rw[q,hp] at y;cases y)];exact z) (zb6.at (zai (r.μne hp (r.lt e))) c)) (fun a u _ h=>RdX.upd hp h) (fun a q u _ h=>by rw[zai (zbv h hp)];exact h) fun a u e=>by
  have e:upd W.P p o a=some u:=e;by_cases z:a=p
  ·subst z
   rw[zaj] at e;cases e;exact⟨zaj,r.hsNone hp,fun k hk=>r.μne hp hk⟩
  ·rw[zai z] at e ⊢
   exact r.prv a u e
theorem Rep.privSet(r:Rep W S H){p:Addr}{o:HO}(hp:W.P p=some o)(nx:∀ks,o≠.xd ks)(nfz:∀q u,o≠.frz q u)(o':HO):Rep (W.priv p o') S (upd H p o'):=by
 obtain⟨h1,h2,h3⟩:=r.prv p o hp;have ne:∀a u,W.HS a=some u->a≠p:=fun a u e z=>by rw[z,h2] at e;cases e
 refine r.samePriv rfl rfl rfl rfl (fun e c=>zb6.hs (W:=W) (W':=W.priv p o') rfl rfl rfl (fun d ks z=>by
  show upd W.P p o' d=_;rw[zai (fun q=>by rw[q,hp] at z;cases z;exact nx _ rfl)];exact z) (zb6.at (zai (h3 _ (r.lt e))) c)) (fun a u e h=>h.at (zai (ne a u e))) (fun a q u e h=>by rw[zai (fun z=>by rw[z,h1] at h;cases h;exact nfz _ _ rfl)];exact h) fun a u e=>?_
 have e:upd W.P p o' a=some u:=e;by_cases z:a=p
 ·subst z
  rw[zaj] at e;cases e;exact⟨zaj,h2,h3⟩
 ·rw[zai z] at e ⊢
  exact r.prv a u e
noncomputable def Wd.unp(W:Wd)(p:Addr):Wd:=⟨W.HS,W.μ,W.n,W.Z,fun a=>if a=p then none else W.P a⟩
theorem Rep.unp(r:Rep W S H)(p:Addr)(nx:∀ks,W.P p≠some (.xd ks)):Rep (W.unp p) S H:=
 r.samePriv rfl rfl rfl rfl (fun e c=>zb6.hs (W:=W) (W':=W.unp p) rfl rfl rfl (fun d ks z=>by
  show(if d=p then none else W.P d)=_;rw[if_neg (fun q=>by rw[q] at z;exact nx _ z)];exact z) c) (fun a u _ h=>h) (fun a q u _ h=>h) fun a u e=>by
  have e:(if a=p then none else W.P a)=some u:=e;by_cases z:a=p
  ·rw[if_pos z] at e;cases e
  ·rw[if_neg z] at e;exact r.prv a u e
theorem Rep.privFrz(r:Rep W S H){p:Addr}{o:HO}(hp:W.P p=some o)(no:z2g o)(nx:∀ks,o≠.xd ks):Rep ((W.unp p).frz p o) S H:=by
 obtain⟨h1,h2,h3⟩:=r.prv p o hp;have r':=r.unp p (fun ks z=>by rw[hp] at z;cases z;exact nx _ rfl);have l:(W.unp p).le ((W.unp p).frz p o):=Wd.frz_le h2;refine⟨fun a u e=>?_,r.len,fun k c e=>⟨(r'.cell k c e).1.mono l,?_⟩,r.inj,fun a q e=>?_,fun a u e=>?_⟩
 ·have e:upd W.HS p o a=some u:=e
  by_cases z:a=p
  ·subst z
   rw[zaj] at e;cases e;exact⟨.inl h1,no⟩
  ·rw[zai z] at e;exact r.sub a u e
 ·show upd W.HS p o (W.μ k)=none
  rw[zai (h3 k (r.lt e))];exact(r.cell k c e).2
 ·exact r'.zed a q e
 ·obtain⟨g1,g2,g3⟩:=r'.prv a u e
  refine⟨g1,?_,g3⟩;show upd W.HS p o a=none;by_cases z:a=p
  ·have e:(if a=p then none else W.P a)=some u:=e
   rw[if_pos z] at e;cases e
  ·rw[zai z];exact g2
end
noncomputable def zam(S:Sto):T->Option (List T)
 |.lst ts=>some ts
 | .obj k=>match S[k]? with
   |some (.lst ts)=>some ts
   |_=>none
 |_=>none
noncomputable def zd0(S:Sto):T->Option (List T)
 |.tup ts=>some ts
 |t=>zam S t
noncomputable def zfu(S:Sto):T->Option (List (Key×T))
 |.dic ts=>some ts
 | .obj k=>match S[k]? with
   |some (.dic ts)=>some ts
   |_=>none
 |_=>none
section
variable {W:Wd}{S:Sto}{H:Hp}
theorem zre{k:Nat}{ts:List T}(h:zam S (.obj k)=some ts):S[k]?=some (.lst ts):=by
 unfold zam at h;cases e:S[k]? with
 |none=>simp[e] at h
 |some c=>cases c<;>simp[e] at h;subst h;rfl
theorem zy7{k:Nat}{ts:List (Key×T)}(h:zfu S (.obj k)=some ts):S[k]?=some (.dic ts):=by
 unfold zfu at h;cases e:S[k]? with
 |none=>simp[e] at h
 |some c=>cases c<;>simp[e] at h;subst h;rfl
theorem Rep.list(r:Rep W S H){t:T}{v:V}{ts:List T}(d:Den W t v)(h:zam S t=some ts):∃a vs,v=.ref a/\Rd H a (.lst vs)/\Dens W ts vs:=by
 cases t with
 | lst xs=>
   have e:xs=ts:=by simpa[zam] using h
   subst e;obtain⟨a,vs,rfl,h1,h2⟩:=zdy.mp d;exact⟨a,vs,rfl,(r.sub a _ h1).1.rd,h2⟩
 | obj k=>
   obtain⟨rfl,hk⟩:=zb5.mp d;obtain⟨⟨vs,h1,h2⟩,_⟩:=r.cell k _ (zre h);exact⟨_,vs,rfl,.inl h1,h2⟩
 |_=>simp[zam] at h
theorem Rep.seq(r:Rep W S H){t:T}{v:V}{ts:List T}(d:Den W t v)(h:zd0 S t=some ts):∃a vs,v=.ref a/\(Rd H a (.lst vs)\/Rd H a (.tup vs))/\Dens W ts vs:=by
 cases t with
 | tup xs=>
   have e:xs=ts:=by simpa[zd0] using h
   subst e;obtain⟨a,vs,rfl,h1,h2⟩:=zdz.mp d;exact⟨a,vs,rfl,.inr (r.sub a _ h1).1.rd,h2⟩
 |lst xs=>obtain⟨a,vs,e,h1,h2⟩:=r.list d (by simpa[zd0] using h);exact⟨a,vs,e,.inl h1,h2⟩
 |obj k=>obtain⟨a,vs,e,h1,h2⟩:=r.list d (by simpa[zd0] using h);exact⟨a,vs,e,.inl h1,h2⟩
 |_=>simp[zd0,zam] at h
theorem Rep.dict(r:Rep W S H){t:T}{v:V}{ts:List (Key×T)}(d:Den W t v)(h:zfu S t=some ts):∃a vs,v=.ref a/\Rd H a (.dK vs)/\DenK W ts vs:=by
 cases t with
 | dic xs=>
   have e:xs=ts:=by simpa[zfu] using h
   subst e;obtain⟨a,vs,rfl,h1,h2⟩:=zhf.mp d;exact⟨a,vs,rfl,(r.sub a _ h1).1.rd,h2⟩
 | obj k=>
   obtain⟨rfl,hk⟩:=zb5.mp d;obtain⟨⟨vs,h1,h2⟩,_⟩:=r.cell k _ (zy7 h);exact⟨_,vs,rfl,.inl h1,h2⟩
 |_=>simp[zfu] at h
end
noncomputable def eVar(i:Nat):DE:=fun ρ=>match ρ[i]? with
 |some (some t)=>M.pure t
 |_=>M.bad
def eC(t:T):DE:=fun _=>M.pure t
def e2(g:T->T->M T)(fa fb:DE):DE:=fun ρ=>(fa ρ).bind fun x=>(fb ρ).bind fun y=>g x y
def e1(g:T->M T)(fa:DE):DE:=fun ρ=>(fa ρ).bind g
def aNil:DA:=fun _=>M.pure []
noncomputable def zad(fa:DE)(r:DA):DA:=fun ρ=>(fa ρ).bind fun t=>(r ρ).bind fun ts=>M.pure (t::ts)
section
variable {X:Cx}{E:XK}{a b e:Expr}{es:List Expr}{fa fb:DE}{fr:DA}{pos:Pos}
theorem z89{i:Nat}{σ:St}{H:Hp}{Q:VK}(h:RE E (eVar i) σ H Q):tVar i σ H Q:=by
 obtain⟨W,S,ρ,r,env,p⟩:=h;unfold eVar at p;cases e:ρ[i]? with
 |none=>rw[e] at p;exact p.elim
 | some o=>
   cases o with
   |none=>rw[e] at p;exact p.elim
   | some t=>
     rw[e] at p;obtain⟨v,e1,d⟩:=env.get e;exact⟨v,e1,p W H (Wd.le.refl W) r v d⟩
theorem ev(i:Nat){x:Str}(hN:X.N[i]?=some x:=by rfl)(hv:Vis X.env.scope x:=by first | exact Or.inl rfl | exact Or.inr (Or.inl rfl) | exact Or.inr (Or.inr rfl))(hd:(x==("__debug__" : Str))=false:=by decide)
 (hcd:(x==("__classdict__" : Str))=false:=by decide):PE X (.Name x pos) (RE E (eVar i)):=zb2 (pv i hN hv hd hcd) fun _ _ _=>z89
theorem re_c{t:T}{v:V}(hd:∀W,Den W t v){σ:St}{H:Hp}{Q:VK}(h:RE E (eC t) σ H Q):Q v H:=by
 obtain⟨W,S,ρ,r,env,p⟩:=h;exact p W H (Wd.le.refl W) r v (hd W)
theorem zaf{i j}:PE X (.Constant (.int i) j pos) (RE E (eC (.int i))):=zb2 z7z fun _ _ _=>re_c fun W=>zay.mpr rfl
theorem zjz{i j}:PE X (.Constant (.bool i) j pos) (RE E (eC (.bl i))):=zb2 Zba fun _ _ _=>re_c fun W=>zbl.mpr rfl
theorem zap{i j}:PE X (.Constant (.str i) j pos) (RE E (eC (.str i))):=zb2 zux fun _ _ _=>re_c fun W=>zbm.mpr rfl
theorem zfg{j}:PE X (.Constant .none j pos) (RE E (eC .non)):=zb2 z70 fun _ _ _=>re_c fun W=>zco.mpr rfl
def G2(E:XK)(r:R2)(g:T->T->M T):Prop:=∀(tx ty:T) (W:Wd) (S:Sto) (H:Hp) (x y:V) (Q:VK),Rep W S H->Den W tx x->Den W ty y->Post E W (QV Q) (g tx ty S)->r x y H Q
theorem re2{r:R2}{g:T->T->M T}(hg:G2 E r g){σ:St}{H:Hp}{Q:VK}(h:RE E (e2 g fa fb) σ H Q):tOp r (RE E fa) (RE E fb) σ H Q:=by
 obtain⟨W,S,ρ,rp,env,p⟩:=h;refine⟨W,S,ρ,rp,env,(Post.bind p).imp fun tx W1 S1 H1 l1 r1 p1 x dx=>?_⟩;refine⟨W1,S1,ρ,r1,env.mono l1,(Post.bind p1).imp fun ty W2 S2 H2 l2 r2 p2 y dy=>?_⟩;exact hg tx ty W2 S2 H2 x y Q r2 (Den.mono l2 _ _ dx) dy p2
def G1(E:XK)(r:V->Hp->VK->Prop)(g:T->M T):Prop:=∀(tx:T) (W:Wd) (S:Sto) (H:Hp) (x:V) (Q:VK),Rep W S H->Den W tx x->Post E W (QV Q) (g tx S)->r x H Q
theorem re1{r:V->Hp->VK->Prop}{g:T->M T}(hg:G1 E r g){σ:St}{H:Hp}{Q:VK}(h:RE E (e1 g fa) σ H Q):RE E fa σ H (fun x H1=>r x H1 Q):=by
 obtain⟨W,S,ρ,rp,env,p⟩:=h;exact⟨W,S,ρ,rp,env,(Post.bind p).imp fun tx W1 S1 H1 l1 r1 p1 x dx=>hg tx W1 S1 H1 x Q r1 dx p1⟩
theorem zae:PA X [] (RA E aNil):=z88 zls fun σ H Q h=>by
 obtain⟨W,S,ρ,r,env,p⟩:=h;exact p W H (Wd.le.refl W) r [] Dens.nil'
theorem zaa(ha:PE X e (RE E fa))(hr:PA X es (RA E fr))(hs:starEach (e::es) X.env=(false,eval e X.env)::starEach es X.env:=by rfl):PA X (e::es) (RA E (zad fa fr)):=
 z88 (zfr ha hr hs) fun σ H Q h=>by
  obtain⟨W,S,ρ,rp,env,p⟩:=h;refine⟨W,S,ρ,rp,env,(Post.bind p).imp fun tx W1 S1 H1 l1 r1 p1 x dx=>?_⟩;refine⟨W1,S1,ρ,r1,env.mono l1,(Post.bind p1).imp fun ts W2 S2 H2 l2 r2 p2 vs dvs=>?_⟩;exact p2 W2 H2 (Wd.le.refl _) r2 _ (Dens.cons' (Den.mono l2 _ _ dx) dvs)
end
noncomputable def gI(f:Int->Int->Option T)(x y:T):M T:=fun S=>match x,y with
 | .int i,.int j=>(match f i j with
   |some t=>.ok t S
   |none=>.bad)
 |_,_=>.bad
theorem z9a{E:XK}{W:Wd}{S:Sto}{f:Int->Int->Option T}{tx ty:T}{Q:T->Wd->Sto->Hp->Prop}(p:Post E W Q (gI f tx ty S)):∃i j t,tx=.int i/\ty=.int j/\f i j=some t/\Post E W Q (.ok t S):=by
 unfold gI at p;cases tx with
 | int i=>
   cases ty with
   | int j=>
     cases e:f i j with
     |none=>simp only[e] at p;exact p.elim
     |some t=>simp only[e] at p;exact⟨i,j,t,rfl,rfl,e,p⟩
   |_=>exact p.elim
 |_=>exact p.elim
def fSub(i j:Int):Option T:=some (.int (i-j))
noncomputable def fMul(i j:Int):Option T:=if(-(2 ^ 64)<i/\i<2 ^ 64)\/(-(2 ^ 64)<j/\j<2 ^ 64) then some (.int (i*j)) else none
def fDiv(i j:Int):Option T:=if 0<j/\j<1073741824 then some (.int (i / j)) else none
def fMod(i j:Int):Option T:=if 0<j then some (.int (i%j)) else none
noncomputable def fPow(i j:Int):Option T:=if 0<=j/\j<=1000/\i.natAbs<2 ^ 64 then some (.int (i ^ j.toNat)) else none
def fLt(i j:Int):Option T:=some (.bl (decide (i<j)))
def fGt(i j:Int):Option T:=some (.bl (decide (j<i)))
def fGe(i j:Int):Option T:=some (.bl (decide (j<=i)))
section
variable {X:Cx}{E:XK}{a b e:Expr}{fa fb:DE}{pos:Pos}
theorem now{E:XK}{W:Wd}{S:Sto}{H:Hp}{t:T}{v:V}{Q:VK}(p:Post E W (QV Q) (.ok t S))(r:Rep W S H)(d:Den W t v):Q v H:=p W H (Wd.le.refl W) r v d
theorem z2h{f:Int->Int->V}{g:Int->Int->Option T}(h:∀i j t,g i j=some t->∀W,Den W t (f i j)):G2 E (rI0 f) (gI g):=by
 intro tx ty W S H x y Q r dx dy p;obtain⟨i,j,t,rfl,rfl,e,p⟩:=z9a p;exact⟨i,j,zay.mp dx,zay.mp dy,now p r (h i j t e W)⟩
theorem g2_I{C:Int->Int->Prop}{f:Int->Int->V}{g:Int->Int->Option T}(h:∀i j t,g i j=some t->C i j/\∀W,Den W t (f i j)):G2 E (rI C f) (gI g):=by
 intro tx ty W S H x y Q r dx dy p;obtain⟨i,j,t,rfl,rfl,e,p⟩:=z9a p;exact⟨i,j,zay.mp dx,zay.mp dy,(h i j t e).1,now p r ((h i j t e).2 W)⟩
theorem z6a(ha:PE X a (RE E fa))(hb:PE X b (RE E fb)):PE X (.BinOp a .Sub b pos) (RE E (e2 (gI fSub) fa fb)):=zb2 (zwq z8e ha hb) fun _ _ _=>re2 (z2h fun i j t e W=>by cases e;exact zay.mpr rfl)
theorem zw8(ha:PE X a (RE E fa))(hb:PE X b (RE E fb)):PE X (.BinOp a .Mult b pos) (RE E (e2 (gI fMul) fa fb)):=zb2 (zwq z8f ha hb) fun _ _ _=>re2 (g2_I fun i j t e=>by
 unfold fMul at e;split at e
 ·rename_i h;cases e;exact⟨h,fun W=>zay.mpr rfl⟩
 ·cases e)
theorem zn2(ha:PE X a (RE E fa))(hb:PE X b (RE E fb)):PE X (.BinOp a .FloorDiv b pos) (RE E (e2 (gI fDiv) fa fb)):=zb2 (zwq z5h ha hb) fun _ _ _=>re2 (g2_I fun i j t e=>by
 unfold fDiv at e;split at e
 ·rename_i h;cases e;exact⟨h,fun W=>zay.mpr rfl⟩
 ·cases e)
theorem zgp(ha:PE X a (RE E fa))(hb:PE X b (RE E fb)):PE X (.BinOp a .Mod b pos) (RE E (e2 (gI fMod) fa fb)):=zb2 (zwq z8g ha hb) fun _ _ _=>re2 (g2_I fun i j t e=>by
 unfold fMod at e;split at e
 ·rename_i h;cases e;exact⟨h,fun W=>zay.mpr rfl⟩
 ·cases e)
theorem z9b(ha:PE X a (RE E fa))(hb:PE X b (RE E fb)):PE X (.BinOp a .Pow b pos) (RE E (e2 (gI fPow) fa fb)):=zb2 (zwq z8h ha hb) fun _ _ _=>re2 (g2_I fun i j t e=>by
 unfold fPow at e;split at e
 ·rename_i h;cases e;exact⟨⟨h.1,Int.le_trans h.2.1 (by decide),h.2.2⟩,fun W=>zay.mpr rfl⟩
 ·cases e)
noncomputable def gAdd(x y:T):M T:=fun S=>match x,y with
 |.int i,.int j=>.ok (.int (i+j)) S
 |.str i,.str j=>if i.length+j.length<=1000 then .ok (.str (i++j)) S else .bad
 | _,_=>match zam S x,zam S y with
   |some xs,some ys=>if xs.length+ys.length<=1000 then .ok (.lst (xs++ys)) S else .bad
   |_,_=>.bad
theorem z6b:OpR X (binaryOp .Add) (fun x y H Q=>∃l b xs zs,x=.ref l/\y=.ref b/\Rd H l (.lst xs)/\Rd H b (.lst zs)/\xs.length+zs.length<=sizeLine/\∀p,H p=none->Q (.ref p) (upd H p (.lst (xs++zs)))):=by
 intro pins s σ H x y v u Q I rx ry h;obtain⟨l,b,xs,zs,rfl,rfl,hH,hB,hz,q⟩:=h;cases rx;cases ry;obtain⟨z,its,n,r,e⟩:=hH.ok I.hok;obtain⟨z2,its2,n2,r2,e2⟩:=hB.ok I.hok;have hl:=r.length;have hl2:=r2.length;refine PySem.P.add_list e e2 ?_ (by rw[List.size_toArray,List.size_toArray];omega);have ea:its.toArray++its2.toArray=(its++its2).toArray:=by simp
 rw[ea];exact⟨.ref _,_,I.lnew (t':=s.toks) (r.append r2) (by rw[List.length_append];omega),rfl,q _ I.fresh⟩
theorem big{n:Nat}(h:n<=1000):n<=sizeLine:=Nat.le_of_lt (zq6 h)
theorem zvf{E:XK}{W:Wd}{S:Sto}{H:Hp}{Q:VK}{ts:List T}{vs:List V}(p:Post E W (QV Q) (.ok (.lst ts) S))(r:Rep W S H)(d:Dens W ts vs):∀a,H a=none->Q (.ref a) (upd H a (.lst vs)):=fun a ha=>by
 have l:W.le (W.frz a (.lst vs)):=Wd.frz_le (r.hsNone ha);exact p (W.frz a (.lst vs)) _ l (r.frz ha _ trivial) _ (zdy.mpr ⟨a,vs,rfl,zaj,Dens.mono l _ _ d⟩)
theorem ztl{E:XK}{W:Wd}{S:Sto}{H:Hp}{Q:VK}{ts:List T}{vs:List V}(p:Post E W (QV Q) (.ok (.tup ts) S))(r:Rep W S H)(d:Dens W ts vs):∀a,H a=none->Q (.ref a) (upd H a (.tup vs)):=fun a ha=>by
 have l:W.le (W.frz a (.tup vs)):=Wd.frz_le (r.hsNone ha);exact p (W.frz a (.tup vs)) _ l (r.frz ha _ trivial) _ (zdz.mpr ⟨a,vs,rfl,zaj,Dens.mono l _ _ d⟩)
theorem zvg{E:XK}{W:Wd}{S:Sto}{H:Hp}{Q:VK}{ts:List T}{vs:List V}(p:Post E W (QV Q) (.ok (.obj S.length) (S++[.lst ts])))(r:Rep W S H)(d:Dens W ts vs):∀a,H a=none->Q (.ref a) (upd H a (.lst vs)):=fun a ha=>by
 refine p (W.add a) _ Wd.add_le (r.cellNew ha (.lst ts) _ ⟨vs,zaj,Dens.mono Wd.add_le _ _ d⟩) _ (zb5.mpr ⟨?_,?_⟩)
 ·rw[r.len,Wd.add_at]
 ·rw[r.len];exact Nat.lt_succ_self _
theorem z9c:G2 E (fun x y H Q=>(rI0 (fun i j=>.int (i+j)) x y H Q\/(∃i j,x=.str i/\y=.str j/\i.length+j.length<=sizeLine/\Q (.str (i++j)) H))\/(∃l b xs zs,x=.ref l/\y=.ref b/\Rd H l (.lst xs)/\Rd H b (.lst zs)/\xs.length+zs.length<=sizeLine/\∀p,H p=none->Q (.ref p) (upd H p (.lst (xs++zs))))) gAdd:=by
 intro tx ty W S H x y Q r dx dy p;have lists:∀{tx ty:T},Den W tx x->Den W ty y->Post E W (QV Q) (match zam S tx,zam S ty with|some xs,some ys=>if xs.length+ys.length<=1000 then .ok (.lst (xs++ys)) S else .bad | _,_=>.bad)->(∃l b xs zs,x=.ref l/\y=.ref b/\Rd H l (.lst xs)/\Rd H b (.lst zs)/\xs.length+zs.length<=sizeLine/\∀p,H p=none->Q (.ref p) (upd H p (.lst (xs++zs)))):=by
  intro tx ty dx dy p;cases e1:zam S tx with
  |none=>simp only[e1] at p;exact p.elim
  | some xs=>
    cases e2:zam S ty with
    |none=>simp only[e1,e2] at p;exact p.elim
    | some ys=>
      simp only[e1,e2] at p
      split at p
      ·rename_i hl
       obtain⟨a,vs,rfl,h1,h2⟩:=r.list dx e1;obtain⟨b,ws,rfl,h3,h4⟩:=r.list dy e2;refine⟨a,b,vs,ws,rfl,rfl,h1,h3,big (by rw[<- h2.length,<- h4.length];exact hl),zvf p r (h2.append h4)⟩
      ·exact p.elim
 unfold gAdd at p
 split at p
 ·exact .inl (.inl ⟨_,_,zay.mp dx,zay.mp dy,now p r (zay.mpr rfl)⟩)
 ·split at p
  ·rename_i hl
   exact .inl (.inr ⟨_,_,zbm.mp dx,zbm.mp dy,big hl,now p r (zbm.mpr rfl)⟩)
  ·exact p.elim
 ·exact .inr (lists dx dy p)
theorem zig(ha:PE X a (RE E fa))(hb:PE X b (RE E fb)):PE X (.BinOp a .Add b pos) (RE E (e2 gAdd fa fb)):=zb2 (zwq ((z8d.or zws).or z6b) ha hb) fun _ _ _=>re2 z9c
end
end MF
namespace MF
open PySem L2 PySem.SeqAt
mutual
def pd:T->Option PyData
 |.non=>some .none
 |.bl b=>some (.bool b)
 |.int i=>some (.int i)
 |.str x=>some (.str x)
 |.lst ts=>(pds ts).map .list
 |.tup ts=>(pds ts).map .tuple
 |.dic _=>none
 |.obj _=>none
def pds:List T->Option (List PyData)
 |[]=>some []
 | t::ts=>match pd t,pds ts with
   |some d,some ds=>some (d::ds)
   |_,_=>none
end
mutual
def RdD(H:Hp):PyData->V->Prop
 |.none,v=>v=.non
 |.bool b,v=>v=.bl b
 |.int i,v=>v=.int i
 |.str x,v=>v=.str x
 |.list ds,v=>∃a vs,v=.ref a/\Rd H a (.lst vs)/\RdDs H ds vs
 |.tuple ds,v=>∃a vs,v=.ref a/\Rd H a (.tup vs)/\RdDs H ds vs
 |.dict _,_=>False
def RdDs(H:Hp):List PyData->List V->Prop
 |[],vs=>vs=[]
 |d::ds,vs=>∃v r,vs=v::r/\RdD H d v/\RdDs H ds r
end
section
variable {W:Wd}{S:Sto}{H:Hp}
mutual
theorem zy8(r:Rep W S H):∀(t:T) (v:V) (d:PyData),Den W t v->pd t=some d->RdD H d v
 |.non,v,d,h,e=>by simp only[pd] at e;cases e;simp only[RdD];exact zco.mp h
 |.bl _,v,d,h,e=>by simp only[pd] at e;cases e;simp only[RdD];exact zbl.mp h
 |.int _,v,d,h,e=>by simp only[pd] at e;cases e;simp only[RdD];exact zay.mp h
 |.str _,v,d,h,e=>by simp only[pd] at e;cases e;simp only[RdD];exact zbm.mp h
 | .lst ts,v,d,h,e=>by
   simp only[pd] at e;obtain⟨ds,e1,rfl⟩:=Option.map_eq_some_iff.mp e;obtain⟨a,vs,rfl,h1,h2⟩:=zdy.mp h;simp only[RdD];exact⟨a,vs,rfl,(r.sub _ _ h1).1.rd,rdDs_of r ts vs ds h2 e1⟩
 | .tup ts,v,d,h,e=>by
   simp only[pd] at e;obtain⟨ds,e1,rfl⟩:=Option.map_eq_some_iff.mp e;obtain⟨a,vs,rfl,h1,h2⟩:=zdz.mp h;simp only[RdD];exact⟨a,vs,rfl,(r.sub _ _ h1).1.rd,rdDs_of r ts vs ds h2 e1⟩
 |.dic _,v,d,h,e=>by simp only[pd] at e;cases e
 |.obj _,v,d,h,e=>by simp only[pd] at e;cases e
theorem rdDs_of(r:Rep W S H):∀(ts:List T) (vs:List V) (ds:List PyData),Dens W ts vs->pds ts=some ds->RdDs H ds vs
 |[],vs,ds,h,e=>by simp only[pds] at e;cases e;simp only[RdDs];exact zbo.mp h
 | t :: ts,vs,ds,h,e=>by
   obtain⟨v,q,rfl,h1,h2⟩:=za3.mp h;simp only[pds] at e;cases e1:pd t with
   |none=>simp[e1] at e
   | some d=>
     cases e2:pds ts with
     |none=>simp[e1,e2] at e
     | some ds'=>
       simp[e1,e2] at e;subst e;simp only[RdDs];exact⟨v,q,rfl,zy8 r t v d h1 e1,rdDs_of r ts q ds' h2 e2⟩
end
end
mutual
theorem reads_of{P:Program}{w:World}{H:Hp}{h:Heap}(ok:HOk P w H h):∀(d:PyData) (v:V) (u:Value),RdD H d v->RelV v u->∃as,Reads h u d as
 |.none,v,u,q,r=>by simp only[RdD] at q;subst q;cases r;exact⟨_,.none⟩
 |.bool b,v,u,q,r=>by simp only[RdD] at q;subst q;cases r;exact⟨_,.bool b⟩
 |.int i,v,u,q,r=>by simp only[RdD] at q;subst q;obtain⟨t,rfl⟩:=r;exact⟨_,.int i t⟩
 |.str i,v,u,q,r=>by simp only[RdD] at q;subst q;obtain⟨t,rfl⟩:=r;exact⟨_,.str i t⟩
 | .list ds,v,u,q,r=>by
   simp only[RdD] at q;obtain⟨a,vs,rfl,h1,h2⟩:=q;cases r;obtain⟨_,its,n,r,e⟩:=h1.ok ok;obtain⟨as,ra⟩:=readsAll_of ok ds vs its h2 r;exact⟨_,.list e rfl rfl (by simpa using ra)⟩
 | .tuple ds,v,u,q,r=>by
   simp only[RdD] at q;obtain⟨a,vs,rfl,h1,h2⟩:=q;cases r;obtain⟨_,its,r,o,e,hc,n,hd⟩:=h1.ok ok;obtain⟨as,ra⟩:=readsAll_of ok ds vs its h2 r;exact⟨_,.tuple e hc hd (by simpa using ra)⟩
 |.dict _,v,u,q,r=>by simp only[RdD] at q
theorem readsAll_of{P:Program}{w:World}{H:Hp}{h:Heap}(ok:HOk P w H h):∀(ds:List PyData) (vs:List V) (us:List Value),RdDs H ds vs->Vals vs us->∃as,ReadsAll h us ds as
 |[],vs,us,q,r=>by simp only[RdDs] at q;subst q;cases r;exact⟨_,.nil⟩
 | d :: ds,vs,us,q,r=>by
   simp only[RdDs] at q;obtain⟨v,vr,rfl,h1,h2⟩:=q;cases r with
   | cons r1 r2=>
     obtain⟨as,ra⟩:=reads_of ok d v _ h1 r1;obtain⟨bs,rb⟩:=readsAll_of ok ds vr _ h2 r2;exact⟨_,.cons ra rb⟩
end
noncomputable def pdS(S:Sto):T->Option PyData
 | .obj k=>match S[k]? with
   |some (.lst ts)=>(pds ts).map .list
   |_=>none
 |t=>pd t
theorem z4a{W:Wd}{S:Sto}{H:Hp}(r:Rep W S H){t:T}{v:V}{d:PyData}(h:Den W t v)(e:pdS S t=some d):RdD H d v:=by
 cases t with
 | obj k=>
   obtain⟨rfl,hk⟩:=zb5.mp h;unfold pdS at e;cases e0:S[k]? with
   |none=>simp[e0] at e
   | some c=>
     cases c with
     | lst ts=>
       simp only[e0] at e;obtain⟨ds,e1,rfl⟩:=Option.map_eq_some_iff.mp e;obtain⟨⟨vs,h1,h2⟩,_⟩:=r.cell k _ e0;simp only[RdD];exact⟨_,vs,rfl,.inl h1,rdDs_of r ts vs ds h2 e1⟩
     |dic _=>simp[e0] at e
     |ins _ _=>simp[e0] at e
     |exc _ _=>simp[e0] at e
     |lck _=>simp[e0] at e
 |_=>exact zy8 r _ v d h (by simpa[pdS] using e)
noncomputable def toV:T->Option V
 |.non=>some .non
 |.bl b=>some (.bl b)
 |.int i=>some (.int i)
 |.str x=>some (.str x)
 |_=>none
theorem zm3{W:Wd}{t:T}{v u:V}(h:Den W t v)(e:toV t=some u):v=u:=by
 cases t<;>simp only[toV,Option.some.injEq] at e<;>first | (subst e;first | exact zco.mp h | exact zbl.mp h | exact zay.mp h | exact zbm.mp h) | cases e
noncomputable def eqS(S:Sto)(x y:T):Option Bool:=match toV x,toV y with
 |some u,some v=>if scal u v=true then some (decide (u=v)) else none
 | _,_=>match pdS S x,pdS S y with
   |some a,some b=>if(a.canLay0&&b.canLay0&&decide (a.depth<=50))=true then some (PyData.eqv a b) else none
   |_,_=>none
noncomputable def gEq(x y:T):M T:=fun S=>match eqS S x y with
 |some b=>.ok (.bl b) S
 |none=>.bad
def gNe(x y:T):M T:=fun S=>match eqS S x y with
 |some b=>.ok (.bl (!b)) S
 |none=>.bad
def rEqD(neg:Bool):R2:=fun x y H Q=>∃a b,RdD H a x/\RdD H b y/\a.canLay0=true/\b.canLay0=true/\a.depth<=50/\Q (.bl (if neg then !PyData.eqv a b else PyData.eqv a b)) H
section
variable {X:Cx}{E:XK}{a b e:Expr}{es:List Expr}{fa fb fc:DE}{fr:DA}{pos:Pos}
theorem z4b(hu:X.A.units+64<cLine):OpR X (compareOp .Eq) (rEqD false):=by
 intro pins s σ H x y v u Q I rx ry h;obtain⟨a,b,ra,rb,ca,cb,hd,q⟩:=h;obtain⟨as,qa⟩:=reads_of I.hok a x v ra rx;obtain⟨bs,qb⟩:=reads_of I.hok b y u rb ry;exact compareEq_reads qa qb ca cb (by have:=Nat.min_le_left a.depth b.depth;omega) ⟨.bl _,H,I,rfl,q⟩
theorem z4c(hu:X.A.units+64<cLine):OpR X (compareOp .NotEq) (rEqD true):=by
 intro pins s σ H x y v u Q I rx ry h;obtain⟨a,b,ra,rb,ca,cb,hd,q⟩:=h;obtain⟨as,qa⟩:=reads_of I.hok a x v ra rx;obtain⟨bs,qb⟩:=reads_of I.hok b y u rb ry;exact compareNe_reads qa qb ca cb (by have:=Nat.min_le_left a.depth b.depth;omega) ⟨.bl _,H,I,rfl,q⟩
theorem z4d{W:Wd}{S:Sto}{H:Hp}{tx ty:T}{x y:V}{c:Bool}(r:Rep W S H)(dx:Den W tx x)(dy:Den W ty y)(e:eqS S tx ty=some c) :
  (scal x y=true/\c=decide (x=y))\/∃a b,RdD H a x/\RdD H b y/\a.canLay0=true/\b.canLay0=true/\a.depth<=50/\c=PyData.eqv a b:=by
 have data:(match pdS S tx,pdS S ty with|some a,some b=>if(a.canLay0&&b.canLay0&&decide (a.depth<=50))=true then some (PyData.eqv a b) else none | _,_=>none)=some c->∃a b,RdD H a x/\RdD H b y/\a.canLay0=true/\b.canLay0=true/\a.depth<=50/\c=PyData.eqv a b:=fun e=>by
  cases e1:pdS S tx with
  |none=>simp[e1] at e
  | some a=>
    cases e2:pdS S ty with
    |none=>simp[e1,e2] at e
    | some b=>
      simp only[e1,e2] at e
      split at e
      ·rename_i hc
       simp only[Bool.and_eq_true,decide_eq_true_eq] at hc;cases e;exact⟨a,b,z4a r dx e1,z4a r dy e2,hc.1.1,hc.1.2,hc.2,rfl⟩
      ·cases e
 unfold eqS at e;cases e1:toV tx with
 |none=>simp only[e1] at e;exact .inr (data e)
 | some u=>
   cases e2:toV ty with
   |none=>simp only[e1,e2] at e;exact .inr (data e)
   | some v=>
     simp only[e1,e2] at e
     split at e
     ·rename_i hs
      cases e;have h1:=zm3 dx e1;have h2:=zm3 dy e2;subst h1 h2;exact .inl ⟨hs,rfl⟩
     ·cases e
theorem z9d:G2 E (fun x y H Q=>rEq x y H Q\/rEqD false x y H Q) gEq:=by
 intro tx ty W S H x y Q r dx dy p;unfold gEq at p;cases e:eqS S tx ty with
 |none=>simp only[e] at p;exact p.elim
 | some c=>
   simp only[e] at p;rcases z4d r dx dy e with⟨h1,rfl⟩ | ⟨a,b,h1,h2,h3,h4,h5,rfl⟩
   ·exact .inl ⟨h1,now p r (zbl.mpr rfl)⟩
   ·exact .inr ⟨a,b,h1,h2,h3,h4,h5,now p r (zbl.mpr rfl)⟩
theorem z9e:G2 E (fun x y H Q=>rNe x y H Q\/rEqD true x y H Q) gNe:=by
 intro tx ty W S H x y Q r dx dy p;unfold gNe at p;cases e:eqS S tx ty with
 |none=>simp only[e] at p;exact p.elim
 | some c=>
   simp only[e] at p;rcases z4d r dx dy e with⟨h1,rfl⟩ | ⟨a,b,h1,h2,h3,h4,h5,rfl⟩
   ·exact .inl ⟨h1,now p r (zbl.mpr rfl)⟩
   ·exact .inr ⟨a,b,h1,h2,h3,h4,h5,now p r (zbl.mpr rfl)⟩
theorem e_eq(hu:X.A.units+64<cLine)(ha:PE X a (RE E fa))(hb:PE X b (RE E fb)):PE X (.Compare a [.Eq] [b] pos) (RE E (e2 gEq fa fb)):=zb2 (zs3 (z8j.or (z4b hu)) ha hb (zjl _)) fun _ _ _=>re2 z9d
theorem e_ne(hu:X.A.units+64<cLine)(ha:PE X a (RE E fa))(hb:PE X b (RE E fb)):PE X (.Compare a [.NotEq] [b] pos) (RE E (e2 gNe fa fb)):=zb2 (zs3 (z8k.or (z4c hu)) ha hb (zjl _)) fun _ _ _=>re2 z9e
noncomputable def inF(x:T)(ts:List T):Option Bool:=match toV x,ts.mapM toV with
 |some u,some vs=>if(zfs u&&vs.all zfs)=true then some (inV u vs) else none
 |_,_=>none
noncomputable def inS(S:Sto)(x y:T):Option Bool:=match zd0 S y with
 | some ts=>(match inF x ts with
   |some b=>some b
   | none=>match pd x,pds ts with
     |some d,some ds=>if(d.canLay0&&PyData.canLayAll0 ds&&decide (d.depth<=20)&&decide (PyData.depthAll ds<=20))=true then some (ds.any fun z=>PyData.eqv z d) else none
     |_,_=>none)
 |none=>none
def gIn(x y:T):M T:=fun S=>match inS S x y with
 |some b=>.ok (.bl b) S
 |none=>.bad
theorem zpg{W:Wd}:∀{ts:List T} {vs us:List V},Dens W ts vs->ts.mapM toV=some us->vs=us
 | [],vs,us,h,e=>by
   have e:some []=some us:=by simpa using e
   rw[zbo.mp h,<- Option.some.inj e]
 | t :: ts,vs,us,h,e=>by
   obtain⟨v,r,rfl,h1,h2⟩:=za3.mp h;rw[List.mapM_cons] at e;cases e1:toV t with
   |none=>simp[e1] at e
   | some u=>
     cases e2:ts.mapM toV with
     |none=>simp[e1,e2] at e
     | some ws=>
       simp[e1,e2] at e;subst e;rw[zm3 h1 e1,zpg h2 e2]
def rInD(neg:Bool):R2:=fun x y H Q=>∃p xs ds d,y=.ref p/\(Rd H p (.lst xs)\/Rd H p (.tup xs))/\RdDs H ds xs/\RdD H d x/\PyData.canLayAll0 ds=true/\d.canLay0=true/\d.depth<=20/\PyData.depthAll ds<=20 /\
 Q (.bl (if neg then !(ds.any fun z=>PyData.eqv z d) else ds.any fun z=>PyData.eqv z d)) H
theorem z9f{W:Wd}{S:Sto}{H:Hp}{tx ty:T}{x y:V}{c:Bool}(K:PySem.W.Frag)(r:Rep W S H)(dx:Den W tx x)(dy:Den W ty y)(e:inS S tx ty=some c) :
  (∃p xs,y=.ref p/\(SqL K H p xs\/SqT K H p xs)/\zfs x=true/\xs.all zfs=true/\c=inV x xs) \/
  ∃p xs ds d,y=.ref p/\(Rd H p (.lst xs)\/Rd H p (.tup xs))/\RdDs H ds xs/\RdD H d x/\PyData.canLayAll0 ds=true/\d.canLay0=true/\d.depth<=20/\PyData.depthAll ds<=20/\c=ds.any fun z=>PyData.eqv z d:=by
 unfold inS at e;cases e0:zd0 S ty with
 |none=>simp only[e0] at e;cases e
 | some ts=>
   obtain⟨p,xs,rfl,h1,h2⟩:=r.seq dy e0;simp only[e0] at e;cases ef:inF tx ts with
   | some b=>
     simp only[ef] at e;cases e;unfold inF at ef;cases e1:toV tx with
     |none=>simp[e1] at ef
     | some u=>
       cases e2:ts.mapM toV with
       |none=>simp[e1,e2] at ef
       | some us=>
         simp only[e1,e2] at ef
         split at ef
         ·rename_i hf
          rw[Bool.and_eq_true] at hf;cases ef;have q1:=zm3 dx e1;have q2:=zpg h2 e2;subst q1 q2;refine .inl ⟨p,xs,rfl,?_,hf.1,hf.2,rfl⟩;rcases h1 with h1 | h1
          ·exact .inl (.inl h1)
          ·exact .inr (.inl h1)
         ·cases ef
   | none =>
     simp only[ef] at e;cases e1:pd tx with
     |none=>simp[e1] at e
     | some d=>
       cases e2:pds ts with
       |none=>simp[e1,e2] at e
       | some ds=>
         simp only[e1,e2] at e
         split at e
         ·rename_i hc
          simp only[Bool.and_eq_true,decide_eq_true_eq] at hc;cases e;exact .inr ⟨p,xs,ds,d,rfl,h1,rdDs_of r _ _ _ h2 e2,zy8 r _ _ _ dx e1,hc.1.1.2,hc.1.1.1,hc.1.2,hc.2,rfl⟩
         ·cases e
theorem z9g(hu:X.A.units+64<cLine):OpR X (compareOp .In) (rInD false):=by
 intro pins s σ H x y v u Q I rx ry h;obtain⟨p,xs,ds,d,rfl,hp,rs,rd,cs,cd,hd,hds,q⟩:=h;cases ry;obtain⟨bs,qb⟩:=reads_of I.hok d x v rd rx;rcases hp with hp | hp
 ·obtain⟨as,qa⟩:=reads_of I.hok (.list ds) (.ref p) (.ref p) (by simp only[RdD];exact⟨p,xs,rfl,hp,rs⟩) rfl
  exact in_list_reads qa qb cs cd (by omega) ⟨.bl _,H,I,rfl,q⟩
 ·obtain⟨as,qa⟩:=reads_of I.hok (.tuple ds) (.ref p) (.ref p) (by simp only[RdD];exact⟨p,xs,rfl,hp,rs⟩) rfl
  exact in_tuple_reads qa qb cs cd (by omega) ⟨.bl _,H,I,rfl,q⟩
theorem Zbz(K:PySem.W.Frag):G2 E (fun x y H Q=>rIn K false x y H Q\/rInD false x y H Q) gIn:=by
 intro tx ty W S H x y Q r dx dy p;unfold gIn at p;cases e:inS S tx ty with
 |none=>simp only[e] at p;exact p.elim
 | some c=>
   simp only[e] at p;rcases z9f K r dx dy e with⟨q,xs,rfl,h1,h2,h3,rfl⟩ | ⟨q,xs,ds,d,rfl,h1,h2,h3,h4,h5,h6,h7,rfl⟩
   ·exact .inl ⟨q,xs,rfl,h1,h2,h3,now p r (zbl.mpr rfl)⟩
   ·exact .inr ⟨q,xs,ds,d,rfl,h1,h2,h3,h4,h5,h6,h7,now p r (zbl.mpr rfl)⟩
end
end MF
namespace MF
open PySem L2
noncomputable def z6c(t:T):M Bool:=fun S=>match t with
 |.bl b=>.ok b S
 |_=>.bad
noncomputable def truM(t:T):M Bool:=fun S=>match t with
 |.non=>.ok false S
 |.bl b=>.ok b S
 |.int i=>.ok (i != 0) S
 |.str x=>if x.length<=1000 then .ok ((x.length:Int) != 0) S else .bad
 | t=>match zd0 S t with
   |some ts=>.ok (!ts.isEmpty) S
   |none=>.bad
def tst(f:DE):DT:=fun ρ=>(f ρ).bind z6c
def tru(f:DE):DT:=fun ρ=>(f ρ).bind truM
noncomputable def zph(f g:DT):DT:=fun ρ=>(f ρ).bind fun c=>if c=true then g ρ else M.pure false
noncomputable def tOrD(f g:DT):DT:=fun ρ=>(f ρ).bind fun c=>if c=true then M.pure true else g ρ
noncomputable def zm4(f:DT):DT:=fun ρ=>(f ρ).bind fun c=>M.pure (!c)
section
variable {X:Cx}{E:XK}{a b c e:Expr}{es:List Expr}{fa fb fc:DE}{ta tb:DT}{fr:DA}{pos:Pos}
theorem zy9{f:DE}{σ:St}{H:Hp}{Q:Bool->Hp->Prop}(h:RT E (tst f) σ H Q):RE E f σ H (fun x H'=>∃k,x=.bl k/\Q k H'):=by
 obtain⟨W,S,ρ,rp,env,p⟩:=h;refine⟨W,S,ρ,rp,env,(Post.bind p).imp fun t W1 S1 H1 l1 r1 p1 v dv=>?_⟩;cases t with
 |bl k=>exact⟨k,zbl.mp dv,p1 W1 H1 (Wd.le.refl _) r1⟩
 |_=>exact p1.elim
theorem zrf{op:CmpOp}{r:R2}{g:T->T->M T}(ho:OpR X (compareOp op) r)(hg:G2 E r g)(ha:PE X a (RE E fa))(hb:PE X b (RE E fb))(hm:behindInMarks op b=false):PT X (.Compare a [op] [b] pos) (RT E (tst (e2 g fa fb))):=
 zy6 (z5j ho ha hb hm) fun σ H Q h=>re2 hg (zy9 h)
theorem t_eq(hu:X.A.units+64<cLine)(ha:PE X a (RE E fa))(hb:PE X b (RE E fb)):PT X (.Compare a [.Eq] [b] pos) (RT E (tst (e2 gEq fa fb))):=zrf (z8j.or (z4b hu)) z9d ha hb (zjl _)
theorem t_ne(hu:X.A.units+64<cLine)(ha:PE X a (RE E fa))(hb:PE X b (RE E fb)):PT X (.Compare a [.NotEq] [b] pos) (RT E (tst (e2 gNe fa fb))):=zrf (z8k.or (z4c hu)) z9e ha hb (zjl _)
theorem t_lt(ha:PE X a (RE E fa))(hb:PE X b (RE E fb)):PT X (.Compare a [.Lt] [b] pos) (RT E (tst (e2 (gI fLt) fa fb))):=zrf Zbg (z2h fun i j t e W=>by cases e;exact zbl.mpr rfl) ha hb (zjl _)
theorem t_gt(ha:PE X a (RE E fa))(hb:PE X b (RE E fb)):PT X (.Compare a [.Gt] [b] pos) (RT E (tst (e2 (gI fGt) fa fb))):=zrf Zbh (z2h fun i j t e W=>by cases e;exact zbl.mpr rfl) ha hb (zjl _)
theorem t_ge(ha:PE X a (RE E fa))(hb:PE X b (RE E fb)):PT X (.Compare a [.GtE] [b] pos) (RT E (tst (e2 (gI fGe) fa fb))):=zrf Zbi (z2h fun i j t e W=>by cases e;exact zbl.mpr rfl) ha hb (zjl _)
theorem t_in(hu:X.A.units+64<cLine)(ha:PE X a (RE E fa))(hb:PE X b (RE E fb))(hm:behindInMarks .In b=false:=by with_unfolding_all rfl):PT X (.Compare a [.In] [b] pos) (RT E (tst (e2 gIn fa fb))):=zrf (zyn.or (z9g hu)) (Zbz X.K) ha hb hm
theorem z4e{W:Wd}{S:Sto}{H:Hp}{t:T}{v:V}{Q:Bool->Hp->Prop}{K:PySem.W.Frag}(r:Rep W S H)(d:Den W t v)(p:Post E W (fun b _ _ H'=>Q b H') (truM t S)):∃k,TruV K v H k/\Q k H:=by
 have go:∀{k:Bool},Post E W (fun b _ _ H'=>Q b H') (.ok k S)->Q k H:=fun p=>p W H (Wd.le.refl _) r;have sq:∀{t:T},Den W t v->Post E W (fun b _ _ H'=>Q b H') (match zd0 S t with|some ts=>.ok (!ts.isEmpty) S | none=>.bad)->∃k,TruV K v H k/\Q k H:=fun {t} d p=>by
  cases e:zd0 S t with
  |none=>simp only[e] at p;exact p.elim
  | some ts=>
    simp only[e] at p;obtain⟨a,vs,rfl,h1,h2⟩:=r.seq d e;have hl:(!ts.isEmpty)=!vs.isEmpty:=by
     have:=h2.length;cases ts<;>cases vs<;>simp_all
    refine⟨_,?_,go p⟩;rcases h1 with h1 | h1
    ·exact .inl ⟨vs,.inl h1,hl⟩
    ·exact .inr (.inl ⟨vs,.inl h1,hl⟩)
 unfold truM at p
 split at p
 ·rw[zco.mp d];exact⟨_,rfl,go p⟩
 ·rw[zbl.mp d];exact⟨_,rfl,go p⟩
 ·rw[zay.mp d];exact⟨_,rfl,go p⟩
 ·split at p
  ·rename_i hl;rw[zbm.mp d];exact⟨_,⟨big hl,rfl⟩,go p⟩
  ·exact p.elim
 ·exact sq d p
theorem zik(ha:PE X a (RE E fa))(he:∀whole,isTrue a X.env whole=(do let v <- whole;standAt a.pos;holding [v] (truthy v)):=by intro _;rfl):PT X a (RT E (tru fa)):=
 zy6 (z1w ha he) fun σ H Q h=>by
  obtain⟨W,S,ρ,rp,env,p⟩:=h;exact⟨W,S,ρ,rp,env,(Post.bind p).imp fun t W1 S1 H1 l1 r1 p1 v dv=>z4e r1 dv p1⟩
theorem z9h{e:Expr}{t t':TT}(h:PW X e t)(w:∀σ H Q,t' σ H Q->t σ H Q):PW X e t':=fun wh pins s σ H Q I q=>h wh pins s σ H Q I (w σ H Q q)
theorem zon(ha:PT X a (RT E ta)):PW X (.BoolOp .And [a] pos) (RT E ta):=z5c ha
theorem z2i(ha:PT X a (RT E ta)):PW X (.BoolOp .Or [a] pos) (RT E ta):=z72 ha
theorem zza{c:Bool}{σ:St}{H:Hp}{Q:Bool->Hp->Prop}(h:RT E (fun _=>M.pure c) σ H Q):Q c H:=by
 obtain⟨W,S,ρ,rp,env,p⟩:=h;exact p W H (Wd.le.refl _) rp
theorem zw9(ha:PT X a (RT E ta))(hb:PW X (.BoolOp .And (b::es) pos) (RT E tb)):PW X (.BoolOp .And (a::b::es) pos) (RT E (zph ta tb)):=
 z9h (z73 ha hb) fun σ H Q h=>by
  obtain⟨W,S,ρ,rp,env,p⟩:=h;refine⟨W,S,ρ,rp,env,(Post.bind p).imp fun c W1 S1 H1 l1 r1 p1=>?_⟩;cases c with
  |true=>exact iteT ⟨W1,S1,ρ,r1,env.mono l1,p1⟩
  |false=>exact iteF (p1 W1 H1 (Wd.le.refl _) r1)
theorem t_or(ha:PT X a (RT E ta))(hb:PW X (.BoolOp .Or (b::es) pos) (RT E tb)):PW X (.BoolOp .Or (a::b::es) pos) (RT E (tOrD ta tb)):=
 z9h (Zbb ha hb) fun σ H Q h=>by
  obtain⟨W,S,ρ,rp,env,p⟩:=h;refine⟨W,S,ρ,rp,env,(Post.bind p).imp fun c W1 S1 H1 l1 r1 p1=>?_⟩;cases c with
  |false=>exact iteF ⟨W1,S1,ρ,r1,env.mono l1,p1⟩
  |true=>exact iteT (p1 W1 H1 (Wd.le.refl _) r1)
theorem zrg(ha:PT X a (RT E ta)):PT X (.UnaryOp .Not a pos) (RT E (zm4 ta)):=zy6 (z74 ha) fun σ H Q h=>by
 obtain⟨W,S,ρ,rp,env,p⟩:=h;exact⟨W,S,ρ,rp,env,(Post.bind p).imp fun c W1 S1 H1 l1 r1 p1=>p1 W1 H1 (Wd.le.refl _) r1⟩
noncomputable def eAnd(f g:DE):DE:=fun ρ=>(f ρ).bind fun x=>match x with
 |.bl true=>g ρ
 |.bl false=>M.pure (.bl false)
 |_=>M.bad
noncomputable def eNot(f:DE):DE:=fun ρ=>(f ρ).bind fun x=>(truM x).bind fun b=>M.pure (.bl (!b))
noncomputable def eIf(c:DT)(f g:DE):DE:=fun ρ=>(c ρ).bind fun b=>if b=true then f ρ else g ρ
theorem z2j{op}(ha:PE X a (RE E fa)):PE X (.BoolOp op [a] pos) (RE E fa):=z75 ha
theorem z2k(ha:PE X a (RE E fa))(hb:PE X (.BoolOp .And (b::es) pos) (RE E fb)):PE X (.BoolOp .And (a::b::es) pos) (RE E (eAnd fa fb)):=zb2 (z76 ha hb) fun σ H Q h=>by
 obtain⟨W,S,ρ,rp,env,p⟩:=h;refine⟨W,S,ρ,rp,env,(Post.bind p).imp fun t W1 S1 H1 l1 r1 p1 v dv=>?_⟩;cases t with
 | bl k=>
   refine⟨k,zbl.mp dv,?_⟩;cases k with
   |true=>exact iteT ⟨W1,S1,ρ,r1,env.mono l1,p1⟩
   |false=>exact iteF (now p1 r1 (zbl.mpr rfl))
 |_=>exact p1.elim
theorem z6d{ta:TE}(ha:PE X a ta):PE X (.UnaryOp .Not a pos) (fun σ H Q=>ta σ H fun x H1=>∃k,TruV X.K x H1 k/\Q (.bl (!k)) H1):=by
 intro pins s σ H Q I h;refine PyProof.Rows.UnaryOp_ (thn (ha pins s σ H _ I h) fun v s1 hq_=>?_);obtain⟨x,H1,I1,r1,k,tr,q1⟩:=hq_;refine PyProof.Rows.not_of ?_;exact thn (z3y pins s1 σ H1 x v (fun b H'=>Q (.bl (!b)) H') I1 r1 ⟨k,tr,q1⟩) fun b s2 ⟨H2,I2,q2⟩=>⟨.bl (!b),H2,I2,rfl,q2⟩
theorem z9i(ha:PE X a (RE E fa)):PE X (.UnaryOp .Not a pos) (RE E (eNot fa)):=zb2 (z6d ha) fun σ H Q h=>by
 obtain⟨W,S,ρ,rp,env,p⟩:=h;refine⟨W,S,ρ,rp,env,(Post.bind p).imp fun t W1 S1 H1 l1 r1 p1 v dv=>?_⟩;refine z4e (Q:=fun k H'=>Q (.bl (!k)) H') r1 dv ((Post.bind p1).imp fun b W2 S2 H2 l2 r2 p2=>now p2 r2 (zbl.mpr rfl))
theorem z6e(hc:PT X c (RT E ta))(ha:PE X a (RE E fa))(hb:PE X b (RE E fb)):PE X (.IfExp c a b pos) (RE E (eIf ta fa fb)):=zb2 (z1t hc ha hb) fun σ H Q h=>by
 obtain⟨W,S,ρ,rp,env,p⟩:=h;refine⟨W,S,ρ,rp,env,(Post.bind p).imp fun k W1 S1 H1 l1 r1 p1=>?_⟩;cases k with
 |true=>exact iteT ⟨W1,S1,ρ,r1,env.mono l1,p1⟩
 |false=>exact iteF ⟨W1,S1,ρ,r1,env.mono l1,p1⟩
noncomputable def zgq:T->Bool
 |.non=>true
 |_=>false
theorem zrh{W:Wd}{t:T}{v:V}(d:Den W t v):decide (v=.non)=zgq t:=by
 cases t with
 |non=>rw[zco.mp d];rfl
 |bl _=>rw[zbl.mp d];rfl
 |int _=>rw[zay.mp d];rfl
 |str _=>rw[zbm.mp d];rfl
 |lst _=>obtain⟨a,vs,rfl,_⟩:=zdy.mp d;rfl
 |tup _=>obtain⟨a,vs,rfl,_⟩:=zdz.mp d;rfl
 |dic _=>obtain⟨a,vs,rfl,_⟩:=zhf.mp d;rfl
 |obj _=>obtain⟨rfl,_⟩:=zb5.mp d;rfl
noncomputable def gIs(x y:T):M T:=fun S=>match y with
 |.non=>.ok (.bl (zgq x)) S
 | .bl b=>(match x with
   |.bl a=>.ok (.bl (a==b)) S
   |_=>.bad)
 |_=>.bad
noncomputable def zlv(x y:T):M T:=fun S=>match y with
 |.non=>.ok (.bl (!zgq x)) S
 | .bl b=>(match x with
   |.bl a=>.ok (.bl (!(a==b))) S
   |_=>.bad)
 |_=>.bad
theorem zzb:OpR X (compareOp .IsNot) (fun x y H Q=>∃a b,x=.bl a/\y=.bl b/\Q (.bl (!(a==b))) H):=by
 intro pins s σ H x y v u Q I rx ry h;obtain⟨a,b,rfl,rfl,q⟩:=h;cases rx;cases ry;refine wpAny_isNot_plain rfl ⟨.bl (!(a==b)),H,I,?_,q⟩;show Value.bool (!(Value.bool a==Value.bool b))=Value.bool (!(a==b));cases a<;>cases b<;>rfl
theorem z9j:G2 E (fun x y H Q=>(y=.non/\Q (.bl (decide (x=.non))) H)\/(∃a b,x=.bl a/\y=.bl b/\Q (.bl (a==b)) H)) gIs:=by
 intro tx ty W S H x y Q r dx dy p;unfold gIs at p
 split at p
 ·exact .inl ⟨zco.mp dy,by rw[zrh dx];exact now p r (zbl.mpr rfl)⟩
 ·split at p
  ·exact .inr ⟨_,_,zbl.mp dx,zbl.mp dy,now p r (zbl.mpr rfl)⟩
  ·exact p.elim
 ·exact p.elim
theorem z2l:G2 E (fun x y H Q=>(y=.non/\Q (.bl (!decide (x=.non))) H)\/(∃a b,x=.bl a/\y=.bl b/\Q (.bl (!(a==b))) H)) zlv:=by
 intro tx ty W S H x y Q r dx dy p;unfold zlv at p
 split at p
 ·exact .inl ⟨zco.mp dy,by rw[zrh dx];exact now p r (zbl.mpr rfl)⟩
 ·split at p
  ·exact .inr ⟨_,_,zbl.mp dx,zbl.mp dy,now p r (zbl.mpr rfl)⟩
  ·exact p.elim
 ·exact p.elim
theorem e_is(ha:PE X a (RE E fa))(hb:PE X b (RE E fb)):PE X (.Compare a [.Is] [b] pos) (RE E (e2 gIs fa fb)):=zb2 (zs3 (z3x.or z37) ha hb (zjl _)) fun _ _ _=>re2 z9j
theorem t_is(ha:PE X a (RE E fa))(hb:PE X b (RE E fb)):PT X (.Compare a [.Is] [b] pos) (RT E (tst (e2 gIs fa fb))):=zrf (z3x.or z37) z9j ha hb (zjl _)
theorem ztm(ha:PE X a (RE E fa))(hb:PE X b (RE E fb)):PT X (.Compare a [.IsNot] [b] pos) (RT E (tst (e2 zlv fa fb))):=zrf (z5i.or zzb) z2l ha hb (zjl _)
theorem Dens.atI{W:Wd}{ts:List T}{vs:List V}{i:Int}{t:T}(h:Dens W ts vs)(e:atI ts i=some t):∃v,L2.atI vs i=some v/\Den W t v:=by
 unfold L2.atI at e ⊢;rw[<- h.length];cases e1:ixN ts.length i with
 |none=>rw[e1] at e;cases e
 | some j=>
   rw[e1] at e;exact h.get e
noncomputable def gIx(x y:T):M T:=fun S=>match y with
 | .int i=>(match zd0 S x with
   | some ts=>(match atI ts i with
     |some t=>.ok t S
     |none=>.bad)
   | none=>match x with
     | .str z=>if z.length<=1000 then(match atI z.cps.toList i with
       |some c=>.ok (.str ⟨#[c]⟩) S
       |none=>.bad) else .bad
     |_=>.bad)
 |_=>.bad
theorem Zb0 (K:PySem.W.Frag):G2 E (rIx K) gIx:=by
 intro tx ty W S H x y Q r dx dy p;unfold gIx at p
 split at p
 ·rename_i i
  cases e:zd0 S tx with
  | some ts=>
    simp only[e] at p;cases e2:atI ts i with
    |none=>simp only[e2] at p;exact p.elim
    | some t=>
      simp only[e2] at p;obtain⟨a,vs,rfl,h1,h2⟩:=r.seq dx e;obtain⟨v,e3,dv⟩:=h2.atI e2;rcases h1 with h1 | h1
      ·exact .inl ⟨a,vs,i,v,rfl,zay.mp dy,.inl h1,e3,now p r dv⟩
      ·exact .inr (.inl ⟨a,vs,i,v,rfl,zay.mp dy,.inl h1,e3,now p r dv⟩)
  | none=>
    simp only[e] at p
    split at p
    ·rename_i z
     split at p
     ·rename_i hl
      cases e2:atI z.cps.toList i with
      |none=>simp only[e2] at p;exact p.elim
      | some c=>
        simp only[e2] at p;exact .inr (.inr ⟨z,i,c,zbm.mp dx,zay.mp dy,big hl,e2,now p r (zbm.mpr rfl)⟩)
     ·exact p.elim
    ·exact p.elim
 ·exact p.elim
theorem e_ix(ha:PE X a (RE E fa))(hb:PE X b (RE E fb))(hs:zym b:=by exact fun _ _=>rfl):PE X (.Subscript a b pos) (RE E (e2 gIx fa fb)):=zb2 (Zbs z8v ha hb hs) fun _ _ _=>re2 (Zb0 X.K)
noncomputable def keyT:T->Option Key
 |.int i=>some (.inl i)
 |.str x=>some (.inr x)
 |_=>none
theorem zje{W:Wd}{t:T}{v:V}{k:Key}(d:Den W t v)(e:keyT t=some k):v=kV k:=by
 cases t with
 |int i=>cases e;exact zay.mp d
 |str i=>cases e;exact zbm.mp d
 |_=>cases e
noncomputable def valT(kvs:List (Key×T))(k:Key):Option T:=(kvs.find? fun kv=>decide (kv.1=k)).map (·.2)
noncomputable def putT(kvs:List (Key×T))(k:Key)(v:T):List (Key×T):=
 if(kvs.any fun kv=>decide (kv.1=k))=true then kvs.map (fun kv=>if kv.1=k then(kv.1,v) else kv) else kvs++[(k,v)]
theorem DenK.val{W:Wd}:∀{kvs:List (Key×T)} {ks:List (Key×V)} (k:Key),DenK W kvs ks->(∀t,valT kvs k=some t->∃v,valV ks k=some v/\Den W t v)/\(valT kvs k=none->valV ks k=none)
 |[],ks,k,h=>by rw[zcm.mp h];exact⟨(fun t e=>by cases e),fun _=>rfl⟩
 | (k',t)::kvs,ks,k,h=>by
   obtain⟨v,r,rfl,h1,h2⟩:=zce.mp h;have ih:=DenK.val k h2;by_cases e:k'=k
   ·have a:valT ((k',t)::kvs) k=some t:=by simp[valT,List.find?_cons,e]
    have b:valV ((k',v)::r) k=some v:=zmg e;rw[a,b];exact⟨fun t' e'=>by cases e';exact⟨v,rfl,h1⟩,fun z=>by cases z⟩
   ·have a:valT ((k',t)::kvs) k=valT kvs k:=by simp[valT,List.find?_cons,e]
    have b:valV ((k',v)::r) k=valV r k:=zmh e;rw[a,b];exact ih
theorem DenK.any{W:Wd}:∀{kvs:List (Key×T)} {ks:List (Key×V)} (k:Key),DenK W kvs ks->(kvs.any fun kv=>decide (kv.1=k))=ks.any fun kv=>decide (kv.1=k)
 |[],ks,k,h=>by rw[zcm.mp h];rfl
 | (k',t)::kvs,ks,k,h=>by
   obtain⟨v,r,rfl,h1,h2⟩:=zce.mp h;rw[List.any_cons,List.any_cons,DenK.any k h2]
theorem DenK.repl{W:Wd}{t0:T}{v0:V}(d:Den W t0 v0):∀{kvs:List (Key×T)} {ks:List (Key×V)} (k:Key),DenK W kvs ks->DenK W (kvs.map (fun kv=>if kv.1=k then(kv.1,t0) else kv)) (ks.map (fun kv=>if kv.1=k then(kv.1,v0) else kv))
 |[],ks,k,h=>by rw[zcm.mp h];exact DenK.nil'
 | (k',t)::kvs,ks,k,h=>by
   obtain⟨v,r,rfl,h1,h2⟩:=zce.mp h;have ih:=DenK.repl d k h2;rw[List.map_cons,List.map_cons];by_cases e:k'=k
   ·rw[if_pos e,if_pos e];exact DenK.cons' d ih
   ·rw[if_neg e,if_neg e];exact DenK.cons' h1 ih
theorem DenK.snoc{W:Wd}{t0:T}{v0:V}(d:Den W t0 v0):∀{kvs:List (Key×T)} {ks:List (Key×V)} (k:Key),DenK W kvs ks->DenK W (kvs++[(k,t0)]) (ks++[(k,v0)])
 |[],ks,k,h=>by rw[zcm.mp h];exact DenK.cons' d DenK.nil'
 | (k',t)::kvs,ks,k,h=>by
   obtain⟨v,r,rfl,h1,h2⟩:=zce.mp h;exact DenK.cons' h1 (DenK.snoc d k h2)
theorem DenK.put{W:Wd}{t0:T}{v0:V}(d:Den W t0 v0){kvs:List (Key×T)}{ks:List (Key×V)}(k:Key)(h:DenK W kvs ks):DenK W (putT kvs k t0) (putK ks k v0):=by
 unfold putT putK;rw[h.any k];by_cases e:(ks.any fun kv=>decide (kv.1=k))=true
 ·rw[if_pos e,if_pos e];exact DenK.repl d k h
 ·rw[if_neg e,if_neg e];exact DenK.snoc d k h
def gDix(x y:T):M T:=fun S=>match zfu S x,keyT y with
 | some kvs,some k=>(match valT kvs k with
   |some t=>.ok t S
   |none=>.bad)
 |_,_=>.bad
noncomputable def gDin(y x:T):M T:=fun S=>match zfu S x with
 | some kvs=>(match keyT y with
   |some k=>.ok (.bl (valT kvs k).isSome) S
   | none=>match y with
     |.non=>.ok (.bl false) S
     |_=>.bad)
 |none=>.bad
noncomputable def zfv(y x:T):M T:=fun S=>match zfu S x,keyT y with
 |some kvs,some k=>.ok (.bl (!(valT kvs k).isSome)) S
 |_,_=>.bad
theorem ztn{W:Wd}{S:Sto}{H:Hp}(r:Rep W S H){tx ty:T}{x y:V}{kvs:List (Key×T)}{k:Key}(dx:Den W tx x)(dy:Den W ty y)(e1:zfu S tx=some kvs)(e2:keyT ty=some k) :
  ∃a o,x=.ref a/\DGet H a y o/\(∀t,valT kvs k=some t->∃v,o=some v/\Den W t v)/\(valT kvs k).isSome=o.isSome:=by
 obtain⟨a,ks,rfl,h1,h2⟩:=r.dict dx e1;obtain⟨q1,q2⟩:=h2.val k;refine⟨a,valV ks k,rfl,.inl ⟨ks,k,h1,zje dy e2,rfl⟩,q1,?_⟩;cases e:valT kvs k with
 |none=>rw[q2 e];rfl
 |some t=>obtain⟨v,e3,_⟩:=q1 t e;rw[e3];rfl
theorem zri (hu:X.A.units+1<cLine) (ha:PE X a (RE E fa)) (hb:PE X b (RE E fb)) (hs:NoSl b:=by exact fun _ _=>rfl):PE X (.Subscript a b pos) (RE E (e2 gDix fa fb)):=
 zb2 (z5u hu ha hb hs) fun σ H Q h=>re2 (r:=fun x y H Q=>∃a v,x=.ref a/\DGet H a y (some v)/\Q v H) (fun tx ty W S H x y Q r dx dy p=>by
  unfold gDix at p;cases e1:zfu S tx with
  |none=>simp only[e1] at p;exact p.elim
  | some kvs=>
    cases e2:keyT ty with
    |none=>simp only[e1,e2] at p;exact p.elim
    | some k=>
      simp only[e1,e2] at p;cases e3:valT kvs k with
      |none=>simp only[e3] at p;exact p.elim
      | some t=>
        simp only[e3] at p;obtain⟨a,o,rfl,g,q1,_⟩:=ztn r dx dy e1 e2;obtain⟨v,rfl,dv⟩:=q1 t e3;exact⟨a,v,rfl,g,now p r dv⟩) h
theorem z4f:G2 E (fun y x H Q=>∃a,x=.ref a/\((∃r,DGet H a y r/\Q (.bl r.isSome) H)\/(y=.non/\(∃kvs,Rd H a (.dK kvs))/\Q (.bl false) H))) gDin:=by
 intro ty tx W S H y x Q r dy dx p;unfold gDin at p;cases e1:zfu S tx with
 |none=>simp only[e1] at p;exact p.elim
 | some kvs=>
   simp only[e1] at p;cases e2:keyT ty with
   | some k=>
     simp only[e2] at p;obtain⟨a,o,rfl,g,_,q⟩:=ztn r dx dy e1 e2;exact⟨a,rfl,.inl ⟨o,g,by rw[<- q];exact now p r (zbl.mpr rfl)⟩⟩
   | none=>
     simp only[e2] at p
     split at p
     ·obtain⟨a,ks,rfl,h1,h2⟩:=r.dict dx e1
      exact⟨a,rfl,.inr ⟨zco.mp dy,⟨ks,h1⟩,now p r (zbl.mpr rfl)⟩⟩
     ·exact p.elim
theorem zzc:G2 E (fun y x H Q=>∃a o,x=.ref a/\DGet H a y o/\Q (.bl (!o.isSome)) H) zfv:=by
 intro ty tx W S H y x Q r dy dx p;unfold zfv at p;cases e1:zfu S tx with
 |none=>simp only[e1] at p;exact p.elim
 | some kvs=>
   cases e2:keyT ty with
   |none=>simp only[e1,e2] at p;exact p.elim
   | some k=>
     simp only[e1,e2] at p;obtain⟨a,o,rfl,g,_,q⟩:=ztn r dx dy e1 e2;exact⟨a,o,rfl,g,by rw[<- q];exact now p r (zbl.mpr rfl)⟩
theorem Zb1(hu:X.A.units+1<cLine)(ha:PE X a (RE E fa))(hb:PE X b (RE E fb))(hm:behindInMarks .In b=false:=by with_unfolding_all rfl):PE X (.Compare a [.In] [b] pos) (RE E (e2 gDin fa fb)):=zb2 (z71 (zyz hu ha hb) hm) fun σ H Q h=>re2 z4f h
theorem z2m(hu:X.A.units+1<cLine)(ha:PE X a (RE E fa))(hb:PE X b (RE E fb))(hm:behindInMarks .In b=false:=by with_unfolding_all rfl):PT X (.Compare a [.In] [b] pos) (RT E (tst (e2 gDin fa fb))):=zy6 (z3u (zyz hu ha hb) hm) fun σ H Q h=>re2 z4f (zy9 h)
theorem zpi(hu:X.A.units+1<cLine)(ha:PE X a (RE E fa))(hb:PE X b (RE E fb))(hm:behindInMarks .NotIn b=false:=by with_unfolding_all rfl):PT X (.Compare a [.NotIn] [b] pos) (RT E (tst (e2 zfv fa fb))):=zy6 (z3u (zyi hu ha hb) hm) fun σ H Q h=>re2 zzc (zy9 h)
end
def lstF(ts:List T):M T:=fun S=>if ts.length<=1000 then .ok (.lst ts) S else .bad
def lstC(ts:List T):M T:=fun S=>if ts.length<=1000 then .ok (.obj S.length) (S++[.lst ts]) else .bad
def tupF(ts:List T):M T:=fun S=>if ts.length<=1000 then .ok (.tup ts) S else .bad
def eA(g:List T->M T)(f:DA):DE:=fun ρ=>(f ρ).bind g
def zlw:DE:=fun _ S=>.ok (.obj S.length) (S++[.dic []])
section
variable {X:Cx}{E:XK}{a b c e o:Expr}{es:List Expr}{fa fb fc:DE}{ta tb:DT}{fr:DA}{pos:Pos}
theorem reA{g:List T->M T}{r:List V->Hp->VK->Prop}(hg:∀(ts:List T) (W:Wd) (S:Sto) (H:Hp) (vs:List V) (Q:VK),Rep W S H->Dens W ts vs->Post E W (QV Q) (g ts S)->r vs H Q){σ:St}{H:Hp}{Q:VK}
  (h:RE E (eA g fr) σ H Q):RA E fr σ H (fun vs H1=>r vs H1 Q):=by
 obtain⟨W,S,ρ,rp,env,p⟩:=h;exact⟨W,S,ρ,rp,env,(Post.bind p).imp fun ts W1 S1 H1 l1 r1 p1 vs dv=>hg ts W1 S1 H1 vs Q r1 dv p1⟩
theorem zil(h:PA X es (RA E fr)):PE X (.List es pos) (RE E (eA lstF fr)):=zb2 (z3z h) fun σ H Q q=>reA (r:=fun vs H Q=>vs.length<=sizeLine/\∀p,H p=none->Q (.ref p) (upd H p (.lst vs))) (fun ts W S H vs Q r d p=>by
 unfold lstF at p
 split at p
 ·rename_i hl;exact⟨big (by rw[<- d.length];exact hl),zvf p r d⟩
 ·exact p.elim) q
theorem zgh(h:PA X es (RA E fr)):PE X (.List es pos) (RE E (eA lstC fr)):=zb2 (z3z h) fun σ H Q q=>reA (r:=fun vs H Q=>vs.length<=sizeLine/\∀p,H p=none->Q (.ref p) (upd H p (.lst vs))) (fun ts W S H vs Q r d p=>by
 unfold lstC at p
 split at p
 ·rename_i hl;exact⟨big (by rw[<- d.length];exact hl),zvg p r d⟩
 ·exact p.elim) q
theorem zfw{k}(h:PA X es (RA E fr)):PE X (.Tuple es k pos) (RE E (eA tupF fr)):=zb2 (z8n h) fun σ H Q q=>reA (r:=fun vs H Q=>vs.length<=sizeLine/\∀p,H p=none->Q (.ref p) (upd H p (.tup vs))) (fun ts W S H vs Q r d p=>by
 unfold tupF at p
 split at p
 ·rename_i hl;exact⟨big (by rw[<- d.length];exact hl),ztl p r d⟩
 ·exact p.elim) q
theorem zm5:PE X (.Dict [] [] pos) (RE E zlw):=zb2 z12 fun σ H Q h a ha=>by
 obtain⟨W,S,ρ,r,env,p⟩:=h;refine p (W.add a) _ Wd.add_le (r.cellNew ha (.dic []) _ ⟨[],zaj,DenK.nil'⟩) _ (zb5.mpr ⟨?_,?_⟩)
 ·rw[r.len,Wd.add_at]
 ·rw[r.len];exact Nat.lt_succ_self _
noncomputable def gLen(t:T):M T:=fun S=>match zd0 S t with
 |some ts=>.ok (.int ts.length) S
 | none=>match t with
   |.str x=>if x.length<=1000 then .ok (.int x.length) S else .bad
   |_=>.bad
theorem zfi{W:Wd}{t:T}{vs:List V}(h:Dens W [t] vs):∃v,vs=[v]/\Den W t v:=by
 obtain⟨v,r,rfl,h1,h2⟩:=za3.mp h;rw[zbo.mp h2];exact⟨v,rfl,h1⟩
theorem zto{x:Str}{id:String}{p:Pos}{r:List V->Hp->VK->Prop}{g:T->M T}(hc:zju X (.builtin id) r)(hg:∀(t:T) (W:Wd) (S:Sto) (H:Hp) (v:V) (Q:VK),Rep W S H->Den W t v->Post E W (QV Q) (g t S)->r [v] H Q)
  (gl:Gl X x) (hm:X.mg x=none) (hv:bootBuiltins x=some (.builtin id)) (ha:PE X e (RE E fa)) (hn:x ≠ "__name__") (hdb:(x==("__debug__" : Str))=false)
  (he:starEach [e] X.env=(false,eval e X.env)::starEach [] X.env) (hpl:(backTo pos (starEach [] X.env)).any (·.1)=false):PE X (.Call (.Name x p) [e] [] pos) (RE E (e1 g fa)):=
 zb2 (zu2 hc gl hm hv (zfr ha zls he) hn hdb he hpl) fun σ H Q h=>re1 (r:=fun x H Q=>r [x] H Q) hg h
theorem ztp{x:Str}{id:String}{p:Pos}{r:List V->Hp->VK->Prop}{g:T->M T}(hc:zju X (.type id) r)(hg:∀(t:T) (W:Wd) (S:Sto) (H:Hp) (v:V) (Q:VK),Rep W S H->Den W t v->Post E W (QV Q) (g t S)->r [v] H Q)
  (gl:Gl X x) (hm:X.mg x=none) (hv:bootBuiltins x=some (.type id)) (ha:PE X e (RE E fa)) (hn:x ≠ "__name__") (hdb:(x==("__debug__" : Str))=false)
  (he:starEach [e] X.env=(false,eval e X.env)::starEach [] X.env) (hpl:(backTo pos (starEach [] X.env)).any (·.1)=false):PE X (.Call (.Name x p) [e] [] pos) (RE E (e1 g fa)):=
 zb2 (zq0 hc gl hm hv (zfr ha zls he) hn hdb he hpl) fun σ H Q h=>re1 (r:=fun x H Q=>r [x] H Q) hg h
theorem Zb2(K:PySem.W.Frag)(t:T)(W:Wd)(S:Sto)(H:Hp)(v:V)(Q:VK)(r:Rep W S H)(d:Den W t v)(p:Post E W (QV Q) (gLen t S)):∃x n,[v]=[x]/\LenV K x H n/\Q (.int n) H:=by
 unfold gLen at p;cases e:zd0 S t with
 | some ts=>
   simp only[e] at p;obtain⟨a,vs,rfl,h1,h2⟩:=r.seq d e;refine⟨_,ts.length,rfl,?_,now p r (zay.mpr rfl)⟩;rcases h1 with h1 | h1
   ·exact .inl ⟨vs,.inl h1,h2.length⟩
   ·exact .inr ⟨vs,.inl h1,h2.length⟩
 | none=>
   simp only[e] at p
   split at p
   ·split at p
    ·rename_i hl;rw[zbm.mp d];exact⟨_,_,rfl,⟨big hl,rfl⟩,now p r (zay.mpr rfl)⟩
    ·exact p.elim
   ·exact p.elim
theorem zxa{p:Pos}(gl:Gl X "len")(hm:X.mg "len" = none)(ha:PE X e (RE E fa))
  (he:starEach [e] X.env=(false,eval e X.env)::starEach [] X.env:=by rfl) (hpl:(backTo pos (starEach [] X.env)).any (·.1)=false:=by rfl):PE X (.Call (.Name "len" p) [e] [] pos) (RE E (e1 gLen fa)):=
 zto z1x (Zb2 X.K) gl hm PySem.boot_len ha (by decide) (by decide) he hpl
noncomputable def zrj(t:T):M T:=fun S=>match t with
 | .obj k=>(match S[k]? with
   |some (.dic kvs)=>.ok (.int kvs.length) S
   |_=>.bad)
 |_=>.bad
theorem z4g{p:Pos}(gl:Gl X "len")(hm:X.mg "len" = none)(ha:PE X e (RE E fa))
  (he:starEach [e] X.env=(false,eval e X.env)::starEach [] X.env:=by rfl) (hpl:(backTo pos (starEach [] X.env)).any (·.1)=false:=by rfl):PE X (.Call (.Name "len" p) [e] [] pos) (RE E (e1 zrj fa)):=
 zto zyr (fun t W S H v Q r d p=>by
  unfold zrj at p
  split at p
  ·rename_i k
   split at p
   ·rename_i kvs e
    obtain⟨rfl,_⟩:=zb5.mp d;obtain⟨⟨ks,h1,h2⟩,_⟩:=r.cell k _ e;exact⟨_,ks,rfl,h1,by rw[<- h2.length];exact now p r (zay.mpr rfl)⟩
   ·exact p.elim
  ·exact p.elim) gl hm PySem.boot_len ha (by decide) (by decide) he hpl
noncomputable def kT:Key->T
 |.inl i=>.int i
 |.inr x=>.str x
theorem z4h{W:Wd}(k:Key):Den W (kT k) (kV k):=by
 cases k with
 |inl i=>exact zay.mpr rfl
 |inr i=>exact zbm.mpr rfl
noncomputable def zem(S:Sto)(t:T):Option (List T):=match zd0 S t with
 |some ts=>some ts
 |none=>(zfu S t).map fun kvs=>kvs.map fun p=>kT p.1
def zm6(t:T):M T:=fun S=>match zem S t with
 |some ts=>.ok (.lst ts) S
 |none=>.bad
noncomputable def zjo(t:T):M T:=fun S=>match zem S t with
 |some ts=>.ok (.obj S.length) (S++[.lst ts])
 |none=>.bad
theorem zpj{W:Wd}:∀{kvs:List (Key×T)} {ks:List (Key×V)},DenK W kvs ks->Dens W (kvs.map fun p=>kT p.1) (ks.map fun p=>kV p.1)
 |[],ks,h=>by rw[zcm.mp h];exact Dens.nil'
 | (k,t)::kvs,ks,h=>by
   obtain⟨v,r,rfl,h1,h2⟩:=zce.mp h;exact Dens.cons' (z4h k) (zpj h2)
abbrev Zb3(K:PySem.W.Frag):List V->Hp->VK->Prop:=fun xs H Q=>(∃p ys,xs=[.ref p]/\(SqL K H p ys\/SqT K H p ys)/\∀l,H l=none->Q (.ref l) (upd H l (.lst ys))) \/
 (∃a kvs,xs=[.ref a]/\Rd H a (.dK kvs)/\∀l,H l=none->Q (.ref l) (upd H l (.lst (kvs.map fun p=>kV p.1))))
theorem zvh{K:PySem.W.Frag}{W:Wd}{S:Sto}{H:Hp}{t:T}{v:V}{ts:List T}{Q:VK}(r:Rep W S H)(d:Den W t v)(e:zem S t=some ts)(h:∀vs,Dens W ts vs->∀l,H l=none->Q (.ref l) (upd H l (.lst vs))):Zb3 K [v] H Q:=by
 unfold zem at e;cases e1:zd0 S t with
 | some us=>
   simp only[e1] at e;cases e;obtain⟨a,vs,rfl,h1,h2⟩:=r.seq d e1;refine .inl ⟨a,vs,rfl,?_,h vs h2⟩;rcases h1 with h1 | h1
   ·exact .inl (.inl h1)
   ·exact .inr (.inl h1)
 | none=>
   simp only[e1] at e;obtain⟨kvs,e2,rfl⟩:=Option.map_eq_some_iff.mp e;obtain⟨a,ks,rfl,h1,h2⟩:=r.dict d e2;exact .inr ⟨a,ks,rfl,h1,h _ (zpj h2)⟩
theorem z9k:bootBuiltins "list" = some (.type "list"):=by decide +kernel
theorem z9l:bootBuiltins "tuple" = some (.type "tuple"):=by decide +kernel
theorem zzd{p:Pos}(hc:X.calm=true)(gl:Gl X "list")(hm:X.mg "list" = none)(ha:PE X e (RE E fa))
  (he:starEach [e] X.env=(false,eval e X.env)::starEach [] X.env:=by rfl) (hpl:(backTo pos (starEach [] X.env)).any (·.1)=false:=by rfl):PE X (.Call (.Name "list" p) [e] [] pos) (RE E (e1 zm6 fa)):=
 ztp (zii.or (zjn hc)) (fun t W S H v Q r d p=>by
  unfold zm6 at p;cases e:zem S t with
  |none=>simp only[e] at p;exact p.elim
  |some ts=>simp only[e] at p;exact zvh r d e fun vs dv=>zvf p r dv) gl hm z9k ha (by decide) (by decide) he hpl
theorem ztq{p:Pos}(hc:X.calm=true)(gl:Gl X "list")(hm:X.mg "list" = none)(ha:PE X e (RE E fa))
  (he:starEach [e] X.env=(false,eval e X.env)::starEach [] X.env:=by rfl) (hpl:(backTo pos (starEach [] X.env)).any (·.1)=false:=by rfl):PE X (.Call (.Name "list" p) [e] [] pos) (RE E (e1 zjo fa)):=
 ztp (zii.or (zjn hc)) (fun t W S H v Q r d p=>by
  unfold zjo at p;cases e:zem S t with
  |none=>simp only[e] at p;exact p.elim
  |some ts=>simp only[e] at p;exact zvh r d e fun vs dv=>zvg p r dv) gl hm z9k ha (by decide) (by decide) he hpl
def zvi(t:T):M T:=fun S=>match zd0 S t with
 |some ts=>.ok (.tup ts) S
 |none=>.bad
theorem z6f{p:Pos}(gl:Gl X "tuple")(hm:X.mg "tuple" = none)(ha:PE X e (RE E fa))
  (he:starEach [e] X.env=(false,eval e X.env)::starEach [] X.env:=by rfl) (hpl:(backTo pos (starEach [] X.env)).any (·.1)=false:=by rfl):PE X (.Call (.Name "tuple" p) [e] [] pos) (RE E (e1 zvi fa)):=
 ztp zpb (fun t W S H v Q r d p=>by
  unfold zvi at p;cases t with
  | tup ts=>
    simp only[zd0] at p;obtain⟨a,vs,rfl,h1,h2⟩:=zdz.mp d;exact⟨a,vs,rfl,.inr ⟨.inl (r.sub _ _ h1).1.rd,now p r d⟩⟩
  | lst ts=>
    simp only[zd0,zam] at p;obtain⟨a,vs,rfl,h1,h2⟩:=r.list d rfl;exact⟨a,vs,rfl,.inl ⟨.inl h1,ztl p r h2⟩⟩
  | obj k=>
    cases e:zam S (.obj k) with
    |none=>simp only[zd0,e] at p;exact p.elim
    | some ts=>
      simp only[zd0,e] at p;obtain⟨a,vs,rfl,h1,h2⟩:=r.list d e;exact⟨a,vs,rfl,.inl ⟨.inl h1,ztl p r h2⟩⟩
  |_=>exact p.elim) gl hm z9l ha (by decide) (by decide) he hpl
inductive BT where
 |list | tuple | str | int | bool
def BT.nm:BT->String
 |.list => "list" |.tuple => "tuple" |.str => "str" |.int => "int" |.bool => "bool"
noncomputable def isaS(S:Sto)(c:BT):T->Option Bool
 |.non=>some false
 |.bl _=>some (match c with|.bool=>true | .int=>true | _=>false)
 |.int _=>some (match c with|.int=>true | _=>false)
 |.str _=>some (match c with|.str=>true | _=>false)
 |.lst _=>some (match c with|.list=>true | _=>false)
 |.tup _=>some (match c with|.tuple=>true | _=>false)
 |.dic _=>none
 | .obj k=>match S[k]? with
   |some (.lst _)=>some (match c with|.list=>true | _=>false)
   |_=>none
def gIsa(c:BT)(t:T):M T:=fun S=>match isaS S c t with
 |some b=>.ok (.bl b) S
 |none=>.bad
theorem z6g:bootBuiltins "isinstance" = some (.builtin "isinstance"):=by decide +kernel
theorem tyL{K:PySem.W.Frag}{H:Hp}{a:Addr}{vs:List V}(h:Rd H a (.lst vs)):TyOf K H (.ref a) (.type "list"):=by
 rcases h with h | ⟨o,h⟩
 ·exact .lst h
 ·exact .frz h
theorem zxb{p q:Pos}{y:Str}(c:BT)(gl:Gl X "isinstance")(hm:X.mg "isinstance" = none)(ha:PE X e (RE E fa))(gy:Gl X y)(my:X.mg y=none)(by_:bootBuiltins y=some (.type c.nm))(ny:y ≠ "__name__":=by decide)(dy:(y==("__debug__" : Str))=false:=by decide)
  (he:starEach [e,.Name y q] X.env=(false,eval e X.env)::starEach [.Name y q] X.env:=by rfl) (he2:starEach [.Name y q] X.env=(false,eval (.Name y q) X.env)::starEach [] X.env:=by rfl) (hpl:(backTo pos (starEach [.Name y q] X.env)).any (·.1)=false:=by rfl) :
  PE X (.Call (.Name "isinstance" p) [e,.Name y q] [] pos) (RE E (e1 (gIsa c) fa)):=
 zb2 (zu2 ztf gl hm z6g (zfr ha (zfr (z5b (v:=.ty c.nm) gy my by_ rfl ny dy) zls he2) he) (by decide) (by decide) he hpl) fun σ H Q h=>
  re1 (r := fun x H Q=>∃x' c' cu t b,[x,.ty c.nm]=[x',c']/\RelV c' cu/\(∀u,RelV c' u->u=cu)/\TyOf X.K H x' t/\PySem.W.kitOne X.K t cu=some b/\Q (.bl b) H) (fun t W S H v Q r d p=>by
   have go:∀{ty:Value} {b:Bool},Post E W (QV Q) (.ok (.bl b) S)->TyOf X.K H v ty->PySem.W.kitOne X.K ty (.type c.nm)=some b->∃x' c' cu t b,[v,.ty c.nm]=[x',c']/\RelV c' cu/\(∀u,RelV c' u->u=cu)/\TyOf X.K H x' t/\PySem.W.kitOne X.K t cu=some b/\Q (.bl b) H:=
    fun p ht hk=>⟨_,_,_,_,_,rfl,rfl,(fun u z=>z),ht,hk,now p r (zbl.mpr rfl)⟩
   unfold gIsa at p;cases t with
   |non=>rw[zco.mp d] at go ⊢;cases c<;>exact go p .non rfl
   |bl b=>rw[zbl.mp d] at go ⊢;cases c<;>exact go p (.bl b) rfl
   |int b=>rw[zay.mp d] at go ⊢;cases c<;>exact go p (.int b) rfl
   |str b=>rw[zbm.mp d] at go ⊢;cases c<;>exact go p (.str b) rfl
   |lst ts=>obtain⟨a,vs,rfl,h1,h2⟩:=r.list d rfl;cases c<;>exact go p (tyL h1) rfl
   | tup ts=>
     obtain⟨a,vs,rfl,h1,h2⟩:=zdz.mp d;cases c<;>exact go p (.tup (r.sub _ _ h1).1.tup) rfl
   |dic _=>exact p.elim
   | obj k=>
     obtain⟨rfl,_⟩:=zb5.mp d;cases e:S[k]? with
     |none=>simp only[isaS,e] at p;exact p.elim
     | some cl=>
       cases cl with
       | lst ts=>
         simp only[isaS,e] at p;obtain⟨⟨vs,h1,h2⟩,_⟩:=r.cell k _ e;cases c<;>exact go p (.lst h1) rfl
       |dic _=>simp only[isaS,e] at p;exact p.elim
       |ins _ _=>simp only[isaS,e] at p;exact p.elim
       |exc _ _=>simp only[isaS,e] at p;exact p.elim
       |lck _=>simp only[isaS,e] at p;exact p.elim) h
end
noncomputable def zk2(f:Str)(v:T):List (Str×T)->List (Str×T)
 |[]=>[(f,v)]
 |(g,x)::r=>if g=f then(g,v)::r else(g,x)::zk2 f v r
theorem DenF.look{W:Wd}{f:Str}:∀{fs:List (Str×T)} {ks:List (Str×V)},DenF W fs ks->(∀t,fs.lookup f=some t->∃v,ks.lookup f=some v/\Den W t v)/\(fs.lookup f=none->ks.lookup f=none)
 |[],ks,h=>by rw[show ks=[] from h];exact⟨(fun t e=>by cases e),fun _=>rfl⟩
 | (g,t)::fs,ks,h=>by
   obtain⟨v,r,rfl,h1,h2⟩:=h;have ih:=DenF.look (f:=f) h2;by_cases e:f=g
   ·have b:(f==g)=true:=beq_iff_eq.mpr e
    simp only[List.lookup,b];exact⟨fun t' e'=>by cases e';exact⟨v,rfl,h1⟩,fun z=>by cases z⟩
   ·have b:(f==g)=false:=beq_eq_false_iff_ne.mpr e
    simp only[List.lookup,b];exact ih
theorem DenF.put{W:Wd}{f:Str}{t0:T}{v0:V}(d:Den W t0 v0):∀{fs:List (Str×T)} {ks:List (Str×V)},DenF W fs ks->DenF W (zk2 f t0 fs) (putF f v0 ks)
 |[],ks,h=>by rw[show ks=[] from h];exact⟨_,_,rfl,d,rfl⟩
 | (g,t)::fs,ks,h=>by
   obtain⟨v,r,rfl,h1,h2⟩:=h;have ih:=DenF.put (f:=f) d h2;rw[show zk2 f t0 ((g,t)::fs)=(if g=f then(g,t0)::fs else(g,t)::zk2 f t0 fs) from rfl,show putF f v0 ((g,v)::r)=(if g=f then(g,v0)::r else(g,v)::putF f v0 r) from rfl];by_cases e:g=f
   ·rw[if_pos e,if_pos e];exact⟨_,_,rfl,d,h2⟩
   ·rw[if_neg e,if_neg e];exact⟨_,_,rfl,h1,ih⟩
noncomputable def zhg(S:Sto)(C:Addr):T->Option (Nat×List (Str×T))
 | .obj k=>match S[k]? with
   |some (.ins C' fs)=>if C'=C then some (k,fs) else none
   |_=>none
 |_=>none
theorem Rep.inst {W:Wd} {S:Sto} {H:Hp} (r:Rep W S H) {C:Addr} {t:T} {v:V} {k:Nat} {fs:List (Str×T)} (d:Den W t v) (h:zhg S C t=some (k,fs)) :
  ∃dx ks,v=.ref (W.μ k)/\S[k]?=some (.ins C fs)/\H (W.μ k)=some (.ins C dx ks)/\DenF W fs ks:=by
 cases t with
 | obj j=>
   obtain⟨rfl,hj⟩:=zb5.mp d;unfold zhg at h;cases e:S[j]? with
   |none=>simp[e] at h
   | some c=>
     cases c with
     | ins C' fs'=>
       simp only[e] at h
       split at h
       ·rename_i hc
        cases h;subst hc;obtain⟨⟨dx,ks,h1,h2⟩,_⟩:=r.cell _ _ e;exact⟨dx,ks,rfl,e,h1,h2⟩
       ·cases h
     |lst _=>simp[e] at h
     |dic _=>simp[e] at h
     |exc _ _=>simp[e] at h
     |lck _=>simp[e] at h
 |_=>simp[zhg] at h
noncomputable def gFld(C:Addr)(f:Str)(t:T):M T:=fun S=>match zhg S C t with
 | some (_,fs)=>(match fs.lookup f with
   |some u=>.ok u S
   |none=>.bad)
 |none=>.bad
noncomputable def zd9(C:Addr)(f:Str)(fo fv:DE):DS:=fun ρ=>(fv ρ).bind fun t=>(fo ρ).bind fun o=>fun S=>match zhg S C o with
 |some (k,fs)=>if fs.length<900 then .ok (.nx ρ) (S.set k (.ins C (zk2 f t fs))) else .bad
 |none=>.bad
noncomputable def zn3(fd fk fv:DE):DS:=fun ρ=>(fv ρ).bind fun t=>(fd ρ).bind fun d=>(fk ρ).bind fun k=>fun S=>match d,keyT k with
 | .obj j,some key=>(match S[j]? with
   |some (.dic kvs)=>if kvs.length<=900 then .ok (.nx ρ) (S.set j (.dic (putT kvs key t))) else .bad
   |_=>.bad)
 |_,_=>.bad
noncomputable def Zdp(fl fi fv:DE):DS:=fun ρ=>(fv ρ).bind fun t=>(fl ρ).bind fun l=>(fi ρ).bind fun i=>fun S=>match l,i with
 | .obj j,.int n=>(match S[j]? with
   | some (.lst ts)=>(match ixN ts.length n with
     |some m=>.ok (.nx ρ) (S.set j (.lst (ts.set m t)))
     |none=>.bad)
   |_=>.bad)
 |_,_=>.bad
section
variable {X:Cx}{E:XK}{a b c e o i value:Expr}{es:List Expr}{fa fb fc fo fv fi:DE}{ta tb:DT}{fr:DA}{pos pos':Pos}{f:Str}{C:Addr}
theorem zb9(cl:Cls X.K C)(na:zca X.K C f)(ha:PE X e (RE E fa))(hb:attributeBase e f X.env (eval e X.env)=eval e X.env:=by rfl):PE X (.Attribute e f pos) (RE E (e1 (gFld C f) fa)):=
 zb2 (z8l ha hb) fun σ H Q h=>re1 (r:=fun x H1 Q=>∃a C dx fs v,x=.ref a/\H1 a=some (.ins C dx fs)/\Cls X.K C/\zca X.K C f/\fs.lookup f=some v/\Q v H1) (fun t W S H v Q r d p=>by
  unfold gFld at p;cases e:zhg S C t with
  |none=>simp only[e] at p;exact p.elim
  | some q=>
    obtain⟨k,fs⟩:=q;simp only[e] at p;cases e2:fs.lookup f with
    |none=>simp only[e2] at p;exact p.elim
    | some u=>
      simp only[e2] at p;obtain⟨dx,ks,rfl,h0,h1,h2⟩:=r.inst d e;obtain⟨v,e3,dv⟩:=h2.look.1 u e2;exact⟨_,C,dx,ks,v,rfl,h1,cl,na,e3,now p r dv⟩) h
theorem zen(cl:Cls X.K C)(na:zca X.K C f)(ho:PE X o (RE E fo))(hv:PE X value (RE E fv))(hs:swapsWith value (some (.Attribute o f pos')) pos.line X.env=pure false:=by rfl):PS X (.Assign [.Attribute o f pos'] value pos) (RS E (zd9 C f fo fv)):=
 zkj (z8m ho hv hs) fun D σ H h=>by
  obtain⟨W,S,ρ,rp,env,p⟩:=h;refine⟨W,S,ρ,rp,env,(Post.bind p).imp fun t W1 S1 H1 l1 r1 p1 y dy=>?_⟩;refine⟨W1,S1,ρ,r1,env.mono l1,(Post.bind p1).imp fun o W2 S2 H2 l2 r2 p2 x dx=>?_⟩;cases e:zhg S2 C o with
  |none=>simp only[e] at p2;exact p2.elim
  | some q=>
    obtain⟨k,fs⟩:=q;simp only[e] at p2
    split at p2
    ·rename_i hl
     obtain⟨d',ks,rfl,h0,h1,h2⟩:=r2.inst dx e;refine⟨_,C,d',ks,rfl,h1,cl,na,by rw[<- h2.length];omega,?_⟩;exact p2 W2 _ (Wd.le.refl _) (r2.cellSet h0 _ _ ⟨d',_,zaj,h2.put (Den.mono l2 _ _ dy)⟩) σ (env.mono (l1.trans l2))
    ·exact p2.elim
theorem zm7(hu:X.A.units+1<cLine)(ho:PE X o (RE E fo))(hi:PE X i (RE E fi))(hv:PE X value (RE E fv))(hs:swapsWith value (some (.Subscript o i pos')) pos.line X.env=pure false:=by rfl):PS X (.Assign [.Subscript o i pos'] value pos) (RS E (zn3 fo fi fv)):=
 zkj (z5v hu ho hi hv hs) fun D σ H h=>by
  obtain⟨W,S,ρ,rp,env,p⟩:=h;refine⟨W,S,ρ,rp,env,(Post.bind p).imp fun t W1 S1 H1 l1 r1 p1 v dv=>?_⟩;refine⟨W1,S1,ρ,r1,env.mono l1,(Post.bind p1).imp fun d W2 S2 H2 l2 r2 p2 x dx=>?_⟩;refine⟨W2,S2,ρ,r2,env.mono (l1.trans l2),(Post.bind p2).imp fun k W3 S3 H3 l3 r3 p3 y dy=>?_⟩;have dx:=Den.mono l3 _ _ dx;have dv:=Den.mono (l2.trans l3) _ _ dv
  split at p3
  ·rename_i e2
   split at p3
   ·rename_i kvs e
    split at p3
    ·rename_i hl
     obtain⟨rfl,_⟩:=zb5.mp dx;obtain⟨⟨ks,h1,h2⟩,_⟩:=r3.cell _ _ e;refine⟨_,_,rfl,.inl ⟨ks,_,h1,zje dy ‹keyT k=some _›,zq6 (by rw[<- h2.length];omega),rfl⟩,?_⟩;exact p3 W3 _ (Wd.le.refl _) (r3.cellSet e _ _ ⟨_,zaj,h2.put dv _⟩) σ (env.mono (l1.trans (l2.trans l3)))
    ·exact p3.elim
   ·exact p3.elim
  ·exact p3.elim
noncomputable def eMt(ok:Sto->T->Bool)(g:T->List T->M T)(fo:DE)(fr:DA):DE:=fun ρ=>(fo ρ).bind fun t=>fun S=>if ok S t=true then((fr ρ).bind fun ts=>g t ts) S else .bad
def okL(S:Sto)(t:T):Bool:=(zam S t).isSome
noncomputable def okS(_:Sto):T->Bool
 |.str _=>true
 |_=>false
def GM(E:XK)(r:V->List V->Hp->VK->Prop)(g:T->List T->M T):Prop:=∀(t:T) (ts:List T) (W:Wd) (S:Sto) (H:Hp) (v:V) (vs:List V) (Q:VK),Rep W S H->Den W t v->Dens W ts vs->Post E W (QV Q) (g t ts S)->r v vs H Q
theorem zrk{K:PySem.W.Frag}{W:Wd}{S:Sto}{H:Hp}{t:T}{v:V}(r:Rep W S H)(d:Den W t v)(h:okL S t=true):tyV K "list" v H:=by
 obtain⟨ts,e⟩:=Option.isSome_iff_exists.mp h;obtain⟨a,vs,rfl,h1,_⟩:=r.list d e;exact .inl ⟨rfl,vs,.inl h1⟩
theorem z9m{K:PySem.W.Frag}{W:Wd}{S:Sto}{H:Hp}{t:T}{v:V}(r:Rep W S H)(d:Den W t v)(h:okS S t=true):tyV K "str" v H:=by
 cases t with
 |str x=>rw[zbm.mp d];exact rfl
 |_=>cases h
theorem e_mt{ok:Sto->T->Bool}{T' id:String}{name:Str}{r:V->List V->Hp->VK->Prop}{g:T->List T->M T}{apos:Pos}(pa:PlainAttrs T')(slot:Slot T' name id)(hty:typeOf (.builtin id)=pure (.type "method_descriptor"))(hm:MtR X id r)
  (hok:∀{W:Wd} {S:Sto} {H:Hp} {t:T} {v:V},Rep W S H->Den W t v->ok S t=true->tyV X.K T' v H) (hg:GM E r g) (ho:PE X o (RE E fo)) (ha:PA X (e::es) (RA E fr))
  (hbase:attributeBase o name X.env (eval o X.env)=eval o X.env:=by rfl)
  (hfew:((backTo pos (starEach (e::es) X.env)).all (fun x=>!x.1)&&(backToKw pos (keywordEach [] X.env)).all (fun x=>x.1.isSome)
   && decide ((e::es).length+([]:List Keyword).length+(if([]:List Keyword).isEmpty then 0 else 1)<30))=true:=by rfl)
  (hline:(apos.endLine==pos.line)=true:=by rfl) (hs:starEach (e::es) X.env=(false,eval e X.env)::starEach es X.env:=by rfl) (hplain:(backTo pos (starEach es X.env)).any (·.1)=false:=by rfl) :
  PE X (.Call (.Attribute o name apos) (e::es) [] pos) (RE E (eMt ok g fo fr)):=
 zb2 (Zbt pa slot hty hm ho ha hbase hfew hline hs hplain) fun σ H Q h=>by
  obtain⟨W,S,ρ,rp,env,p⟩:=h;refine⟨W,S,ρ,rp,env,(Post.bind p).imp fun t W1 S1 H1 l1 r1 p1 v dv=>?_⟩
  split at p1
  ·rename_i h
   refine⟨hok r1 dv h,W1,S1,ρ,r1,env.mono l1,(Post.bind p1).imp fun ts W2 S2 H2 l2 r2 p2 vs dvs=>?_⟩;exact hg t ts W2 S2 H2 v vs Q r2 (Den.mono l2 _ _ dv) dvs p2
  ·exact p1.elim
theorem Zb4{ok:Sto->T->Bool}{T' id:String}{name:Str}{r:V->List V->Hp->VK->Prop}{g:T->List T->M T}{apos:Pos}(pa:PlainAttrs T')(slot:Slot T' name id)(hty:typeOf (.builtin id)=pure (.type "method_descriptor"))(hm:MtR X id r)
  (hok:∀{W:Wd} {S:Sto} {H:Hp} {t:T} {v:V},Rep W S H->Den W t v->ok S t=true->tyV X.K T' v H) (hg:GM E r g) (ho:PE X o (RE E fo))
  (hbase:attributeBase o name X.env (eval o X.env)=eval o X.env:=by rfl) (hline:(apos.endLine==pos.line)=true:=by rfl) :
  PE X (.Call (.Attribute o name apos) [] [] pos) (RE E (eMt ok g fo aNil)):=
 zb2 (z8w pa slot hty hm ho hbase hline) fun σ H Q h=>by
  obtain⟨W,S,ρ,rp,env,p⟩:=h;refine⟨W,S,ρ,rp,env,(Post.bind p).imp fun t W1 S1 H1 l1 r1 p1 v dv=>?_⟩
  split at p1
  ·rename_i h
   exact⟨hok r1 dv h,hg t [] W1 S1 H1 v [] Q r1 dv Dens.nil' p1⟩
  ·exact p1.elim
noncomputable def cellL(S:Sto):T->Option (Nat×List T)
 | .obj k=>match S[k]? with
   |some (.lst ts)=>some (k,ts)
   |_=>none
 |_=>none
theorem Rep.cellL{W:Wd}{S:Sto}{H:Hp}(r:Rep W S H){t:T}{v:V}{k:Nat}{ts:List T}(d:Den W t v)(h:cellL S t=some (k,ts)):∃vs,v=.ref (W.μ k)/\S[k]?=some (.lst ts)/\H (W.μ k)=some (.lst vs)/\Dens W ts vs:=by
 cases t with
 | obj j=>
   obtain⟨rfl,hj⟩:=zb5.mp d;unfold MF.cellL at h;cases e:S[j]? with
   |none=>simp[e] at h
   | some c=>
     cases c with
     | lst us=>
       simp only[e] at h;cases h;obtain⟨⟨vs,h1,h2⟩,_⟩:=r.cell _ _ e;exact⟨vs,rfl,e,h1,h2⟩
     |dic _=>simp[e] at h
     |ins _ _=>simp[e] at h
     |exc _ _=>simp[e] at h
     |lck _=>simp[e] at h
 |_=>simp[MF.cellL] at h
noncomputable def gApp(t:T)(as:List T):M T:=fun S=>match cellL S t,as with
 |some (k,ts),[y]=>if ts.length<1000 then .ok .non (S.set k (.lst (ts++[y]))) else .bad
 |_,_=>.bad
noncomputable def gExt(t:T)(as:List T):M T:=fun S=>match cellL S t,as with
 | some (k,ts),[y]=>(match zam S y with
   |some us=>if ts.length+us.length<=1000 then .ok .non (S.set k (.lst (ts++us))) else .bad
   |none=>.bad)
 |_,_=>.bad
noncomputable def zrl(t:T)(as:List T):M T:=fun S=>match cellL S t,as with
 |some (k,_),[]=>.ok .non (S.set k (.lst []))
 |_,_=>.bad
noncomputable def zoo(t:T)(as:List T):M T:=fun S=>match cellL S t,as with
 | some (k,ts),[.int i]=>if 0<=i/\i<1000 then(match ts[i.toNat]? with
   |some y=>.ok y (S.set k (.lst (ts.eraseIdx i.toNat)))
   |none=>.bad) else .bad
 |_,_=>.bad
theorem z9n:GM E zyo gApp:=by
 intro t as W S H v vs Q r d da p;unfold gApp at p
 split at p
 ·rename_i k ts y e
  split at p
  ·rename_i hl
   obtain⟨us,rfl,h0,h1,h2⟩:=r.cellL d e;obtain⟨w,rfl,dw⟩:=zfi da;exact⟨_,us,w,rfl,rfl,h1,Nat.lt_of_lt_of_le (by rw[<- h2.length];exact hl) (big (Nat.le_refl _)),p W _ (Wd.le.refl _) (r.cellSet h0 _ _ ⟨_,zaj,h2.append (Dens.cons' dw Dens.nil')⟩) _ (zco.mpr rfl)⟩
  ·exact p.elim
 ·exact p.elim
def zvj:V->List V->Hp->VK->Prop:=fun x vs H Q=>∃l b xs zs,x=.ref l/\vs=[.ref b]/\H l=some (.lst xs)/\Rd H b (.lst zs)/\xs.length+zs.length<=sizeLine/\Q .non (upd H l (.lst (xs++zs)))
theorem zxc:MtR X "list.extend" zvj:=by
 intro pins s σ H x vs v us Q I rx rv h;obtain⟨l,b,xs,zs,rfl,rfl,hH,hB,hz,q⟩:=h;cases rx;obtain⟨u,rfl,ru⟩:=rv.one;cases ru;obtain⟨z,its,n,r,hl,e⟩:=I.lstM hH;obtain⟨z2,its2,n2,r2,e2⟩:=hB.ok I.hok;have hl2:=r2.length;have hsz:its.toArray.size+its2.toArray.size<=sizeLine:=by rw[List.size_toArray,List.size_toArray];omega
 have hlong:¬(!its.toArray.isEmpty&&Builtin.List.listTooLong (its.toArray.size+its2.toArray.size))=true:=by
  rw[z14 hsz,Bool.and_false];exact Bool.false_ne_true
 refine call_meets F.slot_list_extend ⟨_,e,rfl⟩ F.entry_list_extend (F.args_list_extend_2 _ _)
  (AutoSeq1.list_extend_list_list_0 l its.toArray n b its2.toArray n2 hlong (by rw[List.size_toArray];omega) (by omega)) ⟨e,e2,?_⟩
 refine⟨.non,_,I.lset (its':=its++its2) hH e (by simp) (r.append r2) ?_,rfl,q⟩;rw[List.length_append];omega
theorem z9o:GM E zvj gExt:=by
 intro t as W S H v vs Q r d da p;unfold gExt at p
 split at p
 ·rename_i k ts y e
  cases e2:zam S y with
  |none=>simp only[e2] at p;exact p.elim
  | some zs=>
    simp only[e2] at p
    split at p
    ·rename_i hl
     obtain⟨us,rfl,h0,h1,h2⟩:=r.cellL d e;obtain⟨w,rfl,dw⟩:=zfi da;obtain⟨b,ws,rfl,h3,h4⟩:=r.list dw e2;exact⟨_,b,us,ws,rfl,rfl,h1,h3,big (by rw[<- h2.length,<- h4.length];exact hl),p W _ (Wd.le.refl _) (r.cellSet h0 _ _ ⟨_,zaj,h2.append h4⟩) _ (zco.mpr rfl)⟩
    ·exact p.elim
 ·exact p.elim
theorem z2n:GM E z34 zrl:=by
 intro t as W S H v vs Q r d da p;unfold zrl at p
 split at p
 ·rename_i k ts e
  obtain⟨us,rfl,h0,h1,h2⟩:=r.cellL d e;rw[zbo.mp da];exact⟨_,us,rfl,rfl,h1,p W _ (Wd.le.refl _) (r.cellSet h0 _ _ ⟨_,zaj,Dens.nil'⟩) _ (zco.mpr rfl)⟩
 ·exact p.elim
theorem z2o:GM E z33 zoo:=by
 intro t as W S H v vs Q r d da p;unfold zoo at p
 split at p
 ·rename_i k ts i e
  split at p
  ·rename_i hi
   cases e2:ts[i.toNat]? with
   |none=>simp only[e2] at p;exact p.elim
   | some y=>
     simp only[e2] at p;obtain⟨us,rfl,h0,h1,h2⟩:=r.cellL d e;obtain⟨w0,rfl,dw0⟩:=zfi da;obtain⟨w,e3,dw⟩:=h2.get e2;have hlt:i.toNat<us.length:=(List.getElem?_eq_some_iff.mp e3).1;refine⟨_,us,i,i.toNat,w,rfl,by rw[zay.mp dw0],h1,?_,?_,seqIndex_of hi.1 (by omega),e3,p W _ (Wd.le.refl _) (r.cellSet h0 _ _ ⟨_,zaj,h2.eraseIdx _⟩) _ dw⟩
     ·have:=hi.1;omega
     ·have:=hi.2;omega
  ·exact p.elim
 ·exact p.elim
noncomputable def zh7:List T->Option (List Str)
 |[]=>some []
 |.str x::ts=>(zh7 ts).map (x::·)
 |_::_=>none
theorem zpk{W:Wd}:∀{ts:List T} {vs:List V} {ys:List Str},Dens W ts vs->zh7 ts=some ys->vs=ys.map V.str
 |[],vs,ys,h,e=>by cases e;exact zbo.mp h
 | t :: ts,vs,ys,h,e=>by
   obtain⟨v,r,rfl,h1,h2⟩:=za3.mp h;cases t with
   | str x=>
     simp only[zh7] at e;obtain⟨zs,e1,rfl⟩:=Option.map_eq_some_iff.mp e;rw[zbm.mp h1,zpk h2 e1];rfl
   |_=>simp[zh7] at e
noncomputable def zxd(t:T)(as:List T):M T:=fun S=>match t,as with
 | .str z,[y]=>(match (zam S y).bind zh7 with
   |some ys=>if(ys.map (·.length)).sum+ys.length*z.length<=100000 then .ok (.str (Txt.join z ys)) S else .bad
   |none=>.bad)
 |_,_=>.bad
theorem z6h(K:PySem.W.Frag):GM E (fun x xs H Q=>∃z l ys,x=.str z/\xs=[.ref l]/\SqL K H l (ys.map V.str)/\(ys.map (·.length)).sum+ys.length*z.length<=16777216/\Q (.str (Txt.join z ys)) H) zxd:=by
 intro t as W S H v vs Q r d da p;unfold zxd at p
 split at p
 ·rename_i z y
  cases e:(zam S y).bind zh7 with
  |none=>simp only[e] at p;exact p.elim
  | some ys=>
    simp only[e] at p
    split at p
    ·rename_i hl
     obtain⟨us,e1,e2⟩:=Option.bind_eq_some_iff.mp e;obtain⟨w,rfl,dw⟩:=zfi da;obtain⟨b,ws,rfl,h3,h4⟩:=r.list dw e1;rw[zpk h4 e2] at h3;exact⟨z,b,ys,zbm.mp d,rfl,.inl h3,by omega,now p r (zbm.mpr rfl)⟩
    ·exact p.elim
 ·exact p.elim
theorem zn4{apos:Pos}(ho:PE X o (RE E fo))(ha:PA X [e] (RA E fr))(hbase:attributeBase o "append" X.env (eval o X.env)=eval o X.env:=by rfl)
  (hline:(apos.endLine==pos.line)=true:=by rfl) (hs:starEach [e] X.env=(false,eval e X.env)::starEach [] X.env:=by rfl)
  (hfew:((backTo pos (starEach [e] X.env)).all (fun x=>!x.1)&&(backToKw pos (keywordEach [] X.env)).all (fun x=>x.1.isSome)&&decide ([e].length+([]:List Keyword).length+(if([]:List Keyword).isEmpty then 0 else 1)<30))=true:=by rfl):PE X (.Call (.Attribute o "append" apos) [e] [] pos) (RE E (eMt okL gApp fo fr)):=
 e_mt PySem.F.plainAttrs_list PySem.F.slot_list_append PySem.F.type_list_append zmx zrk z9n ho ha hbase hfew hline hs rfl
theorem zxe{apos:Pos}(ho:PE X o (RE E fo))(ha:PA X [e] (RA E fr))(hbase:attributeBase o "extend" X.env (eval o X.env)=eval o X.env:=by rfl)
  (hline:(apos.endLine==pos.line)=true:=by rfl) (hs:starEach [e] X.env=(false,eval e X.env)::starEach [] X.env:=by rfl)
  (hfew:((backTo pos (starEach [e] X.env)).all (fun x=>!x.1)&&(backToKw pos (keywordEach [] X.env)).all (fun x=>x.1.isSome)&&decide ([e].length+([]:List Keyword).length+(if([]:List Keyword).isEmpty then 0 else 1)<30))=true:=by rfl):PE X (.Call (.Attribute o "extend" apos) [e] [] pos) (RE E (eMt okL gExt fo fr)):=
 e_mt PySem.F.plainAttrs_list PySem.F.slot_list_extend PySem.F.type_list_extend zxc zrk z9o ho ha hbase hfew hline hs rfl
theorem z6i{apos:Pos}(ho:PE X o (RE E fo))(ha:PA X [e] (RA E fr))(hbase:attributeBase o "pop" X.env (eval o X.env)=eval o X.env:=by rfl)
  (hline:(apos.endLine==pos.line)=true:=by rfl) (hs:starEach [e] X.env=(false,eval e X.env)::starEach [] X.env:=by rfl)
  (hfew:((backTo pos (starEach [e] X.env)).all (fun x=>!x.1)&&(backToKw pos (keywordEach [] X.env)).all (fun x=>x.1.isSome)&&decide ([e].length+([]:List Keyword).length+(if([]:List Keyword).isEmpty then 0 else 1)<30))=true:=by rfl):PE X (.Call (.Attribute o "pop" apos) [e] [] pos) (RE E (eMt okL zoo fo fr)):=
 e_mt PySem.F.plainAttrs_list PySem.F.slot_list_pop PySem.F.type_list_pop z15 zrk z2o ho ha hbase hfew hline hs rfl
theorem z9p{apos:Pos}(ho:PE X o (RE E fo))(ha:PA X [e] (RA E fr))(hbase:attributeBase o "join" X.env (eval o X.env)=eval o X.env:=by rfl)
  (hline:(apos.endLine==pos.line)=true:=by rfl) (hs:starEach [e] X.env=(false,eval e X.env)::starEach [] X.env:=by rfl)
  (hfew:((backTo pos (starEach [e] X.env)).all (fun x=>!x.1)&&(backToKw pos (keywordEach [] X.env)).all (fun x=>x.1.isSome)&&decide ([e].length+([]:List Keyword).length+(if([]:List Keyword).isEmpty then 0 else 1)<30))=true:=by rfl):PE X (.Call (.Attribute o "join" apos) [e] [] pos) (RE E (eMt okS zxd fo fr)):=
 e_mt PySem.F.plainAttrs_str PySem.F.slot_str_join PySem.F.type_str_join z54 z9m (z6h X.K) ho ha hbase hfew hline hs rfl
theorem z6j{apos:Pos}(ho:PE X o (RE E fo))(hbase:attributeBase o "clear" X.env (eval o X.env)=eval o X.env:=by rfl)(hline:(apos.endLine==pos.line)=true:=by rfl):PE X (.Call (.Attribute o "clear" apos) [] [] pos) (RE E (eMt okL zrl fo aNil)):=
 Zb4 PySem.F.plainAttrs_list PySem.F.slot_list_clear PySem.F.type_list_clear z16 zrk z2n ho hbase hline
end
def sNx:DS:=fun ρ=>M.pure (.nx ρ)
noncomputable def sSeq(f g:DS):DS:=fun ρ=>(f ρ).bind fun x=>match x with
 |.nx ρ'=>g ρ'
 |o=>M.pure o
def sRet(f:DE):DS:=fun ρ=>(f ρ).bind fun t=>M.pure (.rt t)
def zc5(f:DE):DS:=fun ρ=>(f ρ).bind fun _=>M.pure (.nx ρ)
def sSet(i:Nat)(f:DE):DS:=fun ρ=>(f ρ).bind fun t=>M.pure (.nx (ρ.set i (some t)))
noncomputable def sIf(c:DT)(f g:DS):DS:=fun ρ=>(c ρ).bind fun b=>if b=true then f ρ else g ρ
theorem zk3{α:Type}{E:XK}{W W':Wd}{Q:α->Wd->Sto->Hp->Prop}{r:R α}(h:Post E W Q r)(l:W.le W'):Post E W' Q r:=by
 cases r with
 |ok a S=>exact fun W2 H2 l2 rp=>h W2 H2 (l.trans l2) rp
 |exc C fs S=>exact fun W2 H2 dx l2 rp=>h W2 H2 dx (l.trans l2) rp
 |bad=>exact h
section
variable {X:Cx}{E:XK}{a b c e o:Expr}{es:List Expr}{fa fb fc:DE}{tc:DT}{fr:DA}{pos:Pos}{st:Stmt}{rest sa sb:List Stmt}{f g:DS}
theorem Zb5{D:Ends}{σ:St}{H:Hp}(h:RS E sNx D σ H):D.nx σ H:=by
 obtain⟨W,S,ρ,rp,env,p⟩:=h;exact p W H (Wd.le.refl _) rp σ env
theorem zax:PSs X [] (RS E sNx):=z39 z5d fun D σ H h=>Zb5 h
theorem z9q{D:Ends}{σ:St}{H:Hp}(h:RS E (sSeq f g) D σ H):tSeq (RS E f) (RS E g) D σ H:=by
 obtain⟨W,S,ρ,rp,env,p⟩:=h;refine⟨W,S,ρ,rp,env,(Post.bind p).imp fun x W1 S1 H1 l1 r1 p1=>?_⟩;cases x with
 |nx ρ'=>exact fun σ' e'=>⟨W1,S1,ρ',r1,e',p1⟩
 |rt t=>exact p1 W1 H1 (Wd.le.refl _) r1
 |bk ρ'=>exact p1 W1 H1 (Wd.le.refl _) r1
 |ct ρ'=>exact p1 W1 H1 (Wd.le.refl _) r1
theorem zac(h1:PS X st (RS E f))(h2:PSs X rest (RS E g)):PSs X (st::rest) (RS E (sSeq f g)):=z39 (zme h1 h2) fun D σ H h=>z9q h
theorem zah(h1:PS X st (RS E f)):PSs X [st] (RS E f):=zs1 h1
theorem za4(ha:PE X e (RE E fa)):PS X (.Return (some e) pos) (RS E (sRet fa)):=zkj (z77 ha) fun D σ H h=>by
 obtain⟨W,S,ρ,rp,env,p⟩:=h;exact⟨W,S,ρ,rp,env,(Post.bind p).imp fun t W1 S1 H1 l1 r1 p1 v dv=>p1 W1 H1 (Wd.le.refl _) r1 v dv⟩
theorem zbr(ha:PE X e (RE E fa))(hs:swapsWith e none pos.line X.env=pure false:=by rfl):PS X (.Expr e pos) (RS E (zc5 fa)):=zkj (zs2 ha hs) fun D σ H h=>by
 obtain⟨W,S,ρ,rp,env,p⟩:=h;exact⟨W,S,ρ,rp,env,(Post.bind p).imp fun t W1 S1 H1 l1 r1 p1 v dv=>p1 W1 H1 (Wd.le.refl _) r1 σ (env.mono l1)⟩
theorem zze{i:Nat}{D:Ends}{σ:St}{H:Hp}(h:RS E (sSet i fa) D σ H):tAsg (RE E fa) (zn0 i) D σ H:=by
 obtain⟨W,S,ρ,rp,env,p⟩:=h;exact⟨W,S,ρ,rp,env,(Post.bind p).imp fun t W1 S1 H1 l1 r1 p1 v dv=>p1 W1 H1 (Wd.le.refl _) r1 _ ((env.mono l1).set dv i)⟩
theorem zby{i:Nat}{x:Str}{pos':Pos}(hN:X.N.Nodup)(hi:X.N[i]?=some x)(hx:Loc X.env.scope x)(he:PE X e (RE E fa))(hs:swapsWith e (some (.Name x pos')) pos.line X.env=pure false:=by rfl)(hf:X.fn x=true\/X.env.scope.names.lookup x=some .local:=by first | exact .inl rfl | exact .inr rfl | assumption)
 (hkn:∀u:V,X.kn[i]?≠some (some u):=by first | assumption | exact fun u h=>nomatch (show(none:Option (Option V))=some (some u) from h) | exact fun u h=>nomatch (Option.some.inj (show some (none:Option V)=some (some u) from h))) :
 PS X (.Assign [.Name x pos'] e pos) (RS E (sSet i fa)):=zkj (z78 hN hi hx he hs hf hkn) fun D σ H h=>zze h
theorem s_if(hc:PT X c (RT E tc))(ha:PSs X sa (RS E f))(hb:PSs X sb (RS E g)):PS X (.If c sa sb pos) (RS E (sIf tc f g)):=zkj (Zbe hc ha hb) fun D σ H h=>by
 obtain⟨W,S,ρ,rp,env,p⟩:=h;refine⟨W,S,ρ,rp,env,(Post.bind p).imp fun k W1 S1 H1 l1 r1 p1=>?_⟩;cases k with
 |true=>exact iteT ⟨W1,S1,ρ,r1,env.mono l1,p1⟩
 |false=>exact iteF ⟨W1,S1,ρ,r1,env.mono l1,p1⟩
abbrev DG:=T->Ev->Option Ev
def GT(gl:TG)(g:DG):Prop:=∀(W:Wd) (S:Sto) (H:Hp) (t:T) (x:V) (ρ ρ2:Ev) (σ:St) (Q:St->Hp->Prop),Rep W S H->Den W t x->zbd W ρ σ->g t ρ=some ρ2->(∀σ2,zbd W ρ2 σ2->Q σ2 H)->gl x σ H Q
def zaz(i:Nat):DG:=fun t ρ=>some (ρ.set i (some t))
theorem zbx(i:Nat):GT (zn0 i) (zaz i):=fun W S H t x ρ ρ2 σ Q r d env e h=>by
 cases e;exact h _ (env.set d i)
noncomputable def zkk(i j:Nat):DG:=fun t ρ=>match t with
 |.tup [a,b]=>some ((ρ.set i (some a)).set j (some b))
 |_=>none
theorem zzf(K:PySem.W.Frag)(i j:Nat):GT (gTup K 2 (z5f (zn0 i) (z5f (zn0 j) gNil))) (zkk i j):=fun W S H t x ρ ρ2 σ Q r d env e h=>by
 unfold zkk at e
 split at e
 ·cases e
  obtain⟨p,vs,rfl,h1,h2⟩:=zdz.mp d;obtain⟨v,r1,rfl,d1,h3⟩:=za3.mp h2;obtain⟨w,rfl,d2⟩:=zfi h3;exact⟨p,_,rfl,.inl (r.sub _ _ h1).1.rd,rfl,v,_,rfl,w,_,rfl,rfl,h _ ((env.set d1 i).set d2 j)⟩
 ·cases e
structure ItOk(W1:Wd)(ts:List T)(st:Sto->Prop)(J:It):Prop where
 go:∀i W' S' H',W1.le W'->Rep W' S' H'->st S'->i<ts.length->J.go i H'/\∀x H'',J.yld i H' x H''->∃W'' t,W'.le W''/\Rep W'' S' H''/\ts[i]?=some t/\Den W'' t x
 stop:∀i W' S' H',W1.le W'->Rep W' S' H'->st S'->i=ts.length->J.stop i H'
abbrev DI:=Ev->M (List T×(Sto->Prop))
def RI(E:XK)(it:DI)(wi:TI):Prop:=∀(σ:St) (H:Hp) (R:It->Hp->Prop),(∃W S ρ,Rep W S H/\zbd W ρ σ/\Post E W (fun q W1 S1 H1=>∀J W2 H2,W1.le W2->Rep W2 S1 H2->ItOk W2 q.1 q.2 J->R J H2) (it ρ S))->wi σ H R
def iL(f:DE):DI:=fun ρ=>(f ρ).bind fun t=>fun S=>match zam S t with
 |some ts=>.ok (ts,fun S'=>zam S' t=some ts) S
 |none=>.bad
theorem zcp(K:PySem.W.Frag):RI E (iL fa) (z8a K (RE E fa)):=fun σ H R h=>by
 obtain⟨W,S,ρ,rp,env,p⟩:=h;refine⟨W,S,ρ,rp,env,(Post.bind p).imp fun t W1 S1 H1 l1 r1 p1 v dv=>?_⟩;cases e:zam S1 t with
 |none=>simp only[e] at p1;exact p1.elim
 | some ts=>
   simp only[e] at p1;obtain⟨a,vs,rfl,h1,h2⟩:=r1.list dv e;refine⟨a,rfl,⟨vs,.inl h1⟩,p1 W1 H1 (Wd.le.refl _) r1 _ W1 H1 (Wd.le.refl _) r1 ⟨fun i W' S' H' l r' st hi=>?_,fun i W' S' H' l r' st hi=>?_⟩⟩
   ·obtain⟨a',us,ea,g1,g2⟩:=r'.list (Den.mono l _ _ dv) st
    cases ea;have hi':i<us.length:=g2.length▸hi;refine⟨⟨us,us[i],.inl g1,List.getElem?_eq_getElem hi'⟩,fun x H'' y=>?_⟩;obtain⟨rfl,y⟩:=y;have ex:=y us (.inl g1);obtain⟨t',e1,d1⟩:=g2.get' ex;exact⟨W',t',Wd.le.refl _,r',e1,d1⟩
   ·obtain⟨a',us,ea,g1,g2⟩:=r'.list (Den.mono l _ _ dv) st
    cases ea;exact⟨us,.inl g1,by rw[<- g2.length];exact Nat.le_of_eq hi.symm⟩
noncomputable def zjh(lo:Int)(n:Nat):List T:=(List.range n).map fun(k:Nat)=>T.int (lo+k)
theorem zim(lo:Int)(n:Nat):(zjh lo n).length=n:=by simp[zjh]
theorem zvk{lo:Int}{n i:Nat}(h:i<n):(zjh lo n)[i]?=some (.int (lo+i)):=by simp[zjh,h]
noncomputable def iR1(f:DA):DI:=fun ρ=>(f ρ).bind fun ts=>fun S=>match ts with
 |[.int j]=>if -1000000<=j/\j<=1000000 then .ok (zjh 0 j.toNat,fun _=>True) S else .bad
 |_=>.bad
theorem z2p(W:Wd)(lo:Int)(n:Nat):ItOk W (zjh lo n) (fun _=>True) (Itr lo n):=⟨fun i W' S' H' l r' _ hi=>by
 rw[zim] at hi;refine⟨hi,fun x H'' y=>?_⟩;obtain⟨rfl,rfl⟩:=y;exact⟨W',_,Wd.le.refl _,r',zvk hi,zay.mpr rfl⟩,fun i W' S' H' l r' _ hi=>by
 rw[zim] at hi;exact Nat.le_of_eq hi.symm⟩
theorem zm8:RI E (iR1 fr) (z8b (RA E fr)):=fun σ H R h=>by
 obtain⟨W,S,ρ,rp,env,p⟩:=h;refine⟨W,S,ρ,rp,env,(Post.bind p).imp fun ts W1 S1 H1 l1 r1 p1 vs dv=>?_⟩
 split at p1
 ·rename_i j
  split at p1
  ·rename_i hj
   obtain⟨v,rfl,d1⟩:=zfi dv;exact⟨j,by rw[zay.mp d1],by omega,by omega,p1 W1 H1 (Wd.le.refl _) r1 _ W1 H1 (Wd.le.refl _) r1 (z2p W1 0 _)⟩
  ·exact p1.elim
 ·exact p1.elim
noncomputable def iK(f:DE):DI:=fun ρ=>(f ρ).bind fun t=>fun S=>match t with
 |.dic kvs=>.ok (kvs.map fun p=>kT p.1,fun _=>True) S
 |_=>.bad
noncomputable def Wd.zed(W:Wd)(a:Addr)(o:Obj×HO):Wd:=⟨W.HS,W.μ,W.n,fun b=>if b=a then some o else W.Z b,W.P⟩
theorem Rep.zedNew{W:Wd}{S:Sto}{H:Hp}{a:Addr}{u:HO}{o:Obj}(r:Rep W S H)(hs:W.HS a=some u)(hH:H a=some u)(nt:∀xs,u≠.tup xs)(no:z2g u):Rep (W.zed a (o,u)) S (upd H a (.frz o u))/\W.le (W.zed a (o,u)):=by
 have zn:W.Z a=none:=by
  cases e:W.Z a with
  |none=>rfl
  | some q=>
    have h2:=r.zed a q e;rw[hH] at h2;cases h2;exact no.elim
 have l:W.le (W.zed a (o,u)):=⟨fun _ _ e=>e,fun b q e=>by
  show(if b=a then some (o,u) else W.Z b)=some q;by_cases z:b=a
  ·rw[z,zn] at e;cases e
  ·rw[if_neg z];exact e,fun _ _ e=>e,Nat.le_refl _,fun _ _=>rfl⟩
 refine⟨⟨fun b w e=>?_,r.len,fun k c e=>?_,r.inj,fun b q e=>?_,fun b w e=>?_⟩,l⟩
 ·by_cases z:b=a
  ·subst z
   have e:W.HS b=some w:=e;rw[hs] at e;cases e;exact⟨.inr ⟨⟨o,zaj⟩,nt⟩,no⟩
  ·exact⟨(r.sub b w e).1.at (zai z),(r.sub b w e).2⟩
 ·have ne:W.μ k≠a:=fun z=>by have:=(r.cell k c e).2;rw[z,hs] at this;cases this
  exact⟨((r.cell k c e).1.at (zai ne)).mono l,(r.cell k c e).2⟩
 ·have e:(if b=a then some (o,u) else W.Z b)=some q:=e
  by_cases z:b=a
  ·rw[if_pos z] at e
   cases e;subst z;exact zaj
  ·rw[if_neg z] at e
   rw[zai z];exact r.zed b q e
 ·obtain⟨h1,h2,h3⟩:=r.prv b w e
  have ne:b≠a:=fun z=>by rw[z,hs] at h2;cases h2
  exact⟨by rw[zai ne];exact h1,h2,h3⟩
theorem Rep.zedOld{W:Wd}{S:Sto}{H:Hp}{a:Addr}{u:HO}{o:Obj}(r:Rep W S H)(hs:W.HS a=some u)(hH:H a=some (.frz o u)):Rep (W.zed a (o,u)) S H/\W.le (W.zed a (o,u)):=by
 have l:W.le (W.zed a (o,u)):=⟨fun _ _ e=>e,fun b q e=>by
  show(if b=a then some (o,u) else W.Z b)=some q;by_cases z:b=a
  ·have h2:=r.zed b q e
   rw[z,hH] at h2;obtain⟨q1,q2⟩:=q;cases h2;rw[if_pos z]
  ·rw[if_neg z];exact e,fun _ _ e=>e,Nat.le_refl _,fun _ _=>rfl⟩
 refine⟨⟨r.sub,r.len,fun k c e=>⟨(r.cell k c e).1.mono l,(r.cell k c e).2⟩,r.inj,fun b q e=>?_,r.prv⟩,l⟩;have e:(if b=a then some (o,u) else W.Z b)=some q:=e;by_cases z:b=a
 ·rw[if_pos z] at e
  cases e;subst z;exact hH
 ·rw[if_neg z] at e
  exact r.zed b q e
theorem zzg{W:Wd}{a:Addr}{o:Obj}{kvs:List (Key×T)}{ks:List (Key×V)}(hz:W.Z a=some (o,.dK ks))(d:DenK W kvs ks):ItOk W (kvs.map fun p=>kT p.1) (fun _=>True) (Itk a o ks):=⟨fun i W' S' H' l r' _ hi=>by
 have h2:=r'.zed a _ (l.z a _ hz);rw[List.length_map,d.length] at hi;refine⟨⟨h2,hi⟩,fun x H'' y=>?_⟩;obtain⟨k,v,e1,rfl,rfl⟩:=y;have dk:=zpj d;obtain⟨t,e2,d2⟩:=dk.get' (i:=i) (v:=kV k) (by rw[List.getElem?_map,e1];rfl);exact⟨W',t,Wd.le.refl _,r',e2,Den.mono l _ _ d2⟩,fun i W' S' H' l r' _ hi=>by
 have h2:=r'.zed a _ (l.z a _ hz);rw[List.length_map,d.length] at hi;exact⟨h2,Nat.le_of_eq hi.symm⟩⟩
theorem zzh:RI E (iK fa) (z81 X (RE E fa)):=fun σ H R h=>by
 obtain⟨W,S,ρ,rp,env,p⟩:=h;refine⟨W,S,ρ,rp,env,(Post.bind p).imp fun t W1 S1 H1 l1 r1 p1 v dv=>?_⟩
 split at p1
 ·rename_i kvs
  obtain⟨a,ks,rfl,h1,h2⟩:=zhf.mp dv;refine⟨a,ks,rfl,?_⟩;rcases(r1.sub a _ h1).1 with g | ⟨⟨o,g⟩,_⟩
  ·refine .inl ⟨g,fun o _=>?_⟩
   obtain⟨r2,l2⟩:=r1.zedNew (o:=o) h1 g (by intro xs z;cases z) trivial;exact p1 W1 H1 (Wd.le.refl _) r1 _ _ _ l2 r2 (zzg (by show(if a=a then some (o,HO.dK ks) else _)=some (o,HO.dK ks);rw[if_pos rfl]) (DenK.mono l2 _ _ h2))
  ·refine .inr ⟨o,g,?_⟩
   obtain⟨r2,l2⟩:=r1.zedOld h1 g;exact p1 W1 H1 (Wd.le.refl _) r1 _ _ _ l2 r2 (zzg (by show(if a=a then some (o,HO.dK ks) else _)=some (o,HO.dK ks);rw[if_pos rfl]) (DenK.mono l2 _ _ h2))
 ·exact p1.elim
end
open Classical in
noncomputable def za0(st:Sto->Prop)(g:DG)(body:DS):List T->Ev->M Fl
 |[],ρ=>fun S=>if st S then .ok (.nx ρ) S else .bad
 | t :: ts,ρ=>fun S=>if st S then(match g t ρ with
   | some ρ1=>(body ρ1).bind (fun x=>match x with
     |.nx ρ2=>za0 st g body ts ρ2
     |.ct ρ2=>za0 st g body ts ρ2
     |.bk ρ2=>M.pure (.nx ρ2)
     |.rt t=>M.pure (.rt t)) S
   |none=>.bad) else .bad
def sFor(it:DI)(g:DG)(body:DS):DS:=fun ρ=>(it ρ).bind fun q=>za0 q.2 g body q.1 ρ
section
variable {X:Cx}{E:XK}{tg iter:Expr}{body:List Stmt}{it:DI}{wi:TI}{gl:TG}{g:DG}{fb:DS}{pos:Pos}
theorem z2q(hG:GT gl g){D:Ends}{σ:St}{H2:Hp}{W2:Wd}{S1:Sto}{ρ:Ev}{ts:List T}{st:Sto->Prop}{J:It}(r2:Rep W2 S1 H2)(env:zbd W2 ρ σ)(ok:ItOk W2 ts st J)(p1:Post E W2 (QF D) (za0 st g fb ts ρ S1)) :
  tFor (fun _ _ R=>R J H2) gl (RS E fb) D σ H2:=by
 refine⟨fun i m σ H=>i<=ts.length/\m=ts.length-i/\∃W S ρ,W2.le W/\Rep W S H/\zbd W ρ σ/\Post E W (QF D) (za0 st g fb (ts.drop i) ρ S),⟨_,Nat.zero_le _,rfl,W2,S1,ρ,Wd.le.refl _,r2,env,?_⟩,?_⟩
 ·rw[List.drop_zero]
  exact p1
 ·rintro i m σ H ⟨hi,rfl,W3,S3,ρ3,l3,r3,e3,p3⟩
  by_cases hlt:i<ts.length
  ·rw [List.drop_eq_getElem_cons hlt] at p3
   unfold za0 at p3
   split at p3
   ·rename_i hst
    obtain⟨go,yl⟩:=ok.go i W3 S3 H l3 r3 hst hlt;refine .inr ⟨go,_,fun σ' H' n=>⟨ts.length-(i+1),by omega,hlt,rfl,n⟩,fun x H' y=>?_⟩;obtain⟨W4,t,l4,r4,et,dt⟩:=yl x H' y;rw[List.getElem?_eq_getElem hlt] at et;cases et;cases e:g ts[i] ρ3 with
    |none=>simp only[e] at p3;exact p3.elim
    | some ρ4=>
      simp only[e] at p3;refine hG W4 S3 H' _ x ρ3 ρ4 σ _ r4 dt (e3.mono l4) e fun σ2 e4=>⟨W4,S3,ρ4,r4,e4,(Post.bind (zk3 p3 l4)).imp fun fl W5 S5 H5 l5 r5 p5=>?_⟩;cases fl with
      |nx ρ5=>exact fun σ5 e5=>⟨W5,S5,ρ5,l3.trans (l4.trans l5),r5,e5,p5⟩
      |ct ρ5=>exact fun σ5 e5=>⟨W5,S5,ρ5,l3.trans (l4.trans l5),r5,e5,p5⟩
      |bk ρ5=>exact p5 W5 H5 (Wd.le.refl _) r5
      |rt t=>exact p5 W5 H5 (Wd.le.refl _) r5
   ·exact p3.elim
  ·have e:i=ts.length:=by omega
   subst e;rw[List.drop_length] at p3;unfold za0 at p3
   split at p3
   ·rename_i hst
    exact .inl ⟨ok.stop _ W3 S3 H l3 r3 hst rfl,p3 W3 H (Wd.le.refl _) r3 σ e3⟩
   ·exact p3.elim
theorem zji(hp:PassesOwn (model X.prog X.w) X.A X.env X.xe)(hc:X.calm=true)(hi:PI X tg iter wi)(hI:RI E it wi)(hg:PG X tg gl)(hG:GT gl g)(hb:PSs X body (RS E fb))
  (hs:∀x,foldedSetIterable iter X.env x=pure x:=by intro _;rfl):PS X (.For tg iter body [] pos) (RS E (sFor it g fb)):=
 zkj (z8c hp hc hi hg hb hs) fun D σ H h=>by
  obtain⟨W,S,ρ,rp,env,p⟩:=h;exact hI σ H _ ⟨W,S,ρ,rp,env,(Post.bind p).imp fun q W1 S1 H1 l1 r1 p1 J W2 H2 l2 r2 ok=>z2q hG r2 (env.mono (l1.trans l2)) ok (zk3 p1 l2)⟩
end
noncomputable def zbs(c:DT)(body:DS):Nat->Ev->M Fl
 |0,_=>M.bad
 | n + 1,ρ=>(c ρ).bind fun b=>if b=true then(body ρ).bind (fun x=>match x with
     |.nx ρ2=>zbs c body n ρ2
     |.ct ρ2=>zbs c body n ρ2
     |.bk ρ2=>M.pure (.nx ρ2)
     |.rt t=>M.pure (.rt t)) else M.pure (.nx ρ)
def zh8(c:DT)(body:DS):DS:=zbs c body 1000
section
variable {X:Cx}{E:XK}{c:Expr}{body:List Stmt}{tc:DT}{fb:DS}{pos:Pos}
theorem zpl(hp:PassesOwn (model X.prog X.w) X.A X.env X.xe)(hc:PT X c (RT E tc))(hb:PSs X body (RS E fb)):PS X (.While c body [] pos) (RS E (zh8 tc fb)):=
 zkj (z1u hp hc hb) fun D σ H h=>by
  obtain⟨W,S,ρ,rp,env,p⟩:=h;refine⟨fun m σ H=>∃W S ρ,Rep W S H/\zbd W ρ σ/\Post E W (QF D) (zbs tc fb m ρ S),⟨1000,W,S,ρ,rp,env,p⟩,?_⟩;rintro m σ H ⟨W1,S1,ρ1,r1,e1,p1⟩;cases m with
  |zero=>exact p1.elim
  | succ n=>
    refine⟨W1,S1,ρ1,r1,e1,(Post.bind p1).imp fun b W2 S2 H2 l2 r2 p2=>?_⟩;cases b with
    |false=>exact iteF (p2 W2 H2 (Wd.le.refl _) r2 σ (e1.mono l2))
    | true=>
      refine iteT ⟨fun σ H=>∃W S ρ,Rep W S H/\zbd W ρ σ/\Post E W (QF D) (zbs tc fb n ρ S),fun σ' H' q=>⟨n,Nat.lt_succ_self _,q⟩,W2,S2,ρ1,r2,e1.mono l2,?_⟩;refine(Post.bind (show Post E W2 (QF D) (M.bind (fb ρ1) _ S2) from p2)).imp fun fl W5 S5 H5 l5 r5 p5=>?_;cases fl with
      |nx ρ5=>exact fun σ5 e5=>⟨W5,S5,ρ5,r5,e5,p5⟩
      |ct ρ5=>exact fun σ5 e5=>⟨W5,S5,ρ5,r5,e5,p5⟩
      |bk ρ5=>exact p5 W5 H5 (Wd.le.refl _) r5
      |rt t=>exact p5 W5 H5 (Wd.le.refl _) r5
end
noncomputable def noX{α:Type}(m:M α):M α:=fun S=>match m S with
 |.exc _ _ _=>.bad
 |r=>r
theorem z2r{α:Type}{E E':XK}{W:Wd}{Q:α->Wd->Sto->Hp->Prop}{m:M α}{S:Sto}(h:Post E W Q (noX m S)):Post E' W Q (m S):=by
 unfold noX at h;cases e:m S with
 |ok a S1=>rw[e] at h;exact h
 |exc C fs S1=>rw[e] at h;exact h.elim
 |bad=>rw[e] at h;exact h.elim
def yesD:DT:=fun _=>M.pure true
open Classical in
noncomputable def zgf(st:Sto->Prop)(g:DG)(tc:DT)(te:DE):List T->Ev->List T->M (List T)
 |[],_,acc=>fun S=>if st S then .ok acc S else .bad
 | t::ts,ρ,acc=>fun S=>if st S then(match g t ρ with
   |some ρ1=>((tc ρ1).bind fun ok=>if ok=true then(te ρ1).bind fun y=>if acc.length<1000 then zgf st g tc te ts ρ1 (acc++[y]) else M.bad else zgf st g tc te ts ρ1 acc) S
   |none=>.bad) else .bad
def zek(nt:Nat)(js:List Nat)(it:DI)(g:DG)(tc:DT)(te:DE)(fin:List T->M T):DE:=fun ρ=>
 (it ρ).bind fun q=>(noX (zgf q.2 g tc te q.1 (List.replicate nt none++js.map fun j=>(ρ[j]?).join) [])).bind fin
def finF(ts:List T):M T:=M.pure (.lst ts)
theorem z9r(W:Wd)(p:Addr):(W.unp p).le W:=⟨fun _ _ e=>e,fun _ _ e=>e,fun a o e=>by
 have e:(if a=p then none else W.P a)=some o:=e;by_cases z:a=p
 ·rw[if_pos z] at e;cases e
 ·rw[if_neg z] at e;exact e,Nat.le_refl _,fun _ _=>rfl⟩
theorem zvl{W W':Wd}(l:W.le W')(p:Addr):(W.unp p).le (W'.unp p):=⟨l.hs,l.z,fun a o e=>by
 have e:(if a=p then none else W.P a)=some o:=e;show(if a=p then none else W'.P a)=some o;by_cases z:a=p
 ·rw[if_pos z] at e;cases e
 ·rw[if_neg z] at e ⊢;exact l.p a o e,l.n,l.μ⟩
theorem zvm{W:Wd}{p:Addr}{o:HO}:(W.unp p).le ((W.priv p o).unp p):=⟨fun _ _ e=>e,fun _ _ e=>e,fun a u e=>by
 have e:(if a=p then none else W.P a)=some u:=e;show(if a=p then none else upd W.P p o a)=some u;by_cases z:a=p
 ·rw[if_pos z] at e;cases e
 ·rw[if_neg z] at e ⊢;rw[zai z];exact e,Nat.le_refl _,fun _ _=>rfl⟩
theorem z9s{W:Wd}{p:Addr}(h:W.P p=none):W.le (W.unp p):=⟨fun _ _ e=>e,fun _ _ e=>e,fun a u e=>by
 show(if a=p then none else W.P a)=some u;rw[if_neg (fun z=>by rw[z,h] at e;cases e)];exact e,Nat.le_refl _,fun _ _=>rfl⟩
theorem zbd.hs{W W':Wd}(hs:W'.HS=W.HS)(hμ:W'.μ=W.μ)(hn:W'.n=W.n):∀{ρ:Ev} {σ:St},zbd W ρ σ->zbd W' ρ σ
 |[],_,h=>h
 |none::ρ,σ,⟨s,r,e,h1,h2⟩=>⟨s,r,e,trivial,zbd.hs hs hμ hn h2⟩
 |some t::ρ,σ,⟨none,r,e,h1,h2⟩=>h1.elim
 |some t::ρ,σ,⟨some v,r,e,h1,h2⟩=>⟨some v,r,e,Den.hs hs hμ hn t v h1,zbd.hs hs hμ hn h2⟩
def zrm(E:XK)(fin:List T->M T):Prop:=∀(acc:List V) (ts:List T) (W1 W3:Wd) (S:Sto) (H:Hp) (p:Addr) (Q:VK),W1.le (W3.unp p)->W3.P p=some (.lst acc)->Rep W3 S H->Dens W3 ts acc->Post E W1 (QV Q) (fin ts S)->Q (.ref p) H
theorem zm9{E:XK}:zrm E finF:=fun acc ts W1 W3 S H p Q l hp r d h=>by
 have l2:(W3.unp p).le ((W3.unp p).frz p (.lst acc)):=Wd.frz_le (r.prv p _ hp).2.1;have d1:Dens (W3.unp p) ts acc:=Dens.hs (W:=W3) (W':=W3.unp p) rfl rfl rfl ts acc d;exact h _ _ (l.trans l2) (r.privFrz hp trivial (by intro _ z;cases z)) _ (zdy.mpr ⟨p,acc,rfl,zaj,Dens.mono l2 _ _ d1⟩)
section
variable {X:Cx}{E:XK}{elt iter c tg:Expr}{it:DI}{wi:TI}{gl:TG}{g:DG}{tc:DT}{tcl:TT}{te:DE}{fin:List T->M T}{nt:Nat}{js:List Nat}
theorem Post.bindAt{α β:Type}{E:XK}{W W2:Wd}{Q:β->Wd->Sto->Hp->Prop}{m:M α}{f:α->M β}{S:Sto}(h:Post E W2 Q (M.bind m f S))(l:W2.le W):Post E W (fun a _ S1 _=>Post E W2 Q (f a S1)) (m S):=by
 unfold M.bind at h;cases e:m S with
 |ok a S1=>rw[e] at h;exact fun _ _ _ _=>h
 |exc C fs S1=>rw[e] at h;exact fun W' H' dx l'=>h W' H' dx (l.trans l')
 |bad=>rw[e] at h;exact h
theorem zrn (hG:GT gl g) (htc:∀σ H Q,RT E0 tc σ H Q->tcl σ H Q) {PF:List T->Sto->Prop} {σ:St} {H2:Hp} {Q:VK} {W2:Wd} {S1:Sto} {ρ:Ev} {ts:List T} {st:Sto->Prop} {J:It} (r2:Rep W2 S1 H2) (env:zbd W2 ρ σ) (ok:ItOk W2 ts st J)
  (hend:∀(acc:List V) (us:List T) (W3:Wd) (S3:Sto) (H3:Hp) (p:Addr),W3.P p=some (.lst acc)->Rep W3 S3 H3->Dens W3 us acc->W2.le (W3.unp p)->PF us S3->Q (.ref p) H3)
  (p1:Post E0 W2 (fun res _ S' _=>PF res S') (zgf st g tc te ts (List.replicate nt none++js.map fun j=>(ρ[j]?).join) [] S1)):zte nt js (fun _ _ R=>R J H2) gl tcl (RE E0 te) σ H2 Q:=by
 intro a ha;have pn:W2.P a=none:=r2.prvNone ha;refine⟨fun i m σ2 H acc=>i<=ts.length/\m=ts.length-i/\∃W3 S ρ accT,W2.le (W3.unp a)/\W3.P a=some (.lst acc)/\Rep W3 S H/\zbd W3 ρ σ2/\Dens W3 accT acc /\
  Post E0 W2 (fun res _ S' _=>PF res S') (zgf st g tc te (ts.drop i) ρ accT S),⟨_,Nat.zero_le _,rfl,W2.priv a (.lst []),S1,List.replicate nt none++js.map fun j=>(ρ[j]?).join,[],?_,zaj,r2.privNew ha _,?_,Dens.nil',?_⟩,?_⟩
 ·exact(z9s pn).trans zvm
 ·refine zbd.append (zbd.nones nt (List.length_replicate ..)) ?_
  exact(zbd.cap env js).mono (Wd.priv_le pn)
 ·rw[List.drop_zero];exact p1
 ·rintro i m σ2 H acc ⟨hi,rfl,W3,S3,ρ3,accT,l3,hp,r3,e3,dacc,p3⟩
  have l23:W2.le W3:=l3.trans (z9r W3 a);refine⟨(r3.prv a _ hp).1,?_⟩;by_cases hlt:i<ts.length
  ·rw [List.drop_eq_getElem_cons hlt] at p3
   unfold zgf at p3
   split at p3
   ·rename_i hst
    obtain⟨go,yl⟩:=ok.go i W3 S3 H l23 r3 hst hlt;refine .inr ⟨go,_,fun σ' H' acc' n=>⟨ts.length-(i+1),by omega,hlt,rfl,n⟩,fun x H' y=>?_⟩;obtain⟨W4,t,l4,r4,et,dt⟩:=yl x H' y;rw[List.getElem?_eq_getElem hlt] at et;cases et;cases e:g ts[i] ρ3 with
    |none=>simp only[e] at p3;exact p3.elim
    | some ρ4=>
      simp only[e] at p3;refine hG W4 S3 H' _ x ρ3 ρ4 σ2 _ r4 dt (e3.mono l4) e fun σ4 e4=>?_;refine htc _ _ _ ⟨W4,S3,ρ4,r4,e4,(Post.bindAt p3 (l23.trans l4)).imp fun b W5 S5 H5 l5 r5 p5=>?_⟩;have l35:W3.le W5:=l4.trans l5;cases b with
      |false=>exact iteF ⟨W5,S5,ρ4,accT,l3.trans (zvl l35 a),l35.p a _ hp,r5,e4.mono l5,Dens.mono l35 _ _ dacc,p5⟩
      | true=>
        refine iteT ⟨W5,S5,ρ4,r5,e4.mono l5,(Post.bindAt (show Post E0 W2 _ (M.bind (te ρ4) _ S5) from p5) (l23.trans l35)).imp fun ty W6 S6 H6 l6 r6 p6 y dy=>?_⟩;have l36:W3.le W6:=l35.trans l6;have hp6:=l36.p a _ hp
        split at p6
        ·rename_i hl
         have hla:acc.length<1000:=by rw[<- dacc.length];exact hl
         refine⟨(r6.prv a _ hp6).1,Nat.lt_of_lt_of_le hla (big (Nat.le_refl _)),W6.priv a (.lst (acc++[y])),S6,ρ4,accT++[ty],(l3.trans (zvl l36 a)).trans zvm,zaj,r6.privSet hp6 (by intro _ z;cases z) (by intro _ _ z;cases z) _,?_,?_,p6⟩
         ·exact zbd.hs (W:=W6) (W':=W6.priv a (.lst (acc++[y]))) rfl rfl rfl ((e4.mono l5).mono l6)
         ·exact Dens.hs (W:=W6) (W':=W6.priv a (.lst (acc++[y]))) rfl rfl rfl _ _ ((Dens.mono l36 _ _ dacc).append (Dens.cons' dy Dens.nil'))
        ·exact p6.elim
   ·exact p3.elim
  ·have e:i=ts.length:=by omega
   subst e;rw[List.drop_length] at p3;unfold zgf at p3
   split at p3
   ·rename_i hst
    exact .inl ⟨ok.stop _ W3 S3 H l23 r3 hst rfl,hend acc accT W3 S3 H a hp r3 dacc l3 (p3 (W3.unp a) H l3 (r3.unp a (by rw[hp];intro _ z;cases z)))⟩
   ·exact p3.elim
theorem zpm(hI:RI E it wi)(hG:GT gl g)(htc:∀σ H Q,RT E0 tc σ H Q->tcl σ H Q)(hf:zrm E fin){σ:St}{H:Hp}{Q:VK}(h:RE E (zek nt js it g tc te fin) σ H Q):zte nt js wi gl tcl (RE E0 te) σ H Q:=by
 obtain⟨W,S,ρ,rp,env,p⟩:=h;refine hI σ H _ ⟨W,S,ρ,rp,env,(Post.bind p).imp fun q W1 S1 H1 l1 r1 p1 J W2 H2 l2 r2 ok=>?_⟩;exact zrn (PF:=fun us S3=>Post E W2 (QV Q) (fin us S3)) hG htc r2 (env.mono (l1.trans l2)) ok (fun acc us W3 S3 H3 a hp r3 dacc l3 p4=>hf acc us W2 W3 S3 H3 a Q l3 hp r3 dacc p4) (z2r (E':=E0) (Post.bindAt (zk3 p1 l2) (Wd.le.refl _)))
variable {scope:Scope}{cl:List (Str×Addr)}{nts xs:List Str}{pos:Pos}
theorem zzi(hc:X.calm=true)(C:zfc X scope cl nts xs js)(hi:PI X tg iter wi)(hI:RI E it wi)(hg:∀fp s3 H2,PG (zba X scope cl (nts++xs) fp s3 H2) tg gl)(hG:GT gl g)(he:∀fp s3 H2,PE (zba X scope cl (nts++xs) fp s3 H2) elt (RE E0 te))(hf:zrm E fin)
  (hs:∀x,foldedSetIterable iter X.env x=pure x:=by intro _;rfl):PE X (.ListComp elt [⟨tg,iter,[],0⟩] scope pos) (RE E (zek nts.length js it g yesD te fin)):=
 zb2 (z53 hc C hi hg he hs) fun σ H Q h=>zpm hI hG (fun σ H Q h=>zza h) hf h
theorem zpn(hc:X.calm=true)(C:zfc X scope cl nts xs js)(hi:PI X tg iter wi)(hI:RI E it wi)(hg:∀fp s3 H2,PG (zba X scope cl (nts++xs) fp s3 H2) tg gl)(hG:GT gl g)(ht:∀fp s3 H2,PT (zba X scope cl (nts++xs) fp s3 H2) c (RT E0 tc))(he:∀fp s3 H2,PE (zba X scope cl (nts++xs) fp s3 H2) elt (RE E0 te))(hf:zrm E fin)
  (hs:∀x,foldedSetIterable iter X.env x=pure x:=by intro _;rfl):PE X (.ListComp elt [⟨tg,iter,[c],0⟩] scope pos) (RE E (zek nts.length js it g tc te fin)):=
 zb2 (zva hc C hi hg ht he hs) fun σ H Q h=>zpm hI hG (fun σ H Q h=>h) hf h
theorem z4i{i:Nat}{y:Str}{py spos:Pos}(hc:X.calm=true)(C:zfc X scope cl nts xs js)(hi:PI X tg iter wi)(hI:RI E it wi)(hg:∀fp s3 H2,PG (zba X scope cl (nts++xs) fp s3 H2) tg gl)(hG:GT gl g)(he:∀fp s3 H2,PE (zba X scope cl (nts++xs) fp s3 H2) elt (RE E0 te))(hf:zrm E fin)
  (hN:X.N.Nodup) (hy:X.N[i]?=some y) (hx:Loc X.env.scope y) (hkn:∀u:V,X.kn[i]?≠some (some u)) (hff:X.fn y=true\/X.env.scope.names.lookup y=some .local:=by first | exact .inl rfl | exact .inr rfl | assumption)
  (hsw:swapsWith (.ListComp elt [⟨tg,iter,[],0⟩] scope pos) (some (.Name y py)) spos.line X.env=pure true:=by rfl)
  (hs:∀x,foldedSetIterable iter X.env x=pure x:=by intro _;rfl):PS X (.Assign [.Name y py] (.ListComp elt [⟨tg,iter,[],0⟩] scope pos) spos) (RS E (sSet i (zek nts.length js it g yesD te fin))):=
 zkj (zw3 hc C hi hg he hN hy hx hkn hff hsw hs) fun D σ H h=>zpm hI hG (fun σ H Q h=>zza h) hf (zze h)
theorem z6k{i:Nat}{y:Str}{py spos:Pos}(hc:X.calm=true)(C:zfc X scope cl nts xs js)(hi:PI X tg iter wi)(hI:RI E it wi)(hg:∀fp s3 H2,PG (zba X scope cl (nts++xs) fp s3 H2) tg gl)(hG:GT gl g)(ht:∀fp s3 H2,PT (zba X scope cl (nts++xs) fp s3 H2) c (RT E0 tc))(he:∀fp s3 H2,PE (zba X scope cl (nts++xs) fp s3 H2) elt (RE E0 te))(hf:zrm E fin)
  (hN:X.N.Nodup) (hy:X.N[i]?=some y) (hx:Loc X.env.scope y) (hkn:∀u:V,X.kn[i]?≠some (some u)) (hff:X.fn y=true\/X.env.scope.names.lookup y=some .local:=by first | exact .inl rfl | exact .inr rfl | assumption)
  (hsw:swapsWith (.ListComp elt [⟨tg,iter,[c],0⟩] scope pos) (some (.Name y py)) spos.line X.env=pure true:=by rfl)
  (hs:∀x,foldedSetIterable iter X.env x=pure x:=by intro _;rfl):PS X (.Assign [.Name y py] (.ListComp elt [⟨tg,iter,[c],0⟩] scope pos) spos) (RS E (sSet i (zek nts.length js it g tc te fin))):=
 zkj (zth hc C hi hg ht he hN hy hx hkn hff hsw hs) fun D σ H h=>zpm hI hG (fun σ H Q h=>h) hf (zze h)
end
end MF
namespace MF
open PySem PySem.Spec PyProof.Rows L2
abbrev Fn:=List T->M T
def spM(n:Nat)(F:Fn):Sp:=fun vs H Q E=>∃W S ts,Rep W S H/\Dens W ts vs/\ts.length=n/\Post E W (QV Q) (F ts S)
noncomputable def runD(n:Nat)(d:DS):Fn:=fun ts=>(d (ts.map some++List.replicate (n-ts.length) none)).bind fun x=>match x with
 |.rt t=>M.pure t
 |.nx _=>M.pure .non
 |_=>M.bad
section
variable {P:Program}{w:World}{K:PySem.W.Frag}{mg:Str->Option Value}{base:Heap}
theorem Zb6{x qual:Str}{st:Stmt}{dV:Value}{f:Addr}{fd:FuncData}{N ps:List Str}{k:Nat}{d:DS}(F:FunV K x qual st dV f fd)(S:zal N ps (zag st))
  (hbody:∀(cdv:Value) (A:Around) (outer:List Env) (s:Shared) (H:Hp) (E:XK),Room k (A.deeper (envOfC qual (zag st) s.heap.objs.size f cdv)) ->
   PSs (cxOf (CXE P w) P w K mg base N qual (zag st) f cdv A outer s H E) (zcc st) (RS E d)):FnOk P w K mg base (CXE P w) (k+1) f fd ps (spM ps.length (runD N.length d)):=by
 refine F.okE S (fun vs H Q E h=>?_) fun cdv A outer s H vs Q E hr h=>⟨RS E d,hbody cdv A outer s H E hr,?_⟩
 ·obtain⟨W,S,ts,_,d,e,_⟩:=h
  rw[<- d.length];exact e
 ·obtain⟨W,S0,ts,rp,dn,e,p⟩:=h
  refine⟨W,S0,ts.map some++List.replicate (N.length-ts.length) none,rp,?_,(Post.bind p).imp fun x W1 S1 H1 l1 r1 p1=>?_⟩
  ·unfold L2.start
   rw[<- dn.length];exact zbd.append (zbd.ofDens dn) (zbd.nones _ (List.length_replicate ..))
  ·cases x with
   |rt t=>exact p1 W1 H1 (Wd.le.refl _) r1
   |nx ρ=>exact fun σ' _=>p1 W1 H1 (Wd.le.refl _) r1 .non (zco.mpr rfl)
   |bk ρ=>exact p1.elim
   |ct ρ=>exact p1.elim
end
mutual
def HB(n:Nat):T->Prop
 |.lst ts=>HBs n ts
 |.tup ts=>HBs n ts
 |.dic kvs=>HBk n kvs
 |.obj k=>k<n
 |.non=>True
 |.bl _=>True
 |.int _=>True
 |.str _=>True
def HBs(n:Nat):List T->Prop
 |[]=>True
 |t::ts=>HB n t/\HBs n ts
def HBk(n:Nat):List (Key×T)->Prop
 |[]=>True
 |(_,t)::ts=>HB n t/\HBk n ts
end
def HBf(n:Nat):List (Str×T)->Prop
 |[]=>True
 |(_,t)::ts=>HB n t/\HBf n ts
mutual
theorem z6l{W:Wd}:∀(t:T) (v:V),Den W t v->HB W.n t
 |.non,_,_=>by simp only[HB]
 |.bl _,_,_=>by simp only[HB]
 |.int _,_,_=>by simp only[HB]
 |.str _,_,_=>by simp only[HB]
 |.lst ts,v,h=>by obtain⟨a,vs,_,_,h2⟩:=zdy.mp h;simp only[HB];exact hbs_of ts vs h2
 |.tup ts,v,h=>by obtain⟨a,vs,_,_,h2⟩:=zdz.mp h;simp only[HB];exact hbs_of ts vs h2
 |.dic ts,v,h=>by obtain⟨a,vs,_,_,h2⟩:=zhf.mp h;simp only[HB];exact hbk_of ts vs h2
 |.obj k,v,h=>by simp only[HB];exact(zb5.mp h).2
theorem hbs_of{W:Wd}:∀(ts:List T) (vs:List V),Dens W ts vs->HBs W.n ts
 |[],_,_=>by simp only[HBs]
 |t::ts,vs,h=>by obtain⟨v,r,_,h1,h2⟩:=za3.mp h;simp only[HBs];exact⟨z6l t v h1,hbs_of ts r h2⟩
theorem hbk_of{W:Wd}:∀(ts:List (Key×T)) (vs:List (Key×V)),DenK W ts vs->HBk W.n ts
 |[],_,_=>by simp only[HBk]
 |(k,t)::ts,vs,h=>by obtain⟨v,r,_,h1,h2⟩:=zce.mp h;simp only[HBk];exact⟨z6l t v h1,hbk_of ts r h2⟩
end
theorem zzj{W:Wd}:∀{ts:List (Str×T)} {vs:List (Str×V)},DenF W ts vs->HBf W.n ts
 |[],_,_=>trivial
 |(k,t)::ts,vs,⟨v,r,_,h1,h2⟩=>⟨z6l t v h1,zzj h2⟩
structure Cut(W W':Wd)(n:Nat):Prop where
 hs:∀a o,W.HS a=some o->W'.HS a=some o
 μ:∀k,k<n->W'.μ k=W.μ k
 n:W'.n=n
 p:∀a o,W.P a=some o->W'.P a=some o
mutual
theorem Den.cut{W W':Wd}{n:Nat}(c:Cut W W' n):∀(t:T) (v:V),HB n t->Den W t v->Den W' t v
 |.non,_,_,h=>zco.mpr (zco.mp h)
 |.bl _,_,_,h=>zbl.mpr (zbl.mp h)
 |.int _,_,_,h=>zay.mpr (zay.mp h)
 |.str _,_,_,h=>zbm.mpr (zbm.mp h)
 |.lst ts,v,b,h=>by obtain⟨a,vs,e,h1,h2⟩:=zdy.mp h;simp only[HB] at b;exact zdy.mpr ⟨a,vs,e,c.hs _ _ h1,Dens.cut c ts vs b h2⟩
 |.tup ts,v,b,h=>by obtain⟨a,vs,e,h1,h2⟩:=zdz.mp h;simp only[HB] at b;exact zdz.mpr ⟨a,vs,e,c.hs _ _ h1,Dens.cut c ts vs b h2⟩
 |.dic ts,v,b,h=>by obtain⟨a,vs,e,h1,h2⟩:=zhf.mp h;simp only[HB] at b;exact zhf.mpr ⟨a,vs,e,c.hs _ _ h1,DenK.cut c ts vs b h2⟩
 |.obj k,v,b,h=>by obtain⟨e,h1⟩:=zb5.mp h;simp only[HB] at b;exact zb5.mpr ⟨by rw[c.μ k b];exact e,by rw[c.n];exact b⟩
theorem Dens.cut{W W':Wd}{n:Nat}(c:Cut W W' n):∀(ts:List T) (vs:List V),HBs n ts->Dens W ts vs->Dens W' ts vs
 |[],vs,_,h=>zbo.mpr (zbo.mp h)
 |t::ts,vs,b,h=>by obtain⟨v,r,e,h1,h2⟩:=za3.mp h;simp only[HBs] at b;exact za3.mpr ⟨v,r,e,Den.cut c t v b.1 h1,Dens.cut c ts r b.2 h2⟩
theorem DenK.cut{W W':Wd}{n:Nat}(c:Cut W W' n):∀(ts:List (Key×T)) (vs:List (Key×V)),HBk n ts->DenK W ts vs->DenK W' ts vs
 |[],vs,_,h=>zcm.mpr (zcm.mp h)
 |(k,t)::ts,vs,b,h=>by obtain⟨v,r,e,h1,h2⟩:=zce.mp h;simp only[HBk] at b;exact zce.mpr ⟨v,r,e,Den.cut c t v b.1 h1,DenK.cut c ts r b.2 h2⟩
end
theorem DenF.cut{W W':Wd}{n:Nat}(c:Cut W W' n):∀{ts:List (Str×T)} {vs:List (Str×V)},HBf n ts->DenF W ts vs->DenF W' ts vs
 |[],_,_,h=>h
 |(k,t)::ts,vs,b,⟨v,r,e,h1,h2⟩=>⟨v,r,e,Den.cut c t v b.1 h1,DenF.cut c b.2 h2⟩
def HBc(n:Nat):Cell->Prop
 |.lst ts=>HBs n ts
 |.dic ts=>HBk n ts
 |.ins _ fs=>HBf n fs
 |.lck ts=>HBk n ts
 |.exc _ none=>True
 |.exc _ (some fs)=>HBf n fs
theorem z9t{W:Wd}{H:Hp}{a:Addr}:∀{c:Cell},zb6 W H a c->HBc W.n c
 |.lst _,⟨_,_,h⟩=>hbs_of _ _ h
 |.dic _,⟨_,_,h⟩=>hbk_of _ _ h
 |.ins _ _,⟨_,_,_,h⟩=>zzj h
 |.lck _,⟨_,_,_,h⟩=>hbk_of _ _ h
 |.exc _ none,_=>trivial
 |.exc _ (some _),⟨some _,_,_,_,h⟩=>zzj h
 |.exc _ (some _),⟨none,_,h⟩=>h.elim
theorem zb6.cut{W W':Wd}{H:Hp}{a:Addr}{n:Nat}(c:Cut W W' n):∀{q:Cell},HBc n q->zb6 W H a q->zb6 W' H a q
 |.lst _,b,⟨_,h1,h⟩=>⟨_,h1,Dens.cut c _ _ b h⟩
 |.dic _,b,⟨_,h1,h⟩=>⟨_,h1,DenK.cut c _ _ b h⟩
 |.ins _ _,b,⟨_,_,h1,h⟩=>⟨_,_,h1,DenF.cut c b h⟩
 |.lck _,b,⟨_,_,h1,h⟩=>⟨_,_,h1,DenK.cut c _ _ b h⟩
 |.exc _ none,b,⟨none,h1,_⟩=>⟨none,h1,trivial⟩
 |.exc _ (Option.some _),b,⟨Option.some _,h1,ks,h2,h⟩=>⟨_,h1,ks,c.p _ _ h2,DenF.cut c b h⟩
 |.exc _ none,_,⟨Option.some _,_,h⟩=>h.elim
 |.exc _ (Option.some _),_,⟨none,_,h⟩=>h.elim
noncomputable def mapO{α β:Type}(f:α->Option β):List α->Option (List β)
 |[]=>some []
 | a::r=>match f a,mapO f r with
   |some b,some bs=>some (b::bs)
   |_,_=>none
open Classical in
noncomputable def fz(S:Sto)(n:Nat):Nat->T->Option T
 |0,t=>if HB n t then some t else none
 | f + 1,t=>if HB n t then some t else match t with
   | .obj k=>(match S[k]? with
     |some (.lst ts)=>(mapO (fz S n f) ts).map .lst
     |some (.dic kvs)=>(mapO (fun p=>(fz S n f p.2).map fun t=>(p.1,t)) kvs).map .dic
     |_=>none)
   |.lst ts=>(mapO (fz S n f) ts).map .lst
   |.tup ts=>(mapO (fz S n f) ts).map .tup
   |_=>none
open Classical in
noncomputable def frzF(F:Fn):Fn:=fun ts S=>match F ts S with
 | .ok t S'=>if S'.take S.length=S then(match fz S' S.length 6 t with
   |some t'=>.ok t' S
   |none=>.bad) else .bad
 |.exc C none S'=>if S'.take S.length=S then .exc C none S else .bad
 | .exc C (some fs) S'=>if S'.take S.length=S then(match mapO (fun p=>(fz S' S.length 6 p.2).map fun t=>(p.1,t)) fs with
   |some fs'=>.exc C (some fs') S
   |none=>.bad) else .bad
 |.bad=>.bad
section
variable {W:Wd}{S:Sto}{H:Hp}
def unF:HO->HO
 |.frz _ u=>u
 |o=>o
open Classical in
def Wd.cut(W:Wd)(H:Hp)(n:Nat):Wd:=⟨fun a=>if W.HS a≠none then W.HS a else if(∃k,n<=k/\k<W.n/\W.μ k=a) then(H a).map unF else none,W.μ,n,W.Z,W.P⟩
open Classical in
theorem zvn{n:Nat}{a:Addr}{o:HO}(h:W.HS a=some o):(W.cut H n).HS a=some o:=by
 show(if W.HS a≠none then W.HS a else _)=some o;rw[if_pos (by rw[h];intro z;cases z)];exact h
open Classical in
theorem zzk{n k:Nat}(r:Rep W S H)(hk:n<=k)(hn:k<W.n):(W.cut H n).HS (W.μ k)=(H (W.μ k)).map unF:=by
 obtain⟨c,hc⟩:=r.cellAt hn;show(if W.HS (W.μ k)≠none then _ else if(∃j,n<=j/\j<W.n/\W.μ j=W.μ k) then(H (W.μ k)).map unF else none)=_;rw[if_neg (by rw[(r.cell k c hc).2];exact fun z=>z rfl),if_pos ⟨k,hk,hn,rfl⟩]
theorem zzl{n:Nat}:Cut W (W.cut H n) n:=⟨fun _ _ h=>zvn h,fun _ _=>rfl,rfl,fun _ _ h=>h⟩
theorem zzm{W0:Wd}{n:Nat}(l:W0.le W)(hn:W0.n=n):W0.le (W.cut H n):=⟨fun a o h=>zvn (l.hs a o h),l.z,l.p,Nat.le_of_eq hn,l.μ⟩
open Classical in
theorem Rep.cut(r:Rep W S H){n:Nat}(hn:n<=W.n)(hb:∀k c,k<n->S[k]?=some c->HBc n c):Rep (W.cut H n) (S.take n) H where
 sub:=fun a o e=>by
  have e:(if W.HS a≠none then W.HS a else if(∃k,n<=k/\k<W.n/\W.μ k=a) then(H a).map unF else none)=some o:=e
  split at e
  ·exact r.sub a o e
  ·split at e
   ·rename_i hk
    obtain⟨k,h1,h2,rfl⟩:=hk;obtain⟨c,hc⟩:=r.cellAt h2;have z:=(r.cell k c hc).1;cases c with
    |lst ts=>obtain⟨_,h1,_⟩:=z;rw[h1] at e;cases e;exact⟨.inl h1,trivial⟩
    |dic ts=>obtain⟨_,h1,_⟩:=z;rw[h1] at e;cases e;exact⟨.inl h1,trivial⟩
    |ins _ ts=>obtain⟨_,_,h1,_⟩:=z;rw[h1] at e;cases e;exact⟨.inl h1,trivial⟩
    |exc _ ts=>obtain⟨_,h1,_⟩:=z;rw[h1] at e;cases e;exact⟨.inl h1,trivial⟩
    |lck ts=>obtain⟨q,_,h1,_⟩:=z;rw[h1] at e;cases e;exact⟨.inr ⟨⟨q,h1⟩,by intro _ y;cases y⟩,trivial⟩
   ·cases e
 len:=by rw[List.length_take,r.len];exact Nat.min_eq_left hn
 cell:=fun k c e=>by
  have hk:k<n:=by
   have:=(List.getElem?_eq_some_iff.mp e).1;rw[List.length_take] at this;omega
  rw[List.getElem?_take_of_lt hk] at e;refine⟨(r.cell k c e).1.cut zzl (hb k c hk e),?_⟩;show(if W.HS (W.μ k)≠none then _ else if(∃j,n<=j/\j<W.n/\W.μ j=W.μ k) then _ else none)=none;rw[if_neg (by rw[(r.cell k c e).2];exact fun z=>z rfl),if_neg];rintro⟨j,h1,h2,h3⟩;have:=r.inj j k h2 (r.lt e) h3;omega
 inj:=fun j k hj hk e=>r.inj j k (Nat.lt_of_lt_of_le hj hn) (Nat.lt_of_lt_of_le hk hn) e
 zed:=r.zed
 prv:=fun a o e=>by
  obtain⟨h1,h2,h3⟩:=r.prv a o e;refine⟨h1,?_,fun k hk=>h3 k (Nat.lt_of_lt_of_le hk hn)⟩;show(if W.HS a≠none then _ else if(∃k,n<=k/\k<W.n/\W.μ k=a) then _ else none)=none;rw[if_neg (by rw[h2];exact fun z=>z rfl),if_neg];rintro⟨j,_,h5,h6⟩;exact h3 j h5 h6
theorem zpo{n:Nat}{g:T->Option T}(hg:∀t t' v,g t=some t'->Den W t v->Den (W.cut H n) t' v):∀{ts ts':List T} {vs:List V},mapO g ts=some ts'->Dens W ts vs->Dens (W.cut H n) ts' vs
 |[],ts',vs,e,h=>by cases e;exact zbo.mpr (zbo.mp h)
 | t :: ts,ts',vs,e,h=>by
   obtain⟨v,r,rfl,h1,h2⟩:=za3.mp h;unfold mapO at e;cases e1:g t with
   |none=>simp[e1] at e
   | some t'=>
     cases e2:mapO g ts with
     |none=>simp[e1,e2] at e
     | some ts2=>
       simp[e1,e2] at e;subst e;exact Dens.cons' (hg t t' v e1 h1) (zpo hg e2 h2)
theorem zzn{n:Nat}{g:T->Option T}(hg:∀t t' v,g t=some t'->Den W t v->Den (W.cut H n) t' v):∀{ts ts':List (Key×T)} {vs:List (Key×V)},mapO (fun p=>(g p.2).map fun t=>(p.1,t)) ts=some ts'->DenK W ts vs->DenK (W.cut H n) ts' vs
 |[],ts',vs,e,h=>by cases e;exact zcm.mpr (zcm.mp h)
 | (k, t)::ts,ts',vs,e,h=>by
   obtain⟨v,r,rfl,h1,h2⟩:=zce.mp h;unfold mapO at e;cases e1:g t with
   |none=>simp[e1] at e
   | some t'=>
     cases e2:mapO (fun p=>(g p.2).map fun t=>(p.1,t)) ts with
     |none=>simp[e1,e2] at e
     | some ts2=>
       simp[e1,e2] at e;subst e;exact DenK.cons' (hg t t' v e1 h1) (zzn hg e2 h2)
theorem zzo{n:Nat}{g:T->Option T}(hg:∀t t' v,g t=some t'->Den W t v->Den (W.cut H n) t' v):∀{ts ts':List (Str×T)} {vs:List (Str×V)},mapO (fun p=>(g p.2).map fun t=>(p.1,t)) ts=some ts'->DenF W ts vs->DenF (W.cut H n) ts' vs
 |[],ts',vs,e,h=>by cases e;exact h
 | (k, t)::ts,ts',vs,e,⟨v,r,e0,h1,h2⟩=>by
   unfold mapO at e;cases e1:g t with
   |none=>simp[e1] at e
   | some t'=>
     cases e2:mapO (fun p=>(g p.2).map fun t=>(p.1,t)) ts with
     |none=>simp[e1,e2] at e
     | some ts2=>
       simp[e1,e2] at e;subst e;exact⟨v,r,e0,hg t t' v e1 h1,zzo hg e2 h2⟩
open Classical in
theorem z9u{n:Nat}{d:Addr}{ks:List (Str×V)}(r:Rep W S H)(hd:H d=some (.xd ks))(h0:W.HS d=none):(W.cut H n).HS d=none:=by
 show(if W.HS d≠none then W.HS d else if(∃k,n<=k/\k<W.n/\W.μ k=d) then(H d).map unF else none)=none;rw[if_neg (by rw[h0];exact fun z=>z rfl),if_neg];rintro⟨k,_,hk,rfl⟩;obtain⟨c,hc⟩:=r.cellAt hk;have z:=(r.cell k c hc).1;cases c with
 |lst ts=>obtain⟨_,h1,_⟩:=z;rw[hd] at h1;cases h1
 |dic ts=>obtain⟨_,h1,_⟩:=z;rw[hd] at h1;cases h1
 |ins _ ts=>obtain⟨_,_,h1,_⟩:=z;rw[hd] at h1;cases h1
 |exc _ ts=>obtain⟨_,h1,_⟩:=z;rw[hd] at h1;cases h1
 |lck ts=>obtain⟨_,_,h1,_⟩:=z;rw[hd] at h1;cases h1
theorem zop(r:Rep W S H){n:Nat}:∀(f:Nat) (t t':T) (v:V),fz S n f t=some t'->Den W t v->Den (W.cut H n) t' v
 | 0,t,t',v,e,d=>by
   unfold fz at e
   split at e
   ·rename_i h;cases e;exact Den.cut zzl _ _ h d
   ·cases e
 | f + 1,t,t',v,e,d=>by
   unfold fz at e
   split at e
   ·rename_i h;cases e;exact Den.cut zzl _ _ h d
   ·rename_i hnb
    split at e
    ·rename_i k
     obtain⟨rfl,hk⟩:=zb5.mp d;have hnk:n<=k:=by
      simp only[HB] at hnb;omega
     split at e
     ·rename_i ts ec
      obtain⟨ts',e1,rfl⟩:=Option.map_eq_some_iff.mp e;obtain⟨⟨vs,h1,h2⟩,_⟩:=r.cell k _ ec;exact zdy.mpr ⟨_,vs,rfl,(zzk r hnk hk).trans (by rw[h1];rfl),zpo (zop r f) e1 h2⟩
     ·rename_i kvs ec
      obtain⟨ts',e1,rfl⟩:=Option.map_eq_some_iff.mp e;obtain⟨⟨vs,h1,h2⟩,_⟩:=r.cell k _ ec;exact zhf.mpr ⟨_,vs,rfl,(zzk r hnk hk).trans (by rw[h1];rfl),zzn (zop r f) e1 h2⟩
     ·cases e
    ·rename_i ts
     obtain⟨ts',e1,rfl⟩:=Option.map_eq_some_iff.mp e;obtain⟨a,vs,rfl,h1,h2⟩:=zdy.mp d;exact zdy.mpr ⟨a,vs,rfl,zvn h1,zpo (zop r f) e1 h2⟩
    ·rename_i ts
     obtain⟨ts',e1,rfl⟩:=Option.map_eq_some_iff.mp e;obtain⟨a,vs,rfl,h1,h2⟩:=zdz.mp d;exact zdz.mpr ⟨a,vs,rfl,zvn h1,zpo (zop r f) e1 h2⟩
    ·cases e
end
theorem z6m{n:Nat}{F:Fn}{vs:List V}{H:Hp}{Q:VK}{E:XK}(h:spM n (frzF F) vs H Q E):spM n F vs H Q E:=by
 obtain⟨W,S,ts,rp,d,hl,p⟩:=h;refine⟨W,S,ts,rp,d,hl,?_⟩;have old:∀{S':Sto} {W':Wd} {H':Hp},S'.take S.length=S->W.le W'->Rep W' S' H'->Rep (W'.cut H' W.n) S H':=fun {S' W' H'} e l r=>by
  have:=r.cut (n:=W.n) l.n (fun k c hk ec=>by
   have e2:S[k]?=some c:=by rw[<- e,List.getElem?_take_of_lt (by rw[rp.len];exact hk)];exact ec
   exact z9t (rp.cell k c e2).1)
  rw[<- rp.len] at this;rw[e] at this;rw[<- rp.len];exact this
 unfold frzF at p;cases e:F ts S with
 |bad=>rw[e] at p;exact p.elim
 | ok t S'=>
   rw[e] at p;simp only at p
   split at p
   ·rename_i es
    cases ez:fz S' S.length 6 t with
    |none=>rw[ez] at p;exact p.elim
    | some t'=>
      rw[ez] at p;intro W' H' l r v dv;refine p (W'.cut H' W.n) H' (zzm l rfl) (old es l r) v ?_;rw[rp.len] at ez;exact zop r 6 t t' v ez dv
   ·exact p.elim
 | exc C fs S'=>
   rw[e] at p;cases fs with
   | some fs=>
     simp only at p
     split at p
     ·rename_i es
      split at p
      ·rename_i fs' ef
       intro W' H' dx l r x;refine p (W'.cut H' W.n) H' dx (zzm l rfl) (old es l r) ?_;cases dx with
       |none=>exact x.elim
       | some d=>
         obtain⟨ks,x1,x2,x3⟩:=x;exact⟨ks,x1,z9u r x1 x2,zzo (zop r 6) (by rw[<- rp.len];exact ef) x3⟩
      ·exact p.elim
     ·exact p.elim
   | none=>
     simp only at p
     split at p
     ·rename_i es
      intro W' H' dx l r x;refine p (W'.cut H' W.n) H' dx (zzm l rfl) (old es l r) ?_;cases dx with
      |none=>exact trivial
      |some _=>exact x.elim
     ·exact p.elim
theorem FnOk.frz{P:Program}{w:World}{K:PySem.W.Frag}{mg:Str->Option Value}{base:Heap}{CX:CXT}{k:Nat}{f:Addr}{fd:FuncData}{ps:List Str}{n:Nat}{F:Fn}(h:FnOk P w K mg base CX k f fd ps (spM n F)):FnOk P w K mg base CX k f fd ps (spM n (frzF F)):=
 h.imp fun vs H Q E q=>z6m q
end MF
namespace MF
open PySem PySem.Spec L2
structure FnAt(P:Program)(w:World)(K:PySem.W.Frag)(mg:Str->Option Value)(base:Heap)(k:Nat)(x:Str)(ps:List Str)(F:Fn)(f:Addr)(fd:FuncData):Prop where
 ok:FnOk P w K mg base (CXE P w) k f fd ps (spM ps.length F)
 m:mg x=some (.ref f)
 kp:PySem.W.keepIn K (.ref f)=true
 b:ze5 K fd ps []
structure MeAt(P:Program)(w:World)(K:PySem.W.Frag)(mg:Str->Option Value)(base:Heap)(k:Nat)(C:Addr)(m:Str)(ps:List Str)(F:Fn)(f:Addr)(fd:FuncData):Prop where
 ok:FnOk P w K mg base (CXE P w) k f fd ps (spM ps.length F)
 cl:Cls K C
 me:Meth K C m f
 b:ze5 K fd ps []
structure MkAt(P:Program)(w:World)(K:PySem.W.Frag)(mg:Str->Option Value)(base:Heap)(k:Nat)(x:Str)(C:Addr)(ps:List Str)(F:Fn)(f:Addr)(fd:FuncData):Prop where
 ok:FnOk P w K mg base (CXE P w) k f fd ps (spM ps.length F)
 m:mg x=some (.ref C)
 mk1:Mk K C f
 b:ze5 K fd ps []
def zbe(F:Fn)(ds:List T)(fr:DA):DE:=fun ρ=>(fr ρ).bind fun ts=>F (ts++ds)
noncomputable def zdn(C:Addr)(m:Str)(F:Fn)(ds:List T)(fo:DE)(fr:DA):DE:=fun ρ=>(fo ρ).bind fun o=>fun S=>match zhg S C o with
 |some (_,fs)=>if(fs.lookup m).isNone=true then((fr ρ).bind fun ts=>F (o::(ts++ds))) S else .bad
 |none=>.bad
noncomputable def zro(C:Addr)(F:Fn)(ds:List T)(fr:DA):DE:=fun ρ=>(fr ρ).bind fun ts=>fun S=>M.bind (F (.obj S.length::(ts++ds))) (fun t=>match t with
 |.non=>M.pure (.obj S.length)
 |_=>M.bad) (S++[.ins C []])
theorem zrp{P:Program}{w:World}{X:Cx}:zdq (CXE P w) X E0:=fun pins σ H s e s' I h=>by
 obtain⟨_,_,_,_,_,_,_,_,_,_,_,_,_,_,_,_,_,_,_,z⟩:=h;exact z.elim
section
variable {X:Cx}{E:XK}{k:Nat}{f C:Addr}{fd:FuncData}{ps:List Str}{F:Fn}{x m:Str}{p pos apos:Pos}{e o:Expr}{es:List Expr}{fo:DE}{fr:DA}{ds:List T}{dvs:List V}{dus:List Value}
def lenF(n:Nat)(F:Fn):Fn:=fun ts S=>if ts.length=n then F ts S else .bad
theorem z2s(hd:∀W,Dens W ds dvs){σ:St}{H:Hp}{Q:VK}(h:RE E (zbe (lenF ps.length F) ds fr) σ H Q):z8o (spM ps.length F) dvs E (RA E fr) σ H Q:=by
 obtain⟨W,S,ρ,rp,env,q⟩:=h;refine⟨W,S,ρ,rp,env,(Post.bind q).imp fun ts W1 S1 H1 l1 r1 p1 vs dv=>?_⟩;unfold lenF at p1
 split at p1
 ·rename_i z;exact⟨W1,S1,ts++ds,r1,dv.append (hd W1),z,p1⟩
 ·exact p1.elim
theorem zaw{n:Nat}(G:FnAt X.prog X.w X.K X.mg X.base k x ps F f fd)(hr:Room k X.A)(hg:Gl X x)(hx:zdq (CXE X.prog X.w) X E)(ha:PA X (e::es) (RA E fr))
  (hdb:(x==("__debug__" : Str))=false:=by decide) (he:starEach (e::es) X.env=(false,eval e X.env)::starEach es X.env:=by rfl) (hpl:(backTo pos (starEach es X.env)).any (·.1)=false:=by rfl) (hn:ps.length=n:=by rfl):PE X (.Call (.Name x p) (e::es) [] pos) (RE E (zbe (lenF n F) [] fr)):=by
 subst hn;exact zb2 (z5p G.ok hr hg G.m G.kp G.b .nil hx ha hdb he hpl) fun σ H Q h=>z2s (fun W=>Dens.nil') h
theorem ztr(hd:∀W,Dens W ds dvs){σ:St}{H:Hp}{Q:VK}(h:RE E (zdn C m (lenF ps.length F) ds fo fr) σ H Q):z5n C m (spM ps.length F) dvs E (RE E fo) (RA E fr) σ H Q:=by
 obtain⟨W,S,ρ,rp,env,q⟩:=h;refine⟨W,S,ρ,rp,env,(Post.bind q).imp fun t W1 S1 H1 l1 r1 p1 v dv=>?_⟩;cases e:zhg S1 C t with
 |none=>simp only[e] at p1;exact p1.elim
 | some q=>
   obtain⟨j,fs⟩:=q;simp only[e] at p1
   split at p1
   ·rename_i hm
    obtain⟨dx,ks,rfl,h0,h1,h2⟩:=r1.inst dv e;refine⟨_,dx,ks,rfl,h1,h2.look.2 (Option.isNone_iff_eq_none.mp hm),W1,S1,ρ,r1,env.mono l1,(Post.bind p1).imp fun ts W2 S2 H2 l2 r2 p2 vs dvs=>?_⟩;unfold lenF at p2
    split at p2
    ·rename_i z;exact⟨W2,S2,t::(ts++ds),r2,Dens.cons' (Den.mono l2 _ _ dv) (dvs.append (hd W2)),z,p2⟩
    ·exact p2.elim
   ·exact p1.elim
theorem ze6{n:Nat}{pl:Sem Bool}(G:MeAt X.prog X.w X.K X.mg X.base k C m ps F f fd)(hr:Room k X.A)(hx:zdq (CXE X.prog X.w) X E)(ho:PE X o (RE E fo))(ha:PA X (e::es) (RA E fr))
  (hst:starEach (e::es) X.env=(false,eval e X.env)::starEach es X.env:=by rfl) (hpl:(backTo pos (starEach es X.env)).any (·.1)=false:=by rfl)
  (ht:eval (.Call (.Attribute o m apos) (e::es) [] pos) X.env=(do
   let ov <- eval o X.env
   standAt apos.atName
   let (f,first) <- holding [ov] (getMethod ov m pl)
   callWith pos f first (backTo pos (starEach (e::es) X.env)) (backToKw pos (keywordEach [] X.env))):=by rfl) (hn:ps.length=n:=by rfl):PE X (.Call (.Attribute o m apos) (e::es) [] pos) (RE E (zdn C m (lenF n F) [] fo fr)):=by
 subst hn;exact zb2 (zye ho G.cl G.me G.ok hr G.b .nil hx ha hst hpl ht) fun σ H Q h=>ztr (fun W=>Dens.nil') h
theorem z6n{n:Nat}{pl:Sem Bool}(G:MeAt X.prog X.w X.K X.mg X.base k C m ps F f fd)(hr:Room k X.A)(hx:zdq (CXE X.prog X.w) X E)(hb:ze5 X.K fd ps dus)(hv:Vals dvs dus)(hd:∀W,Dens W ds dvs)(ho:PE X o (RE E fo))(ha:PA X (e::es) (RA E fr))
  (hst:starEach (e::es) X.env=(false,eval e X.env)::starEach es X.env:=by rfl) (hpl:(backTo pos (starEach es X.env)).any (·.1)=false:=by rfl)
  (ht:eval (.Call (.Attribute o m apos) (e::es) [] pos) X.env=(do
   let ov <- eval o X.env
   standAt apos.atName
   let (f,first) <- holding [ov] (getMethod ov m pl)
   callWith pos f first (backTo pos (starEach (e::es) X.env)) (backToKw pos (keywordEach [] X.env))):=by rfl) (hn:ps.length=n:=by rfl):PE X (.Call (.Attribute o m apos) (e::es) [] pos) (RE E (zdn C m (lenF n F) ds fo fr)):=by
 subst hn;exact zb2 (zye ho G.cl G.me G.ok hr hb hv hx ha hst hpl ht) fun σ H Q h=>ztr hd h
theorem zhh{n:Nat}{pl:Sem Bool}(G:MeAt X.prog X.w X.K X.mg X.base k C m ps F f fd)(hr:Room k X.A)(hx:zdq (CXE X.prog X.w) X E)(ho:PE X o (RE E fo))
  (ht:eval (.Call (.Attribute o m apos) [] [] pos) X.env=(do
   let ov <- eval o X.env
   standAt apos.atName
   let (f,first) <- holding [ov] (getMethod ov m pl)
   callWith pos f first (backTo pos (starEach [] X.env)) (backToKw pos (keywordEach [] X.env))):=by rfl) (hn:ps.length=n:=by rfl):PE X (.Call (.Attribute o m apos) [] [] pos) (RE E (zdn C m (lenF n F) [] fo aNil)):=by
 subst hn;exact zb2 (z10 ho G.cl G.me G.ok hr G.b .nil hx ht) fun σ H Q h=>by
  have h:=ztr (fun W=>Dens.nil') h;obtain⟨W,S,ρ,rp,env,p⟩:=h;refine⟨W,S,ρ,rp,env,p.imp fun t W1 S1 H1 l1 r1 p1 v dv=>?_⟩;obtain⟨a,dx,fs,e1,e2,e3,W2,S2,ρ2,r2,env2,p2⟩:=p1 v dv;exact⟨a,dx,fs,e1,e2,e3,p2 W2 _ (Wd.le.refl _) r2 [] Dens.nil'⟩
theorem zzp(hd:∀W,Dens W ds dvs){σ:St}{H:Hp}{Q:VK}(h:RE E (zro C (lenF ps.length F) ds fr) σ H Q):z5o C (spM ps.length F) dvs E (RA E fr) σ H Q:=by
 obtain⟨W,S,ρ,rp,env,q⟩:=h;refine⟨W,S,ρ,rp,env,(Post.bind q).imp fun ts W1 S1 H1 l1 r1 p1 vs dv a dx ha hdx hne=>?_⟩;have keep:∀b u,H1 b=some u->upd (upd H1 dx (.own a)) a (.ins C dx []) b=some u:=fun b u z=>by
  rw[zai (zbv z ha),zai (zbv z hdx)];exact z
 have r2:Rep (W1.add a) (S1++[.ins C []]) (upd (upd H1 dx (.own a)) a (.ins C dx [])):=r1.cellNew' ha keep (.ins C []) ⟨dx,[],zaj,rfl⟩;have l2:W1.le (W1.add a):=Wd.add_le;have da:Den (W1.add a) (.obj S1.length) (.ref a):=zb5.mpr ⟨by rw[r1.len,Wd.add_at],by rw[r1.len];exact Nat.lt_succ_self _⟩;have p2:=Post.bind (zk3 p1 l2);by_cases z:(T.obj S1.length::(ts++ds)).length=ps.length
 ·have e:lenF ps.length F (.obj S1.length::(ts++ds)) (S1++[.ins C []])=F (.obj S1.length::(ts++ds)) (S1++[.ins C []]):=if_pos z
  rw[e] at p2;refine⟨W1.add a,S1++[.ins C []],.obj S1.length::(ts++ds),r2,Dens.cons' da ((Dens.mono l2 _ _ dv).append (hd _)),z,p2.imp fun t W3 S3 H3 l3 r3 p4 v dv3=>?_⟩;cases t with
  |non=>exact⟨zco.mp dv3,now p4 r3 (Den.mono l3 _ _ da)⟩
  |_=>exact p4.elim
 ·have e:lenF ps.length F (.obj S1.length::(ts++ds)) (S1++[.ins C []])=.bad:=if_neg z
  rw[e] at p2;exact p2.elim
theorem zzq{n:Nat}(G:MkAt X.prog X.w X.K X.mg X.base k x C ps F f fd)(hr:Room (k+1) X.A)(hg:Gl X x)(hx:zdq (CXE X.prog X.w) X E)(ha:PA X (e::es) (RA E fr))
  (hdb:(x==("__debug__" : Str))=false:=by decide) (he:starEach (e::es) X.env=(false,eval e X.env)::starEach es X.env:=by rfl) (hpl:(backTo pos (starEach es X.env)).any (·.1)=false:=by rfl) (hn:ps.length=n:=by rfl):PE X (.Call (.Name x p) (e::es) [] pos) (RE E (zro C (lenF n F) [] fr)):=by
 subst hn;exact zb2 (z5q G.mk1 G.ok hr hg G.m G.b .nil hx ha hdb he hpl) fun σ H Q h=>zzp (fun W=>Dens.nil') h
theorem z6o{n:Nat}(G:MkAt X.prog X.w X.K X.mg X.base k x C ps F f fd)(hr:Room (k+1) X.A)(hg:Gl X x)(hx:zdq (CXE X.prog X.w) X E)
  (hdb:(x==("__debug__" : Str))=false:=by decide) (hn:ps.length=n:=by rfl):PE X (.Call (.Name x p) [] [] pos) (RE E (zro C (lenF n F) [] aNil)):=by
 subst hn;exact zb2 (z11 G.mk1 G.ok hr hg G.m G.b .nil hx hdb) fun σ H Q h=>by
  have h:=zzp (fun W=>Dens.nil') h;obtain⟨W,S,ρ,rp,env,p⟩:=h;exact p W H (Wd.le.refl _) rp [] Dens.nil'
theorem z9v{i:Int}{t:Tok}(hg:Gl X x)(hm:X.mg x=some (.int i t))(hd:(x==("__debug__" : Str))=false:=by decide):PE X (.Name x p) (RE E (eC (.int i))):=
 zb2 (z5a (v:=.int i) hg hm ⟨t,rfl⟩ hd) fun σ H Q h=>re_c (fun W=>zay.mpr rfl) h
noncomputable def zts(t:T):M T:=fun S=>match t with
 |.str y=>if(reprText y).length<=1000 then .ok (.str (reprText y)) S else .bad
 |_=>.bad
theorem zvo(he:PE X e (RE E fo)):PE X (.FormattedValue e 114 none pos) (RE E (e1 zts fo)):=zb2 (zyx he) fun σ H Q h=>
 re1 (r:=fun v H1 Q=>∃y,v=.str y/\(reprText y).length<=sizeLine/\Q (.str (reprText y)) H1) (fun t W S H v Q r d p=>by
  unfold zts at p
  split at p
  ·split at p
   ·rename_i hl;exact⟨_,zbm.mp d,big hl,now p r (zbm.mpr rfl)⟩
   ·exact p.elim
  ·exact p.elim) h
noncomputable def jT:Str->List DE->DE
 |acc,[]=>fun _ S=>if acc.length<=1000 then .ok (.str acc) S else .bad
 | acc,f::fs=>fun ρ=>(f ρ).bind fun t=>match t with
   |.str y=>(fun S=>if(acc++y).length<=1000 then jT (acc++y) fs ρ S else .bad)
   |_=>M.bad
inductive PJM(X:Cx)(E:XK):List Expr->List DE->Prop where
 |nil:PJM X E [] []
 |cons {e:Expr} {es:List Expr} {f:DE} {fs:List DE}:PE X e (RE E f)->PJM X E es fs->PJM X E (e::es) (f::fs)
theorem PJM.pj{es:List Expr}{fs:List DE}(h:PJM X E es fs):PJ X es (fs.map (RE E)):=by
 induction h with
 |nil=>exact .nil
 |cons h _ ih=>exact .cons h ih
theorem re_j:∀(fs:List DE) (acc:Str) {σ:St} {H:Hp} {Q:VK},RE E (jT acc fs) σ H Q->tJ acc (fs.map (RE E)) σ H Q
 | [],acc,σ,H,Q,h=>by
   obtain⟨W,S,ρ,rp,env,p⟩:=h;unfold jT at p
   split at p
   ·rename_i hl;exact⟨big hl,now p rp (zbm.mpr rfl)⟩
   ·exact p.elim
 | f :: fs,acc,σ,H,Q,h=>by
   obtain⟨W,S,ρ,rp,env,p⟩:=h;refine⟨W,S,ρ,rp,env,(Post.bind p).imp fun t W1 S1 H1 l1 r1 p1 v dv=>?_⟩
   split at p1
   ·split at p1
    ·rename_i y hl
     exact⟨y,zbm.mp dv,big hl,re_j fs (acc++y) ⟨W1,S1,ρ,r1,env.mono l1,p1⟩⟩
    ·exact p1.elim
   ·exact p1.elim
theorem zml{a b:Expr}{r:List Expr}{fs:List DE}(h:PJM X E (a::b::r) fs):PE X (.JoinedStr (a::b::r) pos) (RE E (jT Str.empty fs)):=zb2 (zm1 h.pj) fun σ H Q h=>re_j fs Str.empty h
noncomputable def zhi(C:Addr)(fr:DA):DS:=fun ρ=>(fr ρ).bind fun ts=>fun S=>if ts.length<=1000 then .exc C none S else .bad
theorem zj0{np cpos:Pos}(hx:zpd X E)(hc:X.calm=true)(q:PySem.W.excIn X.K C bmVE "ValueError.__new__" = true)(hg:Gl X x)(hm:X.mg x=some (.ref C))(ha:PA X (e::es) (RA E fr))
  (hdb:(x==("__debug__" : Str))=false:=by decide) (he:starEach (e::es) X.env=(false,eval e X.env)::starEach es X.env:=by rfl) (hpl:(backTo cpos (starEach es X.env)).any (·.1)=false:=by rfl) :
  PS X (.Raise (some (.Call (.Name x np) (e::es) [] cpos)) none pos) (RS E (zhi C fr)):=zkj (z2a hx hc q hg hm ha hdb he hpl) fun D σ H h=>by
 obtain⟨W,S,ρ,rp,env,p⟩:=h;refine⟨W,S,ρ,rp,env,(Post.bind p).imp fun ts W1 S1 H1 l1 r1 p1 vs dv=>?_⟩
 split at p1
 ·rename_i hl;exact⟨big (by rw[<- dv.length];exact hl),p1 W1 H1 none (Wd.le.refl _) r1 trivial⟩
 ·exact p1.elim
def cutT(xs:List T)(lo hi:Option Int):List T:=(xs.drop (HT.sIx xs.length 0 lo)).take (HT.sIx xs.length xs.length hi-HT.sIx xs.length 0 lo)
abbrev DO:=Ev->M (Option Int)
def zpp:DO:=fun _=>M.pure none
noncomputable def zpq(f:DE):DO:=fun ρ=>(f ρ).bind fun t=>match t with
 |.int i=>M.pure (some i)
 |_=>M.bad
noncomputable def eSl(f:DE)(lo hi:DO):DE:=fun ρ=>(f ρ).bind fun t=>(lo ρ).bind fun l=>(hi ρ).bind fun h=>fun S=>match zam S t with
 |some ts=>.ok (.lst (cutT ts l h)) S
 |none=>.bad
def RO(E:XK)(f:DO):TO:=fun σ H Q=>∃W S ρ,Rep W S H/\zbd W ρ σ/\Post E W (fun o _ _ H'=>Q o H') (f ρ S)
theorem z9w{a:Option Expr}{t t':TO}(h:PO X a t)(w:∀σ H Q,t' σ H Q->t σ H Q):PO X a t':=fun pins s σ H Q I q=>h pins s σ H Q I (w σ H Q q)
theorem z4j:PO X none (RO E zpp):=z9w z5x fun σ H Q h=>by
 obtain⟨W,S,ρ,rp,env,p⟩:=h;exact p W H (Wd.le.refl _) rp
theorem z4k(h:PE X e (RE E fo)):PO X (some e) (RO E (zpq fo)):=z9w (z5y h) fun σ H Q h=>by
 obtain⟨W,S,ρ,rp,env,p⟩:=h;refine⟨W,S,ρ,rp,env,(Post.bind p).imp fun t W1 S1 H1 l1 r1 p1 v dv=>?_⟩;cases t with
 |int i=>exact⟨i,zay.mp dv,p1 W1 H1 (Wd.le.refl _) r1⟩
 |_=>exact p1.elim
theorem zzr{lo hi:Option Expr}{p2:Pos}{fl fh:DO}(he:PE X e (RE E fo))(hl:PO X lo (RO E fl))(hh:PO X hi (RO E fh)):PE X (.Subscript e (.Slice lo hi none p2) pos) (RE E (eSl fo fl fh)):=
 zb2 (z13 z51 he hl hh) fun σ H Q h=>by
  obtain⟨W,S,ρ,rp,env,p⟩:=h;refine⟨W,S,ρ,rp,env,(Post.bind p).imp fun t W1 S1 H1 l1 r1 p1 v dv=>?_⟩;refine⟨W1,S1,ρ,r1,env.mono l1,(Post.bind p1).imp fun l W2 S2 H2 l2 r2 p2=>?_⟩;refine⟨W2,S2,ρ,r2,env.mono (l1.trans l2),(Post.bind p2).imp fun u W3 S3 H3 l3 r3 p3=>?_⟩;cases e:zam S3 t with
  |none=>simp only[e] at p3;exact p3.elim
  | some ts=>
    simp only[e] at p3;obtain⟨a,vs,rfl,h1,h2⟩:=r3.list (Den.mono (l2.trans l3) _ _ dv) e;refine⟨a,vs,rfl,.inl h1,zvf p3 r3 ?_⟩;unfold cutT cutV;rw[h2.length];exact(h2.drop _).take _
end
end MF
namespace L2
open PySem PySem.Spec PyProof.Rows
def Itv(K:W.Frag)(a:Addr)(n:Nat):It:=
 ⟨fun i H=>∃xs x,SqL K H a xs/\xs.length=n/\i<n/\xs[n-1-i]?=some x,fun i H x H'=>H'=H/\∀xs,SqL K H a xs->xs[n-1-i]?=some x,fun i H=>i=n⟩
theorem z2t{P:Program}{w:World}{K:W.Frag}{tg:Expr}(a it:Addr)(n:Nat):Turn P w K tg (Itv K a n) [it] it (fun i h=>h.IsRevIter it a ((n:Int)-1-(i:Int))) where
 mem:=by simp
 obj:=fun i h st b hb=>by
  have e:b=it:=by simpa using hb
  subst e;obtain⟨o,e,c,d⟩:=st;exact⟨o,e,fun v z=>by rw[d] at z;cases z⟩
 keep:=fun i h h' st k=>st.at fun o e=>k it (by simp) o e
 item:=by
  intro X hP hw hK hc i pins s σ H E I hf st hg;subst hP hw hK;obtain⟨xs,x,hq,hn,hi,hx⟩:=hg;obtain⟨its,rv,p,hz⟩:=I.list hq;obtain⟨u,hu,ru⟩:=rv.get hx;obtain⟨f0,f1,f2,f3,f4,f5⟩:=hf it (by simp);have e0:(n:Int)-1-(i:Int)=((n-1-i:Nat):Int):=by omega
  have st2:=st;rw[e0] at st2;refine wpAny_pyNext_rev_item st2 p.isList (x:=u) (by simpa using hu) fun h' st' sb=>?_;have e1:((n-1-i:Nat):Int)-1=(n:Int)-1-((i+1:Nat):Int):=by omega
  rw[e1] at st';have I1:Inv X pins σ H { s with heap:=h' }:=I.turned (t':=s.toks) (fun b o hb e=>(sb.2 b hb).trans e) f0 f1 f3 f4 f5;obtain⟨o,e,c,d⟩:=id st';exact⟨u,rfl,z5g (s:={ s with heap:=h' }) e c d (by decide) ⟨x,H,I1,ru,⟨rfl,fun ys hy=>by rw[I.list_inj hy hq];exact hx⟩,st',fun b hb=>(hf b hb).1⟩⟩
 done:=by
  intro X hP hw hK hc i pins s σ H E I hf st hg;subst hP hw hK;have hg:i=n:=hg;subst hg;obtain⟨f0,f1,f2,f3,f4,f5⟩:=hf it (by simp);have e0:(i:Int)-1-(i:Int) = -1:=by omega
  rw[e0] at st;exact wpAny_pyNext_rev_end (I.ok.hd hc) st fun h' eb=>⟨rfl,I.turned (t':=s.toks) (fun b o hb e=>eb b o hb e) f0 f1 f3 f4 f5⟩
 self:=fun _ _ _ _ _ st h=>wpAny_pyIter_revIter st h
def z9x(K:W.Frag)(ta:TA):TI:=fun σ H R=>ta σ H fun vs H1=>∃a xs,vs=[.ref a]/\SqL K H1 a xs/\R (Itv K a xs.length) H1
theorem bRev:bootBuiltins "reversed" = some (.type "reversed"):=by decide +kernel
theorem z9y{X:Cx}{tg a:Expr}{ta:TA}{p pos:Pos}(hg:Gl X "reversed")(hm:X.mg "reversed" = none)(ha:PA X [a] ta)(hs:starEach [a] X.env=[(false,eval a X.env)]:=by rfl):PI X tg (.Call (.Name "reversed" p) [a] [] pos) (z9x X.K ta):=by
 intro pins s σ H R I h;refine Call_ (zmr I hg hm bRev (PyProof.Rows.callWith_type1 (thn (ha pos pins s σ H _ I h) fun us s1 hq_=>?_) hs rfl));obtain⟨vs,H1,I1,r1,q1⟩:=hq_;obtain⟨b,xs,e,hq,q⟩:=q1;subst e;cases r1 with
 | cons r rr=>
   cases rr;cases r;obtain⟨its,rv,pl,hz⟩:=I1.list hq;have hlen:=rv.length;refine call_reversed_list pl.isList ?_;refine wpAny_pyIter_revIter (it:=s1.heap.objs.size) (l:=b) (i:=(its.toArray.size:Int)-1) ⟨_,Heap.get?_push_size _ rfl,rfl,rfl⟩ ?_;refine⟨s1.heap.objs.size,[s1.heap.objs.size],_,_,H1,rfl,I1.kept (t':=s1.toks) fun b o e=>Heap.get?_push_of_some _ e,z2t b _ xs.length,?_,fun c hb=>?_,q⟩
   ·refine⟨_,Heap.get?_push_size _ rfl,rfl,?_⟩
    show Data.fields #[.ref b,rawInt ((its.toArray.size:Int)-1)]=Data.fields #[.ref b,rawInt ((xs.length:Int)-1-((0:Nat):Int))];rw[show((its.toArray.size:Int)-1)=(xs.length:Int)-1-((0:Nat):Int) by rw[List.size_toArray];omega]
   ·have e:c=s1.heap.objs.size:=by simpa using hb
    subst e;exact I1.fpOk (Nat.le_refl _) (I1.hok.fresh (Nat.le_refl _))
end L2
namespace MF
open PySem L2
theorem zzs{i:Nat}:∀u:V,([]:St)[i]?≠some (some u):=fun u h=>nomatch (show(none:Option (Option V))=some (some u) from h)
theorem zzt:Vals [V.non] [Value.none]:=.cons rfl .nil
theorem zzu(W:Wd):Dens W [T.non] [V.non]:=Dens.cons' (zco.mpr rfl) Dens.nil'
structure Cl where
 hall:Addr
 place:Addr
 piece:Addr
 run:Addr
 hallError:Addr
 nameThere:Addr
 noPlace:Addr
 noPiece:Addr
 tooMany:Addr
 noAnswer:Addr
 ring:Addr
 barred:Addr
 deedFault:Addr
section
variable {X:Cx}{E:XK}{a b c e o:Expr}{es:List Expr}{fa fb fc fo:DE}{fr:DA}{pos p:Pos}{x:Str}
theorem z4l{i:Int}(hg:Gl X x)(hm:∃t,X.mg x=some (.int i t))(hd:(x==("__debug__" : Str))=false:=by decide):PE X (.Name x p) (RE E (eC (.int i))):=by
 obtain⟨t,hm⟩:=hm;exact z9v hg hm hd
noncomputable def iRev(f:DA):DI:=fun ρ=>(f ρ).bind fun as=>fun S=>match as with
 | [t]=>(match zam S t with
   |some ts=>.ok (ts.reverse,fun S'=>zam S' t=some ts) S
   |none=>.bad)
 |_=>.bad
theorem z9z(K:PySem.W.Frag):RI E (iRev fr) (z9x K (RA E fr)):=fun σ H R h=>by
 obtain⟨W,S,ρ,rp,env,p⟩:=h;refine⟨W,S,ρ,rp,env,(Post.bind p).imp fun as W1 S1 H1 l1 r1 p1 vs dv=>?_⟩
 split at p1
 ·rename_i t
  cases e:zam S1 t with
  |none=>simp only[e] at p1;exact p1.elim
  | some ts=>
    simp only[e] at p1;obtain⟨v,rfl,d1⟩:=zfi dv;obtain⟨a,us,rfl,h1,h2⟩:=r1.list d1 e;have hn:=h2.length;refine⟨a,us,rfl,.inl h1,p1 W1 H1 (Wd.le.refl _) r1 _ W1 H1 (Wd.le.refl _) r1 ⟨fun i W' S' H' l r' st hi=>?_,fun i W' S' H' l r' st hi=>?_⟩⟩
    ·obtain⟨a',zs,ea,g1,g2⟩:=r'.list (Den.mono l _ _ d1) st
     cases ea;have hz:=g2.length;have hi:i<ts.reverse.length:=hi;rw[List.length_reverse] at hi;have hj:us.length-1-i<zs.length:=by omega
     refine⟨⟨zs,zs[us.length-1-i],.inl g1,by omega,by omega,List.getElem?_eq_getElem hj⟩,fun x H'' y=>?_⟩;obtain⟨rfl,y⟩:=y;have ex:=y zs (.inl g1);obtain⟨t',e1,d2⟩:=g2.get' ex;refine⟨W',t',Wd.le.refl _,r',?_,d2⟩;show ts.reverse[i]?=some t';rw[List.getElem?_reverse (by omega),<- e1];congr 1;omega
    ·have hi:i=ts.reverse.length:=hi
     rw[List.length_reverse] at hi;exact hi.trans hn
 ·exact p1.elim
noncomputable def idxF(x:T)(ts:List T):Option Nat:=match toV x,ts.mapM toV with
 |some u,some vs=>if(zfs u&&vs.all zfs)=true then vs.findIdx? (fun y=>eqV y u) else none
 |_,_=>none
noncomputable def Zcx(t:T)(as:List T):M T:=fun S=>match zam S t,as with
 | some ts,[y]=>(match idxF y ts with
   |some j=>if ts.length<=1000 then .ok (.int j) S else .bad
   |none=>.bad)
 |_,_=>.bad
noncomputable def zj1(t:T)(as:List T):M T:=fun S=>match cellL S t,as with
 | some (k,ts),[y]=>(match idxF y ts with
   |some j=>if ts.length<=1000 then .ok .non (S.set k (.lst (ts.eraseIdx j))) else .bad
   |none=>.bad)
 |_,_=>.bad
theorem z6p{W:Wd}{x:T}{ts:List T}{v:V}{vs:List V}{j:Nat}(d:Den W x v)(ds:Dens W ts vs)(e:idxF x ts=some j) :
  zfs v=true/\vs.all zfs=true/\(∃z,vs[j]?=some z/\eqV z v=true)/\(∀i z,i<j->vs[i]?=some z->eqV z v=false):=by
 unfold idxF at e;cases e1:toV x with
 |none=>simp[e1] at e
 | some u=>
   cases e2:ts.mapM toV with
   |none=>simp[e1,e2] at e
   | some us=>
     simp only[e1,e2] at e
     split at e
     ·rename_i hf
      rw[Bool.and_eq_true] at hf;have q1:=zm3 d e1;have q2:=zpg ds e2;subst q1 q2;rw[List.findIdx?_eq_some_iff_getElem] at e;obtain⟨hj,h1,h2⟩:=e;refine⟨hf.1,hf.2,⟨vs[j],List.getElem?_eq_getElem hj,h1⟩,fun i z hi hz=>?_⟩;have hil:i<vs.length:=Nat.lt_trans hi hj;rw[List.getElem?_eq_getElem hil] at hz;cases hz;have:=h2 i hi;simpa using this
     ·cases e
def zzv:V->List V->Hp->VK->Prop:=fun x vs H Q=>∃l xs y j,x=.ref l/\vs=[y]/\H l=some (.lst xs)/\zfs y=true/\xs.all zfs=true/\xs.length<=1000/\(∃z,xs[j]?=some z/\eqV z y=true)/\(∀i z,i<j->xs[i]?=some z->eqV z y=false)/\Q .non (upd H l (.lst (xs.eraseIdx j)))
theorem zzw{y x:V}{u v:Value}(ry:RelV y u)(rx:RelV x v)(fy:zfs y=true)(fx:zfs x=true):PySem.MeetsSeq.EqGives u v (eqV y x):=fun prog w A E s Q h=>z31 (A:=A) (s:=s) ry rx fy fx prog w E Q h
theorem zzx:MtR X "list.remove" zzv:=by
 intro pins s σ H x vs v us Q I rx rv h;obtain⟨l,xs,y,j,rfl,rfl,hH,fy,fx,hl1,⟨z,hj,hz⟩,hno,q⟩:=h;cases rx;obtain⟨u,rfl,ru⟩:=rv.one;obtain⟨zz,its,n,r,hl,e⟩:=I.lstM hH;have hjl:j<its.length:=by rw[<- hl];exact(List.getElem?_eq_some_iff.mp hj).1
 have ea:∀i (hi:i<its.length),∃x',xs[i]?=some x'/\RelV x' its[i]:=fun i hi=>Vals.at r (by rw[List.getElem?_eq_getElem hi]);refine call_meets F.slot_list_remove ⟨_,e,rfl⟩ F.entry_list_remove (F.args_list_remove_2 _ _) (MeetsSeq.list_remove l its.toArray n u (eqU y) ?_ j (by simpa using hjl) ?_ ?_ (by rw[List.size_toArray];omega)) ⟨e,?_⟩
 ·intro w' hw
  have hw':w'∈its:=by simpa using hw
  obtain⟨i,hi,rfl⟩:=List.getElem_of_mem hw';obtain⟨x',h1,h2⟩:=ea i hi;rw[zq4 h2 (zpf fx h1)];exact zzw h2 ru (zpf fx h1) fy
 ·obtain⟨x',h1,h2⟩:=ea j hjl
  rw[hj] at h1;cases h1;have:its.toArray[j]'(by simpa using hjl)=its[j]:=by simp
  rw[this,zq4 h2 (zpf fx hj)];exact hz
 ·intro m hm hmj
  have hm':m<its.length:=by simpa using hm
  obtain⟨x',h1,h2⟩:=ea m hm';have:its.toArray[m]'hm=its[m]:=by simp
  rw[this,zq4 h2 (zpf fx h1)];exact hno m x' hmj h1
 ·refine⟨.non,_,I.lset (t':=s.toks) (its':=its.eraseIdx j) hH e ?_ (r.eraseIdx j) ?_,rfl,q⟩
  ·show its.toArray.eraseIdxIfInBounds j=(its.eraseIdx j).toArray
   rw[List.eraseIdxIfInBounds_toArray]
  ·have:=zmw xs j
   omega
theorem zzy:GM E zzv zj1:=by
 intro t as W S H v vs Q r d da p;unfold zj1 at p
 split at p
 ·rename_i k ts y e
  cases e2:idxF y ts with
  |none=>simp only[e2] at p;exact p.elim
  | some j=>
    simp only[e2] at p
    split at p
    ·rename_i hl
     obtain⟨us,rfl,h0,h1,h2⟩:=r.cellL d e;obtain⟨w,rfl,dw⟩:=zfi da;obtain⟨g1,g2,g3,g4⟩:=z6p dw h2 e2;exact⟨_,us,w,j,rfl,rfl,h1,g1,g2,by rw[<- h2.length];exact hl,g3,g4,p W _ (Wd.le.refl _) (r.cellSet h0 _ _ ⟨_,zaj,h2.eraseIdx _⟩) _ (zco.mpr rfl)⟩
    ·exact p.elim
 ·exact p.elim
theorem zvp{apos:Pos}(ho:PE X o (RE E fo))(ha:PA X [e] (RA E fr))(hbase:attributeBase o "remove" X.env (eval o X.env)=eval o X.env:=by rfl)
  (hline:(apos.endLine==pos.line)=true:=by rfl) (hs:starEach [e] X.env=(false,eval e X.env)::starEach [] X.env:=by rfl)
  (hfew:((backTo pos (starEach [e] X.env)).all (fun x=>!x.1)&&(backToKw pos (keywordEach [] X.env)).all (fun x=>x.1.isSome)&&decide ([e].length+([]:List Keyword).length+(if([]:List Keyword).isEmpty then 0 else 1)<30))=true:=by rfl):PE X (.Call (.Attribute o "remove" apos) [e] [] pos) (RE E (eMt okL zj1 fo fr)):=
 e_mt PySem.F.plainAttrs_list PySem.F.slot_list_remove PySem.F.type_list_remove zzx zrk zzy ho ha hbase hfew hline hs rfl
end
variable {S:Sto}{ρ:Ev}
@[simp]theorem zan{α β:Type}(m:M α)(f:α->M β):M.bind m f S=(match m S with|.ok a S'=>f a S' | .exc C fs S'=>.exc C fs S' | .bad=>.bad):=rfl
@[simp]theorem zzz{α:Type}(a:α):M.pure a S=.ok a S:=rfl
@[simp]theorem Zdq{α:Type}:(M.bad:M α) S=.bad:=rfl
@[simp] theorem zpr (i:Nat):eVar i ρ S=(match ρ[i]? with|some (some t)=>.ok t S | _=>.bad):=by
  unfold eVar
  split<;>simp_all
@[simp]theorem x_c(t:T):eC t ρ S=.ok t S:=rfl
@[simp]theorem x_e2(g:T->T->M T)(a b:DE):e2 g a b ρ S=(a ρ).bind (fun x=>(b ρ).bind fun y=>g x y) S:=rfl
@[simp]theorem x_e1(g:T->M T)(a:DE):e1 g a ρ S=(a ρ).bind g S:=rfl
@[simp]theorem Zcy:aNil ρ S=.ok [] S:=rfl
@[simp]theorem z6q(a:DE)(r:DA):zad a r ρ S=(a ρ).bind (fun t=>(r ρ).bind fun ts=>M.pure (t::ts)) S:=rfl
@[simp]theorem x_eA(g:List T->M T)(f:DA):eA g f ρ S=(f ρ).bind g S:=rfl
@[simp]theorem x_gI(f:Int->Int->Option T)(i j:Int):gI f (.int i) (.int j) S=(match f i j with|some t=>.ok t S | none=>.bad):=rfl
@[simp]theorem Zcz(i j:Int):fSub i j=some (.int (i-j)):=rfl
@[simp]theorem Zdr(i j:Int):fLt i j=some (.bl (decide (i<j))):=rfl
@[simp]theorem Zds(i j:Int):fGt i j=some (.bl (decide (j<i))):=rfl
@[simp]theorem Zdt(i j:Int):fGe i j=some (.bl (decide (j<=i))):=rfl
@[simp]theorem Zc0(i j:Int):fMul i j=(if(-(2 ^ 64)<i/\i<2 ^ 64)\/(-(2 ^ 64)<j/\j<2 ^ 64) then some (.int (i*j)) else none):=rfl
@[simp]theorem Zc1(i j:Int):fDiv i j=(if 0<j/\j<1073741824 then some (.int (i / j)) else none):=rfl
@[simp]theorem Zc2(i j:Int):fMod i j=(if 0<j then some (.int (i%j)) else none):=rfl
@[simp]theorem Zc3(i j:Int):fPow i j=(if 0<=j/\j<=1000/\i.natAbs<2 ^ 64 then some (.int (i ^ j.toNat)) else none):=rfl
@[simp]theorem Zc4(i j:Int):gAdd (.int i) (.int j) S=.ok (.int (i+j)) S:=rfl
@[simp]theorem Zc5(i j:Str):gAdd (.str i) (.str j) S=(if i.length+j.length<=1000 then .ok (.str (i++j)) S else .bad):=rfl
@[simp]theorem z90(xs ys:List T):gAdd (.lst xs) (.lst ys) S=(if xs.length+ys.length<=1000 then .ok (.lst (xs++ys)) S else .bad):=rfl
@[simp] theorem Zdu (i j:Int):gEq (.int i) (.int j) S=.ok (.bl (decide (i=j))) S:=by
  simp[gEq,eqS,toV,scal]
@[simp] theorem Zdv (i j:Str):gEq (.str i) (.str j) S=.ok (.bl (decide (i=j))) S:=by
  simp[gEq,eqS,toV,scal]
@[simp] theorem Zdw (i j:Bool):gEq (.bl i) (.bl j) S=.ok (.bl (decide (i=j))) S:=by
  simp[gEq,eqS,toV,scal]
@[simp] theorem Zdx (i j:Int):gNe (.int i) (.int j) S=.ok (.bl (!decide (i=j))) S:=by
  simp[gNe,eqS,toV,scal]
@[simp] theorem Zdy (i j:Str):gNe (.str i) (.str j) S=.ok (.bl (!decide (i=j))) S:=by
  simp[gNe,eqS,toV,scal]
@[simp]theorem zz0(b:Bool):z6c (.bl b) S=.ok b S:=rfl
@[simp]theorem Zc6(b:Bool):truM (.bl b) S=.ok b S:=rfl
@[simp]theorem Zc7(ts:List T):truM (.lst ts) S=.ok (!ts.isEmpty) S:=rfl
@[simp]theorem z91(f:DE):tst f ρ S=(f ρ).bind z6c S:=rfl
@[simp]theorem Zdz(f:DE):tru f ρ S=(f ρ).bind truM S:=rfl
@[simp]theorem Zd0(f g:DT):zph f g ρ S=(f ρ).bind (fun c=>if c=true then g ρ else M.pure false) S:=rfl
@[simp]theorem x_or(f g:DT):tOrD f g ρ S=(f ρ).bind (fun c=>if c=true then M.pure true else g ρ) S:=rfl
@[simp]theorem Zd1(f:DT):zm4 f ρ S=(f ρ).bind (fun c=>M.pure (!c)) S:=rfl
@[simp]theorem Zc8(f:DE):eNot f ρ S=(f ρ).bind (fun x=>(truM x).bind fun b=>M.pure (.bl (!b))) S:=rfl
@[simp]theorem Zd2(c:DT)(f g:DE):eIf c f g ρ S=(c ρ).bind (fun b=>if b=true then f ρ else g ρ) S:=rfl
@[simp]theorem Zc9(ts:List T):lstF ts S=(if ts.length<=1000 then .ok (.lst ts) S else .bad):=rfl
@[simp]theorem Zda(ts:List T):lstC ts S=(if ts.length<=1000 then .ok (.obj S.length) (S++[.lst ts]) else .bad):=rfl
@[simp]theorem Zdb(ts:List T):tupF ts S=(if ts.length<=1000 then .ok (.tup ts) S else .bad):=rfl
@[simp]theorem z6r:zlw ρ S=.ok (.obj S.length) (S++[.dic []]):=rfl
@[simp]theorem x_nx:sNx ρ S=.ok (.nx ρ) S:=rfl
@[simp]theorem z92(f g:DS):sSeq f g ρ S=(f ρ).bind (fun x=>match x with|.nx ρ'=>g ρ' | o=>M.pure o) S:=rfl
@[simp]theorem Zb7(f:DE):sRet f ρ S=(f ρ).bind (fun t=>M.pure (.rt t)) S:=rfl
@[simp]theorem Zdc(f:DE):zc5 f ρ S=(f ρ).bind (fun _=>M.pure (.nx ρ)) S:=rfl
@[simp]theorem Zb8(i:Nat)(f:DE):sSet i f ρ S=(f ρ).bind (fun t=>M.pure (.nx (ρ.set i (some t)))) S:=rfl
@[simp]theorem x_if(c:DT)(f g:DS):sIf c f g ρ S=(c ρ).bind (fun b=>if b=true then f ρ else g ρ) S:=rfl
@[simp] theorem z93 (n:Nat) (d:DS) (ts:List T):runD n d ts S=(match d (ts.map some++List.replicate (n-ts.length) none) S with
  |.ok (.rt t) S'=>.ok t S' | .ok (.nx _) S'=>.ok .non S' | .ok _ _=>.bad | .exc C fs S'=>.exc C fs S' | .bad=>.bad):=by
  unfold runD;rw[zan]
  split<;>simp_all
  rename_i x _ _;cases x<;>rfl
@[simp]theorem z94(F:Fn)(ds:List T)(fr:DA):zbe F ds fr ρ S=(fr ρ).bind (fun ts=>F (ts++ds)) S:=rfl
@[simp]theorem Zb9(n:Nat)(F:Fn)(ts:List T):lenF n F ts S=(if ts.length=n then F ts S else .bad):=rfl
@[simp]theorem Zdd(ts:List T):zd0 S (.lst ts)=some ts:=rfl
@[simp]theorem Zde(ts:List T):zd0 S (.tup ts)=some ts:=rfl
@[simp]theorem zz1(ts:List T):zam S (.lst ts)=some ts:=rfl
@[simp]theorem Zdf(ts:List T):gLen (.lst ts) S=.ok (.int ts.length) S:=rfl
@[simp]theorem Zca(ts:List T)(i:Int):gIx (.lst ts) (.int i) S=(match atI ts i with|some t=>.ok t S | none=>.bad):=rfl
@[simp]theorem Zd3(ts:List T)(i:Int):gIx (.tup ts) (.int i) S=(match atI ts i with|some t=>.ok t S | none=>.bad):=rfl
@[simp]theorem Zd4(z:Str)(i:Int):gIx (.str z) (.int i) S=(if z.length<=1000 then(match atI z.cps.toList i with|some c=>.ok (.str ⟨#[c]⟩) S | none=>.bad) else .bad):=rfl
@[simp] theorem Zd5 {α:Type} (a:α) (r:List α):atI (a::r) 0=some a:=by
  have:(0:Int)=((0:Nat):Int):=rfl;rw[this];exact zjx rfl
@[simp] theorem Zd6 {α:Type} (a b:α) (r:List α):atI (a::b::r) 1=some b:=by
  have:(1:Int)=((1:Nat):Int):=rfl;rw[this];exact zjx rfl
@[simp] theorem Zd7 {α:Type} (a b d:α) (r:List α):atI (a::b::d::r) 2=some d:=by
  have:(2:Int)=((2:Nat):Int):=rfl;rw[this];exact zjx rfl
@[simp] theorem Zd8 {α:Type} (a b d e:α) (r:List α):atI (a::b::d::e::r) 3=some e:=by
  have:(3:Int)=((3:Nat):Int):=rfl;rw[this];exact zjx rfl
@[simp] theorem Zd9 {α:Type} (a b d e f:α) (r:List α):atI (a::b::d::e::f::r) 4=some f:=by
  have:(4:Int)=((4:Nat):Int):=rfl;rw[this];exact zjx rfl
theorem z4m{α:Type}{ts:List α}{i:Int}(h0:0<=i)(h1:i<ts.length):atI ts i=ts[i.toNat]?:=by
 obtain⟨j,rfl⟩:=Int.eq_ofNat_of_zero_le h0;have hl:j<ts.length:=by omega
 have:=zjx (j:=j) (v:=ts[j]) (List.getElem?_eq_getElem hl);rw[this,Int.toNat_natCast,List.getElem?_eq_getElem hl]
variable {S:Sto}{ρ:Ev}
@[simp]theorem z95{α:Type}{p:Prop}[Decidable p](m n:M α):(if p then m else n) S=if p then m S else n S:=by split<;>rfl
@[simp]theorem x_iL(f:DE):iL f ρ S=(f ρ).bind (fun t=>fun S=>match zam S t with|some ts=>.ok (ts,fun S'=>zam S' t=some ts) S | none=>.bad) S:=rfl
@[simp]theorem Zcb(f:DA):iR1 f ρ S=(f ρ).bind (fun ts=>fun S=>match ts with|[.int j]=>if -1000000<=j/\j<=1000000 then .ok (zjh 0 j.toNat,fun(_:Sto)=>True) S else .bad | _=>.bad) S:=rfl
@[simp]theorem Zdg(f:DA):iRev f ρ S=(f ρ).bind (fun as=>fun S=>match as with|[t]=>(match zam S t with|some ts=>.ok (ts.reverse,fun S'=>zam S' t=some ts) S | none=>.bad) | _=>.bad) S:=rfl
theorem zvq{st:Sto->Prop}{g:DG}{body:DS}(Inv:List T->Ev->Sto->Prop):∀(ts pre:List T) (ρ:Ev) (S:Sto),Inv pre ρ S ->
  (∀pre' t post ρ S,pre++ts=pre'++t::post->Inv pre' ρ S->st S/\∃ρ1,g t ρ=some ρ1/\∃ρ2 S2,body ρ1 S=.ok (.nx ρ2) S2/\Inv (pre'++[t]) ρ2 S2)->(∀ρ S,Inv (pre++ts) ρ S->st S) ->
  ∃ρ' S',za0 st g body ts ρ S=.ok (.nx ρ') S'/\Inv (pre++ts) ρ' S'
 | [],pre,ρ,S,h,_,he=>by
   rw[List.append_nil] at he ⊢;refine⟨ρ,S,?_,h⟩;unfold za0;rw[if_pos (he ρ S h)]
 | t::ts,pre,ρ,S,h,hs,he=>by
   obtain⟨hst,ρ1,e1,ρ2,S2,e2,h2⟩:=hs pre t ts ρ S rfl h;have e:pre++t::ts=(pre++[t])++ts:=by simp
   obtain⟨ρ',S',e3,h3⟩:=zvq Inv ts (pre++[t]) ρ2 S2 h2 (by rw[<- e];exact hs) (by rw[<- e];exact he);refine⟨ρ',S',?_,by rw[e];exact h3⟩;unfold za0;rw[if_pos hst,e1];simp only[zan,e2];exact e3
theorem zps{it:DI}{g:DG}{body:DS}{ts:List T}{st:Sto->Prop}{S1:Sto}(Inv:List T->Ev->Sto->Prop)(hit:it ρ S=.ok (ts,st) S1)(h0:Inv [] ρ S1)
  (hs:∀pre t post ρ S,ts=pre++t::post->Inv pre ρ S->st S/\∃ρ1,g t ρ=some ρ1/\∃ρ2 S2,body ρ1 S=.ok (.nx ρ2) S2/\Inv (pre++[t]) ρ2 S2) (he:∀ρ S,Inv ts ρ S->st S) :
  ∃ρ' S',sFor it g body ρ S=.ok (.nx ρ') S'/\Inv ts ρ' S':=by
 obtain⟨ρ',S',e,h⟩:=zvq (st:=st) (g:=g) (body:=body) Inv ts [] ρ S1 h0 hs he;refine⟨ρ',S',?_,h⟩;unfold sFor;simp only[zan,hit];exact e
theorem zvr{st:Sto->Prop}{tc:DT}{te:DE}{caps:Ev}{p:T->Bool}{f:T->T}(hst:st S):∀(ts:List T) (o:Option T) (acc:List T),acc.length+ts.length<=1000->(∀t∈ts,tc (some t::caps) S=.ok (p t) S)->(∀t∈ts,p t=true->te (some t::caps) S=.ok (f t) S) ->
  zgf st (zaz 0) tc te ts (o::caps) acc S=.ok (acc++(ts.filter p).map f) S
 | [],o,acc,_,_,_=>by
   unfold zgf;rw[if_pos hst];simp
 | t :: ts,o,acc,hl,hc,he=>by
   have ih:=fun acc h=>zvr (tc:=tc) (te:=te) hst ts (some t) acc h (fun u hu=>hc u (List.mem_cons_of_mem _ hu)) (fun u hu=>he u (List.mem_cons_of_mem _ hu));have h1:=hc t (List.mem_cons_self ..);rw[List.length_cons] at hl;unfold zgf;rw[if_pos hst];show(M.bind (tc (some t::caps)) _) S=_;rw[zan,h1];cases e:p t with
   | false=>
     have:=ih acc (by omega);simpa[e] using this
   | true=>
     have h2:=he t (List.mem_cons_self ..) e;have:=ih (acc++[f t]) (by rw[List.length_append,List.length_singleton];omega);have hlt:acc.length<1000:=by omega
     simp only[if_true,zan,h2,z95,hlt];simpa[e,h2] using this
theorem zg0{js:List Nat}{it:DI}{tc:DT}{te:DE}{ts:List T}{st:Sto->Prop}{p:T->Bool}{f:T->T}(hit:it ρ S=.ok (ts,st) S)(hst:st S)(hl:ts.length<=1000)
  (hc:∀t∈ts,tc (some t::js.map fun j=>(ρ[j]?).join) S=.ok (p t) S) (he:∀t∈ts,p t=true->te (some t::js.map fun j=>(ρ[j]?).join) S=.ok (f t) S) :
  zek 1 js it (zaz 0) tc te finF ρ S=.ok (.lst ((ts.filter p).map f)) S:=by
 unfold zek;rw[zan,hit];show(M.bind (noX _) finF) S=_;rw[zan];have:=zvr (tc:=tc) (te:=te) (caps:=js.map fun j=>(ρ[j]?).join) hst ts none [] (by simpa using hl) hc he;have e2:noX (zgf st (zaz 0) tc te ts (List.replicate 1 none++js.map fun j=>(ρ[j]?).join) []) S=.ok ((ts.filter p).map f) S:=by
  unfold noX;rw[show(List.replicate 1 (none:Option T)++js.map fun j=>(ρ[j]?).join)=none::js.map fun j=>(ρ[j]?).join from rfl,this];rfl
 simp only[e2];rfl
theorem zkl{js:List Nat}{it:DI}{te:DE}{ts:List T}{st:Sto->Prop}{f:T->T}(hit:it ρ S=.ok (ts,st) S)(hst:st S)(hl:ts.length<=1000)
  (he:∀t∈ts,te (some t::js.map fun j=>(ρ[j]?).join) S=.ok (f t) S) :
  zek 1 js it (zaz 0) yesD te finF ρ S=.ok (.lst (ts.map f)) S:=by
 have:=zg0 (tc:=yesD) (p:=fun _=>true) hit hst hl (fun _ _=>rfl) (fun t h _=>he t h);rwa[List.filter_eq_self.mpr (fun _ _=>rfl)] at this
theorem ztt{g:T->Option T}:∀{ts:List T},(∀t∈ts,g t=some t)->mapO g ts=some ts
 |[],_=>rfl
 | t::ts,h=>by
   unfold mapO;rw[h t (List.mem_cons_self ..),ztt fun u hu=>h u (List.mem_cons_of_mem _ hu)]
theorem zxf{S:Sto}{n f:Nat}{t:T}(h:HB n t):fz S n f t=some t:=by
 cases f<;>(unfold fz;rw[if_pos h])
theorem zpt{F:Fn}{ts us:List T}{S':Sto}{k:Nat}(h:F ts S=.ok (.obj k) S')(hS:S'.take S.length=S)(hk:S.length<=k)(hc:S'[k]?=some (.lst us))(hb:∀t∈us,HB S.length t):frzF F ts S=.ok (.lst us) S:=by
 unfold frzF;rw[h];simp only[if_pos hS];have e:fz S' S.length 6 (.obj k)=some (.lst us):=by
  unfold fz;rw[if_neg (by simp only[HB];omega)];simp only[hc];rw[ztt fun t ht=>zxf (hb t ht)];rfl
 rw[e]
theorem zkm{F:Fn}{ts:List T}{S':Sto}{t:T}(h:F ts S=.ok t S')(hS:S'.take S.length=S)(hb:HB S.length t):frzF F ts S=.ok t S:=by
 unfold frzF;rw[h];simp only[if_pos hS];rw[zxf hb]
@[simp]theorem x_mt(ok:Sto->T->Bool)(g:T->List T->M T)(fo:DE)(fr:DA):eMt ok g fo fr ρ S=(fo ρ).bind (fun t=>fun S=>if ok S t=true then((fr ρ).bind fun ts=>g t ts) S else .bad) S:=rfl
theorem zn5{k:Nat}{ts:List T}{y:T}(h:S[k]?=some (.lst ts))(hl:ts.length<1000):gApp (.obj k) [y] S=.ok .non (S.set k (.lst (ts++[y]))):=by
 simp[gApp,cellL,h,hl]
theorem z6s{k:Nat}{ts us:List T}{y:T}(h:S[k]?=some (.lst ts))(hy:zam S y=some us)(hl:ts.length+us.length<=1000):gExt (.obj k) [y] S=.ok .non (S.set k (.lst (ts++us))):=by
 simp[gExt,cellL,h,hy,hl]
theorem zgr{k:Nat}{ts:List T}(h:S[k]?=some (.lst ts)):okL S (.obj k)=true:=by simp[okL,zam,h]
theorem zd4{k:Nat}{ts:List T}(h:S[k]?=some (.lst ts)):zam S (.obj k)=some ts:=by simp[zam,h]
@[simp]theorem z96(n:Nat)(x:Str):HB n (.str x):=by simp[HB]
@[simp]theorem Zdh(n:Nat)(x:Int):HB n (.int x):=by simp[HB]
@[simp]theorem Zcc(n:Nat)(x:Bool):HB n (.bl x):=by simp[HB]
@[simp]theorem Zdi(n:Nat):HB n .non:=by simp[HB]
theorem ztu{n:Nat}:∀{ts:List T},(∀t∈ts,HB n t)->HBs n ts
 |[],_=>by simp only[HBs]
 |t::ts,h=>by simp only[HBs];exact⟨h t (List.mem_cons_self ..),ztu fun u hu=>h u (List.mem_cons_of_mem _ hu)⟩
theorem zz2{n:Nat}{ts:List T}(h:∀t∈ts,HB n t):HB n (.lst ts):=by simp only[HB];exact ztu h
theorem zjp{n:Nat}{ts:List T}(h:∀t∈ts,HB n t):HB n (.tup ts):=by simp only[HB];exact ztu h
noncomputable def strL(l:List Str):T:=.lst (l.map .str)
theorem zz3{n:Nat}(l:List Str):HB n (strL l):=zz2 fun t ht=>by
 obtain⟨x,_,rfl⟩:=List.mem_map.mp ht;exact z96 n x
theorem zhj:∀(l:List Str),(l.map T.str).mapM toV=some (l.map V.str)
 |[]=>rfl
 | a::r=>by
   rw[List.map_cons,List.mapM_cons,zhj r];rfl
theorem zk4:∀{l:List Str},(l.map V.str).all zfs=true
 |[]=>rfl
 | a::r=>by
   rw[List.map_cons,List.all_cons,zk4];rfl
theorem zrq{x:Str}:∀{l:List Str},inV (.str x) (l.map V.str)=l.contains x
 |[]=>rfl
 | a::r=>by
   rw[List.contains_cons,<- zrq (l:=r)];show((a==x) || _)=_;rw[BEq.comm];rfl
theorem z2u(x:Str)(l:List Str):inF (.str x) (l.map T.str)=some (l.contains x):=by
 unfold inF;rw[zhj];simp only[toV];rw[if_pos (by rw[zk4];rfl),zrq]
theorem z97{x:Str}{y:T}{l:List Str}(h:zd0 S y=some (l.map T.str)):gIn (.str x) y S=.ok (.bl (l.contains x)) S:=by
 simp[gIn,inS,h,z2u]
@[simp]theorem Zea(x:Str)(l:List Str):gIn (.str x) (strL l) S=.ok (.bl (l.contains x)) S:=z97 rfl
theorem zvs{α:Type}:∀{K:List (Addr×α)} {a:Addr} {o:α},K.lookup a=some o->(a,o)∈K
 |[],_,_,e=>by cases e
 | (b,x)::K,a,o,e=>by
   rw[List.lookup_cons] at e;cases h:a==b with
   | true=>
     rw[h] at e;cases e;rw[eq_of_beq h];exact List.mem_cons_self ..
   | false=>
     rw[h] at e;exact List.mem_cons_of_mem _ (zvs e)
noncomputable def zz4(K:PySem.W.Frag):Bool:=K.all fun p=>!(p.2.cls==Value.type "list")
theorem zz5{K:PySem.W.Frag}{a:Addr}{o:Obj}(h:zz4 K=true)(e:K.lookup a=some o):o.cls≠.type "list":=fun z=>by
 have hm:(a,o)∈K:=zvs e;have:=List.all_eq_true.mp h (a,o) hm;rw[show(a,o).2.cls=Value.type "list" from z] at this;simp at this
def z2v(K:PySem.W.Frag):Sp:=fun vs H Q _=>∃(a:Addr) (ns:List Int),vs=[.ref a]/\SqL K H a (ns.map V.int)/\ns.length<=63/\∀H',Q (.bl true) H'
theorem zrr{W:Wd}:∀(ns:List Int),Dens W (ns.map T.int) (ns.map V.int)
 |[]=>Dens.nil'
 |n::ns=>Dens.cons' (zay.mpr rfl) (zrr ns)
theorem z98{P:Program}{w:World}{K:PySem.W.Frag}{mg:Str->Option Value}{base:Heap}{k:Nat}{f:Addr}{fd:FuncData}{F:Fn}(G:FnOk P w K mg base (CXE P w) k f fd ["script"] (spM 1 F))(nl:zz4 K=true)
  (h:∀ns:List Int,ns.length<=63->∃S',F [.lst (ns.map .int)] []=.ok (.bl true) S'):FnOk P w K mg base CX0 k f fd ["script"] (z2v K):=by
 refine G.calm.imp fun vs H Q E q=>?_;obtain⟨a,ns,rfl,sq,hl,q⟩:=q;have rd:Rd H a (.lst (ns.map V.int)):=by
  rcases sq with rd | ⟨o,its,n,hk,hc,_⟩
  ·exact rd
  ·exact absurd hc (zz5 nl hk)
 refine⟨⟨fun b=>if b=a then some (.lst (ns.map V.int)) else none,fun _=>0,0,fun _=>none,fun _=>none⟩,[],[.lst (ns.map .int)],⟨fun b o e=>?_,rfl,(fun k c e=>by simp at e),(fun j k hj=>absurd hj (Nat.not_lt_zero _)),(fun b o e=>nomatch e),fun b o e=>nomatch e⟩,Dens.cons' (zdy.mpr ⟨a,_,rfl,if_pos rfl,zrr ns⟩) Dens.nil',rfl,?_⟩
 ·have e:(if b=a then some (HO.lst (ns.map V.int)) else none)=some o:=e
  by_cases z:b=a
  ·rw[if_pos z] at e
   cases e;subst z;refine⟨?_,trivial⟩;rcases rd with r | r
   ·exact .inl r
   ·exact .inr ⟨r,by intro xs z;cases z⟩
  ·rw[if_neg z] at e;cases e
 ·obtain⟨S',e⟩:=h ns hl
  rw[e];intro W' H' _ _ v dv;rw[zbl.mp dv];exact q H'
theorem walkM{l:PySem.W.OpenLaw}{q:Program}{loose:List Str}{XP:(Str->Option Value)->Heap->Prop}{YP:World->Heap->Prop}{d:DefRec}{K:Params->PySem.W.Frag}{k:Nat}(hk:Room k PySem.callerA)(hn:l.most=some 63)(hdf:d.params.defaults=[])
  (hY:∀(w:World) (h:Heap),YP w h->(K w.params).In h)
  (F:∀(w:World) (mg:Str->Option Value) (fa:Addr) (h:Heap),(K w.params).In h->h.Ns mainGlobals mg->mg d.name=some (.ref fa) ->
   ∃fd:FuncData,(∀(s:Shared) (u:Value),BindsTo s fd ⟨[u],[]⟩ [("script",u)])/\∀base:Heap,(K w.params).In base->base.Ns mainGlobals mg->FnOk l.prog w (K w.params) mg base CX0 k fa fd ["script"] (z2v (K w.params))) :
  PySem.W.WalkO q loose XP YP l.row.toRowW d [] (fun f vs=>PySem.call f vs):=
 L2.walk_of (n:=63) (k:=k) (x := "script") (CX:=fun _=>CX0) (sp:=fun w=>z2v (K w.params)) hn (by decide) hdf hk hY F (fun _ _ a ns hl _ hS=>⟨a,ns,rfl,hS,hl,fun _=>rfl⟩) fun _ _ _ _ _ z=>z
end MF
namespace MF
open PySem PySem.Spec L2
section
variable {W:Wd}{S:Sto}{H:Hp}
theorem Rep.privTake(r:Rep W S H){d:Addr}{ks:List (Str×V)}(hd:H d=some (.xd ks))(h0:W.HS d=none):∃W1:Wd,W.le W1/\Rep W1 S H/\W1.P d=some (.xd ks)/\W1.HS=W.HS/\W1.μ=W.μ/\W1.n=W.n:=by
 have nc:∀k,k<W.n->W.μ k≠d:=fun k hk z=>by
  obtain⟨c,hc⟩:=r.cellAt hk;have q:=(r.cell k c hc).1;rw[z] at q;cases c with
  |lst ts=>obtain⟨_,h1,_⟩:=q;rw[hd] at h1;cases h1
  |dic ts=>obtain⟨_,h1,_⟩:=q;rw[hd] at h1;cases h1
  |ins _ ts=>obtain⟨_,_,h1,_⟩:=q;rw[hd] at h1;cases h1
  |exc _ ts=>obtain⟨_,h1,_⟩:=q;rw[hd] at h1;cases h1
  |lck ts=>obtain⟨_,_,h1,_⟩:=q;rw[hd] at h1;cases h1
 cases e:W.P d with
 | some o=>
   have:=(r.prv d o e).1;rw[hd] at this;cases this;exact⟨W,Wd.le.refl W,r,e,rfl,rfl,rfl⟩
 | none=>
   refine⟨W.priv d (.xd ks),Wd.priv_le e,?_,zaj,rfl,rfl,rfl⟩;refine r.samePriv rfl rfl rfl rfl (fun ek c=>zb6.hs (W:=W) (W':=W.priv d (.xd ks)) rfl rfl rfl (fun d' ks' z=>?_) c) (fun a u _ h=>h) (fun a q u _ h=>h) fun a u z=>?_
   ·show upd W.P d (.xd ks) d'=_
    rw[zai (fun q=>by rw[q,e] at z;cases z)];exact z
   ·have z:upd W.P d (.xd ks) a=some u:=z
    by_cases q:a=d
    ·subst q;rw[zaj] at z;cases z;exact⟨hd,h0,nc⟩
    ·rw[zai q] at z;exact r.prv a u z
theorem Rep.caught(r:Rep W S H){ea C:Addr}{dx:Option Addr}{fs:Option (List (Str×T))}(he:H ea=none)(x:XOk W H dx fs) :
  ∃W1:Wd,W.le W1/\Rep W1 (S++[.exc C fs]) (upd H ea (excL ea C dx))/\W1.μ S.length=ea/\S.length<W1.n:=by
 have key:∃W1:Wd,W.le W1/\Rep W1 S H/\XP W1 dx fs/\W1.n=W.n:=by
  cases dx with
  | none=>
    cases fs with
    |none=>exact⟨W,Wd.le.refl W,r,trivial,rfl⟩
    |some _=>exact x.elim
  | some d=>
    cases fs with
    |none=>exact x.elim
    | some fs=>
      obtain⟨ks,x1,x2,x3⟩:=x;obtain⟨W1,l,r1,p1,_,_,n1⟩:=r.privTake x1 x2;exact⟨W1,l,r1,⟨ks,p1,DenF.mono l x3⟩,n1⟩
 obtain⟨W1,l,r1,x1,n1⟩:=key;refine⟨W1.add ea,l.trans Wd.add_le,r1.cellNew he (.exc C fs) (excL ea C dx) ⟨dx,zaj,x1.mono Wd.add_le⟩,?_,?_⟩
 ·rw[r.len,<- n1];exact Wd.add_at
 ·rw[r.len,<- n1];exact Nat.lt_succ_self _
end
noncomputable def msk{α:Type}(js:List Nat)(l:List (Option α)):List (Option α):=js.foldl (fun r j=>r.set j none) l
theorem zz6{α:Type}:∀(js:List Nat) (l:List (Option α)),(msk js l).length=l.length
 |[],_=>rfl
 |j::js,l=>by show(msk js (l.set j none)).length=_;rw[zz6 js,List.length_set]
theorem ztv{α:Type}:∀(js:List Nat) (l:List (Option α)) {i:Nat} {v:α},(msk js l)[i]?=some (some v)->l[i]?=some (some v)
 |[],_,_,_,h=>h
 | j::js,l,i,v,h=>by
   have h:=ztv js (l.set j none) h;by_cases z:i=j
   ·subst z
    rw[List.getElem?_set] at h;simp at h
   ·rwa[List.getElem?_set_ne (Ne.symm z)] at h
theorem zvt{α:Type}:∀(js:List Nat) (l:List (Option α)) {i:Nat},i∈js->∀v:α,(msk js l)[i]?≠some (some v)
 | j::js,l,i,hi,v=>by
   intro h;have h2:=ztv js (l.set j none) h;rcases List.mem_cons.mp hi with z | z
   ·subst z
    rw[List.getElem?_set] at h2;simp at h2
   ·exact zvt js (l.set j none) z v h
theorem zbd.unset{W:Wd}:∀{ρ:Ev} {σ:St} (i:Nat),zbd W ρ σ->zbd W (ρ.set i none) (σ.set i none)
 |[],σ,i,h=>by rw[show σ=[] from h];exact rfl
 | o::ρ,σ,i,⟨s,r,e0,h1,h2⟩=>by
   subst e0;cases i with
   |zero=>exact⟨_,_,rfl,trivial,h2⟩
   |succ i=>exact⟨_,_,rfl,h1,zbd.unset i h2⟩
theorem zbd.msk{W:Wd}:∀(js:List Nat) {ρ:Ev} {σ:St},zbd W ρ σ->zbd W (msk js ρ) (msk js σ)
 |[],_,_,h=>h
 |j::js,_,_,h=>zbd.msk js (zbd.unset j h)
noncomputable def calmR{α:Type}:R α->R α
 |.exc _ _ _=>.bad
 |r=>r
noncomputable def unI(i:Nat):R Fl->R Fl
 |.ok (.nx ρ) S=>.ok (.nx (ρ.set i none)) S
 |.ok (.bk ρ) S=>.ok (.bk (ρ.set i none)) S
 |.ok (.ct ρ) S=>.ok (.ct (ρ.set i none)) S
 |r=>r
theorem Post.calmR{α:Type}{E E':XK}{W:Wd}{Q:α->Wd->Sto->Hp->Prop}{r:R α}(h:Post E W Q (calmR r)):Post E' W Q r:=by
 cases r with
 |ok a S=>exact h
 |exc C fs S=>exact h.elim
 |bad=>exact h
abbrev DH:=Addr->Option (List (Str×T))->DS
noncomputable def dTry(fb:DS)(js:List Nat)(fh:DH):DS:=fun ρ S=>match fb ρ S with
 |.ok x S'=>.ok x S'
 |.exc C fs S'=>fh C fs (msk js ρ) S'
 |.bad=>.bad
def RH(E:XK)(fh:DH):THd:=fun cls dx _ D σ H=>∃C fs W S ρ,cls=.ref C/\Rep W S H/\XOk W H dx fs/\zbd W ρ σ/\Post E W (QF D) (fh C fs ρ S)
def z4n:DH:=fun _ _ _ _=>.bad
def z2w(sub:Addr->Option Bool)(ds:DS)(r:DH):DH:=fun C fs ρ S=>match sub C with
 |some true=>calmR (ds ρ S)
 |some false=>r C fs ρ S
 |none=>.bad
noncomputable def hdAs(sub:Addr->Option Bool)(i:Nat)(ds:DS)(r:DH):DH:=fun C fs ρ S=>match sub C with
 |some true=>unI i (calmR (ds (ρ.set i (some (.obj S.length))) (S++[.exc C fs])))
 |some false=>r C fs ρ S
 |none=>.bad
def SubK(K:PySem.W.Frag)(D:Addr)(sub:Addr->Option Bool):Prop:=∀C b,sub C=some b->∃bm,zd2 K C=some bm/\(Value.ref C::bm).contains (.ref D)=b
section
variable {X:Cx}{E:XK}{x n:Str}{np pos:Pos}{b₀:Stmt}{suite body:List Stmt}{rest hs:List ExceptHandler}{h₀:ExceptHandler}{D:Addr}{bmD:List Value}{sub:Addr->Option Bool}{ds fb:DS}{fr fh:DH}{i:Nat}{js:List Nat}
theorem z99:PH X [] (RH E z4n):=fun pins s σ H D ea cls a0 dx B ok car car2 fly hd h=>by
 obtain⟨_,_,_,_,_,_,_,_,_,p⟩:=h;exact p.elim
theorem Zaa{t t':THd}(h:PH X hs t)(w:∀cls dx ea D σ H,t' cls dx ea D σ H->t cls dx ea D σ H):PH X hs t':=fun pins s σ H D ea cls a0 dx B ok car car2 fly hd q=>h pins s σ H D ea cls a0 dx B ok car car2 fly hd (w _ _ _ _ _ _ q)
theorem Zcd(hg:Gl X x)(hm:X.mg x=some (.ref D))(qD:zd2 X.K D=some bmD)(sk:SubK X.K D sub)(hs:∀ea,PSs (X.inExc ea) (b₀::suite) (RS E0 ds))(hr:PH X rest (RH E fr))(hdb:(x==("__debug__" : Str))=false:=by decide) :
  PH X (.ExceptHandler (some (.Name x np)) none (b₀::suite) pos::rest) (RH E (z2w sub ds fr)):=Zaa (z8y hg hm qD hs hr hdb) fun cls dx ea En σ H h=>by
 obtain⟨C,fs,W,S,ρ,rfl,r,xo,env,p⟩:=h;unfold z2w at p;cases e:sub C with
 |none=>rw[e] at p;exact p.elim
 | some b=>
   obtain⟨bm,q1,q2⟩:=sk C b e;rw[e] at p;refine⟨C,bm,rfl,q1,?_⟩;rw[q2];cases b with
   |true=>rw[if_pos rfl];exact⟨W,S,ρ,r,env,Post.calmR p⟩
   |false=>rw[if_neg (by decide)];exact⟨C,fs,W,S,ρ,rfl,r,xo,env,p⟩
theorem h_as(hN:X.N.Nodup)(hi:X.N[i]?=some n)(hx:X.env.scope.names.lookup n=some .local)(hg:Gl X x)(hm:X.mg x=some (.ref D))(qD:zd2 X.K D=some bmD)(sk:SubK X.K D sub)(hs:∀ea,PSs (X.inExc ea) (b₀::suite) (RS E0 ds))(hr:PH X rest (RH E fr))
  (hk:∀u:V,X.kn[i]?≠some (some u):=by exact fun u h=>nomatch (show(none:Option (Option V))=some (some u) from h)) (hdb:(x==("__debug__" : Str))=false:=by decide) :
  PH X (.ExceptHandler (some (.Name x np)) (some n) (b₀::suite) pos::rest) (RH E (hdAs sub i ds fr)):=Zaa (z2f hg hm qD hN hi hx hk hs hr hdb) fun cls dx ea En σ H h=>by
 obtain⟨C,fs,W,S,ρ,rfl,r,xo,env,p⟩:=h;unfold hdAs at p;cases e:sub C with
 |none=>rw[e] at p;exact p.elim
 | some b=>
   obtain⟨bm,q1,q2⟩:=sk C b e;rw[e] at p;refine⟨C,bm,rfl,q1,?_⟩;rw[q2];cases b with
   |false=>rw[if_neg (by decide)];exact⟨C,fs,W,S,ρ,rfl,r,xo,env,p⟩
   | true=>
     rw[if_pos rfl];intro he;obtain⟨W1,l1,r1,m1,n1⟩:=r.caught (C:=C) he xo;refine⟨W1,_,_,r1,(env.mono l1).set (zb5.mpr ⟨by rw[m1],n1⟩) i,?_⟩
     revert p
     cases ds (ρ.set i (some (.obj S.length))) (S++[.exc C fs]) with
     |bad=>exact fun p=>p.elim
     |exc _ _ _=>exact fun p=>p.elim
     | ok y S2=>
       cases y with
       |nx ρ2=>exact fun p W2 H2 l2 r2 σ2 e2=>p W2 H2 (l1.trans l2) r2 _ (e2.unset i)
       |bk ρ2=>exact fun p W2 H2 l2 r2 σ2 e2=>p W2 H2 (l1.trans l2) r2 _ (e2.unset i)
       |ct ρ2=>exact fun p W2 H2 l2 r2 σ2 e2=>p W2 H2 (l1.trans l2) r2 _ (e2.unset i)
       |rt t=>exact fun p W2 H2 l2 r2=>p W2 H2 (l1.trans l2) r2
theorem Zce(hb:∀(pn:List (Addr×Obj)) (kn:St) (xe:Value->Shared->Prop) (R:XK),(∀j∈js,∀u:V,kn[j]?≠some (some u))->zdq (CXE X.prog X.w) (X.tryIn pn kn xe) R->PassesOwn (model X.prog X.w) X.A X.env xe->PSs (X.tryIn pn kn xe) body (RS R fb))
  (hh:PH X (h₀::hs) (RH E fh)) (h0:X.kn=[]:=by rfl) (hst:X.stack=X.env::X.outer:=by rfl) (hfr:X.env.frame=some X.env.locals:=by rfl) :
  PS X (.Try body (h₀::hs) [] [] pos) (RS E (dTry fb js fh)):=zkj (z8z hh hst hfr) fun D σ H h=>by
 obtain⟨W,S,ρ,r,env,p⟩:=h;refine⟨msk js σ,fun cls dx H'=>∃C fs W' S',cls=.ref C/\W.le W'/\Rep W' S' H'/\XOk W' H' dx fs/\Post E W' (QF D) (fh C fs (msk js ρ) S'),RS _ fb,zz6 js σ,fun i v e=>ztv js σ e,fun i v e=>by rw[h0] at e;simp at e,
  fun pn xe pas own=>hb pn _ xe _ (fun j hj u=>zvt js σ hj u) pas own,⟨W,S,ρ,r,env,?_⟩,fun cls dx ea H' q=>?_⟩
 ·unfold dTry at p
  revert p
  cases fb ρ S with
  |ok y S2=>exact fun p=>p
  |bad=>exact fun p=>p.elim
  | exc C fs S2=>
    intro p W2 H2 dx l2 r2 x2;refine⟨C,fs,W2,S2,rfl,l2,r2,x2,?_⟩
    revert p
    show Post E W (QF D) (fh C fs (msk js ρ) S2)->_;cases fh C fs (msk js ρ) S2 with
    |ok y S3=>exact fun p W3 H3 l3 r3=>p W3 H3 (l2.trans l3) r3
    |exc _ _ _=>exact fun p W3 H3 dx l3 r3=>p W3 H3 dx (l2.trans l3) r3
    |bad=>exact fun p=>p
 ·obtain⟨C,fs,W',S',rfl,l,r',x',p'⟩:=q
  exact⟨C,fs,W',S',_,rfl,r',x',(env.mono l).msk js,p'⟩
end
end MF
namespace MF
open PySem PySem.Spec PyProof.Rows L2
def okV(two:Bool)(x y:V):Prop:=∃a,x=.str a/\(reprText a).length<=1000/\(two=true->∃b,y=.str b/\(reprText b).length<=1000)
def spX2(C:Addr)(f g:Str)(two:Bool):Sp:=fun vs H Q _=>∃e x y,vs=[.ref e,x,y]/\H e=some (excO e C none)/\okV two x y/\f≠g/\∀d,H d=none->Q .non (upd (upd H e (excO e C (some d))) d (.xd [(f,x),(g,y)]))
section
variable {P:Program}{w:World}{K:PySem.W.Frag}{mg:Str->Option Value}{base:Heap}
theorem z2x{qual:Str}{st:Stmt}{dV:Value}{C fI:Addr}{fd:FuncData}{p1 p2 f g:Str}{k:Nat}{two:Bool}{tm:TE}(F:FunV K "__init__" qual st dV fI fd)(S:zal ["self",p1,p2] ["self",p1,p2] (zag st))
  (hx:XCls K C) (q:zd8 K C fI=true) (nf:PySem.W.findIn K (.ref C) f=some none) (ng:PySem.W.findIn K (.ref C) g=some none)
  (hbody:∀(cdv:Value) (A:Around) (outer:List Env) (s:Shared) (H:Hp) (E:XK),Room k (A.deeper (envOfC qual (zag st) s.heap.objs.size fI cdv)) ->
   PSs (cxOf (CXE P w) P w K mg base ["self",p1,p2] qual (zag st) fI cdv A outer s H E) (zcc st) (tSeq (z5e (zy5 K (zwx (tVar 0) (zwx tm tNil)))) (tSeq (z2d K (tVar 0) (tVar 1) f) (z2d K (tVar 0) (tVar 2) g))))
  (hmsg:∀(e:Addr) (x y:V) (H:Hp) (Q:VK),okV two x y->(∀m,Q (.str m) H)->tm [some (.ref e),some x,some y] H Q) :
  FnOk P w K mg base (CXE P w) (k+1) fI fd ["self",p1,p2] (spX2 C f g two):=by
 refine F.okE S (fun vs H Q E h=>?_) fun cdv A outer s H vs Q E hr h=>⟨_,hbody cdv A outer s H E hr,?_⟩
 ·obtain⟨e,x,y,rfl,_⟩:=h;rfl
 ·obtain⟨e,x,y,rfl,he,ok,fg,h⟩:=h
  refine⟨.ref e,rfl,hmsg e x y H _ ok fun m=>?_⟩;refine⟨e,.str m,C,fI,none,rfl,he,q,?_⟩;refine⟨x,rfl,.ref e,rfl,e,C,rfl,hx,nf,.inl ⟨he,fun d hd=>?_⟩⟩;have de:d≠e:=fun z=>by rw[z,he] at hd;cases hd
  refine⟨y,rfl,.ref e,rfl,e,C,rfl,hx,ng,.inr ⟨d,[(f,x)],?_,zaj,(show 1<1000 by decide),?_⟩⟩
  ·rw[zai (Ne.symm de),zaj]
  ·show Q .non _
   rw[z47,show putF g y [(f,x)]=[(f,x),(g,y)] from by unfold putF;rw[if_neg fg];rfl];exact h d hd
end
def okW:T->Bool
 |.str b=>decide ((reprText b).length<=1000)
 |_=>false
def okM(two:Bool)(x y:T):Bool:=okW x&&(!two || okW y)
theorem z4o{W:Wd}{x:T}{u:V}(h:okW x=true)(d:Den W x u):∃a,u=.str a/\(reprText a).length<=1000:=by
 cases x with
 |str a=>exact⟨a,zbm.mp d,of_decide_eq_true h⟩
 |_=>cases h
noncomputable def zpu(C:Addr)(f g:Str)(two:Bool)(fr:DA):DS:=fun ρ=>(fr ρ).bind fun ts=>fun S=>match ts with
 |[x,y]=>if okM two x y=true then .exc C (some [(f,x),(g,y)]) S else .bad
 |_=>.bad
theorem z6t{W:Wd}{two:Bool}{x y:T}{u v:V}(h:okM two x y=true)(dx:Den W x u)(dy:Den W y v):okV two u v:=by
 unfold okM at h;rw[Bool.and_eq_true] at h;obtain⟨a,e1,e2⟩:=z4o h.1 dx;refine⟨a,e1,e2,fun t=>z4o ?_ dy⟩;have h2:=h.2;rw[t] at h2;simpa using h2
section
variable {X:Cx}{E:XK}{k:Nat}{C fI:Addr}{fd:FuncData}{ps:List Str}{f g y:Str}{two:Bool}{np cpos pos:Pos}{e:Expr}{es:List Expr}{fr:DA}{fa:DE}
theorem z2y(hx:zkh X E)(hc:X.calm=true)(fg:f≠g)(q:zd8 X.K C fI=true)(hf:PySem.W.isFn X.K (.ref fI)=true)(F:FnOk X.prog X.w X.K X.mg X.base (CXE X.prog X.w) k fI fd ps (spX2 C f g two))(hr:Room (k+1) X.A)(hb:ze5 X.K fd ps [])
  (hg:Gl X y) (hm:X.mg y=some (.ref C)) (ha:PA X (e::es) (RA E fr))
  (hdb:(y==("__debug__" : Str))=false:=by decide) (he:starEach (e::es) X.env=(false,eval e X.env)::starEach es X.env:=by rfl) (hpl:(backTo cpos (starEach es X.env)).any (·.1)=false:=by rfl) :
  PS X (.Raise (some (.Call (.Name y np) (e::es) [] cpos)) none pos) (RS E (zpu C f g two fr)):=zkj (zrc hx zrp hc q hf F hr hb hg hm ha hdb he hpl) fun D σ H h=>by
 obtain⟨W,S,ρ,rp,env,p⟩:=h;refine⟨W,S,ρ,rp,env,(Post.bind p).imp fun ts W1 S1 H1 l1 r1 p1 vs dv=>?_⟩
 split at p1
 case h_2=>exact p1.elim
 case h_1 tx ty=>
  split at p1
  case isFalse=>exact p1.elim
  case isTrue ok=>
   obtain⟨u,r0,rfl,du,d0⟩:=za3.mp dv;obtain⟨v,r1',rfl,dv',d1⟩:=za3.mp d0;obtain rfl:=zbo.mp d1;refine⟨by show 2<=sizeLine;rw[sizeLine_eq];omega,fun ea hea=>⟨ea,u,v,rfl,zaj,z6t ok du dv',fg,fun d hd=>⟨rfl,some d,?_,?_⟩⟩⟩
   ·have ne:ea≠d:=fun z=>by rw[z,zaj] at hd;cases hd
    rw[zai ne,zaj]
   ·have ne:d≠ea:=fun z=>by rw[z,zaj] at hd;cases hd
    have hd1:H1 d=none:=by rw[zai ne] at hd;exact hd
    have eqH:unt (upd (upd (upd H1 ea (excO ea C none)) ea (excO ea C (some d))) d (.xd [(f,u),(g,v)])) ea=upd H1 d (.xd [(f,u),(g,v)]):=by
     funext b;by_cases z:b=ea
     ·subst z
      rw[zkg,zai (Ne.symm ne)];exact hea.symm
     ·rw[zlu z]
      by_cases z2:b=d
      ·subst z2;rw[zaj,zaj]
      ·rw[zai z2,zai z,zai z,zai z2]
    rw[eqH];exact p1 W1 _ (some d) (Wd.le.refl _) (r1.extra hd1 _) ⟨_,zaj,r1.hsNone hd1,⟨u,_,rfl,du,⟨v,_,rfl,dv',rfl⟩⟩⟩
noncomputable def gXat(C:Addr)(f:Str)(t:T):M T:=fun S=>match t with
 | .obj k=>(match S[k]? with
   | some (.exc D (some fs))=>if D=C then(match fs.lookup f with
     |some t=>.ok t S
     |none=>.bad) else .bad
   |_=>.bad)
 |_=>.bad
theorem Zab (hX:XGet X.K C) (hn:PySem.W.findIn X.K (.ref C) f=some none) (he:PE X e (RE E fa)) (hb:attributeBase e f X.env (eval e X.env)=eval e X.env:=by rfl):PE X (.Attribute e f pos) (RE E (e1 (gXat C f) fa)):=
 zb2 (z87 he hb) fun σ H Q h=>re1 (r:=fun x H1 Q=>∃a C d fs v,x=.ref a/\H1 a=some (excL a C (some d))/\XGet X.K C/\PySem.W.findIn X.K (.ref C) f=some none/\H1 d=some (.xd fs)/\fs.lookup f=some v/\Q v H1) (fun t W S H v Q r d p=>by
  unfold gXat at p
  split at p
  case h_2=>exact p.elim
  case h_1 k=>
   split at p
   case h_2=>exact p.elim
   case h_1 D fs ec=>
    split at p
    case isFalse=>exact p.elim
    case isTrue eD=>
     subst eD
     split at p
     case h_2=>exact p.elim
     case h_1 t el=>
      obtain⟨rfl,hk⟩:=zb5.mp d;obtain⟨⟨dx,h1,h2⟩,_⟩:=r.cell k _ ec;cases dx with
      |none=>exact h2.elim
      | some d0=>
        obtain⟨ks,g1,g2⟩:=h2;obtain⟨v,lv,dv⟩:=(DenF.look g2).1 t el;exact⟨_,_,d0,ks,v,rfl,h1,hX,hn,(r.prv d0 _ g1).1,lv,now p r dv⟩) h
end
end MF
namespace MF
open PySem L2
noncomputable def Wd.unz(W:Wd)(a:Addr):Wd:=⟨W.HS,W.μ,W.n,fun b=>if b=a then none else W.Z b,W.P⟩
section
variable {W:Wd}{S:Sto}{H:Hp}
theorem Rep.lock(r:Rep W S H){k:Nat}{kvs:List (Key×T)}(h:S[k]?=some (.dic kvs))(o:Obj):∃ks,H (W.μ k)=some (.dK ks)/\DenK W kvs ks /\
  Rep (W.zed (W.μ k) (o,.dK ks)) (S.set k (.lck kvs)) (upd H (W.μ k) (.frz o (.dK ks)))/\W.le (W.zed (W.μ k) (o,.dK ks)):=by
 obtain⟨⟨ks,h1,h2⟩,h3⟩:=r.cell k _ h;have hk:=r.lt h;have zn:W.Z (W.μ k)=none:=r.noZ h (by intro _ z;cases z);have l:W.le (W.zed (W.μ k) (o,.dK ks)):=⟨fun _ _ e=>e,fun b q e=>by
  show(if b=W.μ k then some (o,HO.dK ks) else W.Z b)=some q;by_cases z:b=W.μ k
  ·rw[z,zn] at e;cases e
  ·rw[if_neg z];exact e,fun _ _ e=>e,Nat.le_refl _,fun _ _=>rfl⟩
 refine⟨ks,h1,h2,⟨fun b w e=>?_,?_,fun j c e=>?_,r.inj,fun b q e=>?_,fun b w e=>?_⟩,l⟩
 ·have ne:b≠W.μ k:=fun z=>by rw[z] at e;rw[show(W.zed (W.μ k) (o,HO.dK ks)).HS=W.HS from rfl,h3] at e;cases e
  exact⟨(r.sub b w e).1.at (zai ne),(r.sub b w e).2⟩
 ·rw[List.length_set];exact r.len
 ·by_cases z:k=j
  ·subst z
   have:c=.lck kvs:=by
    rw[List.getElem?_set_self (by rw[r.len];exact hk)] at e;exact(Option.some.inj e).symm
   subst this;exact⟨⟨o,ks,zaj,DenK.mono l _ _ h2⟩,h3⟩
  ·rw[List.getElem?_set_ne z] at e
   have hj:=r.lt e;have ne:W.μ j≠W.μ k:=fun q=>z (r.inj _ _ hk hj q.symm);exact⟨((r.cell j c e).1.at (zai ne)).mono l,(r.cell j c e).2⟩
 ·have e:(if b=W.μ k then some (o,HO.dK ks) else W.Z b)=some q:=e
  by_cases z:b=W.μ k
  ·rw[if_pos z] at e
   cases e;subst z;exact zaj
  ·rw[if_neg z] at e
   rw[zai z];exact r.zed b q e
 ·obtain⟨g1,g2,g3⟩:=r.prv b w e
  have ne:b≠W.μ k:=fun z=>g3 k hk z.symm;exact⟨by rw[zai ne];exact g1,g2,g3⟩
theorem zb6.unz{a b:Addr}:∀{c:Cell},zb6 W H b c->zb6 (W.unz a) H b c:=fun {c} h=>zb6.hs (W:=W) (W':=W.unz a) rfl rfl rfl (fun _ _ e=>e) h
theorem Rep.unlock(r:Rep W S H){k:Nat}{kvs:List (Key×T)}{o:Obj}{ks:List (Key×V)}(h:S[k]?=some (.lck kvs))(hz:H (W.μ k)=some (.frz o (.dK ks))) :
  Rep (W.unz (W.μ k)) (S.set k (.dic kvs)) (upd H (W.μ k) (.dK ks)):=by
 obtain⟨⟨o',ks',h1,h2⟩,h3⟩:=r.cell k _ h;rw[hz] at h1;cases h1;have hk:=r.lt h;refine⟨fun b w e=>?_,?_,fun j c e=>?_,r.inj,fun b q e=>?_,fun b w e=>?_⟩
 ·have ne:b≠W.μ k:=fun z=>by rw[z] at e;rw[show(W.unz (W.μ k)).HS=W.HS from rfl,h3] at e;cases e
  exact⟨(r.sub b w e).1.at (zai ne),(r.sub b w e).2⟩
 ·rw[List.length_set];exact r.len
 ·by_cases z:k=j
  ·subst z
   have:c=.dic kvs:=by
    rw[List.getElem?_set_self (by rw[r.len];exact hk)] at e;exact(Option.some.inj e).symm
   subst this;exact⟨⟨ks,zaj,DenK.hs (W:=W) (W':=W.unz _) rfl rfl rfl _ _ h2⟩,h3⟩
  ·rw[List.getElem?_set_ne z] at e
   have hj:=r.lt e;have ne:W.μ j≠W.μ k:=fun q=>z (r.inj _ _ hk hj q.symm);exact⟨((r.cell j c e).1.at (zai ne)).unz,(r.cell j c e).2⟩
 ·have e:(if b=W.μ k then none else W.Z b)=some q:=e
  by_cases z:b=W.μ k
  ·rw[if_pos z] at e;cases e
  ·rw[if_neg z] at e
   rw[zai z];exact r.zed b q e
 ·obtain⟨g1,g2,g3⟩:=r.prv b w e
  have ne:b≠W.μ k:=fun z=>g3 k hk z.symm;exact⟨by rw[zai ne];exact g1,g2,g3⟩
theorem Zac{W1 W4:Wd}{a:Addr}(zn:W1.Z a=none)(l:W1.le W4):W1.le (W4.unz a):=⟨l.hs,fun b q e=>by
 show(if b=a then none else W4.Z b)=some q;rw[if_neg (fun z=>by rw[z,zn] at e;cases e)];exact l.z b q e,l.p,l.n,l.μ⟩
noncomputable def zg1(kvs:List (Key×T)):List T:=kvs.map fun p=>.tup [kT p.1,p.2]
theorem DenK.at'{W:Wd}:∀{kvs:List (Key×T)} {ks:List (Key×V)} {i:Nat} {k:Key} {v:V},DenK W kvs ks->ks[i]?=some (k,v)->∃t,kvs[i]?=some (k,t)/\Den W t v
 |[],ks,_,_,_,h,e=>by rw[zcm.mp h] at e;simp at e
 | (k0,t0)::kvs,ks,i,k,v,h,e=>by
   obtain⟨v0,r,rfl,h1,h2⟩:=zce.mp h;cases i with
   |zero=>simp at e;obtain⟨rfl,rfl⟩:=e;exact⟨t0,rfl,h1⟩
   | succ i=>
     obtain⟨t,e1,e2⟩:=DenK.at' (i:=i) h2 (by simpa using e);exact⟨t,by simpa using e1,e2⟩
theorem z2z{a:Addr}{o:Obj}{kvs:List (Key×T)}{ks:List (Key×V)}(hz:W.Z a=some (o,.dK ks))(d:DenK W kvs ks):ItOk W (zg1 kvs) (fun _=>True) (Itd a o ks):=⟨fun i W' S' H' l r' _ hi=>by
 have h2:=r'.zed a _ (l.z a _ hz);rw[zg1,List.length_map,d.length] at hi;refine⟨⟨h2,hi⟩,fun x H'' y=>?_⟩;obtain⟨p,k,v,e1,hp,rfl,rfl⟩:=y;obtain⟨t,e2,d2⟩:=d.at' e1;have l2:W'.le (W'.frz p (.tup [kV k,v])):=Wd.frz_le (r'.hsNone hp);exact⟨W'.frz p (.tup [kV k,v]),.tup [kT k,t],l2,r'.frz hp _ trivial,by rw[zg1,List.getElem?_map,e2];rfl,zdz.mpr ⟨p,_,rfl,zaj,Dens.cons' (z4h k) (Dens.cons' (Den.mono (l.trans l2) _ _ d2) Dens.nil')⟩⟩,fun i W' S' H' l r' _ hi=>by
 have h2:=r'.zed a _ (l.z a _ hz);rw[zg1,List.length_map,d.length] at hi;exact⟨h2,Nat.le_of_eq hi.symm⟩⟩
end
open Classical in
def unl{α:Type}(k:Nat)(kvs:List (Key×T)):R α->R α
 |.ok a S=>if S[k]?=some (.lck kvs) then .ok a (S.set k (.dic kvs)) else .bad
 |_=>.bad
def zrs(f:List (Key×T)->List T)(nt:Nat)(js:List Nat)(fd:DE)(g:DG)(tc:DT)(te:DE)(fin:List T->M T):DE:=fun ρ=>(fd ρ).bind fun t=>fun S=>match t with
 | .obj k=>(match S[k]? with
   |some (.dic kvs)=>unl k kvs (M.bind (noX (zgf (fun _=>True) g tc te (f kvs) (List.replicate nt none++js.map fun j=>(ρ[j]?).join) [])) fin (S.set k (.lck kvs)))
   |_=>.bad)
 |_=>.bad
def iW(X:Cx)(J:Addr->Obj->List (Key×V)->It)(te:TE):TI:=fun σ H R=>te σ H fun x H1=>∃a kvs,x=.ref a /\
 ((H1 a=some (.dK kvs)/\∀o,(∀o' u,X.H₀ a≠some (.frz o' u))->R (J a o kvs) (upd H1 a (.frz o (.dK kvs))))\/∃o,H1 a=some (.frz o (.dK kvs))/\R (J a o kvs) H1)
def JOk(f:List (Key×T)->List T)(J:Addr->Obj->List (Key×V)->It):Prop:=∀{W:Wd} {a:Addr} {o:Obj} {kvs:List (Key×T)} {ks:List (Key×V)},W.Z a=some (o,.dK ks)->DenK W kvs ks->ItOk W (f kvs) (fun _=>True) (J a o ks)
theorem z6u:JOk zg1 Itd:=fun hz d=>z2z hz d
section
variable {X:Cx}{E:XK}{f:List (Key×T)->List T}{J:Addr->Obj->List (Key×V)->It}{fd:DE}{gl:TG}{g:DG}{tc:DT}{tcl:TT}{te:DE}{fb:DS}{fin:List T->M T}{nt:Nat}{js:List Nat}
theorem z6v{W1 W2 W4:Wd}{S4:Sto}{H4:Hp}{k:Nat}{kvs:List (Key×T)}{ks:List (Key×V)}{o:Obj}(r1n:k<W1.n)(zn:W1.Z (W1.μ k)=none)(l12:W1.le W2)(hz:W2.Z (W1.μ k)=some (o,.dK ks))(nf:∀o' u,X.H₀ (W1.μ k)≠some (.frz o' u))(l24:W2.le W4)(r4:Rep W4 S4 H4)(e4:S4[k]?=some (.lck kvs)){Rr:Hp->Prop}
  (h:∀W',W1.le W'->(W'.HS=W4.HS/\W'.μ=W4.μ/\W'.n=W4.n)->∀H',Rep W' (S4.set k (.dic kvs)) H'->Rr H'):Th X H4 Rr:=by
 have l14:=l12.trans l24;have e:=l14.μ k r1n;have z4:=r4.zed _ _ (l24.z _ _ hz);refine⟨W1.μ k,o,ks,z4,nf,?_⟩;have hu:=r4.unlock e4 (by rw[e];exact z4);rw[e] at hu;exact h _ (Zac zn l14) ⟨rfl,rfl,rfl⟩ _ hu
open Classical in
theorem z20(hJ:JOk f J)(hG:GT gl g)(htc:∀σ H Q,RT E0 tc σ H Q->tcl σ H Q)(hf:zrm E fin){σ:St}{H:Hp}{Q:VK}(h:RE E (zrs f nt js fd g tc te fin) σ H Q):zte nt js (iW X J (RE E fd)) gl tcl (RE E0 te) σ H (fun v H'=>Th X H' fun H''=>Q v H''):=by
 obtain⟨W,S,ρ,rp,env,p⟩:=h;refine⟨W,S,ρ,rp,env,(Post.bind p).imp fun t W1 S1 H1 l1 r1 p1 v dv=>?_⟩;cases t with
 | obj k=>
   obtain⟨rfl,hk⟩:=zb5.mp dv;simp only at p1
   split at p1
   case h_2=>exact p1.elim
   case h_1 kvs ek=>
    obtain⟨⟨ks,g1,g2⟩,_⟩:=r1.cell k _ ek;refine⟨W1.μ k,ks,rfl,.inl ⟨g1,fun o nf=>?_⟩⟩;obtain⟨ks',g1',g2',r2,l2⟩:=r1.lock ek o;rw[g1] at g1';cases g1';have zn:W1.Z (W1.μ k)=none:=r1.noZ ek (by intro _ z;cases z);have hz:(W1.zed (W1.μ k) (o,.dK ks)).Z (W1.μ k)=some (o,.dK ks):=by show(if W1.μ k=W1.μ k then some (o,HO.dK ks) else _)=_;rw[if_pos rfl]
    refine zrn (PF:=fun us S3=>Post E W1 (QV Q) (unl k kvs (fin us S3))) hG htc r2 ((env.mono l1).mono l2) (hJ hz (DenK.mono l2 _ _ g2)) (fun acc us W3 S3 H3 a hp r3 dacc l3 p4=>?_) ?_
    ·refine hf acc us _ W3 S3 H3 a (fun v H'=>Th X H' fun H''=>Q v H'') l3 hp r3 dacc ?_
     revert p4
     cases fin us S3 with
     |bad=>exact fun z=>z
     |exc _ _ _=>exact fun z=>z.elim
     | ok t S4=>
       intro p4 W4 H4 l4 r4 v4 d4;have p4:Post E W1 (QV Q) (if S4[k]?=some (.lck kvs) then .ok t (S4.set k (.dic kvs)) else .bad):=p4
       split at p4
       case isFalse=>exact p4.elim
       case isTrue e4=>exact z6v hk zn l2 hz nf l4 r4 e4 fun W' l' ⟨q1,q2,q3⟩ H' r'=>p4 W' H' l' r' v4 (Den.hs q1 q2 q3 _ _ d4)
    ·revert p1
     show Post E W1 (QV Q) (unl k kvs (M.bind (noX (zgf (fun _=>True) g tc te (f kvs) (List.replicate nt none++js.map fun j=>(ρ[j]?).join) [])) fin (S1.set k (.lck kvs))))->_;unfold M.bind noX;cases zgf (fun _=>True) g tc te (f kvs) (List.replicate nt none++js.map fun j=>(ρ[j]?).join) [] (S1.set k (.lck kvs)) with
     |bad=>exact fun z=>z
     |exc _ _ _=>exact fun z=>z.elim
     |ok us S3=>exact fun z W' H' _ _=>z
 |_=>exact p1.elim
end
section
variable {X:Cx}{E:XK}{elt iter c tg d:Expr}{fd:DE}{gl:TG}{g:DG}{tc:DT}{te:DE}{fin:List T->M T}{js:List Nat}{scope:Scope}{cl:List (Str×Addr)}{nts xs:List Str}{pos apos cpos:Pos}{elts:List Expr}{kk:Nat}{tp:Pos}{body:List Stmt}{fb:DS}
theorem z6w(hc:X.calm=true)(C:zfc X scope cl nts xs js)(hd:PE X d (RE E fd))(hg:∀fp s3 H2,PG (zba X scope cl (nts++xs) fp s3 H2) (.Tuple elts kk tp) gl)(hG:GT gl g)(ht:∀fp s3 H2,PT (zba X scope cl (nts++xs) fp s3 H2) c (RT E0 tc))(he:∀fp s3 H2,PE (zba X scope cl (nts++xs) fp s3 H2) elt (RE E0 te))(hf:zrm E fin)
  (hbase:attributeBase d "items" X.env (eval d X.env)=eval d X.env:=by rfl) (hline:(apos.endLine==cpos.line)=true:=by rfl)
  (hs:∀x,foldedSetIterable (.Call (.Attribute d "items" apos) [] [] cpos) X.env x=pure x:=by intro _;rfl):PE X (.ListComp elt [⟨.Tuple elts kk tp,.Call (.Attribute d "items" apos) [] [] cpos,[c],0⟩] scope pos) (RE E (zrs zg1 nts.length js fd g tc te fin)):=
 zb2 (z52 (zva hc C (z2b hd hbase hline) hg ht he hs)) fun σ H Q h=>z20 (X:=X) z6u hG (fun σ H Q h=>h) hf h
end
noncomputable def zvu(fk fv:DE):DE:=fun ρ S=>((fk ρ).bind fun k=>(fv ρ).bind fun v=>fun S'=>match keyT k,S'[S.length]? with
 |some key,some (.dic [])=>.ok (.obj S.length) (S'.set S.length (.dic [(key,v)]))
 |_,_=>.bad) (S++[.dic []])
section
variable {X:Cx}{E:XK}{o e k v:Expr}{fd fk fv:DE}{pos apos cpos:Pos}
theorem z6x(hk:PE X k (RE E fk))(hv:PE X v (RE E fv)):PE X (.Dict [some k] [v] pos) (RE E (zvu fk fv)):=zb2 (zyl (zmi hk hv zyk) rfl rfl (by simp) (by simp)) fun σ H Q h p hp=>by
 obtain⟨W,S,ρ,r,env,p0⟩:=h;have lA:W.le (W.add p):=Wd.add_le;have rA:=r.cellNew hp (.dic []) (.dK []) ⟨[],zaj,DenK.nil'⟩;have p0:Post E W (QV Q) (((fk ρ).bind fun k=>(fv ρ).bind fun v=>fun S'=>match keyT k,S'[S.length]? with
  |some key,some (.dic [])=>R.ok (T.obj S.length) (S'.set S.length (.dic [(key,v)]))
  |_,_=>.bad) (S++[.dic []])):=p0
 refine⟨W.add p,_,ρ,rA,env.mono lA,(Post.bind (zk3 p0 lA)).imp fun tk W1 S1 H1 l1 r1 p1 x dx=>?_⟩;refine⟨W1,S1,ρ,r1,(env.mono lA).mono l1,(Post.bind p1).imp fun tv W2 S2 H2 l2 r2 p2 y dy=>?_⟩
 split at p2
 case h_2=>exact p2.elim
 case h_1 key ek es=>
  have eN:S.length=W.n:=r.len;have hn:S.length<(W.add p).n:=by rw[eN];exact Nat.lt_succ_self _
  have eμ:W2.μ S.length=p:=by rw[(l1.trans l2).μ _ hn,eN,Wd.add_at]
  have hn2:=r2.lt es;obtain⟨⟨ks,g1,g2⟩,_⟩:=r2.cell _ _ es;obtain rfl:=zcm.mp g2;rw[eμ] at g1;refine⟨g1,[(key,y)],by rw[zje dx ek];rfl,by simp,?_⟩;have e2:zlt [] [(key,y)]=[(key,y)]:=rfl;rw[e2,<- eμ];exact p2 W2 _ (Wd.le.refl _) (r2.cellSet es _ _ ⟨_,zaj,DenK.cons' dy DenK.nil'⟩) _ (zb5.mpr ⟨rfl,hn2⟩)
end
def subL(L:List Addr)(D:Addr):Addr->Option Bool:=fun C=>if C∈L then some (decide (C=D)) else none
section
variable {K:PySem.W.Frag}{h D:Addr}{L:List Addr}
theorem Zad(D:Addr):bmVE.contains (.ref D)=false:=rfl
theorem zz7(C D:Addr):(Value.ref C==Value.ref D)=decide (C=D):=by
 by_cases e:C=D
 ·subst e;simp
 ·rw[decide_eq_false e];exact beq_eq_false_iff_ne.mpr (fun z=>e (Value.ref.inj z))
theorem z4p(m:∀C∈L,C≠h->zd2 K C=some (.ref h::bmVE))(mh:zd2 K h=some bmVE)(hD:D≠h):SubK K D (subL L D):=fun C b e=>by
 unfold subL at e
 split at e
 case isFalse=>cases e
 case isTrue hC=>
  cases e;by_cases z:C=h
  ·subst z;exact⟨_,mh,by rw[List.contains_cons,Zad,zz7,Bool.or_false];exact decide_eq_decide.mpr ⟨Eq.symm,Eq.symm⟩⟩
  ·refine⟨_,m C hC z,?_⟩
   rw[List.contains_cons,List.contains_cons,Zad,zz7,zz7,Bool.or_false,decide_eq_false (show¬D=h from hD),Bool.or_false];exact decide_eq_decide.mpr ⟨Eq.symm,Eq.symm⟩
end
theorem Zae{P:Program}{w:World}{mg:Str->Option Value}{base:Heap}{K:PySem.W.Frag}{k:Nat}{f:Addr}{fd:FuncData}{ps:List Str}{n:Nat}:FnOk P w K mg base (CXE P w) k f fd ps (spM n fun _=>M.bad):=
 ⟨fun vs H Q E h=>by obtain⟨_,_,_,_,_,_,p⟩:=h;exact p.elim,fun A outer s H args us vs Q E _ _ _ _ h=>by obtain⟨_,_,_,_,_,_,p⟩:=h;exact p.elim⟩
end MF
namespace L2
open PySem PySem.Spec PyProof.Rows
section
variable {X:Cx}{pins:List (Addr×Obj)}{σ:List (Option V)}{H:Hp}{s:Shared}{h':Heap}
theorem Inv.around{t':Nat}(I:Inv X pins σ H s)(k:∀b o,b≠X.env.locals->s.heap.get? b=some o->h'.get? b=some o)(hn:∀m,s.heap.Ns X.env.locals m->h'.Ns X.env.locals m):Inv X pins σ H { s with heap:=h',toks:=t' }:=by
 have nL:∀b u,H b=some u->b≠X.env.locals:=fun b u e z=>by rw[z,I.free] at e;cases e
 refine I.step (g':=s.gens) (d':=s.drawn) (ch:=[]) (fun b hb=>absurd hb List.not_mem_nil) (fun b o hl _ _ e _=>k b o hl e) (fun b o hl _ _ e _=>⟨o.slots,k b o hl e⟩) (fun _ _ _ _ n=>n) (fun b o _ e=>?_) (fun _ _ e=>e) (fun _ _ _ e=>e) (fun b ps e=>⟨#[],by rw[e];simp⟩) hn (fun b u e=>?_) I.bare
 ·by_cases z:b=X.env.locals
  ·obtain⟨m,hm,_⟩:=I.loc
   obtain⟨o',es,ep,ho,_⟩:=hn m hm;exact⟨o',by rw[z];exact ho⟩
  ·exact⟨o,k b o z e⟩
 ·refine(I.hok b u e).stay (fun c v hc q=>k c v ?_ q) (fun _ q=>q) fun _ _ q=>q
  rcases hc with z | z
  ·rw[z];exact nL b u e
  ·exact nL c _ z
theorem Zaf{h:Heap}{a:Addr}{m m':Str->Option Value}(p:h.Ns a m)(q:h.Ns a m'):m=m':=by
 obtain⟨o,es,ep,ho,hd,_,l⟩:=p;obtain⟨o',es',ep',ho',hd',_,l'⟩:=q;rw[ho] at ho';cases ho';rw[hd] at hd';cases hd';funext n;rw[<- l n,l' n]
theorem zpv:∀{xs:List V} {us:List Value} {i:Nat} {u:Value},Vals xs us->us[i]?=some u->∃x,xs[i]?=some x/\RelV x u
 |_,_,_,_,.nil,e=>by simp at e
 |_,_,0,_,.cons r _,e=>by simp at e;subst e;exact⟨_,rfl,r⟩
 | _,_,i+1,_,.cons _ t,e=>by
   obtain⟨x,e1,e2⟩:=zpv (i:=i) t (by simpa using e);exact⟨x,by simpa using e1,e2⟩
theorem zz8(hc:X.calm=true):zju X (.builtin "any") (fun xs H Q=>∃(a:Addr) (bs:List Bool),xs=[.ref a]/\Rd H a (.lst (bs.map V.bl))/\Q (.bl (bs.any id)) H):=by
 intro pins s σ H xs us Q I r h;obtain⟨a,bs,rfl,rd,q⟩:=h;obtain⟨u,rfl,rx⟩:=zs4 r;cases (show u=Value.ref a from rx);obtain⟨z,its,n,rv,e⟩:=rd.ok I.hok;have hl:s.heap.IsList a its.toArray:=⟨_,e,rfl,n,rfl⟩;have hlen:=rv.length;have alt:=Heap.lt_size e;refine call_any_walk (wpAny_pyIter_list hl ?_);have hh:X.A.in1.handled=none:=I.ok.hd hc;refine⟨_,_,_,_,_,_,fun i=>bs.getD i false,rfl,Walks.list hh s.heap.objs.size a (Nat.ne_of_lt alt) its.toArray,⟨⟨_,Heap.get?_push_size _ rfl,rfl,rfl⟩,hl.push _⟩,?_,fun h' tk hk=>?_⟩
 ·intro i v s' Q' E' hP hQ
  obtain⟨x,e1,e2⟩:=zpv (i:=i) (u:=v) rv (by simpa using hP);rw[List.getElem?_map] at e1;cases e3:bs[i]? with
  |none=>rw[e3] at e1;cases e1
  | some b=>
    rw[e3] at e1;cases e1;cases (show v=Value.bool b from e2);have:bs.getD i false=b:=by simp[List.getD,e3]
    have hQ:Q' (bs.getD i false) s':=hQ;rw[this] at hQ;exact wpAny_truthy_bool hQ
 ·have ev:(List.range its.toArray.size).any (fun i=>bs.getD i false)=bs.any id:=by
   rw[List.size_toArray,<- hlen,List.length_map,Bool.eq_iff_iff,List.any_eq_true,List.any_eq_true];constructor
   ·rintro⟨i,hi,e⟩
    have hi:=List.mem_range.mp hi;refine⟨bs[i],List.getElem_mem hi,?_⟩;simpa[List.getD,List.getElem?_eq_getElem hi] using e
   ·rintro⟨b,hb,e⟩
    obtain⟨i,hi,rfl⟩:=List.getElem_of_mem hb;exact⟨i,List.mem_range.mpr hi,by simpa[List.getD,List.getElem?_eq_getElem hi] using e⟩
  rw[ev];exact⟨.bl _,H,I.kept fun b o eb=>hk b o (by simpa using Nat.ne_of_lt (Heap.lt_size eb)) (Heap.get?_push_of_some _ eb),rfl,q⟩
def rMin:List V->Hp->VK->Prop:=fun xs H Q=>∃(a:Addr) (ys:List V) (kf:Nat->Int),xs=[.ref a]/\Rd H a (.lst ys)/\0<ys.length/\(∀(i:Nat) x,ys[i]?=some x->∃b zs,x=.ref b/\Rd H b (.lst zs)/\kf i=(zs.length:Int)) /\
 ∀(i:Nat) x,ys[i]?=some x->(∀j,j<ys.length->kf i<=kf j/\(j<i->kf i<kf j))->Q x H
theorem ztw{H:Hp}{a:Addr}{o:HO}(r:Rd H a o):∃u,H a=some u:=by
 rcases r with r | ⟨q,r⟩
 ·exact⟨_,r⟩
 ·exact⟨_,r⟩
theorem ztx{xs:List V}{us:List Value}{Q:VK}{E:Value->Shared->Prop}(hc:X.calm=true)(I:Inv X pins σ H s)(r:Vals xs us)(h:rMin xs H Q) :
  wpAny (model X.prog X.w) X.A (call (.builtin "min") us [(Str.ofString "key",.builtin "len")]) (fun u s'=>∃v H',Inv X pins σ H' s'/\RelV v u/\Q v H') E s:=by
 obtain⟨a,ys,kf,rfl,rd,hne,hk,q⟩:=h;obtain⟨u,rfl,rx⟩:=zs4 r;cases (show u=Value.ref a from rx);obtain⟨z,its,n,rv,e⟩:=rd.ok I.hok;obtain⟨m,hm,_⟩:=I.loc;have hlen:=rv.length;have nL:∀b u,H b=some u->b≠X.env.locals:=fun b u e z=>by rw[z,I.free] at e;cases e
 have h0:∀b,({}:Heap).get? b=none:=by intro b;simp[Heap.get?]
 obtain⟨news,mem⟩:∃news:List (Addr×Obj),∀b o,(b,o)∈news↔b≠X.env.locals/\s.heap.get? b=some o:=by
  refine⟨(List.range s.heap.objs.size).filterMap fun b=>if b=X.env.locals then none else(s.heap.get? b).map fun o=>(b,o),fun b o=>?_⟩;rw[List.mem_filterMap];constructor
  ·rintro⟨c,_,e⟩
   by_cases z:c=X.env.locals
   ·rw[if_pos z] at e;cases e
   ·rw[if_neg z] at e
    cases e2:s.heap.get? c with
    |none=>rw[e2] at e;cases e
    |some o'=>rw[e2] at e;cases e;exact⟨z,e2⟩
  ·rintro⟨z,e⟩
   exact⟨b,List.mem_range.mpr (Heap.lt_size e),by rw[if_neg z,e];rfl⟩
 have F:Fr {} X.env.locals s.heap m:=⟨hm,fun b o e=>(by rw[h0] at e;cases e),Nat.zero_le _⟩;have N:News {} X.env.locals s.heap news:=fun p hp=>by
  obtain⟨b,o⟩:=p;obtain⟨h1,h2⟩:=(mem b o).mp hp;exact⟨h2,h1,h0 _⟩
 obtain⟨ua,ea⟩:=ztw rd;have hl:∀h,Fr {} X.env.locals h m->News {} X.env.locals h news->h.IsList a its.toArray:=fun h _ N'=>⟨_,(N' (a,_) ((mem a _).mpr ⟨nL a _ ea,e⟩)).1,rfl,n,rfl⟩;refine kmb_min (kid := "len") (vs:=its) kf (I.ok.hd hc) F N hl (by rw[<- hlen];exact hne) (fun i v hv h tk own F' N'=>?_) (fun i v h' tk' hv hb F' N'=>?_)
 ·obtain⟨x,e1,e2⟩:=zpv rv hv
  obtain⟨b,zs,rfl,rdb,ek⟩:=hk i x e1;cases (show v=Value.ref b from e2);obtain⟨z2,its2,n2,rv2,eb⟩:=rdb.ok I.hok;obtain⟨ub,eub⟩:=ztw rdb;have hlb:h.IsList b its2.toArray:=⟨_,(N' (b,_) (List.mem_append_left _ ((mem b _).mpr ⟨nL b _ eub,eb⟩))).1,rfl,n2,rfl⟩;have hl2:=rv2.length;have hs:sizeLine=16777216:=sizeLine_eq;refine Calls.call_len_list (s:={ s with heap:=h,toks:=tk }) hlb (by simp only[List.size_toArray];omega) ?_;have ek2:kf i=((its2.toArray.size:Nat):Int):=by rw[ek,List.size_toArray,hl2]
  rw[ek2];exact KskEnd.intro F' N' fun p hp=>hp
 ·obtain⟨x,e1,e2⟩:=zpv rv hv
  exact⟨x,H,I.around (fun b o hb eb=>(N' (b,o) ((mem b o).mpr ⟨hb,eb⟩)).1) (fun m' hm'=>by rw[Zaf hm' hm];exact F'.ns),e2,q i x e1 fun j hj=>hb j (by rw[<- hlen];exact hj)⟩
theorem zz9{e:Expr}{te:TA}{p kp kpos pos:Pos}(hc:X.calm=true)(hg:Gl X "min")(hm:X.mg "min" = none)(hg2:Gl X "len")(hm2:X.mg "len" = none)(he:PA X [e] te)
  (hb:backTo pos (starEach [e] X.env)=(false,eval e X.env)::backTo pos (starEach [] X.env):=by rfl) (hpl:(backTo pos (starEach [e] X.env)).any (·.1)=false:=by rfl) :
  PE X (.Call (.Name "min" p) [e] [⟨some "key",.Name "len" kp,kpos⟩] pos) (tCB rMin te):=by
 intro pins s σ H Q I h;refine wpAny_Call_Name_kw (zmr I hg hm boot_min ?_);refine callWith_kw (thn (he pos pins s σ H _ I h) fun us s1 hq_=>?_) hb hpl;obtain⟨vs,H1,I1,r1,q1⟩:=hq_;refine kws_cons (zmr I1 hg2 hm2 boot_len (kws_nil ?_));exact ztx hc I1 r1 q1
theorem z21{e:Expr}{te:TE}{pos:Pos}(hgd:X.A.guards=some [])(hu:X.A.units+64<cLine)(he:PE X e te):PE X (.FormattedValue e 114 none pos) (fun σ H Q=>te σ H fun v H1=>∃d a,MF.RdD H1 d v/\v=.ref a/\d.showable=true/\d.hasDict=false/\d.depth<=50/\d.shown.length<=sizeLine/\Q (.str d.shown) H1):=by
 intro pins s σ H Q I h;refine wpAny_FormattedValue_repr (thn (he pins s σ H _ I h) fun v s1 hq_=>?_);obtain⟨x,H1,I1,r,d,a,rd,e,hs,hd,hdep,l,q⟩:=hq_;subst e;cases (show v=Value.ref a from r);obtain⟨as,rr⟩:=MF.reads_of I1.hok d _ _ rd rfl;refine pyReprObj_of_reads rr hs (fun z=>by rw[hd] at z;cases z) hgd (by omega) (fun b o e=>e) (fun h' u tk hk=>?_) l;exact formatField_str (hsz:=l) fun t' tk=>⟨.str _,H1,(I1.kept (t':=tk) hk),⟨t',rfl⟩,q⟩
end
end L2
namespace MF
open PySem L2
noncomputable def zrt:List T->Option (List Bool)
 |[]=>some []
 |.bl b::ts=>(zrt ts).map (b::·)
 |_::_=>none
theorem z0a{W:Wd}:∀{ts:List T} {vs:List V} {bs:List Bool},Dens W ts vs->zrt ts=some bs->vs=bs.map V.bl
 |[],vs,ys,h,e=>by cases e;exact zbo.mp h
 | t :: ts,vs,ys,h,e=>by
   obtain⟨v,r,rfl,h1,h2⟩:=za3.mp h;cases t with
   | bl x=>
     simp only[zrt] at e;obtain⟨zs,e1,rfl⟩:=Option.map_eq_some_iff.mp e;rw[zbl.mp h1,z0a h2 e1];rfl
   |_=>simp[zrt] at e
def gAny(t:T):M T:=fun S=>match (zam S t).bind zrt with
 |some bs=>.ok (.bl (bs.any id)) S
 |none=>.bad
noncomputable def z22(S:Sto)(ts:List T):Option (List Nat):=mapO (fun t=>(zam S t).map List.length) ts
def zna(ls:List Nat)(i:Nat):Prop:=∃n,ls[i]?=some n/\∀j k,ls[j]?=some k->n<=k/\(j<i->n<k)
theorem zna.one{ls:List Nat}{i j:Nat}(a:zna ls i)(b:zna ls j):i=j:=by
 obtain⟨n,e1,h1⟩:=a;obtain⟨k,e2,h2⟩:=b;have p:=h1 j k e2;have q:=h2 i n e1;rcases Nat.lt_trichotomy i j with h | h | h
 ·have:=q.2 h;omega
 ·exact h
 ·have:=p.2 h;omega
open Classical in
noncomputable def gMin(t:T):M T:=fun S=>match zam S t with
 | some ts=>(match z22 S ts with
   | some ls=>if h:∃i,zna ls i then(match ts[h.choose]? with
     |some u=>.ok u S
     |none=>.bad) else .bad
   |none=>.bad)
 |none=>.bad
theorem z0b{α β:Type}{f:α->Option β}:∀{l:List α} {m:List β},mapO f l=some m->l.length=m.length/\∀(i:Nat) x,l[i]?=some x->∃y,m[i]?=some y/\f x=some y
 |[],m,e=>by cases e;exact⟨rfl,fun i x h=>by simp at h⟩
 | a :: l,m,e=>by
   unfold mapO at e;cases e1:f a with
   |none=>simp[e1] at e
   | some b=>
     cases e2:mapO f l with
     |none=>simp[e1,e2] at e
     | some r=>
       simp[e1,e2] at e;subst e;obtain⟨h1,h2⟩:=z0b e2;refine⟨by simp[h1],fun i x h=>?_⟩;cases i with
       |zero=>simp at h;subst h;exact⟨b,rfl,e1⟩
       |succ i=>simpa using h2 i x (by simpa using h)
theorem zru:∀(l:List Str),PyData.showableAll (l.map PyData.str)=true
 |[]=>by simp[PyData.showableAll]
 |a::r=>by simp[PyData.showableAll,PyData.showable,zru r]
theorem zrv:∀(l:List Str),PyData.hasDictAll (l.map PyData.str)=false
 |[]=>by simp[PyData.hasDictAll]
 |a::r=>by simp[PyData.hasDictAll,PyData.hasDict,zrv r]
theorem znb:∀(l:List Str),PyData.depthAll (l.map PyData.str)=0
 |[]=>by simp[PyData.depthAll]
 |a::r=>by simp[PyData.depthAll,PyData.depth,znb r]
theorem zrw{H:Hp}:∀(l:List Str),RdDs H (l.map PyData.str) (l.map V.str)
 |[]=>by simp[RdDs]
 | a::r=>by
   simp only[List.map_cons,RdDs];exact⟨_,_,rfl,by simp[RdD],zrw r⟩
section
variable {X:Cx}{E:XK}{e:Expr}{fa:DE}{pos p kp kpos:Pos}
theorem Zcf(hc:X.calm=true)(gl:Gl X "any")(hm:X.mg "any" = none)(ha:PE X e (RE E fa))
  (he:starEach [e] X.env=(false,eval e X.env)::starEach [] X.env:=by rfl) (hpl:(backTo pos (starEach [] X.env)).any (·.1)=false:=by rfl):PE X (.Call (.Name "any" p) [e] [] pos) (RE E (e1 gAny fa)):=
 zto (zz8 hc) (fun t W S H v Q r d p=>by
  unfold gAny at p;cases e:(zam S t).bind zrt with
  |none=>rw[e] at p;exact p.elim
  | some bs=>
    rw[e] at p;obtain⟨ts,e1,e2⟩:=Option.bind_eq_some_iff.mp e;obtain⟨a,vs,rfl,h1,h2⟩:=r.list d e1;rw[z0a h2 e2] at h1;exact⟨a,bs,rfl,h1,now p r (zbl.mpr rfl)⟩) gl hm PyProof.Rows.boot_any ha (by decide) (by decide) he hpl
theorem z23 (hc:X.calm=true) (hg:Gl X "min") (hm:X.mg "min" = none) (hg2:Gl X "len") (hm2:X.mg "len" = none) (ha:PE X e (RE E fa))
  (hs:starEach [e] X.env=(false,eval e X.env)::starEach [] X.env:=by rfl)
  (hb:backTo pos (starEach [e] X.env)=(false,eval e X.env)::backTo pos (starEach [] X.env):=by rfl) (hpl:(backTo pos (starEach [e] X.env)).any (·.1)=false:=by rfl) :
  PE X (.Call (.Name "min" p) [e] [⟨some "key",.Name "len" kp,kpos⟩] pos) (RE E (e1 gMin fa)):=
 zb2 (zz9 hc hg hm hg2 hm2 (zfr ha zls hs) hb hpl) fun σ H Q h=>re1 (r:=fun x H Q=>rMin [x] H Q) (fun t W S H v Q r d p=>by
  unfold gMin at p;cases e1:zam S t with
  |none=>simp only[e1] at p;exact p.elim
  | some ts=>
    simp only[e1] at p;cases e2:z22 S ts with
    |none=>simp only[e2] at p;exact p.elim
    | some ls=>
      simp only[e2] at p
      split at p
      case isFalse=>exact p.elim
      case isTrue hx=>
       obtain⟨a,vs,rfl,h1,h2⟩:=r.list d e1;obtain⟨l1,l2⟩:=z0b e2;have hlen:=h2.length;refine⟨a,vs,fun i=>((ls[i]?).getD 0:Nat),rfl,h1,?_,fun i x ex=>?_,fun i x ex hbest=>?_⟩
       ·obtain⟨i,n,en,_⟩:=hx
        have:=(List.getElem?_eq_some_iff.mp en).1;omega
       ·obtain⟨tx,et,dx⟩:=h2.get' ex
        obtain⟨n,en,hn⟩:=l2 i tx et;obtain⟨us,eu,rfl⟩:=Option.map_eq_some_iff.mp hn;obtain⟨b,ws,rfl,g1,g2⟩:=r.list dx eu;refine⟨b,ws,rfl,g1,?_⟩;show(((ls[i]?).getD 0:Nat):Int)=_;rw[en,<- g2.length];rfl
       ·obtain⟨tx,et,dx⟩:=h2.get' ex
        obtain⟨n,en,hn⟩:=l2 i tx et;have bi:zna ls i:=⟨n,en,fun j k ek=>by
         have hj:j<vs.length:=by have:=(List.getElem?_eq_some_iff.mp ek).1;omega
         have:=hbest j hj;simp only[en,ek,Option.getD_some] at this;omega⟩
        have ec:=zna.one hx.choose_spec bi;rw[ec,et] at p;exact now p r dx) h
end
end MF
namespace MF
open PySem L2 PyProof.Rows
open Classical in
def Zag(ys:List Str):List Str:=if h:∃zs:List Str,zs.Perm ys/\sortedS zs=true then h.choose else ys
def Zcg(t:T):M T:=fun S=>match (zam S t).bind zh7 with
 |some ys=>if ys.length<64 then .ok (.lst ((Zag ys).map T.str)) S else .bad
 |none=>.bad
theorem zrx{W:Wd}:∀(l:List Str),Dens W (l.map T.str) (l.map V.str)
 |[]=>Dens.nil'
 |a::r=>Dens.cons' (zbm.mpr rfl) (zrx r)
def spX1(C:Addr)(f:Str):Sp:=fun vs H Q _=>∃(e a:Addr) (zs:List Str),vs=[.ref e,.ref a]/\H e=some (excO e C none)/\Rd H a (.lst (zs.map V.str))/\zs.length<=1000/\(PyData.shown (.list (zs.map PyData.str))).length<=800 /\
 ∀l d,H l=none->l≠d->H d=none->Q .non (upd (upd (upd H l (.lst (zs.map V.str))) e (excO e C (some d))) d (.xd [(f,.ref l)]))
section
variable {P:Program}{w:World}{K:PySem.W.Frag}{mg:Str->Option Value}{base:Heap}
theorem z24{qual:Str}{st:Stmt}{dV:Value}{C fI:Addr}{fd:FuncData}{p1 f:Str}{k:Nat}{tm tl:TE}(F:FunV K "__init__" qual st dV fI fd)(S:zal ["self",p1] ["self",p1] (zag st))
  (hx:XCls K C) (q:zd8 K C fI=true) (nf:PySem.W.findIn K (.ref C) f=some none)
  (hbody:∀(cdv:Value) (A:Around) (outer:List Env) (s:Shared) (H:Hp) (E:XK),Room k (A.deeper (envOfC qual (zag st) s.heap.objs.size fI cdv)) ->
   PSs (cxOf (CXE P w) P w K mg base ["self",p1] qual (zag st) fI cdv A outer s H E) (zcc st) (tSeq (z5e (zy5 K (zwx (tVar 0) (zwx tm tNil)))) (z2d K (tVar 0) tl f)))
  (hmsg:∀(e a:Addr) (zs:List Str) (H:Hp) (Q:VK),Rd H a (.lst (zs.map V.str))->(PyData.shown (.list (zs.map PyData.str))).length<=800->(∀m,Q (.str m) H)->tm [some (.ref e),some (.ref a)] H Q)
  (hlist:∀(e a:Addr) (zs:List Str) (H:Hp) (Q:VK),Rd H a (.lst (zs.map V.str))->(∀l,H l=none->Q (.ref l) (upd H l (.lst (zs.map V.str))))->tl [some (.ref e),some (.ref a)] H Q) :
  FnOk P w K mg base (CXE P w) (k+1) fI fd ["self",p1] (spX1 C f):=by
 refine F.okE S (fun vs H Q E h=>?_) fun cdv A outer s H vs Q E hr h=>⟨_,hbody cdv A outer s H E hr,?_⟩
 ·obtain⟨e,a,zs,rfl,_⟩:=h;rfl
 ·obtain⟨e,a,zs,rfl,he,rd,hz,hsh,h⟩:=h
  refine⟨.ref e,rfl,hmsg e a zs H _ rd hsh fun m=>?_⟩;refine⟨e,.str m,C,fI,none,rfl,he,q,?_⟩;refine hlist e a zs H _ rd fun l hl=>?_;have le:l≠e:=fun z=>by rw[z,he] at hl;cases hl
  refine⟨.ref e,rfl,e,C,rfl,hx,nf,.inl ⟨by rw[zai (Ne.symm le)];exact he,fun d hd=>?_⟩⟩;have dl:d≠l:=fun z=>by rw[z,zaj] at hd;cases hd
  rw[zai dl] at hd;exact h l d hl (Ne.symm dl) hd
end
noncomputable def zpw(C:Addr)(f:Str)(fr:DA):DS:=fun ρ=>(fr ρ).bind fun ts=>fun S=>match ts with
 | [x]=>(match (zam S x).bind zh7 with
   |some zs=>if zs.length<=1000/\(PyData.shown (.list (zs.map PyData.str))).length<=800 then .exc C (some [(f,.lst (zs.map T.str))]) S else .bad
   |none=>.bad)
 |_=>.bad
section
variable {X:Cx}{E:XK}{k:Nat}{C fI:Addr}{fd:FuncData}{ps:List Str}{f y:Str}{np cpos pos:Pos}{e:Expr}{es:List Expr}{fr:DA}
theorem z25 (hx:zkh X E) (hc:X.calm=true) (q:zd8 X.K C fI=true) (hf:PySem.W.isFn X.K (.ref fI)=true) (F:FnOk X.prog X.w X.K X.mg X.base (CXE X.prog X.w) k fI fd ps (spX1 C f)) (hr:Room (k+1) X.A) (hb:ze5 X.K fd ps [])
  (hg:Gl X y) (hm:X.mg y=some (.ref C)) (ha:PA X (e::es) (RA E fr))
  (hdb:(y==("__debug__" : Str))=false:=by decide) (he:starEach (e::es) X.env=(false,eval e X.env)::starEach es X.env:=by rfl) (hpl:(backTo cpos (starEach es X.env)).any (·.1)=false:=by rfl) :
  PS X (.Raise (some (.Call (.Name y np) (e::es) [] cpos)) none pos) (RS E (zpw C f fr)):=zkj (zrc hx zrp hc q hf F hr hb hg hm ha hdb he hpl) fun D σ H h=>by
 obtain⟨W,S,ρ,rp,env,p⟩:=h;refine⟨W,S,ρ,rp,env,(Post.bind p).imp fun ts W1 S1 H1 l1 r1 p1 vs dv=>?_⟩
 split at p1
 case h_2=>exact p1.elim
 case h_1 tx=>
  cases ez:(zam S1 tx).bind zh7 with
  |none=>simp only[ez] at p1;exact p1.elim
  | some zs=>
    simp only[ez] at p1
    split at p1
    case isFalse=>exact p1.elim
    case isTrue ok=>
     obtain⟨u,rfl,du⟩:=zfi dv;obtain⟨us,e1,e2⟩:=Option.bind_eq_some_iff.mp ez;obtain⟨a,ws,rfl,g1,g2⟩:=r1.list du e1;rw[zpk g2 e2] at g1;obtain⟨ua,eua⟩:=ztw g1;refine⟨by show 1<=sizeLine;rw[sizeLine_eq];omega,fun ea hea=>?_⟩;have aea:a≠ea:=fun z=>by rw[z,hea] at eua;cases eua
     have g1':Rd (upd H1 ea (excO ea C none)) a (.lst (zs.map V.str)):=by
      rcases g1 with g | ⟨o,g⟩
      ·exact .inl (by rw[zai aea];exact g)
      ·exact .inr ⟨o,by rw[zai aea];exact g⟩
     refine⟨ea,a,zs,rfl,zaj,g1',ok.1,ok.2,fun l d hl ld hd=>⟨rfl,some d,?_,?_⟩⟩
     ·have ne:ea≠d:=fun z=>by rw[z,zaj] at hd;cases hd
      rw[zai ne,zaj]
     ·have dne:d≠ea:=fun z=>by rw[z,zaj] at hd;cases hd
      have lne:l≠ea:=fun z=>by rw[z,zaj] at hl;cases hl
      have hd1:H1 d=none:=by rw[zai dne] at hd;exact hd
      have hl1:H1 l=none:=by rw[zai lne] at hl;exact hl
      have eqH:unt (upd (upd (upd (upd H1 ea (excO ea C none)) l (.lst (zs.map V.str))) ea (excO ea C (some d))) d (.xd [(f,.ref l)])) ea=upd (upd H1 l (.lst (zs.map V.str))) d (.xd [(f,.ref l)]):=by
       funext b;by_cases z:b=ea
       ·subst z
        rw[zkg,zai (Ne.symm dne),zai (Ne.symm lne)];exact hea.symm
       ·rw[zlu z]
        by_cases z2:b=d
        ·subst z2;rw[zaj,zaj]
        ·rw[zai z2,zai z,zai z2]
         by_cases z3:b=l
         ·subst z3;rw[zaj,zaj]
         ·rw[zai z3,zai z,zai z3]
      rw[eqH];have l2:W1.le (W1.frz l (.lst (zs.map V.str))):=Wd.frz_le (r1.hsNone hl1);have r2:=r1.frz hl1 (.lst (zs.map V.str)) trivial;have hd2:upd H1 l (.lst (zs.map V.str)) d=none:=by rw[zai (Ne.symm ld)];exact hd1
      exact p1 _ _ (some d) l2 (r2.extra hd2 _) ⟨_,zaj,r2.hsNone hd2,⟨.ref l,_,rfl,zdy.mpr ⟨l,_,rfl,zaj,zrx zs⟩,rfl⟩⟩
end
theorem len1{α:Type}:∀{l:List α},l.length=1->∃a0,l=[a0]
 |[a0],_=>⟨a0,rfl⟩
theorem len2{α:Type}:∀{l:List α},l.length=2->∃a0 a1,l=[a0,a1]
 |[a0,a1],_=>⟨a0,a1,rfl⟩
theorem len3{α:Type}:∀{l:List α},l.length=3->∃a0 a1 a2,l=[a0,a1,a2]
 |[a0,a1,a2],_=>⟨a0,a1,a2,rfl⟩
theorem len4{α:Type}:∀{l:List α},l.length=4->∃a0 a1 a2 a3,l=[a0,a1,a2,a3]
 |[a0,a1,a2,a3],_=>⟨a0,a1,a2,a3,rfl⟩
theorem len5{α:Type}:∀{l:List α},l.length=5->∃a0 a1 a2 a3 a4,l=[a0,a1,a2,a3,a4]
 |[a0,a1,a2,a3,a4],_=>⟨a0,a1,a2,a3,a4,rfl⟩
theorem len6{α:Type}:∀{l:List α},l.length=6->∃a0 a1 a2 a3 a4 a5,l=[a0,a1,a2,a3,a4,a5]
 |[a0,a1,a2,a3,a4,a5],_=>⟨a0,a1,a2,a3,a4,a5,rfl⟩
def gNeg(t:T):M T:=fun S=>match t with
 |.int i=>.ok (.int (-i)) S
 |_=>.bad
section
variable {X:Cx}{E:XK}{e:Expr}{fa:DE}{pos:Pos}
theorem Zch(ha:PE X e (RE E fa)):PE X (.UnaryOp .USub e pos) (RE E (e1 gNeg fa)):=zb2 (Zbf z8i ha) fun σ H Q h=>re1 (r:=rU fun i=>.int (-i)) (fun t W S H v Q r d p=>by
 unfold gNeg at p
 split at p
 ·rename_i i;exact⟨i,zay.mp d,now p r (zay.mpr rfl)⟩
 ·exact p.elim) h
end
def Zah(te:TE):TE:=fun σ H Q=>te σ H fun v H1=>∃d a,RdD H1 d v/\v=.ref a/\d.showable=true/\d.hasDict=false/\d.depth<=50/\d.shown.length<=sizeLine/\Q (.str d.shown) H1
def Zci(te:TE):TE:=fun σ H Q=>te σ H fun v H1=>∃y,v=.str y/\(reprText y).length<=sizeLine/\Q (.str (reprText y)) H1
def z6y(K:PySem.W.Frag):TE:=tCB (fun xs H Q=>∃p ys,xs=[.ref p]/\(SqL K H p ys\/SqT K H p ys)/\∀l,H l=none->Q (.ref l) (upd H l (.lst ys))) (zwx (tVar 1) tNil)
theorem z26(pre:String)(hp:(Str.ofString pre).length<=100):∀(e a:Addr) (zs:List Str) (H:Hp) (Q:VK),Rd H a (.lst (zs.map V.str))->(PyData.shown (.list (zs.map PyData.str))).length<=800->(∀m,Q (.str m) H)->tJ Str.empty [tC (.str pre),Zah (tVar 1)] [some (.ref e),some (.ref a)] H Q:=by
 intro e a zs H Q rd hl q;have e0:Str.empty.length=0:=rfl;have hs:sizeLine=16777216:=sizeLine_eq;refine⟨_,rfl,by rw[Str.length_append];omega,.ref a,rfl,.list (zs.map PyData.str),a,by simp only[RdD];exact⟨a,_,rfl,rd,zrw zs⟩,rfl,by simp[PyData.showable,zru],by simp[PyData.hasDict,zrv],by simp[PyData.depth,znb],by omega,_,rfl,by rw[Str.length_append,Str.length_append];omega,?_⟩;exact⟨by rw[Str.length_append,Str.length_append];omega,q _⟩
theorem z0c(K:PySem.W.Frag):∀(e a:Addr) (zs:List Str) (H:Hp) (Q:VK),Rd H a (.lst (zs.map V.str))->(∀l,H l=none->Q (.ref l) (upd H l (.lst (zs.map V.str))))->z6y K [some (.ref e),some (.ref a)] H Q:=
 fun e a zs H Q rd q=>⟨.ref a,rfl,a,_,rfl,.inl (.inl rd),q⟩
theorem z6z(pre post:String)(hp:(Str.ofString pre).length<=100)(hq:(Str.ofString post).length<=100):∀(e:Addr) (x y:V) (H:Hp) (Q:VK),okV false x y->(∀m,Q (.str m) H)->tJ Str.empty [tC (.str pre),Zci (tVar 1),tC (.str post)] [some (.ref e),some x,some y] H Q:=by
 rintro e x y H Q ⟨a,rfl,ha,hb⟩ q;have e0:Str.empty.length=0:=rfl;have hs:sizeLine=16777216:=sizeLine_eq;refine⟨_,rfl,by rw[Str.length_append];omega,_,rfl,a,rfl,by omega,_,rfl,by rw[Str.length_append,Str.length_append];omega,_,rfl,by rw[Str.length_append,Str.length_append,Str.length_append];omega,?_⟩;exact⟨by rw[Str.length_append,Str.length_append,Str.length_append];omega,q _⟩
structure X1At(P:Program)(w:World)(K:PySem.W.Frag)(mg:Str->Option Value)(base:Heap)(k:Nat)(C:Addr)(f:Str)(ps:List Str)(fI:Addr)(fd:FuncData):Prop where
 ok:FnOk P w K mg base (CXE P w) k fI fd ps (spX1 C f)
 q:zd8 K C fI=true
 hf:PySem.W.isFn K (.ref fI)=true
 hb:ze5 K fd ps []
structure X2At(P:Program)(w:World)(K:PySem.W.Frag)(mg:Str->Option Value)(base:Heap)(k:Nat)(C:Addr)(f g:Str)(two:Bool)(ps:List Str)(fI:Addr)(fd:FuncData):Prop where
 ok:FnOk P w K mg base (CXE P w) k fI fd ps (spX2 C f g two)
 q:zd8 K C fI=true
 hf:PySem.W.isFn K (.ref fI)=true
 hb:ze5 K fd ps []
section
variable {X:Cx}{E:XK}{e:Expr}{es:List Expr}{fr:DA}{pos p:Pos}{P:Program}{w:World}{K:PySem.W.Frag}{mg:Str->Option Value}{base:Heap}{A:Around}{k:Nat}{x:Str}{ps:List Str}{F:Fn}{f:Addr}{fd:FuncData}
theorem z0d{n:Nat}(G:FnAt P w K mg base k x ps F f fd)(hr:Room k A)(hg:Gl X x)(hx:zdq (CXE X.prog X.w) X E)(ha:PA X (e::es) (RA E fr))
  (hP:X.prog=P:=by rfl) (hw:X.w=w:=by rfl) (hK:X.K=K:=by rfl) (hmg:X.mg=mg:=by rfl) (hB:X.base=base:=by rfl) (hA:X.A=A:=by rfl)
  (hdb:(x==("__debug__" : Str))=false:=by decide) (he:starEach (e::es) X.env=(false,eval e X.env)::starEach es X.env:=by rfl) (hpl:(backTo pos (starEach es X.env)).any (·.1)=false:=by rfl) (hn:ps.length=n:=by rfl) :
  PE X (.Call (.Name x p) (e::es) [] pos) (RE E (zbe (lenF n F) [] fr)):=by
 subst hP hw hK hmg hB hA hn;exact zaw G hr hg hx ha hdb he hpl
end
theorem mfx{P:Program}{w:World}{K:PySem.W.Frag}{mg:Str->Option Value}{base:Heap}{x qual:Str}{st:Stmt}{dV:Value}{f:Addr}{fd:FuncData}{N ps:List Str}{k:Nat}{d:DS}(F:FunV K x qual st dV f fd)(S:zal N ps (zag st))
  (h:∀(cdv:Value) (A:Around) (outer:List Env) (s:Shared) (H:Hp) (E:XK),Room k (A.deeper (envOfC qual (zag st) s.heap.objs.size f cdv))->(A.deeper (envOfC qual (zag st) s.heap.objs.size f cdv)).units+1<cLine->(A.deeper (envOfC qual (zag st) s.heap.objs.size f cdv)).units+64<cLine ->
   PSs (cxOf (CXE P w) P w K mg base N qual (zag st) f cdv A outer s H E) (zcc st) (RS E d)):FnOk P w K mg base (CXE P w) (k+1) f fd ps (spM ps.length (runD N.length d)):=
 Zb6 F S fun cdv A outer s H E hr=>h cdv A outer s H E hr (Zbu hr) hr.units
section
variable {X:Cx}{E:XK}{e o:Expr}{es:List Expr}{fo:DE}{fr:DA}{pos apos:Pos}{P:Program}{w:World}{K:PySem.W.Frag}{mg:Str->Option Value}{base:Heap}{A:Around}{k n:Nat}{C:Addr}{m:Str}{ps:List Str}{F:Fn}{f:Addr}{fd:FuncData}
theorem z60{pl:Sem Bool}(G:MeAt P w K mg base k C m ps F f fd)(hr:Room k A)(hx:zdq (CXE X.prog X.w) X E)(ho:PE X o (RE E fo))(ha:PA X (e::es) (RA E fr))
  (hP:X.prog=P:=by rfl) (hw:X.w=w:=by rfl) (hK:X.K=K:=by rfl) (hmg:X.mg=mg:=by rfl) (hB:X.base=base:=by rfl) (hA:X.A=A:=by rfl)
  (hst:starEach (e::es) X.env=(false,eval e X.env)::starEach es X.env:=by rfl) (hpl:(backTo pos (starEach es X.env)).any (·.1)=false:=by rfl)
  (ht:eval (.Call (.Attribute o m apos) (e::es) [] pos) X.env=(do
   let ov <- eval o X.env
   standAt apos.atName
   let (f,first) <- holding [ov] (getMethod ov m pl)
   callWith pos f first (backTo pos (starEach (e::es) X.env)) (backToKw pos (keywordEach [] X.env))):=by rfl) (hn:ps.length=n:=by rfl) :
  PE X (.Call (.Attribute o m apos) (e::es) [] pos) (RE E (zdn C m (lenF n F) [] fo fr)):=by
 subst hP hw hK hmg hB hA hn;exact ze6 G hr hx ho ha hst hpl ht
end
variable {E:XK}{fa:DE}
end MF
namespace MF
open PySem L2
noncomputable def zry(k1 v1 k2 v2 k3 v3:DE):DE:=fun ρ S=>((k1 ρ).bind fun a1=>(v1 ρ).bind fun b1=>(k2 ρ).bind fun a2=>(v2 ρ).bind fun b2=>(k3 ρ).bind fun a3=>(v3 ρ).bind fun b3=>fun S'=>match keyT a1,keyT a2,keyT a3,S'[S.length]? with
 |some q1,some q2,some q3,some (.dic [])=>if q1≠q2/\q1≠q3/\q2≠q3 then .ok (.obj S.length) (S'.set S.length (.dic [(q1,b1),(q2,b2),(q3,b3)])) else .bad
 |_,_,_,_=>.bad) (S++[.dic []])
section
variable {X:Cx}{E:XK}{k1 v1 k2 v2 k3 v3:Expr}{fk1 fv1 fk2 fv2 fk3 fv3:DE}{pos:Pos}
theorem z61(hk1:PE X k1 (RE E fk1))(hv1:PE X v1 (RE E fv1))(hk2:PE X k2 (RE E fk2))(hv2:PE X v2 (RE E fv2))(hk3:PE X k3 (RE E fk3))(hv3:PE X v3 (RE E fv3)):PE X (.Dict [some k1,some k2,some k3] [v1,v2,v3] pos) (RE E (zry fk1 fv1 fk2 fv2 fk3 fv3)):=
 zb2 (zyl (zmi hk1 hv1 (zmi hk2 hv2 (zmi hk3 hv3 zyk))) rfl rfl (by simp) (by simp)) fun σ H Q h p hp=>by
 obtain⟨W,S,ρ,r,env,p0⟩:=h;have lA:W.le (W.add p):=Wd.add_le;have rA:=r.cellNew hp (.dic []) (.dK []) ⟨[],zaj,DenK.nil'⟩;have p0:Post E W (QV Q) (((fk1 ρ).bind fun a1=>(fv1 ρ).bind fun b1=>(fk2 ρ).bind fun a2=>(fv2 ρ).bind fun b2=>(fk3 ρ).bind fun a3=>(fv3 ρ).bind fun b3=>fun S'=>match keyT a1,keyT a2,keyT a3,S'[S.length]? with
 |some q1,some q2,some q3,some (.dic [])=>if q1≠q2/\q1≠q3/\q2≠q3 then .ok (.obj S.length) (S'.set S.length (.dic [(q1,b1),(q2,b2),(q3,b3)])) else .bad
 |_,_,_,_=>.bad) (S++[.dic []])):=p0
 refine⟨W.add p,_,ρ,rA,env.mono lA,(Post.bind (zk3 p0 lA)).imp fun t1 W1 S1 H1 l1 r1 p1 x1 d1=>?_⟩;refine⟨W1,S1,ρ,r1,(env.mono lA).mono l1,(Post.bind p1).imp fun t2 W2 S2 H2 l2 r2 p2 x2 d2=>?_⟩;refine⟨W2,S2,ρ,r2,((env.mono lA).mono l1).mono l2,(Post.bind p2).imp fun t3 W3 S3 H3 l3 r3 p3 x3 d3=>?_⟩;refine⟨W3,S3,ρ,r3,(((env.mono lA).mono l1).mono l2).mono l3,(Post.bind p3).imp fun t4 W4 S4 H4 l4 r4 p4 x4 d4=>?_⟩;refine⟨W4,S4,ρ,r4,((((env.mono lA).mono l1).mono l2).mono l3).mono l4,(Post.bind p4).imp fun t5 W5 S5 H5 l5 r5 p5 x5 d5=>?_⟩;refine⟨W5,S5,ρ,r5,(((((env.mono lA).mono l1).mono l2).mono l3).mono l4).mono l5,(Post.bind p5).imp fun t6 W6 S6 H6 l6 r6 p6 x6 d6=>?_⟩
 split at p6
 case h_2=>exact p6.elim
 case h_1 q1 q2 q3 e1 e2 e3 es=>
  have eN:S.length=W.n:=r.len;have hn:S.length<(W.add p).n:=by rw[eN];exact Nat.lt_succ_self _
  have eμ:W6.μ S.length=p:=by rw[((((l1.trans l2).trans l3).trans l4).trans l5 |>.trans l6).μ _ hn,eN,Wd.add_at]
  have hn2:=r6.lt es;obtain⟨⟨ks,g1,g2⟩,_⟩:=r6.cell _ _ es;obtain rfl:=zcm.mp g2;rw[eμ] at g1;by_cases hd:q1≠q2/\q1≠q3/\q2≠q3
  ·rw[if_pos hd] at p6
   refine⟨g1,[(q1,x2),(q2,x4),(q3,x6)],?_,by simp,?_⟩
   ·rw[zje d1 e1,zje d3 e2,zje d5 e3];rfl
   ·have e2:zlt [] [(q1,x2),(q2,x4),(q3,x6)]=[(q1,x2),(q2,x4),(q3,x6)]:=by
     obtain⟨h1,h2,h3⟩:=hd;simp[zlt,putK,h1,h2,h3,Ne.symm h1,Ne.symm h2,Ne.symm h3]
    rw[e2,<- eμ];exact p6 W6 _ (Wd.le.refl _) (r6.cellSet es _ _ ⟨_,zaj,DenK.cons' (Den.mono (((l3.trans l4).trans l5).trans l6) _ _ d2) (DenK.cons' (Den.mono (l5.trans l6) _ _ d4) (DenK.cons' d6 DenK.nil'))⟩) _ (zb5.mpr ⟨rfl,hn2⟩)
  ·rw[if_neg hd] at p6
   exact p6.elim
end
end MF
namespace MF
open PySem L2 PyProof.Rows
noncomputable def dedS:List Str->List Str
 |[]=>[]
 |x::xs=>if x∈xs then dedS xs else x::dedS xs
end MF
namespace DN
open PySem L2 MF
noncomputable def zg2(c:Cl):DS:=(sSeq (sIf (tst (e2 zfv (eVar 1) (e1 (gFld c.hall "pieces") (eVar 0)))) (zhi c.noPiece (zad (jT Str.empty [(eC (.str "no piece ")),(e1 zts (eVar 1)),(eC (.str " hangs"))]) aNil)) sNx) (sRet (e2 gDix (e1 (gFld c.hall "pieces") (eVar 0)) (eVar 1))))
def zaq(c:Cl):Fn:=runD 2 (zg2 c)
def zh9(c:Cl):DS:=(sSeq (zd9 c.place "kind" (eVar 0) (eVar 1)) (zd9 c.place "rule" (eVar 0) (eVar 2)))
def zcy(c:Cl):Fn:=runD 3 (zh9 c)
noncomputable def zia(c:Cl):DS:=(sSeq (zd9 c.piece "place" (eVar 0) (eVar 1)) (sSeq (zd9 c.piece "deed" (eVar 0) (eVar 2)) (sSeq (zd9 c.piece "by" (eVar 0) (eVar 3)) (sSeq (zd9 c.piece "on" (eVar 0) (eC (.bl true))) (sSeq (zd9 c.piece "ahead" (eVar 0) (eA lstC aNil)) (sSeq (zd9 c.piece "behind" (eVar 0) (eA lstC aNil)) (sSeq (zd9 c.piece "needs" (eVar 0) (eA lstC aNil)) (zd9 c.piece "bars" (eVar 0) (eA lstC aNil)))))))))
def zcd(c:Cl):Fn:=runD 4 (zia c)
def zin(c:Cl):DS:=(sSeq (zd9 c.hall "places" (eVar 0) zlw) (zd9 c.hall "pieces" (eVar 0) zlw))
def zda(c:Cl):Fn:=runD 1 (zin c)
noncomputable def zg3(c:Cl):DS:=(sSeq (sIf (tst (e2 gDin (eVar 1) (e1 (gFld c.hall "places") (eVar 0)))) (zhi c.nameThere (zad (jT Str.empty [(eC (.str "there is a place ")),(e1 zts (eVar 1)),(eC (.str " already"))]) aNil)) sNx) (sSeq (sIf (tst (e2 (gI fGe) (e1 zrj (e1 (gFld c.hall "places") (eVar 0))) (eC (.int 8)))) (zhi c.tooMany (zad (eC (.str "the hall has no room for another place")) aNil)) sNx) (zn3 (e1 (gFld c.hall "places") (eVar 0)) (eVar 1) (zro c.place (lenF 3 (zcy c)) [] (zad (eVar 2) (zad (eVar 3) aNil))))))
def zb3(c:Cl):Fn:=runD 4 (zg3 c)
def zg4(c:Cl):DS:=(sSeq (sIf (tst (e2 zfv (eVar 1) (e1 (gFld c.hall "places") (eVar 0)))) (zhi c.noPlace (zad (jT Str.empty [(eC (.str "there is no place ")),(e1 zts (eVar 1))]) aNil)) sNx) (sRet (e2 gDix (e1 (gFld c.hall "places") (eVar 0)) (eVar 1))))
def za7(c:Cl):Fn:=runD 2 (zg4 c)
noncomputable def znc(c:Cl):DS:=(sSeq (sIf (tst (e2 gDin (eVar 1) (e1 (gFld c.hall "pieces") (eVar 0)))) (zhi c.nameThere (zad (jT Str.empty [(eC (.str "a piece ")),(e1 zts (eVar 1)),(eC (.str " hangs already"))]) aNil)) sNx) (sSeq (zc5 (zdn c.hall "find_place" (lenF 2 (za7 c)) [] (eVar 0) (zad (eVar 2) aNil))) (sSeq (sIf (tst (e2 zlv (eVar 4) (eC .non))) (zc5 (zdn c.hall "find_piece" (lenF 2 (zaq c)) [] (eVar 0) (zad (eVar 4) aNil))) sNx) (sSeq (sIf (tst (e2 (gI fGe) (e1 zrj (e1 (gFld c.hall "pieces") (eVar 0))) (eC (.int 24)))) (zhi c.tooMany (zad (eC (.str "the hall has no room for another piece")) aNil)) sNx) (zn3 (e1 (gFld c.hall "pieces") (eVar 0)) (eVar 1) (zro c.piece (lenF 4 (zcd c)) [] (zad (eVar 2) (zad (eVar 3) (zad (eVar 4) aNil)))))))))
def zfx(c:Cl):Fn:=runD 5 (znc c)
def zpx(c:Cl):DS:=(sRet (eIf (tst (e2 gIs (eVar 0) (eC .non))) (eA lstF aNil) (e1 zm6 (eVar 0))))
def zc7(c:Cl):Fn:=runD 1 (zpx c)
noncomputable def znd(c:Cl):DS:=(sSeq (sSet 6 (zdn c.hall "find_piece" (lenF 2 (zaq c)) [] (eVar 0) (zad (eVar 1) aNil))) (sSeq (zc5 (eMt okL gExt (e1 (gFld c.piece "ahead") (eVar 6)) (zad (zbe (lenF 1 (zc7 c)) [] (zad (eVar 2) aNil)) aNil))) (sSeq (zc5 (eMt okL gExt (e1 (gFld c.piece "behind") (eVar 6)) (zad (zbe (lenF 1 (zc7 c)) [] (zad (eVar 3) aNil)) aNil))) (sSeq (zc5 (eMt okL gExt (e1 (gFld c.piece "needs") (eVar 6)) (zad (zbe (lenF 1 (zc7 c)) [] (zad (eVar 4) aNil)) aNil))) (zc5 (eMt okL gExt (e1 (gFld c.piece "bars") (eVar 6)) (zad (zbe (lenF 1 (zc7 c)) [] (zad (eVar 5) aNil)) aNil)))))))
def zfy(c:Cl):Fn:=runD 7 (znd c)
def zkn(c:Cl):DS:=(sSeq (sSet 3 (zdn c.hall "find_piece" (lenF 2 (zaq c)) [] (eVar 0) (zad (eVar 1) aNil))) (zd9 c.piece "on" (eVar 3) (eVar 2)))
def zea(c:Cl):Fn:=runD 4 (zkn c)
def zhk(c:Cl):DS:=(sSeq (sIf (tst (e2 (gI fLt) (eVar 1) (e1 gLen (eVar 0)))) (sRet (e2 gIx (eVar 0) (eVar 1))) sNx) (sRet (eC (.int 0))))
def za8(c:Cl):Fn:=runD 2 (zhk c)
def zio(c:Cl):DE:=(e2 gIx (eVar 1) (e2 (gI fMod) (e2 gAdd (eVar 2) (e2 (gI fMul) (eC (.int 5)) (eVar 0))) (eC (.int 26))))
def ziq(c:Cl):DI:=(iR1 (zad (e2 gAdd (eC (.int 2)) (e2 (gI fMod) (eVar 0) (eC (.int 11)))) aNil))
def zk5(c:Cl):DS:=(sSeq (sSet 1 (eC (.str "abcdefghijklmnopqrstuvwxyz"))) (sSeq (sIf (tst (e2 gEq (e2 (gI fMod) (eVar 0) (eC (.int 3))) (eC (.int 1)))) (sRet (e2 gIx (eVar 1) (e2 (gI fMod) (eVar 0) (eC (.int 26))))) sNx) (sRet (eMt okS zxd (eC (.str "")) (zad (zek 1 [1,0] (ziq c) (zaz 0) yesD (zio c) finF) aNil)))))
def zc0(c:Cl):Fn:=runD 2 (zk5 c)
def zoq(c:Cl):DS:=(sSeq (sSet 1 (e2 (gI fSub) (e2 (gI fMod) (e2 (gI fDiv) (eVar 0) (eC (.int 8))) (eC (.int 2001))) (eC (.int 1000)))) (sSeq (sIf (tst (e2 gEq (e2 (gI fMod) (e2 (gI fDiv) (eVar 0) (eC (.int 8))) (eC (.int 9))) (eC (.int 4)))) (sSet 1 (e2 (gI fSub) (e2 (gI fMod) (eVar 0) (e2 (gI fPow) (eC (.int 10)) (eC (.int 25)))) (e2 (gI fPow) (eC (.int 10)) (eC (.int 24))))) sNx) (sSeq (sIf (tst (e2 gEq (e2 (gI fMod) (eVar 0) (eC (.int 8))) (eC (.int 3)))) (sRet (eA tupF (zad (eC (.str "say")) (zad (eVar 1) aNil)))) sNx) (sSeq (sIf (tst (e2 gEq (e2 (gI fMod) (eVar 0) (eC (.int 8))) (eC (.int 4)))) (sRet (eA tupF (zad (eC (.str "none")) aNil))) sNx) (sSeq (sIf (tst (e2 gEq (e2 (gI fMod) (eVar 0) (eC (.int 8))) (eC (.int 5)))) (sRet (eA tupF (zad (eC (.str "fail")) (zad (eVar 1) aNil)))) sNx) (sRet (eA tupF (zad (eC (.str "add")) (zad (eVar 1) aNil)))))))))
def zg5(c:Cl):Fn:=runD 2 (zoq c)
def zjf(c:Cl):DS:=(sSeq (sIf (tst (e2 (gI fGt) (e2 (gI fMod) (eVar 0) (eC (.int 4))) (eC (.int 1)))) (sRet (eA lstF aNil)) sNx) (sSeq (sIf (tst (e2 gEq (e2 (gI fMod) (eVar 0) (eC (.int 4))) (eC (.int 1)))) (sRet (eA lstF (zad (zbe (lenF 1 (zc0 c)) [] (zad (e2 (gI fMod) (e2 (gI fDiv) (eVar 0) (eC (.int 4))) (eVar 1)) aNil)) (zad (zbe (lenF 1 (zc0 c)) [] (zad (e2 (gI fMod) (e2 (gI fDiv) (eVar 0) (eC (.int 64))) (eVar 1)) aNil)) aNil)))) sNx) (sRet (eA lstF (zad (zbe (lenF 1 (zc0 c)) [] (zad (e2 (gI fMod) (e2 (gI fDiv) (eVar 0) (eC (.int 4))) (eVar 1)) aNil)) aNil)))))
def zc1(c:Cl):Fn:=runD 2 (zjf c)
def zgs(c:Cl):DS:=(sSeq (sSet 5 (zbe (lenF 2 (za8 c)) [] (zad (eVar 0) (zad (e2 gAdd (eVar 1) (e2 (gI fMul) (eC (.int 3)) (eVar 4))) aNil)))) (sSeq (sSet 6 (zbe (lenF 2 (za8 c)) [] (zad (eVar 0) (zad (e2 gAdd (e2 gAdd (eVar 1) (e2 (gI fMul) (eC (.int 3)) (eVar 4))) (eC (.int 1))) aNil)))) (sSeq (sSet 7 (zbe (lenF 2 (za8 c)) [] (zad (eVar 0) (zad (e2 gAdd (e2 gAdd (eVar 1) (e2 (gI fMul) (eC (.int 3)) (eVar 4))) (eC (.int 2))) aNil)))) (sSeq (sSet 8 (e2 gIx (eA lstF (zad (eC (.str "hub")) (zad (eC (.str "hub")) (zad (eC (.str "hub")) (zad (eC (.str "side")) aNil))))) (e2 (gI fMod) (e2 (gI fDiv) (eVar 5) (eC (.int 4096))) (eC (.int 4))))) (sSeq (sSet 9 (eA lstF (zad (zbe (lenF 2 (zc1 c)) [] (zad (eVar 6) (zad (e2 gAdd (eVar 2) (eC (.int 1))) aNil))) (zad (zbe (lenF 2 (zc1 c)) [] (zad (e2 (gI fDiv) (eVar 6) (eC (.int 7))) (zad (e2 gAdd (eVar 2) (eC (.int 1))) aNil))) aNil)))) (sSeq (sSet 9 (e2 gAdd (eVar 9) (eA lstF (zad (zbe (lenF 2 (zc1 c)) [] (zad (eVar 7) (zad (e2 gAdd (eVar 2) (eC (.int 1))) aNil))) (zad (zbe (lenF 2 (zc1 c)) [] (zad (e2 (gI fDiv) (eVar 7) (eC (.int 7))) (zad (e2 gAdd (eVar 2) (eC (.int 1))) aNil))) aNil))))) (zc5 (eMt okL gApp (eVar 3) (zad (eA tupF (zad (zbe (lenF 1 (zc0 c)) [] (zad (eVar 4) aNil)) (zad (eVar 8) (zad (zbe (lenF 1 (zg5 c)) [] (zad (eVar 5) aNil)) (zad (eVar 9) (zad (e2 gNe (e2 (gI fMod) (e2 (gI fDiv) (eVar 5) (eC (.int 64))) (eC (.int 6))) (eC (.int 1))) aNil)))))) aNil)))))))))
def zir(c:Cl):DS:=(sSeq (sSet 3 (eA lstC aNil)) (sSeq (sFor (iR1 (zad (eVar 2) aNil)) (zaz 4) (zgs c)) (sRet (eVar 3))))
def zgi(c:Cl):Fn:=frzF (runD 10 (zir c))
def zis(c:Cl):DS:=(zc5 (zdn c.hall "hang" (lenF 5 (zfx c)) [.non] (eVar 3) (zad (e2 gIx (eVar 4) (eC (.int 0))) (zad (e2 gIx (eVar 4) (eC (.int 1))) (zad (e2 gIx (eVar 4) (eC (.int 2))) aNil)))))
noncomputable def zgj(c:Cl):DS:=(sSeq (zc5 (zdn c.hall "wish" (lenF 6 (zfy c)) [] (eVar 3) (zad (e2 gIx (eVar 4) (eC (.int 0))) (zad (e2 gIx (e2 gIx (eVar 4) (eC (.int 3))) (eC (.int 0))) (zad (e1 zvi (e2 gIx (e2 gIx (eVar 4) (eC (.int 3))) (eC (.int 1)))) (zad (e2 gIx (e2 gIx (eVar 4) (eC (.int 3))) (eC (.int 2))) (zad (e2 gIx (e2 gIx (eVar 4) (eC (.int 3))) (eC (.int 3))) aNil))))))) (sIf (zm4 (tru (e2 gIx (eVar 4) (eC (.int 4))))) (zc5 (zdn c.hall "switch" (lenF 3 (zea c)) [] (eVar 3) (zad (e2 gIx (eVar 4) (eC (.int 0))) (zad (eC (.bl false)) aNil)))) sNx))
def zor(c:Cl):DS:=(sSeq (sSet 3 (zro c.hall (lenF 1 (zda c)) [] aNil)) (sSeq (zc5 (zdn c.hall "open_place" (lenF 4 (zb3 c)) [] (eVar 3) (zad (eC (.str "hub")) (zad (eVar 1) (zad (eVar 2) aNil))))) (sSeq (zc5 (zdn c.hall "open_place" (lenF 4 (zb3 c)) [] (eVar 3) (zad (eC (.str "side")) (zad (eC (.str "all")) (zad (eC (.str "hold")) aNil))))) (sSeq (sFor (iL (eVar 0)) (zaz 4) (zis c)) (sSeq (sFor (iL (eVar 0)) (zaz 4) (zgj c)) (sRet (eVar 3)))))))
def zfo(c:Cl):Fn:=runD 5 (zor c)
def zc2(c:Cl):DS:=(zn3 (eVar 2) (eVar 3) zlw)
def zch(c:Cl):DS:=(sIf (tst (e2 gDin (eVar 5) (eVar 2))) (zn3 (e2 gDix (eVar 2) (eVar 3)) (eVar 5) (eC (.bl true))) sNx)
def zci(c:Cl):DS:=(sIf (tst (e2 gDin (eVar 5) (eVar 2))) (zn3 (e2 gDix (eVar 2) (eVar 5)) (eVar 3) (eC (.bl true))) sNx)
def zc3(c:Cl):DS:=(sSeq (sSet 4 (zdn c.hall "find_piece" (lenF 2 (zaq c)) [] (eVar 0) (zad (eVar 3) aNil))) (sSeq (sFor (iL (e1 (gFld c.piece "ahead") (eVar 4))) (zaz 5) (zch c)) (sFor (iL (e1 (gFld c.piece "behind") (eVar 4))) (zaz 5) (zci c))))
def zit(c:Cl):DS:=(sSeq (sSet 2 zlw) (sSeq (sFor (iL (eVar 1)) (zaz 3) (zc2 c)) (sSeq (sFor (iL (eVar 1)) (zaz 3) (zc3 c)) (sRet (eVar 2)))))
def ze7(c:Cl):Fn:=frzF (runD 6 (zit c))
def zdf(c:Cl):DE:=(e2 gDin (eVar 1) (e2 gDix (eVar 2) (eVar 0)))
def zdg(c:Cl):DI:=(iL (eVar 1))
def zb4(c:Cl):DS:=(sIf (zm4 (tru (e1 gAny (zek 1 [2,0] (zdg c) (zaz 0) yesD (zdf c) finF)))) (sRet (eVar 2)) sNx)
def zfz(c:Cl):DS:=(sSeq (sFor (iL (eVar 1)) (zaz 2) (zb4 c)) (sRet (eC .non)))
def zcq(c:Cl):Fn:=runD 3 (zfz c)
def zar(c:Cl):DS:=(sSeq (sIf (tst (e2 gEq (eVar 6) (eVar 1))) (sRet (eVar 5)) sNx) (sIf (tst (e2 zfv (eVar 6) (eVar 3))) (sSeq (zn3 (eVar 3) (eVar 6) (eC (.bl true))) (zc5 (eMt okL gApp (eVar 4) (zad (e2 gAdd (eVar 5) (eA lstF (zad (eVar 6) aNil))) aNil)))) sNx))
def zat(c:Cl):DS:=(sFor (iK (e2 gDix (eVar 0) (e2 gIx (eVar 5) (e1 gNeg (eC (.int 1)))))) (zaz 6) (zar c))
def zau(c:Cl):DS:=(sSeq (sSet 4 (eA lstC aNil)) (sSeq (sFor (iL (eVar 2)) (zaz 5) (zat c)) (sSet 2 (eVar 4))))
def za1(c:Cl):DT:=(tru (eVar 2))
def ze0(c:Cl):DS:=(sSeq (sSet 2 (eA lstF (zad (eA lstF (zad (eVar 1) aNil)) aNil))) (sSeq (sSet 3 (zvu (eVar 1) (eC (.bl true)))) (sSeq (zh8 (za1 c) (zau c)) (sRet (eA lstF aNil)))))
def ze1(c:Cl):Fn:=frzF (runD 7 (ze0 c))
def zdh(c:Cl):DE:=(zbe (lenF 2 (ze1 c)) [] (zad (eVar 1) (zad (eVar 0) aNil)))
def zcr(c:Cl):DI:=(iK (eVar 0))
noncomputable def zeo(c:Cl):DE:=(eVar 0)
def zep(c:Cl):DI:=(iL (eVar 1))
def zeq(c:Cl):DT:=(tru (eVar 0))
def ziu(c:Cl):DS:=(sSeq (sSet 1 (zek 1 [0] (zcr c) (zaz 0) yesD (zdh c) finF)) (sRet (e1 gMin (zek 1 [] (zep c) (zaz 0) (zeq c) (zeo c) finF))))
def zdb(c:Cl):Fn:=runD 2 (ziu c)
def zav(c:Cl):DS:=(sSeq (sSet 5 (zbe (lenF 2 (zcq c)) [] (zad (eVar 2) (zad (eVar 3) aNil)))) (sSeq (sIf (tst (e2 gIs (eVar 5) (eC .non))) (zpw c.ring "ring" (zad (zbe (lenF 1 (zdb c)) [] (zad (eVar 2) aNil)) aNil)) sNx) (sSeq (zc5 (eMt okL zj1 (eVar 3) (zad (eVar 5) aNil))) (zc5 (eMt okL gApp (eVar 4) (zad (eVar 5) aNil))))))
def za2(c:Cl):DT:=(tru (eVar 3))
def zhl(c:Cl):DS:=(sSeq (sSet 2 (zbe (lenF 2 (ze7 c)) [] (zad (eVar 0) (zad (eVar 1) aNil)))) (sSeq (sSet 3 (e1 zjo (eVar 1))) (sSeq (sSet 4 (eA lstC aNil)) (sSeq (zh8 (za2 c) (zav c)) (sRet (eVar 4))))))
def zcf(c:Cl):Fn:=runD 6 (zhl c)
noncomputable def zer(c:Cl):DE:=(eVar 0)
def zhm(c:Cl):DE:=(e1 (gFld c.hall "pieces") (eVar 0))
def zdc(c:Cl):DT:=(zph (tst (e2 gEq (e1 (gFld c.piece "place") (eVar 1)) (eVar 2))) (tru (e1 (gFld c.piece "on") (eVar 1))))
def zrz(c:Cl):DS:=(sSeq (zc5 (zdn c.hall "find_place" (lenF 2 (za7 c)) [] (eVar 0) (zad (eVar 1) aNil))) (sRet (zrs zg1 2 [1] (zhm c) (zkk 0 1) (zdc c) (zer c) finF)))
def zg6(c:Cl):Fn:=runD 2 (zrz c)
def ze2(c:Cl):DE:=(e2 gIx (eVar 0) (eC (.int 0)))
def ze3(c:Cl):DI:=(iL (eVar 0))
def zdr(c:Cl):DT:=(zph (tst (e2 gEq (e2 gIx (eVar 0) (eC (.int 1))) (eC (.str "hub")))) (tru (e2 gIx (eVar 0) (eC (.int 4)))))
def zlx(c:Cl):DS:=(sRet (zek 1 [] (ze3 c) (zaz 0) (zdr c) (ze2 c) finF))
def zd5(c:Cl):Fn:=runD 1 (zlx c)
def zhn(c:Cl):DE:=(eA tupF (zad (e2 gIx (eVar 1) (eC (.int 0))) (zad (eVar 0) aNil)))
def zho(c:Cl):DI:=(iL (e2 gIx (e2 gIx (eVar 3) (eC (.int 3))) (eC (.int 0))))
def zhp(c:Cl):DT:=(tst (e2 gIn (eVar 0) (eVar 2)))
def zhq(c:Cl):DE:=(eA tupF (zad (eVar 0) (zad (e2 gIx (eVar 1) (eC (.int 0))) aNil)))
def zhr(c:Cl):DI:=(iL (e2 gIx (e2 gIx (eVar 3) (eC (.int 3))) (eC (.int 1))))
def zhs(c:Cl):DT:=(tst (e2 gIn (eVar 0) (eVar 2)))
def zfj(c:Cl):DS:=(sIf (tst (e2 gIn (e2 gIx (eVar 3) (eC (.int 0))) (eVar 1))) (sSeq (zc5 (eMt okL gExt (eVar 2) (zad (zek 1 [3,1] (zho c) (zaz 0) (zhp c) (zhn c) finF) aNil))) (zc5 (eMt okL gExt (eVar 2) (zad (zek 1 [3,1] (zhr c) (zaz 0) (zhs c) (zhq c) finF) aNil)))) sNx)
def zj2(c:Cl):DS:=(sSeq (sSet 2 (eA lstC aNil)) (sSeq (sFor (iL (eVar 0)) (zaz 3) (zfj c)) (sRet (eVar 2))))
def zf0(c:Cl):Fn:=frzF (runD 4 (zj2 c))
def zdd(c:Cl):DS:=(sIf (zph (tst (e2 gEq (e2 gIx (eVar 3) (eC (.int 1))) (eVar 0))) (tst (e2 gIn (e2 gIx (eVar 3) (eC (.int 0))) (eVar 1)))) (sRet (eC (.bl false))) sNx)
def zk6(c:Cl):DS:=(sSeq (sFor (iL (eVar 2)) (zaz 3) (zdd c)) (sRet (eC (.bl true))))
def zfp(c:Cl):Fn:=runD 4 (zk6 c)
noncomputable def zfk(c:Cl):DE:=(eVar 0)
def zfl(c:Cl):DI:=(iL (eVar 2))
def zfm(c:Cl):DT:=(tru (zbe (lenF 3 (zfp c)) [] (zad (eVar 0) (zad (eVar 1) (zad (eVar 2) aNil)))))
def za9(c:Cl):DS:=(sSeq (sSet 4 (zek 1 [2,1] (zfl c) (zaz 0) (zfm c) (zfk c) finF)) (sSeq (sIf (tst (e2 gEq (eVar 4) (eA lstF aNil))) (sRet (eC .non)) sNx) (sSeq (zc5 (eMt okL gApp (eVar 3) (zad (e2 gIx (eVar 4) (eC (.int 0))) aNil))) (zc5 (eMt okL zj1 (eVar 2) (zad (e2 gIx (eVar 4) (eC (.int 0))) aNil))))))
def zbf(c:Cl):DT:=(tst (e2 gNe (eVar 2) (eA lstF aNil)))
def zf1(c:Cl):DS:=(sSeq (sSet 2 (e1 zjo (eVar 0))) (sSeq (sSet 3 (eA lstC aNil)) (sSeq (zh8 (zbf c) (za9 c)) (sRet (eVar 3)))))
def zht(c:Cl):Fn:=frzF (runD 5 (zf1 c))
noncomputable def zjq(c:Cl):DS:=(sSeq (zd9 c.run "kind" (eVar 0) (eVar 1)) (sSeq (zd9 c.run "rule" (eVar 0) (eVar 2)) (sSeq (zd9 c.run "number" (eVar 0) (eVar 3)) (sSeq (zd9 c.run "deeds" (eVar 0) (e1 zjo (eVar 4))) (sSeq (zd9 c.run "held" (eVar 0) (eA lstC aNil)) (sSeq (zd9 c.run "broken" (eVar 0) (eC (.bl false))) (sSeq (zd9 c.run "pairs" (eVar 0) (eA lstC aNil)) (sSeq (zd9 c.run "found" (eVar 0) (eC .non)) (zd9 c.run "around" (eVar 0) (eA lstC aNil))))))))))
def zds(c:Cl):Fn:=runD 5 (zjq c)
def zos(c:Cl):DS:=(sRet (eNot (e1 (gFld c.run "deeds") (eVar 0))))
def zc4(c:Cl):Fn:=runD 1 (zos c)
def zfh(c:Cl):DS:=(zc5 (eMt okL zrl (e1 (gFld c.run "deeds") (eVar 0)) aNil))
def zas(c:Cl):Fn:=runD 1 (zfh c)
noncomputable def zk7(c:Cl):DS:=(sSeq (sIf (tst (e2 gEq (e1 (gFld c.run "rule") (eVar 0)) (eC (.str "hand")))) (sSeq (zd9 c.run "broken" (eVar 0) (eC (.bl true))) (sSeq (zc5 (zdn c.run "leave_the_rest" (lenF 1 (zas c)) [] (eVar 0) aNil)) (zpu c.deedFault "piece" "code" false (zad (eVar 1) (zad (eVar 2) aNil))))) sNx) (zc5 (eMt okL gApp (e1 (gFld c.run "held") (eVar 0)) (zad (eA tupF (zad (eVar 1) (zad (eVar 2) aNil))) aNil))))
def zes(c:Cl):Fn:=runD 3 (zk7 c)
def z4q(c:Cl):DS:=(sSeq (sIf (tst (e2 gEq (e2 gIx (eVar 0) (eC (.int 0))) (eC (.str "add")))) (sRet (e2 gAdd (eVar 1) (e2 gIx (eVar 0) (eC (.int 1))))) sNx) (sSeq (sIf (tst (e2 gEq (e2 gIx (eVar 0) (eC (.int 0))) (eC (.str "say")))) (sRet (e2 gIx (eVar 0) (eC (.int 1)))) sNx) (sRet (eC .non))))
def zib(c:Cl):Fn:=runD 2 (z4q c)
noncomputable def zde(c:Cl):DS:=(sIf (tst (e2 gEq (e2 gIx (eVar 1) (eC (.int 0))) (eC (.str "add")))) (sSeq (zc5 (eMt okL gApp (e1 (gFld c.run "around") (eVar 0)) (zad (e2 gIx (eVar 1) (eC (.int 1))) aNil))) (zd9 c.run "number" (eVar 0) (zbe (lenF 2 (zib c)) [] (zad (eVar 1) (zad (e1 (gFld c.run "number") (eVar 0)) aNil))))) (sIf (tst (e2 gEq (e2 gIx (eVar 1) (eC (.int 0))) (eC (.str "say")))) (sSeq (zd9 c.run "number" (eVar 0) (zbe (lenF 2 (zib c)) [] (zad (eVar 1) (zad (e1 (gFld c.run "number") (eVar 0)) aNil)))) (zc5 (zdn c.run "leave_the_rest" (lenF 1 (zas c)) [] (eVar 0) aNil))) sNx))
def zbt(c:Cl):Fn:=runD 2 (zde c)
noncomputable def zk8(c:Cl):DS:=(sIf (tst (e2 gEq (e1 (gFld c.run "kind") (eVar 0)) (eC (.str "first")))) (sSeq (zd9 c.run "found" (eVar 0) (eVar 1)) (zc5 (zdn c.run "leave_the_rest" (lenF 1 (zas c)) [] (eVar 0) aNil))) (zd9 c.run "number" (eVar 0) (eVar 1)))
def zfq(c:Cl):Fn:=runD 2 (zk8 c)
noncomputable def zct(c:Cl):DS:=(sIf (tst (e2 gEq (e2 gIx (eVar 2) (eC (.int 0))) (eC (.str "fail")))) (zc5 (zdn c.run "fall" (lenF 3 (zes c)) [] (eVar 0) (zad (eVar 1) (zad (e2 gIx (eVar 2) (eC (.int 1))) aNil)))) (sIf (tst (e2 gEq (e1 (gFld c.run "kind") (eVar 0)) (eC (.str "all")))) (zc5 (eMt okL gApp (e1 (gFld c.run "pairs") (eVar 0)) (zad (eA tupF (zad (eVar 1) (zad (zbe (lenF 2 (zib c)) [] (zad (eVar 2) (zad (e1 (gFld c.run "number") (eVar 0)) aNil))) aNil))) aNil))) (sIf (tst (e2 gEq (e1 (gFld c.run "kind") (eVar 0)) (eC (.str "round")))) (zc5 (zdn c.run "go_within" (lenF 2 (zbt c)) [] (eVar 0) (zad (eVar 2) aNil))) (sIf (tst (e2 gNe (e2 gIx (eVar 2) (eC (.int 0))) (eC (.str "none")))) (zc5 (zdn c.run "hear" (lenF 2 (zfq c)) [] (eVar 0) (zad (zbe (lenF 2 (zib c)) [] (zad (eVar 2) (zad (e1 (gFld c.run "number") (eVar 0)) aNil))) aNil))) sNx))))
def zbg(c:Cl):Fn:=runD 3 (zct c)
noncomputable def zk9(c:Cl):DS:=(sSeq (sIf (tru (zdn c.run "over" (lenF 1 (zc4 c)) [] (eVar 0) aNil)) (sRet (eC .non)) sNx) (sSeq (sSet 1 (eMt okL zoo (e1 (gFld c.run "deeds") (eVar 0)) (zad (eC (.int 0)) aNil))) (sSeq (zc5 (zdn c.run "perform" (lenF 3 (zbg c)) [] (eVar 0) (zad (e2 gIx (eVar 1) (eC (.int 0))) (zad (e2 gIx (eVar 1) (eC (.int 1))) aNil)))) (sRet (e2 gIx (eVar 1) (eC (.int 0)))))))
def zet(c:Cl):Fn:=runD 2 (zk9 c)
def zdx(c:Cl):DS:=(sSet 2 (e2 gAdd (e2 (gI fMul) (eVar 2) (eC (.int 10))) (eVar 3)))
def zjr(c:Cl):DS:=(sSeq (sSet 2 (eVar 0)) (sSeq (sFor (iRev (zad (eVar 1) aNil)) (zaz 3) (zdx c)) (sRet (eVar 2))))
def zdt(c:Cl):Fn:=runD 4 (zjr c)
def zly(c:Cl):DS:=(sSeq (sIf (tOrD (tru (e1 (gFld c.run "broken") (eVar 0))) (zm4 (tru (zdn c.run "over" (lenF 1 (zc4 c)) [] (eVar 0) aNil)))) (zhi c.noAnswer (zad (eC (.str "the run has no answer")) aNil)) sNx) (sSeq (sIf (tst (e2 gEq (e1 (gFld c.run "kind") (eVar 0)) (eC (.str "all")))) (sRet (e1 zm6 (e1 (gFld c.run "pairs") (eVar 0)))) sNx) (sSeq (sIf (tst (e2 gEq (e1 (gFld c.run "kind") (eVar 0)) (eC (.str "first")))) (sRet (e1 (gFld c.run "found") (eVar 0))) sNx) (sSeq (sIf (tst (e2 gEq (e1 (gFld c.run "kind") (eVar 0)) (eC (.str "chain")))) (sRet (e1 (gFld c.run "number") (eVar 0))) sNx) (sRet (zbe (lenF 2 (zdt c)) [] (zad (e1 (gFld c.run "number") (eVar 0)) (zad (e1 (gFld c.run "around") (eVar 0)) aNil))))))))
def ze8(c:Cl):Fn:=runD 1 (zly c)
def zlz(c:Cl):DS:=(sRet (e1 zm6 (e1 (gFld c.run "held") (eVar 0))))
def ze9(c:Cl):Fn:=runD 1 (zlz c)
noncomputable def zgt(c:Cl):DE:=(eA tupF (zad (eVar 0) (zad (e1 (gFld c.piece "deed") (zdn c.hall "find_piece" (lenF 2 (zaq c)) [] (eVar 1) (zad (eVar 0) aNil))) aNil)))
def zdu(c:Cl):DI:=(iL (zbe (lenF 2 (zcf c)) [] (zad (eVar 0) (zad (eVar 2) aNil))))
def ziv(c:Cl):DS:=(sSeq (sSet 4 (zdn c.hall "find_place" (lenF 2 (za7 c)) [] (eVar 0) (zad (eVar 1) aNil))) (sSeq (sSet 5 (zek 1 [0] (zdu c) (zaz 0) yesD (zgt c) finF)) (sRet (zro c.run (lenF 5 (zds c)) [] (zad (e1 (gFld c.place "kind") (eVar 4)) (zad (e1 (gFld c.place "rule") (eVar 4)) (zad (eVar 3) (zad (eVar 5) aNil))))))))
def zcs(c:Cl):Fn:=runD 6 (ziv c)
def zty(c:Cl):DS:=(sRet (zbe (lenF 4 (zcs c)) [] (zad (eVar 0) (zad (eVar 1) (zad (zdn c.hall "at" (lenF 2 (zg6 c)) [] (eVar 0) (zad (eVar 1) aNil)) (zad (eVar 2) aNil))))))
def zj3(c:Cl):Fn:=runD 3 (zty c)
def zd6(c:Cl):DS:=(zc5 (zdn c.run "step" (lenF 1 (zet c)) [] (eVar 0) aNil))
def zdi(c:Cl):DT:=(zm4 (tru (zdn c.run "over" (lenF 1 (zc4 c)) [] (eVar 0) aNil)))
def zpy(c:Cl):DS:=(sSeq (zh8 (zdi c) (zd6 c)) (sRet (eA tupF (zad (zdn c.run "answer" (lenF 1 (ze8 c)) [] (eVar 0) aNil) (zad (zdn c.run "faults" (lenF 1 (ze9 c)) [] (eVar 0) aNil) aNil)))))
def zeb(c:Cl):Fn:=runD 1 (zpy c)
def zvv(c:Cl):DS:=(sRet (zbe (lenF 1 (zeb c)) [] (zad (zbe (lenF 3 (zj3 c)) [] (zad (eVar 0) (zad (eVar 1) (zad (eVar 2) aNil)))) aNil)))
def zic(c:Cl):Fn:=runD 3 (zvv c)
noncomputable def zcu(Rc:Fn)(c:Cl):DS:=(sSeq (sIf (tst (e2 gEq (eVar 0) (eA lstF aNil))) (sRet (eVar 1)) sNx) (sSeq (sSet 3 (e2 gIx (e2 gIx (eVar 0) (eC (.int 0))) (eC (.int 1)))) (sSeq (sIf (tst (e2 gEq (e2 gIx (eVar 3) (eC (.int 0))) (eC (.str "say")))) (sRet (e2 gIx (eVar 3) (eC (.int 1)))) sNx) (sSeq (sIf (tst (e2 gEq (e2 gIx (eVar 3) (eC (.int 0))) (eC (.str "add")))) (sRet (e2 gAdd (e2 (gI fMul) (eC (.int 10)) (zbe (lenF 3 Rc) [] (zad (eSl (eVar 0) (zpq (eC (.int 1))) zpp) (zad (e2 gAdd (eVar 1) (e2 gIx (eVar 3) (eC (.int 1)))) (zad (eVar 2) aNil))))) (e2 gIx (eVar 3) (eC (.int 1))))) sNx) (sSeq (sIf (tst (e2 gEq (e2 gIx (eVar 3) (eC (.int 0))) (eC (.str "fail")))) (zc5 (eMt okL gApp (eVar 2) (zad (eA tupF (zad (e2 gIx (e2 gIx (eVar 0) (eC (.int 0))) (eC (.int 0))) (zad (e2 gIx (eVar 3) (eC (.int 1))) aNil))) aNil))) sNx) (sRet (zbe (lenF 3 Rc) [] (zad (eSl (eVar 0) (zpq (eC (.int 1))) zpp) (zad (eVar 1) (zad (eVar 2) aNil))))))))))
def zd7(c:Cl):Nat->Fn
 |0=>fun _=>M.bad
 |n+1=>runD 4 (zcu (zd7 c n) c)
def zf2(c:Cl):Fn:=zd7 c 24
def zao(c:Cl):DS:=(sSeq (sSet 7 (zbe (lenF 2 (zib c)) [] (zad (eVar 6) (zad (eVar 2) aNil)))) (sIf (tst (e2 gEq (e2 gIx (eVar 6) (eC (.int 0))) (eC (.str "fail")))) (zc5 (eMt okL gApp (eVar 3) (zad (eA tupF (zad (eVar 5) (zad (e2 gIx (eVar 6) (eC (.int 1))) aNil))) aNil))) (sIf (zph (tst (e2 gEq (eVar 0) (eC (.str "first")))) (tst (e2 zlv (eVar 7) (eC .non)))) (sRet (eVar 7)) (sIf (tst (e2 gEq (eVar 0) (eC (.str "all")))) (zc5 (eMt okL gApp (eVar 4) (zad (eA tupF (zad (eVar 5) (zad (eVar 7) aNil))) aNil))) (sIf (zph (tst (e2 gEq (eVar 0) (eC (.str "chain")))) (tst (e2 zlv (eVar 7) (eC .non)))) (sSet 2 (eVar 7)) sNx)))))
def zgk(c:Cl):DS:=(sSeq (sIf (tst (e2 gEq (eVar 0) (eC (.str "round")))) (sRet (zbe (lenF 3 (zf2 c)) [] (zad (eVar 1) (zad (eVar 2) (zad (eVar 3) aNil))))) sNx) (sSeq (sSet 4 (eA lstC aNil)) (sSeq (sFor (iL (eVar 1)) (zkk 5 6) (zao c)) (sRet (e2 gDix (zry (eC (.str "all")) (eVar 4) (eC (.str "first")) (eC .non) (eC (.str "chain")) (eVar 2)) (eVar 0))))))
def zcg(c:Cl):Fn:=runD 8 (zgk c)
def zec(c:Cl):DS:=(sSeq (sSet 4 (eA lstC aNil)) (sSeq (sSet 5 (zbe (lenF 4 (zcg c)) [] (zad (eVar 0) (zad (eVar 2) (zad (eVar 3) (zad (eVar 4) aNil)))))) (sSeq (sIf (zph (tst (e2 gEq (eVar 1) (eC (.str "hand")))) (tst (e2 gNe (eVar 4) (eA lstF aNil)))) (sRet (eA tupF (zad (eC (.str "fault")) (zad (e2 gIx (eVar 4) (eC (.int 0))) aNil)))) sNx) (sRet (eA tupF (zad (eC (.str "told")) (zad (eA tupF (zad (eVar 5) (zad (eVar 4) aNil))) aNil)))))))
def zcv(c:Cl):Fn:=frzF (runD 6 (zec c))
def zne(c:Cl):DS:=(sRet (eAnd (e1 (gIsa .int) (eVar 0)) (eNot (e1 (gIsa .bool) (eVar 0)))))
def zf3(c:Cl):Fn:=runD 1 (zne c)
def zj4(c:Cl):DS:=(sSeq (sIf (tst (e2 gIs (eVar 1) (eC .non))) (sRet (e2 gIs (eVar 0) (eC .non))) sNx) (sRet (eAnd (zbe (lenF 1 (zf3 c)) [] (zad (eVar 0) aNil)) (e2 gEq (eVar 0) (eVar 1)))))
def zcj(c:Cl):Fn:=runD 2 (zj4 c)
def zcw(c:Cl):DS:=(sSeq (sSet 3 (e2 gIx (eVar 0) (eVar 2))) (sIf (tOrD (zm4 (tru (e1 (gIsa .tuple) (eVar 3)))) (tOrD (tst (e2 gNe (e1 gLen (eVar 3)) (eC (.int 2)))) (tOrD (tst (e2 gNe (e2 gIx (eVar 3) (eC (.int 0))) (e2 gIx (e2 gIx (eVar 1) (eVar 2)) (eC (.int 0))))) (zm4 (tru (zbe (lenF 2 (zcj c)) [] (zad (e2 gIx (eVar 3) (eC (.int 1))) (zad (e2 gIx (e2 gIx (eVar 1) (eVar 2)) (eC (.int 1))) aNil)))))))) (sRet (eC (.bl false))) sNx))
def zg7(c:Cl):DS:=(sSeq (sIf (tOrD (zm4 (tru (e1 (gIsa .list) (eVar 0)))) (tst (e2 gNe (e1 gLen (eVar 0)) (e1 gLen (eVar 1))))) (sRet (eC (.bl false))) sNx) (sSeq (sFor (iR1 (zad (e1 gLen (eVar 1)) aNil)) (zaz 2) (zcw c)) (sRet (eC (.bl true)))))
def zbh(c:Cl):Fn:=runD 4 (zg7 c)
def zee(c:Cl):DS:=(sSeq (sIf (tru (e1 (gIsa .list) (eVar 1))) (sRet (zbe (lenF 2 (zbh c)) [] (zad (eVar 0) (zad (eVar 1) aNil)))) sNx) (sRet (zbe (lenF 2 (zcj c)) [] (zad (eVar 0) (zad (eVar 1) aNil)))))
def zbw(c:Cl):Fn:=runD 2 (zee c)
def zcz(c:Cl):DS:=(sSet 2 (eA tupF (zad (eC (.str "told")) (zad (zbe (lenF 3 (zic c)) [] (zad (eVar 0) (zad (eC (.str "hub")) (zad (eVar 1) aNil)))) aNil))))
def zid(c:Cl):DS:=(sSet 2 (eA tupF (zad (eC (.str "ring")) aNil)))
noncomputable def zfd(c:Cl):DS:=(sSet 2 (eA tupF (zad (eC (.str "fault")) (zad (eA tupF (zad (e1 (gXat c.deedFault "piece") (eVar 3)) (zad (e1 (gXat c.deedFault "code") (eVar 3)) aNil))) aNil))))
def ze4(c:Cl):DS:=(sSeq (sSet 2 (eC .non)) (sSeq (dTry (zcz c) [2] (hdAs (subL [c.ring,c.deedFault] c.deedFault) 3 (zfd c) (z2w (subL [c.ring,c.deedFault] c.ring) (zid c) z4n))) (sRet (eVar 2))))
def zbc(c:Cl):Fn:=runD 4 (ze4 c)
def zf4(c:Cl):DS:=(sSeq (sIf (tst (e2 gNe (e2 gIx (eVar 0) (eC (.int 0))) (e2 gIx (eVar 1) (eC (.int 0))))) (sRet (eC (.bl false))) sNx) (sSeq (sIf (tst (e2 gEq (e2 gIx (eVar 1) (eC (.int 0))) (eC (.str "fault")))) (sRet (eAnd (e2 gEq (e2 gIx (e2 gIx (eVar 0) (eC (.int 1))) (eC (.int 0))) (e2 gIx (e2 gIx (eVar 1) (eC (.int 1))) (eC (.int 0)))) (zbe (lenF 2 (zcj c)) [] (zad (e2 gIx (e2 gIx (eVar 0) (eC (.int 1))) (eC (.int 1))) (zad (e2 gIx (e2 gIx (eVar 1) (eC (.int 1))) (eC (.int 1))) aNil))))) sNx) (sSeq (sIf (tOrD (zm4 (tru (e1 (gIsa .tuple) (e2 gIx (eVar 0) (eC (.int 1)))))) (tst (e2 gNe (e1 gLen (e2 gIx (eVar 0) (eC (.int 1)))) (eC (.int 2))))) (sRet (eC (.bl false))) sNx) (sRet (eAnd (zbe (lenF 2 (zbw c)) [] (zad (e2 gIx (e2 gIx (eVar 0) (eC (.int 1))) (eC (.int 0))) (zad (e2 gIx (e2 gIx (eVar 1) (eC (.int 1))) (eC (.int 0))) aNil))) (zbe (lenF 2 (zbh c)) [] (zad (e2 gIx (e2 gIx (eVar 0) (eC (.int 1))) (eC (.int 1))) (zad (e2 gIx (e2 gIx (eVar 1) (eC (.int 1))) (eC (.int 1))) aNil))))))))
def zbj(c:Cl):Fn:=runD 2 (zf4 c)
def zf5(c:Cl):DS:=(zn3 (eVar 9) (e2 gIx (eVar 10) (eC (.int 0))) (e2 gIx (eVar 10) (eC (.int 2))))
def zf6(c:Cl):DE:=(eA tupF (zad (eVar 0) (zad (e2 gDix (eVar 1) (eVar 0)) aNil)))
def zf7(c:Cl):DI:=(iL (eVar 8))
def znf(c:Cl):DS:=(sSeq (sSet 1 (zbe (lenF 3 (zgi c)) [] (zad (eVar 0) (zad (eC (.int 3)) (zad (e2 (gI fMod) (zbe (lenF 2 (za8 c)) [] (zad (eVar 0) (zad (eC (.int 0)) aNil))) (eC (.int 11))) aNil))))) (sSeq (sSet 2 (e2 gIx (eA lstF (zad (eC (.str "all")) (zad (eC (.str "first")) (zad (eC (.str "chain")) (zad (eC (.str "round")) aNil))))) (e2 (gI fMod) (zbe (lenF 2 (za8 c)) [] (zad (eVar 0) (zad (eC (.int 1)) aNil))) (eC (.int 4))))) (sSeq (sSet 3 (e2 gIx (eA lstF (zad (eC (.str "hold")) (zad (eC (.str "hand")) aNil))) (e2 (gI fMod) (e2 (gI fDiv) (zbe (lenF 2 (za8 c)) [] (zad (eVar 0) (zad (eC (.int 1)) aNil))) (eC (.int 4))) (eC (.int 2))))) (sSeq (sSet 4 (e2 (gI fSub) (e2 (gI fMod) (zbe (lenF 2 (za8 c)) [] (zad (eVar 0) (zad (eC (.int 2)) aNil))) (eC (.int 2001))) (eC (.int 1000)))) (sSeq (sSet 5 (zbe (lenF 3 (zfo c)) [] (zad (eVar 1) (zad (eVar 2) (zad (eVar 3) aNil))))) (sSeq (sSet 6 (zbe (lenF 1 (zd5 c)) [] (zad (eVar 1) aNil))) (sSeq (sSet 7 (zbe (lenF 2 (zbc c)) [] (zad (eVar 5) (zad (eVar 4) aNil)))) (sSeq (sSet 8 (zbe (lenF 2 (zht c)) [] (zad (eVar 6) (zad (zbe (lenF 2 (zf0 c)) [] (zad (eVar 1) (zad (eVar 6) aNil))) aNil)))) (sSeq (sIf (tst (e2 gIs (eVar 8) (eC .non))) (sRet (e2 gEq (eVar 7) (eA tupF (zad (eC (.str "ring")) aNil)))) sNx) (sSeq (sSet 9 zlw) (sSeq (sFor (iL (eVar 1)) (zaz 10) (zf5 c)) (sRet (zbe (lenF 2 (zbj c)) [] (zad (eVar 7) (zad (zbe (lenF 4 (zcv c)) [] (zad (eVar 2) (zad (eVar 3) (zad (zek 1 [9] (zf7 c) (zaz 0) yesD (zf6 c) finF) (zad (eVar 4) aNil))))) aNil)))))))))))))))
def zr0(c:Cl):Fn:=frzF (runD 11 (znf c))
end DN
namespace K05
open PySem L2 MF DN
def top(i:Nat):Stmt:=PySem.Challenge.pw_hookhall_k05_whole_calls.main.body.getD i (.Pass ⟨0,0,0,0⟩)
structure Tx(K:W.Frag)(mg:Str->Option Value)(c:Cl):Prop where
 mh:zd2 K c.hallError=some bmVE
 mro:∀C∈[c.ring,c.deedFault],C≠c.hallError->zd2 K C=some (.ref c.hallError::bmVE)
 n_any:mg "any" = none
 n_bool:mg "bool" = none
 c_MOST_PIECES:∃t,mg "MOST_PIECES" = some (.int 24 t)
 c_MOST_PLACES:∃t,mg "MOST_PLACES" = some (.int 8 t)
 cl_hall:Cls K c.hall
 a_hall_pieces:zca K c.hall "pieces"
 a_hall_places:zca K c.hall "places"
 cl_piece:Cls K c.piece
 a_piece_ahead:zca K c.piece "ahead"
 a_piece_bars:zca K c.piece "bars"
 a_piece_behind:zca K c.piece "behind"
 a_piece_by:zca K c.piece "by"
 a_piece_deed:zca K c.piece "deed"
 a_piece_needs:zca K c.piece "needs"
 a_piece_on:zca K c.piece "on"
 a_piece_place:zca K c.piece "place"
 cl_place:Cls K c.place
 a_place_kind:zca K c.place "kind"
 a_place_rule:zca K c.place "rule"
 cl_run:Cls K c.run
 a_run_around:zca K c.run "around"
 a_run_broken:zca K c.run "broken"
 a_run_deeds:zca K c.run "deeds"
 a_run_found:zca K c.run "found"
 a_run_held:zca K c.run "held"
 a_run_kind:zca K c.run "kind"
 a_run_number:zca K c.run "number"
 a_run_pairs:zca K c.run "pairs"
 a_run_rule:zca K c.run "rule"
 g_deedFault:XGet K c.deedFault
 xa_deedFault_code:W.findIn K (.ref c.deedFault) "code" = some none
 xa_deedFault_piece:W.findIn K (.ref c.deedFault) "piece" = some none
 b_1:W.specialIn K (.ref c.hallError) "__getattribute__" = some (some (.builtin "type.__getattribute__"))
 b_2:W.readsIn K c.hallError (.type "type")=true
 b_3:W.findCls K (.ref c.hallError) (.type "type") "__init__" = some (.val (.builtin "ValueError.__init__"))
 xc_deedFault:XCls K c.deedFault
 nf_deedFault_piece:W.findIn K (.ref c.deedFault) "piece" = some none
 nf_deedFault_code:W.findIn K (.ref c.deedFault) "code" = some none
 xc_ring:XCls K c.ring
 nf_ring_ring:W.findIn K (.ref c.ring) "ring" = some none
 n_int:mg "int" = none
 n_isinstance:mg "isinstance" = none
 n_len:mg "len" = none
 n_list:mg "list" = none
 m_deedFault:mg "DeedFault" = some (.ref c.deedFault)
 m_hallError:mg "HallError" = some (.ref c.hallError)
 m_nameThere:mg "NameThere" = some (.ref c.nameThere)
 m_noAnswer:mg "NoAnswer" = some (.ref c.noAnswer)
 m_noPiece:mg "NoPiece" = some (.ref c.noPiece)
 m_noPlace:mg "NoPlace" = some (.ref c.noPlace)
 m_ring:mg "Ring" = some (.ref c.ring)
 m_tooMany:mg "TooMany" = some (.ref c.tooMany)
 n_min:mg "min" = none
 d_deedFault:c.deedFault≠c.hallError
 qd_deedFault:zd2 K c.deedFault=some (.ref c.hallError::bmVE)
 d_ring:c.ring≠c.hallError
 qd_ring:zd2 K c.ring=some (.ref c.hallError::bmVE)
 n_range:mg "range" = none
 n_reversed:mg "reversed" = none
 n_tuple:mg "tuple" = none
 x_nameThere:W.excIn K c.nameThere bmVE "ValueError.__new__" = true
 x_noAnswer:W.excIn K c.noAnswer bmVE "ValueError.__new__" = true
 x_noPiece:W.excIn K c.noPiece bmVE "ValueError.__new__" = true
 x_noPlace:W.excIn K c.noPlace bmVE "ValueError.__new__" = true
 x_tooMany:W.excIn K c.tooMany bmVE "ValueError.__new__" = true
local macro_rules | `(tactic| walk_at "s") => `(tactic| exact ⟨rfl, rfl, rfl, by decide +kernel, rfl, by decide +kernel, by decide +kernel⟩)
abbrev zhu:Stmt:=top 32
theorem zn6:zal ["script", "k"] ["script", "k"] (zag zhu):=by walk_at "s"
abbrev zla:Stmt:=top 33
theorem zng:zal ["k", "letters"] ["k"] (zag zla):=by walk_at "s"
abbrev zlb:Stmt:=top 35
theorem ztz:zal ["cell", "many"] ["cell", "many"] (zag zlb):=by walk_at "s"
abbrev zlc:Stmt:=top 34
theorem zj5:zal ["cell", "number"] ["cell"] (zag zlc):=by walk_at "s"
abbrev ziw:Stmt:=top 36
theorem zbz:zal ["script", "start", "many", "pieces", "k", "one", "two", "three", "place", "wishes"] ["script", "start", "many"] (zag ziw):=by walk_at "s"
abbrev zf8:Stmt:=zcb (top 29) 0
theorem zl5:zal ["self"] ["self"] (zag zf8):=by walk_at "s"
abbrev zfe:Stmt:=zcb (top 27) 0
theorem zld:zal ["self", "kind", "rule"] ["self", "kind", "rule"] (zag zfe):=by walk_at "s"
abbrev zeu:Stmt:=zcb (top 29) 1
theorem zko:zal ["self", "name", "kind", "rule"] ["self", "name", "kind", "rule"] (zag zeu):=by walk_at "s"
abbrev zev:Stmt:=zcb (top 29) 9
theorem zkp:zal ["self", "name"] ["self", "name"] (zag zev):=by walk_at "s"
abbrev zew:Stmt:=zcb (top 29) 10
theorem zkq:zal ["self", "name"] ["self", "name"] (zag zew):=by walk_at "s"
abbrev zff:Stmt:=zcb (top 28) 0
theorem zle:zal ["self", "place", "deed", "by"] ["self", "place", "deed", "by"] (zag zff):=by walk_at "s"
abbrev zd1:Stmt:=zcb (top 29) 2
theorem zr1:zal ["self", "name", "place", "deed", "by"] ["self", "name", "place", "deed", "by"] (zag zd1):=by walk_at "s"
abbrev zpz:Stmt:=top 30
theorem z0e:zal ["names"] ["names"] (zag zpz):=by walk_at "s"
abbrev zex:Stmt:=zcb (top 29) 3
theorem zl0:zal ["self", "name", "ahead", "behind", "needs", "bars", "piece"] ["self", "name", "ahead", "behind", "needs", "bars"] (zag zex):=by walk_at "s"
abbrev zhv:Stmt:=zcb (top 29) 7
theorem zjs:zal ["self", "name", "on", "piece"] ["self", "name", "on"] (zag zhv):=by walk_at "s"
abbrev zlf:Stmt:=top 37
theorem zhw:zal ["pieces", "kind", "rule", "hall", "piece"] ["pieces", "kind", "rule"] (zag zlf):=by walk_at "s"
abbrev zix:Stmt:=top 38
theorem zp0:zal ["pieces"] ["pieces"] (zag zix):=by walk_at "s"
abbrev zlg:Stmt:=zcb (top 17) 1
theorem zt0:zal ["self"] ["self"] (zag zlg):=by walk_at "s"
abbrev zdo:Stmt:=zcb (top 17) 9
theorem ziy:zal ["self"] ["self"] (zag zdo):=by walk_at "s"
abbrev zdp:Stmt:=zcb (top 9) 0
theorem ziz:zal ["self", "piece", "code"] ["self", "piece", "code"] (zag zdp):=by walk_at "s"
abbrev zlh:Stmt:=zcb (top 17) 6
theorem zt1:zal ["self", "name", "code"] ["self", "name", "code"] (zag zlh):=by walk_at "s"
abbrev z0f:Stmt:=top 18
theorem z62:zal ["deed", "number"] ["deed", "number"] (zag z0f):=by walk_at "s"
abbrev zf9:Stmt:=zcb (top 17) 7
theorem zl6:zal ["self", "deed"] ["self", "deed"] (zag zf9):=by walk_at "s"
abbrev zli:Stmt:=zcb (top 17) 8
theorem zt2:zal ["self", "number"] ["self", "number"] (zag zli):=by walk_at "s"
abbrev zhx:Stmt:=zcb (top 17) 5
theorem zn7:zal ["self", "name", "deed"] ["self", "name", "deed"] (zag zhx):=by walk_at "s"
abbrev zlj:Stmt:=zcb (top 17) 2
theorem znh:zal ["self", "pair"] ["self"] (zag zlj):=by walk_at "s"
abbrev zi0:Stmt:=zcb (top 17) 4
theorem zp1:zal ["self"] ["self"] (zag zi0):=by walk_at "s"
abbrev zgu:Stmt:=top 19
theorem zef:zal ["number", "around", "back", "own"] ["number", "around"] (zag zgu):=by walk_at "s"
abbrev zi1:Stmt:=zcb (top 17) 3
theorem zp2:zal ["self"] ["self"] (zag zi1):=by walk_at "s"
abbrev zp3:Stmt:=top 23
theorem z0g:zal ["run"] ["run"] (zag zp3):=by walk_at "s"
abbrev zi2:Stmt:=top 12
theorem zcx:zal ["hall", "names", "seconds", "name", "piece", "other"] ["hall", "names"] (zag zi2):=by walk_at "s"
abbrev zga:Stmt:=top 13
theorem zie:zal ["seconds", "left", "name"] ["seconds", "left"] (zag zga):=by walk_at "s"
abbrev zgv:Stmt:=top 15
theorem zb7:zal ["seconds", "start", "rows", "reached", "longer", "row", "second"] ["seconds", "start"] (zag zgv):=by walk_at "s"
abbrev zgb:Stmt:=top 14
theorem zif:zal ["seconds", "rings"] ["seconds"] (zag zgb):=by walk_at "s"
abbrev zgc:Stmt:=zcb (top 8) 0
theorem zl7:zal ["self", "ring"] ["self", "ring"] (zag zgc):=by walk_at "s"
abbrev zhy:Stmt:=top 11
theorem zdv:zal ["hall", "names", "seconds", "left", "row", "name"] ["hall", "names"] (zag zhy):=by walk_at "s"
abbrev zgw:Stmt:=zcb (top 17) 0
theorem zni:zal ["self", "kind", "rule", "number", "deeds"] ["self", "kind", "rule", "number", "deeds"] (zag zgw):=by walk_at "s"
abbrev zi3:Stmt:=top 21
theorem zhz:zal ["hall", "place", "names", "number", "spot", "deeds"] ["hall", "place", "names", "number"] (zag zi3):=by walk_at "s"
abbrev znj:Stmt:=zcb (top 29) 8
theorem zxg:zal ["self", "place"] ["self", "place"] (zag znj):=by walk_at "s"
abbrev zt3:Stmt:=top 20
theorem z27:zal ["hall", "place", "number"] ["hall", "place", "number"] (zag zt3):=by walk_at "s"
abbrev z0h:Stmt:=top 22
theorem z63:zal ["hall", "place", "number"] ["hall", "place", "number"] (zag z0h):=by walk_at "s"
abbrev zlk:Stmt:=top 50
theorem zey:zal ["hall", "number", "found", "e"] ["hall", "number"] (zag zlk):=by walk_at "s"
abbrev zll:Stmt:=top 40
theorem znk:zal ["name", "left", "pairs", "pair"] ["name", "left", "pairs"] (zag zll):=by walk_at "s"
abbrev zj6:Stmt:=top 41
theorem zgl:zal ["names", "pairs", "left", "found", "free"] ["names", "pairs"] (zag zj6):=by walk_at "s"
abbrev zj7:Stmt:=top 39
theorem zi4:zal ["pieces", "names", "pairs", "piece"] ["pieces", "names"] (zag zj7):=by walk_at "s"
abbrev zj8:Stmt:=top 46
theorem zr2:zal ["found"] ["found"] (zag zj8):=by walk_at "s"
abbrev zj9:Stmt:=top 47
theorem zr3:zal ["found", "due"] ["found", "due"] (zag zj9):=by walk_at "s"
abbrev zez:Stmt:=top 48
theorem zeg:zal ["found", "due", "k", "one"] ["found", "due"] (zag zez):=by walk_at "s"
abbrev zeh:Stmt:=top 49
theorem zka:zal ["found", "due"] ["found", "due"] (zag zeh):=by walk_at "s"
abbrev zkb:Stmt:=top 51
theorem zr4:zal ["found", "due"] ["found", "due"] (zag zkb):=by walk_at "s"
abbrev zh0:Stmt:=top 43
theorem zl1:zal ["rows", "number", "held", "deed"] ["rows", "number", "held"] (zag zh0):=by walk_at "s"
abbrev zlm:Stmt:=top 42
theorem zt4:zal ["deed", "number"] ["deed", "number"] (zag zlm):=by walk_at "s"
abbrev zi5:Stmt:=top 44
theorem zdj:zal ["kind", "rows", "number", "held", "told", "name", "deed", "said_v"] ["kind", "rows", "number", "held"] (zag zi5):=by walk_at "s"
abbrev zh1:Stmt:=top 45
theorem zgx:zal ["kind", "rule", "rows", "number", "held", "answer"] ["kind", "rule", "rows", "number"] (zag zh1):=by walk_at "s"
abbrev zxh:Stmt:=top 52
theorem zi6:zal ["script", "pieces", "kind", "rule", "number", "hall", "names", "found", "row", "deeds", "piece"] ["script"] (zag zxh):=by walk_at "s"
section
variable (P:Program)(w:World){K:W.Frag}{mg:Str->Option Value}(base:Heap){c:Cl}(T:Tx K mg c){f:Addr}{fd:FuncData}{dV:Value}
include T
set_option autoImplicit true
local macro_rules | `(tactic| walk_at "o") => `(tactic| first | exact Or.inl rfl | exact Or.inr rfl)
local macro_rules | `(tactic| walk_at "c") => `(tactic| exact ⟨rfl, (by first | exact Or.inr (Or.inl rfl) | exact Or.inr (Or.inr rfl)), (by walk_at "o"), (by walk_at "o"), rfl⟩)
theorem zn8(F:FunV K "_law_cell_at" "_law_cell_at" zhu dV f fd)  : FnOk P w K mg base (CXE P w) 1 f fd ["script", "k"] (spM 2 (za8 c)):=
 mfx F zn6 fun _ _ _ _ _ _ hr hu1 hu6=>by exact(zac (s_if (t_lt (ev 1) (zxa (by rfl) T.n_len (ev 0))) (zah (za4 (e_ix (ev 0) (ev 1)))) zax) (zah (za4 zaf)))
theorem zt5(F:FunV K "_law_name" "_law_name" zla dV f fd)  : FnOk P w K mg base (CXE P w) 1 f fd ["k"] (spM 1 (zc0 c)):=
 mfx F zng fun _ _ _ _ _ _ hr hu1 hu6=>by exact(zac (zby (i:=1) zng.nd (by rfl) (by walk_at "o") zap) (zac (s_if (t_eq hu6 (zgp (ev 0) zaf) zaf) (zah (za4 (e_ix (ev 1) (zgp (ev 0) zaf)))) zax) (zah (za4 (z9p zap (zaa (zzi (xs:=["letters", "k"]) (js:=[1,0]) (nts:=["j"]) (by rfl) ⟨rfl,by decide +kernel,rfl,by decide +kernel,(fun p hp=>by rcases List.mem_cons.mp hp with rfl | hp;(· rfl);rcases List.mem_singleton.mp hp with rfl;rfl),rfl,⟨(by walk_at "c"),⟨(by walk_at "c"),trivial⟩⟩⟩ (zms (by rfl) T.n_range (zaa (zig zaf (zgp (ev 0) zaf)) zae)) zm8 (fun _ _ _=>(zbi (i:=0) (show(["j", "letters", "k"]:List Str).Nodup by decide +kernel) (by rfl) (by walk_at "o"))) (zbx _) (fun _ _ _=>(e_ix (ev 1) (zgp (zig (ev 2) (zw8 zaf (ev 0))) zaf))) zm9) zae))))))
theorem zt6(F:FunV K "_law_some" "_law_some" zlb dV f fd)(G0:FnAt P w K mg base 1 "_law_name" ["k"] (zc0 c) f0 g0):FnOk P w K mg base (CXE P w) 2 f fd ["cell", "many"] (spM 2 (zc1 c)):=
 mfx F ztz fun _ _ _ _ _ _ hr hu1 hu6=>by exact(zac (s_if (t_gt (zgp (ev 0) zaf) zaf) (zah (za4 (zil zae))) zax) (zac (s_if (t_eq hu6 (zgp (ev 0) zaf) zaf) (zah (za4 (zil (zaa (zaw G0 hr (by rfl) zak (zaa (zgp (zn2 (ev 0) zaf) (ev 1)) zae)) (zaa (zaw G0 hr (by rfl) zak (zaa (zgp (zn2 (ev 0) zaf) (ev 1)) zae)) zae))))) zax) (zah (za4 (zil (zaa (zaw G0 hr (by rfl) zak (zaa (zgp (zn2 (ev 0) zaf) (ev 1)) zae)) zae))))))
theorem zt7(F:FunV K "_law_deed" "_law_deed" zlc dV f fd)  : FnOk P w K mg base (CXE P w) 1 f fd ["cell"] (spM 1 (zg5 c)):=
 mfx F zj5 fun _ _ _ _ _ _ hr hu1 hu6=>by exact(zac (zby (i:=1) zj5.nd (by rfl) (by walk_at "o") (z6a (zgp (zn2 (ev 0) zaf) zaf) zaf)) (zac (s_if (t_eq hu6 (zgp (zn2 (ev 0) zaf) zaf) zaf) (zah (zby (i:=1) zj5.nd (by rfl) (by walk_at "o") (z6a (zgp (ev 0) (z9b zaf zaf)) (z9b zaf zaf)))) zax) (zac (s_if (t_eq hu6 (zgp (ev 0) zaf) zaf) (zah (za4 (zfw (zaa zap (zaa (ev 1) zae))))) zax) (zac (s_if (t_eq hu6 (zgp (ev 0) zaf) zaf) (zah (za4 (zfw (zaa zap zae)))) zax) (zac (s_if (t_eq hu6 (zgp (ev 0) zaf) zaf) (zah (za4 (zfw (zaa zap (zaa (ev 1) zae))))) zax) (zah (za4 (zfw (zaa zap (zaa (ev 1) zae))))))))))
theorem zp4(F:FunV K "_law_pieces" "_law_pieces" ziw dV f fd)(G0:FnAt P w K mg base 2 "_law_cell_at" ["script", "k"] (za8 c) f0 g0)(G1:FnAt P w K mg base 2 "_law_some" ["cell", "many"] (zc1 c) f1 g1)(G2:FnAt P w K mg base 2 "_law_deed" ["cell"] (zg5 c) f2 g2)(G3:FnAt P w K mg base 2 "_law_name" ["k"] (zc0 c) f3 g3):FnOk P w K mg base (CXE P w) 3 f fd ["script", "start", "many"] (spM 3 (zgi c)):=
 FnOk.frz (mfx F zbz fun _ _ _ _ _ _ hr hu1 hu6=>by exact(zac (zby (i:=3) zbz.nd (by rfl) (by walk_at "o") (zgh zae)) (zac (zji PassesOwn.leaving (by rfl) (zms (by rfl) T.n_range (zaa (ev 2) zae)) zm8 (zbi (i:=4) zbz.nd (by rfl) (by walk_at "o")) (zbx _) (zac (zby (i:=5) zbz.nd (by rfl) (by walk_at "o") (zaw G0 hr (by rfl) zak (zaa (ev 0) (zaa (zig (ev 1) (zw8 zaf (ev 4))) zae)))) (zac (zby (i:=6) zbz.nd (by rfl) (by walk_at "o") (zaw G0 hr (by rfl) zak (zaa (ev 0) (zaa (zig (zig (ev 1) (zw8 zaf (ev 4))) zaf) zae)))) (zac (zby (i:=7) zbz.nd (by rfl) (by walk_at "o") (zaw G0 hr (by rfl) zak (zaa (ev 0) (zaa (zig (zig (ev 1) (zw8 zaf (ev 4))) zaf) zae)))) (zac (zby (i:=8) zbz.nd (by rfl) (by walk_at "o") (e_ix (zil (zaa zap (zaa zap (zaa zap (zaa zap zae))))) (zgp (zn2 (ev 5) zaf) zaf))) (zac (zby (i:=9) zbz.nd (by rfl) (by walk_at "o") (zil (zaa (zaw G1 hr (by rfl) zak (zaa (ev 6) (zaa (zig (ev 2) zaf) zae))) (zaa (zaw G1 hr (by rfl) zak (zaa (zn2 (ev 6) zaf) (zaa (zig (ev 2) zaf) zae))) zae)))) (zac (zby (i:=9) zbz.nd (by rfl) (by walk_at "o") (zig (ev 9) (zil (zaa (zaw G1 hr (by rfl) zak (zaa (ev 7) (zaa (zig (ev 2) zaf) zae))) (zaa (zaw G1 hr (by rfl) zak (zaa (zn2 (ev 7) zaf) (zaa (zig (ev 2) zaf) zae))) zae))))) (zah (zbr (zn4 (ev 3) (zaa (zfw (zaa (zaw G3 hr (by rfl) zak (zaa (ev 4) zae)) (zaa (ev 8) (zaa (zaw G2 hr (by rfl) zak (zaa (ev 5) zae)) (zaa (ev 9) (zaa (e_ne hu6 (zgp (zn2 (ev 5) zaf) zaf) zaf) zae)))))) zae))))))))))) (zah (za4 (ev 3))))))
theorem zl8(F:FunV K "__init__" "Hall.__init__" zf8 dV f fd)  : FnOk P w K mg base (CXE P w) 1 f fd ["self"] (spM 1 (zda c)):=
 mfx F zl5 fun _ _ _ _ _ _ hr hu1 hu6=>by exact(zac (zen T.cl_hall T.a_hall_places (ev 0) zm5) (zah (zen T.cl_hall T.a_hall_pieces (ev 0) zm5)))
theorem zln(F:FunV K "__init__" "Place.__init__" zfe dV f fd)  : FnOk P w K mg base (CXE P w) 1 f fd ["self", "kind", "rule"] (spM 3 (zcy c)):=
 mfx F zld fun _ _ _ _ _ _ hr hu1 hu6=>by exact(zac (zen T.cl_place T.a_place_kind (ev 0) (ev 1)) (zah (zen T.cl_place T.a_place_rule (ev 0) (ev 2))))
theorem zkr(F:FunV K "open_place" "Hall.open_place" zeu dV f fd)(G0:MkAt P w K mg base 1 "Place" c.place ["self", "kind", "rule"] (zcy c) f0 g0):FnOk P w K mg base (CXE P w) 3 f fd ["self", "name", "kind", "rule"] (spM 4 (zb3 c)):=
 mfx F zko fun _ _ _ _ _ _ hr hu1 hu6=>by exact(zac (s_if (z2m hu1 (ev 1) (zb9 T.cl_hall T.a_hall_places (ev 0))) (zah (zj0 zft (by rfl) T.x_nameThere (by rfl) T.m_nameThere (zaa (zml (.cons zap (.cons (zvo (ev 1)) (.cons zap .nil)))) zae))) zax) (zac (s_if (t_ge (z4g (by rfl) T.n_len (zb9 T.cl_hall T.a_hall_places (ev 0))) (z4l (by rfl) T.c_MOST_PLACES)) (zah (zj0 zft (by rfl) T.x_tooMany (by rfl) T.m_tooMany (zaa zap zae))) zax) (zah (zm7 hu1 (zb9 T.cl_hall T.a_hall_places (ev 0)) (ev 1) (zzq G0 hr (by rfl) zak (zaa (ev 2) (zaa (ev 3) zae)))))))
theorem zks(F:FunV K "find_place" "Hall.find_place" zev dV f fd)  : FnOk P w K mg base (CXE P w) 1 f fd ["self", "name"] (spM 2 (za7 c)):=
 mfx F zkp fun _ _ _ _ _ _ hr hu1 hu6=>by exact(zac (s_if (zpi hu1 (ev 1) (zb9 T.cl_hall T.a_hall_places (ev 0))) (zah (zj0 zft (by rfl) T.x_noPlace (by rfl) T.m_noPlace (zaa (zml (.cons zap (.cons (zvo (ev 1)) .nil))) zae))) zax) (zah (za4 (zri hu1 (zb9 T.cl_hall T.a_hall_places (ev 0)) (ev 1)))))
theorem zkt(F:FunV K "find_piece" "Hall.find_piece" zew dV f fd)  : FnOk P w K mg base (CXE P w) 1 f fd ["self", "name"] (spM 2 (zaq c)):=
 mfx F zkq fun _ _ _ _ _ _ hr hu1 hu6=>by exact(zac (s_if (zpi hu1 (ev 1) (zb9 T.cl_hall T.a_hall_pieces (ev 0))) (zah (zj0 zft (by rfl) T.x_noPiece (by rfl) T.m_noPiece (zaa (zml (.cons zap (.cons (zvo (ev 1)) (.cons zap .nil)))) zae))) zax) (zah (za4 (zri hu1 (zb9 T.cl_hall T.a_hall_pieces (ev 0)) (ev 1)))))
theorem zlo(F:FunV K "__init__" "Piece.__init__" zff dV f fd)  : FnOk P w K mg base (CXE P w) 1 f fd ["self", "place", "deed", "by"] (spM 4 (zcd c)):=
 mfx F zle fun _ _ _ _ _ _ hr hu1 hu6=>by exact(zac (zen T.cl_piece T.a_piece_place (ev 0) (ev 1)) (zac (zen T.cl_piece T.a_piece_deed (ev 0) (ev 2)) (zac (zen T.cl_piece T.a_piece_by (ev 0) (ev 3)) (zac (zen T.cl_piece T.a_piece_on (ev 0) zjz) (zac (zen T.cl_piece T.a_piece_ahead (ev 0) (zgh zae)) (zac (zen T.cl_piece T.a_piece_behind (ev 0) (zgh zae)) (zac (zen T.cl_piece T.a_piece_needs (ev 0) (zgh zae)) (zah (zen T.cl_piece T.a_piece_bars (ev 0) (zgh zae))))))))))
theorem zr5(F:FunV K "hang" "Hall.hang" zd1 dV f fd)(G0:MeAt P w K mg base 2 c.hall "find_place" ["self", "name"] (za7 c) f0 g0)(G1:MeAt P w K mg base 2 c.hall "find_piece" ["self", "name"] (zaq c) f1 g1)(G2:MkAt P w K mg base 1 "Piece" c.piece ["self", "place", "deed", "by"] (zcd c) f2 g2):FnOk P w K mg base (CXE P w) 3 f fd ["self", "name", "place", "deed", "by"] (spM 5 (zfx c)):=
 mfx F zr1 fun _ _ _ _ _ _ hr hu1 hu6=>by exact(zac (s_if (z2m hu1 (ev 1) (zb9 T.cl_hall T.a_hall_pieces (ev 0))) (zah (zj0 zft (by rfl) T.x_nameThere (by rfl) T.m_nameThere (zaa (zml (.cons zap (.cons (zvo (ev 1)) (.cons zap .nil)))) zae))) zax) (zac (zbr (ze6 G0 hr zak (ev 0) (zaa (ev 2) zae))) (zac (s_if (ztm (ev 4) zfg) (zah (zbr (ze6 G1 hr zak (ev 0) (zaa (ev 4) zae)))) zax) (zac (s_if (t_ge (z4g (by rfl) T.n_len (zb9 T.cl_hall T.a_hall_pieces (ev 0))) (z4l (by rfl) T.c_MOST_PIECES)) (zah (zj0 zft (by rfl) T.x_tooMany (by rfl) T.m_tooMany (zaa zap zae))) zax) (zah (zm7 hu1 (zb9 T.cl_hall T.a_hall_pieces (ev 0)) (ev 1) (zzq G2 hr (by rfl) zak (zaa (ev 2) (zaa (ev 3) (zaa (ev 4) zae))))))))))
theorem z0i(F:FunV K "wished" "wished" zpz dV f fd)  : FnOk P w K mg base (CXE P w) 1 f fd ["names"] (spM 1 (zc7 c)):=
 mfx F z0e fun _ _ _ _ _ _ hr hu1 hu6=>by exact(zah (za4 (z6e (t_is (ev 0) zfg) (zil zae) (zzd (by rfl) (by rfl) T.n_list (ev 0)))))
theorem zr6(F:FunV K "wish" "Hall.wish" zex dV f fd)(G0:MeAt P w K mg base 1 c.hall "find_piece" ["self", "name"] (zaq c) f0 g0)(G1:FnAt P w K mg base 1 "wished" ["names"] (zc7 c) f1 g1):FnOk P w K mg base (CXE P w) 2 f fd ["self", "name", "ahead", "behind", "needs", "bars"] (spM 6 (zfy c)):=
 mfx F zl0 fun _ _ _ _ _ _ hr hu1 hu6=>by exact(zac (zby (i:=6) zl0.nd (by rfl) (by walk_at "o") (ze6 G0 hr zak (ev 0) (zaa (ev 1) zae))) (zac (zbr (zxe (zb9 T.cl_piece T.a_piece_ahead (ev 6)) (zaa (zaw G1 hr (by rfl) zak (zaa (ev 2) zae)) zae))) (zac (zbr (zxe (zb9 T.cl_piece T.a_piece_behind (ev 6)) (zaa (zaw G1 hr (by rfl) zak (zaa (ev 3) zae)) zae))) (zac (zbr (zxe (zb9 T.cl_piece T.a_piece_needs (ev 6)) (zaa (zaw G1 hr (by rfl) zak (zaa (ev 4) zae)) zae))) (zah (zbr (zxe (zb9 T.cl_piece T.a_piece_bars (ev 6)) (zaa (zaw G1 hr (by rfl) zak (zaa (ev 5) zae)) zae))))))))
theorem zn9(F:FunV K "switch" "Hall.switch" zhv dV f fd)(G0:MeAt P w K mg base 1 c.hall "find_piece" ["self", "name"] (zaq c) f0 g0):FnOk P w K mg base (CXE P w) 2 f fd ["self", "name", "on"] (spM 3 (zea c)):=
 mfx F zjs fun _ _ _ _ _ _ hr hu1 hu6=>by exact(zac (zby (i:=3) zjs.nd (by rfl) (by walk_at "o") (ze6 G0 hr zak (ev 0) (zaa (ev 1) zae))) (zah (zen T.cl_piece T.a_piece_on (ev 3) (ev 2))))
theorem zt8(F:FunV K "_law_hall" "_law_hall" zlf dV f fd)(G0:MkAt P w K mg base 2 "Hall" c.hall ["self"] (zda c) f0 g0)(G1:MeAt P w K mg base 3 c.hall "open_place" ["self", "name", "kind", "rule"] (zb3 c) f1 g1)(G2:MeAt P w K mg base 3 c.hall "hang" ["self", "name", "place", "deed", "by"] (zfx c) f2 g2)(B21:ze5 K g2 ["self", "name", "place", "deed", "by"] [.none])(G3:MeAt P w K mg base 3 c.hall "wish" ["self", "name", "ahead", "behind", "needs", "bars"] (zfy c) f3 g3)(G4:MeAt P w K mg base 3 c.hall "switch" ["self", "name", "on"] (zea c) f4 g4):FnOk P w K mg base (CXE P w) 4 f fd ["pieces", "kind", "rule"] (spM 3 (zfo c)):=
 mfx F zhw fun _ _ _ _ _ _ hr hu1 hu6=>by exact(zac (zby (i:=3) zhw.nd (by rfl) (by walk_at "o") (z6o G0 hr (by rfl) zak)) (zac (zbr (ze6 G1 hr zak (ev 3) (zaa zap (zaa (ev 1) (zaa (ev 2) zae))))) (zac (zbr (ze6 G1 hr zak (ev 3) (zaa zap (zaa zap (zaa zap zae))))) (zac (zji PassesOwn.leaving (by rfl) (zcn (ev 0)) (zcp _) (zbi (i:=4) zhw.nd (by rfl) (by walk_at "o")) (zbx _) (zah (zbr (z6n G2 hr zak B21 zzt zzu (ev 3) (zaa (e_ix (ev 4) zaf) (zaa (e_ix (ev 4) zaf) (zaa (e_ix (ev 4) zaf) zae))))))) (zac (zji PassesOwn.leaving (by rfl) (zcn (ev 0)) (zcp _) (zbi (i:=4) zhw.nd (by rfl) (by walk_at "o")) (zbx _) (zac (zbr (ze6 G3 hr zak (ev 3) (zaa (e_ix (ev 4) zaf) (zaa (e_ix (e_ix (ev 4) zaf) zaf) (zaa (z6f (by rfl) T.n_tuple (e_ix (e_ix (ev 4) zaf) zaf)) (zaa (e_ix (e_ix (ev 4) zaf) zaf) (zaa (e_ix (e_ix (ev 4) zaf) zaf) zae))))))) (zah (s_if (zrg (zik (e_ix (ev 4) zaf))) (zah (zbr (ze6 G4 hr zak (ev 3) (zaa (e_ix (ev 4) zaf) (zaa zjz zae))))) zax)))) (zah (za4 (ev 3))))))))
theorem zp5(F:FunV K "_law_at_hub" "_law_at_hub" zix dV f fd)  : FnOk P w K mg base (CXE P w) 1 f fd ["pieces"] (spM 1 (zd5 c)):=
 mfx F zp0 fun _ _ _ _ _ _ hr hu1 hu6=>by exact(zah (za4 (zpn (xs:=[]) (js:=[]) (nts:=["piece"]) (by rfl) ⟨rfl,by decide +kernel,rfl,by decide +kernel,(fun p hp=>absurd hp List.not_mem_nil),rfl,trivial⟩ (zcn (ev 0)) (zcp _) (fun _ _ _=>(zbi (i:=0) (show(["piece"]:List Str).Nodup by decide +kernel) (by rfl) (by walk_at "o"))) (zbx _) (fun _ _ _=>((zw9 (t_eq hu6 (e_ix (ev 0) zaf) zap) (zon (zik (e_ix (ev 0) zaf))))).pt) (fun _ _ _=>(e_ix (ev 0) zaf)) zm9)))
theorem zt9(F:FunV K "over" "Run.over" zlg dV f fd)  : FnOk P w K mg base (CXE P w) 1 f fd ["self"] (spM 1 (zc4 c)):=
 mfx F zt0 fun _ _ _ _ _ _ hr hu1 hu6=>by exact(zah (za4 (z9i (zb9 T.cl_run T.a_run_deeds (ev 0)))))
theorem zi7(F:FunV K "leave_the_rest" "Run.leave_the_rest" zdo dV f fd)  : FnOk P w K mg base (CXE P w) 1 f fd ["self"] (spM 1 (zas c)):=
 mfx F ziy fun _ _ _ _ _ _ hr hu1 hu6=>by exact(zah (zbr (z6j (zb9 T.cl_run T.a_run_deeds (ev 0)))))
theorem zi8(F:FunV K "__init__" "DeedFault.__init__" zdp dV f fd)(q:zd8 K c.deedFault f=true):FnOk P w K mg base (CXE P w) 1 f fd ["self", "piece", "code"] (spX2 c.deedFault "piece" "code" false):=
 z2x F ziz T.xc_deedFault q T.nf_deedFault_piece T.nf_deedFault_code (fun cdv A outer s H E hr=>zme (zs2 (zvd (by rfl) T.m_hallError T.b_1 T.b_2 T.b_3 (zfr (zih (i:=0) (by rfl) (by first | exact Or.inl rfl | exact Or.inr (Or.inl rfl) | exact Or.inr (Or.inr rfl))) (zfr (zm1 (.cons zux (.cons (zyx (zih (i:=1) (by rfl) (by first | exact Or.inl rfl | exact Or.inr (Or.inl rfl) | exact Or.inr (Or.inr rfl)))) (.cons zux .nil)))) zls)))) (zme (ztk (zih (i:=0) (by rfl) (by first | exact Or.inl rfl | exact Or.inr (Or.inl rfl) | exact Or.inr (Or.inr rfl))) (zih (i:=1) (by rfl) (by first | exact Or.inl rfl | exact Or.inr (Or.inl rfl) | exact Or.inr (Or.inr rfl))) (by rfl)) (zs1 (ztk (zih (i:=0) (by rfl) (by first | exact Or.inl rfl | exact Or.inr (Or.inl rfl) | exact Or.inr (Or.inr rfl))) (zih (i:=2) (by rfl) (by first | exact Or.inl rfl | exact Or.inr (Or.inl rfl) | exact Or.inr (Or.inr rfl))) (by rfl))))) (z6z "the deed of " " fell" (by decide) (by decide))
theorem zua(F:FunV K "fall" "Run.fall" zlh dV f fd)(G0:MeAt P w K mg base 2 c.run "leave_the_rest" ["self"] (zas c) f0 g0)(G1:X2At P w K mg base 1 c.deedFault "piece" "code" false ["self", "piece", "code"] f1 g1):FnOk P w K mg base (CXE P w) 3 f fd ["self", "name", "code"] (spM 3 (zes c)):=
 mfx F zt1 fun _ _ _ _ _ _ hr hu1 hu6=>by exact(zac (s_if (t_eq hu6 (zb9 T.cl_run T.a_run_rule (ev 0)) zap) (zac (zen T.cl_run T.a_run_broken (ev 0) zjz) (zac (zbr (zhh G0 hr zak (ev 0))) (zah (z2y zom (by rfl) (by decide) G1.q G1.hf G1.ok hr G1.hb (by rfl) T.m_deedFault (zaa (ev 1) (zaa (ev 2) zae)))))) zax) (zah (zbr (zn4 (zb9 T.cl_run T.a_run_held (ev 0)) (zaa (zfw (zaa (ev 1) (zaa (ev 2) zae))) zae)))))
theorem z64(F:FunV K "said" "said" z0f dV f fd)  : FnOk P w K mg base (CXE P w) 1 f fd ["deed", "number"] (spM 2 (zib c)):=
 mfx F z62 fun _ _ _ _ _ _ hr hu1 hu6=>by exact(zac (s_if (t_eq hu6 (e_ix (ev 0) zaf) zap) (zah (za4 (zig (ev 1) (e_ix (ev 0) zaf)))) zax) (zac (s_if (t_eq hu6 (e_ix (ev 0) zaf) zap) (zah (za4 (e_ix (ev 0) zaf))) zax) (zah (za4 zfg))))
theorem zl9(F:FunV K "go_within" "Run.go_within" zf9 dV f fd)(G0:FnAt P w K mg base 1 "said" ["deed", "number"] (zib c) f0 g0)(G1:MeAt P w K mg base 1 c.run "leave_the_rest" ["self"] (zas c) f1 g1):FnOk P w K mg base (CXE P w) 2 f fd ["self", "deed"] (spM 2 (zbt c)):=
 mfx F zl6 fun _ _ _ _ _ _ hr hu1 hu6=>by exact(zah (s_if (t_eq hu6 (e_ix (ev 1) zaf) zap) (zac (zbr (zn4 (zb9 T.cl_run T.a_run_around (ev 0)) (zaa (e_ix (ev 1) zaf) zae))) (zah (zen T.cl_run T.a_run_number (ev 0) (zaw G0 hr (by rfl) zak (zaa (ev 1) (zaa (zb9 T.cl_run T.a_run_number (ev 0)) zae)))))) (zah (s_if (t_eq hu6 (e_ix (ev 1) zaf) zap) (zac (zen T.cl_run T.a_run_number (ev 0) (zaw G0 hr (by rfl) zak (zaa (ev 1) (zaa (zb9 T.cl_run T.a_run_number (ev 0)) zae)))) (zah (zbr (zhh G1 hr zak (ev 0))))) zax))))
theorem zub(F:FunV K "hear" "Run.hear" zli dV f fd)(G0:MeAt P w K mg base 1 c.run "leave_the_rest" ["self"] (zas c) f0 g0):FnOk P w K mg base (CXE P w) 2 f fd ["self", "number"] (spM 2 (zfq c)):=
 mfx F zt2 fun _ _ _ _ _ _ hr hu1 hu6=>by exact(zah (s_if (t_eq hu6 (zb9 T.cl_run T.a_run_kind (ev 0)) zap) (zac (zen T.cl_run T.a_run_found (ev 0) (ev 1)) (zah (zbr (zhh G0 hr zak (ev 0))))) (zah (zen T.cl_run T.a_run_number (ev 0) (ev 1)))))
theorem zoa(F:FunV K "perform" "Run.perform" zhx dV f fd)(G0:MeAt P w K mg base 3 c.run "fall" ["self", "name", "code"] (zes c) f0 g0)(G1:FnAt P w K mg base 3 "said" ["deed", "number"] (zib c) f1 g1)(G2:MeAt P w K mg base 3 c.run "go_within" ["self", "deed"] (zbt c) f2 g2)(G3:MeAt P w K mg base 3 c.run "hear" ["self", "number"] (zfq c) f3 g3):FnOk P w K mg base (CXE P w) 4 f fd ["self", "name", "deed"] (spM 3 (zbg c)):=
 mfx F zn7 fun _ _ _ _ _ _ hr hu1 hu6=>by exact(zah (s_if (t_eq hu6 (e_ix (ev 2) zaf) zap) (zah (zbr (ze6 G0 hr zak (ev 0) (zaa (ev 1) (zaa (e_ix (ev 2) zaf) zae))))) (zah (s_if (t_eq hu6 (zb9 T.cl_run T.a_run_kind (ev 0)) zap) (zah (zbr (zn4 (zb9 T.cl_run T.a_run_pairs (ev 0)) (zaa (zfw (zaa (ev 1) (zaa (zaw G1 hr (by rfl) zak (zaa (ev 2) (zaa (zb9 T.cl_run T.a_run_number (ev 0)) zae))) zae))) zae)))) (zah (s_if (t_eq hu6 (zb9 T.cl_run T.a_run_kind (ev 0)) zap) (zah (zbr (ze6 G2 hr zak (ev 0) (zaa (ev 2) zae)))) (zah (s_if (t_ne hu6 (e_ix (ev 2) zaf) zap) (zah (zbr (ze6 G3 hr zak (ev 0) (zaa (zaw G1 hr (by rfl) zak (zaa (ev 2) (zaa (zb9 T.cl_run T.a_run_number (ev 0)) zae))) zae)))) zax))))))))
theorem zuc(F:FunV K "step" "Run.step" zlj dV f fd)(G0:MeAt P w K mg base 4 c.run "over" ["self"] (zc4 c) f0 g0)(G1:MeAt P w K mg base 4 c.run "perform" ["self", "name", "deed"] (zbg c) f1 g1):FnOk P w K mg base (CXE P w) 5 f fd ["self"] (spM 1 (zet c)):=
 mfx F znh fun _ _ _ _ _ _ hr hu1 hu6=>by exact(zac (s_if (zik (zhh G0 hr zak (ev 0))) (zah (za4 zfg)) zax) (zac (zby (i:=1) znh.nd (by rfl) (by walk_at "o") (z6i (zb9 T.cl_run T.a_run_deeds (ev 0)) (zaa zaf zae))) (zac (zbr (ze6 G1 hr zak (ev 0) (zaa (e_ix (ev 1) zaf) (zaa (e_ix (ev 1) zaf) zae)))) (zah (za4 (e_ix (ev 1) zaf))))))
theorem zp6(F:FunV K "faults" "Run.faults" zi0 dV f fd)  : FnOk P w K mg base (CXE P w) 1 f fd ["self"] (spM 1 (ze9 c)):=
 mfx F zp1 fun _ _ _ _ _ _ hr hu1 hu6=>by exact(zah (za4 (zzd (by rfl) (by rfl) T.n_list (zb9 T.cl_run T.a_run_held (ev 0)))))
theorem znl(F:FunV K "brought_back" "brought_back" zgu dV f fd)  : FnOk P w K mg base (CXE P w) 1 f fd ["number", "around"] (spM 2 (zdt c)):=
 mfx F zef fun _ _ _ _ _ _ hr hu1 hu6=>by exact(zac (zby (i:=2) zef.nd (by rfl) (by walk_at "o") (ev 0)) (zac (zji PassesOwn.leaving (by rfl) (z9y (by rfl) T.n_reversed (zaa (ev 1) zae)) (z9z _) (zbi (i:=3) zef.nd (by rfl) (by walk_at "o")) (zbx _) (zah (zby (i:=2) zef.nd (by rfl) (by walk_at "o") (zig (zw8 (ev 2) zaf) (ev 3))))) (zah (za4 (ev 2)))))
theorem zp7(F:FunV K "answer" "Run.answer" zi1 dV f fd)(G0:MeAt P w K mg base 1 c.run "over" ["self"] (zc4 c) f0 g0)(G1:FnAt P w K mg base 1 "brought_back" ["number", "around"] (zdt c) f1 g1):FnOk P w K mg base (CXE P w) 2 f fd ["self"] (spM 1 (ze8 c)):=
 mfx F zp2 fun _ _ _ _ _ _ hr hu1 hu6=>by exact(zac (s_if ((t_or (zik (zb9 T.cl_run T.a_run_broken (ev 0))) (z2i (zrg (zik (zhh G0 hr zak (ev 0))))))).pt (zah (zj0 zft (by rfl) T.x_noAnswer (by rfl) T.m_noAnswer (zaa zap zae))) zax) (zac (s_if (t_eq hu6 (zb9 T.cl_run T.a_run_kind (ev 0)) zap) (zah (za4 (zzd (by rfl) (by rfl) T.n_list (zb9 T.cl_run T.a_run_pairs (ev 0))))) zax) (zac (s_if (t_eq hu6 (zb9 T.cl_run T.a_run_kind (ev 0)) zap) (zah (za4 (zb9 T.cl_run T.a_run_found (ev 0)))) zax) (zac (s_if (t_eq hu6 (zb9 T.cl_run T.a_run_kind (ev 0)) zap) (zah (za4 (zb9 T.cl_run T.a_run_number (ev 0)))) zax) (zah (za4 (zaw G1 hr (by rfl) zak (zaa (zb9 T.cl_run T.a_run_number (ev 0)) (zaa (zb9 T.cl_run T.a_run_around (ev 0)) zae)))))))))
theorem z0j(F:FunV K "finish" "finish" zp3 dV f fd)(G0:MeAt P w K mg base 5 c.run "over" ["self"] (zc4 c) f0 g0)(G1:MeAt P w K mg base 5 c.run "step" ["self"] (zet c) f1 g1)(G2:MeAt P w K mg base 5 c.run "faults" ["self"] (ze9 c) f2 g2)(G3:MeAt P w K mg base 5 c.run "answer" ["self"] (ze8 c) f3 g3):FnOk P w K mg base (CXE P w) 6 f fd ["run"] (spM 1 (zeb c)):=
 mfx F z0g fun _ _ _ _ _ _ hr hu1 hu6=>by exact(zac (zpl PassesOwn.leaving (zrg (zik (zhh G0 hr zak (ev 0)))) (zah (zbr (zhh G1 hr zak (ev 0))))) (zah (za4 (zfw (zaa (zhh G3 hr zak (ev 0)) (zaa (zhh G2 hr zak (ev 0)) zae))))))
theorem zp8(F:FunV K "seconds_of" "seconds_of" zi2 dV f fd)(G0:MeAt P w K mg base 1 c.hall "find_piece" ["self", "name"] (zaq c) f0 g0):FnOk P w K mg base (CXE P w) 2 f fd ["hall", "names"] (spM 2 (ze7 c)):=
 FnOk.frz (mfx F zcx fun _ _ _ _ _ _ hr hu1 hu6=>by exact(zac (zby (i:=2) zcx.nd (by rfl) (by walk_at "o") zm5) (zac (zji PassesOwn.leaving (by rfl) (zcn (ev 1)) (zcp _) (zbi (i:=3) zcx.nd (by rfl) (by walk_at "o")) (zbx _) (zah (zm7 hu1 (ev 2) (ev 3) zm5))) (zac (zji PassesOwn.leaving (by rfl) (zcn (ev 1)) (zcp _) (zbi (i:=3) zcx.nd (by rfl) (by walk_at "o")) (zbx _) (zac (zby (i:=4) zcx.nd (by rfl) (by walk_at "o") (ze6 G0 hr zak (ev 0) (zaa (ev 3) zae))) (zac (zji PassesOwn.leaving (by rfl) (zcn (zb9 T.cl_piece T.a_piece_ahead (ev 4))) (zcp _) (zbi (i:=5) zcx.nd (by rfl) (by walk_at "o")) (zbx _) (zah (s_if (z2m hu1 (ev 5) (ev 2)) (zah (zm7 hu1 (zri hu1 (ev 2) (ev 3)) (ev 5) zjz)) zax))) (zah (zji PassesOwn.leaving (by rfl) (zcn (zb9 T.cl_piece T.a_piece_behind (ev 4))) (zcp _) (zbi (i:=5) zcx.nd (by rfl) (by walk_at "o")) (zbx _) (zah (s_if (z2m hu1 (ev 5) (ev 2)) (zah (zm7 hu1 (zri hu1 (ev 2) (ev 5)) (ev 3) zjz)) zax))))))) (zah (za4 (ev 2)))))))
theorem zma(F:FunV K "earliest_free" "earliest_free" zga dV f fd)  : FnOk P w K mg base (CXE P w) 1 f fd ["seconds", "left"] (spM 2 (zcq c)):=
 mfx F zie fun _ _ _ _ _ _ hr hu1 hu6=>by exact(zac (zji PassesOwn.leaving (by rfl) (zcn (ev 1)) (zcp _) (zbi (i:=2) zie.nd (by rfl) (by walk_at "o")) (zbx _) (zah (s_if (zrg (zik (Zcf (by rfl) (by rfl) T.n_any (zzi (xs:=["name", "seconds"]) (js:=[2,0]) (nts:=["first"]) (by rfl) ⟨rfl,by decide +kernel,rfl,by decide +kernel,(fun p hp=>by rcases List.mem_cons.mp hp with rfl | hp;(· rfl);rcases List.mem_singleton.mp hp with rfl;rfl),rfl,⟨(by walk_at "c"),⟨(by walk_at "c"),trivial⟩⟩⟩ (zcn (ev 1)) (zcp _) (fun _ _ _=>(zbi (i:=0) (show(["first", "name", "seconds"]:List Str).Nodup by decide +kernel) (by rfl) (by walk_at "o"))) (zbx _) (fun _ _ _=>(Zb1 hu1 (ev 1) (zri hu1 (ev 2) (ev 0)))) zm9)))) (zah (za4 (ev 2))) zax))) (zah (za4 zfg)))
theorem znm(F:FunV K "ring_through" "ring_through" zgv dV f fd)  : FnOk P w K mg base (CXE P w) 1 f fd ["seconds", "start"] (spM 2 (ze1 c)):=
 FnOk.frz (mfx F zb7 fun _ _ _ _ _ _ hr hu1 hu6=>by exact(zac (zby (i:=2) zb7.nd (by rfl) (by walk_at "o") (zil (zaa (zil (zaa (ev 1) zae)) zae))) (zac (zby (i:=3) zb7.nd (by rfl) (by walk_at "o") (z6x (ev 1) zjz)) (zac (zpl PassesOwn.leaving (zik (ev 2)) (zac (zby (i:=4) zb7.nd (by rfl) (by walk_at "o") (zgh zae)) (zac (zji PassesOwn.leaving (by rfl) (zcn (ev 2)) (zcp _) (zbi (i:=5) zb7.nd (by rfl) (by walk_at "o")) (zbx _) (zah (zji PassesOwn.leaving (by rfl) (zyw (zri hu1 (ev 0) (e_ix (ev 5) (Zch zaf)))) zzh (zbi (i:=6) zb7.nd (by rfl) (by walk_at "o")) (zbx _) (zac (s_if (t_eq hu6 (ev 6) (ev 1)) (zah (za4 (ev 5))) zax) (zah (s_if (zpi hu1 (ev 6) (ev 3)) (zac (zm7 hu1 (ev 3) (ev 6) zjz) (zah (zbr (zn4 (ev 4) (zaa (zig (ev 5) (zil (zaa (ev 6) zae))) zae))))) zax)))))) (zah (zby (i:=2) zb7.nd (by rfl) (by walk_at "o") (ev 4)))))) (zah (za4 (zil zae)))))))
theorem zmb(F:FunV K "shortest_ring" "shortest_ring" zgb dV f fd)(G0:FnAt P w K mg base 1 "ring_through" ["seconds", "start"] (ze1 c) f0 g0):FnOk P w K mg base (CXE P w) 2 f fd ["seconds"] (spM 1 (zdb c)):=
 mfx F zif fun _ _ _ _ _ _ hr hu1 hu6=>by exact(zac (z4i (i:=1) (xs:=["seconds"]) (js:=[0]) (nts:=["name"]) (by rfl) ⟨rfl,by decide +kernel,rfl,by decide +kernel,(fun p hp=>by rcases List.mem_singleton.mp hp with rfl;rfl),rfl,⟨(by walk_at "c"),trivial⟩⟩ (zyw (ev 0)) zzh (fun _ _ _=>(zbi (i:=0) (show(["name", "seconds"]:List Str).Nodup by decide +kernel) (by rfl) (by walk_at "o"))) (zbx _) (fun _ _ _=>(z0d G0 hr (by rfl) zrp (zaa (ev 1) (zaa (ev 0) zae)))) zm9 zif.nd (by rfl) (by walk_at "o") zzs) (zah (za4 (z23 (by rfl) (by rfl) T.n_min (by rfl) T.n_len (zpn (xs:=[]) (js:=[]) (nts:=["ring"]) (by rfl) ⟨rfl,by decide +kernel,rfl,by decide +kernel,(fun p hp=>absurd hp List.not_mem_nil),rfl,trivial⟩ (zcn (ev 1)) (zcp _) (fun _ _ _=>(zbi (i:=0) (show(["ring"]:List Str).Nodup by decide +kernel) (by rfl) (by walk_at "o"))) (zbx _) (fun _ _ _=>(zik (ev 0))) (fun _ _ _=>(ev 0)) zm9)))))
theorem zmc(F:FunV K "__init__" "Ring.__init__" zgc dV f fd)(q:zd8 K c.ring f=true):FnOk P w K mg base (CXE P w) 1 f fd ["self", "ring"] (spX1 c.ring "ring"):=
 z24 F zl7 T.xc_ring q T.nf_ring_ring (fun cdv A outer s H E hr=>zme (zs2 (zvd (by rfl) T.m_hallError T.b_1 T.b_2 T.b_3 (zfr (zih (i:=0) (by rfl) (by first | exact Or.inl rfl | exact Or.inr (Or.inl rfl) | exact Or.inr (Or.inr rfl))) (zfr (zm1 (.cons zux (.cons (z21 hr.gd hr.units (zih (i:=1) (by rfl) (by first | exact Or.inl rfl | exact Or.inr (Or.inl rfl) | exact Or.inr (Or.inr rfl)))) .nil))) zls)))) (zs1 (ztk (zih (i:=0) (by rfl) (by first | exact Or.inl rfl | exact Or.inr (Or.inl rfl) | exact Or.inr (Or.inr rfl))) (zq0 zii (by rfl) T.n_list PyProof.Rows.boot_list (zfr (zih (i:=1) (by rfl) (by first | exact Or.inl rfl | exact Or.inr (Or.inl rfl) | exact Or.inr (Or.inr rfl))) zls)) (by rfl)))) (z26 "the wishes go round: " (by decide)) (z0c K)
theorem zob(F:FunV K "order_among" "order_among" zhy dV f fd)(G0:FnAt P w K mg base 2 "seconds_of" ["hall", "names"] (ze7 c) f0 g0)(G1:FnAt P w K mg base 2 "earliest_free" ["seconds", "left"] (zcq c) f1 g1)(G2:FnAt P w K mg base 2 "shortest_ring" ["seconds"] (zdb c) f2 g2)(G3:X1At P w K mg base 1 c.ring "ring" ["self", "ring"] f3 g3):FnOk P w K mg base (CXE P w) 3 f fd ["hall", "names"] (spM 2 (zcf c)):=
 mfx F zdv fun _ _ _ _ _ _ hr hu1 hu6=>by exact(zac (zby (i:=2) zdv.nd (by rfl) (by walk_at "o") (zaw G0 hr (by rfl) zak (zaa (ev 0) (zaa (ev 1) zae)))) (zac (zby (i:=3) zdv.nd (by rfl) (by walk_at "o") (ztq (by rfl) (by rfl) T.n_list (ev 1))) (zac (zby (i:=4) zdv.nd (by rfl) (by walk_at "o") (zgh zae)) (zac (zpl PassesOwn.leaving (zik (ev 3)) (zac (zby (i:=5) zdv.nd (by rfl) (by walk_at "o") (zaw G1 hr (by rfl) zak (zaa (ev 2) (zaa (ev 3) zae)))) (zac (s_if (t_is (ev 5) zfg) (zah (z25 zom (by rfl) G3.q G3.hf G3.ok hr G3.hb (by rfl) T.m_ring (zaa (zaw G2 hr (by rfl) zak (zaa (ev 2) zae)) zae))) zax) (zac (zbr (zvp (ev 3) (zaa (ev 5) zae))) (zah (zbr (zn4 (ev 4) (zaa (ev 5) zae)))))))) (zah (za4 (ev 4)))))))
theorem znn(F:FunV K "__init__" "Run.__init__" zgw dV f fd)  : FnOk P w K mg base (CXE P w) 1 f fd ["self", "kind", "rule", "number", "deeds"] (spM 5 (zds c)):=
 mfx F zni fun _ _ _ _ _ _ hr hu1 hu6=>by exact(zac (zen T.cl_run T.a_run_kind (ev 0) (ev 1)) (zac (zen T.cl_run T.a_run_rule (ev 0) (ev 2)) (zac (zen T.cl_run T.a_run_number (ev 0) (ev 3)) (zac (zen T.cl_run T.a_run_deeds (ev 0) (ztq (by rfl) (by rfl) T.n_list (ev 4))) (zac (zen T.cl_run T.a_run_held (ev 0) (zgh zae)) (zac (zen T.cl_run T.a_run_broken (ev 0) zjz) (zac (zen T.cl_run T.a_run_pairs (ev 0) (zgh zae)) (zac (zen T.cl_run T.a_run_found (ev 0) zfg) (zah (zen T.cl_run T.a_run_around (ev 0) (zgh zae)))))))))))
theorem zp9(F:FunV K "begin_over" "begin_over" zi3 dV f fd)(G0:MeAt P w K mg base 3 c.hall "find_place" ["self", "name"] (za7 c) f0 g0)(G1:FnAt P w K mg base 3 "order_among" ["hall", "names"] (zcf c) f1 g1)(G2:MeAt P w K mg base 3 c.hall "find_piece" ["self", "name"] (zaq c) f2 g2)(G3:MkAt P w K mg base 2 "Run" c.run ["self", "kind", "rule", "number", "deeds"] (zds c) f3 g3):FnOk P w K mg base (CXE P w) 4 f fd ["hall", "place", "names", "number"] (spM 4 (zcs c)):=
 mfx F zhz fun _ _ _ _ _ _ hr hu1 hu6=>by exact(zac (zby (i:=4) zhz.nd (by rfl) (by walk_at "o") (ze6 G0 hr zak (ev 0) (zaa (ev 1) zae))) (zac (z4i (i:=5) (xs:=["hall"]) (js:=[0]) (nts:=["name"]) (by rfl) ⟨rfl,by decide +kernel,rfl,by decide +kernel,(fun p hp=>by rcases List.mem_singleton.mp hp with rfl;rfl),rfl,⟨(by walk_at "c"),trivial⟩⟩ (zcn (zaw G1 hr (by rfl) zak (zaa (ev 0) (zaa (ev 2) zae)))) (zcp _) (fun _ _ _=>(zbi (i:=0) (show(["name", "hall"]:List Str).Nodup by decide +kernel) (by rfl) (by walk_at "o"))) (zbx _) (fun _ _ _=>(zfw (zaa (ev 0) (zaa (zb9 T.cl_piece T.a_piece_deed (z60 G2 hr zrp (ev 1) (zaa (ev 0) zae))) zae)))) zm9 zhz.nd (by rfl) (by walk_at "o") zzs) (zah (za4 (zzq G3 hr (by rfl) zak (zaa (zb9 T.cl_place T.a_place_kind (ev 4)) (zaa (zb9 T.cl_place T.a_place_rule (ev 4)) (zaa (ev 3) (zaa (ev 5) zae)))))))))
theorem zxi(F:FunV K "at" "Hall.at" znj dV f fd)(G0:MeAt P w K mg base 1 c.hall "find_place" ["self", "name"] (za7 c) f0 g0):FnOk P w K mg base (CXE P w) 2 f fd ["self", "place"] (spM 2 (zg6 c)):=
 mfx F zxg fun _ _ _ _ _ _ hr hu1 hu6=>by exact(zac (zbr (ze6 G0 hr zak (ev 0) (zaa (ev 1) zae))) (zah (za4 (z6w (xs:=["place"]) (js:=[1]) (nts:=["name", "piece"]) (by rfl) ⟨rfl,by decide +kernel,rfl,by decide +kernel,(fun p hp=>by rcases List.mem_singleton.mp hp with rfl;rfl),rfl,⟨(by walk_at "c"),trivial⟩⟩ (zb9 T.cl_hall T.a_hall_pieces (ev 0))  (fun _ _ _=>(z3v (by rfl) (zmf (zbi (i:=0) (show(["name", "piece", "place"]:List Str).Nodup by decide +kernel) (by rfl) (by walk_at "o")) (zmf (zbi (i:=1) (show(["name", "piece", "place"]:List Str).Nodup by decide +kernel) (by rfl) (by walk_at "o")) zx5)))) (zzf _ _ _) (fun _ _ _=>((zw9 (t_eq hu6 (zb9 T.cl_piece T.a_piece_place (ev 1)) (ev 2)) (zon (zik (zb9 T.cl_piece T.a_piece_on (ev 1)))))).pt) (fun _ _ _=>(ev 0)) zm9))))
theorem z28(F:FunV K "begin" "begin" zt3 dV f fd)(G0:FnAt P w K mg base 4 "begin_over" ["hall", "place", "names", "number"] (zcs c) f0 g0)(G1:MeAt P w K mg base 4 c.hall "at" ["self", "place"] (zg6 c) f1 g1):FnOk P w K mg base (CXE P w) 5 f fd ["hall", "place", "number"] (spM 3 (zj3 c)):=
 mfx F z27 fun _ _ _ _ _ _ hr hu1 hu6=>by exact(zah (za4 (zaw G0 hr (by rfl) zak (zaa (ev 0) (zaa (ev 1) (zaa (ze6 G1 hr zak (ev 0) (zaa (ev 1) zae)) (zaa (ev 2) zae)))))))
theorem z65(F:FunV K "call" "call" z0h dV f fd)(G0:FnAt P w K mg base 6 "finish" ["run"] (zeb c) f0 g0)(G1:FnAt P w K mg base 6 "begin" ["hall", "place", "number"] (zj3 c) f1 g1):FnOk P w K mg base (CXE P w) 7 f fd ["hall", "place", "number"] (spM 3 (zic c)):=
 mfx F z63 fun _ _ _ _ _ _ hr hu1 hu6=>by exact(zah (za4 (zaw G0 hr (by rfl) zak (zaa (zaw G1 hr (by rfl) zak (zaa (ev 0) (zaa (ev 1) (zaa (ev 2) zae)))) zae))))
theorem zud(F:FunV K "_law_told" "_law_told" zlk dV f fd)(G0:FnAt P w K mg base 7 "call" ["hall", "place", "number"] (zic c) f0 g0):FnOk P w K mg base (CXE P w) 8 f fd ["hall", "number"] (spM 2 (zbc c)):=
 mfx F zey fun _ _ _ _ _ _ hr hu1 hu6=>by exact(zac (zby (i:=2) zey.nd (by rfl) (by walk_at "o") zfg) (zac (Zce (js:=[2]) (fb:=(zcz c)) (fun pn kn xe R hk pas own=>(zah (zby (i:=2) zey.nd (by rfl) (by walk_at "o") (zfw (zaa zap (zaa (zaw G0 hr (by rfl) pas (zaa (ev 0) (zaa zap (zaa (ev 1) zae)))) zae))) (hkn:=fun u=>hk 2 (by decide) u)))) (h_as (i:=3) zey.nd (by rfl) (by rfl) (by rfl) T.m_deedFault T.qd_deedFault (z4p T.mro T.mh T.d_deedFault) (fun _=>(zah (zby (i:=2) zey.nd (by rfl) (by walk_at "o") (zfw (zaa zap (zaa (zfw (zaa (Zab T.g_deedFault T.xa_deedFault_piece (ev 3)) (zaa (Zab T.g_deedFault T.xa_deedFault_code (ev 3)) zae))) zae)))))) (Zcd (by rfl) T.m_ring T.qd_ring (z4p T.mro T.mh T.d_ring) (fun _=>(zah (zby (i:=2) zey.nd (by rfl) (by walk_at "o") (zfw (zaa zap zae))))) z99))) (zah (za4 (ev 2)))))
theorem zue(F:FunV K "_law_free" "_law_free" zll dV f fd)  : FnOk P w K mg base (CXE P w) 1 f fd ["name", "left", "pairs"] (spM 3 (zfp c)):=
 mfx F znk fun _ _ _ _ _ _ hr hu1 hu6=>by exact(zac (zji PassesOwn.leaving (by rfl) (zcn (ev 2)) (zcp _) (zbi (i:=3) znk.nd (by rfl) (by walk_at "o")) (zbx _) (zah (s_if ((zw9 (t_eq hu6 (e_ix (ev 3) zaf) (ev 0)) (zon (t_in hu6 (e_ix (ev 3) zaf) (ev 1))))).pt (zah (za4 zjz)) zax))) (zah (za4 zjz)))
theorem zr7(F:FunV K "_law_order" "_law_order" zj6 dV f fd)(G0:FnAt P w K mg base 1 "_law_free" ["name", "left", "pairs"] (zfp c) f0 g0):FnOk P w K mg base (CXE P w) 2 f fd ["names", "pairs"] (spM 2 (zht c)):=
 FnOk.frz (mfx F zgl fun _ _ _ _ _ _ hr hu1 hu6=>by exact(zac (zby (i:=2) zgl.nd (by rfl) (by walk_at "o") (ztq (by rfl) (by rfl) T.n_list (ev 0))) (zac (zby (i:=3) zgl.nd (by rfl) (by walk_at "o") (zgh zae)) (zac (zpl PassesOwn.leaving (t_ne hu6 (ev 2) (zil zae)) (zac (z6k (i:=4) (xs:=["left", "pairs"]) (js:=[2,1]) (nts:=["name"]) (by rfl) ⟨rfl,by decide +kernel,rfl,by decide +kernel,(fun p hp=>by rcases List.mem_cons.mp hp with rfl | hp;(· rfl);rcases List.mem_singleton.mp hp with rfl;rfl),rfl,⟨(by walk_at "c"),⟨(by walk_at "c"),trivial⟩⟩⟩ (zcn (ev 2)) (zcp _) (fun _ _ _=>(zbi (i:=0) (show(["name", "left", "pairs"]:List Str).Nodup by decide +kernel) (by rfl) (by walk_at "o"))) (zbx _) (fun _ _ _=>(zik (z0d G0 hr (by rfl) zrp (zaa (ev 0) (zaa (ev 1) (zaa (ev 2) zae)))))) (fun _ _ _=>(ev 0)) zm9 zgl.nd (by rfl) (by walk_at "o") zzs) (zac (s_if (t_eq hu6 (ev 4) (zil zae)) (zah (za4 zfg)) zax) (zac (zbr (zn4 (ev 3) (zaa (e_ix (ev 4) zaf) zae))) (zah (zbr (zvp (ev 2) (zaa (e_ix (ev 4) zaf) zae)))))))) (zah (za4 (ev 3)))))))
theorem zr8(F:FunV K "_law_pairs" "_law_pairs" zj7 dV f fd)  : FnOk P w K mg base (CXE P w) 1 f fd ["pieces", "names"] (spM 2 (zf0 c)):=
 FnOk.frz (mfx F zi4 fun _ _ _ _ _ _ hr hu1 hu6=>by exact(zac (zby (i:=2) zi4.nd (by rfl) (by walk_at "o") (zgh zae)) (zac (zji PassesOwn.leaving (by rfl) (zcn (ev 0)) (zcp _) (zbi (i:=3) zi4.nd (by rfl) (by walk_at "o")) (zbx _) (zah (s_if (t_in hu6 (e_ix (ev 3) zaf) (ev 1)) (zac (zbr (zxe (ev 2) (zaa (zpn (xs:=["piece", "names"]) (js:=[3,1]) (nts:=["other"]) (by rfl) ⟨rfl,by decide +kernel,rfl,by decide +kernel,(fun p hp=>by rcases List.mem_cons.mp hp with rfl | hp;(· rfl);rcases List.mem_singleton.mp hp with rfl;rfl),rfl,⟨(by walk_at "c"),⟨(by walk_at "c"),trivial⟩⟩⟩ (zcn (e_ix (e_ix (ev 3) zaf) zaf)) (zcp _) (fun _ _ _=>(zbi (i:=0) (show(["other", "piece", "names"]:List Str).Nodup by decide +kernel) (by rfl) (by walk_at "o"))) (zbx _) (fun _ _ _=>(t_in hu6 (ev 0) (ev 2))) (fun _ _ _=>(zfw (zaa (e_ix (ev 1) zaf) (zaa (ev 0) zae)))) zm9) zae))) (zah (zbr (zxe (ev 2) (zaa (zpn (xs:=["piece", "names"]) (js:=[3,1]) (nts:=["other"]) (by rfl) ⟨rfl,by decide +kernel,rfl,by decide +kernel,(fun p hp=>by rcases List.mem_cons.mp hp with rfl | hp;(· rfl);rcases List.mem_singleton.mp hp with rfl;rfl),rfl,⟨(by walk_at "c"),⟨(by walk_at "c"),trivial⟩⟩⟩ (zcn (e_ix (e_ix (ev 3) zaf) zaf)) (zcp _) (fun _ _ _=>(zbi (i:=0) (show(["other", "piece", "names"]:List Str).Nodup by decide +kernel) (by rfl) (by walk_at "o"))) (zbx _) (fun _ _ _=>(t_in hu6 (ev 0) (ev 2))) (fun _ _ _=>(zfw (zaa (ev 0) (zaa (e_ix (ev 1) zaf) zae)))) zm9) zae))))) zax))) (zah (za4 (ev 2))))))
theorem zr9(F:FunV K "_law_whole" "_law_whole" zj8 dV f fd)  : FnOk P w K mg base (CXE P w) 1 f fd ["found"] (spM 1 (zf3 c)):=
 mfx F zr2 fun _ _ _ _ _ _ hr hu1 hu6=>by exact(zah (za4 (z2k (zxb .int (by rfl) T.n_isinstance (ev 0) (by rfl) T.n_int (by decide +kernel)) (z2j (z9i (zxb .bool (by rfl) T.n_isinstance (ev 0) (by rfl) T.n_bool (by decide +kernel)))))))
theorem zsa(F:FunV K "_law_value" "_law_value" zj9 dV f fd)(G0:FnAt P w K mg base 1 "_law_whole" ["found"] (zf3 c) f0 g0):FnOk P w K mg base (CXE P w) 2 f fd ["found", "due"] (spM 2 (zcj c)):=
 mfx F zr3 fun _ _ _ _ _ _ hr hu1 hu6=>by exact(zac (s_if (t_is (ev 1) zfg) (zah (za4 (e_is (ev 0) zfg))) zax) (zah (za4 (z2k (zaw G0 hr (by rfl) zak (zaa (ev 0) zae)) (z2j (e_eq hu6 (ev 0) (ev 1)))))))
theorem zku(F:FunV K "_law_pairs_alike" "_law_pairs_alike" zez dV f fd)(G0:FnAt P w K mg base 2 "_law_value" ["found", "due"] (zcj c) f0 g0):FnOk P w K mg base (CXE P w) 3 f fd ["found", "due"] (spM 2 (zbh c)):=
 mfx F zeg fun _ _ _ _ _ _ hr hu1 hu6=>by exact(zac (s_if ((t_or (zrg (zik (zxb .list (by rfl) T.n_isinstance (ev 0) (by rfl) T.n_list (by decide +kernel)))) (z2i (t_ne hu6 (zxa (by rfl) T.n_len (ev 0)) (zxa (by rfl) T.n_len (ev 1)))))).pt (zah (za4 zjz)) zax) (zac (zji PassesOwn.leaving (by rfl) (zms (by rfl) T.n_range (zaa (zxa (by rfl) T.n_len (ev 1)) zae)) zm8 (zbi (i:=2) zeg.nd (by rfl) (by walk_at "o")) (zbx _) (zac (zby (i:=3) zeg.nd (by rfl) (by walk_at "o") (e_ix (ev 0) (ev 2))) (zah (s_if ((t_or (zrg (zik (zxb .tuple (by rfl) T.n_isinstance (ev 3) (by rfl) T.n_tuple (by decide +kernel)))) (t_or (t_ne hu6 (zxa (by rfl) T.n_len (ev 3)) zaf) (t_or (t_ne hu6 (e_ix (ev 3) zaf) (e_ix (e_ix (ev 1) (ev 2)) zaf)) (z2i (zrg (zik (zaw G0 hr (by rfl) zak (zaa (e_ix (ev 3) zaf) (zaa (e_ix (e_ix (ev 1) (ev 2)) zaf) zae)))))))))).pt (zah (za4 zjz)) zax)))) (zah (za4 zjz))))
theorem zkc(F:FunV K "_law_answer_right" "_law_answer_right" zeh dV f fd)(G0:FnAt P w K mg base 3 "_law_pairs_alike" ["found", "due"] (zbh c) f0 g0)(G1:FnAt P w K mg base 3 "_law_value" ["found", "due"] (zcj c) f1 g1):FnOk P w K mg base (CXE P w) 4 f fd ["found", "due"] (spM 2 (zbw c)):=
 mfx F zka fun _ _ _ _ _ _ hr hu1 hu6=>by exact(zac (s_if (zik (zxb .list (by rfl) T.n_isinstance (ev 1) (by rfl) T.n_list (by decide +kernel))) (zah (za4 (zaw G0 hr (by rfl) zak (zaa (ev 0) (zaa (ev 1) zae))))) zax) (zah (za4 (zaw G1 hr (by rfl) zak (zaa (ev 0) (zaa (ev 1) zae))))))
theorem zsb(F:FunV K "_law_right" "_law_right" zkb dV f fd)(G0:FnAt P w K mg base 4 "_law_value" ["found", "due"] (zcj c) f0 g0)(G1:FnAt P w K mg base 4 "_law_pairs_alike" ["found", "due"] (zbh c) f1 g1)(G2:FnAt P w K mg base 4 "_law_answer_right" ["found", "due"] (zbw c) f2 g2):FnOk P w K mg base (CXE P w) 5 f fd ["found", "due"] (spM 2 (zbj c)):=
 mfx F zr4 fun _ _ _ _ _ _ hr hu1 hu6=>by exact(zac (s_if (t_ne hu6 (e_ix (ev 0) zaf) (e_ix (ev 1) zaf)) (zah (za4 zjz)) zax) (zac (s_if (t_eq hu6 (e_ix (ev 1) zaf) zap) (zah (za4 (z2k (e_eq hu6 (e_ix (e_ix (ev 0) zaf) zaf) (e_ix (e_ix (ev 1) zaf) zaf)) (z2j (zaw G0 hr (by rfl) zak (zaa (e_ix (e_ix (ev 0) zaf) zaf) (zaa (e_ix (e_ix (ev 1) zaf) zaf) zae))))))) zax) (zac (s_if ((t_or (zrg (zik (zxb .tuple (by rfl) T.n_isinstance (e_ix (ev 0) zaf) (by rfl) T.n_tuple (by decide +kernel)))) (z2i (t_ne hu6 (zxa (by rfl) T.n_len (e_ix (ev 0) zaf)) zaf)))).pt (zah (za4 zjz)) zax) (zah (za4 (z2k (zaw G2 hr (by rfl) zak (zaa (e_ix (e_ix (ev 0) zaf) zaf) (zaa (e_ix (e_ix (ev 1) zaf) zaf) zae))) (z2j (zaw G1 hr (by rfl) zak (zaa (e_ix (e_ix (ev 0) zaf) zaf) (zaa (e_ix (e_ix (ev 1) zaf) zaf) zae))))))))))
theorem zsc(F:FunV K "_law_round" "_law_round" zh0 dV f fd)(G_law_round:FnAt P w K mg base n "_law_round" ["rows", "number", "held"] Rc f fd):FnOk P w K mg base (CXE P w) (n+1) f fd ["rows", "number", "held"] (spM 3 (runD 4 (zcu Rc c))):=
 mfx F zl1 fun _ _ _ _ _ _ hr hu1 hu6=>by exact(zac (s_if (t_eq hu6 (ev 0) (zil zae)) (zah (za4 (ev 1))) zax) (zac (zby (i:=3) zl1.nd (by rfl) (by walk_at "o") (e_ix (e_ix (ev 0) zaf) zaf)) (zac (s_if (t_eq hu6 (e_ix (ev 3) zaf) zap) (zah (za4 (e_ix (ev 3) zaf))) zax) (zac (s_if (t_eq hu6 (e_ix (ev 3) zaf) zap) (zah (za4 (zig (zw8 zaf (zaw G_law_round hr (by rfl) zak (zaa (zzr (ev 0) (z4k zaf) z4j) (zaa (zig (ev 1) (e_ix (ev 3) zaf)) (zaa (ev 2) zae))))) (e_ix (ev 3) zaf)))) zax) (zac (s_if (t_eq hu6 (e_ix (ev 3) zaf) zap) (zah (zbr (zn4 (ev 2) (zaa (zfw (zaa (e_ix (e_ix (ev 0) zaf) zaf) (zaa (e_ix (ev 3) zaf) zae))) zae)))) zax) (zah (za4 (zaw G_law_round hr (by rfl) zak (zaa (zzr (ev 0) (z4k zaf) z4j) (zaa (ev 1) (zaa (ev 2) zae)))))))))))
theorem zsd(F:FunV K "_law_round" "_law_round" zh0 dV f fd)(hm:mg "_law_round" = some (.ref f))(hk:W.keepIn K (.ref f)=true)(hb:ze5 K fd ["rows", "number", "held"] [])(n:Nat):FnOk P w K mg base (CXE P w) n f fd ["rows", "number", "held"] (spM 3 (zd7 c n)):=by
 induction n with
 |zero=>exact Zae
 |succ n ih=>exact zsc P w base T F ⟨ih,hm,hk,hb⟩
theorem zuf(F:FunV K "_law_said" "_law_said" zlm dV f fd)  : FnOk P w K mg base (CXE P w) 1 f fd ["deed", "number"] (spM 2 (zib c)):=
 mfx F zt4 fun _ _ _ _ _ _ hr hu1 hu6=>by exact(zac (s_if (t_eq hu6 (e_ix (ev 0) zaf) zap) (zah (za4 (zig (ev 1) (e_ix (ev 0) zaf)))) zax) (zac (s_if (t_eq hu6 (e_ix (ev 0) zaf) zap) (zah (za4 (e_ix (ev 0) zaf))) zax) (zah (za4 zfg))))
theorem zqa(F:FunV K "_law_answer" "_law_answer" zi5 dV f fd)(G0:FnAt P w K mg base 24 "_law_round" ["rows", "number", "held"] (zf2 c) f0 g0)(G1:FnAt P w K mg base 24 "_law_said" ["deed", "number"] (zib c) f1 g1):FnOk P w K mg base (CXE P w) 25 f fd ["kind", "rows", "number", "held"] (spM 4 (zcg c)):=
 mfx F zdj fun _ _ _ _ _ _ hr hu1 hu6=>by exact(zac (s_if (t_eq hu6 (ev 0) zap) (zah (za4 (zaw G0 hr (by rfl) zak (zaa (ev 1) (zaa (ev 2) (zaa (ev 3) zae)))))) zax) (zac (zby (i:=4) zdj.nd (by rfl) (by walk_at "o") (zgh zae)) (zac (zji PassesOwn.leaving (by rfl) (zcn (ev 1)) (zcp _) (z3v (by rfl) (zmf (zbi (i:=5) zdj.nd (by rfl) (by walk_at "o")) (zmf (zbi (i:=6) zdj.nd (by rfl) (by walk_at "o")) zx5))) (zzf _ _ _) (zac (zby (i:=7) zdj.nd (by rfl) (by walk_at "o") (zaw G1 hr (by rfl) zak (zaa (ev 6) (zaa (ev 2) zae)))) (zah (s_if (t_eq hu6 (e_ix (ev 6) zaf) zap) (zah (zbr (zn4 (ev 3) (zaa (zfw (zaa (ev 5) (zaa (e_ix (ev 6) zaf) zae))) zae)))) (zah (s_if ((zw9 (t_eq hu6 (ev 0) zap) (zon (ztm (ev 7) zfg)))).pt (zah (za4 (ev 7))) (zah (s_if (t_eq hu6 (ev 0) zap) (zah (zbr (zn4 (ev 4) (zaa (zfw (zaa (ev 5) (zaa (ev 7) zae))) zae)))) (zah (s_if ((zw9 (t_eq hu6 (ev 0) zap) (zon (ztm (ev 7) zfg)))).pt (zah (zby (i:=2) zdj.nd (by rfl) (by walk_at "o") (ev 7))) zax)))))))))) (zah (za4 (zri hu1 (z61 zap (ev 4) zap zfg zap (ev 2)) (ev 0)))))))
theorem zoc(F:FunV K "_law_outcome" "_law_outcome" zh1 dV f fd)(G0:FnAt P w K mg base 25 "_law_answer" ["kind", "rows", "number", "held"] (zcg c) f0 g0):FnOk P w K mg base (CXE P w) 26 f fd ["kind", "rule", "rows", "number"] (spM 4 (zcv c)):=
 FnOk.frz (mfx F zgx fun _ _ _ _ _ _ hr hu1 hu6=>by exact(zac (zby (i:=4) zgx.nd (by rfl) (by walk_at "o") (zgh zae)) (zac (zby (i:=5) zgx.nd (by rfl) (by walk_at "o") (zaw G0 hr (by rfl) zak (zaa (ev 0) (zaa (ev 2) (zaa (ev 3) (zaa (ev 4) zae)))))) (zac (s_if ((zw9 (t_eq hu6 (ev 1) zap) (zon (t_ne hu6 (ev 4) (zil zae))))).pt (zah (za4 (zfw (zaa zap (zaa (e_ix (ev 4) zaf) zae))))) zax) (zah (za4 (zfw (zaa zap (zaa (zfw (zaa (ev 5) (zaa (ev 4) zae))) zae)))))))))
theorem Zai(F:FunV K "law" "law" zxh dV f fd)(G0:FnAt P w K mg base 26 "_law_pieces" ["script", "start", "many"] (zgi c) f0 g0)(G1:FnAt P w K mg base 26 "_law_cell_at" ["script", "k"] (za8 c) f1 g1)(G2:FnAt P w K mg base 26 "_law_hall" ["pieces", "kind", "rule"] (zfo c) f2 g2)(G3:FnAt P w K mg base 26 "_law_at_hub" ["pieces"] (zd5 c) f3 g3)(G4:FnAt P w K mg base 26 "_law_told" ["hall", "number"] (zbc c) f4 g4)(G5:FnAt P w K mg base 26 "_law_order" ["names", "pairs"] (zht c) f5 g5)(G6:FnAt P w K mg base 26 "_law_pairs" ["pieces", "names"] (zf0 c) f6 g6)(G7:FnAt P w K mg base 26 "_law_right" ["found", "due"] (zbj c) f7 g7)(G8:FnAt P w K mg base 26 "_law_outcome" ["kind", "rule", "rows", "number"] (zcv c) f8 g8):FnOk P w K mg base (CXE P w) 27 f fd ["script"] (spM 1 (zr0 c)):=
 FnOk.frz (mfx F zi6 fun _ _ _ _ _ _ hr hu1 hu6=>by exact(zac (zby (i:=1) zi6.nd (by rfl) (by walk_at "o") (zaw G0 hr (by rfl) zak (zaa (ev 0) (zaa zaf (zaa (zgp (zaw G1 hr (by rfl) zak (zaa (ev 0) (zaa zaf zae))) zaf) zae))))) (zac (zby (i:=2) zi6.nd (by rfl) (by walk_at "o") (e_ix (zil (zaa zap (zaa zap (zaa zap (zaa zap zae))))) (zgp (zaw G1 hr (by rfl) zak (zaa (ev 0) (zaa zaf zae))) zaf))) (zac (zby (i:=3) zi6.nd (by rfl) (by walk_at "o") (e_ix (zil (zaa zap (zaa zap zae))) (zgp (zn2 (zaw G1 hr (by rfl) zak (zaa (ev 0) (zaa zaf zae))) zaf) zaf))) (zac (zby (i:=4) zi6.nd (by rfl) (by walk_at "o") (z6a (zgp (zaw G1 hr (by rfl) zak (zaa (ev 0) (zaa zaf zae))) zaf) zaf)) (zac (zby (i:=5) zi6.nd (by rfl) (by walk_at "o") (zaw G2 hr (by rfl) zak (zaa (ev 1) (zaa (ev 2) (zaa (ev 3) zae))))) (zac (zby (i:=6) zi6.nd (by rfl) (by walk_at "o") (zaw G3 hr (by rfl) zak (zaa (ev 1) zae))) (zac (zby (i:=7) zi6.nd (by rfl) (by walk_at "o") (zaw G4 hr (by rfl) zak (zaa (ev 5) (zaa (ev 4) zae)))) (zac (zby (i:=8) zi6.nd (by rfl) (by walk_at "o") (zaw G5 hr (by rfl) zak (zaa (ev 6) (zaa (zaw G6 hr (by rfl) zak (zaa (ev 1) (zaa (ev 6) zae))) zae)))) (zac (s_if (t_is (ev 8) zfg) (zah (za4 (e_eq hu6 (ev 7) (zfw (zaa zap zae))))) zax) (zac (zby (i:=9) zi6.nd (by rfl) (by walk_at "o") zm5) (zac (zji PassesOwn.leaving (by rfl) (zcn (ev 1)) (zcp _) (zbi (i:=10) zi6.nd (by rfl) (by walk_at "o")) (zbx _) (zah (zm7 hu1 (ev 9) (e_ix (ev 10) zaf) (e_ix (ev 10) zaf)))) (zah (za4 (zaw G7 hr (by rfl) zak (zaa (ev 7) (zaa (zaw G8 hr (by rfl) zak (zaa (ev 2) (zaa (ev 3) (zaa (zzi (xs:=["deeds"]) (js:=[9]) (nts:=["name"]) (by rfl) ⟨rfl,by decide +kernel,rfl,by decide +kernel,(fun p hp=>by rcases List.mem_singleton.mp hp with rfl;rfl),rfl,⟨(by walk_at "c"),trivial⟩⟩ (zcn (ev 8)) (zcp _) (fun _ _ _=>(zbi (i:=0) (show(["name", "deeds"]:List Str).Nodup by decide +kernel) (by rfl) (by walk_at "o"))) (zbx _) (fun _ _ _=>(zfw (zaa (ev 0) (zaa (zri hu1 (ev 1) (ev 0)) zae)))) zm9) (zaa (ev 4) zae))))) zae)))))))))))))))))
end
end K05
namespace DN
open PySem L2 MF
variable {c:Cl}{S:Sto}
def cellAt(ns:List Int)(k:Int):Int:=if k<ns.length then ns.getD k.toNat 0 else 0
theorem zvw(ns:List Int)(k:Int)(hk:0<=k):za8 c [.lst (ns.map .int),.int k] S=.ok (.int (cellAt ns k)) S:=by
 unfold cellAt;by_cases h:k<ns.length
 ·have hh:k.toNat<ns.length:=by omega
  simp[za8,zhk,h,z4m hk,hh]
 ·simp[za8,zhk,h]
def zh2:Str := "abcdefghijklmnopqrstuvwxyz"
def zg8(i:Int):Str:=⟨#[zh2.cps[i.toNat]?.getD 0]⟩
theorem zxj:zh2.cps.toList.length=26:=by decide +kernel
theorem zno:zh2.length<=1000:=by decide +kernel
theorem zse{i:Int}(h0:0<=i)(h1:i<26):atI zh2.cps.toList i=some (zh2.cps[i.toNat]?.getD 0):=by
 have hl:=zxj;rw[z4m h0 (by omega),Array.getElem?_toList];have:i.toNat<zh2.cps.size:=by rw[<- Array.length_toList];omega
 rw[Array.getElem?_eq_getElem this];rfl
noncomputable def zei(k:Int):Str:=if k%3=1 then zg8 (k%26) else Txt.join Str.empty ((List.range (2+k%11).toNat).map fun(j:Nat)=>zg8 ((k+5*(j:Int))%26))
theorem zjg:∀(l:List Str),zh7 (l.map T.str)=some l
 |[]=>rfl
 | a::r=>by
   rw[List.map_cons];unfold zh7;rw[zjg r];rfl
theorem zxk(i:Int):(zg8 i).length=1:=rfl
theorem znp(k:Int):∀l:List Nat,((l.map fun(j:Nat)=>zg8 ((k+5*(j:Int))%26)).map (·.length)).sum=l.length
 |[]=>rfl
 | a::r=>by
   have:=znp k r;simp only[List.map_cons,List.sum_cons,List.length_cons,zxk] at this ⊢;omega
theorem z0k(k:Int):zc0 c [.int k] S=.ok (.str (zei k)) S:=by
 have h26:=Int.emod_nonneg k (show(26:Int)≠0 by decide);have h26':=Int.emod_lt_of_pos k (show(0:Int)<26 by decide);have hL:(Str.ofString "abcdefghijklmnopqrstuvwxyz")=zh2:=rfl;unfold zei;by_cases h:k%3=1
 ·have ha:=zse h26 h26'
  simp[zc0,zk5,h,hL,zno,ha,zg8]
 ·have h11:=Int.emod_nonneg k (show(11:Int)≠0 by decide)
  have h11':=Int.emod_lt_of_pos k (show(0:Int)<11 by decide);have hb:-1000000<=2+k%11/\2+k%11<=1000000:=by omega
  have hm:∀t∈zjh 0 (2+k%11).toNat,zio c [some t,some (.str zh2),some (.int k)] S=.ok ((fun t=>match t with|.int j=>T.str (zg8 ((k+5*j)%26)) | _=>.non) t) S:=by
   intro t ht;obtain⟨j,hj,rfl⟩:=List.mem_map.mp ht;have m1:=Int.emod_nonneg (k+5*(0+(j:Int))) (show(26:Int)≠0 by decide);have m2:=Int.emod_lt_of_pos (k+5*(0+(j:Int))) (show(0:Int)<26 by decide);have ha:=zse m1 m2;rw[Int.zero_add] at ha;simp[zio,zno,ha,zg8]
  have hc:=zkl (ρ:=[some (.int k),some (.str zh2)]) (S:=S) (js:=[1,0]) (it:=ziq c) (ts:=zjh 0 (2+k%11).toNat) (st:=fun _=>True) (by simp[ziq,hb]) trivial (by rw[zim];omega) hm;have hsum:=znp k (List.range (2+k%11).toNat);rw[List.length_range] at hsum;have e3:(zjh 0 (2+k%11).toNat).map (fun t=>match t with|.int j=>T.str (zg8 ((k+5*j)%26)) | _=>.non)=((List.range (2+k%11).toNat).map fun(j:Nat)=>zg8 ((k+5*(j:Int))%26)).map T.str:=by
   unfold zjh;rw[List.map_map,List.map_map];refine List.map_congr_left fun j _=>?_;show T.str (zg8 ((k+5*(0+(j:Int)))%26))=T.str (zg8 ((k+5*(j:Int))%26));rw[Int.zero_add]
  rw[e3] at hc;have hlen:((List.range (2+k%11).toNat).map fun(j:Nat)=>zg8 ((k+5*(j:Int))%26)).length<=13:=by simp;omega
  generalize ((List.range (2+k%11).toNat).map fun(j:Nat)=>zg8 ((k+5*(j:Int))%26))=l at hc hsum hlen ⊢;have hbig:(l.map (·.length)).sum+l.length*Str.empty.length<=100000:=by
   rw[hsum,show Str.empty.length=0 from rfl];omega
  have hj:zxd (.str Str.empty) [.lst (l.map T.str)] S=.ok (.str (Txt.join Str.empty l)) S:=by
   unfold zxd;simp only[zz1,Option.bind_some,zjg,if_pos hbig]
  have he:Str.ofString "" = Str.empty:=rfl;simp[zc0,zk5,h,hL,hc,he,okS,hj]
noncomputable def numT(x:Int):Int:=if x / 8%9=4 then x%10 ^ 25-10 ^ 24 else x / 8%2001-1000
noncomputable def zsf(x:Int):T:=if x%8=3 then .tup [.str "say",.int (numT x)] else if x%8=4 then .tup [.str "none"] else if x%8=5 then .tup [.str "fail",.int (numT x)] else .tup [.str "add",.int (numT x)]
theorem Zaj(x:Int):zg5 c [.int x] S=.ok (zsf x) S:=by
 unfold zsf numT;by_cases h1:x / 8%9=4<;>by_cases h2:x%8=3<;>by_cases h3:x%8=4<;>by_cases h4:x%8=5<;>first
  |omega
  |simp[zg5,zoq,h1,h2,h3,h4]
noncomputable def zkv(x many:Int):List Str:=if x%4>1 then[] else if x%4=1 then[zei (x / 4%many),zei (x / 64%many)] else[zei (x / 4%many)]
theorem Zak(x many:Int)(hm:0<many):zc1 c [.int x,.int many] S=.ok (strL (zkv x many)) S:=by
 unfold zkv strL;by_cases h1:1<x%4
 ·simp[zc1,zjf,h1]
 ·by_cases h2:x%4=1
  ·simp[zc1,zjf,h1,h2,hm,z0k]
  ·simp[zc1,zjf,h1,h2,hm,z0k]
structure Pc where
 nm:Str
 pl:Str
 dd:T
 w0:List Str
 w1:List Str
 w2:List Str
 w3:List Str
 on:Bool
def Pc.t(p:Pc):T:=.tup [.str p.nm,.str p.pl,p.dd,.lst [strL p.w0,strL p.w1,strL p.w2,strL p.w3],.bl p.on]
def zi9(x:Int):Str:=if x / 4096%4=3 then "side" else "hub"
noncomputable def pcAt(ns:List Int)(start many:Int)(k:Nat):Pc:=
 { nm:=zei k,pl:=zi9 (cellAt ns (start+3*k)),dd:=zsf (cellAt ns (start+3*k)),
   w0:=zkv (cellAt ns (start+3*k+1)) (many+1),w1:=zkv (cellAt ns (start+3*k+1) / 7) (many+1),
   w2:=zkv (cellAt ns (start+3*k+2)) (many+1),w3:=zkv (cellAt ns (start+3*k+2) / 7) (many+1),on:=!decide (cellAt ns (start+3*k) / 64%6=1) }
noncomputable def pcs(ns:List Int)(start many:Int):List Pc:=(List.range many.toNat).map (pcAt ns start many)
theorem zxl(x:Int):atI [T.str "hub",T.str "hub",T.str "hub",T.str "side"] (x / 4096%4)=some (.str (zi9 x)):=by
 have h1:=Int.emod_nonneg (x / 4096) (show(4:Int)≠0 by decide);have h2:=Int.emod_lt_of_pos (x / 4096) (show(0:Int)<4 by decide);unfold zi9;have:x / 4096%4=0\/x / 4096%4=1\/x / 4096%4=2\/x / 4096%4=3:=by omega
 rcases this with h | h | h | h<;>rw[h]<;>rfl
theorem z66(n:Nat)(x:Int):HB n (zsf x):=by
 unfold zsf
 split
 ·exact zjp (by simp)
 ·split
  ·exact zjp (by simp)
  ·split
   ·exact zjp (by simp)
   ·exact zjp (by simp)
theorem Zcj(n:Nat)(p:Pc)(h:HB n p.dd):HB n p.t:=zjp (by
 intro t ht;simp only[List.mem_cons,List.not_mem_nil,or_false] at ht;rcases ht with rfl | rfl | rfl | rfl | rfl
 ·simp
 ·simp
 ·exact h
 ·exact zz2 (by
   intro t ht;simp only[List.mem_cons,List.not_mem_nil,or_false] at ht;rcases ht with rfl | rfl | rfl | rfl<;>exact zz3 _)
 ·simp)
theorem zug{n:Nat}{pre:List T}{t:T}{post:List T}(h:zjh 0 n=pre++t::post):pre.length<n/\t=.int pre.length:=by
 have hl:pre.length<(zjh 0 n).length:=by rw[h];simp
 rw[zim] at hl;have e:=zvk (lo:=0) hl;rw[h,List.getElem?_append_right (Nat.le_refl _),Nat.sub_self] at e;simp at e;exact⟨hl,e⟩
theorem zqb{S:Sto}{x y:Cell}:(S++[x]).set S.length y=S++[y]:=by
 rw[List.set_append_right _ _ (Nat.le_refl _),Nat.sub_self];rfl
theorem zdk{S:Sto}{x:Cell}:(S++[x])[S.length]?=some x:=by simp
theorem z29(ns:List Int)(start many:Int)(hs:0<=start)(hm0:0<=many)(hm:many<=100) :
  zgi c [.lst (ns.map .int),.int start,.int many] S=.ok (.lst ((pcs ns start many).map Pc.t)) S:=by
 have run:runD 10 (zir c) [.lst (ns.map .int),.int start,.int many] S=.ok (.obj S.length) (S++[.lst ((pcs ns start many).map Pc.t)]):=by
  have hb:-1000000<=many/\many<=1000000:=by omega
  obtain⟨ρ',S',e,q⟩:=zps (ρ:=[some (.lst (ns.map .int)),some (.int start),some (.int many),some (.obj S.length),none,none,none,none,none,none]) (S:=S++[.lst []])
   (it:=iR1 (zad (eVar 2) aNil)) (g:=zaz 4) (ts:=zjh 0 many.toNat) (st:=fun _=>True) (S1:=S++[.lst []]) (body:=zgs c)
   (fun pre ρ S1=>(∃a1 a2 a3 a4 a5 a6,ρ=[some (.lst (ns.map .int)),some (.int start),some (.int many),some (.obj S.length),a1,a2,a3,a4,a5,a6])/\S1=S++[.lst (((List.range pre.length).map (pcAt ns start many)).map Pc.t)])
   (by simp[hb]) ⟨⟨_,_,_,_,_,_,rfl⟩,rfl⟩ (fun pre t post ρ S1 hsplit ⟨⟨a1,a2,a3,a4,a5,a6,hρ⟩,hS⟩=>by
    obtain⟨hlt,rfl⟩:=zug hsplit;subst hρ hS;refine⟨trivial,_,rfl,?_⟩;have c1:0<=start+3*(pre.length:Int):=by omega
    have c2:0<=start+3*(pre.length:Int)+1:=by omega
    have c3:0<=start+3*(pre.length:Int)+2:=by omega
    have hmm:0<many+1:=by omega
    have hlen:(((List.range pre.length).map (pcAt ns start many)).map Pc.t).length<1000:=by simp;omega
    have hmap:(((List.range (pre++[T.int pre.length]).length).map (pcAt ns start many)).map Pc.t)=(((List.range pre.length).map (pcAt ns start many)).map Pc.t)++[(pcAt ns start many pre.length).t]:=by
     rw[List.length_append,List.length_singleton,List.range_succ,List.map_append,List.map_append];rfl
    rw[hmap];generalize (((List.range pre.length).map (pcAt ns start many)).map Pc.t)=acc at hlen ⊢;have happ:=zn5 (S:=S++[.lst acc]) (k:=S.length) (y:=(pcAt ns start many pre.length).t) zdk hlen;rw[zqb] at happ;have hok:=zgr (S:=S++[.lst acc]) (k:=S.length) zdk;refine⟨[some (.lst (ns.map .int)),some (.int start),some (.int many),some (.obj S.length),some (.int pre.length),some (.int (cellAt ns (start+3*pre.length))),some (.int (cellAt ns (start+3*pre.length+1))),some (.int (cellAt ns (start+3*pre.length+2))),some (.str (zi9 (cellAt ns (start+3*pre.length)))),
     some (.lst [strL (pcAt ns start many pre.length).w0,strL (pcAt ns start many pre.length).w1,strL (pcAt ns start many pre.length).w2,strL (pcAt ns start many pre.length).w3])],S++[.lst (acc++[(pcAt ns start many pre.length).t])],?_,⟨_,_,_,_,_,_,rfl⟩,rfl⟩
    have hT:(pcAt ns start many pre.length).t=T.tup [T.str (zei pre.length),T.str (zi9 (cellAt ns (start+3*pre.length))),zsf (cellAt ns (start+3*pre.length)),T.lst [strL (zkv (cellAt ns (start+3*pre.length+1)) (many+1)),strL (zkv (cellAt ns (start+3*pre.length+1) / 7) (many+1)),strL (zkv (cellAt ns (start+3*pre.length+2)) (many+1)),strL (zkv (cellAt ns (start+3*pre.length+2) / 7) (many+1))],T.bl (!decide (cellAt ns (start+3*pre.length) / 64%6=1))]:=rfl;rw[hT] at happ ⊢;simp[zgs,zvw,z0k,Zaj,Zak,c1,c2,c3,hmm,zxl,hok,happ,pcAt]) (fun _ _ _=>trivial)
  obtain⟨⟨a1,a2,a3,a4,a5,a6,rfl⟩,rfl⟩:=q;rw[zim] at e;simp[zir,e,pcs]
 refine zpt run (by simp) (Nat.le_refl _) zdk fun t ht=>?_;obtain⟨p,hp,rfl⟩:=List.mem_map.mp ht;obtain⟨k,_,rfl⟩:=List.mem_map.mp hp;exact Zcj _ _ (z66 _ _)
end DN
namespace DN
open PySem L2 MF
variable {c:Cl}{S:Sto}
structure PlM where
 nm:Str
 kind:Str
 rule:Str
 i:Nat
structure HP where
 nm:Str
 pl:Str
 dd:T
 br:Option Str
 on:Bool
 w0:List Str
 w1:List Str
 w2:List Str
 w3:List Str
 i:Nat
noncomputable def byT:Option Str->T
 |none=>.non
 |some x=>.str x
def HP.fs(p:HP):List (Str×T):=[("place",.str p.pl),("deed",p.dd),("by",byT p.br),("on",.bl p.on),("ahead",.obj (p.i+1)),("behind",.obj (p.i+2)),("needs",.obj (p.i+3)),("bars",.obj (p.i+4))]
def HP.block(c:Cl)(p:HP):List Cell:=[.ins c.piece p.fs,.lst (p.w0.map .str),.lst (p.w1.map .str),.lst (p.w2.map .str),.lst (p.w3.map .str)]
structure zbu(c:Cl)(S:Sto)(p:HP):Prop where
 o:S[p.i]?=some (.ins c.piece p.fs)
 a0:S[p.i+1]?=some (.lst (p.w0.map .str))
 a1:S[p.i+2]?=some (.lst (p.w1.map .str))
 a2:S[p.i+3]?=some (.lst (p.w2.map .str))
 a3:S[p.i+4]?=some (.lst (p.w3.map .str))
noncomputable def plD(pl:List PlM):List (Key×T):=pl.map fun q=>(.inr q.nm,.obj q.i)
noncomputable def psD(ps:List HP):List (Key×T):=ps.map fun p=>(.inr p.nm,.obj p.i)
def zfa(h:Nat):List (Str×T):=[("places",.obj (h+1)),("pieces",.obj (h+2))]
structure za5(c:Cl)(S:Sto)(h:Nat)(pl:List PlM)(ps:List HP):Prop where
 hall:S[h]?=some (.ins c.hall (zfa h))
 places:S[h+1]?=some (.dic (plD pl))
 pieces:S[h+2]?=some (.dic (psD ps))
 place:∀q∈pl,S[q.i]?=some (.ins c.place [("kind",.str q.kind),("rule",.str q.rule)])
 piece:∀p∈ps,zbu c S p
 far:∀p∈ps,h+3<=p.i
 pw:ps.Pairwise fun p q=>p.i+5<=q.i
 nd:(ps.map (·.nm)).Nodup
theorem zuh(x:Str):∀(ps:List HP),valT (psD ps) (.inr x)=(ps.find? fun p=>decide (p.nm=x)).map fun p=>T.obj p.i
 |[]=>rfl
 | p :: ps=>by
   have ih:=zuh x ps;by_cases h:p.nm=x
   ·have:valT (psD (p::ps)) (.inr x)=some (.obj p.i):=by simp[valT,psD,h]
    rw[this];simp[h]
   ·have e:valT (psD (p::ps)) (.inr x)=valT (psD ps) (.inr x):=by
     simp[valT,psD,List.find?_cons,h]
    rw[e,ih];simp[h]
theorem zui(x:Str):∀(pl:List PlM),valT (plD pl) (.inr x)=(pl.find? fun p=>decide (p.nm=x)).map fun p=>T.obj p.i
 |[]=>rfl
 | p :: ps=>by
   have ih:=zui x ps;by_cases h:p.nm=x
   ·have:valT (plD (p::ps)) (.inr x)=some (.obj p.i):=by simp[valT,plD,h]
    rw[this];simp[h]
   ·have e:valT (plD (p::ps)) (.inr x)=valT (plD ps) (.inr x):=by
     simp[valT,plD,List.find?_cons,h]
    rw[e,ih];simp[h]
@[simp]theorem Zeb(C:Addr)(f:Str)(k:Nat):gFld C f (.obj k) S=(match zhg S C (.obj k) with|some (_,fs)=>(match fs.lookup f with|some u=>.ok u S | none=>.bad) | none=>.bad):=rfl
theorem zgd{C:Addr}{k:Nat}{fs:List (Str×T)}(h:S[k]?=some (.ins C fs)):zhg S C (.obj k)=some (k,fs):=by simp[zhg,h]
@[simp] theorem Zdj (C:Addr) (m:Str) (F:Fn) (ds:List T) (fo:DE) (fr:DA) {ρ:Ev}:zdn C m F ds fo fr ρ S=(fo ρ).bind (fun o=>fun S=>match zhg S C o with
  |some (_,fs)=>if(fs.lookup m).isNone=true then((fr ρ).bind fun ts=>F (o::(ts++ds))) S else .bad
  |none=>.bad) S:=rfl
theorem zsg{k:Nat}{kvs:List (Key×T)}(h:S[k]?=some (.dic kvs)):zfu S (.obj k)=some kvs:=by simp[zfu,h]
theorem za5.ins{h:Nat}{pl:List PlM}{ps:List HP}(A:za5 c S h pl ps):zhg S c.hall (.obj h)=some (h,zfa h):=zgd A.hall
theorem za5.dPieces{h:Nat}{pl:List PlM}{ps:List HP}(A:za5 c S h pl ps):zfu S (.obj (h+2))=some (psD ps):=zsg A.pieces
theorem za5.dPlaces{h:Nat}{pl:List PlM}{ps:List HP}(A:za5 c S h pl ps):zfu S (.obj (h+1))=some (plD pl):=zsg A.places
theorem znq(h:Nat):List.lookup (Str.ofString "places") (zfa h)=some (.obj (h+1)):=by
 unfold zfa;rw[List.lookup_cons];rw[show(Str.ofString "places" == Str.ofString "places")=true by decide +kernel]
theorem zkd(h:Nat):List.lookup (Str.ofString "pieces") (zfa h)=some (.obj (h+2)):=by
 unfold zfa;rw[List.lookup_cons,show(Str.ofString "pieces" == Str.ofString "places")=false by decide +kernel];simp only;rw[List.lookup_cons,show(Str.ofString "pieces" == Str.ofString "pieces")=true by decide +kernel]
theorem zg9{m:Str}(h:Nat)(h1:(m==Str.ofString "places")=false)(h2:(m==Str.ofString "pieces")=false):List.lookup m (zfa h)=none:=by
 unfold zfa;rw[List.lookup_cons,h1];simp only;rw[List.lookup_cons,h2];rfl
theorem zgm{h:Nat}{pl:List PlM}{ps:List HP}(A:za5 c S h pl ps){x:Str}{p:HP}(hp:ps.find? (fun p=>decide (p.nm=x))=some p):zaq c [.obj h,.str x] S=.ok (.obj p.i) S:=by
 have e:=zuh x ps;rw[hp] at e;simp[zaq,zg2,A.ins,zkd,zfv,gDix,A.dPieces,keyT,e]
theorem zgn{h:Nat}{pl:List PlM}{ps:List HP}(A:za5 c S h pl ps){x:Str}{p:PlM}(hp:pl.find? (fun p=>decide (p.nm=x))=some p):za7 c [.obj h,.str x] S=.ok (.obj p.i) S:=by
 have e:=zui x pl;rw[hp] at e;simp[za7,zg4,A.ins,znq,zfv,gDix,A.dPlaces,keyT,e]
theorem zgo{ps:List HP}(nd:(ps.map (·.nm)).Nodup){p:HP}(hp:p∈ps):ps.find? (fun q=>decide (q.nm=p.nm))=some p:=by
 induction ps with
 |nil=>cases hp
 | cons q ps ih=>
   rw[List.map_cons,List.nodup_cons] at nd;rcases List.mem_cons.mp hp with rfl | hp
   ·simp
   ·have:q.nm≠p.nm:=fun e=>nd.1 (List.mem_map.mpr ⟨p,hp,e.symm⟩)
    rw[List.find?_cons];simp[this,ih nd.2 hp]
end DN
namespace DN
open PySem L2 MF
variable {c:Cl}{S:Sto}{ρ:Ev}
@[simp] theorem zsh (a b:String):(Str.ofString a=Str.ofString b)=(a=b):=by
  apply propext;constructor
  ·intro h
   rw[Str.ofString_eq_toList,Str.ofString_eq_toList] at h;have h1:a.toList.map Char.toNat=b.toList.map Char.toNat:=by simpa using h
   have inj:∀(x y:List Char),x.map Char.toNat=y.map Char.toNat->x=y:=by
    intro x
    induction x with
    |nil=>intro y h;cases y with|nil=>rfl | cons _ _=>simp at h
    | cons p x ih=>
      intro y h;cases y with
      |nil=>simp at h
      | cons q y=>
        simp only[List.map_cons,List.cons.injEq] at h;rw[ih y h.2];have:p=q:=by
         have:=h.1;apply Char.ext;exact UInt32.toNat_inj.mp this
        rw[this]
   exact String.toList_inj.mp (inj _ _ h1)
  ·rintro rfl;rfl
@[simp] theorem z4r (a b:String):(Str.ofString a==Str.ofString b)=(a==b):=by
  rw[Bool.eq_iff_iff,beq_iff_eq,beq_iff_eq,zsh]
@[simp] theorem Zdk (C:Addr) (F:Fn) (ds:List T) (fr:DA):zro C F ds fr ρ S=(fr ρ).bind (fun ts=>fun S=>M.bind (F (.obj S.length::(ts++ds))) (fun t=>match t with
  |.non=>M.pure (.obj S.length)
  |_=>M.bad) (S++[.ins C []])) S:=rfl
@[simp] theorem Zdl (C:Addr) (f:Str) (fo fv:DE):zd9 C f fo fv ρ S=(fv ρ).bind (fun t=>(fo ρ).bind fun o=>fun S=>match zhg S C o with
  |some (k,fs)=>if fs.length<900 then .ok (.nx ρ) (S.set k (.ins C (zk2 f t fs))) else .bad
  |none=>.bad) S:=rfl
@[simp] theorem Zal (fd fk fv:DE):zn3 fd fk fv ρ S=(fv ρ).bind (fun t=>(fd ρ).bind fun d=>(fk ρ).bind fun k=>fun S=>match d,keyT k with
  | .obj j,some key=>(match S[j]? with
    |some (.dic kvs)=>if kvs.length<=900 then .ok (.nx ρ) (S.set j (.dic (putT kvs key t))) else .bad
    |_=>.bad)
  |_,_=>.bad) S:=rfl
@[simp]theorem Za8(f:Str)(v:T):zk2 f v []=[(f,v)]:=rfl
@[simp]theorem Zam(f g:Str)(v x:T)(r:List (Str×T)):zk2 f v ((g,x)::r)=if g=f then(g,v)::r else(g,x)::zk2 f v r:=rfl
theorem getR(L:List Cell)(j:Nat):(S++L)[S.length+j]?=L[j]?:=by rw[List.getElem?_append_right (by omega)];congr 1;omega
theorem setR(L:List Cell)(j:Nat)(v:Cell):(S++L).set (S.length+j) v=S++L.set j v:=by rw[List.set_append_right _ _ (by omega)];congr 2;omega
theorem zsi(L:List Cell):(S++L)[S.length]?=L[0]?:=getR L 0
theorem zxm(L:List Cell)(v:Cell):(S++L).set S.length v=S++L.set 0 v:=setR L 0 v
@[simp] theorem Zdm (C:Addr) (fs:List (Str×T)) (L:List Cell):zhg (S++Cell.ins C fs::L) C (.obj S.length)=some (S.length,fs):=by
  exact zgd (by rw[zsi];rfl)
theorem zuj:zda c [.obj S.length] (S++[.ins c.hall []])=.ok .non (S++[.ins c.hall (zfa S.length),.dic [],.dic []]):=by
 simp[zda,zin,zxm,zfa]
theorem zsj(k r:Str):zcy c [.obj S.length,.str k,.str r] (S++[.ins c.place []])=.ok .non (S++[.ins c.place [("kind",.str k),("rule",.str r)]]):=by
 simp[zcy,zh9,zxm]
def newP(nm pl:Str)(dd:T)(br:Option Str)(i:Nat):HP:={ nm:=nm,pl:=pl,dd:=dd,br:=br,on:=true,w0:=[],w1:=[],w2:=[],w3:=[],i:=i }
theorem zsk(nm pl:Str)(dd:T)(br:Option Str):zcd c [.obj S.length,.str pl,dd,byT br] (S++[.ins c.piece []])=.ok .non (S++(newP nm pl dd br S.length).block c):=by
 simp[zcd,zia,zxm,HP.block,newP,HP.fs]
theorem zab{k j:Nat}{v:Cell}(h:k≠j):(S.set k v)[j]?=S[j]?:=List.getElem?_set_ne h
theorem zbq{k:Nat}{v:Cell}{u:Cell}(h:S[k]?=some u):(S.set k v)[k]?=some v:=by
 have:=(List.getElem?_eq_some_iff.mp h).1;simp[List.getElem?_set,this]
theorem zb0{L:Sto}{k:Nat}{u:Cell}(h:S[k]?=some u):(S++L)[k]?=some u:=by
 rw[List.getElem?_append_left (List.getElem?_eq_some_iff.mp h).1];exact h
theorem zbu.app{L:Sto}{p:HP}(A:zbu c S p):zbu c (S++L) p:=⟨zb0 A.o,zb0 A.a0,zb0 A.a1,zb0 A.a2,zb0 A.a3⟩
theorem za5.app{L:Sto}{h:Nat}{pl:List PlM}{ps:List HP}(A:za5 c S h pl ps):za5 c (S++L) h pl ps:=
 ⟨zb0 A.hall,zb0 A.places,zb0 A.pieces,fun q hq=>zb0 (A.place q hq),fun p hp=>(A.piece p hp).app,A.far,A.pw,A.nd⟩
theorem zh3{k j:Nat}{u v:Cell}(h:S[k]?=some u)(g:S[j]?=some v)(d:u≠v):k≠j:=fun e=>by subst e;rw[h] at g;exact d (Option.some.inj g)
theorem zbu.set{k:Nat}{v:Cell}{p:HP}(A:zbu c S p)(h:∀j,j<5->k≠p.i+j):zbu c (S.set k v) p:=
 ⟨by rw[zab (show k≠p.i from h 0 (by decide))];exact A.o,by rw[zab (h 1 (by decide))];exact A.a0,by rw[zab (h 2 (by decide))];exact A.a1,by rw[zab (h 3 (by decide))];exact A.a2,by rw[zab (h 4 (by decide))];exact A.a3⟩
theorem za5.lt{h:Nat}{pl:List PlM}{ps:List HP}(A:za5 c S h pl ps):h+2<S.length:=(List.getElem?_eq_some_iff.mp A.pieces).1
theorem zbu.lt{p:HP}(A:zbu c S p):p.i+4<S.length:=(List.getElem?_eq_some_iff.mp A.a3).1
theorem za5.hang{h:Nat}{pl:List PlM}{ps:List HP}(A:za5 c S h pl ps){nm q:Str}{dd:T}{br:Option Str}(hn:nm∉ps.map (·.nm)) :
  za5 c (S.set (h+2) (.dic (psD (ps++[newP nm q dd br S.length])))++(newP nm q dd br S.length).block c) h pl (ps++[newP nm q dd br S.length]):=by
 have hl:=A.lt;have len:(S.set (h+2) (.dic (psD (ps++[newP nm q dd br S.length])))).length=S.length:=by simp
 have nb:∀j,(S.set (h+2) (.dic (psD (ps++[newP nm q dd br S.length])))++(newP nm q dd br S.length).block c)[S.length+j]?=((newP nm q dd br S.length).block c)[j]?:=fun j=>by
  have:=getR (S:=S.set (h+2) (.dic (psD (ps++[newP nm q dd br S.length])))) ((newP nm q dd br S.length).block c) j;rw[len] at this;exact this
 have hpc:∀p∈ps,zbu c (S.set (h+2) (.dic (psD (ps++[newP nm q dd br S.length])))++(newP nm q dd br S.length).block c) p:=fun p hp=>((A.piece p hp).set (fun j hj=>by have:=A.far p hp;omega)).app;refine⟨zb0 (by rw[zab (by omega)];exact A.hall),zb0 (by rw[zab (by omega)];exact A.places),zb0 (zbq A.pieces),fun p hp=>zb0 ?_,fun p hp=>?_,fun p hp=>?_,?_,?_⟩
 ·rw[zab (zh3 A.pieces (A.place p hp) (by intro z;cases z))];exact A.place p hp
 ·rcases List.mem_append.mp hp with hp | hp
  ·exact hpc p hp
  ·rw[List.mem_singleton.mp hp]
   exact⟨nb 0,nb 1,nb 2,nb 3,nb 4⟩
 ·rcases List.mem_append.mp hp with hp | hp
  ·exact A.far p hp
  ·rw[List.mem_singleton.mp hp];show h+3<=S.length;omega
 ·rw[List.pairwise_append]
  refine⟨A.pw,by simp,fun p hp r hr=>?_⟩;rw[List.mem_singleton.mp hr];show p.i+5<=S.length;have:=(A.piece p hp).lt;omega
 ·rw[List.map_append]
  refine List.nodup_append.mpr ⟨A.nd,by simp,fun x hx y hy e=>?_⟩;simp only[List.map_cons,List.map_nil,List.mem_singleton] at hy;subst e;rw[hy] at hx;exact hn hx
theorem za5.block{S':Sto}{h:Nat}{pl:List PlM}{ps:List HP}(A:za5 c S h pl ps){p p':HP}(hp:p∈ps)(hnm:p'.nm=p.nm)(hi:p'.i=p.i)(hout:∀k,(k<p.i\/p.i+5<=k)->S'[k]?=S[k]?)
  (hA:zbu c S' p'):za5 c S' h pl (ps.map fun q=>if q.nm=p.nm then p' else q):=by
 have hf:=A.far p hp;have P:=A.piece p hp;have eqp:∀q∈ps,q.nm=p.nm->q=p:=fun q hq e=>by
  have h1:=zgo A.nd hq;have h2:=zgo A.nd hp;rw[e,h2] at h1;exact(Option.some.inj h1).symm
 have far:∀q∈ps,q.nm≠p.nm->p.i+5<=q.i\/q.i+5<=p.i:=fun q hq ne=>by
  have hne:q≠p:=fun e=>ne (by rw[e]);have pw:=A.pw;have:∀l:List HP,l.Pairwise (fun p q=>p.i+5<=q.i)->p∈l->q∈l->p.i+5<=q.i\/q.i+5<=p.i:=by
   intro l
   induction l with
   |nil=>intro _ h;cases h
   | cons a l ih=>
     intro pw h1 h2;rw[List.pairwise_cons] at pw;rcases List.mem_cons.mp h1 with e1 | g1
     ·rcases List.mem_cons.mp h2 with e2 | g2
      ·exact absurd (e2.trans e1.symm) hne
      ·rw[e1];exact .inl (pw.1 q g2)
     ·rcases List.mem_cons.mp h2 with e2 | g2
      ·rw[e2];exact .inr (pw.1 p g1)
      ·exact ih pw.2 g1 g2
  exact this ps pw hp hq
 have mapI:∀q:HP,(if q.nm=p.nm then p' else q).nm=q.nm:=fun q=>by split<;>simp_all
 have mapD:psD (ps.map fun q=>if q.nm=p.nm then p' else q)=psD ps:=by
  unfold psD;rw[List.map_map];refine List.map_congr_left fun q hq=>?_;show(Sum.inr (if q.nm=p.nm then p' else q).nm,T.obj (if q.nm=p.nm then p' else q).i)=_;rw[mapI];by_cases e:q.nm=p.nm
  ·rw[if_pos e,hi,eqp q hq e]
  ·rw[if_neg e]
 refine⟨by rw[hout _ (by omega)];exact A.hall,by rw[hout _ (by omega)];exact A.places,by rw[hout _ (by omega),mapD];exact A.pieces,fun q hq=>?_,fun q hq=>?_,fun q hq=>?_,?_,?_⟩
 ·have Q:=A.place q hq
  have n0:=zh3 P.o Q (by intro z;injection z with _ z2;simp[HP.fs] at z2);have n1:=zh3 P.a0 Q (by intro z;cases z);have n2:=zh3 P.a1 Q (by intro z;cases z);have n3:=zh3 P.a2 Q (by intro z;cases z);have n4:=zh3 P.a3 Q (by intro z;cases z);rw[hout _ (by omega)];exact Q
 ·obtain⟨r,hr,rfl⟩:=List.mem_map.mp hq
  by_cases e:r.nm=p.nm
  ·rw[if_pos e];exact hA
  ·rw[if_neg e]
   have R:=A.piece r hr;have fr:=far r hr e;exact⟨by rw[hout _ (by omega)];exact R.o,by rw[hout _ (by omega)];exact R.a0,by rw[hout _ (by omega)];exact R.a1,by rw[hout _ (by omega)];exact R.a2,by rw[hout _ (by omega)];exact R.a3⟩
 ·obtain⟨r,hr,rfl⟩:=List.mem_map.mp hq
  by_cases e:r.nm=p.nm
  ·rw[if_pos e,hi];exact hf
  ·rw[if_neg e];exact A.far r hr
 ·rw[List.pairwise_map]
  refine A.pw.imp_of_mem fun {a b} ha hb hab=>?_;have ia:(if a.nm=p.nm then p' else a).i=a.i:=by
   by_cases e:a.nm=p.nm
   ·rw[if_pos e,hi,eqp a ha e]
   ·rw[if_neg e]
  have ib:(if b.nm=p.nm then p' else b).i=b.i:=by
   by_cases e:b.nm=p.nm
   ·rw[if_pos e,hi,eqp b hb e]
   ·rw[if_neg e]
  rw[ia,ib];exact hab
 ·rw[List.map_map]
  rw[show((fun x:HP=>x.nm)∘fun q=>if q.nm=p.nm then p' else q)=fun q:HP=>q.nm from funext fun q=>mapI q];exact A.nd
theorem zbu.w0{p:HP}(A:zbu c S p)(l:List Str):zbu c (S.set (p.i+1) (.lst (l.map .str))) { p with w0:=l }:=
 ⟨by rw[zab (show p.i+1≠p.i by omega)];exact A.o,zbq A.a0,by rw[zab (show p.i+1≠p.i+2 by omega)];exact A.a1,by rw[zab (show p.i+1≠p.i+3 by omega)];exact A.a2,by rw[zab (show p.i+1≠p.i+4 by omega)];exact A.a3⟩
theorem zbu.w1{p:HP}(A:zbu c S p)(l:List Str):zbu c (S.set (p.i+2) (.lst (l.map .str))) { p with w1:=l }:=
 ⟨by rw[zab (show p.i+2≠p.i by omega)];exact A.o,by rw[zab (show p.i+2≠p.i+1 by omega)];exact A.a0,zbq A.a1,by rw[zab (show p.i+2≠p.i+3 by omega)];exact A.a2,by rw[zab (show p.i+2≠p.i+4 by omega)];exact A.a3⟩
theorem zbu.w2{p:HP}(A:zbu c S p)(l:List Str):zbu c (S.set (p.i+3) (.lst (l.map .str))) { p with w2:=l }:=
 ⟨by rw[zab (show p.i+3≠p.i by omega)];exact A.o,by rw[zab (show p.i+3≠p.i+1 by omega)];exact A.a0,by rw[zab (show p.i+3≠p.i+2 by omega)];exact A.a1,zbq A.a2,by rw[zab (show p.i+3≠p.i+4 by omega)];exact A.a3⟩
theorem zbu.w3{p:HP}(A:zbu c S p)(l:List Str):zbu c (S.set (p.i+4) (.lst (l.map .str))) { p with w3:=l }:=
 ⟨by rw[zab (show p.i+4≠p.i by omega)];exact A.o,by rw[zab (show p.i+4≠p.i+1 by omega)];exact A.a0,by rw[zab (show p.i+4≠p.i+2 by omega)];exact A.a1,by rw[zab (show p.i+4≠p.i+3 by omega)];exact A.a2,zbq A.a3⟩
theorem zbu.turn{p:HP}(A:zbu c S p)(b:Bool):zbu c (S.set p.i (.ins c.piece { p with on:=b }.fs)) { p with on:=b }:=
 ⟨zbq A.o,by rw[zab (show p.i≠p.i+1 by omega)];exact A.a0,by rw[zab (show p.i≠p.i+2 by omega)];exact A.a1,by rw[zab (show p.i≠p.i+3 by omega)];exact A.a2,by rw[zab (show p.i≠p.i+4 by omega)];exact A.a3⟩
end DN
namespace DN
open PySem L2 MF
variable {c:Cl}{S:Sto}{ρ:Ev}
theorem zja(l:List Str):zc7 c [strL l] S=.ok (strL l) S:=by simp[zc7,zpx,gIs,zgq,strL,zm6,zem]
theorem zsl(l:List Str):zc7 c [.tup (l.map T.str)] S=.ok (strL l) S:=by simp[zc7,zpx,gIs,zgq,strL,zm6,zem]
theorem zkw{kvs:List (Key×T)}{k:Key}{v:T}(h:valT kvs k=none):putT kvs k v=kvs++[(k,v)]:=by
 unfold putT;rw[if_neg];intro z;obtain⟨p,hp,e⟩:=List.any_eq_true.mp z;unfold valT at h;rw[Option.map_eq_none_iff,List.find?_eq_none] at h;exact h p hp e
theorem z0l{ps:List HP}{x:Str}(h:x∉ps.map (·.nm)):ps.find? (fun p=>decide (p.nm=x))=none:=by
 rw[List.find?_eq_none];intro p hp e;exact h (List.mem_map.mpr ⟨p,hp,by simpa using e⟩)
theorem Zan{h:Nat}{pl:List PlM}{ps:List HP}(A:za5 c S h pl ps){nm q:Str}{dd:T}{pm:PlM}(hn:nm∉ps.map (·.nm))(hq:pl.find? (fun p=>decide (p.nm=q))=some pm)(hl:ps.length<24) :
  zfx c [.obj h,.str nm,.str q,dd,.non] S=.ok .non (S.set (h+2) (.dic (psD (ps++[newP nm q dd none S.length])))++(newP nm q dd none S.length).block c):=by
 have e1:valT (psD ps) (.inr nm)=none:=by rw[zuh,z0l hn];rfl
 have hm:=zg9 (m:=Str.ofString "find_place") h (by simp) (by simp);have e2:=zgn A hq;have hlen:¬(24:Int)<=(psD ps).length:=by simp[psD];omega
 have e3:=zsk (c:=c) (S:=S) nm q dd none;have len:=A.lt;have e4:(S++(newP nm q dd none S.length).block c)[h+2]?=some (.dic (psD ps)):=zb0 A.pieces;have e5:(S++(newP nm q dd none S.length).block c).set (h+2) (.dic (putT (psD ps) (.inr nm) (.obj S.length)))=S.set (h+2) (.dic (psD (ps++[newP nm q dd none S.length])))++(newP nm q dd none S.length).block c:=by
  rw[List.set_append_left _ _ (by omega),zkw e1];simp[psD,newP]
 have e6:(psD ps).length<=900:=by simp[psD];omega
 have A2:zhg (S++(newP nm q dd none S.length).block c) c.hall (.obj h)=some (h,zfa h):=zgd (zb0 A.hall);have e7:zrj (.obj (h+2)) S=.ok (.int (psD ps).length) S:=by simp[zrj,A.pieces]
 have e3':zcd c [.obj S.length,.str q,dd,.non] (S++[.ins c.piece []])=.ok .non (S++(newP nm q dd none S.length).block c):=e3;simp[zfx,znc,A.ins,zkd,gDin,A.dPieces,keyT,e1,hm,e2,zlv,zgq,e7,hlen,e3',A2,e4,e6,e5]
theorem z4s{h:Nat}{pl:List PlM}{ps:List HP}(A:za5 c S h pl ps){nm k r:Str}(hn:pl.find? (fun p=>decide (p.nm=nm))=none)(hl:pl.length<8) :
  zb3 c [.obj h,.str nm,.str k,.str r] S=.ok .non (S.set (h+1) (.dic (plD (pl++[⟨nm,k,r,S.length⟩])))++[.ins c.place [("kind",.str k),("rule",.str r)]]):=by
 have e1:valT (plD pl) (.inr nm)=none:=by rw[zui,hn];rfl
 have hlen:¬(8:Int)<=(plD pl).length:=by simp[plD];omega
 have e3:=zsj (c:=c) (S:=S) k r;have len:=A.lt;have e4:(S++[Cell.ins c.place [("kind",.str k),("rule",.str r)]])[h+1]?=some (.dic (plD pl)):=zb0 A.places;have e5:(S++[Cell.ins c.place [("kind",.str k),("rule",.str r)]]).set (h+1) (.dic (putT (plD pl) (.inr nm) (.obj S.length)))=S.set (h+1) (.dic (plD (pl++[⟨nm,k,r,S.length⟩])))++[.ins c.place [("kind",.str k),("rule",.str r)]]:=by
  rw[List.set_append_left _ _ (by omega),zkw e1];simp[plD]
 have e6:(plD pl).length<=900:=by simp[plD];omega
 have A2:zhg (S++[Cell.ins c.place [("kind",.str k),("rule",.str r)]]) c.hall (.obj h)=some (h,zfa h):=zgd (zb0 A.hall);have e7:zrj (.obj (h+1)) S=.ok (.int (plD pl).length) S:=by simp[zrj,A.places]
 generalize hN:(S++[Cell.ins c.place [("kind",.str k),("rule",.str r)]])=N at e3 e4 e5 A2;simp[zb3,zg3,A.ins,znq,gDin,A.dPlaces,keyT,e1,e7,hlen,e3,A2,e4,e6,e5]
theorem za5.open_{h:Nat}{pl:List PlM}{ps:List HP}(A:za5 c S h pl ps){nm k r:Str} :
  za5 c (S.set (h+1) (.dic (plD (pl++[⟨nm,k,r,S.length⟩])))++[.ins c.place [("kind",.str k),("rule",.str r)]]) h (pl++[⟨nm,k,r,S.length⟩]) ps:=by
 have len:=A.lt;refine⟨zb0 (by rw[zab (by omega)];exact A.hall),zb0 (zbq A.places),zb0 (by rw[zab (by omega)];exact A.pieces),fun q hq=>?_,fun p hp=>((A.piece p hp).set (fun j hj=>by have:=A.far p hp;omega)).app,A.far,A.pw,A.nd⟩;rcases List.mem_append.mp hq with hq | hq
 ·exact zb0 (by rw[zab (zh3 A.places (A.place q hq) (by intro z;cases z))];exact A.place q hq)
 ·rw[List.mem_singleton.mp hq]
  have:=zsi (S:=S.set (h+1) (.dic (plD (pl++[⟨nm,k,r,S.length⟩])))) [Cell.ins c.place [("kind",.str k),("rule",.str r)]];rw[List.length_set] at this;exact this
theorem zvx(p:HP):List.lookup (Str.ofString "ahead") p.fs=some (.obj (p.i+1)):=by simp[HP.fs,List.lookup_cons]
theorem zsm(p:HP):List.lookup (Str.ofString "behind") p.fs=some (.obj (p.i+2)):=by simp[HP.fs,List.lookup_cons]
theorem z3a(p:HP):List.lookup (Str.ofString "needs") p.fs=some (.obj (p.i+3)):=by simp[HP.fs,List.lookup_cons]
theorem z67(p:HP):List.lookup (Str.ofString "bars") p.fs=some (.obj (p.i+4)):=by simp[HP.fs,List.lookup_cons]
noncomputable def zh4(p:HP)(l0 l1 l2 l3:List Str):HP:={ p with w0:=p.w0++l0,w1:=p.w1++l1,w2:=p.w2++l2,w3:=p.w3++l3 }
theorem zvy{k:Nat}{w l:List Str}(h:S[k]?=some (.lst (w.map .str)))(hl:w.length+l.length<=1000):gExt (.obj k) [strL l] S=.ok .non (S.set k (.lst ((w++l).map .str))):=by
 have:=z6s (y:=strL l) h rfl (by simpa using hl);rw[this,List.map_append]
theorem Zao{h:Nat}{pl:List PlM}{ps:List HP}(A:za5 c S h pl ps){p:HP}(hp:p∈ps){t0 t1 t2 t3:T}{l0 l1 l2 l3:List Str}
  (e0:∀S,zc7 c [t0] S=.ok (strL l0) S) (e1:∀S,zc7 c [t1] S=.ok (strL l1) S) (e2:∀S,zc7 c [t2] S=.ok (strL l2) S) (e3:∀S,zc7 c [t3] S=.ok (strL l3) S)
  (b0:p.w0.length+l0.length<=1000) (b1:p.w1.length+l1.length<=1000) (b2:p.w2.length+l2.length<=1000) (b3:p.w3.length+l3.length<=1000) :
  ∃S',zfy c [.obj h,.str p.nm,t0,t1,t2,t3] S=.ok .non S'/\za5 c S' h pl (ps.map fun q=>if q.nm=p.nm then zh4 p l0 l1 l2 l3 else q)/\S'.length=S.length/\∀k,(k<p.i\/p.i+5<=k)->S'[k]?=S[k]?:=by
 have P0:=A.piece p hp;have P1:=P0.w0 (p.w0++l0);have P2:=P1.w1 (p.w1++l1);have P3:=P2.w2 (p.w2++l2);have P4:=P3.w3 (p.w3++l3);have hm:=zg9 (m:=Str.ofString "find_piece") h (by simp) (by simp);have ef:=zgm A (zgo A.nd hp);have x0:=zvy P0.a0 b0;have x1:=zvy P1.a1 b1;have x2:=zvy P2.a2 b2;have x3:=zvy P3.a3 b3;have i0:=zgd P0.o;have i1:=zgd P1.o;have i2:=zgd P2.o;have i3:=zgd P3.o;have k0:=zgr P0.a0;have k1:=zgr P1.a1;have k2:=zgr P2.a2;have k3:=zgr P3.a3;have q1:({ p with w0:=p.w0++l0 }:HP).fs=p.fs:=rfl;have q2:({ p with w0:=p.w0++l0,w1:=p.w1++l1 }:HP).fs=p.fs:=rfl;have q3:({ p with w0:=p.w0++l0,w1:=p.w1++l1,w2:=p.w2++l2 }:HP).fs=p.fs:=rfl;simp only at x0 x1 x2 x3 i0 i1 i2 i3 k0 k1 k2 k3;rw[q1] at i1;rw[q2] at i2;rw[q3] at i3;have out:∀k,(k<p.i\/p.i+5<=k)->((((S.set (p.i+1) (.lst ((p.w0++l0).map .str))).set (p.i+2) (.lst ((p.w1++l1).map .str))).set (p.i+3) (.lst ((p.w2++l2).map .str))).set (p.i+4) (.lst ((p.w3++l3).map .str)))[k]?=S[k]?:=fun k hk=>by
  rw[zab (by omega),zab (by omega),zab (by omega),zab (by omega)]
 refine⟨_,?_,A.block hp (p':=zh4 p l0 l1 l2 l3) rfl rfl out P4,by simp,out⟩;generalize hS1:S.set (p.i+1) (.lst ((p.w0++l0).map .str))=S1 at *;generalize hS2:S1.set (p.i+2) (.lst ((p.w1++l1).map .str))=S2 at *;generalize hS3:S2.set (p.i+3) (.lst ((p.w2++l2).map .str))=S3 at *;generalize hS4:S3.set (p.i+4) (.lst ((p.w3++l3).map .str))=S4 at *;simp[zfy,znd,A.ins,hm,ef,i0,i1,i2,i3,zvx,zsm,z3a,z67,k0,k1,k2,k3,e0,e1,e2,e3,x0,x1,x2,x3]
theorem z3b{h:Nat}{pl:List PlM}{ps:List HP}(A:za5 c S h pl ps){p:HP}(hp:p∈ps)(b:Bool) :
  ∃S',zea c [.obj h,.str p.nm,.bl b] S=.ok .non S'/\za5 c S' h pl (ps.map fun q=>if q.nm=p.nm then { p with on:=b } else q)/\S'.length=S.length/\∀k,(k<p.i\/p.i+5<=k)->S'[k]?=S[k]?:=by
 have P0:=A.piece p hp;have hm:=zg9 (m:=Str.ofString "find_piece") h (by simp) (by simp);have ef:=zgm A (zgo A.nd hp);have out:∀k,(k<p.i\/p.i+5<=k)->(S.set p.i (.ins c.piece ({ p with on:=b }:HP).fs))[k]?=S[k]?:=fun k hk=>by rw[zab (by omega)]
 have i0:=zgd P0.o;have hfs:zk2 (Str.ofString "on") (.bl b) p.fs=({ p with on:=b }:HP).fs:=by simp[HP.fs]
 have hlen:p.fs.length<900:=by simp[HP.fs]
 refine⟨_,?_,A.block hp (p':={ p with on:=b }) rfl rfl out (P0.turn b),by simp,out⟩;simp[zea,zkn,A.ins,hm,ef,i0,hfs,hlen]
end DN
namespace DN
open PySem L2 MF
variable {c:Cl}{S:Sto}{ρ:Ev}
structure Rw where
 nm:Str
 pl:Str
 br:Option Str
 on:Bool
theorem zh5:∀(l m:List Str),l.Nodup->(∀x∈l,x∈m)->l.length<=m.length
 |[],_,_,_=>Nat.zero_le _
 | x::l,m,nd,h=>by
   rw[List.nodup_cons] at nd;have:=zh5 l (m.erase x) nd.2 fun y hy=>(List.mem_erase_of_ne (fun e=>nd.1 (by rw[<- e];exact hy))).mpr (h y (List.mem_cons_of_mem _ hy));rw[List.length_erase_of_mem (h x (List.mem_cons_self ..))] at this;have:=List.length_pos_of_mem (h x (List.mem_cons_self ..));rw[List.length_cons];omega
def HP.rw(p:HP):Rw:=⟨p.nm,p.pl,p.br,p.on⟩
noncomputable def zbn(g:List Str):List (Key×T):=g.map fun x=>(.inr x,.bl true)
theorem zha(x:Str):∀(g:List Str),valT (zbn g) (.inr x)=if x∈g then some (.bl true) else none
 |[]=>by simp[valT,zbn]
 | y::g=>by
   have ih:=zha x g;by_cases h:y=x
   ·simp[valT,zbn,h]
   ·have e:valT (zbn (y::g)) (.inr x)=valT (zbn g) (.inr x):=by simp[valT,zbn,List.find?_cons,h]
    rw[e,ih];simp[Ne.symm h]
theorem zot(g:List Str)(x:Str)(h:x∉g):putT (zbn g) (.inr x) (.bl true)=zbn (g++[x]):=by
 rw[zkw (by rw[zha,if_neg h])];simp[zbn]
theorem z3c{k:Nat}{v:Cell}(h:S[k]?=some v):S.set k v=S:=by
 obtain⟨hl,e⟩:=List.getElem?_eq_some_iff.mp h;rw[<- e];exact List.set_getElem_self hl
theorem zvz(p:HP):List.lookup (Str.ofString "place") p.fs=some (.str p.pl):=by simp[HP.fs,List.lookup_cons]
theorem Zap(p:HP):List.lookup (Str.ofString "on") p.fs=some (.bl p.on):=by simp[HP.fs,List.lookup_cons]
end DN
namespace DN
open PySem L2 MF
variable {sec:Str->List Str}
noncomputable def zck(sec:Str->List Str)(left:List Str)(x:Str):Bool:=!(left.any fun f=>decide (x∈sec f))
noncomputable def topo(sec:Str->List Str):Nat->List Str->List Str->Option (List Str)
 |0,_,row=>some row
 | n+1,left,row=>match left.find? (zck sec left) with
   |none=>none
   |some x=>topo sec n (left.erase x) (row++[x])
theorem zkx:∀(n:Nat) {left row res:List Str},left.Nodup->left.length=n->topo sec n left row=some res->∃tail,res=row++tail/\tail.Perm left /\
  ∀A x B,tail=A++x::B->(left.filter fun y=>!A.contains y).find? (zck sec (left.filter fun y=>!A.contains y))=some x
 | 0,left,row,res,_,hl,e=>by
   cases e;have:left=[]:=List.eq_nil_of_length_eq_zero hl;subst this;exact⟨[],by simp,.refl _,fun A x B h=>by simp at h⟩
 | n + 1,left,row,res,nd,hl,e=>by
   unfold topo at e;cases e1:left.find? (zck sec left) with
   |none=>simp only[e1] at e;cases e
   | some x=>
     simp only[e1] at e;have hm:=List.mem_of_find?_eq_some e1;have hl2:(left.erase x).length=n:=by rw[List.length_erase_of_mem hm];omega
     obtain⟨tail,rfl,hp,hs⟩:=zkx n (nd.erase x) hl2 e;refine⟨x::tail,by simp,(List.Perm.cons x hp).trans (List.perm_cons_erase hm).symm,fun A y B h=>?_⟩;cases A with
     | nil=>
       simp only[List.nil_append,List.cons.injEq] at h;rw[<- h.1];have:(left.filter fun y=>!([]:List Str).contains y)=left:=List.filter_eq_self.mpr fun _ _=>rfl;rw[this];exact e1
     | cons a A=>
       simp only[List.cons_append,List.cons.injEq] at h;obtain⟨rfl,h⟩:=h;have:=hs A y B h;rw[nd.erase_eq_filter,List.filter_filter] at this;have e3:(left.filter fun y=>!A.contains y&&(y != x))=left.filter fun y=>!(x::A).contains y:=List.filter_congr fun y _=>by
        rw[List.contains_cons,Bool.not_or,Bool.and_comm];rfl
       rw[e3] at this;exact this
inductive Path(sec:Str->List Str):Str->Str->Prop
 |one {a b:Str}:b∈sec a->Path sec a b
 |more {a b d:Str}:b∈sec a->Path sec b d->Path sec a d
theorem Zaq{l:List Str}(f:Nat->Str)(h:∀i,f i∈l):∃i j,i<j/\f i=f j:=by
 by_cases z:∃i j,i<j/\f i=f j
 ·exact z
 ·exfalso
  have inj:∀i j,i<j->f i≠f j:=fun i j hij e=>z ⟨i,j,hij,e⟩;have nd:((List.range (l.length+1)).map f).Nodup:=by
   rw[List.Nodup,List.pairwise_map];refine List.Pairwise.imp (fun {a b} hab=>?_) List.pairwise_lt_range;exact inj a b hab
  have:=zh5 _ l nd fun x hx=>by
   obtain⟨i,_,rfl⟩:=List.mem_map.mp hx;exact h i
  simp at this;omega
theorem zxn{left:List Str}(hne:left≠[])(h:∀x∈left,∃f∈left,x∈sec f):∃s∈left,Path sec s s:=by
 classical
 obtain⟨x0,hx0⟩:=List.exists_mem_of_ne_nil left hne;let pr:{ x // x∈left }->{ x // x∈left }:=fun x=>⟨(h x.1 x.2).choose,(h x.1 x.2).choose_spec.1⟩;have hpr:∀x,x.1∈sec (pr x).1:=fun x=>(h x.1 x.2).choose_spec.2;let f:Nat->{ x // x∈left }:=fun n=>Nat.rec ⟨x0,hx0⟩ (fun _ x=>pr x) n;have hf:∀n,(f n).1∈sec (f (n+1)).1:=fun n=>hpr (f n);have hp:∀j i,i<j->Path sec (f j).1 (f i).1:=by
  intro j
  induction j with
  |zero=>intro i hi;omega
  | succ j ih=>
    intro i hi;by_cases z:i=j
    ·subst z;exact .one (hf i)
    ·exact .more (hf j) (ih i (by omega))
 obtain⟨i,j,hij,e⟩:=Zaq (fun n=>(f n).1) fun n=>(f n).2;have p:=hp j i hij;have e:(f i).1=(f j).1:=e;rw[e] at p;exact⟨(f j).1,(f j).2,p⟩
def zjb(row:List Str):Str:=row.getLast?.getD Str.empty
noncomputable def rt1(start:Str)(row:List Str):List Str->List Str->List (List Str)->Option (List Str×List (List Str))
 |[],re,lo=>some (re,lo)
 |s::r,re,lo=>if s=start then none else if s∈re then rt1 start row r re lo else rt1 start row r (re++[s]) (lo++[row++[s]])
noncomputable def rt2(sec:Str->List Str)(start:Str):List (List Str)->List Str->List (List Str)->Except (List Str) (List Str×List (List Str))
 |[],re,lo=>.ok (re,lo)
 | row::rs,re,lo=>match rt1 start row (sec (zjb row)) re lo with
   |none=>.error row
   |some (re',lo')=>rt2 sec start rs re' lo'
noncomputable def rt3(sec:Str->List Str)(start:Str):Nat->List (List Str)->List Str->List Str
 |0,_,_=>[]
 | n+1,rows,re=>if rows=[] then[] else match rt2 sec start rows re [] with
   |.error row=>row
   |.ok (re',lo)=>rt3 sec start n lo re'
structure zjj(names:List Str)(re:List Str)(row:List Str):Prop where
 ne:row≠[]
 sub:∀x∈row,x∈names
 len:row.length<=re.length
structure ReOk(names re:List Str):Prop where
 nd:re.Nodup
 sub:∀x∈re,x∈names
theorem zsn(row:List Str)(s:Str):zjb (row++[s])=s:=by simp[zjb]
theorem zv0{row:List Str}(h:row≠[]):zjb row∈row:=by
 unfold zjb;rw[List.getLast?_eq_some_getLast h];exact List.getLast_mem h
theorem zjj.mono{names re re' row:List Str}(r:zjj names re row)(h:re.length<=re'.length):zjj names re' row:=⟨r.ne,r.sub,Nat.le_trans r.len h⟩
theorem zv1{names:List Str}{start:Str}{row:List Str}:∀(ss re:List Str) (lo:List (List Str)),(∀s∈ss,s∈names)->ReOk names re->zjj names re row->(∀r∈lo,zjj names re r)->lo.length<=re.length->∀re' lo',rt1 start row ss re lo=some (re',lo') ->
  ReOk names re'/\(∀r∈lo',zjj names re' r)/\lo'.length<=re'.length/\(∃u,re'=re++u)/\(∃v,lo'=lo++v/\(v=[]\/re.length<re'.length))/\(∀s∈ss,s≠start/\s∈re')/\(∀x∈re',x∈re\/∃r∈lo',zjb r=x)
 | [],re,lo,hs,h1,h2,h3,h4,re',lo',e=>by
   cases e;exact⟨h1,h3,h4,⟨[],by simp⟩,⟨[],by simp,.inl rfl⟩,(by intro s hs;cases hs),fun x hx=>.inl hx⟩
 | s :: ss,re,lo,hs,h1,h2,h3,h4,re',lo',e=>by
   unfold rt1 at e;by_cases z:s=start
   ·rw[if_pos z] at e;cases e
   ·rw [if_neg z] at e
    have hs':∀x∈ss,x∈names:=fun x hx=>hs x (List.mem_cons_of_mem _ hx);by_cases y:s∈re
    ·rw[if_pos y] at e
     obtain⟨a1,a2,a3,⟨u,a4⟩,a5,a6,a7⟩:=zv1 ss re lo hs' h1 h2 h3 h4 re' lo' e;refine⟨a1,a2,a3,⟨u,a4⟩,a5,fun x hx=>?_,a7⟩;rcases List.mem_cons.mp hx with rfl | hx
     ·exact⟨z,by rw[a4];exact List.mem_append_left _ y⟩
     ·exact a6 x hx
    ·rw[if_neg y] at e
     have r1:ReOk names (re++[s]):=⟨by
      rw[List.nodup_append];refine⟨h1.nd,by simp,fun a ha b hb e9=>?_⟩;rw[List.mem_singleton] at hb;subst hb e9;exact y ha,fun x hx=>by
      rcases List.mem_append.mp hx with hx | hx
      ·exact h1.sub x hx
      ·rw[List.mem_singleton.mp hx];exact hs s (List.mem_cons_self ..)⟩
     have ln:(re++[s]).length=re.length+1:=by simp
     have rr:zjj names (re++[s]) (row++[s]):=⟨by simp,fun x hx=>by
      rcases List.mem_append.mp hx with hx | hx
      ·exact h2.sub x hx
      ·rw[List.mem_singleton.mp hx];exact hs s (List.mem_cons_self ..),by have:=h2.len;simp;omega⟩
     obtain⟨a1,a2,a3,⟨u,a4⟩,⟨v,a5,_⟩,a6,a7⟩:=zv1 ss (re++[s]) (lo++[row++[s]]) hs' r1 (h2.mono (by omega)) (fun r hr=>by
      rcases List.mem_append.mp hr with hr | hr
      ·exact(h3 r hr).mono (by omega)
      ·rw[List.mem_singleton.mp hr];exact rr) (by simp;omega) re' lo' e
     refine⟨a1,a2,a3,⟨s::u,by rw[a4];simp⟩,⟨(row++[s])::v,by rw[a5];simp,.inr (by rw[a4];simp only[List.length_append,List.length_singleton];omega)⟩,fun x hx=>?_,fun x hx=>?_⟩
     ·rcases List.mem_cons.mp hx with rfl | hx
      ·exact⟨z,by rw[a4];simp⟩
      ·exact a6 x hx
     ·rcases a7 x hx with h | h
      ·rcases List.mem_append.mp h with h | h
       ·exact .inl h
       ·exact .inr ⟨row++[s],by rw[a5];simp,by rw[zsn,List.mem_singleton.mp h]⟩
      ·exact .inr h
theorem zv2{names:List Str}{start:Str}(hsec:∀a∈names,∀b∈sec a,b∈names):∀(rows:List (List Str)) (re:List Str) (lo:List (List Str)),ReOk names re->(∀r∈rows,zjj names re r)->(∀r∈lo,zjj names re r)->lo.length<=re.length->∀re' lo',rt2 sec start rows re lo=.ok (re',lo') ->
  ReOk names re'/\(∀r∈lo',zjj names re' r)/\lo'.length<=re'.length/\(∃u,re'=re++u)/\(∃v,lo'=lo++v/\(v=[]\/re.length<re'.length))/\(∀r∈rows,∀s∈sec (zjb r),s≠start/\s∈re')/\(∀x∈re',x∈re\/∃r∈lo',zjb r=x)
 | [],re,lo,h1,h2,h3,h4,re',lo',e=>by
   cases e;exact⟨h1,h3,h4,⟨[],by simp⟩,⟨[],by simp,.inl rfl⟩,(by intro s hs;cases hs),fun x hx=>.inl hx⟩
 | row :: rs,re,lo,h1,h2,h3,h4,re',lo',e=>by
   unfold rt2 at e;cases e1:rt1 start row (sec (zjb row)) re lo with
   |none=>simp only[e1] at e;cases e
   | some q=>
     obtain⟨re1,lo1⟩:=q;simp only[e1] at e;have hr:=h2 row (List.mem_cons_self ..);obtain⟨a1,a2,a3,⟨u,a4⟩,⟨v,a5,a5'⟩,a6,a7⟩:=zv1 _ re lo (hsec _ (hr.sub _ (zv0 hr.ne))) h1 hr h3 h4 re1 lo1 e1;have le1:re.length<=re1.length:=by rw[a4];simp
     obtain⟨b1,b2,b3,⟨u2,b4⟩,⟨v2,b5,b5'⟩,b6,b7⟩:=zv2 hsec rs re1 lo1 a1 (fun r hr=>(h2 r (List.mem_cons_of_mem _ hr)).mono le1) a2 a3 re' lo' e;have le2:re1.length<=re'.length:=by rw[b4];simp
     refine⟨b1,b2,b3,⟨u++u2,by rw[b4,a4];simp⟩,⟨v++v2,by rw[b5,a5];simp,?_⟩,fun r hr' s hs=>?_,fun x hx=>?_⟩
     ·rcases a5' with rfl | h
      ·rcases b5' with rfl | h
       ·exact .inl rfl
       ·exact .inr (by omega)
      ·exact .inr (by omega)
     ·rcases List.mem_cons.mp hr' with rfl | hr'
      ·exact⟨(a6 s hs).1,by rw[b4];exact List.mem_append_left _ (a6 s hs).2⟩
      ·exact b6 r hr' s hs
     ·rcases b7 x hx with h | h
      ·rcases a7 x h with h | ⟨r,hr',e⟩
       ·exact .inl h
       ·exact .inr ⟨r,by rw[b5];exact List.mem_append_left _ hr',e⟩
      ·exact .inr h
theorem zqc{start:Str}:∀(rows:List (List Str)) (re:List Str) (lo:List (List Str)) {row:List Str},rt2 sec start rows re lo=.error row->row∈rows
 | r :: rs,re,lo,row,e=>by
   unfold rt2 at e;cases e1:rt1 start r (sec (zjb r)) re lo with
   |none=>simp only[e1] at e;cases e;exact List.mem_cons_self ..
   | some q=>
     simp only[e1] at e;exact List.mem_cons_of_mem _ (zqc rs _ _ e)
theorem z4t {names:List Str} {start:Str} (hsec:∀a∈names,∀b∈sec a,b∈names) (hp:Path sec start start):∀(n:Nat) (rows:List (List Str)) (re:List Str),names.length+2<=n+re.length->ReOk names re->(∀r∈rows,zjj names re r)->start∈re ->
  (∀u∈re,(∀v∈sec u,v≠start/\v∈re)\/∃r∈rows,zjb r=u)->rt3 sec start n rows re≠[]
 | 0,rows,re,hf,h1,_,_,_=>by
   have:=zh5 re names h1.nd h1.sub;omega
 | n + 1,rows,re,hf,h1,h2,h3,h4=>by
   have stop:(∀u∈re,∀v∈sec u,v≠start/\v∈re)->False:=fun h=>by
    have go:∀a b,Path sec a b->a∈re->b≠start/\b∈re:=by
     intro a b p
     induction p with
     |one e=>exact fun ha=>h _ ha _ e
     |more e _ ih=>exact fun ha=>ih (h _ ha _ e).2
    exact(go _ _ hp h3).1 rfl
   unfold rt3;by_cases z:rows=[]
   ·exact(stop fun u hu=>by
     rcases h4 u hu with h | ⟨r,hr,_⟩
     ·exact h
     ·rw[z] at hr;cases hr).elim
   ·rw [if_neg z]
    cases e:rt2 sec start rows re [] with
    |error row=>exact(h2 row (zqc _ _ _ e)).ne
    | ok q=>
      obtain⟨re',lo⟩:=q;obtain⟨a1,a2,a3,⟨u,a4⟩,⟨v,a5,a5'⟩,a6,a7⟩:=zv2 hsec rows re [] h1 h2 (by intro r hr;cases hr) (Nat.zero_le _) re' lo e;have h4':∀u∈re',(∀v∈sec u,v≠start/\v∈re')\/∃r∈lo,zjb r=u:=fun x hx=>by
       rcases a7 x hx with h | h
       ·rcases h4 x h with g | ⟨r,hr,rfl⟩
        ·exact .inl fun v hv=>⟨(g v hv).1,by rw[a4];exact List.mem_append_left _ (g v hv).2⟩
        ·exact .inl fun v hv=>a6 r hr v hv
       ·exact .inr h
      rw[List.nil_append] at a5;rcases a5' with y | y
      ·rw[y] at a5
       subst a5;have hall:∀u∈re',∀v∈sec u,v≠start/\v∈re':=fun u hu=>by
        rcases h4' u hu with h | ⟨r,hr,_⟩
        ·exact h
        ·cases hr
       have go:∀a b,Path sec a b->a∈re'->b≠start/\b∈re':=by
        intro a b p
        induction p with
        |one e=>exact fun ha=>hall _ ha _ e
        |more e _ ih=>exact fun ha=>ih (hall _ ha _ e).2
       exact((go _ _ hp (by rw[a4];exact List.mem_append_left _ h3)).1 rfl).elim
      ·exact z4t hsec hp n lo re' (by omega) a1 a2 (by rw[a4];exact List.mem_append_left _ h3) h4'
theorem z0m{names:List Str}{start:Str}(hsec:∀a∈names,∀b∈sec a,b∈names):∀(n:Nat) (rows:List (List Str)) (re:List Str),ReOk names re->(∀r∈rows,zjj names re r)->(∀x∈rt3 sec start n rows re,x∈names)/\(rt3 sec start n rows re).length<=names.length
 |0,rows,re,h1,h2=>by simp[rt3]
 | n+1,rows,re,h1,h2=>by
   unfold rt3;by_cases z:rows=[]
   ·rw[if_pos z];simp
   ·rw[if_neg z]
    cases e:rt2 sec start rows re [] with
    | error row=>
      have r:=h2 row (zqc _ _ _ e);have:=zh5 re names h1.nd h1.sub;exact⟨r.sub,Nat.le_trans r.len this⟩
    | ok q=>
      obtain⟨re',lo⟩:=q;obtain⟨a1,a2,_⟩:=zv2 hsec rows re [] h1 h2 (by intro r hr;cases hr) (Nat.zero_le _) re' lo e;exact z0m hsec n lo re' a1 a2
end DN
namespace DN
open PySem L2 MF
variable {c:Cl}{S:Sto}{ρ:Ev}
@[simp]theorem Zdn(acc:Str):jT acc [] ρ S=(if acc.length<=1000 then .ok (.str acc) S else .bad):=rfl
@[simp]theorem Zck(acc:Str)(f:DE)(fs:List DE):jT acc (f::fs) ρ S=(f ρ).bind (fun t=>match t with
 |.str y=>(fun S=>if(acc++y).length<=1000 then jT (acc++y) fs ρ S else .bad)
 |_=>M.bad) S:=rfl
@[simp]theorem Zdo(y:Str):zts (.str y) S=(if(reprText y).length<=1000 then .ok (.str (reprText y)) S else .bad):=rfl
@[simp]theorem Zcl(C:Addr)(fr:DA):zhi C fr ρ S=(fr ρ).bind (fun ts=>fun S=>if ts.length<=1000 then .exc C none S else .bad) S:=rfl
@[simp] theorem Zec (fb:DS) (js:List Nat) (fh:DH):dTry fb js fh ρ S=(match fb ρ S with
  |.ok x S'=>.ok x S'
  |.exc C fs S'=>fh C fs (msk js ρ) S'
  |.bad=>.bad):=by unfold dTry;split<;>simp_all
def Sm(x:Str):Prop:=(reprText x).length<=100
theorem z0n{q:Str}:∀(ps:List HP) {x0 x1:Option T} {acc:List T},(∀p∈ps,S[p.i]?=some (.ins c.piece p.fs))->acc.length+ps.length<=900 ->
  zgf (fun _=>True) (zkk 0 1) (zdc c) (zer c) (zg1 (psD ps)) [x0,x1,some (.str q)] acc S=.ok (acc++((ps.filter fun p=>decide (p.pl=q)&&p.on).map fun p=>T.str p.nm)) S
 | [],x0,x1,acc,_,_=>by
   show zgf _ _ _ _ [] _ acc S=_;unfold zgf;rw[if_pos trivial];simp
 | p :: ps,x0,x1,acc,hp,hl=>by
   have i:=zgd (hp p (List.mem_cons_self ..));rw[List.length_cons] at hl;have ih:=fun(acc:List T) (ha:acc.length+ps.length<=900)=>z0n (q:=q) ps (x0:=some (.str p.nm)) (x1:=some (.obj p.i)) (acc:=acc) (fun r hr=>hp r (List.mem_cons_of_mem _ hr)) ha;have ht:zdc c [some (.str p.nm),some (.obj p.i),some (.str q)] S=.ok (decide (p.pl=q)&&p.on) S:=by
    by_cases z:p.pl=q
    ·simp[zdc,i,zvz,Zap,z]
    ·simp[zdc,i,zvz,Zap,z]
   have he:zer c [some (.str p.nm),some (.obj p.i),some (.str q)] S=.ok (.str p.nm) S:=by simp[zer]
   show zgf _ _ _ _ (.tup [.str p.nm,.obj p.i]::zg1 (psD ps)) _ acc S=_;unfold zgf;rw[if_pos trivial];show(M.bind (zdc c [some (.str p.nm),some (.obj p.i),some (.str q)]) _) S=_;rw[zan,ht];have hacc:acc.length<1000:=by omega
   cases z:(decide (p.pl=q)&&p.on) with
   | false=>
     rw[List.filter_cons_of_neg (by rw[z];decide)];exact ih acc (by omega)
   | true=>
     rw[List.filter_cons_of_pos (by rw[z]),List.map_cons];have:=ih (acc++[.str p.nm]) (by rw[List.length_append,List.length_singleton];omega);rw[List.append_assoc] at this;simp only[if_true,zan,he,z95,hacc];exact this
theorem f_at{h:Nat}{pl:List PlM}{ps:List HP}(A:za5 c S h pl ps){q:Str}{pm:PlM}(hq:pl.find? (fun p=>decide (p.nm=q))=some pm)(hl:ps.length<=800) :
  zg6 c [.obj h,.str q] S=.ok (strL ((ps.filter fun p=>decide (p.pl=q)&&p.on).map (·.nm))) S:=by
 have hm:=zg9 (m:=Str.ofString "find_place") h (by simp) (by simp);have e2:=zgn A hq;have lk:=A.pieces;have len:=A.lt;have ec:zrs zg1 2 [1] (zhm c) (zkk 0 1) (zdc c) (zer c) finF [some (.obj h),some (.str q)] S=.ok (strL ((ps.filter fun p=>decide (p.pl=q)&&p.on).map (·.nm))) S:=by
  have e1:zhm c [some (.obj h),some (.str q)] S=.ok (.obj (h+2)) S:=by simp[zhm,A.ins,zkd]
  have cc:=z0n (c:=c) (S:=S.set (h+2) (.lck (psD ps))) (q:=q) ps (x0:=none) (x1:=none) (acc:=[]) (fun p hp=>by rw[zab (by have:=A.far p hp;omega)];exact(A.piece p hp).o) (by simp;omega);have q2:(S.set (h+2) (.lck (psD ps))).set (h+2) (.dic (psD ps))=S:=by rw[List.set_set,z3c lk]
  have q1:(S.set (h+2) (.lck (psD ps)))[h+2]?=some (.lck (psD ps)):=zbq lk;unfold zrs;rw[zan,e1];show(match S[h+2]? with|some (.dic kvs)=>unl (h+2) kvs (M.bind (noX (zgf _ _ _ _ (zg1 kvs) [none,none,some (.str q)] [])) finF (S.set (h+2) (.lck kvs))) | _=>.bad)=_;rw[lk];show unl (h+2) (psD ps) (M.bind (noX (zgf _ _ _ _ (zg1 (psD ps)) [none,none,some (.str q)] [])) finF (S.set (h+2) (.lck (psD ps))))=_;have:noX (zgf (fun _=>True) (zkk 0 1) (zdc c) (zer c) (zg1 (psD ps)) [none,none,some (.str q)] []) (S.set (h+2) (.lck (psD ps)))=.ok ([]++((ps.filter fun p=>decide (p.pl=q)&&p.on).map fun p=>T.str p.nm)) (S.set (h+2) (.lck (psD ps))):=by
   unfold noX;rw[cc]
  rw[zan,this];show unl (h+2) (psD ps) (R.ok (T.lst ([]++((ps.filter fun p=>decide (p.pl=q)&&p.on).map fun p=>T.str p.nm))) (S.set (h+2) (.lck (psD ps))))=_;unfold unl;simp only[q1,if_true,q2];simp[strL]
 simp[zg6,zrz,A.ins,hm,e2,ec]
end DN
namespace DN
open PySem L2 MF
variable {c:Cl}{S:Sto}{ρ:Ev}{sec:Str->List Str}{names:List Str}
noncomputable def secD(names:List Str)(sec:Str->List Str):T:=.dic (names.map fun n=>(.inr n,.dic (zbn (sec n))))
theorem zqd{g:Str->T}{n:Str}:∀{names:List Str},n∈names->valT (names.map fun n=>(Sum.inr n,g n)) (.inr n)=some (g n)
 | m :: names,h=>by
   by_cases z:m=n
   ·subst z;simp[valT]
   ·have h:n∈names:=by
     rcases List.mem_cons.mp h with h | h
     ·exact absurd h.symm z
     ·exact h
    have ih:=zqd (g:=g) h;unfold valT at ih ⊢;rw[List.map_cons,List.find?_cons];simpa[z] using ih
theorem znr{g:Str->T}{n:Str}:∀{names:List Str},n∉names->valT (names.map fun n=>(Sum.inr n,g n)) (.inr n)=none
 |[],_=>rfl
 | m::names,h=>by
   have z:m≠n:=fun e=>h (by simp[e]);have ih:=znr (g:=g) (n:=n) (names:=names) fun e=>h (List.mem_cons_of_mem _ e);unfold valT at ih ⊢;rw[List.map_cons,List.find?_cons];simpa[z] using ih
theorem z0o{n:Str}(hn:n∈names):gDix (secD names sec) (.str n) S=.ok (.dic (zbn (sec n))) S:=by
 simp[gDix,secD,zfu,keyT,zqd hn]
theorem z3d(b:Str)(l:List Str):gDin (.str b) (.dic (zbn l)) S=.ok (.bl (decide (b∈l))) S:=by
 by_cases z:b∈l
 ·simp[gDin,zfu,keyT,zha,z]
 ·simp[gDin,zfu,keyT,zha,z]
theorem zns{st:Sto->Prop}{body:DS}{i:Nat}{ρ0:Ev}{p:T->Option T}(hst:st S):∀(ts:List T) (ρ:Ev),(∀t,ρ.set i (some t)=ρ0.set i (some t))->(∀t∈ts,body (ρ0.set i (some t)) S=match p t with|some r=>.ok (.rt r) S | none=>.ok (.nx (ρ0.set i (some t))) S) ->
  ∃ρ',(∀t,ρ'.set i (some t)=ρ0.set i (some t))/\za0 st (zaz i) body ts ρ S=match ts.findSome? p with|some r=>.ok (.rt r) S | none=>.ok (.nx ρ') S
 | [],ρ,hρ,_=>⟨ρ,hρ,by
   unfold za0;rw[if_pos hst];rfl⟩
 | t::ts,ρ,hρ,hb=>by
   have h1:=hb t (List.mem_cons_self ..);obtain⟨ρ',hρ',e⟩:=zns hst ts (ρ0.set i (some t)) (fun u=>by rw[List.set_set]) fun u hu=>hb u (List.mem_cons_of_mem _ hu);unfold za0;rw[if_pos hst];simp only[zaz,hρ t,List.findSome?_cons];show∃ρ',_/\(M.bind (body (ρ0.set i (some t))) _) S=_;rw[zan,h1];cases e2:p t with
   |some r=>exact⟨ρ',hρ',rfl⟩
   |none=>exact⟨ρ',hρ',e⟩
theorem z0p{α:Type}(f:α->Bool):∀(l:List α),zrt (l.map fun x=>T.bl (f x))=some (l.map f)
 |[]=>rfl
 | a::r=>by
   rw[List.map_cons];unfold zrt;rw[z0p f r];rfl
theorem zxo{k:Nat}{left:List Str}(hk:S[k]?=some (.lst (left.map .str)))(hsub:∀x∈left,x∈names)(hl:left.length<=900) :
  zcq c [secD names sec,.obj k] S=.ok (match left.find? (zck sec left) with|some x=>.str x | none=>.non) S:=by
 have hlst:=zd4 hk;have any:∀x,e1 gAny (zek 1 [2,0] (zdg c) (zaz 0) yesD (zdf c) finF) [some (secD names sec),some (.obj k),some (.str x)] S=.ok (.bl (left.any fun f=>decide (x∈sec f))) S:=fun x=>by
  have hc:=zkl (ρ:=[some (secD names sec),some (.obj k),some (.str x)]) (S:=S) (js:=[2,0]) (it:=zdg c) (te:=zdf c) (ts:=left.map .str) (st:=fun S'=>zam S' (.obj k)=some (left.map .str))
   (f:=fun t=>match t with|.str y=>.bl (decide (x∈sec y)) | _=>.non) (by simp[zdg,hlst]) hlst (by simpa using(by omega:left.length<=1000)) (fun t ht=>by
    obtain⟨y,hy,rfl⟩:=List.mem_map.mp ht;simp[zdf,z0o (hsub y hy),z3d])
  rw[List.map_map] at hc;have e:gAny (.lst (left.map fun y=>T.bl (decide (x∈sec y)))) S=.ok (.bl (left.any fun f=>decide (x∈sec f))) S:=by
   unfold gAny;simp only[zz1,Option.bind_some,z0p,List.any_map];rfl
  rw[x_e1,zan,hc];exact e
 obtain⟨ρ',_,e⟩:=zns (S:=S) (st:=fun S'=>zam S' (.obj k)=some (left.map .str)) (body:=zb4 c) (i:=2) (ρ0:=[some (secD names sec),some (.obj k),none]) (p:=fun t=>match t with|.str x=>if zck sec left x=true then some (.str x) else none | _=>none) hlst (left.map .str) [some (secD names sec),some (.obj k),none] (fun _=>rfl) (fun t ht=>by
  obtain⟨x,hx,rfl⟩:=List.mem_map.mp ht;have a:=any x;rw[x_e1,zan] at a;by_cases z:(left.any fun f=>decide (x∈sec f))=true
  ·have z2:zck sec left x=false:=by unfold zck;rw[z];rfl
   simp only[z2];rw[z] at a;simp[zb4,a]
  ·have z:(left.any fun f=>decide (x∈sec f))=false:=by simpa using z
   have z2:zck sec left x=true:=by unfold zck;rw[z];rfl
   simp only[z2,if_true];rw[z] at a;simp[zb4,a])
 have ef:(left.map T.str).findSome? (fun t=>match t with|.str x=>if zck sec left x=true then some (T.str x) else none | _=>none)=(left.find? (zck sec left)).map T.str:=by
  generalize zck sec left=q;clear e any hlst hk hsub hl
  induction left with
  |nil=>rfl
  | cons a r ih=>
    rw[List.map_cons,List.findSome?_cons,List.find?_cons];cases z:q a with
    |true=>simp[z]
    |false=>simpa[z] using ih
 rw[ef] at e;have es:sFor (iL (eVar 1)) (zaz 2) (zb4 c) [some (secD names sec),some (.obj k),none] S=za0 (fun S'=>zam S' (.obj k)=some (left.map .str)) (zaz 2) (zb4 c) (left.map .str) [some (secD names sec),some (.obj k),none] S:=by
  unfold sFor;simp[hlst]
 cases z:left.find? (zck sec left) with
 | none=>
   rw[z] at e;simp[zcq,zfz,es,e]
 | some x=>
   rw[z] at e;simp[zcq,zfz,es,e]
end DN
namespace DN
open PySem L2 MF
variable {c:Cl}{S:Sto}{ρ:Ev}{sec:Str->List Str}{names:List Str}
noncomputable def zgy(names A:List Str)(k:Nat):List (Key×T):=A.map fun n=>(.inr n,.obj (k+1+names.idxOf n))
noncomputable def stS(S:Sto)(names:List Str)(sec:Str->List Str):Sto:=S++.dic (zgy names names S.length)::names.map fun n=>.dic (zbn (sec n))
theorem z0q{A B:List Str}{n:Str}(h:n∉A):(A++n::B).idxOf n=A.length:=by
 rw[List.idxOf_append,if_neg h];simp
theorem zqe:(stS S names sec)[S.length]?=some (.dic (zgy names names S.length)):=by unfold stS;rw[zsi];rfl
theorem zlp{j:Nat}{u:Cell}(h:S[j]?=some u):(stS S names sec)[j]?=some u:=zb0 h
theorem z0r{a:Str}(ha:a∈names):(stS S names sec)[S.length+1+names.idxOf a]?=some (.dic (zbn (sec a))):=by
 unfold stS;rw[Nat.add_assoc,getR,Nat.add_comm 1,List.getElem?_cons_succ,List.getElem?_map];have hl:=List.idxOf_lt_length_of_mem ha;rw[List.getElem?_eq_getElem hl,List.getElem_idxOf hl];rfl
theorem z68{a:Str}{l:List Str}(nd:names.Nodup)(ha:a∈names):(stS S names sec).set (S.length+1+names.idxOf a) (.dic (zbn l))=stS S names (fun n=>if n=a then l else sec n):=by
 unfold stS;rw[Nat.add_assoc,setR,Nat.add_comm 1,List.set_cons_succ];congr 2;obtain⟨A,B,rfl⟩:=List.append_of_mem ha;have hA:a∉A:=fun hm=>by
  rw[List.nodup_append] at nd;exact nd.2.2 a hm a (List.mem_cons_self ..) rfl
 have hB:a∉B:=fun hm=>by
  rw[List.nodup_append,List.nodup_cons] at nd;exact nd.2.1.1 hm
 rw[z0q hA,List.map_append,List.map_cons,List.set_append_right _ _ (by simp),List.length_map,Nat.sub_self,List.set_cons_zero,List.map_append,List.map_cons];show _++Cell.dic (zbn l)::_=_++Cell.dic (zbn (if a=a then l else sec a))::_;rw[if_pos rfl];congr 1
 ·exact List.map_congr_left fun n hn=>by
   show _=Cell.dic (zbn (if n=a then l else sec n));rw[if_neg (fun e=>hA (by rw[<- e];exact hn))]
 ·congr 1
  exact List.map_congr_left fun n hn=>by
   show _=Cell.dic (zbn (if n=a then l else sec n));rw[if_neg (fun e=>hB (by rw[<- e];exact hn))]
def addS(sec:Str->List Str)(a b:Str):Str->List Str:=fun n=>if n=a then(if b∈sec a then sec a else sec a++[b]) else sec n
theorem z0s(g:List Str)(x:Str):putT (zbn g) (.inr x) (.bl true)=zbn (if x∈g then g else g++[x]):=by
 by_cases z:x∈g
 ·rw[if_pos z]
  unfold putT;have hany:((zbn g).any fun kv=>decide (kv.1=Sum.inr x))=true:=List.any_eq_true.mpr ⟨((Sum.inr x:Key),T.bl true),List.mem_map.mpr ⟨x,z,rfl⟩,by simp⟩;rw[if_pos hany];unfold zbn;rw[List.map_map];refine List.map_congr_left fun y _=>?_;show(if(Sum.inr y:Key)=Sum.inr x then((Sum.inr y:Key),T.bl true) else(Sum.inr y,.bl true))=_
  split<;>rfl
 ·rw[if_neg z,zot g x z]
theorem zv3{a b x y:Str}:y∈addS sec a b x↔y∈sec x\/(x=a/\y=b):=by
 unfold addS;by_cases z:x=a
 ·rw[if_pos z]
  by_cases w:b∈sec a
  ·rw[if_pos w,z]
   constructor
   ·exact .inl
   ·rintro(h | ⟨_,rfl⟩)
    ·exact h
    ·exact w
  ·rw[if_neg w,z,List.mem_append,List.mem_singleton]
   simp
 ·rw[if_neg z]
  simp[z]
theorem zmm{a b x:Str}:(addS sec a b x).length<=(sec x).length+1:=by
 unfold addS
 split
 ·rename_i z
  subst z
  split
  ·omega
  ·simp
 ·omega
theorem zv4{n:Str}(h:n∈names):valT (zgy names names S.length) (.inr n)=some (.obj (S.length+1+names.idxOf n)):=zqd (g:=fun n=>.obj (S.length+1+names.idxOf n)) h
theorem z0t{n:Str}(h:n∉names):valT (zgy names names S.length) (.inr n)=none:=znr (g:=fun n=>.obj (S.length+1+names.idxOf n)) h
theorem zv5(n:Str):gDin (.str n) (.obj S.length) (stS S names sec)=.ok (.bl (decide (n∈names))) (stS S names sec):=by
 have d:=zsg (zqe (S:=S) (names:=names) (sec:=sec));by_cases z:n∈names
 ·simp[gDin,d,keyT,zv4 z,z]
 ·simp[gDin,d,keyT,z0t z,z]
theorem z0u{a b:Str}{ρ:Ev}{fd fk:DE}(nd:names.Nodup)(ha:a∈names)(hl:(sec a).length<=800)(h1:fd ρ (stS S names sec)=.ok (.obj (S.length+1+names.idxOf a)) (stS S names sec))(h2:fk ρ (stS S names sec)=.ok (.str b) (stS S names sec)) :
  zn3 fd fk (eC (.bl true)) ρ (stS S names sec)=.ok (.nx ρ) (stS S names (addS sec a b)):=by
 have g:=z0r (S:=S) (sec:=sec) ha;have hl2:(zbn (sec a)).length<=900:=by simp[zbn];omega
 have e:(fun n=>if n=a then(if b∈sec a then sec a else sec a++[b]) else sec n)=addS sec a b:=rfl;simp[h1,h2,keyT,g,hl2,z0s,z68 nd ha,e]
theorem zv6{a:Str}(ha:a∈names):gDix (.obj S.length) (.str a) (stS S names sec)=.ok (.obj (S.length+1+names.idxOf a)) (stS S names sec):=by
 have d:=zsg (zqe (S:=S) (names:=names) (sec:=sec));simp[gDix,d,keyT,zv4 ha]
def zdl(names:List Str)(nm:Str)(sec:Str->List Str)(o:Str):Str->List Str:=if o∈names then addS sec nm o else sec
def zej(names:List Str)(nm:Str)(sec:Str->List Str)(o:Str):Str->List Str:=if o∈names then addS sec o nm else sec
theorem zou{h:Nat}{nm:Str}{t1 t4:Option T}{st:Sto->Prop}(nd:names.Nodup)(hn:nm∈names)(hst:∀sec,st (stS S names sec)):∀(os:List Str) {sec:Str->List Str} {x5:Option T},(∀x,(sec x).length+os.length<=800) ->
  ∃x5',za0 st (zaz 5) (zch c) (os.map .str) [some (.obj h),t1,some (.obj S.length),some (.str nm),t4,x5] (stS S names sec)=.ok (.nx [some (.obj h),t1,some (.obj S.length),some (.str nm),t4,x5']) (stS S names (os.foldl (zdl names nm) sec))
 | [],sec,x5,_=>⟨x5,by
   show za0 _ _ _ [] _ _=_;unfold za0;rw[if_pos (hst _)];rfl⟩
 | o :: os,sec,x5,hl=>by
   have hb:zch c [some (.obj h),t1,some (.obj S.length),some (.str nm),t4,some (.str o)] (stS S names sec)=.ok (.nx [some (.obj h),t1,some (.obj S.length),some (.str nm),t4,some (.str o)]) (stS S names (zdl names nm sec o)):=by
    unfold zdl;have d:=zv5 (S:=S) (names:=names) (sec:=sec) o;by_cases z:o∈names
    ·have p:=z0u (S:=S) (sec:=sec) (a:=nm) (b:=o) (ρ:=[some (.obj h),t1,some (.obj S.length),some (.str nm),t4,some (.str o)]) (fd:=e2 gDix (eVar 2) (eVar 3)) (fk:=eVar 5) nd hn (by have:=hl nm;simp at this;omega) (by simp[zv6 hn]) (by simp)
     rw[if_pos z];simp only[decide_eq_true z] at d;unfold zch;rw[x_if,zan,z91,zan,x_e2,zan];simp only[zpr,List.getElem?_cons_succ,List.getElem?_cons_zero,zan,d,zz0,if_true];exact p
    ·rw[if_neg z]
     simp only[decide_eq_false z] at d;simp[zch,d]
   obtain⟨x5',e⟩:=zou (h:=h) (t1:=t1) (t4:=t4) nd hn hst os (sec:=zdl names nm sec o) (x5:=some (.str o)) (fun x=>by
    have:=hl x;rw[List.length_cons] at this;unfold zdl
    split
    ·have:=zmm (sec:=sec) (a:=nm) (b:=o) (x:=x);omega
    ·omega)
   refine⟨x5',?_⟩;show za0 _ _ _ (.str o::os.map .str) _ _=_;unfold za0;rw[if_pos (hst _)];show(M.bind (zch c [some (.obj h),t1,some (.obj S.length),some (.str nm),t4,some (.str o)]) _) _=_;rw[zan,hb];exact e
theorem znt{h:Nat}{nm:Str}{t1 t4:Option T}{st:Sto->Prop}(nd:names.Nodup)(hn:nm∈names)(hst:∀sec,st (stS S names sec)):∀(os:List Str) {sec:Str->List Str} {x5:Option T},(∀x,(sec x).length+os.length<=800) ->
  ∃x5',za0 st (zaz 5) (zci c) (os.map .str) [some (.obj h),t1,some (.obj S.length),some (.str nm),t4,x5] (stS S names sec)=.ok (.nx [some (.obj h),t1,some (.obj S.length),some (.str nm),t4,x5']) (stS S names (os.foldl (zej names nm) sec))
 | [],sec,x5,_=>⟨x5,by
   show za0 _ _ _ [] _ _=_;unfold za0;rw[if_pos (hst _)];rfl⟩
 | o :: os,sec,x5,hl=>by
   have hb:zci c [some (.obj h),t1,some (.obj S.length),some (.str nm),t4,some (.str o)] (stS S names sec)=.ok (.nx [some (.obj h),t1,some (.obj S.length),some (.str nm),t4,some (.str o)]) (stS S names (zej names nm sec o)):=by
    unfold zej;have d:=zv5 (S:=S) (names:=names) (sec:=sec) o;by_cases z:o∈names
    ·have p:=z0u (S:=S) (sec:=sec) (a:=o) (b:=nm) (ρ:=[some (.obj h),t1,some (.obj S.length),some (.str nm),t4,some (.str o)]) (fd:=e2 gDix (eVar 2) (eVar 5)) (fk:=eVar 3) nd z (by have:=hl o;simp at this;omega) (by simp[zv6 z]) (by simp)
     rw[if_pos z];simp only[decide_eq_true z] at d;unfold zci;rw[x_if,zan,z91,zan,x_e2,zan];simp only[zpr,List.getElem?_cons_succ,List.getElem?_cons_zero,zan,d,zz0,if_true];exact p
    ·rw[if_neg z]
     simp only[decide_eq_false z] at d;simp[zci,d]
   obtain⟨x5',e⟩:=znt (h:=h) (t1:=t1) (t4:=t4) nd hn hst os (sec:=zej names nm sec o) (x5:=some (.str o)) (fun x=>by
    have:=hl x;rw[List.length_cons] at this;unfold zej
    split
    ·have:=zmm (sec:=sec) (a:=o) (b:=nm) (x:=x);omega
    ·omega)
   refine⟨x5',?_⟩;show za0 _ _ _ (.str o::os.map .str) _ _=_;unfold za0;rw[if_pos (hst _)];show(M.bind (zci c [some (.obj h),t1,some (.obj S.length),some (.str nm),t4,some (.str o)]) _) _=_;rw[zan,hb];exact e
end DN
namespace DN
open PySem L2 MF
variable {c:Cl}{S:Sto}{ρ:Ev}{sec:Str->List Str}{names:List Str}
theorem zso{nm x y:Str}:∀(os:List Str) {sec:Str->List Str},y∈(os.foldl (zdl names nm) sec) x↔y∈sec x\/(x=nm/\y∈os/\y∈names)
 |[],sec=>by simp
 | o :: os,sec=>by
   rw[List.foldl_cons,zso os];unfold zdl;by_cases z:o∈names
   ·rw[if_pos z,zv3]
    constructor
    ·rintro((h | ⟨h1,h2⟩) | ⟨h1,h2,h3⟩)
     ·exact .inl h
     ·exact .inr ⟨h1,by rw[h2];simp,by rw[h2];exact z⟩
     ·exact .inr ⟨h1,List.mem_cons_of_mem _ h2,h3⟩
    ·rintro(h | ⟨h1,h2,h3⟩)
     ·exact .inl (.inl h)
     ·rcases List.mem_cons.mp h2 with h | h
      ·exact .inl (.inr ⟨h1,h⟩)
      ·exact .inr ⟨h1,h,h3⟩
   ·rw[if_neg z]
    constructor
    ·rintro(h | ⟨h1,h2,h3⟩)
     ·exact .inl h
     ·exact .inr ⟨h1,List.mem_cons_of_mem _ h2,h3⟩
    ·rintro(h | ⟨h1,h2,h3⟩)
     ·exact .inl h
     ·rcases List.mem_cons.mp h2 with h | h
      ·rw[h] at h3;exact absurd h3 z
      ·exact .inr ⟨h1,h,h3⟩
theorem zov{nm x y:Str}:∀(os:List Str) {sec:Str->List Str},y∈(os.foldl (zej names nm) sec) x↔y∈sec x\/(y=nm/\x∈os/\x∈names)
 |[],sec=>by simp
 | o :: os,sec=>by
   rw[List.foldl_cons,zov os];unfold zej;by_cases z:o∈names
   ·rw[if_pos z,zv3]
    constructor
    ·rintro((h | ⟨h1,h2⟩) | ⟨h1,h2,h3⟩)
     ·exact .inl h
     ·exact .inr ⟨h2,by rw[h1];simp,by rw[h1];exact z⟩
     ·exact .inr ⟨h1,List.mem_cons_of_mem _ h2,h3⟩
    ·rintro(h | ⟨h1,h2,h3⟩)
     ·exact .inl (.inl h)
     ·rcases List.mem_cons.mp h2 with h | h
      ·exact .inl (.inr ⟨h,h1⟩)
      ·exact .inr ⟨h1,h,h3⟩
   ·rw[if_neg z]
    constructor
    ·rintro(h | ⟨h1,h2,h3⟩)
     ·exact .inl h
     ·exact .inr ⟨h1,List.mem_cons_of_mem _ h2,h3⟩
    ·rintro(h | ⟨h1,h2,h3⟩)
     ·exact .inl h
     ·rcases List.mem_cons.mp h2 with h | h
      ·rw[h] at h3;exact absurd h3 z
      ·exact .inr ⟨h1,h,h3⟩
noncomputable def zjt(names:List Str)(sec:Str->List Str)(q:HP):Str->List Str:=q.w1.foldl (zej names q.nm) (q.w0.foldl (zdl names q.nm) sec)
theorem z0v{q:HP}{x y:Str}:y∈zjt names sec q x↔y∈sec x\/(x=q.nm/\y∈q.w0/\y∈names)\/(y=q.nm/\x∈q.w1/\x∈names):=by
 unfold zjt;rw[zov,zso,or_assoc]
theorem zow{x y:Str}:∀(qs:List HP) {sec:Str->List Str},y∈(qs.foldl (zjt names) sec) x↔y∈sec x\/∃q∈qs,(x=q.nm/\y∈q.w0/\y∈names)\/(y=q.nm/\x∈q.w1/\x∈names)
 |[],sec=>by simp
 | q :: qs,sec=>by
   rw[List.foldl_cons,zow qs,z0v,or_assoc];constructor
   ·rintro(h | h | ⟨r,hr,h⟩)
    ·exact .inl h
    ·exact .inr ⟨q,List.mem_cons_self ..,h⟩
    ·exact .inr ⟨r,List.mem_cons_of_mem _ hr,h⟩
   ·rintro(h | ⟨r,hr,h⟩)
    ·exact .inl h
    ·rcases List.mem_cons.mp hr with rfl | hr
     ·exact .inr (.inl h)
     ·exact .inr (.inr ⟨r,hr,h⟩)
theorem znu{nm x:Str}:∀(os:List Str) {sec:Str->List Str},((os.foldl (zdl names nm) sec) x).length<=(sec x).length+os.length
 |[],sec=>by simp
 | o::os,sec=>by
   have:=znu (nm:=nm) (x:=x) os (sec:=zdl names nm sec o);rw[List.foldl_cons,List.length_cons];have h2:(zdl names nm sec o x).length<=(sec x).length+1:=by
    unfold zdl
    split
    ·exact zmm
    ·omega
   omega
theorem zox{nm x:Str}:∀(os:List Str) {sec:Str->List Str},((os.foldl (zej names nm) sec) x).length<=(sec x).length+os.length
 |[],sec=>by simp
 | o::os,sec=>by
   have:=zox (nm:=nm) (x:=x) os (sec:=zej names nm sec o);rw[List.foldl_cons,List.length_cons];have h2:(zej names nm sec o x).length<=(sec x).length+1:=by
    unfold zej
    split
    ·exact zmm
    ·omega
   omega
theorem zoy{st:Sto->Prop}{h:Nat}{t1:Option T}(nd:names.Nodup)(hst:∀S',st S')(hbig:names.length<=900):∀(B A:List Str) {x3 x4 x5:Option T},names=A++B ->
  ∃x3',za0 st (zaz 3) (zc2 c) (B.map .str) [some (.obj h),t1,some (.obj S.length),x3,x4,x5] (S++.dic (zgy names A S.length)::List.replicate A.length (.dic []))=.ok (.nx [some (.obj h),t1,some (.obj S.length),x3',x4,x5]) (S++.dic (zgy names names S.length)::List.replicate names.length (.dic []))
 | [],A,x3,x4,x5,e=>⟨x3,by
   rw[List.append_nil] at e;subst e;show za0 _ _ _ [] _ _=_;unfold za0;rw[if_pos (hst _)]⟩
 | n::B,A,x3,x4,x5,e=>by
   have hA:n∉A:=fun hm=>by
    rw[e,List.nodup_append] at nd;exact nd.2.2 n hm n (List.mem_cons_self ..) rfl
   have hi:names.idxOf n=A.length:=by rw[e];exact z0q hA
   obtain⟨x3',ih⟩:=zoy (h:=h) (t1:=t1) nd hst hbig B (A++[n]) (x3:=some (.str n)) (x4:=x4) (x5:=x5) (by rw[e];simp);refine⟨x3',?_⟩;have hlen:(S++Cell.dic (zgy names A S.length)::List.replicate A.length (.dic [])).length=S.length+1+A.length:=by simp;omega
   have v:valT (zgy names A S.length) (.inr n)=none:=znr (g:=fun n=>.obj (S.length+1+names.idxOf n)) hA;have g:(S++Cell.dic (zgy names A S.length)::List.replicate A.length (.dic [])++[.dic []])[S.length]?=some (.dic (zgy names A S.length)):=by
    rw[List.append_assoc,zsi];rfl
   have big:A.length<=900:=by rw[e] at hbig;simp at hbig;omega
   have hl9:(zgy names A S.length).length<=900:=by simp[zgy];omega
   have es:(S++Cell.dic (zgy names A S.length)::List.replicate A.length (Cell.dic [])++[Cell.dic []]).set S.length (Cell.dic (zgy names A S.length++[((Sum.inr n:Key),T.obj (S.length+1+A.length))]))=S++.dic (zgy names (A++[n]) S.length)::List.replicate (A++[n]).length (.dic []):=by
    rw[List.append_assoc,zxm];congr 1;rw[List.cons_append,List.set_cons_zero];congr 1
    ·simp[zgy,hi]
    ·rw[List.length_append,List.length_singleton,List.replicate_succ']
   have hb:zc2 c [some (.obj h),t1,some (.obj S.length),some (.str n),x4,x5] (S++.dic (zgy names A S.length)::List.replicate A.length (.dic []))=.ok (.nx [some (.obj h),t1,some (.obj S.length),some (.str n),x4,x5]) (S++.dic (zgy names (A++[n]) S.length)::List.replicate (A++[n]).length (.dic [])):=by
    generalize hS1:(S++Cell.dic (zgy names A S.length)::List.replicate A.length (.dic []))=S1 at hlen g es;unfold zc2;rw[Zal,zan,z6r];simp only[zan,zpr,List.getElem?_cons_succ,List.getElem?_cons_zero,keyT,g,if_pos hl9,zkw v,hlen,es]
   show za0 _ _ _ (.str n::B.map .str) _ _=_;unfold za0;rw[if_pos (hst _)];show(M.bind (zc2 c [some (.obj h),t1,some (.obj S.length),some (.str n),x4,x5]) _) _=_;rw[zan,hb];exact ih
end DN
namespace DN
open PySem L2 MF
variable {c:Cl}{S:Sto}{ρ:Ev}{sec:Str->List Str}{names:List Str}
theorem Zcm{h:Nat}{pl:List PlM}{ps:List HP}(A:za5 c S h pl ps)(nd:names.Nodup){q:HP}(hq:q∈ps)(hn:q.nm∈names){t1 x4 x5:Option T}(hl:∀x,(sec x).length<=700)(h01:q.w0.length+q.w1.length<=20) :
  ∃x4' x5',zc3 c [some (.obj h),t1,some (.obj S.length),some (.str q.nm),x4,x5] (stS S names sec)=.ok (.nx [some (.obj h),t1,some (.obj S.length),some (.str q.nm),x4',x5']) (stS S names (zjt names sec q)):=by
 have A':∀sec,za5 c (stS S names sec) h pl ps:=fun sec=>A.app;have hm:=zg9 (m:=Str.ofString "find_piece") h (by simp) (by simp);have ef:=zgm (A' sec) (zgo A.nd hq);have P:=A.piece q hq;have i1:=zgd (zlp (names:=names) (sec:=sec) P.o);have i2:=zgd (zlp (names:=names) (sec:=q.w0.foldl (zdl names q.nm) sec) P.o);obtain⟨x5a,e1⟩:=zou (c:=c) (S:=S) (h:=h) (t1:=t1) (t4:=some (.obj q.i)) (st:=fun S'=>zam S' (.obj (q.i+1))=some (q.w0.map .str)) nd hn (fun sec=>zd4 (zlp P.a0)) q.w0 (sec:=sec) (x5:=x5) (fun x=>by have:=hl x;omega);obtain⟨x5b,e2⟩:=znt (c:=c) (S:=S) (h:=h) (t1:=t1) (t4:=some (.obj q.i)) (st:=fun S'=>zam S' (.obj (q.i+2))=some (q.w1.map .str)) nd hn (fun sec=>zd4 (zlp P.a1)) q.w1 (sec:=q.w0.foldl (zdl names q.nm) sec) (x5:=x5a) (fun x=>by have:=hl x;have:=znu (names:=names) (nm:=q.nm) (x:=x) q.w0 (sec:=sec);omega);have l1:=zd4 (zlp (names:=names) (sec:=sec) P.a0);have l2:=zd4 (zlp (names:=names) (sec:=q.w0.foldl (zdl names q.nm) sec) P.a1);have s1:sFor (iL (MF.e1 (gFld c.piece "ahead") (eVar 4))) (zaz 5) (zch c) [some (.obj h),t1,some (.obj S.length),some (.str q.nm),some (.obj q.i),x5] (stS S names sec)=.ok (.nx [some (.obj h),t1,some (.obj S.length),some (.str q.nm),some (.obj q.i),x5a]) (stS S names (q.w0.foldl (zdl names q.nm) sec)):=by
  unfold sFor;rw[zan];have:iL (MF.e1 (gFld c.piece "ahead") (eVar 4)) [some (.obj h),t1,some (.obj S.length),some (.str q.nm),some (.obj q.i),x5] (stS S names sec)=.ok (q.w0.map .str,fun S'=>zam S' (.obj (q.i+1))=some (q.w0.map .str)) (stS S names sec):=by simp[i1,zvx,l1]
  rw[this];exact e1
 have s2:sFor (iL (MF.e1 (gFld c.piece "behind") (eVar 4))) (zaz 5) (zci c) [some (.obj h),t1,some (.obj S.length),some (.str q.nm),some (.obj q.i),x5a] (stS S names (q.w0.foldl (zdl names q.nm) sec))=.ok (.nx [some (.obj h),t1,some (.obj S.length),some (.str q.nm),some (.obj q.i),x5b]) (stS S names (zjt names sec q)):=by
  unfold sFor;rw[zan];have:iL (MF.e1 (gFld c.piece "behind") (eVar 4)) [some (.obj h),t1,some (.obj S.length),some (.str q.nm),some (.obj q.i),x5a] (stS S names (q.w0.foldl (zdl names q.nm) sec))=.ok (q.w1.map .str,fun S'=>zam S' (.obj (q.i+2))=some (q.w1.map .str)) (stS S names (q.w0.foldl (zdl names q.nm) sec)):=by simp[i2,zsm,l2]
  rw[this];exact e2
 have i0:=(A' sec).ins;exact⟨some (.obj q.i),x5b,by simp[zc3,i0,hm,ef,s1,s2]⟩
theorem Zar{h:Nat}{pl:List PlM}{ps:List HP}{st:Sto->Prop}(A:za5 c S h pl ps)(nd:names.Nodup)(hst:∀S',st S'){t1:Option T}:∀(qs:List HP) {sec:Str->List Str} {x3 x4 x5:Option T},(∀q∈qs,q∈ps/\q.nm∈names/\q.w0.length+q.w1.length<=20)->(∀x,(sec x).length+20*qs.length<=700) ->
  ∃x3' x4' x5',za0 st (zaz 3) (zc3 c) ((qs.map (·.nm)).map .str) [some (.obj h),t1,some (.obj S.length),x3,x4,x5] (stS S names sec)=.ok (.nx [some (.obj h),t1,some (.obj S.length),x3',x4',x5']) (stS S names (qs.foldl (zjt names) sec))
 | [],sec,x3,x4,x5,_,_=>⟨x3,x4,x5,by
   show za0 _ _ _ [] _ _=_;unfold za0;rw[if_pos (hst _)];rfl⟩
 | q::qs,sec,x3,x4,x5,hq,hl=>by
   obtain⟨q1,q2,q3⟩:=hq q (List.mem_cons_self ..);obtain⟨y4,y5,hb⟩:=Zcm (names:=names) (sec:=sec) A nd q1 q2 (t1:=t1) (x4:=x4) (x5:=x5) (fun x=>by have:=hl x;omega) q3;obtain⟨z3,z4,z5,e⟩:=Zar A nd hst qs (t1:=t1) (sec:=zjt names sec q) (x3:=some (.str q.nm)) (x4:=y4) (x5:=y5) (fun r hr=>hq r (List.mem_cons_of_mem _ hr)) (fun x=>by
    have h1:=hl x;rw[List.length_cons] at h1;have h2:=znu (names:=names) (nm:=q.nm) (x:=x) q.w0 (sec:=sec);have h3:=zox (names:=names) (nm:=q.nm) (x:=x) q.w1 (sec:=q.w0.foldl (zdl names q.nm) sec);unfold zjt;omega)
   refine⟨z3,z4,z5,?_⟩;show za0 _ _ _ (.str q.nm::(qs.map (·.nm)).map .str) _ _=_;unfold za0;rw[if_pos (hst _)];show(M.bind (zc3 c [some (.obj h),t1,some (.obj S.length),some (.str q.nm),x4,x5]) _) _=_;rw[zan,hb];exact e
theorem zmn{α β γ:Type}{f:β->Option γ}{g:α->β}{k:α->γ}:∀{l:List α},(∀x∈l,f (g x)=some (k x))->mapO f (l.map g)=some (l.map k)
 |[],_=>rfl
 | a::r,h=>by
   rw[List.map_cons];unfold mapO;rw[h a (List.mem_cons_self ..),zmn fun x hx=>h x (List.mem_cons_of_mem _ hx)];rfl
theorem Zas:fz (stS S names sec) S.length 6 (.obj S.length)=some (secD names sec):=by
 unfold fz;rw[if_neg (by simp only[HB];omega)];simp only[zqe];unfold zgy;rw[zmn (k:=fun n=>((Sum.inr n:Key),T.dic (zbn (sec n)))) fun n hn=>?_]
 ·rfl
 ·have hg:=z0r (S:=S) (sec:=sec) hn
  have:fz (stS S names sec) S.length 5 (.obj (S.length+1+names.idxOf n))=some (.dic (zbn (sec n))):=by
   unfold fz;rw[if_neg (by simp only[HB];omega)];simp only[hg];unfold zbn;rw[zmn (k:=fun x=>((Sum.inr x:Key),T.bl true)) fun x _=>?_]
   ·rfl
   ·show(fz (stS S names sec) S.length 4 (.bl true)).map _=_
    rw[zxf (by simp)];rfl
  show(fz (stS S names sec) S.length 5 (.obj (S.length+1+names.idxOf n))).map _=_;rw[this];rfl
noncomputable def zfn(names:List Str)(qs:List HP):Str->List Str:=qs.foldl (zjt names) fun _=>[]
theorem z0w{h:Nat}{pl:List PlM}{ps qs:List HP}(A:za5 c S h pl ps)(nd:names.Nodup)(hq:qs.map (·.nm)=names)(hs:∀q∈qs,q∈ps/\q.w0.length+q.w1.length<=20)(hl:names.length<=24) :
  ze7 c [.obj h,strL names] S=.ok (secD names (zfn names qs)) S:=by
 have ql:qs.length=names.length:=by rw[<- hq];simp
 obtain⟨x3,e1⟩:=zoy (c:=c) (S:=S) (st:=fun S'=>zam S' (strL names)=some (names.map .str)) (h:=h) (t1:=some (strL names)) nd (fun _=>rfl) (by omega) names [] (x3:=none) (x4:=none) (x5:=none) rfl;have es:(S++Cell.dic (zgy names names S.length)::List.replicate names.length (.dic []))=stS S names (fun _=>[]):=by
  unfold stS;congr 2;rw[List.map_const'];rfl
 rw[es] at e1;obtain⟨y3,y4,y5,e2⟩:=Zar (c:=c) (S:=S) (names:=names) A nd (st:=fun S'=>zam S' (strL names)=some (names.map .str)) (fun _=>rfl) (t1:=some (strL names)) qs (sec:=fun _=>[]) (x3:=x3) (x4:=none) (x5:=none) (fun q h=>⟨(hs q h).1,by rw[<- hq];exact List.mem_map.mpr ⟨q,h,rfl⟩,(hs q h).2⟩) (fun x=>by show 0+20*qs.length<=700;omega);rw[hq] at e2;have s1:sFor (iL (eVar 1)) (zaz 3) (zc2 c) [some (.obj h),some (strL names),some (.obj S.length),none,none,none] (S++[.dic []])=.ok (.nx [some (.obj h),some (strL names),some (.obj S.length),x3,none,none]) (stS S names fun _=>[]):=by
  unfold sFor;simp only[zan,x_iL,zpr,List.getElem?_cons_succ,List.getElem?_cons_zero];exact e1
 have s2:sFor (iL (eVar 1)) (zaz 3) (zc3 c) [some (.obj h),some (strL names),some (.obj S.length),x3,none,none] (stS S names fun _=>[])=.ok (.nx [some (.obj h),some (strL names),some (.obj S.length),y3,y4,y5]) (stS S names (zfn names qs)):=by
  unfold sFor;simp only[zan,x_iL,zpr,List.getElem?_cons_succ,List.getElem?_cons_zero];exact e2
 have run:runD 6 (zit c) [.obj h,strL names] S=.ok (.obj S.length) (stS S names (zfn names qs)):=by
  simp[zit,s1,s2]
 unfold ze7 frzF;rw[run];have tk:(stS S names (zfn names qs)).take S.length=S:=by unfold stS;simp
 simp only[if_pos tk,Zas]
theorem zsp{qs:List HP}{x y:Str}:y∈zfn names qs x↔∃q∈qs,(x=q.nm/\y∈q.w0/\y∈names)\/(y=q.nm/\x∈q.w1/\x∈names):=by
 unfold zfn;rw[zow];simp
end DN
namespace DN
open PySem L2 MF
variable {c:Cl}{S:Sto}{ρ:Ev}{sec:Str->List Str}{names:List Str}
structure Sm2(S S':Sto)(kR kL:Nat):Prop where
 len:S'.length=S.length
 same:∀j,j≠kR->j≠kL->S'[j]?=S[j]?
theorem Sm2.refl(S:Sto)(a b:Nat):Sm2 S S a b:=⟨rfl,fun _ _ _=>rfl⟩
theorem Sm2.trans{S S1 S2:Sto}{a b:Nat}(p:Sm2 S S1 a b)(q:Sm2 S1 S2 a b):Sm2 S S2 a b:=⟨q.len.trans p.len,fun j h1 h2=>(q.same j h1 h2).trans (p.same j h1 h2)⟩
theorem z0x(row:List Str)(s:Str):T.lst (row.map .str++[.str s])=strL (row++[s]):=by simp[strL]
theorem z0y{kR kL:Nat}{start s:Str}{row re:List Str}{lo:List (List Str)}{t0 t2:Option T}(hR:S[kR]?=some (.dic (zbn re)))(hL:S[kL]?=some (.lst (lo.map strL)))(hl:re.length<=500)(hlo:lo.length<=500)(hrow:row.length<=500) :
  zar c [t0,some (.str start),t2,some (.obj kR),some (.obj kL),some (strL row),some (.str s)] S =
   if s=start then .ok (.rt (strL row)) S else if s∈re then .ok (.nx [t0,some (.str start),t2,some (.obj kR),some (.obj kL),some (strL row),some (.str s)]) S
   else .ok (.nx [t0,some (.str start),t2,some (.obj kR),some (.obj kL),some (strL row),some (.str s)]) ((S.set kR (.dic (zbn (re++[s])))).set kL (.lst ((lo++[row++[s]]).map strL))):=by
 have ne:kR≠kL:=zh3 hR hL (by intro z;cases z);have d:=zsg hR;by_cases z:s=start
 ·rw[if_pos z]
  simp[zar,z]
 ·rw[if_neg z]
  by_cases y:s∈re
  ·rw[if_pos y]
   have v:valT (zbn re) (.inr s)=some (.bl true):=by rw[zha,if_pos y]
   simp[zar,z,zfv,d,keyT,v]
  ·rw[if_neg y]
   have v:valT (zbn re) (.inr s)=none:=by rw[zha,if_neg y]
   have hl2:(zbn re).length<=900:=by simp[zbn];omega
   have hL2:(S.set kR (.dic (zbn (re++[s]))))[kL]?=some (.lst (lo.map strL)):=by rw[zab ne];exact hL
   have hok:=zgr hL2;have happ:=zn5 (y:=strL (row++[s])) hL2 (by simp;omega);have e1:lo.map strL++[strL (row++[s])]=(lo++[row++[s]]).map strL:=by simp
   rw[e1] at happ;have hadd:gAdd (strL row) (.lst [.str s]) (S.set kR (.dic (zbn (re++[s]))))=.ok (strL (row++[s])) (S.set kR (.dic (zbn (re++[s])))):=by
    have hl3:(row.map T.str).length+[T.str s].length<=1000:=by simp;omega
    show gAdd (.lst (row.map .str)) (.lst [.str s]) _=_;rw[z90,if_pos hl3,z0x]
   simp[zar,z,zfv,d,keyT,v,hR,hl2,zot re s y,hok,hadd,happ]
theorem zlq{kR kL:Nat}{start:Str}{row:List Str}{t0 t2:Option T}(hrow:row.length<=200):∀(ss re:List Str) (lo:List (List Str)) {x6:Option T} {S:Sto},S[kR]?=some (.dic (zbn re))->S[kL]?=some (.lst (lo.map strL))->re.length+ss.length<=500->lo.length+ss.length<=500 ->
  ∃ S' x6',Sm2 S S' kR kL/\(match rt1 start row ss re lo with
    |none=>za0 (fun _=>True) (zaz 6) (zar c) (ss.map .str) [t0,some (.str start),t2,some (.obj kR),some (.obj kL),some (strL row),x6] S=.ok (.rt (strL row)) S'
    |some (re',lo')=>za0 (fun _=>True) (zaz 6) (zar c) (ss.map .str) [t0,some (.str start),t2,some (.obj kR),some (.obj kL),some (strL row),x6] S=.ok (.nx [t0,some (.str start),t2,some (.obj kR),some (.obj kL),some (strL row),x6']) S'/\S'[kR]?=some (.dic (zbn re'))/\S'[kL]?=some (.lst (lo'.map strL)))
 | [],re,lo,x6,S,hR,hL,_,_=>⟨S,x6,Sm2.refl _ _ _,by
   show za0 _ _ _ [] _ S=_/\_;unfold za0;rw[if_pos trivial];exact⟨rfl,hR,hL⟩⟩
 | s :: ss,re,lo,x6,S,hR,hL,h1,h2=>by
   have ne:kR≠kL:=zh3 hR hL (by intro z;cases z);rw[List.length_cons] at h1 h2;have hb:=z0y (c:=c) (start:=start) (s:=s) (row:=row) (t0:=t0) (t2:=t2) hR hL (by omega) (by omega) (by omega);have un:za0 (fun _=>True) (zaz 6) (zar c) ((s::ss).map .str) [t0,some (.str start),t2,some (.obj kR),some (.obj kL),some (strL row),x6] S=M.bind (zar c [t0,some (.str start),t2,some (.obj kR),some (.obj kL),some (strL row),some (.str s)]) (fun x=>match x with
    |.nx ρ2=>za0 (fun _=>True) (zaz 6) (zar c) (ss.map .str) ρ2
    |.ct ρ2=>za0 (fun _=>True) (zaz 6) (zar c) (ss.map .str) ρ2
    |.bk ρ2=>M.pure (.nx ρ2)
    |.rt t=>M.pure (.rt t)) S:=by
    show za0 _ _ _ (.str s::ss.map .str) _ S=_
    conv=>lhs;unfold za0
    rw[if_pos trivial];rfl
   rw[un,zan];unfold rt1;by_cases z:s=start
   ·rw[if_pos z]
    rw[if_pos z] at hb;refine⟨S,x6,Sm2.refl _ _ _,?_⟩;rw[hb];rfl
   ·rw[if_neg z]
    rw[if_neg z] at hb;by_cases y:s∈re
    ·rw[if_pos y]
     rw[if_pos y] at hb;obtain⟨S',x6',sm,e⟩:=zlq hrow ss re lo (x6:=some (.str s)) hR hL (by omega) (by omega);refine⟨S',x6',sm,?_⟩;rw[hb];exact e
    ·rw[if_neg y]
     rw[if_neg y] at hb;have hR2:((S.set kR (.dic (zbn (re++[s])))).set kL (.lst ((lo++[row++[s]]).map strL)))[kR]?=some (.dic (zbn (re++[s]))):=by rw[zab (Ne.symm ne)];exact zbq hR
     have hL2:((S.set kR (.dic (zbn (re++[s])))).set kL (.lst ((lo++[row++[s]]).map strL)))[kL]?=some (.lst ((lo++[row++[s]]).map strL)):=zbq (u:=.lst (lo.map strL)) (by rw[zab ne];exact hL);have sm1:Sm2 S ((S.set kR (.dic (zbn (re++[s])))).set kL (.lst ((lo++[row++[s]]).map strL))) kR kL:=⟨by simp,fun j h1 h2=>by rw[zab (Ne.symm h2),zab (Ne.symm h1)]⟩;obtain⟨S',x6',sm,e⟩:=zlq hrow ss (re++[s]) (lo++[row++[s]]) (x6:=some (.str s)) hR2 hL2 (by simp;omega) (by simp;omega);refine⟨S',x6',sm1.trans sm,?_⟩;rw[hb];exact e
theorem z69{row:List Str}(h:row≠[]):gIx (strL row) (.int (-1)) S=.ok (.str (zjb row)) S:=by
 obtain⟨A,x,rfl⟩:∃A x,row=A++[x]:=⟨row.dropLast,row.getLast h,(List.dropLast_concat_getLast h).symm⟩;have:atI ((A++[x]).map T.str) (-1)=some (.str x):=by
  have hl:((A++[x]).map T.str).length=A.length+1:=by simp
  have hi:ixN (A.length+1) (-1)=some A.length:=by
   unfold ixN;rw[if_neg (by decide),if_pos (by omega)];congr 1;omega
  unfold atI;rw[hl,hi];simp
 rw[zsn];show gIx (.lst ((A++[x]).map T.str)) (.int (-1)) S=_;rw[Zca,this]
end DN
namespace DN
open PySem L2 MF
variable {c:Cl}{S:Sto}{ρ:Ev}{sec:Str->List Str}{names:List Str}
theorem z0z(l:List Str):(zbn l).map (fun p=>kT p.1)=l.map T.str:=by simp[zbn,kT]
structure SecOk(names:List Str)(sec:Str->List Str):Prop where
 sub:∀a∈names,∀b∈sec a,b∈names
 len:∀a∈names,(sec a).length<=200
 few:names.length<=100
theorem ReOk.few{re:List Str}(h:ReOk names re)(k:SecOk names sec):re.length<=100:=Nat.le_trans (zh5 re names h.nd h.sub) k.few
theorem zoz{kR kL:Nat}{start:Str}{t2:Option T}{st:Sto->Prop}(ok:SecOk names sec):∀(rows:List (List Str)) (re:List Str) (lo:List (List Str)) {x5 x6:Option T} {S:Sto},S[kR]?=some (.dic (zbn re))->S[kL]?=some (.lst (lo.map strL))->ReOk names re->(∀r∈rows,zjj names re r)->(∀r∈lo,zjj names re r)->lo.length<=re.length->(∀S',Sm2 S S' kR kL->st S') ->
  ∃ S' x5' x6',Sm2 S S' kR kL/\(match rt2 sec start rows re lo with
    |.error row=>za0 st (zaz 5) (zat c) (rows.map strL) [some (secD names sec),some (.str start),t2,some (.obj kR),some (.obj kL),x5,x6] S=.ok (.rt (strL row)) S'
    |.ok (re',lo')=>za0 st (zaz 5) (zat c) (rows.map strL) [some (secD names sec),some (.str start),t2,some (.obj kR),some (.obj kL),x5,x6] S=.ok (.nx [some (secD names sec),some (.str start),t2,some (.obj kR),some (.obj kL),x5',x6']) S'/\S'[kR]?=some (.dic (zbn re'))/\S'[kL]?=some (.lst (lo'.map strL)))
 | [],re,lo,x5,x6,S,hR,hL,_,_,_,_,hst=>⟨S,x5,x6,Sm2.refl _ _ _,by
   show za0 _ _ _ [] _ S=_/\_;unfold za0;rw[if_pos (hst S (Sm2.refl _ _ _))];exact⟨rfl,hR,hL⟩⟩
 | row::rows,re,lo,x5,x6,S,hR,hL,h1,h2,h3,h4,hst=>by
   have hr:=h2 row (List.mem_cons_self ..);have hlast:=hr.sub _ (zv0 hr.ne);have f1:=h1.few ok;have f2:=ok.len _ hlast;obtain⟨S1,y6,sm1,e1⟩:=zlq (c:=c) (kR:=kR) (kL:=kL) (start:=start) (row:=row) (t0:=some (secD names sec)) (t2:=t2) (by have:=hr.len;omega) (sec (zjb row)) re lo (x6:=x6) hR hL (by omega) (by omega);have un:za0 st (zaz 5) (zat c) ((row::rows).map strL) [some (secD names sec),some (.str start),t2,some (.obj kR),some (.obj kL),x5,x6] S=M.bind (zat c [some (secD names sec),some (.str start),t2,some (.obj kR),some (.obj kL),some (strL row),x6]) (fun x=>match x with
    |.nx ρ2=>za0 st (zaz 5) (zat c) (rows.map strL) ρ2
    |.ct ρ2=>za0 st (zaz 5) (zat c) (rows.map strL) ρ2
    |.bk ρ2=>M.pure (.nx ρ2)
    |.rt t=>M.pure (.rt t)) S:=by
    show za0 _ _ _ (strL row::rows.map strL) _ S=_
    conv=>lhs;unfold za0
    rw[if_pos (hst S (Sm2.refl _ _ _))];rfl
   have hb:zat c [some (secD names sec),some (.str start),t2,some (.obj kR),some (.obj kL),some (strL row),x6] S=za0 (fun _=>True) (zaz 6) (zar c) ((sec (zjb row)).map .str) [some (secD names sec),some (.str start),t2,some (.obj kR),some (.obj kL),some (strL row),x6] S:=by
    have hi:iK (e2 gDix (eVar 0) (e2 gIx (eVar 5) (MF.e1 gNeg (eC (.int 1))))) [some (secD names sec),some (.str start),t2,some (.obj kR),some (.obj kL),some (strL row),x6] S=.ok ((sec (zjb row)).map .str,fun _=>True) S:=by
     have hd:=z0o (S:=S) (sec:=sec) hlast;have ha:=z69 (S:=S) hr.ne;unfold iK;rw[zan,x_e2,zan];simp only[zpr,List.getElem?_cons_zero,zan,x_e2,List.getElem?_cons_succ,x_e1,x_c,gNeg,ha,hd,z0z]
    unfold zat sFor;rw[zan,hi]
   rw[un,zan,hb];unfold rt2;cases q:rt1 start row (sec (zjb row)) re lo with
   | none=>
     rw[q] at e1;refine⟨S1,x5,y6,sm1,?_⟩;simp only at e1 ⊢;rw[e1];rfl
   | some p=>
     obtain⟨re1,lo1⟩:=p;rw[q] at e1;simp only at e1;obtain⟨e1,g1,g2⟩:=e1;obtain⟨a1,a2,a3,⟨u,a4⟩,_,_,_⟩:=zv1 _ re lo (ok.sub _ hlast) h1 hr h3 h4 re1 lo1 q;have le1:re.length<=re1.length:=by rw[a4];simp
     obtain⟨S2,z5,z6,sm2,e2⟩:=zoz ok rows re1 lo1 (x5:=some (strL row)) (x6:=y6) (t2:=t2) (start:=start) (S:=S1) g1 g2 a1 (fun r hr=>(h2 r (List.mem_cons_of_mem _ hr)).mono le1) a2 a3 (fun S' h=>hst S' (sm1.trans h));refine⟨S2,z5,z6,sm1.trans sm2,?_⟩;rw[e1];exact e2
theorem znv{t:T}{ts:List T}(h:zam S t=some ts):truM t S=.ok (!ts.isEmpty) S:=by
 cases t with
 |lst us=>cases h;rfl
 | obj k=>
   have:zd0 S (.obj k)=some ts:=h;unfold truM;simp[this]
 |_=>simp[zam] at h
theorem zo0{kR:Nat}{start:Str}(ok:SecOk names sec):∀(n:Nat) (rows:List (List Str)) (re:List Str) (m:Nat) {tR:T} {x4 x5 x6:Option T} {S:Sto},n+1<=m->names.length+2<=n+re.length->S[kR]?=some (.dic (zbn re))->(∀S',(∀j,j<S.length->j≠kR->S'[j]?=S[j]?)->zam S' tR=some (rows.map strL))->ReOk names re->(∀r∈rows,zjj names re r) ->
  ∃S' ρ',zbs (za1 c) (zau c) m [some (secD names sec),some (.str start),some tR,some (.obj kR),x4,x5,x6] S=(if rt3 sec start n rows re=[] then .ok (.nx ρ') S' else .ok (.rt (strL (rt3 sec start n rows re))) S')/\(∀j,j<kR->S'[j]?=S[j]?)/\S.length<=S'.length
 | 0,rows,re,m,tR,x4,x5,x6,S,_,hf,_,_,h1,_=>by
   have:=zh5 re names h1.nd h1.sub;omega
 |n+1,rows,re,0,tR,x4,x5,x6,S,hm,_,_,_,_,_=>by omega
 | n + 1, rows,re,m+1,tR,x4,x5,x6,S,hm,hf,hR,hT,h1,h2=>by
   have hl:=hT S fun _ _ _=>rfl;have kR_lt:=(List.getElem?_eq_some_iff.mp hR).1;have hw:za1 c [some (secD names sec),some (.str start),some tR,some (.obj kR),x4,x5,x6] S=.ok (!rows.isEmpty) S:=by
    simp[za1,znv hl]
   have un:zbs (za1 c) (zau c) (m+1) [some (secD names sec),some (.str start),some tR,some (.obj kR),x4,x5,x6] S=if(!rows.isEmpty)=true then M.bind (zau c [some (secD names sec),some (.str start),some tR,some (.obj kR),x4,x5,x6]) (fun x=>match x with
    |.nx ρ2=>zbs (za1 c) (zau c) m ρ2
    |.ct ρ2=>zbs (za1 c) (zau c) m ρ2
    |.bk ρ2=>M.pure (.nx ρ2)
    |.rt t=>M.pure (.rt t)) S else .ok (.nx [some (secD names sec),some (.str start),some tR,some (.obj kR),x4,x5,x6]) S:=by
    conv=>lhs;unfold zbs
    rw[zan,hw];simp only
    split<;>rfl
   rw[un];unfold rt3;by_cases z:rows=[]
   ·subst z
    exact⟨S,[some (secD names sec),some (.str start),some tR,some (.obj kR),x4,x5,x6],by simp,fun _ _=>rfl,Nat.le_refl _⟩
   ·have z':rows.isEmpty=false:=by simpa using z
    simp only[z',Bool.not_false,if_true,if_neg z];rw[zan];have hL:(S++[Cell.lst []])[S.length]?=some (.lst (([]:List (List Str)).map strL)):=zdk;have hR':(S++[Cell.lst []])[kR]?=some (.dic (zbn re)):=zb0 hR;have stq:∀S',Sm2 (S++[Cell.lst []]) S' kR S.length->zam S' tR=some (rows.map strL):=fun S' sm=>hT S' fun j hj hne=>by
     rw[sm.same j hne (by omega),List.getElem?_append_left hj]
    obtain⟨S1,y5,y6,sm,e⟩:=zoz (c:=c) (kR:=kR) (kL:=S.length) (start:=start) (t2:=some tR) (st:=fun S'=>zam S' tR=some (rows.map strL)) ok rows re [] (x5:=x5) (x6:=x6) (S:=S++[.lst []]) hR' hL h1 h2 (by intro r hr;cases hr) (Nat.zero_le _) stq;have keep1:∀j,j<kR->S1[j]?=S[j]?:=fun j hj=>by rw[sm.same j (by omega) (by omega),List.getElem?_append_left (by omega)]
    have len1:S1.length=S.length+1:=by rw[sm.len];simp
    have hfor:sFor (iL (eVar 2)) (zaz 5) (zat c) [some (secD names sec),some (.str start),some tR,some (.obj kR),some (.obj S.length),x5,x6] (S++[.lst []])=za0 (fun S'=>zam S' tR=some (rows.map strL)) (zaz 5) (zat c) (rows.map strL) [some (secD names sec),some (.str start),some tR,some (.obj kR),some (.obj S.length),x5,x6] (S++[.lst []]):=by
     have:=stq _ (Sm2.refl _ _ _);unfold sFor;simp[this]
    cases q:rt2 sec start rows re [] with
    | error row=>
      rw[q] at e;have hb:zau c [some (secD names sec),some (.str start),some tR,some (.obj kR),x4,x5,x6] S=.ok (.rt (strL row)) S1:=by
       simp[zau,hfor,e]
      have hne:=(h2 row (zqc _ _ _ q)).ne;refine⟨S1,[],?_,keep1,by omega⟩;rw[hb,if_neg hne];rfl
    | ok p=>
      obtain⟨re',lo⟩:=p;rw[q] at e;obtain⟨e,g1,g2⟩:=e;have hb:zau c [some (secD names sec),some (.str start),some tR,some (.obj kR),x4,x5,x6] S=.ok (.nx [some (secD names sec),some (.str start),some (.obj S.length),some (.obj kR),some (.obj S.length),y5,y6]) S1:=by
       simp[zau,hfor,e]
      obtain⟨a1,a2,a3,⟨u,a4⟩,⟨v,a5,a5'⟩,_,_⟩:=zv2 ok.sub rows re [] h1 h2 (by intro r hr;cases hr) (Nat.zero_le _) re' lo q;rw[List.nil_append] at a5;have hT1:∀S',(∀j,j<S1.length->j≠kR->S'[j]?=S1[j]?)->zam S' (.obj S.length)=some (lo.map strL):=fun S' h=>zd4 (by rw[h S.length (by omega) (by omega)];exact g2);rw[hb];rcases a5' with y | y
      ·rw [y] at a5
       subst a5;have r0:rt3 sec start n [] re'=[]:=by cases n<;>simp[rt3]
       have hl1:=hT1 S1 fun _ _ _=>rfl;cases m with
       |zero=>omega
       | succ m=>
         refine⟨S1,[some (secD names sec),some (.str start),some (.obj S.length),some (.obj kR),some (.obj S.length),y5,y6],?_,keep1,by omega⟩;rw[if_pos r0];show zbs _ _ (m+1) _ S1=_;unfold zbs;have hw1:za1 c [some (secD names sec),some (.str start),some (.obj S.length),some (.obj kR),some (.obj S.length),y5,y6] S1=.ok false S1:=by
          simp[za1,znv hl1]
         rw[zan,hw1];rfl
      ·obtain⟨S2,ρ2,w1,w2,w3⟩:=zo0 ok n lo re' m (tR:=.obj S.length) (x4:=some (.obj S.length)) (x5:=y5) (x6:=y6) (S:=S1) (start:=start) (kR:=kR) (by omega) (by omega) g1 hT1 a1 a2
       exact⟨S2,ρ2,w1,fun j hj=>(w2 j hj).trans (keep1 j hj),by omega⟩
end DN
namespace DN
open PySem L2 MF
variable {c:Cl}{S:Sto}{ρ:Ev}{sec:Str->List Str}{names:List Str}
def zdw(sec:Str->List Str)(names:List Str)(start:Str):List Str:=rt3 sec start (names.length+1) [[start]] [start]
theorem zqf{start:Str}(h:start∈names):ReOk names [start]/\∀r∈[[start]],zjj names [start] r:=by
 refine⟨⟨by simp,fun x hx=>by rw[List.mem_singleton.mp hx];exact h⟩,fun r hr=>?_⟩;rw[List.mem_singleton.mp hr];exact⟨by simp,fun x hx=>by rw[List.mem_singleton.mp hx];exact h,Nat.le_refl _⟩
theorem z7a{start:Str}(ok:SecOk names sec)(h:start∈names)(hp:Path sec start start):zdw sec names start≠[]:=by
 obtain⟨a,b⟩:=zqf h;refine z4t ok.sub hp (names.length+1) [[start]] [start] (by simp) a b (by simp) fun u hu=>.inr ⟨[start],by simp,?_⟩;rw[List.mem_singleton.mp hu];rfl
theorem z3e{start:Str}(ok:SecOk names sec)(h:start∈names):(∀x∈zdw sec names start,x∈names)/\(zdw sec names start).length<=names.length:=by
 obtain⟨a,b⟩:=zqf h;exact z0m ok.sub _ _ _ a b
theorem z00{S S':Sto}(h:∀j,j<S.length->S'[j]?=S[j]?)(hl:S.length<=S'.length):S'.take S.length=S:=by
 apply List.ext_getElem?;intro j;rw[List.getElem?_take];by_cases z:j<S.length
 ·rw[if_pos z];exact h j z
 ·rw[if_neg z,List.getElem?_eq_none (by omega)]
theorem Zat{start:Str}(ok:SecOk names sec)(hs:start∈names):ze1 c [secD names sec,.str start] S=.ok (strL (zdw sec names start)) S:=by
 obtain⟨a,b⟩:=zqf hs;have hd:zvu (eVar 1) (eC (.bl true)) [some (secD names sec),some (.str start),some (.lst [.lst [.str start]]),none,none,none,none] S=.ok (.obj S.length) (S++[.dic (zbn [start])]):=by
  simp[zvu,keyT,zbn,zxm]
 have few:=ok.few;obtain⟨S',ρ',e,k1,k2⟩:=zo0 (c:=c) (kR:=S.length) (start:=start) ok (names.length+1) [[start]] [start] 1000 (tR:=.lst [.lst [.str start]]) (x4:=none) (x5:=none) (x6:=none) (S:=S++[.dic (zbn [start])]) (by omega) (by simp) zdk (fun _ _=>rfl) a b;have keep:∀j,j<S.length->S'[j]?=S[j]?:=fun j hj=>by rw[k1 j hj,List.getElem?_append_left hj]
 have hl:S.length<=S'.length:=by simp at k2;omega
 have e':zh8 (za1 c) (zau c) [some (secD names sec),some (.str start),some (.lst [.lst [.str start]]),some (.obj S.length),none,none,none] (S++[.dic (zbn [start])])=_:=e;have run:runD 7 (ze0 c) [secD names sec,.str start] S=.ok (strL (zdw sec names start)) S':=by
  by_cases z:zdw sec names start=[]
  ·have z':rt3 sec start (names.length+1) [[start]] [start]=[]:=z
   rw[if_pos z'] at e';rw[z];simp[ze0,hd,e',strL]
  ·have z':¬rt3 sec start (names.length+1) [[start]] [start]=[]:=z
   rw[if_neg z'] at e';simp[ze0,hd,e'];rfl
 exact zkm run (z00 keep hl) (zz3 _)
theorem z01:∀(ls:List Nat),ls≠[]->∃i,zna ls i
 |[],h=>absurd rfl h
 | [n],_=>⟨0,n,rfl,fun j k e=>by
   cases j with
   |zero=>simp at e;subst e;exact⟨Nat.le_refl _,fun h=>absurd h (Nat.lt_irrefl _)⟩
   |succ j=>simp at e⟩
 | n::m::r,_=>by
   obtain⟨i,k,ek,hk⟩:=z01 (m::r) (by simp);by_cases z:k<n
   ·refine⟨i+1,k,by simpa using ek,fun j u eu=>?_⟩
    cases j with
    |zero=>simp at eu;subst eu;exact⟨by omega,fun _=>z⟩
    | succ j=>
      have:=hk j u (by simpa using eu);exact⟨this.1,fun h=>this.2 (by omega)⟩
   ·refine⟨0,n,rfl,fun j u eu=>?_⟩
    cases j with
    |zero=>simp at eu;subst eu;exact⟨Nat.le_refl _,fun h=>absurd h (Nat.lt_irrefl _)⟩
    | succ j=>
      have:=hk j u (by simpa using eu);exact⟨by omega,fun h=>absurd h (Nat.not_lt_zero _)⟩
structure zqg(sec:Str->List Str)(names ring:List Str):Prop where
 ne:ring≠[]
 of:∃n∈names,ring=zdw sec names n
 min:∀n∈names,zdw sec names n≠[]->ring.length<=(zdw sec names n).length
theorem zxp(ok:SecOk names sec)(hex:∃n∈names,zdw sec names n≠[]):∃ring,zdb c [secD names sec] S=.ok (strL ring) S/\zqg sec names ring:=by
 have few:=ok.few;have hk:zcr c [some (secD names sec),none] S=.ok (names.map .str,fun _=>True) S:=by
  have:(names.map fun n=>((Sum.inr n:Key),T.dic (zbn (sec n)))).map (fun p=>kT p.1)=names.map T.str:=by simp[kT]
  simp[zcr,iK,secD,kT]
 have c1:=zkl (ρ:=[some (secD names sec),none]) (S:=S) (js:=[0]) (it:=zcr c) (te:=zdh c) (ts:=names.map .str) (st:=fun _=>True) (f:=fun t=>match t with|.str n=>strL (zdw sec names n) | _=>.non) hk trivial (by simp;omega) (fun t ht=>by
  obtain⟨n,hn,rfl⟩:=List.mem_map.mp ht;simp[zdh,Zat ok hn])
 rw[List.map_map] at c1;have c1:zek 1 [0] (zcr c) (zaz 0) yesD (zdh c) finF [some (secD names sec),none] S=.ok (.lst (names.map fun n=>strL (zdw sec names n))) S:=c1;have c2:=zg0 (ρ:=[some (secD names sec),some (.lst (names.map fun n=>strL (zdw sec names n)))]) (S:=S) (js:=[]) (it:=zep c) (tc:=zeq c) (te:=zeo c) (ts:=names.map fun n=>strL (zdw sec names n)) (st:=fun S'=>zam S' (.lst (names.map fun n=>strL (zdw sec names n)))=some (names.map fun n=>strL (zdw sec names n)))
  (p:=fun t=>match t with|.lst us=>!us.isEmpty | _=>false) (f:=fun t=>t) (by simp[zep]) rfl (by simp;omega) (fun t ht=>by
   obtain⟨n,hn,rfl⟩:=List.mem_map.mp ht;simp[zeq,strL]) (fun t ht _=>by simp[zeo])
 have ef:((names.map fun n=>strL (zdw sec names n)).filter (fun t=>match t with|.lst us=>!us.isEmpty | _=>false)).map (fun t=>t)=((names.map (zdw sec names)).filter fun r=>!r.isEmpty).map strL:=by
  rw[List.map_id',List.filter_map,List.filter_map,List.map_map];congr 1;refine List.filter_congr fun n _=>?_;simp[strL]
 rw[ef] at c2;generalize hrs:((names.map (zdw sec names)).filter fun r=>!r.isEmpty)=rs at c2;have mem:∀r∈rs,r≠[]/\∃n∈names,r=zdw sec names n:=fun r hr=>by
  rw[<- hrs] at hr;obtain⟨h1,h2⟩:=List.mem_filter.mp hr;obtain⟨n,hn,rfl⟩:=List.mem_map.mp h1;exact⟨by simpa using h2,n,hn,rfl⟩
 have rne:rs≠[]:=by
  obtain⟨n,hn,h⟩:=hex;intro z;have:zdw sec names n∈rs:=by rw[<- hrs];exact List.mem_filter.mpr ⟨List.mem_map.mpr ⟨n,hn,rfl⟩,by simpa using h⟩
  rw[z] at this;cases this
 have hlens:z22 S (rs.map strL)=some (rs.map List.length):=by
  unfold z22;exact zmn (k:=List.length) fun r _=>by simp[strL]
 have hbest:=z01 (rs.map List.length) (by simpa using rne);have hm:∃ring∈rs,gMin (.lst (rs.map strL)) S=.ok (strL ring) S/\∀r∈rs,ring.length<=r.length:=by
  obtain⟨n,en,hmin⟩:=hbest.choose_spec;rw[List.getElem?_map] at en;obtain⟨ring,er,el⟩:=Option.map_eq_some_iff.mp en;refine⟨ring,List.mem_of_getElem? er,?_,fun r hr=>?_⟩
  case refine_2=>
   obtain⟨j,hj,e⟩:=List.getElem_of_mem hr;have:=(hmin j r.length (by rw[List.getElem?_map,List.getElem?_eq_getElem hj,e];rfl)).1;omega
  have e2:(rs.map strL)[hbest.choose]?=some (strL ring):=by rw[List.getElem?_map,er];rfl
  unfold gMin;simp only[zz1,hlens,dif_pos hbest,e2]
 obtain⟨ring,hr,em,hmn⟩:=hm;refine⟨ring,?_,(mem ring hr).1,(mem ring hr).2,fun n hn h=>hmn _ (by rw[<- hrs];exact List.mem_filter.mpr ⟨List.mem_map.mpr ⟨n,hn,rfl⟩,by simpa using h⟩)⟩;simp[zdb,ziu,c1,c2,em]
end DN
namespace DN
open PySem L2 MF
variable {c:Cl}{S:Sto}{ρ:Ev}{sec:Str->List Str}{names:List Str}
theorem zv7:∀(zs:List Str),(∀z∈zs,(reprText z).length<=30)->((PyData.shownAll (zs.map PyData.str)).map (·.length)).sum<=30*zs.length/\(PyData.shownAll (zs.map PyData.str)).length=zs.length
 |[],_=>by simp[PyData.shownAll]
 | z::zs,h=>by
   obtain⟨a,b⟩:=zv7 zs fun x hx=>h x (List.mem_cons_of_mem _ hx);have:=h z (List.mem_cons_self ..);simp only[List.map_cons,PyData.shownAll,PyData.shown,List.sum_cons,List.length_cons];omega
theorem zuk{zs:List Str}(h:∀z∈zs,(reprText z).length<=30)(hl:zs.length<=24):(PyData.shown (.list (zs.map PyData.str))).length<=800:=by
 obtain⟨a,b⟩:=zv7 zs h;have:=listText_len_le (PyData.shownAll (zs.map PyData.str));simp only[PyData.shown];omega
theorem z7b{x:Str}{A B:List Str}(h:x∉A):idxF (.str x) ((A++x::B).map T.str)=some A.length:=by
 have go:∀(A B:List Str),x∉A->((A++x::B).map V.str).findIdx? (fun y=>eqV y (.str x))=some A.length:=by
  intro A
  induction A with
  | nil=>
    intro B _;rw[List.nil_append,List.map_cons,List.findIdx?_cons];simp[eqV]
  | cons a A ih=>
    intro B h;have h1:a≠x:=fun e=>h (by simp[e]);have:=ih B fun z=>h (List.mem_cons_of_mem _ z);rw[List.cons_append,List.map_cons,List.findIdx?_cons,this];simp[eqV,h1]
 unfold idxF;rw[zhj];simp only[toV];rw[if_pos (by rw[zk4];rfl),go A B h]
theorem zv8{k:Nat}{left:List Str}{x:Str}(hk:S[k]?=some (.lst (left.map .str)))(hx:x∈left)(hl:left.length<=1000):zj1 (.obj k) [.str x] S=.ok .non (S.set k (.lst ((left.erase x).map .str))):=by
 obtain⟨A,B,rfl,hA⟩:=List.eq_append_cons_of_mem hx;have e1:(A++x::B).erase x=A++B:=by rw[List.erase_append_right _ hA,List.erase_cons_head]
 have e2:((A++x::B).map T.str).eraseIdx A.length=(A++B).map T.str:=by
  rw[List.map_append,List.map_cons,List.eraseIdx_append_of_length_le (by simp),List.length_map,Nat.sub_self,List.eraseIdx_cons_zero,List.map_append]
 have hl2:((A++x::B).map T.str).length<=1000:=by rw[List.length_map];exact hl
 unfold zj1;simp only[cellL,hk,z7b hA,if_pos hl2,e2,e1]
structure z02(names:List Str)(sec:Str->List Str):Prop extends SecOk names sec where
 sm:∀x∈names,(reprText x).length<=30
 f17:names.length<=24
theorem znw{kl kr h:Nat}{t1:Option T}(ok:z02 names sec):∀(n:Nat) (left row:List Str) (m:Nat) {x5:Option T} {S:Sto},left.length=n->n+1<=m->left.Nodup->(∀x∈left,x∈names)->S[kl]?=some (.lst (left.map .str))->S[kr]?=some (.lst (row.map .str))->kl≠kr->row.length+n<=900 ->
  (∀res,topo sec n left row=some res->∃S' x5',zbs (za2 c) (zav c) m [some (.obj h),t1,some (secD names sec),some (.obj kl),some (.obj kr),x5] S=.ok (.nx [some (.obj h),t1,some (secD names sec),some (.obj kl),some (.obj kr),x5']) S'/\S'[kr]?=some (.lst (res.map .str))/\Sm2 S S' kl kr) /\
  (topo sec n left row=none->∃S' ring,zbs (za2 c) (zav c) m [some (.obj h),t1,some (secD names sec),some (.obj kl),some (.obj kr),x5] S=.exc c.ring (some [("ring",strL ring)]) S'/\Sm2 S S' kl kr/\zqg sec names ring)
 |n,left,row,0,x5,S,_,hm,_,_,_,_,_,_=>by omega
 | 0,left,row,m+1,x5,S,hl,_,_,_,hkl,hkr,ne,_=>by
   have:left=[]:=List.eq_nil_of_length_eq_zero hl;subst this;have hw:za2 c [some (.obj h),t1,some (secD names sec),some (.obj kl),some (.obj kr),x5] S=.ok false S:=by
    simp[za2,znv (zd4 hkl)]
   refine⟨fun res e=>?_,fun e=>by cases e⟩;cases e;refine⟨S,x5,?_,hkr,Sm2.refl _ _ _⟩;unfold zbs;rw[zan,hw];rfl
 | n + 1,left,row,m+1,x5,S,hl,hm,nd,hsub,hkl,hkr,ne,hr=>by
   have hlne:left≠[]:=fun e=>by rw[e] at hl;simp at hl
   have hw:za2 c [some (.obj h),t1,some (secD names sec),some (.obj kl),some (.obj kr),x5] S=.ok true S:=by
    have:(left.map T.str).isEmpty=false:=by simpa using hlne
    simp[za2,znv (zd4 hkl),this,hlne]
   have un:zbs (za2 c) (zav c) (m+1) [some (.obj h),t1,some (secD names sec),some (.obj kl),some (.obj kr),x5] S=M.bind (zav c [some (.obj h),t1,some (secD names sec),some (.obj kl),some (.obj kr),x5]) (fun x=>match x with
    |.nx ρ2=>zbs (za2 c) (zav c) m ρ2
    |.ct ρ2=>zbs (za2 c) (zav c) m ρ2
    |.bk ρ2=>M.pure (.nx ρ2)
    |.rt t=>M.pure (.rt t)) S:=by
    conv=>lhs;unfold zbs
    rw[zan,hw];rfl
   rw[un,zan];have f100:=ok.few;have llen:=zh5 left names nd hsub;have ef:=zxo (c:=c) (sec:=sec) hkl hsub (by omega);unfold topo;cases q:left.find? (zck sec left) with
   | none=>
     rw[q] at ef;have hall:∀x∈left,∃f∈left,x∈sec f:=fun x hx=>by
      have:=List.find?_eq_none.mp q x hx;unfold zck at this;simpa using this
     obtain⟨s,hs,hp⟩:=zxn hlne hall;obtain⟨ring,er,sh⟩:=zxp (c:=c) (S:=S) ok.toSecOk ⟨s,hsub s hs,z7a ok.toSecOk (hsub s hs) hp⟩;obtain⟨n0,hn0,hring⟩:=sh.of;obtain⟨rs1,rs2⟩:=z3e ok.toSecOk hn0;rw[<- hring] at rs1 rs2;have hsh:=zuk (zs:=ring) (fun z hz=>ok.sm z (rs1 z hz)) (by have:=ok.f17;omega);have hcond:ring.length<=1000/\(PyData.shown (.list (ring.map PyData.str))).length<=800:=⟨by have:=ok.f17;omega,hsh⟩;refine⟨fun res e=>(by cases e),fun _=>⟨S,ring,?_,Sm2.refl _ _ _,sh⟩⟩;have hb:zav c [some (.obj h),t1,some (secD names sec),some (.obj kl),some (.obj kr),x5] S=.exc c.ring (some [("ring",strL ring)]) S:=by
      have hss:((zam S (strL ring)).bind zh7)=some ring:=by simp[strL,zjg]
      simp only[strL] at hss;simp[zav,ef,gIs,zgq,zpw,er,strL,hss,zjg,hcond]
     rw[hb]
   | some x=>
     rw[q] at ef;have hx:=List.mem_of_find?_eq_some q;have hrem:=zv8 hkl hx (by omega);have hkr2:(S.set kl (.lst ((left.erase x).map .str)))[kr]?=some (.lst (row.map .str)):=by rw[zab ne];exact hkr
     have happ:=zn5 (y:=.str x) hkr2 (by simp;omega);have e1:row.map T.str++[T.str x]=(row++[x]).map .str:=by simp
     rw[e1] at happ;have hok1:=zgr hkl;have hok2:=zgr hkr2;have hb:zav c [some (.obj h),t1,some (secD names sec),some (.obj kl),some (.obj kr),x5] S=.ok (.nx [some (.obj h),t1,some (secD names sec),some (.obj kl),some (.obj kr),some (.str x)]) ((S.set kl (.lst ((left.erase x).map .str))).set kr (.lst ((row++[x]).map .str))):=by
      simp only[List.map_append,List.map_cons,List.map_nil] at happ ⊢;simp[zav,ef,gIs,zgq,hok1,hrem,hok2,happ]
     rw[hb];have g1:((S.set kl (.lst ((left.erase x).map .str))).set kr (.lst ((row++[x]).map .str)))[kl]?=some (.lst ((left.erase x).map .str)):=by rw[zab (Ne.symm ne)];exact zbq hkl
     have g2:((S.set kl (.lst ((left.erase x).map .str))).set kr (.lst ((row++[x]).map .str)))[kr]?=some (.lst ((row++[x]).map .str)):=zbq hkr2;have sm1:Sm2 S ((S.set kl (.lst ((left.erase x).map .str))).set kr (.lst ((row++[x]).map .str))) kl kr:=⟨by simp,fun j h1 h2=>by rw[zab (Ne.symm h2),zab (Ne.symm h1)]⟩;obtain⟨a,b⟩:=znw (h:=h) (t1:=t1) ok n (left.erase x) (row++[x]) m (x5:=some (.str x)) (by rw[List.length_erase_of_mem hx];omega) (by omega) (nd.erase x) (fun y hy=>hsub y (List.mem_of_mem_erase hy)) g1 g2 ne (by simp;omega);refine⟨fun res e=>?_,fun e=>?_⟩
     ·obtain⟨S',x5',w1,w2,w3⟩:=a res e
      exact⟨S',x5',w1,w2,sm1.trans w3⟩
     ·obtain⟨S',ring,w1,w2,sh⟩:=b e
      exact⟨S',ring,w1,sm1.trans w2,sh⟩
theorem zqh{h:Nat}{pl:List PlM}{ps qs:List HP}(A:za5 c S h pl ps)(nd:names.Nodup)(hq:qs.map (·.nm)=names)(hs:∀q∈qs,q∈ps/\q.w0.length+q.w1.length<=20)(ok:z02 names (zfn names qs)) :
  (∀res,topo (zfn names qs) names.length names []=some res->∃S',zcf c [.obj h,strL names] S=.ok (.obj (S.length+1)) S'/\S'[S.length+1]?=some (.lst (res.map .str))/\∀j,j<S.length->S'[j]?=S[j]?) /\
  (topo (zfn names qs) names.length names []=none->∃S' ring,zcf c [.obj h,strL names] S=.exc c.ring (some [("ring",strL ring)]) S'/\(∀j,j<S.length->S'[j]?=S[j]?)/\zqg (zfn names qs) names ring):=by
 have es:=z0w A nd hq hs ok.f17;have f17:=ok.f17;have e1:zjo (strL names) S=.ok (.obj S.length) (S++[.lst (names.map .str)]):=by simp[zjo,zem,strL]
 have hlen:(S++[Cell.lst (names.map .str)]).length=S.length+1:=by simp
 have g1:(S++[Cell.lst (names.map .str)]++[.lst []])[S.length]?=some (.lst (names.map .str)):=by rw[List.append_assoc,zsi];rfl
 have g2:(S++[Cell.lst (names.map .str)]++[.lst []])[S.length+1]?=some (.lst (([]:List Str).map .str)):=by rw[List.append_assoc,getR];rfl
 obtain⟨a,b⟩:=znw (c:=c) (kl:=S.length) (kr:=S.length+1) (h:=h) (t1:=some (strL names)) ok names.length names [] 1000 (x5:=none) (S:=S++[.lst (names.map .str)]++[.lst []]) rfl (by omega) nd (fun x hx=>hx) g1 g2 (by omega) (by simp;omega);have keep:∀S',Sm2 (S++[Cell.lst (names.map .str)]++[.lst []]) S' S.length (S.length+1)->∀j,j<S.length->S'[j]?=S[j]?:=fun S' sm j hj=>by
  rw[sm.same j (by omega) (by omega),List.append_assoc,List.getElem?_append_left hj]
 refine⟨fun res e=>?_,fun e=>?_⟩
 ·obtain⟨S',x5',w1,w2,w3⟩:=a res e
  have w1:zh8 (za2 c) (zav c) [some (.obj h),some (strL names),some (secD names (zfn names qs)),some (.obj S.length),some (.obj (S.length+1)),none] (S++[.lst (names.map .str)]++[.lst []])=_:=w1;simp only[List.append_assoc,List.cons_append,List.nil_append] at w1;refine⟨S',?_,w2,keep S' w3⟩;simp[zcf,zhl,es,e1,w1]
 ·obtain⟨S',ring,w1,w3,sh⟩:=b e
  have w1:zh8 (za2 c) (zav c) [some (.obj h),some (strL names),some (secD names (zfn names qs)),some (.obj S.length),some (.obj (S.length+1)),none] (S++[.lst (names.map .str)]++[.lst []])=_:=w1;simp only[List.append_assoc,List.cons_append,List.nil_append] at w1;refine⟨S',ring,?_,keep S' w3,sh⟩;simp[zcf,zhl,es,e1,w1]
end DN
namespace DN
open PySem L2 MF
variable {c:Cl}{S:Sto}{ρ:Ev}
theorem zqi{α:Type}(A B:List α)(p:α):(A++p::B).take (A.length+1)=A++[p]:=by
 rw[show A++p::B=(A++[p])++B by simp];exact List.take_left' (by simp)
theorem z3f{α:Type}(A B:List α)(p:α):(A++p::B).drop (A.length+1)=B:=by
 rw[show A++p::B=(A++[p])++B by simp];exact List.drop_left' (by simp)
abbrev Core:=Str×Str×T×Option Str×Bool×List Str×List Str×List Str×List Str
noncomputable def HP.core(p:HP):Core:=(p.nm,p.pl,p.dd,p.br,p.on,p.w0,p.w1,p.w2,p.w3)
def Pc.fresh(p:Pc):Core:=(p.nm,p.pl,p.dd,none,true,[],[],[],[])
noncomputable def Pc.full(p:Pc):Core:=(p.nm,p.pl,p.dd,none,p.on,p.w0,p.w1,p.w2,p.w3)
theorem zxq{l:List HP}{m:List Core}(h:l.map HP.core=m):l.map (·.nm)=m.map (·.1):=by
 rw[<- h,List.map_map];rfl
theorem z03{h1 h2:List HP}{p x:HP}(nd:((h1++p::h2).map (·.nm)).Nodup):(h1++p::h2).map (fun q=>if q.nm=p.nm then x else q)=h1++x::h2:=by
 rw[List.map_append,List.map_cons,if_pos rfl];rw[List.map_append,List.map_cons,List.nodup_append] at nd;obtain⟨_,n2,n3⟩:=nd;rw[List.nodup_cons] at n2;congr 1
 ·refine(List.map_congr_left fun q hq=>?_).trans (List.map_id _)
  rw[if_neg fun e=>n3 q.nm (List.mem_map.mpr ⟨q,hq,rfl⟩) p.nm (List.mem_cons_self ..) e];rfl
 ·congr 1
  refine(List.map_congr_left fun q hq=>?_).trans (List.map_id _);rw[if_neg fun e=>n2.1 (List.mem_map.mpr ⟨q,hq,e⟩)];rfl
theorem zxr{l:List HP}{A B:List Core}{x:Core}(h:l.map HP.core=A++x::B):∃h1 p h2,l=h1++p::h2/\h1.map HP.core=A/\p.core=x/\h2.map HP.core=B:=by
 obtain⟨h1,r,rfl,e1,e2⟩:=List.map_eq_append_iff.mp h;obtain⟨p,h2,rfl,e3,e4⟩:=List.map_eq_cons_iff.mp e2;exact⟨h1,p,h2,rfl,e1,e3,e4⟩
noncomputable def zgz(kind rule:Str)(n:Nat):List PlM:=[⟨"hub",kind,rule,n+3⟩,⟨"side", "all", "hold",n+4⟩]
theorem z04(l:List Str):zvi (strL l) S=.ok (.tup (l.map T.str)) S:=rfl
theorem Zcn:za5 c (S++[.ins c.hall (zfa S.length),.dic [],.dic []]) S.length [] []:=
 ⟨by rw[zsi];rfl,by rw[getR];rfl,by rw[getR];rfl,(by intro q hq;cases hq),(by intro q hq;cases hq),(by intro q hq;cases hq),.nil,.nil⟩
def Sees(S:Sto)(t:T)(ts:List T):Prop:=∀S',(∀k,k<S.length->S'[k]?=S[k]?)->zam S' t=some ts
theorem znx{ts:List T}:Sees S (.lst ts) ts:=fun _ _=>rfl
theorem Sees.now{t:T}{ts:List T}(h:Sees S t ts):zam S t=some ts:=h S fun _ _=>rfl
theorem zul{ps:List Pc}{tv:T}{kind rule:Str}(hv:Sees S tv (ps.map Pc.t))(nd:(ps.map (·.nm)).Nodup)(hl:ps.length<=24)(hpl:∀p∈ps,p.pl = "hub" \/ p.pl = "side")(hw:∀p∈ps,p.w0.length<=900/\p.w1.length<=900/\p.w2.length<=900/\p.w3.length<=900) :
  ∃S' hps,zfo c [tv,.str kind,.str rule] S=.ok (.obj S.length) S'/\za5 c S' S.length (zgz kind rule S.length) hps/\hps.map HP.core=ps.map Pc.full/\∀k,k<S.length->S'[k]?=S[k]?:=by
 have H0:=Zcn (c:=c) (S:=S);have o1:=z4s H0 (nm := "hub") (k:=kind) (r:=rule) rfl (by decide);have H1:=H0.open_ (nm := "hub") (k:=kind) (r:=rule);have o2:=z4s H1 (nm := "side") (k := "all") (r := "hold") (by simp) (by simp);have H2:=H1.open_ (nm := "side") (k := "all") (r := "hold");generalize eS1:((S++[Cell.ins c.hall (zfa S.length),.dic [],.dic []]).set (S.length+1) (.dic (plD ([]++[⟨"hub",kind,rule,(S++[Cell.ins c.hall (zfa S.length),.dic [],.dic []]).length⟩])))++[.ins c.place [("kind",.str kind),("rule",.str rule)]])=S1 at o1 H1 o2 H2;have len1:S1.length=S.length+4:=by rw[<- eS1];simp
 generalize eS2:(S1.set (S.length+1) (.dic (plD ([]++[⟨"hub",kind,rule,(S++[Cell.ins c.hall (zfa S.length),.dic [],.dic []]).length⟩]++[⟨"side", "all", "hold",S1.length⟩])))++[.ins c.place [("kind",.str "all"),("rule",.str "hold")]])=S2 at o2 H2;have ep:([]++[⟨"hub",kind,rule,(S++[Cell.ins c.hall (zfa S.length),.dic [],.dic []]).length⟩]++[⟨"side", "all", "hold",S1.length⟩]:List PlM)=zgz kind rule S.length:=by
  rw[len1];simp[zgz]
 rw[ep] at H2;have len2:S2.length=S.length+5:=by rw[<- eS2];simp[len1]
 have keep2:∀k,k<S.length->S2[k]?=S[k]?:=fun k hk=>by
  have a1:S1[k]?=S[k]?:=by
   rw[<- eS1,List.getElem?_append_left (by simp;omega),zab (by omega),List.getElem?_append_left hk]
  rw[<- eS2,List.getElem?_append_left (by simp;omega),zab (by omega),a1]
 have hm1:=zg9 (m:=Str.ofString "open_place") S.length (by simp) (by simp);have hm2:=zg9 (m:=Str.ofString "hang") S.length (by simp) (by simp);have hm3:=zg9 (m:=Str.ofString "wish") S.length (by simp) (by simp);have hm4:=zg9 (m:=Str.ofString "switch") S.length (by simp) (by simp);obtain⟨ρ3,S3,f3,⟨x3,rfl⟩,hps3,H3,c3,k3⟩:=zps (ρ:=[some tv,some (.str kind),some (.str rule),some (.obj S.length),none]) (S:=S2) (it:=iL (eVar 0)) (g:=zaz 4) (body:=zis c) (ts:=ps.map Pc.t) (st:=fun S'=>zam S' tv=some (ps.map Pc.t)) (S1:=S2)
  (fun pre ρ S'=>(∃x,ρ=[some tv,some (.str kind),some (.str rule),some (.obj S.length),x])/\∃hps,za5 c S' S.length (zgz kind rule S.length) hps/\hps.map HP.core=(ps.take pre.length).map Pc.fresh/\∀k,k<S.length->S'[k]?=S[k]?)
  (by simp[hv _ keep2]) ⟨⟨_,rfl⟩,[],H2,rfl,keep2⟩ (fun pre t post ρ S' hsp ⟨⟨x,hρ⟩,hps,H,hc,hk⟩=>by
   subst hρ;obtain⟨A,B,rfl,hA,hB⟩:=List.map_eq_append_iff.mp hsp;obtain⟨p,B,rfl,rfl,hB⟩:=List.map_eq_cons_iff.mp hB;have hlen:pre.length=A.length:=by rw[<- hA];simp
   have e1:(A++p::B).take pre.length=A:=by rw[hlen];simp
   have e2:(A++p::B).take (pre++[p.t]).length=A++[p]:=by
    rw[List.length_append,List.length_singleton,hlen];exact zqi ..
   rw[e1] at hc;have hn:p.nm∉hps.map (·.nm):=by
    rw[zxq hc,List.map_map];rw[List.map_append,List.map_cons,List.nodup_append] at nd;intro hm;obtain⟨q,hq,e⟩:=List.mem_map.mp hm;exact nd.2.2 q.nm (List.mem_map.mpr ⟨q,hq,rfl⟩) p.nm (List.mem_cons_self ..) e
   have hL:hps.length<24:=by
    have:hps.length=A.length:=by have:=congrArg List.length hc;simpa using this
    rw[List.length_append,List.length_cons] at hl;omega
   obtain⟨pm,hpm⟩:∃pm,(zgz kind rule S.length).find? (fun q=>decide (q.nm=p.pl))=some pm:=by
    rcases hpl p (by simp) with e | e
    ·exact⟨⟨"hub",kind,rule,S.length+3⟩,by rw[e];simp[zgz]⟩
    ·exact⟨⟨"side", "all", "hold",S.length+4⟩,by rw[e];simp[zgz]⟩
   have hh:=Zan H (dd:=p.dd) hn hpm hL;refine⟨hv _ hk,_,rfl,[some tv,some (.str kind),some (.str rule),some (.obj S.length),some p.t],_,?_,⟨_,rfl⟩,_,H.hang (dd:=p.dd) (br:=none) (q:=p.pl) hn,?_,fun k hk2=>?_⟩
   ·simp[zis,Pc.t,H.ins,hm2,hh]
   ·rw[e2,List.map_append,List.map_append,hc]
    rfl
   ·have:=H.lt
    rw[List.getElem?_append_left (by simp;omega),zab (by omega)];exact hk k hk2) (fun _ S' ⟨_,_,_,_,hk⟩=>hv S' hk)
 rw [List.length_map,List.take_length] at c3;obtain⟨ρ4,S4,f4,⟨x4,rfl⟩,hps4,H4,c4,k4⟩:=zps (ρ:=[some tv,some (.str kind),some (.str rule),some (.obj S.length),x3]) (S:=S3) (it:=iL (eVar 0)) (g:=zaz 4) (body:=zgj c) (ts:=ps.map Pc.t) (st:=fun S'=>zam S' tv=some (ps.map Pc.t)) (S1:=S3)
  (fun pre ρ S'=>(∃x,ρ=[some tv,some (.str kind),some (.str rule),some (.obj S.length),x])/\∃hps,za5 c S' S.length (zgz kind rule S.length) hps/\hps.map HP.core=(ps.take pre.length).map Pc.full++(ps.drop pre.length).map Pc.fresh/\∀k,k<S.length->S'[k]?=S[k]?)
  (by simp[hv _ k3]) ⟨⟨_,rfl⟩,hps3,H3,by simpa using c3,k3⟩ (fun pre t post ρ S' hsp ⟨⟨x,hρ⟩,hps,H,hc,hk⟩=>by
   subst hρ;obtain⟨A,B,rfl,hA,hB⟩:=List.map_eq_append_iff.mp hsp;obtain⟨p,B,rfl,rfl,hB⟩:=List.map_eq_cons_iff.mp hB;have hlen:pre.length=A.length:=by rw[<- hA];simp
   have e1:(A++p::B).take pre.length=A:=by rw[hlen];simp
   have e1':(A++p::B).drop pre.length=p::B:=by rw[hlen];simp
   have e2:(A++p::B).take (pre++[p.t]).length=A++[p]:=by
    rw[List.length_append,List.length_singleton,hlen];exact zqi ..
   have e2':(A++p::B).drop (pre++[p.t]).length=B:=by
    rw[List.length_append,List.length_singleton,hlen];exact z3f ..
   rw[e1,e1',List.map_cons] at hc;rw[e2,e2'];obtain⟨h1,hp,h2,rfl,g1,g2,g3⟩:=zxr hc;have hmem:hp∈h1++hp::h2:=by simp
   have w:=hw p (by simp);obtain⟨b1,b2,b3,b4,b5,b6,b7,b8,b9⟩:hp.nm=p.nm/\hp.pl=p.pl/\hp.dd=p.dd/\hp.br=none/\hp.on=true/\hp.w0=[]/\hp.w1=[]/\hp.w2=[]/\hp.w3=[]:=by
    have:=g2;simp only[HP.core,Pc.fresh,Prod.mk.injEq] at this;exact this
   obtain⟨S5,w1,w2,w3,w4⟩:=Zao H hmem (t0:=strL p.w0) (t1:=.tup (p.w1.map T.str)) (t2:=strL p.w2) (t3:=strL p.w3) (fun S=>zja _) (fun S=>zsl _) (fun S=>zja _) (fun S=>zja _)
    (by rw[b6];simp;omega) (by rw[b7];simp;omega) (by rw[b8];simp;omega) (by rw[b9];simp;omega)
   rw[z03 H.nd] at w2;rw[b1] at w1;have far:=H.far hp hmem;have k5:∀k,k<S.length->S5[k]?=S[k]?:=fun k hk2=>by rw[w4 k (by omega)];exact hk k hk2
   have c5:(zh4 hp p.w0 p.w1 p.w2 p.w3).core=(p.nm,p.pl,p.dd,none,true,p.w0,p.w1,p.w2,p.w3):=by
    simp[zh4,HP.core,b1,b2,b3,b4,b5,b6,b7,b8,b9]
   refine⟨hv _ hk,_,rfl,[some tv,some (.str kind),some (.str rule),some (.obj S.length),some p.t],?_⟩;by_cases hon:p.on=true
   ·refine⟨S5,?_,⟨_,rfl⟩,_,w2,?_,k5⟩
    ·simp[zgj,Pc.t,H.ins,w2.ins,hm3,z04,w1,hon]
    ·rw[List.map_append,List.map_cons,g1,g3,c5,List.map_append]
     simp[Pc.full,hon]
   ·have hon:p.on=false:=by simpa using hon
    have hmem2:zh4 hp p.w0 p.w1 p.w2 p.w3∈h1++zh4 hp p.w0 p.w1 p.w2 p.w3::h2:=by simp
    obtain⟨S6,s1,s2,s3,s4⟩:=z3b w2 hmem2 false;rw[z03 w2.nd] at s2;have n6:(zh4 hp p.w0 p.w1 p.w2 p.w3).nm=p.nm:=b1;have i6:(zh4 hp p.w0 p.w1 p.w2 p.w3).i=hp.i:=rfl;rw[n6] at s1;refine⟨S6,?_,⟨_,rfl⟩,_,s2,?_,fun k hk2=>?_⟩
    ·simp[zgj,Pc.t,H.ins,w2.ins,hm3,hm4,z04,w1,hon,s1]
    ·rw[List.map_append,List.map_cons,g1,g3,List.map_append]
     simp[Pc.full,hon,HP.core,zh4,b1,b2,b3,b4,b5,b6,b7,b8,b9]
    ·rw[s4 k (by rw[i6];omega)];exact k5 k hk2) (fun _ S' ⟨_,_,_,_,hk⟩=>hv S' hk)
 rw[List.length_map,List.take_length,List.drop_length,List.map_nil,List.append_nil] at c4;refine⟨S4,hps4,?_,H4,c4,k4⟩;have i0:=H0.ins;have i1:=H1.ins;simp[zfo,zor,zuj,i0,i1,hm1,o1,o2,f3,f4]
theorem zxs{ps:List Pc}{kind rule:Str}(nd:(ps.map (·.nm)).Nodup)(hl:ps.length<=24)(hpl:∀p∈ps,p.pl = "hub" \/ p.pl = "side")(hw:∀p∈ps,p.w0.length<=900/\p.w1.length<=900/\p.w2.length<=900/\p.w3.length<=900) :
 ∃S' hps,zfo c [.lst (ps.map Pc.t),.str kind,.str rule] S=.ok (.obj S.length) S'/\za5 c S' S.length (zgz kind rule S.length) hps/\hps.map HP.core=ps.map Pc.full/\∀k,k<S.length->S'[k]?=S[k]?:=zul znx nd hl hpl hw
end DN
namespace DN
open PySem L2 MF
variable {c:Cl}{S:Sto}{ρ:Ev}
def okN(x:Str):Prop:=PyData.strOk x=true
theorem zqj:∀(l:List Str),pds (l.map T.str)=some (l.map PyData.str)
 |[]=>by simp[pds]
 |a::r=>by simp[pds,pd,zqj r]
theorem zge:∀{l:List Str},(∀x∈l,okN x)->PyData.canLayAll0 (l.map PyData.str)=true
 |[],_=>by simp[PyData.canLayAll0]
 | a::r,h=>by
   simp only[List.map_cons,PyData.canLayAll0,PyData.canLay0,Bool.and_eq_true];exact⟨h a (List.mem_cons_self ..),zge fun x hx=>h x (List.mem_cons_of_mem _ hx)⟩
theorem zlr:∀(l:List Str),PyData.depthAll (l.map PyData.str)=0
 |[]=>by simp[PyData.depthAll]
 |a::r=>by simp[PyData.depthAll,PyData.depth,zlr r]
theorem zqk:∀(l m:List Str),PyData.eqvAll (l.map PyData.str) (m.map PyData.str)=decide (l=m)
 |[],[]=>by simp[PyData.eqvAll]
 |[],_::_=>by simp[PyData.eqvAll]
 |_::_,[]=>by simp[PyData.eqvAll]
 | a::r,b::s=>by
   simp only[List.map_cons,PyData.eqvAll,PyData.eqv,zqk r s];rw[Bool.eq_iff_iff];simp
theorem zky{x y:T}{a b:PyData}(hx:toV x=none\/toV y=none)(ha:pdS S x=some a)(hb:pdS S y=some b)(ca:a.canLay0=true)(cb:b.canLay0=true)(da:a.depth<=50):eqS S x y=some (PyData.eqv a b):=by
 unfold eqS;rcases hx with h | h
 ·rw[h];simp[ha,hb,ca,cb,da]
 ·rw[h]
  cases toV x<;>simp[ha,hb,ca,cb,da]
theorem zql{t:T}{l:List Str}(h:zam S t=some (l.map T.str)):pdS S t=some (.list (l.map PyData.str)):=by
 cases t with
 |lst ts=>simp[zam] at h;subst h;simp[pdS,pd,zqj]
 |obj k=>have:=zre h;simp[pdS,this,zqj]
 |_=>simp[zam] at h
theorem z05{t:T}{ts:List T}(h:zam S t=some ts):toV t=none:=by
 cases t<;>first | rfl | simp[zam] at h
theorem Zau{x y:T}{l m:List Str}(hx:zam S x=some (l.map T.str))(hy:zam S y=some (m.map T.str))(ol:∀z∈l,okN z)(om:∀z∈m,okN z):gNe x y S=.ok (.bl (!decide (l=m))) S:=by
 have:=zky (.inl (z05 hx)) (zql hx) (zql hy) (by simp only[PyData.canLay0];exact zge ol) (by simp only[PyData.canLay0];exact zge om) (by simp[PyData.depth,zlr]);simp[gNe,this,PyData.eqv,zqk]
abbrev W3:=Str×List Str×List Str
def Pc.w(p:Pc):W3:=(p.nm,p.w2,p.w3)
noncomputable def HP.w(p:HP):W3:=(p.nm,p.w2,p.w3)
theorem zhb{t:T}{ts:List T}(h:zam S t=some ts):zd0 S t=some ts:=by
 cases t<;>first | exact h | simp[zam] at h
end DN
namespace DN
open PySem L2 MF
variable {c:Cl}{S:Sto}
section
variable {w:DT}{b:DS}{n:Nat}{ρ ρ2:Ev}{C:Addr}{fs:Option (List (Str×T))}{t:T}{S1 S2:Sto}
theorem Zav(h:w ρ S=.ok true S1)(e:b ρ S1=.ok (.nx ρ2) S2):zbs w b (n+1) ρ S=zbs w b n ρ2 S2:=by
 simp[zbs,h,e]
theorem z7c(h:w ρ S=.ok true S1)(e:b ρ S1=.exc C fs S2):zbs w b (n+1) ρ S=.exc C fs S2:=by
 simp[zbs,h,e]
theorem zv9(h:w ρ S=.ok false S1):zbs w b (n+1) ρ S=.ok (.nx ρ) S1:=by
 simp[zbs,h]
end
def secT(la lb:List Str):T:=.dic [(.inr "a",.dic (zbn la)),(.inr "b",.dic (zbn lb))]
local macro_rules | `(tactic| walk_at "r") => `(tactic| simp [zau, zat, zar, za1, sFor, za0, iK, zaz, gDix, gNeg, zfu, keyT, secT, zbn, valT, zfv, atI, ixN, putT, gApp, cellL, okL, zam, kT, truM, zd0])
end DN
namespace DN
open PySem L2 MF
variable {c:Cl}{S:Sto}{sec:Str->List Str}{names:List Str}
section
variable {h:Nat}{pl:List PlM}{ps qs:List HP}(A:za5 c S h pl ps)(hq:qs.map (·.nm)=(["a", "b"]:List Str))(hs:∀q∈qs,q∈ps/\q.w0.length+q.w1.length<=20)
include A hq hs
end
end DN
namespace DN
open PySem L2 MF
variable {c:Cl}{S:Sto}{ρ:Ev}
theorem z3g:((List.range 26).map fun(k:Nat)=>zei k).Nodup:=by decide +kernel
theorem z06:∀k:Nat,k<26->okN (zei k):=by unfold okN;decide +kernel
theorem zwa{k m:Int}(h0:0<m)(h1:m<=26):okN (zei (k%m)):=by
 have a:=Int.emod_nonneg k (show m≠0 by omega);have b:=Int.emod_lt_of_pos k h0;have:=z06 (k%m).toNat (by omega);rwa[Int.toNat_of_nonneg a] at this
theorem z7d{x many:Int}(h0:0<many)(h1:many<=26):∀z∈zkv x many,okN z:=by
 intro z hz;unfold zkv at hz
 split at hz
 ·cases hz
 ·split at hz
  ·simp only[List.mem_cons,List.not_mem_nil,or_false] at hz
   rcases hz with rfl | rfl<;>exact zwa h0 h1
  ·simp only[List.mem_singleton] at hz
   subst hz;exact zwa h0 h1
theorem zmo(x many:Int):(zkv x many).length<=2:=by
 unfold zkv
 split
 ·simp
 ·split<;>simp
structure Drawn(ps:List Pc):Prop where
 nd:(ps.map (·.nm)).Nodup
 len:ps.length<=13
 pl:∀p∈ps,p.pl = "hub" \/ p.pl = "side"
 w:∀p∈ps,p.w0.length<=2/\p.w1.length<=2/\p.w2.length<=2/\p.w3.length<=2
 okn:∀p∈ps,okN p.nm
 okw:∀p∈ps,∀x,x∈p.w0\/x∈p.w1\/x∈p.w2\/x∈p.w3->okN x
theorem drawn(ns:List Int)(start many:Int)(h0:0<=many)(h1:many<=13):Drawn (pcs ns start many):=by
 have mem:∀p∈pcs ns start many,∃k:Nat,k<many.toNat/\p=pcAt ns start many k:=fun p hp=>by
  obtain⟨k,hk,rfl⟩:=List.mem_map.mp hp;exact⟨k,List.mem_range.mp hk,rfl⟩
 refine⟨?_,by simp[pcs];omega,fun p hp=>?_,fun p hp=>?_,fun p hp=>?_,fun p hp x hx=>?_⟩
 ·have e:(pcs ns start many).map (·.nm)=(List.range many.toNat).map fun(k:Nat)=>zei k:=by
   unfold pcs;rw[List.map_map];rfl
  rw[e];have hs:((List.range many.toNat).map fun(k:Nat)=>zei k).Sublist ((List.range 26).map fun(k:Nat)=>zei k):=by
   refine List.Sublist.map _ ?_;rw[show(26:Nat)=many.toNat+(26-many.toNat) by omega,List.range_add];exact List.sublist_append_left ..
  exact z3g.sublist hs
 ·obtain⟨k,_,rfl⟩:=mem p hp
  show zi9 _=_\/zi9 _=_;unfold zi9
  split
  ·exact .inr rfl
  ·exact .inl rfl
 ·obtain⟨k,_,rfl⟩:=mem p hp
  exact⟨zmo _ _,zmo _ _,zmo _ _,zmo _ _⟩
 ·obtain⟨k,hk,rfl⟩:=mem p hp
  exact z06 k (by omega)
 ·obtain⟨k,_,rfl⟩:=mem p hp
  have q:(0:Int)<many+1:=by omega
  have q':many+1<=26:=by omega
  rcases hx with h | h | h | h<;>exact z7d q q' x h
theorem z3h{hps:List HP}{ps:List Pc}(h:hps.map HP.core=ps.map Pc.full):hps.length=ps.length:=by
 have:=congrArg List.length h;simpa using this
theorem zqm{hps:List HP}{ps:List Pc}(h:hps.map HP.core=ps.map Pc.full){p:HP}(hp:p∈hps):∃q∈ps,p.core=q.full:=by
 have:p.core∈hps.map HP.core:=List.mem_map.mpr ⟨p,hp,rfl⟩;rw[h] at this;obtain⟨q,hq,e⟩:=List.mem_map.mp this;exact⟨q,hq,e.symm⟩
end DN
namespace DN
open PySem L2 MF
variable {c:Cl}{S:Sto}{ρ:Ev}{sec:Str->List Str}{names:List Str}
noncomputable def z3i(prs:List (Str×Str))(left:List Str)(x:Str):Bool:=!(prs.any fun p=>decide (p.2=x)&&decide (p.1∈left))
def zbk(p:Str×Str):T:=.tup [.str p.1,.str p.2]
structure Rel(names:List Str)(sec:Str->List Str)(prs:List (Str×Str)):Prop where
 iff:∀a∈names,∀b,b∈sec a↔(a,b)∈prs
 sub:∀p∈prs,p.1∈names/\p.2∈names
theorem z07{prs:List (Str×Str)}(r:Rel names sec prs){left:List Str}(hl:∀x∈left,x∈names)(x:Str):z3i prs left x=zck sec left x:=by
 unfold z3i zck;congr 1;rw[Bool.eq_iff_iff,List.any_eq_true,List.any_eq_true];constructor
 ·rintro⟨⟨a,b⟩,hp,e⟩
  simp only[Bool.and_eq_true,decide_eq_true_eq] at e;obtain⟨rfl,ha⟩:=e;exact⟨a,ha,by simpa using(r.iff a (hl a ha) b).mpr hp⟩
 ·rintro⟨f,hf,e⟩
  exact⟨(f,x),(r.iff f (hl f hf) x).mp (by simpa using e),by simp[hf]⟩
theorem z4u{x:Str}{y:T}{l:List Str}(h:zd0 S y=some (l.map T.str)):gIn (.str x) y S=.ok (.bl (decide (x∈l))) S:=by
 have:=z97 (x:=x) h;simp[this]
theorem zo1(left:List Str)(x:Str):∀(prs:List (Str×Str)),(prs.map zbk).findSome? (fun t=>match t with|.tup [.str a,.str b]=>if(decide (b=x)&&decide (a∈left))=true then some (T.bl false) else none | _=>none)=if(prs.any fun p=>decide (p.2=x)&&decide (p.1∈left))=true then some (.bl false) else none
 |[]=>rfl
 | p :: r=>by
   have ih:=zo1 left x r;rw[List.map_cons,List.findSome?_cons,List.any_cons];cases z:(decide (p.2=x)&&decide (p.1∈left)) with
   |true=>simp only[zbk,z];rfl
   | false=>
     simp only[zbk,z,Bool.false_or];exact ih
theorem Zaw{prs:List (Str×Str)}{left:List Str}{L:T}{x:Str}(hL:zd0 S L=some (left.map T.str)):zfp c [.str x,L,.lst (prs.map zbk)] S=.ok (.bl (z3i prs left x)) S:=by
 obtain⟨ρ',_,e⟩:=zns (S:=S) (st:=fun S'=>zam S' (.lst (prs.map zbk))=some (prs.map zbk)) (body:=zdd c) (i:=3) (ρ0:=[some (.str x),some L,some (.lst (prs.map zbk)),none])
  (p:=fun t=>match t with|.tup [.str a,.str b]=>if(decide (b=x)&&decide (a∈left))=true then some (.bl false) else none | _=>none) rfl (prs.map zbk) [some (.str x),some L,some (.lst (prs.map zbk)),none] (fun _=>rfl) (fun t ht=>by
   obtain⟨⟨a,b⟩,hp,rfl⟩:=List.mem_map.mp ht;have hi:=z4u (x:=a) hL;by_cases z:b=x
   ·by_cases y:a∈left
    ·simp[zdd,zbk,z,y,hi]
    ·simp[zdd,zbk,z,y,hi]
   ·simp[zdd,zbk,z])
 have ef:=zo1 left x prs;rw[ef] at e;have es:sFor (iL (eVar 2)) (zaz 3) (zdd c) [some (.str x),some L,some (.lst (prs.map zbk)),none] S=za0 (fun S'=>zam S' (.lst (prs.map zbk))=some (prs.map zbk)) (zaz 3) (zdd c) (prs.map zbk) [some (.str x),some L,some (.lst (prs.map zbk)),none] S:=by
  unfold sFor;rw[zan,x_iL,zan];rfl
 have e2:=es.trans e;unfold z3i;by_cases z:(prs.any fun p=>decide (p.2=x)&&decide (p.1∈left))=true
 ·rw[if_pos z] at e2
  rw[z];simp[zfp,zk6,e2]
 ·rw[if_neg z] at e2
  have z:(prs.any fun p=>decide (p.2=x)&&decide (p.1∈left))=false:=by simpa using z
  rw[z];simp[zfp,zk6,e2]
theorem Zco{x y:T}{l m:List Str}(hx:zam S x=some (l.map T.str))(hy:zam S y=some (m.map T.str))(ol:∀z∈l,okN z)(om:∀z∈m,okN z):gEq x y S=.ok (.bl (decide (l=m))) S:=by
 have:=zky (.inl (z05 hx)) (zql hx) (zql hy) (by simp only[PyData.canLay0];exact zge ol) (by simp only[PyData.canLay0];exact zge om) (by simp[PyData.depth,zlr]);simp[gEq,this,PyData.eqv,zqk]
theorem zl2{kl kr:Nat}{t0:Option T}{prs:List (Str×Str)}(r:Rel names sec prs)(okn:∀x∈names,okN x)(few:names.length<=100):∀(n:Nat) (left row:List Str) (m:Nat) {x4:Option T} {S:Sto},left.length=n->n+1<=m->left.Nodup->(∀x∈left,x∈names)->S[kl]?=some (.lst (left.map .str))->S[kr]?=some (.lst (row.map .str))->kl≠kr->row.length+n<=900 ->
  ∃ S',Sm2 S S' kl kr/\(match topo sec n left row with
    |some res=>(∃x4',zbs (zbf c) (za9 c) m [t0,some (.lst (prs.map zbk)),some (.obj kl),some (.obj kr),x4] S=.ok (.nx [t0,some (.lst (prs.map zbk)),some (.obj kl),some (.obj kr),x4']) S')/\S'[kr]?=some (.lst (res.map .str))
    |none=>zbs (zbf c) (za9 c) m [t0,some (.lst (prs.map zbk)),some (.obj kl),some (.obj kr),x4] S=.ok (.rt .non) S')
 |n,left,row,0,x4,S,_,hm,_,_,_,_,_,_=>by omega
 | 0,left,row,m+1,x4,S,hl,_,_,_,hkl,hkr,ne,_=>by
   have:left=[]:=List.eq_nil_of_length_eq_zero hl;subst this;have hne:=Zau (S:=S) (x:=.obj kl) (y:=.lst []) (l:=[]) (m:=[]) (zd4 hkl) rfl (by intro z hz;cases hz) (by intro z hz;cases hz);have hw:zbf c [t0,some (.lst (prs.map zbk)),some (.obj kl),some (.obj kr),x4] S=.ok false S:=by simp[zbf,hne]
   refine⟨S,Sm2.refl _ _ _,⟨x4,?_⟩,hkr⟩;unfold zbs;rw[zan,hw];rfl
 | n + 1,left,row,m+1,x4,S,hl,hm,nd,hsub,hkl,hkr,ne,hr=>by
   have hlne:left≠[]:=fun e=>by rw[e] at hl;simp at hl
   have okl:∀x∈left,okN x:=fun x hx=>okn x (hsub x hx);have hne:=Zau (S:=S) (x:=.obj kl) (y:=.lst []) (l:=left) (m:=[]) (zd4 hkl) rfl okl (by intro z hz;cases hz);have hw:zbf c [t0,some (.lst (prs.map zbk)),some (.obj kl),some (.obj kr),x4] S=.ok true S:=by simp[zbf,hne,hlne]
   have un:zbs (zbf c) (za9 c) (m+1) [t0,some (.lst (prs.map zbk)),some (.obj kl),some (.obj kr),x4] S=M.bind (za9 c [t0,some (.lst (prs.map zbk)),some (.obj kl),some (.obj kr),x4]) (fun x=>match x with
    |.nx ρ2=>zbs (zbf c) (za9 c) m ρ2
    |.ct ρ2=>zbs (zbf c) (za9 c) m ρ2
    |.bk ρ2=>M.pure (.nx ρ2)
    |.rt t=>M.pure (.rt t)) S:=by
    conv=>lhs;unfold zbs
    rw[zan,hw];rfl
   rw[un,zan];have llen:=zh5 left names nd hsub;have hc:=zg0 (ρ:=[t0,some (.lst (prs.map zbk)),some (.obj kl),some (.obj kr),x4]) (S:=S) (js:=[2,1]) (it:=zfl c) (tc:=zfm c) (te:=zfk c) (ts:=left.map .str) (st:=fun S'=>zam S' (.obj kl)=some (left.map .str)) (p:=fun t=>match t with|.str x=>zck sec left x | _=>false) (f:=fun t=>t)
    (by simp[zfl,zd4 hkl]) (zd4 hkl) (by simp;omega) (fun t ht=>by
     obtain⟨x,hx,rfl⟩:=List.mem_map.mp ht;have hseq:zd0 S (.obj kl)=some (left.map T.str):=by simp[zd0,zam,hkl]
     have:=Zaw (c:=c) (prs:=prs) (x:=x) hseq;rw[z07 r hsub] at this;simp[zfm,this]) (fun t ht _=>by simp[zfk])
   have ef:((left.map T.str).filter (fun t=>match t with|.str x=>zck sec left x | _=>false)).map (fun t=>t)=(left.filter (zck sec left)).map T.str:=by
    rw[List.map_id',List.filter_map];rfl
   rw[ef] at hc;have hc:zek 1 [2,1] (zfl c) (zaz 0) (zfm c) (zfk c) finF [t0,some (.lst (prs.map zbk)),some (.obj kl),some (.obj kr),x4] S=.ok (strL (left.filter (zck sec left))) S:=hc;have heq:=Zco (S:=S) (x:=strL (left.filter (zck sec left))) (y:=.lst []) (l:=left.filter (zck sec left)) (m:=[]) rfl rfl (fun z hz=>okl z (List.mem_filter.mp hz).1) (by intro z hz;cases hz);unfold topo;cases q:left.find? (zck sec left) with
   | none=>
     have fe:left.filter (zck sec left)=[]:=List.filter_eq_nil_iff.mpr (List.find?_eq_none.mp q);rw[fe] at hc heq;refine⟨S,Sm2.refl _ _ _,?_⟩;have hb:za9 c [t0,some (.lst (prs.map zbk)),some (.obj kl),some (.obj kr),x4] S=.ok (.rt .non) S:=by
      simp[za9,hc,heq]
     rw[hb];rfl
   | some x=>
     have hx:=List.mem_of_find?_eq_some q;obtain⟨fr,fe⟩:∃fr,left.filter (zck sec left)=x::fr:=by
      have:=List.head?_filter (p:=zck sec left) (l:=left);rw[q] at this;cases e:left.filter (zck sec left) with
      |nil=>rw[e] at this;cases this
      |cons y fr=>rw[e] at this;cases this;exact⟨fr,rfl⟩
     rw[fe] at hc heq;have happ:=zn5 (y:=.str x) hkr (by simp;omega);have e1:row.map T.str++[T.str x]=(row++[x]).map .str:=by simp
     rw[e1] at happ;have hkl2:(S.set kr (.lst ((row++[x]).map .str)))[kl]?=some (.lst (left.map .str)):=by rw[zab (Ne.symm ne)];exact hkl
     have hrem:=zv8 hkl2 hx (by omega);have hok1:=zgr hkr;have hok2:=zgr hkl2;have hix:gIx (strL (x::fr)) (.int 0) S=.ok (.str x) S:=by simp[strL]
     have hix2:gIx (strL (x::fr)) (.int 0) (S.set kr (.lst ((row++[x]).map .str)))=.ok (.str x) (S.set kr (.lst ((row++[x]).map .str))):=by simp[strL]
     have hb:za9 c [t0,some (.lst (prs.map zbk)),some (.obj kl),some (.obj kr),x4] S=.ok (.nx [t0,some (.lst (prs.map zbk)),some (.obj kl),some (.obj kr),some (strL (x::fr))]) ((S.set kr (.lst ((row++[x]).map .str))).set kl (.lst ((left.erase x).map .str))):=by
      generalize hS1:S.set kr (.lst ((row++[x]).map .str))=S1 at happ hrem hok2 hix2;simp[za9,hc,heq,hok1,hix,happ,hok2,hix2,hrem]
     rw[hb];have g1:((S.set kr (.lst ((row++[x]).map .str))).set kl (.lst ((left.erase x).map .str)))[kl]?=some (.lst ((left.erase x).map .str)):=zbq hkl2;have g2:((S.set kr (.lst ((row++[x]).map .str))).set kl (.lst ((left.erase x).map .str)))[kr]?=some (.lst ((row++[x]).map .str)):=by rw[zab ne];exact zbq hkr
     have sm1:Sm2 S ((S.set kr (.lst ((row++[x]).map .str))).set kl (.lst ((left.erase x).map .str))) kl kr:=⟨by simp,fun j h1 h2=>by rw[zab (Ne.symm h1),zab (Ne.symm h2)]⟩;obtain⟨S',sm,e⟩:=zl2 (t0:=t0) r okn few n (left.erase x) (row++[x]) m (x4:=some (strL (x::fr))) (by rw[List.length_erase_of_mem hx];omega) (by omega) (nd.erase x) (fun y hy=>hsub y (List.mem_of_mem_erase hy)) g1 g2 ne (by simp;omega);exact⟨S',sm1.trans sm,e⟩
theorem zum{prs:List (Str×Str)}(r:Rel names sec prs)(okn:∀x∈names,okN x)(few:names.length<=100)(nd:names.Nodup) :
  zht c [strL names,.lst (prs.map zbk)] S=.ok (match topo sec names.length names [] with|some res=>strL res | none=>.non) S:=by
 have e1:zjo (strL names) S=.ok (.obj S.length) (S++[.lst (names.map .str)]):=by simp[zjo,zem,strL]
 have g1:(S++[Cell.lst (names.map .str)]++[.lst []])[S.length]?=some (.lst (names.map .str)):=by rw[List.append_assoc,zsi];rfl
 have g2:(S++[Cell.lst (names.map .str)]++[.lst []])[S.length+1]?=some (.lst (([]:List Str).map .str)):=by rw[List.append_assoc,getR];rfl
 obtain⟨S',sm,e⟩:=zl2 (c:=c) (kl:=S.length) (kr:=S.length+1) (t0:=some (strL names)) r okn few names.length names [] 1000 (x4:=none) (S:=S++[.lst (names.map .str)]++[.lst []]) rfl (by omega) nd (fun x hx=>hx) g1 g2 (by omega) (by simp;omega);have keep:∀j,j<S.length->S'[j]?=S[j]?:=fun j hj=>by
  rw[sm.same j (by omega) (by omega),List.append_assoc,List.getElem?_append_left hj]
 have hl:S.length<=S'.length:=by rw[sm.len];simp
 have tk:=z00 keep hl;cases q:topo sec names.length names [] with
 | none=>
   rw[q] at e;have w1:zh8 (zbf c) (za9 c) [some (strL names),some (.lst (prs.map zbk)),some (.obj S.length),some (.obj (S.length+1)),none] (S++[.lst (names.map .str)]++[.lst []])=_:=e;simp only[List.append_assoc,List.cons_append,List.nil_append] at w1;have run:runD 5 (zf1 c) [strL names,.lst (prs.map zbk)] S=.ok .non S':=by
    simp[zf1,e1,w1]
   exact zkm run tk (by simp)
 | some res=>
   rw[q] at e;obtain⟨⟨x4',e⟩,g⟩:=e;have w1:zh8 (zbf c) (za9 c) [some (strL names),some (.lst (prs.map zbk)),some (.obj S.length),some (.obj (S.length+1)),none] (S++[.lst (names.map .str)]++[.lst []])=_:=e;simp only[List.append_assoc,List.cons_append,List.nil_append] at w1;have run:runD 5 (zf1 c) [strL names,.lst (prs.map zbk)] S=.ok (.obj (S.length+1)) S':=by
    simp[zf1,e1,w1]
   exact zpt run tk (by omega) g fun t ht=>by
    obtain⟨x,_,rfl⟩:=List.mem_map.mp ht;simp
end DN
namespace DN
open PySem L2 MF
variable {c:Cl}{S:Sto}{ρ:Ev}
def hubP(p:Pc):Bool:=decide (p.pl = "hub")&&p.on
noncomputable def hubN(ps:List Pc):List Str:=(ps.filter hubP).map (·.nm)
theorem z08{ps:List Pc}{tv:T}(hv:zam S tv=some (ps.map Pc.t))(hl:ps.length<=24):zd5 c [tv] S=.ok (strL (hubN ps)) S:=by
 have cc:=zg0 (ρ:=[some tv]) (S:=S) (js:=[]) (it:=ze3 c) (tc:=zdr c) (te:=ze2 c) (ts:=ps.map Pc.t) (st:=fun S'=>zam S' tv=some (ps.map Pc.t)) (p:=fun t=>match t with|.tup [_,.str q,_,_,.bl on]=>decide (q = "hub")&&on | _=>false) (f:=fun t=>match t with|.tup (x::_)=>x | _=>.non)
  (by simp[ze3,hv]) hv (by simp;omega) (fun t ht=>by
   obtain⟨p,_,rfl⟩:=List.mem_map.mp ht;by_cases z:p.pl = "hub"
   ·simp[zdr,Pc.t,z]
   ·simp[zdr,Pc.t,z]) (fun t ht _=>by
   obtain⟨p,_,rfl⟩:=List.mem_map.mp ht;simp[ze2,Pc.t])
 rw[List.filter_map,List.map_map] at cc;have cc:zek 1 [] (ze3 c) (zaz 0) (zdr c) (ze2 c) finF [some tv] S=.ok (.lst ((ps.filter hubP).map fun p=>.str p.nm)) S:=cc;simp[zd5,zlx,cc,strL,hubN]
theorem z3j{ps:List Pc}(hl:ps.length<=24):zd5 c [.lst (ps.map Pc.t)] S=.ok (strL (hubN ps)) S:=z08 rfl hl
noncomputable def zxt(names:List Str)(p:Pc):List (Str×Str):=(p.w0.filter fun o=>decide (o∈names)).map fun o=>(p.nm,o)
noncomputable def zxu(names:List Str)(p:Pc):List (Str×Str):=(p.w1.filter fun o=>decide (o∈names)).map fun o=>(o,p.nm)
noncomputable def prsL(names:List Str)(ps:List Pc):List (Str×Str):=ps.flatMap fun p=>if p.nm∈names then zxt names p++zxu names p else[]
theorem zsq{js:List Nat}{l names:List Str}{f:Str->Str×Str}{it:DI}{tc:DT}{te:DE}{st:Sto->Prop}(hl:l.length<=900)
  (hi:it ρ S=.ok (l.map T.str,st) S) (hs:st S) (ht:∀o,tc (some (.str o)::js.map fun j=>(ρ[j]?).join) S=.ok (decide (o∈names)) S) (he:∀o,te (some (.str o)::js.map fun j=>(ρ[j]?).join) S=.ok (zbk (f o)) S) :
  zek 1 js it (zaz 0) tc te finF ρ S=.ok (.lst (((l.filter fun o=>decide (o∈names)).map f).map zbk)) S:=by
 have cc:=zg0 (ρ:=ρ) (S:=S) (js:=js) (it:=it) (tc:=tc) (te:=te) (ts:=l.map T.str) (st:=st) (p:=fun t=>match t with|.str o=>decide (o∈names) | _=>false) (f:=fun t=>match t with|.str o=>zbk (f o) | _=>.non) hi hs (by simp;omega)
  (fun t h=>by obtain⟨o,_,rfl⟩:=List.mem_map.mp h;exact ht o) (fun t h _=>by obtain⟨o,_,rfl⟩:=List.mem_map.mp h;exact he o)
 rw[List.filter_map,List.map_map] at cc;rw[List.map_map];exact cc
theorem zsr{ps:List Pc}{names:List Str}{tv:T}(hv:Sees S tv (ps.map Pc.t))(hl:ps.length<=24)(hw:∀p∈ps,p.w0.length<=20/\p.w1.length<=20) :
  zf0 c [tv,strL names] S=.ok (.lst ((prsL names ps).map zbk)) S:=by
 have hva:∀x:Cell,zam (S++[x]) tv=some (ps.map Pc.t):=fun x=>hv _ fun k hk=>List.getElem?_append_left hk;have hvx:=hva (.lst []);have run:runD 4 (zj2 c) [tv,strL names] S=.ok (.obj S.length) (S++[.lst ((prsL names ps).map zbk)]):=by
  obtain⟨ρ',S',e,⟨x,rfl⟩,hS,_⟩:=zps (ρ:=[some tv,some (strL names),some (.obj S.length),none]) (S:=S++[.lst []]) (it:=iL (eVar 0)) (g:=zaz 3) (body:=zfj c) (ts:=ps.map Pc.t) (st:=fun S'=>zam S' tv=some (ps.map Pc.t)) (S1:=S++[.lst []])
   (fun pre ρ S'=>(∃x,ρ=[some tv,some (strL names),some (.obj S.length),x])/\S'=S++[.lst ((prsL names (ps.take pre.length)).map zbk)]/\(prsL names (ps.take pre.length)).length<=40*pre.length)
   (by simp[hvx]) ⟨⟨_,rfl⟩,rfl,by simp[prsL]⟩ (fun pre t post ρ S' hsp ⟨⟨x,hρ⟩,hS,hb⟩=>by
    subst hρ;obtain⟨A,B,rfl,hA,hB⟩:=List.map_eq_append_iff.mp hsp;obtain⟨p,B,rfl,rfl,hB⟩:=List.map_eq_cons_iff.mp hB;have hlen:pre.length=A.length:=by rw[<- hA];simp
    have e1:(A++p::B).take pre.length=A:=by rw[hlen];simp
    have e2:∀t:T,(A++p::B).take (pre++[t]).length=A++[p]:=fun t=>by
     rw[List.length_append,List.length_singleton,hlen];exact zqi ..
    rw[e1] at hS hb;rw[e2];have hl':A.length<24:=by rw[List.length_append,List.length_cons] at hl;omega
    have w:=hw p (by simp);have el:prsL names (A++[p])=prsL names A++(if p.nm∈names then zxt names p++zxu names p else[]):=by
     unfold prsL;rw[List.flatMap_append];simp
    rw[el];generalize prsL names A=acc at hS hb ⊢;subst hS;have hb2:acc.length<=920:=by omega
    refine⟨hva _,_,rfl,?_⟩;have l1:(zxt names p).length<=20:=by unfold zxt;rw[List.length_map];have:=List.length_filter_le (fun o=>decide (o∈names)) p.w0;omega
    have l2:(zxu names p).length<=20:=by unfold zxu;rw[List.length_map];have:=List.length_filter_le (fun o=>decide (o∈names)) p.w1;omega
    have hin:∀(o:Str) (Z:Sto),gIn (.str o) (strL names) Z=.ok (.bl (decide (o∈names))) Z:=fun o Z=>z4u rfl;have i0:∀Z,gIx p.t (.int 0) Z=.ok (.str p.nm) Z:=fun Z=>by simp[Pc.t]
    have i3:∀Z,gIx p.t (.int 3) Z=.ok (.lst [strL p.w0,strL p.w1,strL p.w2,strL p.w3]) Z:=fun Z=>by simp[Pc.t]
    have j0:∀Z,gIx (.lst [strL p.w0,strL p.w1,strL p.w2,strL p.w3]) (.int 0) Z=.ok (strL p.w0) Z:=fun Z=>by simp
    have j1:∀Z,gIx (.lst [strL p.w0,strL p.w1,strL p.w2,strL p.w3]) (.int 1) Z=.ok (strL p.w1) Z:=fun Z=>by simp
    have ls:∀(l:List Str) (Z:Sto),zam Z (strL l)=some (l.map .str):=fun l Z=>rfl;by_cases hc:p.nm∈names
    ·have c1:=zsq (ρ:=[some tv,some (strL names),some (.obj S.length),some p.t]) (S:=S++[.lst (acc.map zbk)]) (js:=[3,1]) (l:=p.w0) (names:=names) (f:=fun o=>(p.nm,o)) (it:=zho c) (tc:=zhp c) (te:=zhn c) (st:=fun S'=>zam S' (strL p.w0)=some (p.w0.map T.str)) (by omega)
      (by simp[zho,i3,j0,ls]) rfl (fun o=>by simp[zhp,hin]) (fun o=>by simp[zhn,i0,zbk])
     have c2:=fun a2:List (Str×Str)=>zsq (ρ:=[some tv,some (strL names),some (.obj S.length),some p.t]) (S:=S++[.lst (a2.map zbk)]) (js:=[3,1]) (l:=p.w1) (names:=names) (f:=fun o=>(o,p.nm)) (it:=zhr c) (tc:=zhs c) (te:=zhq c) (st:=fun S'=>zam S' (strL p.w1)=some (p.w1.map T.str)) (by omega)
      (by simp[zhr,i3,j1,ls]) rfl (fun o=>by simp[zhs,hin]) (fun o=>by simp[zhq,i0,zbk])
     have d1:((p.w0.filter fun o=>decide (o∈names)).map fun o=>(p.nm,o))=zxt names p:=rfl;have d2:((p.w1.filter fun o=>decide (o∈names)).map fun o=>(o,p.nm))=zxu names p:=rfl;rw[d1] at c1;rw[d2] at c2;rw[if_pos hc];generalize zxt names p=n1 at c1 l1 ⊢;generalize zxu names p=n2 at c2 l2 ⊢;have x1:=z6s (S:=S++[.lst (acc.map zbk)]) (k:=S.length) (y:=.lst (n1.map zbk)) zdk rfl (by simp only[List.length_map];omega);rw[zqb,<- List.map_append] at x1;have x2:=z6s (S:=S++[.lst ((acc++n1).map zbk)]) (k:=S.length) (y:=.lst (n2.map zbk)) zdk rfl (by simp only[List.length_map,List.length_append];omega);rw[zqb,<- List.map_append] at x2;have k1:=zgr (S:=S++[.lst (acc.map zbk)]) (k:=S.length) zdk;have k2:=zgr (S:=S++[.lst ((acc++n1).map zbk)]) (k:=S.length) zdk;have c2:=c2 (acc++n1);have hin':=hin p.nm (S++[.lst (acc.map zbk)]);rw[decide_eq_true hc] at hin';refine⟨[some tv,some (strL names),some (.obj S.length),some p.t],S++[.lst ((acc++n1++n2).map zbk)],?_,⟨_,rfl⟩,by rw[List.append_assoc],?_⟩
     ·generalize S++[Cell.lst ((acc++n1++n2).map zbk)]=Z2 at x2 ⊢
      generalize S++[Cell.lst ((acc++n1).map zbk)]=Z1 at x1 x2 k2 c2;generalize S++[Cell.lst (acc.map zbk)]=Z0 at c1 x1 k1 hin' ⊢;simp[zfj,i0,hin',k1,c1,x1,k2,c2,x2]
     ·simp only[List.length_append,List.length_singleton]
      omega
    ·have hin':=hin p.nm (S++[.lst (acc.map zbk)])
     rw[decide_eq_false hc] at hin';refine⟨[some tv,some (strL names),some (.obj S.length),some p.t],S++[.lst (acc.map zbk)],?_,⟨_,rfl⟩,by rw[if_neg hc,List.append_nil],?_⟩
     ·simp[zfj,i0,hin']
     ·rw[if_neg hc,List.append_nil,List.length_append,List.length_singleton];omega) (fun _ _ ⟨_,hS,_⟩=>hS▸hva _)
  rw[List.length_map,List.take_length] at hS;subst hS;simp[zj2,e]
 refine zpt run (by simp) (Nat.le_refl _) zdk fun t ht=>?_;obtain⟨k,_,rfl⟩:=List.mem_map.mp ht;exact zjp (by simp)
theorem zun{ps:List Pc}{names:List Str}(hl:ps.length<=24)(hw:∀p∈ps,p.w0.length<=2/\p.w1.length<=2):zf0 c [.lst (ps.map Pc.t),strL names] S=.ok (.lst ((prsL names ps).map zbk)) S:=zsr znx hl fun p hp=>by have:=hw p hp;omega
theorem z09{names:List Str}{ps:List Pc}{a b:Str}:(a,b)∈prsL names ps↔∃p∈ps,p.nm∈names/\((a=p.nm/\b∈p.w0/\b∈names)\/(b=p.nm/\a∈p.w1/\a∈names)):=by
 unfold prsL;rw[List.mem_flatMap];constructor
 ·rintro⟨p,hp,h⟩
  by_cases hn:p.nm∈names
  ·rw[if_pos hn,List.mem_append] at h
   refine⟨p,hp,hn,?_⟩;rcases h with h | h
   ·obtain⟨o,ho,e⟩:=List.mem_map.mp h
    have:=List.mem_filter.mp ho;cases e;exact .inl ⟨rfl,this.1,by simpa using this.2⟩
   ·obtain⟨o,ho,e⟩:=List.mem_map.mp h
    have:=List.mem_filter.mp ho;cases e;exact .inr ⟨rfl,this.1,by simpa using this.2⟩
  ·rw[if_neg hn] at h;cases h
 ·rintro⟨p,hp,hn,h⟩
  refine⟨p,hp,?_⟩;rw[if_pos hn,List.mem_append];rcases h with⟨rfl,h1,h2⟩ | ⟨rfl,h1,h2⟩
  ·exact .inl (List.mem_map.mpr ⟨b,List.mem_filter.mpr ⟨h1,by simpa using h2⟩,rfl⟩)
  ·exact .inr (List.mem_map.mpr ⟨a,List.mem_filter.mpr ⟨h1,by simpa using h2⟩,rfl⟩)
end DN
namespace DN
open PySem L2 MF
variable {c:Cl}{S:Sto}{ρ:Ev}{sec:Str->List Str}{names:List Str}
def hubH(p:HP):Bool:=decide (p.pl = "hub")&&p.on
theorem zqn{hps:List HP}{ps:List Pc}(h:hps.map HP.core=ps.map Pc.full):(hps.filter hubH).map HP.core=(ps.filter hubP).map Pc.full:=by
 have e1:(hps.filter hubH).map HP.core=(hps.map HP.core).filter (fun q:Core=>decide (q.2.1 = "hub")&&q.2.2.2.2.1):=by rw[List.filter_map];rfl
 have e2:(ps.filter hubP).map Pc.full=(ps.map Pc.full).filter (fun q:Core=>decide (q.2.1 = "hub")&&q.2.2.2.2.1):=by rw[List.filter_map];rfl
 rw[e1,e2,h]
theorem z3k{hps:List HP}{ps:List Pc}(h:hps.map HP.core=ps.map Pc.full):hps.map (·.nm)=ps.map (·.nm):=by
 have:=congrArg (List.map fun q:Core=>q.1) h;rw[List.map_map,List.map_map] at this;exact this
theorem zss{hps:List HP}{ps:List Pc}(h:hps.map HP.core=ps.map Pc.full){q:Pc}(hq:q∈ps):∃p∈hps,p.core=q.full:=by
 have:q.full∈ps.map Pc.full:=List.mem_map.mpr ⟨q,hq,rfl⟩;rw[<- h] at this;obtain⟨p,hp,e⟩:=List.mem_map.mp this;exact⟨p,hp,e⟩
theorem zny{p:HP}{q:Pc}(e:p.core=q.full):p.nm=q.nm/\p.w0=q.w0/\p.w1=q.w1:=by
 simp only[HP.core,Pc.full,Prod.mk.injEq] at e;exact⟨e.1,e.2.2.2.2.2.1,e.2.2.2.2.2.2.1⟩
theorem z4v{ps:List Pc}(nd:(ps.map (·.nm)).Nodup):∀p∈ps,∀q∈ps,p.nm=q.nm->p=q:=by
 induction ps with
 |nil=>intro p hp;cases hp
 | cons a r ih=>
   rw[List.map_cons,List.nodup_cons] at nd;intro p hp q hq e;rcases List.mem_cons.mp hp with h1 | h1
   ·rcases List.mem_cons.mp hq with h2 | h2
    ·rw[h1,h2]
    ·exact absurd (List.mem_map.mpr ⟨q,h2,by rw[<- e,h1]⟩) nd.1
   ·rcases List.mem_cons.mp hq with h2 | h2
    ·exact absurd (List.mem_map.mpr ⟨p,h1,by rw[e,h2]⟩) nd.1
    ·exact ih nd.2 p h1 q h2 e
theorem Zax{hps:List HP}{ps:List Pc}(h:hps.map HP.core=ps.map Pc.full)(nd:(ps.map (·.nm)).Nodup):Rel (hubN ps) (zfn (hubN ps) (hps.filter hubH)) (prsL (hubN ps) ps):=by
 have hh:=zqn h;refine⟨fun a ha b=>?_,fun⟨a,b⟩ hp=>?_⟩
 ·rw[zsp,z09]
  constructor
  ·rintro⟨q,hq,hc⟩
   obtain⟨p,hp,e⟩:=zqm hh hq;obtain⟨e1,e2,e3⟩:=zny e;refine⟨p,(List.mem_filter.mp hp).1,List.mem_map.mpr ⟨p,hp,rfl⟩,?_⟩;rw[<- e1,<- e2,<- e3];exact hc
  ·rintro⟨p,hp,hn,hc⟩
   obtain⟨p2,hp2,e0⟩:=List.mem_map.mp hn;have:=z4v nd p2 (List.mem_filter.mp hp2).1 p hp e0;subst this;obtain⟨q,hq,e⟩:=zss hh hp2;obtain⟨e1,e2,e3⟩:=zny e;refine⟨q,hq,?_⟩;rw[e1,e2,e3];exact hc
 ·obtain⟨p,hp,hn,hc⟩:=z09.mp hp
  rcases hc with⟨rfl,_,h2⟩ | ⟨rfl,_,h2⟩
  ·exact⟨hn,h2⟩
  ·exact⟨h2,hn⟩
theorem zwb{ps:List Pc}(nd:(ps.map (·.nm)).Nodup):(hubN ps).Nodup:=nd.sublist (List.Sublist.map _ (List.filter_sublist))
theorem zqo(ps:List Pc):(hubN ps).length<=ps.length:=by unfold hubN;rw[List.length_map];exact List.length_filter_le ..
theorem znz{ps:List Pc}{x:Str}(h:x∈hubN ps):∃p∈ps,p.nm=x:=by
 obtain⟨p,hp,e⟩:=List.mem_map.mp h;exact⟨p,(List.mem_filter.mp hp).1,e⟩
theorem z7e:∀k:Nat,k<26->(reprText (zei k)).length<=30:=by decide +kernel
structure Drw(ps:List Pc):Prop where
 nd:(ps.map (·.nm)).Nodup
 len:ps.length<=24
 w:∀p∈ps,p.w0.length+p.w1.length<=20
 sm:∀p∈ps,(reprText p.nm).length<=30
theorem Drawn.drw{ps:List Pc}(D:Drawn ps)(sm:∀p∈ps,(reprText p.nm).length<=30):Drw ps:=⟨D.nd,by have:=D.len;omega,fun p hp=>by have:=D.w p hp;omega,sm⟩
theorem z1a{a b x:Str}(h:(sec x).Nodup):(addS sec a b x).Nodup:=by
 unfold addS
 split
 ·rename_i e
  subst e
  split
  ·exact h
  ·rename_i hb
   exact List.nodup_append.mpr ⟨h,by simp,fun u hu v hv e=>hb (by rw[List.mem_singleton.mp hv] at e;exact e▸hu)⟩
 ·exact h
theorem zwc{nm x:Str}:∀(os:List Str) {sec:Str->List Str},(sec x).Nodup->((os.foldl (zdl names nm) sec) x).Nodup
 |[],sec,h=>h
 |o::os,sec,h=>zwc os (by unfold zdl;split;exact z1a h;exact h)
theorem zst{nm x:Str}:∀(os:List Str) {sec:Str->List Str},(sec x).Nodup->((os.foldl (zej names nm) sec) x).Nodup
 |[],sec,h=>h
 |o::os,sec,h=>zst os (by unfold zej;split;exact z1a h;exact h)
theorem z1b{x:Str}:∀(qs:List HP) {sec:Str->List Str},(sec x).Nodup->((qs.foldl (zjt names) sec) x).Nodup
 |[],sec,h=>h
 |q::qs,sec,h=>z1b qs (zst _ (zwc _ h))
theorem Zcp{hps:List HP}{ps:List Pc}(h:hps.map HP.core=ps.map Pc.full)(D:Drw ps):z02 (hubN ps) (zfn (hubN ps) (hps.filter hubH)):=by
 have hh:=zqn h;have hl:=zqo ps;have dl:=D.len;have sub:∀a b,b∈zfn (hubN ps) (hps.filter hubH) a->b∈hubN ps:=fun a b hb=>by
  obtain⟨q,hq,hc⟩:=zsp.mp hb;rcases hc with⟨_,_,h2⟩ | ⟨rfl,_,_⟩
  ·exact h2
  ·obtain⟨p,hp,e⟩:=zqm hh hq
   obtain⟨e1,_,_⟩:=zny e;exact List.mem_map.mpr ⟨p,hp,e1.symm⟩
 refine⟨⟨fun a ha b hb=>sub a b hb,fun a ha=>?_,by omega⟩,fun x hx=>?_,by omega⟩
 ·have:=zh5 _ _ (z1b (names:=hubN ps) (x:=a) (hps.filter hubH) (sec:=fun _=>[]) .nil) (sub a)
  show(zfn (hubN ps) (hps.filter hubH) a).length<=200;have:(zfn (hubN ps) (hps.filter hubH) a).length<=(hubN ps).length:=this;omega
 ·obtain⟨p,hp,rfl⟩:=znz hx
  exact D.sm p hp
theorem z3l(ns:List Int)(start many:Int)(h0:0<=many)(h1:many<=13):∀p∈pcs ns start many,(reprText p.nm).length<=30:=fun p hp=>by
 obtain⟨k,hk,rfl⟩:=List.mem_map.mp hp;have:=List.mem_range.mp hk;exact z7e k (by omega)
theorem z7f:PyData.strOk (Str.ofString "ring")=true:=by decide +kernel
theorem z7g:gEq (.tup [.str "ring"]) (.tup [.str "ring"]) S=.ok (.bl true) S:=by
 have e:pdS S (.tup [.str "ring"])=some (.tuple [.str "ring"]):=by simp[pdS,pd,pds]
 have t:toV (.tup [.str "ring"])=none:=rfl;have k:PyData.canLay0 (.tuple [.str "ring"])=true:=by
  have:=z7f;simp[PyData.canLay0,PyData.canLayAll0,this]
 have:=zky (.inl t) e e k k (by decide);simp[gEq,this,PyData.eqv,PyData.eqvAll]
theorem za5.keep{h:Nat}{pl:List PlM}{ps:List HP}{S':Sto}(A:za5 c S h pl ps)(hk:∀j,j<S.length->S'[j]?=S[j]?):za5 c S' h pl ps:=by
 have lk:∀{i:Nat} {v:Cell},S[i]?=some v->S'[i]?=some v:=fun {i v} e=>by
  rw[hk i (by
   by_cases z:i<S.length
   ·exact z
   ·rw[List.getElem?_eq_none (by omega)] at e;cases e)]
  exact e
 exact⟨lk A.hall,lk A.places,lk A.pieces,fun q hq=>lk (A.place q hq),fun p hp=>⟨lk (A.piece p hp).o,lk (A.piece p hp).a0,lk (A.piece p hp).a1,lk (A.piece p hp).a2,lk (A.piece p hp).a3⟩,A.far,A.pw,A.nd⟩
end DN
namespace DN
open PySem L2 MF
variable {c:Cl}{S:Sto}
structure Rn where
 kind:Str
 rule:Str
 num:T
 deeds:List T
 held:List T
 brk:Bool
 prs:List T
 fnd:T
 ard:List T
noncomputable def Rn.fs(x:Rn)(r:Nat):List (Str×T):=[("kind",.str x.kind),("rule",.str x.rule),("number",x.num),("deeds",.obj (r+1)),("held",.obj (r+2)),("broken",.bl x.brk),("pairs",.obj (r+3)),("found",x.fnd),("around",.obj (r+4))]
noncomputable def Rn.block(c:Cl)(x:Rn)(r:Nat):List Cell:=[.ins c.run (x.fs r),.lst x.deeds,.lst x.held,.lst x.prs,.lst x.ard]
structure zcl(c:Cl)(S:Sto)(r:Nat)(x:Rn):Prop where
 o:S[r]?=some (.ins c.run (x.fs r))
 d:S[r+1]?=some (.lst x.deeds)
 h:S[r+2]?=some (.lst x.held)
 p:S[r+3]?=some (.lst x.prs)
 a:S[r+4]?=some (.lst x.ard)
section
variable {r:Nat}{x:Rn}
theorem zcl.ins(R:zcl c S r x):zhg S c.run (.obj r)=some (r,x.fs r):=zgd R.o
theorem lkK:(x.fs r).lookup (Str.ofString "kind")=some (.str x.kind):=by simp[Rn.fs,List.lookup_cons]
theorem lkR:(x.fs r).lookup (Str.ofString "rule")=some (.str x.rule):=by simp[Rn.fs,List.lookup_cons]
theorem lkN:(x.fs r).lookup (Str.ofString "number")=some x.num:=by simp[Rn.fs,List.lookup_cons]
theorem lkD:(x.fs r).lookup (Str.ofString "deeds")=some (.obj (r+1)):=by simp[Rn.fs,List.lookup_cons]
theorem lkH:(x.fs r).lookup (Str.ofString "held")=some (.obj (r+2)):=by simp[Rn.fs,List.lookup_cons]
theorem lkB:(x.fs r).lookup (Str.ofString "broken")=some (.bl x.brk):=by simp[Rn.fs,List.lookup_cons]
theorem zsu:(x.fs r).length<900:=by simp[Rn.fs]
theorem zo2:(x.fs r).lookup (Str.ofString "over")=none:=by simp[Rn.fs,List.lookup_cons]
theorem z4w:(x.fs r).lookup (Str.ofString "step")=none:=by simp[Rn.fs,List.lookup_cons]
theorem z4x:(x.fs r).lookup (Str.ofString "perform")=none:=by simp[Rn.fs,List.lookup_cons]
theorem z4y:(x.fs r).lookup (Str.ofString "fall")=none:=by simp[Rn.fs,List.lookup_cons]
theorem Zay:(x.fs r).lookup (Str.ofString "hear")=none:=by simp[Rn.fs,List.lookup_cons]
theorem zuo:(x.fs r).lookup (Str.ofString "leave_the_rest")=none:=by simp[Rn.fs,List.lookup_cons]
theorem Zcq:(x.fs r).lookup (Str.ofString "answer")=none:=by simp[Rn.fs,List.lookup_cons]
theorem zxv(k ru:Str)(n:T)(ds:List T):zds c [.obj S.length,.str k,.str ru,n,.lst ds] (S++[.ins c.run []])=.ok .non (S++(Rn.mk k ru n ds [] false [] .non []).block c S.length):=by
 simp[zds,zjq,zxm,Rn.block,Rn.fs,zjo,zem]
theorem zcl.setD(R:zcl c S r x)(ds:List T):zcl c (S.set (r+1) (.lst ds)) r { x with deeds:=ds }:=
 ⟨by rw[zab (by omega)];exact R.o,zbq R.d,by rw[zab (by omega)];exact R.h,by rw[zab (by omega)];exact R.p,by rw[zab (by omega)];exact R.a⟩
theorem zcl.setO{y:Rn}(R:zcl c S r x)(e1:y.deeds=x.deeds)(e2:y.held=x.held)(e3:y.prs=x.prs)(e4:y.ard=x.ard):zcl c (S.set r (.ins c.run (y.fs r))) r y:=
 ⟨zbq R.o,by rw[zab (by omega),e1];exact R.d,by rw[zab (by omega),e2];exact R.h,by rw[zab (by omega),e3];exact R.p,by rw[zab (by omega),e4];exact R.a⟩
theorem zup(t:T):zk2 (Str.ofString "number") t (x.fs r)=Rn.fs { x with num:=t } r:=by simp[Rn.fs]
theorem z7h(b:Bool):zk2 (Str.ofString "broken") (.bl b) (x.fs r)=Rn.fs { x with brk:=b } r:=by simp[Rn.fs]
theorem zsv(R:zcl c S r x):zc4 c [.obj r] S=.ok (.bl x.deeds.isEmpty) S:=by
 have e:=znv (zd4 R.d);simp[zc4,zos,R.ins,lkD,e]
theorem zuq(R:zcl c S r x):zas c [.obj r] S=.ok .non (S.set (r+1) (.lst [])):=by
 simp[zas,zfh,R.ins,lkD,zgr R.d,zrl,cellL,R.d]
end
theorem zxw{ρ:Ev}{S1:Sto}{js:List Nat}{it:DI}{tc:DT}{te:DE}{ts:List T}{st:Sto->Prop}{p:T->Bool}{f:T->T}(hit:it ρ S=.ok (ts,st) S1)(hst:st S1)(hl:ts.length<=1000)
  (hc:∀t∈ts,tc (some t::js.map fun j=>(ρ[j]?).join) S1=.ok (p t) S1) (he:∀t∈ts,p t=true->te (some t::js.map fun j=>(ρ[j]?).join) S1=.ok (f t) S1) :
  zek 1 js it (zaz 0) tc te finF ρ S=.ok (.lst ((ts.filter p).map f)) S1:=by
 have e:=zg0 (ρ:=ρ) (S:=S1) (js:=js) (it:=fun _=>fun S=>.ok (ts,st) S) (tc:=tc) (te:=te) rfl hst hl hc he;unfold zek at e ⊢;rw[zan] at e ⊢;rw[hit];exact e
theorem z1c{ps dds:List HP}(nd:(ps.map (·.nm)).Nodup)(hd:∀p∈dds,p∈ps){p:HP}(hp:p∈dds):dds.find? (fun q=>decide (q.nm=p.nm))=some p:=by
 cases e:dds.find? (fun q=>decide (q.nm=p.nm)) with
 | none=>
   have:=List.find?_eq_none.mp e p hp;simp at this
 | some p'=>
   have h1:p'.nm=p.nm:=by simpa using List.find?_some e
   have h2:=zgo nd (hd p' (List.mem_of_find?_eq_some e));have h3:=zgo nd (hd p hp);rw[h1,h3] at h2;exact h2.symm
theorem zsw{h k:Nat}{pl:List PlM}{ps dds:List HP}{pm:PlM}{q:Str}{tn n:T}{S1:Sto}(A:za5 c S h pl ps)(hq:pl.find? (fun p=>decide (p.nm=q))=some pm)
  (eo:zcf c [.obj h,tn] S=.ok (.obj k) S1) (ek:S1[k]?=some (.lst (dds.map fun p=>.str p.nm))) (A1:za5 c S1 h pl ps) (hd:∀p∈dds,p∈ps) (hl:dds.length<=100) :
  zcs c [.obj h,.str q,tn,n] S=.ok (.obj S1.length) (S1++(Rn.mk pm.kind pm.rule n (dds.map fun p=>.tup [.str p.nm,p.dd]) [] false [] .non []).block c S1.length):=by
 have hm1:=zg9 (m:=Str.ofString "find_place") h (by simp) (by simp);have hm2:=zg9 (m:=Str.ofString "find_piece") h (by simp) (by simp);have e1:=zgn A hq;have pmm:pm∈pl:=List.mem_of_find?_eq_some hq;have Pl:=zgd (A1.place pm pmm);have cc:=zxw (ρ:=[some (.obj h),some (.str q),some tn,some n,some (.obj pm.i),none]) (S:=S) (S1:=S1) (js:=[0]) (it:=zdu c) (tc:=yesD) (te:=zgt c) (ts:=dds.map fun p=>.str p.nm) (st:=fun S'=>zam S' (.obj k)=some (dds.map fun p=>.str p.nm)) (p:=fun _=>true)
  (f:=fun t=>match t with|.str x=>(match dds.find? (fun p=>decide (p.nm=x)) with|some p=>.tup [.str x,p.dd] | none=>.non) | _=>.non)
  (by simp[zdu,eo,zd4 ek]) (zd4 ek) (by simp;omega) (fun t ht=>rfl) (fun t ht _=>by
   obtain⟨p,hp,rfl⟩:=List.mem_map.mp ht;have e2:=zgm A1 (zgo A1.nd (hd p hp));have e3:=z1c A1.nd hd hp;have Po:=zgd (A1.piece p (hd p hp)).o;have lk:p.fs.lookup (Str.ofString "deed")=some p.dd:=by simp[HP.fs,List.lookup_cons]
   simp[zgt,A1.ins,hm2,e2,Po,lk,e3])
 have ef:((dds.map fun p=>T.str p.nm).filter fun _=>true).map (fun t=>match t with|.str x=>(match dds.find? (fun p=>decide (p.nm=x)) with|some p=>T.tup [.str x,p.dd] | none=>.non) | _=>.non)=dds.map fun p=>T.tup [.str p.nm,p.dd]:=by
  rw[List.filter_eq_self.mpr (by simp),List.map_map];refine List.map_congr_left fun p hp=>?_;have e3:=z1c A1.nd hd hp;simp[e3]
 rw[ef] at cc;have ri:=zxv (c:=c) (S:=S1) pm.kind pm.rule n (dds.map fun p=>.tup [.str p.nm,p.dd]);generalize dds.map (fun p=>T.tup [.str p.nm,p.dd])=DL at cc ri ⊢;have lk1:List.lookup (Str.ofString "kind") [(Str.ofString "kind",T.str pm.kind),(Str.ofString "rule",T.str pm.rule)]=some (.str pm.kind):=by simp[List.lookup_cons]
 have lk2:List.lookup (Str.ofString "rule") [(Str.ofString "kind",T.str pm.kind),(Str.ofString "rule",T.str pm.rule)]=some (.str pm.rule):=by simp[List.lookup_cons]
 simp[zcs,ziv,A.ins,hm1,e1,cc,Pl,lk1,lk2,ri]
theorem z1d{x:Rn}:zcl c (S++x.block c S.length) S.length x:=⟨by rw[zsi];rfl,by rw[getR];rfl,by rw[getR];rfl,by rw[getR];rfl,by rw[getR];rfl⟩
end DN
namespace DN
open PySem L2 MF
variable {c:Cl}{S:Sto}
section
variable {S0:Sto}{h kg kl:Nat}{pl:List PlM}{ps:List HP}
theorem z1e{S S':Sto}(h:∀j,j<S.length->S'[j]?=S[j]?):S'.take S.length=S:=by
 refine List.ext_getElem? fun j=>?_;by_cases hj:j<S.length
 ·rw[List.getElem?_take_of_lt hj,h j hj]
 ·rw[List.getElem?_eq_none (by simp;omega),List.getElem?_eq_none (by omega)]
end
end DN
namespace DN
open PySem L2 MF
section
variable {nd:Str->Option (List Str)}{C:Str->Prop}{x:Str}
noncomputable def z4z(nd:Str->Option (List Str)):List Str->Option (List Str)
 |[]=>some []
 | x::xs=>match nd x with
   |none=>none
   |some ws=>(z4z nd xs).map (ws++·)
def clos(nd:Str->Option (List Str)):Nat->List Str->Option (List Str)
 |0,found=>some found
 | k+1,found=>match z4z nd found with
   |none=>none
   |some more=>clos nd k (Zag (dedS (found++more)))
end
end DN
namespace DN
open PySem L2 MF
variable {c:Cl}{S:Sto}
theorem zgg{f g:DS}{ρ r:Ev}{S S1:Sto}(h:f ρ S=.ok (.nx r) S1):sSeq f g ρ S=g r S1:=by rw[z92,zan,h]
theorem z7i{f g:DS}{ρ:Ev}{t:T}{S S1:Sto}(h:f ρ S=.ok (.rt t) S1):sSeq f g ρ S=.ok (.rt t) S1:=by rw[z92,zan,h];rfl
theorem zwd{it:DI}{g:DG}{body:DS}{ts:List T}{st:Sto->Prop}{ρ:Ev}{S S1:Sto}(hit:it ρ S=.ok (ts,st) S1):sFor it g body ρ S=za0 st g body ts ρ S1:=by
 unfold sFor;rw[zan,hit]
end DN
namespace DN
open PySem L2 MF
variable {c:Cl}{S:Sto}{sec:Str->List Str}{names:List Str}
theorem zxx{st:Sto->Prop}{g:DG}{body:DS}{v t:T}{B:List T}(Inv:Ev->Prop)(hst:st S)(ht:∀ρ,Inv ρ->∃ρ1,g t ρ=some ρ1/\body ρ1 S=.ok (.rt v) S) :
  ∀(A:List T) (ρ:Ev),Inv ρ->(∀u∈A,∀ρ,Inv ρ->∃ρ1,g u ρ=some ρ1/\∃ρ2,body ρ1 S=.ok (.nx ρ2) S/\Inv ρ2)->za0 st g body (A++t::B) ρ S=.ok (.rt v) S
 | [],ρ,h,_=>by
   obtain⟨ρ1,e1,e2⟩:=ht ρ h;rw[List.nil_append];unfold za0;rw[if_pos hst,e1];simp only[zan,e2];rfl
 | u::A,ρ,h,ha=>by
   obtain⟨ρ1,e1,ρ2,e2,h2⟩:=ha u (List.mem_cons_self ..) ρ h;rw[List.cons_append];unfold za0;rw[if_pos hst,e1];simp only[zan,e2];exact zxx Inv hst ht A ρ2 h2 fun w hw=>ha w (List.mem_cons_of_mem _ hw)
theorem zl3{st:Sto->Prop}{g:DG}{body:DS}(Inv:Ev->Prop)(hst:st S):∀(A:List T) (ρ:Ev),Inv ρ->(∀u∈A,∀ρ,Inv ρ->∃ρ1,g u ρ=some ρ1/\∃ρ2,body ρ1 S=.ok (.nx ρ2) S/\Inv ρ2)->∃ρ',za0 st g body A ρ S=.ok (.nx ρ') S/\Inv ρ'
 |[],ρ,h,_=>⟨ρ,by unfold za0;rw[if_pos hst],h⟩
 | u::A,ρ,h,ha=>by
   obtain⟨ρ1,e1,ρ2,e2,h2⟩:=ha u (List.mem_cons_self ..) ρ h;obtain⟨ρ',e3,h3⟩:=zl3 (st:=st) (g:=g) (body:=body) Inv hst A ρ2 h2 fun w hw=>ha w (List.mem_cons_of_mem _ hw);refine⟨ρ',?_,h3⟩;unfold za0;rw[if_pos hst,e1];simp only[zan,e2];exact e3
theorem zke{n:Nat}{d:DS}{ts:List T}{t:T}{S S':Sto}{ρ:Ev}(hρ:ts.map some++List.replicate (n-ts.length) none=ρ)(h:d ρ S=.ok (.rt t) S'):runD n d ts S=.ok t S':=by subst hρ;rw[z93,h]
theorem zh6{F:Fn}{fr:DA}{ρ:Ev}{ts:List T}{t:T}{n:Nat}{S S1 S2:Sto}(hr:fr ρ S=.ok ts S1)(hl:ts.length=n)(h:F ts S1=.ok t S2):zbe (lenF n F) [] fr ρ S=.ok t S2:=by
 rw[z94,zan,hr];show lenF n F (ts++[]) S1=_;rw[List.append_nil,Zb9,if_pos hl,h]
theorem zb8{a:DE}{r:DA}{ρ:Ev}{t:T}{ts:List T}{S S1 S2:Sto}(h1:a ρ S=.ok t S1)(h2:r ρ S1=.ok ts S2):zad a r ρ S=.ok (t::ts) S2:=by
 rw[z6q,zan,h1];show(r ρ).bind _ S1=_;rw[zan,h2];rfl
theorem z1f{f:DE}{ρ:Ev}{t:T}{S S1:Sto}(h:f ρ S=.ok t S1):sRet f ρ S=.ok (.rt t) S1:=by rw[Zb7,zan,h];rfl
theorem zjc{f:DE}{ρ:Ev}{i:Nat}{t:T}{S S1:Sto}(h:f ρ S=.ok t S1):sSet i f ρ S=.ok (.nx (ρ.set i (some t))) S1:=by rw[Zb8,zan,h];rfl
end DN
namespace DN
open PySem L2 MF
variable {c:Cl}{S:Sto}
inductive Dd where
 |add (a:Int) | say (a:Int) | non | fail (a:Int)
noncomputable def Dd.t:Dd->T
 |.add a=>.tup [.str "add",.int a]
 |.say a=>.tup [.str "say",.int a]
 |.non=>.tup [.str "none"]
 |.fail a=>.tup [.str "fail",.int a]
noncomputable def Dd.said:Dd->Int->T
 |.add a,n=>.int (n+a)
 |.say a,_=>.int a
 |_,_=>.non
abbrev Rd:=Str×Dd
def rdT(p:Rd):T:=.tup [.str p.1,p.2.t]
def flT(p:Str×Int):T:=.tup [.str p.1,.int p.2]
theorem zo3(d:Dd)(n:Int):zib c [d.t,.int n] S=.ok (d.said n) S:=by
 cases d<;>simp[zib,z4q,Dd.t,Dd.said]
structure Rs where
 kind:Str
 rule:Str
 num:Int
 deeds:List Rd
 held:List (Str×Int)
 brk:Bool
 prs:List (Str×T)
 fnd:T
 ard:List Int
def prT(p:Str×T):T:=.tup [.str p.1,p.2]
noncomputable def Rs.x(x:Rs):Rn:=⟨x.kind,x.rule,.int x.num,x.deeds.map rdT,x.held.map flT,x.brk,x.prs.map prT,x.fnd,x.ard.map .int⟩
noncomputable def Rs.step (x:Rs) (p:Rd) (ds:List Rd):Rs:=match p.2 with
 |.fail a=>{ x with deeds:=ds,held:=x.held++[(p.1,a)] }
 | d=>if x.kind = "all" then { x with deeds:=ds,prs:=x.prs++[(p.1,d.said x.num)] }
   else if x.kind = "round" then(match d with
    |.add a=>{ x with deeds:=ds,ard:=x.ard++[a],num:=x.num+a }
    |.say a=>{ x with deeds:=[],num:=a }
    |_=>{ x with deeds:=ds })
   else match d with
    |.add a=>if x.kind = "first" then { x with deeds:=[],fnd:=.int (x.num+a) } else { x with deeds:=ds,num:=x.num+a }
    |.say a=>if x.kind = "first" then { x with deeds:=[],fnd:=.int a } else { x with deeds:=ds,num:=a }
    |_=>{ x with deeds:=ds }
structure zc6(S S':Sto)(r:Nat):Prop where
 len:S'.length=S.length
 same:∀j,(j<r\/r+5<=j)->S'[j]?=S[j]?
theorem zc6.set{r i:Nat}{v:Cell}(h1:r<=i)(h2:i<r+5):zc6 S (S.set i v) r:=⟨by simp,fun j hj=>zab (by omega)⟩
theorem zc6.trans{S1 S2:Sto}{r:Nat}(a:zc6 S S1 r)(b:zc6 S1 S2 r):zc6 S S2 r:=⟨b.len.trans a.len,fun j hj=>(b.same j hj).trans (a.same j hj)⟩
theorem zc6.refl(S:Sto)(r:Nat):zc6 S S r:=⟨rfl,fun _ _=>rfl⟩
section
variable {r:Nat}{x:Rn}
theorem zcl.setH(R:zcl c S r x)(hs:List T):zcl c (S.set (r+2) (.lst hs)) r { x with held:=hs }:=
 ⟨by rw[zab (by omega)];exact R.o,by rw[zab (by omega)];exact R.d,zbq R.h,by rw[zab (by omega)];exact R.p,by rw[zab (by omega)];exact R.a⟩
theorem zcl.setP(R:zcl c S r x)(hs:List T):zcl c (S.set (r+3) (.lst hs)) r { x with prs:=hs }:=
 ⟨by rw[zab (by omega)];exact R.o,by rw[zab (by omega)];exact R.d,by rw[zab (by omega)];exact R.h,zbq R.p,by rw[zab (by omega)];exact R.a⟩
theorem zcl.setA(R:zcl c S r x)(hs:List T):zcl c (S.set (r+4) (.lst hs)) r { x with ard:=hs }:=
 ⟨by rw[zab (by omega)];exact R.o,by rw[zab (by omega)];exact R.d,by rw[zab (by omega)];exact R.h,by rw[zab (by omega)];exact R.p,zbq R.a⟩
theorem lkP:(x.fs r).lookup (Str.ofString "pairs")=some (.obj (r+3)):=by simp[Rn.fs,List.lookup_cons]
theorem lkF:(x.fs r).lookup (Str.ofString "found")=some x.fnd:=by simp[Rn.fs,List.lookup_cons]
theorem lkA:(x.fs r).lookup (Str.ofString "around")=some (.obj (r+4)):=by simp[Rn.fs,List.lookup_cons]
theorem noGo:(x.fs r).lookup (Str.ofString "go_within")=none:=by simp[Rn.fs,List.lookup_cons]
theorem z7j(t:T):zk2 (Str.ofString "found") t (x.fs r)=Rn.fs { x with fnd:=t } r:=by simp[Rn.fs]
theorem z40(R:zcl c S r x){nm:Str}{cd:T}(sm:Sm nm)(hl:x.held.length<900) :
  (x.rule = "hand" -> ∃S',zes c [.obj r,.str nm,cd] S=.exc c.deedFault (some [("piece",.str nm),("code",cd)]) S'/\zcl c S' r { x with brk:=true,deeds:=[] }/\zc6 S S' r) /\
  (x.rule ≠ "hand" -> ∃S',zes c [.obj r,.str nm,cd] S=.ok .non S'/\zcl c S' r { x with held:=x.held++[.tup [.str nm,cd]] }/\zc6 S S' r):=by
 refine⟨fun hr=>?_,fun hr=>?_⟩
 ·obtain⟨kind,rule,num,deeds,held,brk,prs,fnd,ard⟩:=x
  simp only at hr;subst hr;have R1:=R.setO (y:=⟨kind, "hand",num,deeds,held,true,prs,fnd,ard⟩) rfl rfl rfl rfl;have R2:=R1.setD [];have l:=zuq R1;have ok:okM false (.str nm) cd=true:=by
   unfold Sm at sm;simp[okM,okW];omega
  refine⟨_,?_,R2,(zc6.set (by omega) (by omega)).trans (zc6.set (by omega) (by omega))⟩;simp[zes,zk7,R.ins,lkR,z7h,zsu,R1.ins,zuo,l,zpu,ok]
 ·have ap:=zn5 (y:=.tup [.str nm,cd]) R.h (by omega)
  refine⟨_,?_,R.setH _,zc6.set (by omega) (by omega)⟩;simp[zes,zk7,R.ins,lkR,hr,lkH,zgr R.h,ap]
theorem Zaz(R:zcl c S r x)(t:T):∃S',zfq c [.obj r,t] S=.ok .non S'/\zcl c S' r (if x.kind = "first" then { x with fnd:=t,deeds:=[] } else { x with num:=t })/\zc6 S S' r:=by
 by_cases h:x.kind = "first"
 ·rw[if_pos h]
  obtain⟨kind,rule,num,deeds,held,brk,prs,fnd,ard⟩:=x;simp only at h;subst h;have R1:=R.setO (y:=⟨"first",rule,num,deeds,held,brk,prs,t,ard⟩) rfl rfl rfl rfl;have l:=zuq R1;refine⟨_,?_,R1.setD [],(zc6.set (by omega) (by omega)).trans (zc6.set (by omega) (by omega))⟩;simp[zfq,zk8,R.ins,lkK,z7j,zsu,R1.ins,zuo,l]
 ·rw[if_neg h]
  refine⟨_,?_,R.setO (y:={ x with num:=t }) rfl rfl rfl rfl,zc6.set (by omega) (by omega)⟩;simp[zfq,zk8,R.ins,lkK,h,zup,zsu]
theorem z3m(R:zcl c S r x){n:Int}(hn:x.num=.int n)(hl:x.ard.length<900)(d:Dd):∃S',zbt c [.obj r,d.t] S=.ok .non S'/\zcl c S' r (match d with
   |.add a=>{ x with ard:=x.ard++[.int a],num:=.int (n+a) }
   |.say a=>{ x with num:=.int a,deeds:=[] }
   |_=>x)/\zc6 S S' r:=by
 cases d with
 | add a=>
   have ap:=zn5 (y:=.int a) R.a (by omega);have R1:=R.setA (x.ard++[.int a]);have sa:=zo3 (c:=c) (S:=S.set (r+4) (.lst (x.ard++[.int a]))) (.add a) n;refine⟨_,?_,R1.setO (y:={ x with ard:=x.ard++[.int a],num:=.int (n+a) }) rfl rfl rfl rfl,(zc6.set (by omega) (by omega)).trans (zc6.set (by omega) (by omega))⟩;simp only[Dd.t,Dd.said] at sa;simp[zbt,zde,Dd.t,R.ins,lkA,zgr R.a,ap,R1.ins,lkN,hn,sa,zsu,zup]
 | say a=>
   have R1:=R.setO (y:={ x with num:=.int a }) rfl rfl rfl rfl;have sa:=zo3 (c:=c) (S:=S) (.say a) n;have l:=zuq R1;refine⟨_,?_,R1.setD [],(zc6.set (by omega) (by omega)).trans (zc6.set (by omega) (by omega))⟩;simp only[Dd.t,Dd.said] at sa;simp[zbt,zde,Dd.t,R.ins,lkN,hn,sa,zsu,zup,R1.ins,zuo,l]
 |non=>exact⟨S,by simp[zbt,zde,Dd.t],R,zc6.refl S r⟩
 |fail a=>exact⟨S,by simp[zbt,zde,Dd.t],R,zc6.refl S r⟩
end
end DN
namespace DN
open PySem L2 MF
variable {c:Cl}{S:Sto}{r:Nat}
structure Rs.ok(x:Rs):Prop where
 kind:x.kind = "all" \/ x.kind = "first" \/ x.kind = "chain" \/ x.kind = "round"
 rule:x.rule = "hold" \/ x.rule = "hand"
 sm:∀p∈x.deeds,Sm p.1
 len:x.deeds.length+x.held.length<=100/\x.deeds.length+x.prs.length<=100/\x.deeds.length+x.ard.length<=100
theorem z1g{x:Rs}(R:zcl c S r x.x)(ok:x.ok){p:Rd}(sm:Sm p.1) :
  ((∃a,p.2=.fail a/\x.rule = "hand")->∃a S',p.2=.fail a/\zbg c [.obj r,.str p.1,p.2.t] S=.exc c.deedFault (some [("piece",.str p.1),("code",.int a)]) S'/\zcl c S' r (Rs.x { x with brk:=true,deeds:=[] })/\zc6 S S' r) /\
  (¬(∃a,p.2=.fail a/\x.rule = "hand")->∃S',zbg c [.obj r,.str p.1,p.2.t] S=.ok .non S'/\zcl c S' r (Rs.x (x.step p x.deeds))/\zc6 S S' r):=by
 obtain⟨nm,d⟩:=p;simp only at sm ⊢;have l:=ok.len;have hh:x.x.held.length<900:=by simp[Rs.x];omega
 have hp:x.x.prs.length<900:=by simp[Rs.x];omega
 have ha:x.x.ard.length<900:=by simp[Rs.x];omega
 have en:x.x.num=.int x.num:=rfl;have ek:x.x.kind=x.kind:=rfl;refine⟨fun⟨a,e,hr⟩=>?_,fun hn=>?_⟩
 ·subst e
  obtain⟨S',e,R',k⟩:=(z40 R (nm:=nm) (cd:=.int a) sm hh).1 hr;refine⟨a,S',rfl,?_,R',k⟩;simp[zbg,zct,Dd.t,R.ins,z4y,e]
 ·by_cases hf:∃a,d=.fail a
  ·obtain⟨a,rfl⟩:=hf
   have hr:x.x.rule ≠ "hand":=fun h=>hn ⟨a,rfl,h⟩;obtain⟨S',e,R',k⟩:=(z40 R (nm:=nm) (cd:=.int a) sm hh).2 hr;refine⟨S',?_,?_,k⟩
   ·simp[zbg,zct,Dd.t,R.ins,z4y,e]
   ·have:({ x.x with held:=x.x.held++[.tup [.str nm,.int a]] }:Rn)=Rs.x (x.step (nm,.fail a) x.deeds):=by simp[Rs.x,Rs.step,flT]
    rw[<- this];exact R'
  have nf:∀a,d≠.fail a:=fun a e=>hf ⟨a,e⟩;have sa:=zo3 (c:=c) (S:=S) d x.num;have hear:(x.kind = "first" \/ x.kind = "chain")->∃S',zbg c [.obj r,.str nm,d.t] S=.ok .non S'/\zcl c S' r (Rs.x (x.step (nm,d) x.deeds))/\zc6 S S' r:=fun h=>by
   by_cases hd:d=.non
   ·subst hd
    refine⟨S,?_,?_,zc6.refl S r⟩
    ·rcases h with h | h<;>simp[zbg,zct,Dd.t,R.ins,lkK,ek,h]
    ·have:x.x=Rs.x (x.step (nm,.non) x.deeds):=by rcases h with h | h<;>simp[Rs.x,Rs.step,h]
     rw[<- this];exact R
   ·obtain⟨S',e,R',k⟩:=Zaz R (d.said x.num)
    refine⟨S',?_,?_,k⟩
    ·cases d with
     |fail a=>exact absurd rfl (nf a)
     |non=>exact absurd rfl hd
     | _=>
       simp only[Dd.t,Dd.said] at sa e ⊢;rcases h with h | h<;>simp[zbg,zct,R.ins,lkK,ek,h,Zay,lkN,en,sa,e]
    ·have:(if x.x.kind = "first" then({ x.x with fnd:=d.said x.num,deeds:=[] }:Rn) else { x.x with num:=d.said x.num })=Rs.x (x.step (nm,d) x.deeds):=by
      cases d with
      |fail a=>exact absurd rfl (nf a)
      |non=>exact absurd rfl hd
      |_=>rcases h with h | h<;>simp[Rs.x,Rs.step,h,Dd.said]
     rw[<- this];exact R'
  rcases ok.kind with h | h | h | h
  ·have ap:=zn5 (y:=.tup [.str nm,d.said x.num]) R.p (by omega)
   refine⟨S.set (r+3) (.lst (x.x.prs++[.tup [.str nm,d.said x.num]])),?_,?_,zc6.set (by omega) (by omega)⟩
   ·cases d with
    |fail a=>exact absurd rfl (nf a)
    | _=>
      simp only[Dd.t,Dd.said] at sa ap ⊢;simp[zbg,zct,R.ins,lkK,ek,h,lkP,zgr R.p,lkN,en,sa,ap]
   ·have:({ x.x with prs:=x.x.prs++[.tup [.str nm,d.said x.num]] }:Rn)=Rs.x (x.step (nm,d) x.deeds):=by
     cases d with
     |fail a=>exact absurd rfl (nf a)
     |_=>simp[Rs.x,Rs.step,h,prT]
    rw[<- this];exact R.setP _
  ·exact hear (.inl h)
  ·exact hear (.inr h)
  ·obtain⟨S',e,R',k⟩:=z3m R en ha d
   refine⟨S',?_,?_,k⟩
   ·cases d with
    |fail a=>exact absurd rfl (nf a)
    | _=>
      simp only[Dd.t] at e ⊢;simp[zbg,zct,R.ins,lkK,ek,h,noGo,e]
   ·cases d with
    |fail a=>exact absurd rfl (nf a)
    | add a=>
      have:({ x.x with ard:=x.x.ard++[.int a],num:=.int (x.num+a) }:Rn)=Rs.x (x.step (nm,.add a) x.deeds):=by simp[Rs.x,Rs.step,h]
      rw[<- this];exact R'
    | say a=>
      have:({ x.x with num:=.int a,deeds:=[] }:Rn)=Rs.x (x.step (nm,.say a) x.deeds):=by simp[Rs.x,Rs.step,h]
      rw[<- this];exact R'
    | non=>
      have:x.x=Rs.x (x.step (nm,.non) x.deeds):=by simp[Rs.x,Rs.step,h]
      rw[<- this];exact R'
theorem Za0{x:Rs}(R:zcl c S r x.x)(ok:x.ok){p:Rd}{ds:List Rd}(hd:x.deeds=p::ds) :
  ((∃a,p.2=.fail a/\x.rule = "hand")->∃a S',p.2=.fail a/\zet c [.obj r] S=.exc c.deedFault (some [("piece",.str p.1),("code",.int a)]) S'/\zcl c S' r (Rs.x { x with brk:=true,deeds:=[] })/\zc6 S S' r) /\
  (¬(∃a,p.2=.fail a/\x.rule = "hand")->∃S',zet c [.obj r] S=.ok (.str p.1) S'/\zcl c S' r (Rs.x (x.step p ds))/\zc6 S S' r):=by
 have sm:=ok.sm p (by rw[hd];simp);have o:=zsv R;have ed:x.x.deeds=rdT p::ds.map rdT:=by simp[Rs.x,hd]
 rw[ed] at o;have d:=R.d;rw[ed] at d;have R1:zcl c (S.set (r+1) (.lst (ds.map rdT))) r (Rs.x { x with deeds:=ds }):=R.setD (ds.map rdT);have k1:zc6 S (S.set (r+1) (.lst (ds.map rdT))) r:=zc6.set (by omega) (by omega);have ok1:Rs.ok { x with deeds:=ds }:=⟨ok.kind,ok.rule,fun q hq=>ok.sm q (by rw[hd];exact List.mem_cons_of_mem _ hq),by have:=ok.len;rw[hd] at this;simp at this ⊢;omega⟩;obtain⟨p1,p2⟩:=z1g R1 ok1 (p:=p) sm;have i0:∀Z,gIx (rdT p) (.int 0) Z=.ok (.str p.1) Z:=fun Z=>by simp[rdT]
 have i1:∀Z,gIx (rdT p) (.int 1) Z=.ok p.2.t Z:=fun Z=>by simp[rdT]
 have pop:zoo (.obj (r+1)) [.int 0] S=.ok (rdT p) (S.set (r+1) (.lst (ds.map rdT))):=by simp[zoo,cellL,d]
 have o:zc4 c [.obj r] S=.ok (.bl false) S:=o;generalize rdT p=PT at i0 i1 pop d;generalize p.2.t=DT at i1 p1 p2;refine⟨fun h=>?_,fun h=>?_⟩
 ·obtain⟨a,S',e0,e,R',k⟩:=p1 h
  refine⟨a,S',e0,?_,R',k1.trans k⟩;simp[zet,zk9,R.ins,zo2,o,lkD,zgr d,pop,R1.ins,z4x,i0,i1,e]
 ·obtain⟨S',e,R',k⟩:=p2 h
  refine⟨S',?_,?_,k1.trans k⟩
  ·simp[zet,zk9,R.ins,zo2,o,lkD,zgr d,pop,R1.ins,z4x,i0,i1,e]
  ·have:Rs.step { x with deeds:=ds } p ds=x.step p ds:=rfl
   rw[<- this];exact R'
end DN
namespace DN
open PySem L2 MF
variable {c:Cl}{S:Sto}{r:Nat}
noncomputable def zjk(k:Str):Dd->Bool
 |.add _=>decide (k = "first")
 |.say _=>decide (k = "first") || decide (k = "round")
 |_=>false
noncomputable def zhc(rule:Str):Dd->Option Int
 |.fail a=>if rule = "hand" then some a else none
 |_=>none
noncomputable def fin:List Rd->Rs->Except (Str×Int) Rs
 |[],x=>.ok x
 | p::ds,x=>match zhc x.rule p.2 with
   |some a=>.error (p.1,a)
   |none=>if zjk x.kind p.2 then .ok (x.step p ds) else fin ds (x.step p ds)
theorem zhd{x:Rs}(p:Rd)(ds:List Rd):(x.step p ds).kind=x.kind/\(x.step p ds).rule=x.rule/\(x.step p ds).brk=x.brk/\(x.step p ds).deeds=(if zjk x.kind p.2 then[] else ds):=by
 obtain⟨nm,d⟩:=p;by_cases h1:x.kind = "all"
 ·cases d<;>simp[Rs.step,zjk,h1]
 ·by_cases h2:x.kind = "round"
  ·cases d<;>simp[Rs.step,zjk,h2]
  ·by_cases h3:x.kind = "first"
   ·cases d<;>simp[Rs.step,zjk,h3]
   ·cases d<;>simp[Rs.step,zjk,h1,h2,h3]
theorem zwe{x:Rs}(p:Rd)(ds:List Rd):(x.step p ds).held.length<=x.held.length+1/\(x.step p ds).prs.length<=x.prs.length+1/\(x.step p ds).ard.length<=x.ard.length+1:=by
 obtain⟨nm,d⟩:=p;by_cases h1:x.kind = "all"
 ·cases d<;>simp[Rs.step,h1]
 ·by_cases h2:x.kind = "round"
  ·cases d<;>simp[Rs.step,h2]
  ·by_cases h3:x.kind = "first"
   ·cases d<;>simp[Rs.step,h3]
   ·cases d<;>simp[Rs.step,h1,h2,h3]
theorem z7k{x:Rs}(ok:x.ok){p:Rd}{ds:List Rd}(hd:x.deeds=p::ds):(x.step p ds).ok:=by
 obtain⟨e1,e2,_,e4⟩:=zhd (x:=x) p ds;obtain⟨l1,l2,l3⟩:=zwe (x:=x) p ds;have l:=ok.len;rw[hd] at l;have dl:(x.step p ds).deeds.length<=ds.length:=by rw[e4];split<;>simp
 refine⟨by rw[e1];exact ok.kind,by rw[e2];exact ok.rule,fun q hq=>?_,by simp at l;omega⟩;rw[e4] at hq
 split at hq
 ·cases hq
 ·exact ok.sm q (by rw[hd];exact List.mem_cons_of_mem _ hq)
theorem zsx{rule:Str}{d:Dd}:(∃a,d=.fail a/\rule = "hand")↔∃a,zhc rule d=some a:=by
 cases d<;>simp[zhc]
theorem zsy:∀(ds:List Rd) (x:Rs) (n:Nat) {S:Sto},zcl c S r x.x->x.ok->x.brk=false->x.deeds=ds->ds.length<n ->
  ∃ S',zc6 S S' r/\match fin ds x with
    |.ok y=>zbs (zdi c) (zd6 c) n [some (.obj r)] S=.ok (.nx [some (.obj r)]) S'/\zcl c S' r y.x/\y.deeds=[]/\y.brk=false
    |.error (nm,a)=>zbs (zdi c) (zd6 c) n [some (.obj r)] S=.exc c.deedFault (some [("piece",.str nm),("code",.int a)]) S'
 | [],x,n,S,R,ok,hb,hd,hn=>by
   obtain⟨n,rfl⟩:∃m,n=m+1:=⟨n-1,by omega⟩;have o:=zsv R;have e:x.x.deeds.isEmpty=true:=by simp[Rs.x,hd]
   rw[e] at o;refine⟨S,zc6.refl S r,?_,R,hd,hb⟩;exact zv9 (by simp[zdi,R.ins,zo2,o])
 | p :: ds,x,n,S,R,ok,hb,hd,hn=>by
   obtain⟨n,rfl⟩:∃m,n=m+1:=⟨n-1,by omega⟩;have o:=zsv R;have e:x.x.deeds.isEmpty=false:=by simp[Rs.x,hd]
   rw[e] at o;have w0:zdi c [some (.obj r)] S=.ok true S:=by simp[zdi,R.ins,zo2,o]
   obtain⟨s1,s2⟩:=Za0 R ok hd;unfold fin;cases hf:zhc x.rule p.2 with
   | some a=>
     obtain⟨a',S',e0,e,-,k⟩:=s1 (zsx.mpr ⟨a,hf⟩);have:a'=a:=by
      rw[e0] at hf;have:=(by simpa[zhc] using hf:x.rule = "hand" /\ a'=a);exact this.2
     subst this;exact⟨S',k,z7c w0 (by simp[zd6,R.ins,z4w,e])⟩
   | none=>
     obtain⟨S1,e,R1,k⟩:=s2 (fun h=>by obtain⟨a,ha⟩:=zsx.mp h;rw[hf] at ha;cases ha);have b0:zd6 c [some (.obj r)] S=.ok (.nx [some (.obj r)]) S1:=by simp[zd6,R.ins,z4w,e]
     obtain⟨e1,e2,e3,e4⟩:=zhd (x:=x) p ds;have ok1:=z7k ok hd;rw[Zav w0 b0];have hb1:=e3.trans hb;simp only;by_cases hs:zjk x.kind p.2=true
     ·rw[if_pos hs] at e4 ⊢
      obtain⟨n,rfl⟩:∃m,n=m+1:=⟨n-1,by simp at hn;omega⟩;have o:=zsv R1;have e:(x.step p ds).x.deeds.isEmpty=true:=by simp[Rs.x,e4]
      rw[e] at o;refine⟨S1,k,?_,R1,e4,hb1⟩;exact zv9 (by simp[zdi,R1.ins,zo2,o])
     ·rw[if_neg hs] at e4 ⊢
      obtain⟨S',k2,ih⟩:=zsy ds (x.step p ds) n R1 ok1 hb1 e4 (by simp at hn;omega);exact⟨S',k.trans k2,ih⟩
noncomputable def zod(n:Int)(ard:List Int):Int:=ard.foldr (fun o b=>b*10+o) n
theorem Za1(n:Int)(ard:List Int){t:T}(hl:ard.length<=1000)(ht:zam S t=some (ard.map .int)):zdt c [.int n,t] S=.ok (.int (zod n ard)) S:=by
 have run:∀(l:List Int) (b:Int) {x3:Option T},∃x3',za0 (fun S'=>zam S' t=some (ard.map T.int)) (zaz 3) (zdx c) (l.map .int) [some (.int n),some t,some (.int b),x3] S=.ok (.nx [some (.int n),some t,some (.int (l.foldl (fun b o=>b*10+o) b)),x3']) S:=fun l=>by
  induction l with
  |nil=>exact fun b x3=>⟨x3,by simp[za0,ht]⟩
  | cons o l ih=>
    intro b x3;obtain⟨x3',e⟩:=ih (b*10+o) (x3:=some (.int o));refine⟨x3',?_⟩;have hb:zdx c [some (.int n),some t,some (.int b),some (.int o)] S=.ok (.nx [some (.int n),some t,some (.int (b*10+o)),some (.int o)]) S:=by simp[zdx]
    simp only[List.map_cons,za0,ht,if_true,zaz,List.set_cons_succ,List.set_cons_zero,zan,hb];exact e
 obtain⟨x3,e⟩:=run ard.reverse n (x3:=none);have hit:iRev (zad (eVar 1) aNil) [some (.int n),some t,some (.int n),none] S=.ok (ard.reverse.map .int,fun S'=>zam S' t=some (ard.map T.int)) S:=by simp[ht]
 have ef:ard.reverse.foldl (fun b o=>b*10+o) n=zod n ard:=by rw[List.foldl_reverse];rfl
 rw[ef] at e;have e:=(zwd hit).trans e;unfold zdt;refine zke (ρ:=[some (.int n),some t,none,none]) rfl ?_;unfold zjr;rw[zgg (zjc (t:=.int n) (S1:=S) (by simp))];exact(zgg e).trans (by simp)
noncomputable def Rs.ans(y:Rs):T:=if y.kind = "all" then .lst (y.prs.map prT) else if y.kind = "first" then y.fnd else if y.kind = "chain" then .int y.num else .int (zod y.num y.ard)
theorem z3n{y:Rs}(R:zcl c S r y.x)(hk:y.kind = "all" \/ y.kind = "first" \/ y.kind = "chain" \/ y.kind = "round")(hd:y.deeds=[])(hb:y.brk=false)(hl:y.ard.length<=1000):ze8 c [.obj r] S=.ok y.ans S:=by
 have o:=zsv R;have e:y.x.deeds.isEmpty=true:=by simp[Rs.x,hd]
 rw[e] at o;have ek:y.x.kind=y.kind:=rfl;have eb:y.x.brk=y.brk:=rfl;have en:y.x.num=.int y.num:=rfl;have ef:y.x.fnd=y.fnd:=rfl;have gl:zm6 (.obj (r+3)) S=.ok (.lst (y.prs.map prT)) S:=by
  have:=zhb (zd4 R.p);simp[zm6,zem,this,Rs.x]
 have bk:=Za1 (c:=c) (S:=S) y.num y.ard (t:=.obj (r+4)) hl (zd4 R.a);unfold Rs.ans;rcases hk with h | h | h | h<;>simp[ze8,zly,R.ins,lkB,eb,hb,zo2,o,lkK,ek,h,lkP,gl,lkF,ef,lkN,en,lkA,bk]
theorem z3o{y:Rs}(R:zcl c S r y.x):ze9 c [.obj r] S=.ok (.lst (y.held.map flT)) S:=by
 have gl:zm6 (.obj (r+2)) S=.ok (.lst (y.held.map flT)) S:=by
  have:=zhb (zd4 R.h);simp[zm6,zem,this,Rs.x]
 simp[ze9,zlz,R.ins,lkH,gl]
theorem zqp:∀(ds:List Rd) (x:Rs) {y:Rs},fin ds x=.ok y->y.kind=x.kind/\y.ard.length<=x.ard.length+ds.length
 |[],x,y,e=>by cases e;exact⟨rfl,by simp⟩
 | p :: ds,x,y,e=>by
   unfold fin at e;obtain⟨e1,_⟩:=zhd (x:=x) p ds;obtain⟨_,_,l3⟩:=zwe (x:=x) p ds;cases hf:zhc x.rule p.2 with
   |some a=>simp[hf] at e
   | none=>
     simp only[hf] at e
     split at e
     ·cases e;exact⟨e1,by simp;omega⟩
     ·obtain⟨h1,h2⟩:=zqp ds _ e
      exact⟨h1.trans e1,by simp;omega⟩
theorem z3p{x:Rn}:(x.fs r).lookup (Str.ofString "faults")=none:=by simp[Rn.fs,List.lookup_cons]
theorem z3q{x:Rs}(R:zcl c S r x.x)(ok:x.ok)(hb:x.brk=false) :
  ∃ S',zc6 S S' r/\match fin x.deeds x with
    |.ok y=>zeb c [.obj r] S=.ok (.tup [y.ans,.lst (y.held.map flT)]) S'
    |.error (nm,a)=>zeb c [.obj r] S=.exc c.deedFault (some [("piece",.str nm),("code",.int a)]) S':=by
 have l:=ok.len;obtain⟨S',k,h⟩:=zsy (c:=c) x.deeds x 1000 R ok hb rfl (by omega);refine⟨S',k,?_⟩;cases e:fin x.deeds x with
 | error q=>
   obtain⟨nm,a⟩:=q;rw[e] at h;have W:zh8 (zdi c) (zd6 c) [some (.obj r)] S=.exc c.deedFault (some [("piece",.str nm),("code",.int a)]) S':=h;simp[zeb,zpy,W]
 | ok y=>
   rw[e] at h;obtain⟨h1,R',hd,hb'⟩:=h;have W:zh8 (zdi c) (zd6 c) [some (.obj r)] S=.ok (.nx [some (.obj r)]) S':=h1;have ky:=zqp x.deeds x e;have fa:=z3n R' (by rw[ky.1];exact ok.kind) hd hb' (by omega);have ff:=z3o R';show zeb c [.obj r] S=.ok (.tup [y.ans,.lst (y.held.map flT)]) S';generalize y.ans=A at fa ⊢;simp[zeb,zpy,W,R'.ins,Zcq,z3p,fa,ff]
end DN
namespace DN
open PySem L2 MF
variable {c:Cl}{S:Sto}{r:Nat}
noncomputable def za6(k:Str):List Rd->List (Str×Int)
 |[]=>[]
 |(nm,.fail a)::ds=>(nm,a)::za6 k ds
 |(_,.add _)::ds=>if k = "first" then[] else za6 k ds
 |(_,.say _)::ds=>if k = "first" \/ k = "round" then[] else za6 k ds
 |(_,.non)::ds=>za6 k ds
noncomputable def zfb(n:Int):List Rd->List (Str×T)
 |[]=>[]
 |(_,.fail _)::ds=>zfb n ds
 |(nm,.add a)::ds=>(nm,.int (n+a))::zfb n ds
 |(nm,.say a)::ds=>(nm,.int a)::zfb n ds
 |(nm,.non)::ds=>(nm,.non)::zfb n ds
noncomputable def fstL(n:Int):List Rd->T
 |[]=>.non
 |(_,.add a)::_=>.int (n+a)
 |(_,.say a)::_=>.int a
 |_::ds=>fstL n ds
noncomputable def chnL:List Rd->Int->Int
 |[],n=>n
 |(_,.add a)::ds,n=>chnL ds (n+a)
 |(_,.say a)::ds,_=>chnL ds a
 |_::ds,n=>chnL ds n
noncomputable def rndL:List Rd->Int->Int
 |[],n=>n
 |(_,.say a)::_,_=>a
 |(_,.add a)::ds,n=>10*rndL ds (n+a)+a
 |_::ds,n=>rndL ds n
noncomputable def ansL(k:Str)(ds:List Rd)(n:Int):T:=if k = "all" then .lst ((zfb n ds).map prT) else if k = "first" then fstL n ds else if k = "chain" then .int (chnL ds n) else .int (rndL ds n)
theorem z1h(n:Int)(ard:List Int)(a:Int):zod n (ard++[a])=zod (n*10+a) ard:=by simp[zod]
theorem zur:∀(ds:List Rd) (x:Rs) {q:Str×Int},fin ds x=.error q->x.rule = "hand" /\ ∃t,za6 x.kind ds=q::t
 |[],x,q,e=>by cases e
 | (nm,d)::ds,x,q,e=>by
   unfold fin at e;obtain⟨e1,e2,_⟩:=zhd (x:=x) (nm,d) ds;cases d with
   | fail a=>
     by_cases h:x.rule = "hand"
     ·simp[zhc,h] at e
      exact⟨h,_,by rw[za6,e]⟩
     ·simp[zhc,h,zjk] at e
      have:=(zur ds _ e).1;rw[e2] at this;exact absurd this h
   | _=>
     simp only[zhc] at e
     split at e
     ·cases e
     ·rename_i hs
      obtain⟨h1,t,h2⟩:=zur ds _ e;rw[e1] at h2;rw[e2] at h1;refine⟨h1,t,?_⟩;simp[zjk] at hs;simp[za6,hs,h2]
theorem z1i{x:Rs}{nm:Str}{d:Dd}{ds:List Rd}(hd:∀a,d≠.fail a):(x.step (nm,d) ds).held=x.held:=by
 by_cases h1:x.kind = "all"
 ·cases d<;>simp_all [Rs.step]
 ·by_cases h2:x.kind = "round"
  ·cases d<;>simp_all [Rs.step]
  ·by_cases h3:x.kind = "first" <;> cases d<;>simp_all [Rs.step]
theorem zqq:∀(ds:List Rd) (x:Rs) {y:Rs},fin ds x=.ok y->y.held=x.held++za6 x.kind ds/\(x.rule = "hand" -> za6 x.kind ds=[])
 |[],x,y,e=>by cases e;simp[za6]
 | (nm,d)::ds,x,y,e=>by
   unfold fin at e;obtain⟨e1,e2,_⟩:=zhd (x:=x) (nm,d) ds;have hh:=fun hd=>z1i (x:=x) (nm:=nm) (d:=d) (ds:=ds) hd;cases d with
   | fail a=>
     by_cases h:x.rule = "hand"
     ·simp[zhc,h] at e
     ·simp[zhc,h,zjk] at e
      obtain⟨h1,h2⟩:=zqq ds _ e;rw[e1] at h1;exact⟨by rw[h1];simp[Rs.step,za6],fun q=>absurd q h⟩
   | _=>
     have hh:=hh (fun a e=>by cases e);simp only[zhc] at e
     split at e
     ·rename_i hs
      cases e;simp[zjk] at hs<;>simp[za6,hs,hh]
     ·rename_i hs
      obtain⟨h1,h2⟩:=zqq ds _ e;rw[e1] at h1 h2;rw[e2] at h2;simp[zjk] at hs;simp[za6,hs,h1,hh];exact h2
theorem z1j:∀(ds:List Rd) (x:Rs) {y:Rs},fin ds x=.ok y ->
  (x.kind = "all" -> y.prs=x.prs++zfb x.num ds)/\(x.kind = "first" -> x.fnd=.non->y.fnd=fstL x.num ds)/\(x.kind = "chain" -> y.num=chnL ds x.num)/\(x.kind = "round" -> zod y.num y.ard=zod (rndL ds x.num) x.ard)
 |[],x,y,e=>by cases e;simp[zfb,fstL,chnL,rndL]
 | (nm, d)::ds,x,y,e=>by
   unfold fin at e;obtain⟨e1,e2,_⟩:=zhd (x:=x) (nm,d) ds;cases hf:zhc x.rule d with
   |some a=>simp[hf] at e
   | none=>
     simp only[hf] at e;by_cases hs:zjk x.kind d=true
     ·rw[if_pos hs] at e
      cases e;cases d<;>simp[zjk] at hs<;>refine⟨fun h=>?_,fun h h'=>?_,fun h=>?_,fun h=>?_⟩<;>simp[h] at hs<;>simp[Rs.step,h,fstL,rndL,zod]
     ·rw[if_neg hs] at e
      obtain⟨i1,i2,i3,i4⟩:=z1j ds _ e;rw[e1] at i1 i2 i3 i4;refine⟨fun h=>?_,fun h h'=>?_,fun h=>?_,fun h=>?_⟩
      ·rw[i1 h]
       cases d<;>simp[Rs.step,h,zfb,Dd.said]
      ·cases d<;>simp[zjk,h] at hs
       all_goals
        rw[i2 h (by simp[Rs.step,h,h'])];simp[Rs.step,h,fstL]
      ·rw[i3 h]
       cases d<;>simp[Rs.step,h,chnL]
      ·rw[i4 h]
       cases d<;>simp[zjk,h] at hs
       all_goals simp[Rs.step,h,rndL,z1h,Int.mul_comm]
theorem z1k{k ru:Str}{n:Int}{ds:List Rd}(R:zcl c S r (Rs.x ⟨k,ru,n,ds,[],false,[],.non,[]⟩))(hk:k = "all" \/ k = "first" \/ k = "chain" \/ k = "round")(hr:ru = "hold" \/ ru = "hand")(sm:∀p∈ds,Sm p.1)(hl:ds.length<=100) :
  ∃ S',zc6 S S' r/\((ru = "hand" /\ ∃q t,za6 k ds=q::t/\zeb c [.obj r] S=.exc c.deedFault (some [("piece",.str q.1),("code",.int q.2)]) S') \/
    ((ru = "hand" -> za6 k ds=[])/\zeb c [.obj r] S=.ok (.tup [ansL k ds n,.lst ((za6 k ds).map flT)]) S')):=by
 obtain⟨S',kp,h⟩:=z3q R ⟨hk,hr,sm,by simp;omega⟩ rfl;refine⟨S',kp,?_⟩;cases e:fin ds ⟨k,ru,n,ds,[],false,[],.non,[]⟩ with
 | error q=>
   rw[e] at h;obtain⟨h1,t,h2⟩:=zur _ _ e;exact .inl ⟨h1,q,t,h2,h⟩
 | ok y=>
   rw[e] at h;obtain⟨h1,h2⟩:=zqq _ _ e;obtain⟨i1,i2,i3,i4⟩:=z1j _ _ e;have ek:=(zqp _ _ e).1;have ea:y.ans=ansL k ds n:=by
    unfold Rs.ans ansL;rw[ek];show(if k = "all" then _ else _)=_;rcases hk with q | q | q | q
    ·have:=i1 q;simp at this;simp[q,this]
    ·have:=i2 q rfl;simp at this;simp[q,this]
    ·have:=i3 q;simp at this;simp[q,this]
    ·have:=i4 q
     have:zod y.num y.ard=rndL ds n:=by rw[this];rfl
     simp[q,this]
   have h:zeb c [.obj r] S=.ok (.tup [y.ans,.lst (y.held.map flT)]) S':=h;rw[ea,h1] at h;exact .inr ⟨h2,h⟩
end DN
namespace DN
open PySem L2 MF
variable {c:Cl}{S:Sto}
noncomputable def Dd.d:Dd->PyData
 |.add a=>.tuple [.str "add",.int a]
 |.say a=>.tuple [.str "say",.int a]
 |.non=>.tuple [.str "none"]
 |.fail a=>.tuple [.str "fail",.int a]
def rdD(p:Rd):PyData:=.tuple [.str p.1,p.2.d]
theorem zwf:∀(ds:List Rd),pds (ds.map rdT)=some (ds.map rdD)
 |[]=>by simp[pds]
 | (nm,d)::ds=>by
   have:=zwf ds;cases d<;>simp[pds,pd,rdT,Dd.t,this,rdD,Dd.d]
theorem Za2:PyData.strOk (Str.ofString "add")=true/\PyData.strOk (Str.ofString "say")=true/\PyData.strOk (Str.ofString "none")=true/\PyData.strOk (Str.ofString "fail")=true:=by decide +kernel
theorem zwg:∀{ds:List Rd},(∀p∈ds,okN p.1)->PyData.canLayAll0 (ds.map rdD)=true
 |[],_=>by simp[PyData.canLayAll0]
 | (nm,d)::ds,h=>by
   have h1:=h (nm,d) (List.mem_cons_self ..);unfold okN at h1;have ih:=zwg fun q hq=>h q (List.mem_cons_of_mem _ hq);obtain⟨t1,t2,t3,t4⟩:=Za2;cases d<;>simp[PyData.canLayAll0,PyData.canLay0,rdD,Dd.d,h1,ih,t1,t2,t3,t4]
theorem zo4:∀(ds:List Rd),PyData.depthAll (ds.map rdD)<=2
 |[]=>by simp[PyData.depthAll]
 | (nm,d)::ds=>by
   have:=zo4 ds;cases d<;>simp[PyData.depthAll,PyData.depth,rdD,Dd.d] at this ⊢<;>omega
theorem zwh{t:T}{ts:List T}{ds:List PyData}(h:zam S t=some ts)(e:pds ts=some ds):pdS S t=some (.list ds):=by
 cases t with
 |lst us=>cases h;simp[pdS,pd,e]
 | obj k=>
   unfold zam at h;cases q:S[k]? with
   |none=>simp[q] at h
   | some v=>
     cases v with
     |lst us=>simp[q] at h;subst h;simp[pdS,q,e]
     |_=>simp[q] at h
 |_=>cases h
theorem zwi{t:T}{ts:List T}(h:zam S t=some ts):toV t=none:=by
 cases t with
 |lst us=>rfl
 |obj k=>rfl
 |_=>cases h
theorem z41{t:T}{ds:List Rd}(h:zam S t=some (ds.map rdT))(ok:∀p∈ds,okN p.1):gEq t (.lst []) S=.ok (.bl ds.isEmpty) S:=by
 have:=zky (S:=S) (x:=t) (y:=.lst []) (.inl (zwi h)) (zwh h (zwf ds)) (b:=.list []) (by simp[pdS,pd,pds]) (by simp only[PyData.canLay0];exact zwg ok) (by simp[PyData.canLay0,PyData.canLayAll0]) (by have:=zo4 ds;simp[PyData.depth];omega);have e:PyData.eqv (.list (ds.map rdD)) (.list [])=ds.isEmpty:=by
  cases ds<;>simp[PyData.eqv,PyData.eqvAll]
 simp[gEq,this,e]
theorem z7l(a:T)(l:List T):cutT (a::l) (some 1) none=l:=by
 unfold cutT;simp[HT.sIx]
theorem Za3{t:T}{k:Nat}{v:Cell}(h:t≠.obj k):zam (S.set k v) t=zam S t:=by
 cases t with
 | obj j=>
   have ne:k≠j:=fun e=>h (by rw[e]);have:=zab (S:=S) (v:=v) ne;simp[zam,this]
 |_=>rfl
theorem zqr:∀(ds:List Rd) (n:Nat) (m:Int) {t:T} {k:Nat} {hl:List T} {S:Sto},t≠.obj k->zam S t=some (ds.map rdT)->(∀p∈ds,okN p.1)->S[k]?=some (.lst hl)->ds.length<n->hl.length+ds.length<=900 ->
  zd7 c n [t,.int m,.obj k] S=.ok (.int (rndL ds m)) (S.set k (.lst (hl++(za6 "round" ds).map flT)))
 |ds,0,m,t,k,hl,S,_,_,_,_,h,_=>by omega
 | [],n+1,m,t,k,hl,S,ne,ht,ok,hk,_,_=>by
   have e:=z41 ht ok;have es:S.set k (.lst (hl++(za6 "round" []).map flT))=S:=by
    simp only[za6,List.map_nil,List.append_nil];apply List.ext_getElem?;intro j;by_cases h:j=k
    ·subst h;rw[zbq hk,hk]
    ·rw[zab (Ne.symm h)]
   rw[es];show runD 4 (zcu (zd7 c n) c) [t,.int m,.obj k] S=_;have e:gEq t (.lst []) S=.ok (.bl true) S:=e;simp[zcu,e,rndL]
 | (nm,d)::ds,n+1,m,t,k,hl,S,ne,ht,ok,hk,hn,hb=>by
   have e:gEq t (.lst []) S=.ok (.bl false) S:=z41 ht ok;have i0:∀Z,zam Z t=some (((nm,d)::ds).map rdT)->gIx t (.int 0) Z=.ok (rdT (nm,d)) Z:=fun Z h=>by
    have:=zhb h;simp[gIx,this]
   have i0S:=i0 S ht;have r0:∀Z,gIx (rdT (nm,d)) (.int 0) Z=.ok (.str nm) Z:=fun Z=>by simp[rdT]
   have r1:∀Z,gIx (rdT (nm,d)) (.int 1) Z=.ok d.t Z:=fun Z=>by simp[rdT]
   have cut:cutT (((nm,d)::ds).map rdT) (some 1) none=ds.map rdT:=by
    have:=z7l (rdT (nm,d)) (ds.map rdT);simpa using this
   have ok':∀p∈ds,okN p.1:=fun p hp=>ok p (List.mem_cons_of_mem _ hp);have hn':ds.length<n:=by simp at hn;omega
   show runD 4 (zcu (zd7 c n) c) [t,.int m,.obj k] S=_;cases d with
   | say a=>
     have es:S.set k (.lst (hl++(za6 "round" ((nm,.say a)::ds)).map flT))=S:=by
      simp[za6];apply List.ext_getElem?;intro j;by_cases h:j=k
      ·subst h;rw[zbq hk,hk]
      ·rw[zab (Ne.symm h)]
     rw[es];generalize rdT (nm,Dd.say a)=RT at i0S r0 r1;simp[zcu,e,i0S,r1,Dd.t,rndL]
   | add a=>
     have ih:=zqr ds n (m+a) (t:=.lst (ds.map rdT)) (k:=k) (hl:=hl) (S:=S) (by simp) rfl ok' hk hn' (by simp at hb;omega);have eh:za6 "round" ((nm,.add a)::ds)=za6 "round" ds:=by simp[za6]
     rw[eh];have ml:(-(2 ^ 64)<(10:Int)/\(10:Int)<2 ^ 64)\/(-(2 ^ 64)<rndL ds (m+a)/\rndL ds (m+a)<2 ^ 64):=.inl (by decide);generalize S.set k (.lst (hl++(za6 "round" ds).map flT))=S2 at ih ⊢;have sl:eSl (eVar 0) (zpq (eC (.int 1))) zpp [some t,some (.int m),some (.obj k),some (Dd.add a).t] S=.ok (.lst (ds.map rdT)) S:=by
      simp only[eSl,zpp,zpq,zan,zpr,List.getElem?_cons_zero,x_c,zzz,ht,cut]
     generalize ds.map rdT=DL at ih sl;generalize rdT (nm,Dd.add a)=RT at i0S r0 r1;simp only[Dd.t] at sl r1;simp[zcu,e,i0S,r1,sl,ih,rndL]
   | non=>
     have ih:=zqr ds n m (t:=.lst (ds.map rdT)) (k:=k) (hl:=hl) (S:=S) (by simp) rfl ok' hk hn' (by simp at hb;omega);have eh:za6 "round" ((nm,.non)::ds)=za6 "round" ds:=by simp[za6]
     rw[eh];generalize S.set k (.lst (hl++(za6 "round" ds).map flT))=S2 at ih ⊢;have sl:eSl (eVar 0) (zpq (eC (.int 1))) zpp [some t,some (.int m),some (.obj k),some Dd.non.t] S=.ok (.lst (ds.map rdT)) S:=by
      simp only[eSl,zpp,zpq,zan,zpr,List.getElem?_cons_zero,x_c,zzz,ht,cut]
     generalize ds.map rdT=DL at ih sl;generalize rdT (nm,Dd.non)=RT at i0S r0 r1;simp only[Dd.t] at sl r1;simp[zcu,e,i0S,r1,sl,ih,rndL]
   | fail a=>
     have ap:=zn5 (y:=flT (nm,a)) hk (by omega);have ih:=zqr ds n m (t:=.lst (ds.map rdT)) (k:=k) (hl:=hl++[flT (nm,a)]) (S:=S.set k (.lst (hl++[flT (nm,a)]))) (by simp) rfl ok' (zbq hk) hn' (by simp at hb ⊢;omega);have eh:za6 "round" ((nm,.fail a)::ds)=(nm,a)::za6 "round" ds:=by simp[za6]
     rw[List.set_set,List.append_assoc] at ih;rw[eh,List.map_cons];have ht1:zam (S.set k (.lst (hl++[flT (nm,a)]))) t=some (((nm,.fail a)::ds).map rdT):=(Za3 ne).trans ht;have sl:eSl (eVar 0) (zpq (eC (.int 1))) zpp [some t,some (.int m),some (.obj k),some (Dd.fail a).t] (S.set k (.lst (hl++[flT (nm,a)])))=.ok (.lst (ds.map rdT)) (S.set k (.lst (hl++[flT (nm,a)]))):=by
      simp only[eSl,zpp,zpq,zan,zpr,List.getElem?_cons_zero,x_c,zzz,ht1,cut]
     have okk:=zgr hk;simp only[flT] at ap sl ih ⊢;generalize S.set k (.lst (hl++[T.tup [.str nm,.int a]]))=S1 at ap sl ih;simp only[List.singleton_append] at ih;generalize S.set k (.lst (hl++(T.tup [.str nm,.int a]::(za6 "round" ds).map fun p=>.tup [.str p.1,.int p.2])))=S2 at ih ⊢;generalize ds.map rdT=DL at ih sl;generalize rdT (nm,Dd.fail a)=RT at i0S r0 r1;simp only[Dd.t] at sl r1;simp[zcu,e,i0S,r0,r1,okk,ap,sl,ih,rndL]
end DN
namespace DN
open PySem L2 MF
variable {c:Cl}{S:Sto}{t:T}{kh kt:Nat}
noncomputable def ansE(k:Str)(t:T)(m:Int)(kh kt:Nat)(a b d:Option T):Ev:=[some (.str k),some t,some (.int m),some (.obj kh),some (.obj kt),a,b,d]
theorem z3r{k:Str}{m a:Int}{nm:Str}{x7:Option T}{hl:List T}(hk:S[kh]?=some (.lst hl))(h9:hl.length<900) :
  zao c (ansE k t m kh kt (some (.str nm)) (some (Dd.fail a).t) x7) S=.ok (.nx (ansE k t m kh kt (some (.str nm)) (some (Dd.fail a).t) (some .non))) (S.set kh (.lst (hl++[flT (nm,a)]))):=by
 have sa:=zo3 (c:=c) (S:=S) (.fail a) m;have ap:=zn5 (y:=flT (nm,a)) hk (by omega);simp only[Dd.t,Dd.said,flT] at sa ap ⊢;simp[zao,ansE,sa,zgr hk,ap]
theorem z7m{m:Int}{nm:Str}{d:Dd}{x7:Option T}{tl:List T}(hd:∀a,d≠.fail a)(hk:S[kt]?=some (.lst tl))(h9:tl.length<900) :
  zao c (ansE "all" t m kh kt (some (.str nm)) (some d.t) x7) S=.ok (.nx (ansE "all" t m kh kt (some (.str nm)) (some d.t) (some (d.said m)))) (S.set kt (.lst (tl++[prT (nm,d.said m)]))):=by
 have sa:=zo3 (c:=c) (S:=S) d m;have ap:=zn5 (y:=prT (nm,d.said m)) hk (by omega);cases d with
 |fail a=>exact absurd rfl (hd a)
 | _=>
   simp only[Dd.t,Dd.said,prT] at sa ap ⊢;simp[zao,ansE,sa,zgr hk,ap]
theorem z3s{k:Str}{m:Int}{nm:Str}{d:Dd}{x7:Option T}(hk:k = "first" \/ k = "chain")(hd:∀a,d≠.fail a) :
  zao c (ansE k t m kh kt (some (.str nm)) (some d.t) x7) S=(match d with
   |.add a=>if k = "first" then .ok (.rt (.int (m+a))) S else .ok (.nx (ansE k t (m+a) kh kt (some (.str nm)) (some d.t) (some (.int (m+a))))) S
   |.say a=>if k = "first" then .ok (.rt (.int a)) S else .ok (.nx (ansE k t a kh kt (some (.str nm)) (some d.t) (some (.int a)))) S
   |_=>.ok (.nx (ansE k t m kh kt (some (.str nm)) (some d.t) (some .non))) S):=by
 have sa:=zo3 (c:=c) (S:=S) d m;cases d with
 |fail a=>exact absurd rfl (hd a)
 | _=>
   simp only[Dd.t,Dd.said] at sa ⊢;rcases hk with rfl | rfl<;>simp[zao,ansE,sa,zlv,zgq]
structure zxy(S S':Sto)(kh kt:Nat)(hs ts:List T):Prop where
 len:S'.length=S.length
 h:S'[kh]?=some (.lst hs)
 t:S'[kt]?=some (.lst ts)
 same:∀j,j≠kh->j≠kt->S'[j]?=S[j]?
theorem zmp {k:Str} (hk:k = "all" \/ k = "first" \/ k = "chain") (ne:kh≠kt) {st:Sto->Prop} (hst:∀S',(∀j,j≠kh->j≠kt->S'[j]?=S[j]?)->st S') :
  ∀ (ds:List Rd) (m:Int) {hl tl:List T} {a b d:Option T} {S1:Sto},zxy S S1 kh kt hl tl->hl.length+ds.length<=900->tl.length+ds.length<=900 ->
    ∃ S' a' b' d',zxy S S' kh kt (hl++(za6 k ds).map flT) (if k = "all" then tl++(zfb m ds).map prT else tl) /\
      za0 st (zkk 5 6) (zao c) (ds.map rdT) (ansE k t m kh kt a b d) S1=(if k = "first" /\ zgq (fstL m ds)=false then .ok (.rt (fstL m ds)) S' else .ok (.nx (ansE k t (if k = "chain" then chnL ds m else m) kh kt a' b' d')) S')
 | [],m,hl,tl,a,b,d,S1,A,_,_=>by
   refine⟨S1,a,b,d,?_,?_⟩
   ·simpa[za6,zfb] using A
   ·simp[za0,hst S1 A.same,fstL,chnL,zgq]
 | (nm, dd)::ds,m,hl,tl,a,b,d,S1,A,h1,h2=>by
   have un:∀{ρ':Ev} {S2:Sto},zao c (ansE k t m kh kt (some (.str nm)) (some dd.t) d) S1=.ok (.nx ρ') S2->za0 st (zkk 5 6) (zao c) (((nm,dd)::ds).map rdT) (ansE k t m kh kt a b d) S1=za0 st (zkk 5 6) (zao c) (ds.map rdT) ρ' S2:=fun {ρ' S2} e=>by
    simp only[List.map_cons,za0,hst S1 A.same,if_true,rdT,zkk];show(M.bind (zao c (ansE k t m kh kt (some (.str nm)) (some dd.t) d)) _) S1=_;rw[zan,e]
   have lh:hl.length<900:=by simp at h1;omega
   have lt:tl.length<900:=by simp at h2;omega
   by_cases hf:∃x,dd=.fail x
   ·obtain⟨x,rfl⟩:=hf
    have A1:zxy S (S1.set kh (.lst (hl++[flT (nm,x)]))) kh kt (hl++[flT (nm,x)]) tl:=⟨by simp[A.len],zbq A.h,by rw[zab ne];exact A.t,fun j q1 q2=>by rw[zab (Ne.symm q1)];exact A.same j q1 q2⟩;obtain⟨S',a',b',d',A',e'⟩:=zmp hk ne hst ds m (a:=some (.str nm)) (b:=some (Dd.fail x).t) (d:=some .non) A1 (by simp at h1 ⊢;omega) (by simp at h2;omega);refine⟨S',a',b',d',?_,?_⟩
    ·simpa[za6,zfb] using A'
    ·have ef:fstL m ((nm,.fail x)::ds)=fstL m ds:=by simp[fstL]
     have ec:chnL ((nm,.fail x)::ds) m=chnL ds m:=by simp[chnL]
     rw[un (z3r A.h lh),e',ef,ec]
   ·have nf:∀x,dd≠.fail x:=fun x e=>hf ⟨x,e⟩
    rcases hk with rfl | hk
    ·have A1:zxy S (S1.set kt (.lst (tl++[prT (nm,dd.said m)]))) kh kt hl (tl++[prT (nm,dd.said m)]):=⟨by simp[A.len],by rw[zab (Ne.symm ne)];exact A.h,zbq A.t,fun j q1 q2=>by rw[zab (Ne.symm q2)];exact A.same j q1 q2⟩
     obtain⟨S',a',b',d',A',e'⟩:=zmp (.inl rfl) ne hst ds m (a:=some (.str nm)) (b:=some dd.t) (d:=some (dd.said m)) A1 (by simp at h1;omega) (by simp at h2 ⊢;omega);refine⟨S',a',b',d',?_,?_⟩
     ·cases dd with
      |fail x=>exact absurd rfl (nf x)
      |_=>simpa[za6,zfb,Dd.said] using A'
     ·rw[un (z7m nf A.t lt),e']
      simp
    ·have ar:=z3s (c:=c) (S:=S1) (t:=t) (kh:=kh) (kt:=kt) (nm:=nm) (m:=m) (x7:=d) hk nf
     have na:¬k = "all":=by rcases hk with rfl | rfl<;>simp
     have go:∀m' x',zao c (ansE k t m kh kt (some (.str nm)) (some dd.t) d) S1=.ok (.nx (ansE k t m' kh kt (some (.str nm)) (some dd.t) x')) S1->za6 k ((nm,dd)::ds)=za6 k ds->(k = "first" -> fstL m ((nm,dd)::ds)=fstL m' ds)->(k = "chain" -> chnL ((nm,dd)::ds) m=chnL ds m')->(k ≠ "chain" -> m'=m) ->
      ∃S' a' b' d',zxy S S' kh kt (hl++(za6 k ((nm,dd)::ds)).map flT) (if k = "all" then tl++(zfb m ((nm,dd)::ds)).map prT else tl)/\za0 st (zkk 5 6) (zao c) (((nm,dd)::ds).map rdT) (ansE k t m kh kt a b d) S1=(if k = "first" /\ zgq (fstL m ((nm,dd)::ds))=false then .ok (.rt (fstL m ((nm,dd)::ds))) S' else .ok (.nx (ansE k t (if k = "chain" then chnL ((nm,dd)::ds) m else m) kh kt a' b' d')) S'):=fun m' x' e eh ef ec em=>by
      obtain⟨S',a',b',d',A',e'⟩:=zmp (.inr hk) ne hst ds m' (a:=some (.str nm)) (b:=some dd.t) (d:=x') A (by simp at h1;omega) (by simp at h2;omega);refine⟨S',a',b',d',?_,?_⟩
      ·rw[eh,if_neg na];rw[if_neg na] at A';exact A'
      ·rw[un e,e']
       rcases hk with rfl | rfl
       ·rw[ef rfl];simp[em]
       ·rw[ec rfl];simp
     cases dd with
     |fail x=>exact absurd rfl (nf x)
     |non=>exact go m _ ar (by simp[za6]) (fun _=>by simp[fstL]) (fun _=>by simp[chnL]) (fun _=>rfl)
     | add x=>
       by_cases q:k = "first"
       ·subst q
        refine⟨S1,a,b,d,by simpa[za6] using A,?_⟩;simp only[List.map_cons,za0,hst S1 A.same,if_true,rdT,zkk];show(M.bind (zao c (ansE "first" t m kh kt (some (.str nm)) (some (Dd.add x).t) d)) _) S1=_;rw[zan,ar];simp[fstL,zgq]
       ·have ar:zao c (ansE k t m kh kt (some (.str nm)) (some (Dd.add x).t) d) S1=(if k = "first" then .ok (.rt (.int (m+x))) S1 else .ok (.nx (ansE k t (m+x) kh kt (some (.str nm)) (some (Dd.add x).t) (some (.int (m+x))))) S1):=ar
        rw[if_neg q] at ar;have kc:k = "chain":=hk.resolve_left q;exact go (m+x) _ ar (by simp[za6,q]) (fun h=>absurd h q) (fun _=>by simp[chnL]) (fun h=>absurd kc h)
     | say x=>
       by_cases q:k = "first"
       ·subst q
        refine⟨S1,a,b,d,by simpa[za6] using A,?_⟩;simp only[List.map_cons,za0,hst S1 A.same,if_true,rdT,zkk];show(M.bind (zao c (ansE "first" t m kh kt (some (.str nm)) (some (Dd.say x).t) d)) _) S1=_;rw[zan,ar];simp[fstL,zgq]
       ·have ar:zao c (ansE k t m kh kt (some (.str nm)) (some (Dd.say x).t) d) S1=(if k = "first" then .ok (.rt (.int x)) S1 else .ok (.nx (ansE k t x kh kt (some (.str nm)) (some (Dd.say x).t) (some (.int x)))) S1):=ar
        rw[if_neg q] at ar;have kc:k = "chain":=hk.resolve_left q;exact go x _ ar (by simp[za6,kc]) (fun h=>absurd h q) (fun _=>by simp[chnL]) (fun h=>absurd kc h)
end DN
namespace DN
open PySem L2 MF
variable {c:Cl}{S:Sto}
theorem Zcr{k:Str}{kt:Nat}{m:Int}{t1 t3 t5 t6 t7:Option T}(hk:k = "all" \/ k = "first" \/ k = "chain") :
  ∃S',e2 gDix (zry (eC (.str "all")) (eVar 4) (eC (.str "first")) (eC .non) (eC (.str "chain")) (eVar 2)) (eVar 0) [some (.str k),t1,some (.int m),t3,some (.obj kt),t5,t6,t7] S=.ok (if k = "all" then .obj kt else if k = "first" then .non else .int m) S'/\S.length<=S'.length/\∀j,j<S.length->S'[j]?=S[j]?:=by
 have n1:(Sum.inr (Str.ofString "all"):Key)≠.inr (Str.ofString "first")/\(Sum.inr (Str.ofString "all"):Key)≠.inr (Str.ofString "chain")/\(Sum.inr (Str.ofString "first"):Key)≠.inr (Str.ofString "chain"):=by simp
 have e:zry (eC (.str "all")) (eVar 4) (eC (.str "first")) (eC .non) (eC (.str "chain")) (eVar 2) [some (.str k),t1,some (.int m),t3,some (.obj kt),t5,t6,t7] S=.ok (.obj S.length) (S++[.dic [(.inr "all",.obj kt),(.inr "first",.non),(.inr "chain",.int m)]]):=by
  simp[zry,keyT]
 refine⟨S++[.dic [(.inr "all",.obj kt),(.inr "first",.non),(.inr "chain",.int m)]],?_,by simp,fun j hj=>List.getElem?_append_left hj⟩;rw[x_e2,zan,e];rcases hk with rfl | rfl | rfl<;>simp[gDix,zfu,keyT,valT]
structure Za4(S:Sto)(n:Nat)(k:Str)(ds:List Rd)(m:Int)(a:T):Prop where
 all:k = "all" -> ∃kt,a=.obj kt/\n<=kt/\S[kt]?=some (.lst ((zfb m ds).map prT))
 els:k ≠ "all" -> a=ansL k ds m
theorem z1l{k:Str}{ds:List Rd}{m:Int}{t:T}{kh:Nat}(hk:k = "all" \/ k = "first" \/ k = "chain" \/ k = "round")(hv:∀S',(∀j,j<S.length->j≠kh->S'[j]?=S[j]?)->zam S' t=some (ds.map rdT))(ne:t≠.obj kh)(ok:∀p∈ds,okN p.1)(hh:S[kh]?=some (.lst []))(hl:ds.length<24) :
  ∃a S',zcg c [.str k,t,.int m,.obj kh] S=.ok a S'/\Za4 S' S.length k ds m a/\S'[kh]?=some (.lst ((za6 k ds).map flT))/\S.length<=S'.length/\∀j,j<S.length->j≠kh->S'[j]?=S[j]?:=by
 have hlt:kh<S.length:=(List.getElem?_eq_some_iff.mp hh).1;have cl:k ≠ "round" -> ∃a S',zcg c [.str k,t,.int m,.obj kh] S=.ok a S'/\Za4 S' S.length k ds m a/\S'[kh]?=some (.lst ((za6 k ds).map flT))/\S.length<=S'.length/\∀j,j<S.length->j≠kh->S'[j]?=S[j]?:=fun hr=>by
  have hk3:k = "all" \/ k = "first" \/ k = "chain":=by
   rcases hk with h | h | h | h
   ·exact .inl h
   ·exact .inr (.inl h)
   ·exact .inr (.inr h)
   ·exact absurd h hr
  have vk:∀{S':Sto},(∀j,j≠kh->j≠S.length->S'[j]?=(S++[Cell.lst []])[j]?)->∀j,j<S.length->j≠kh->S'[j]?=S[j]?:=fun h j hj hn=>by rw[h j hn (by omega),List.getElem?_append_left hj]
  have A0:zxy (S++[.lst []]) (S++[.lst []]) kh S.length [] []:=⟨rfl,zb0 hh,zdk,fun _ _ _=>rfl⟩;obtain⟨S1,x5,x6,x7,A,e⟩:=zmp (c:=c) (t:=t) (kh:=kh) (kt:=S.length) (S:=S++[.lst []]) hk3 (by omega) (st:=fun S'=>zam S' t=some (ds.map rdT)) (fun S' h=>hv S' (vk h)) ds m (a:=none) (b:=none) (d:=none) A0 (by simp;omega) (by simp;omega);have hit:iL (eVar 1) (ansE k t m kh S.length none none none) (S++[.lst []])=.ok (ds.map rdT,fun S'=>zam S' t=some (ds.map rdT)) (S++[.lst []]):=by
   have:=hv (S++[.lst []]) (fun j hj _=>List.getElem?_append_left hj);simp[ansE,this]
  have fe:=(zwd hit).trans e;have i0:sIf (tst (e2 gEq (eVar 0) (eC (.str "round")))) (sRet (zbe (lenF 3 (zf2 c)) [] (zad (eVar 1) (zad (eVar 2) (zad (eVar 3) aNil))))) sNx [some (.str k),some t,some (.int m),some (.obj kh),none,none,none,none] S=.ok (.nx [some (.str k),some t,some (.int m),some (.obj kh),none,none,none,none]) S:=by simp[hr]
  have i1:sSet 4 (eA lstC aNil) [some (.str k),some t,some (.int m),some (.obj kh),none,none,none,none] S=.ok (.nx (ansE k t m kh S.length none none none)) (S++[.lst []]):=by simp[ansE]
  have l1:S1.length=S.length+1:=by rw[A.len];simp
  have hH:=A.h;rw[List.nil_append] at hH;by_cases hq:k = "first" /\ zgq (fstL m ds)=false
  ·rw[if_pos hq] at fe
   refine⟨fstL m ds,S1,?_,⟨fun q=>?_,fun _=>?_⟩,hH,by omega,vk A.same⟩
   ·unfold zcg
    refine zke (ρ:=[some (.str k),some t,some (.int m),some (.obj kh),none,none,none,none]) rfl ?_;unfold zgk;rw[zgg i0,zgg i1];exact z7i fe
   ·rw[hq.1] at q;simp at q
   ·simp[ansL,hq.1]
  ·rw [if_neg hq] at fe
   obtain⟨S2,e3,l3,k3⟩:=Zcr (S:=S1) (k:=k) (kt:=S.length) (m:=if k = "chain" then chnL ds m else m) (t1:=some t) (t3:=some (.obj kh)) (t5:=x5) (t6:=x6) (t7:=x7) hk3;refine⟨if k = "all" then .obj S.length else if k = "first" then .non else .int (if k = "chain" then chnL ds m else m),S2,?_,⟨fun q=>⟨S.length,if_pos q,Nat.le_refl _,?_⟩,fun q=>?_⟩,?_,by omega,fun j hj hn=>by rw[k3 j (by omega)];exact vk A.same j hj hn⟩
   ·unfold zcg
    refine zke (ρ:=[some (.str k),some t,some (.int m),some (.obj kh),none,none,none,none]) rfl ?_;unfold zgk;rw[zgg i0,zgg i1,zgg fe];exact z1f e3
   ·rw[k3 _ (by omega),A.t,if_pos q];rfl
   ·rw[if_neg q]
    unfold ansL;rw[if_neg q];by_cases q1:k = "first"
    ·rw[if_pos q1,if_pos q1]
     have:zgq (fstL m ds)=true:=by
      cases h:zgq (fstL m ds) with
      |true=>rfl
      |false=>exact absurd ⟨q1,h⟩ hq
     cases h:fstL m ds<;>rw[h] at this<;>first | rfl | cases this
    ·have q2:k = "chain":=(hk3.resolve_left q).resolve_left q1
     rw[if_neg q1,if_neg q1,if_pos q2,if_pos q2]
   ·rw[k3 _ (by omega)];exact hH
 by_cases hr:k = "round"
 ·subst hr
  have vS:=hv S (fun _ _ _=>rfl);have e:=zqr (c:=c) ds 24 m ne vS ok hh hl (by simp;omega);rw[List.nil_append] at e;refine⟨.int (rndL ds m),_,?_,⟨fun q=>by simp at q,fun _=>by simp[ansL]⟩,zbq hh,by simp,fun j _ hn=>zab (Ne.symm hn)⟩;unfold zcg;refine zke (ρ:=[some (.str "round"),some t,some (.int m),some (.obj kh),none,none,none,none]) rfl ?_;unfold zgk;have i0:sIf (tst (e2 gEq (eVar 0) (eC (.str "round")))) (sRet (zbe (lenF 3 (zf2 c)) [] (zad (eVar 1) (zad (eVar 2) (zad (eVar 3) aNil))))) sNx [some (.str "round"),some t,some (.int m),some (.obj kh),none,none,none,none] S=.ok (.rt (.int (rndL ds m))) (S.set kh (.lst ((za6 "round" ds).map flT))):=by
   have e:zf2 c [t,.int m,.obj kh] S=_:=e;rw[x_if,zan];have:tst (e2 gEq (eVar 0) (eC (.str "round"))) [some (.str "round"),some t,some (.int m),some (.obj kh),none,none,none,none] S=.ok true S:=by simp
   rw[this];exact z1f (zh6 (zb8 rfl (zb8 rfl (zb8 rfl rfl))) rfl e)
  exact z7i i0
 ·exact cl hr
end DN
namespace DN
open PySem L2 MF
variable {c:Cl}{S:Sto}
theorem z1m{S':Sto}{n f k:Nat}{us:List T}(hk:n<=k)(hc:S'[k]?=some (.lst us))(hb:∀t∈us,HB n t):fz S' n (f+1) (.obj k)=some (.lst us):=by
 unfold fz;rw[if_neg (by simp only[HB];omega)];simp only[hc];rw[ztt fun t ht=>zxf (hb t ht)];rfl
theorem Zcs(n:Nat)(l:List (Str×Int)):∀t∈l.map flT,HB n t:=fun t ht=>by
 obtain⟨p,_,rfl⟩:=List.mem_map.mp ht;exact zjp (by simp)
theorem zus(n:Nat)(m:Int):∀(ds:List Rd),∀t∈(zfb m ds).map prT,HB n t
 |[],t,h=>by cases h
 | (nm,d)::ds,t,h=>by
   have ih:=zus n m ds t;cases d with
   |fail a=>exact ih h
   | _=>
     simp only[zfb,List.map_cons,List.mem_cons] at h;rcases h with rfl | h
     ·exact zjp (by simp)
     ·exact ih h
theorem Za5(n:Nat)(k:Str)(ds:List Rd)(m:Int):HB n (ansL k ds m):=by
 unfold ansL;have fst:∀ds:List Rd,HB n (fstL m ds):=fun ds=>by
  induction ds with
  |nil=>simp[fstL]
  | cons p ds ih=>
    obtain⟨nm,d⟩:=p;cases d<;>simp[fstL,ih]
 split
 ·exact zz2 (zus n m ds)
 ·split
  ·exact fst ds
  ·split<;>simp
def flD(p:Str×Int):PyData:=.tuple [.str p.1,.int p.2]
theorem z42:∀(l:List (Str×Int)),pds (l.map flT)=some (l.map flD)
 |[]=>by simp[pds]
 | p::l=>by
   have:=z42 l;simp[pds,pd,flT,this,flD]
theorem zwj{k:Str}:∀{ds:List Rd} {q:Str×Int},q∈za6 k ds->∃p∈ds,p.1=q.1
 |[],q,h=>by cases h
 | (nm,d)::ds,q,h=>by
   have ih:q∈za6 k ds->∃p∈(nm,d)::ds,p.1=q.1:=fun h=>by
    obtain⟨p,hp,e⟩:=zwj h;exact⟨p,List.mem_cons_of_mem _ hp,e⟩
   cases d with
   | fail a=>
     simp only[za6,List.mem_cons] at h;rcases h with rfl | h
     ·exact⟨_,List.mem_cons_self ..,rfl⟩
     ·exact ih h
   |non=>exact ih h
   | _=>
     simp only[za6] at h
     split at h
     ·cases h
     ·exact ih h
theorem z43:∀{l:List (Str×Int)},(∀p∈l,okN p.1)->PyData.canLayAll0 (l.map flD)=true
 |[],_=>by simp[PyData.canLayAll0]
 | p::l,h=>by
   have h1:=h p (List.mem_cons_self ..);unfold okN at h1;have ih:=z43 fun q hq=>h q (List.mem_cons_of_mem _ hq);simp[PyData.canLayAll0,PyData.canLay0,flD,h1,ih]
theorem zwk:∀(l:List (Str×Int)),PyData.depthAll (l.map flD)<=1
 |[]=>by simp[PyData.depthAll]
 | p::l=>by
   have:=zwk l;simp[PyData.depthAll,PyData.depth,flD] at this ⊢;omega
theorem Za6{t:T}{l:List (Str×Int)}(h:zam S t=some (l.map flT))(ok:∀p∈l,okN p.1):gNe t (.lst []) S=.ok (.bl !l.isEmpty) S:=by
 have:=zky (S:=S) (x:=t) (y:=.lst []) (.inl (zwi h)) (zwh h (z42 l)) (b:=.list []) (by simp[pdS,pd,pds]) (by simp only[PyData.canLay0];exact z43 ok) (by simp[PyData.canLay0,PyData.canLayAll0]) (by have:=zwk l;simp[PyData.depth];omega);have e:PyData.eqv (.list (l.map flD)) (.list [])=l.isEmpty:=by
  cases l<;>simp[PyData.eqv,PyData.eqvAll]
 simp[gNe,this,e]
noncomputable def outL(k ru:Str)(ds:List Rd)(m:Int):T:=match ru = "hand",za6 k ds with
 |_,[]=>.tup [.str "told",.tup [ansL k ds m,.lst []]]
 |_,q::l=>if ru = "hand" then .tup [.str "fault",flT q] else .tup [.str "told",.tup [ansL k ds m,.lst ((q::l).map flT)]]
theorem zxz{k ru:Str}{ds:List Rd}{m:Int}{t:T}(hk:k = "all" \/ k = "first" \/ k = "chain" \/ k = "round")(hv:Sees S t (ds.map rdT))(ok:∀p∈ds,okN p.1)(hl:ds.length<24) :
  zcv c [.str k,.str ru,t,.int m] S=.ok (outL k ru ds m) S:=by
 have hne:t≠.obj S.length:=fun e=>by
  have:=hv.now;rw[e] at this;simp[zam] at this
 obtain⟨a,S',e,A,hh,l1,k1⟩:=z1l (c:=c) (S:=S++[.lst []]) (k:=k) (ds:=ds) (m:=m) (t:=t) (kh:=S.length) hk (fun S' h=>hv S' fun j hj=>by rw[h j (by simp;omega) (by omega),List.getElem?_append_left hj]) hne ok zdk hl;have keep:∀j,j<S.length->S'[j]?=S[j]?:=fun j hj=>by rw[k1 j (by simp;omega) (by omega),List.getElem?_append_left hj]
 have tk:=z1e keep;have okh:∀q∈za6 k ds,okN q.1:=fun q hq=>by
  obtain⟨p,hp,e⟩:=zwj hq;rw[<- e];exact ok p hp
 have nn:=Za6 (S:=S') (t:=.obj S.length) (zd4 hh) okh;have fa:∀f,fz S' S.length (f+1) a=some (ansL k ds m):=fun f=>by
  by_cases q:k = "all"
  ·obtain⟨kt,rfl,h1,h2⟩:=A.all q
   rw[z1m (by simp at h1;omega) h2 (zus _ _ _)];simp[ansL,q]
  ·rw[A.els q];exact zxf (Za5 _ _ _ _)
 have ap:=zh6 (F:=zcg c) (fr:=zad (eVar 0) (zad (eVar 2) (zad (eVar 3) (zad (eVar 4) aNil)))) (ρ:=[some (.str k),some (.str ru),some t,some (.int m),some (.obj S.length),none]) (n:=4) (zb8 rfl (zb8 rfl (zb8 rfl (zb8 rfl rfl)))) rfl e;have s1:sSet 4 (eA lstC aNil) [some (.str k),some (.str ru),some t,some (.int m),none,none] S=.ok (.nx [some (.str k),some (.str ru),some t,some (.int m),some (.obj S.length),none]) (S++[.lst []]):=by simp
 have go:∀{v:T},(sSeq (sIf (zph (tst (e2 gEq (eVar 1) (eC (.str "hand")))) (tst (e2 gNe (eVar 4) (eA lstF aNil)))) (sRet (eA tupF (zad (eC (.str "fault")) (zad (e2 gIx (eVar 4) (eC (.int 0))) aNil)))) sNx) (sRet (eA tupF (zad (eC (.str "told")) (zad (eA tupF (zad (eVar 5) (zad (eVar 4) aNil))) aNil))))) [some (.str k),some (.str ru),some t,some (.int m),some (.obj S.length),some a] S'=.ok (.rt v) S'->runD 6 (zec c) [.str k,.str ru,t,.int m] S=.ok v S':=fun h=>by
  refine zke (ρ:=[some (.str k),some (.str ru),some t,some (.int m),none,none]) rfl ?_;unfold zec;rw[zgg s1,zgg (zjc ap)];exact h
 have told:(ru = "hand" -> za6 k ds=[])->zcv c [.str k,.str ru,t,.int m] S=.ok (.tup [.str "told",.tup [ansL k ds m,.lst ((za6 k ds).map flT)]]) S:=fun h=>by
  have run:runD 6 (zec c) [.str k,.str ru,t,.int m] S=.ok (.tup [.str "told",.tup [a,.obj S.length]]) S':=go (by
   by_cases q:ru = "hand"
   ·rw[h q] at nn
    simp[q,nn]
   ·simp[q])
  unfold zcv frzF;rw[run];have hc:=z1m (f:=3) (Nat.le_refl S.length) hh (Zcs _ _);have f1:fz S' S.length 6 (.tup [.str "told",.tup [a,.obj S.length]])=some (.tup [.str "told",.tup [ansL k ds m,.lst ((za6 k ds).map flT)]]):=by
   have nb:¬HB S.length (.tup [.str "told",.tup [a,.obj S.length]]):=by simp[HB,HBs]
   have nb2:¬HB S.length (.tup [a,.obj S.length]):=by simp[HB,HBs]
   have f0:fz S' S.length 5 (.str (Str.ofString "told"))=some (.str "told"):=zxf (by simp);have f2:fz S' S.length 5 (.tup [a,.obj S.length])=some (.tup [ansL k ds m,.lst ((za6 k ds).map flT)]):=by
    unfold fz;rw[if_neg nb2];simp only[mapO,fa 3,hc];rfl
   unfold fz;rw[if_neg nb];simp only[mapO,f0,f2];rfl
  simp only[if_pos tk,f1]
 unfold outL;cases hq:za6 k ds with
 | nil=>
   have:=told (fun _=>hq);rw[hq] at this;exact this
 | cons q l=>
   simp only;by_cases hr:ru = "hand"
   ·rw[if_pos hr]
    rw[hq] at nn hh;have ix:gIx (.obj S.length) (.int 0) S'=.ok (flT q) S':=by
     have:=zhb (zd4 hh);simp[gIx,this]
    have run:runD 6 (zec c) [.str k,.str ru,t,.int m] S=.ok (.tup [.str "fault",flT q]) S':=go (by
     simp at nn;simp[hr,nn,ix])
    exact zkm run tk (zjp fun u hu=>by
     simp only[List.mem_cons,List.not_mem_nil,or_false] at hu;rcases hu with rfl | rfl
     ·simp
     ·exact zjp (by simp))
   ·rw[if_neg hr,<- hq]
    exact told (fun h=>absurd h hr)
end DN
namespace DN
open PySem L2 MF
variable {c:Cl}{S:Sto}
def Val(v:T):Prop:=v=.non\/∃i,v=.int i
theorem zut{v:T}(h:Val v):zcj c [v,v] S=.ok (.bl true) S:=by
 rcases h with rfl | ⟨i,rfl⟩
 ·simp[zcj,zj4,gIs,zgq]
 ·have e:zf3 c [.int i] S=.ok (.bl true) S:=by simp[zf3,zne,gIsa,isaS,eAnd]
  simp[zcj,zj4,gIs,zgq,e,eAnd]
theorem z1n{f d:T}{l:List (Str×T)}(hf:zam S f=some (l.map prT))(hd:zam S d=some (l.map prT))(hv:∀p∈l,Val p.2)(hl:l.length<=900):zbh c [f,d] S=.ok (.bl true) S:=by
 have sf:=zhb hf;have sd:=zhb hd;have lf:gLen f S=.ok (.int l.length) S:=by simp[gLen,sf]
 have ld:gLen d S=.ok (.int l.length) S:=by simp[gLen,sd]
 have isl:gIsa .list f S=.ok (.bl true) S:=by
  cases f with
  |lst us=>rfl
  | obj k=>
    unfold zam at hf;cases q:S[k]? with
    |none=>simp[q] at hf
    | some v=>
      cases v with
      |lst us=>simp[gIsa,isaS,q]
      |_=>simp[q] at hf
  |_=>cases hf
 have hit:iR1 (zad (e1 gLen (eVar 1)) aNil) [some f,some d,none,none] S=.ok (zjh 0 l.length,fun _=>True) S:=by
  obtain⟨m,hm⟩:∃m:Int,m=(l.length:Int):=⟨_,rfl⟩;have ha:zad (e1 gLen (eVar 1)) aNil [some f,some d,none,none] S=.ok [.int m] S:=by
   rw[hm];simp[ld]
  have h1:m.toNat=l.length:=by omega
  have h2:-1000000<=m/\m<=1000000:=by omega
  rw[Zcb,zan,ha];simp only[if_pos h2,h1]
 obtain⟨ρ',e,x2,x3,rfl⟩:=zl3 (S:=S) (st:=fun _=>True) (g:=zaz 2) (body:=zcw c) (fun ρ=>∃x2 x3,ρ=[some f,some d,x2,x3]) trivial (zjh 0 l.length) _ ⟨none,none,rfl⟩ (fun u hu ρ ⟨x2,x3,hρ⟩=>by
  subst hρ;obtain⟨i,hi,rfl⟩:=List.mem_map.mp hu;have hi:=List.mem_range.mp hi;have ez:(0:Int)+(i:Int)=i:=by omega
  rw[ez];have eg:(l.map prT)[i]?=some (prT l[i]):=by rw[List.getElem?_map,List.getElem?_eq_getElem hi];rfl
  have ia:atI (l.map prT) (i:Int)=some (prT l[i]):=zjx eg;have i1:gIx f (.int i) S=.ok (prT l[i]) S:=by simp only[gIx,sf,ia]
  have i2:gIx d (.int i) S=.ok (prT l[i]) S:=by simp only[gIx,sd,ia]
  have fv:=zut (c:=c) (S:=S) (hv l[i] (List.getElem_mem hi));generalize l[i]=p at i1 i2 fv;obtain⟨nm,v⟩:=p;simp only[prT] at i1 i2 fv;have tt:gIsa .tuple (.tup [.str nm,v]) S=.ok (.bl true) S:=rfl;have l2:gLen (.tup [.str nm,v]) S=.ok (.int 2) S:=by simp[gLen]
  refine⟨_,rfl,[some f,some d,some (.int i),some (.tup [.str nm,v])],?_,_,_,rfl⟩;show zcw c [some f,some d,some (.int i),x3] S=_;simp[zcw,i1,i2,tt,l2,fv])
 unfold zbh;refine zke (ρ:=[some f,some d,none,none]) rfl ?_;unfold zg7;have e0:(sIf (tOrD (zm4 (tru (e1 (gIsa .list) (eVar 0)))) (tst (e2 gNe (e1 gLen (eVar 0)) (e1 gLen (eVar 1))))) (sRet (eC (.bl false))) sNx) [some f,some d,none,none] S=.ok (.nx [some f,some d,none,none]) S:=by
  simp[isl,lf,ld]
 rw[zgg e0,zgg ((zwd hit).trans e)];rfl
theorem zqs(m:Int):∀(ds:List Rd),∀p∈zfb m ds,Val p.2
 |[],p,h=>by cases h
 | (nm,d)::ds,p,h=>by
   cases d with
   |fail a=>exact zqs m ds p h
   | _=>
     simp only[zfb,List.mem_cons] at h;rcases h with rfl | h
     ·first | exact .inl rfl | exact .inr ⟨_,rfl⟩
     ·exact zqs m ds p h
theorem zwl(m:Int):∀(ds:List Rd),(zfb m ds).length<=ds.length
 |[]=>by simp[zfb]
 | (nm,d)::ds=>by
   have:=zwl m ds;cases d<;>simp[zfb]<;>omega
theorem zwm(k:Str):∀(ds:List Rd),(za6 k ds).length<=ds.length
 |[]=>by simp[za6]
 | (nm,d)::ds=>by
   have:=zwm k ds;cases d<;>simp only[za6,List.length_cons]
   ·split<;>simp<;>omega
   ·split<;>simp<;>omega
   ·omega
   ·omega
theorem z1o(m:Int):∀(ds:List Rd),Val (fstL m ds)
 |[]=>.inl rfl
 | (nm,d)::ds=>by
   have:=z1o m ds;cases d with
   |add a=>exact .inr ⟨_,rfl⟩
   |say a=>exact .inr ⟨_,rfl⟩
   |non=>exact this
   |fail a=>exact this
theorem zx0{f d:T}{l:List (Str×Int)}(hf:zam S f=some (l.map flT))(hd:zam S d=some (l.map flT))(hl:l.length<=900):zbh c [f,d] S=.ok (.bl true) S:=by
 have e:l.map flT=(l.map fun p=>(p.1,T.int p.2)).map prT:=by rw[List.map_map];rfl
 rw[e] at hf hd;exact z1n hf hd (fun p hp=>by obtain⟨q,_,rfl⟩:=List.mem_map.mp hp;exact .inr ⟨_,rfl⟩) (by simpa using hl)
theorem zuu{k:Str}{ds:List Rd}{m:Int}{f:T}(hf:(k = "all" -> zam S f=some ((zfb m ds).map prT))/\(k ≠ "all" -> f=ansL k ds m))(hl:ds.length<=900):zbw c [f,ansL k ds m] S=.ok (.bl true) S:=by
 by_cases q:k = "all"
 ·have ea:ansL k ds m=.lst ((zfb m ds).map prT):=by simp[ansL,q]
  rw[ea];have al:=z1n (c:=c) (hf.1 q) (d:=.lst ((zfb m ds).map prT)) rfl (zqs m ds) (by have:=zwl m ds;omega);have isl:gIsa .list (.lst ((zfb m ds).map prT)) S=.ok (.bl true) S:=rfl;generalize T.lst ((zfb m ds).map prT)=A at al isl ⊢;simp[zbw,zee,isl,al]
 ·rw[hf.2 q]
  have hv:Val (ansL k ds m):=by
   unfold ansL;rw[if_neg q]
   split
   ·exact z1o m ds
   ·split<;>exact .inr ⟨_,rfl⟩
  have fv:=zut (c:=c) (S:=S) hv;have isl:gIsa .list (ansL k ds m) S=.ok (.bl false) S:=by rcases hv with h | ⟨i,h⟩<;>rw[h]<;>rfl
  generalize ansL k ds m=A at fv isl ⊢;simp[zbw,zee,isl,fv]
end DN
namespace DN
open PySem L2 MF
variable {c:Cl}{S:Sto}
open Classical in
def Dd.of(t:T):Dd:=if h:∃d:Dd,d.t=t then h.choose else .non
theorem Dd.of_t{t:T}(h:∃d:Dd,d.t=t):(Dd.of t).t=t:=by
 unfold Dd.of;rw[dif_pos h];exact h.choose_spec
theorem z7n(x:Int):∃d:Dd,d.t=zsf x:=by
 unfold zsf
 split
 ·exact⟨.say _,rfl⟩
 ·split
  ·exact⟨.non,rfl⟩
  ·split
   ·exact⟨.fail _,rfl⟩
   ·exact⟨.add _,rfl⟩
def zdm(ps:List Pc)(res:List Str):List Rd:=res.map fun x=>(x,Dd.of (((ps.find? fun p=>decide (p.nm=x)).map (·.dd)).getD .non))
theorem zwn(ps:List Pc)(res:List Str):(zdm ps res).length=res.length:=by simp[zdm]
theorem z1p{ps:List Pc}(nd:(ps.map (·.nm)).Nodup){p:Pc}(hp:p∈ps):ps.find? (fun q=>decide (q.nm=p.nm))=some p:=by
 cases ef:ps.find? (fun q=>decide (q.nm=p.nm)) with
 | none=>
   have:=List.find?_eq_none.mp ef p hp;simp at this
 | some q=>
   have q1:=List.mem_of_find?_eq_some ef;have q2:q.nm=p.nm:=by simpa using List.find?_some ef
   rw[z4v nd q q1 p hp q2]
theorem z44{ps:List Pc}(nd:(ps.map (·.nm)).Nodup)(hd:∀p∈ps,∃d:Dd,d.t=p.dd){p:Pc}(hp:p∈ps):rdT (p.nm,Dd.of (((ps.find? fun q=>decide (q.nm=p.nm)).map (·.dd)).getD .non))=.tup [.str p.nm,p.dd]:=by
 rw[z1p nd hp];show T.tup [.str p.nm,(Dd.of p.dd).t]=_;rw[Dd.of_t (hd p hp)]
theorem zwo{hps:List HP}{ps:List Pc}(hc:hps.map HP.core=ps.map Pc.full)(nd:(ps.map (·.nm)).Nodup)(hd:∀p∈ps,∃d:Dd,d.t=p.dd):∀(res:List Str),(∀x∈res,x∈ps.map (·.nm))->∃dds:List HP,dds.map (·.nm)=res/\(∀p∈dds,p∈hps)/\dds.map (fun p=>T.tup [.str p.nm,p.dd])=(zdm ps res).map rdT
 |[],_=>⟨[],rfl,fun p hp=>absurd hp List.not_mem_nil,rfl⟩
 | x::res,h=>by
   obtain⟨dds,e1,e2,e3⟩:=zwo hc nd hd res fun y hy=>h y (List.mem_cons_of_mem _ hy);obtain⟨q,hq,rfl⟩:=List.mem_map.mp (h x (List.mem_cons_self ..));obtain⟨p,hp,ec⟩:=zss hc hq;have en:p.nm=q.nm:=(zny ec).1;have edd:p.dd=q.dd:=by
    simp only[HP.core,Pc.full,Prod.mk.injEq] at ec;exact ec.2.2.1
   refine⟨p::dds,by rw[List.map_cons,e1,en],fun r hr=>?_,?_⟩
   ·rcases List.mem_cons.mp hr with rfl | hr
    ·exact hp
    ·exact e2 r hr
   ·rw[List.map_cons,e3,en,edd,<- z44 nd hd hq]
    rfl
theorem z7o{h:Nat}{pl:List PlM}{hps:List HP}{ps:List Pc}{pm:PlM}{n:Int}(A:za5 c S h pl hps)(hq:pl.find? (fun p=>decide (p.nm=("hub" : Str)))=some pm)(hc:hps.map HP.core=ps.map Pc.full)(D:Drw ps)(hd:∀p∈ps,∃d:Dd,d.t=p.dd) :
  (∀res,topo (zfn (hubN ps) (hps.filter hubH)) (hubN ps).length (hubN ps) []=some res->∃S' r,zj3 c [.obj h,.str "hub",.int n] S=.ok (.obj r) S'/\zcl c S' r (Rs.x ⟨pm.kind,pm.rule,n,zdm ps res,[],false,[],.non,[]⟩)/\S.length<=r/\S.length<=S'.length/\∀j,j<S.length->S'[j]?=S[j]?) /\
  (topo (zfn (hubN ps) (hps.filter hubH)) (hubN ps).length (hubN ps) []=none->∃S' fs,zj3 c [.obj h,.str "hub",.int n] S=.exc c.ring fs S'/\∀j,j<S.length->S'[j]?=S[j]?):=by
 have hl:=z3h hc;have dl:=D.len;have nms:(hps.filter hubH).map (·.nm)=hubN ps:=z3k (zqn hc);have ma:=zg9 (m:=Str.ofString "at") h (by simp) (by simp);have ea:=f_at A hq (by omega);have ea:zg6 c [.obj h,.str "hub"] S=.ok (strL ((hps.filter hubH).map (·.nm))) S:=ea;rw[nms] at ea;obtain⟨p1,p2⟩:=zqh A (zwb D.nd) nms (fun q hq2=>by
  have hq3:=(List.mem_filter.mp hq2).1;obtain⟨p,hp,e⟩:=zqm hc hq3;obtain⟨_,e2,e3⟩:=zny e;have:=D.w p hp;rw[e2,e3];exact⟨hq3,this⟩) (Zcp hc D)
 have i0:=A.ins;have hm1:=zg9 (m:=Str.ofString "find_place") h (by simp) (by simp);have fpl:=zgn A hq;refine⟨fun res hr=>?_,fun hr=>?_⟩
 ·obtain⟨S1,e,g,k⟩:=p1 res hr
  obtain⟨tail,e0,hp,_⟩:=zkx (hubN ps).length (zwb D.nd) rfl hr;rw[List.nil_append] at e0;subst e0;have sub:∀x∈res,x∈ps.map (·.nm):=fun x hx=>by
   obtain⟨p,hp2,rfl⟩:=znz (hp.mem_iff.mp hx);exact List.mem_map.mpr ⟨p,hp2,rfl⟩
  obtain⟨dds,d1,d2,d3⟩:=zwo hc D.nd hd res sub;have rl:res.length<=24:=by rw[hp.length_eq];have:=zqo ps;omega
  have lt:S.length+1<S1.length:=(List.getElem?_eq_some_iff.mp g).1;have eb:=zsw (n:=.int n) A hq e (dds:=dds) (by rw[g,<- d1,List.map_map];rfl) (A.keep k) d2 (by have:=congrArg List.length d1;simp at this;omega);rw[d3] at eb;refine⟨_,S1.length,?_,z1d,by omega,by simp;omega,fun j hj=>by rw[List.getElem?_append_left (by omega)];exact k j hj⟩;have eb:zcs c [.obj h,.str "hub",strL (hubN ps),.int n] S=.ok (.obj S1.length) (S1++(Rs.x ⟨pm.kind,pm.rule,n,zdm ps res,[],false,[],.non,[]⟩).block c S1.length):=eb;generalize strL (hubN ps)=NL at ea eb;simp[zj3,zty,i0,ma,ea,eb]
 ·obtain⟨S1,ring,e,k,_⟩:=p2 hr
  refine⟨S1,some [("ring",strL ring)],?_,k⟩;have eo:zcs c [.obj h,.str "hub",strL (hubN ps),.int n] S=.exc c.ring (some [("ring",strL ring)]) S1:=by
   generalize strL (hubN ps)=NL at e ⊢;have:zdu c [some (.obj h),some (.str "hub"),some NL,some (.int n),some (.obj pm.i),none] S=.exc c.ring (some [("ring",strL ring)]) S1:=by simp[zdu,e]
   simp[zcs,ziv,i0,hm1,fpl,zek,this]
  generalize strL (hubN ps)=NL at ea eo;simp[zj3,zty,i0,ma,ea,eo]
end DN
namespace DN
open PySem L2 MF
variable {c:Cl}{S:Sto}
theorem z7p{ps:List Pc}{res:List Str}(D:Drw ps)(hs:∀x∈res,x∈ps.map (·.nm)):∀p∈zdm ps res,Sm p.1:=fun p hp=>by
 obtain⟨x,hx,rfl⟩:=List.mem_map.mp hp;obtain⟨q,hq,e⟩:=List.mem_map.mp (hs x hx);have:=D.sm q hq;unfold Sm;show(reprText x).length<=100;rw[<- e];omega
theorem Za7{h:Nat}{pl:List PlM}{hps:List HP}{ps:List Pc}{pm:PlM}{n:Int}(A:za5 c S h pl hps)(hq:pl.find? (fun p=>decide (p.nm=("hub" : Str)))=some pm)(hc:hps.map HP.core=ps.map Pc.full)(D:Drw ps)(hd:∀p∈ps,∃d:Dd,d.t=p.dd)
  (hk:pm.kind = "all" \/ pm.kind = "first" \/ pm.kind = "chain" \/ pm.kind = "round") (hr:pm.rule = "hold" \/ pm.rule = "hand") :
  (∀res,topo (zfn (hubN ps) (hps.filter hubH)) (hubN ps).length (hubN ps) []=some res->∃S',(∀j,j<S.length->S'[j]?=S[j]?)/\S.length<=S'.length /\
   ((pm.rule = "hand" /\ ∃q t,za6 pm.kind (zdm ps res)=q::t/\zic c [.obj h,.str "hub",.int n] S=.exc c.deedFault (some [("piece",.str q.1),("code",.int q.2)]) S') \/
    ((pm.rule = "hand" -> za6 pm.kind (zdm ps res)=[])/\zic c [.obj h,.str "hub",.int n] S=.ok (.tup [ansL pm.kind (zdm ps res) n,.lst ((za6 pm.kind (zdm ps res)).map flT)]) S'))) /\
  (topo (zfn (hubN ps) (hps.filter hubH)) (hubN ps).length (hubN ps) []=none->∃S' fs,zic c [.obj h,.str "hub",.int n] S=.exc c.ring fs S'/\∀j,j<S.length->S'[j]?=S[j]?):=by
 obtain⟨b1,b2⟩:=z7o (n:=n) A hq hc D hd;refine⟨fun res hr'=>?_,fun hr'=>?_⟩
 ·obtain⟨S1,r,e,R,l1,l2,k⟩:=b1 res hr'
  obtain⟨tail,e0,hp,_⟩:=zkx (hubN ps).length (zwb D.nd) rfl hr';rw[List.nil_append] at e0;subst e0;have sub:∀x∈res,x∈ps.map (·.nm):=fun x hx=>by
   obtain⟨p,hp2,rfl⟩:=znz (hp.mem_iff.mp hx);exact List.mem_map.mpr ⟨p,hp2,rfl⟩
  have rl:res.length<=24:=by rw[hp.length_eq];have:=zqo ps;have:=D.len;omega
  obtain⟨S2,k5,h5⟩:=z1k R hk hr (z7p D sub) (by rw[zwn];omega);refine⟨S2,fun j hj=>by rw[k5.same j (by omega)];exact k j hj,by rw[k5.len];exact l2,?_⟩;rcases h5 with⟨h1,q,t,h2,h3⟩ | ⟨h1,h2⟩
  ·exact .inl ⟨h1,q,t,h2,by simp[zic,zvv,e,h3]⟩
  ·refine .inr ⟨h1,?_⟩
   generalize T.tup [ansL pm.kind (zdm ps res) n,.lst ((za6 pm.kind (zdm ps res)).map flT)]=R2 at h2 ⊢;simp[zic,zvv,e,h2]
 ·obtain⟨S1,fs,e,k⟩:=b2 hr'
  exact⟨S1,fs,by simp[zic,zvv,e],k⟩
theorem Zct(nd:[c.ring,c.deedFault].Nodup){h:Nat}{n:Int}{S':Sto} :
  (∀{v:T},zic c [.obj h,.str "hub",.int n] S=.ok v S'->zbc c [.obj h,.int n] S=.ok (.tup [.str "told",v]) S') /\
  (∀{q:Str×Int},zic c [.obj h,.str "hub",.int n] S=.exc c.deedFault (some [("piece",.str q.1),("code",.int q.2)]) S'->zbc c [.obj h,.int n] S=.ok (.tup [.str "fault",flT q]) (S'++[.exc c.deedFault (some [("piece",.str q.1),("code",.int q.2)])])) /\
  (∀{fs:Option (List (Str×T))},zic c [.obj h,.str "hub",.int n] S=.exc c.ring fs S'->zbc c [.obj h,.int n] S=.ok (.tup [.str "ring"]) S'):=by
 have ne:c.ring≠c.deedFault:=by simpa using nd
 refine⟨fun {v} e=>?_,fun {q} e=>?_,fun {fs} e=>?_⟩
 ·simp[zbc,ze4,zcz,e]
 ·have e1:subL [c.ring,c.deedFault] c.deedFault c.deedFault=some true:=by simp[subL]
  have g:(S'++[Cell.exc c.deedFault (some [("piece",.str q.1),("code",.int q.2)])])[S'.length]?=some (.exc c.deedFault (some [("piece",.str q.1),("code",.int q.2)])):=by simp
  have b2:zfd c [some (.obj h),some (.int n),none,some (.obj S'.length)] (S'++[.exc c.deedFault (some [("piece",.str q.1),("code",.int q.2)])])=.ok (.nx [some (.obj h),some (.int n),some (.tup [.str "fault",flT q]),some (.obj S'.length)]) (S'++[.exc c.deedFault (some [("piece",.str q.1),("code",.int q.2)])]):=by
   simp[zfd,gXat,g,List.lookup_cons,flT]
  simp[zbc,ze4,zcz,e,hdAs,e1,msk,b2,calmR,MF.unI]
 ·have e1:subL [c.ring,c.deedFault] c.deedFault c.ring=some false:=by simp[subL,ne]
  have e2:subL [c.ring,c.deedFault] c.ring c.ring=some true:=by simp[subL]
  simp[zbc,ze4,zcz,e,hdAs,z2w,e1,e2,msk,zid,calmR]
theorem zuv{q:Str×Int}:zbj c [.tup [.str "fault",flT q],.tup [.str "fault",flT q]] S=.ok (.bl true) S:=by
 have fv:=zut (c:=c) (S:=S) (v:=.int q.2) (.inr ⟨_,rfl⟩);simp[zbj,zf4,flT,fv,eAnd]
theorem zx1{k:Str}{ds:List Rd}{m:Int}{l:List (Str×Int)}(hl:ds.length<=900)(hl2:l.length<=900):zbj c [.tup [.str "told",.tup [ansL k ds m,.lst (l.map flT)]],.tup [.str "told",.tup [ansL k ds m,.lst (l.map flT)]]] S=.ok (.bl true) S:=by
 have fa:=zuu (c:=c) (S:=S) (k:=k) (ds:=ds) (m:=m) (f:=ansL k ds m) ⟨fun q=>by simp[ansL,q],fun _=>rfl⟩ hl;have fp:=zx0 (c:=c) (S:=S) (f:=.lst (l.map flT)) (d:=.lst (l.map flT)) rfl rfl hl2;have it:∀a b:T,gIsa .tuple (.tup [a,b]) S=.ok (.bl true) S:=fun a b=>rfl;have l2:∀a b:T,gLen (.tup [a,b]) S=.ok (.int 2) S:=fun a b=>by simp[gLen]
 generalize T.lst (l.map flT)=L at fp ⊢;generalize ansL k ds m=A at fa ⊢;simp[zbj,zf4,it,l2,fa,fp,eAnd]
end DN
namespace DN
open PySem L2 MF
variable {c:Cl}{S:Sto}
noncomputable def ddD(ps:List Pc):List (Key×T):=ps.map fun p=>(.inr p.nm,p.dd)
theorem zuw(x:Str):∀(ps:List Pc),valT (ddD ps) (.inr x)=(ps.find? fun p=>decide (p.nm=x)).map (·.dd)
 |[]=>rfl
 | p::ps=>by
   have ih:=zuw x ps;by_cases h:p.nm=x
   ·simp[ddD,valT,List.find?_cons,h]
   ·simp only[ddD,valT,List.map_cons,List.find?_cons] at ih ⊢
    simp[h] at ih ⊢;exact ih
noncomputable def zl4(x:Int):Str:=if x%4=0 then "all" else if x%4=1 then "first" else if x%4=2 then "chain" else "round"
def zo5(x:Int):Str:=if x / 4%2=0 then "hold" else "hand"
theorem z7q(x:Int):atI [T.str "all",.str "first",.str "chain",.str "round"] (x%4)=some (.str (zl4 x)):=by
 unfold zl4;have:x%4=0\/x%4=1\/x%4=2\/x%4=3:=by omega
 rcases this with h | h | h | h<;>rw[h]<;>rfl
theorem z7r(x:Int):atI [T.str "hold",.str "hand"] (x / 4%2)=some (.str (zo5 x)):=by
 unfold zo5;have:x / 4%2=0\/x / 4%2=1:=by omega
 rcases this with h | h<;>rw[h]<;>rfl
theorem z7s(x:Int):zl4 x = "all" \/ zl4 x = "first" \/ zl4 x = "chain" \/ zl4 x = "round":=by
 unfold zl4
 split
 ·exact .inl rfl
 ·split
  ·exact .inr (.inl rfl)
  ·split
   ·exact .inr (.inr (.inl rfl))
   ·exact .inr (.inr (.inr rfl))
theorem z7t(x:Int):zo5 x = "hold" \/ zo5 x = "hand":=by
 unfold zo5
 split
 ·exact .inl rfl
 ·exact .inr rfl
theorem z1q{E:Ev}{k:Nat}{st:Sto->Prop}(hst:∀S,st S)(h9:E[9]?=some (some (.obj k)))(h11:E.length=11):∀(qs acc:List Pc) {x:Option T} {S:Sto},S[k]?=some (.dic (ddD acc))->((acc++qs).map (·.nm)).Nodup->(acc++qs).length<=100 ->
  ∃x',za0 st (zaz 10) (zf5 c) (qs.map Pc.t) (E.set 10 x) S=.ok (.nx (E.set 10 x')) (S.set k (.dic (ddD (acc++qs))))
 | [],acc,x,S,hk,_,_=>by
   refine⟨x,?_⟩;have e:S.set k (.dic (ddD acc))=S:=by
    apply List.ext_getElem?;intro j;by_cases h:j=k
    ·subst h;rw[zbq hk,hk]
    ·rw[zab (Ne.symm h)]
   simp[za0,hst,e]
 | q::qs,acc,x,S,hk,hn,hl=>by
   have hq:q.nm∉acc.map (·.nm):=fun h=>by
    rw[List.map_append,List.nodup_append] at hn;exact hn.2.2 q.nm h q.nm (by simp) rfl
   have e1:valT (ddD acc) (.inr q.nm)=none:=by
    rw[zuw];cases e:acc.find? (fun p=>decide (p.nm=q.nm)) with
    |none=>rfl
    |some p=>exact absurd (List.mem_map.mpr ⟨p,List.mem_of_find?_eq_some e,by simpa using List.find?_some e⟩) hq
   have pu:putT (ddD acc) (.inr q.nm) q.dd=ddD (acc++[q]):=by rw[zkw e1];simp[ddD]
   have gl:(ddD acc).length<=900:=by simp[ddD];simp at hl;omega
   have g9:(E.set 10 (some q.t))[9]?=some (some (.obj k)):=by rw[List.getElem?_set_ne (by decide)];exact h9
   have g10:(E.set 10 (some q.t))[10]?=some (some q.t):=by rw[List.getElem?_set_self (by omega)]
   have i0:gIx q.t (.int 0) S=.ok (.str q.nm) S:=by simp[Pc.t]
   have i2:gIx q.t (.int 2) S=.ok q.dd S:=by simp[Pc.t]
   have hb:zf5 c (E.set 10 (some q.t)) S=.ok (.nx (E.set 10 (some q.t))) (S.set k (.dic (ddD (acc++[q])))):=by
    generalize E.set 10 (some q.t)=E2 at g9 g10 ⊢;generalize q.t=QT at g10 i0 i2;simp[zf5,g9,g10,i0,i2,keyT,hk,gl,pu]
   obtain⟨x',w⟩:=z1q hst h9 h11 qs (acc++[q]) (x:=some q.t) (S:=S.set k (.dic (ddD (acc++[q])))) (zbq hk) (by simpa using hn) (by simpa using hl);refine⟨x',?_⟩;rw[List.set_set,List.append_assoc] at w;simp only[List.singleton_append] at w;have gd:zaz 10 q.t (E.set 10 x)=some (E.set 10 (some q.t)):=by simp[zaz]
   simp only[List.map_cons,za0,hst,if_true,gd,zan,hb];exact w
theorem z1r{ps:List Pc}{res:List Str}{k:Nat}{ρ:Ev}(h8:ρ[8]?=some (some (strL res)))(h9:ρ[9]?=some (some (.obj k)))(hk:S[k]?=some (.dic (ddD ps)))(nd:(ps.map (·.nm)).Nodup)(hd:∀p∈ps,∃d:Dd,d.t=p.dd)(hs:∀x∈res,x∈ps.map (·.nm))(hl:res.length<=100) :
  zek 1 [9] (zf7 c) (zaz 0) yesD (zf6 c) finF ρ S=.ok (.lst ((zdm ps res).map rdT)) S:=by
 have cc:=zkl (ρ:=ρ) (S:=S) (js:=[9]) (it:=zf7 c) (te:=zf6 c) (ts:=res.map .str) (st:=fun S'=>zam S' (strL res)=some (res.map .str))
  (f:=fun t=>match t with|.str x=>rdT (x,Dd.of (((ps.find? fun p=>decide (p.nm=x)).map (·.dd)).getD .non)) | _=>.non)
  (by simp[zf7,h8,strL]) rfl (by simp;omega) (fun t ht=>by
   obtain⟨x,hx,rfl⟩:=List.mem_map.mp ht;obtain⟨p,hp,rfl⟩:=List.mem_map.mp (hs x hx);have v:valT (ddD ps) (.inr p.nm)=some p.dd:=by rw[zuw,z1p nd hp];rfl
   show _=R.ok (rdT (p.nm,Dd.of (((ps.find? fun q=>decide (q.nm=p.nm)).map (·.dd)).getD .non))) S;rw[z44 nd hd hp];simp[zf6,h9,gDix,zfu,hk,keyT,v])
 rw[cc,List.map_map];unfold zdm;rw[List.map_map];rfl
theorem z3t(ns:List Int)(start many:Int):∀p∈pcs ns start many,∃d:Dd,d.t=p.dd:=fun p hp=>by
 obtain⟨k,_,rfl⟩:=List.mem_map.mp hp;exact z7n _
end DN
namespace DN
open PySem L2 MF
variable {c:Cl}{S:Sto}
theorem z45{k ru:Str}{ds:List Rd}{m:Int}:(ru = "hand" /\ ∃q t,za6 k ds=q::t/\outL k ru ds m=.tup [.str "fault",flT q])\/((ru = "hand" -> za6 k ds=[])/\outL k ru ds m=.tup [.str "told",.tup [ansL k ds m,.lst ((za6 k ds).map flT)]]):=by
 unfold outL;cases hq:za6 k ds with
 |nil=>exact .inr ⟨fun _=>rfl,rfl⟩
 | cons q l=>
   by_cases hr:ru = "hand"
   ·exact .inl ⟨hr,q,l,rfl,by simp[hr]⟩
   ·exact .inr ⟨fun h=>absurd h hr,by simp[hr]⟩
def z7u(c:Cl):DS:=(sSeq (sIf (tst (e2 gIs (eVar 8) (eC .non))) (sRet (e2 gEq (eVar 7) (eA tupF (zad (eC (.str "ring")) aNil)))) sNx) (sSeq (sSet 9 zlw) (sSeq (sFor (iL (eVar 1)) (zaz 10) (zf5 c)) (sRet (zbe (lenF 2 (zbj c)) [] (zad (eVar 7) (zad (zbe (lenF 4 (zcv c)) [] (zad (eVar 2) (zad (eVar 3) (zad (zek 1 [9] (zf7 c) (zaz 0) yesD (zf6 c) finF) (zad (eVar 4) aNil))))) aNil)))))))
theorem law5(nd:[c.ring,c.deedFault].Nodup)(ns:List Int):zr0 c [.lst (ns.map .int)] []=.ok (.bl true) []:=by
 have h0:=Int.emod_nonneg (cellAt ns 0) (show(11:Int)≠0 by decide);have h1:=Int.emod_lt_of_pos (cellAt ns 0) (show(0:Int)<11 by decide);have D:=drawn ns 3 (cellAt ns 0%11) h0 (by omega);have sm:=z3l ns 3 (cellAt ns 0%11) h0 (by omega);have hd:=z3t ns 3 (cellAt ns 0%11);have eP:=z29 (c:=c) (S:=[]) ns 3 (cellAt ns 0%11) (by decide) h0 (by omega);have c0:=zvw (c:=c) (S:=[]) ns 0 (by decide);have c1:=zvw (c:=c) (S:=[]) ns 1 (by decide);have c2:=zvw (c:=c) (S:=[]) ns 2 (by decide);generalize pcs ns 3 (cellAt ns 0%11)=ps at D eP sm hd;have k1:=z7q (cellAt ns 1);have k2:=z7r (cellAt ns 1);have hk:=z7s (cellAt ns 1);have hr:=z7t (cellAt ns 1);generalize zl4 (cellAt ns 1)=kind at k1 hk;generalize zo5 (cellAt ns 1)=rule at k2 hr;have dl:=D.len;have W:=D.drw sm;obtain⟨S1,hps,eH,H,hcore,-⟩:=zxs (c:=c) (S:=[]) (kind:=kind) (rule:=rule) D.nd (by omega) D.pl (fun p hp=>by have:=D.w p hp;omega);have a1:=z3j (c:=c) (S:=S1) (ps:=ps) (by omega);have r:=Zax hcore D.nd;have ndh:=zwb D.nd;have hl:=zqo ps;have okn:∀x∈hubN ps,okN x:=fun x hx=>by
  obtain⟨p,hp,rfl⟩:=znz hx;exact D.okn p hp
 have a2:=fun Z:Sto=>zun (c:=c) (S:=Z) (ps:=ps) (names:=hubN ps) (by omega) (fun p hp=>by have:=D.w p hp;omega);have a3:=fun Z:Sto=>zum (c:=c) (S:=Z) r okn (by omega) ndh;obtain⟨t1,t2⟩:=Za7 (n:=cellAt ns 2%2001-1000) H (pm:=⟨"hub",kind,rule,0+3⟩) (by simp[zgz]) hcore W hd hk hr;have t3:=fun S'=>Zct nd (S:=S1) (h:=0) (n:=cellAt ns 2%2001-1000) (S':=S');generalize ns.map T.int=NS at c0 c1 c2 eP ⊢;generalize hn:cellAt ns 2%2001-1000=n at t1 t2 t3
 suffices run:∃S',znf c [some (.lst NS),none,none,none,none,none,none,none,none,none,none] []=.ok (.rt (.bl true)) S' by
  obtain⟨S',e⟩:=run;exact zkm (S':=S') (zke rfl e) rfl (Zcc _ _)
 unfold znf;have fin:∀{x7:T} {S2:Sto},zbc c [.obj 0,.int n] S1=.ok x7 S2->∃S',z7u c [some (.lst NS),some (.lst (ps.map Pc.t)),some (.str kind),some (.str rule),some (.int n),some (.obj 0),some (strL (hubN ps)),some x7,some (match topo (zfn (hubN ps) (hps.filter hubH)) (hubN ps).length (hubN ps) [] with|some res=>strL res | none=>.non),none,none] S2=.ok (.rt (.bl true)) S':=fun {x7 S2} e7=>by
  cases q:topo (zfn (hubN ps) (hps.filter hubH)) (hubN ps).length (hubN ps) [] with
  | none=>
    obtain⟨S',fs,e,-⟩:=t2 q;have e':=(t3 S').2.2 e;rw[e7] at e';injection e' with e1 e2;subst e1 e2;have er:=z7g (S:=S2);refine⟨S2,?_⟩;unfold z7u;exact z7i (by simp[gIs,zgq,er])
  | some res=>
    obtain⟨tail,e0,hp,_⟩:=zkx (hubN ps).length ndh rfl q;rw[List.nil_append] at e0;subst e0;have sub:∀x∈res,x∈ps.map (·.nm):=fun x hx=>by
     obtain⟨p,hp2,rfl⟩:=znz (hp.mem_iff.mp hx);exact List.mem_map.mpr ⟨p,hp2,rfl⟩
    have rl:res.length<=13:=by rw[hp.length_eq];omega
    have ok:∀p∈zdm ps res,okN p.1:=fun p hp2=>by
     obtain⟨x,hx,rfl⟩:=List.mem_map.mp hp2;exact okn x (hp.mem_iff.mp hx)
    have rll:=zwn ps res;have hll:=zwm kind (zdm ps res);obtain⟨S',-,-,h⟩:=t1 res q;have g0:(S2++[Cell.dic []])[S2.length]?=some (.dic (ddD [])):=by simp[ddD]
    obtain⟨x10,L⟩:=z1q (c:=c) (E:=[some (.lst NS),some (.lst (ps.map Pc.t)),some (.str kind),some (.str rule),some (.int n),some (.obj 0),some (strL (hubN ps)),some x7,some (strL res),some (.obj S2.length),none]) (k:=S2.length) (st:=fun S'=>zam S' (.lst (ps.map Pc.t))=some (ps.map Pc.t)) (fun _=>rfl) rfl rfl ps [] (x:=none) g0 (by simpa using D.nd) (by simp;omega);have eS:(S2++[Cell.dic []]).set S2.length (.dic (ddD ([]++ps)))=S2++[.dic (ddD ps)]:=by simp
    rw[eS] at L;have il:iL (eVar 1) [some (.lst NS),some (.lst (ps.map Pc.t)),some (.str kind),some (.str rule),some (.int n),some (.obj 0),some (strL (hubN ps)),some x7,some (strL res),some (.obj S2.length),none] (S2++[.dic []])=.ok (ps.map Pc.t,fun S'=>zam S' (.lst (ps.map Pc.t))=some (ps.map Pc.t)) (S2++[.dic []]):=by simp
    have rc:=z1r (c:=c) (S:=S2++[.dic (ddD ps)]) (ps:=ps) (res:=res) (k:=S2.length) (ρ:=[some (.lst NS),some (.lst (ps.map Pc.t)),some (.str kind),some (.str rule),some (.int n),some (.obj 0),some (strL (hubN ps)),some x7,some (strL res),some (.obj S2.length),x10]) rfl rfl zdk D.nd hd sub (by omega);have ou:=zxz (c:=c) (S:=S2++[.dic (ddD ps)]) (k:=kind) (ru:=rule) (ds:=zdm ps res) (m:=n) (t:=.lst ((zdm ps res).map rdT)) hk znx ok (by omega);have rt:zbj c [x7,outL kind rule (zdm ps res) n] (S2++[.dic (ddD ps)])=.ok (.bl true) (S2++[.dic (ddD ps)]):=by
     rcases h with⟨h1,q1,l1,h2,h3⟩ | ⟨h1,h2⟩
     ·have e':=(t3 S').2.1 h3
      rw[e7] at e';injection e' with e1 e2;subst e1;rcases z45 (k:=kind) (ru:=rule) (ds:=zdm ps res) (m:=n) with⟨_,q2,l2,g2,g3⟩ | ⟨g1,_⟩
      ·rw[h2] at g2
       injection g2 with g4 g5;rw[g3,<- g4];exact zuv
      ·have:=g1 h1
       rw[h2] at this;cases this
     ·have e':=(t3 S').1 h2
      rw[e7] at e';injection e' with e1 e2;subst e1;rcases z45 (k:=kind) (ru:=rule) (ds:=zdm ps res) (m:=n) with⟨g0,q2,l2,g2,g3⟩ | ⟨_,g3⟩
      ·have:=h1 g0
       rw[g2] at this;cases this
      ·rw[g3]
       exact zx1 (l:=za6 kind (zdm ps res)) (by omega) (by omega)
    refine⟨S2++[.dic (ddD ps)],?_⟩;unfold z7u;refine(zgg (r:=[some (.lst NS),some (.lst (ps.map Pc.t)),some (.str kind),some (.str rule),some (.int n),some (.obj 0),some (strL (hubN ps)),some x7,some (strL res),none,none]) (S1:=S2) ?_).trans ?_
    ·generalize ps.map Pc.t=PL
     simp[gIs,zgq,strL]
    ·refine(zgg (zjc (t:=.obj S2.length) (S1:=S2++[.dic []]) (by simp))).trans ?_
     refine(zgg ((zwd il).trans L)).trans ?_;exact z1f (zh6 (zb8 rfl (zb8 (zh6 (zb8 rfl (zb8 rfl (zb8 rc (zb8 rfl rfl)))) rfl ou) rfl)) rfl rt)
 obtain⟨x7,S2,e7⟩:∃x7 S2,zbc c [.obj 0,.int n] S1=.ok x7 S2:=by
  cases q:topo (zfn (hubN ps) (hps.filter hubH)) (hubN ps).length (hubN ps) [] with
  | none=>
    obtain⟨S',fs,e,-⟩:=t2 q;exact⟨_,_,(t3 S').2.2 e⟩
  | some res=>
    obtain⟨S',-,-,h⟩:=t1 res q;rcases h with⟨_,q1,l1,_,h3⟩ | ⟨_,h2⟩
    ·exact⟨_,_,(t3 S').2.1 h3⟩
    ·exact⟨_,_,(t3 S').1 h2⟩
 obtain⟨S',ef⟩:=fin e7;refine⟨S',?_⟩;refine(zgg (zjc (t:=.lst (ps.map Pc.t)) (S1:=[]) ?_)).trans ?_
 ·generalize ps.map Pc.t=PL at eP
  simp[c0,eP]
 refine(zgg (zjc (t:=.str kind) (S1:=[]) ?_)).trans ?_
 ·generalize ps.map Pc.t=PL
  simp[c1,k1]
 refine(zgg (zjc (t:=.str rule) (S1:=[]) ?_)).trans ?_
 ·generalize ps.map Pc.t=PL
  simp[c1,k2]
 refine(zgg (zjc (t:=.int n) (S1:=[]) ?_)).trans ?_
 ·generalize ps.map Pc.t=PL
  simp[c2,hn]
 refine(zgg (zjc (zh6 (zb8 rfl (zb8 rfl (zb8 rfl rfl))) rfl eH))).trans ?_;refine(zgg (zjc (zh6 (zb8 rfl rfl) rfl a1))).trans ?_;refine(zgg (zjc (zh6 (zb8 rfl (zb8 rfl rfl)) rfl e7))).trans ?_;refine(zgg (zjc (zh6 (zb8 rfl (zb8 (zh6 (zb8 rfl (zb8 rfl rfl)) rfl (a2 S2)) rfl)) rfl (a3 S2)))).trans ?_;exact ef
end DN
namespace MF
open PySem L2
theorem u{d k:Nat}{A:Nat->Prop}(h:∀k,d<=k->A k)(hd:d<=k:=by decide):A k:=h k hd
section
variable {P:Program}{w:World}{K:PySem.W.Frag}{mg:Str->Option Value}{base h:Heap}{x m qual:Str}{st:Stmt}{dV:Value}{ps:List Str}{C f:Addr}{fd:FuncData}{F:Fn}{d:Nat}
structure FV(K:PySem.W.Frag)(x qual:Str)(st:Stmt)(dV:Value)(ps:List Str)(f:Addr)(fd:FuncData):Prop where
 v:FunV K x qual st dV f fd
 b:ze5 K fd ps []
structure FN(K:PySem.W.Frag)(x:Str)(st:Stmt)(ps:List Str)(f:Addr)(fd:FuncData):Prop extends FV K x x st .none ps f fd where
 a:PySem.W.nsIn K mainGlobals x=some (some (.ref f))
structure FM(K:PySem.W.Frag)(C:Addr)(m qual:Str)(st:Stmt)(dV:Value)(ps:List Str)(f:Addr)(fd:FuncData):Prop extends FV K m qual st dV ps f fd where
 a:PySem.W.findIn K (.ref C) m=some (some (.ref f))
 i:PySem.W.isFn K (.ref f)=true
structure CM(K:PySem.W.Frag)(x:Str)(C:Addr):Prop where
 a:PySem.W.nsIn K mainGlobals x=some (some (.ref C))
 mk1:PySem.W.makesIn K C=true
 kp:PySem.W.keepIn K (.ref C)=true
theorem FN.up(y:FN K x st ps f fd)(X:K.In h)(G:h.Ns mainGlobals mg)(o:FnOk P w K mg base (CXE P w) d f fd ps (spM ps.length F)):∀k,d<=k->FnAt P w K mg base k x ps F f fd:=fun _ q=>⟨o.mono q,PySem.W.mg_of X G y.a,y.v.kp,y.b⟩
theorem FM.up(y:FM K C m qual st dV ps f fd)(c:Cls K C)(o:FnOk P w K mg base (CXE P w) d f fd ps (spM ps.length F)):∀k,d<=k->MeAt P w K mg base k C m ps F f fd:=fun _ q=>⟨o.mono q,c,⟨y.a,y.i,y.v.kp⟩,y.b⟩
theorem FM.mk'(y:FM K C "__init__" qual st dV ps f fd)(c:CM K x C)(X:K.In h)(G:h.Ns mainGlobals mg)(o:FnOk P w K mg base (CXE P w) d f fd ps (spM ps.length F)):∀k,d<=k->MkAt P w K mg base k x C ps F f fd:=fun _ q=>⟨o.mono q,PySem.W.mg_of X G c.a,⟨c.mk1,y.a,y.i,c.kp⟩,y.b⟩
variable {oc:Value}{od an:Option Addr}{sl:Array (Option Value)}{kV dc pm cd ct:Value}
theorem Zcu(a:PySem.W.nsIn K mainGlobals x=some (some (.ref f)))(l:K.lookup f=some ⟨oc,od,.func (PySem.W.fnOf x x (zc9 st) (zcc st) (zag st) .none kV dc pm an cd ct),sl⟩)(c:PySem.W.codeIn K cd x=true)(k:PySem.W.keepIn K (.ref f)=true)
 (b:∀(kV doc pm:Value) (an:Option Addr) (cdv ct:Value) (us:List Value),us.length=ps.length->bindArgs (PySem.W.fnOf x x (zc9 st) (zcc st) (zag st) .none kV doc pm an cdv ct) ⟨us,[]⟩=pure (ps.zip us)):FN K x st ps f (PySem.W.fnOf x x (zc9 st) (zcc st) (zag st) .none kV dc pm an cd ct):=⟨⟨(zu5 l c k).toV,(zu5 l c k).binds b⟩,a⟩
theorem Zcv(a:PySem.W.findIn K (.ref C) x=some (some (.ref f)))(i:PySem.W.isFn K (.ref f)=true)(l:K.lookup f=some ⟨oc,od,.func (PySem.W.fnOf x qual (zc9 st) (zcc st) (zag st) .none kV dc pm an cd ct),sl⟩)(c:PySem.W.codeIn K cd qual=true)(k:PySem.W.keepIn K (.ref f)=true)
 (b:∀(kV doc pm:Value) (an:Option Addr) (cdv ct:Value) (us:List Value),us.length=ps.length->bindArgs (PySem.W.fnOf x qual (zc9 st) (zcc st) (zag st) .none kV doc pm an cdv ct) ⟨us,[]⟩=pure (ps.zip us)):FM K C x qual st .none ps f (PySem.W.fnOf x qual (zc9 st) (zcc st) (zag st) .none kV dc pm an cd ct):=⟨⟨(zu5 l c k).toV,(zu5 l c k).binds b⟩,a,i⟩
theorem z46(a:PySem.W.findIn K (.ref C) x=some (some (.ref f)))(i:PySem.W.isFn K (.ref f)=true)(l:K.lookup f=some ⟨oc,od,.func (PySem.W.fnOf x qual (zc9 st) (zcc st) (zag st) dV kV dc pm an cd ct),sl⟩)(c:PySem.W.codeIn K cd qual=true)(k:PySem.W.keepIn K (.ref f)=true)(b:ze5 K (PySem.W.fnOf x qual (zc9 st) (zcc st) (zag st) dV kV dc pm an cd ct) ps []):FM K C x qual st dV ps f (PySem.W.fnOf x qual (zc9 st) (zcc st) (zag st) dV kV dc pm an cd ct):=⟨⟨⟨⟨_,_,_,_,_,_,_,_,_,rfl,l,c⟩,k⟩,b⟩,a,i⟩
end
end MF
namespace K05
open PySem L2 MF DN
theorem bd_Hall_hang_0{K:W.Frag}{T:Addr}{oc:Value}{od an:Option Addr}{sl:Array (Option Value)}{n:Nat}{kV dc pm cd ct:Value}(l:K.lookup T=some ⟨oc,od,.seq #[.none] n,sl⟩):ze5 K (W.fnOf "hang" "Hall.hang" (zc9 zd1) (zcc zd1) (zag zd1) (.ref T) kV dc pm an cd ct) ["self", "name", "place", "deed", "by"] []:=fun s us X hl=>by
 obtain⟨_,_,_,_,_,rfl⟩:=len5 (show us.length=5 by simpa using hl);exact W.binds_K X rfl l rfl rfl rfl
theorem zoe{K:W.Frag}{T f:Addr}{oc:Value}{od:Option Addr}{sl:Array (Option Value)}{n:Nat}{fd:FuncData}(v:FunV K "hang" "Hall.hang" zd1 (.ref T) f fd)(l:K.lookup T=some ⟨oc,od,.seq #[.none] n,sl⟩):ze5 K fd ["self", "name", "place", "deed", "by"] [.none]:=fun s us X hl=>by
 obtain⟨_,_,_,_,_,_,_,_,_,rfl,_,_⟩:=v.ex;obtain⟨_,_,_,_,rfl⟩:=len4 (show us.length=4 by simpa using hl);exact W.binds_K X rfl l rfl rfl rfl
theorem bd_Hall_wish_0{K:W.Frag}{T:Addr}{oc:Value}{od an:Option Addr}{sl:Array (Option Value)}{n:Nat}{kV dc pm cd ct:Value}(l:K.lookup T=some ⟨oc,od,.seq #[.none,.none,.none,.none] n,sl⟩):ze5 K (W.fnOf "wish" "Hall.wish" (zc9 zex) (zcc zex) (zag zex) (.ref T) kV dc pm an cd ct) ["self", "name", "ahead", "behind", "needs", "bars"] []:=fun s us X hl=>by
 obtain⟨_,_,_,_,_,_,rfl⟩:=len6 (show us.length=6 by simpa using hl);exact W.binds_K X rfl l rfl rfl rfl
theorem all_mk{l:W.OpenLaw}{w:World}{K:W.Frag}{h:Heap}{mg:Str->Option Value}{fa:Addr}{yu yl y2a yb y4 yg y06 y02 y03 yp yh y1 y4r y6w y6q y72 y5c y46 y3h y38 y36 y30 y3c y6i y3l y7t y5x y3b y4j y76 y5l y74 y2m y0g y6n y7z y3v y71 y4w y7b y5u y4d y5s y7p y5r y44 y48 y3o y29 y4s y4a y5v y7g y4o y7w y6z y6p y6e y2i y69 y67 y31 y2y y66 y60 y75 y25 y4y y2:Addr}  {y55 y4q:Option Addr}{y4z y53:Array (Option Value)}{y50 y52:Value}{y41 y3m:Tok}{y5g y5n:Nat}{y54 y7d y6t y6s y5h y3t y3e y33 y37 y35 y3k y5y y7u y62 y4n y6v y5t y6y y2k y2l y77 y7v y3n y6j y4x y6u y5k y4b y5p y7s y5o y45 y4f y42 y3q y4v y49 y5f y7j y5a y7y y6l y6k y64 y2g y5w y6g y3a y2x y6h y63 y73 y28 y4p y3:FuncData}
  (X:K.In h) (G:h.Ns mainGlobals mg) (hfa:mg "law" = some (.ref fa))
  (y23:W.nsIn K mainGlobals "HallError" = some (some (.ref y4)))
  (y1v:W.nsIn K mainGlobals "NameThere" = some (some (.ref yg)))
  (y2o:W.nsIn K mainGlobals "NoPlace" = some (some (.ref y06)))
  (y2r:W.nsIn K mainGlobals "NoPiece" = some (some (.ref y02)))
  (y2n:W.nsIn K mainGlobals "TooMany" = some (some (.ref y03)))
  (y2b:W.nsIn K mainGlobals "NoAnswer" = some (some (.ref yp)))
  (y4t:W.nsIn K mainGlobals "Ring" = some (some (.ref yh)))
  (y1y:W.nsIn K mainGlobals "DeedFault" = some (some (.ref y1)))
  (y6d:CM K "Hall" yu)
  (yx:Cls K yu)
  (y51:CM K "Piece" yl)
  (y3w:Cls K yl)
  (y5b:CM K "Place" y2a)
  (y43:Cls K y2a)
  (y7e:CM K "Run" yb)
  (yz:Cls K yb)
  (y0b:FN K "_law_cell_at" zhu ["script", "k"] y4r y54)
  (y1n:FN K "_law_name" zla ["k"] y6w y7d)
  (y1l:FN K "_law_some" zlb ["cell", "many"] y6q y6t)
  (y1k:FN K "_law_deed" zlc ["cell"] y72 y6s)
  (y0r:FN K "_law_pieces" ziw ["script", "start", "many"] y5c y5h)
  (ys:FM K yu "__init__" "Hall.__init__" zf8 .none ["self"] y46 y3t)
  (yn:FM K y2a "__init__" "Place.__init__" zfe .none ["self", "kind", "rule"] y3h y3e)
  (yj:FM K yu "open_place" "Hall.open_place" zeu .none ["self", "name", "kind", "rule"] y38 y33)
  (yk:FM K yu "find_place" "Hall.find_place" zev .none ["self", "name"] y36 y37)
  (yf:FM K yu "find_piece" "Hall.find_piece" zew .none ["self", "name"] y30 y35)
  (yo:FM K yl "__init__" "Piece.__init__" zff .none ["self", "place", "deed", "by"] y3c y3k)
  (y08:FM K yu "hang" "Hall.hang" zd1 (.ref y3l) ["self", "name", "place", "deed", "by"] y6i y5y)
  (y2c:K.lookup y3l=some ⟨y50,y55,.seq #[.none] y5g,y4z⟩)
  (y2v:FN K "wished" zpz ["names"] y7t y7u)
  (y18:FM K yu "wish" "Hall.wish" zex (.ref y3b) ["self", "name", "ahead", "behind", "needs", "bars"] y5x y62)
  (y3g:K.lookup y3b=some ⟨y52,y4q,.seq #[.none,.none,.none,.none] y5n,y53⟩)
  (y0d:FM K yu "switch" "Hall.switch" zhv .none ["self", "name", "on"] y4j y4n)
  (y1o:FN K "_law_hall" zlf ["pieces", "kind", "rule"] y76 y6v)
  (y0q:FN K "_law_at_hub" zix ["pieces"] y5l y5t)
  (y1s:FM K yb "over" "Run.over" zlg .none ["self"] y74 y6y)
  (ya:FM K yb "leave_the_rest" "Run.leave_the_rest" zdo .none ["self"] y2m y2k)
  (y6:FM K y1 "__init__" "DeedFault.__init__" zdp .none ["self", "piece", "code"] y0g y2l)
  (y1r:FM K yb "fall" "Run.fall" zlh .none ["self", "name", "code"] y6n y77)
  (y4i:FN K "said" z0f ["deed", "number"] y7z y7v)
  (yq:FM K yb "go_within" "Run.go_within" zf9 .none ["self", "deed"] y3v y3n)
  (y1p:FM K yb "hear" "Run.hear" zli .none ["self", "number"] y71 y6j)
  (y0e:FM K yb "perform" "Run.perform" zhx .none ["self", "name", "deed"] y4w y4x)
  (y1t:FM K yb "step" "Run.step" zlj .none ["self"] y7b y6u)
  (y0t:FM K yb "faults" "Run.faults" zi0 .none ["self"] y5u y5k)
  (yy:FN K "brought_back" zgu ["number", "around"] y4d y4b)
  (y0o:FM K yb "answer" "Run.answer" zi1 .none ["self"] y5s y5p)
  (y2u:FN K "finish" zp3 ["run"] y7p y7s)
  (y0s:FN K "seconds_of" zi2 ["hall", "names"] y5r y5o)
  (yr:FN K "earliest_free" zga ["seconds", "left"] y44 y45)
  (y01:FN K "ring_through" zgv ["seconds", "start"] y48 y4f)
  (yt:FN K "shortest_ring" zgb ["seconds"] y3o y42)
  (yd:FM K yh "__init__" "Ring.__init__" zgc .none ["self", "ring"] y29 y3q)
  (y0c:FN K "order_among" zhy ["hall", "names"] y4s y4v)
  (y00:FM K yb "__init__" "Run.__init__" zgw .none ["self", "kind", "rule", "number", "deeds"] y4a y49)
  (y0u:FN K "begin_over" zi3 ["hall", "place", "names", "number"] y5v y5f)
  (y2d:FM K yu "at" "Hall.at" znj .none ["self", "place"] y7g y7j)
  (y09:FN K "begin" zt3 ["hall", "place", "number"] y4o y5a)
  (y4h:FN K "call" z0h ["hall", "place", "number"] y7w y7y)
  (y1u:FN K "_law_told" zlk ["hall", "number"] y6z y6l)
  (y1q:FN K "_law_free" zll ["name", "left", "pairs"] y6p y6k)
  (y16:FN K "_law_order" zj6 ["names", "pairs"] y6e y64)
  (y8:FN K "_law_pairs" zj7 ["pieces", "names"] y2i y2g)
  (y17:FN K "_law_whole" zj8 ["found"] y69 y5w)
  (y13:FN K "_law_value" zj9 ["found", "due"] y67 y6g)
  (ye:FN K "_law_pairs_alike" zez ["found", "due"] y31 y3a)
  (yc:FN K "_law_answer_right" zeh ["found", "due"] y2y y2x)
  (y14:FN K "_law_right" zkb ["found", "due"] y66 y6h)
  (yi:FN K "_law_round" zh0 ["rows", "number", "held"] y60 y63)
  (y1m:FN K "_law_said" zlm ["deed", "number"] y75 y73)
  (y7:FN K "_law_answer" zi5 ["kind", "rows", "number", "held"] y25 y28)
  (y0a:FN K "_law_outcome" zh1 ["kind", "rule", "rows", "number"] y4y y4p)
  (y0:FN K "law" zxh ["script"] y2 y3)
  (y7l:W.nsIn K mainGlobals "any" = some none)
  (y61:W.nsIn K mainGlobals "bool" = some none)
  (y0m:W.nsIn K mainGlobals "MOST_PIECES" = some (some (.int 24 y41)))
  (y0j:W.nsIn K mainGlobals "MOST_PLACES" = some (some (.int 8 y3m)))
  (y0l:W.findIn K (.ref yu) "pieces" = some none)
  (y0h:W.findIn K (.ref yu) "places" = some none)
  (y0n:W.findIn K (.ref yl) "ahead" = some none)
  (y0z:W.findIn K (.ref yl) "bars" = some none)
  (y0f:W.findIn K (.ref yl) "behind" = some none)
  (y24:W.findIn K (.ref yl) "by" = some none)
  (y11:W.findIn K (.ref yl) "deed" = some none)
  (y0k:W.findIn K (.ref yl) "needs" = some none)
  (y1x:W.findIn K (.ref yl) "on" = some none)
  (y0i:W.findIn K (.ref yl) "place" = some none)
  (y0x:W.findIn K (.ref y2a) "kind" = some none)
  (y0y:W.findIn K (.ref y2a) "rule" = some none)
  (y0w:W.findIn K (.ref yb) "around" = some none)
  (y12:W.findIn K (.ref yb) "broken" = some none)
  (y1h:W.findIn K (.ref yb) "deeds" = some none)
  (y1i:W.findIn K (.ref yb) "found" = some none)
  (y20:W.findIn K (.ref yb) "held" = some none)
  (y22:W.findIn K (.ref yb) "kind" = some none)
  (y10:W.findIn K (.ref yb) "number" = some none)
  (y1e:W.findIn K (.ref yb) "pairs" = some none)
  (y1w:W.findIn K (.ref yb) "rule" = some none)
  (y7f:W.nsIn K mainGlobals "int" = some none)
  (y26:W.nsIn K mainGlobals "isinstance" = some none)
  (y7k:W.nsIn K mainGlobals "len" = some none)
  (y6f:W.nsIn K mainGlobals "list" = some none)
  (y7m:W.nsIn K mainGlobals "min" = some none)
  (y58:W.nsIn K mainGlobals "range" = some none)
  (y2q:W.nsIn K mainGlobals "reversed" = some none)
  (y57:W.nsIn K mainGlobals "tuple" = some none)
  (y2f:W.excIn K yg bmVE "ValueError.__new__" = true)
  (y2s:W.excIn K yp bmVE "ValueError.__new__" = true)
  (y32:W.excIn K y02 bmVE "ValueError.__new__" = true)
  (y2z:W.excIn K y06 bmVE "ValueError.__new__" = true)
  (y39:W.excIn K y03 bmVE "ValueError.__new__" = true)
  (nd:[yh,y1].Nodup)
  (y0p:zd2 K y1=some (.ref y4::bmVE))
  (y21:zd2 K y4=some bmVE)
  (y3j:zd2 K yh=some (.ref y4::bmVE))
  (y5:y1≠y4)
  (y2e:yh≠y4)
  (y19:W.findIn K (.ref y1) "__getattribute__" = some (some (.builtin "BaseException.__getattribute__")))
  (y1c:W.findIn K (.ref y1) "__getattr__" = some none)
  (y1f:W.hasDictIn K y1=true)
  (y1j:zk1 K y1=true)
  (y05:W.findIn K (.ref y1) "code" = some none)
  (yw:W.findIn K (.ref y1) "piece" = some none)
  (bi1:W.specialIn K (.ref y4) "__getattribute__" = some (some (.builtin "type.__getattribute__")))
  (y7n:W.readsIn K y4 (.type "type")=true)
  (y7i:W.findCls K (.ref y4) (.type "type") "__init__" = some (.val (.builtin "ValueError.__init__")))
  (y1g:W.findIn K (.ref y1) "__setattr__" = some (some (.builtin "object.__setattr__")))
  (y1d:W.hasDictIn K y1=true)
  (y1a:zk1 K y1=true)
  (yv:W.findIn K (.ref y1) "piece" = some none)
  (y04:W.findIn K (.ref y1) "code" = some none)
  (y0v:zd8 K y1 y0g=true)
  (y40:W.findIn K (.ref yh) "__setattr__" = some (some (.builtin "object.__setattr__")))
  (y3z:W.hasDictIn K yh=true)
  (y3x:zk1 K yh=true)
  (y1z:W.findIn K (.ref yh) "ring" = some none)
  (y3d:zd8 K yh y29=true)
  (nl:zz4 K=true)
  : ∃fd:FuncData,(∀(s:Shared) (v:Value),BindsTo s fd ⟨[v],[]⟩ [("script",v)])/\∀base:Heap,K.In base->base.Ns mainGlobals mg->FnOk l.prog w K mg base CX0 27 fa fd ["script"] (z2v K):=by
 let c:Cl:={ hall:=yu,place:=y2a,piece:=yl,run:=yb,hallError:=y4,nameThere:=yg,noPlace:=y06,noPiece:=y02,tooMany:=y03,noAnswer:=yp,ring:=yh,barred:=0,deedFault:=y1 };have e0:=hfa.symm.trans (W.mg_of X G y0.a);cases e0;have T0:Tx K mg c:=⟨y21,(List.forall_mem_cons.mpr ⟨(fun _=>y3j),List.forall_mem_cons.mpr ⟨(fun _=>y0p),fun _ h=>absurd h List.not_mem_nil⟩⟩),W.mg_none_of X G y7l,W.mg_none_of X G y61,⟨_,W.mg_of X G y0m⟩,⟨_,W.mg_of X G y0j⟩,yx,y0l,y0h,y3w,y0n,y0z,y0f,y24,y11,y0k,y1x,y0i,y43,y0x,y0y,yz,y0w,y12,y1h,y1i,y20,y22,y10,y1e,y1w,⟨y19,y1c,y1f,y1j⟩,y05,yw,bi1,y7n,y7i,⟨y1g,y1d,y1a⟩,yv,y04,⟨y40,y3z,y3x⟩,y1z,W.mg_none_of X G y7f,W.mg_none_of X G y26,W.mg_none_of X G y7k,W.mg_none_of X G y6f,W.mg_of X G y1y,W.mg_of X G y23,W.mg_of X G y1v,W.mg_of X G y2b,W.mg_of X G y2r,W.mg_of X G y2o,W.mg_of X G y4t,W.mg_of X G y2n,W.mg_none_of X G y7m,y5,y0p,y2e,y3j,W.mg_none_of X G y58,W.mg_none_of X G y2q,W.mg_none_of X G y57,y2f,y2s,y32,y2z,y39⟩;obtain⟨oc,od,kV,dc,pm,an,cd,ct,sl,rfl,lk,hc⟩:=y0.v.ex;refine⟨W.fnOf "law" "law" (zc9 zxh) (zcc zxh) (zag zxh) .none kV dc pm an cd ct,fun s v=>.of_eq rfl,fun base _ _=>?_⟩;have y2p:=y0b.up X G (zn8 l.prog w base T0 y0b.v );have y47:=y1n.up X G (zt5 l.prog w base T0 y1n.v );have y7c:=y1l.up X G (zt6 l.prog w base T0 y1l.v (u y47));have y78:=y1k.up X G (zt7 l.prog w base T0 y1k.v );have y5m:=y0r.up X G (zp4 l.prog w base T0 y0r.v (u y2p) (u y7c) (u y78) (u y47));have y3y:=ys.mk' y6d X G (zl8 l.prog w base T0 ys.v );have y3i:=yn.mk' y5b X G (zln l.prog w base T0 yn.v );have y34:=yj.up yx (zkr l.prog w base T0 yj.v (u y3i));have y07:=yk.up yx (zks l.prog w base T0 yk.v );have y9:=yf.up yx (zkt l.prog w base T0 yf.v );have y3f:=yo.mk' y51 X G (zlo l.prog w base T0 yo.v );have y6a:=y08.up yx (zr5 l.prog w base T0 y08.v (u y07) (u y9) (u y3f));have y4k:=zoe y08.v y2c;have y7q:=y2v.up X G (z0i l.prog w base T0 y2v.v );have y6b:=y18.up yx (zr6 l.prog w base T0 y18.v (u y9) (u y7q));have y4m:=y0d.up yx (zn9 l.prog w base T0 y0d.v (u y9));have y6r:=y1o.up X G (zt8 l.prog w base T0 y1o.v (u y3y) (u y34) (u y6a) y4k (u y6b) (u y4m));have y5d:=y0q.up X G (zp5 l.prog w base T0 y0q.v );have y2t:=y1s.up yz (zt9 l.prog w base T0 y1s.v );have ym:=ya.up yz (zi7 l.prog w base T0 ya.v );have y2j:=zi8 l.prog w base T0 y6.v y0v;have y7a:=y1r.up yz (zua l.prog w base T0 y1r.v (u ym) ⟨y2j.mono (by decide),y0v,y6.i,y6.b⟩);have y7o:=y4i.up X G (z64 l.prog w base T0 y4i.v );have y3s:=yq.up yz (zl9 l.prog w base T0 yq.v (u y7o) (u ym));have y6o:=y1p.up yz (zub l.prog w base T0 y1p.v (u ym));have y59:=y0e.up yz (zoa l.prog w base T0 y0e.v (u y7a) (u y7o) (u y3s) (u y6o));have y6x:=y1t.up yz (zuc l.prog w base T0 y1t.v (u y2t) (u y59));have y5q:=y0t.up yz (zp6 l.prog w base T0 y0t.v );have y4g:=yy.up X G (znl l.prog w base T0 yy.v );have y5e:=y0o.up yz (zp7 l.prog w base T0 y0o.v (u y2t) (u y4g));have y7r:=y2u.up X G (z0j l.prog w base T0 y2u.v (u y2t) (u y6x) (u y5q) (u y5e));have y5j:=y0s.up X G (zp8 l.prog w base T0 y0s.v (u y9));have y3u:=yr.up X G (zma l.prog w base T0 yr.v );have y4c:=y01.up X G (znm l.prog w base T0 y01.v );have y3p:=yt.up X G (zmb l.prog w base T0 yt.v (u y4c));have y3r:=zmc l.prog w base T0 yd.v y3d;have y4l:=y0c.up X G (zob l.prog w base T0 y0c.v (u y5j) (u y3u) (u y3p) ⟨y3r.mono (by decide),y3d,yd.i,yd.b⟩);have y4e:=y00.mk' y7e X G (znn l.prog w base T0 y00.v );have y5i:=y0u.up X G (zp9 l.prog w base T0 y0u.v (u y07) (u y4l) (u y9) (u y4e));have y7h:=y2d.up yx (zxi l.prog w base T0 y2d.v (u y07));have y56:=y09.up X G (z28 l.prog w base T0 y09.v (u y5i) (u y7h));have y7x:=y4h.up X G (z65 l.prog w base T0 y4h.v (u y7r) (u y56));have y6m:=y1u.up X G (zud l.prog w base T0 y1u.v (u y7x));have y79:=y1q.up X G (zue l.prog w base T0 y1q.v );have y68:=y16.up X G (zr7 l.prog w base T0 y16.v (u y79));have y15:=y8.up X G (zr8 l.prog w base T0 y8.v );have y5z:=y17.up X G (zr9 l.prog w base T0 y17.v );have y2h:=y13.up X G (zsa l.prog w base T0 y13.v (u y5z));have y1b:=ye.up X G (zku l.prog w base T0 ye.v (u y2h));have y2w:=yc.up X G (zkc l.prog w base T0 yc.v (u y1b) (u y2h));have y65:=y14.up X G (zsb l.prog w base T0 y14.v (u y2h) (u y1b) (u y2w));have y6c:=yi.up X G (zsd l.prog w base T0 yi.v (W.mg_of X G yi.a) yi.v.kp yi.b 24);have y70:=y1m.up X G (zuf l.prog w base T0 y1m.v );have y27:=y7.up X G (zqa l.prog w base T0 y7.v (u y6c) (u y70));have y4u:=y0a.up X G (zoc l.prog w base T0 y0a.v (u y27));have oklaw:=Zai l.prog w base T0 y0.v (u y5m) (u y2p) (u y6r) (u y5d) (u y6m) (u y68) (u y15) (u y65) (u y4u);exact z98 oklaw nl fun ns hl=>⟨_,law5 (c:=c) nd ns⟩
end K05
open PySem PySem.W PyProof.Rows MF L2
local macro_rules | `(tactic| walk_at "k") => `(tactic| first | kernel_rfl! | k_is)
local macro_rules | `(tactic| walk_at "b") => `(tactic| (intro _ _ _ _ _ _ us hl; first | (obtain ⟨a0, e⟩ := len1 hl; subst e; rfl) | (obtain ⟨a0, a1, e⟩ := len2 hl; subst e; rfl) | (obtain ⟨a0, a1, a2, e⟩ := len3 hl; subst e; rfl) | (obtain ⟨a0, a1, a2, a3, e⟩ := len4 hl; subst e; rfl) | (obtain ⟨a0, a1, a2, a3, a4, e⟩ := len5 hl; subst e; rfl)))
local macro_rules | `(tactic| walk_at "N") => `(tactic| exact Zcu (by walk_at "k") (by walk_at "k") (by walk_at "k") (by walk_at "k") (by walk_at "b"))
local macro_rules | `(tactic| walk_at "M") => `(tactic| exact Zcv (by walk_at "k") (by walk_at "k") (by walk_at "k") (by walk_at "k") (by walk_at "k") (by walk_at "b"))
theorem PySem.Challenge.cw_hookhall_k05_whole_calls_holds : PySem.Challenge.rw_hookhall_k05_whole_calls.Holds := by
 w_on;o_law;k_head;(case hw=>w_witness2)
 k_fill
 refine MF.walkM (l:=PySem.Challenge.rw_hookhall_k05_whole_calls) (k:=27) ⟨rfl,by decide,by decide,rfl⟩ rfl rfl (fun w h Y=>W.kIn_of Y) ?F
 case F=>
  intro w mg fa h KX G hmg
  refine' K05.all_mk KX G hmg ?y23 ?y1v ?y2o ?y2r ?y2n ?y2b ?y4t ?y1y ?y6d ?yx ?y51 ?y3w ?y5b ?y43 ?y7e ?yz ?y0b ?y1n ?y1l ?y1k ?y0r ?ys ?yn ?yj ?yk ?yf ?yo ?y08 ?y2c ?y2v ?y18 ?y3g ?y0d ?y1o ?y0q ?y1s ?ya ?y6 ?y1r ?y4i ?yq ?y1p ?y0e ?y1t ?y0t ?yy ?y0o ?y2u ?y0s ?yr ?y01 ?yt ?yd ?y0c ?y00 ?y0u ?y2d ?y09 ?y4h ?y1u ?y1q ?y16 ?y8 ?y17 ?y13 ?ye ?yc ?y14 ?yi ?y1m ?y7 ?y0a ?y0 ?y7l ?y61 ?y0m ?y0j ?y0l ?y0h ?y0n ?y0z ?y0f ?y24 ?y11 ?y0k ?y1x ?y0i ?y0x ?y0y ?y0w ?y12 ?y1h ?y1i ?y20 ?y22 ?y10 ?y1e ?y1w ?y7f ?y26 ?y7k ?y6f ?y7m ?y58 ?y2q ?y57 ?y2f ?y2s ?y32 ?y2z ?y39 ?nd ?y0p ?y21 ?y3j ?y5 ?y2e ?y19 ?y1c ?y1f ?y1j ?y05 ?yw ?bi1 ?y7n ?y7i ?y1g ?y1d ?y1a ?yv ?y04 ?y0v ?y40 ?y3z ?y3x ?y1z ?y3d ?nl
  (case y23 | y1v | y2o | y2r | y2n | y2b | y4t | y1y=>k_is)
  (case y6d=>exact⟨by walk_at "k",by walk_at "k",by walk_at "k"⟩)
  (case yx=>exact⟨by walk_at "k",by walk_at "k",by walk_at "k",by walk_at "k"⟩)
  (case y51=>exact⟨by walk_at "k",by walk_at "k",by walk_at "k"⟩)
  (case y3w=>exact⟨by walk_at "k",by walk_at "k",by walk_at "k",by walk_at "k"⟩)
  (case y5b=>exact⟨by walk_at "k",by walk_at "k",by walk_at "k"⟩)
  (case y43=>exact⟨by walk_at "k",by walk_at "k",by walk_at "k",by walk_at "k"⟩)
  (case y7e=>exact⟨by walk_at "k",by walk_at "k",by walk_at "k"⟩)
  (case yz=>exact⟨by walk_at "k",by walk_at "k",by walk_at "k",by walk_at "k"⟩)
  (case y0b | y1n | y1l | y1k | y0r=>walk_at "N")
  (case ys | yn | yj | yk | yf | yo=>walk_at "M")
  (case y08=>exact z46 (by walk_at "k") (by walk_at "k") (by walk_at "k") (by walk_at "k") (by walk_at "k") (K05.bd_Hall_hang_0 (by walk_at "k")))
  (case y2c=>k_is)
  (case y2v=>walk_at "N")
  (case y18=>exact z46 (by walk_at "k") (by walk_at "k") (by walk_at "k") (by walk_at "k") (by walk_at "k") (K05.bd_Hall_wish_0 (by walk_at "k")))
  (case y3g=>k_is)
  (case y0d=>walk_at "M")
  (case y1o | y0q=>walk_at "N")
  (case y1s | ya | y6 | y1r=>walk_at "M")
  (case y4i=>walk_at "N")
  (case yq | y1p | y0e | y1t | y0t=>walk_at "M")
  (case yy=>walk_at "N")
  (case y0o=>walk_at "M")
  (case y2u | y0s | yr | y01 | yt=>walk_at "N")
  (case yd=>walk_at "M")
  (case y0c=>walk_at "N")
  (case y00=>walk_at "M")
  (case y0u=>walk_at "N")
  (case y2d=>walk_at "M")
  (case y09 | y4h | y1u | y1q | y16 | y8 | y17 | y13 | ye | yc | y14 | yi | y1m | y7 | y0a | y0=>walk_at "N")
  (case y7l | y61 | y0m | y0j | y0l | y0h | y0n | y0z | y0f | y24 | y11 | y0k | y1x | y0i | y0x | y0y | y0w | y12 | y1h | y1i | y20 | y22 | y10 | y1e | y1w | y7f | y26 | y7k | y6f | y7m | y58 | y2q | y57=>k_is)
  (case y2f | y2s | y32 | y2z | y39=>walk_at "k")
  (case nd=>decide)
  (case y0p | y21 | y3j=>walk_at "k")
  (case y5 | y2e=>decide)
  (case y19 | y1c | y1f=>k_is)
  (case y1j=>walk_at "k")
  (case y05 | yw | bi1=>k_is)
  (case y7n | y7i=>walk_at "k")
  (case y1g=>k_is)
  (case y1d | y1a=>walk_at "k")
  (case yv | y04=>k_is)
  (case y0v=>walk_at "k")
  (case y40=>k_is)
  (case y3z | y3x=>walk_at "k")
  (case y1z=>k_is)
  (case y3d | nl=>walk_at "k")
end
