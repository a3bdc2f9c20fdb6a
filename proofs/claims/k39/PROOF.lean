import PyProof.Rows.All
import Wide.All
import OpenK.AllK
import Wide.FinOn
import Lean
import PyProof.EqAt
import PyProof.EqKinds
import PyProof.TupleCall
import PySem.Challenge.RW_readgrove_k39_shortest_rows
set_option Elab.async false
set_option compiler.extract_closed false
set_option bootstrap.genMatcherCode false
set_option linter.all false
set_option maxRecDepth 100000
namespace L2
open PySem PySem.Spec PyProof.Rows
abbrev Key:=Sum Int Str
def zmj:Key→Value→Bool
 | .inl k,v=>Value.isInt k v
 | .inr x,v=>Value.isStrOf x v
def keyH(w:World):Key→Int
 | .inl k=>hashInt k
 | .inr x=>hashStr w x
theorem za1:∀ {k:Key} {v:Value},zmj k v=true→(∃ i t,k=Sum.inl i∧v=Value.int i t)∨(∃ x t,k=Sum.inr x∧v=Value.str x t)
 | .inl i,v,h=>by
  obtain⟨t,e⟩:=Value.isInt_shape (k:=i) (v:=v) h
  exact .inl ⟨i,t,rfl,e⟩
 | .inr x,v,h=>by
  obtain⟨t,e⟩:=Value.isStrOf_shape (x:=x) (v:=v) h
  exact .inr ⟨x,t,rfl,e⟩
theorem zoU(i:Int)(t:Tok):zmj (.inl i) (.int i t)=true:=by simp[zmj,Value.isInt]
theorem zoV(x:Str)(t:Tok):zmj (.inr x) (.str x t)=true:=by simp[zmj,Value.isStrOf]
theorem zu4(a b:Int):decide ((Sum.inl a:Key)=Sum.inl b)=(a == b):=by
 by_cases e:a=b
 ·subst e;simp
 ·have h:¬ (Sum.inl a:Key)=Sum.inl b:=fun q=>e (Sum.inl.inj q)
  rw[decide_eq_false h]
  exact(beq_eq_false_iff_ne.mpr e).symm
theorem zu5(a b:Str):decide ((Sum.inr a:Key)=Sum.inr b)=decide (a=b):=by
 by_cases e:a=b
 ·subst e;simp
 ·have h:¬ (Sum.inr a:Key)=Sum.inr b:=fun q=>e (Sum.inr.inj q)
  rw[decide_eq_false h,decide_eq_false e]
theorem zu6(a:Int)(b:Str):decide ((Sum.inl a:Key)=Sum.inr b)=false:=decide_eq_false (fun q=>nomatch q)
theorem zu7(a:Str)(b:Int):decide ((Sum.inr a:Key)=Sum.inl b)=false:=decide_eq_false (fun q=>nomatch q)
def zaq(prog:Program)(w:World):PySem.KeyKind prog w Key where
 is:=zmj
 hash:=keyH w
 inj:=fun v a b ha hb=>by
  rcases za1 ha with⟨i,t,rfl,rfl⟩ | ⟨x,t,rfl,rfl⟩
  ·rcases za1 hb with⟨j,u,rfl,e⟩ | ⟨y,u,rfl,e⟩
   ·injection e with e1 _;rw[e1]
   ·exact nomatch e
  ·rcases za1 hb with⟨j,u,rfl,e⟩ | ⟨y,u,rfl,e⟩
   ·exact nomatch e
   ·injection e with e1 _;rw[e1]
 byValue:=fun k v h=>by
  rcases za1 h with⟨i,t,rfl,rfl⟩ | ⟨x,t,rfl,rfl⟩ <;> rfl
 pyHash:=fun hv h=>by
  rcases za1 hv with⟨i,t,rfl,rfl⟩ | ⟨x,t,rfl,rfl⟩
  ·exact wpAny_pyHash_int h
  ·exact wpAny_pyHash_str h
 eqBool:=fun hu hv h=>by
  rcases za1 hu with⟨i,t,rfl,rfl⟩ | ⟨x,t,rfl,rfl⟩
  ·rcases za1 hv with⟨j,u,rfl,rfl⟩ | ⟨y,u,rfl,rfl⟩
   ·rw[zu4] at h;exact wpAny_eqBool_int h
   ·rw[zu6] at h;exact SeqAt.EqAt.int_str i t y u _ _ _ _ h
  ·rcases za1 hv with⟨j,u,rfl,rfl⟩ | ⟨y,u,rfl,rfl⟩
   ·rw[zu7] at h;exact SeqAt.EqAt.str_int x t j u _ _ _ _ h
   ·rw[zu5] at h;exact wpAny_eqBool_str h
 «strs»:=fun k x t v h=>by
  rcases za1 h with⟨i,u,rfl,e⟩ | ⟨y,u,rfl,e⟩
  ·exact nomatch e
  ·injection e with e1 _
   subst e1
   cases v <;> rfl
theorem zmk(prog:Program)(w:World)(i:Int)(t:Tok):(zaq prog w).is (.inl i) (.int i t)=true:=zoU i t
theorem zml(prog:Program)(w:World)(x:Str)(t:Tok):(zaq prog w).is (.inr x) (.str x t)=true:=zoV x t
end L2
namespace L2
open PySem PySem.Spec PyProof.Rows
inductive V where
 | non | bl (b:Bool) | int (i:Int) | str (x:Str) | byt (b:Array UInt8) | flt (b:UInt64) | ref (a:Addr) | ty (n:String)
 deriving DecidableEq
def RelV:V→Value→Prop
 | .non,u=>u=Value.none
 | .bl b,u=>u=Value.bool b
 | .int i,u=>∃ t,u=Value.int i t
 | .str x,u=>∃ t,u=Value.str x t
 | .byt b,u=>∃ t,u=Value.bytes b t
 | .flt b,u=>∃ t,u=Value.float b t
 | .ref a,u=>u=Value.ref a
 | .ty n,u=>u=Value.type n
abbrev Vals:List V→List Value→Prop:=Paired RelV
theorem Vals.length{xs:List V}{us:List Value}(r:Vals xs us):xs.length=us.length:=Paired.length r
theorem Vals.get:∀ {xs:List V} {us:List Value} {i:Nat} {x:V},Vals xs us→xs[i]? = some x→∃ u,us[i]? = some u∧RelV x u
 | _,_,_,_,.nil,e=>by simp at e
 | _,_,0,_,.cons r _,e=>by simp at e;subst e;exact⟨_,rfl,r⟩
 | _,_,i + 1,x,.cons _ t,e=>by
  obtain⟨u,h1,h2⟩:=Vals.get (i:=i) (x:=x) t (by simpa using e)
  exact⟨u,by simpa using h1,h2⟩
theorem Vals.set{x:V}{u:Value}(r:RelV x u):∀ {xs:List V} {us:List Value} (i:Nat),Vals xs us→Vals (xs.set i x) (us.set i u)
 | _,_,_,.nil=>.nil
 | _,_,0,.cons _ t=>.cons r t
 | _,_,i + 1,.cons q t=>.cons q (Vals.set r i t)
theorem Vals.append:∀ {xs ys:List V} {us ws:List Value},Vals xs us→Vals ys ws→Vals (xs ++ ys) (us ++ ws)
 | _,_,_,_,.nil,s=>s
 | _,_,_,_,.cons r t,s=>.cons r (Vals.append t s)
theorem Vals.take:∀ {xs:List V} {us:List Value} (n:Nat),Vals xs us→Vals (xs.take n) (us.take n)
 | _,_,0,_=>.nil
 | _,_,_ + 1,.nil=>.nil
 | _,_,n + 1,.cons r t=>.cons r (Vals.take n t)
theorem Vals.drop:∀ {xs:List V} {us:List Value} (n:Nat),Vals xs us→Vals (xs.drop n) (us.drop n)
 | _,_,0,r=>r
 | _,_,_ + 1,.nil=>.nil
 | _,_,n + 1,.cons _ t=>Vals.drop n t
def RelO:Option V→Option Value→Prop
 | some v,some u=>RelV v u
 | none,none=>True
 | _,_=>False
def KV{κ:Type}:List (κ×V)→List (κ×Value)→Prop:=Paired fun(p:κ×V) (q:κ×Value)=>p.1=q.1∧RelV p.2 q.2
def kV:Key→V
 | .inl i=>.int i
 | .inr x=>.str x
inductive HO where
 | lst (xs:List V)
 | tup (xs:List V)
 | dK (kvs:List (Key×V)) | dT (kvs:List (List Key×V))
 | set (S:Int→Bool) (n:Nat)
 | ins (C dx:Addr) (fs:List (Str×V))
 | own (x:Addr)
 | xd (fs:List (Str×V))
 | met (f x:Addr)
 | rng (lo hi:Int)
 | frz (o:Obj) (u:HO)
 | tbl (ps:Array Value)
 | ext (φ:Heap→Prop)
abbrev Hp:=Addr→Option HO
def upd(H:Hp)(a:Addr)(o:HO):Hp:=fun b=>if b=a then some o else H b
theorem zar{H:Hp}{a:Addr}{o:HO}:upd H a o a=some o:=by unfold upd;rw[if_pos rfl]
theorem zal{H:Hp}{a b:Addr}{o:HO}(h:b≠a):upd H a o b=H b:=by unfold upd;rw[if_neg h]
theorem zsV{H:Hp}{a b:Addr}{o u:HO}(h:H a=some o)(h':H b=some u)(d:o≠u):a≠b:=by
 intro e;subst e;rw[h] at h';exact d (Option.some.inj h')
theorem zap{H:Hp}{a b:Addr}{o:HO}(h:H a=some o)(h':H b=none):a≠b:=by
 intro e;subst e;rw[h] at h';cases h'
section
variable (P:Program)(w:World)
def zbl(H:Hp)(h:Heap)(a:Addr):HO→Prop
 | .lst xs=>xs.length≤sizeLine∧∃ (its:List Value) (n:Nat),Vals xs its∧h.get? a=some {cls:=.type "list",data:=.seq its.toArray n}
 | .tup xs=>xs.length≤sizeLine∧∃ its:List Value,Vals xs its∧IsTup h a its.toArray
 | .dK kvs=>kvs.length≤sizeLine∧(a == sysModules)=false∧∃ vs,KV kvs vs∧h.DictOf (zaq P w) a vs
 | .dT kvs=>kvs.length≤sizeLine∧(a == sysModules)=false∧∃ xs:List (List Key×Addr×Value),
   Paired (fun(p:List Key×V) (q:List Key×Addr×Value)=>p.1=q.1∧H q.2.1=some (.tup (p.1.map kV))∧RelV p.2 q.2.2) kvs xs∧
   ∃ o es ep,h.get? a=some o∧o.ExactDict∧o.data=.dict es ep∧es.toList=xs.map (entryOfKey (tupleKind (zaq P w)))∧(xs.map (·.1)).Nodup
 | .set S n=>h.SetOf (intKind P w) a S n
 | .ins C dx fs=>H dx=some (.own a)∧fs.length≤1000∧dx≠a∧h.get? a=some (PySem.W.instObj C dx)∧
   ∃ mA,h.Ns1 dx mA∧(∀ f,RelO (fs.lookup f) (mA f))∧PySem.Within mA (fs.map (·.1))
 | .own _=>∃ o,h.get? a=some o
 | .xd fs=>∃ mA,h.Ns1 a mA∧∀ f,RelO (fs.lookup f) (mA f)
 | .rng lo hi=>∃ t u v,h.get? a=some {cls:=.type "range",data:=.fields #[.int lo t,.int hi u,.int 1 v]}
 | .frz o u=>h.get? a=some o∧zbl H h a u
 | .tbl ps=>h.get? a=some {cls:=.none,data:=.fields ps}
 | .met f x=>h.get? a=some (PySem.W.methodObj (.ref f) (.ref x))
 | .ext φ=>φ h∧(∃ o,h.get? a=some o)∧∀ h1 h2:Heap,φ h1→(∀ o,h1.get? a=some o→h2.get? a=some o)→φ h2
def HOk(H:Hp)(h:Heap):Prop:=∀ a o,H a=some o→zbl P w H h a o
end
section
variable {P:Program}{w:World}{H H':Hp}{h h':Heap}{a:Addr}{o:HO}
theorem zbl.lt(x:zbl P w H h a o):a < h.objs.size:=by
 cases o with
 | lst xs=>obtain⟨_,_,_,_,e⟩:=x;exact Heap.lt_size e
 | tup xs=>obtain⟨_,_,_,p⟩:=x;exact p.lt
 | dK kvs=>obtain⟨_,_,_,_,o,_,_,e,_⟩:=x;exact Heap.lt_size e
 | dT kvs=>obtain⟨_,_,_,_,o,_,_,e,_⟩:=x;exact Heap.lt_size e
 | set S n=>obtain⟨o,_,_,_,e,_⟩:=x;exact Heap.lt_size e
 | ins C dx fs=>obtain⟨_,_,_,e,_⟩:=x;exact Heap.lt_size e
 | own y=>obtain⟨_,e⟩:=x;exact Heap.lt_size e
 | xd fs=>obtain⟨_,⟨_,_,_,e,_⟩,_⟩:=x;exact Heap.lt_size e
 | rng lo hi=>obtain⟨_,_,_,e⟩:=x;exact Heap.lt_size e
 | frz ob u=>obtain⟨e,_⟩:=x;exact Heap.lt_size e
 | tbl ps=>exact Heap.lt_size (show h.get? a=some _ from x)
 | met f y=>exact Heap.lt_size (show h.get? a=some _ from x)
 | ext φ=>obtain⟨_,⟨_,e⟩,_⟩:=x;exact Heap.lt_size e
theorem Paired.mapP{α β:Type}{F G:α→β→Prop}:∀ {l₁:List α} {l₂:List β},Paired F l₁ l₂→(∀ a b,F a b→G a b)→Paired G l₁ l₂
 | _,_,.nil,_=>.nil
 | _,_,.cons r t,f=>.cons (f _ _ r) (Paired.mapP t f)
theorem zbl.stay(x:zbl P w H h a o)(k:∀ b u,(b=a∨H b=some (.own a))→h.get? b=some u→h'.get? b=some u)
  (ho:∀ b,H b=some (.own a)→H' b=some (.own a)) (ht:∀ b xs,H b=some (.tup xs)→H' b=some (.tup xs)):zbl P w H' h' a o:=by
 induction o with
 | lst xs=>obtain⟨z,its,n,r,e⟩:=x;exact⟨z,its,n,r,k _ _ (.inl rfl) e⟩
 | tup xs=>obtain⟨z,its,r,ob,e,c⟩:=x;exact⟨z,its,r,ob,k _ _ (.inl rfl) e,c⟩
 | dK kvs=>obtain⟨z,y,vs,r,ob,es,ep,e,c⟩:=x;exact⟨z,y,vs,r,ob,es,ep,k _ _ (.inl rfl) e,c⟩
 | dT kvs=>
  obtain⟨z,y,xs,r,ob,es,ep,e,c⟩:=x
  exact⟨z,y,xs,Paired.mapP r fun p q z=>⟨z.1,ht _ _ z.2.1,z.2.2⟩,ob,es,ep,k _ _ (.inl rfl) e,c⟩
 | set S n=>obtain⟨ob,es,ep,t,e,c⟩:=x;exact⟨ob,es,ep,t,k _ _ (.inl rfl) e,c⟩
 | ins C dx fs=>
  obtain⟨d,z,ne,e,mA,⟨od,es,ep,e2,c⟩,r⟩:=x
  exact⟨ho _ d,z,ne,k _ _ (.inl rfl) e,mA,⟨od,es,ep,k _ _ (.inr d) e2,c⟩,r⟩
 | own y=>obtain⟨ob,e⟩:=x;exact⟨ob,k _ _ (.inl rfl) e⟩
 | xd fs=>obtain⟨mA,⟨od,es,ep,e,c⟩,r⟩:=x;exact⟨mA,⟨od,es,ep,k _ _ (.inl rfl) e,c⟩,r⟩
 | rng lo hi=>obtain⟨t,u,v,e⟩:=x;exact⟨t,u,v,k _ _ (.inl rfl) e⟩
 | frz ob u ih=>obtain⟨e,q⟩:=x;exact⟨k _ _ (.inl rfl) e,ih q⟩
 | tbl ps=>
  have e:h.get? a=some {cls:=.none,data:=.fields ps}:=x
  show h'.get? a=some {cls:=.none,data:=.fields ps}
  exact k a _ (.inl rfl) e
 | met f y=>
  have e:h.get? a=some (PySem.W.methodObj (.ref f) (.ref y)):=x
  show h'.get? a=some (PySem.W.methodObj (.ref f) (.ref y))
  exact k a _ (.inl rfl) e
 | ext φ=>obtain⟨p,⟨o,e⟩,st⟩:=x;exact⟨st _ _ p fun o q=>k _ _ (.inl rfl) q,⟨o,k _ _ (.inl rfl) e⟩,st⟩
theorem HOk.lt(x:HOk P w H h)(e:H a=some o):a < h.objs.size:=(x a o e).lt
theorem HOk.fresh(x:HOk P w H h)(e:h.objs.size≤a):H a=none:=by
 cases q:H a with
 | none=>rfl
 | some u=>exact absurd (Nat.lt_of_lt_of_le (x.lt q) e) (Nat.lt_irrefl _)
theorem HOk.kept(x:HOk P w H h)(k:∀ b u,h.get? b=some u→h'.get? b=some u):HOk P w H h':=fun a o e=>
 (x a o e).stay (fun b u _ q=>k b u q) (fun _ q=>q) fun _ _ q=>q
theorem HOk.laid(x:HOk P w H h)(k:∀ b u,h.get? b=some u→h'.get? b=some u)(hp:h.objs.size≤a)(new:zbl P w (upd H a o) h' a o):HOk P w (upd H a o) h':=fun b u e=>by
 have hn:=x.fresh hp
 by_cases hb:b=a
 ·subst hb;rw[zar] at e;cases e;exact new
 ·rw[zal hb] at e
  exact(x b u e).stay (fun c v _ q=>k c v q) (fun c q=>by rw[zal (zap q hn)];exact q) fun c xs q=>by rw[zal (zap q hn)];exact q
end
def Rd(H:Hp)(a:Addr)(u:HO):Prop:=H a=some u∨∃ o,H a=some (.frz o u)
theorem Rd.ok{P:Program}{w:World}{H:Hp}{h:Heap}{a:Addr}{u:HO}(r:Rd H a u)(x:HOk P w H h):zbl P w H h a u:=by
 rcases r with r | ⟨o,r⟩
 ·exact x a u r
 ·obtain⟨_,q⟩:=x a _ r
  exact q
def Mut:Option HO→Prop
 | some (.lst _)=>True
 | some (.dK _)=>True
 | some (.dT _)=>True
 | some (.set _ _)=>True
 | some (.ins _ _ _)=>True
 | some (.ext _)=>True
 | _=>False
section
variable {P:Program}{w:World}{H:Hp}{h h':Heap}{x e:Addr}{o':HO}
theorem HOk.write(ok:HOk P w H h)(mu:Mut (H x))(he:e=x∨H e=some (.own x))(k:∀ b u,b≠e→h.get? b=some u→h'.get? b=some u)(heo:∃ u,h'.get? e=some u)
  (new:zbl P w (upd H x o') h' x o'):HOk P w (upd H x o') h':=fun b u q=>by
 have nown:∀ c y,H c=some (.own y)→c≠x:=fun c y r z=>by subst z;rw[r] at mu;exact mu
 have ntup:∀ c xs,H c=some (.tup xs)→c≠x:=fun c xs r z=>by subst z;rw[r] at mu;exact mu
 by_cases hb:b=x
 ·subst hb;rw[zar] at q;cases q;exact new
 ·rw[zal hb] at q
  by_cases hbe:b=e
  ·have q':H b=some (.own x):=by
    rcases he with z | z
    ·exact absurd (hbe.trans z) hb
    ·rw[hbe];exact z
   rw[q] at q';cases q'
   obtain⟨v,hv⟩:=heo
   exact⟨v,by rw[hbe];exact hv⟩
  ·refine(ok b u q).stay (fun c v hc r=>k c v ?_ r) (fun c r=>by rw[zal (nown c b r)];exact r) fun c xs r=>by rw[zal (ntup c xs r)];exact r
   rcases hc with rfl | hc
   ·exact hbe
   ·rintro rfl
    rcases he with z | z
    ·exact nown c b hc z
    ·rw[hc] at z;cases z;exact hb rfl
end
structure Un(fs ex:List Addr)(H H':Hp)(h h':Heap):Prop where
 keep:∀ b o,h.get? b=some o→H b=none→b∉fs→b∉ex→h'.get? b=some o
 slot:∀ b o,h.get? b=some o→H b=none→b∈fs→b∉ex→∃ sl,h'.get? b=some {o with slots:=sl}
 free:∀ b o,h.get? b=some o→H b=none→b∉ex→H' b=none
 there:∀ b o,h.get? b=some o→b∉ex→∃ o',h'.get? b=some o'
 tups:∀ b xs,H b=some (.tup xs)→H' b=some (.tup xs)
 frzs:∀ b o u,H b=some (.frz o u)→H' b=some (.frz o u)
 tbls:∀ b ps,H b=some (.tbl ps)→∃ more,H' b=some (.tbl (ps ++ more))
section
variable {fs fs' ex ex':List Addr}{H H1 H2:Hp}{h h1 h2 h':Heap}{a x e:Addr}{o:HO}
theorem Un.any(u:Un fs ex H H1 h h1){b:Addr}{ob:Obj}(q:h.get? b=some ob)(n:H b=none)(hx:b∉ex):∃ sl,h1.get? b=some {ob with slots:=sl}:=by
 by_cases hb:b∈fs
 ·exact u.slot b ob q n hb hx
 ·exact⟨ob.slots,u.keep b ob q n hb hx⟩
theorem Un.kept(k:∀ b u,h.get? b=some u→h'.get? b=some u):Un fs ex H H h h':=
 ⟨fun b ob q _ _ _=>k b ob q,fun b ob q _ _ _=>⟨ob.slots,k b ob q⟩,fun _ _ _ n _=>n,fun b ob q _=>⟨ob,k b ob q⟩,fun _ _ q=>q,fun _ _ _ q=>q,fun _ ps q=>⟨#[],by rw[q];simp⟩⟩
theorem Un.refl:Un fs ex H H h h:=Un.kept fun _ _ q=>q
theorem Un.laid(k:∀ b u,h.get? b=some u→h'.get? b=some u)(hp:h.objs.size≤a)(hn:H a=none):Un fs ex H (upd H a o) h h' where
 keep:=fun b u q _ _ _=>k b u q
 slot:=fun b u q _ _ _=>⟨u.slots,k b u q⟩
 free:=fun b u q n _=>by rw[zal (Nat.ne_of_lt (Nat.lt_of_lt_of_le (Heap.lt_size q) hp))];exact n
 there:=fun b u q _=>⟨u,k b u q⟩
 tups:=fun b xs q=>by rw[zal (zap q hn)];exact q
 frzs:=fun b u xs q=>by rw[zal (zap q hn)];exact q
 tbls:=fun b ps q=>⟨#[],by rw[zal (zap q hn),q];simp⟩
theorem Un.write(mu:Mut (H x))(he:e=x∨H e=some (.own x))(k:∀ b u,b≠e→h.get? b=some u→h'.get? b=some u)(heo:∃ u,h'.get? e=some u):Un fs ex H (upd H x o) h h':=by
 have hx:∀ b,H b=none→b≠x:=fun b n z=>by subst z;rw[n] at mu;exact mu
 have hb:∀ b,H b=none→b≠e:=fun b n z=>by
  subst z
  rcases he with r | r
  ·exact hx b n r
  ·rw[n] at r;cases r
 have hm:∀ b u,H b=some u→¬ Mut (some u)→b≠x:=fun b u q nm z=>by subst z;rw[q] at mu;exact nm mu
 refine⟨fun b u q n _ _=>k b u (hb b n) q,fun b u q n _ _=>⟨u.slots,k b u (hb b n) q⟩,fun b u q n _=>by rw[zal (hx b n)];exact n,fun b u q _=>?_,
  fun b xs q=>by rw[zal (hm b _ q fun z=>z)];exact q,fun b u xs q=>by rw[zal (hm b _ q fun z=>z)];exact q,fun b ps q=>⟨#[],by rw[zal (hm b _ q fun z=>z),q];simp⟩⟩
 by_cases hbe:b=e
 ·subst hbe;exact heo
 ·exact⟨u,k b u hbe q⟩
end
def trk(h:Heap)(H:Hp):List Addr:=(List.range h.objs.size).filter fun a=>(H a).isSome
def hidT(h:Heap)(H:Hp):Heap:=PySem.W.hideAll h (trk h H)
theorem zoW(h:Heap)(H:Hp):(hidT h H).objs.size=h.objs.size:=PySem.W.hideAll_size _ _
theorem zqP{h:Heap}{H:Hp}{b:Addr}{o:Obj}(e:h.get? b=some o)(n:H b=none):(hidT h H).get? b=some o:=
 PySem.W.hideAll_get _ e fun hm=>by
  have q:(H b).isSome=true:=(List.mem_filter.mp hm).2
  rw[n] at q;simp at q
theorem zsW{h:Heap}{H:Hp}{b:Addr}{o:Obj}(e:(hidT h H).get? b=some o):h.get? b=some o∧H b=none:=by
 have e':h.get? b=some o:=PySem.W.of_hideAll (trk h H) e
 refine⟨e',?_⟩
 cases q:H b with
 | none=>rfl
 | some x=>
  have hm:b∈trk h H:=List.mem_filter.mpr ⟨List.mem_range.mpr (Heap.lt_size e'),by simp[q]⟩
  have z:(hidT h H).get? b=none:=PySem.W.hideAll_none (trk h H) hm
  rw[z] at e;cases e
end L2
namespace L2
open PySem PySem.Spec PyProof.Rows
structure Mod(K:PySem.W.Frag)(mg:Str→Option Value)(base:Heap):Prop where
 kin:K.In base
 glob:base.Ns mainGlobals mg
 blt:∃ mb,base.Ns builtinsNs mb∧∀ x:Str,x≠"__name__"→mb x=bootBuiltins x
 nolimit:base.NoLimit
structure Cx where
 prog:Program
 w:World
 K:PySem.W.Frag
 mg:Str→Option Value
 base:Heap
 A:Around
 N:List Str
 s₀:Shared
 H₀:Hp
 env:Env
 outer:List Env
 stack:List Env
 ex:List Addr
 fn:Str→Bool
 calm:Bool
 pn:List (Addr×Obj)
 xe:Value→Shared→Prop
def frs(l:List Env):List Addr:=l.filterMap (·.frame)
abbrev Cx.fs(X:Cx):List Addr:=frs X.outer
def Vis(sc:Scope)(x:Str):Prop:=sc.names.lookup x=some .local∨sc.names.lookup x=some .cell∨sc.names.lookup x=some .free
def Loc(sc:Scope)(x:Str):Prop:=sc.names.lookup x=some .local∨sc.names.lookup x=some .cell
def Look(env:Env)(h:Heap)(m:Str→Option Value)(x:Str)(u:Value):Prop:=
 (env.kindOf x=some .local∧m x=some u)∨((env.kindOf x=some .cell∨env.kindOf x=some .free)∧∃ c,env.cells.lookup x=some c∧h.IsCell c (some u))
structure Cx.Ok(X:Cx):Prop where
 mod:Mod X.K X.mg X.base
 kind:X.env.scope.kind=.function
 glob:X.env.globals=mainGlobals
 blt:X.env.builtins=builtinsNs
 above:X.s₀.heap.objs.size≤X.env.locals
 inj:∀ x y c,X.env.cells.lookup x=some c→X.env.cells.lookup y=some c→x=y
 has:∀ x,(X.env.kindOf x=some .cell∨X.env.kindOf x=some .free)→∃ c,X.env.cells.lookup x=some c
 cab:∀ x c,X.fn x=true→X.env.cells.lookup x=some c→X.s₀.heap.objs.size≤c
 hd:X.calm=true→X.A.handled=none
 frames:X.A.frames=some X.stack
 stk:X.stack=X.outer∨(X.stack=X.env :: X.outer∧X.env.frame=some X.env.locals)
 exf:∀ b∈X.ex,b≠X.env.locals∧∀ x c,X.env.cells.lookup x=some c→c≠b
 bs:∀ b o,X.base.get? b=some o→X.s₀.heap.get? b=some o∧X.H₀ b=none
 bsz:X.base.objs.size≤X.s₀.heap.objs.size
 noex:∀ b o,X.base.get? b=some o→b∉X.ex
 exfs:∀ b∈X.ex,b∉X.fs
 funs:X.s₀.heap.FunFrames X.base X.outer
 frf:∀ b∈X.fs,X.H₀ b=none
structure Inv(X:Cx)(pins:List (Addr×Obj))(σ:List (Option V))(H:Hp)(s:Shared):Prop where
 ok:X.Ok
 os:s.os=X.s₀.os
 bare:AllBare s.gens
 base:Un X.fs X.ex X.H₀ H X.s₀.heap s.heap
 loc:∃ m,s.heap.Ns X.env.locals m∧∀ (i:Nat) (x:Str) (v:V),X.N[i]? = some x→σ[i]? = some (some v)→Vis X.env.scope x→∃ u,RelV v u∧Look X.env s.heap m x u
 cell:∀ x c,X.env.cells.lookup x=some c→∃ v,s.heap.IsCell c v
 free:H X.env.locals=none
 freeC:∀ x c,X.env.cells.lookup x=some c→H c=none
 pin:∀ p∈X.pn ++ pins,s.heap.get? p.1=some p.2∧H p.1=none∧p.1≠X.env.locals∧p.1∉X.fs∧∀ v,p.2.data≠.cell v
 hok:HOk X.prog X.w H s.heap
 len:σ.length=X.N.length
section
variable {X:Cx}{pins:List (Addr×Obj)}{σ:List (Option V)}{H H':Hp}{s:Shared}{h':Heap}
theorem Cx.Ok.nofr(ok:X.Ok){b:Addr}{o:Obj}(e:X.base.get? b=some o):b∉X.fs:=fun hb=>by
 have:=(ok.funs.mem hb).1
 rw[e] at this;cases this
theorem Inv.bs(I:Inv X pins σ H s):∀ b o,X.base.get? b=some o→s.heap.get? b=some o∧H b=none:=fun b o e=>
 ⟨I.base.keep b o (I.ok.bs b o e).1 (I.ok.bs b o e).2 (I.ok.nofr e) (I.ok.noex b o e),I.base.free b o (I.ok.bs b o e).1 (I.ok.bs b o e).2 (I.ok.noex b o e)⟩
theorem Inv.bk(I:Inv X pins σ H s):∀ b o,X.base.get? b=some o→s.heap.get? b=some o:=fun b o e=>(I.bs b o e).1
theorem Inv.mod(I:Inv X pins σ H s):Mod X.K X.mg X.base:=I.ok.mod
theorem Inv.kIn(I:Inv X pins σ H s):X.K.In s.heap:=I.ok.mod.kin.keeps I.bk
theorem Inv.lt(I:Inv X pins σ H s):X.env.locals < s.heap.objs.size:=let ⟨_,hn,_⟩:=I.loc;hn.lt
theorem Inv.sz(I:Inv X pins σ H s):X.s₀.heap.objs.size≤s.heap.objs.size:=Nat.le_trans I.ok.above (Nat.le_of_lt I.lt)
theorem Inv.nofs(I:Inv X pins σ H s){a:Addr}(h:s.heap.objs.size≤a):a∉X.fs:=fun hb=>by
 obtain⟨_,o,ho,_⟩:=I.ok.funs.mem hb
 exact absurd (Nat.lt_of_lt_of_le (Heap.lt_size ho) (Nat.le_trans I.sz h)) (Nat.lt_irrefl _)
theorem Inv.cne(I:Inv X pins σ H s):∀ x c,X.env.cells.lookup x=some c→c≠X.env.locals:=fun x c e z=>by
 obtain⟨v,o,ho,hd⟩:=I.cell x c e
 obtain⟨m,⟨o',es,ep,ho',hd',_⟩,_⟩:=I.loc
 rw[z,ho'] at ho;cases ho;rw[hd'] at hd;cases hd
theorem Inv.funs(I:Inv X pins σ H s):s.heap.FunFrames X.base X.outer:=by
 have all:∀ (l:List Env),(∀ b∈frs l,b∈X.fs)→X.s₀.heap.FunFrames X.base l→s.heap.FunFrames X.base l:=by
  intro l
  induction l with
  | nil=>intro _ _;trivial
  | cons env r ih=>
   intro hs hl
   obtain⟨hk,⟨L,o,hf,hn,ho,hd⟩,hr⟩:=hl
   have hL:L∈X.fs:=hs L (by unfold frs;rw[List.filterMap_cons,hf];exact List.mem_cons_self)
   obtain⟨sl,e⟩:=I.base.slot L o ho (I.ok.frf L hL) hL fun z=>I.ok.exfs L z hL
   exact⟨hk,⟨L,_,hf,hn,e,hd⟩,ih (fun b hb=>hs b (by unfold frs;rw[List.filterMap_cons,hf];exact List.mem_cons_of_mem _ hb)) hr⟩
 exact all X.outer (fun _ hb=>hb) I.ok.funs
theorem Inv.stack(I:Inv X pins σ H s):s.heap.FunFrames X.base X.stack:=by
 rcases I.ok.stk with e | ⟨e,hf⟩
 ·rw[e];exact I.funs
 ·rw[e]
  obtain⟨m,hn,_⟩:=I.loc
  refine .cons (by rw[I.ok.kind];decide) hf hn ?_ I.funs
  exact Heap.get?_none_of_le (Nat.le_trans I.ok.bsz I.ok.above)
theorem Inv.stkSub(I:Inv X pins σ H s):∀ b∈frs X.stack,b∈X.env.locals :: X.fs:=fun b hb=>by
 rcases I.ok.stk with e | ⟨e,hf⟩
 ·rw[e] at hb;exact List.mem_cons_of_mem _ hb
 ·rw[e] at hb
  unfold frs at hb
  rw[List.filterMap_cons,hf] at hb
  exact hb
theorem Inv.stkFree(I:Inv X pins σ H s):∀ b∈frs X.stack,H b=none:=fun b hb=>by
 rcases List.mem_cons.mp (I.stkSub b hb) with e | hb
 ·rw[e];exact I.free
 ·obtain⟨_,o,ho,_⟩:=I.ok.funs.mem hb
  exact I.base.free b o ho (I.ok.frf b hb) fun z=>I.ok.exfs b z hb
theorem Inv.step{g':Array GenState}{t':Nat}{d':Drawn}{ch:List Addr}(I:Inv X pins σ H s)
  (hch:∀ b∈ch,(b∈X.ex∨X.s₀.heap.objs.size≤b)∧b≠X.env.locals∧(∀ x c,X.env.cells.lookup x=some c→c≠b)∧∀ p∈X.pn ++ pins,p.1≠b)
  (keep:∀ b o,b≠X.env.locals→b∉X.fs→b∉ch→s.heap.get? b=some o→H b=none→h'.get? b=some o)
  (slot:∀ b o,b≠X.env.locals→b∈X.fs→b∉ch→s.heap.get? b=some o→H b=none→∃ sl,h'.get? b=some {o with slots:=sl}) (free:∀ b o,b∉ch→s.heap.get? b=some o→H b=none→H' b=none)
  (there:∀ b o,b∉ch→s.heap.get? b=some o→∃ o',h'.get? b=some o')
  (tups:∀ b xs,H b=some (.tup xs)→H' b=some (.tup xs)) (frzs:∀ b o u,H b=some (.frz o u)→H' b=some (.frz o u)) (tbls:∀ b ps,H b=some (.tbl ps)→∃ more,H' b=some (.tbl (ps ++ more)))
  (ns:∀ m,s.heap.Ns X.env.locals m→h'.Ns X.env.locals m) (hok:HOk X.prog X.w H' h') (hg:AllBare g') :
  Inv X pins σ H' {s with heap:=h',gens:=g',drawn:=d',toks:=t'}:=by
 have neL:∀ b o,X.s₀.heap.get? b=some o→b≠X.env.locals:=fun b o e=>Nat.ne_of_lt (Nat.lt_of_lt_of_le (Heap.lt_size e) I.ok.above)
 have neC:∀ b o,X.s₀.heap.get? b=some o→b∉X.ex→b∉ch:=fun b o e hx hb=>by
  rcases(hch b hb).1 with z | z
  ·exact hx z
  ·exact absurd (Nat.lt_of_lt_of_le (Heap.lt_size e) z) (Nat.lt_irrefl _)
 have cellK:∀ x c,X.env.cells.lookup x=some c→∀ v,s.heap.IsCell c v→h'.IsCell c v:=fun x c e v ⟨o,ho,hd⟩=>by
  have nch:c∉ch:=fun z=>(hch c z).2.2.1 x c e rfl
  by_cases hc:c∈X.fs
  ·obtain⟨sl,q⟩:=slot c o (I.cne x c e) hc nch ho (I.freeC x c e)
   exact⟨_,q,hd⟩
  ·exact⟨o,keep c o (I.cne x c e) hc nch ho (I.freeC x c e),hd⟩
 refine⟨I.ok,I.os,hg,⟨fun b o e n hb hx=>?_,fun b o e n hb hx=>?_,fun b o e n hx=>?_,fun b o e hx=>?_,fun b xs e=>tups b xs (I.base.tups b xs e),fun b o xs e=>frzs b o xs (I.base.frzs b o xs e),fun b ps e=>?_⟩,?_,fun x c e=>?_,?_,fun x c e=>?_,fun p hp=>?_,hok,I.len⟩
 ·exact keep b o (neL b o e) hb (neC b o e hx) (I.base.keep b o e n hb hx) (I.base.free b o e n hx)
 ·obtain⟨sl,e1⟩:=I.base.slot b o e n hb hx
  obtain⟨sl',e2⟩:=slot b _ (neL b o e) hb (neC b o e hx) e1 (I.base.free b o e n hx)
  exact⟨sl',e2⟩
 ·obtain⟨o',e1⟩:=I.base.there b o e hx
  exact free b o' (neC b o e hx) e1 (I.base.free b o e n hx)
 ·obtain⟨o',e1⟩:=I.base.there b o e hx
  exact there b o' (neC b o e hx) e1
 ·obtain⟨m1,e1⟩:=I.base.tbls b ps e
  obtain⟨m2,e2⟩:=tbls b _ e1
  exact⟨m1 ++ m2,by rw[e2,Array.append_assoc]⟩
 ·obtain⟨m,hn,hl⟩:=I.loc
  refine⟨m,ns m hn,fun i x v e1 e2 e3=>?_⟩
  obtain⟨u,r,l⟩:=hl i x v e1 e2 e3
  refine⟨u,r,?_⟩
  rcases l with l | ⟨k,c,e,z⟩
  ·exact .inl l
  ·exact .inr ⟨k,c,e,cellK x c e _ z⟩
 ·obtain⟨v,z⟩:=I.cell x c e
  exact⟨v,cellK x c e v z⟩
 ·obtain⟨m,⟨o,_,_,ho,_⟩,_⟩:=I.loc
  exact free _ o (fun z=>(hch _ z).2.1 rfl) ho I.free
 ·obtain⟨v,o,ho,hd⟩:=I.cell x c e
  exact free c o (fun z=>(hch c z).2.2.1 x c e rfl) ho (I.freeC x c e)
 ·obtain⟨e,n,ne,nf,d⟩:=I.pin p hp
  have nch:p.1∉ch:=fun z=>(hch p.1 z).2.2.2 p hp rfl
  exact⟨keep p.1 p.2 ne nf nch e n,free p.1 p.2 nch e n,ne,nf,d⟩
theorem Inv.un{t':Nat}(I:Inv X pins σ H s)(u:Un X.fs [] H H' s.heap h')(hok:HOk X.prog X.w H' h'):Inv X pins σ H' {s with heap:=h',toks:=t'}:=by
 obtain⟨m,⟨o,es,ep,ho,r⟩,_⟩:=id I.loc
 obtain⟨sl,hL⟩:=u.any ho I.free (by simp)
 exact I.step (g':=s.gens) (d':=s.drawn) (ch:=[]) (fun _ z=>nomatch z) (fun b o _ hb _ e n=>u.keep b o e n hb (by simp)) (fun b o _ hb _ e n=>u.slot b o e n hb (by simp)) (fun b o _ e n=>u.free b o e n (by simp)) (fun b o _ e=>u.there b o e (by simp)) u.tups u.frzs u.tbls (fun m' hm=>by
  obtain⟨o',es',ep',ho',r'⟩:=hm
  rw[ho] at ho';cases ho'
  exact⟨_,es',ep',hL,r'⟩) hok I.bare
theorem Inv.call{g':Array GenState}{t':Nat}{d':Drawn}{ch:List Addr}(I:Inv X pins σ H s)(u:Un (frs X.stack) ch H H' s.heap h')(hok:HOk X.prog X.w H' h')(hg:AllBare g')
  (hch:∀ b∈ch,(b∈X.ex∨X.s₀.heap.objs.size≤b)∧b≠X.env.locals∧(∀ x c,X.env.cells.lookup x=some c→c≠b)∧∀ p∈X.pn ++ pins,p.1≠b) :
  Inv X pins σ H' {s with heap:=h',gens:=g',drawn:=d',toks:=t'}:=by
 obtain⟨m,⟨o,es,ep,ho,r⟩,_⟩:=id I.loc
 obtain⟨sl,hL⟩:=u.any ho I.free fun z=>(hch _ z).2.1 rfl
 exact I.step (ch:=ch) hch (fun b o hL hb hc e n=>u.keep b o e n (fun z=>(List.mem_cons.mp (I.stkSub b z)).elim hL hb) hc) (fun b o _ _ hc e n=>u.any e n hc) (fun b o hc e n=>u.free b o e n hc) (fun b o hc e=>u.there b o e hc) u.tups u.frzs u.tbls (fun m' hm=>by
  obtain⟨o',es',ep',ho',r'⟩:=hm
  rw[ho] at ho';cases ho'
  exact⟨_,es',ep',hL,r'⟩) hok hg
theorem Inv.turned{t':Nat}{it:Addr}(I:Inv X pins σ H s)(k:∀ b o,b≠it→s.heap.get? b=some o→h'.get? b=some o)(hn:H it=none)(hL:it≠X.env.locals)
  (h1:it∈X.ex∨X.s₀.heap.objs.size≤it) (h2:∀ x c,X.env.cells.lookup x=some c→c≠it) (h3:∀ p∈X.pn ++ pins,p.1≠it):Inv X pins σ H {s with heap:=h',toks:=t'}:=by
 have nit:∀ b u,H b=some u→b≠it:=fun b u e z=>by rw[z,hn] at e;cases e
 refine I.step (g':=s.gens) (d':=s.drawn) (ch:=[it]) (fun b hb=>?_) (fun b o _ _ hc e _=>k b o (fun z=>hc (by simp[z])) e) (fun b o _ _ hc e _=>⟨o.slots,k b o (fun z=>hc (by simp[z])) e⟩) (fun _ _ _ _ n=>n)
  (fun b o hc e=>⟨o,k b o (fun z=>hc (by simp[z])) e⟩) (fun _ _ e=>e) (fun _ _ _ e=>e) (fun b ps e=>⟨#[],by rw[e];simp⟩) (fun m hm=>?_) (fun b u e=>?_) I.bare
 ·have e:b=it:=by simpa using hb
  subst e
  exact⟨h1,hL,h2,h3⟩
 ·obtain⟨o,es,ep,ho,r⟩:=hm
  exact⟨o,es,ep,k _ o (Ne.symm hL) ho,r⟩
 ·refine(I.hok b u e).stay (fun c v hc q=>k c v ?_ q) (fun _ q=>q) fun _ _ q=>q
  rcases hc with z | z
  ·rw[z];exact nit b u e
  ·exact nit c _ z
theorem Inv.tok(I:Inv X pins σ H s)(t:Nat):Inv X pins σ H {s with toks:=t}:=I.un (h':=s.heap) (t':=t) Un.refl I.hok
theorem Inv.kept{t':Nat}(I:Inv X pins σ H s)(k:∀ b u,s.heap.get? b=some u→h'.get? b=some u):Inv X pins σ H {s with heap:=h',toks:=t'}:=I.un (Un.kept k) (I.hok.kept k)
theorem Inv.laid{a:Addr}{o:HO}{t':Nat}(I:Inv X pins σ H s)(k:∀ b u,s.heap.get? b=some u→h'.get? b=some u)(hp:s.heap.objs.size≤a)(new:zbl X.prog X.w (upd H a o) h' a o) :
  Inv X pins σ (upd H a o) {s with heap:=h',toks:=t'}:=I.un (Un.laid k hp (I.hok.fresh hp)) (I.hok.laid k hp new)
theorem Inv.write{x e:Addr}{o:HO}{t':Nat}(I:Inv X pins σ H s)(mu:Mut (H x))(he:e=x∨H e=some (.own x))(k:∀ b u,b≠e→s.heap.get? b=some u→h'.get? b=some u)(heo:∃ u,h'.get? e=some u)
  (new:zbl X.prog X.w (upd H x o) h' x o):Inv X pins σ (upd H x o) {s with heap:=h',toks:=t'}:=I.un (Un.write mu he k heo) (I.hok.write mu he k heo new)
theorem Inv.pins_of{pins':List (Addr×Obj)}(I:Inv X pins σ H s)(h:∀ p∈pins',s.heap.get? p.1=some p.2∧H p.1=none∧p.1≠X.env.locals∧p.1∉X.fs∧∀ v,p.2.data≠.cell v):Inv X pins' σ H s:=
 ⟨I.ok,I.os,I.bare,I.base,I.loc,I.cell,I.free,I.freeC,fun p hp=>(List.mem_append.mp hp).elim (fun z=>I.pin p (List.mem_append_left _ z)) (h p),I.hok,I.len⟩
theorem znj{N:List Str}(hN:N.Nodup){i j:Nat}{x:Str}(a:N[i]? = some x)(b:N[j]? = some x):i=j:=by
 obtain⟨h1,e1⟩:=List.getElem?_eq_some_iff.mp a
 obtain⟨h2,e2⟩:=List.getElem?_eq_some_iff.mp b
 exact(List.getElem_inj hN).mp (e1.trans e2.symm)
theorem zkV{M:Model}{A:Around}{E:Value→Shared→Prop}{i:Nat}{x:Str}{v:V}{u:Value}{Q:Unit→Shared→Prop}(I:Inv X pins σ H s)(hN:X.N.Nodup)(hi:X.N[i]? = some x)(hx:Loc X.env.scope x)(r:RelV v u)
  (h:∀ s',Inv X pins (σ.set i (some v)) H s'→(∃ a,Heap.SameBut a s.heap s'.heap∧(a=X.env.locals∨X.env.cells.lookup x=some a))→Q () s') (hf:X.fn x=true∨X.env.scope.names.lookup x=some .local:=by first | exact .inl rfl | exact .inr rfl | assumption):wpAny M A (storeName X.env x u) Q E s:=by
 obtain⟨m,hn,hl⟩:=id I.loc
 have hcls:(X.env.scope.kind == .class || (X.env.scope.kind == .module && X.env.locals != X.env.globals))=false:=by rw[I.ok.kind];rfl
 have hiσ:i < σ.length:=by rw[I.len];exact(List.getElem?_eq_some_iff.mp hi).1
 have cne:=I.cne
 have tracked:∀ {a:Addr} {h':Heap},(∃ o,s.heap.get? a=some o∧H a=none)→Heap.SameBut a s.heap h'→HOk X.prog X.w H h':=fun {a h'} ha hs b ob e=>by
  obtain⟨_,_,hfree⟩:=ha
  refine(I.hok b ob e).stay (fun c w' hc q=>(hs.2 c ?_).trans q) (fun _ q=>q) fun _ _ q=>q
  rintro rfl
  rcases hc with rfl | hc
  ·rw[hfree] at e;cases e
  ·rw[hfree] at hc;cases hc
 rcases hx with hk | hk
 ·refine wpAny_storeName_local hk hn (fun h' hn' hs=>?_) hcls
  obtain⟨oL,_,_,hoL,_⟩:=id hn
  refine h _ ⟨I.ok,I.os,I.bare,⟨fun b o e n hb hx=>?_,fun b o e n hb hx=>?_,I.base.free,fun b o e hx=>?_,I.base.tups,I.base.frzs,I.base.tbls⟩,⟨_,hn',fun j y v' e1 e2 e3=>?_⟩,fun y c e=>?_,I.free,I.freeC,fun p hp=>?_,tracked ⟨oL,hoL,I.free⟩ hs,by simpa using I.len⟩ ⟨_,hs,.inl rfl⟩
  ·exact(hs.2 b (Nat.ne_of_lt (Nat.lt_of_lt_of_le (Heap.lt_size e) I.ok.above))).trans (I.base.keep b o e n hb hx)
  ·obtain⟨sl,e1⟩:=I.base.slot b o e n hb hx
   exact⟨sl,(hs.2 b (Nat.ne_of_lt (Nat.lt_of_lt_of_le (Heap.lt_size e) I.ok.above))).trans e1⟩
  ·obtain⟨o',e1⟩:=I.base.there b o e hx
   exact⟨o',(hs.2 b (Nat.ne_of_lt (Nat.lt_of_lt_of_le (Heap.lt_size e) I.ok.above))).trans e1⟩
  ·by_cases hj:j=i
   ·subst hj
    rw[hi] at e1;cases e1
    rw[List.getElem?_set_self hiσ] at e2
    cases e2
    exact⟨u,r,.inl ⟨hk,by simp⟩⟩
   ·rw[List.getElem?_set_ne (Ne.symm hj)] at e2
    obtain⟨u',r',q⟩:=hl j y v' e1 e2 e3
    refine⟨u',r',?_⟩
    rcases q with⟨k,e⟩ | ⟨k,c,e,z⟩
    ·refine .inl ⟨k,?_⟩
     have:y≠x:=fun e=>hj (znj hN e1 (e ▸ hi))
     simp[this,e]
    ·exact .inr ⟨k,c,e,z.sameBut hs (cne y c e)⟩
  ·obtain⟨w',z⟩:=I.cell y c e
   exact⟨w',z.sameBut hs (cne y c e)⟩
  ·obtain⟨e,n,ne,nf,d⟩:=I.pin p hp
   exact⟨(hs.2 p.1 ne).trans e,n,ne,nf,d⟩
 ·have hfn:X.fn x=true:=by
   rcases hf with z | z
   ·exact z
   ·rw[z] at hk;cases hk
  obtain⟨c,hc⟩:=I.ok.has x (.inl hk)
  obtain⟨w',z⟩:=I.cell x c hc
  refine wpAny_storeName_cell I.ok.kind hk hc z (fun h' hc' hs=>?_)
  obtain⟨oc,hoc,hocd⟩:=id z
  refine h {s with heap:=h'} ⟨I.ok,I.os,I.bare,⟨fun b o e n hb hx=>?_,fun b o e n hb hx=>?_,I.base.free,fun b o e hx=>?_,I.base.tups,I.base.frzs,I.base.tbls⟩,⟨m,hn.sameBut hs (Ne.symm (cne x c hc)),fun j y v' e1 e2 e3=>?_⟩,fun y c' e=>?_,I.free,I.freeC,fun p hp=>?_,tracked ⟨oc,hoc,I.freeC x c hc⟩ hs,by simpa using I.len⟩ ⟨c,hs,.inr hc⟩
  ·exact(hs.2 b (Nat.ne_of_lt (Nat.lt_of_lt_of_le (Heap.lt_size e) (I.ok.cab x c hfn hc)))).trans (I.base.keep b o e n hb hx)
  ·obtain⟨sl,e1⟩:=I.base.slot b o e n hb hx
   exact⟨sl,(hs.2 b (Nat.ne_of_lt (Nat.lt_of_lt_of_le (Heap.lt_size e) (I.ok.cab x c hfn hc)))).trans e1⟩
  ·obtain⟨o',e1⟩:=I.base.there b o e hx
   exact⟨o',(hs.2 b (Nat.ne_of_lt (Nat.lt_of_lt_of_le (Heap.lt_size e) (I.ok.cab x c hfn hc)))).trans e1⟩
  ·by_cases hj:j=i
   ·subst hj
    rw[hi] at e1;cases e1
    rw[List.getElem?_set_self hiσ] at e2
    cases e2
    exact⟨u,r,.inr ⟨.inl hk,c,hc,hc'⟩⟩
   ·rw[List.getElem?_set_ne (Ne.symm hj)] at e2
    obtain⟨u',r',q⟩:=hl j y v' e1 e2 e3
    refine⟨u',r',?_⟩
    rcases q with q | ⟨k,c',e,z'⟩
    ·exact .inl q
    ·refine .inr ⟨k,c',e,z'.sameBut hs ?_⟩
     rintro rfl
     exact hj (znj hN e1 (I.ok.inj _ _ _ e hc ▸ hi))
  ·by_cases hcc:c'=c
   ·subst hcc;exact⟨_,hc'⟩
   ·obtain⟨w2,z2⟩:=I.cell y c' e
    exact⟨w2,z2.sameBut hs hcc⟩
  ·obtain⟨e,n,ne,nf,d⟩:=I.pin p hp
   refine⟨(hs.2 p.1 ?_).trans e,n,ne,nf,d⟩
   intro q
   rw[q,hoc] at e
   have q':oc=p.2:=Option.some.inj e
   exact d w' (by rw[←q'];exact hocd)
theorem znk{M:Model}{A:Around}{E:Value→Shared→Prop}{i:Nat}{x:Str}{v:V}{u:Value}{Q:Unit→Shared→Prop}(I:Inv X pins σ H s)(hN:X.N.Nodup)(hi:X.N[i]? = some x)(hx:Loc X.env.scope x)(r:RelV v u)
  (h:∀ s',Inv X pins (σ.set i (some v)) H s'→Q () s') (hf:X.fn x=true∨X.env.scope.names.lookup x=some .local:=by first | exact .inl rfl | exact .inr rfl | assumption):wpAny M A (storeName X.env x u) Q E s:=
 zkV I hN hi hx r (fun s' I' _=>h s' I') hf
theorem Inv.call'{s':Shared}{ch:List Addr}(I:Inv X pins σ H s)(ho:s'.os=s.os)(u:Un (frs X.stack) ch H H' s.heap s'.heap)(hok:HOk X.prog X.w H' s'.heap)(hg:AllBare s'.gens)
  (hch:∀ b∈ch,(b∈X.ex∨X.s₀.heap.objs.size≤b)∧b≠X.env.locals∧(∀ x c,X.env.cells.lookup x=some c→c≠b)∧∀ p∈X.pn ++ pins,p.1≠b):Inv X pins σ H' s':=by
 obtain⟨h',g',d',t',o'⟩:=s'
 have e:o'=s.os:=ho
 subst e
 exact I.call (g':=g') (t':=t') (d':=d') u hok hg hch
end
abbrev XK:=Value→Option Addr→Hp→Prop
abbrev St:=List (Option V)
abbrev VK:=V→Hp→Prop
abbrev TE:=St→Hp→VK→Prop
abbrev TT:=St→Hp→(Bool→Hp→Prop)→Prop
abbrev TA:=St→Hp→(List V→Hp→Prop)→Prop
structure Ends where
 nx:St→Hp→Prop
 rt:VK
 bk:St→Hp→Prop:=fun _ _=>False
 ct:St→Hp→Prop:=fun _ _=>False
abbrev TS:=Ends→St→Hp→Prop
def EP(X:Cx)(pins:List (Addr×Obj))(σ:St)(Q:VK)(u:Value)(s':Shared):Prop:=∃ v H',Inv X pins σ H' s'∧RelV v u∧Q v H'
def TP(X:Cx)(pins:List (Addr×Obj))(σ:St)(Q:Bool→Hp→Prop)(b:Bool)(s':Shared):Prop:=∃ H',Inv X pins σ H' s'∧Q b H'
def AP(X:Cx)(pins:List (Addr×Obj))(σ:St)(Q:List V→Hp→Prop)(us:List Value)(s':Shared):Prop:=∃ vs H',Inv X pins σ H' s'∧Vals vs us∧Q vs H'
def SP(X:Cx)(pins:List (Addr×Obj))(D:Ends)(f:Flow)(s':Shared):Prop:=
 match f with
 | .next=>∃ σ' H',Inv X pins σ' H' s'∧D.nx σ' H'
 | .brk=>∃ σ' H',Inv X pins σ' H' s'∧D.bk σ' H'
 | .cont=>∃ σ' H',Inv X pins σ' H' s'∧D.ct σ' H'
 | .ret u=>∃ v σ' H',Inv X pins σ' H' s'∧RelV v u∧D.rt v H'
def PE(X:Cx)(e:Expr)(t:TE):Prop:=
 ∀ (pins:List (Addr×Obj)) (s:Shared) (σ:St) (H:Hp) (Q:VK),Inv X pins σ H s→t σ H Q→wpAny (model X.prog X.w) X.A (eval e X.env) (EP X pins σ Q) X.xe s
def PT(X:Cx)(e:Expr)(t:TT):Prop:=
 ∀ (pins:List (Addr×Obj)) (s:Shared) (σ:St) (H:Hp) (Q:Bool→Hp→Prop),Inv X pins σ H s→t σ H Q→wpAny (model X.prog X.w) X.A (isTrue e X.env (eval e X.env)) (TP X pins σ Q) X.xe s
def PW(X:Cx)(e:Expr)(t:TT):Prop:=
 ∀ (whole:Sem Value) (pins:List (Addr×Obj)) (s:Shared) (σ:St) (H:Hp) (Q:Bool→Hp→Prop),Inv X pins σ H s→t σ H Q→wpAny (model X.prog X.w) X.A (isTrue e X.env whole) (TP X pins σ Q) X.xe s
theorem PW.pt{X:Cx}{e:Expr}{t:TT}(h:PW X e t):PT X e t:=h _
def PA(X:Cx)(es:List Expr)(t:TA):Prop:=
 ∀ (pos:Pos) (pins:List (Addr×Obj)) (s:Shared) (σ:St) (H:Hp) (Q:List V→Hp→Prop),Inv X pins σ H s→t σ H Q→wpAny (model X.prog X.w) X.A (spliced (backTo pos (starEach es X.env))) (AP X pins σ Q) X.xe s
def PS(X:Cx)(st:Stmt)(t:TS):Prop:=
 ∀ (pins:List (Addr×Obj)) (s:Shared) (σ:St) (H:Hp) (D:Ends),Inv X pins σ H s→t D σ H→wpAny (model X.prog X.w) X.A (exec st X.env) (SP X pins D) X.xe s
def PSs(X:Cx)(st:List Stmt)(t:TS):Prop:=
 ∀ (pins:List (Addr×Obj)) (s:Shared) (σ:St) (H:Hp) (D:Ends),Inv X pins σ H s→t D σ H→wpAny (model X.prog X.w) X.A (execs st X.env) (SP X pins D) X.xe s
theorem thn{α:Type}{t:Sem α}{Q Q':α→Shared→Prop}{M:Model}{A:Around}{E:Value→Shared→Prop}{s:Shared}(h:wpAny M A t Q E s)(hQ:∀ a s,Q a s→Q' a s):wpAny M A t Q' E s:=wpAny_mono h hQ fun _ _ x=>x
end L2
namespace L2
open PySem PySem.Spec PyProof.Rows
section
variable {X:Cx}
def tVar(i:Nat):TE:=fun σ H Q=>∃ v,σ[i]? = some (some v)∧Q v H
def tC(v:V):TE:=fun _ H Q=>Q v H
theorem zu8{i:Nat}{x:Str}{pos:Pos}(hN:X.N[i]? = some x)(hv:Vis X.env.scope x)(hd:(x == ("__debug__" : Str))=false:=by decide)(hcd:(x == ("__classdict__" : Str))=false:=by decide):PE X (.Name x pos) (tVar i):=by
 intro pins s σ H Q I h
 obtain⟨v,e,h⟩:=h
 obtain⟨m,hn,hl⟩:=I.loc
 obtain⟨u,r,l⟩:=hl i x v hN e hv
 have fin:EP X pins σ Q u s:=⟨v,H,I,r,h⟩
 rcases l with⟨hk,hm⟩ | ⟨hk,c,hc,hcell⟩
 ·exact wpAny_Name (wpAny_loadName_local I.ok.kind hk hn hm fin) hd
 ·rcases hk with hk | hk
  ·exact wpAny_Name (wpAny_loadName_cell I.ok.kind hk hc hcell fin) hd
  ·exact wpAny_Name (wpAny_loadName_free I.ok.kind hk hc hcell fin hcd) hd
theorem zu9{i j pos}:PE X (.Constant (.int i) j pos) (tC (.int i)):=fun _ _ _ H _ I h=>wpAny_Constant_int ⟨.int i,H,I.tok _,⟨_,rfl⟩,h⟩
theorem zw8{b j pos}:PE X (.Constant (.bool b) j pos) (tC (.bl b)):=fun _ _ _ H _ I h=>Constant_bool ⟨.bl b,H,I,rfl,h⟩
theorem zva{j pos}:PE X (.Constant .none j pos) (tC .non):=fun _ _ _ H _ I h=>Constant_none ⟨.non,H,I,rfl,h⟩
theorem zvb{x j pos}:PE X (.Constant (.str x) j pos) (tC (.str x)):=fun _ _ _ H _ I h=>Calls.Constant_str ⟨.str x,H,I.tok _,⟨_,rfl⟩,h⟩
def Gl(X:Cx)(x:Str):Prop:=X.env.kindOf x=some .globalImplicit
theorem zmm{E:Value→Shared→Prop}{pins:List (Addr×Obj)}{s:Shared}{σ:St}{H:Hp}{x:Str}{u:Value}{pos:Pos}{Q:Value→Shared→Prop}(I:Inv X pins σ H s)(hg:Gl X x)(hm:X.mg x=some u)(h:Q u s)
  (hd:(x == ("__debug__" : Str))=false:=by decide):wpAny (model X.prog X.w) X.A (eval (.Name x pos) X.env) Q E s:=
 Calls.Name_function_global I.ok.kind hg (Calls.loadGlobal_global (by rw[I.ok.glob];exact I.mod.glob.keeps I.bk) hm h) hd
theorem zkW{E:Value→Shared→Prop}{pins:List (Addr×Obj)}{s:Shared}{σ:St}{H:Hp}{x:Str}{u:Value}{pos:Pos}{Q:Value→Shared→Prop}(I:Inv X pins σ H s)(hg:Gl X x)(hm:X.mg x=none)(hv:bootBuiltins x=some u)(h:Q u s)
  (hn:x≠"__name__":=by decide) (hd:(x == ("__debug__" : Str))=false:=by decide):wpAny (model X.prog X.w) X.A (eval (.Name x pos) X.env) Q E s:=by
 obtain⟨mb,h1,h2⟩:=I.mod.blt
 exact Calls.Name_function_global I.ok.kind hg (Calls.loadGlobal_builtin (by rw[I.ok.glob];exact I.mod.glob.keeps I.bk) hm (by rw[I.ok.blt];exact h1.keeps I.bk) ((h2 x hn).trans hv) h) hd
theorem zsX{x:Str}{v:V}{u:Value}{pos:Pos}(hg:Gl X x)(hm:X.mg x=none)(hv:bootBuiltins x=some u)(r:RelV v u)(hn:x≠"__name__":=by decide)(hd:(x == ("__debug__" : Str))=false:=by decide):PE X (.Name x pos) (tC v):=
 fun _ _ _ H _ I h=>zkW I hg hm hv ⟨v,H,I,r,h⟩ hn hd
variable {a b:Expr}{ta tb:TE}{pos:Pos}
variable {tA tB':TT}{rest:List Expr}
def tAnd(t u:TT):TT:=fun σ H Q=>t σ H fun c H1=>if c=true then u σ H1 Q else Q false H1
def tOr(t u:TT):TT:=fun σ H Q=>t σ H fun c H1=>if c=true then Q true H1 else u σ H1 Q
def tNot(t:TT):TT:=fun σ H Q=>t σ H fun c H1=>Q (!c) H1
theorem zsY(ha:PT X a tA):PW X (.BoolOp .And [a] pos) tA:=by
 intro wh pins s σ H Q I h
 refine isTrue_and (thn (ha pins s σ H Q I h) fun c s1 e=>?_)
 cases c with
 | true=>exact isTrue_and_nil e
 | false=>exact e
theorem zvc(ha:PT X a tA):PW X (.BoolOp .Or [a] pos) tA:=by
 intro wh pins s σ H Q I h
 refine isTrue_or (thn (ha pins s σ H Q I h) fun c s1 e=>?_)
 cases c with
 | false=>exact isTrue_or_nil e
 | true=>exact e
theorem zvd(ha:PT X a tA)(hb:PW X (.BoolOp .And (b :: rest) pos) tB'):PW X (.BoolOp .And (a :: b :: rest) pos) (tAnd tA tB'):=by
 intro wh pins s σ H Q I h
 refine isTrue_and (thn (ha pins s σ H _ I h) fun c s1 ⟨H1,I1,q1⟩=>?_)
 cases c with
 | true=>exact hb wh pins s1 σ H1 Q I1 q1
 | false=>exact⟨H1,I1,q1⟩
theorem zw9(ha:PT X a tA)(hb:PW X (.BoolOp .Or (b :: rest) pos) tB'):PW X (.BoolOp .Or (a :: b :: rest) pos) (tOr tA tB'):=by
 intro wh pins s σ H Q I h
 refine isTrue_or (thn (ha pins s σ H _ I h) fun c s1 ⟨H1,I1,q1⟩=>?_)
 cases c with
 | true=>exact⟨H1,I1,q1⟩
 | false=>exact hb wh pins s1 σ H1 Q I1 q1
theorem zve(ha:PT X a tA):PT X (.UnaryOp .Not a pos) (tNot tA):=by
 intro pins s σ H Q I h
 exact isTrue_not (ha pins s σ H (fun c H1=>Q (!c) H1) I h)
def zxa(ta tb:TE):TE:=fun σ H Q=>ta σ H fun x H1=>∃ c,x=.bl c∧if c=true then tb σ H1 Q else Q (.bl false) H1
theorem zvf{op}{t:TE}(h:PE X a t):PE X (.BoolOp op [a] pos) t:=fun pins s σ H Q I hw=>BoolOp_one (h pins s σ H Q I hw)
theorem zvg(ha:PE X a ta)(hb:PE X (.BoolOp .And (b :: rest) pos) tb):PE X (.BoolOp .And (a :: b :: rest) pos) (zxa ta tb):=by
 intro pins s σ H Q I h
 refine BoolOp_and (thn (ha pins s σ H _ I h) fun v s1 ⟨x,H1,I1,r1,q1⟩=>?_)
 obtain⟨c,rfl,q1⟩:=q1
 cases r1
 refine wpAny_truthy_bool ?_
 cases c with
 | true=>exact hb pins s1 σ H1 Q I1 q1
 | false=>exact⟨.bl false,H1,I1,rfl,q1⟩
def tIf(t:TT)(ta tb:TE):TE:=fun σ H Q=>t σ H fun c H1=>if c=true then ta σ H1 Q else tb σ H1 Q
theorem zqQ{c:Expr}(hc:PT X c tA)(ha:PE X a ta)(hb:PE X b tb):PE X (.IfExp c a b pos) (tIf tA ta tb):=by
 intro pins s σ H Q I h
 refine wpAny_IfExp (thn (hc pins s σ H _ I h) fun d s1 ⟨H1,I1,q1⟩=>?_)
 cases d with
 | true=>exact ha pins s1 σ H1 Q I1 q1
 | false=>exact hb pins s1 σ H1 Q I1 q1
end
end L2
namespace L2
open PySem PySem.Spec PyProof.Rows
def SqL(K:PySem.W.Frag)(H:Hp)(a:Addr)(xs:List V):Prop:=
 Rd H a (.lst xs)∨
  ∃ (o:Obj) (its:Array Value) (n:Nat),K.lookup a=some o∧o.cls=.type "list"∧o.dict=none∧o.data=.seq its n∧its.size≤sizeLine∧Vals xs its.toList
def SqT(K:PySem.W.Frag)(H:Hp)(a:Addr)(xs:List V):Prop:=
 Rd H a (.tup xs)∨
  ∃ (o:Obj) (its:Array Value) (n:Nat),K.lookup a=some o∧o.cls=.type "tuple"∧o.data=.seq its n∧its.size≤sizeLine∧Vals xs its.toList
def absV:Value→Option V
 | .none=>some .non
 | .bool b=>some (.bl b)
 | .int i _=>some (.int i)
 | .str x _=>some (.str x)
 | .bytes b _=>some (.byt b)
 | .float b _=>some (.flt b)
 | .ref a=>some (.ref a)
 | .type n=>some (.ty n)
 | _=>none
theorem RelV.abs{x:V}{u:Value}(r:RelV x u):absV u=some x:=by
 cases x with
 | non=>cases r;rfl
 | bl _=>cases r;rfl
 | int _=>obtain⟨t,rfl⟩:=r;rfl
 | str _=>obtain⟨t,rfl⟩:=r;rfl
 | byt _=>obtain⟨t,rfl⟩:=r;rfl
 | flt _=>obtain⟨t,rfl⟩:=r;rfl
 | ref _=>cases r;rfl
 | ty _=>cases r;rfl
theorem RelV.inj{x y:V}{u:Value}(r:RelV x u)(q:RelV y u):x=y:=Option.some.inj (r.abs.symm.trans q.abs)
theorem Vals.inj:∀ {xs ys:List V} {us:List Value},Vals xs us→Vals ys us→xs=ys
 | _,_,_,.nil,.nil=>rfl
 | _,_,_,.cons r t,.cons r' t'=>by rw[r.inj r',Vals.inj t t']
section
variable {X:Cx}{pins:List (Addr×Obj)}{σ:St}{H:Hp}{s:Shared}{a:Addr}{xs ys:List V}
theorem SqL.of{K:PySem.W.Frag}(h:H a=some (.lst xs)):SqL K H a xs:=.inl (.inl h)
theorem SqT.of{K:PySem.W.Frag}(h:H a=some (.tup xs)):SqT K H a xs:=.inl (.inl h)
theorem Inv.list(I:Inv X pins σ H s)(h:SqL X.K H a xs):∃ its:List Value,Vals xs its∧PlainL s.heap a its.toArray∧xs.length≤sizeLine:=by
 rcases h with h | ⟨o,its,n,hk,hc,hd,hs,hz,r⟩
 ·obtain⟨z,its,n,r,e⟩:=h.ok I.hok
  exact⟨its,r,⟨_,n,e,rfl,rfl,rfl⟩,z⟩
 ·refine⟨its.toList,r,⟨o,n,I.kIn a o hk,hc,hd,by simpa using hs⟩,?_⟩
  have e:=r.length
  simp only[Array.length_toList] at e
  omega
theorem Inv.tuple(I:Inv X pins σ H s)(h:SqT X.K H a xs):∃ its:List Value,Vals xs its∧IsTup s.heap a its.toArray∧xs.length≤sizeLine:=by
 rcases h with h | ⟨o,its,n,hk,hc,hs,hz,r⟩
 ·obtain⟨z,its,r,p⟩:=h.ok I.hok
  exact⟨its,r,p,z⟩
 ·refine⟨its.toList,r,⟨o,I.kIn a o hk,hc,n,by simpa using hs⟩,?_⟩
  have e:=r.length
  simp only[Array.length_toList] at e
  omega
theorem Inv.list_inj(I:Inv X pins σ H s)(h:SqL X.K H a xs)(h':SqL X.K H a ys):xs=ys:=by
 obtain⟨its,r,⟨o,n,e,_,_,d⟩,_⟩:=I.list h
 obtain⟨its',r',⟨o',n',e',_,_,d'⟩,_⟩:=I.list h'
 rw[e] at e';cases e'
 rw[d] at d'
 injection d' with d1 _
 have:its=its':=by simpa using congrArg Array.toList d1
 subst this
 exact r.inj r'
theorem Inv.tuple_inj(I:Inv X pins σ H s)(h:SqT X.K H a xs)(h':SqT X.K H a ys):xs=ys:=by
 obtain⟨its,r,⟨o,e,_,n,d⟩,_⟩:=I.tuple h
 obtain⟨its',r',⟨o',e',_,n',d'⟩,_⟩:=I.tuple h'
 rw[e] at e';cases e'
 rw[d] at d'
 injection d' with d1 _
 have:its=its':=by simpa using congrArg Array.toList d1
 subst this
 exact r.inj r'
end
abbrev Cx.wish(X:Cx)(E:Value→Shared→Prop):Cx:={X with xe:=E}
abbrev Cx.nox(X:Cx):Cx:=X.wish fun _ _=>False
theorem Cx.Ok.wish{X:Cx}(ok:X.Ok)(E:Value→Shared→Prop):(X.wish E).Ok:=
 ⟨ok.mod,ok.kind,ok.glob,ok.blt,ok.above,ok.inj,ok.has,ok.cab,ok.hd,ok.frames,ok.stk,ok.exf,ok.bs,ok.bsz,ok.noex,ok.exfs,ok.funs,ok.frf⟩
theorem Cx.Ok.unwish{X:Cx}{E:Value→Shared→Prop}(ok:(X.wish E).Ok):X.Ok:=
 ⟨ok.mod,ok.kind,ok.glob,ok.blt,ok.above,ok.inj,ok.has,ok.cab,ok.hd,ok.frames,ok.stk,ok.exf,ok.bs,ok.bsz,ok.noex,ok.exfs,ok.funs,ok.frf⟩
section
variable {X:Cx}{pins:List (Addr×Obj)}{σ:St}{H:Hp}{s:Shared}{E:Value→Shared→Prop}
theorem Inv.wish(I:Inv X pins σ H s)(E:Value→Shared→Prop):Inv (X.wish E) pins σ H s:=⟨I.ok.wish E,I.os,I.bare,I.base,I.loc,I.cell,I.free,I.freeC,I.pin,I.hok,I.len⟩
theorem Inv.unwish(I:Inv (X.wish E) pins σ H s):Inv X pins σ H s:=⟨I.ok.unwish,I.os,I.bare,I.base,I.loc,I.cell,I.free,I.freeC,I.pin,I.hok,I.len⟩
theorem SP.unwish{D:Ends}{f:Flow}{s':Shared}(h:SP (X.wish E) pins D f s'):SP X pins D f s':=by
 cases f with
 | next=>obtain⟨σ',H',I,q⟩:=h;exact⟨σ',H',I.unwish,q⟩
 | brk=>obtain⟨σ',H',I,q⟩:=h;exact⟨σ',H',I.unwish,q⟩
 | cont=>obtain⟨σ',H',I,q⟩:=h;exact⟨σ',H',I.unwish,q⟩
 | ret u=>obtain⟨v,σ',H',I,r,q⟩:=h;exact⟨v,σ',H',I.unwish,r,q⟩
theorem PSs.nox{st:List Stmt}{t:TS}(h:PSs X.nox st t):PSs X st t:=fun pins s σ H D I hw=>
 wpAny_mono (h pins s σ H D (I.wish _) hw) (fun _ _ q=>q.unwish) fun _ _ z=>False.elim z
end
section
variable {X:Cx}{st:Stmt}{rest:List Stmt}{t u:TS}{e:Expr}{te:TE}{pos:Pos}
def zxb:TS:=fun D σ H=>D.nx σ H
def tSeq(t u:TS):TS:=fun D σ H=>t {D with nx:=u D} σ H
theorem zsZ:PSs X [] zxb:=fun _ _ σ H _ I h=>wpAny_execs_nil ⟨σ,H,I,h⟩
theorem zqR(h1:PS X st t)(h2:PSs X rest u):PSs X (st :: rest) (tSeq t u):=by
 intro pins s σ H D I h
 refine wpAny_execs_cons (thn (h1 pins s σ H {D with nx:=u D} I h) fun f s1 q=>?_)
 cases f with
 | next=>
  obtain⟨σ',H',I',q⟩:=q
  exact h2 pins s1 σ' H' D I' q
 | ret v=>exact q
 | brk=>exact q
 | cont=>exact q
theorem zs0(h1:PS X st t):PSs X [st] t:=by
 intro pins s σ H D I h
 refine wpAny_execs_cons (thn (h1 pins s σ H D I h) fun f s1 q=>?_)
 cases f with
 | next=>exact wpAny_execs_nil q
 | ret v=>exact q
 | brk=>exact q
 | cont=>exact q
theorem Inv.quiet{pins:List (Addr×Obj)}{σ:St}{H:Hp}{s:Shared}(I:Inv X pins σ H s):interactive X.env=false:=by simp[interactive,I.ok.kind]
def zxc(te:TE):TS:=fun D σ H=>te σ H fun _ H1=>D.nx σ H1
theorem zs1(he:PE X e te)(hs:swapsWith e none pos.line X.env=pure false:=by rfl):PS X (.Expr e pos) (zxc te):=by
 intro pins s σ H D I h
 exact wpAny_Expr_any (thn (he pins s σ H _ I h) fun v s1 ⟨x,H1,I1,r1,q1⟩=>⟨σ,H1,I1,q1⟩) I.quiet hs
def tRet(te:TE):TS:=fun D σ H=>te σ H D.rt
theorem zvh(he:PE X e te):PS X (.Return (some e) pos) (tRet te):=by
 intro pins s σ H D I h
 exact wpAny_Return_some (thn (he pins s σ H _ I h) fun v s1 ⟨x,H1,I1,r1,q1⟩=>⟨x,σ,H1,I1,r1,q1⟩)
def zxd:TS:=fun D _ H=>D.rt .non H
theorem zs2:PS X (.Return none pos) zxd:=fun _ _ σ H _ I h=>wpAny_Return_none ⟨.non,σ,H,I,rfl,h⟩
def tIfS(c:TT)(t u:TS):TS:=fun D σ H=>c σ H fun b H1=>if b=true then t D σ H1 else u D σ H1
theorem zxe{c:Expr}{a b:List Stmt}{tc:TT}(hc:PT X c tc)(ha:PSs X a t)(hb:PSs X b u):PS X (.If c a b pos) (tIfS tc t u):=by
 intro pins s σ H D I h
 refine wpAny_If (thn (hc pins s σ H _ I h) fun d s1 ⟨H1,I1,q1⟩=>?_)
 cases d with
 | true=>exact ha pins s1 σ H1 D I1 q1
 | false=>exact hb pins s1 σ H1 D I1 q1
end
abbrev TG:=V→St→Hp→(St→Hp→Prop)→Prop
abbrev TGs:=List V→St→Hp→(St→Hp→Prop)→Prop
def PG(X:Cx)(target:Expr)(t:TG):Prop:=
 ∀ (pins:List (Addr×Obj)) (s:Shared) (σ:St) (H:Hp) (v:V) (u:Value) (Q:St→Hp→Prop),Inv X pins σ H s→RelV v u→t v σ H Q→
  wpAny (model X.prog X.w) X.A (assign target X.env u) (fun _ s'=>∃ σ' H',Inv X pins σ' H' s'∧Q σ' H') X.xe s
def PGs(X:Cx)(ts:List Expr)(t:TGs):Prop:=
 ∀ (pins:List (Addr×Obj)) (s:Shared) (σ:St) (H:Hp) (vs:List V) (us:List Value) (Q:St→Hp→Prop),Inv X pins σ H s→Vals vs us→t vs σ H Q→
  wpAny (model X.prog X.w) X.A (assignInOrder ((assignEach ts X.env).map (·.2)) us) (fun _ s'=>∃ σ' H',Inv X pins σ' H' s'∧Q σ' H') X.xe s
abbrev TSet:=V→V→V→Hp→(Hp→Prop)→Prop
def PSet(X:Cx)(t:TSet):Prop:=
 ∀ (pins:List (Addr×Obj)) (s:Shared) (σ:St) (H:Hp) (o i v:V) (ov iv u:Value) (Q:Hp→Prop),Inv X pins σ H s→RelV o ov→RelV i iv→RelV v u→t o i v H Q→
  wpAny (model X.prog X.w) X.A (setItem ov iv u) (fun _ s'=>∃ H',Inv X pins σ H' s'∧Q H') X.xe s
section
variable {X:Cx}{pos:Pos}
def zs3(i:Nat):TG:=fun v σ H Q=>Q (σ.set i (some v)) H
theorem zs4{i:Nat}{x:Str}(hN:X.N.Nodup)(hi:X.N[i]? = some x)(hx:Loc X.env.scope x)(hf:X.fn x=true∨X.env.scope.names.lookup x=some .local:=by first | exact .inl rfl | exact .inr rfl | assumption):PG X (.Name x pos) (zs3 i):=by
 intro pins s σ H v u Q I r h
 exact wpAny_assign_Name (znk I hN hi hx r (fun s' I'=>⟨_,H,I',h⟩) hf)
def gNil:TGs:=fun vs σ H Q=>vs=[]∧Q σ H
def zxf(t:TG)(u:TGs):TGs:=fun vs σ H Q=>∃ v r,vs=v :: r∧t v σ H fun σ' H'=>u r σ' H' Q
theorem zs5:PGs X [] gNil:=by
 intro pins s σ H vs us Q I r h
 obtain⟨e,h⟩:=h
 subst e
 cases r
 exact assignInOrder_nil ⟨σ,H,I,h⟩
theorem zqS{e:Expr}{es:List Expr}{t:TG}{u:TGs}(h1:PG X e t)(h2:PGs X es u)
  (hs:(assignEach (e :: es) X.env).map (·.2)=assign e X.env :: (assignEach es X.env).map (·.2):=by rfl):PGs X (e :: es) (zxf t u):=by
 intro pins s σ H vs us Q I r h
 obtain⟨v,vr,e1,h⟩:=h
 subst e1
 cases r with
 | cons r rr=>
  rw[hs]
  refine assignInOrder_cons (thn (h1 pins s σ H _ _ _ I r h) fun _ s1 ⟨σ1,H1,I1,q1⟩=>?_)
  exact h2 pins s1 σ1 H1 _ _ Q I1 rr q1
def gTup(K:PySem.W.Frag)(n:Nat)(t:TGs):TG:=fun v σ H Q=>∃ a xs,v=.ref a∧SqT K H a xs∧xs.length=n∧t xs σ H Q
theorem zvi{es:List Expr}{k:Nat}{t:TGs}{n:Nat}(hc:X.calm=true)(h:PGs X es t)
  (hn:(assignEach es X.env).length=n:=by rfl) (hst:(assignEach es X.env).findIdx? (·.1)=none:=by rfl):PG X (.Tuple es k pos) (gTup X.K n t):=by
 intro pins s σ H v u Q I r hw
 obtain⟨a,xs,e1,hq,hl,hw⟩:=hw
 subst e1
 cases r
 obtain⟨its,rv,ht,hz⟩:=I.tuple hq
 refine assign_Tuple_tuple (I.ok.hd hc) ht (by simp[hn,←hl,rv.length]) hst fun h' hx=>?_
 have I1:Inv X pins σ H {s with heap:=h'}:=I.kept (t':=s.toks) fun b o e=>hx b o (Nat.ne_of_lt (Heap.lt_size e)) e
 exact h pins _ σ H xs _ Q I1 (by simpa using rv) hw
def gSub(to ti:TE)(t:TSet):TG:=fun v σ H Q=>to σ H fun o H1=>ti σ H1 fun i H2=>t o i v H2 fun H3=>Q σ H3
theorem zvj{o i:Expr}{to ti:TE}{t:TSet}(ho:PE X o to)(hi:PE X i ti)(hs:PSet X t)
  (ha:∀ v,assign (.Subscript o i pos) X.env v=(do
   let ov ←holding [v] (eval o X.env)
   let iv ←holding [v,ov] (eval i X.env)
   standAt pos
   holding [v,ov,iv] (setItem ov iv v)
   release [v,ov,iv] []):=by intro _;rfl):PG X (.Subscript o i pos) (gSub to ti t):=by
 intro pins s σ H v u Q I r h
 rw[ha]
 refine wpAny_bind (wpAny_holding (thn (ho pins s σ H _ I h) fun ov s1 ⟨x,H1,I1,r1,q1⟩=>?_))
 refine wpAny_bind (wpAny_holding (thn (hi pins s1 σ H1 _ I1 q1) fun iv s2 ⟨y,H2,I2,r2,q2⟩=>?_))
 refine wpAny_bind (wpAny_standAt (wpAny_bind (wpAny_holding (thn (hs pins s2 σ H2 x y v ov iv u _ I2 r1 r2 r q2) fun _ s3 ⟨H3,I3,q3⟩=>?_))))
 exact wpAny_release ⟨σ,H3,I3,q3⟩
def tAsg(te:TE)(g:TG):TS:=fun D σ H=>te σ H fun x H1=>g x σ H1 D.nx
theorem zvk{tg e:Expr}{te:TE}{g:TG}(he:PE X e te)(hg:PG X tg g)(hs:swapsWithSole [tg] e pos.line X.env=pure false:=by rfl)(hw:swappedStores [tg] e X.env=pure none:=by rfl)
  (h1:(assignEach [tg] X.env).map (·.2)=[assign tg X.env]:=by rfl):PS X (.Assign [tg] e pos) (tAsg te g):=by
 intro pins s σ H D I h
 refine wpAny_Assign_stores (thn (he pins s σ H _ I h) fun v s1 ⟨x,H1,I1,r1,q1⟩=>?_) hs hw
 rw[h1]
 exact thn (hg pins s1 σ H1 x v _ I1 r1 q1) fun _ s2 q=>q
theorem zvl{i:Nat}{x:Str}{e:Expr}{te:TE}{pos':Pos}(hN:X.N.Nodup)(hi:X.N[i]? = some x)(hx:Loc X.env.scope x)(he:PE X e te)(hs:swapsWith e (some (.Name x pos')) pos.line X.env=pure false:=by rfl)(hf:X.fn x=true∨X.env.scope.names.lookup x=some .local:=by first | exact .inl rfl | exact .inr rfl | assumption) :
  PS X (.Assign [.Name x pos'] e pos) (tAsg te (zs3 i)):=by
 intro pins s σ H D I h
 refine wpAny_Assign_Name (thn (he pins s σ H _ I h) fun v s1 ⟨y,H1,I1,r1,q1⟩=>?_) hs
 exact znk I1 hN hi hx r1 (fun s2 I2=>⟨_,H1,I2,q1⟩) hf
end
section
variable {X:Cx}{pos:Pos}
def zvm(c:TT)(tb:TS):TS:=fun D σ H=>∃ W:Nat→St→Hp→Prop,(∃ m,W m σ H)∧∀ m σ H,W m σ H→
 c σ H fun b H1=>if b=true then ∃ N:St→Hp→Prop,(∀ σ' H',N σ' H'→∃ m',m' < m∧W m' σ' H')∧tb {D with nx:=N,ct:=N,bk:=D.nx} σ H1 else D.nx σ H1
theorem zqT{c:Expr}{body:List Stmt}{tc:TT}{tb:TS}(hp:PassesOwn (model X.prog X.w) X.A X.env X.xe)(hc:PT X c tc)(hb:PSs X body tb):PS X (.While c body [] pos) (zvm tc tb):=by
 intro pins s σ H D I h
 obtain⟨W,⟨m0,w0⟩,turn⟩:=h
 refine wpAny_While (codeAny_whileLoop (fun n s'=>∃ σ' H',Inv X pins σ' H' s'∧W n σ' H') ?_ m0 ⟨σ,H,I,w0⟩)
 rintro n s1 ⟨σ1,H1,I1,w1⟩
 refine wpAny_passesOwn hp (thn (hc pins s1 σ1 H1 _ I1 (turn n σ1 H1 w1)) fun b s2 ⟨H2,I2,q2⟩=>?_)
 cases b with
 | true=>
  obtain⟨N,hN,q2⟩:=q2
  rw[if_pos rfl]
  refine wpAny_passesOwn hp (thn (hb pins s2 σ1 H2 _ I2 q2) fun f s3 q3=>?_)
  cases f with
  | next=>
   obtain⟨σ3,H3,I3,n3⟩:=q3
   obtain⟨m',hm,w3⟩:=hN σ3 H3 n3
   exact⟨m',hm,σ3,H3,I3,w3⟩
  | cont=>
   obtain⟨σ3,H3,I3,n3⟩:=q3
   obtain⟨m',hm,w3⟩:=hN σ3 H3 n3
   exact⟨m',hm,σ3,H3,I3,w3⟩
  | brk=>exact q3
  | ret v=>exact q3
 | false=>
  rw[if_neg Bool.false_ne_true]
  exact wpAny_execs_nil ⟨σ1,H2,I2,q2⟩
end
structure It where
 go:Nat→Hp→Prop
 yld:Nat→Hp→V→Hp→Prop
 stop:Nat→Hp→Prop
def FpOk(X:Cx)(pins:List (Addr×Obj))(H:Hp)(b:Addr):Prop:=
 H b=none∧b≠X.env.locals∧b∉X.fs∧(b∈X.ex∨X.s₀.heap.objs.size≤b)∧(∀ x c,X.env.cells.lookup x=some c→c≠b)∧∀ p∈X.pn ++ pins,p.1≠b
theorem Inv.fpOk{X:Cx}{pins:List (Addr×Obj)}{σ:St}{H H':Hp}{s:Shared}{b:Addr}(I:Inv X pins σ H s)(hb:s.heap.objs.size≤b)(hn:H' b=none):FpOk X pins H' b:=by
 refine⟨hn,Nat.ne_of_gt (Nat.lt_of_lt_of_le I.lt hb),I.nofs hb,.inr (Nat.le_trans I.sz hb),fun x c e z=>?_,fun p hp z=>?_⟩
 ·obtain⟨v,q⟩:=I.cell x c e
  exact absurd (Nat.lt_of_lt_of_le q.lt (by rw[z];exact hb)) (Nat.lt_irrefl _)
 ·exact absurd (Nat.lt_of_lt_of_le (Heap.lt_size (I.pin p hp).1) (by rw[z];exact hb)) (Nat.lt_irrefl _)
structure Turn(P:Program)(w:World)(K:PySem.W.Frag)(tg:Expr)(J:It)(fp:List Addr)(it:Addr)(tn:Nat→Heap→Prop):Prop where
 mem:it∈fp
 obj:∀ i h,tn i h→∀ b∈fp,∃ o,h.get? b=some o∧∀ v,o.data≠.cell v
 keep:∀ i h h',tn i h→(∀ b∈fp,∀ o,h.get? b=some o→h'.get? b=some o)→tn i h'
 item:∀ (X:Cx),X.prog=P→X.w=w→X.K=K→X.calm=true→∀ (i:Nat) (pins:List (Addr×Obj)) (s:Shared) (σ:St) (H:Hp) (E:Value→Shared→Prop),Inv X pins σ H s→(∀ b∈fp,FpOk X pins H b)→tn i s.heap→J.go i H→
  wpAny (model P w) X.A (pyNext (.ref it)) (fun r s1=>∃ u,r=some u∧
   wpAny (model P w) X.A (letOwnedTupleGo tg (.ref it) u) (fun _ s2=>∃ x H',Inv X pins σ H' s2∧RelV x u∧J.yld i H x H'∧tn (i + 1) s2.heap∧∀ b∈fp,H' b=none) E s1) E s
 done:∀ (X:Cx),X.prog=P→X.w=w→X.K=K→X.calm=true→∀ (i:Nat) (pins:List (Addr×Obj)) (s:Shared) (σ:St) (H:Hp) (E:Value→Shared→Prop),Inv X pins σ H s→(∀ b∈fp,FpOk X pins H b)→tn i s.heap→J.stop i H→
  wpAny (model P w) X.A (pyNext (.ref it)) (fun r s1=>r=none∧Inv X pins σ H s1) E s
 self:∀ (A:Around) (i:Nat) (s:Shared) (Q:Value→Shared→Prop) (E:Value→Shared→Prop),tn i s.heap→Q (.ref it) s→wpAny (model P w) A (pyIter (.ref it)) Q E s
abbrev TI:=St→Hp→(It→Hp→Prop)→Prop
def PIE(X:Cx)(pins:List (Addr×Obj))(σ:St)(tg:Expr)(R:It→Hp→Prop)(itv:Value)(s2:Shared):Prop:=
 ∃ (it:Addr) (fp:List Addr) (tn:Nat→Heap→Prop) (J:It) (H':Hp),itv=.ref it∧Inv X pins σ H' s2∧Turn X.prog X.w X.K tg J fp it tn∧tn 0 s2.heap∧(∀ b∈fp,FpOk X pins H' b)∧R J H'
def PI(X:Cx)(tg iter:Expr)(wi:TI):Prop:=
 ∀ (pins:List (Addr×Obj)) (s:Shared) (σ:St) (H:Hp) (R:It→Hp→Prop),Inv X pins σ H s→wi σ H R→
  wpAny (model X.prog X.w) X.A (eval iter X.env) (fun v s1=>wpAny (model X.prog X.w) X.A (pyIter v) (PIE X pins σ tg R) X.xe s1) X.xe s
theorem zqU{M:Model}{A:Around}{E:Value→Shared→Prop}{s:Shared}{tg:Expr}{it:Addr}{u:Value}{o:Obj}{n:String}{vs:Array Value}{Q:Unit→Shared→Prop}(ho:s.heap.get? it=some o)(hc:o.cls=.type n)(hd:o.data=.fields vs)
  (hn : ["enumerate","zip","dict_itemiterator","dict_reverseitemiterator","odict_iterator","itertools.zip_longest","itertools.pairwise"].contains n=false) (hQ:Q () s):wpAny M A (letOwnedTupleGo tg (.ref it) u) Q E s:=by
 unfold letOwnedTupleGo
 cases tg <;> first
  | exact wpAny_pure hQ
  | (cases u <;> first
    | exact wpAny_pure hQ
    | (refine wpAny_bind (wpAny_load ho ?_)
       rw[hc,hd]
       show wpAny M A (if (["enumerate","zip","dict_itemiterator","dict_reverseitemiterator","odict_iterator","itertools.zip_longest","itertools.pairwise"].contains n && vs[0]? == some (rawInt _))=true then _ else _) Q E s
       rw[if_neg (by intro h;rw[hn,Bool.false_and] at h;cases h)]
       exact wpAny_pure hQ))
def Itl(K:PySem.W.Frag)(a:Addr):It:=
 ⟨fun i H=>∃ xs x,SqL K H a xs∧xs[i]? = some x,fun i H x H'=>H'=H∧∀ xs,SqL K H a xs→xs[i]? = some x,fun i H=>∃ xs,SqL K H a xs∧xs.length≤i⟩
def Itt(K:PySem.W.Frag)(a:Addr):It:=
 ⟨fun i H=>∃ xs x,SqT K H a xs∧xs[i]? = some x,fun i H x H'=>H'=H∧∀ xs,SqT K H a xs→xs[i]? = some x,fun i H=>∃ xs,SqT K H a xs∧xs.length≤i⟩
def Itr(lo:Int)(n:Nat):It:=⟨fun i _=>i < n,fun i H x H'=>H'=H∧x=.int (lo + i),fun i _=>n≤i⟩
theorem zoX{P:Program}{w:World}{K:PySem.W.Frag}{tg:Expr}(a it:Addr):Turn P w K tg (Itl K a) [it] it (fun i h=>h.IsListIter it a i) where
 mem:=by simp
 obj:=fun i h st b hb=>by
  have e:b=it:=by simpa using hb
  subst e
  obtain⟨o,e,c,d⟩:=st
  exact⟨o,e,fun v z=>by rw[d] at z;cases z⟩
 keep:=fun i h h' st k=>st.at fun o e=>k it (by simp) o e
 item:=by
  intro X hP hw hK hc i pins s σ H E I hf st hg
  subst hP hw hK
  obtain⟨xs,x,hq,hx⟩:=hg
  obtain⟨its,rv,p,hz⟩:=I.list hq
  obtain⟨u,hu,ru⟩:=rv.get hx
  obtain⟨f0,f1,f2,f3,f4,f5⟩:=hf it (by simp)
  refine wpAny_pyNext_list_item st p.isList (x:=u) (by simpa using hu) fun h' st' sb=>?_
  have I1:Inv X pins σ H {s with heap:=h'}:=I.turned (t':=s.toks) (fun b o hb e=>(sb.2 b hb).trans e) f0 f1 f3 f4 f5
  obtain⟨o,e,c,d⟩:=id st'
  exact⟨u,rfl,zqU (s:={s with heap:=h'}) e c d (by decide) ⟨x,H,I1,ru,⟨rfl,fun ys hy=>by rw[I.list_inj hy hq];exact hx⟩,st',fun b hb=>(hf b hb).1⟩⟩
 done:=by
  intro X hP hw hK hc i pins s σ H E I hf st hg
  subst hP hw hK
  obtain⟨xs,hq,hx⟩:=hg
  obtain⟨its,rv,p,hz⟩:=I.list hq
  obtain⟨f0,f1,f2,f3,f4,f5⟩:=hf it (by simp)
  have hl:=rv.length
  exact wpAny_pyNext_list_end (I.ok.hd hc) st p.isList (by simp;omega) fun h' eb=>⟨rfl,I.turned (t':=s.toks) (fun b o hb e=>eb b o hb e) f0 f1 f3 f4 f5⟩
 self:=fun _ _ _ _ _ st h=>wpAny_pyIter_listiter st h
theorem zod{P:Program}{w:World}{K:PySem.W.Frag}{tg:Expr}(a it:Addr):Turn P w K tg (Itt K a) [it] it (fun i h=>h.IsTupleIter it a i) where
 mem:=by simp
 obj:=fun i h st b hb=>by
  have e:b=it:=by simpa using hb
  subst e
  obtain⟨o,e,c,d⟩:=st
  exact⟨o,e,fun v z=>by rw[d] at z;cases z⟩
 keep:=fun i h h' st k=>st.at fun o e=>k it (by simp) o e
 item:=by
  intro X hP hw hK hc i pins s σ H E I hf st hg
  subst hP hw hK
  obtain⟨xs,x,hq,hx⟩:=hg
  obtain⟨its,rv,p,hz⟩:=I.tuple hq
  obtain⟨u,hu,ru⟩:=rv.get hx
  obtain⟨f0,f1,f2,f3,f4,f5⟩:=hf it (by simp)
  refine wpAny_pyNext_tuple_item st (show s.heap.IsTuple a its.toArray from p) (x:=u) (by simpa using hu) fun h' st' sb=>?_
  have I1:Inv X pins σ H {s with heap:=h'}:=I.turned (t':=s.toks) (fun b o hb e=>(sb.2 b hb).trans e) f0 f1 f3 f4 f5
  obtain⟨o,e,c,d⟩:=id st'
  exact⟨u,rfl,zqU (s:={s with heap:=h'}) e c d (by decide) ⟨x,H,I1,ru,⟨rfl,fun ys hy=>by rw[I.tuple_inj hy hq];exact hx⟩,st',fun b hb=>(hf b hb).1⟩⟩
 done:=by
  intro X hP hw hK hc i pins s σ H E I hf st hg
  subst hP hw hK
  obtain⟨xs,hq,hx⟩:=hg
  obtain⟨its,rv,p,hz⟩:=I.tuple hq
  obtain⟨f0,f1,f2,f3,f4,f5⟩:=hf it (by simp)
  have hl:=rv.length
  exact wpAny_pyNext_tuple_end (I.ok.hd hc) st (show s.heap.IsTuple a its.toArray from p) (by simp;omega) fun h' eb=>⟨rfl,I.turned (t':=s.toks) (fun b o hb e=>eb b o hb e) f0 f1 f3 f4 f5⟩
 self:=fun _ _ _ _ _ st h=>wpAny_pyIter_tupleiter st h
theorem zoe{P:Program}{w:World}{K:PySem.W.Frag}{tg:Expr}(it:Addr)(lo:Int)(n:Nat):Turn P w K tg (Itr lo n) [it] it (fun i h=>IsRangeIter h it (lo + (i:Nat) * 1) ((n:Int) - (i:Nat)) 1) where
 mem:=by simp
 obj:=fun i h st b hb=>by
  have e:b=it:=by simpa using hb
  subst e
  exact⟨_,st,fun v z=>by
   have z':Data.fields _=Data.cell v:=z
   cases z'⟩
 keep:=fun i h h' st k=>k it (by simp) _ st
 item:=by
  intro X hP hw hK hc i pins s σ H E I hf st hg
  subst hP hw hK
  obtain⟨f0,f1,f2,f3,f4,f5⟩:=hf it (by simp)
  have W:=Walks.range (prog:=X.prog) (w:=X.w) (I.ok.hd hc) it lo 1 n
  refine W.item i s _ _ hg st fun v h' tk hv st' kk=>?_
  obtain⟨t,rfl⟩:=hv
  have I1:Inv X pins σ H {s with heap:=h',toks:=tk}:=I.turned (fun b o hb e=>kk b o (by simpa using hb) e) f0 f1 f3 f4 f5
  refine⟨_,rfl,zqU (s:={s with heap:=h',toks:=tk}) (n:="range_iterator") st' rfl rfl (by decide) ⟨.int (lo + i),H,I1,⟨t,?_⟩,⟨rfl,rfl⟩,st',fun b hb=>(hf b hb).1⟩⟩
  rw[Int.mul_one]
 done:=by
  intro X hP hw hK hc i pins s σ H E I hf st hg
  subst hP hw hK
  obtain⟨f0,f1,f2,f3,f4,f5⟩:=hf it (by simp)
  exact wpAny_pyNext_range_end (I.ok.hd hc) st (by have:n≤i:=hg;omega) fun h' eb=>⟨rfl,I.turned (t':=s.toks) (fun b o hb e=>eb b o hb e) f0 f1 f3 f4 f5⟩
 self:=fun _ _ _ _ _ st h=>wpAny_pyIter_rangeiter st h
end L2
namespace L2
open PySem PySem.Spec PyProof.Rows
section
variable {X:Cx}{tg:Expr}
theorem zqV{pins:List (Addr×Obj)}{σ:St}{H:Hp}{s:Shared}{R:It→Hp→Prop}{E:Value→Shared→Prop}{lo hi:Int}{t u v:Tok}{tk:Nat}(I:Inv X pins σ H s)(h1 : -(2 ^ 62)≤lo)(h2:lo < 2 ^ 62)(h3 : -(2 ^ 62)≤hi)(h4:hi < 2 ^ 62)
  (q:R (Itr lo (hi - lo).toNat) H):wpAny (model X.prog X.w) X.A (pyIter (.ref s.heap.objs.size)) (PIE X pins σ tg R) E {s with heap:=s.heap.push {cls:=.type "range",data:=.fields #[.int lo t,.int hi u,.int 1 v]},toks:=tk}:=by
 refine wpAny_pyIter_range (IsRange.new ..) (small_one h1 h2 h3 h4) ?_
 have I1:Inv X pins σ H {s with heap:=s.heap.push {cls:=.type "range",data:=.fields #[.int lo t,.int hi u,.int 1 v]},toks:=tk}:=I.kept fun b o e=>Heap.get?_push_of_some _ e
 refine⟨(s.heap.push {cls:=.type "range",data:=.fields #[.int lo t,.int hi u,.int 1 v]}).objs.size,[(s.heap.push {cls:=.type "range",data:=.fields #[.int lo t,.int hi u,.int 1 v]}).objs.size],_,_,H,rfl,
  I1.kept (t':=tk) fun b o e=>Heap.get?_push_of_some _ e,zoe _ lo (hi - lo).toNat,?_,fun b hb=>?_,q⟩
 ·have e1:lo + ((0:Nat):Int) * 1=lo:=by simp
  have e2:(((hi - lo).toNat:Nat):Int) - ((0:Nat):Int)=Builtin.Range.rangeSize lo hi 1:=by rw[rangeSize_one];split <;> omega
  show IsRangeIter _ _ (lo + ((0:Nat):Int) * 1) ((((hi - lo).toNat:Nat):Int) - ((0:Nat):Int)) 1
  rw[e1,e2]
  exact Heap.get?_push_size _ rfl
 ·have e:b=(s.heap.push {cls:=.type "range",data:=.fields #[.int lo t,.int hi u,.int 1 v]}).objs.size:=by simpa using hb
  subst e
  exact I1.fpOk (Nat.le_refl _) (I1.hok.fresh (Nat.le_refl _))
def zxg(ta:TA):TI:=fun σ H R=>ta σ H fun vs H1=>∃ j:Int,vs=[.int j]∧-(2 ^ 62)≤j∧j < 2 ^ 62∧R (Itr 0 j.toNat) H1
theorem zoY{a:Expr}{ta:TA}{p pos:Pos}(hg:Gl X "range")(hm:X.mg "range" = none)(ha:PA X [a] ta)(hs:starEach [a] X.env=[(false,eval a X.env)]:=by rfl):PI X tg (.Call (.Name "range" p) [a] [] pos) (zxg ta):=by
 intro pins s σ H R I h
 refine Call_ (zkW I hg hm boot_range (PyProof.Rows.callWith_type1 (thn (ha pos pins s σ H _ I h) fun us s1 ⟨vs,H1,I1,r1,q1⟩=>?_) hs rfl))
 obtain⟨j,e,q1,q2,q⟩:=q1
 subst e
 cases r1 with
 | cons r rr=>
  cases rr
  obtain⟨t,rfl⟩:=r
  exact call_range_1 (zqV I1 (by omega) (by omega) q1 q2 (by simpa using q))
def tFor(wi:TI)(g:TG)(tb:TS):TS:=fun D σ H=>wi σ H fun J H1=>∃ W:Nat→Nat→St→Hp→Prop,(∃ m,W 0 m σ H1)∧∀ i m σ H,W i m σ H→
 (J.stop i H∧D.nx σ H)∨(J.go i H∧∃ N:St→Hp→Prop,(∀ σ' H',N σ' H'→∃ m',m' < m∧W (i + 1) m' σ' H')∧∀ x H',J.yld i H x H'→g x σ H' fun σ2 H2=>tb {D with nx:=N,ct:=N,bk:=D.nx} σ2 H2)
def zkX(fp:List Addr)(h:Heap):List (Addr×Obj):=fp.filterMap fun b=>(h.get? b).map fun o=>(b,o)
theorem zfy{fp:List Addr}{h:Heap}{b:Addr}{o:Obj}(hb:b∈fp)(e:h.get? b=some o):(b,o)∈zkX fp h:=List.mem_filterMap.mpr ⟨b,hb,by rw[e];rfl⟩
theorem zoZ{fp:List Addr}{h:Heap}{p:Addr×Obj}(hp:p∈zkX fp h):p.1∈fp∧h.get? p.1=some p.2:=by
 obtain⟨b,hb,e⟩:=List.mem_filterMap.mp hp
 cases q:h.get? b with
 | none=>rw[q] at e;cases e
 | some o=>
  rw[q] at e
  have e':(b,o)=p:=Option.some.inj e
  subst e'
  exact⟨hb,q⟩
theorem Inv.pinned{pins:List (Addr×Obj)}{σ:St}{H:Hp}{s:Shared}{fp:List Addr}(I:Inv X pins σ H s)(hf:∀ b∈fp,FpOk X pins H b)(ho:∀ b∈fp,∃ o,s.heap.get? b=some o∧∀ v,o.data≠.cell v):Inv X (pins ++ zkX fp s.heap) σ H s:=
 I.pins_of fun p hp=>(List.mem_append.mp hp).elim (fun z=>I.pin p (List.mem_append_right _ z)) fun z=>by
  obtain⟨hb,e⟩:=zoZ z
  obtain⟨f0,f1,f2,_⟩:=hf p.1 hb
  obtain⟨o,e',d⟩:=ho p.1 hb
  rw[e] at e';cases e'
  exact⟨e,f0,f1,f2,d⟩
theorem Inv.unpinned{pins pl:List (Addr×Obj)}{σ:St}{H:Hp}{s:Shared}(I:Inv X (pins ++ pl) σ H s):Inv X pins σ H s:=I.pins_of fun p hp=>I.pin p (List.mem_append_right _ (List.mem_append_left _ hp))
theorem zvn{iter:Expr}{body:List Stmt}{wi:TI}{g:TG}{tb:TS}{pos:Pos}(hp:PassesOwn (model X.prog X.w) X.A X.env X.xe)(hc:X.calm=true)(hi:PI X tg iter wi)(hg:PG X tg g)(hb:PSs X body tb)
  (hs:∀ x,foldedSetIterable iter X.env x=pure x:=by intro _;rfl):PS X (.For tg iter body [] pos) (tFor wi g tb):=by
 intro pins s σ H D I h
 refine wpAny_For (thn (hi pins s σ H _ I h) fun v s1 h1=>thn h1 fun itv s2 h2=>?_) hs
 obtain⟨it,fp,tn,J,H2,e,I2,T,st2,f2,W,⟨m0,w0⟩,turn⟩:=h2
 subst e
 have stat:∀ {H':Hp},(∀ b∈fp,H' b=none)→∀ b∈fp,FpOk X pins H' b:=fun hn b hb=>⟨hn b hb,(f2 b hb).2⟩
 refine codeAny_forLoop_any (fun n s'=>∃ i σ' H',Inv X pins σ' H' s'∧tn i s'.heap∧(∀ b∈fp,H' b=none)∧W i n σ' H') ?_ m0 ⟨0,σ,H2,I2,st2,fun b hb=>(f2 b hb).1,w0⟩
 rintro n s3 ⟨i,σ3,H3,I3,st3,fr3,w3⟩
 rcases turn i n σ3 H3 w3 with⟨stop,qn⟩ | ⟨go,N,hN,step⟩
 ·refine wpAny_passesOwn hp (thn (T.done X rfl rfl rfl hc i pins s3 σ3 H3 X.xe I3 (stat fr3) st3 stop) fun r s4 ⟨hr,I4⟩=>?_)
  subst hr
  exact wpAny_execs_nil ⟨σ3,H3,I4,qn⟩
 ·refine wpAny_passesOwn hp (thn (T.item X rfl rfl rfl hc i pins s3 σ3 H3 X.xe I3 (stat fr3) st3 go) fun r s4 ⟨u,hr,h4⟩=>?_)
  subst hr
  refine wpAny_passesOwn hp (thn h4 fun _ s5 ⟨x,H5,I5,r5,y5,st5,fr5⟩=>?_)
  have I5':=I5.pinned (stat fr5) (T.obj _ _ st5)
  refine wpAny_passesOwn hp (thn (hg _ s5 σ3 H5 x u _ I5' r5 (step x H5 y5)) fun _ s6 ⟨σ6,H6,I6,q6⟩=>?_)
  refine wpAny_passesOwn hp (thn (hb _ s6 σ6 H6 _ I6 q6) fun f s7 q7=>?_)
  have again:∀ {σ7:St} {H7:Hp},Inv X (pins ++ zkX fp s5.heap) σ7 H7 s7→N σ7 H7→∃ m,m < n∧∃ i σ' H',Inv X pins σ' H' s7∧tn i s7.heap∧(∀ b∈fp,H' b=none)∧W i m σ' H':=fun {σ7 H7} I7 n7=>by
   obtain⟨m',hm,w7⟩:=hN σ7 H7 n7
   refine⟨m',hm,i + 1,σ7,H7,I7.unpinned,T.keep _ _ _ st5 fun b hb o e=>(I7.pin (b,o) (List.mem_append_right _ (List.mem_append_right _ (zfy hb e)))).1,fun b hb=>?_,w7⟩
   obtain⟨o,e,d⟩:=T.obj _ _ st5 b hb
   exact(I7.pin (b,o) (List.mem_append_right _ (List.mem_append_right _ (zfy hb e)))).2.1
  cases f with
  | next=>obtain⟨σ7,H7,I7,n7⟩:=q7;exact again I7 n7
  | cont=>obtain⟨σ7,H7,I7,n7⟩:=q7;exact again I7 n7
  | brk=>obtain⟨σ7,H7,I7,q7⟩:=q7;exact⟨σ7,H7,I7.unpinned,q7⟩
  | ret v=>obtain⟨x7,σ7,H7,I7,r7,q7⟩:=q7;exact⟨x7,σ7,H7,I7.unpinned,r7,q7⟩
end
end L2
namespace L2
open PySem PySem.Spec PyProof.Rows
abbrev R2:=V→V→Hp→VK→Prop
def OpR(X:Cx)(f:Value→Value→Sem Value)(r:R2):Prop:=
 ∀ (pins:List (Addr×Obj)) (s:Shared) (σ:St) (H:Hp) (x y:V) (v u:Value) (Q:VK),Inv X pins σ H s→RelV x v→RelV y u→r x y H Q→
  wpAny (model X.prog X.w) X.A (f v u) (EP X pins σ Q) X.xe s
def UnR(X:Cx)(f:Value→Sem Value)(r:V→Hp→VK→Prop):Prop:=
 ∀ (pins:List (Addr×Obj)) (s:Shared) (σ:St) (H:Hp) (x:V) (v:Value) (Q:VK),Inv X pins σ H s→RelV x v→r x H Q→
  wpAny (model X.prog X.w) X.A (f v) (EP X pins σ Q) X.xe s
def zbx(X:Cx)(f:Value)(r:List V→Hp→VK→Prop):Prop:=
 ∀ (pins:List (Addr×Obj)) (s:Shared) (σ:St) (H:Hp) (xs:List V) (us:List Value) (Q:VK),Inv X pins σ H s→Vals xs us→r xs H Q→
  wpAny (model X.prog X.w) X.A (call f us) (EP X pins σ Q) X.xe s
def TruR(X:Cx)(r:V→Hp→(Bool→Hp→Prop)→Prop):Prop:=
 ∀ (pins:List (Addr×Obj)) (s:Shared) (σ:St) (H:Hp) (x:V) (v:Value) (Q:Bool→Hp→Prop),Inv X pins σ H s→RelV x v→r x H Q→
  wpAny (model X.prog X.w) X.A (truthy v) (TP X pins σ Q) X.xe s
def tOp(r:R2)(ta tb:TE):TE:=fun σ H Q=>ta σ H fun x H1=>tb σ H1 fun y H2=>r x y H2 Q
def tUn(r:V→Hp→VK→Prop)(ta:TE):TE:=fun σ H Q=>ta σ H fun x H1=>r x H1 Q
def rI(C:Int→Int→Prop)(g:Int→Int→V):R2:=fun x y H Q=>∃ i j,x=.int i∧y=.int j∧C i j∧Q (g i j) H
def rI0(g:Int→Int→V):R2:=fun x y H Q=>∃ i j,x=.int i∧y=.int j∧Q (g i j) H
def rU(g:Int→V):V→Hp→VK→Prop:=fun x H Q=>∃ i,x=.int i∧Q (g i) H
section
variable {X:Cx}{a b c:Expr}{ta tb tc:TE}{pos:Pos}
theorem binT(ha:PE X a ta)(hb:PE X b tb){pins:List (Addr×Obj)}{s:Shared}{σ:St}{H:Hp}{R:V→V→Hp→Prop}(I:Inv X pins σ H s)
  (h:ta σ H fun x H1=>tb σ H1 fun y H2=>R x y H2) {Q:Value→Shared→Prop} {f:Value→Value→Sem Value}
  (hf:∀ v u s2 x y H2,Inv X pins σ H2 s2→RelV x v→RelV y u→R x y H2→wpAny (model X.prog X.w) X.A (f v u) Q X.xe s2) :
  wpAny (model X.prog X.w) X.A (eval a X.env) (fun v s₁=>wpAny (model X.prog X.w) X.A (eval b X.env) (fun u s₂=>wpAny (model X.prog X.w) X.A (f v u) Q X.xe s₂) X.xe s₁) X.xe s:=by
 refine thn (ha pins s σ H _ I h) fun v s1 ⟨x,H1,I1,r1,q1⟩=>?_
 refine thn (hb pins s1 σ H1 _ I1 q1) fun u s2 ⟨y,H2,I2,r2,q2⟩=>?_
 exact hf v u s2 x y H2 I2 r1 r2 q2
theorem zxh{op:Operator}{r:R2}(ho:OpR X (binaryOp op) r)(ha:PE X a ta)(hb:PE X b tb):PE X (.BinOp a op b pos) (tOp r ta tb):=by
 intro pins s σ H Q I h
 exact wpAny_BinOp (binT ha hb I h fun v u s2 x y H2 I2 rx ry q=>ho pins s2 σ H2 x y v u Q I2 rx ry q)
theorem zxi{op:UnaryOp}{r:V→Hp→VK→Prop}(ho:UnR X (unaryOp op) r)(ha:PE X a ta):PE X (.UnaryOp op a pos) (tUn r ta):=by
 intro pins s σ H Q I h
 exact UnaryOp_ (thn (ha pins s σ H _ I h) fun v s1 ⟨x,H1,I1,r1,q1⟩=>ho pins s1 σ H1 x v Q I1 r1 q1)
theorem opI{f:Value→Value→Sem Value}{C:Int→Int→Prop}{g:Int→Int→Int}
  (rule:∀ (i j:Int) (t u:Tok) (s:Shared) (Q:Value→Shared→Prop) (E:Value→Shared→Prop),C i j→Q (.int (g i j) s.toks) {s with toks:=s.toks + 1}→wpAny (model X.prog X.w) X.A (f (.int i t) (.int j u)) Q E s) :
  OpR X f (rI C fun i j=>.int (g i j)):=by
 intro pins s σ H x y v u Q I rx ry h
 obtain⟨i,j,rfl,rfl,hc,q⟩:=h
 obtain⟨t,rfl⟩:=rx
 obtain⟨t',rfl⟩:=ry
 exact rule i j t t' s _ _ hc ⟨.int (g i j),H,I.tok _,⟨_,rfl⟩,q⟩
theorem opI0{f:Value→Value→Sem Value}{g:Int→Int→Int}
  (rule:∀ (i j:Int) (t u:Tok) (s:Shared) (Q:Value→Shared→Prop) (E:Value→Shared→Prop),Q (.int (g i j) s.toks) {s with toks:=s.toks + 1}→wpAny (model X.prog X.w) X.A (f (.int i t) (.int j u)) Q E s) :
  OpR X f (rI0 fun i j=>.int (g i j)):=by
 intro pins s σ H x y v u Q I rx ry h
 obtain⟨i,j,rfl,rfl,q⟩:=h
 obtain⟨t,rfl⟩:=rx
 obtain⟨t',rfl⟩:=ry
 exact rule i j t t' s _ _ ⟨.int (g i j),H,I.tok _,⟨_,rfl⟩,q⟩
theorem opB0{f:Value→Value→Sem Value}{g:Int→Int→Bool}
  (rule:∀ (i j:Int) (t u:Tok) (s:Shared) (Q:Value→Shared→Prop) (E:Value→Shared→Prop),Q (.bool (g i j)) s→wpAny (model X.prog X.w) X.A (f (.int i t) (.int j u)) Q E s) :
  OpR X f (rI0 fun i j=>.bl (g i j)):=by
 intro pins s σ H x y v u Q I rx ry h
 obtain⟨i,j,rfl,rfl,q⟩:=h
 obtain⟨t,rfl⟩:=rx
 obtain⟨t',rfl⟩:=ry
 exact rule i j t t' s _ _ ⟨.bl (g i j),H,I,rfl,q⟩
def CPow(i j:Int):Prop:=0≤j∧j≤1000000∧i.natAbs < 2 ^ 64
def CMul(i j:Int):Prop:=(-(2 ^ 64) < i∧i < 2 ^ 64)∨(-(2 ^ 64) < j∧j < 2 ^ 64)
theorem CMul.ok{i j:Int}(h:CMul i j):IntMulOk i j:=by
 rcases h with⟨h1,h2⟩ | ⟨h1,h2⟩
 ·exact .of_left (intBits_le_64 h1 h2)
 ·exact .of_right (intBits_le_64 h1 h2)
theorem zvo:OpR X (binaryOp .Add) (rI0 fun i j=>.int (i + j)):=opI0 fun _ _ _ _ _ _ _ q=>add_int q
theorem zvp:OpR X (binaryOp .Sub) (rI0 fun i j=>.int (i - j)):=opI0 fun _ _ _ _ _ _ _ q=>sub_int q
theorem zvq:OpR X (binaryOp .Mult) (rI CMul fun i j=>.int (i * j)):=opI fun _ _ _ _ _ _ _ hc q=>mul_int q hc.ok
theorem zvr:OpR X (binaryOp .Mod) (rI (fun _ j=>0 < j) fun i j=>.int (i % j)):=opI fun i j _ _ _ _ _ hc q=>by
 have h1:(0:Int) < j:=hc
 exact mod_int' (by omega) (by rw[Int.fmod_eq_emod_of_nonneg i (by omega)];exact q)
theorem zvs:OpR X (binaryOp .Pow) (rI CPow fun i j=>.int (i ^ j.toNat)):=opI fun _ _ _ _ _ _ _ hc q=>pow_int_small hc.1 hc.2.1 hc.2.2 q
theorem unI{f:Value→Sem Value}{g:Int→Int}
  (rule:∀ (i:Int) (t:Tok) (s:Shared) (Q:Value→Shared→Prop) (E:Value→Shared→Prop),Q (.int (g i) s.toks) {s with toks:=s.toks + 1}→wpAny (model X.prog X.w) X.A (f (.int i t)) Q E s) :
  UnR X f (rU fun i=>.int (g i)):=by
 intro pins s σ H x v Q I rx h
 obtain⟨i,rfl,q⟩:=h
 obtain⟨t,rfl⟩:=rx
 exact rule i t s _ _ ⟨.int (g i),H,I.tok _,⟨_,rfl⟩,q⟩
theorem zvt:UnR X (unaryOp .USub) (rU fun i=>.int (-i)):=unI fun _ _ _ _ _ q=>neg_int q
end
def scal:V→V→Bool
 | .non,.non=>true | .non,.int _=>true | .int _,.non=>true | .non,.bl _=>true | .bl _,.non=>true | .non,.str _=>true | .str _,.non=>true
 | .int _,.int _=>true | .bl _,.bl _=>true | .str _,.str _=>true | .byt _,.byt _=>true
 | .int _,.str _=>true | .str _,.int _=>true | .bl _,.str _=>true | .str _,.bl _=>true
 | _,_=>false
def rEq:R2:=fun x y H Q=>scal x y=true∧Q (.bl (decide (x=y))) H
def rNe:R2:=fun x y H Q=>scal x y=true∧Q (.bl (!decide (x=y))) H
theorem zo0{i j:Int}:decide (V.int i=V.int j)=(i == j):=by
 rw[Bool.eq_iff_iff]
 simp
theorem zsr{i j:Bool}:decide (V.bl i=V.bl j)=(i == j):=by
 rw[Bool.eq_iff_iff]
 simp
theorem zo1{i j:Str}:decide (V.str i=V.str j)=(i == j):=by
 rw[Bool.eq_iff_iff]
 simp
theorem zo2{i j:Array UInt8}:decide (V.byt i=V.byt j)=(i.toList == j.toList):=by
 rw[Bool.eq_iff_iff]
 cases i
 cases j
 simp
section
variable {X:Cx}{a b c:Expr}{ta tb tc:TE}{pos:Pos}
theorem zaK{pins:List (Addr×Obj)}{σ:St}{H:Hp}{s:Shared}{Q:VK}{k k':Bool}(I:Inv X pins σ H s)(q:Q (.bl k) H)(e:k=k'):EP X pins σ Q (.bool k') s:=by
 subst e
 exact⟨.bl k,H,I,rfl,q⟩
theorem zs6:OpR X (compareOp .Eq) rEq:=by
 intro pins s σ H x y v u Q I rx ry h
 obtain⟨hs,q⟩:=h
 cases x with
 | non=>
  cases rx
  cases y with
  | non=>cases ry;exact PySem.EqNone.eq_none_none (zaK I q (by simp))
  | bl j=>cases ry;exact PySem.EqNone.eq_none_bool (zaK I q (by simp))
  | int j=>obtain⟨t',rfl⟩:=ry;exact PySem.EqNone.eq_none_int (zaK I q (by simp))
  | str j=>obtain⟨t',rfl⟩:=ry;exact PySem.EqNone.eq_none_str (zaK I q (by simp))
  | _=>exact absurd (show false=true from hs) Bool.false_ne_true
 | bl i=>
  cases rx
  cases y with
  | non=>cases ry;exact PySem.EqNone.eq_bool_none (zaK I q (by simp))
  | bl j=>cases ry;exact eq_bool (zaK I q zsr)
  | str j=>obtain⟨t',rfl⟩:=ry;exact PySem.EqMixed.eq_bool_str (zaK I q (by simp))
  | _=>exact absurd (show false=true from hs) Bool.false_ne_true
 | int i=>
  obtain⟨t,rfl⟩:=rx
  cases y with
  | non=>cases ry;exact PySem.EqNone.eq_int_none (zaK I q (by simp))
  | int j=>obtain⟨t',rfl⟩:=ry;exact eq_int (zaK I q zo0)
  | str j=>obtain⟨t',rfl⟩:=ry;exact PySem.EqMixed.eq_int_str (zaK I q (by simp))
  | _=>exact absurd (show false=true from hs) Bool.false_ne_true
 | str i=>
  obtain⟨t,rfl⟩:=rx
  cases y with
  | non=>cases ry;exact PySem.EqNone.eq_str_none (zaK I q (by simp))
  | bl j=>cases ry;exact PySem.EqMixed.eq_str_bool (zaK I q (by simp))
  | int j=>obtain⟨t',rfl⟩:=ry;exact PySem.EqMixed.eq_str_int (zaK I q (by simp))
  | str j=>obtain⟨t',rfl⟩:=ry;exact eq_str (zaK I q zo1)
  | _=>exact absurd (show false=true from hs) Bool.false_ne_true
 | byt i=>
  obtain⟨t,rfl⟩:=rx
  cases y with
  | byt j=>obtain⟨t',rfl⟩:=ry;exact PySem.W.eq_bytes (zaK I q zo2)
  | _=>exact absurd (show false=true from hs) Bool.false_ne_true
 | _=>cases y <;> exact absurd (show false=true from hs) Bool.false_ne_true
theorem zs7:OpR X (compareOp .NotEq) rNe:=by
 intro pins s σ H x y v u Q I rx ry h
 obtain⟨hs,q⟩:=h
 cases x with
 | non=>
  cases rx
  cases y with
  | non=>cases ry;exact PySem.EqNone.ne_none_none (zaK I q (by simp))
  | bl j=>cases ry;exact PySem.EqNone.ne_none_bool (zaK I q (by simp))
  | int j=>obtain⟨t',rfl⟩:=ry;exact PySem.EqNone.ne_none_int (zaK I q (by simp))
  | str j=>obtain⟨t',rfl⟩:=ry;exact PySem.EqNone.ne_none_str (zaK I q (by simp))
  | _=>exact absurd (show false=true from hs) Bool.false_ne_true
 | bl i=>
  cases rx
  cases y with
  | non=>cases ry;exact PySem.EqNone.ne_bool_none (zaK I q (by simp))
  | bl j=>cases ry;exact ne_bool (zaK I q (congrArg not zsr))
  | str j=>obtain⟨t',rfl⟩:=ry;exact PySem.EqMixed.ne_bool_str (zaK I q (by simp))
  | _=>exact absurd (show false=true from hs) Bool.false_ne_true
 | int i=>
  obtain⟨t,rfl⟩:=rx
  cases y with
  | non=>cases ry;exact PySem.EqNone.ne_int_none (zaK I q (by simp))
  | int j=>obtain⟨t',rfl⟩:=ry;exact ne_int (zaK I q (congrArg not zo0))
  | str j=>obtain⟨t',rfl⟩:=ry;exact PySem.EqMixed.ne_int_str (zaK I q (by simp))
  | _=>exact absurd (show false=true from hs) Bool.false_ne_true
 | str i=>
  obtain⟨t,rfl⟩:=rx
  cases y with
  | non=>cases ry;exact PySem.EqNone.ne_str_none (zaK I q (by simp))
  | bl j=>cases ry;exact PySem.EqMixed.ne_str_bool (zaK I q (by simp))
  | int j=>obtain⟨t',rfl⟩:=ry;exact PySem.EqMixed.ne_str_int (zaK I q (by simp))
  | str j=>obtain⟨t',rfl⟩:=ry;exact ne_str (zaK I q (congrArg not zo1))
  | _=>exact absurd (show false=true from hs) Bool.false_ne_true
 | byt i=>
  obtain⟨t,rfl⟩:=rx
  cases y with
  | byt j=>obtain⟨t',rfl⟩:=ry;exact PySem.W.ne_bytes (zaK I q (congrArg not zo2))
  | _=>exact absurd (show false=true from hs) Bool.false_ne_true
 | _=>cases y <;> exact absurd (show false=true from hs) Bool.false_ne_true
theorem zxj:OpR X (compareOp .Lt) (rI0 fun i j=>.bl (decide (i < j))):=opB0 fun _ _ _ _ _ _ _ q=>lt_int q
theorem zxk:OpR X (compareOp .Gt) (rI0 fun i j=>.bl (decide (j < i))):=opB0 fun _ _ _ _ _ _ _ q=>gt_int q
theorem zo3:OpR X (compareOp .Lt) (fun x y H Q=>∃ i j,x=.str i∧y=.str j∧Q (.bl (decide (i.cps.toList < j.cps.toList))) H):=by
 intro pins s σ H x y v u Q I rx ry h
 obtain⟨i,j,rfl,rfl,q⟩:=h
 obtain⟨t,rfl⟩:=rx
 obtain⟨t',rfl⟩:=ry
 exact lt_str (zaK I q rfl)
theorem zo4:OpR X (compareOp .In) (fun x y H Q=>∃ i j,x=.str i∧y=.str j∧Q (.bl (!(Builtin.Str.occurrences j i 0 j.length 1).isEmpty)) H):=by
 intro pins s σ H x y v u Q I rx ry h
 obtain⟨i,j,rfl,rfl,q⟩:=h
 obtain⟨t,rfl⟩:=rx
 obtain⟨t',rfl⟩:=ry
 exact in_str (zaK I q rfl)
theorem zs8:OpR X (compareOp .IsNot) (fun x y H Q=>y=.non∧Q (.bl (!decide (x=.non))) H):=by
 intro pins s σ H x y v u Q I rx ry h
 obtain⟨rfl,q⟩:=h
 cases ry
 refine isnot_none_gen (zaK I q ?_)
 cases x <;> first
  | (cases rx;rfl)
  | (obtain⟨t,rfl⟩:=rx;rfl)
theorem zkY:OpR X (compareOp .NotIn) (fun x y H Q=>∃ i j,x=.str i∧y=.str j∧Q (.bl (!(!(Builtin.Str.occurrences j i 0 j.length 1).isEmpty))) H):=by
 intro pins s σ H x y v u Q I rx ry h
 obtain⟨i,j,rfl,rfl,q⟩:=h
 obtain⟨t,rfl⟩:=rx
 obtain⟨t',rfl⟩:=ry
 exact notIn_str (zaK I q rfl)
theorem zss(b:Expr){op:CmpOp}(h:op≠.In:=by decide)(h2:op≠.NotIn:=by decide):behindInMarks op b=false:=by
 have e1:(op == CmpOp.In)=false:=by cases op <;> first | rfl | exact absurd rfl h
 have e2:(op == CmpOp.NotIn)=false:=by cases op <;> first | rfl | exact absurd rfl h2
 cases b <;> simp[behindInMarks,e1,e2]
theorem zs9{op:CmpOp}{r:R2}(ho:OpR X (compareOp op) r)(ha:PE X a ta)(hb:PE X b tb)(hm:behindInMarks op b=false):PE X (.Compare a [op] [b] pos) (tOp r ta tb):=by
 intro pins s σ H Q I h
 exact wpAny_Compare1 (binT ha hb I h fun v u s2 x y H2 I2 rx ry q=>ho pins s2 σ H2 x y v u Q I2 rx ry q) hm
def zxl(t:TE):TT:=fun σ H Q=>t σ H fun x H'=>∃ k,x=.bl k∧Q k H'
theorem zta{op:CmpOp}{r:R2}(ho:OpR X (compareOp op) r)(ha:PE X a ta)(hb:PE X b tb)(hm:behindInMarks op b=false):PT X (.Compare a [op] [b] pos) (zxl (tOp r ta tb)):=by
 intro pins s σ H Q I h
 refine wpAny_isTrue_Compare1 (thn (ha pins s σ H _ I h) fun v s1 ⟨x,H1,I1,r1,q1⟩=>thn (hb pins s1 σ H1 _ I1 q1) fun u s2 ⟨y,H2,I2,r2,q2⟩=>
  thn (ho pins s2 σ H2 x y v u _ I2 r1 r2 q2) fun c s3 ⟨z,H3,I3,r3,k,e,q3⟩=>?_) hm
 subst e
 cases r3
 exact wpAny_truthy_bool ⟨H3,I3,q3⟩
def TruV(K:PySem.W.Frag)(x:V)(H:Hp)(k:Bool):Prop:=
 match x with
 | .non=>k=false
 | .bl b=>k=b
 | .int i=>k=(i != 0)
 | .str y=>y.length≤sizeLine∧k=((y.length:Int) != 0)
 | .byt y=>y.size≤sizeLine∧k=((y.size:Int) != 0)
 | .ref p=>(∃ xs,SqL K H p xs∧k = !xs.isEmpty)∨(∃ xs,SqT K H p xs∧k = !xs.isEmpty)∨∃ kvs,H p=some (.dK kvs)∧k = !kvs.isEmpty
 | _=>False
theorem zof{κ:Type}{kvs:List (κ×V)}{vs:List (κ×Value)}(r:KV kvs vs):(!vs.isEmpty) = !kvs.isEmpty:=by
 cases r <;> rfl
theorem zjw{xs:List V}{its:List Value}(r:Vals xs its):(!its.toArray.isEmpty) = !xs.isEmpty:=by
 cases r <;> simp
theorem zig:(sizeLine:Nat) < 2 ^ 63:=by rw[sizeLine_eq];decide
theorem zvu:TruR X (fun x H Q=>∃ k,TruV X.K x H k∧Q k H):=by
 intro pins s σ H x v Q I rx h
 obtain⟨k,e,q⟩:=h
 have hl:=zig
 have hs:sizeLine=16777216:=sizeLine_eq
 cases x with
 | non=>
  cases rx
  have e':k=false:=e
  subst e'
  exact truthy_none ⟨H,I,q⟩
 | bl b=>
  cases rx
  have e':k=b:=e
  subst e'
  exact wpAny_truthy_bool ⟨H,I,q⟩
 | int i=>
  obtain⟨t,rfl⟩:=rx
  have e':k=(i != 0):=e
  subst e'
  exact PySem.P.truthy_int ⟨H,I,q⟩
 | str y=>
  obtain⟨t,rfl⟩:=rx
  obtain⟨hy,e'⟩:y.length≤sizeLine∧k=((y.length:Int) != 0):=e
  subst e'
  exact PySem.P.truthy_str (by omega) ⟨H,I.tok _,q⟩
 | byt y=>
  obtain⟨t,rfl⟩:=rx
  obtain⟨hy,e'⟩:y.size≤sizeLine∧k=((y.size:Int) != 0):=e
  subst e'
  exact PySem.W.truthy_bytes (by omega) ⟨H,I.tok _,q⟩
 | ref p=>
  cases rx
  have e':(∃ xs,SqL X.K H p xs∧k = !xs.isEmpty)∨(∃ xs,SqT X.K H p xs∧k = !xs.isEmpty)∨∃ kvs,H p=some (.dK kvs)∧k = !kvs.isEmpty:=e
  rcases e' with⟨xs,hx,e'⟩ | ⟨xs,hx,e'⟩ | ⟨kvs,hx,e'⟩
  ·subst e'
   obtain⟨its,r,pl,hz⟩:=I.list hx
   have hlen:=r.length
   exact wpAny_truthy_list pl.isList (by simp only[List.size_toArray];omega) ⟨H,I.tok _,by rw[zjw r];exact q⟩
  ·subst e'
   obtain⟨its,r,pl,hz⟩:=I.tuple hx
   have hlen:=r.length
   exact truthy_tuple pl (by simp only[List.size_toArray];omega) ⟨H,I.tok _,by rw[zjw r];exact q⟩
  ·subst e'
   obtain⟨hz,hS,vs,r,m⟩:kvs.length≤sizeLine∧(p == sysModules)=false∧∃ vs,KV kvs vs∧s.heap.DictOf (zaq X.prog X.w) p vs:=I.hok p _ hx
   have hlen:kvs.length=vs.length:=Paired.length r
   exact wpAny_truthy_dict hS m (by omega) ⟨H,I.tok _,by rw[zof r];exact q⟩
 | _=>exact(show False from e).elim
theorem zqW(ha:PE X a ta)(he:∀ whole,isTrue a X.env whole=(do let v ←whole;standAt a.pos;holding [v] (truthy v))) :
  PT X a (fun σ H Q=>ta σ H fun x H'=>∃ k,TruV X.K x H' k∧Q k H'):=by
 intro pins s σ H Q I h
 exact isTrue_plain (thn (ha pins s σ H _ I h) fun v s1 ⟨x,H1,I1,r1,q1⟩=>zvu pins s1 σ H1 x v Q I1 r1 q1) (he _)
theorem zog:OpR X (binaryOp .Add) (fun x y H Q=>∃ i j,x=.str i∧y=.str j∧i.length + j.length≤sizeLine∧Q (.str (i ++ j)) H):=by
 intro pins s σ H x y v u Q I rx ry h
 obtain⟨i,j,rfl,rfl,hz,q⟩:=h
 obtain⟨t,rfl⟩:=rx
 obtain⟨t',rfl⟩:=ry
 exact add_str (fun t' tk=>⟨.str (i ++ j),H,I.tok _,⟨_,rfl⟩,q⟩) hz
theorem zf4{x:V}{us:List Value}(r:Vals [x] us):∃ u,us=[u]∧RelV x u:=by
 cases r with
 | cons r1 r2=>cases r2;exact⟨_,rfl,r1⟩
theorem zoh{x y:V}{us:List Value}(r:Vals [x,y] us):∃ u w',us=[u,w']∧RelV x u∧RelV y w':=by
 cases r with
 | cons r1 r2=>
  cases r2 with
  | cons r3 r4=>cases r4;exact⟨_,_,rfl,r1,r3⟩
theorem zqX:zbx X (.builtin "abs") (fun xs H Q=>∃ i,xs=[.int i]∧Q (.int (if i < 0 then -i else i)) H):=by
 intro pins s σ H xs us Q I r h
 obtain⟨i,rfl,q⟩:=h
 obtain⟨u,rfl,t,rfl⟩:=zf4 r
 exact call_abs_int fun u tk=>⟨.int (if i < 0 then -i else i),H,I.tok _,⟨_,rfl⟩,q⟩
theorem zo5(hc:X.calm=true):zbx X (.builtin "min") (fun xs H Q=>∃ i j,xs=[.int i,.int j]∧Q (.int (if j < i then j else i)) H):=by
 intro pins s σ H xs us Q I r h
 obtain⟨i,j,rfl,q⟩:=h
 obtain⟨u,w',rfl,⟨t,rfl⟩,⟨t',rfl⟩⟩:=zoh r
 refine min_two_ints (I.ok.hd hc) fun h' tk k=>⟨_,H,I.kept k,?_,q⟩
 by_cases hj:j < i
 ·rw[if_pos hj,if_pos hj];exact⟨_,rfl⟩
 ·rw[if_neg hj,if_neg hj];exact⟨_,rfl⟩
end
end L2
namespace L2
open PySem PySem.Spec PyProof.Rows
structure ObjM(h:Heap)(x dx C:Addr)(mA:Str→Option Value):Prop where
 obj:h.get? x=some (PySem.W.instObj C dx)
 ns:h.Ns1 dx mA
 ne:dx≠x
theorem zo6{h:Heap}{dx:Addr}{mA:Str→Option Value}(n:h.Ns1 dx mA):∃ od,h.get? dx=some od∧∀ name,PySem.W.lookIn name od=some (mA name):=by
 obtain⟨o,es,ep,ho,hd,hk,_,hm⟩:=n
 refine⟨o,ho,fun name=>?_⟩
 have e:=hm name
 unfold nsFind findBy at e
 rw[←Array.find?_toList] at e
 unfold PySem.W.lookIn
 rw[hd]
 dsimp only
 split
 ·rename_i y q
  rw[q] at e
  exact congrArg some e
 ·rename_i q
  rw[q] at e
  have a:es.toList.any (·.refKey)=false:=by
   rw[List.any_eq_false]
   intro y hy
   obtain⟨z,t,hkey⟩:=hk y (Array.mem_toList_iff.mp hy)
   simp[DictEntry.refKey,hkey]
  have a':¬ es.toList.any (·.refKey)=true:=by rw[a];exact Bool.false_ne_true
  rw[if_neg a']
  exact congrArg some e
theorem ObjM.look{h:Heap}{x dx C:Addr}{mA:Str→Option Value}(I:ObjM h x dx C mA):∃ od,PySem.W.InstAt h x (PySem.W.instObj C dx) C (some od)∧∀ name,PySem.W.lookIn name od=some (mA name):=
 let ⟨od,ho,hl⟩:=zo6 I.ns
 ⟨od,⟨I.obj,rfl,rfl,ho⟩,hl⟩
section
variable {prog:Program}{w:World}{A:Around}{E:Value→Shared→Prop}{s:Shared}{K:PySem.W.Frag}{x dx C f:Addr}{mA:Str→Option Value}{name:Str}{v:Value}
theorem ztb{expr:Bool}{Q:Value→Shared→Prop}(X:K.In s.heap)(I:ObjM s.heap x dx C mA)(hg:PySem.W.plainGet K C name=true)(hh:PySem.W.hasDictIn K C=true)
  (ha:PySem.W.findIn K (.ref C) name=some none) (hv:mA name=some v) (hv':PySem.W.handedIn v=true) (h:Q v {s with toks:=s.toks + 1}) :
  wpAny (model prog w) A (getAttr (.ref x) name expr) Q E s:=by
 obtain⟨od,J,hl⟩:=I.look
 exact PySem.W.get_value X J (PySem.W.plainGet_of hg).1 (PySem.W.findObj_own hh ha rfl (by rw[hl,hv])) hv' h
theorem zqY{pl:Sem Bool}{Q:Value×List Value→Shared→Prop}(X:K.In s.heap)(I:ObjM s.heap x dx C mA)(hg:PySem.W.plainGet K C name=true)
  (hf:PySem.W.findIn K (.ref C) name=some (some (.ref f))) (ht:PySem.W.isFn K (.ref f)=true) (hv:mA name=none) (h:Q (.ref f,[.ref x]) s) :
  wpAny (model prog w) A (getMethod (.ref x) name pl) Q E s:=by
 obtain⟨od,J,hl⟩:=I.look
 exact PySem.W.method_fn X J (PySem.W.plainGet_of hg).1 (PySem.W.plainGet_of hg).2 hf (beq_iff_eq.mp ht) (by show(PySem.W.lookIn name od).map (·.isSome)=some false;rw[hl,hv];rfl) h
theorem ztc{ns:List Str}{Q:Unit→Shared→Prop}(X:K.In s.heap)(I:ObjM s.heap x dx C mA)
  (hs:PySem.W.findIn K (.ref C) "__setattr__" = some (some (.builtin "object.__setattr__"))) (hp:PySem.W.plainOver K C=true) (ht:PySem.W.takerIn K C name=some none) (hh:PySem.W.hasDictIn K C=true)
  (hw:PySem.Within mA ns) (hsz:ns.length≤sizeLine)
  (h:∀ h',ObjM h' x dx C (fun y=>if y=name then some v else mA y)→Heap.SameBut dx s.heap h'→Q () {s with heap:=h',toks:=s.toks + 2}) :
  wpAny (model prog w) A (setAttr (.ref x) name v) Q E s:=by
 obtain⟨od,J,hl⟩:=I.look
 refine PySem.W.set_plain X J hs (PySem.W.osa_open (s:={s with toks:=s.toks + 1}) (r:=none) X J hp ht fun b=>?_)
 obtain⟨cd,hc,hd'⟩:=PySem.W.any_some hh
 have hx:s.heap.get? x=some ⟨.ref C,some dx,.plain,#[]⟩:=I.obj
 refine wpAny_bind (wpAny_pure (wpAny_bind (wpAny_bind (wpAny_loadPart hx (wpAny_bind (PySem.W.Looks.here (s:={s with toks:=s.toks + 1}) (PySem.W.looks_clsIn X hc) ?_))))))
 rw[hd']
 refine wpAny_pure (a:=some dx) (wpAny_bind (wpAny_pure (wpAny_bind ?_)))
 refine wpAny_nsSet1 (s:={s with toks:=s.toks + 1}) I.ns fun h' hn2 hs2=>?_
 obtain⟨oD,esD,epD,hoD,hdD,hcD⟩:=hn2.count (PySem.Within.cons name v hw)
 refine wpAny_bind (wpAny_lookBehind hoD (by rw[hdD];exact pastItsLine_dict (Nat.le_trans hcD (by rw[List.length_cons];omega))) ?_)
 exact wpAny_pure (h _ ⟨(hs2.2 _ (Ne.symm I.ne)).trans I.obj,hn2,I.ne⟩ hs2)
theorem zqZ{R:Result→Shared→Prop}{vs:List Value}{kw:List (Str×Value)}(X:K.In s.heap)(hm:PySem.W.makesIn K C=true)
  (hi:PySem.W.findIn K (.ref C) "__init__" = some (some (.ref f))) (hf:PySem.W.typeIn K (.ref f)=some (.type "function"))
  (h:codeAny (model prog w) (A.under (.builtin "type.__call__" ⟨.ref C :: vs,kw⟩)) (.call (.ref f) ⟨.ref (s.heap.objs.size + 1) :: vs,kw⟩) (PySem.W.InitBack (s.heap.objs.size + 1) R)
   {s with heap:=(s.heap.push PySem.W.emptyDict).push (PySem.W.instObj C s.heap.objs.size)}) :
  codeAny (model prog w) A (.call (.ref C) ⟨vs,kw⟩) R s:=by
 obtain⟨hh,g,d,t,os⟩:=s
 exact PySem.W.make_core (PySem.W.makes_of X hm) (PySem.W.looks_findIn X hi) (fun self=>PySem.W.bind_fn X self hf) (.inl rfl) h
end
def putF(f:Str)(v:V):List (Str×V)→List (Str×V)
 | []=>[(f,v)]
 | (g,x) :: r=>if g=f then(g,v) :: r else(g,x) :: putF f v r
theorem zih(f g:Str)(v:V):∀ fs:List (Str×V),(putF f v fs).lookup g=if g=f then some v else fs.lookup g
 | []=>by
  show List.lookup g [(f,v)]=_
  by_cases h:g=f
  ·have hb:(g == f)=true:=beq_iff_eq.mpr h
   simp only[List.lookup,hb,if_pos h]
  ·have hb:(g == f)=false:=beq_eq_false_iff_ne.mpr h
   simp only[List.lookup,hb,if_neg h]
 | (k,x) :: r=>by
  have ih:=zih f g v r
  rw[show putF f v ((k,x) :: r)=(if k=f then(k,v) :: r else(k,x) :: putF f v r) from rfl]
  by_cases hk:k=f
  ·rw[if_pos hk]
   by_cases h:g=k
   ·have hb:(g == k)=true:=beq_iff_eq.mpr h
    simp only[List.lookup,hb,if_pos (h.trans hk)]
   ·have hb:(g == k)=false:=beq_eq_false_iff_ne.mpr h
    simp only[List.lookup,hb,if_neg (fun e:g=f=>h (e.trans hk.symm))]
  ·rw[if_neg hk]
   by_cases h:g=k
   ·have hb:(g == k)=true:=beq_iff_eq.mpr h
    simp only[List.lookup,hb,if_neg (fun e:g=f=>hk (h.symm.trans e))]
   ·have hb:(g == k)=false:=beq_eq_false_iff_ne.mpr h
    simp only[List.lookup,hb]
    exact ih
theorem zii(f:Str)(v:V):∀ fs:List (Str×V),f∈(putF f v fs).map (·.1)∧∀ g,g∈fs.map (·.1)→g∈(putF f v fs).map (·.1)
 | []=>⟨by simp[putF],fun g h=>by simp at h⟩
 | (k,x) :: r=>by
  obtain⟨i1,i2⟩:=zii f v r
  rw[show putF f v ((k,x) :: r)=(if k=f then(k,v) :: r else(k,x) :: putF f v r) from rfl]
  by_cases hk:k=f
  ·rw[if_pos hk]
   subst hk
   exact⟨by simp,fun g h=>by simpa using h⟩
  ·rw[if_neg hk]
   refine⟨?_,fun g h=>?_⟩
   ·rw[List.map_cons]
    exact List.mem_cons_of_mem _ i1
   ·rw[List.map_cons] at h ⊢
    rcases List.mem_cons.mp h with e | e
    ·exact List.mem_cons.mpr (.inl e)
    ·exact List.mem_cons_of_mem _ (i2 g e)
theorem zij(f:Str)(v:V):∀ fs:List (Str×V),(putF f v fs).length≤fs.length + 1
 | []=>by simp[putF]
 | (k,x) :: r=>by
  have ih:=zij f v r
  rw[show putF f v ((k,x) :: r)=(if k=f then(k,v) :: r else(k,x) :: putF f v r) from rfl]
  by_cases hk:k=f
  ·rw[if_pos hk,List.length_cons,List.length_cons];omega
  ·rw[if_neg hk,List.length_cons,List.length_cons];omega
theorem RelO.some_of{v:V}{o:Option Value}(r:RelO (some v) o):∃ u,o=some u∧RelV v u:=by
 cases o with
 | none=>exact(show False from r).elim
 | some u=>exact⟨u,rfl,r⟩
theorem RelO.none_of{o:Option Value}(r:RelO none o):o=none:=by
 cases o with
 | none=>rfl
 | some u=>exact(show False from r).elim
theorem zo7{v:V}{u:Value}(r:RelV v u):PySem.W.handedIn u=true:=by
 cases v with
 | non=>cases (show u=Value.none from r);rfl
 | bl b=>cases (show u=Value.bool b from r);rfl
 | int i=>obtain⟨t,e⟩:=(show ∃ t,u=Value.int i t from r);cases e;rfl
 | str x=>obtain⟨t,e⟩:=(show ∃ t,u=Value.str x t from r);cases e;rfl
 | byt b=>obtain⟨t,e⟩:=(show ∃ t,u=Value.bytes b t from r);cases e;rfl
 | flt b=>obtain⟨t,e⟩:=(show ∃ t,u=Value.float b t from r);cases e;rfl
 | ref a=>cases (show u=Value.ref a from r);rfl
 | ty n=>cases (show u=Value.type n from r);rfl
section
variable {P:Program}{w:World}{H H':Hp}{h h':Heap}{a C dx:Addr}{fs fs':List (Str×V)}
theorem zjX(hok:HOk P w H h)(e:H a=some (.ins C dx fs)):∃ mA,ObjM h a dx C mA∧(∀ f,RelO (fs.lookup f) (mA f))∧PySem.Within mA (fs.map (·.1))∧fs.length≤1000∧H dx=some (.own a):=by
 obtain⟨d,z,ne,ob,mA,n,r,q⟩:=(show zbl P w H h a (.ins C dx fs) from hok a _ e)
 exact⟨mA,⟨ob,n,ne⟩,r,q,z,d⟩
end
structure Cls(K:PySem.W.Frag)(C:Addr):Prop where
 pg:PySem.W.plainGet K C Str.empty=true
 hd:PySem.W.hasDictIn K C=true
 po:PySem.W.plainOver K C=true
 sa:PySem.W.findIn K (.ref C) "__setattr__" = some (some (.builtin "object.__setattr__"))
theorem Cls.get{K:PySem.W.Frag}{C:Addr}(c:Cls K C)(f:Str):PySem.W.plainGet K C f=true:=c.pg
def zcd(K:PySem.W.Frag)(C:Addr)(f:Str):Prop:=PySem.W.findIn K (.ref C) f=some none
theorem zcd.taker{K:PySem.W.Frag}{C:Addr}{f:Str}(n:zcd K C f):PySem.W.takerIn K C f=some none:=by
 unfold PySem.W.takerIn
 rw[show PySem.W.findIn K (.ref C) f=some none from n]
 rfl
structure Meth(K:PySem.W.Frag)(C:Addr)(m:Str)(f:Addr):Prop where
 at_:PySem.W.findIn K (.ref C) m=some (some (.ref f))
 fn:PySem.W.isFn K (.ref f)=true
 kp:PySem.W.keepIn K (.ref f)=true
section
variable {X:Cx}{pins:List (Addr×Obj)}{σ:St}{H:Hp}{s:Shared}{a C dx:Addr}{fs:List (Str×V)}{f:Str}{v:V}{A:Around}{E:Value→Shared→Prop}
theorem zoi{b:Bool}{Q:Value→Shared→Prop}(I:Inv X pins σ H s)(e:H a=some (.ins C dx fs))(c:Cls X.K C)(n:zcd X.K C f)(l:fs.lookup f=some v)
  (h:∀ u s',Inv X pins σ H s'→RelV v u→Q u s'):wpAny (model X.prog X.w) A (getAttr (.ref a) f b) Q E s:=by
 obtain⟨mA,O,r,_,_,_⟩:=zjX I.hok e
 obtain⟨u,hu,ru⟩:=RelO.some_of (v:=v) (o:=mA f) (by rw[←l];exact r f)
 exact ztb I.kIn O (c.get f) c.hd n hu (zo7 ru) (h u _ (I.tok _) ru)
theorem zjx{m:Str}{g:Addr}{pl:Sem Bool}{Q:Value×List Value→Shared→Prop}(I:Inv X pins σ H s)(e:H a=some (.ins C dx fs))(c:Cls X.K C)(k:Meth X.K C m g)(l:fs.lookup m=none)
  (h:Q (.ref g,[.ref a]) s):wpAny (model X.prog X.w) A (getMethod (.ref a) m pl) Q E s:=by
 obtain⟨mA,O,r,_,_,_⟩:=zjX I.hok e
 have hn:mA m=none:=RelO.none_of (by rw[←l];exact r m)
 exact zqY I.kIn O (c.get m) k.at_ k.fn hn h
theorem zoj{y:V}{u:Value}{Q:Unit→Shared→Prop}(I:Inv X pins σ H s)(e:H a=some (.ins C dx fs))(c:Cls X.K C)(n:zcd X.K C f)(hl:fs.length < 1000)(ry:RelV y u)
  (h:∀ s',Inv X pins σ (upd H a (.ins C dx (putF f y fs))) s'→Q () s'):wpAny (model X.prog X.w) A (setAttr (.ref a) f u) Q E s:=by
 obtain⟨mA,O,r,wi,_,ho⟩:=zjX I.hok e
 have hz:(fs.map (·.1)).length≤sizeLine:=by rw[List.length_map,sizeLine_eq];omega
 refine ztc I.kIn O c.sa c.po n.taker c.hd wi hz fun h' O' sb=>h _ ?_
 have hd:∃ o,h'.get? dx=some o:=let ⟨o,_,_,e',_⟩:=O'.ns;⟨o,e'⟩
 refine I.write (x:=a) (e:=dx) (by rw[e];exact True.intro) (.inr ho) (fun b q hb z=>(sb.2 b hb).trans z) hd ?_
 refine⟨by rw[zal O.ne];exact ho,?_,O.ne,O'.obj,_,O'.ns,fun g=>?_,fun g hg=>?_⟩
 ·have:=zij f y fs;omega
 ·show RelO ((putF f y fs).lookup g) (if g=f then some u else mA g)
  rw[zih]
  by_cases q:g=f
  ·rw[if_pos q,if_pos q];exact ry
  ·rw[if_neg q,if_neg q];exact r g
 ·by_cases q:g=f
  ·rw[q];exact(zii f y fs).1
  ·refine(zii f y fs).2 g (wi g fun z=>hg ?_)
   show(if g=f then some u else mA g)=none
   rw[if_neg q];exact z
theorem Inv.made(I:Inv X pins σ H s):Inv X pins σ (upd (upd H s.heap.objs.size (.own (s.heap.objs.size + 1))) (s.heap.objs.size + 1) (.ins C s.heap.objs.size []))
  {s with heap:=(s.heap.push PySem.W.emptyDict).push (PySem.W.instObj C s.heap.objs.size)}:=by
 have e1:(s.heap.push PySem.W.emptyDict).get? s.heap.objs.size=some PySem.W.emptyDict:=Heap.get?_push_size s.heap rfl
 have e2:((s.heap.push PySem.W.emptyDict).push (PySem.W.instObj C s.heap.objs.size)).get? (s.heap.objs.size + 1)=some (PySem.W.instObj C s.heap.objs.size):=by
  have:=Heap.get?_push_size (s.heap.push PySem.W.emptyDict) (o:=PySem.W.instObj C s.heap.objs.size) rfl
  rwa [Heap.size_push] at this
 have e3:(s.heap.push PySem.W.emptyDict).Ns s.heap.objs.size (fun _=>none):=⟨PySem.W.emptyDict,#[],_,e1,rfl,(fun e he=>absurd he (by simp)),fun _=>rfl⟩
 have I1:=I.laid (a:=s.heap.objs.size) (o:=.own (s.heap.objs.size + 1)) (h':=s.heap.push PySem.W.emptyDict) (t':=s.toks) (fun b u q=>Heap.get?_push_of_some _ q) (Nat.le_refl _) ⟨_,e1⟩
 refine I1.laid (a:=s.heap.objs.size + 1) (o:=.ins C s.heap.objs.size []) (t':=s.toks) (fun b u q=>Heap.get?_push_of_some _ q) (Nat.le_of_eq (Heap.size_push _ _)) ?_
 have ne:s.heap.objs.size≠s.heap.objs.size + 1:=Nat.ne_of_lt (Nat.lt_succ_self _)
 refine⟨by rw[zal ne,zar],Nat.zero_le _,ne,e2,fun _=>none,(Heap.Ns1.of_empty e3).at fun o q=>Heap.get?_push_of_some _ q,fun _=>True.intro,fun y hy=>absurd rfl hy⟩
theorem ztd{prog:Program}{w:World}{env:Env}{e:Expr}{f:Str}{pos:Pos}{s:Shared}{Q:Value→Shared→Prop}(hb:attributeBase e f env (eval e env)=eval e env)
  (h:wpAny (model prog w) A (eval e env) (fun o s₁=>wpAny (model prog w) A (getAttr o f true) Q E s₁) E s):wpAny (model prog w) A (eval (.Attribute e f pos) env) Q E s:=
 Attribute_any_ h (by rw[arm_eval_Attribute,hb])
end
def tFld(K:PySem.W.Frag)(ta:TE)(f:Str):TE:=fun σ H Q=>ta σ H fun x H1=>∃ a C dx fs v,x=.ref a∧H1 a=some (.ins C dx fs)∧Cls K C∧zcd K C f∧fs.lookup f=some v∧Q v H1
def sFld(K:PySem.W.Frag)(ta tv:TE)(f:Str):TS:=fun D σ H=>tv σ H fun y H1=>ta σ H1 fun x H2=>∃ a C dx fs,x=.ref a∧H2 a=some (.ins C dx fs)∧Cls K C∧zcd K C f∧fs.length < 1000∧
 D.nx σ (upd H2 a (.ins C dx (putF f y fs)))
section
variable {X:Cx}{o e value:Expr}{f:Str}{pos pos' tpos:Pos}{ta tv:TE}
theorem zvv(he:PE X e ta)(hb:attributeBase e f X.env (eval e X.env)=eval e X.env):PE X (.Attribute e f pos) (tFld X.K ta f):=by
 intro pins s σ H Q I h
 refine ztd hb (thn (he pins s σ H _ I h) fun u s1 ⟨x,H1,I1,rx,a,C,dx,fs,v,ex,ea,c,n,l,q⟩=>?_)
 subst ex
 obtain rfl:u=Value.ref a:=rx
 exact zoi I1 ea c n l fun u' s2 I2 ru=>⟨v,H1,I2,ru,q⟩
theorem zvw(ha:PE X o ta)(hv:PE X value tv)(hs:swapsWith value (some (.Attribute o f pos')) pos.line X.env=pure false):PS X (.Assign [.Attribute o f pos'] value pos) (sFld X.K ta tv f):=by
 intro pins s σ H D I h
 refine plainObj_wpAny_Assign_Attribute (thn (hv pins s σ H _ I h) fun u s1 ⟨y,H1,I1,ry,q⟩=>thn (ha pins s1 σ H1 _ I1 q) fun ov s2 ⟨x,H2,I2,rx,a,C,dx,fs,ex,ea,c,n,l,q2⟩=>?_) hs
 subst ex
 obtain rfl:ov=Value.ref a:=rx
 exact zoj I2 ea c n l ry fun s3 I3=>⟨σ,_,I3,q2⟩
end
section
variable {X:Cx}{pins:List (Addr×Obj)}{σ:St}{H:Hp}{s:Shared}{A:Around}{E:Value→Shared→Prop}{Q:Value→Shared→Prop}{c:Value}{b:Bool}
inductive TyOf(K:PySem.W.Frag)(H:Hp):V→Value→Prop where
 | non:TyOf K H .non (.type "NoneType")
 | bl (x:Bool):TyOf K H (.bl x) (.type "bool")
 | int (i:Int):TyOf K H (.int i) (.type "int")
 | str (x:Str):TyOf K H (.str x) (.type "str")
 | flt (x:UInt64):TyOf K H (.flt x) (.type "float")
 | lst {a:Addr} {xs:List V} (e:H a=some (.lst xs)):TyOf K H (.ref a) (.type "list")
 | frz {a:Addr} {o:Obj} {xs:List V} (e:H a=some (.frz o (.lst xs))):TyOf K H (.ref a) (.type "list")
 | tup {a:Addr} {xs:List V} (e:H a=some (.tup xs)):TyOf K H (.ref a) (.type "tuple")
 | dK {a:Addr} {kvs:List (Key×V)} (e:H a=some (.dK kvs)):TyOf K H (.ref a) (.type "dict")
 | dT {a:Addr} {kvs:List (List Key×V)} (e:H a=some (.dT kvs)):TyOf K H (.ref a) (.type "dict")
 | ins {a C dx:Addr} {fs:List (Str×V)} (e:H a=some (.ins C dx fs)) (cl:Cls K C) (ha:PySem.W.findIn K (.ref C) "__class__" = some (some (.builtin "object.__class__")))
   (hn:PySem.W.specialIn K (.builtin "object.__class__") "__get__" = some (some (.builtin "getset_descriptor.__get__"))) (htk:PySem.W.takesIn K (.builtin "object.__class__")=some true)
   (hm:PySem.W.mroIn K C (.type "object")=some true):TyOf K H (.ref a) (.ref C)
theorem zo8{x:V}{u t:Value}(I:Inv X pins σ H s)(rx:RelV x u)(ty:TyOf X.K H x t)(e:PySem.W.kitOne X.K t c=some b)(h:∀ tk,Q (.bool b) {s with toks:=tk}) :
  wpAny (model X.prog X.w) A (call (.builtin "isinstance") [u,c]) Q E s:=by
 cases ty with
 | non=>cases (show u=Value.none from rx);exact PySem.W.kia_one PySem.W.kitx_none I.kIn True.intro e (fun z=>nomatch z) h
 | bl y=>cases (show u=Value.bool y from rx);exact PySem.W.kia_one PySem.W.kitx_bool I.kIn True.intro e (fun z=>nomatch z) h
 | int i=>obtain⟨t,q⟩:=(show ∃ t,u=Value.int i t from rx);cases q;exact PySem.W.kia_one PySem.W.kitx_int I.kIn True.intro e (fun z=>nomatch z) h
 | str y=>obtain⟨t,q⟩:=(show ∃ t,u=Value.str y t from rx);cases q;exact PySem.W.kia_one PySem.W.kitx_str I.kIn True.intro e (fun z=>nomatch z) h
 | flt y=>obtain⟨t,q⟩:=(show ∃ t,u=Value.float y t from rx);cases q;exact PySem.W.kia_one PySem.W.kitx_float I.kIn True.intro e (fun z=>nomatch z) h
 | @lst a xs ea=>
  cases (show u=Value.ref a from rx)
  obtain⟨_,_,n,_,h1⟩:=(show zbl X.prog X.w H s.heap a (.lst xs) from I.hok a _ ea)
  exact PySem.W.kia_one PySem.W.kitx_list I.kIn ⟨_,h1,rfl⟩ e (fun z=>nomatch z) h
 | @frz a ob xs ea=>
  cases (show u=Value.ref a from rx)
  obtain⟨_,_,_,n,_,h1⟩:=(show zbl X.prog X.w H s.heap a (.frz ob (.lst xs)) from I.hok a _ ea)
  exact PySem.W.kia_one PySem.W.kitx_list I.kIn ⟨_,h1,rfl⟩ e (fun z=>nomatch z) h
 | @tup a xs ea=>
  cases (show u=Value.ref a from rx)
  obtain⟨_,_,_,p⟩:=(show zbl X.prog X.w H s.heap a (.tup xs) from I.hok a _ ea)
  obtain⟨o,h1,h2,_⟩:=p
  exact PySem.W.kia_one PySem.W.kitx_tuple I.kIn ⟨o,h1,h2⟩ e (fun z=>nomatch z) h
 | @dK a kvs ea=>
  cases (show u=Value.ref a from rx)
  obtain⟨_,_,vs,_,p⟩:=(show zbl X.prog X.w H s.heap a (.dK kvs) from I.hok a _ ea)
  obtain⟨o,es,ep,h1,h2,_⟩:=p
  exact PySem.W.kia_one PySem.W.kitx_dict I.kIn ⟨o,h1,h2.1⟩ e (fun z=>nomatch z) h
 | @dT a kvs ea=>
  cases (show u=Value.ref a from rx)
  obtain⟨_,_,xs,_,o,es,ep,h1,h2,_⟩:=(show zbl X.prog X.w H s.heap a (.dT kvs) from I.hok a _ ea)
  exact PySem.W.kia_one PySem.W.kitx_dict I.kIn ⟨o,h1,h2.1⟩ e (fun z=>nomatch z) h
 | @ins a C dx fs ea cl ha hn htk hm=>
  cases (show u=Value.ref a from rx)
  obtain⟨mA,O,_⟩:=zjX I.hok ea
  obtain⟨od,J,_⟩:=O.look
  exact PySem.W.kia_one (PySem.W.kitx_own (cl.get _) cl.hd ha hn htk hm) I.kIn J e (fun z=>nomatch z) h
end
end L2
namespace L2
open PySem PySem.Spec PyProof.Rows
structure Room(k:Nat)(A:Around):Prop where
 hd:A.handled=none
 dp:A.depth + 3 * k + 5 < recursionLimit
 un:A.units + 16 * k + 200 < cLine
theorem Room.mono{j k:Nat}{A:Around}(r:Room k A)(h:j≤k):Room j A:=⟨r.hd,by have:=r.dp;omega,by have:=r.un;omega⟩
theorem Room.deeper{k:Nat}{A:Around}(r:Room (k + 1) A)(env:Env):Room k (A.deeper env):=
 ⟨r.hd,by have:=r.dp;show A.depth + 1 + 3 * k + 5 < _;omega,by have:=r.un;show A.units + 3 + 16 * k + 200 < _;omega⟩
theorem zok{A:Around}{C:Addr}{us:List Value}{kw:List (Str×Value)}:(A.under (.builtin "type.__call__" ⟨.ref C :: us,kw⟩)).depth=A.depth + 1:=by
 first | rfl | simp[Around.under,Code.weight,Code.isCreation,Code.isGuard,Code.isCaller,Code.frames,Code.isFrame,guardIds]
theorem zol{A:Around}{C:Addr}{us:List Value}{kw:List (Str×Value)}:(A.under (.builtin "type.__call__" ⟨.ref C :: us,kw⟩)).units=A.units + 1:=by
 first | rfl | simp[Around.under,Code.cUnits,Code.frames,Code.isFrame]
theorem Room.make{k:Nat}{A:Around}(r:Room (k + 1) A)(C:Addr)(us:List Value)(kw:List (Str×Value)):Room k (A.under (.builtin "type.__call__" ⟨.ref C :: us,kw⟩)):=
 ⟨r.hd,by have:=r.dp;rw[zok];omega,by have:=r.un;rw[zol];omega⟩
theorem Room.depth{k:Nat}{A:Around}(r:Room k A):A.depth < recursionLimit:=by have:=r.dp;omega
theorem Room.units{k:Nat}{A:Around}(r:Room k A):A.units + 64 < cLine:=by have:=r.un;omega
def tNil:TA:=fun _ H Q=>Q [] H
def zxm(ta:TE)(tr:TA):TA:=fun σ H Q=>ta σ H fun x H1=>tr σ H1 fun xs H2=>Q (x :: xs) H2
section
variable {X:Cx}{e:Expr}{es:List Expr}{te:TE}{t:TA}{pos:Pos}
theorem zvx:PA X [] tNil:=fun _ _ _ _ H Q I h=>Calls.spliced_nil ⟨[],H,I,.nil,h⟩
theorem zte(ha:PE X e te)(hr:PA X es t)(hs:starEach (e :: es) X.env=(false,eval e X.env) :: starEach es X.env:=by rfl):PA X (e :: es) (zxm te t):=by
 intro pos pins s σ H Q I h
 rw[hs]
 show wpAny _ _ (spliced ((false,eval e X.env) :: backTo pos (starEach es X.env))) _ _ s
 refine Calls.spliced_cons (thn (ha pins s σ H _ I h) fun u s1 ⟨x,H1,I1,r1,q1⟩=>?_)
 exact thn (hr pos pins s1 σ H1 _ I1 q1) fun us s2 ⟨xs,H2,I2,r2,q2⟩=>⟨x :: xs,H2,I2,.cons r1 r2,q2⟩
def tTup(t:TA):TE:=fun σ H Q=>t σ H fun xs H1=>xs.length≤sizeLine∧∀ p,H1 p=none→Q (.ref p) (upd H1 p (.tup xs))
def tLst(t:TA):TE:=fun σ H Q=>t σ H fun xs H1=>xs.length≤sizeLine∧∀ p,H1 p=none→Q (.ref p) (upd H1 p (.lst xs))
theorem zvy{x1}(h:PA X es t):PE X (.Tuple es x1 pos) (tTup t):=by
 intro pins s σ H Q I hq
 refine wpAny_Tuple_spliced (thn (h pos pins s σ H _ I hq) fun us s1 ⟨xs,H1,I1,r,z,q⟩=>⟨by rw[←r.length];exact z,?_⟩)
 have hf:H1 s1.heap.objs.size=none:=I1.hok.fresh (Nat.le_refl _)
 refine⟨.ref s1.heap.objs.size,upd H1 s1.heap.objs.size (.tup xs),I1.laid (t':=s1.toks) (fun b u e=>Heap.get?_push_of_some _ e) (Nat.le_refl _) ?_,rfl,q _ hf⟩
 exact⟨z,us,r,⟨_,Heap.get?_push_size _ rfl,rfl,_,rfl⟩⟩
theorem zst(h:PA X es t):PE X (.List es pos) (tLst t):=by
 intro pins s σ H Q I hq
 refine wpAny_List_spliced (thn (h pos pins s σ H _ I hq) fun us s1 ⟨xs,H1,I1,r,z,q⟩=>⟨by rw[←r.length];exact z,?_⟩)
 have hf:H1 s1.heap.objs.size=none:=I1.hok.fresh (Nat.le_refl _)
 refine⟨.ref s1.heap.objs.size,upd H1 s1.heap.objs.size (.lst xs),I1.laid (t':=s1.toks) (fun b u e=>Heap.get?_push_of_some _ e) (Nat.le_refl _) ?_,rfl,q _ hf⟩
 exact⟨z,us,0,r,Heap.get?_push_size _ rfl⟩
end
abbrev Sp:=List V→Hp→VK→XK→Prop
abbrev CXT:=List Env→Hp→Shared→XK→Value→Shared→Prop
structure Env0(P:Program)(w:World)(K:PySem.W.Frag)(mg:Str→Option Value)(base:Heap)(A:Around)(outer:List Env)(s:Shared)(H:Hp):Prop where
 frames:A.frames=some outer
 mod:Mod K mg base
 bs:∀ b o,base.get? b=some o→s.heap.get? b=some o∧H b=none
 bsz:base.objs.size≤s.heap.objs.size
 funs:s.heap.FunFrames base outer
 frf:∀ b∈frs outer,H b=none
 hok:HOk P w H s.heap
 bare:AllBare s.gens
def CE(outer:List Env)(P:Program)(w:World)(H:Hp)(s:Shared)(Q:VK)(u:Value)(s':Shared):Prop:=
 ∃ v H',s'.os=s.os∧AllBare s'.gens∧Un (frs outer) [] H H' s.heap s'.heap∧HOk P w H' s'.heap∧RelV v u∧Q v H'
def CR(CX:CXT)(outer:List Env)(P:Program)(w:World)(H:Hp)(s:Shared)(Q:VK)(E:XK)(r:Result)(s':Shared):Prop:=
 match r with
 | .ok (.ret u)=>CE outer P w H s Q u s'
 | .ok _=>False
 | .error e=>CX outer H s E e s'
structure FnOk(P:Program)(w:World)(K:PySem.W.Frag)(mg:Str→Option Value)(base:Heap)(CX:CXT)(k:Nat)(f:Addr)(fd:FuncData)(ps:List Str)(sp:Sp):Prop where
 len:∀ vs H Q E,sp vs H Q E→vs.length=ps.length
 run:∀ (A:Around) (outer:List Env) (s:Shared) (H:Hp) (args:Args) (us:List Value) (vs:List V) (Q:VK) (E:XK),Room k A→Env0 P w K mg base A outer s H→BindsTo s fd args (ps.zip us)→Vals vs us→sp vs H Q E→
  codeAny (model P w) A (.call (.ref f) args) (CR CX outer P w H s Q E) s
theorem Env0.make{P:Program}{w:World}{K:PySem.W.Frag}{mg:Str→Option Value}{base:Heap}{A:Around}{outer:List Env}{s:Shared}{H:Hp}(e:Env0 P w K mg base A outer s H)(C:Addr)(us:List Value)(kw:List (Str×Value)) :
  Env0 P w K mg base (A.under (.builtin "type.__call__" ⟨.ref C :: us,kw⟩)) outer s H:=⟨by first | exact e.frames | (simpa [Around.under,Code.envs,Code.isFrame,pushEnvs] using e.frames),e.mod,e.bs,e.bsz,e.funs,e.frf,e.hok,e.bare⟩
section
variable {X:Cx}{pins:List (Addr×Obj)}{σ:St}{H:Hp}{s s':Shared}
theorem Inv.env0(I:Inv X pins σ H s):Env0 X.prog X.w X.K X.mg X.base X.A X.stack s H:=
 ⟨I.ok.frames,I.ok.mod,I.bs,Nat.le_trans I.ok.bsz I.sz,I.stack,I.stkFree,I.hok,I.bare⟩
theorem Inv.after{Q:VK}{u:Value}(I:Inv X pins σ H s)(h:CE X.stack X.prog X.w H s Q u s'):EP X pins σ Q u s':=by
 obtain⟨v,H',os,bare,un,hok,r,q⟩:=h
 obtain⟨hh,g,d,t,os'⟩:=s'
 obtain rfl:os'=s.os:=os
 exact⟨v,H',I.call (h':=hh) (g':=g) (d':=d) (t':=t) (ch:=[]) un hok bare (fun b z=>absurd z (by simp)),r,q⟩
end
def zvz(sp:Sp)(dvs:List V)(E:XK)(t:TA):TE:=fun σ H Q=>t σ H fun vs H1=>sp (vs ++ dvs) H1 Q E
def ztf(C:Addr)(m:Str)(sp:Sp)(dvs:List V)(E:XK)(ta:TE)(t:TA):TE:=fun σ H Q=>ta σ H fun x H1=>∃ a dx fs,x=.ref a∧H1 a=some (.ins C dx fs)∧fs.lookup m=none∧
 t σ H1 fun vs H2=>sp (x :: (vs ++ dvs)) H2 Q E
def zvA(C:Addr)(sp:Sp)(dvs:List V)(E:XK)(t:TA):TE:=fun σ H Q=>t σ H fun vs H1=>∀ x dx,H1 x=none→H1 dx=none→dx≠x→
 sp (.ref x :: (vs ++ dvs)) (upd (upd H1 dx (.own x)) x (.ins C dx [])) (fun v H2=>v=.non∧Q (.ref x) H2) E
def zeO(K:PySem.W.Frag)(fd:FuncData)(ps:List Str)(ds:List Value):Prop:=
 ∀ (s:Shared) (us:List Value),K.In s.heap→(us ++ ds).length=ps.length→BindsTo s fd ⟨us,[]⟩ (ps.zip (us ++ ds))
theorem zeO.all{K:PySem.W.Frag}{fd:FuncData}{ps:List Str}(h:∀ us:List Value,us.length=ps.length→bindArgs fd ⟨us,[]⟩=pure (ps.zip us)):zeO K fd ps []:=fun s us _ hl=>by
 rw[List.append_nil] at hl ⊢
 exact .of_eq (h us hl)
def zhA(CX:CXT)(X:Cx)(E:XK):Prop:=∀ (pins:List (Addr×Obj)) (σ:St) (H:Hp) (s:Shared) (e:Value) (s':Shared),Inv X pins σ H s→CX X.stack H s E e s'→X.xe e s'
section
variable {X:Cx}{CX:CXT}{k:Nat}{f C:Addr}{fd:FuncData}{ps:List Str}{sp:Sp}{dvs:List V}{ds:List Value}{E:XK}{x m:Str}{p pos apos:Pos}{e o:Expr}{es:List Expr}{ta:TE}{t:TA}
theorem zo9{pins:List (Addr×Obj)}{σ:St}{H:Hp}{s:Shared}{Q:VK}{us:List Value}{vs:List V}(F:FnOk X.prog X.w X.K X.mg X.base CX k f fd ps sp)(hr:Room k X.A)(hb:zeO X.K fd ps ds)(hd:Vals dvs ds)(hx:zhA CX X E)
  (I:Inv X pins σ H s) (r:Vals vs us) (h:sp (vs ++ dvs) H Q E):wpAny (model X.prog X.w) X.A (call (.ref f) us) (EP X pins σ Q) X.xe s:=by
 have r2:Vals (vs ++ dvs) (us ++ ds):=r.append hd
 have hl:(us ++ ds).length=ps.length:=by rw[←r2.length];exact F.len _ _ _ _ h
 refine wpAny_call (codeAny_mono (F.run X.A X.stack s H ⟨us,[]⟩ (us ++ ds) (vs ++ dvs) Q E hr I.env0 (hb s us I.kIn hl) r2 h) fun r s' hq=>?_)
 cases r with
 | error e=>exact hx pins σ H s e s' I hq
 | ok fl=>
  cases fl with
  | ret u=>exact I.after hq
  | next=>exact False.elim hq
  | brk=>exact False.elim hq
  | cont=>exact False.elim hq
theorem ztg(F:FnOk X.prog X.w X.K X.mg X.base CX k f fd ps sp)(hr:Room k X.A)(hg:Gl X x)(hm:X.mg x=some (.ref f))(hk:PySem.W.keepIn X.K (.ref f)=true)(hb:zeO X.K fd ps ds)(hd:Vals dvs ds)(hx:zhA CX X E)
  (ha:PA X (e :: es) t) (hdb:(x == ("__debug__" : Str))=false:=by decide) (he:starEach (e :: es) X.env=(false,eval e X.env) :: starEach es X.env:=by rfl) (hpl:(backTo pos (starEach es X.env)).any (·.1)=false:=by rfl) :
  PE X (.Call (.Name x p) (e :: es) [] pos) (zvz sp dvs E t):=by
 intro pins s σ H Q I h
 refine wpAny_Call_Name_kw (zmm I hg hm ?_ hdb)
 refine PySem.W.callWith_K (h₀:=X.base) I.ok.mod.kin hk (thn (ha pos pins s σ H _ I h) fun us s1 ⟨vs,H1,I1,r,q⟩=>⟨I1.kIn,?_⟩) he hpl
 exact zo9 F hr hb hd hx I1 r q
theorem zth{pl:Sem Bool}(he:PE X o ta)(c:Cls X.K C)(hm:Meth X.K C m f)(F:FnOk X.prog X.w X.K X.mg X.base CX k f fd ps sp)(hr:Room k X.A)(hb:zeO X.K fd ps ds)(hd:Vals dvs ds)(hx:zhA CX X E)(ha:PA X (e :: es) t)
  (hst:starEach (e :: es) X.env=(false,eval e X.env) :: starEach es X.env:=by rfl) (hpl:(backTo pos (starEach es X.env)).any (·.1)=false:=by rfl)
  (ht:eval (.Call (.Attribute o m apos) (e :: es) [] pos) X.env=(do
   let ov ←eval o X.env
   standAt apos.atName
   let (f,first) ←holding [ov] (getMethod ov m pl)
   callWith pos f first (backTo pos (starEach (e :: es) X.env)) (backToKw pos (keywordEach [] X.env))):=by rfl) :
  PE X (.Call (.Attribute o m apos) (e :: es) [] pos) (ztf C m sp dvs E ta t):=by
 intro pins s σ H Q I h
 refine PySem.W.methodCall_KW (pl:=pl) (thn (he pins s σ H _ I h) fun u s1 ⟨x,H1,I1,rx,a,dx,fs,ex,ea,l,q⟩=>?_) ht
 subst ex
 obtain rfl:u=Value.ref a:=rx
 refine zjx I1 ea c hm l ?_
 refine PySem.W.callWith_K (first:=[.ref a]) (h₀:=X.base) I.ok.mod.kin hm.kp (thn (ha pos pins s1 σ H1 _ I1 q) fun us s2 ⟨vs,H2,I2,r,q2⟩=>⟨I2.kIn,?_⟩) hst hpl
 exact zo9 (us:=.ref a :: us) (vs:=.ref a :: vs) F hr hb hd hx I2 (.cons rfl r) q2
theorem zq0{pl:Sem Bool}(he:PE X o ta)(c:Cls X.K C)(hm:Meth X.K C m f)(F:FnOk X.prog X.w X.K X.mg X.base CX k f fd ps sp)(hr:Room k X.A)(hb:zeO X.K fd ps ds)(hd:Vals dvs ds)(hx:zhA CX X E)
  (ht:eval (.Call (.Attribute o m apos) [] [] pos) X.env=(do
   let ov ←eval o X.env
   standAt apos.atName
   let (f,first) ←holding [ov] (getMethod ov m pl)
   callWith pos f first (backTo pos (starEach [] X.env)) (backToKw pos (keywordEach [] X.env))):=by rfl) :
  PE X (.Call (.Attribute o m apos) [] [] pos) (ztf C m sp dvs E ta tNil):=by
 intro pins s σ H Q I h
 refine PySem.W.methodCall_KW (pl:=pl) (thn (he pins s σ H _ I h) fun u s1 ⟨x,H1,I1,rx,a,dx,fs,ex,ea,l,q⟩=>?_) ht
 subst ex
 obtain rfl:u=Value.ref a:=rx
 refine zjx I1 ea c hm l ?_
 exact PySem.W.callWith_K0 (first:=[.ref a]) I1.kIn hm.kp (zo9 (us:=[.ref a]) (vs:=[.ref a]) F hr hb hd hx I1 (.cons rfl .nil) q)
structure Mk(K:PySem.W.Frag)(C f:Addr):Prop where
 makes:PySem.W.makesIn K C=true
 init:PySem.W.findIn K (.ref C) "__init__" = some (some (.ref f))
 fn:PySem.W.isFn K (.ref f)=true
 kp:PySem.W.keepIn K (.ref C)=true
theorem znl{pins:List (Addr×Obj)}{σ:St}{H:Hp}{s:Shared}{Q:VK}{us:List Value}{vs:List V}(M:Mk X.K C f)(F:FnOk X.prog X.w X.K X.mg X.base CX k f fd ps sp)(hr:Room (k + 1) X.A)(hb:zeO X.K fd ps ds)(hd:Vals dvs ds)
  (hx:zhA CX X E) (I:Inv X pins σ H s) (r:Vals vs us)
  (h:∀ x dx,H x=none→H dx=none→dx≠x→sp (.ref x :: (vs ++ dvs)) (upd (upd H dx (.own x)) x (.ins C dx [])) (fun v H2=>v=.non∧Q (.ref x) H2) E) :
  wpAny (model X.prog X.w) X.A (call (.ref C) us) (EP X pins σ Q) X.xe s:=by
 have hq:=h (s.heap.objs.size + 1) s.heap.objs.size (I.hok.fresh (Nat.le_succ _)) (I.hok.fresh (Nat.le_refl _)) (Nat.ne_of_lt (Nat.lt_succ_self _))
 have I2:=Inv.made (C:=C) I
 have r2:Vals (V.ref (s.heap.objs.size + 1) :: (vs ++ dvs)) (Value.ref (s.heap.objs.size + 1) :: (us ++ ds)):=.cons rfl (r.append hd)
 have hl:(Value.ref (s.heap.objs.size + 1) :: us ++ ds).length=ps.length:=by
  have e:=r2.length
  rw[F.len _ _ _ _ hq] at e
  exact e.symm
 refine wpAny_call (zqZ (f:=f) I.kIn M.makes M.init (beq_iff_eq.mp M.fn) (codeAny_mono (F.run _ X.stack _ _ ⟨Value.ref (s.heap.objs.size + 1) :: us,[]⟩ (Value.ref (s.heap.objs.size + 1) :: (us ++ ds)) _ _ E (hr.make C us [])
  (I2.env0.make C us []) (hb _ (Value.ref (s.heap.objs.size + 1) :: us) I2.kIn hl) r2 hq) fun r s' hq'=>?_))
 cases r with
 | error e=>exact hx pins σ _ _ e s' I2 hq'
 | ok fl=>
  cases fl with
  | ret u=>
   obtain⟨v,H',I3,rv,ev,q3⟩:=I2.after hq'
   subst ev
   exact⟨rv,⟨V.ref (s.heap.objs.size + 1),H',I3,rfl,q3⟩⟩
  | next=>exact False.elim hq'
  | brk=>exact False.elim hq'
  | cont=>exact False.elim hq'
theorem zti(M:Mk X.K C f)(F:FnOk X.prog X.w X.K X.mg X.base CX k f fd ps sp)(hr:Room (k + 1) X.A)(hg:Gl X x)(hm:X.mg x=some (.ref C))(hb:zeO X.K fd ps ds)(hd:Vals dvs ds)(hx:zhA CX X E)
  (ha:PA X (e :: es) t) (hdb:(x == ("__debug__" : Str))=false:=by decide) (he:starEach (e :: es) X.env=(false,eval e X.env) :: starEach es X.env:=by rfl) (hpl:(backTo pos (starEach es X.env)).any (·.1)=false:=by rfl) :
  PE X (.Call (.Name x p) (e :: es) [] pos) (zvA C sp dvs E t):=by
 intro pins s σ H Q I h
 refine wpAny_Call_Name_kw (zmm I hg hm ?_ hdb)
 refine PySem.W.callWith_K (h₀:=X.base) I.ok.mod.kin M.kp (thn (ha pos pins s σ H _ I h) fun us s1 ⟨vs,H1,I1,r,q⟩=>⟨I1.kIn,?_⟩) he hpl
 exact znl M F hr hb hd hx I1 r q
theorem zq1(M:Mk X.K C f)(F:FnOk X.prog X.w X.K X.mg X.base CX k f fd ps sp)(hr:Room (k + 1) X.A)(hg:Gl X x)(hm:X.mg x=some (.ref C))(hb:zeO X.K fd ps ds)(hd:Vals dvs ds)(hx:zhA CX X E)
  (hdb:(x == ("__debug__" : Str))=false:=by decide):PE X (.Call (.Name x p) [] [] pos) (zvA C sp dvs E tNil):=by
 intro pins s σ H Q I h
 refine wpAny_Call_Name_kw (zmm I hg hm ?_ hdb)
 exact PySem.W.callWith_K0 I.kIn M.kp (znl (us:=[]) M F hr hb hd hx I .nil h)
end
section
variable {X:Cx}{CX:CXT}{k:Nat}{f C:Addr}{fd:FuncData}{ps ks:List Str}{sp:Sp}{E:XK}{x m:Str}{p pos apos kpos:Pos}{e o:Expr}{es:List Expr}{kws:List Keyword}{te ta:TE}{t tk:TA}{nm:Option Str}
variable {g:List Value→List Value→List Value}{gV:List V→List V→List V}
end
structure zas(N P:List Str)(sc:Scope):Prop where
 kind:sc.kind=.function
 co:sc.isCoroutine=false
 gen:sc.isGenerator=false
 nd:N.Nodup
 pre:N.take P.length=P
 par:∀ x∈P,sc.names.lookup x=some .local∨sc.names.lookup x=some .cell
 nofree:∀ y∈sc.names,y.2≠.free
theorem zkZ{kindOf:Str→Option NameKind}{x:Str}:∀ {binds:List (Str×Value)} {m:Str→Option Value},(∀ v,(x,v)∉binds)→bindL kindOf binds m x=m x
 | [],_,_=>rfl
 | (n,v) :: r,m,h=>by
  unfold bindL
  rw[zkZ fun w hw=>h w (List.mem_cons_of_mem _ hw)]
  split
  ·have:x≠n:=by rintro rfl;exact h v List.mem_cons_self
   simp[this]
  ·rfl
theorem zk0{kindOf:Str→Option NameKind}{x:Str}:∀ {binds:List (Str×Value)} {m:Str→Option Value},(∀ v,(x,v)∉binds)→bindC kindOf binds m x=m x
 | [],_,_=>rfl
 | (n,v) :: r,m,h=>by
  unfold bindC
  rw[zk0 fun w hw=>h w (List.mem_cons_of_mem _ hw)]
  split
  ·rfl
  ·have:x≠n:=by rintro rfl;exact h v List.mem_cons_self
   simp[this]
theorem zk1{kindOf:Str→Option NameKind}{x:Str}{v:Value}:∀ {P:List Str} {vs:List Value} {i:Nat} {m:Str→Option Value},P.Nodup→P[i]? = some x→vs[i]? = some v→kindOf x=some .local→
  bindL kindOf (P.zip vs) m x=some v
 | [],_,_,_,_,h,_,_=>by simp at h
 | _ :: _,[],_,_,_,_,h,_=>by simp at h
 | p :: P,w :: vs,0,m,nd,h1,h2,hk=>by
  simp at h1 h2;subst h1;subst h2
  show bindL kindOf ((p,w) :: P.zip vs) m p=_
  unfold bindL
  rw[zkZ fun v hv=>(List.nodup_cons.mp nd).1 (List.of_mem_zip hv).1,if_pos hk]
  simp
 | p :: P,w :: vs,i + 1,m,nd,h1,h2,hk=>by
  show bindL kindOf ((p,w) :: P.zip vs) m x=_
  unfold bindL
  exact zk1 (i:=i) (List.nodup_cons.mp nd).2 (by simpa using h1) (by simpa using h2) hk
theorem zk2{kindOf:Str→Option NameKind}{x:Str}{v:Value}:∀ {P:List Str} {vs:List Value} {i:Nat} {m:Str→Option Value},P.Nodup→P[i]? = some x→vs[i]? = some v→kindOf x≠some .local→
  bindC kindOf (P.zip vs) m x=some v
 | [],_,_,_,_,h,_,_=>by simp at h
 | _ :: _,[],_,_,_,_,h,_=>by simp at h
 | p :: P,w :: vs,0,m,nd,h1,h2,hk=>by
  simp at h1 h2;subst h1;subst h2
  show bindC kindOf ((p,w) :: P.zip vs) m p=_
  unfold bindC
  rw[zk0 fun v hv=>(List.nodup_cons.mp nd).1 (List.of_mem_zip hv).1,if_neg hk]
  simp
 | p :: P,w :: vs,i + 1,m,nd,h1,h2,hk=>by
  show bindC kindOf ((p,w) :: P.zip vs) m x=_
  unfold bindC
  exact zk2 (i:=i) (List.nodup_cons.mp nd).2 (by simpa using h1) (by simpa using h2) hk
def start(N:List Str)(vs:List V):St:=vs.map some ++ List.replicate (N.length - vs.length) none
def cxOf(CX:CXT)(P:Program)(w:World)(K:PySem.W.Frag)(mg:Str→Option Value)(base:Heap)(N:List Str)(qual:Str)(scope:Scope)(f:Addr)(cd:Value)(A:Around)(outer:List Env)(s:Shared)(H:Hp)(E:XK):Cx where
 prog:=P
 w:=w
 K:=K
 mg:=mg
 base:=base
 A:=A.deeper (envOfC qual scope s.heap.objs.size f cd)
 N:=N
 s₀:=s
 H₀:=H
 env:=envOfC qual scope s.heap.objs.size f cd
 outer:=outer
 stack:=envOfC qual scope s.heap.objs.size f cd :: outer
 ex:=[]
 calm:=true
 fn:=fun _=>true
 pn:=[]
 xe:=fun e s'=>wpAny (model P w) (A.deeper (envOfC qual scope s.heap.objs.size f cd)) (leaving (envOfC qual scope s.heap.objs.size f cd) e) (fun _ s''=>CX outer H s E e s'') (fun e' s''=>CX outer H s E e' s'') s'
theorem znm{sc:Scope}{n:Nat}{x:Str}(h:sc.names.lookup x=some .cell):∃ c,(cellsFrom n sc.names []).lookup x=some c:=by
 have q:=PySem.W.cellsFrom_some sc.names n [] (.inl h)
 exact Option.isSome_iff_exists.mp q
theorem zpa{CX:CXT}{P:Program}{w:World}{K:PySem.W.Frag}{mg:Str→Option Value}{base:Heap}{N ps:List Str}{qual:Str}{scope:Scope}{f:Addr}{cd:Value}{A:Around}{outer:List Env}{s s1:Shared}{H:Hp}{E:XK}{us:List Value}{vs:List V}
  (S:zas N ps scope) (hd:A.handled=none) (e0:Env0 P w K mg base A outer s H) (hl:vs.length=ps.length) (r:Vals vs us)
  (x:InCallC s s.heap.objs.size (bindL (envOfC qual scope s.heap.objs.size f cd).kindOf (ps.zip us) fun _=>none) (cellsFrom (s.heap.objs.size + 1) scope.names []) (bindC (envOfC qual scope s.heap.objs.size f cd).kindOf (ps.zip us) fun _=>none) s1) :
  Inv (cxOf CX P w K mg base N qual scope f cd A outer s H E) [] (start N vs) H s1:=by
 have hpl:ps.length≤N.length:=by have:=congrArg List.length S.pre;rw[List.length_take] at this;omega
 obtain⟨h1,tk,rfl,hk⟩:=x.done
 have noA:∀ b:Addr,b∉(cxOf CX P w K mg base N qual scope f cd A outer s H E).ex:=fun b z=>absurd (show b∈([]:List Addr) from z) (by simp)
 refine⟨⟨e0.mod,S.kind,rfl,rfl,Nat.le_refl _,fun y z c h1 h2=>?_,fun y hy=>?_,fun y c _ h=>?_,fun _=>hd,Around.frames_deeper e0.frames,.inr ⟨rfl,rfl⟩,fun b z=>absurd z (noA b),e0.bs,e0.bsz,fun b _ _=>noA b,fun b z=>absurd z (noA b),e0.funs,e0.frf⟩,
  rfl,e0.bare,Un.kept hk,⟨_,x.toInCall.ns,fun i y v h1 h2 h3=>?_⟩,fun y c h=>⟨_,x.cell y c h⟩,e0.hok.fresh (Nat.le_refl _),fun y c h=>?_,fun p hp=>absurd (show p∈([]:List (Addr×Obj)) from hp) (by simp),e0.hok.kept hk,?_⟩
 ·exact name_of_addr x.apart (PySem.mem_of_lookup h1) (PySem.mem_of_lookup h2)
 ·have hy:scope.names.lookup y=some .cell∨scope.names.lookup y=some .free:=hy
  rcases hy with hy | hy
  ·exact znm hy
  ·exact absurd rfl (S.nofree _ (PySem.mem_of_lookup hy))
 ·exact Nat.le_of_lt (x.above y c (PySem.mem_of_lookup h))
 ·have hi:i < vs.length:=by
   unfold start at h2
   by_cases hi:i < vs.length
   ·exact hi
   ·rw[List.getElem?_append_right (by simpa using hi)] at h2
    rw[List.getElem?_replicate] at h2
    split at h2 <;> cases h2
  have ha:vs[i]? = some v:=by
   unfold start at h2
   rw[List.getElem?_append_left (by simpa using hi),List.getElem?_map] at h2
   cases e:vs[i]? with
   | none=>rw[e] at h2;cases h2
   | some a=>rw[e] at h2;cases h2;rfl
  obtain⟨u,hu,rv⟩:=r.get ha
  have hp:ps[i]? = some y:=by
   rw[←S.pre,List.getElem?_take_of_lt (by omega)];exact h1
  have ndP:ps.Nodup:=by rw[←S.pre];exact S.nd.sublist (List.take_sublist _ _)
  refine⟨u,rv,?_⟩
  rcases S.par y (List.mem_of_getElem? hp) with k | k
  ·exact .inl ⟨k,zk1 ndP hp hu k⟩
  ·obtain⟨c,e⟩:=znm (n:=s.heap.objs.size + 1) k
   refine .inr ⟨.inl k,c,e,?_⟩
   have q:=x.cell y c e
   rw[zk2 ndP hp hu (by show scope.names.lookup y≠_;rw[k];decide)] at q
   exact q
 ·exact e0.hok.fresh (Nat.le_of_lt (x.above y c (PySem.mem_of_lookup h)))
 ·unfold start
  show _=N.length
  rw[List.length_append,List.length_map,List.length_replicate]
  omega
theorem zxn{CX:CXT}{P:Program}{w:World}{K:PySem.W.Frag}{mg:Str→Option Value}{base:Heap}{k:Nat}{f:Addr}{name qual:Str}{params:Arguments}{body:List Stmt}{scope:Scope}{dV kV doc pm cdv ct oc:Value}{an od:Option Addr}
  {osl:Array (Option Value)} {N ps:List Str} {sp:Sp} (lk:K.lookup f=some ⟨oc,od,.func (PySem.W.fnOf name qual params body scope dV kV doc pm an cdv ct),osl⟩) (hcd:PySem.W.codeIn K cdv qual=true) (S:zas N ps scope)
  (len:∀ vs H Q E,sp vs H Q E→vs.length=ps.length)
  (hbody:∀ (A:Around) (outer:List Env) (s:Shared) (H:Hp) (vs:List V) (Q:VK) (E:XK),Room k (A.deeper (envOfC qual scope s.heap.objs.size f cdv))→sp vs H Q E→
   ∃ t,PSs (cxOf CX P w K mg base N qual scope f cdv A outer s H E) body t∧t {nx:=fun _ H'=>Q .non H',rt:=Q} (start N vs) H) :
  FnOk P w K mg base CX (k + 1) f (PySem.W.fnOf name qual params body scope dV kV doc pm an cdv ct) ps sp:=by
 refine⟨len,fun A outer s H args us vs Q E hr e0 hb r hsp=>?_⟩
 have hl:=len _ _ _ _ hsp
 have KX:K.In s.heap:=e0.mod.kin.keeps fun b o e=>(e0.bs b o e).1
 have lim:s.heap.NoLimit:=e0.mod.nolimit.keeps fun b o e=>(e0.bs b o e).1
 have hkind:∀ y∈ps.zip us,scope.names.lookup y.1=some .local∨(scope.names.lookup y.1=some .cell∧((cellsFrom (s.heap.objs.size + 1) scope.names []).lookup y.1).isSome=true):=fun⟨n,v⟩ hy=>by
  rcases S.par n (List.of_mem_zip hy).1 with q | q
  ·exact .inl q
  ·exact .inr ⟨q,PySem.W.cellsFrom_some _ _ _ (.inl q)⟩
 refine codeAny_call_function hr.depth (KX _ _ lk) rfl S.co S.gen rfl (PySem.W.codeRec_of KX hcd) (hb _ _ _ _ ?_)
 refine wpAny_newFunctionEnv_cells S.kind hkind fun env he s1 x=>?_
 subst he
 refine⟨lim.keeps x.toInCall.keep,codeAny_func ?_⟩
 obtain⟨t,ht,hq⟩:=hbody A outer s H vs Q E (hr.deeper _) hsp
 have I:Inv (cxOf CX P w K mg base N qual scope f cdv A outer s H E) [] (start N vs) H s1:=zpa S hr.hd e0 hl r x
 refine wpAny_mono (ht [] s1 (start N vs) H _ I hq) (fun fl s' hs=>?_) fun e s' hs=>hs
 have fin:∀ {σ':St} {H':Hp} {v:V} {u:Value},Inv (cxOf CX P w K mg base N qual scope f cdv A outer s H E) [] σ' H' s'→RelV v u→Q v H'→CE outer P w H s Q u s':=
  fun {σ' H' v u} J rv q=>⟨v,H',J.os,J.bare,J.base,J.hok,rv,q⟩
 cases fl with
 | ret u=>
  obtain⟨v,σ',H',J,rv,q⟩:=hs
  exact fin J rv q
 | next=>
  obtain⟨σ',H',J,q⟩:=hs
  exact fin (v:=V.non) (u:=Value.none) J rfl q
 | brk=>
  obtain⟨_,_,_,q⟩:=hs
  exact False.elim q
 | cont=>
  obtain⟨_,_,_,q⟩:=hs
  exact False.elim q
end L2
namespace L2
open PySem PySem.Spec PyProof.Rows
section
variable {X:Cx}{x:Str}{p pos:Pos}{e:Expr}{es:List Expr}{t:TA}{id T:String}{r:List V→Hp→VK→Prop}
def tCB(r:List V→Hp→VK→Prop)(t:TA):TE:=fun σ H Q=>t σ H fun vs H1=>r vs H1 Q
theorem zq2(hc:zbx X (.builtin id) r)(hg:Gl X x)(hm:X.mg x=none)(hv:bootBuiltins x=some (.builtin id))(ha:PA X (e :: es) t)(hn:x≠"__name__":=by decide)(hdb:(x == ("__debug__" : Str))=false:=by decide)
  (he:starEach (e :: es) X.env=(false,eval e X.env) :: starEach es X.env:=by rfl) (hpl:(backTo pos (starEach es X.env)).any (·.1)=false:=by rfl):PE X (.Call (.Name x p) (e :: es) [] pos) (tCB r t):=by
 intro pins s σ H Q I h
 refine wpAny_Call_Name_kw (zkW I hg hm hv ?_ hn hdb)
 exact PyProof.Rows.callWith_builtin1 (thn (ha pos pins s σ H _ I h) fun us s1 ⟨vs,H1,I1,r1,q1⟩=>hc pins s1 σ H1 vs us Q I1 r1 q1) he hpl
theorem zpb(hc:zbx X (.type T) r)(hg:Gl X x)(hm:X.mg x=none)(hv:bootBuiltins x=some (.type T))(ha:PA X (e :: es) t)(hn:x≠"__name__":=by decide)(hdb:(x == ("__debug__" : Str))=false:=by decide)
  (he:starEach (e :: es) X.env=(false,eval e X.env) :: starEach es X.env:=by rfl) (hpl:(backTo pos (starEach es X.env)).any (·.1)=false:=by rfl):PE X (.Call (.Name x p) (e :: es) [] pos) (tCB r t):=by
 intro pins s σ H Q I h
 refine wpAny_Call_Name_kw (zkW I hg hm hv ?_ hn hdb)
 exact PyProof.Rows.callWith_type1 (thn (ha pos pins s σ H _ I h) fun us s1 ⟨vs,H1,I1,r1,q1⟩=>hc pins s1 σ H1 vs us Q I1 r1 q1) he hpl
end
end L2
namespace HT
open PySem PyProof.Rows
section
open PySem.SeqAt
open PySem.AutoSeq1 (wpAny_loadPart')
open PySem.MeetsSeq PySem.MeetsSeq2 PySem.MeetsSeq3
end
section
variable {prog:Program}{w:World}{A:Around}{E:Value→Shared→Prop}{s:Shared}
theorem cat_tup{t b:Addr}{vs ws:List Value}{Q:Value→Shared→Prop}(ht:IsTup s.heap t vs.toArray)(hb:IsTup s.heap b ws.toArray)(hv:vs≠[])
  (h1:ws=[]→Q (.ref t) s) (h2:ws≠[]→Q (.ref s.heap.objs.size) {s with heap:=s.heap.push {cls:=.type "tuple",data:=.seq (vs ++ ws).toArray}})
  (hsz:vs.length + ws.length≤sizeLine):wpAny (model prog w) A (binaryOp .Add (.ref t) (.ref b)) Q E s:=by
 obtain⟨⟨cls,dd,data,sl⟩,ho,hc,n,hd⟩:=id ht
 obtain⟨⟨cls2,dd2,data2,sl2⟩,ho2,hc2,n2,hd2⟩:=id hb
 simp only at hc hd hc2 hd2
 subst hc hd hc2 hd2
 have e:vs.toArray ++ ws.toArray=(vs ++ ws).toArray:=by simp
 by_cases hw:ws=[]
 ·exact concat_meets ⟨_,ho,rfl⟩ ⟨_,ho2,rfl⟩ noFill_tuple_add seq_tuple_add PySem.F.slot_tuple_add PySem.F.entry_tuple_add (PySem.F.args_tuple_add_2 _ _)
   (tuple_addW1 t b vs.toArray ws.toArray n n2 dd dd2 sl sl2 (by simpa using hv) (by simp[hw])) ⟨ho,ho2,h1 hw⟩
 ·refine concat_meets ⟨_,ho,rfl⟩ ⟨_,ho2,rfl⟩ noFill_tuple_add seq_tuple_add PySem.F.slot_tuple_add PySem.F.entry_tuple_add (PySem.F.args_tuple_add_2 _ _)
   (tuple_addW2 t b vs.toArray ws.toArray n n2 dd dd2 sl sl2 (by simpa using hv) (by simpa using hw) (by rw[List.size_toArray,List.size_toArray];exact hsz)) ⟨ho,ho2,?_⟩
  rw[e]
  exact h2 hw
def sIx(n d:Nat):Option Int→Nat
 | none=>d
 | some v=>if v < 0 then(v + (n:Int)).toNat else min v.toNat n
theorem zvB(n d:Nat)(hd:d≤n)(o:Option Int):sIx n d o≤n:=by
 cases o with
 | none=>exact hd
 | some v=>
  show(if v < 0 then(v + (n:Int)).toNat else min v.toNat n)≤n
  by_cases hv:v < 0
  ·rw[if_pos hv];omega
  ·rw[if_neg hv];exact Nat.min_le_right _ _
theorem zpc(v:Int)(n d:Nat):(if v < 0 then max (v + (n:Int)) 0 else min v (n:Int))=((sIx n d (some v):Nat):Int):=by
 show(if v < 0 then max (v + (n:Int)) 0 else min v (n:Int))=(((if v < 0 then(v + (n:Int)).toNat else min v.toNat n):Nat):Int)
 by_cases hv:v < 0
 ·simp only[if_pos hv];omega
 ·simp only[if_neg hv];omega
theorem zom(lo hi:Option Int)(n:Nat):Builtin.Slice.sliceAdjust lo hi 1 (n:Int)=(((sIx n 0 lo:Nat):Int),((sIx n n hi:Nat):Int)):=by
 have h1:¬ ((1:Int) < 0):=by omega
 unfold Builtin.Slice.sliceAdjust
 simp only[h1,if_false]
 refine Prod.ext ?_ ?_
 ·cases lo with
  | none=>rfl
  | some v=>exact zpc v n 0
 ·cases hi with
  | none=>rfl
  | some v=>exact zpc v n n
theorem zon(i j:Nat):Builtin.Slice.slicePlaces (i:Int) (j:Int) 1=j - i:=by
 unfold Builtin.Slice.slicePlaces
 have h1:(1:Int) > 0:=by omega
 simp only[h1,if_true,Int.ediv_one]
 split <;> omega
theorem zjy{v:Value}{o:Option Int}{Q:Option Int→Shared→Prop}(p:IsPart v o)(h:Q o s):wpAny (model prog w) A (Builtin.Slice.slicePartIndex v) Q E s:=by
 cases p with
 | none=>exact slicePart_none h
 | int i t=>exact slicePart_int h
theorem zhP{sl:Addr}{vl vu:Value}{lo hi:Option Int}{n:Nat}{Q:Int×Int×Nat→Shared→Prop}(hs:s.heap.IsSliceOf sl vl vu .none)(pl:IsPart vl lo)(pu:IsPart vu hi)
  (h:Q (((sIx n 0 lo:Nat):Int),1,sIx n n hi - sIx n 0 lo) s):wpAny (model prog w) A (Builtin.Slice.sliceApplied (.ref sl) (pure (n:Int))) Q E s:=by
 obtain⟨os,hos,hcs,hds⟩:=id hs
 unfold Builtin.Slice.sliceApplied Builtin.Slice.sliceFields
 refine wpAny_bind (wpAny_bind (wpAny_field hos hds (x:=vl) rfl (wpAny_bind (wpAny_field hos hds (x:=vu) rfl (wpAny_bind (wpAny_field hos hds (x:=.none) rfl (wpAny_pure ?_)))))))
 refine wpAny_bind (slicePart_none ?_)
 show wpAny _ _ (if ((1:Int) == 0)=true then _ else _) _ _ s
 rw[if_neg (by decide)]
 refine wpAny_bind (zjy pl (wpAny_bind (zjy pu (wpAny_bind (wpAny_pure ?_)))))
 show wpAny _ _ (match Builtin.Slice.sliceAdjust lo hi 1 (n:Int) with | (lo,hi)=>pure (lo,(1:Int),Builtin.Slice.slicePlaces lo hi 1)) _ _ s
 rw[zom lo hi n]
 show wpAny _ _ (pure (((sIx n 0 lo:Nat):Int),(1:Int),Builtin.Slice.slicePlaces ((sIx n 0 lo:Nat):Int) ((sIx n n hi:Nat):Int) 1)) _ _ s
 rw[zon]
 exact wpAny_pure h
theorem zq3(xs:Array Value)(i k:Nat):((List.range k).filterMap fun(m:Nat)=>xs[((i:Int) + (m:Int) * 1).toNat]?).toArray=((xs.toList.drop i).take k).toArray:=by
 have e:(fun(m:Nat)=>xs[((i:Int) + (m:Int) * 1).toNat]?)=fun m=>xs[i + m]?:=by
  funext m
  have:((i:Int) + (m:Int) * 1).toNat=i + m:=by omega
  rw[this]
 rw[e]
 have:=pick_run xs i k
 rw[List.filterMap_map] at this
 have e2:((fun x=>xs[x]?) ∘ fun x=>i + x)=fun m=>xs[i + m]?:=rfl
 rw[e2] at this
 rw[this]
theorem getItem_tuple_cut{t sl:Addr}{items:Array Value}{vl vu:Value}{lo hi:Option Int}{Q:Value→Shared→Prop}(ht:IsTup s.heap t items)(hs:s.heap.IsSliceOf sl vl vu .none)(pl:IsPart vl lo)(pu:IsPart vu hi)
  (hw:¬ (sIx items.size 0 lo=0∧sIx items.size items.size hi=items.size))
  (h:Q (.ref s.heap.objs.size) {s with heap:=s.heap.push {cls:=.type "tuple",data:=.seq ((items.toList.drop (sIx items.size 0 lo)).take (sIx items.size items.size hi - sIx items.size 0 lo)).toArray}})
  (hsz:items.size≤sizeLine):wpAny (model prog w) A (getItem (.ref t) (.ref sl)) Q E s:=by
 have htake:sizeOk (.seq ((items.toList.drop (sIx items.size 0 lo)).take (sIx items.size items.size hi - sIx items.size 0 lo)).toArray):=by
  show((items.toList.drop (sIx items.size 0 lo)).take (sIx items.size items.size hi - sIx items.size 0 lo)).toArray.size≤sizeLine
  rw[List.size_toArray,List.length_take,List.length_drop,Array.length_toList]
  omega
 have hj:sIx items.size items.size hi≤items.size:=zvB _ _ (Nat.le_refl _) hi
 obtain⟨os,hos,hcs,hds⟩:=id hs
 have hTs:s.TypeIs (.ref sl) "slice":=⟨os,hos,hcs⟩
 unfold getItem
 try with_reducible refine wpAny_holding ?_
 first | refine wpAny_bind (wpAny_pure ?_) | skip
 refine wpAny_bind (wpAny_sequenceKey ht.typeIs (by decide) ?_)
 refine wpAny_bind (wpAny_callSpecial?_slot (name:=Str.ofString "__getitem__") ht.typeIs PyProof.Rows.slot_tuple_getitem
  (wpAny_call_entry PyProof.Rows.slot_tuple_getitem ht.typeIs entry_tuple_getitem ?_ (args_tuple_getitem _ _)))
 show wpAny _ _ (Builtin.Tuple.tupleItemsOf (.ref t) >>= _) _ _ s
 refine wpAny_bind (tupleItemsOf_ ht ?_)
 refine wpAny_bind (wpAny_typeOf hTs ?_)
 rw[if_pos (by decide)]
 refine wpAny_bind (zhP hs pl pu ?_)
 have hno:¬ ((((sIx items.size 0 lo:Nat):Int) == 0 && (1:Int) == 1 && (sIx items.size items.size hi - sIx items.size 0 lo) == items.size)=true):=by
  intro q
  rw[Bool.and_eq_true,Bool.and_eq_true] at q
  have q1:((sIx items.size 0 lo:Nat):Int)=0:=eq_of_beq q.1.1
  have q2:sIx items.size items.size hi - sIx items.size 0 lo=items.size:=eq_of_beq q.2
  exact hw ⟨by omega,by omega⟩
 show wpAny _ _ (if (((sIx items.size 0 lo:Nat):Int) == 0 && (1:Int) == 1 && (sIx items.size items.size hi - sIx items.size 0 lo) == items.size)=true then _ else _) _ _ s
 rw[if_neg hno,zq3]
 first
  | exact wpAny_bind (m:=Builtin.Tuple.tupleExact _) (wpAny_newObj_type (wpAny_pure ⟨_,rfl,wpAny_pure h⟩) htake)
  | exact wpAny_bind (m:=Builtin.Tuple.tupleExact _) (wpAny_newObj_type (wpAny_bind (wpAny_pure (wpAny_pure ⟨_,rfl,wpAny_pure h⟩))) htake)
  | exact wpAny_bind (wpAny_bind (m:=Builtin.Tuple.tupleExact _) (wpAny_newObj_type (wpAny_pure (wpAny_pure ⟨_,rfl,wpAny_pure h⟩)) htake))
  | exact wpAny_bind (wpAny_bind (m:=Builtin.Tuple.tupleExact _) (wpAny_newObj_type (wpAny_pure ⟨_,rfl,wpAny_pure h⟩) htake))
end
end HT
namespace L2
open PySem PySem.Spec PyProof.Rows
abbrev TO:=St→Hp→(Option Int→Hp→Prop)→Prop
def PO(X:Cx)(e:Option Expr)(t:TO):Prop:=
 ∀ (pins:List (Addr×Obj)) (s:Shared) (σ:St) (H:Hp) (Q:Option Int→Hp→Prop),Inv X pins σ H s→t σ H Q→
  wpAny (model X.prog X.w) X.A (evalPart e X.env) (fun u s'=>∃ o H',Inv X pins σ H' s'∧IsPart u o∧Q o H') X.xe s
def ztj:TO:=fun _ H Q=>Q none H
def zxo(t:TE):TO:=fun σ H Q=>t σ H fun x H1=>∃ i,x=.int i∧Q (some i) H1
section
variable {X:Cx}{e:Expr}{te:TE}{lo hi:Option Expr}{tl th:TO}{pos p2:Pos}
theorem ztk:PO X none ztj:=by
 intro pins s σ H Q I h
 rw[evalPart_none]
 exact wpAny_pure ⟨none,H,I,.none,h⟩
theorem ztl(h:PE X e te):PO X (some e) (zxo te):=by
 intro pins s σ H Q I hw
 rw[evalPart_some]
 refine thn (h pins s σ H _ I hw) fun u s1 ⟨x,H1,I1,r1,q1⟩=>?_
 obtain⟨i,rfl,q⟩:=q1
 obtain⟨t,rfl⟩:=r1
 exact⟨some i,H1,I1,.int i t,q⟩
def SlR(X:Cx)(r:V→Option Int→Option Int→Hp→VK→Prop):Prop:=
 ∀ (pins:List (Addr×Obj)) (s:Shared) (σ:St) (H:Hp) (x:V) (v vl vu:Value) (lo hi:Option Int) (sl:Addr) (Q:VK),Inv X pins σ H s→RelV x v→s.heap.IsSliceOf sl vl vu .none→IsPart vl lo→IsPart vu hi→r x lo hi H Q→
  ∃ T id,typeLookup (.type T) "__getitem__" = pure (some (.builtin id))∧s.TypeIs v T∧wpAny (model X.prog X.w) X.A (getItem v (.ref sl)) (EP X pins σ Q) X.xe s
def tSl(r:V→Option Int→Option Int→Hp→VK→Prop)(te:TE)(tl th:TO):TE:=fun σ H Q=>te σ H fun x H1=>tl σ H1 fun l H2=>th σ H2 fun u H3=>r x l u H3 Q
theorem zq4{r:V→Option Int→Option Int→Hp→VK→Prop}(hr:SlR X r)(he:PE X e te)(hl:PO X lo tl)(hu:PO X hi th):PE X (.Subscript e (.Slice lo hi none p2) pos) (tSl r te tl th):=by
 intro pins s σ H Q I h
 refine Subscript_ (thn (he pins s σ H _ I h) fun v s1 ⟨x,H1,I1,r1,q1⟩=>?_)
 refine wpAny_Slice (thn (hl pins s1 σ H1 _ I1 q1) fun vl s2 ⟨l,H2,I2,pl,q2⟩=>thn (hu pins s2 σ H2 _ I2 q2) fun vu s3 ⟨u,H3,I3,pu,q3⟩=>?_)
 rw[evalPart_none]
 refine wpAny_pure ?_
 have I4:Inv X pins σ H3 {s3 with heap:=s3.heap.push {cls:=.type "slice",data:=.fields #[vl,vu,.none]}}:=I3.kept (t':=s3.toks) fun b ob q=>Heap.get?_push_of_some _ q
 obtain⟨T,id,hT,ht,hg⟩:=hr pins {s3 with heap:=s3.heap.push {cls:=.type "slice",data:=.fields #[vl,vu,.none]}} σ H3 x v vl vu l u s3.heap.objs.size Q I4 r1 (Heap.IsSliceOf.new ..) pl pu q3
 show wpAny (model X.prog X.w) X.A (subscriptTail e (.Slice lo hi none p2) v (.ref s3.heap.objs.size)) (EP X pins σ Q) X.xe {s3 with heap:=s3.heap.push {cls:=.type "slice",data:=.fields #[vl,vu,.none]}}
 exact tail_any (ops:=[.ref s3.heap.objs.size,v]) ht hT hg (by with_unfolding_all rfl)
def cutV(xs:List V)(lo hi:Option Int):List V:=(xs.drop (HT.sIx xs.length 0 lo)).take (HT.sIx xs.length xs.length hi - HT.sIx xs.length 0 lo)
theorem zik(xs:List V)(lo hi:Option Int):(cutV xs lo hi).length≤xs.length:=by
 unfold cutV
 rw[List.length_take,List.length_drop]
 omega
def rSlT(K:PySem.W.Frag):V→Option Int→Option Int→Hp→VK→Prop:=fun x lo hi H Q=>∃ a xs,x=.ref a∧SqT K H a xs∧
 ¬ (HT.sIx xs.length 0 lo=0∧HT.sIx xs.length xs.length hi=xs.length)∧∀ p,H p=none→Q (.ref p) (upd H p (.tup (cutV xs lo hi)))
theorem zvC:SlR X (rSlT X.K):=by
 intro pins s σ H x v vl vu lo hi sl Q I rx hs pl pu h
 obtain⟨a,xs,rfl,hx,hw,q⟩:=h
 cases rx
 obtain⟨its,r,ht,hz⟩:=I.tuple hx
 have hlen:its.toArray.size=xs.length:=by rw[List.size_toArray];exact r.length.symm
 refine⟨"tuple",_,PyProof.Rows.slot_tuple_getitem.lookup,ht.typeIs,?_⟩
 refine HT.getItem_tuple_cut ht hs pl pu (by rw[hlen];exact hw) ?_ (by rw[hlen];exact hz)
 rw[hlen]
 refine⟨.ref s.heap.objs.size,_,I.laid (t':=s.toks) (o:=.tup (cutV xs lo hi)) (fun b ob q=>Heap.get?_push_of_some _ q) (Nat.le_refl _) ?_,rfl,q _ (I.hok.fresh (Nat.le_refl _))⟩
 exact⟨Nat.le_trans (zik xs lo hi) hz,_,(r.drop (HT.sIx xs.length 0 lo)).take (HT.sIx xs.length xs.length hi - HT.sIx xs.length 0 lo),IsTup.new _ _⟩
def zxp(K:PySem.W.Frag):R2:=fun x y H Q=>∃ a b xs ys,x=.ref a∧y=.ref b∧SqT K H a xs∧SqT K H b ys∧xs≠[]∧xs.length + ys.length≤sizeLine∧
 (ys=[]→Q (.ref a) H)∧(ys≠[]→∀ p,H p=none→Q (.ref p) (upd H p (.tup (xs ++ ys))))
theorem Vals.nil_iff{xs:List V}{us:List Value}(r:Vals xs us):us=[]↔xs=[]:=by
 cases r with
 | nil=>simp
 | cons _ _=>simp
theorem ztm:OpR X (binaryOp .Add) (zxp X.K):=by
 intro pins s σ H x y v u Q I rx ry h
 obtain⟨a,b,xs,ys,rfl,rfl,ha,hb,hx,hz,q1,q2⟩:=h
 cases rx
 cases ry
 obtain⟨its,r1,p1,_⟩:=I.tuple ha
 obtain⟨its2,r2,p2,_⟩:=I.tuple hb
 refine HT.cat_tup p1 p2 (fun z=>hx (r1.nil_iff.mp z)) (fun z=>⟨.ref a,H,I,rfl,q1 (r2.nil_iff.mp z)⟩) (fun z=>?_) (by rw[←r1.length,←r2.length];exact hz)
 refine⟨.ref s.heap.objs.size,_,I.laid (t':=s.toks) (o:=.tup (xs ++ ys)) (fun b ob q=>Heap.get?_push_of_some _ q) (Nat.le_refl _) ?_,rfl,q2 (fun w=>z (r2.nil_iff.mpr w)) _ (I.hok.fresh (Nat.le_refl _))⟩
 exact⟨by rw[List.length_append];exact hz,_,r1.append r2,IsTup.new _ _⟩
end
end L2
namespace L2
open PySem PySem.Spec PyProof.Rows
def ixN(n:Nat)(i:Int):Option Nat:=if 0≤i then(if i < n then some i.toNat else none) else if -(n:Int)≤i then some (i + n).toNat else none
def atI{α:Type}(xs:List α)(i:Int):Option α:=(ixN xs.length i).bind fun j=>xs[j]?
theorem zpd{n:Nat}{i:Int}{j:Nat}(h:ixN n i=some j):seqIndex? i n=some j∧j < n∧-(n:Int)≤i∧i < n:=by
 unfold ixN at h
 by_cases h0:0≤i
 ·rw[if_pos h0] at h
  by_cases h1:i < n
  ·rw[if_pos h1] at h
   have e:i.toNat=j:=Option.some.inj h
   exact⟨by rw[seqIndex_of h0 h1,e],by omega,by omega,h1⟩
  ·rw[if_neg h1] at h;cases h
 ·rw[if_neg h0] at h
  by_cases h1 : -(n:Int)≤i
  ·rw[if_pos h1] at h
   have e:(i + n).toNat=j:=Option.some.inj h
   exact⟨by rw[seqIndex_neg (by omega) h1,e],by omega,h1,by omega⟩
  ·rw[if_neg h1] at h;cases h
theorem zmn{α:Type}{xs:List α}{i:Int}{v:α}(h:atI xs i=some v):∃ j,seqIndex? i xs.length=some j∧xs[j]? = some v∧j < xs.length∧-(xs.length:Int)≤i∧i < xs.length:=by
 unfold atI at h
 cases e:ixN xs.length i with
 | none=>rw[e] at h;cases h
 | some j=>
  rw[e] at h
  obtain⟨h1,h2,h3,h4⟩:=zpd e
  exact⟨j,h1,h,h2,h3,h4⟩
theorem zg9{α:Type}{xs:List α}{j:Nat}{v:α}(h:xs[j]? = some v):atI xs (j:Int)=some v:=by
 have hj:j < xs.length:=(List.getElem?_eq_some_iff.mp h).1
 have e:ixN xs.length (j:Int)=some j:=by
  unfold ixN
  rw[if_pos (by omega),if_pos (by omega)];simp
 unfold atI;rw[e];exact h
theorem znn{α:Type}(xs:List α)(v:α):atI (xs ++ [v]) (-1)=some v:=by
 have hl:(xs ++ [v]).length=xs.length + 1:=by simp
 have e:ixN (xs ++ [v]).length (-1)=some xs.length:=by
  unfold ixN
  rw[hl,if_neg (by decide),if_pos (by omega)]
  congr 1
  omega
 unfold atI
 rw[e]
 show(xs ++ [v])[xs.length]? = some v
 simp
def zpe(b:Expr):Prop:=∀ o i,subscripted b false o i=operate [o,i] (getItem o i)
def IxR(X:Cx)(r:R2):Prop:=
 ∀ (value slice:Expr) (pins:List (Addr×Obj)) (s:Shared) (σ:St) (H:Hp) (x y:V) (v u:Value) (Q:VK),Inv X pins σ H s→RelV x v→RelV y u→r x y H Q→
  subscripted slice false v u=operate [v,u] (getItem v u)→wpAny (model X.prog X.w) X.A (subscriptTail value slice v u) (EP X pins σ Q) X.xe s
def MtR(X:Cx)(id:String)(r:V→List V→Hp→VK→Prop):Prop:=
 ∀ (pins:List (Addr×Obj)) (s:Shared) (σ:St) (H:Hp) (x:V) (xs:List V) (v:Value) (us:List Value) (Q:VK),Inv X pins σ H s→RelV x v→Vals xs us→r x xs H Q→
  wpAny (model X.prog X.w) X.A (call (.builtin id) (v :: us)) (EP X pins σ Q) X.xe s
section
variable {X:Cx}{a b:Expr}{ta tb:TE}{pos:Pos}
theorem zxq{r:R2}(hr:IxR X r)(ha:PE X a ta)(hb:PE X b tb)(hs:zpe b):PE X (.Subscript a b pos) (tOp r ta tb):=by
 intro pins s σ H Q I h
 exact Subscript_ (binT ha hb I h fun v u s2 x y H2 I2 rx ry q=>hr a b pins s2 σ H2 x y v u Q I2 rx ry q (hs _ _))
def rIxL(K:PySem.W.Frag):R2:=fun x y H Q=>∃ p xs i v,x=.ref p∧y=.int i∧SqL K H p xs∧atI xs i=some v∧Q v H
def rIxT(K:PySem.W.Frag):R2:=fun x y H Q=>∃ p xs i v,x=.ref p∧y=.int i∧SqT K H p xs∧atI xs i=some v∧Q v H
def rIxS:R2:=fun x y H Q=>∃ z i c,x=.str z∧y=.int i∧z.length≤sizeLine∧atI z.cps.toList i=some c∧Q (.str ⟨#[c]⟩) H
theorem zmo:IxR X (rIxL X.K):=by
 intro value slice pins s σ H x y v u Q I rx ry h hs
 obtain⟨p,xs,i,z,rfl,rfl,hq,he,q⟩:=h
 cases rx
 obtain⟨t,rfl⟩:=ry
 obtain⟨its,r,pl,hz⟩:=I.list hq
 obtain⟨j,h1,h2,h3,h4,h5⟩:=zmn he
 obtain⟨w,ew,rw'⟩:=r.get h2
 have hl:=r.length
 have hn:=zig
 have fin:EP X pins σ Q w s:=⟨z,H,I,rw',q⟩
 by_cases h0:0≤i
 ·have hj:i.toNat=j:=by
   rw[seqIndex_of h0 h5] at h1
   exact Option.some.inj h1
  exact item_listR pl.isList h0 (by omega) (by rw[hj];simpa using ew) fin hs
 ·have hj:(i + (its.toArray.size:Int)).toNat=j:=by
   rw[seqIndex_neg (by omega) h4] at h1
   rw[List.size_toArray,←hl]
   exact Option.some.inj h1
  exact subscriptTail_builtinR (x:=w) pl.isList.typeIs slot_list_getitem.lookup
   (wpAny_getItem_list_neg (Q:=fun r s'=>r=w∧EP X pins σ Q r s') pl.isList (by omega) (by rw[List.size_toArray] <;> omega) (by omega) (by rw[hj];simpa using ew) ⟨rfl,fin⟩) hs
theorem zvD:IxR X (rIxT X.K):=by
 intro value slice pins s σ H x y v u Q I rx ry h hs
 obtain⟨p,xs,i,z,rfl,rfl,hq,he,q⟩:=h
 cases rx
 obtain⟨t,rfl⟩:=ry
 obtain⟨its,r,pl,hz⟩:=I.tuple hq
 obtain⟨j,h1,h2,h3,h4,h5⟩:=zmn he
 obtain⟨w,ew,rw'⟩:=r.get h2
 have hl:=r.length
 have hn:=zig
 have fin:EP X pins σ Q w s:=⟨z,H,I,rw',q⟩
 exact subscriptTail_builtinR (x:=w) pl.typeIs slot_tuple_getitem.lookup
  (getItem_tuple (j:=j) (Q:=fun r s'=>r=w∧EP X pins σ Q r s') pl (by omega) (by omega) (by rw[List.size_toArray,←hl];exact h1) (by simpa using ew) ⟨rfl,fin⟩) hs
theorem zvE:IxR X rIxS:=by
 intro value slice pins s σ H x y v u Q I rx ry h hs
 obtain⟨z,i,c,rfl,rfl,hz,he,q⟩:=h
 obtain⟨t,rfl⟩:=rx
 obtain⟨t',rfl⟩:=ry
 obtain⟨j,h1,h2,h3,h4,h5⟩:=zmn he
 have hl:z.cps.toList.length=z.length:=by simp[Str.length]
 rw[hl] at h1 h4 h5
 have hn:=zig
 exact tail_any (typeIs_str s z t) slot_str_getitem.lookup (getItem_str (c:=c) (by
  have e1:decide (i < -(2 ^ 63:Int))=false:=decide_eq_false (by omega)
  have e2:decide (i ≥ 2 ^ 63)=false:=decide_eq_false (by omega)
  rw[e1,e2,Bool.or_false]) (by rw[h1];simpa using h2) ⟨.str ⟨#[c]⟩,H,I.tok _,⟨_,rfl⟩,q⟩) hs
theorem zoo(its:List Value)(n j:Nat)(u:Value):Obj.mapSeq (·.setIfInBounds j u) {cls:=.type "list",data:=.seq its.toArray n} = {cls:=.type "list",data:=.seq (its.set j u).toArray n}:=by
 simp[Obj.mapSeq]
theorem Inv.lst{pins:List (Addr×Obj)}{σ:St}{H:Hp}{s:Shared}{p:Addr}{xs:List V}(I:Inv X pins σ H s)(h:H p=some (.lst xs)) :
  ∃ (its:List Value) (n:Nat),Vals xs its∧s.heap.get? p=some {cls:=.type "list",data:=.seq its.toArray n}∧xs.length≤sizeLine:=by
 obtain⟨z,its,n,r,e⟩:=I.hok p _ h
 exact⟨its,n,r,e,z⟩
theorem Inv.lstUpd{pins:List (Addr×Obj)}{σ:St}{H:Hp}{s:Shared}{p:Addr}{xs ys:List V}{its its':List Value}{n n':Nat}{f:Obj→Obj}(I:Inv X pins σ H s)(h:H p=some (.lst xs))
  (ho:s.heap.get? p=some {cls:=.type "list",data:=.seq its.toArray n}) (hf:f {cls:=.type "list",data:=.seq its.toArray n} = {cls:=.type "list",data:=.seq its'.toArray n'}) (r:Vals ys its') (hz:ys.length≤sizeLine) (t:Nat) :
  Inv X pins σ (upd H p (.lst ys)) {s with heap:=s.heap.update p f,toks:=t}:=by
 have e:(s.heap.update p f).get? p=some {cls:=.type "list",data:=.seq its'.toArray n'}:=by
  rw[Heap.get?_update_self f ho (by rw[hf] <;> rfl),hf]
 refine I.write (x:=p) (e:=p) (by rw[h];trivial) (.inl rfl) (fun b u hb q=>(Heap.get?_update_other _ _ (Ne.symm hb)).trans q) ⟨_,e⟩ ?_
 exact⟨hz,its',n',r,e⟩
def zxr:V→V→V→Hp→(Hp→Prop)→Prop:=fun o i v H Q=>∃ p xs k j,o=.ref p∧i=.int k∧H p=some (.lst xs)∧ixN xs.length k=some j∧Q (upd H p (.lst (xs.set j v)))
theorem zq5:PSet X zxr:=by
 intro pins s σ H o i v ov iv u Q I ro ri rv h
 obtain⟨p,xs,k,j,rfl,rfl,hp,hj,q⟩:=h
 cases ro
 obtain⟨t,rfl⟩:=ri
 obtain⟨its,n,r,ho,hz⟩:=I.lst hp
 obtain⟨h1,h2,h3,h4⟩:=zpd hj
 have hl:=r.length
 have hn:=zig
 have I':Inv X pins σ (upd H p (.lst (xs.set j v))) {s with heap:=s.heap.update p (Obj.mapSeq (·.setIfInBounds j u))}:=
  I.lstUpd hp ho (zoo its n j u) (r.set rv j) (by rw[List.length_set];exact hz) s.toks
 by_cases h0:0≤k
 ·have hk:k.toNat=j:=by
   rw[seqIndex_of h0 h4] at h1
   exact Option.some.inj h1
  exact PySem.W.ki_setAt ho h0 (by omega) (by rw[List.size_toArray,←hl];exact h4) (by rw[hk];exact⟨_,I',q⟩)
 ·have hk:(k + (its.toArray.size:Int)).toNat=j:=by
   rw[seqIndex_neg (by omega) h3] at h1
   rw[List.size_toArray,←hl]
   exact Option.some.inj h1
  exact PySem.W.ki_setBack ho (by omega) (by rw[List.size_toArray,←hl];exact h3) (by omega) (by rw[hk];exact⟨_,I',q⟩)
theorem zk3(lo hi:Option Int)(n:Nat):(sliceBounds lo hi none n).1=((HT.sIx n 0 lo:Nat):Int)∧(sliceBounds lo hi none n).2.1=((HT.sIx n n hi:Nat):Int)∧(sliceBounds lo hi none n).2.2=1:=by
 refine⟨?_,?_,rfl⟩
 ·cases lo with
  | none=>simp[sliceBounds,HT.sIx]
  | some i=>
   simp only[sliceBounds,HT.sIx,Option.getD_none,show(1:Int) > 0 by decide,if_true]
   by_cases h:i < 0
   ·simp only[h,if_true] <;> omega
   ·simp only[h,if_false] <;> omega
 ·cases hi with
  | none=>simp[sliceBounds,HT.sIx]
  | some i=>
   simp only[sliceBounds,HT.sIx,Option.getD_none,show(1:Int) > 0 by decide,if_true]
   by_cases h:i < 0
   ·simp only[h,if_true] <;> omega
   ·simp only[h,if_false] <;> omega
theorem zjY(its:List Value)(lo hi:Option Int):slicePick its.toArray lo hi none=((its.drop (HT.sIx its.length 0 lo)).take (HT.sIx its.length its.length hi - HT.sIx its.length 0 lo)).toArray:=by
 obtain⟨h1,h2,h3⟩:=zk3 lo hi its.toArray.size
 unfold slicePick
 rw[h1,h2,h3]
 simp only[sliceRange_one,pick_run,List.size_toArray] <;> rfl
def rSlL(K:PySem.W.Frag):V→Option Int→Option Int→Hp→VK→Prop:=fun x lo hi H Q=>∃ a xs,x=.ref a∧SqL K H a xs∧∀ p,H p=none→Q (.ref p) (upd H p (.lst (cutV xs lo hi)))
theorem zmp:SlR X (rSlL X.K):=by
 intro pins s σ H x v vl vu lo hi sl Q I rx hs pl pu h
 obtain⟨a,xs,rfl,hx,q⟩:=h
 cases rx
 obtain⟨its,r,ht,hz⟩:=I.list hx
 have hlen:=r.length
 refine⟨"list",_,slot_list_getitem.lookup,ht.isList.typeIs,?_⟩
 refine wpAny_getItem_list_slice ht.isList hs pl pu .none (by simp) ?_ (by rw[List.size_toArray] <;> omega)
 rw[zjY,←hlen]
 refine⟨.ref s.heap.objs.size,_,I.laid (t':=s.toks) (o:=.lst (cutV xs lo hi)) (fun b ob q=>Heap.get?_push_of_some _ q) (Nat.le_refl _) ?_,rfl,q _ (I.hok.fresh (Nat.le_refl _))⟩
 exact⟨Nat.le_trans (zik xs lo hi) hz,_,0,(r.drop (HT.sIx xs.length 0 lo)).take (HT.sIx xs.length xs.length hi - HT.sIx xs.length 0 lo),Heap.get?_push_size _ rfl⟩
def zi6:V→Bool
 | .non=>true
 | .bl _=>true
 | .int _=>true
 | .str _=>true
 | _=>false
def eqV:V→V→Bool
 | .non,.non=>true
 | .bl a,.bl b=>a == b
 | .bl a,.int b=>(if a then 1 else 0) == b
 | .int a,.bl b=>a == (if b then 1 else 0)
 | .int a,.int b=>a == b
 | .str a,.str b=>a == b
 | _,_=>false
theorem zvF{A:Around}{s:Shared}{y x:V}{u v:Value}(ry:RelV y u)(rx:RelV x v)(fy:zi6 y=true)(fx:zi6 x=true):SeqAt.EqAt A s u v (eqV y x):=by
 cases y with
 | non=>
  cases ry
  cases x with
  | non=>cases rx;exact SeqAt.EqAt.same _
  | bl b=>cases rx;exact SeqAt.EqAt.none_bool b
  | int b=>obtain⟨t,rfl⟩:=rx;exact SeqAt.EqAt.none_int b t
  | str b=>obtain⟨t,rfl⟩:=rx;exact SeqAt.EqAt.none_str b t
  | _=>exact absurd (show false=true from fx) Bool.false_ne_true
 | bl a=>
  cases ry
  cases x with
  | non=>cases rx;exact SeqAt.EqAt.bool_none a
  | bl b=>cases rx;exact SeqAt.EqAt.bool_bool a b
  | int b=>obtain⟨t,rfl⟩:=rx;exact SeqAt.EqAt.bool_int a b t
  | str b=>obtain⟨t,rfl⟩:=rx;exact SeqAt.EqAt.bool_str a b t
  | _=>exact absurd (show false=true from fx) Bool.false_ne_true
 | int a=>
  obtain⟨t',rfl⟩:=ry
  cases x with
  | non=>cases rx;exact SeqAt.EqAt.int_none a t'
  | bl b=>cases rx;exact SeqAt.EqAt.int_bool a t' b
  | int b=>obtain⟨t,rfl⟩:=rx;exact SeqAt.EqAt.int_int a t' b t
  | str b=>obtain⟨t,rfl⟩:=rx;exact SeqAt.EqAt.int_str a t' b t
  | _=>exact absurd (show false=true from fx) Bool.false_ne_true
 | str a=>
  obtain⟨t',rfl⟩:=ry
  cases x with
  | non=>cases rx;exact SeqAt.EqAt.str_none a t'
  | bl b=>cases rx;exact SeqAt.EqAt.str_bool a t' b
  | int b=>obtain⟨t,rfl⟩:=rx;exact SeqAt.EqAt.str_int a t' b t
  | str b=>obtain⟨t,rfl⟩:=rx;exact SeqAt.EqAt.str_str a t' b t
  | _=>exact absurd (show false=true from fx) Bool.false_ne_true
 | _=>exact absurd (show false=true from fy) Bool.false_ne_true
def eqU(x:V)(u:Value):Bool:=match u with
 | .none=>eqV .non x
 | .bool b=>eqV (.bl b) x
 | .int i _=>eqV (.int i) x
 | .str z _=>eqV (.str z) x
 | _=>false
theorem zsu{x y:V}{u:Value}(r:RelV y u)(f:zi6 y=true):eqU x u=eqV y x:=by
 cases y with
 | non=>cases r;rfl
 | bl b=>cases r;rfl
 | int i=>obtain⟨t,rfl⟩:=r;rfl
 | str z=>obtain⟨t,rfl⟩:=r;rfl
 | _=>exact absurd (show false=true from f) Bool.false_ne_true
theorem zil{x:V}:∀ {xs:List V} {us:List Value},Vals xs us→xs.all zi6=true→us.any (eqU x)=xs.any fun y=>eqV y x
 | _,_,.nil,_=>rfl
 | y :: xs,u :: us,.cons r t,f=>by
  rw[List.all_cons,Bool.and_eq_true] at f
  rw[List.any_cons,List.any_cons,zsu r f.1,zil t f.2]
theorem zgw{A:Around}{s:Shared}{x:V}{v:Value}(rx:RelV x v)(fx:zi6 x=true):∀ {xs:List V} {us:List Value},Vals xs us→xs.all zi6=true→∀ u∈us,SeqAt.EqAt A s u v (eqU x u)
 | _,_,.nil,_=>fun u hu=>by cases hu
 | y :: xs,u :: us,.cons r t,f=>fun u' hu=>by
  rw[List.all_cons,Bool.and_eq_true] at f
  rcases List.mem_cons.mp hu with rfl | hu
  ·rw[zsu r f.1];exact zvF r rx f.1 fx
  ·exact zgw rx fx t f.2 u' hu
def inV(x:V)(xs:List V):Bool:=xs.any fun y=>eqV y x
def rIn(K:PySem.W.Frag)(neg:Bool):R2:=fun x y H Q=>∃ p xs,y=.ref p∧(SqL K H p xs∨SqT K H p xs)∧zi6 x=true∧xs.all zi6=true∧Q (.bl (if neg then !inV x xs else inV x xs)) H
theorem zim:OpR X (compareOp .In) (rIn X.K false):=by
 intro pins s σ H x y v u Q I rx ry h
 obtain⟨p,xs,rfl,hq,fx,fs,q⟩:=h
 cases ry
 rcases hq with hq | hq
 ·obtain⟨its,r,pl,hz⟩:=I.list hq
  refine SeqAt.in_listAt (eqU x) pl.isList (fun w hw=>zgw rx fx r fs w (by simpa using hw)) ⟨.bl _,H,I,rfl,?_⟩
  rw[show its.toArray.any (eqU x)=its.any (eqU x) by simp,zil r fs]
  exact q
 ·obtain⟨its,r,pl,hz⟩:=I.tuple hq
  refine SeqAt.in_tupleAt (eqU x) pl (fun w hw=>zgw rx fx r fs w (by simpa using hw)) ⟨.bl _,H,I,rfl,?_⟩
  rw[show its.toArray.any (eqU x)=its.any (eqU x) by simp,zil r fs]
  exact q
theorem zeT:OpR X (compareOp .NotIn) (rIn X.K true):=by
 intro pins s σ H x y v u Q I rx ry h
 obtain⟨p,xs,rfl,hq,fx,fs,q⟩:=h
 cases ry
 rcases hq with hq | hq
 ·obtain⟨its,r,pl,hz⟩:=I.list hq
  refine SeqAt.notIn_listAt (eqU x) pl.isList (fun w hw=>zgw rx fx r fs w (by simpa using hw)) ⟨.bl _,H,I,rfl,?_⟩
  rw[show its.toArray.any (eqU x)=its.any (eqU x) by simp,zil r fs]
  exact q
 ·obtain⟨its,r,pl,hz⟩:=I.tuple hq
  refine SeqAt.notIn_tupleAt (eqU x) pl (fun w hw=>zgw rx fx r fs w (by simpa using hw)) ⟨.bl _,H,I,rfl,?_⟩
  rw[show its.toArray.any (eqU x)=its.any (eqU x) by simp,zil r fs]
  exact q
theorem zds:zbx X (.builtin "len") (fun xs H Q=>∃ p ys,xs=[.ref p]∧(SqL X.K H p ys∨SqT X.K H p ys)∧Q (.int ys.length) H):=by
 intro pins s σ H xs us Q I r h
 obtain⟨p,ys,rfl,hq,q⟩:=h
 obtain⟨u,rfl,rx⟩:=zf4 r
 cases rx
 have hn:=zig
 rcases hq with hq | hq
 ·obtain⟨its,r',pl,hz⟩:=I.list hq
  have hlen:=r'.length
  exact Calls.call_len_list pl.isList (by simp only[List.size_toArray] <;> omega) ⟨.int ys.length,H,I.tok _,⟨s.toks + 1,by rw[List.size_toArray,hlen]⟩,q⟩
 ·obtain⟨its,r',pl,hz⟩:=I.tuple hq
  have hlen:=r'.length
  exact len_tuple pl (by simp only[List.size_toArray] <;> omega) ⟨.int ys.length,H,I.tok _,⟨s.toks + 1,by rw[List.size_toArray,hlen]⟩,q⟩
theorem zk4:zbx X (.builtin "len") (fun xs H Q=>∃ z,xs=[.str z]∧z.length≤sizeLine∧Q (.int z.length) H):=by
 intro pins s σ H xs us Q I r h
 obtain⟨z,rfl,hz,q⟩:=h
 obtain⟨u,rfl,t,rfl⟩:=zf4 r
 have hn:=zig
 exact len_str (by omega) ⟨.int z.length,H,I.tok _,⟨_,rfl⟩,q⟩
theorem zdt:zbx X (.type "list") (fun xs H Q=>∃ p ys,xs=[.ref p]∧(SqL X.K H p ys∨SqT X.K H p ys)∧∀ l,H l=none→Q (.ref l) (upd H l (.lst ys))):=by
 intro pins s σ H xs us Q I r h
 obtain⟨p,ys,rfl,hq,q⟩:=h
 obtain⟨u,rfl,rx⟩:=zf4 r
 cases rx
 have fin:∀ (its:List Value),Vals ys its→ys.length≤sizeLine→∀ (h':Heap) (c':Nat),(∀ b o',s.heap.get? b=some o'→h'.get? b=some o')→
   h'.get? s.heap.objs.size=some {cls:=.type "list",dict:=none,data:=.seq its.toArray c',slots:=#[]}→EP X pins σ Q (.ref s.heap.objs.size) {s with heap:=h'}:=fun its r' hz h' c' kp e=>
  ⟨.ref s.heap.objs.size,_,I.laid (t':=s.toks) kp (Nat.le_refl _) (show zbl X.prog X.w _ h' _ (.lst ys) from⟨hz,its,c',r',e⟩),rfl,q _ (I.hok.fresh (Nat.le_refl _))⟩
 rcases hq with hq | hq
 ·obtain⟨its,r',pl,hz⟩:=I.list hq
  have hlen:=r'.length
  obtain⟨o,ho,hc,n,hd⟩:=pl.isList
  exact call_list_seq p (.inl rfl) ho hc hd (fun h' c' kp e=>fin its r' hz h' c' kp e) (by simp only[List.size_toArray] <;> omega)
 ·obtain⟨its,r',pl,hz⟩:=I.tuple hq
  have hlen:=r'.length
  obtain⟨o,ho,hc,n,hd⟩:=pl
  exact call_list_seq p (.inr rfl) ho hc hd (fun h' c' kp e=>fin its r' hz h' c' kp e) (by simp only[List.size_toArray] <;> omega)
theorem zd1:zbx X (.type "tuple") (fun xs H Q=>∃ p ys,xs=[.ref p]∧((SqL X.K H p ys∧∀ l,H l=none→Q (.ref l) (upd H l (.tup ys)))∨(SqT X.K H p ys∧Q (.ref p) H))):=by
 intro pins s σ H xs us Q I r h
 obtain⟨p,ys,rfl,h⟩:=h
 obtain⟨u,rfl,rx⟩:=zf4 r
 cases rx
 rcases h with⟨hq,q⟩ | ⟨hq,q⟩
 ·obtain⟨its,r',pl,hz⟩:=I.list hq
  have hlen:=r'.length
  refine call_tuple_list pl.isList (fun h' kp=>?_) (by simp only[List.size_toArray] <;> omega)
  have I1:Inv X pins σ H {s with heap:=h'}:=I.kept (t':=s.toks) kp
  have I2:Inv X pins σ (upd H h'.objs.size (.tup ys)) {s with heap:=h'.push {cls:=.type "tuple",data:=.seq its.toArray}}:=
   I1.laid (t':=s.toks) (fun b o e=>Heap.get?_push_of_some _ e) (Nat.le_refl _) (show zbl X.prog X.w _ _ _ (.tup ys) from⟨hz,its,r',IsTup.new _ _⟩)
  exact⟨.ref h'.objs.size,_,I2,rfl,q _ (I1.hok.fresh (Nat.le_refl _))⟩
 ·obtain⟨its,r',pl,hz⟩:=I.tuple hq
  exact call_tuple_same pl ⟨.ref p,H,I,rfl,q⟩
def tyV(K:PySem.W.Frag)(T:String)(x:V)(H:Hp):Prop:=match x with
 | .str _=>T = "str"
 | .int _=>T = "int"
 | .ref p=>(T = "list"∧∃ xs,SqL K H p xs)∨(T = "tuple"∧∃ o,K.lookup p=some o∧o.cls=.type "tuple"∧o.dict=none)∨
   (T = "dict"∧((∃ kvs,Rd H p (.dK kvs))∨∃ kvs,Rd H p (.dT kvs)))∨(T = "set"∧∃ S n,H p=some (.set S n))
 | _=>False
theorem zsv{pins:List (Addr×Obj)}{σ:St}{H:Hp}{s:Shared}{T:String}{x:V}{v:Value}(I:Inv X pins σ H s)(r:RelV x v)(ty:tyV X.K T x H) :
  s.TypeIs v T∧∀ a,v=.ref a→∃ ob,s.heap.get? a=some ob∧ob.dict=none:=by
 cases x with
 | str z=>
  obtain⟨t,rfl⟩:=r
  cases (show T = "str" from ty)
  exact⟨typeIs_str s z t,fun _ e=>nomatch e⟩
 | int i=>
  obtain⟨t,rfl⟩:=r
  cases (show T = "int" from ty)
  exact⟨typeIs_int s i t,fun _ e=>nomatch e⟩
 | ref p=>
  cases r
  rcases ty with⟨rfl,xs,hq⟩ | ⟨rfl,o,hk,hc,hd⟩ | ⟨rfl,hk⟩ | ⟨rfl,S,n,hk⟩
  ·obtain⟨its,_,pl,_⟩:=I.list hq
   refine⟨pl.isList.typeIs,fun a e=>?_⟩
   cases e
   obtain⟨o,n,e,c,hd,_⟩:=pl
   exact⟨o,e,hd⟩
  ·refine⟨⟨o,I.kIn p o hk,hc⟩,fun a e=>?_⟩
   cases e
   exact⟨o,I.kIn _ o hk,hd⟩
  ·have z:∃ o,s.heap.get? p=some o∧o.ExactDict:=by
    rcases hk with⟨kvs,hk⟩ | ⟨kvs,hk⟩
    ·obtain⟨_,_,_,_,o,_,_,e,ex,_⟩:=hk.ok I.hok
     exact⟨o,e,ex⟩
    ·obtain⟨_,_,_,_,o,_,_,e,ex,_⟩:=hk.ok I.hok
     exact⟨o,e,ex⟩
   obtain⟨o,e,ex⟩:=z
   refine⟨⟨o,e,ex.1⟩,fun a e2=>?_⟩
   cases e2
   exact⟨o,e,ex.2.1⟩
  ·obtain⟨o,_,_,_,e,ex,_⟩:=I.hok p _ hk
   refine⟨⟨o,e,ex.1⟩,fun a e2=>?_⟩
   cases e2
   exact⟨o,e,ex.2.1⟩
 | _=>exact False.elim ty
def tBM0(K:PySem.W.Frag)(T:String)(r:V→List V→Hp→VK→Prop)(to:TE):TE:=fun σ H Q=>to σ H fun x H1=>tyV K T x H1∧r x [] H1 Q
def tBM(K:PySem.W.Frag)(T:String)(r:V→List V→Hp→VK→Prop)(to:TE)(t:TA):TE:=fun σ H Q=>to σ H fun x H1=>tyV K T x H1∧t σ H1 fun xs H2=>r x xs H2 Q
variable {o e:Expr}{es:List Expr}{to:TE}{t:TA}{name:Str}{apos cpos:Pos}{T id:String}{r:V→List V→Hp→VK→Prop}
theorem zvG(pa:PlainAttrs T)(slot:Slot T name id)(hty:typeOf (.builtin id)=pure (.type "method_descriptor"))(hm:MtR X id r)(ho:PE X o to)
  (hbase:attributeBase o name X.env (eval o X.env)=eval o X.env:=by rfl) (hline:(apos.endLine == cpos.line)=true:=by rfl):PE X (.Call (.Attribute o name apos) [] [] cpos) (tBM0 X.K T r to):=by
 intro pins s σ H Q I h
 refine wpAny_Call_method0_late hbase hline (thn (ho pins s σ H _ I h) fun v s1 ⟨x,H1,I1,r1,ty,q1⟩=>?_)
 obtain⟨h1,h2⟩:=zsv I1 r1 ty
 exact⟨T,id,pa,slot,hty,h1,h2,Calls.callWith_builtin rfl (PySem.evalArgs_none (hm pins s1 σ H1 x [] v [] Q I1 r1 .nil q1))⟩
theorem zxs(pa:PlainAttrs T)(slot:Slot T name id)(hty:typeOf (.builtin id)=pure (.type "method_descriptor"))(hm:MtR X id r)(ho:PE X o to)(ha:PA X (e :: es) t)
  (hbase:attributeBase o name X.env (eval o X.env)=eval o X.env:=by rfl)
  (hfew:((backTo cpos (starEach (e :: es) X.env)).all (fun x=>!x.1) && (backToKw cpos (keywordEach [] X.env)).all (fun x=>x.1.isSome)
   && decide ((e :: es).length + ([]:List Keyword).length + (if ([]:List Keyword).isEmpty then 0 else 1) < 30))=true:=by rfl)
  (hline:(apos.endLine == cpos.line)=true:=by rfl) (hs:starEach (e :: es) X.env=(false,eval e X.env) :: starEach es X.env:=by rfl) (hplain:(backTo cpos (starEach es X.env)).any (·.1)=false:=by rfl) :
  PE X (.Call (.Attribute o name apos) (e :: es) [] cpos) (tBM X.K T r to t):=by
 intro pins s σ H Q I h
 refine wpAny_Call_method_late hbase hfew hline rfl (thn (ho pins s σ H _ I h) fun v s1 ⟨x,H1,I1,r1,ty,q1⟩=>?_)
 obtain⟨h1,h2⟩:=zsv I1 r1 ty
 refine⟨T,id,pa,slot,hty,h1,h2,?_⟩
 have hA:=ha cpos pins s1 σ H1 _ I1 q1
 rw[hs] at hA ⊢
 refine Calls.callWith_builtin (by show(false || (backTo cpos (starEach es X.env)).any (·.1))=false;rw[hplain] <;> rfl) (Calls.evalArgs_plain ?_)
 exact thn hA fun us s2 ⟨vs,H2,I2,r2,q2⟩=>hm pins s2 σ H2 x vs v us Q I2 r1 r2 q2
end
end L2
namespace L2
open PySem PySem.Spec PyProof.Rows
def MtM(X:Cx)(id:String)(r:V→List V→Hp→VK→Prop):Prop:=
 ∀ (pins:List (Addr×Obj)) (s:Shared) (σ:St) (H:Hp) (x:V) (xs:List V) (v:Value) (us:List Value) (Q:VK),Inv X pins σ H s→RelV x v→Vals xs us→r x xs H Q→
  wpAny (model X.prog X.w) X.A (call (.builtin id) (v :: us)) (EP X pins σ Q) X.xe s
theorem Vals.one:∀ {x:V} {us:List Value},Vals [x] us→∃ u,us=[u]∧RelV x u
 | _,_,.cons r .nil=>⟨_,rfl,r⟩
theorem Vals.zero:∀ {us:List Value},Vals [] us→us=[]
 | _,.nil=>rfl
theorem Vals.dropLast{xs:List V}{us:List Value}(h:Vals xs us):Vals xs.dropLast us.dropLast:=by
 induction h with
 | nil=>exact .nil
 | cons r t ih=>
  cases t with
  | nil=>exact .nil
  | cons q t'=>exact .cons r ih
theorem Vals.reverse{xs:List V}{us:List Value}(h:Vals xs us):Vals xs.reverse us.reverse:=by
 induction h with
 | nil=>exact .nil
 | cons r t ih=>rw[List.reverse_cons,List.reverse_cons];exact Vals.append ih (.cons r .nil)
theorem Vals.rep{xs:List V}{us:List Value}(h:Vals xs us):∀ k:Nat,Vals (List.replicate k xs).flatten (List.replicate k us).flatten
 | 0=>.nil
 | k + 1=>by
  rw[List.replicate_succ,List.replicate_succ,List.flatten_cons,List.flatten_cons]
  exact Vals.append h (Vals.rep h k)
theorem zop{α:Type}(l:List α):l.eraseIdx (l.length - 1)=l.dropLast:=by
 induction l with
 | nil=>rfl
 | cons a r ih=>
  cases r with
  | nil=>rfl
  | cons b r=>
   have e:(a :: b :: r).length - 1=((b :: r).length - 1) + 1:=by
    have h1:(a :: b :: r).length=r.length + 2:=rfl
    have h2:(b :: r).length=r.length + 1:=rfl
    omega
   rw[e,List.eraseIdx_cons_succ,ih]
   all_goals rfl
theorem zk5(its:List Value):∀ (k:Nat) (acc:List Value),
  List.foldl (fun x1 x2=>x1 ++ x2) acc.toArray (List.replicate k its.toArray)=(acc ++ (List.replicate k its).flatten).toArray
 | 0,acc=>by simp
 | k + 1,acc=>by
  have e:acc.toArray ++ its.toArray=(acc ++ its).toArray:=by simp
  have e2:(acc ++ its) ++ (List.replicate k its).flatten=acc ++ (List.replicate (k + 1) its).flatten:=by
   rw[List.replicate_succ,List.flatten_cons,List.append_assoc]
  rw[←e2,←zk5 its k (acc ++ its),←e,List.replicate_succ,List.foldl_cons]
section
variable {X:Cx}{pins:List (Addr×Obj)}{σ:St}{H:Hp}{s:Shared}{l b:Addr}{xs ys zs:List V}
theorem Inv.lset{its its':List Value}{n:Nat}{f:Array Value→Array Value}{t':Nat}(I:Inv X pins σ H s)(hH:H l=some (.lst xs))
  (e:s.heap.get? l=some {cls:=.type "list",data:=.seq its.toArray n}) (hf:f its.toArray=its'.toArray) (hv:Vals ys its') (hz:ys.length≤sizeLine) :
  Inv X pins σ (upd H l (.lst ys)) {s with heap:=s.heap.update l (Obj.mapSeq f),toks:=t'}:=by
 have q:=PySem.IsL.update e f
 rw[hf] at q
 refine I.write (x:=l) (e:=l) (by rw[hH];exact trivial) (.inl rfl) (fun b' u hb hu=>(Heap.get?_update_other s.heap (Obj.mapSeq f) (Ne.symm hb)).trans hu) ⟨_,q⟩ ?_
 exact⟨hz,its',_,hv,q⟩
theorem Inv.lnew{its:List Value}{t':Nat}(I:Inv X pins σ H s)(hv:Vals ys its)(hz:ys.length≤sizeLine) :
  Inv X pins σ (upd H s.heap.objs.size (.lst ys)) {s with heap:=s.heap.push {cls:=.type "list",data:=.seq its.toArray},toks:=t'}:=
 I.laid (fun _ _ q=>Heap.get?_push_of_some _ q) (Nat.le_refl _) ⟨hz,its,0,hv,Heap.get?_push_size _ rfl⟩
theorem Inv.fresh(I:Inv X pins σ H s):H s.heap.objs.size=none:=I.hok.fresh (Nat.le_refl _)
theorem Inv.lstM(I:Inv X pins σ H s)(hH:H l=some (.lst xs)):xs.length≤sizeLine∧∃ (its:List Value) (n:Nat),Vals xs its∧xs.length=its.length∧s.heap.get? l=some {cls:=.type "list",data:=.seq its.toArray n}:=by
 obtain⟨z,its,n,r,e⟩:=I.hok l _ hH
 exact⟨z,its,n,r,r.length,e⟩
theorem zno{n:Nat}(h:n≤sizeLine):Builtin.List.listTooLong n=false:=by
 unfold Builtin.List.listTooLong
 exact decide_eq_false (by omega)
end
section
variable {X:Cx}
def rAppend:V→List V→Hp→VK→Prop:=fun x vs H Q=>∃ l xs y,x=.ref l∧vs=[y]∧H l=some (.lst xs)∧xs.length < sizeLine∧Q .non (upd H l (.lst (xs ++ [y])))
theorem zk6:MtM X "list.append" rAppend:=by
 intro pins s σ H x vs v us Q I rx rv h
 obtain⟨l,xs,y,rfl,rfl,hH,hz,q⟩:=h
 cases rx
 obtain⟨u,rfl,ru⟩:=rv.one
 obtain⟨z,its,n,r,hl,e⟩:=I.lstM hH
 refine call_meets F.slot_list_append ⟨_,e,rfl⟩ F.entry_list_append (F.args_list_append_2 _ _) (PySem.list_append l its.toArray n u (by rw[List.size_toArray];omega)) ⟨e,?_⟩
 refine⟨.non,_,I.lset (its':=its ++ [u]) hH e (by simp) (r.append (.cons ru .nil)) ?_,rfl,q⟩
 rw[List.length_append,List.length_singleton]
 omega
def rExtend:V→List V→Hp→VK→Prop:=fun x vs H Q=>∃ l b xs zs,x=.ref l∧vs=[.ref b]∧H l=some (.lst xs)∧H b=some (.lst zs)∧xs.length + zs.length≤sizeLine∧Q .non (upd H l (.lst (xs ++ zs)))
theorem zk7:MtM X "list.extend" rExtend:=by
 intro pins s σ H x vs v us Q I rx rv h
 obtain⟨l,b,xs,zs,rfl,rfl,hH,hB,hz,q⟩:=h
 cases rx
 obtain⟨u,rfl,ru⟩:=rv.one
 cases ru
 obtain⟨z,its,n,r,hl,e⟩:=I.lstM hH
 obtain⟨z2,its2,n2,r2,hl2,e2⟩:=I.lstM hB
 have hsz:its.toArray.size + its2.toArray.size≤sizeLine:=by rw[List.size_toArray,List.size_toArray];omega
 have hlong:¬ (!its.toArray.isEmpty && Builtin.List.listTooLong (its.toArray.size + its2.toArray.size))=true:=by
  rw[zno hsz,Bool.and_false]
  exact Bool.false_ne_true
 refine call_meets F.slot_list_extend ⟨_,e,rfl⟩ F.entry_list_extend (F.args_list_extend_2 _ _)
  (AutoSeq1.list_extend_list_list_0 l its.toArray n b its2.toArray n2 hlong (by rw[List.size_toArray];omega) (by omega)) ⟨e,e2,?_⟩
 refine⟨.non,_,I.lset (its':=its ++ its2) hH e (by simp) (r.append r2) ?_,rfl,q⟩
 rw[List.length_append]
 omega
def rPop:V→List V→Hp→VK→Prop:=fun x vs H Q=>∃ l xs y,x=.ref l∧vs=[]∧H l=some (.lst xs)∧xs[xs.length - 1]? = some y∧Q y (upd H l (.lst xs.dropLast))
theorem zvH:MtM X "list.pop" rPop:=by
 intro pins s σ H x vs v us Q I rx rv h
 obtain⟨l,xs,y,rfl,rfl,hH,hy,q⟩:=h
 cases rx
 have hus:=rv.zero
 subst hus
 obtain⟨z,its,n,r,hl,e⟩:=I.lstM hH
 obtain⟨u,hu,ru⟩:=r.get hy
 have hy':its.toArray[its.toArray.size - 1]? = some u:=by
  show its.toArray[its.length - 1]? = some u
  rw[←Array.getElem?_toList,←hl]
  exact hu
 refine call_meets F.slot_list_pop ⟨_,e,rfl⟩ F.entry_list_pop (F.args_list_pop_1 _) (MeetsSeq.list_pop_last l its.toArray n u hy' (by rw[List.size_toArray];omega)) ⟨e,?_⟩
 refine⟨y,_,I.lset (its':=its.dropLast) hH e ?_ r.dropLast ?_,ru,q⟩
 ·show its.toArray.eraseIdxIfInBounds (its.toArray.size - 1)=its.dropLast.toArray
  rw[List.size_toArray,List.eraseIdxIfInBounds_toArray,zop]
 ·rw[List.length_dropLast]
  omega
def rReverse:V→List V→Hp→VK→Prop:=fun x vs H Q=>∃ l xs,x=.ref l∧vs=[]∧H l=some (.lst xs)∧Q .non (upd H l (.lst xs.reverse))
theorem zoq:MtM X "list.reverse" rReverse:=by
 intro pins s σ H x vs v us Q I rx rv h
 obtain⟨l,xs,rfl,rfl,hH,q⟩:=h
 cases rx
 have hus:=rv.zero
 subst hus
 obtain⟨z,its,n,r,hl,e⟩:=I.lstM hH
 refine call_meets F.slot_list_reverse ⟨_,e,rfl⟩ F.entry_list_reverse (F.args_list_reverse_1 _) (AutoSeq1.list_reverse_list_0 l its.toArray n (by rw[List.size_toArray];omega)) ⟨e,?_⟩
 refine⟨.non,_,I.lset (its':=its.reverse) hH e (by simp) r.reverse ?_,rfl,q⟩
 rw[List.length_reverse]
 omega
def rCat:R2:=fun x y H Q=>∃ l b xs zs,x=.ref l∧y=.ref b∧H l=some (.lst xs)∧H b=some (.lst zs)∧xs.length + zs.length≤sizeLine∧∀ p,H p=none→Q (.ref p) (upd H p (.lst (xs ++ zs)))
theorem znp:OpR X (binaryOp .Add) rCat:=by
 intro pins s σ H x y v u Q I rx ry h
 obtain⟨l,b,xs,zs,rfl,rfl,hH,hB,hz,q⟩:=h
 cases rx
 cases ry
 obtain⟨z,its,n,r,hl,e⟩:=I.lstM hH
 obtain⟨z2,its2,n2,r2,hl2,e2⟩:=I.lstM hB
 refine PySem.P.add_list e e2 ?_ (by rw[List.size_toArray,List.size_toArray];omega)
 have ea:its.toArray ++ its2.toArray=(its ++ its2).toArray:=by simp
 rw[ea]
 exact⟨.ref _,_,I.lnew (t':=s.toks) (r.append r2) (by rw[List.length_append];omega),rfl,q _ I.fresh⟩
def rRep:R2:=fun x y H Q=>∃ l k xs,x=.ref l∧y=.int k∧H l=some (.lst xs)∧-(2 ^ 63)≤k∧k < 2 ^ 63∧xs.length * k.toNat≤sizeLine∧
 ∀ p,H p=none→Q (.ref p) (upd H p (.lst (List.replicate k.toNat xs).flatten))
theorem ztn{α:Type}(xs:List α)(k:Nat):(List.replicate k xs).flatten.length=k * xs.length:=by
 induction k with
 | zero=>simp
 | succ k ih=>rw[List.replicate_succ,List.flatten_cons,List.length_append,ih,Nat.succ_mul,Nat.add_comm]
theorem zsw:OpR X (binaryOp .Mult) rRep:=by
 intro pins s σ H x y v u Q I rx ry h
 obtain⟨l,k,xs,rfl,rfl,hH,h1,h2,hz,q⟩:=h
 cases rx
 obtain⟨t,rfl⟩:=ry
 obtain⟨z,its,n,r,hl,e⟩:=I.lstM hH
 have hlen:its.toArray.size * k.toNat≤sizeLine:=by rw[List.size_toArray,←hl];exact hz
 have hcap:¬ its.toArray.size * k.toNat > (2 ^ 63 - 1) / 8:=by
  have:(sizeLine:Nat)≤(2 ^ 63 - 1) / 8:=by decide
  omega
 have hfit:¬ (!Builtin.List.listFitsIndex k)=true:=by
  rw[fitsIndex_both h1 h2]
  exact Bool.false_ne_true
 have hlong:¬ Builtin.List.listTooLong (its.toArray.size * k.toNat)=true:=by
  rw[zno hlen]
  exact Bool.false_ne_true
 have hnew:List.foldl (fun x1 x2=>x1 ++ x2) #[] (List.replicate (if its.toArray.isEmpty=true then 0 else k.toNat) its.toArray)=(List.replicate k.toNat its).flatten.toArray:=by
  have f0:∀ m:Nat,List.foldl (fun x1 x2=>x1 ++ x2) #[] (List.replicate m its.toArray)=(List.replicate m its).flatten.toArray:=fun m=>by
   have:=zk5 its m []
   rw[List.nil_append] at this
   exact this
  rw[f0]
  cases its with
  | nil=>simp
  | cons a r'=>rw[if_neg (by simp)]
 refine wpAny_binaryOp_repeat_ref (T:="list") (U:="int") (by decide) ⟨_,e,rfl⟩ (fun s'=>typeIs_int s' k t) noFill_list_mul F.fills_int_mul F.slot_int_rmul repeat_list F.slot_int_index.lookup
  (call_meets F.slot_int_rmul (typeIs_int s k t) F.entry_int_rmul (F.args_int_rmul_2 _ _) (int___rmul___int_list k t l its.toArray n)
   ⟨e,rfl,⟨_,e,rfl⟩,call_meets F.slot_list_mul ⟨_,e,rfl⟩ F.entry_list_mul (F.args_list_mul_2 _ _) (AutoListH.list___mul___list_int_3 l its.toArray n k t hfit hcap hlong) ⟨e,?_⟩⟩)
 rw[hnew]
 exact⟨.ref _,_,I.lnew (t':=s.toks) (r.rep k.toNat) (by rw[ztn,Nat.mul_comm];exact hz),rfl,q _ I.fresh⟩
end
section
variable {prog:Program}{w:World}{A:Around}{E:Value→Shared→Prop}{s:Shared}
end
section
variable {X:Cx}
end
end L2
namespace L2
open PySem PySem.Spec PyProof.Rows
section
variable {κ:Type}[DecidableEq κ]
def valV(kvs:List (κ×V))(k:κ):Option V:=(kvs.find? fun kv=>decide (kv.1=k)).map (·.2)
def putK(kvs:List (κ×V))(k:κ)(v:V):List (κ×V):=
 if (kvs.any fun kv=>decide (kv.1=k))=true then kvs.map (fun kv=>if kv.1=k then(kv.1,v) else kv) else kvs ++ [(k,v)]
def zmq(kvs:List (κ×V))(k:κ):List (κ×V):=kvs.filter fun kv=>decide (kv.1≠k)
theorem zh6{p:κ×V}{r:List (κ×V)}{k:κ}(e:p.1=k):valV (p :: r) k=some p.2:=by simp[valV,List.find?_cons,e]
theorem zh7{p:κ×V}{r:List (κ×V)}{k:κ}(e:¬ p.1=k):valV (p :: r) k=valV r k:=by simp[valV,List.find?_cons,e]
theorem znq(k:κ):∀ kvs:List (κ×V),(kvs.any fun kv=>decide (kv.1=k))=(valV kvs k).isSome
 | []=>rfl
 | p :: r=>by
  rw[List.any_cons]
  by_cases e:p.1=k
  ·simp only[zh6 e,decide_eq_true e,Bool.true_or,Option.isSome_some]
  ·rw[zh7 e,decide_eq_false e,Bool.false_or];exact znq k r
theorem zc2(kvs:List (κ×V))(k:κ)(v:V):(putK kvs k v).length≤kvs.length + 1:=by
 unfold putK
 split
 ·rw[List.length_map];omega
 ·rw[List.length_append,List.length_cons,List.length_nil];omega
theorem RelO.isSome_eq{o:Option V}{u:Option Value}(r:RelO o u):o.isSome=u.isSome:=by
 cases o with
 | none=>cases u with
  | none=>rfl
  | some _=>exact(show False from r).elim
 | some _=>cases u with
  | none=>exact(show False from r).elim
  | some _=>rfl
theorem RelO.getD{o:Option V}{u:Option Value}{d:V}{d':Value}(r:RelO o u)(rd:RelV d d'):RelV (o.getD d) (u.getD d'):=by
 cases o with
 | none=>cases u with
  | none=>exact rd
  | some _=>exact(show False from r).elim
 | some _=>cases u with
  | none=>exact(show False from r).elim
  | some _=>exact r
theorem KV.val{kvs:List (κ×V)}{vs:List (κ×Value)}(r:KV kvs vs)(k:κ):RelO (valV kvs k) (valueAt vs k):=by
 unfold KV at r
 induction r with
 | nil=>exact True.intro
 | @cons p q ps qs h t ih=>
  obtain⟨h1,h2⟩:=h
  by_cases e:p.1=k
  ·have e':q.1=k:=h1.symm.trans e
   have b:valueAt (q :: qs) k=some q.2:=by simp[valueAt,List.find?_cons,e']
   rw[zh6 e,b];exact h2
  ·have e':¬ q.1=k:=fun z=>e (h1.trans z)
   have b:valueAt (q :: qs) k=valueAt qs k:=by simp[valueAt,List.find?_cons,e']
   rw[zh7 e,b];exact ih
theorem KV.any{kvs:List (κ×V)}{vs:List (κ×Value)}(r:KV kvs vs)(k:κ):(kvs.any fun kv=>decide (kv.1=k))=vs.any fun kv=>decide (kv.1=k):=by
 unfold KV at r
 induction r with
 | nil=>rfl
 | cons h t ih=>rw[List.any_cons,List.any_cons,ih,h.1]
theorem KV.repl{kvs:List (κ×V)}{vs:List (κ×Value)}(r:KV kvs vs)(k:κ){y:V}{u:Value}(ry:RelV y u) :
  KV (kvs.map fun kv=>if kv.1=k then(kv.1,y) else kv) (vs.map fun kv=>if kv.1=k then(kv.1,u) else kv):=by
 unfold KV at r ⊢
 induction r with
 | nil=>exact .nil
 | @cons p q ps qs h t ih=>
  rw[List.map_cons,List.map_cons]
  refine .cons ?_ ih
  obtain⟨h1,h2⟩:=h
  by_cases e:p.1=k
  ·rw[if_pos e,if_pos (h1.symm.trans e)];exact⟨h1,ry⟩
  ·rw[if_neg e,if_neg (fun z=>e (h1.trans z))];exact⟨h1,h2⟩
theorem KV.put{kvs:List (κ×V)}{vs:List (κ×Value)}(r:KV kvs vs)(k:κ){y:V}{u:Value}(ry:RelV y u):KV (putK kvs k y) (stored vs k u):=by
 unfold putK stored
 rw[r.any k]
 by_cases e:(vs.any fun kv=>decide (kv.1=k))=true
 ·rw[if_pos e,if_pos e];exact r.repl k ry
 ·rw[if_neg e,if_neg e];exact Paired.snoc r ⟨rfl,ry⟩
theorem KV.length{kvs:List (κ×V)}{vs:List (κ×Value)}(r:KV kvs vs):kvs.length=vs.length:=Paired.length r
theorem zq6(kvs:List (κ×V))(k:κ):(zmq kvs k).length≤kvs.length:=List.length_filter_le _ _
end
theorem zk8{P:Program}{w:World}{k:Key}{u:Value}(r:RelV (kV k) u):(zaq P w).is k u=true:=by
 cases k with
 | inl i=>obtain⟨t,e⟩:=(show ∃ t,u=Value.int i t from r);subst e;exact zmk P w i t
 | inr x=>obtain⟨t,e⟩:=(show ∃ t,u=Value.str x t from r);subst e;exact zml P w x t
theorem zk9{P:Program}{w:World}:∀ {ks:List Key} {us:List Value},Vals (ks.map kV) us→ItemsAre (zaq P w) ks us
 | [],_,r=>by rw[List.map_nil] at r;cases r;exact .nil
 | k :: ks,_,r=>by
  rw[List.map_cons] at r
  cases r with
  | cons h t=>exact .cons (zk8 h) (zk9 t)
abbrev KT(H:Hp):List (List Key×V)→List (List Key×Addr×Value)→Prop:=Paired fun p q=>p.1=q.1∧H q.2.1=some (.tup (p.1.map kV))∧RelV p.2 q.2.2
theorem KT.val{H:Hp}{kvs:List (List Key×V)}{xs:List (List Key×Addr×Value)}(r:KT H kvs xs)(k:List Key):RelO (valV kvs k) ((atKey xs k).map (·.2)):=by
 induction r with
 | nil=>exact True.intro
 | @cons p q ps qs h t ih=>
  obtain⟨h1,_,h2⟩:=h
  by_cases e:p.1=k
  ·have e':q.1=k:=h1.symm.trans e
   have b:atKey (q :: qs) k=some q.2:=by simp[atKey,List.find?_cons,e']
   rw[zh6 e,b];exact h2
  ·have e':¬ q.1=k:=fun z=>e (h1.trans z)
   have b:atKey (q :: qs) k=atKey qs k:=by simp[atKey,List.find?_cons,e']
   rw[zh7 e,b];exact ih
theorem KT.repl{H:Hp}{kvs:List (List Key×V)}{xs:List (List Key×Addr×Value)}(r:KT H kvs xs)(k:List Key){y:V}{u:Value}(ry:RelV y u) :
  KT H (kvs.map fun kv=>if kv.1=k then(kv.1,y) else kv) (xs.map (putAt k u)):=by
 induction r with
 | nil=>exact .nil
 | @cons p q ps qs h t ih=>
  rw[List.map_cons,List.map_cons]
  refine .cons ?_ ih
  obtain⟨h1,h2,h3⟩:=h
  unfold putAt
  by_cases e:p.1=k
  ·rw[if_pos e,if_pos (h1.symm.trans e)];exact⟨h1,h2,ry⟩
  ·rw[if_neg e,if_neg (fun z=>e (h1.trans z))];exact⟨h1,h2,h3⟩
theorem KT.put{H:Hp}{kvs:List (List Key×V)}{xs:List (List Key×Addr×Value)}(r:KT H kvs xs)(k:List Key){b:Addr}{y:V}{u:Value}(hb:H b=some (.tup (k.map kV)))(ry:RelV y u) :
  KT H (putK kvs k y) (storedH xs k b u):=by
 have e:(kvs.any fun kv=>decide (kv.1=k))=(atKey xs k).isSome:=by
  rw[znq,(r.val k).isSome_eq,Option.isSome_map]
 unfold putK storedH
 rw[e]
 by_cases q:(atKey xs k).isSome=true
 ·rw[if_pos q,if_pos q];exact r.repl k ry
 ·rw[if_neg q,if_neg q];exact Paired.snoc r ⟨rfl,hb,ry⟩
theorem KT.keeps{H H':Hp}{kvs:List (List Key×V)}{xs:List (List Key×Addr×Value)}(r:KT H kvs xs)(ht:∀ b ys,H b=some (.tup ys)→H' b=some (.tup ys)):KT H' kvs xs:=
 Paired.mapP r fun _ _ z=>⟨z.1,ht _ _ z.2.1,z.2.2⟩
section
variable {P:Program}{w:World}{H:Hp}{h:Heap}{a:Addr}
theorem zvI{u:HO}(ok:HOk P w H h)(e:Rd H a u):zbl P w H h a u:=e.ok ok
theorem zla{kvs:List (Key×V)}(ok:HOk P w H h)(e:Rd H a (.dK kvs)):kvs.length≤sizeLine∧(a == sysModules)=false∧∃ vs,KV kvs vs∧h.DictOf (zaq P w) a vs:=
 show zbl P w H h a (.dK kvs) from zvI ok e
theorem zxt{kvs:List (Key×V)}(ok:HOk P w H h)(e:H a=some (.dK kvs)):kvs.length≤sizeLine∧(a == sysModules)=false∧∃ vs,KV kvs vs∧h.DictOf (zaq P w) a vs:=zla ok (.inl e)
theorem zfO{ks:List Key}(ok:HOk P w H h)(e:H a=some (.tup (ks.map kV))):(tupleKind (zaq P w)).is h ks a:=by
 obtain⟨_,its,r,o,h1,h2,n,h3⟩:=(show zbl P w H h a (.tup (ks.map kV)) from ok a _ e)
 exact⟨o,its.toArray,n,h1,h2,h3,by simpa using zk9 r⟩
theorem zmr{kvs:List (List Key×V)}(ok:HOk P w H h)(e:Rd H a (.dT kvs)):kvs.length≤sizeLine∧(a == sysModules)=false∧
  ∃ xs,KT H kvs xs∧h.DictOfH (tupleKind (zaq P w)) a xs:=by
 obtain⟨z,y,xs,r,o,es,ep,h1,h2,h3,h4,h5⟩:=(show zbl P w H h a (.dT kvs) from zvI ok e)
 refine⟨z,y,xs,r,o,es,ep,h1,h2,h3,h4,fun x hx=>?_,h5⟩
 have all:∀ {l:List (List Key×V)} {m:List (List Key×Addr×Value)},KT H l m→∀ x∈m,(tupleKind (zaq P w)).is h x.1 x.2.1:=by
  intro l m q
  induction q with
  | nil=>intro x hx;exact nomatch hx
  | @cons p q ps qs hq t ih=>
   intro x hx
   rcases List.mem_cons.mp hx with e | hx
   ·subst e
    exact zfO ok (by rw[←hq.1];exact hq.2.1)
   ·exact ih x hx
 exact all r x hx
theorem zto{kvs:List (List Key×V)}(ok:HOk P w H h)(e:H a=some (.dT kvs)):kvs.length≤sizeLine∧(a == sysModules)=false∧
  ∃ xs,KT H kvs xs∧h.DictOfH (tupleKind (zaq P w)) a xs:=zmr ok (.inl e)
end
def DGet(H:Hp)(a:Addr)(y:V)(r:Option V):Prop:=
 (∃ kvs k,Rd H a (.dK kvs)∧y=kV k∧r=valV kvs k)∨∃ kvs k b,Rd H a (.dT kvs)∧y=.ref b∧H b=some (.tup (k.map kV))∧r=valV kvs k
def DPut(H:Hp)(a:Addr)(y v:V)(H':Hp):Prop:=
 (∃ kvs k,H a=some (.dK kvs)∧y=kV k∧kvs.length < sizeLine∧H'=upd H a (.dK (putK kvs k v)))∨
 ∃ kvs k b,H a=some (.dT kvs)∧y=.ref b∧H b=some (.tup (k.map kV))∧kvs.length < sizeLine∧H'=upd H a (.dT (putK kvs k v))
theorem DPut.k{H:Hp}{a:Addr}{kvs:List (Key×V)}{k:Key}{v:V}(e:H a=some (.dK kvs))(hl:kvs.length < sizeLine):DPut H a (kV k) v (upd H a (.dK (putK kvs k v))):=.inl ⟨kvs,k,e,rfl,hl,rfl⟩
theorem DPut.t{H:Hp}{a b:Addr}{kvs:List (List Key×V)}{k:List Key}{v:V}(e:H a=some (.dT kvs))(eb:H b=some (.tup (k.map kV)))(hl:kvs.length < sizeLine) :
  DPut H a (.ref b) v (upd H a (.dT (putK kvs k v))):=.inr ⟨kvs,k,b,e,rfl,eb,hl,rfl⟩
section
variable {X:Cx}{pins:List (Addr×Obj)}{σ:St}{H:Hp}{s:Shared}{a:Addr}{y v:V}{u r:Value}{o:Option V}{A:Around}{E:Value→Shared→Prop}
theorem Inv.big(I:Inv X pins σ H s):sysModules < s.heap.objs.size:=by
 have h:mainGlobals < s.heap.objs.size:=(I.mod.glob.keeps I.bk).lt
 exact Nat.lt_trans (by decide) h
theorem zpf{Q:Value→Shared→Prop}(hu:A.units + 1 < cLine)(I:Inv X pins σ H s)(g:DGet H a y (some v))(ry:RelV y u)(h:∀ w' s',Inv X pins σ H s'→RelV v w'→Q w' s') :
  wpAny (model X.prog X.w) A (getItem (.ref a) u) Q E s:=by
 rcases g with⟨kvs,k,e,ey,l⟩ | ⟨kvs,k,b,e,ey,eb,l⟩
 ·subst ey
  obtain⟨z,hd,vs,rel,dd⟩:=zla I.hok e
  obtain⟨w',hw,rw'⟩:=RelO.some_of (v:=v) (o:=valueAt vs k) (by rw[l];exact rel.val k)
  exact wpAny_getItem_of (zk8 ry) dd.mapOf hw (h w' _ (I.tok _) rw')
 ·subst ey
  cases (show u=Value.ref b from ry)
  obtain⟨z,hd,xs,rel,dd⟩:=zmr I.hok e
  obtain⟨w',hw,rw'⟩:=RelO.some_of (v:=v) (o:=(atKey xs k).map (·.2)) (by rw[l];exact rel.val k)
  obtain⟨p,hp,hp2⟩:=Option.map_eq_some_iff.mp hw
  refine wpAny_getItem_heap (tupleKind_room_in1 hu) (zfO I.hok eb) dd hp ?_
  rw[hp2]
  exact h w' _ (I.tok _) rw'
theorem d_in{Q:Value→Shared→Prop}(hu:A.units + 1 < cLine)(I:Inv X pins σ H s)(g:DGet H a y o)(ry:RelV y u)(h:∀ s',Inv X pins σ H s'→Q (.bool o.isSome) s') :
  wpAny (model X.prog X.w) A (compareOp .In u (.ref a)) Q E s:=by
 rcases g with⟨kvs,k,e,ey,l⟩ | ⟨kvs,k,b,e,ey,eb,l⟩
 ·subst ey
  obtain⟨z,hd,vs,rel,dd⟩:=zla I.hok e
  refine wpAny_in_of (zk8 ry) hd dd.mapOf ?_
  rw[←(rel.val k).isSome_eq,←l]
  exact h _ (I.tok _)
 ·subst ey
  cases (show u=Value.ref b from ry)
  obtain⟨z,hd,xs,rel,dd⟩:=zmr I.hok e
  refine wpAny_in_heap (tupleKind_room_in1 hu) (zfO I.hok eb) hd dd ?_
  have q:=(rel.val k).isSome_eq
  rw[Option.isSome_map] at q
  rw[←q,←l]
  exact h _ (I.tok _)
theorem zpg{Q:Value→Shared→Prop}(hu:A.units + 1 < cLine)(I:Inv X pins σ H s)(g:DGet H a y o)(ry:RelV y u)(h:∀ s',Inv X pins σ H s'→Q (.bool (!o.isSome)) s') :
  wpAny (model X.prog X.w) A (compareOp .NotIn u (.ref a)) Q E s:=by
 rcases g with⟨kvs,k,e,ey,l⟩ | ⟨kvs,k,b,e,ey,eb,l⟩
 ·subst ey
  obtain⟨z,hd,vs,rel,dd⟩:=zla I.hok e
  refine wpAny_notIn_of (zk8 ry) hd dd.mapOf ?_
  rw[←(rel.val k).isSome_eq,←l]
  exact h _ (I.tok _)
 ·subst ey
  cases (show u=Value.ref b from ry)
  obtain⟨z,hd,xs,rel,dd⟩:=zmr I.hok e
  refine wpAny_notIn_heap (tupleKind_room_in1 hu) (zfO I.hok eb) hd dd ?_
  have q:=(rel.val k).isSome_eq
  rw[Option.isSome_map] at q
  rw[←q,←l]
  exact h _ (I.tok _)
theorem zjZ{h':Heap}{t':Nat}{ob:HO}(I:Inv X pins σ H s)(mu:Mut (H a))(hs:Heap.SameBut a s.heap h')(he:∃ q,h'.get? a=some q)(new:zbl X.prog X.w (upd H a ob) h' a ob) :
  Inv X pins σ (upd H a ob) {s with heap:=h',toks:=t'}:=
 I.write (x:=a) (e:=a) mu (.inl rfl) (fun b q hb z=>(hs.2 b hb).trans z) he new
theorem zvJ{P:Program}{w:World}{H':Hp}{h':Heap}{kvs:List (Key×V)}{vs:List (Key×Value)}(z:kvs.length≤sizeLine)(hd:(a == sysModules)=false)(rel:KV kvs vs)(dd:h'.DictOf (zaq P w) a vs) :
  zbl P w H' h' a (.dK kvs):=⟨z,hd,vs,rel,dd⟩
theorem zph{H':Hp}{Q:Unit→Shared→Prop}(hu:A.units + 1 < cLine)(I:Inv X pins σ H s)(g:DPut H a y v H')(ry:RelV y u)(rv:RelV v r)(h:∀ s',Inv X pins σ H' s'→Q () s') :
  wpAny (model X.prog X.w) A (setItem (.ref a) u r) Q E s:=by
 rcases g with⟨kvs,k,e,ey,l,eH⟩ | ⟨kvs,k,b,e,ey,eb,l,eH⟩
 ·subst ey eH
  obtain⟨z,hd,vs,rel,dd⟩:=zxt I.hok e
  have hz:vs.length≤sizeLine:=by rw[←rel.length];exact z
  have hl:(putK kvs k v).length≤sizeLine:=by have:=zc2 kvs k v;omega
  refine wpAny_setItem_pairs (hsz:=hz) (zk8 ry) dd fun h' dd' hs=>h _ ?_
  have he:∃ q,h'.get? a=some q:=let ⟨q,_,_,hq,_⟩:=dd';⟨q,hq⟩
  exact zjZ I (by rw[e];exact True.intro) hs he (zvJ hl hd (rel.put k rv) dd')
 ·subst ey eH
  cases (show u=Value.ref b from ry)
  obtain⟨z,hd,xs,rel,dd⟩:=zto I.hok e
  have hz:xs.length≤sizeLine:=by rw[←Paired.length rel];exact z
  have hl:(putK kvs k v).length≤sizeLine:=by have:=zc2 kvs k v;omega
  refine wpAny_setItem_heap (hsz:=hz) (tupleKind_room_in1 hu) (zfO I.hok eb) dd fun h' dd' hs=>h _ ?_
  obtain⟨q,es,ep,hq,h2,h3,h4,_,h5⟩:=dd'
  refine zjZ I (by rw[e];exact True.intro) hs ⟨q,hq⟩ ⟨hl,hd,_,(rel.put k eb rv).keeps fun c ys ec=>?_,q,es,ep,hq,h2,h3,h4,h5⟩
  rw[zal (zsV ec e (fun z=>nomatch z))]
  exact ec
end
section
variable {X:Cx}{pins:List (Addr×Obj)}{σ:St}{H:Hp}{s:Shared}{a:Addr}{kvs:List (Key×V)}{k:Key}{u:Value}{A:Around}{E:Value→Shared→Prop}
theorem zxu{Q:Value→Shared→Prop}(I:Inv X pins σ H s)(e:Rd H a (.dK kvs))(h:∀ t s',Inv X pins σ H s'→Q (.int kvs.length t) s'):wpAny (model X.prog X.w) A (call (.builtin "len") [.ref a]) Q E s:=by
 obtain⟨z,hd,vs,rel,dd⟩:=zla I.hok e
 refine call_len_dict hd dd (by rw[←rel.length];rw[sizeLine_eq] at z;omega) ?_
 rw[←rel.length]
 exact h _ _ (I.tok _)
end
theorem zms{X:Cx}{pins:List (Addr×Obj)}{σ:St}{H:Hp}{s:Shared}{a:Addr}{y:V}{o:Option V}(I:Inv X pins σ H s)(g:DGet H a y o):s.TypeIs (.ref a) "dict":=by
 rcases g with⟨kvs,k,e,_,_⟩ | ⟨kvs,k,b,e,_,_,_⟩
 ·obtain⟨_,_,vs,_,dd⟩:=zla I.hok e
  exact dd.typeIs
 ·obtain⟨_,_,xs,_,dd⟩:=zmr I.hok e
  exact dd.typeIs
section
variable {X:Cx}{o i e value:Expr}{pos pos' tpos:Pos}{td ty tv:TE}
end
theorem zq7{P:Program}{w:World}{H:Hp}(h:Heap)(hb:sysModules < h.objs.size):zbl P w H (h.push {cls:=.type "dict",data:=.dict #[]}) h.objs.size (.dK []):=
 ⟨Nat.zero_le _,beq_eq_false_iff_ne.mpr (Ne.symm (Nat.ne_of_lt hb)),[],.nil,Heap.DictOf.new h⟩
theorem zq8{P:Program}{w:World}{H:Hp}(h:Heap)(hb:sysModules < h.objs.size):zbl P w H (h.push {cls:=.type "dict",data:=.dict #[]}) h.objs.size (.dT []):=
 ⟨Nat.zero_le _,beq_eq_false_iff_ne.mpr (Ne.symm (Nat.ne_of_lt hb)),[],.nil,_,#[],0,Heap.get?_push_size _ rfl,⟨rfl,rfl,rfl⟩,rfl,rfl,List.nodup_nil⟩
def zvK:TE:=fun _ H Q=>∀ p,H p=none→Q (.ref p) (upd H p (.dK []))
def zvL:TE:=fun _ H Q=>∀ p,H p=none→Q (.ref p) (upd H p (.dT []))
section
variable {X:Cx}{pos:Pos}
theorem zq9:PE X (.Dict [] [] pos) zvK:=fun pins s σ H Q I h=>
 wpAny_Dict_empty ⟨.ref s.heap.objs.size,_,I.laid (a:=s.heap.objs.size) (o:=.dK []) (t':=s.toks) (fun _ _ q=>Heap.get?_push_of_some _ q) (Nat.le_refl _) (zq7 s.heap I.big),rfl,h _ (I.hok.fresh (Nat.le_refl _))⟩
theorem zra:PE X (.Dict [] [] pos) zvL:=fun pins s σ H Q I h=>
 wpAny_Dict_empty ⟨.ref s.heap.objs.size,_,I.laid (a:=s.heap.objs.size) (o:=.dT []) (t':=s.toks) (fun _ _ q=>Heap.get?_push_of_some _ q) (Nat.le_refl _) (zq8 s.heap I.big),rfl,h _ (I.hok.fresh (Nat.le_refl _))⟩
end
structure M1(X:Cx)(o:Expr)(m:Str)(apos:Pos)(e:Expr)(cpos:Pos):Prop where
 base:attributeBase o m X.env (eval o X.env)=eval o X.env
 few:((backTo cpos (starEach [e] X.env)).all (fun x=>!x.1) && (backToKw cpos (keywordEach [] X.env)).all (fun x=>x.1.isSome)
  && decide (([e]:List Expr).length + ([]:List Keyword).length + (if ([]:List Keyword).isEmpty then 0 else 1) < 30))=true
 line:(apos.endLine == cpos.line)=true
 trees:backTo cpos (starEach [e] X.env)=[(false,eval e X.env)]
structure M2(X:Cx)(o:Expr)(m:Str)(apos:Pos)(e f:Expr)(cpos:Pos):Prop where
 base:attributeBase o m X.env (eval o X.env)=eval o X.env
 few:((backTo cpos (starEach [e,f] X.env)).all (fun x=>!x.1) && (backToKw cpos (keywordEach [] X.env)).all (fun x=>x.1.isSome)
  && decide (([e,f]:List Expr).length + ([]:List Keyword).length + (if ([]:List Keyword).isEmpty then 0 else 1) < 30))=true
 line:(apos.endLine == cpos.line)=true
 trees:backTo cpos (starEach [e,f] X.env)=[(false,eval e X.env),(false,eval f X.env)]
section
variable {X:Cx}{pins:List (Addr×Obj)}{σ:St}{H:Hp}{s:Shared}{a:Addr}{y d:V}{u r:Value}{o:Option V}{A:Around}{E:Value→Shared→Prop}
theorem zsx{Q:Value→Shared→Prop}(hu:A.units + 1 < cLine)(I:Inv X pins σ H s)(g:DGet H a y o)(ry:RelV y u)(h:∀ w' s',Inv X pins σ H s'→RelV (o.getD .non) w'→Q w' s') :
  wpAny (model X.prog X.w) A (call (.builtin "dict.get") [.ref a,u]) Q E s:=by
 rcases g with⟨kvs,k,e,ey,l⟩ | ⟨kvs,k,b,e,ey,eb,l⟩
 ·subst ey
  obtain⟨z,hd,vs,rel,dd⟩:=zla I.hok e
  refine call_meetsIn PySem.F.slot_dict_get dd.typeIs PySem.F.entry_dict_get (PySem.F.args_dict_get_2 _ _) (meets_dict_get (zaq X.prog X.w) a (zk8 ry) hd) ⟨_,dd.mapOf,h _ _ (I.tok _) ?_⟩
  rw[l]
  exact(rel.val k).getD rfl
 ·subst ey
  cases (show u=Value.ref b from ry)
  obtain⟨z,hd,xs,rel,dd⟩:=zmr I.hok e
  refine call_meetsIn PySem.F.slot_dict_get dd.typeIs PySem.F.entry_dict_get (PySem.F.args_dict_get_2 _ _) (meetsH_dict_get (tupleKind (zaq X.prog X.w)) a b hd) ⟨tupleKind_room_in1 hu,k,xs,zfO I.hok eb,dd,h _ _ (I.tok _) ?_⟩
  rw[l]
  exact(rel.val k).getD rfl
theorem zsy{Q:Value→Shared→Prop}(hu:A.units + 1 < cLine)(I:Inv X pins σ H s)(g:DGet H a y o)(ry:RelV y u)(rd:RelV d r)(h:∀ w' s',Inv X pins σ H s'→RelV (o.getD d) w'→Q w' s') :
  wpAny (model X.prog X.w) A (call (.builtin "dict.get") [.ref a,u,r]) Q E s:=by
 rcases g with⟨kvs,k,e,ey,l⟩ | ⟨kvs,k,b,e,ey,eb,l⟩
 ·subst ey
  obtain⟨z,hd,vs,rel,dd⟩:=zla I.hok e
  refine call_meetsIn PySem.F.slot_dict_get dd.typeIs PySem.F.entry_dict_get (PySem.F.args_dict_get_3 _ _ _) (meets_dict_get_default (zaq X.prog X.w) a (zk8 ry) hd r) ⟨_,dd.mapOf,h _ _ (I.tok _) ?_⟩
  rw[l]
  exact(rel.val k).getD rd
 ·subst ey
  cases (show u=Value.ref b from ry)
  obtain⟨z,hd,xs,rel,dd⟩:=zmr I.hok e
  refine call_meetsIn PySem.F.slot_dict_get dd.typeIs PySem.F.entry_dict_get (PySem.F.args_dict_get_3 _ _ _) (meetsH_dict_get_default (tupleKind (zaq X.prog X.w)) a b hd r) ⟨tupleKind_room_in1 hu,k,xs,zfO I.hok eb,dd,h _ _ (I.tok _) ?_⟩
  rw[l]
  exact(rel.val k).getD rd
end
section
variable {X:Cx}{o e f:Expr}{apos cpos:Pos}{td ty tx:TE}
end
section
variable {X:Cx}{pins:List (Addr×Obj)}{σ:St}{H:Hp}{s:Shared}{a:Addr}{kvs:List (Key×V)}{A:Around}{E:Value→Shared→Prop}
end
section
variable {X:Cx}{pins:List (Addr×Obj)}{σ:St}{H:Hp}{s:Shared}{a:Addr}{y:V}{u:Value}{A:Around}{E:Value→Shared→Prop}
end
end L2
namespace Att
open PySem PySem.W PySem.Calls PyProof.Rows
theorem zin{P:Params}{h:Heap}:∀ (ns:List Int) (vs:List Value),WellAll P h vs (ns.map WData.int)→IntsAre vs ns:=by
 intro ns
 induction ns with
 | nil=>
  intro vs w
  rw[List.map_nil] at w
  cases w
  exact .nil
 | cons n ns ih=>
  intro vs w
  rw[List.map_cons] at w
  cases w with
  | cons a b=>
   cases a
   exact .cons _ _ (ih _ b)
theorem zpi{l:OpenLaw}{n:Nat}(hn:l.most=some n){P:Params}{h:Heap}{args:List WData}{vals:List Value}
  (hpre:l.row.toRowW.claim.pre args=true) (hwl:WellAll P h vals args) :
  ∃ a vs ns,vals=[Value.ref a]∧args=[WData.list (ns.map WData.int)]∧h.get? a=some {cls:=.type "list",data:=.seq vs.toArray}∧IntsAre vs ns∧ns.length≤n:=by
 have hsh:WShape.hasAll [] args [.list .int]=true:=(pre_splitW hpre).1
 have hc:l.pre.holds [] {args:=args} = true:=(pre_splitW hpre).2
 obtain⟨d,r,rfl,h1,h2⟩:=hasAllW_cons hsh
 obtain rfl:=hasAllW_nil h2
 obtain⟨xs,rfl,h3⟩:=hasW_list h1
 obtain⟨ns,rfl⟩:=items_int h3
 have hlen:ns.length≤n:=by
  unfold OpenLaw.pre at hc
  have h4:(WTm.not (.lt (.lit (.int (n:Int))) (.len (.arg 0)))).holds [] {args:=[.list (ns.map .int)]} = true:=by
   have h4:=(holds_andW hc).1
   rw[hn] at h4
   exact h4
  have h5:=condW_of h4 (w_not (w_lt w_lit (w_len_list (w_arg rfl))))
  rw[List.length_map] at h5
  refine Nat.le_of_not_lt fun q=>?_
  have q':(n:Int) < ((ns.length:Nat):Int):=by omega
  first
   | (rw[decide_eq_true q'] at h5;exact absurd h5 (by decide))
   | (simp at h5;omega)
 cases hwl with
 | cons w1 w2=>
  cases w2
  cases w1 with
  | list ho hall=>exact⟨_,_,ns,rfl,rfl,ho,zin ns _ hall,hlen⟩
theorem zpj(l:OpenLaw)(args:List WData):l.row.toRowW.claim.post args (.bool true) args=true:=
 postW_of (r:=l.row.toRowW) (X:=(true == true))
  (show WShape.has [] (.bool true) .bool=true by first | rfl | decide | simp[WShape.has,WShape.arms,WShape.armsAll])
  (show(WTm.eq .res (.lit (.bool true))).value [] {args:=args,res:=some (.bool true),after:=args} = some (.bool (true == true)) from w_eq_bool (w_res rfl) w_lit) rfl
theorem attach_call{l:OpenLaw}{n:Nat}{q:Program}{loose:List Str}{XP:(Str→Option Value)→Heap→Prop}{YP:World→Heap→Prop}{d:DefRec}
  (hn:l.most=some n) (hdf:d.params.defaults=[])
  (call:∀ (w:World) (s₀ s₁:Shared) (mg mb:Str→Option Value) (fa:Addr) (o:Obj) (pm cd doc:Value) (a:Addr) (vs:List Value) (ns:List Int),
   Ground q loose [] XP w s₀ mg mb s₁.heap→YP w s₁.heap→
   s₁.heap.get? fa=some o→o.data=.func (docDef d.name d.params d.body d.scope pm cd doc)→s₁.heap.CodeRec cd d.name→mg d.name=some (.ref fa)→
   s₁.heap.get? a=some {cls:=.type "list",data:=.seq vs.toArray}→IntsAre vs ns→ns.length≤n→s₁.gens = #[]→
   codeAny (model l.prog w) callerA (.call (.ref fa) ⟨[.ref a],[]⟩) (fun r s'=>r=.ok (.ret (.bool true))∧OldK s₁.heap s'.heap∧s'.os=s₁.os∧AllBare s'.gens) s₁) :
  WalkO q loose XP YP l.row.toRowW d [] (fun f vs=>PySem.call f vs):=by
 intro w s₀ s₁ mg mb G Y fa o pm cd doc dV kV ho hd hcd hD hmg hg args vals as hpre hlay hrd hwl hlo
 obtain rfl:dV=.none:=Dflts.none hD hdf
 obtain rfl:kV=.none:=Dflts.noKw hD
 obtain⟨a,vs,ns,rfl,rfl,hobj,hints,hlen⟩:=zpi hn hpre hwl
 refine enter_call (codeAny_mono (call w s₀ s₁ mg mb fa o pm cd doc a vs ns G Y ho (fd_plain hd) hcd hmg hobj hints hlen hg) fun r s' hq=>?_)
 obtain⟨rfl,h2,h3,h4⟩:=hq
 exact⟨.inl ⟨.bool true,.bool true,[],rfl,fun _=>rfl,.bool true,zpj l _,fun _=>⟨List.Pairwise.nil,fun _ hm=>(nomatch hm)⟩⟩,h2,h3,h4⟩
section
variable {prog:Program}{w:World}{A:Around}{E:Value→Shared→Prop}{s:Shared}{K:Frag}
end
end Att
namespace L2
open PySem PySem.Spec PyProof.Rows
theorem zlb:∀ {vs:List Value} {ns:List Int},IntsAre vs ns→Vals (ns.map V.int) vs
 | _,_,.nil=>.nil
 | _,_,.cons n t h=>.cons ⟨t,rfl⟩ (zlb h)
def Only(H:Hp):Prop:=∀ b,H b=none∨∃ o xs,H b=some (.frz o (.lst xs))
theorem zrb{P:Program}{w:World}{K:PySem.W.Frag}{mg mb:Str→Option Value}{CX:CXT}{k:Nat}{fa a:Addr}{fd:FuncData}{x:Str}{sp:Sp}{s₁:Shared}{vs:List Value}{ns:List Int}
  (KX:K.In s₁.heap) (hns:s₁.heap.Ns mainGlobals mg) (hb:s₁.heap.Ns builtinsNs mb) (hbb:∀ x:Str,x≠"__name__"→mb x=bootBuiltins x) (hlim:s₁.heap.NoLimit) (hg:s₁.gens = #[])
  (ha:s₁.heap.get? a=some {cls:=.type "list",data:=.seq vs.toArray}) (hi:IntsAre vs ns) (hl:ns.length≤sizeLine) (hr:Room k callerA)
  (F:∀ base:Heap,K.In base→base.Ns mainGlobals mg→FnOk P w K mg base CX k fa fd [x] sp) (hbind:∀ (s:Shared) (u:Value),BindsTo s fd ⟨[u],[]⟩ [(x,u)])
  (hsp:∀ H:Hp,Only H→SqL K H a (ns.map V.int)→sp [.ref a] H (fun v _=>v=.bl true) fun _ _ _=>False)
  (hCX:∀ H e s',CX [] H s₁ (fun _ _ _=>False) e s'→False) :
  codeAny (model P w) callerA (.call (.ref fa) ⟨[.ref a],[]⟩) (fun r s'=>r=.ok (.ret (.bool true))∧OldK s₁.heap s'.heap∧s'.os=s₁.os∧AllBare s'.gens) s₁:=by
 have rv:=zlb hi
 have lenV:=hi.length
 have core:∀ H:Hp,Only H→SqL K H a (ns.map V.int)→HOk P w H s₁.heap→(∀ b,H b≠none→b=a)→(H a≠none→K.lookup a=none)→
   codeAny (model P w) callerA (.call (.ref fa) ⟨[.ref a],[]⟩) (fun r s'=>r=.ok (.ret (.bool true))∧OldK s₁.heap s'.heap∧s'.os=s₁.os∧AllBare s'.gens) s₁:=by
  intro H hO hS hok hA hK
  have base_of:∀ {b:Addr} {o:Obj},s₁.heap.get? b=some o→H b=none→(hidT s₁.heap H).get? b=some o:=fun e n=>zqP e n
  have noA:∀ {b:Addr} {o:Obj} {es:Array DictEntry} {ep:Nat},s₁.heap.get? b=some o→o.data=.dict es ep→H b=none:=fun {b o es ep} e d=>by
   cases q:H b with
   | none=>rfl
   | some u=>
    have e':b=a:=hA b (by rw[q];simp)
    subst e'
    rw[ha] at e;cases e
    have d':Data.seq vs.toArray _=Data.dict es ep:=d
    cases d'
  have nsK:∀ {b:Addr} {m:Str→Option Value},s₁.heap.Ns b m→(hidT s₁.heap H).Ns b m:=fun {b m} ⟨o,es,ep,e,d,r⟩=>⟨o,es,ep,base_of e (noA e d),d,r⟩
  have hKb:K.In (hidT s₁.heap H):=fun b o e=>base_of (KX b o e) (by
   cases q:H b with
   | none=>rfl
   | some u=>
    have e':b=a:=hA b (by rw[q];simp)
    subst e'
    rw[hK (by rw[q];simp)] at e;cases e)
  have hM:Mod K mg (hidT s₁.heap H):=⟨hKb,nsK hns,⟨mb,nsK hb,hbb⟩,let ⟨mc,h1,h2⟩:=hlim;⟨mc,nsK h1,h2⟩⟩
  have e0:Env0 P w K mg (hidT s₁.heap H) callerA [] s₁ H:=⟨rfl,hM,fun b o e=>zsW e,Nat.le_of_eq (zoW _ _),trivial,fun b hb=>absurd (show b∈([]:List Addr) from hb) (by simp),hok,.of_eq hg⟩
  refine codeAny_mono ((F _ hKb (nsK hns)).run callerA [] s₁ H ⟨[.ref a],[]⟩ [.ref a] [.ref a] _ _ hr e0 (hbind s₁ (.ref a)) (.cons rfl .nil) (hsp H hO hS)) fun r s' h=>?_
  cases r with
  | error e=>exact(hCX H e s' h).elim
  | ok fl=>
   cases fl with
   | next=>exact False.elim h
   | brk=>exact False.elim h
   | cont=>exact False.elim h
   | ret u=>
    obtain⟨v,H',os,bare,un,hok',r',q⟩:=h
    have q':v=.bl true:=q
    subst q'
    obtain rfl:u=Value.bool true:=r'
    refine⟨rfl,OldK.of_keep fun b o e=>?_,os,bare⟩
    cases q:H b with
    | none=>exact un.keep b o e q (by intro z;exact absurd (show b∈([]:List Addr) from z) (by simp)) (by simp)
    | some u=>
     rcases hO b with z | ⟨ob,xs,z⟩
     ·rw[q] at z;cases z
     ·have z2:=un.frzs b ob _ z
      obtain⟨e1,_⟩:=hok b _ z
      obtain⟨e2,_⟩:=hok' b _ z2
      rw[e] at e1;cases e1
      exact e2
 cases hk:K.lookup a with
 | some o=>
  have e:=KX a o hk
  rw[ha] at e
  cases e
  refine core (fun _=>none) (fun _=>.inl rfl) (.inr ⟨_,vs.toArray,_,hk,rfl,rfl,rfl,by rw[List.size_toArray,lenV];exact hl,by simpa using rv⟩) (fun b u z=>by have z':(none:Option HO)=some u:=z;cases z') (fun b z=>absurd rfl z) fun z=>absurd rfl z
 | none=>
  refine core (fun b=>if b=a then some (.frz {cls:=.type "list",data:=.seq vs.toArray} (.lst (ns.map V.int))) else none) (fun b=>?_) (.inl (.inr ⟨{cls:=.type "list",data:=.seq vs.toArray},if_pos rfl⟩)) (fun b u z=>?_) (fun b z=>?_) fun _=>hk
  ·by_cases hb:b=a
   ·exact .inr ⟨_,_,if_pos hb⟩
   ·exact .inl (if_neg hb)
  ·by_cases hb:b=a
   ·have z':=(if_pos hb).symm.trans z
    cases z'
    subst hb
    exact⟨ha,by rw[List.length_map];exact hl,vs,_,rv,ha⟩
   ·have z':=(if_neg hb).symm.trans z
    cases z'
  ·by_cases hb:b=a
   ·exact hb
   ·exact absurd (if_neg hb) z
end L2
namespace L2
open PySem PySem.Spec PyProof.Rows
theorem ztp{l:PySem.W.OpenLaw}{n k:Nat}{q:Program}{loose:List Str}{XP:(Str→Option Value)→Heap→Prop}{YP:World→Heap→Prop}{d:DefRec}{K:Params→PySem.W.Frag}{CX:World→CXT}{sp:World→Sp}{x:Str}
  (hn:l.most=some n) (hn2:n≤sizeLine) (hdf:d.params.defaults=[]) (hr:Room k callerA)
  (hY:∀ (w:World) (h:Heap),YP w h→(K w.params).In h)
  (F:∀ (w:World) (mg:Str→Option Value) (fa:Addr) (h:Heap),(K w.params).In h→h.Ns mainGlobals mg→mg d.name=some (.ref fa)→
   ∃ fd:FuncData,(∀ (s:Shared) (u:Value),BindsTo s fd ⟨[u],[]⟩ [(x,u)])∧
    ∀ base:Heap,(K w.params).In base→base.Ns mainGlobals mg→FnOk l.prog w (K w.params) mg base (CX w) k fa fd [x] (sp w))
  (hsp:∀ (w:World) (H:Hp) (a:Addr) (ns:List Int),ns.length≤n→Only H→SqL (K w.params) H a (ns.map V.int)→sp w [.ref a] H (fun v _=>v=.bl true) fun _ _ _=>False)
  (hCX:∀ (w:World) (H:Hp) (s:Shared) (e:Value) (s':Shared),CX w [] H s (fun _ _ _=>False) e s'→False) :
  PySem.W.WalkO q loose XP YP l.row.toRowW d [] (fun f vs=>PySem.call f vs):=by
 refine Att.attach_call hn hdf fun w s₀ s₁ mg mb fa o pm cd doc a vs ns G Y ho hd hcd hmg hobj hints hlen hg=>?_
 have KX:=hY w _ Y
 obtain⟨fd,hb,hF⟩:=F w mg fa _ KX G.T.g hmg
 exact zrb KX G.T.g G.T.b G.T.builtins G.T.nolimit hg hobj hints (Nat.le_trans hlen hn2) hr hF hb (fun H hO hS=>hsp w H a ns hlen hO hS) fun H e s'=>hCX w H s₁ e s'
end L2
namespace L2
open PySem PySem.Spec PyProof.Rows
def zdH(s:Stmt)(j:Nat):Stmt:=match s with
 | .ClassDef _ _ _ body _ _ _ _ _ _ _=>body.getD j (.Pass ⟨0,0,0,0⟩)
 | _=>.Pass ⟨0,0,0,0⟩
def zeU(s:Stmt):Arguments:=match s with
 | .FunctionDef _ a _ _ _ _ _ _ _ _=>a
 | _=>{posonlyargs:=[],args:=[],vararg:=none,kwonlyargs:=[],kw_defaults:=[],kwarg:=none,defaults:=[]}
def zao(s:Stmt):List Stmt:=match s with
 | .FunctionDef _ _ b _ _ _ _ _ _ _=>b
 | _=>[]
def zab(s:Stmt):Scope:=match s with
 | .FunctionDef _ _ _ _ _ _ sc _ _ _=>sc
 | _=>{kind:=.function,names:=[],isGenerator:=false,isCoroutine:=false}
abbrev CX0:CXT:=fun _ _ _ _ _ _=>False
abbrev E0:XK:=fun _ _ _=>False
theorem zpk{X:Cx}:zhA CX0 X E0:=fun _ _ _ _ _ _ _ h=>h.elim
structure Fun(K:PySem.W.Frag)(x qual:Str)(st:Stmt)(f:Addr)(fd:FuncData):Prop where
 ex:∃ (oc:Value) (od:Option Addr) (kV doc pm:Value) (an:Option Addr) (cdv ct:Value) (osl:Array (Option Value)),
  fd=PySem.W.fnOf x qual (zeU st) (zao st) (zab st) .none kV doc pm an cdv ct∧K.lookup f=some ⟨oc,od,.func fd,osl⟩∧PySem.W.codeIn K cdv qual=true
 kp:PySem.W.keepIn K (.ref f)=true
section
variable {P:Program}{w:World}{K:PySem.W.Frag}{mg:Str→Option Value}{base:Heap}
theorem Fun.ok{x qual:Str}{st:Stmt}{f:Addr}{fd:FuncData}{N ps:List Str}{k:Nat}{sp:Sp}(F:Fun K x qual st f fd)(S:zas N ps (zab st))(len:∀ vs H Q E,sp vs H Q E→vs.length=ps.length)
  (hbody:∀ (cdv:Value) (A:Around) (outer:List Env) (s:Shared) (H:Hp) (vs:List V) (Q:VK) (E:XK),Room k (A.deeper (envOfC qual (zab st) s.heap.objs.size f cdv))→sp vs H Q E→
   ∃ t,PSs (cxOf CX0 P w K mg base N qual (zab st) f cdv A outer s H E).nox (zao st) t∧t {nx:=fun _ H'=>Q .non H',rt:=Q} (start N vs) H):FnOk P w K mg base CX0 (k + 1) f fd ps sp:=by
 obtain⟨oc,od,kV,doc,pm,an,cdv,ct,osl,rfl,lk,hcd⟩:=F.ex
 refine zxn lk hcd S len fun A outer s H vs Q E hr hsp=>?_
 obtain⟨t,h,q⟩:=hbody cdv A outer s H vs Q E hr hsp
 exact⟨t,h.nox,q⟩
theorem Fun.binds{x qual:Str}{st:Stmt}{f:Addr}{fd:FuncData}{ps:List Str}(F:Fun K x qual st f fd)
  (h:∀ (kV doc pm:Value) (an:Option Addr) (cdv ct:Value) (us:List Value),us.length=ps.length→bindArgs (PySem.W.fnOf x qual (zeU st) (zao st) (zab st) .none kV doc pm an cdv ct) ⟨us,[]⟩=pure (ps.zip us)):zeO K fd ps []:=by
 obtain⟨oc,od,kV,doc,pm,an,cdv,ct,osl,rfl,lk,hcd⟩:=F.ex
 exact .all (h kV doc pm an cdv ct)
theorem zvM{x qual:Str}{st:Stmt}{f:Addr}{oc:Value}{od an:Option Addr}{osl:Array (Option Value)}{kV doc pm cdv ct:Value}(l:K.lookup f=some ⟨oc,od,.func (PySem.W.fnOf x qual (zeU st) (zao st) (zab st) .none kV doc pm an cdv ct),osl⟩)
  (c:PySem.W.codeIn K cdv qual=true) (k:PySem.W.keepIn K (.ref f)=true):Fun K x qual st f (PySem.W.fnOf x qual (zeU st) (zao st) (zab st) .none kV doc pm an cdv ct):=⟨⟨oc,od,kV,doc,pm,an,cdv,ct,osl,rfl,l,c⟩,k⟩
end
theorem zbU{A:Around}{k:Nat}(hr:Room k A):A.units + 1 < cLine:=Nat.lt_of_le_of_lt (Nat.add_le_add_left (by decide:1≤64) _) hr.units
section
variable {X:Cx}
theorem zlc:zbx X (.builtin "len") (fun xs H Q=>∃ a kvs,xs=[V.ref a]∧H a=some (.dK kvs)∧Q (.int kvs.length) H):=by
 intro pins s σ H xs us Q I r h
 obtain⟨a,kvs,rfl,ha,q⟩:=h
 obtain⟨u,rfl,ru⟩:=zf4 r
 cases ru
 exact zxu I (.inl ha) fun t s' I'=>⟨.int kvs.length,H,I',⟨t,rfl⟩,q⟩
end
theorem iteF{A B:Prop}(h:B):if false=true then A else B:=by
 rw[if_neg Bool.false_ne_true]
 exact h
theorem iteT{A B:Prop}(h:A):if true=true then A else B:=by
 rw[if_pos rfl]
 exact h
section
variable {κ:Type}[DecidableEq κ]
end
end L2
set_option maxHeartbeats 4000000
namespace L2
open PySem PySem.Spec PyProof.Rows
structure Blk where
 cl:List (Str×Addr)
 s:Shared
 H:Hp
 fp:List Addr
 C:Addr
def cxB(X:Cx)(sc:Scope)(N':List Str)(B:Blk):Cx where
 prog:=X.prog
 w:=X.w
 K:=X.K
 mg:=X.mg
 base:=X.base
 A:=X.A
 N:=N'
 s₀:=B.s
 H₀:=B.H
 env:=compEnvC sc B.cl B.C X.env
 outer:=X.stack
 stack:=X.stack
 ex:=B.fp
 fn:=fun _=>false
 calm:=X.calm
 pn:=[]
 xe:=fun _ _=>False
def zeV(cells:List (Str×Addr)):List (Str×NameKind)→List (Str×Addr)→List (Str×Addr)
 | [],acc=>acc
 | (n,k) :: r,acc=>if k=.free then zeV cells r ((n,(cells.lookup n).getD 0) :: acc) else zeV cells r acc
theorem zjz{scope:Scope}{env:Env}(h:∀ y∈scope.names,y.2=.free→∃ c,env.cells.lookup y.1=some c):closureFor scope env=pure (zeV env.cells scope.names []):=by
 have key:∀ (names:List (Str×NameKind)) (acc:List (Str×Addr)),(∀ y∈names,y.2=.free→∃ c,env.cells.lookup y.1=some c)→
   (forIn names acc fun(x:Str×NameKind) (cs:List (Str×Addr))=>(if (x.2 == NameKind.free)=true then(do let a ←cellOf env x.1;pure (ForInStep.yield ((x.1,a) :: cs))) else pure (ForInStep.yield cs):Sem (ForInStep (List (Str×Addr)))))=(pure (zeV env.cells names acc):Sem _):=by
  intro names
  induction names with
  | nil=>intro acc _;rfl
  | cons y r ih=>
   intro acc hy
   obtain⟨n,k⟩:=y
   rw[List.forIn_cons]
   by_cases hk:k=.free
   ·subst hk
    obtain⟨c,hc⟩:=hy (n,.free) List.mem_cons_self rfl
    have e1:cellOf env n=(pure c:Sem Addr):=by
     unfold cellOf
     rw[show env.cells.lookup n=some c from hc]
    simp only[beq_self_eq_true,if_true,e1,pure_bind]
    rw[ih _ fun z hz=>hy z (List.mem_cons_of_mem _ hz)]
    simp only[zeV,if_true]
    rw[show env.cells.lookup n=some c from hc]
    rfl
   ·have hb:(k == NameKind.free)=false:=by simpa using hk
    simp only[hb,Bool.false_eq_true,if_false,pure_bind]
    rw[ih _ fun z hz=>hy z (List.mem_cons_of_mem _ hz)]
    simp only[zeV,if_neg hk]
 have e:closureFor scope env=((forIn scope.names [] fun(x:Str×NameKind) (cs:List (Str×Addr))=>(if (x.2 == NameKind.free)=true then(do let a ←cellOf env x.1;pure (ForInStep.yield ((x.1,a) :: cs))) else pure (ForInStep.yield cs):Sem (ForInStep (List (Str×Addr))))) >>= fun cs=>pure cs):=by
  unfold closureFor
  rfl
 rw[e,key _ _ h,pure_bind]
theorem zio{cells:List (Str×Addr)}{x:Str}{c:Addr}:∀ {names:List (Str×NameKind)} {acc:List (Str×Addr)},(∀ y∈names,y.2=.free→∃ c,cells.lookup y.1=some c)→
  (∀ x c,acc.lookup x=some c→cells.lookup x=some c)→(zeV cells names acc).lookup x=some c→cells.lookup x=some c
 | [],acc,_,ha,e=>ha x c e
 | (n,k) :: r,acc,hy,ha,e=>by
  have hr:∀ y∈r,y.2=.free→∃ c,cells.lookup y.1=some c:=fun z hz=>hy z (List.mem_cons_of_mem _ hz)
  unfold zeV at e
  by_cases hk:k=.free
  ·subst hk
   rw[if_pos rfl] at e
   obtain⟨d,hd⟩:=hy (n,.free) List.mem_cons_self rfl
   have hd:cells.lookup n=some d:=hd
   refine zio hr (fun z b q=>?_) e
   rw[List.lookup_cons] at q
   by_cases hz:z=n
   ·subst hz
    rw[beq_self_eq_true,hd] at q
    rw[hd];exact q
   ·have:(z == n)=false:=beq_eq_false_iff_ne.mpr hz
    rw[this] at q
    exact ha z b q
  ·rw[if_neg hk] at e
   exact zio hr ha e
theorem zgx{cells:List (Str×Addr)}{x:Str}:∀ {names:List (Str×NameKind)} {acc:List (Str×Addr)},((x,NameKind.free)∈names∨∃ c,acc.lookup x=some c)→∃ c,(zeV cells names acc).lookup x=some c
 | [],acc,h=>by
  rcases h with h | h
  ·cases h
  ·exact h
 | (n,k) :: r,acc,h=>by
  unfold zeV
  by_cases hk:k=.free
  ·subst hk
   rw[if_pos rfl]
   refine zgx ?_
   by_cases hx:x=n
   ·subst hx
    right
    rw[List.lookup_cons,beq_self_eq_true]
    exact⟨_,rfl⟩
   ·have hb:(x == n)=false:=beq_eq_false_iff_ne.mpr hx
    rcases h with h | ⟨c,h⟩
    ·rcases List.mem_cons.mp h with e | h
     ·cases e;exact absurd rfl hx
     ·exact .inl h
    ·right
     rw[List.lookup_cons,hb]
     exact⟨c,h⟩
  ·rw[if_neg hk]
   refine zgx ?_
   rcases h with h | h
   ·rcases List.mem_cons.mp h with e | h
    ·cases e;exact absurd rfl hk
    ·exact .inl h
   ·exact .inr h
structure ziq(N':List Str)(sc osc:Scope):Prop where
 kind:sc.kind=.function
 nd:N'.Nodup
 nocell:∀ y∈sc.names,y.2≠.cell
 loc:∀ y∈sc.names,y.2=.local→sc.names.lookup y.1=some .local
 free:∀ y∈sc.names,y.2=.free→osc.names.lookup y.1=some .cell∨osc.names.lookup y.1=some .free
def zf5(N':List Str)(sc osc:Scope):Bool:=
 decide (sc.kind=.function) && decide N'.Nodup && sc.names.all (fun y=>decide (y.2≠.cell)) && sc.names.all (fun y=>decide (y.2=.local→sc.names.lookup y.1=some .local)) &&
  sc.names.all (fun y=>decide (y.2=.free→osc.names.lookup y.1=some .cell∨osc.names.lookup y.1=some .free))
theorem ziq.of{N':List Str}{sc osc:Scope}(h:zf5 N' sc osc=true):ziq N' sc osc:=by
 unfold zf5 at h
 simp only[Bool.and_eq_true] at h
 obtain⟨⟨⟨⟨h1,h2⟩,h3⟩,h4⟩,h5⟩:=h
 exact⟨of_decide_eq_true h1,of_decide_eq_true h2,fun y hy=>of_decide_eq_true (List.all_eq_true.mp h3 y hy),fun y hy=>of_decide_eq_true (List.all_eq_true.mp h4 y hy),fun y hy=>of_decide_eq_true (List.all_eq_true.mp h5 y hy)⟩
def cmap(js:List (Option Nat))(σ:St):St:=js.map fun o=>o.bind fun j=>(σ[j]?).join
def jsOk(N' N:List Str)(sc:Scope):List (Option Nat)→List Str→Bool
 | [],[]=>true
 | none :: js,_ :: r=>jsOk N' N sc js r
 | some j :: js,x :: r=>decide (N[j]? = some x) && decide (sc.names.lookup x=some .free) && jsOk N' N sc js r
 | _,_=>false
theorem zj0{N' N:List Str}{sc:Scope}:∀ {js:List (Option Nat)} {r:List Str},jsOk N' N sc js r=true→js.length=r.length
 | [],[],_=>rfl
 | none :: js,_ :: r,h=>by
  have:=zj0 (js:=js) (r:=r) h
  simp[this]
 | some j :: js,x :: r,h=>by
  unfold jsOk at h
  rw[Bool.and_eq_true] at h
  have:=zj0 (js:=js) (r:=r) h.2
  simp[this]
 | [],_ :: _,h=>by simp[jsOk] at h
 | none :: _,[],h=>by simp[jsOk] at h
 | some _ :: _,[],h=>by simp[jsOk] at h
theorem zj1{N' N:List Str}{sc:Scope}:∀ {js:List (Option Nat)} {r:List Str} {i j:Nat} {x:Str},jsOk N' N sc js r=true→js[i]? = some (some j)→r[i]? = some x→N[j]? = some x∧sc.names.lookup x=some .free
 | [],[],i,j,x,_,e,_=>by simp at e
 | none :: js,_ :: r,0,j,x,h,e,_=>by simp at e
 | none :: js,_ :: r,i + 1,j,x,h,e,e2=>zj1 (js:=js) (r:=r) (i:=i) h (by simpa using e) (by simpa using e2)
 | some k :: js,y :: r,0,j,x,h,e,e2=>by
  unfold jsOk at h
  rw[Bool.and_eq_true,Bool.and_eq_true] at h
  simp at e e2
  subst e;subst e2
  exact⟨of_decide_eq_true h.1.1,of_decide_eq_true h.1.2⟩
 | some k :: js,y :: r,i + 1,j,x,h,e,e2=>by
  unfold jsOk at h
  rw[Bool.and_eq_true,Bool.and_eq_true] at h
  exact zj1 (js:=js) (r:=r) (i:=i) h.2 (by simpa using e) (by simpa using e2)
 | [],_ :: _,_,_,_,h,_,_=>by simp[jsOk] at h
 | none :: _,[],_,_,_,h,_,_=>by simp[jsOk] at h
 | some _ :: _,[],_,_,_,h,_,_=>by simp[jsOk] at h
theorem zeW{env:Env}{x:Str}:∀ {names:List (Str×NameKind)},(∀ y∈names,y.2≠.cell)→
  (((names.map fun(n,k)=>if (k == NameKind.free && env.scope.kind == .function && env.kindOf n == some .cell) then(n,NameKind.cell) else(n,k)).lookup x=some .cell∨
    (names.map fun(n,k)=>if (k == NameKind.free && env.scope.kind == .function && env.kindOf n == some .cell) then(n,NameKind.cell) else(n,k)).lookup x=some .free)↔names.lookup x=some .free)
 | [],_=>by simp
 | (n,k) :: r,h=>by
  have ih:=@zeW env x r fun y hy=>h y (List.mem_cons_of_mem _ hy)
  have hk:k≠.cell:=h (n,k) List.mem_cons_self
  rw[List.map_cons]
  dsimp only
  by_cases hx:(x == n)=true
  ·by_cases hc:(k == NameKind.free && env.scope.kind == .function && env.kindOf n == some .cell)=true
   ·rw[if_pos hc]
    simp only[List.lookup_cons,hx]
    have:k=.free:=by
     rw[Bool.and_eq_true,Bool.and_eq_true] at hc
     exact beq_iff_eq.mp hc.1.1
    simp[this]
   ·rw[if_neg hc]
    simp only[List.lookup_cons,hx]
    constructor
    ·rintro(e | e)
     ·cases e;exact absurd rfl hk
     ·exact e
    ·intro e;exact .inr e
  ·have hx:(x == n)=false:=by simpa using hx
   by_cases hc:(k == NameKind.free && env.scope.kind == .function && env.kindOf n == some .cell)=true
   ·rw[if_pos hc]
    simp only[List.lookup_cons,hx]
    exact ih
   ·rw[if_neg hc]
    simp only[List.lookup_cons,hx]
    exact ih
theorem zf6{x:Str}{k:NameKind}:∀ {names:List (Str×NameKind)},names.lookup x=some k→(x,k)∈names:=fun h=>PySem.mem_of_lookup h
section
variable {X:Cx}{sc:Scope}{N':List Str}{js:List (Option Nat)}{pins:List (Addr×Obj)}{σ:St}{H H1:Hp}{s:Shared}{fp:List Addr}{C:Addr}
theorem zj2(S:ziq N' sc X.env.scope)(I:Inv X pins σ H s):∀ y∈sc.names,y.2=.free→∃ c,X.env.cells.lookup y.1=some c:=fun y hy hk=>
 I.ok.has y.1 (S.free y hy hk)
theorem ztq(S:ziq N' sc X.env.scope)(hj:jsOk N' X.N sc js N'=true)(I:Inv X pins σ H s)(hf:∀ b∈fp,FpOk X pins H b)(ho:∀ b∈fp,∃ o,s.heap.get? b=some o)
  {h1:Heap} {tk:Nat} {m:Str→Option Value} (hC:s.heap.objs.size≤C) (keep:∀ b o,s.heap.get? b=some o→h1.get? b=some o) (un:Un (frs X.stack) fp H H1 s.heap h1) (hok:HOk X.prog X.w H1 h1) (hn:h1.Ns C m) (hfree:H1 C=none) :
  Inv (cxB X sc N' ⟨zeV X.env.cells sc.names [],s,H,fp,C⟩) [] (cmap js σ) H1 {s with heap:=h1,toks:=tk}:=by
 have cs:=zj2 S I
 have sub:∀ x c,(zeV X.env.cells sc.names []).lookup x=some c→X.env.cells.lookup x=some c:=fun x c e=>zio cs (fun _ _ z=>by simp at z) e
 refine⟨⟨I.ok.mod,S.kind,I.ok.glob,I.ok.blt,hC,fun x y c e1 e2=>I.ok.inj x y c (sub x c e1) (sub y c e2),fun x hx=>?_,fun _ _ h _=>absurd (show false=true from h) Bool.false_ne_true,I.ok.hd,I.ok.frames,.inl rfl,fun b hb=>?_,I.bs,Nat.le_trans I.ok.bsz I.sz,fun b o e hb=>?_,fun b hb hb'=>?_,I.stack,I.stkFree⟩,
  rfl,I.bare,un,⟨m,hn,fun i x v e1 e2 e3=>?_⟩,fun x c e=>?_,hfree,fun x c e=>?_,fun p hp=>absurd (show p∈([]:List (Addr×Obj)) from hp) (by simp),hok,?_⟩
 ·have q:sc.names.lookup x=some .free:=(zeW (env:=X.env) S.nocell).mp hx
  exact zgx (.inl (zf6 q))
 ·obtain⟨o,e⟩:=ho b hb
  exact⟨Nat.ne_of_lt (Nat.lt_of_lt_of_le (Heap.lt_size e) hC),fun x c q=>(hf b hb).2.2.2.2.1 x c (sub x c q)⟩
 ·rcases(hf b hb).2.2.2.1 with z | z
  ·exact I.ok.noex b o e z
  ·exact absurd (Nat.lt_of_lt_of_le (Heap.lt_size e) (Nat.le_trans I.ok.bsz z)) (Nat.lt_irrefl _)
 ·rcases List.mem_cons.mp (I.stkSub b hb') with z | z
  ·exact(hf b hb).2.1 z
  ·exact(hf b hb).2.2.1 z
 ·
  have e1:N'[i]? = some x:=e1
  unfold cmap at e2
  rw[List.getElem?_map] at e2
  cases hji:js[i]? with
  | none=>rw[hji] at e2;cases e2
  | some o=>
   rw[hji] at e2
   cases o with
   | none=>cases e2
   | some j=>
    obtain⟨a1,a2⟩:=zj1 hj hji e1
    have e2:(σ[j]?).join=some v:=by simpa using e2
    have e2':σ[j]? = some (some v):=by
     cases q:σ[j]? with
     | none=>rw[q] at e2;cases e2
     | some z=>rw[q] at e2;simpa using e2
    obtain⟨m0,hn0,hl0⟩:=I.loc
    have kx:=S.free _ (zf6 a2) rfl
    obtain⟨u,r,l⟩:=hl0 j x v a1 e2' (kx.elim (fun z=>.inr (.inl z)) fun z=>.inr (.inr z))
    refine⟨u,r,.inr ⟨(zeW (env:=X.env) S.nocell).mpr a2,?_⟩⟩
    rcases l with⟨k,_⟩ | ⟨_,c,ec,hc⟩
    ·have k:X.env.scope.names.lookup x=some .local:=k
     rcases kx with z | z
     ·rw[k] at z;cases z
     ·rw[k] at z;cases z
    ·obtain⟨c',ec'⟩:=zgx (cells:=X.env.cells) (acc:=[]) (.inl (zf6 a2))
     have:c'=c:=Option.some.inj ((sub x c' ec').symm.trans ec)
     subst this
     obtain⟨oc,hoc,hd⟩:=hc
     exact⟨c',ec',oc,keep _ _ hoc,hd⟩
 ·obtain⟨v,oc,hoc,hd⟩:=I.cell x c (sub x c e)
  exact⟨v,oc,keep _ _ hoc,hd⟩
 ·obtain⟨v,oc,hoc,hd⟩:=I.cell x c (sub x c e)
  have nfp:c∉fp:=fun z=>(hf c z).2.2.2.2.1 x c (sub x c e) rfl
  exact un.free c oc hoc (I.freeC x c (sub x c e)) nfp
 ·show(cmap js σ).length=N'.length
  unfold cmap
  rw[List.length_map]
  exact zj0 hj
end
section
variable {prog:Program}{w:World}{A:Around}{R:Result→Shared→Prop}{s:Shared}
theorem zld{elt target iter:Expr}{ifs:List Expr}{scope:Scope}{pos:Pos}{it acc:Value}{env:Env}(I:Nat→Shared→Prop)
  (turn:∀ n s,I n s→wpAny (model prog w) A (pyNext it) (fun r s₁=>match r with
   | none=>R (.ok .next) s₁
   | some v=>wpAny (model prog w) A (letOwnedTupleGo target it v) (fun _ s₀=>wpAny (model prog w) A (assign target env v) (fun _ s₂=>
     wpAny (model prog w) A (forIn ifs true fun c r=>if r=true then do let ok ←isTrue c env (eval c env);pure (ForInStep.yield ok) else pure (ForInStep.yield r)) (fun ok s₃=>
      if ok=true then wpAny (model prog w) A (eval elt env) (fun x s₄=>
       wpAny (model prog w) A (call (.builtin "list.append") [acc,x]) (fun _ s₅=>∃ m,m < n∧I m s₅) (fun _ _=>False) s₄) (fun _ _=>False) s₃
      else ∃ m,m < n∧I m s₃) (fun _ _=>False) s₂) (fun _ _=>False) s₀) (fun _ _=>False) s₁) (fun _ _=>False) s)
  (n:Nat) (h:I n s) :
  codeAny (model prog w) A (.compLoop (.ListComp elt [⟨target,iter,ifs,0⟩] scope pos) 0 it acc env) R s:=by
 refine codeAny_loop rfl I (fun n s hI=>?_) n h
 show wpAny _ A ((compTurn (.ListComp elt [⟨target,iter,ifs,0⟩] scope pos) 0 it acc env).onRaise (fun x=>do noteFrame x env;theTreesLotGoes x)) _ _ s
 refine wpAny_noted ?_
 rw[compTurn_list]
 refine wpAny_bind (wpAny_standAt (wpAny_bind (wpAny_mono (turn n s hI) (fun r s₁ h₁=>?_) fun _ _ h'=>h'.elim)))
 cases r with
 | none=>exact wpAny_pure h₁
 | some v=>
  refine wpAny_bind (wpAny_mono h₁ (fun _ s₀ h₀=>?_) fun _ _ h'=>h'.elim)
  refine wpAny_bind (wpAny_mono h₀ (fun _ s₂ h₂=>wpAny_bind (wpAny_mono h₂ (fun ok s₃ h₃=>?_) fun _ _ h'=>h'.elim)) fun _ _ h'=>h'.elim)
  cases ok with
  | false=>exact wpAny_pure ⟨rfl,h₃⟩
  | true=>
   exact wpAny_bind (wpAny_bind (wpAny_mono h₃ (fun x s₄ h₄=>wpAny_bind (wpAny_mono h₄ (fun _ s₅ h₅=>wpAny_pure (wpAny_pure ⟨rfl,h₅⟩)) fun _ _ h'=>h'.elim)) fun _ _ h'=>h'.elim))
end
def PIfs(X:Cx)(ifs:List Expr)(t:TT):Prop:=
 ∀ (pins:List (Addr×Obj)) (s:Shared) (σ:St) (H:Hp) (Q:Bool→Hp→Prop),Inv X pins σ H s→t σ H Q→
  wpAny (model X.prog X.w) X.A (forIn ifs true fun c r=>if r=true then do let ok ←isTrue c X.env (eval c X.env);pure (ForInStep.yield ok) else pure (ForInStep.yield r)) (TP X pins σ Q) X.xe s
def zxv:TT:=fun _ H Q=>Q true H
theorem zrc{X:Cx}:PIfs X [] zxv:=fun _ _ _ H _ I h=>wpAny_tests_nil ⟨H,I,h⟩
theorem zrd{X:Cx}{c:Expr}{t:TT}(h:PT X c t):PIfs X [c] t:=fun pins s σ H Q I hw=>wpAny_tests_one (h pins s σ H Q I hw)
def ztr(J:It)(g:TG)(tt:TT)(te:TE)(p:Addr)(σ₀:St)(H1:Hp)(Q:VK):Prop:=
 ∃ W:Nat→Nat→St→List V→Hp→Prop,(∃ m,W 0 m σ₀ [] (upd H1 p (.lst [])))∧∀ i m σ' acc H,W i m σ' acc H→
  (J.stop i H∧Q (.ref p) H)∨(J.go i H∧∃ N:St→List V→Hp→Prop,(∀ σ2 acc' H',N σ2 acc' H'→∃ m',m' < m∧W (i + 1) m' σ2 acc' H')∧∀ x H',J.yld i H x H'→g x σ' H' fun σ2 H2=>tt σ2 H2 fun b H3=>
   if b=true then te σ2 H3 fun y H4=>H4 p=some (.lst acc)∧acc.length < sizeLine∧N σ2 (acc ++ [y]) (upd H4 p (.lst (acc ++ [y])))
   else N σ2 acc H3)
def zts(wi:TI)(g:Blk→TG)(tt:Blk→TT)(te:Blk→TE)(js:List (Option Nat)):TE:=fun σ H Q=>wi σ H fun J H1=>∀ p,H1 p=none→∀ B:Blk,ztr J (g B) (tt B) (te B) p (cmap js σ) H1 Q
section
variable {X:Cx}{sc:Scope}{N':List Str}{js:List (Option Nat)}{tg iter elt:Expr}{ifs:List Expr}{pos:Pos}{wi:TI}{g:Blk→TG}{tt:Blk→TT}{te:Blk→TE}
theorem zle(S:ziq N' sc X.env.scope)(hj:jsOk N' X.N sc js N'=true)(hc:X.calm=true)
  (hg:∀ B,PG (cxB X sc N' B) tg (g B)) (ht:∀ B,PIfs (cxB X sc N' B) ifs (tt B)) (he:∀ B,PE (cxB X sc N' B) elt (te B))
  {pins:List (Addr×Obj)} {s:Shared} {σ:St} {J:It} {H:Hp} {it:Addr} {fp:List Addr} {tn:Nat→Heap→Prop} (I:Inv X pins σ H s) (T:Turn X.prog X.w X.K tg J fp it tn) (st:tn 0 s.heap) (hf:∀ b∈fp,FpOk X pins H b)
  {Q:VK} (hw:∀ p,H p=none→∀ B:Blk,ztr J (g B) (tt B) (te B) p (cmap js σ) H Q) {E:Value→Shared→Prop} {RR:Value→Addr→Result→Shared→Prop}
  (hRR:∀ p C H' s' m,Inv X pins σ H' s'→FpOk X pins H' C→s'.heap.Ns C m→Q (.ref p) H'→RR (.ref p) C (.ok .next) s') :
  wpAny (model X.prog X.w) X.A (newList []) (fun acc s₃=>wpAny (model X.prog X.w) X.A (newFunctionEnv sc X.env.globals (zeV X.env.cells sc.names []) [] X.env.qual none .none (some X.env)) (fun cenv s₄=>
   codeAny (model X.prog X.w) X.A (.compStart (.ListComp elt [⟨tg,iter,ifs,0⟩] sc pos) 0 (.ref it) acc {cenv with scope:=relabel sc X.env}) (RR acc cenv.locals) s₄) E s₃) E s:=by
 refine wpAny_newObj_type (wpAny_newFunctionEnv S.nocell (by intro y hy;simp at hy) (fun h₁ hns₁ hsb₁=>?_) S.kind)
 dsimp only at hns₁ hsb₁ ⊢
 generalize hH2:s.heap.push {cls:=.type "list",dict:=none,data:=.seq ([]:List Value).toArray} = H2 at hns₁ hsb₁ ⊢
 have hC:H2.objs.size=s.heap.objs.size + 1:=by rw[←hH2,Heap.size_push]
 have hDC:s.heap.objs.size≠H2.objs.size:=by rw[hC];exact Nat.ne_of_lt (Nat.lt_succ_self _)
 have hCle:s.heap.objs.size≤H2.objs.size:=by rw[hC];exact Nat.le_succ _
 have below:∀ b,b < s.heap.objs.size→b≠H2.objs.size:=fun b hb=>by rw[hC];exact Nat.ne_of_lt (Nat.lt_succ_of_lt hb)
 have old:∀ b o,s.heap.get? b=some o→h₁.get? b=some o:=fun b o e=>hsb₁.extBut b o (below b (Heap.lt_size e)) (Heap.get?_push_of_some _ (hH2 ▸ Heap.get?_push_of_some _ e))
 have hacc:h₁.get? s.heap.objs.size=some {cls:=.type "list",dict:=none,data:=.seq ([]:List Value).toArray}:=hsb₁.extBut _ _ hDC (Heap.get?_push_of_some _ (hH2 ▸ Heap.get?_push_size _ rfl))
 have hp0:H s.heap.objs.size=none:=I.hok.fresh (Nat.le_refl _)
 have newO:zbl X.prog X.w (upd H s.heap.objs.size (.lst [])) h₁ s.heap.objs.size (.lst []):=⟨Nat.zero_le _,[],_,.nil,hacc⟩
 have hok1:HOk X.prog X.w (upd H s.heap.objs.size (.lst [])) h₁:=I.hok.laid old (Nat.le_refl _) newO
 have un1:Un (frs X.stack) fp H (upd H s.heap.objs.size (.lst [])) s.heap h₁:=Un.laid old (Nat.le_refl _) hp0
 have fC:(upd H s.heap.objs.size (.lst [])) H2.objs.size=none:=by rw[zal (Ne.symm hDC)];exact I.hok.fresh hCle
 have IB:=ztq (tk:=s.toks + ([]:List (Str×Value)).length) S hj I hf (fun b hb=>let ⟨o,e,_⟩:=T.obj 0 _ st b hb;⟨o,e⟩) hCle old un1 hok1 hns₁ fC
 obtain⟨W,⟨m0,w0⟩,turn⟩:=hw _ hp0 ⟨zeV X.env.cells sc.names [],s,H,fp,H2.objs.size⟩
 have st1:tn 0 h₁:=T.keep _ _ _ st fun b _ o e=>old b o e
 have loop:∀ s₃:Shared,s₃ = {s with heap:=h₁,toks:=s.toks + ([]:List (Str×Value)).length}→
   codeAny (model X.prog X.w) X.A (.compLoop (.ListComp elt [⟨tg,iter,ifs,0⟩] sc pos) 0 (.ref it) (.ref s.heap.objs.size) (compEnvC sc (zeV X.env.cells sc.names []) H2.objs.size X.env))
    (RR (.ref s.heap.objs.size) H2.objs.size) s₃:=by
  rintro s₃ rfl
  generalize hB:(⟨zeV X.env.cells sc.names [],s,H,fp,H2.objs.size⟩:Blk)=B at turn w0 IB
  have eB:compEnvC sc (zeV X.env.cells sc.names []) H2.objs.size X.env=(cxB X sc N' B).env:=by subst hB;rfl
  have exB:(cxB X sc N' B).ex=fp:=by subst hB;rfl
  rw[eB]
  have stat:∀ {σ':St} {H':Hp} {s':Shared},Inv (cxB X sc N' B) [] σ' H' s'→(∀ b∈fp,H' b=none)→∀ b∈fp,FpOk (cxB X sc N' B) [] H' b:=fun {σ' H' s'} J' hn b hb=>by
   refine⟨hn b hb,(J'.ok.exf b (by rw[exB];exact hb)).1,J'.ok.exfs b (by rw[exB];exact hb),.inl (by rw[exB];exact hb),(J'.ok.exf b (by rw[exB];exact hb)).2,fun p hp=>absurd (show p∈([]:List (Addr×Obj)) from hp) (by simp)⟩
  have fp0:∀ b∈fp,(upd H s.heap.objs.size (.lst [])) b=none:=fun b hb=>by
   obtain⟨o,e,_⟩:=T.obj 0 _ st b hb
   rw[zal (Nat.ne_of_lt (Heap.lt_size e))]
   exact(hf b hb).1
  refine zld (fun n s'=>∃ i σ' acc H',Inv (cxB X sc N' B) [] σ' H' s'∧tn i s'.heap∧(∀ b∈fp,H' b=none)∧W i n σ' acc H') ?_ m0 ⟨0,_,[],_,IB,st1,fp0,w0⟩
  rintro n s3 ⟨i,σ3,acc,H3,I3,st3,fr3,w3⟩
  rcases turn i n σ3 acc H3 w3 with⟨stop,qn⟩ | ⟨go,N,hN,step⟩
  ·refine thn (T.done (cxB X sc N' B) rfl rfl rfl hc i [] s3 σ3 H3 (fun _ _=>False) I3 (stat I3 fr3) st3 stop) fun r s4 ⟨hr,I4⟩=>?_
   subst hr
   obtain⟨m4,hn4,_⟩:=I4.loc
   have u4:Un (frs X.stack) fp H H3 s.heap s4.heap:=by have:=I4.base;subst hB;exact this
   have o4:s4.os=s.os:=by have:=I4.os;subst hB;exact this
   have c4:(cxB X sc N' B).env.locals=H2.objs.size:=by subst hB;rfl
   have hIX:Inv X pins σ H3 s4:=I.call' (ch:=fp) o4 u4 I4.hok I4.bare fun b hb=>⟨(hf b hb).2.2.2.1,(hf b hb).2.1,(hf b hb).2.2.2.2.1,(hf b hb).2.2.2.2.2⟩
   exact hRR _ _ H3 s4 m4 hIX (I.fpOk hCle (by rw[←c4];exact I4.free)) (by rw[←c4];exact hn4) qn
  ·refine thn (T.item (cxB X sc N' B) rfl rfl rfl hc i [] s3 σ3 H3 (fun _ _=>False) I3 (stat I3 fr3) st3 go) fun r s4 ⟨u,hr,h4⟩=>?_
   subst hr
   refine thn h4 fun _ s5 ⟨x,H5,I5,r5,y5,st5,fr5⟩=>?_
   have I5':=I5.pinned (stat I5 fr5) (T.obj _ _ st5)
   refine thn (hg B _ s5 σ3 H5 x u _ I5' r5 (step x H5 y5)) fun _ s6 ⟨σ6,H6,I6,q6⟩=>?_
   refine thn (ht B _ s6 σ6 H6 _ I6 q6) fun ok s7 ⟨H7,I7,q7⟩=>?_
   have again:∀ {H8:Hp} {s8:Shared} {acc':List V},Inv (cxB X sc N' B) ([] ++ zkX fp s5.heap) σ6 H8 s8→(∃ m',m' < n∧W (i + 1) m' σ6 acc' H8)→∃ m,m < n∧∃ i σ' acc H',Inv (cxB X sc N' B) [] σ' H' s8∧tn i s8.heap∧(∀ b∈fp,H' b=none)∧W i m σ' acc H':=
    fun {H8 s8 acc'} I8 ⟨m',hm,w8⟩=>by
     refine⟨m',hm,i + 1,σ6,acc',H8,I8.unpinned,T.keep _ _ _ st5 fun b hb o e=>(I8.pin (b,o) (List.mem_append_right _ (List.mem_append_right _ (zfy hb e)))).1,fun b hb=>?_,w8⟩
     obtain⟨o,e,d⟩:=T.obj _ _ st5 b hb
     exact(I8.pin (b,o) (List.mem_append_right _ (List.mem_append_right _ (zfy hb e)))).2.1
   cases ok with
   | false=>
    rw[if_neg Bool.false_ne_true] at q7
    rw[if_neg Bool.false_ne_true]
    exact again I7 (hN _ _ _ q7)
   | true=>
    rw[if_pos rfl] at q7
    rw[if_pos rfl]
    refine thn (he B _ s7 σ6 H7 _ I7 q7) fun y s8 ⟨z,H8,I8,r8,hp8,hl8,q8⟩=>?_
    exact thn (zk6 _ s8 σ6 H8 (.ref s.heap.objs.size) [z] (.ref s.heap.objs.size) [y] (fun _ H9=>N σ6 (acc ++ [z]) H9) I8 rfl (.cons r8 .nil) ⟨_,acc,z,rfl,rfl,hp8,hl8,q8⟩) fun _ s9 ⟨_,H9,I9,_,q9⟩=>again I9 (hN _ _ _ q9)
 exact codeAny_compStart_list (loop _ rfl) (T.self _ 0 _ _ _ st1 (loop _ rfl))
theorem ztt(N':List Str)(js:List (Option Nat))(hi:PI X tg iter wi)
  (hg:∀ B,PG (cxB X sc N' B) tg (g B)) (ht:∀ B,PIfs (cxB X sc N' B) ifs (tt B)) (he:∀ B,PE (cxB X sc N' B) elt (te B))
  (S0:zf5 N' sc X.env.scope=true:=by kernel_rfl) (hj:jsOk N' X.N sc js N'=true:=by kernel_rfl) (hc:X.calm=true:=by rfl) (hs:∀ x,foldedSetIterable iter X.env x=pure x:=by intro _;rfl):PE X (.ListComp elt [⟨tg,iter,ifs,0⟩] sc pos) (zts wi g tt te js):=by
 intro pins s σ H Q I h
 have S:=ziq.of S0
 rw[eval_ListComp]
 refine wpAny_comprehension_free (use:=none) rfl hs (zjz (zj2 S I)) S.kind S.loc (thn (hi pins s σ H _ I h) fun xv s₁ h₁=>thn h₁ fun itv s₂ h₂=>?_)
 obtain⟨it,fp,tn,J,H2,e,I2,T,st2,f2,hw⟩:=h₂
 subst e
 refine zle (RR:=fun acc C=>compPost (model X.prog X.w) X.A X.xe none (EP X pins σ Q) acc C) S hj hc hg ht he I2 T st2 f2 hw ?_
 intro p C H' s' m I' fC hn q
 refine⟨m,hn,fun h' hs'=>⟨.ref p,H',?_,rfl,q⟩⟩
 exact I'.turned (t':=s'.toks) (fun b o hb e=>(hs'.2 b hb).trans e) fC.1 fC.2.1 fC.2.2.2.1 fC.2.2.2.2.1 fC.2.2.2.2.2
theorem zor{i:Nat}{x:Str}{px spos:Pos}(hN:X.N.Nodup)(hi0:X.N[i]? = some x)(hx:Loc X.env.scope x)(N':List Str)(js:List (Option Nat))(hi:PI X tg iter wi)
  (hg:∀ B,PG (cxB X sc N' B) tg (g B)) (ht:∀ B,PIfs (cxB X sc N' B) ifs (tt B)) (he:∀ B,PE (cxB X sc N' B) elt (te B))
  (S0:zf5 N' sc X.env.scope=true:=by kernel_rfl) (hj:jsOk N' X.N sc js N'=true:=by kernel_rfl) (hc:X.calm=true:=by rfl) (hsw:swapsWith (.ListComp elt [⟨tg,iter,ifs,0⟩] sc pos) (some (.Name x px)) spos.line X.env=pure true:=by rfl)
  (hf:X.fn x=true∨X.env.scope.names.lookup x=some .local:=by first | exact .inl rfl | exact .inr rfl | assumption)
  (hs:∀ x,foldedSetIterable iter X.env x=pure x:=by intro _;rfl):PS X (.Assign [.Name x px] (.ListComp elt [⟨tg,iter,ifs,0⟩] sc pos) spos) (tAsg (zts wi g tt te js) (zs3 i)):=by
 intro pins s σ H D I h
 have S:=ziq.of S0
 rw[exec_Assign_Name_used _ _ _ _ hsw]
 refine wpAny_bind (wpAny_standAt (wpAny_bind ?_))
 show wpAny _ X.A (do let _ ←comprehension (.ListComp elt [⟨tg,iter,ifs,0⟩] sc pos) sc X.env _ (newList []) false (eval iter X.env) (some (assign (.Name x px) X.env))) _ _ s
 refine wpAny_bind (wpAny_mono (wpAny_comprehension_free (use:=some (assign (.Name x px) X.env)) (Q:=fun _ s'=>SP X pins D .next s') rfl hs (zjz (zj2 S I)) S.kind S.loc
  (thn (hi pins s σ H _ I h) fun xv s₁ h₁=>thn h₁ fun itv s₂ h₂=>?_)) (fun _ s' hq=>wpAny_pure (wpAny_pure hq)) fun _ _ e=>e)
 obtain⟨it,fp,tn,J,H2,e,I2,T,st2,f2,hw⟩:=h₂
 subst e
 refine zle (RR:=fun acc C=>compPost (model X.prog X.w) X.A X.xe (some (assign (.Name x px) X.env)) (fun _ s'=>SP X pins D .next s') acc C) S hj hc hg ht he I2 T st2 f2 hw ?_
 intro p C H' s' m I' fC hn q
 show wpAny _ X.A (assign (.Name x px) X.env (.ref p)) _ _ _
 refine wpAny_assign_Name (zkV I' hN hi0 hx (v:=.ref p) rfl (fun s'' I'' ⟨a,sb,ha⟩=>?_) hf)
 have hCa:C≠a:=by
  rcases ha with e | e
  ·rw[e];exact fC.2.1
  ·exact fun z=>fC.2.2.2.2.1 x a e z.symm
 refine⟨m,hn.sameBut sb hCa,fun h' hs'=>⟨_,H',?_,q⟩⟩
 exact I''.turned (t':=s''.toks) (fun b o hb e=>(hs'.2 b hb).trans e) fC.1 fC.2.1 fC.2.2.2.1 fC.2.2.2.2.1 fC.2.2.2.2.2
end
section
variable {g:TG}{tt:TT}{te:TE}{p:Addr}{σ₀:St}{H1:Hp}{Q:VK}
theorem ztu{J:It}(n:Nat)(Pv:Nat→St→List V→Hp→Prop)(h0:Pv 0 σ₀ [] (upd H1 p (.lst [])))(hd:∀ σ acc H,Pv n σ acc H→J.stop n H∧Q (.ref p) H)
  (hs:∀ i σ acc H,i < n→Pv i σ acc H→J.go i H∧∀ x H',J.yld i H x H'→g x σ H' fun σ2 H2=>tt σ2 H2 fun b H3=>
   if b=true then te σ2 H3 fun y H4=>H4 p=some (.lst acc)∧acc.length < sizeLine∧Pv (i + 1) σ2 (acc ++ [y]) (upd H4 p (.lst (acc ++ [y]))) else Pv (i + 1) σ2 acc H3):ztr J g tt te p σ₀ H1 Q:=by
 refine⟨fun i m σ acc H=>m=n - i∧i≤n∧Pv i σ acc H,⟨n,by simp,Nat.zero_le _,h0⟩,?_⟩
 rintro i m σ acc H ⟨rfl,hi,q⟩
 by_cases hlt:i < n
 ·obtain⟨hg,hy⟩:=hs i σ acc H hlt q
  exact .inr ⟨hg,Pv (i + 1),fun σ2 acc' H' q'=>⟨n - (i + 1),by omega,rfl,hlt,q'⟩,hy⟩
 ·have e:i=n:=by omega
  subst e
  exact .inl (hd σ acc H q)
end
end L2
namespace L2
open PySem PySem.Spec PyProof.Rows
section
variable {X:Cx}
theorem zjA{i:Int}(h:i.natAbs < 2 ^ 4096):Builtin.Int.intBits i≤2 ^ 20:=by
 unfold Builtin.Int.intBits
 split
 ·exact Nat.zero_le _
 ·rename_i h0
  have hn:i.natAbs≠0:=by
   intro z
   have:i=0:=Int.natAbs_eq_zero.mp z
   rw[this] at h0
   exact h0 rfl
  have:i.natAbs.log2 < 4096:=(Nat.log2_lt hn).mpr h
  have e:(2:Nat) ^ 20=1048576:=by decide
  omega
def CBig(i j:Int):Prop:=i.natAbs < 2 ^ 4096∧j.natAbs < 2 ^ 4096
theorem ztv:OpR X (binaryOp .Mult) (rI CBig fun i j=>.int (i * j)):=opI fun _ _ _ _ _ _ _ hc q=>mul_int q (IntMulOk.of_bits (zjA hc.1) (zjA hc.2))
def zre(i j:Int):Prop:=0 < j∧j < 2 ^ 4096
theorem zrf:OpR X (binaryOp .FloorDiv) (rI zre fun i j=>.int (i / j)):=opI fun i j _ _ _ _ _ hc q=>by
 refine floordiv_int (by have:=hc.1;omega) ?_ (.inl (PyProof.noPylong_of_log2 ?_))
 ·rw[Int.fdiv_eq_ediv_of_nonneg _ (Int.le_of_lt hc.1)];exact q
 ·have h0:j.natAbs≠0:=by have:=hc.1;omega
  have h1:j.natAbs < 2 ^ 4096:=by
   have a:=hc.1
   have b:=hc.2
   omega
  have:=(Nat.log2_lt h0).mpr h1
  omega
theorem ztw:OpR X (binaryOp .Mult) (fun x y H Q=>∃ z n,x=.str z∧y=.int n∧z.length≤16∧-(2 ^ 63)≤n∧n≤1048576∧Q (.str (Txt.mul z n)) H):=by
 intro pins s σ H x y v u Q I rx ry h
 obtain⟨z,n,rfl,rfl,h1,h2,h3,q⟩:=h
 obtain⟨t,rfl⟩:=rx
 obtain⟨t',rfl⟩:=ry
 exact SB.mul (mulOk_of 16 1048576 h1 h3 h2 (by decide) (by decide)) fun t' k=>⟨.str _,H,I.tok _,⟨_,rfl⟩,q⟩
theorem zpl{bs:List Bool}:(List.range bs.length).all (fun i=>bs.getD i false)=bs.all id:=by
 induction bs with
 | nil=>rfl
 | cons b r ih=>
  rw[List.length_cons,List.range_succ_eq_map,List.all_cons,List.all_map,List.all_cons]
  have:((fun i=>(b :: r).getD i false) ∘ Nat.succ)=fun i=>r.getD i false:=by
   funext i;simp[List.getD]
  rw[this,ih]
  simp
theorem znr(hc:X.calm=true):zbx X (.builtin "all") (fun xs H Q=>∃ (p:Addr) (bs:List Bool),xs=[.ref p]∧SqL X.K H p (bs.map V.bl)∧Q (.bl (bs.all id)) H):=by
 intro pins s σ H xs us Q I r h
 obtain⟨p,bs,rfl,hq,q⟩:=h
 obtain⟨u,rfl,ru⟩:=zf4 r
 cases ru
 obtain⟨its,rv,pl,hz⟩:=I.list hq
 have hlt:p < s.heap.objs.size:=by obtain⟨_,e,_⟩:=pl.isList;exact Heap.lt_size e
 refine call_all_walk (wpAny_pyIter_list pl.isList ?_)
 have hA:X.A.in1.handled=none:=I.ok.hd hc
 refine⟨s.heap.objs.size,[s.heap.objs.size,p],[s.heap.objs.size],its.toArray.size,(fun i v=>its.toArray[i]? = some v),_,(fun i=>bs.getD i false),rfl,Walks.list hA s.heap.objs.size p (Nat.ne_of_lt hlt) its.toArray,
  ⟨⟨_,Heap.get?_push_size _ rfl,rfl,rfl⟩,pl.isList.push _⟩,?_,fun h' tk hk=>?_⟩
 ·intro i v s' Q' E' hv hQ'
  have hv':its[i]? = some v:=by simpa using hv
  have hi:i < its.length:=(List.getElem?_eq_some_iff.mp hv').1
  have hl:=rv.length
  rw[List.length_map] at hl
  have hb:bs[i]? = some (bs.getD i false):=by
   have hi':i < bs.length:=by omega
   simp[List.getD,List.getElem?_eq_getElem hi']
  obtain⟨u,hu,ru⟩:=rv.get (i:=i) (x:=.bl (bs.getD i false)) (by rw[List.getElem?_map,hb];rfl)
  rw[hv'] at hu;cases hu
  cases (show v=Value.bool (bs.getD i false) from ru)
  exact wpAny_pure hQ'
 ·have hl:=rv.length
  rw[List.length_map] at hl
  have e:(List.range its.toArray.size).all (fun i=>bs.getD i false)=bs.all id:=by
   rw[List.size_toArray,←hl,zpl]
  rw[e]
  refine⟨.bl (bs.all id),H,?_,rfl,q⟩
  exact I.kept (t':=tk) fun b o eb=>hk b o (fun z=>by
   have:b=s.heap.objs.size:=by simpa using z
   exact absurd (Heap.lt_size eb) (by rw[this];exact Nat.lt_irrefl _)) (Heap.get?_push_of_some _ eb)
theorem zmt:zbx X (.builtin "isinstance") (fun xs H Q=>∃ x T t b,xs=[x,.ty T]∧TyOf X.K H x t∧PySem.W.kitOne X.K t (.type T)=some b∧Q (.bl b) H):=by
 intro pins s σ H xs us Q I r h
 obtain⟨x,T,t,b,rfl,ty,e,q⟩:=h
 obtain⟨u,w',rfl,ru,rw'⟩:=zoh r
 cases (show w'=Value.type T from rw')
 exact zo8 I ru ty e fun tk=>⟨.bl b,H,I.tok _,rfl,q⟩
def Its(z:Str):It:=⟨fun i _=>i < z.cps.size,fun i H x H'=>H'=H∧∃ c,z.cps.toList[i]? = some c∧x=.str ⟨#[c]⟩,fun i _=>z.cps.size≤i⟩
theorem zns{P:Program}{w:World}{K:PySem.W.Frag}{x:Str}{px:Pos}(z:Str)(it:Addr)(ty:String)(tk0:Tok)
  (nx:∀ (A:Around) (s:Shared) (i c:Nat) (Q:Option Value→Shared→Prop) (E:Value→Shared→Prop),s.heap.IsStrIter it ty z tk0 i→z.cps[i]? = some c→
   (∀ h',h'.IsStrIter it ty z tk0 (i + 1)→Heap.SameBut it s.heap h'→Q (some (.str ⟨#[c]⟩ s.toks)) {s with heap:=h',toks:=s.toks + 1})→wpAny (model P w) A (pyNext (.ref it)) Q E s)
  (en:∀ (A:Around) (s:Shared) (i:Nat) (Q:Option Value→Shared→Prop) (E:Value→Shared→Prop),A.handled=none→s.heap.IsStrIter it ty z tk0 i→z.cps[i]? = none→
   (∀ h',Heap.ExtBut it s.heap h'→Q none {s with heap:=h'})→wpAny (model P w) A (pyNext (.ref it)) Q E s)
  (slf:∀ (A:Around) (i:Nat) (s:Shared) (Q:Value→Shared→Prop) (E:Value→Shared→Prop),s.heap.IsStrIter it ty z tk0 i→Q (.ref it) s→wpAny (model P w) A (pyIter (.ref it)) Q E s) :
  Turn P w K (.Name x px) (Its z) [it] it (fun i h=>h.IsStrIter it ty z tk0 i) where
 mem:=by simp
 obj:=fun i h st b hb=>by
  have e:b=it:=by simpa using hb
  subst e
  obtain⟨o,ho,_,hd⟩:=st
  exact⟨o,ho,fun v q=>by rw[hd] at q;cases q⟩
 keep:=fun i h h' st k=>by
  obtain⟨o,ho,r⟩:=st
  exact⟨o,k it (by simp) o ho,r⟩
 item:=by
  intro X hP hw hK hc i pins s σ H E I hf st hg
  subst hP hw hK
  obtain⟨f0,f1,f2,f3,f4,f5⟩:=hf it (by simp)
  have hi:z.cps[i]? = some z.cps[i]:=Array.getElem?_eq_getElem hg
  refine nx X.A s i _ _ _ st hi fun h' st' sb=>?_
  have I1:Inv X pins σ H {s with heap:=h',toks:=s.toks + 1}:=I.turned (fun b o hb e=>(sb.2 b hb).trans e) f0 f1 f3 f4 f5
  exact⟨_,rfl,wpAny_pure ⟨.str ⟨#[z.cps[i]]⟩,H,I1,⟨_,rfl⟩,⟨rfl,z.cps[i],by rw[Array.getElem?_toList];exact hi,rfl⟩,st',fun b hb=>(hf b hb).1⟩⟩
 done:=by
  intro X hP hw hK hc i pins s σ H E I hf st hg
  subst hP hw hK
  obtain⟨f0,f1,f2,f3,f4,f5⟩:=hf it (by simp)
  have hg':z.cps.size≤i:=hg
  exact en X.A s i _ _ (I.ok.hd hc) st (Array.getElem?_eq_none hg') fun h' eb=>⟨rfl,I.turned (t':=s.toks) (fun b o hb e=>eb b o hb e) f0 f1 f3 f4 f5⟩
 self:=slf
theorem zlf{prog:Program}{w:World}{A:Around}{E:Value→Shared→Prop}{it l:Addr}{items:Array Value}(hne:l≠it):∀ (n i:Nat) (s:Shared) (Q:List Value→Shared→Prop),s.heap.IsListIter it l i→s.heap.IsList l items→i + n≤items.size→
  (∀ h',h'.IsListIter it l (i + n)→Heap.SameBut it s.heap h'→Q ((items.toList.drop i).take n) {s with heap:=h'})→wpAny (model prog w) A (draw (.ref it) n) Q E s
 | 0,i,s,Q,hit,_,_,hQ=>by
  show wpAny _ _ (pure []) Q E s
  exact wpAny_pure (by simpa using hQ s.heap hit (Heap.SameBut.refl ..))
 | n + 1,i,s,Q,hit,ht,hle,hQ=>by
  have hlt:i < items.size:=by omega
  show wpAny _ _ (pyNext (.ref it) >>= _) Q E s
  refine wpAny_bind (wpAny_pyNext_list_item hit ht (x:=items[i]) (by simp[hlt]) fun h₁ hit₁ hs₁=>?_)
  refine wpAny_bind (wpAny_holding (zlf hne n (i + 1) _ _ hit₁ (ht.extBut hs₁.extBut hne) (by omega) fun h₂ hit₂ hs₂=>wpAny_pure ?_))
  have hd:items.toList.drop i=items[i] :: items.toList.drop (i + 1):=by simp[List.drop_eq_getElem_cons,hlt]
  have:=hQ h₂ (by rw[show i + (n + 1)=i + 1 + n by omega];exact hit₂) (hs₁.trans hs₂)
  rw[hd,List.take_succ_cons] at this
  exact this
theorem zmu{prog:Program}{w:World}{A:Around}{E:Value→Shared→Prop}{s:Shared}{t:Addr}{items:Array Value}{targets:List (Bool×(Value→Sem Unit))}{Q:Unit→Shared→Prop}(hh:A.handled=none)(ht:s.heap.IsList t items)
  (hn:targets.length=items.size) (hstar:targets.findIdx? (·.1)=none)
  (h:∀ h',Heap.ExtBut s.heap.objs.size s.heap h'→wpAny (model prog w) A (assignInOrder (targets.map (·.2)) items.toList) Q E {s with heap:=h'}) :
  wpAny (model prog w) A (unpack (.ref t) targets) Q E s:=by
 have hlt:t≠s.heap.objs.size:=by obtain⟨o,ho,_⟩:=ht;exact Nat.ne_of_lt (Heap.lt_size ho)
 unfold unpack
 rw[hn,hstar]
 refine wpAny_bind (wpAny_holding ?_)
 unfold unpackItems
 refine wpAny_bind ?_
 unfold notIterableAtAll
 refine wpAny_bind (wpAny_specialOf ht.typeIs F.slot_list_iter.lookup ?_)
 refine wpAny_pure ?_
 simp only[Bool.false_eq_true,if_false]
 refine wpAny_bind (wpAny_holding (wpAny_pyIter_list ht ?_))
 refine wpAny_bind (wpAny_holding (zlf hlt items.size 0 _ _ ⟨_,Heap.get?_push_size _ rfl,rfl,rfl⟩ (ht.push _) (by omega) fun h₁ hit₁ hs₁=>?_))
 have hall:List.take items.size (List.drop 0 items.toList)=items.toList:=by
  rw[List.drop_zero];exact List.take_of_length_le (by simp)
 rw[hall]
 rw[if_neg (by simp)]
 have ht₁:h₁.IsList t items:=(ht.push _).extBut hs₁.extBut hlt
 refine wpAny_bind (wpAny_holding (wpAny_pyNext_list_end hh hit₁ ht₁ (by simp) fun h₂ he₂=>?_))
 simp only[Option.isSome_none,Bool.false_eq_true,if_false]
 refine wpAny_pure (h h₂ fun b o hb e=>he₂ b o hb (hs₁.extBut b o hb (Heap.get?_push_of_some _ e)))
def gLst(K:PySem.W.Frag)(n:Nat)(t:TGs):TG:=fun v σ H Q=>∃ a xs,v=.ref a∧SqL K H a xs∧xs.length=n∧t xs σ H Q
theorem zsz{es:List Expr}{k:Nat}{pos:Pos}{t:TGs}{n:Nat}(hc:X.calm=true)(h:PGs X es t)
  (hn:(assignEach es X.env).length=n:=by rfl) (hst:(assignEach es X.env).findIdx? (·.1)=none:=by rfl):PG X (.Tuple es k pos) (gLst X.K n t):=by
 intro pins s σ H v u Q I r hw
 obtain⟨a,xs,e1,hq,hl,hw⟩:=hw
 subst e1
 cases r
 obtain⟨its,rv,ht,hz⟩:=I.list hq
 rw[PyProof.Rows.assign_Tuple]
 refine wpAny_bind (wpAny_standAt (zmu (I.ok.hd hc) ht.isList (by simp[hn,←hl,rv.length]) hst fun h' hx=>?_))
 have I1:Inv X pins σ H {s with heap:=h'}:=I.kept (t':=s.toks) fun b o e=>hx b o (Nat.ne_of_lt (Heap.lt_size e)) e
 exact h pins _ σ H xs _ Q I1 (by simpa using rv) hw
end
end L2
namespace Rg
open PySem PySem.Spec PyProof.Rows L2
end Rg
namespace L2
open PySem PySem.Spec PyProof.Rows
mutual
inductive RT(H:Hp):V→PyData→Prop
 | non:RT H .non .none
 | bl (b:Bool):RT H (.bl b) (.bool b)
 | int (i:Int):RT H (.int i) (.int i)
 | str (x:Str):RT H (.str x) (.str x)
 | tup {a:Addr} {xs:List V} {ds:List PyData}:H a=some (.tup xs)→RTs H xs ds→RT H (.ref a) (.tuple ds)
inductive RTs(H:Hp):List V→List PyData→Prop
 | nil:RTs H [] []
 | cons {v:V} {vs:List V} {d:PyData} {ds:List PyData}:RT H v d→RTs H vs ds→RTs H (v :: vs) (d :: ds)
end
section
variable {P:Program}{w:World}{H:Hp}{h:Heap}
end
def RD(K:PySem.W.Frag)(H:Hp)(v:V)(d:PyData):Prop:=RT H v d∨∃ a xs ds,v=.ref a∧d=.list ds∧SqL K H a xs∧RTs H xs ds
theorem RD.l{K:PySem.W.Frag}{H:Hp}{a:Addr}{xs:List V}{ds:List PyData}(h:SqL K H a xs)(r:RTs H xs ds):RD K H (.ref a) (.list ds):=.inr ⟨a,xs,ds,rfl,rfl,h,r⟩
section
variable {X:Cx}
def Flt(d:PyData):Prop:=d.canLay0=true∧d.depth≤60
theorem zpm:∀ {xs:List V} {us:List Value},xs.length=us.length→(∀ (j:Nat) (u:Value),us[j]? = some u→∃ x,xs[j]? = some x∧RelV x u)→Vals xs us
 | [],[],_,_=>.nil
 | [],_ :: _,h,_=>by simp at h
 | _ :: _,[],h,_=>by simp at h
 | x :: xs,u :: us,h,k=>by
  obtain⟨y,e,r⟩:=k 0 u rfl
  simp at e
  subst e
  exact .cons r (zpm (by simpa using h) fun j v hv=>by
   obtain⟨y,e,r⟩:=k (j + 1) v (by simpa using hv)
   exact⟨y,by simpa using e,r⟩)
theorem zpn:∀ {kvs:List (Key×V)} {vs:List (Key×Value)} {j:Nat} {k:Key} {x:Value},KV kvs vs→vs[j]? = some (k,x)→∃ v,kvs[j]? = some (k,v)
 | _,_,_,_,_,.nil,e=>by simp at e
 | _,_,0,_,_,.cons (a:=p) r _,e=>by
  simp at e
  subst e
  exact⟨p.2,by obtain⟨a,b⟩:=p;cases r.1;rfl⟩
 | _,_,j + 1,k,x,.cons _ t,e=>by
  obtain⟨v,q⟩:=zpn (j:=j) (k:=k) (x:=x) t (by simpa using e)
  exact⟨v,by simpa using q⟩
theorem zpo{k:Key}{v:Value}(h:zmj k v=true):RelV (kV k) v:=by
 rcases za1 h with⟨i,t,rfl,rfl⟩ | ⟨x,t,rfl,rfl⟩
 ·exact⟨t,rfl⟩
 ·exact⟨t,rfl⟩
theorem zfP(hc:X.calm=true):zbx X (.type "list") (fun xs H Q=>∃ d kvs,xs=[.ref d]∧H d=some (.dK kvs)∧∀ l,H l=none→Q (.ref l) (upd H l (.lst (kvs.map fun kv=>kV kv.1)))):=by
 intro pins s σ H xs us Q I r h
 obtain⟨d,kvs,rfl,hd,q⟩:=h
 obtain⟨u,rfl,ru⟩:=zf4 r
 cases ru
 obtain⟨hz,hne,vs,rkv,hD⟩:=(show zbl X.prog X.w H s.heap d (.dK kvs) from I.hok d _ hd)
 obtain⟨ep,hat⟩:=hD.dictAt
 have hl:=rkv.length
 refine PySem.W.kdl_call (PySem.W.kdl_dict (knd:=zaq X.prog X.w) (kvs:=vs) (ep:=ep) hne) (I.ok.hd hc) hat (by rw[←hl];exact hz) fun h' tk acc' c' hk hS hacc=>?_
 refine⟨.ref s.heap.objs.size,_,I.laid (o:=.lst (kvs.map fun kv=>kV kv.1)) (t':=tk) hk (Nat.le_refl _) ⟨by rw[List.length_map];exact hz,acc'.toList,c',?_,by rw[Array.toArray_toList];exact hS⟩,rfl,q _ (I.hok.fresh (Nat.le_refl _))⟩
 refine zpm (by have h1:=hacc.1;have h2:acc'.toList.length=acc'.size:=Array.length_toList;have h3:(kvs.map fun kv=>kV kv.1).length=kvs.length:=List.length_map ..;omega) fun j v hv=>?_
 obtain⟨k,x,hx,hk'⟩:=hacc.2 j v (by rw[←Array.getElem?_toList];exact hv)
 obtain⟨y,hy⟩:=zpn rkv hx
 exact⟨kV k,by rw[List.getElem?_map,hy];rfl,zpo hk'⟩
theorem ad0{n:Nat}(i:Nat)(h:i≠0):n + i≠n:=by omega
theorem adge{n:Nat}(i:Nat):n≤n + i:=by omega
end
end L2
namespace L2
open PySem PySem.Spec PyProof.Rows
section
variable {X:Cx}
def Ite(K:PySem.W.Frag)(a:Addr)(xs:List V):It:=
 ⟨fun i H=>SqL K H a xs∧i < xs.length,
   fun i H x H'=>∃ p u,xs[i]? = some u∧H p=none∧x=.ref p∧H'=upd H p (.tup [.int (i:Nat),u]),
   fun i H=>SqL K H a xs∧xs.length≤i⟩
theorem Inv.laidT{pins:List (Addr×Obj)}{σ:St}{H:Hp}{s:Shared}{fp:List Addr}{h'':Heap}{tk:Nat}{xs:List V}{its:List Value}(I:Inv X pins σ H s)(hf:∀ b∈fp,FpOk X pins H b)
  (keep2:∀ q o,q∉fp→s.heap.get? q=some o→h''.get? q=some o) (hz:xs.length≤sizeLine) (rv:Vals xs its) (hp2:h''.get? s.heap.objs.size=some {cls:=.type "tuple",data:=.seq its.toArray}) :
  Inv X pins σ (upd H s.heap.objs.size (.tup xs)) {s with heap:=h'',toks:=tk}:=by
 have hfr:H s.heap.objs.size=none:=I.hok.fresh (Nat.le_refl _)
 have nfp:∀ q∈fp,H q=none:=fun q hq=>(hf q hq).1
 refine I.step (g':=s.gens) (d':=s.drawn) (t':=tk) (ch:=fp) (fun q hq=>⟨(hf q hq).2.2.2.1,(hf q hq).2.1,(hf q hq).2.2.2.2.1,(hf q hq).2.2.2.2.2⟩)
  (fun q o _ _ hc e _=>keep2 q o hc e) (fun q o _ _ hc e _=>⟨o.slots,keep2 q o hc e⟩) (fun q o _ e n=>by rw[zal (Nat.ne_of_lt (Heap.lt_size e))];exact n)
  (fun q o hc e=>⟨o,keep2 q o hc e⟩) (fun q zs e=>by rw[zal (zap e hfr)];exact e) (fun q o zs e=>by rw[zal (zap e hfr)];exact e) (fun q ps e=>⟨#[],by rw[zal (zap e hfr),e];simp⟩) (fun m hm=>?_) ?_ I.bare
 ·obtain⟨o,es,ep,ho,r⟩:=hm
  exact⟨o,es,ep,keep2 _ o (fun z=>absurd rfl (hf _ z).2.1) ho,r⟩
 ·intro q o e
  by_cases hq:q=s.heap.objs.size
  ·subst hq
   rw[zar] at e;cases e
   exact⟨hz,its,rv,⟨_,hp2,rfl,_,rfl⟩⟩
  ·rw[zal hq] at e
   refine(I.hok q o e).stay (fun t w' ht qq=>keep2 t w' (fun z=>?_) qq) (fun t qq=>by rw[zal (zap qq hfr)];exact qq) fun t zs qq=>by rw[zal (zap qq hfr)];exact qq
   have n0:=nfp t z
   rcases ht with rfl | ht
   ·rw[n0] at e;cases e
   ·rw[n0] at ht;cases ht
theorem Inv.turnedT{pins:List (Addr×Obj)}{σ:St}{H:Hp}{s:Shared}{fp:List Addr}{h'':Heap}{tk:Nat}(I:Inv X pins σ H s)(hf:∀ b∈fp,FpOk X pins H b)
  (keep2:∀ q o,q∉fp→s.heap.get? q=some o→h''.get? q=some o):Inv X pins σ H {s with heap:=h'',toks:=tk}:=by
 have nfp:∀ q∈fp,H q=none:=fun q hq=>(hf q hq).1
 refine I.step (g':=s.gens) (d':=s.drawn) (t':=tk) (ch:=fp) (fun q hq=>⟨(hf q hq).2.2.2.1,(hf q hq).2.1,(hf q hq).2.2.2.2.1,(hf q hq).2.2.2.2.2⟩)
   (fun q o _ _ hc e _=>keep2 q o hc e) (fun q o _ _ hc e _=>⟨o.slots,keep2 q o hc e⟩) (fun q o _ e n=>n)
   (fun q o hc e=>⟨o,keep2 q o hc e⟩) (fun q zs e=>e) (fun q o zs e=>e) (fun q ps e=>⟨#[],by rw[e];simp⟩) (fun m hm=>?_) ?_ I.bare
 ·obtain⟨o,es,ep,ho,r⟩:=hm
  exact⟨o,es,ep,keep2 _ o (fun z=>absurd rfl (hf _ z).2.1) ho,r⟩
 ·intro q o e
  refine(I.hok q o e).stay (fun t w' ht qq=>keep2 t w' (fun z=>?_) qq) (fun t qq=>qq) fun t zs qq=>qq
  have n0:=nfp t z
  rcases ht with rfl | ht
  ·rw[n0] at e;cases e
  ·rw[n0] at ht;cases ht
theorem zpp{P:Program}{w:World}{K:PySem.W.Frag}{es:List Expr}{kx:Nat}{px:Pos}(a e it:Addr)(xs:List V)(hne:e≠it) :
  Turn P w K (.Tuple es kx px) (Ite K a xs) [e,it] e (fun i h=>(∃ old,IsEnum h e it (i:Nat) old)∧h.IsListIter it a i) where
 mem:=by simp
 obj:=fun i h st c hc=>by
  obtain⟨⟨old,h1⟩,⟨o4,h4,_,h4d⟩⟩:=st
  simp only[List.mem_cons,List.mem_nil_iff,or_false] at hc
  rcases hc with rfl | rfl
  ·exact⟨_,h1,fun v q=>by cases q⟩
  ·exact⟨_,h4,fun v q=>by rw[h4d] at q;cases q⟩
 keep:=fun i h h' st k=>by
  obtain⟨⟨old,h1⟩,⟨o4,h4,r4⟩⟩:=st
  exact⟨⟨old,k e (by simp) _ h1⟩,⟨o4,k it (by simp) _ h4,r4⟩⟩
 item:=by
  intro X hP hw hK hc i pins s σ H E I hf st hg
  subst hP hw hK
  obtain⟨⟨old,h1⟩,h4⟩:=st
  obtain⟨hqa,hi⟩:=hg
  obtain⟨its,rv,pl,hz⟩:=I.list hqa
  obtain⟨u,hu,ru⟩:=rv.get (List.getElem?_eq_getElem hi)
  refine wpAny_pyNext_enum_item h1 h4 pl.isList (x:=u) (by simpa using hu) hne fun h' a1 a2 a3 a4 hk=>?_
  refine⟨_,rfl,wpAny_letOwnedTupleGo_enum a1 fun h'' e' sb=>?_⟩
  have hfr:H s.heap.objs.size=none:=I.hok.fresh (Nat.le_refl _)
  have lte:e < s.heap.objs.size:=Heap.lt_size h1
  have lti:it < s.heap.objs.size:=by obtain⟨_,q,_⟩:=h4;exact Heap.lt_size q
  have keep2:∀ q o,q∉[e,it]→s.heap.get? q=some o→h''.get? q=some o:=fun q o hq eq=>by
   simp only[List.mem_cons,List.mem_nil_iff,or_false,not_or] at hq
   exact(sb.2 q hq.1).trans (hk q o hq.1 hq.2 eq)
  have hp2:h''.get? s.heap.objs.size=some {cls:=.type "tuple",data:=.seq [.int (i:Nat) s.toks,u].toArray}:=(sb.2 _ (Nat.ne_of_gt lte)).trans a3
  have I1:Inv X pins σ (upd H s.heap.objs.size (.tup [.int (i:Nat),xs[i]])) {s with heap:=h'',toks:=s.toks + 1}:=I.laidT (its:=[.int (i:Nat) s.toks,u]) hf keep2 (by show 2≤sizeLine;decide) (.cons ⟨_,rfl⟩ (.cons ru .nil)) hp2
  refine⟨.ref s.heap.objs.size,_,I1,rfl,⟨s.heap.objs.size,xs[i],List.getElem?_eq_getElem hi,hfr,rfl,rfl⟩,⟨⟨u,by rw[Int.natCast_add];exact e'⟩,a2.extBut sb.extBut hne.symm⟩,fun q hq=>?_⟩
  rw[zal]
  ·exact(hf q hq).1
  ·intro eq
   subst eq
   simp only[List.mem_cons,List.mem_nil_iff,or_false] at hq
   rcases hq with q | q
   ·exact Nat.ne_of_gt lte q
   ·exact Nat.ne_of_gt lti q
 done:=by
  intro X hP hw hK hc i pins s σ H E I hf st hg
  subst hP hw hK
  obtain⟨⟨old,h1⟩,h4⟩:=st
  obtain⟨hqa,hij⟩:=hg
  obtain⟨its,rv,pl,hz⟩:=I.list hqa
  have l1:=rv.length
  refine wpAny_pyNext_enum_end (I.ok.hd hc) h1 h4 pl.isList (by simp;omega) fun h' hk=>⟨rfl,?_⟩
  exact I.turnedT (tk:=s.toks) hf fun q o hq eq=>hk q o (fun z=>hq (by simp[z])) eq
 self:=fun _ _ _ _ _ st h=>by
  obtain⟨⟨old,h1⟩,_⟩:=st
  exact wpAny_pyIter_enum h1 h
def zxw(K:PySem.W.Frag)(ta:TA):TI:=fun σ H R=>ta σ H fun vs H1=>∃ a xs,vs=[.ref a]∧SqL K H1 a xs∧R (Ite K a xs) H1
theorem ztx{a:Expr}{ta:TA}{p pos:Pos}{es:List Expr}{kx:Nat}{px:Pos}(hg:Gl X "enumerate")(hm:X.mg "enumerate" = none)(ha:PA X [a] ta)(hs:starEach [a] X.env=[(false,eval a X.env)]:=by rfl) :
  PI X (.Tuple es kx px) (.Call (.Name "enumerate" p) [a] [] pos) (zxw X.K ta):=by
 intro pins s σ H R I h
 refine Call_ (zkW I hg hm boot_enumerate (PyProof.Rows.callWith_type1 (thn (ha pos pins s σ H _ I h) fun us s1 ⟨vs,H1,I1,r1,q1⟩=>?_) hs rfl))
 obtain⟨a,xs,rfl,hqa,q⟩:=q1
 obtain⟨u,rfl,ru⟩:=zf4 r1
 cases ru
 obtain⟨its,rv1,pl,hz⟩:=I1.list hqa
 refine call_enumerate_list pl.isList fun h' g1 g2 g3 k=>?_
 refine wpAny_pyIter_enum g1 ?_
 refine⟨s1.heap.objs.size + 1,[s1.heap.objs.size + 1,s1.heap.objs.size],_,_,H1,rfl,I1.kept (t':=s1.toks) k,zpp a _ _ xs (ad0 1 (by decide)),⟨⟨_,g1⟩,g2⟩,fun q hq=>?_,q⟩
 have hge:s1.heap.objs.size≤q:=by
  simp only[List.mem_cons,List.mem_nil_iff,or_false] at hq
  rcases hq with e | e
  ·rw[e];exact adge 1
  ·rw[e];exact Nat.le_refl _
 exact I1.fpOk hge (I1.hok.fresh hge)
end
end L2
namespace L2
open PySem PySem.Spec PyProof.Rows
section
variable {prog:Program}{w:World}{A:Around}{E:Value→Shared→Prop}{s:Shared}
inductive zpq(prog:Program)(w:World)(hh:Heap)(A0:Around):List Value→List Value→Bool→Prop
 | nil:zpq prog w hh A0 [] [] true
 | cons {u v:Value} {us vs:List Value} {b c:Bool} (h:∀ (E:Value→Shared→Prop) (s:Shared) (Q:Bool→Shared→Prop),s.heap=hh→Q b s→wpAny (model prog w) A0 (eqBool u v) Q E s) (t:zpq prog w hh A0 us vs c):zpq prog w hh A0 (u :: us) (v :: vs) (b && c)
theorem zpq.len{hh:Heap}{A0:Around}{us vs:List Value}{b:Bool}(h:zpq prog w hh A0 us vs b):us.length=vs.length:=by
 induction h with
 | nil=>rfl
 | cons _ _ ih=>simp[ih]
end
abbrev NKey:=Key×List Key
section
variable {prog:Program}{w:World}
def zpr(prog:Program)(w:World)(tl:List Int)(h:Heap)(x:NKey)(a:Addr):Prop:=
 ∃ o items n v pa ts,h.get? a=some o∧o.cls=.type "tuple"∧o.data=.seq items n∧items.toList=v :: .ref pa :: ts∧(zaq prog w).is x.1 v=true∧IsTupleKey (zaq prog w) h x.2 pa∧ItemsAre (zaq prog w) (tl.map Sum.inl) ts
theorem zpr.inj{tl:List Int}{h:Heap}{a:Addr}{x y:NKey}(hx:zpr prog w tl h x a)(hy:zpr prog w tl h y a):x=y:=by
 obtain⟨o,items,n,v,pa,ts,e1,_,e3,e4,e5,e6,_⟩:=hx
 obtain⟨o',items',n',v',pa',ts',f1,_,f3,f4,f5,f6,_⟩:=hy
 obtain rfl:o=o':=Option.some.inj (e1.symm.trans f1)
 rw[e3] at f3
 injection f3 with g1 _
 subst g1
 rw[e4] at f4
 simp only[List.cons.injEq,Value.ref.injEq] at f4
 obtain⟨rfl,rfl,rfl⟩:=f4
 exact Prod.ext ((zaq prog w).inj _ _ _ e5 f5) (e6.inj f6)
end
end L2
namespace L2
open PySem PySem.Spec PySem.W PyProof.Rows
section
variable {prog:Program}{w:World}{A:Around}{E:Value→Shared→Prop}{s:Shared}
theorem zps{it d:Addr}{i ep:Nat}{es:Array DictEntry}{od:Obj}{Q:Option Value→Shared→Prop}(hit:s.heap.IsKeyIter it d i es.size ep)(hod:s.heap.get? d=some od)(hdd:od.data=.dict es ep)(hi:i < es.size)
  (hQ:∀ h',h'.IsKeyIter it d (i + 1) es.size ep→Heap.SameBut it s.heap h'→Q (some es[i].key) {s with heap:=h'}):wpAny (model prog w) A (pyNext (.ref it)) Q E s:=by
 have hT:=hit.typeIs
 obtain⟨o,ho,hc,hd⟩:=id hit
 have own:Builtin.Dict_items.ownsTuple "dict_keyiterator" = false:=by decide
 have nn:¬ ((Value.ref d == Value.none)=true):=Bool.false_ne_true
 have up:(s.heap.update it (Obj.mapFields (·.setIfInBounds 1 (rawInt ((i:Int) + 1))))).IsKeyIter it d (i + 1) es.size ep:=
  ⟨_,Heap.get?_update_self _ ho (Obj.isFreed_of_fields (Obj.data_mapFields hd _)),(Obj.cls_mapFields ..).trans hc,by rw[Obj.data_mapFields hd];simp[rawInt]⟩
 have uT:=up.typeIs (s:={s with heap:=s.heap.update it (Obj.mapFields (·.setIfInBounds 1 (rawInt ((i:Int) + 1))))})
 unfold pyNext
 refine wpAny_bind (wpAny_attempt (wpAny_callSpecial?_slot (name:=Str.ofString "__next__") hT PySem.F.slot_dict_keyiterator_next (wpAny_call_entry PySem.F.slot_dict_keyiterator_next hT PySem.F.entry_dict_keyiterator_next ?_ (PySem.F.args_dict_keyiterator_next_1 _))))
 refine wpAny_bind (wpAny_pure (wpAny_bind (wpAny_bind ?_)))
 first | refine wpAny_bind (wpAny_typeNameOfWhole_keyiter hT (wpAny_pure ?_)) | refine wpAny_bind (wpAny_typeNameOf_keyiter hT (wpAny_pure ?_))
 refine wpAny_bind (wpAny_fieldsOf ho hd ?_)
 rw[own,if_neg Bool.false_ne_true]
 show wpAny _ _ (if (Value.ref d == Value.none)=true then _ else _) _ _ _
 rw[if_neg nn]
 refine wpAny_bind (wpAny_pure (wpAny_bind (wpAny_dictEntries hod hdd ?_)))
 rw[if_neg (by simp)]
 refine wpAny_bind (wpAny_pure (wpAny_bind (wpAny_dictEpoch hod hdd ?_)))
 rw[if_neg (by simp)]
 refine wpAny_pure ?_
 simp only[show ¬ ((i:Int) < 0) by omega,if_false,Int.toNat_natCast,Array.getElem?_eq_getElem hi]
 refine wpAny_bind ?_
 first | refine wpAny_bind (wpAny_typeNameOfWhole_keyiter hT (wpAny_pure ?_)) | refine wpAny_bind (wpAny_typeNameOf_keyiter hT (wpAny_pure ?_))
 refine wpAny_bind (wpAny_isOneOf_keyiter hT ?_)
 show wpAny _ _ (setField (.ref it) 1 (rawInt ((i:Int) + 1)) >>= _) _ _ _
 refine wpAny_bind (wpAny_setField ho hd (by simp) (wpAny_bind (wpAny_holding (wpAny_bind (wpAny_isOneOf_keyiter uT ?_)))))
 show wpAny _ _ (pure es[i].key) _ _ _
 exact wpAny_pure (wpAny_pure ⟨_,rfl,wpAny_pure (hQ _ up (Heap.SameBut.update ..))⟩)
theorem zrg{it d:Addr}{i ep:Nat}{es:Array DictEntry}{od:Obj}{Q:Option Value→Shared→Prop}(hh:A.handled=none)(hit:s.heap.IsKeyIter it d i es.size ep)(hod:s.heap.get? d=some od)(hdd:od.data=.dict es ep)(hi:es.size≤i)
  (hQ:∀ h',Heap.ExtBut it s.heap h'→Q none {s with heap:=h'}):wpAny (model prog w) A (pyNext (.ref it)) Q E s:=by
 have hT:=hit.typeIs
 obtain⟨o,ho,hc,hd⟩:=id hit
 have own:Builtin.Dict_items.ownsTuple "dict_keyiterator" = false:=by decide
 have nn:¬ ((Value.ref d == Value.none)=true):=Bool.false_ne_true
 unfold pyNext
 refine wpAny_bind (wpAny_attempt (wpAny_callSpecial?_slot (name:=Str.ofString "__next__") hT PySem.F.slot_dict_keyiterator_next (wpAny_call_entry PySem.F.slot_dict_keyiterator_next hT PySem.F.entry_dict_keyiterator_next ?_ (PySem.F.args_dict_keyiterator_next_1 _))))
 refine wpAny_bind (wpAny_pure (wpAny_bind (wpAny_bind ?_)))
 first | refine wpAny_bind (wpAny_typeNameOfWhole_keyiter hT (wpAny_pure ?_)) | refine wpAny_bind (wpAny_typeNameOf_keyiter hT (wpAny_pure ?_))
 refine wpAny_bind (wpAny_fieldsOf ho hd ?_)
 rw[own,if_neg Bool.false_ne_true]
 show wpAny _ _ (if (Value.ref d == Value.none)=true then _ else _) _ _ _
 rw[if_neg nn]
 refine wpAny_bind (wpAny_pure (wpAny_bind (wpAny_dictEntries hod hdd ?_)))
 rw[if_neg (by simp)]
 refine wpAny_bind (wpAny_pure (wpAny_bind (wpAny_dictEpoch hod hdd ?_)))
 rw[if_neg (by simp)]
 refine wpAny_pure ?_
 simp only[show ¬ ((i:Int) < 0) by omega,if_false,Int.toNat_natCast,Array.getElem?_eq_none hi]
 refine wpAny_bind ?_
 first | refine wpAny_bind (wpAny_typeNameOfWhole_keyiter hT (wpAny_pure ?_)) | refine wpAny_bind (wpAny_typeNameOf_keyiter hT (wpAny_pure ?_))
 show wpAny _ _ (setField (.ref it) 0 .none >>= _) _ _ _
 refine wpAny_bind (wpAny_setField ho hd (by simp) ?_)
 show wpAny _ _ (newExc (.type "StopIteration") [] >>= _) _ _ _
 refine wpAny_bind ?_
 simp only[newExc,newTuple]
 refine wpAny_bind (wpAny_newObj_type (wpAny_bind (m:=firstArgMember _ _) (wpAny_of_eq (a:=Value.none) (by first | rfl | (simp only[firstArgMember];rfl)) (wpAny_newObj_type ?_ (by size_fits)))) (by size_fits))
 simp only[raiseNew]
 refine wpAny_bind (wpAny_handled ?_)
 rw[show A.in1.handled=none from hh]
 refine wpAny_bind (wpAny_pure (wpAny_throw ?_))
 refine wpAny_bind (wpAny_isInstance (T:="StopIteration") (b:=true) ⟨_,Heap.get?_push_size _ rfl,rfl⟩ isSubtype_stop ?_)
 exact wpAny_pure (hQ _ (((Heap.SameBut.update ..).extBut.push _).push _))
def RawD(h:Heap)(a:Addr)(es:Array DictEntry)(ep:Nat):Prop:=∃ o,h.get? a=some o∧o.ExactDict∧o.data=.dict es ep
theorem RawD.typeIs{d:Addr}{es:Array DictEntry}{ep:Nat}(h:RawD s.heap d es ep):s.TypeIs (.ref d) "dict":=let ⟨o,ho,hc,_⟩:=h;⟨o,ho,hc.1⟩
theorem znt{d:Addr}{es:Array DictEntry}{ep:Nat}{Q:Value→Shared→Prop}(hd:(d == sysModules)=false)(hm:RawD s.heap d es ep)
  (hQ:Q (.ref s.heap.objs.size) {s with heap:=s.heap.push {cls:=.type "dict_keyiterator",data:=.fields #[.ref d,.int 0 0,.int es.size 0,.int ep 0]}}):wpAny (model prog w) A (pyIter (.ref d)) Q E s:=by
 have hT:=hm.typeIs
 obtain⟨o,ho,hc,hdat⟩:=hm
 refine wpAny_pyIter_slot hT PySem.F.slot_dict_iter (wpAny_call_entry PySem.F.slot_dict_iter hT PySem.F.entry_dict_iter ?_ (PySem.F.args_dict_iter_1 _))
 unfold Builtin.«dict.__iter__»
 refine wpAny_bind ?_
 unfold Builtin.Dict.dictSlotNone
 refine wpAny_bind (wpAny_notOrdered_dict hT (wpAny_pure ?_))
 show wpAny _ _ (Builtin.Dict.showsAll d >>= _) _ _ _
 unfold Builtin.Dict.showsAll
 rw[if_neg (by rw[hd];exact Bool.false_ne_true)]
 refine wpAny_bind (wpAny_pure (wpAny_bind (wpAny_dictEntries ho hdat (wpAny_bind (wpAny_dictEpoch ho hdat ?_)))))
 refine wpAny_bind (wpAny_newObj_type (wpAny_pure ⟨_,rfl,"dict_keyiterator",_,⟨_,Heap.get?_push_size _ rfl,rfl⟩,PySem.F.slot_dict_keyiterator_next.lookup,?_⟩))
 simpa [rawInt] using hQ
end
end L2
namespace PySem
namespace Rv
open PyProof.Rows L2 PySem.Spec
section
variable {prog:Program}{w:World}{A:Around}{E:Value→Shared→Prop}{s:Shared}
end
end Rv
end PySem
namespace PySem
namespace Rv
open PyProof.Rows L2 PySem.Spec
section
variable {prog:Program}{w:World}{A:Around}{E:Value→Shared→Prop}{s:Shared}
end
end Rv
end PySem
namespace PySem
namespace Rv
open PyProof.Rows L2 PySem.Spec
section
variable {prog:Program}{w:World}{A:Around}{E:Value→Shared→Prop}{s:Shared}
end
end Rv
end PySem
namespace L2
open PySem PySem.Spec PyProof.Rows
section
variable {X:Cx}{a:Expr}{ta:TA}{p p2 pos pos2:Pos}
end
end L2
namespace PySem
namespace Zt
open PyProof.Rows L2 PySem.Spec
section
variable {prog:Program}{w:World}{A:Around}{E:Value→Shared→Prop}{s:Shared}
variable {z TI TO i1 i2 l1 l2:Addr}{xs ys:Array Value}{S1 S2:Nat→Heap→Prop}
end
end Zt
end PySem
namespace PySem
namespace Zt
open PyProof.Rows L2 PySem.Spec
section
variable {prog:Program}{w:World}{A:Around}{E:Value→Shared→Prop}{s:Shared}{z TI TO i1 i2 l1 l2:Addr}{xs ys:Array Value}{S1 S2:Nat→Heap→Prop}
end
end Zt
end PySem
namespace L2
open PySem PySem.Spec PyProof.Rows
section
variable {X:Cx}
end
end L2
namespace L2
open PySem PySem.Spec PyProof.Rows
section
variable {X:Cx}
theorem zjB:∀ {vs:List Value} {ks:List Str},vs.length=ks.length→(∀ (j:Nat) v,vs[j]? = some v→∃ x t,ks[j]? = some x∧v=.str x t)→StrsAre vs ks
 | [],[],_,_=>.nil
 | [],_ :: _,e,_=>by simp at e
 | _ :: _,[],e,_=>by simp at e
 | v :: vs,k :: ks,e,h=>by
  obtain⟨x,t,h1,rfl⟩:=h 0 v rfl
  cases (show k=x by simpa using h1)
  exact .cons k t (zjB (by simpa using e) fun j v hv=>by simpa using h (j + 1) v (by simpa using hv))
theorem zlg:∀ {vs:List Value} {ss:List Str},StrsAre vs ss→Vals (ss.map V.str) vs
 | _,_,.nil=>.nil
 | _,_,.cons y t r=>.cons ⟨t,rfl⟩ (zlg r)
theorem zhQ(hc:X.calm=true):zbx X (.builtin "sorted") (fun xs H Q=>∃ (d:Addr) (kvs:List (Key×V)) (ks:List Str),xs=[.ref d]∧H d=some (.dK kvs)∧kvs.map Prod.fst=ks.map Sum.inr∧ks.length < 64∧
  ∀ ss:List Str,ss.Perm ks→∀ p,H p=none→Q (.ref p) (upd H p (.lst (ss.map V.str)))):=by
 intro pins s σ H xs us Q I r h
 obtain⟨d,kvs,ks,rfl,hd,hks,h64,q⟩:=h
 obtain⟨u,rfl,ru⟩:=zf4 r
 cases ru
 obtain⟨hz,hne,vs,rkv,hD⟩:=(show zbl X.prog X.w H s.heap d (.dK kvs) from I.hok d _ hd)
 obtain⟨ep,hat⟩:=hD.dictAt
 have hl:=rkv.length
 have hkl:kvs.length=ks.length:=by have:=congrArg List.length hks;simpa using this
 refine Calls.call_function_entry kind_sorted plain_sorted entry_sorted (args_sorted1 _) ?_
 unfold Builtin.«sorted»
 refine wpAny_bind (m:=checkCount "sorted" 1 1 _) (wpAny_pure (wpAny_bind (PySem.W.kdu_collect (A:=X.A.in1) (PySem.W.kdl_dict (knd:=zaq X.prog X.w) (kvs:=vs) (ep:=ep) hne) (I.ok.hd hc) hat (by rw[←hl];exact hz) fun h' tk acc hk hacc=>?_)))
 have hsz:acc.toList.length=ks.length:=by have h1:=hacc.1;have h2:acc.toList.length=acc.size:=Array.length_toList;omega
 have hS:StrsAre acc.toList ks:=zjB hsz fun j v hv=>by
  obtain⟨k,x,hx,hk'⟩:=hacc.2 j v (by rw[←Array.getElem?_toList];exact hv)
  obtain⟨y,hy⟩:=zpn rkv hx
  have e1:(kvs.map Prod.fst)[j]? = some k:=by rw[List.getElem?_map,hy];rfl
  rw[hks,List.getElem?_map] at e1
  obtain⟨z,hz',rfl⟩:=Option.map_eq_some_iff.mp e1
  obtain⟨t,e⟩:=(show RelV (kV (Sum.inr z)) v from zpo hk')
  exact⟨z,t,hz',e⟩
 have I1:Inv X pins σ H {s with heap:=h',toks:=tk}:=I.kept (t':=tk) hk
 refine wpAny_bind (wpAny_newList ?_ (by rw[hsz];omega))
 have ho:(h'.push (seqObj "list" acc.toList.toArray 0)).get? h'.objs.size=some (seqObj "list" acc.toList.toArray 0):=Heap.get?_push_size _ rfl
 refine wpAny_bind (wpAny_holding (wpAny_call_entry slot_list_sort ⟨_,ho,rfl⟩ entry_list_sort (list_sort_treeK strKind_oneLt ho hS.keysOf (fun v₁ v₂ rest e=>keyKind_strs (by rw[←e];exact hS)) (by rw[hsz];exact h64) fun st' a1 a2=>⟨_,rfl,?_⟩) (args_list_sort _)))
 obtain⟨ss,h1,h2,h3⟩:=sorted_out_str hS a1 a2
 obtain⟨e,he⟩:=sortedHeap_at (out:=(arrOf st').map (·.2)) ho
 have hlen:ss.length=ks.length:=h2.length_eq
 refine wpAny_pure ⟨_,rfl,.ref h'.objs.size,_,I1.laid (o:=.lst (ss.map V.str)) (t':=tk) (fun b o eb=>?_) (Nat.le_refl _) ⟨by rw[List.length_map];exact Nat.le_trans (Nat.le_of_lt (by omega:ss.length < 64)) (by decide),((arrOf st').map (·.2)).toList,e,zlg h1,by rw[Array.toArray_toList];exact he⟩,rfl,q ss h2 _ I1.fresh⟩
 have hlt:b < h'.objs.size:=Heap.lt_size eb
 exact(sortedHeap_old (Nat.ne_of_lt hlt) (by rw[Heap.size_push];exact Nat.lt_succ_of_lt hlt)).trans (Heap.get?_push_of_some _ eb)
end
end L2
namespace L2
open PySem PySem.Spec PyProof.Rows
section
variable {X:Cx}
theorem zrh{ns:List Int}{its:List Value}(r:Vals (ns.map V.int) its){i:Nat}{v:Value}(h:its[i]? = some v):∃ t,v=.int (ns.getD i 0) t:=by
 have hl:=r.length
 rw[List.length_map] at hl
 have hi:i < ns.length:=by have:=(List.getElem?_eq_some_iff.mp h).1;omega
 obtain⟨u,hu,ru⟩:=r.get (i:=i) (x:=.int ns[i]) (by rw[List.getElem?_map,List.getElem?_eq_getElem hi];rfl)
 rw[h] at hu;cases hu
 obtain⟨t,e⟩:=ru
 exact⟨t,by rw[e];congr 1;simp[List.getD,List.getElem?_eq_getElem hi]⟩
theorem zpt(hc:X.calm=true):zbx X (.builtin "sum") (fun xs H Q=>∃ (p:Addr) (ns:List Int),xs=[.ref p]∧SqL X.K H p (ns.map V.int)∧Q (.int ns.sum) H):=by
 intro pins s σ H xs us Q I r h
 obtain⟨p,ns,rfl,hq,q⟩:=h
 obtain⟨u,rfl,ru⟩:=zf4 r
 cases ru
 obtain⟨its,rv,pl,hz⟩:=I.list hq
 have hlt:p < s.heap.objs.size:=by obtain⟨_,e,_⟩:=pl.isList;exact Heap.lt_size e
 have hl:=rv.length
 rw[List.length_map] at hl
 have hA:X.A.in1.handled=none:=I.ok.hd hc
 refine call_sum_walkG (wpAny_pyIter_list pl.isList ⟨s.heap.objs.size,[s.heap.objs.size,p],[s.heap.objs.size],its.toArray.size,(fun i v=>its.toArray[i]? = some v),_,(fun i=>ns.getD i 0),rfl,Walks.list (A:=X.A.in1) hA s.heap.objs.size p (Nat.ne_of_lt hlt) its.toArray,
  ⟨⟨_,Heap.get?_push_size _ rfl,rfl,rfl⟩,pl.isList.push _⟩,?_,fun i v hv=>zrh rv (by simpa using hv),fun h' tk t' hk=>?_⟩)
 ·intro b hb
  rw[Heap.size_push]
  simp only[List.mem_cons,List.mem_nil_iff,or_false] at hb
  rcases hb with rfl | rfl
  ·exact Nat.lt_succ_self _
  ·exact Nat.lt_succ_of_lt hlt
 ·rw[preSum_getD,List.size_toArray,←hl,List.take_length]
  refine⟨.int ns.sum,H,I.kept (t':=tk) fun b o eb=>hk b o (fun z=>?_) (Heap.get?_push_of_some _ eb),⟨_,rfl⟩,q⟩
  exact absurd (Heap.lt_size eb) (by rw[List.mem_singleton.mp z];exact Nat.lt_irrefl _)
end
end L2
namespace L2
open PySem PySem.Spec PyProof.Rows
end L2
namespace L3
open PySem PySem.Spec PyProof.Rows L2
abbrev SV:=L2.St
inductive W where
 | non | bl (b:Bool) | int (i:Int) | str (x:Str) | ty (n:String) | tup (ws:List W) | rl (ws:List W) | sc (ws:List W) | ref (a:Addr)
 | dk (kvs:List (Key×W)) | dt (kvs:List (List Key×W)) | fk (kvs:List (Key×W)) | ft (kvs:List (List Key×W))
inductive MO where
 | lst (ws:List W) | dK (kvs:List (Key×W)) | dT (kvs:List (List Key×W)) | fix (vs:List V) | ins (C dx:Addr) (fs:List (Str×W))
abbrev Mm:=Addr→Option MO
def put(M:Mm)(a:Addr)(o:MO):Mm:=fun b=>if b=a then some o else M b
def del(M:Mm)(a:Addr):Mm:=fun b=>if b=a then none else M b
theorem zad{M:Mm}{a:Addr}{o:MO}:put M a o a=some o:=by unfold put;rw[if_pos rfl]
theorem zaf{M:Mm}{a b:Addr}{o:MO}(h:b≠a):put M a o b=M b:=by unfold put;rw[if_neg h]
theorem zd2{M:Mm}{a:Addr}{o u:MO}:put (put M a o) a u=put M a u:=by
 funext b;unfold put;split <;> rfl
theorem zha{M:Mm}{a:Addr}{o:MO}(h:M a=none):del (put M a o) a=M:=by
 funext b;unfold del put;split
 ·rename_i e;rw[e,h]
 ·rfl
theorem zfz{M:Mm}{a:Addr}:del M a a=none:=by unfold del;rw[if_pos rfl]
theorem zjC{M:Mm}{a b:Addr}(h:b≠a):del M a b=M b:=by unfold del;rw[if_neg h]
theorem zri{M:Mm}{a:Addr}{o:MO}(h:M a=some o):put M a o=M:=by
 funext b;unfold put;split
 ·rename_i e;rw[e,h]
 ·rfl
def Sub(M M':Mm):Prop:=∀ a o,M a=some o→M' a=some o
theorem Sub.refl(M:Mm):Sub M M:=fun _ _ h=>h
theorem Sub.trans{M M1 M2:Mm}(a:Sub M M1)(b:Sub M1 M2):Sub M M2:=fun c o h=>b c o (a c o h)
theorem Sub.new{M:Mm}{a:Addr}{o:MO}(h:M a=none):Sub M (put M a o):=fun b u e=>by
 rw[zaf (fun z=>by rw[z,h] at e;cases e)];exact e
theorem Sub.put{M M':Mm}{a:Addr}{o:MO}(h:Sub M M'):Sub (put M a o) (put M' a o):=fun b u e=>by
 unfold L3.put at e ⊢
 split at e
 ·rename_i z;rw[if_pos z];exact e
 ·rename_i z;rw[if_neg z];exact h b u e
theorem Sub.del{M:Mm}{a:Addr}:Sub (del M a) M:=fun b u e=>by
 unfold L3.del at e
 split at e
 ·cases e
 ·exact e
theorem Sub.non{M M':Mm}(h:Sub M M'){a:Addr}(e:M' a=none):M a=none:=by
 cases q:M a with
 | none=>rfl
 | some o=>rw[h a o q] at e;cases e
def SqR(K:PySem.W.Frag)(H:Hp)(a:Addr)(xs:List V):Prop:=
 (∃ o,H a=some (.frz o (.lst xs)))∨
  ∃ (o:Obj) (its:Array Value) (n:Nat),K.lookup a=some o∧o.cls=.type "list"∧o.dict=none∧o.data=.seq its n∧its.size≤sizeLine∧Vals xs its.toList
theorem SqR.sq{K:PySem.W.Frag}{H:Hp}{a:Addr}{xs:List V}(h:SqR K H a xs):SqL K H a xs:=by
 rcases h with⟨o,h⟩ | h
 ·exact .inl (.inr ⟨o,h⟩)
 ·exact .inr h
mutual
inductive AV(K:PySem.W.Frag)(H:Hp)(M:Mm):V→W→Prop
 | non:AV K H M .non .non
 | bl (b:Bool):AV K H M (.bl b) (.bl b)
 | int (i:Int):AV K H M (.int i) (.int i)
 | str (x:Str):AV K H M (.str x) (.str x)
 | ty (n:String):AV K H M (.ty n) (.ty n)
 | tup {a:Addr} {xs:List V} {ws:List W}:H a=some (.tup xs)→AVs K H M xs ws→AV K H M (.ref a) (.tup ws)
 | sc {a:Addr} {xs:List V} {ws:List W}:SqR K H a xs→AVs K H M xs ws→AV K H M (.ref a) (.sc ws)
 | rl {a:Addr} {xs:List V} {ws:List W}:H a=some (.lst xs)→M a=none→AVs K H M xs ws→AV K H M (.ref a) (.rl ws)
 | ref (a:Addr):AV K H M (.ref a) (.ref a)
 | dk {a:Addr} {ks:List (Key×V)} {kvs:List (Key×W)}:H a=some (.dK ks)→M a=none→ks.map Prod.fst=kvs.map Prod.fst→AVs K H M (ks.map Prod.snd) (kvs.map Prod.snd)→AV K H M (.ref a) (.dk kvs)
 | dt {a:Addr} {ks:List (List Key×V)} {kvs:List (List Key×W)}:H a=some (.dT ks)→M a=none→ks.map Prod.fst=kvs.map Prod.fst→AVs K H M (ks.map Prod.snd) (kvs.map Prod.snd)→AV K H M (.ref a) (.dt kvs)
 | fk {a:Addr} {o:Obj} {ks:List (Key×V)} {kvs:List (Key×W)}:H a=some (.frz o (.dK ks))→ks.map Prod.fst=kvs.map Prod.fst→AVs K H M (ks.map Prod.snd) (kvs.map Prod.snd)→AV K H M (.ref a) (.fk kvs)
 | ft {a:Addr} {o:Obj} {ks:List (List Key×V)} {kvs:List (List Key×W)}:H a=some (.frz o (.dT ks))→ks.map Prod.fst=kvs.map Prod.fst→AVs K H M (ks.map Prod.snd) (kvs.map Prod.snd)→AV K H M (.ref a) (.ft kvs)
inductive AVs(K:PySem.W.Frag)(H:Hp)(M:Mm):List V→List W→Prop
 | nil:AVs K H M [] []
 | cons {v:V} {vs:List V} {w:W} {ws:List W}:AV K H M v w→AVs K H M vs ws→AVs K H M (v :: vs) (w :: ws)
end
abbrev PKV(K:PySem.W.Frag)(H:Hp)(M:Mm)(κ:Type):List (κ×V)→List (κ×W)→Prop:=Paired fun p q=>p.1=q.1∧AV K H M p.2 q.2
theorem zfQ{K:PySem.W.Frag}{H:Hp}{M:Mm}{κ:Type}:∀ {ks:List (κ×V)} {kvs:List (κ×W)},ks.map Prod.fst=kvs.map Prod.fst→AVs K H M (ks.map Prod.snd) (kvs.map Prod.snd)→PKV K H M κ ks kvs
 | [],[],_,_=>.nil
 | [],_ :: _,e,_=>by simp at e
 | _ :: _,[],e,_=>by simp at e
 | p :: ps,q :: qs,e,h=>by
  rw[List.map_cons,List.map_cons] at e h
  rw[List.cons.injEq] at e
  cases h with
  | cons x r=>exact .cons ⟨e.1,x⟩ (zfQ e.2 r)
theorem PKV.keys{K:PySem.W.Frag}{H:Hp}{M:Mm}{κ:Type}{ks:List (κ×V)}{kvs:List (κ×W)}(h:PKV K H M κ ks kvs):ks.map Prod.fst=kvs.map Prod.fst:=by
 induction h with
 | nil=>rfl
 | cons r _ ih=>rw[List.map_cons,List.map_cons,ih,r.1]
theorem PKV.vals{K:PySem.W.Frag}{H:Hp}{M:Mm}{κ:Type}{ks:List (κ×V)}{kvs:List (κ×W)}(h:PKV K H M κ ks kvs):AVs K H M (ks.map Prod.snd) (kvs.map Prod.snd):=by
 induction h with
 | nil=>exact .nil
 | cons r _ ih=>exact .cons r.2 ih
def AO(K:PySem.W.Frag)(H:Hp)(M:Mm)(a:Addr):MO→Prop
 | .lst ws=>∃ vs,H a=some (.lst vs)∧AVs K H M vs ws
 | .dK kvs=>∃ ks,H a=some (.dK ks)∧PKV K H M Key ks kvs
 | .dT kvs=>∃ ks,H a=some (.dT ks)∧PKV K H M (List Key) ks kvs
 | .fix vs=>H a=some (.lst vs)
 | .ins C dx fs=>∃ gs,H a=some (.ins C dx gs)∧PKV K H M Str gs fs
def AM(K:PySem.W.Frag)(H:Hp)(M:Mm):Prop:=∀ a o,M a=some o→AO K H M a o
structure Kp(H:Hp)(M:Mm)(H':Hp)(M':Mm):Prop where
 fr:∀ a o,M a=none→H a=some o→H' a=some o∧M' a=none
 dom:∀ a o,M a=some o→∃ u,H' a=some u
structure Go(H:Hp)(M:Mm)(H':Hp)(M':Mm):Prop where
 ht:∀ b xs,H b=some (.tup xs)→H' b=some (.tup xs)
 hf:∀ b o u,H b=some (.frz o u)→H' b=some (.frz o u)
 hl:∀ b o,M b=none→H b=some o→H' b=some o∧M' b=none
section
variable {K:PySem.W.Frag}{H H' H1 H2:Hp}{M M' M1 M2:Mm}{a:Addr}
theorem AO.has{o:MO}(h:AO K H M a o):∃ u,H a=some u:=by
 cases o with
 | lst ws=>obtain⟨vs,e,_⟩:=h;exact⟨_,e⟩
 | dK kvs=>obtain⟨ks,e,_⟩:=h;exact⟨_,e⟩
 | dT kvs=>obtain⟨ks,e,_⟩:=h;exact⟨_,e⟩
 | fix vs=>exact⟨_,h⟩
 | ins C dx fs=>obtain⟨gs,e,_⟩:=h;exact⟨_,e⟩
theorem AM.nonM(am:AM K H M)(h:H a=none):M a=none:=by
 cases q:M a with
 | none=>rfl
 | some o=>obtain⟨u,e⟩:=(am a o q).has;rw[h] at e;cases e
theorem AM.noTup(am:AM K H M){xs:List V}(h:H a=some (.tup xs)):M a=none:=by
 cases q:M a with
 | none=>rfl
 | some o=>
  have:=am a o q
  cases o with
  | lst ws=>obtain⟨vs,e,_⟩:=this;rw[h] at e;cases e
  | dK kvs=>obtain⟨ks,e,_⟩:=this;rw[h] at e;cases e
  | dT kvs=>obtain⟨ks,e,_⟩:=this;rw[h] at e;cases e
  | fix vs=>have e:H a=some (.lst vs):=this;rw[h] at e;cases e
  | ins C dx fs=>obtain⟨gs,e,_⟩:=this;rw[h] at e;cases e
theorem AM.noFrz(am:AM K H M){ob:Obj}{u:HO}(h:H a=some (.frz ob u)):M a=none:=by
 cases q:M a with
 | none=>rfl
 | some o=>
  have:=am a o q
  cases o with
  | lst ws=>obtain⟨vs,e,_⟩:=this;rw[h] at e;cases e
  | dK kvs=>obtain⟨ks,e,_⟩:=this;rw[h] at e;cases e
  | dT kvs=>obtain⟨ks,e,_⟩:=this;rw[h] at e;cases e
  | fix vs=>have e:H a=some (.lst vs):=this;rw[h] at e;cases e
  | ins C dx fs=>obtain⟨gs,e,_⟩:=this;rw[h] at e;cases e
theorem Kp.refl(am:AM K H M):Kp H M H M:=⟨fun a o h e=>⟨e,h⟩,fun a o h=>(am a o h).has⟩
theorem Kp.trans(x:Kp H M H1 M1)(y:Kp H1 M1 H2 M2):Kp H M H2 M2 where
 fr:=fun a o h e=>by
  obtain⟨e1,n1⟩:=x.fr a o h e
  exact y.fr a o n1 e1
 dom:=fun a o h=>by
  obtain⟨u,e⟩:=x.dom a o h
  cases q:M1 a with
  | none=>exact⟨u,(y.fr a u q e).1⟩
  | some o1=>exact y.dom a o1 q
theorem Kp.sub(x:Kp H M H1 M1)(h:Sub M2 M1):Kp H M H1 M2 where
 fr:=fun a o n e=>⟨(x.fr a o n e).1,h.non (x.fr a o n e).2⟩
 dom:=x.dom
theorem Kp.go(am:AM K H M)(k:Kp H M H' M'):Go H M H' M':=⟨fun b xs e=>(k.fr b _ (am.noTup e) e).1,fun b o u e=>(k.fr b _ (am.noFrz e) e).1,k.fr⟩
theorem Go.sub(h:Sub M' M):Go H M H M':=⟨fun _ _ e=>e,fun _ _ _ e=>e,fun b o n e=>⟨e,h.non n⟩⟩
mutual
theorem AV.go(g:Go H M H' M'):∀ {v:V} {w:W},AV K H M v w→AV K H' M' v w
 | _,_,.non=>.non
 | _,_,.bl b=>.bl b
 | _,_,.int i=>.int i
 | _,_,.str x=>.str x
 | _,_,.ty n=>.ty n
 | _,_,.tup e r=>.tup (g.ht _ _ e) (AVs.go g r)
 | _,_,.sc e r=>.sc (e.elim (fun⟨o,q⟩=>.inl ⟨o,g.hf _ _ _ q⟩) .inr) (AVs.go g r)
 | _,_,.rl e n r=>.rl (g.hl _ _ n e).1 (g.hl _ _ n e).2 (AVs.go g r)
 | _,_,.ref a=>.ref a
 | _,_,.dk e n ke r=>.dk (g.hl _ _ n e).1 (g.hl _ _ n e).2 ke (AVs.go g r)
 | _,_,.dt e n ke r=>.dt (g.hl _ _ n e).1 (g.hl _ _ n e).2 ke (AVs.go g r)
 | _,_,.fk e ke r=>.fk (g.hf _ _ _ e) ke (AVs.go g r)
 | _,_,.ft e ke r=>.ft (g.hf _ _ _ e) ke (AVs.go g r)
theorem AVs.go(g:Go H M H' M'):∀ {vs:List V} {ws:List W},AVs K H M vs ws→AVs K H' M' vs ws
 | _,_,.nil=>.nil
 | _,_,.cons x r=>.cons (AV.go g x) (AVs.go g r)
end
theorem PKV.go{κ:Type}{ks:List (κ×V)}{kvs:List (κ×W)}(g:Go H M H' M')(h:PKV K H M κ ks kvs):PKV K H' M' κ ks kvs:=Paired.mapP h fun p q z=>⟨z.1,z.2.go g⟩
theorem AO.go{o:MO}(g:Go H M H' M')(e:H' a=H a)(h:AO K H M a o):AO K H' M' a o:=by
 cases o with
 | lst ws=>obtain⟨vs,e1,r⟩:=h;exact⟨vs,by rw[e];exact e1,r.go g⟩
 | dK kvs=>obtain⟨vs,e1,r⟩:=h;exact⟨vs,by rw[e];exact e1,r.go g⟩
 | dT kvs=>obtain⟨vs,e1,r⟩:=h;exact⟨vs,by rw[e];exact e1,r.go g⟩
 | fix vs=>exact e.trans h
 | ins C dx fs=>obtain⟨gs,e1,r⟩:=h;exact⟨gs,by rw[e];exact e1,r.go g⟩
theorem AM.sub(am:AM K H M')(h:Sub M M'):AM K H M:=fun a o e=>(am a o (h a o e)).go (Go.sub h) rfl
theorem AV.sub(h:Sub M' M){v:V}{w:W}(x:AV K H M v w):AV K H M' v w:=x.go (Go.sub h)
theorem AVs.sub(h:Sub M' M){v:List V}{w:List W}(x:AVs K H M v w):AVs K H M' v w:=x.go (Go.sub h)
theorem AV.kp(am:AM K H M)(k:Kp H M H' M'){v:V}{w:W}(h:AV K H M v w):AV K H' M' v w:=h.go (k.go am)
theorem AVs.kp(am:AM K H M)(k:Kp H M H' M'){vs:List V}{ws:List W}(h:AVs K H M vs ws):AVs K H' M' vs ws:=h.go (k.go am)
theorem AVs.length:∀ {vs:List V} {ws:List W},AVs K H M vs ws→vs.length=ws.length
 | _,_,.nil=>rfl
 | _,_,.cons _ r=>by simp[AVs.length r]
theorem AVs.append:∀ {vs us:List V} {ws zs:List W},AVs K H M vs ws→AVs K H M us zs→AVs K H M (vs ++ us) (ws ++ zs)
 | _,_,_,_,.nil,s=>s
 | _,_,_,_,.cons x r,s=>.cons x (AVs.append r s)
theorem AVs.getW:∀ {vs:List V} {ws:List W} {i:Nat} {w:W},AVs K H M vs ws→ws[i]? = some w→∃ v,vs[i]? = some v∧AV K H M v w
 | _,_,_,_,.nil,e=>by simp at e
 | _,_,0,_,.cons x _,e=>by simp at e;subst e;exact⟨_,rfl,x⟩
 | _,_,i + 1,w,.cons _ r,e=>by
  obtain⟨v,h1,h2⟩:=AVs.getW (i:=i) (w:=w) r (by simpa using e)
  exact⟨v,by simpa using h1,h2⟩
theorem AVs.getV:∀ {vs:List V} {ws:List W} {i:Nat} {v:V},AVs K H M vs ws→vs[i]? = some v→∃ w,ws[i]? = some w∧AV K H M v w
 | _,_,_,_,.nil,e=>by simp at e
 | _,_,0,_,.cons x _,e=>by simp at e;subst e;exact⟨_,rfl,x⟩
 | _,_,i + 1,v,.cons _ r,e=>by
  obtain⟨w,h1,h2⟩:=AVs.getV (i:=i) (v:=v) r (by simpa using e)
  exact⟨w,by simpa using h1,h2⟩
theorem AVs.set{v:V}{w:W}(x:AV K H M v w):∀ {vs:List V} {ws:List W} (i:Nat),AVs K H M vs ws→AVs K H M (vs.set i v) (ws.set i w)
 | _,_,_,.nil=>.nil
 | _,_,0,.cons _ t=>.cons x t
 | _,_,i + 1,.cons q t=>.cons q (AVs.set x i t)
theorem AVs.take:∀ {vs:List V} {ws:List W} (n:Nat),AVs K H M vs ws→AVs K H M (vs.take n) (ws.take n)
 | _,_,0,_=>by simp;exact .nil
 | _,_,_ + 1,.nil=>.nil
 | _,_,n + 1,.cons x t=>.cons x (AVs.take n t)
theorem AVs.drop:∀ {vs:List V} {ws:List W} (n:Nat),AVs K H M vs ws→AVs K H M (vs.drop n) (ws.drop n)
 | _,_,0,h=>h
 | _,_,_ + 1,.nil=>.nil
 | _,_,n + 1,.cons _ t=>AVs.drop n t
theorem AVs.reverse{vs:List V}{ws:List W}(h:AVs K H M vs ws):AVs K H M vs.reverse ws.reverse:=by
 induction vs generalizing ws with
 | nil=>cases h;exact .nil
 | cons v vs ih=>
  cases h with
  | cons x r=>rw[List.reverse_cons,List.reverse_cons];exact(ih r).append (.cons x .nil)
theorem AVs.dropLast{vs:List V}{ws:List W}(h:AVs K H M vs ws):AVs K H M vs.dropLast ws.dropLast:=by
 rw[List.dropLast_eq_take,List.dropLast_eq_take,h.length];exact h.take _
theorem AVs.flatRep{vs:List V}{ws:List W}(h:AVs K H M vs ws):∀ n:Nat,AVs K H M (List.replicate n vs).flatten (List.replicate n ws).flatten
 | 0=>.nil
 | n + 1=>by
  rw[List.replicate_succ,List.replicate_succ,List.flatten_cons,List.flatten_cons]
  exact h.append (AVs.flatRep h n)
theorem AVs.int(is:List Int):AVs K H M (is.map V.int) (is.map W.int):=by
 induction is with
 | nil=>exact .nil
 | cons i r ih=>exact .cons (.int i) ih
theorem zsA{p:Addr}{u:HO}(hp:H p=none)(hs:∀ b,b≠p→M b=none→M' b=none):Go H M (upd H p u) M':=
 ⟨fun b xs e=>by rw[zal (zap e hp)];exact e,fun b o x e=>by rw[zal (zap e hp)];exact e,fun b o n e=>⟨by rw[zal (zap e hp)];exact e,hs b (zap e hp) n⟩⟩
theorem zsB{p:Addr}{o:MO}{u:HO}(hp:H p=none):Go H M (upd H p u) (put M p o):=zsA hp fun b ne n=>by rw[zaf ne];exact n
theorem zmv{p:Addr}{u:HO}(hp:H p=none):Go H M (upd H p u) M:=zsA hp fun b ne n=>n
theorem AM.laid{p:Addr}{o:MO}{u:HO}(am:AM K H M)(hp:H p=none)(h:AO K (upd H p u) (put M p o) p o):AM K (upd H p u) (put M p o)∧Kp H M (upd H p u) (put M p o):=by
 refine⟨fun a x e=>?_,fun a x h e=>⟨?_,?_⟩,fun a x h=>?_⟩
 ·by_cases ha:a=p
  ·subst ha;rw[zad] at e;cases e;exact h
  ·rw[zaf ha] at e
   exact(am a x e).go (zsB hp) (zal ha)
 ·rw[zal (zap e hp)];exact e
 ·rw[zaf (zap e hp)];exact h
 ·obtain⟨y,e⟩:=(am a x h).has
  exact⟨y,by rw[zal (zap e hp)];exact e⟩
theorem zvN{p:Addr}{o u:MO}:Go H (put M p o) H (put M p u):=⟨fun _ _ e=>e,fun _ _ _ e=>e,fun b x n e=>⟨e,by
 have ne:b≠p:=fun z=>by rw[z,zad] at n;cases n
 rw[zaf ne] at n ⊢;exact n⟩⟩
theorem AM.tup{p:Addr}{u:HO}(am:AM K H M)(hp:H p=none):AM K (upd H p u) M∧Kp H M (upd H p u) M:=by
 refine⟨fun a x e=>?_,fun a x h e=>⟨?_,h⟩,fun a x h=>?_⟩
 ·have ne:a≠p:=fun z=>by rw[z,am.nonM hp] at e;cases e
  exact(am a x e).go (zmv hp) (zal ne)
 ·rw[zal (zap e hp)];exact e
 ·obtain⟨y,e⟩:=(am a x h).has
  exact⟨y,by rw[zal (zap e hp)];exact e⟩
theorem zos{l:Addr}{o0 o:MO}{u:HO}(am:AM K H M)(hl:M l=some o0):Go H M (upd H l u) (put M l o):=
 ⟨fun b xs e=>by rw[zal (fun z=>by rw[←z,am.noTup e] at hl;cases hl)];exact e,fun b ob x e=>by rw[zal (fun z=>by rw[←z,am.noFrz e] at hl;cases hl)];exact e,
   fun b x n e=>by
  have ne:b≠l:=fun z=>by rw[←z,n] at hl;cases hl
  rw[zal ne,zaf ne];exact⟨e,n⟩⟩
theorem AM.write{l:Addr}{o0 o:MO}{u:HO}(am:AM K H M)(hl:M l=some o0)(h:AO K (upd H l u) (put M l o) l o):AM K (upd H l u) (put M l o)∧Kp H M (upd H l u) (put M l o):=by
 refine⟨fun a x e=>?_,fun a x h e=>?_,fun a x h=>?_⟩
 ·by_cases ha:a=l
  ·subst ha;rw[zad] at e;cases e;exact h
  ·rw[zaf ha] at e
   exact(am a x e).go (zos am hl) (zal ha)
 ·have:a≠l:=fun z=>by rw[z,hl] at h;cases h
  rw[zal this,zaf this];exact⟨e,h⟩
 ·by_cases ha:a=l
  ·subst ha;exact⟨u,zar⟩
  ·obtain⟨y,e⟩:=(am a x h).has
   exact⟨y,by rw[zal ha];exact e⟩
theorem AM.lst(am:AM K H M){ws:List W}(h:M a=some (.lst ws)):∃ vs,H a=some (.lst vs)∧AVs K H M vs ws:=am a _ h
theorem AVs.newT{p:Addr}{u:HO}{vs:List V}{ws:List W}(hp:H p=none)(h:AVs K H M vs ws):AVs K (upd H p u) M vs ws:=h.go (zmv hp)
theorem AVs.newL{p:Addr}{u:HO}{o:MO}{vs:List V}{ws:List W}(hp:H p=none)(h:AVs K H M vs ws):AVs K (upd H p u) (put M p o) vs ws:=h.go (zsB hp)
theorem AVs.wr{l:Addr}{o0 o:MO}{u:HO}{vs:List V}{ws:List W}(am:AM K H M)(hl:M l=some o0)(h:AVs K H M vs ws):AVs K (upd H l u) (put M l o) vs ws:=h.go (zos am hl)
theorem AV.wr{l:Addr}{o0 o:MO}{u:HO}{v:V}{w:W}(am:AM K H M)(hl:M l=some o0)(h:AV K H M v w):AV K (upd H l u) (put M l o) v w:=h.go (zos am hl)
end
abbrev S3:=List (Option W)
abbrev K3:=W→Mm→Prop
abbrev TE3:=S3→Mm→K3→Prop
abbrev TT3:=S3→Mm→(Bool→Mm→Prop)→Prop
abbrev TA3:=S3→Mm→(List W→Mm→Prop)→Prop
abbrev R3:=W→W→Mm→K3→Prop
structure D3 where
 nx:S3→Mm→Prop
 rt:K3
 bk:S3→Mm→Prop:=fun _ _=>False
 ct:S3→Mm→Prop:=fun _ _=>False
abbrev TS3:=D3→S3→Mm→Prop
def AS(K:PySem.W.Frag)(H:Hp)(M:Mm):SV→S3→Prop:=Paired fun ov ow=>∀ w,ow=some w→∃ v,ov=some v∧AV K H M v w
section
variable {K:PySem.W.Frag}{H H':Hp}{M M':Mm}
theorem AS.kp(am:AM K H M)(k:Kp H M H' M'){σ:SV}{τ:S3}(h:AS K H M σ τ):AS K H' M' σ τ:=
 Paired.mapP h fun ov ow z w e=>by obtain⟨v,e1,r⟩:=z w e;exact⟨v,e1,r.kp am k⟩
theorem AS.sub{M':Mm}(g:Sub M' M){σ:SV}{τ:S3}(h:AS K H M σ τ):AS K H M' σ τ:=
 Paired.mapP h fun ov ow z w e=>by obtain⟨v,e1,r⟩:=z w e;exact⟨v,e1,r.sub g⟩
theorem AS.get{w:W}:∀ {σ:SV} {τ:S3} {i:Nat},AS K H M σ τ→τ[i]? = some (some w)→∃ v,σ[i]? = some (some v)∧AV K H M v w
 | _,_,_,.nil,e=>by simp at e
 | _,_,0,.cons r _,e=>by
  simp at e
  obtain⟨v,h1,h2⟩:=r w e
  exact⟨v,by rw[h1];rfl,h2⟩
 | _,_,i + 1,.cons _ t,e=>by
  obtain⟨v,h1,h2⟩:=AS.get (i:=i) t (by simpa using e)
  exact⟨v,by simpa using h1,h2⟩
theorem AS.set{v:V}{w:W}(r:AV K H M v w):∀ {σ:SV} {τ:S3} (i:Nat),AS K H M σ τ→AS K H M (σ.set i (some v)) (τ.set i (some w))
 | _,_,_,.nil=>.nil
 | _,_,0,.cons _ t=>.cons (fun x e=>⟨v,rfl,by cases e;exact r⟩) t
 | _,_,i + 1,.cons q t=>.cons q (AS.set r i t)
theorem AS.nones:∀ n:Nat,AS K H M (List.replicate n none) (List.replicate n none)
 | 0=>.nil
 | n + 1=>.cons (fun _ e=>nomatch e) (AS.nones n)
theorem AS.start{vs:List V}{ws:List W}(h:AVs K H M vs ws)(n:Nat):AS K H M (vs.map some ++ List.replicate n none) (ws.map some ++ List.replicate n none):=by
 induction vs generalizing ws with
 | nil=>cases h;exact AS.nones n
 | cons v vs ih=>
  cases h with
  | cons x r=>exact .cons (fun w e=>⟨v,rfl,by cases e;exact x⟩) (ih r)
end
def Up(K:PySem.W.Frag)(H:Hp)(M:Mm)(R:K3)(Q:VK):Prop:=∀ v H' w M',Kp H M H' M'→AM K H' M'→AV K H' M' v w→R w M'→Q v H'
def up(K:PySem.W.Frag)(t:TE3):TE:=fun σ H Q=>∃ τ M R,AS K H M σ τ∧AM K H M∧t τ M R∧Up K H M R Q
def upT(K:PySem.W.Frag)(t:TT3):TT:=fun σ H Q=>∃ (τ:S3) (M:Mm) (R:Bool→Mm→Prop),AS K H M σ τ∧AM K H M∧t τ M R∧∀ b H' M',Kp H M H' M'→AM K H' M'→R b M'→Q b H'
def upA(K:PySem.W.Frag)(t:TA3):TA:=fun σ H Q=>∃ (τ:S3) (M:Mm) (R:List W→Mm→Prop),AS K H M σ τ∧AM K H M∧t τ M R∧∀ vs H' ws M',Kp H M H' M'→AM K H' M'→AVs K H' M' vs ws→R ws M'→Q vs H'
def UpS(K:PySem.W.Frag)(H:Hp)(M:Mm)(R:S3→Mm→Prop)(Q:SV→Hp→Prop):Prop:=∀ σ' H' τ' M',Kp H M H' M'→AM K H' M'→AS K H' M' σ' τ'→R τ' M'→Q σ' H'
structure UpD(K:PySem.W.Frag)(H:Hp)(M:Mm)(D:D3)(E:Ends):Prop where
 nx:UpS K H M D.nx E.nx
 rt:Up K H M D.rt E.rt
 bk:UpS K H M D.bk E.bk
 ct:UpS K H M D.ct E.ct
def upS(K:PySem.W.Frag)(t:TS3):TS:=fun E σ H=>∃ τ M D,AS K H M σ τ∧AM K H M∧t D τ M∧UpD K H M D E
section
variable {K:PySem.W.Frag}{H H1:Hp}{M M1:Mm}
theorem Up.kp{R:K3}{Q:VK}(h:Up K H M R Q)(k:Kp H M H1 M1):Up K H1 M1 R Q:=fun v H' w M' k' am av r=>h v H' w M' (k.trans k') am av r
theorem UpS.kp{R:S3→Mm→Prop}{Q:SV→Hp→Prop}(h:UpS K H M R Q)(k:Kp H M H1 M1):UpS K H1 M1 R Q:=fun v H' w M' k' am av r=>h v H' w M' (k.trans k') am av r
theorem UpD.kp{D:D3}{E:Ends}(h:UpD K H M D E)(k:Kp H M H1 M1):UpD K H1 M1 D E:=⟨h.nx.kp k,h.rt.kp k,h.bk.kp k,h.ct.kp k⟩
theorem Up.at{R:K3}{Q:VK}(h:Up K H M R Q)(am:AM K H M){v:V}{w:W}(av:AV K H M v w)(r:R w M):Q v H:=h v H w M (Kp.refl am) am av r
end
def frz:W→Mm→K3→Prop
 | .ref p,M,R=>(∃ ws,M p=some (.lst ws)∧R (.rl ws) (del M p))∨(∃ kvs,M p=some (.dK kvs)∧R (.dk kvs) (del M p))∨(∃ kvs,M p=some (.dT kvs)∧R (.dt kvs) (del M p))∨R (.ref p) M
 | w,M,R=>R w M
theorem Up.frz{K:PySem.W.Frag}{H:Hp}{M:Mm}{R:K3}{Q:VK}(h:Up K H M R Q):Up K H M (fun w M'=>frz w M' R) Q:=fun v H' w M' k am av r=>by
 have av':=av
 cases av <;> first | exact h _ _ _ _ k am av' r | skip
 case ref p=>
  rcases r with⟨ws,e,r⟩ | ⟨kvs,e,r⟩ | ⟨kvs,e,r⟩ | r
  ·obtain⟨vs,f,q⟩:=am.lst e
   exact h _ _ _ _ (k.sub Sub.del) (am.sub Sub.del) (.rl f zfz (q.sub Sub.del)) r
  ·obtain⟨ks,f,q⟩:=am _ _ e
   exact h _ _ _ _ (k.sub Sub.del) (am.sub Sub.del) (.dk f zfz q.keys (q.vals.sub Sub.del)) r
  ·obtain⟨ks,f,q⟩:=am _ _ e
   exact h _ _ _ _ (k.sub Sub.del) (am.sub Sub.del) (.dt f zfz q.keys (q.vals.sub Sub.del)) r
  ·exact h _ _ _ _ k am (.ref p) r
theorem zty{M:Mm}{p:Addr}{ws:List W}{R:K3}(hp:M p=none)(r:R (.rl ws) M):frz (.ref p) (put M p (.lst ws)) R:=.inl ⟨ws,zad,by rw[zha hp];exact r⟩
theorem znu{M:Mm}{p:Addr}{kvs:List (Key×W)}{R:K3}(hp:M p=none)(r:R (.dk kvs) M):frz (.ref p) (put M p (.dK kvs)) R:=.inr (.inl ⟨kvs,zad,by rw[zha hp];exact r⟩)
theorem zrj{M:Mm}{p:Addr}{kvs:List (List Key×W)}{R:K3}(hp:M p=none)(r:R (.dt kvs) M):frz (.ref p) (put M p (.dT kvs)) R:=.inr (.inr (.inl ⟨kvs,zad,by rw[zha hp];exact r⟩))
def New(ws:List W)(M:Mm)(R:K3):Prop:=∀ p,M p=none→R (.ref p) (put M p (.lst ws))
def NewK(kvs:List (Key×W))(M:Mm)(R:K3):Prop:=∀ p,M p=none→R (.ref p) (put M p (.dK kvs))
def NewT(kvs:List (List Key×W))(M:Mm)(R:K3):Prop:=∀ p,M p=none→R (.ref p) (put M p (.dT kvs))
theorem New.frz{M:Mm}{ws:List W}{R:K3}(r:R (.rl ws) M):New ws M fun w M'=>L3.frz w M' R:=fun p hp=>zty hp r
theorem NewK.frz{M:Mm}{kvs:List (Key×W)}{R:K3}(r:R (.dk kvs) M):NewK kvs M fun w M'=>L3.frz w M' R:=fun p hp=>znu hp r
theorem NewT.frz{M:Mm}{kvs:List (List Key×W)}{R:K3}(r:R (.dt kvs) M):NewT kvs M fun w M'=>L3.frz w M' R:=fun p hp=>zrj hp r
def vFrz(t:TE3):TE3:=fun τ M R=>t τ M fun w M'=>frz w M' R
end L3
namespace L2
section
variable {X:Cx}
theorem PE.weak{e:PySem.Expr}{t t':TE}(h:PE X e t)(k:∀ σ H Q,t' σ H Q→t σ H Q):PE X e t':=fun pins s σ H Q I q=>h pins s σ H Q I (k σ H Q q)
theorem PT.weak{e:PySem.Expr}{t t':TT}(h:PT X e t)(k:∀ σ H Q,t' σ H Q→t σ H Q):PT X e t':=fun pins s σ H Q I q=>h pins s σ H Q I (k σ H Q q)
theorem PW.weak{e:PySem.Expr}{t t':TT}(h:PW X e t)(k:∀ σ H Q,t' σ H Q→t σ H Q):PW X e t':=fun wh pins s σ H Q I q=>h wh pins s σ H Q I (k σ H Q q)
theorem PA.weak{es:List PySem.Expr}{t t':TA}(h:PA X es t)(k:∀ σ H Q,t' σ H Q→t σ H Q):PA X es t':=fun pos pins s σ H Q I q=>h pos pins s σ H Q I (k σ H Q q)
theorem PS.weak{st:PySem.Stmt}{t t':TS}(h:PS X st t)(k:∀ D σ H,t' D σ H→t D σ H):PS X st t':=fun pins s σ H D I q=>h pins s σ H D I (k D σ H q)
theorem PSs.weak{st:List PySem.Stmt}{t t':TS}(h:PSs X st t)(k:∀ D σ H,t' D σ H→t D σ H):PSs X st t':=fun pins s σ H D I q=>h pins s σ H D I (k D σ H q)
theorem PO.weak{e:Option PySem.Expr}{t t':TO}(h:PO X e t)(k:∀ σ H Q,t' σ H Q→t σ H Q):PO X e t':=fun pins s σ H Q I q=>h pins s σ H Q I (k σ H Q q)
theorem PIfs.weak{es:List PySem.Expr}{t t':TT}(h:PIfs X es t)(k:∀ σ H Q,t' σ H Q→t σ H Q):PIfs X es t':=fun pins s σ H Q I q=>h pins s σ H Q I (k σ H Q q)
end
end L2
namespace L3
open PySem PySem.Spec PyProof.Rows L2
abbrev E3(X:Cx)(e:Expr)(t:TE3):Prop:=PE X e (up X.K t)
abbrev T3(X:Cx)(e:Expr)(t:TT3):Prop:=PT X e (upT X.K t)
abbrev W3(X:Cx)(e:Expr)(t:TT3):Prop:=PW X e (upT X.K t)
abbrev A3(X:Cx)(es:List Expr)(t:TA3):Prop:=PA X es (upA X.K t)
def upO(K:PySem.W.Frag)(r:R3):R2:=fun x y H Q=>∃ wx wy M R,AM K H M∧AV K H M x wx∧AV K H M y wy∧r wx wy M R∧Up K H M R Q
def upU(K:PySem.W.Frag)(r:W→Mm→K3→Prop):V→Hp→VK→Prop:=fun x H Q=>∃ wx M R,AM K H M∧AV K H M x wx∧r wx M R∧Up K H M R Q
def upC(K:PySem.W.Frag)(r:List W→Mm→K3→Prop):List V→Hp→VK→Prop:=fun xs H Q=>∃ ws M R,AM K H M∧AVs K H M xs ws∧r ws M R∧Up K H M R Q
def upM(K:PySem.W.Frag)(r:W→List W→Mm→K3→Prop):V→List V→Hp→VK→Prop:=fun x xs H Q=>∃ wx ws M R,AM K H M∧AV K H M x wx∧AVs K H M xs ws∧r wx ws M R∧Up K H M R Q
section
variable {X:Cx}{a b c:Expr}{ta tb tc:TE3}{pos:Pos}
def vVar(i:Nat):TE3:=fun τ M R=>∃ w,τ[i]? = some (some w)∧R w M
def vC(w:W):TE3:=fun _ M R=>R w M
theorem v(i:Nat){x:Str}{pos:Pos}(hN:X.N[i]? = some x:=by rfl)(hv:Vis X.env.scope x:=by first | exact Or.inl rfl | exact Or.inr (Or.inl rfl) | exact Or.inr (Or.inr rfl))(hd:(x == ("__debug__" : Str))=false:=by decide)
  (hcd:(x == ("__classdict__" : Str))=false:=by decide):E3 X (.Name x pos) (vVar i):=(zu8 hN hv hd hcd).weak fun σ H Q ⟨τ,M,R,as,am,⟨w,e,r⟩,k⟩=>by
 obtain⟨v,e1,av⟩:=as.get e
 exact⟨v,e1,k.at am av r⟩
theorem zaj{i j pos}:E3 X (.Constant (.int i) j pos) (vC (.int i)):=zu9.weak fun σ H Q ⟨τ,M,R,as,am,r,k⟩=>k.at am (.int i) r
theorem v_bl{b j pos}:E3 X (.Constant (.bool b) j pos) (vC (.bl b)):=zw8.weak fun σ H Q ⟨τ,M,R,as,am,r,k⟩=>k.at am (.bl b) r
theorem zvO{j pos}:E3 X (.Constant .none j pos) (vC .non):=zva.weak fun σ H Q ⟨τ,M,R,as,am,r,k⟩=>k.at am .non r
theorem zi7{x j pos}:E3 X (.Constant (.str x) j pos) (vC (.str x)):=zvb.weak fun σ H Q ⟨τ,M,R,as,am,r,k⟩=>k.at am (.str x) r
theorem zpu{x:Str}{y:V}{w:W}{u:Value}{pos:Pos}(hg:Gl X x)(hm:X.mg x=none)(hv:bootBuiltins x=some u)(r:RelV y u)(hw:∀ H M,AV X.K H M y w)(hn:x≠"__name__":=by decide)(hd:(x == ("__debug__" : Str))=false:=by decide):E3 X (.Name x pos) (vC w):=
 (zsX hg hm hv r hn hd).weak fun σ H Q ⟨τ,M,R,as,am,r,k⟩=>k.at am (hw H M) r
theorem zbT(ha:E3 X a ta):E3 X a (vFrz ta):=ha.weak fun σ H Q ⟨τ,M,R,as,am,h,k⟩=>⟨τ,M,_,as,am,h,k.frz⟩
def vOp(r:R3)(ta tb:TE3):TE3:=fun τ M R=>ta τ M fun x M1=>tb τ M1 fun y M2=>r x y M2 R
theorem znv{K:PySem.W.Frag}{r:R3}{σ:SV}{H:Hp}{Q:VK}(h:up K (vOp r ta tb) σ H Q):tOp (upO K r) (up K ta) (up K tb) σ H Q:=by
 obtain⟨τ,M,R,as,am,h,k⟩:=h
 refine⟨τ,M,_,as,am,h,fun x H1 wx M1 k1 am1 ax h1=>⟨τ,M1,_,as.kp am k1,am1,h1,fun y H2 wy M2 k2 am2 ay h2=>?_⟩⟩
 exact⟨wx,wy,M2,R,am2,ax.kp am1 k2,ay,h2,(k.kp k1).kp k2⟩
theorem v_op{op:Operator}{r:R3}(ho:OpR X (binaryOp op) (upO X.K r))(ha:E3 X a ta)(hb:E3 X b tb):E3 X (.BinOp a op b pos) (vOp r ta tb):=(zxh ho ha hb).weak fun _ _ _ h=>znv h
theorem zxx{op:CmpOp}{r:R3}(ho:OpR X (compareOp op) (upO X.K r))(ha:E3 X a ta)(hb:E3 X b tb)(hm:behindInMarks op b=false):E3 X (.Compare a [op] [b] pos) (vOp r ta tb):=(zs9 ho ha hb hm).weak fun _ _ _ h=>znv h
def za2(t:TE3):TT3:=fun τ M Q=>t τ M fun w M'=>∃ k,w=.bl k∧Q k M'
theorem AV.bl_inv{K:PySem.W.Frag}{H:Hp}{M:Mm}{v:V}{k:Bool}(h:AV K H M v (.bl k)):v=.bl k:=by cases h;rfl
theorem zxy{op:CmpOp}{r:R3}(ho:OpR X (compareOp op) (upO X.K r))(ha:E3 X a ta)(hb:E3 X b tb)(hm:behindInMarks op b=false):T3 X (.Compare a [op] [b] pos) (za2 (vOp r ta tb)):=
 (zta ho ha hb hm).weak fun σ H Q ⟨τ,M,R,as,am,h,k⟩=>znv ⟨τ,M,_,as,am,h,fun v H' w M' k' am' av ⟨c,e,r⟩=>by
  subst e
  exact⟨c,av.bl_inv,k c H' M' k' am' r⟩⟩
def vUn(r:W→Mm→K3→Prop)(ta:TE3):TE3:=fun τ M R=>ta τ M fun x M1=>r x M1 R
theorem v_un{op:UnaryOp}{r:W→Mm→K3→Prop}(ho:UnR X (unaryOp op) (upU X.K r))(ha:E3 X a ta):E3 X (.UnaryOp op a pos) (vUn r ta):=
 (zxi ho ha).weak fun σ H Q ⟨τ,M,R,as,am,h,k⟩=>⟨τ,M,_,as,am,h,fun x H1 wx M1 k1 am1 ax h1=>⟨wx,M1,R,am1,ax,h1,k.kp k1⟩⟩
def vTru:W→Mm→(Bool→Mm→Prop)→Prop
 | .non,M,Q=>Q false M
 | .bl b,M,Q=>Q b M
 | .int i,M,Q=>Q (i != 0) M
 | .str y,M,Q=>y.length≤sizeLine∧Q ((y.length:Int) != 0) M
 | .tup ws,M,Q=>Q (!ws.isEmpty) M
 | .rl ws,M,Q=>Q (!ws.isEmpty) M
 | .sc ws,M,Q=>Q (!ws.isEmpty) M
 | .dk kvs,M,Q=>Q (!kvs.isEmpty) M
 | .ref p,M,Q=>(∃ ws,M p=some (.lst ws)∧Q (!ws.isEmpty) M)∨∃ kvs,M p=some (.dK kvs)∧Q (!kvs.isEmpty) M
 | _,_,_=>False
def zeq(t:TE3):TT3:=fun τ M Q=>t τ M fun w M'=>vTru w M' Q
theorem AVs.empty{K:PySem.W.Frag}{H:Hp}{M:Mm}{vs:List V}{ws:List W}(h:AVs K H M vs ws):(!ws.isEmpty) = !vs.isEmpty:=by cases h <;> rfl
theorem zi8(ha:E3 X a ta)(he:∀ whole,isTrue a X.env whole=(do let v ←whole;standAt a.pos;holding [v] (truthy v)):=by intro _;rfl):T3 X a (zeq ta):=
 (zqW ha he).weak fun σ H Q ⟨τ,M,R,as,am,h,k⟩=>⟨τ,M,_,as,am,h,fun v H' w M' k' am' av r=>by
  cases av with
  | non=>exact⟨false,rfl,k _ _ _ k' am' r⟩
  | bl b=>exact⟨b,rfl,k _ _ _ k' am' r⟩
  | int i=>exact⟨_,rfl,k _ _ _ k' am' r⟩
  | str y=>exact⟨_,⟨r.1,rfl⟩,k _ _ _ k' am' r.2⟩
  | ty n=>exact(show False from r).elim
  | tup e q=>exact⟨_,.inr (.inl ⟨_,SqT.of e,q.empty⟩),k _ _ _ k' am' r⟩
  | rl e n q=>exact⟨_,.inl ⟨_,SqL.of e,q.empty⟩,k _ _ _ k' am' r⟩
  | sc e q=>exact⟨_,.inl ⟨_,e.sq,q.empty⟩,k _ _ _ k' am' r⟩
  | @dk a ks kvs e n ke q=>exact⟨!kvs.isEmpty,.inr (.inr ⟨_,e,by have:=zfQ ke q;cases this <;> rfl⟩),k _ _ _ k' am' r⟩
  | dt e n ke q=>exact(show False from r).elim
  | fk e ke q=>exact(show False from r).elim
  | ft e ke q=>exact(show False from r).elim
  | ref p=>
   rcases r with⟨ws,e,r⟩ | ⟨kvs,e,r⟩
   ·obtain⟨vs,e1,q⟩:=am'.lst e
    exact⟨_,.inl ⟨_,SqL.of e1,q.empty⟩,k _ _ _ k' am' r⟩
   ·obtain⟨ks,e1,q⟩:=am' _ _ e
    exact⟨!kvs.isEmpty,.inr (.inr ⟨_,e1,by cases q <;> rfl⟩),k _ _ _ k' am' r⟩⟩
def vAnd(t u:TT3):TT3:=fun τ M Q=>t τ M fun c M1=>if c=true then u τ M1 Q else Q false M1
def vOr(t u:TT3):TT3:=fun τ M Q=>t τ M fun c M1=>if c=true then Q true M1 else u τ M1 Q
def vNot(t:TT3):TT3:=fun τ M Q=>t τ M fun c M1=>Q (!c) M1
variable {tA tB':TT3}{rest:List Expr}
theorem zhB(ha:T3 X a tA):W3 X (.BoolOp .And [a] pos) tA:=zsY ha
theorem zpv(ha:T3 X a tA):W3 X (.BoolOp .Or [a] pos) tA:=zvc ha
theorem zj3(ha:T3 X a tA)(hb:W3 X (.BoolOp .And (b :: rest) pos) tB'):W3 X (.BoolOp .And (a :: b :: rest) pos) (vAnd tA tB'):=
 (zvd ha hb).weak fun σ H Q ⟨τ,M,R,as,am,h,k⟩=>⟨τ,M,_,as,am,h,fun c H1 M1 k1 am1 h1=>by
  cases c with
  | true=>exact⟨τ,M1,R,as.kp am k1,am1,h1,fun b H' M' k' am' r=>k b H' M' (k1.trans k') am' r⟩
  | false=>exact k false H1 M1 k1 am1 h1⟩
theorem t_or(ha:T3 X a tA)(hb:W3 X (.BoolOp .Or (b :: rest) pos) tB'):W3 X (.BoolOp .Or (a :: b :: rest) pos) (vOr tA tB'):=
 (zw9 ha hb).weak fun σ H Q ⟨τ,M,R,as,am,h,k⟩=>⟨τ,M,_,as,am,h,fun c H1 M1 k1 am1 h1=>by
  cases c with
  | true=>exact k true H1 M1 k1 am1 h1
  | false=>exact⟨τ,M1,R,as.kp am k1,am1,h1,fun b H' M' k' am' r=>k b H' M' (k1.trans k') am' r⟩⟩
theorem zrk(ha:T3 X a tA):T3 X (.UnaryOp .Not a pos) (vNot tA):=
 (zve ha).weak fun σ H Q ⟨τ,M,R,as,am,h,k⟩=>⟨τ,M,_,as,am,h,fun c H1 M1 k1 am1 h1=>k (!c) H1 M1 k1 am1 h1⟩
def ztz(ta tb:TE3):TE3:=fun τ M R=>ta τ M fun x M1=>∃ c,x=.bl c∧if c=true then tb τ M1 R else R (.bl false) M1
def vOrV(ta tb:TE3):TE3:=fun τ M R=>ta τ M fun x M1=>∃ c,x=.bl c∧if c=true then R (.bl true) M1 else tb τ M1 R
def zxz(ta:TE3):TE3:=fun τ M R=>ta τ M fun x M1=>∃ c,x=.bl c∧R (.bl (!c)) M1
theorem zxA{op}(h:E3 X a ta):E3 X (.BoolOp op [a] pos) ta:=zvf h
theorem zxB(ha:E3 X a ta)(hb:E3 X (.BoolOp .And (b :: rest) pos) tb):E3 X (.BoolOp .And (a :: b :: rest) pos) (ztz ta tb):=
 (zvg ha hb).weak fun σ H Q ⟨τ,M,R,as,am,h,k⟩=>⟨τ,M,_,as,am,h,fun x H1 wx M1 k1 am1 ax ⟨c,e,h1⟩=>by
  subst e
  refine⟨c,ax.bl_inv,?_⟩
  cases c with
  | true=>exact⟨τ,M1,R,as.kp am k1,am1,h1,k.kp k1⟩
  | false=>exact(k.kp k1).at am1 (.bl false) h1⟩
def vIf(t:TT3)(ta tb:TE3):TE3:=fun τ M R=>t τ M fun c M1=>if c=true then ta τ M1 R else tb τ M1 R
theorem v_if{c:Expr}(hc:T3 X c tA)(ha:E3 X a ta)(hb:E3 X b tb):E3 X (.IfExp c a b pos) (vIf tA ta tb):=
 (zqQ hc ha hb).weak fun σ H Q ⟨τ,M,R,as,am,h,k⟩=>⟨τ,M,_,as,am,h,fun c H1 M1 k1 am1 h1=>by
  cases c with
  | true=>exact⟨τ,M1,R,as.kp am k1,am1,h1,k.kp k1⟩
  | false=>exact⟨τ,M1,R,as.kp am k1,am1,h1,k.kp k1⟩⟩
def aNil:TA3:=fun _ M R=>R [] M
def zac(ta:TE3)(tr:TA3):TA3:=fun τ M R=>ta τ M fun x M1=>tr τ M1 fun xs M2=>R (x :: xs) M2
variable {e:Expr}{es:List Expr}{te:TE3}{t:TA3}
theorem zag:A3 X [] aNil:=zvx.weak fun σ H Q ⟨τ,M,R,as,am,h,k⟩=>k [] H [] M (Kp.refl am) am .nil h
theorem zaa(ha:E3 X e te)(hr:A3 X es t)(hs:starEach (e :: es) X.env=(false,eval e X.env) :: starEach es X.env:=by rfl):A3 X (e :: es) (zac te t):=
 (zte ha hr hs).weak fun σ H Q ⟨τ,M,R,as,am,h,k⟩=>⟨τ,M,_,as,am,h,fun x H1 wx M1 k1 am1 ax h1=>⟨τ,M1,_,as.kp am k1,am1,h1,fun xs H2 ws M2 k2 am2 axs h2=>
  k (x :: xs) H2 (wx :: ws) M2 (k1.trans k2) am2 (.cons (ax.kp am1 k2) axs) h2⟩⟩
def vTup(t:TA3):TE3:=fun τ M R=>t τ M fun ws M1=>ws.length≤sizeLine∧R (.tup ws) M1
def vLst(t:TA3):TE3:=fun τ M R=>t τ M fun ws M1=>ws.length≤sizeLine∧New ws M1 R
theorem laidT{K:PySem.W.Frag}{H:Hp}{M:Mm}{R:K3}{Q:VK}{p:Addr}{xs:List V}{ws:List W}(am:AM K H M)(k:Up K H M R Q)(hp:H p=none)(ax:AVs K H M xs ws)(r:R (.tup ws) M):Q (.ref p) (upd H p (.tup xs)):=by
 obtain⟨am2,k2⟩:=am.tup (u:=.tup xs) hp
 exact k _ _ _ _ k2 am2 (.tup zar (ax.newT hp)) r
theorem zeX{K:PySem.W.Frag}{H:Hp}{M:Mm}{R:K3}{Q:VK}{p:Addr}{xs:List V}{ws:List W}(am:AM K H M)(k:Up K H M R Q)(hp:H p=none)(ax:AVs K H M xs ws)(r:∀ p,M p=none→R (.ref p) (put M p (.lst ws))):Q (.ref p) (upd H p (.lst xs)):=by
 obtain⟨am2,k2⟩:=am.laid (o:=.lst ws) (u:=.lst xs) hp ⟨xs,zar,ax.newL hp⟩
 exact k _ _ _ _ k2 am2 (.ref p) (r p (am.nonM hp))
theorem zjD{K:PySem.W.Frag}{H:Hp}{M:Mm}{R:K3}{Q:VK}{l:Addr}{xs:List V}{ws ws0:List W}{y:V}{w:W}(am:AM K H M)(k:Up K H M R Q)(hl:M l=some (.lst ws0))(ax:AVs K H M xs ws)(ay:AV K H M y w)(r:R w (put M l (.lst ws))):Q y (upd H l (.lst xs)):=by
 obtain⟨am2,k2⟩:=am.write (o:=.lst ws) (u:=.lst xs) hl ⟨xs,zar,ax.wr am hl⟩
 exact k _ _ _ _ k2 am2 (ay.wr am hl) r
theorem zcb{x1}(h:A3 X es t):E3 X (.Tuple es x1 pos) (vTup t):=
 (zvy h).weak fun σ H Q ⟨τ,M,R,as,am,h,k⟩=>⟨τ,M,_,as,am,h,fun xs H1 ws M1 k1 am1 axs ⟨hl,r⟩=>⟨by rw[axs.length];exact hl,fun p hp=>laidT am1 (k.kp k1) hp axs r⟩⟩
theorem zhR(h:A3 X es t):E3 X (.List es pos) (vLst t):=
 (zst h).weak fun σ H Q ⟨τ,M,R,as,am,h,k⟩=>⟨τ,M,_,as,am,h,fun xs H1 ws M1 k1 am1 axs ⟨hl,r⟩=>⟨by rw[axs.length];exact hl,fun p hp=>zeX am1 (k.kp k1) hp axs r⟩⟩
def vCB(r:List W→Mm→K3→Prop)(t:TA3):TE3:=fun τ M R=>t τ M fun ws M1=>r ws M1 R
variable {x:Str}{p:Pos}{id T:String}{r:List W→Mm→K3→Prop}
theorem zsC{K:PySem.W.Frag}{σ:SV}{H:Hp}{Q:VK}(h:up K (vCB r t) σ H Q):tCB (upC K r) (upA K t) σ H Q:=by
 obtain⟨τ,M,R,as,am,h,k⟩:=h
 exact⟨τ,M,_,as,am,h,fun xs H1 ws M1 k1 am1 axs h1=>⟨ws,M1,R,am1,axs,h1,k.kp k1⟩⟩
theorem zaD(hc:zbx X (.builtin id) (upC X.K r))(hg:Gl X x)(hm:X.mg x=none)(hv:bootBuiltins x=some (.builtin id))(ha:A3 X (e :: es) t)(hn:x≠"__name__":=by decide)(hdb:(x == ("__debug__" : Str))=false:=by decide)
  (hs:starEach (e :: es) X.env=(false,eval e X.env) :: starEach es X.env:=by rfl) (hpl:(backTo pos (starEach es X.env)).any (·.1)=false:=by rfl):E3 X (.Call (.Name x p) (e :: es) [] pos) (vCB r t):=(zq2 hc hg hm hv ha hn hdb hs hpl).weak fun _ _ _ h=>zsC h
theorem zfA(hc:zbx X (.type T) (upC X.K r))(hg:Gl X x)(hm:X.mg x=none)(hv:bootBuiltins x=some (.type T))(ha:A3 X (e :: es) t)(hn:x≠"__name__":=by decide)(hdb:(x == ("__debug__" : Str))=false:=by decide)
  (hs:starEach (e :: es) X.env=(false,eval e X.env) :: starEach es X.env:=by rfl) (hpl:(backTo pos (starEach es X.env)).any (·.1)=false:=by rfl):E3 X (.Call (.Name x p) (e :: es) [] pos) (vCB r t):=(zpb hc hg hm hv ha hn hdb hs hpl).weak fun _ _ _ h=>zsC h
abbrev Sp3:=List W→Mm→K3→Prop
def upSp(K:PySem.W.Frag)(sp:Sp3):Sp:=fun vs H Q _=>∃ ws M R,AM K H M∧AVs K H M vs ws∧sp ws M R∧Up K H M R Q
variable {k:Nat}{f:Addr}{fd:FuncData}{ps:List Str}{sp:Sp3}
def zbf(sp:Sp3)(t:TA3):TE3:=fun τ M R=>t τ M fun ws M1=>sp ws M1 R
theorem zrl{K:PySem.W.Frag}{σ:SV}{H:Hp}{Q:VK}(h:up K (zbf sp t) σ H Q):zvz (upSp K sp) [] E0 (upA K t) σ H Q:=by
 obtain⟨τ,M,R,as,am,h,k⟩:=h
 exact⟨τ,M,_,as,am,h,fun xs H1 ws M1 k1 am1 axs h1=>⟨ws,M1,R,am1,by rw[List.append_nil];exact axs,h1,k.kp k1⟩⟩
theorem zaE(F:FnOk X.prog X.w X.K X.mg X.base CX0 k f fd ps (upSp X.K sp))(hr:Room k X.A)(hg:Gl X x)(hm:X.mg x=some (.ref f))(hk:PySem.W.keepIn X.K (.ref f)=true)(hb:zeO X.K fd ps [])
  (ha:A3 X (e :: es) t) (hdb:(x == ("__debug__" : Str))=false:=by decide) (he:starEach (e :: es) X.env=(false,eval e X.env) :: starEach es X.env:=by rfl) (hpl:(backTo pos (starEach es X.env)).any (·.1)=false:=by rfl) :
  E3 X (.Call (.Name x p) (e :: es) [] pos) (zbf sp t):=(ztg F hr hg hm hk hb .nil zpk ha hdb he hpl).weak fun _ _ _ h=>zrl h
def tyW(T:String):W→Mm→Prop
 | .str _,_=>T = "str"
 | .int _,_=>T = "int"
 | .rl _,_=>T = "list"
 | .sc _,_=>T = "list"
 | .dk _,_=>T = "dict"
 | .dt _,_=>T = "dict"
 | .fk _,_=>T = "dict"
 | .ft _,_=>T = "dict"
 | .ref p,M=>(T = "list"∧∃ ws,M p=some (.lst ws))∨(T = "dict"∧((∃ kvs,M p=some (.dK kvs))∨∃ kvs,M p=some (.dT kvs)))
 | _,_=>False
theorem zsD{K:PySem.W.Frag}{H:Hp}{M:Mm}{v:V}{w:W}(am:AM K H M)(av:AV K H M v w)(h:tyW T w M):tyV K T v H:=by
 cases av with
 | str y=>exact h
 | int i=>exact h
 | rl e n q=>exact .inl ⟨h,_,SqL.of e⟩
 | sc e q=>exact .inl ⟨h,_,e.sq⟩
 | dk e n ke q=>exact .inr (.inr (.inl ⟨h,.inl ⟨_,.inl e⟩⟩))
 | dt e n ke q=>exact .inr (.inr (.inl ⟨h,.inr ⟨_,.inl e⟩⟩))
 | ref p=>
  rcases h with⟨e,ws,h⟩ | ⟨e,h⟩
  ·obtain⟨vs,e1,_⟩:=am.lst h
   exact .inl ⟨e,vs,SqL.of e1⟩
  ·refine .inr (.inr (.inl ⟨e,?_⟩))
   rcases h with⟨kvs,h⟩ | ⟨kvs,h⟩
   ·obtain⟨ks,e1,_⟩:=am _ _ h;exact .inl ⟨ks,.inl e1⟩
   ·obtain⟨ks,e1,_⟩:=am _ _ h;exact .inr ⟨ks,.inl e1⟩
 | non=>exact h.elim
 | bl b=>exact h.elim
 | ty n=>exact h.elim
 | tup e q=>exact h.elim
 | fk e ke q=>exact .inr (.inr (.inl ⟨h,.inl ⟨_,.inr ⟨_,e⟩⟩⟩))
 | ft e ke q=>exact .inr (.inr (.inl ⟨h,.inr ⟨_,.inr ⟨_,e⟩⟩⟩))
variable {o:Expr}{to:TE3}{name:Str}{apos cpos:Pos}{rm:W→List W→Mm→K3→Prop}
def vBM0(T:String)(r:W→List W→Mm→K3→Prop)(to:TE3):TE3:=fun τ M R=>to τ M fun x M1=>tyW T x M1∧r x [] M1 R
def vBM(T:String)(r:W→List W→Mm→K3→Prop)(to:TE3)(t:TA3):TE3:=fun τ M R=>to τ M fun x M1=>tyW T x M1∧t τ M1 fun xs M2=>r x xs M2 R
theorem zrm(pa:PlainAttrs T)(slot:Slot T name id)(hty:typeOf (.builtin id)=pure (.type "method_descriptor"))(hm:MtR X id (upM X.K rm))(ho:E3 X o to)
  (hbase:attributeBase o name X.env (eval o X.env)=eval o X.env:=by rfl) (hline:(apos.endLine == cpos.line)=true:=by rfl):E3 X (.Call (.Attribute o name apos) [] [] cpos) (vBM0 T rm to):=
 (zvG pa slot hty hm ho hbase hline).weak fun σ H Q ⟨τ,M,R,as,am,h,k⟩=>⟨τ,M,_,as,am,h,fun x H1 wx M1 k1 am1 ax ⟨ty,h1⟩=>⟨zsD am1 ax ty,wx,[],M1,R,am1,ax,.nil,h1,k.kp k1⟩⟩
theorem v_bm(pa:PlainAttrs T)(slot:Slot T name id)(hty:typeOf (.builtin id)=pure (.type "method_descriptor"))(hm:MtR X id (upM X.K rm))(ho:E3 X o to)(ha:A3 X (e :: es) t)
  (hbase:attributeBase o name X.env (eval o X.env)=eval o X.env:=by rfl)
  (hfew:((backTo cpos (starEach (e :: es) X.env)).all (fun x=>!x.1) && (backToKw cpos (keywordEach [] X.env)).all (fun x=>x.1.isSome)
   && decide ((e :: es).length + ([]:List Keyword).length + (if ([]:List Keyword).isEmpty then 0 else 1) < 30))=true:=by rfl)
  (hline:(apos.endLine == cpos.line)=true:=by rfl) (hs:starEach (e :: es) X.env=(false,eval e X.env) :: starEach es X.env:=by rfl) (hplain:(backTo cpos (starEach es X.env)).any (·.1)=false:=by rfl) :
  E3 X (.Call (.Attribute o name apos) (e :: es) [] cpos) (vBM T rm to t):=
 (zxs pa slot hty hm ho ha hbase hfew hline hs hplain).weak fun σ H Q ⟨τ,M,R,as,am,h,k⟩=>⟨τ,M,_,as,am,h,fun x H1 wx M1 k1 am1 ax ⟨ty,h1⟩=>⟨zsD am1 ax ty,τ,M1,_,as.kp am k1,am1,h1,fun xs H2 ws M2 k2 am2 axs h2=>
  ⟨wx,ws,M2,R,am2,ax.kp am1 k2,axs,h2,(k.kp k1).kp k2⟩⟩⟩
end
end L3
namespace L3
open PySem PySem.Spec PyProof.Rows L2
section
variable {X:Cx}
def rAdd:R3
 | .int i,.int j,M,R=>R (.int (i + j)) M
 | .str i,.str j,M,R=>i.length + j.length≤sizeLine∧R (.str (i ++ j)) M
 | .tup xs,.tup ys,M,R=>xs≠[]∧xs.length + ys.length≤sizeLine∧R (.tup (xs ++ ys)) M
 | .ref a,.ref b,M,R=>∃ xs ys,M a=some (.lst xs)∧M b=some (.lst ys)∧xs.length + ys.length≤sizeLine∧New (xs ++ ys) M R
 | .rl xs,.ref b,M,R=>∃ ys,M b=some (.lst ys)∧xs.length + ys.length≤sizeLine∧New (xs ++ ys) M R
 | .ref a,.rl ys,M,R=>∃ xs,M a=some (.lst xs)∧xs.length + ys.length≤sizeLine∧New (xs ++ ys) M R
 | .rl xs,.rl ys,M,R=>xs.length + ys.length≤sizeLine∧New (xs ++ ys) M R
 | _,_,_,_=>False
theorem zxC:OpR X (binaryOp .Add) (upO X.K rAdd):=by
 rintro pins s σ H x y v u Q I rx ry ⟨wx,wy,M,R,am,ax,ay,h,k⟩
 cases ax <;> cases ay <;> first | exact(show False from h).elim | skip
 case int.int i j=>exact zvo pins s σ H _ _ v u Q I rx ry ⟨i,j,rfl,rfl,k.at am (.int _) h⟩
 case str.str i j=>exact zog pins s σ H _ _ v u Q I rx ry ⟨i,j,rfl,rfl,h.1,k.at am (.str _) h.2⟩
 case tup.tup a xs ws e q b ys zs e2 q2=>
  refine ztm pins s σ H _ _ v u Q I rx ry ⟨a,b,xs,ys,rfl,rfl,SqT.of e,SqT.of e2,fun z=>?_,by rw[q.length,q2.length];exact h.2.1,fun z=>?_,fun _ p hp=>?_⟩
  ·subst z;cases q;exact h.1 rfl
  ·subst z;cases q2
   have:=h.2.2
   rw[List.append_nil] at this
   exact k.at am (.tup e q) this
  ·exact laidT am k hp (q.append q2) h.2.2
 case ref.ref a b=>
  obtain⟨xs,ys,e1,e2,hl,r⟩:=h
  obtain⟨vs,f1,q1⟩:=am.lst e1
  obtain⟨us,f2,q2⟩:=am.lst e2
  exact znp pins s σ H _ _ v u Q I rx ry ⟨a,b,vs,us,rfl,rfl,f1,f2,by rw[q1.length,q2.length];exact hl,fun p hp=>zeX am k hp (q1.append q2) r⟩
 case rl.ref a vs xs f1 _ q1 b=>
  obtain⟨ys,e2,hl,r⟩:=h
  obtain⟨us,f2,q2⟩:=am.lst e2
  exact znp pins s σ H _ _ v u Q I rx ry ⟨a,b,vs,us,rfl,rfl,f1,f2,by rw[q1.length,q2.length];exact hl,fun p hp=>zeX am k hp (q1.append q2) r⟩
 case ref.rl a b us ys f2 _ q2=>
  obtain⟨xs,e1,hl,r⟩:=h
  obtain⟨vs,f1,q1⟩:=am.lst e1
  exact znp pins s σ H _ _ v u Q I rx ry ⟨a,b,vs,us,rfl,rfl,f1,f2,by rw[q1.length,q2.length];exact hl,fun p hp=>zeX am k hp (q1.append q2) r⟩
 case rl.rl a vs xs f1 _ q1 b us ys f2 _ q2=>
  exact znp pins s σ H _ _ v u Q I rx ry ⟨a,b,vs,us,rfl,rfl,f1,f2,by rw[q1.length,q2.length];exact h.1,fun p hp=>zeX am k hp (q1.append q2) h.2⟩
def rII(C:Int→Int→Prop)(g:Int→Int→W):R3
 | .int i,.int j,M,R=>C i j∧R (g i j) M
 | _,_,_,_=>False
theorem o_II{f:Value→Value→Sem Value}{C:Int→Int→Prop}{g:Int→Int→V}{g':Int→Int→W}(h0:OpR X f (rI C g))(hg:∀ H M i j,AV X.K H M (g i j) (g' i j)):OpR X f (upO X.K (rII C g')):=by
 rintro pins s σ H x y v u Q I rx ry ⟨wx,wy,M,R,am,ax,ay,h,k⟩
 cases ax <;> cases ay <;> first | exact(show False from h).elim | skip
 case int.int i j=>exact h0 pins s σ H _ _ v u Q I rx ry ⟨i,j,rfl,rfl,h.1,k.at am (hg H M i j) h.2⟩
def rII0(g:Int→Int→W):R3
 | .int i,.int j,M,R=>R (g i j) M
 | _,_,_,_=>False
theorem zvP{f:Value→Value→Sem Value}{g:Int→Int→V}{g':Int→Int→W}(h0:OpR X f (rI0 g))(hg:∀ H M i j,AV X.K H M (g i j) (g' i j)):OpR X f (upO X.K (rII0 g')):=by
 rintro pins s σ H x y v u Q I rx ry ⟨wx,wy,M,R,am,ax,ay,h,k⟩
 cases ax <;> cases ay <;> first | exact(show False from h).elim | skip
 case int.int i j=>exact h0 pins s σ H _ _ v u Q I rx ry ⟨i,j,rfl,rfl,k.at am (hg H M i j) h⟩
abbrev rSub:R3:=rII0 fun i j=>.int (i - j)
theorem zrn:OpR X (binaryOp .Sub) (upO X.K rSub):=zvP zvp fun _ _ _ _=>.int _
abbrev ztA:R3:=rII zre fun i j=>.int (i / j)
theorem zsE:OpR X (binaryOp .FloorDiv) (upO X.K ztA):=o_II zrf fun _ _ _ _=>.int _
abbrev rMod:R3:=rII (fun _ j=>0 < j) fun i j=>.int (i % j)
theorem zro:OpR X (binaryOp .Mod) (upO X.K rMod):=o_II zvr fun _ _ _ _=>.int _
abbrev rPow:R3:=rII CPow fun i j=>.int (i ^ j.toNat)
theorem zxD:OpR X (binaryOp .Pow) (upO X.K rPow):=o_II zvs fun _ _ _ _=>.int _
def rMul:R3
 | .int i,.int j,M,R=>(CMul i j∨CBig i j)∧R (.int (i * j)) M
 | .str z,.int n,M,R=>z.length≤16∧-(2 ^ 63)≤n∧n≤1048576∧R (.str (Txt.mul z n)) M
 | .ref a,.int n,M,R=>∃ xs,M a=some (.lst xs)∧-(2 ^ 63)≤n∧n < 2 ^ 63∧xs.length * n.toNat≤sizeLine∧New (List.replicate n.toNat xs).flatten M R
 | .rl xs,.int n,M,R=>-(2 ^ 63)≤n∧n < 2 ^ 63∧xs.length * n.toNat≤sizeLine∧New (List.replicate n.toNat xs).flatten M R
 | _,_,_,_=>False
theorem zxE:OpR X (binaryOp .Mult) (upO X.K rMul):=by
 rintro pins s σ H x y v u Q I rx ry ⟨wx,wy,M,R,am,ax,ay,h,k⟩
 cases ax <;> cases ay <;> first | exact(show False from h).elim | skip
 case int.int i j=>
  rcases h with⟨h | h,r⟩
  ·exact zvq pins s σ H _ _ v u Q I rx ry ⟨i,j,rfl,rfl,h,k.at am (.int _) r⟩
  ·exact ztv pins s σ H _ _ v u Q I rx ry ⟨i,j,rfl,rfl,h,k.at am (.int _) r⟩
 case str.int z n=>exact ztw pins s σ H _ _ v u Q I rx ry ⟨z,n,rfl,rfl,h.1,h.2.1,h.2.2.1,k.at am (.str _) h.2.2.2⟩
 case ref.int a n=>
  obtain⟨xs,e,h1,h2,h3,r⟩:=h
  obtain⟨vs,f,q⟩:=am.lst e
  exact zsw pins s σ H _ _ v u Q I rx ry ⟨a,n,vs,rfl,rfl,f,h1,h2,by rw[q.length];exact h3,fun p hp=>zeX am k hp (q.flatRep _) r⟩
 case rl.int a vs xs f _ q n=>
  obtain⟨h1,h2,h3,r⟩:=h
  exact zsw pins s σ H _ _ v u Q I rx ry ⟨a,n,vs,rfl,rfl,f,h1,h2,by rw[q.length];exact h3,fun p hp=>zeX am k hp (q.flatRep _) r⟩
def rNeg:W→Mm→K3→Prop
 | .int i,M,R=>R (.int (-i)) M
 | _,_,_=>False
theorem zlh:UnR X (unaryOp .USub) (upU X.K rNeg):=by
 rintro pins s σ H x v Q I rx ⟨wx,M,R,am,ax,h,k⟩
 cases ax <;> first | exact(show False from h).elim | skip
 case int i=>exact zvt pins s σ H _ v Q I rx ⟨i,rfl,k.at am (.int _) h⟩
def zj4(i j:Str):Bool:=decide (i.cps.toList < j.cps.toList)
def rLt:R3
 | .int i,.int j,M,R=>R (.bl (decide (i < j))) M
 | .str i,.str j,M,R=>R (.bl (zj4 i j)) M
 | _,_,_,_=>False
theorem o_lt:OpR X (compareOp .Lt) (upO X.K rLt):=by
 rintro pins s σ H x y v u Q I rx ry ⟨wx,wy,M,R,am,ax,ay,h,k⟩
 cases ax <;> cases ay <;> first | exact(show False from h).elim | skip
 case int.int i j=>exact zxj pins s σ H _ _ v u Q I rx ry ⟨i,j,rfl,rfl,k.at am (.bl _) h⟩
 case str.str i j=>exact zo3 pins s σ H _ _ v u Q I rx ry ⟨i,j,rfl,rfl,k.at am (.bl _) h⟩
abbrev rGt:R3:=rII0 fun i j=>.bl (decide (j < i))
theorem o_gt:OpR X (compareOp .Gt) (upO X.K rGt):=zvP zxk fun _ _ _ _=>.bl _
def isNon:W→Bool
 | .non=>true
 | _=>false
def rIs(neg:Bool):R3
 | x,.non,M,R=>R (.bl (if neg then !isNon x else isNon x)) M
 | _,_,_,_=>False
theorem AV.isNon{K:PySem.W.Frag}{H:Hp}{M:Mm}{v:V}{w:W}(h:AV K H M v w):decide (v=.non)=L3.isNon w:=by cases h <;> rfl
theorem ztB:OpR X (compareOp .IsNot) (upO X.K (rIs true)):=by
 rintro pins s σ H x y v u Q I rx ry ⟨wx,wy,M,R,am,ax,ay,h,k⟩
 cases ay <;> first | exact(show False from h).elim | skip
 exact zs8 pins s σ H _ _ v u Q I rx ry ⟨rfl,by rw[ax.isNon];exact k.at am (.bl _) h⟩
mutual
inductive Snap(M:Mm):W→PyData→Prop
 | non:Snap M .non .none
 | bl (b:Bool):Snap M (.bl b) (.bool b)
 | int (i:Int):Snap M (.int i) (.int i)
 | str (x:Str):Snap M (.str x) (.str x)
 | tup {ws:List W} {ds:List PyData}:zfJ M ws ds→Snap M (.tup ws) (.tuple ds)
 | rl {ws:List W} {ds:List PyData}:zfJ M ws ds→Snap M (.rl ws) (.list ds)
 | ref {a:Addr} {ws:List W} {ds:List PyData}:M a=some (.lst ws)→zfJ M ws ds→Snap M (.ref a) (.list ds)
inductive zfJ(M:Mm):List W→List PyData→Prop
 | nil:zfJ M [] []
 | cons {w:W} {ws:List W} {d:PyData} {ds:List PyData}:Snap M w d→zfJ M ws ds→zfJ M (w :: ws) (d :: ds)
end
section
variable {pins:List (Addr×Obj)}{σ:SV}{H:Hp}{s:Shared}{M:Mm}
mutual
theorem Snap.reads(I:Inv X pins σ H s)(am:AM X.K H M):∀ {w:W} {d:PyData} {v:V} {u:Value},Snap M w d→AV X.K H M v w→RelV v u→∃ as,Reads s.heap u d as
 | _,_,_,_,.non,av,r=>by cases av;cases r;exact⟨_,.none⟩
 | _,_,_,_,.bl b,av,r=>by cases av;cases r;exact⟨_,.bool b⟩
 | _,_,_,_,.int i,av,r=>by cases av;obtain⟨t,rfl⟩:=r;exact⟨_,.int i t⟩
 | _,_,_,_,.str x,av,r=>by cases av;obtain⟨t,rfl⟩:=r;exact⟨_,.str x t⟩
 | _,_,_,_,.tup h,av,r=>by
  cases av with
  | tup e q=>
   cases r
   obtain⟨its,rv,⟨o,e1,e2,n,e3⟩,_⟩:=I.tuple (SqT.of e)
   obtain⟨as,z⟩:=zfJ.reads I am h q rv
   exact⟨_,.tuple e1 e2 e3 (by simpa using z)⟩
 | _,_,_,_,.rl h,av,r=>by
  cases av with
  | rl e _ q=>
   cases r
   obtain⟨its,rv,pl,_⟩:=I.list (SqL.of e)
   obtain⟨o,e1,e2,n,e3⟩:=pl.isList
   obtain⟨as,z⟩:=zfJ.reads I am h q rv
   exact⟨_,.list e1 e2 e3 (by simpa using z)⟩
 | _,_,_,_,.ref e h,av,r=>by
  cases av with
  | ref a=>
   cases r
   obtain⟨vs,e0,q⟩:=am.lst e
   obtain⟨its,rv,pl,_⟩:=I.list (SqL.of e0)
   obtain⟨o,e1,e2,n,e3⟩:=pl.isList
   obtain⟨as,z⟩:=zfJ.reads I am h q rv
   exact⟨_,.list e1 e2 e3 (by simpa using z)⟩
theorem zfJ.reads(I:Inv X pins σ H s)(am:AM X.K H M):∀ {ws:List W} {ds:List PyData} {vs:List V} {us:List Value},zfJ M ws ds→AVs X.K H M vs ws→Vals vs us→∃ as,ReadsAll s.heap us ds as
 | _,_,_,_,.nil,av,r=>by cases av;cases r;exact⟨_,.nil⟩
 | _,_,_,_,.cons h t,av,r=>by
  cases av with
  | cons a b=>
   cases r with
   | cons r1 r2=>
    obtain⟨x,q1⟩:=Snap.reads I am h a r1
    obtain⟨y,q2⟩:=zfJ.reads I am t b r2
    exact⟨_,.cons q1 q2⟩
end
end
def rEqD(neg:Bool):R3:=fun x y M R=>∃ da db,Snap M x da∧Snap M y db∧Flt da∧Flt db∧R (.bl (if neg then !PyData.eqv da db else PyData.eqv da db)) M
def rEq(neg:Bool):R3
 | .int i,.int j,M,R=>R (.bl (if neg then !decide (i=j) else decide (i=j))) M
 | .str i,.str j,M,R=>R (.bl (if neg then !decide (i=j) else decide (i=j))) M
 | .bl i,.bl j,M,R=>R (.bl (if neg then !decide (i=j) else decide (i=j))) M
 | x,y,M,R=>rEqD neg x y M R
theorem dInt{i j:Int}:decide (V.int i=V.int j)=decide (i=j):=by rw[Bool.eq_iff_iff];simp
theorem dStr{i j:Str}:decide (V.str i=V.str j)=decide (i=j):=by rw[Bool.eq_iff_iff];simp
theorem dBl{i j:Bool}:decide (V.bl i=V.bl j)=decide (i=j):=by rw[Bool.eq_iff_iff];simp
theorem o_eq(hu:X.A.units + 64 < cLine):OpR X (compareOp .Eq) (upO X.K (rEq false)):=by
 rintro pins s σ H x y v u Q I rx ry ⟨wx,wy,M,R,am,ax,ay,h,k⟩
 have data:rEqD false wx wy M R→wpAny (model X.prog X.w) X.A (compareOp .Eq v u) (EP X pins σ Q) X.xe s:=fun h=>by
  obtain⟨da,db,ha,hb,fa,fb,q⟩:=h
  obtain⟨as,ra⟩:=ha.reads I am ax rx
  obtain⟨bs,rb⟩:=hb.reads I am ay ry
  exact SeqAt.compareEq_reads ra rb fa.1 fb.1 (Nat.lt_of_le_of_lt (Nat.add_le_add_left (Nat.le_trans (Nat.min_le_left _ _) (Nat.le_trans fa.2 (by decide))) _) hu) ⟨.bl _,H,I,rfl,k.at am (.bl _) q⟩
 cases ax <;> cases ay <;> first | exact data h | skip
 case int.int i j=>exact zs6 pins s σ H _ _ v u Q I rx ry ⟨rfl,by rw[dInt];exact k.at am (.bl _) h⟩
 case str.str i j=>exact zs6 pins s σ H _ _ v u Q I rx ry ⟨rfl,by rw[dStr];exact k.at am (.bl _) h⟩
 case bl.bl i j=>exact zs6 pins s σ H _ _ v u Q I rx ry ⟨rfl,by rw[dBl];exact k.at am (.bl _) h⟩
theorem o_ne(hu:X.A.units + 64 < cLine):OpR X (compareOp .NotEq) (upO X.K (rEq true)):=by
 rintro pins s σ H x y v u Q I rx ry ⟨wx,wy,M,R,am,ax,ay,h,k⟩
 have data:rEqD true wx wy M R→wpAny (model X.prog X.w) X.A (compareOp .NotEq v u) (EP X pins σ Q) X.xe s:=fun h=>by
  obtain⟨da,db,ha,hb,fa,fb,q⟩:=h
  obtain⟨as,ra⟩:=ha.reads I am ax rx
  obtain⟨bs,rb⟩:=hb.reads I am ay ry
  exact SeqAt.compareNe_reads ra rb fa.1 fb.1 (Nat.lt_of_le_of_lt (Nat.add_le_add_left (Nat.le_trans (Nat.min_le_left _ _) (Nat.le_trans fa.2 (by decide))) _) hu) ⟨.bl _,H,I,rfl,k.at am (.bl _) q⟩
 cases ax <;> cases ay <;> first | exact data h | skip
 case int.int i j=>exact zs7 pins s σ H _ _ v u Q I rx ry ⟨rfl,by rw[dInt];exact k.at am (.bl _) h⟩
 case str.str i j=>exact zs7 pins s σ H _ _ v u Q I rx ry ⟨rfl,by rw[dStr];exact k.at am (.bl _) h⟩
 case bl.bl i j=>exact zs7 pins s σ H _ _ v u Q I rx ry ⟨rfl,by rw[dBl];exact k.at am (.bl _) h⟩
def wK:Key→W
 | .inl i=>.int i
 | .inr x=>.str x
def zam{κ:Type}[DecidableEq κ](kvs:List (κ×W))(k:κ):Option W:=(kvs.find? fun kv=>decide (kv.1=k)).map (·.2)
def putW{κ:Type}[DecidableEq κ](kvs:List (κ×W))(k:κ)(v:W):List (κ×W):=
 if (kvs.any fun kv=>decide (kv.1=k))=true then kvs.map (fun kv=>if kv.1=k then(kv.1,v) else kv) else kvs ++ [(k,v)]
theorem AV.key{K:PySem.W.Frag}{H:Hp}{M:Mm}{v:V}{k:Key}(h:AV K H M v (wK k)):v=kV k:=by
 cases k <;> (cases h;rfl)
theorem AVs.keys{K:PySem.W.Frag}{H:Hp}{M:Mm}:∀ {vs:List V} {k:List Key},AVs K H M vs (k.map wK)→vs=k.map kV
 | _,[],h=>by cases h;rfl
 | _,a :: r,h=>by
  cases h with
  | cons x y=>rw[x.key,AVs.keys y];rfl
section
variable {κ:Type}[DecidableEq κ]{K:PySem.W.Frag}{H:Hp}{M:Mm}
theorem zh8{ks:List (κ×V)}{kvs:List (κ×W)}(h:PKV K H M κ ks kvs)(k:κ):(zam kvs k=none∧valV ks k=none)∨∃ v w,zam kvs k=some w∧valV ks k=some v∧AV K H M v w:=by
 induction h with
 | nil=>exact .inl ⟨rfl,rfl⟩
 | @cons p q ps qs r t ih=>
  by_cases e:p.1=k
  ·refine .inr ⟨p.2,q.2,?_,?_,r.2⟩
   ·unfold zam;rw[List.find?_cons,decide_eq_true (by rw[←r.1];exact e)];rfl
   ·exact zh6 e
  ·have e2:¬ q.1=k:=by rw[←r.1];exact e
   have l:zam (q :: qs) k=zam qs k:=by unfold zam;rw[List.find?_cons,decide_eq_false e2]
   rw[l,zh7 e]
   exact ih
theorem ztC{ks:List (κ×V)}{kvs:List (κ×W)}(h:PKV K H M κ ks kvs)(k:κ):(ks.any fun kv=>decide (kv.1=k))=(kvs.any fun kv=>decide (kv.1=k)):=by
 induction h with
 | nil=>rfl
 | cons r t ih=>rw[List.any_cons,List.any_cons,ih,r.1]
theorem ztD{ks:List (κ×V)}{kvs:List (κ×W)}{v:V}{w:W}{k:κ}(av:AV K H M v w)(h:PKV K H M κ ks kvs):PKV K H M κ (ks.map (fun kv=>if kv.1=k then(kv.1,v) else kv)) (kvs.map (fun kv=>if kv.1=k then(kv.1,w) else kv)):=by
 induction h with
 | nil=>exact .nil
 | @cons p q ps qs r t ih=>
  rw[List.map_cons,List.map_cons]
  refine .cons ?_ ih
  by_cases e:p.1=k
  ·rw[if_pos e,if_pos (by rw[←r.1];exact e)];exact⟨r.1,av⟩
  ·rw[if_neg e,if_neg (by rw[←r.1];exact e)];exact r
theorem zrp{ks:List (κ×V)}{kvs:List (κ×W)}{v:V}{w:W}{k:κ}(av:AV K H M v w)(h:PKV K H M κ ks kvs):PKV K H M κ (ks ++ [(k,v)]) (kvs ++ [(k,w)]):=by
 induction h with
 | nil=>exact .cons ⟨rfl,av⟩ .nil
 | cons r t ih=>exact .cons r ih
theorem zir{ks:List (κ×V)}{kvs:List (κ×W)}{v:V}{w:W}(h:PKV K H M κ ks kvs)(k:κ)(av:AV K H M v w):PKV K H M κ (putK ks k v) (putW kvs k w):=by
 unfold putK putW
 rw[ztC h k]
 split
 ·exact ztD av h
 ·exact zrp av h
end
def dGet(M:Mm):W→W→Option W→Prop
 | .ref a,y,o=>(∃ kvs k,M a=some (.dK kvs)∧y=wK k∧o=zam kvs k)∨∃ kvs k,M a=some (.dT kvs)∧y=.tup (k.map wK)∧o=zam kvs k
 | .dk kvs,y,o=>∃ k,y=wK k∧o=zam kvs k
 | .dt kvs,y,o=>∃ k,y=.tup (k.map wK)∧o=zam kvs k
 | .fk kvs,y,o=>∃ k,y=wK k∧o=zam kvs k
 | .ft kvs,y,o=>∃ k,y=.tup (k.map wK)∧o=zam kvs k
 | _,_,_=>False
theorem zpw{K:PySem.W.Frag}{H:Hp}{M:Mm}{a:Addr}{y:V}{k:Key}{ks:List (Key×V)}{kvs:List (Key×W)}(e1:Rd H a (.dK ks))(q:PKV K H M Key ks kvs)(ay:AV K H M y (wK k)):(zam kvs k=none∧DGet H a y none)∨∃ v w,zam kvs k=some w∧DGet H a y (some v)∧AV K H M v w:=by
 rw[ay.key]
 rcases zh8 q k with⟨l1,l2⟩ | ⟨v,w,l1,l2,av⟩
 ·exact .inl ⟨l1,by rw[←l2];exact .inl ⟨_,_,e1,rfl,rfl⟩⟩
 ·exact .inr ⟨v,w,l1,by rw[←l2];exact .inl ⟨_,_,e1,rfl,rfl⟩,av⟩
theorem zpx{K:PySem.W.Frag}{H:Hp}{M:Mm}{a:Addr}{y:V}{k:List Key}{ks:List (List Key×V)}{kvs:List (List Key×W)}(e1:Rd H a (.dT ks))(q:PKV K H M (List Key) ks kvs)(ay:AV K H M y (.tup (k.map wK))):(zam kvs k=none∧DGet H a y none)∨∃ v w,zam kvs k=some w∧DGet H a y (some v)∧AV K H M v w:=by
 cases ay with
 | tup eb qb=>
  have eb':=eb
  rw[qb.keys] at eb'
  rcases zh8 q k with⟨l1,l2⟩ | ⟨v,w,l1,l2,av⟩
  ·exact .inl ⟨l1,by rw[←l2];exact .inr ⟨_,_,_,e1,rfl,eb',rfl⟩⟩
  ·exact .inr ⟨v,w,l1,by rw[←l2];exact .inr ⟨_,_,_,e1,rfl,eb',rfl⟩,av⟩
theorem zis{K:PySem.W.Frag}{H:Hp}{M:Mm}{x y:V}{wx wy:W}{o:Option W}(am:AM K H M)(ax:AV K H M x wx)(ay:AV K H M y wy)(h:dGet M wx wy o):∃ a,x=.ref a∧((o=none∧DGet H a y none)∨∃ v w,o=some w∧DGet H a y (some v)∧AV K H M v w):=by
 cases ax <;> first | exact(show False from h).elim | skip
 case ref a=>
  rcases h with⟨kvs,k,e,rfl,rfl⟩ | ⟨kvs,k,e,rfl,rfl⟩
  ·obtain⟨ks,e1,q⟩:=am _ _ e
   exact⟨a,rfl,zpw (.inl e1) q ay⟩
  ·obtain⟨ks,e1,q⟩:=am _ _ e
   exact⟨a,rfl,zpx (.inl e1) q ay⟩
 case dk a ks kvs e _ ke q=>
  obtain⟨k,rfl,rfl⟩:=h
  exact⟨a,rfl,zpw (.inl e) (zfQ ke q) ay⟩
 case dt a ks kvs e _ ke q=>
  obtain⟨k,rfl,rfl⟩:=h
  exact⟨a,rfl,zpx (.inl e) (zfQ ke q) ay⟩
 case fk a o ks kvs e ke q=>
  obtain⟨k,rfl,rfl⟩:=h
  exact⟨a,rfl,zpw (.inr ⟨_,e⟩) (zfQ ke q) ay⟩
 case ft a o ks kvs e ke q=>
  obtain⟨k,rfl,rfl⟩:=h
  exact⟨a,rfl,zpx (.inr ⟨_,e⟩) (zfQ ke q) ay⟩
def rIx:R3
 | .tup ws,.int i,M,R=>∃ w,atI ws i=some w∧R w M
 | .rl ws,.int i,M,R=>∃ w,atI ws i=some w∧R w M
 | .sc ws,.int i,M,R=>∃ w,atI ws i=some w∧R w M
 | .dk kvs,y,M,R=>∃ w,dGet M (.dk kvs) y (some w)∧R w M
 | .dt kvs,y,M,R=>∃ w,dGet M (.dt kvs) y (some w)∧R w M
 | .fk kvs,y,M,R=>∃ w,dGet M (.fk kvs) y (some w)∧R w M
 | .ft kvs,y,M,R=>∃ w,dGet M (.ft kvs) y (some w)∧R w M
 | .str z,.int i,M,R=>z.length≤sizeLine∧∃ c,atI z.cps.toList i=some c∧R (.str ⟨#[c]⟩) M
 | .ref a,.int i,M,R=>(∃ ws w,M a=some (.lst ws)∧atI ws i=some w∧R w M)∨∃ w,dGet M (.ref a) (.int i) (some w)∧R w M
 | .ref a,y,M,R=>∃ w,dGet M (.ref a) y (some w)∧R w M
 | _,_,_,_=>False
theorem znw{K:PySem.W.Frag}{H:Hp}{M:Mm}{vs:List V}{ws:List W}{i:Int}{w:W}(q:AVs K H M vs ws)(h:atI ws i=some w):∃ v,atI vs i=some v∧AV K H M v w:=by
 unfold atI at h ⊢
 rw[q.length]
 cases e:ixN ws.length i with
 | none=>rw[e] at h;cases h
 | some j=>
  rw[e] at h
  exact q.getW (i:=j) h
theorem ztE(hu:X.A.units + 1 < cLine):IxR X (fun x y H Q=>∃ a v,x=.ref a∧DGet H a y (some v)∧Q v H):=by
 intro value slice pins s σ H x y v u Q I rx ry h hs
 obtain⟨a,z,rfl,g,q⟩:=h
 cases rx
 exact tail_any (zms I g) PySem.F.slot_dict_getitem.lookup (zpf hu I g ry fun w' s3 I3 rw'=>⟨z,H,I3,rw',q⟩) hs
theorem zxF(hu:X.A.units + 1 < cLine):IxR X (upO X.K rIx):=by
 rintro value slice pins s σ H x y v u Q I rx ry ⟨wx,wy,M,R,am,ax,ay,h,k⟩ hs
 have dict:(∃ w,dGet M wx wy (some w)∧R w M)→wpAny (model X.prog X.w) X.A (subscriptTail value slice v u) (EP X pins σ Q) X.xe s:=fun⟨w,g,r⟩=>by
  obtain⟨a,e,g⟩:=zis am ax ay g
  rcases g with⟨z,_⟩ | ⟨z,w',e',g',av⟩
  ·cases z
  ·cases e'
   exact ztE hu value slice pins s σ H x y v u Q I rx ry ⟨a,z,e,g',k.at am av r⟩ hs
 cases ax <;> first | exact(show False from h).elim | skip
 case str z=>
  cases ay <;> first | exact(show False from h).elim | skip
  case int i=>
   obtain⟨hz,c,e,r⟩:=h
   exact zvE value slice pins s σ H _ _ v u Q I rx ry ⟨z,i,c,rfl,rfl,hz,e,k.at am (.str _) r⟩ hs
 case tup a xs ws e q=>
  cases ay <;> first | exact(show False from h).elim | skip
  case int i=>
   obtain⟨w,e2,r⟩:=h
   obtain⟨z,e3,av⟩:=znw q e2
   exact zvD value slice pins s σ H _ _ v u Q I rx ry ⟨a,xs,i,z,rfl,rfl,SqT.of e,e3,k.at am av r⟩ hs
 case dk a ks kvs e n ke q=>exact dict (by cases ay <;> exact h)
 case dt a ks kvs e n ke q=>exact dict (by cases ay <;> exact h)
 case fk a o ks kvs e ke q=>exact dict (by cases ay <;> exact h)
 case ft a o ks kvs e ke q=>exact dict (by cases ay <;> exact h)
 case rl a xs ws e _ q=>
  cases ay <;> first | exact(show False from h).elim | skip
  case int i=>
   obtain⟨w,e2,r⟩:=h
   obtain⟨z,e3,av⟩:=znw q e2
   exact zmo value slice pins s σ H _ _ v u Q I rx ry ⟨a,xs,i,z,rfl,rfl,SqL.of e,e3,k.at am av r⟩ hs
 case sc a xs ws e q=>
  cases ay <;> first | exact(show False from h).elim | skip
  case int i=>
   obtain⟨w,e2,r⟩:=h
   obtain⟨z,e3,av⟩:=znw q e2
   exact zmo value slice pins s σ H _ _ v u Q I rx ry ⟨a,xs,i,z,rfl,rfl,e.sq,e3,k.at am av r⟩ hs
 case ref a=>
  cases ay <;> first | exact dict h | skip
  case int i=>
   rcases h with⟨ws,w,e,e2,r⟩ | h
   ·obtain⟨vs,f,q⟩:=am.lst e
    obtain⟨z,e3,av⟩:=znw q e2
    exact zmo value slice pins s σ H _ _ v u Q I rx ry ⟨a,vs,i,z,rfl,rfl,SqL.of f,e3,k.at am av r⟩ hs
   ·exact dict h
variable {a b:Expr}{ta tb:TE3}{pos:Pos}
theorem v_ix(hu:X.A.units + 1 < cLine)(ha:E3 X a ta)(hb:E3 X b tb)(hs:zpe b:=by exact fun _ _=>rfl):E3 X (.Subscript a b pos) (vOp rIx ta tb):=(zxq (zxF hu) ha hb hs).weak fun _ _ _ h=>znv h
def cutW(ws:List W)(lo hi:Option Int):List W:=(ws.drop (HT.sIx ws.length 0 lo)).take (HT.sIx ws.length ws.length hi - HT.sIx ws.length 0 lo)
def rSl:W→Option Int→Option Int→Mm→K3→Prop
 | .rl ws,lo,hi,M,R=>New (cutW ws lo hi) M R
 | .sc ws,lo,hi,M,R=>New (cutW ws lo hi) M R
 | .ref a,lo,hi,M,R=>∃ ws,M a=some (.lst ws)∧New (cutW ws lo hi) M R
 | .tup ws,lo,hi,M,R=>¬ (HT.sIx ws.length 0 lo=0∧HT.sIx ws.length ws.length hi=ws.length)∧R (.tup (cutW ws lo hi)) M
 | _,_,_,_,_=>False
theorem znx{K:PySem.W.Frag}{H:Hp}{M:Mm}{vs:List V}{ws:List W}{lo hi:Option Int}(q:AVs K H M vs ws):AVs K H M (cutV vs lo hi) (cutW ws lo hi):=by
 unfold cutV cutW
 rw[q.length]
 exact(q.drop _).take _
def upSl(K:PySem.W.Frag)(r:W→Option Int→Option Int→Mm→K3→Prop):V→Option Int→Option Int→Hp→VK→Prop:=fun x lo hi H Q=>∃ wx M R,AM K H M∧AV K H M x wx∧r wx lo hi M R∧Up K H M R Q
theorem zxG:SlR X (upSl X.K rSl):=by
 rintro pins s σ H x v vl vu lo hi sl Q I rx hs pl pu ⟨wx,M,R,am,ax,h,k⟩
 cases ax <;> first | exact(show False from h).elim | skip
 case tup a xs ws e q=>exact zvC pins s σ H _ v vl vu lo hi sl Q I rx hs pl pu ⟨a,xs,rfl,SqT.of e,by rw[q.length];exact h.1,fun p hp=>laidT am k hp (znx q) h.2⟩
 case sc a xs ws e q=>exact zmp pins s σ H _ v vl vu lo hi sl Q I rx hs pl pu ⟨a,xs,rfl,e.sq,fun p hp=>zeX am k hp (znx q) h⟩
 case rl a xs ws e _ q=>exact zmp pins s σ H _ v vl vu lo hi sl Q I rx hs pl pu ⟨a,xs,rfl,SqL.of e,fun p hp=>zeX am k hp (znx q) h⟩
 case ref a=>
  obtain⟨ws,e,r⟩:=h
  obtain⟨vs,f,q⟩:=am.lst e
  exact zmp pins s σ H _ v vl vu lo hi sl Q I rx hs pl pu ⟨a,vs,rfl,SqL.of f,fun p hp=>zeX am k hp (znx q) r⟩
abbrev TO3:=S3→Mm→(Option Int→Mm→Prop)→Prop
def upOp(K:PySem.W.Frag)(t:TO3):TO:=fun σ H Q=>∃ (τ:S3) (M:Mm) (R:Option Int→Mm→Prop),AS K H M σ τ∧AM K H M∧t τ M R∧∀ o H' M',Kp H M H' M'→AM K H' M'→R o M'→Q o H'
def sNo:TO3:=fun _ M Q=>Q none M
def sPt(t:TE3):TO3:=fun τ M Q=>t τ M fun x M1=>∃ i,x=.int i∧Q (some i) M1
theorem zpy:PO X none (upOp X.K sNo):=ztk.weak fun σ H Q ⟨τ,M,R,as,am,h,k⟩=>k none H M (Kp.refl am) am h
theorem zpz(h:E3 X a ta):PO X (some a) (upOp X.K (sPt ta)):=(ztl h).weak fun σ H Q ⟨τ,M,R,as,am,h,k⟩=>⟨τ,M,_,as,am,h,fun x H1 wx M1 k1 am1 ax ⟨i,e,h1⟩=>by
 subst e;cases ax;exact⟨i,rfl,k _ _ _ k1 am1 h1⟩⟩
def vSl(ta:TE3)(tl th:TO3):TE3:=fun τ M R=>ta τ M fun x M1=>tl τ M1 fun l M2=>th τ M2 fun u M3=>rSl x l u M3 R
def zby:W→Bool
 | .non=>true
 | .bl _=>true
 | .int _=>true
 | .str _=>true
 | _=>false
def eqW:W→W→Bool
 | .non,.non=>true
 | .bl a,.bl b=>a == b
 | .bl a,.int b=>(if a then 1 else 0) == b
 | .int a,.bl b=>a == (if b then 1 else 0)
 | .int a,.int b=>a == b
 | .str a,.str b=>a == b
 | _,_=>false
def inW(x:W)(ws:List W):Bool:=ws.any fun y=>eqW y x
theorem AV.flat{K:PySem.W.Frag}{H:Hp}{M:Mm}{v:V}{w:W}(h:AV K H M v w)(f:zby w=true):zi6 v=true:=by cases h <;> first | rfl | exact f
theorem AV.eq{K:PySem.W.Frag}{H:Hp}{M:Mm}{v u:V}{w z:W}(h:AV K H M v w)(h2:AV K H M u z)(f:zby w=true)(f2:zby z=true):eqV v u=eqW w z:=by
 cases h <;> cases h2 <;> first | rfl | (exact absurd f Bool.false_ne_true) | (exact absurd f2 Bool.false_ne_true)
theorem AVs.inn{K:PySem.W.Frag}{H:Hp}{M:Mm}{u:V}{z:W}(hz:AV K H M u z)(fz:zby z=true):∀ {vs:List V} {ws:List W},AVs K H M vs ws→ws.all zby=true→vs.all zi6=true∧inV u vs=inW z ws
 | _,_,.nil,_=>⟨rfl,rfl⟩
 | _,_,.cons x r,f=>by
  rw[List.all_cons,Bool.and_eq_true] at f
  obtain⟨h1,h2⟩:=AVs.inn hz fz r f.2
  refine⟨by rw[List.all_cons,x.flat f.1,h1];rfl,?_⟩
  unfold inV inW at h2 ⊢
  rw[List.any_cons,List.any_cons,h2,x.eq hz f.1 fz]
def occ(i j:Str):Bool:=!(Builtin.Str.occurrences j i 0 j.length 1).isEmpty
def rIn(neg:Bool):R3
 | .str i,.str j,M,R=>R (.bl (if neg then !occ i j else occ i j)) M
 | x,.tup ws,M,R=>zby x=true∧ws.all zby=true∧R (.bl (if neg then !inW x ws else inW x ws)) M
 | x,.rl ws,M,R=>zby x=true∧ws.all zby=true∧R (.bl (if neg then !inW x ws else inW x ws)) M
 | x,.ref a,M,R=>(∃ ws,M a=some (.lst ws)∧zby x=true∧ws.all zby=true∧R (.bl (if neg then !inW x ws else inW x ws)) M)∨∃ o,dGet M (.ref a) x o∧R (.bl (if neg then !o.isSome else o.isSome)) M
 | x,.dk kvs,M,R=>∃ o,dGet M (.dk kvs) x o∧R (.bl (if neg then !o.isSome else o.isSome)) M
 | x,.dt kvs,M,R=>∃ o,dGet M (.dt kvs) x o∧R (.bl (if neg then !o.isSome else o.isSome)) M
 | x,.fk kvs,M,R=>∃ o,dGet M (.fk kvs) x o∧R (.bl (if neg then !o.isSome else o.isSome)) M
 | x,.ft kvs,M,R=>∃ o,dGet M (.ft kvs) x o∧R (.bl (if neg then !o.isSome else o.isSome)) M
 | _,_,_,_=>False
theorem o_in(hu:X.A.units + 1 < cLine):OpR X (compareOp .In) (upO X.K (rIn false)):=by
 rintro pins s σ H x y v u Q I rx ry ⟨wx,wy,M,R,am,ax,ay,h,k⟩
 have dict:∀ {y:V} {u:Value} {wy:W},RelV y u→AV X.K H M y wy→∀ o,dGet M wy wx o→R (.bl (o.isSome)) M→wpAny (model X.prog X.w) X.A (compareOp .In v u) (EP X pins σ Q) X.xe s:=fun {y u wy} ry ay o g r=>by
  obtain⟨a,rfl,g⟩:=zis am ay ax g
  cases ry
  rcases g with⟨rfl,g'⟩ | ⟨z,w,rfl,g',av⟩
  ·exact d_in hu I g' rx fun s3 I3=>⟨.bl false,H,I3,rfl,k.at am (.bl _) r⟩
  ·exact d_in hu I g' rx fun s3 I3=>⟨.bl true,H,I3,rfl,k.at am (.bl _) r⟩
 cases ay <;> first | (cases wx <;> exact(show False from h).elim) | skip
 case str j=>
  cases ax <;> first | exact(show False from h).elim | skip
  case str i=>exact zo4 pins s σ H _ _ v u Q I rx ry ⟨i,j,rfl,rfl,k.at am (.bl _) h⟩
 case tup a xs ws e q=>
  have h:zby wx=true∧ws.all zby=true∧R (.bl (inW wx ws)) M:=by cases wx <;> exact h
  obtain⟨h1,h2⟩:=AVs.inn ax h.1 q h.2.1
  exact zim pins s σ H _ _ v u Q I rx ry ⟨a,xs,rfl,.inr (SqT.of e),ax.flat h.1,h1,by rw[h2];exact k.at am (.bl _) h.2.2⟩
 case rl a xs ws e _ q=>
  have h:zby wx=true∧ws.all zby=true∧R (.bl (inW wx ws)) M:=by cases wx <;> exact h
  obtain⟨h1,h2⟩:=AVs.inn ax h.1 q h.2.1
  exact zim pins s σ H _ _ v u Q I rx ry ⟨a,xs,rfl,.inl (SqL.of e),ax.flat h.1,h1,by rw[h2];exact k.at am (.bl _) h.2.2⟩
 case dk a ks kvs e n ke q=>
  have h:∃ o,dGet M (.dk kvs) wx o∧R (.bl (o.isSome)) M:=by cases wx <;> exact h
  obtain⟨o,g,r⟩:=h
  exact dict ry (.dk e n ke q) o g r
 case dt a ks kvs e n ke q=>
  have h:∃ o,dGet M (.dt kvs) wx o∧R (.bl (o.isSome)) M:=by cases wx <;> exact h
  obtain⟨o,g,r⟩:=h
  exact dict ry (.dt e n ke q) o g r
 case fk a ob ks kvs e ke q=>
  have h:∃ o,dGet M (.fk kvs) wx o∧R (.bl (o.isSome)) M:=by cases wx <;> exact h
  obtain⟨o,g,r⟩:=h
  exact dict ry (.fk e ke q) o g r
 case ft a ob ks kvs e ke q=>
  have h:∃ o,dGet M (.ft kvs) wx o∧R (.bl (o.isSome)) M:=by cases wx <;> exact h
  obtain⟨o,g,r⟩:=h
  exact dict ry (.ft e ke q) o g r
 case ref a=>
  have h:(∃ ws,M a=some (.lst ws)∧zby wx=true∧ws.all zby=true∧R (.bl (inW wx ws)) M)∨∃ o,dGet M (.ref a) wx o∧R (.bl o.isSome) M:=by cases wx <;> exact h
  rcases h with⟨ws,e,h⟩ | ⟨o,g,r⟩
  ·obtain⟨vs,f,q⟩:=am.lst e
   obtain⟨h1,h2⟩:=AVs.inn ax h.1 q h.2.1
   exact zim pins s σ H _ _ v u Q I rx ry ⟨a,vs,rfl,.inl (SqL.of f),ax.flat h.1,h1,by rw[h2];exact k.at am (.bl _) h.2.2⟩
  ·exact dict ry (.ref a) o g r
theorem zc3(hu:X.A.units + 1 < cLine):OpR X (compareOp .NotIn) (upO X.K (rIn true)):=by
 rintro pins s σ H x y v u Q I rx ry ⟨wx,wy,M,R,am,ax,ay,h,k⟩
 have dict:∀ {y:V} {u:Value} {wy:W},RelV y u→AV X.K H M y wy→∀ o,dGet M wy wx o→R (.bl (!o.isSome)) M→wpAny (model X.prog X.w) X.A (compareOp .NotIn v u) (EP X pins σ Q) X.xe s:=fun {y u wy} ry ay o g r=>by
  obtain⟨a,rfl,g⟩:=zis am ay ax g
  cases ry
  rcases g with⟨rfl,g'⟩ | ⟨z,w,rfl,g',av⟩
  ·exact zpg hu I g' rx fun s3 I3=>⟨.bl true,H,I3,rfl,k.at am (.bl _) r⟩
  ·exact zpg hu I g' rx fun s3 I3=>⟨.bl false,H,I3,rfl,k.at am (.bl _) r⟩
 cases ay <;> first | (cases wx <;> exact(show False from h).elim) | skip
 case str j=>
  cases ax <;> first | exact(show False from h).elim | skip
  case str i=>exact zkY pins s σ H _ _ v u Q I rx ry ⟨i,j,rfl,rfl,k.at am (.bl _) h⟩
 case tup a xs ws e q=>
  have h:zby wx=true∧ws.all zby=true∧R (.bl (!inW wx ws)) M:=by cases wx <;> exact h
  obtain⟨h1,h2⟩:=AVs.inn ax h.1 q h.2.1
  exact zeT pins s σ H _ _ v u Q I rx ry ⟨a,xs,rfl,.inr (SqT.of e),ax.flat h.1,h1,by rw[h2];exact k.at am (.bl _) h.2.2⟩
 case rl a xs ws e _ q=>
  have h:zby wx=true∧ws.all zby=true∧R (.bl (!inW wx ws)) M:=by cases wx <;> exact h
  obtain⟨h1,h2⟩:=AVs.inn ax h.1 q h.2.1
  exact zeT pins s σ H _ _ v u Q I rx ry ⟨a,xs,rfl,.inl (SqL.of e),ax.flat h.1,h1,by rw[h2];exact k.at am (.bl _) h.2.2⟩
 case dk a ks kvs e n ke q=>
  have h:∃ o,dGet M (.dk kvs) wx o∧R (.bl (!o.isSome)) M:=by cases wx <;> exact h
  obtain⟨o,g,r⟩:=h
  exact dict ry (.dk e n ke q) o g r
 case dt a ks kvs e n ke q=>
  have h:∃ o,dGet M (.dt kvs) wx o∧R (.bl (!o.isSome)) M:=by cases wx <;> exact h
  obtain⟨o,g,r⟩:=h
  exact dict ry (.dt e n ke q) o g r
 case fk a ob ks kvs e ke q=>
  have h:∃ o,dGet M (.fk kvs) wx o∧R (.bl (!o.isSome)) M:=by cases wx <;> exact h
  obtain⟨o,g,r⟩:=h
  exact dict ry (.fk e ke q) o g r
 case ft a ob ks kvs e ke q=>
  have h:∃ o,dGet M (.ft kvs) wx o∧R (.bl (!o.isSome)) M:=by cases wx <;> exact h
  obtain⟨o,g,r⟩:=h
  exact dict ry (.ft e ke q) o g r
 case ref a=>
  have h:(∃ ws,M a=some (.lst ws)∧zby wx=true∧ws.all zby=true∧R (.bl (!inW wx ws)) M)∨∃ o,dGet M (.ref a) wx o∧R (.bl (!o.isSome)) M:=by cases wx <;> exact h
  rcases h with⟨ws,e,h⟩ | ⟨o,g,r⟩
  ·obtain⟨vs,f,q⟩:=am.lst e
   obtain⟨h1,h2⟩:=AVs.inn ax h.1 q h.2.1
   exact zeT pins s σ H _ _ v u Q I rx ry ⟨a,vs,rfl,.inl (SqL.of f),ax.flat h.1,h1,by rw[h2];exact k.at am (.bl _) h.2.2⟩
  ·exact dict ry (.ref a) o g r
def rLen:List W→Mm→K3→Prop
 | [.tup ws],M,R=>R (.int ws.length) M
 | [.rl ws],M,R=>R (.int ws.length) M
 | [.sc ws],M,R=>R (.int ws.length) M
 | [.dk kvs],M,R=>R (.int kvs.length) M
 | [.str z],M,R=>z.length≤sizeLine∧R (.int z.length) M
 | [.ref a],M,R=>(∃ ws,M a=some (.lst ws)∧R (.int ws.length) M)∨∃ kvs,M a=some (.dK kvs)∧R (.int kvs.length) M
 | _,_,_=>False
theorem AVs.one{K:PySem.W.Frag}{H:Hp}{M:Mm}{vs:List V}{w:W}(h:AVs K H M vs [w]):∃ v,vs=[v]∧AV K H M v w:=by
 cases h with
 | cons x r=>cases r;exact⟨_,rfl,x⟩
theorem AVs.two{K:PySem.W.Frag}{H:Hp}{M:Mm}{vs:List V}{w z:W}(h:AVs K H M vs [w,z]):∃ v u,vs=[v,u]∧AV K H M v w∧AV K H M u z:=by
 cases h with
 | cons x r=>obtain⟨u,rfl,y⟩:=r.one;exact⟨_,_,rfl,x,y⟩
theorem zfK:zbx X (.builtin "len") (upC X.K rLen):=by
 rintro pins s σ H xs us Q I rs ⟨ws,M,R,am,axs,h,k⟩
 match ws,h with
 | [.tup ws],h=>
  obtain⟨v,rfl,av⟩:=axs.one
  cases av with
  | tup e q=>exact zds pins s σ H _ us Q I rs ⟨_,_,rfl,.inr (SqT.of e),by rw[q.length];exact k.at am (.int _) h⟩
 | [.rl ws],h=>
  obtain⟨v,rfl,av⟩:=axs.one
  cases av with
  | rl e _ q=>exact zds pins s σ H _ us Q I rs ⟨_,_,rfl,.inl (SqL.of e),by rw[q.length];exact k.at am (.int _) h⟩
 | [.sc ws],h=>
  obtain⟨v,rfl,av⟩:=axs.one
  cases av with
  | sc e q=>exact zds pins s σ H _ us Q I rs ⟨_,_,rfl,.inl e.sq,by rw[q.length];exact k.at am (.int _) h⟩
 | [.dk kvs],h=>
  obtain⟨v,rfl,av⟩:=axs.one
  cases av with
  | dk e n ke q=>exact zlc pins s σ H _ us Q I rs ⟨_,_,rfl,e,by rw[Paired.length (zfQ ke q)];exact k.at am (.int _) h⟩
 | [.str z],h=>
  obtain⟨v,rfl,av⟩:=axs.one
  cases av
  exact zk4 pins s σ H _ us Q I rs ⟨z,rfl,h.1,k.at am (.int _) h.2⟩
 | [.ref a],h=>
  obtain⟨v,rfl,av⟩:=axs.one
  cases av
  rcases h with⟨ws,e,r⟩ | ⟨kvs,e,r⟩
  ·obtain⟨vs,f,q⟩:=am.lst e
   exact zds pins s σ H _ us Q I rs ⟨_,_,rfl,.inl (SqL.of f),by rw[q.length];exact k.at am (.int _) r⟩
  ·obtain⟨ks,f,q⟩:=am _ _ e
   exact zlc pins s σ H _ us Q I rs ⟨a,ks,rfl,f,by rw[Paired.length q];exact k.at am (.int _) r⟩
def zmw:List W→Mm→K3→Prop
 | [.tup ws],M,R=>New ws M R
 | [.rl ws],M,R=>New ws M R
 | [.sc ws],M,R=>New ws M R
 | [.dk kvs],M,R=>New (kvs.map fun kv=>wK kv.1) M R
 | [.ref a],M,R=>(∃ ws,M a=some (.lst ws)∧New ws M R)∨∃ kvs,M a=some (.dK kvs)∧New (kvs.map fun kv=>wK kv.1) M R
 | _,_,_=>False
theorem zny{K:PySem.W.Frag}{H:Hp}{M:Mm}{ks:List (Key×V)}{kvs:List (Key×W)}(h:PKV K H M Key ks kvs):AVs K H M (ks.map fun kv=>kV kv.1) (kvs.map fun kv=>wK kv.1):=by
 induction h with
 | nil=>exact .nil
 | @cons p q ps qs r t ih=>
  refine .cons ?_ ih
  show AV K H M (kV p.1) (wK q.1)
  rw[r.1]
  cases q.1 with
  | inl i=>exact .int i
  | inr x=>exact .str x
theorem zsF(hc:X.calm=true):zbx X (.type "list") (upC X.K zmw):=by
 rintro pins s σ H xs us Q I rs ⟨ws,M,R,am,axs,h,k⟩
 match ws,h with
 | [.tup ws],h=>
  obtain⟨v,rfl,av⟩:=axs.one
  cases av with
  | tup e q=>exact zdt pins s σ H _ us Q I rs ⟨_,_,rfl,.inr (SqT.of e),fun p hp=>zeX am k hp q h⟩
 | [.rl ws],h=>
  obtain⟨v,rfl,av⟩:=axs.one
  cases av with
  | rl e _ q=>exact zdt pins s σ H _ us Q I rs ⟨_,_,rfl,.inl (SqL.of e),fun p hp=>zeX am k hp q h⟩
 | [.sc ws],h=>
  obtain⟨v,rfl,av⟩:=axs.one
  cases av with
  | sc e q=>exact zdt pins s σ H _ us Q I rs ⟨_,_,rfl,.inl e.sq,fun p hp=>zeX am k hp q h⟩
 | [.dk kvs],h=>
  obtain⟨v,rfl,av⟩:=axs.one
  cases av with
  | dk e n ke q=>exact zfP hc pins s σ H _ us Q I rs ⟨_,_,rfl,e,fun p hp=>zeX am k hp (zny (zfQ ke q)) h⟩
 | [.ref a],h=>
  obtain⟨v,rfl,av⟩:=axs.one
  cases av
  rcases h with⟨ws,e,r⟩ | ⟨kvs,e,r⟩
  ·obtain⟨vs,f,q⟩:=am.lst e
   exact zdt pins s σ H _ us Q I rs ⟨_,_,rfl,.inl (SqL.of f),fun p hp=>zeX am k hp q r⟩
  ·obtain⟨ks,f,q⟩:=am _ _ e
   exact zfP hc pins s σ H _ us Q I rs ⟨a,ks,rfl,f,fun p hp=>zeX am k hp (zny q) r⟩
def zli:List W→Mm→K3→Prop
 | [.tup ws],M,R=>R (.tup ws) M
 | [.rl ws],M,R=>R (.tup ws) M
 | [.ref a],M,R=>∃ ws,M a=some (.lst ws)∧R (.tup ws) M
 | _,_,_=>False
theorem ztF:zbx X (.type "tuple") (upC X.K zli):=by
 rintro pins s σ H xs us Q I rs ⟨ws,M,R,am,axs,h,k⟩
 match ws,h with
 | [.tup ws],h=>
  obtain⟨v,rfl,av⟩:=axs.one
  cases av with
  | tup e q=>exact zd1 pins s σ H _ us Q I rs ⟨_,_,rfl,.inr ⟨SqT.of e,k.at am (.tup e q) h⟩⟩
 | [.rl ws],h=>
  obtain⟨v,rfl,av⟩:=axs.one
  cases av with
  | rl e _ q=>exact zd1 pins s σ H _ us Q I rs ⟨_,_,rfl,.inl ⟨SqL.of e,fun p hp=>laidT am k hp q h⟩⟩
 | [.ref a],h=>
  obtain⟨v,rfl,av⟩:=axs.one
  cases av
  obtain⟨ws,e,r⟩:=h
  obtain⟨vs,f,q⟩:=am.lst e
  exact zd1 pins s σ H _ us Q I rs ⟨_,_,rfl,.inl ⟨SqL.of f,fun p hp=>laidT am k hp q r⟩⟩
def rMin:List W→Mm→K3→Prop
 | [.int i,.int j],M,R=>R (.int (if j < i then j else i)) M
 | _,_,_=>False
theorem zxH(hc:X.calm=true):zbx X (.builtin "min") (upC X.K rMin):=by
 rintro pins s σ H xs us Q I rs ⟨ws,M,R,am,axs,h,k⟩
 match ws,h with
 | [.int i,.int j],h=>
  obtain⟨v,u,rfl,av,au⟩:=axs.two
  cases av;cases au
  exact zo5 hc pins s σ H _ us Q I rs ⟨i,j,rfl,k.at am (.int _) h⟩
def bools(bs:List Bool):List W:=bs.map W.bl
theorem AVs.bools{K:PySem.W.Frag}{H:Hp}{M:Mm}:∀ {bs:List Bool} {vs:List V},AVs K H M vs (L3.bools bs)→vs=bs.map V.bl
 | [],_,h=>by cases h;rfl
 | b :: r,_,h=>by
  cases h with
  | cons x y=>cases x;rw[AVs.bools y];rfl
theorem AVs.ints{K:PySem.W.Frag}{H:Hp}{M:Mm}:∀ {bs:List Int} {vs:List V},AVs K H M vs (bs.map W.int)→vs=bs.map V.int
 | [],_,h=>by cases h;rfl
 | b :: r,_,h=>by
  cases h with
  | cons x y=>cases x;rw[AVs.ints y];rfl
def rAll:List W→Mm→K3→Prop
 | [.ref a],M,R=>∃ bs,M a=some (.lst (bools bs))∧R (.bl (bs.all id)) M
 | [.rl ws],M,R=>∃ bs,ws=bools bs∧R (.bl (bs.all id)) M
 | _,_,_=>False
theorem zxI(hc:X.calm=true):zbx X (.builtin "all") (upC X.K rAll):=by
 rintro pins s σ H xs us Q I rs ⟨ws,M,R,am,axs,h,k⟩
 match ws,h with
 | [.ref a],h=>
  obtain⟨v,rfl,av⟩:=axs.one
  cases av
  obtain⟨bs,e,r⟩:=h
  obtain⟨vs,f,q⟩:=am.lst e
  rw[q.bools] at f
  exact znr hc pins s σ H _ us Q I rs ⟨a,bs,rfl,SqL.of f,k.at am (.bl _) r⟩
 | [.rl ws],h=>
  obtain⟨v,rfl,av⟩:=axs.one
  obtain⟨bs,rfl,r⟩:=h
  cases av with
  | rl f _ q=>
   rw[q.bools] at f
   exact znr hc pins s σ H _ us Q I rs ⟨_,bs,rfl,SqL.of f,k.at am (.bl _) r⟩
def rApp:W→List W→Mm→K3→Prop
 | .ref l,[y],M,R=>∃ ws,M l=some (.lst ws)∧ws.length < sizeLine∧R .non (put M l (.lst (ws ++ [y])))
 | _,_,_,_=>False
theorem zcm:MtR X "list.append" (upM X.K rApp):=by
 rintro pins s σ H x xs v us Q I rx rs ⟨wx,ws,M,R,am,ax,axs,h,k⟩
 match wx,ws,h with
 | .ref l,[y],h=>
  obtain⟨z,rfl,az⟩:=axs.one
  cases ax
  obtain⟨ws,e,hl,r⟩:=h
  obtain⟨vs,f,q⟩:=am.lst e
  exact zk6 pins s σ H _ _ v us Q I rx rs ⟨l,vs,z,rfl,rfl,f,by rw[q.length];exact hl,zjD am k e (q.append (.cons az .nil)) .non r⟩
def rExt:W→List W→Mm→K3→Prop
 | .ref l,[.ref b],M,R=>∃ ws zs,M l=some (.lst ws)∧M b=some (.lst zs)∧ws.length + zs.length≤sizeLine∧R .non (put M l (.lst (ws ++ zs)))
 | .ref l,[.rl zs],M,R=>∃ ws,M l=some (.lst ws)∧ws.length + zs.length≤sizeLine∧R .non (put M l (.lst (ws ++ zs)))
 | _,_,_,_=>False
theorem zrq:MtR X "list.extend" (upM X.K rExt):=by
 rintro pins s σ H x xs v us Q I rx rs ⟨wx,ws,M,R,am,ax,axs,h,k⟩
 match wx,ws,h with
 | .ref l,[.ref b],h=>
  obtain⟨z,rfl,az⟩:=axs.one
  cases ax
  cases az
  obtain⟨ws,zs,e,e2,hl,r⟩:=h
  obtain⟨vs,f,q⟩:=am.lst e
  obtain⟨vz,f2,q2⟩:=am.lst e2
  exact zk7 pins s σ H _ _ v us Q I rx rs ⟨l,b,vs,vz,rfl,rfl,f,f2,by rw[q.length,q2.length];exact hl,zjD am k e (q.append q2) .non r⟩
 | .ref l,[.rl zs],h=>
  obtain⟨z,rfl,az⟩:=axs.one
  cases ax
  cases az with
  | rl f2 _ q2=>
   obtain⟨ws,e,hl,r⟩:=h
   obtain⟨vs,f,q⟩:=am.lst e
   exact zk7 pins s σ H _ _ v us Q I rx rs ⟨l,_,vs,_,rfl,rfl,f,f2,by rw[q.length,q2.length];exact hl,zjD am k e (q.append q2) .non r⟩
def rPop:W→List W→Mm→K3→Prop
 | .ref l,[],M,R=>∃ ws w,M l=some (.lst (ws ++ [w]))∧R w (put M l (.lst ws))
 | _,_,_,_=>False
theorem ztG:MtR X "list.pop" (upM X.K rPop):=by
 rintro pins s σ H x xs v us Q I rx rs ⟨wx,ws,M,R,am,ax,axs,h,k⟩
 match wx,ws,h with
 | .ref l,[],h=>
  cases axs
  cases ax
  obtain⟨ws,w,e,r⟩:=h
  obtain⟨vs,f,q⟩:=am.lst e
  have hl:=q.length
  rw[List.length_append,List.length_singleton] at hl
  obtain⟨z,hz,az⟩:=q.getW (i:=ws.length) (w:=w) (by simp)
  refine zvH pins s σ H _ _ v us Q I rx rs ⟨l,vs,z,rfl,rfl,f,by rw[hl];exact hz,zjD am k e ?_ az r⟩
  have:=q.dropLast
  rw[List.dropLast_concat] at this
  exact this
def zmx:TE3:=fun _ M R=>NewK [] M R
def zmy:TE3:=fun _ M R=>NewT [] M R
theorem zit:E3 X (.Dict [] [] pos) zmx:=zq9.weak fun σ H Q ⟨τ,M,R,as,am,h,k⟩ p hp=>by
 obtain⟨am2,k2⟩:=am.laid (o:=.dK []) (u:=.dK []) hp ⟨[],zar,.nil⟩
 exact k _ _ _ _ k2 am2 (.ref p) (h p (am.nonM hp))
theorem ziu:E3 X (.Dict [] [] pos) zmy:=zra.weak fun σ H Q ⟨τ,M,R,as,am,h,k⟩ p hp=>by
 obtain⟨am2,k2⟩:=am.laid (o:=.dT []) (u:=.dT []) hp ⟨[],zar,.nil⟩
 exact k _ _ _ _ k2 am2 (.ref p) (h p (am.nonM hp))
end
end L3
namespace L3
open PySem PySem.Spec PyProof.Rows L2
abbrev P3(X:Cx)(st:Stmt)(t:TS3):Prop:=PS X st (upS X.K t)
abbrev Ps3(X:Cx)(st:List Stmt)(t:TS3):Prop:=PSs X st (upS X.K t)
abbrev TG3:=W→S3→Mm→(S3→Mm→Prop)→Prop
abbrev TGs3:=List W→S3→Mm→(S3→Mm→Prop)→Prop
def upG(K:PySem.W.Frag)(g:TG3):TG:=fun v σ H Q=>∃ w τ M R,AV K H M v w∧AS K H M σ τ∧AM K H M∧g w τ M R∧UpS K H M R Q
def upGs(K:PySem.W.Frag)(g:TGs3):TGs:=fun vs σ H Q=>∃ ws τ M R,AVs K H M vs ws∧AS K H M σ τ∧AM K H M∧g ws τ M R∧UpS K H M R Q
section
variable {X:Cx}{pos:Pos}
theorem _root_.L2.PG.weak{e:Expr}{t t':TG}(h:PG X e t)(k:∀ v σ H Q,t' v σ H Q→t v σ H Q):PG X e t':=fun pins s σ H v u Q I r q=>h pins s σ H v u Q I r (k v σ H Q q)
theorem _root_.L2.PGs.weak{e:List Expr}{t t':TGs}(h:PGs X e t)(k:∀ v σ H Q,t' v σ H Q→t v σ H Q):PGs X e t':=fun pins s σ H v u Q I r q=>h pins s σ H v u Q I r (k v σ H Q q)
theorem UpS.at{K:PySem.W.Frag}{H:Hp}{M:Mm}{R:S3→Mm→Prop}{Q:SV→Hp→Prop}(h:UpS K H M R Q)(am:AM K H M){σ:SV}{τ:S3}(as:AS K H M σ τ)(r:R τ M):Q σ H:=h σ H τ M (Kp.refl am) am as r
def zaw(i:Nat):TG3:=fun w τ M R=>R (τ.set i (some w)) M
theorem zsG{i:Nat}{x:Str}(hN:X.N.Nodup)(hi:X.N[i]? = some x)(hx:Loc X.env.scope x)(hf:X.fn x=true∨X.env.scope.names.lookup x=some .local:=by first | exact .inl rfl | exact .inr rfl | assumption):PG X (.Name x pos) (upG X.K (zaw i)):=
 (zs4 hN hi hx hf).weak fun v σ H Q ⟨w,τ,M,R,av,as,am,h,k⟩=>k.at am (as.set av i) h
def wNil:TGs3:=fun ws τ M R=>ws=[]∧R τ M
def zdq(t:TG3)(u:TGs3):TGs3:=fun ws τ M R=>match ws with
 | w :: r=>t w τ M fun τ' M'=>u r τ' M' R
 | []=>False
theorem zlj:PGs X [] (upGs X.K wNil):=zs5.weak fun vs σ H Q ⟨ws,τ,M,R,av,as,am,⟨e,h⟩,k⟩=>by
 subst e;cases av;exact⟨rfl,k.at am as h⟩
theorem zbR{e:Expr}{es:List Expr}{t:TG3}{u:TGs3}(h1:PG X e (upG X.K t))(h2:PGs X es (upGs X.K u))
  (hs:(assignEach (e :: es) X.env).map (·.2)=assign e X.env :: (assignEach es X.env).map (·.2):=by rfl):PGs X (e :: es) (upGs X.K (zdq t u)):=
 (zqS h1 h2 hs).weak fun vs σ H Q ⟨ws,τ,M,R,av,as,am,h,k⟩=>by
  cases av with
  | nil=>exact(show False from h).elim
  | cons x r=>exact⟨_,_,rfl,_,τ,M,_,x,as,am,h,fun σ' H' τ' M' k' am' as' h'=>⟨_,τ',M',R,r.kp am k',as',am',h',k.kp k'⟩⟩
def wTup(n:Nat)(g:TGs3):TG3:=fun w τ M R=>match w with
 | .tup ws=>ws.length=n∧g ws τ M R
 | .rl ws=>ws.length=n∧g ws τ M R
 | .ref a=>∃ ws,M a=some (.lst ws)∧ws.length=n∧g ws τ M R
 | _=>False
theorem zlk{es:List Expr}{k:Nat}{t:TGs3}{n:Nat}(hc:X.calm=true)(h:PGs X es (upGs X.K t))
  (hn:(assignEach es X.env).length=n:=by rfl) (hst:(assignEach es X.env).findIdx? (·.1)=none:=by rfl):PG X (.Tuple es k pos) (upG X.K (wTup n t)):=by
 rintro pins s σ H v u Q I r ⟨w,τ,M,R,av,as,am,hw,kk⟩
 cases av <;> first | exact(show False from hw).elim | skip
 case tup a xs ws e q=>
  exact zvi hc h hn hst pins s σ H _ u Q I r ⟨a,xs,rfl,SqT.of e,by rw[q.length];exact hw.1,_,τ,M,R,q,as,am,hw.2,kk⟩
 case rl a vs ws f _ q=>
  exact zsz hc h hn hst pins s σ H _ u Q I r ⟨a,vs,rfl,SqL.of f,by rw[q.length];exact hw.1,_,τ,M,R,q,as,am,hw.2,kk⟩
 case ref a=>
  obtain⟨ws,e,hl,hw⟩:=hw
  obtain⟨vs,f,q⟩:=am.lst e
  exact zsz hc h hn hst pins s σ H _ u Q I r ⟨a,vs,rfl,SqL.of f,by rw[q.length];exact hl,_,τ,M,R,q,as,am,hw,kk⟩
def vAsg(te:TE3)(g:TG3):TS3:=fun D τ M=>te τ M fun x M1=>g x τ M1 D.nx
theorem ztH{K:PySem.W.Frag}{te:TE3}{g:TG3}{D:Ends}{σ:SV}{H:Hp}(h:upS K (vAsg te g) D σ H):tAsg (up K te) (upG K g) D σ H:=by
 obtain⟨τ,M,D',as,am,h,k⟩:=h
 exact⟨τ,M,_,as,am,h,fun x H1 wx M1 k1 am1 ax h1=>⟨wx,τ,M1,D'.nx,ax,as.kp am k1,am1,h1,k.nx.kp k1⟩⟩
theorem zi9{tg e:Expr}{te:TE3}{g:TG3}(he:E3 X e te)(hg:PG X tg (upG X.K g))(hs:swapsWithSole [tg] e pos.line X.env=pure false:=by rfl)(hw:swappedStores [tg] e X.env=pure none:=by rfl)
  (h1:(assignEach [tg] X.env).map (·.2)=[assign tg X.env]:=by rfl):P3 X (.Assign [tg] e pos) (vAsg te g):=(zvk he hg hs hw h1).weak fun _ _ _ h=>ztH h
def vSet(i:Nat)(te:TE3):TS3:=fun D τ M=>te τ M fun x M1=>D.nx (τ.set i (some x)) M1
theorem zxJ{i:Nat}{x:Str}{e:Expr}{te:TE3}{pos':Pos}(hN:X.N.Nodup)(hi:X.N[i]? = some x)(hx:Loc X.env.scope x)(he:E3 X e te)(hs:swapsWith e (some (.Name x pos')) pos.line X.env=pure false:=by rfl)(hf:X.fn x=true∨X.env.scope.names.lookup x=some .local:=by first | exact .inl rfl | exact .inr rfl | assumption) :
  P3 X (.Assign [.Name x pos'] e pos) (vSet i te):=(zvl hN hi hx he hs hf).weak fun D σ H ⟨τ,M,D',as,am,h,k⟩=>⟨τ,M,_,as,am,h,fun y H1 wy M1 k1 am1 ay h1=>k.nx _ _ _ _ k1 am1 ((as.kp am k1).set ay i) h1⟩
def zll(o i v:W)(M:Mm)(Q:Mm→Prop):Prop:=match o with
 | .ref a=>(∃ ws k j,i=.int k∧M a=some (.lst ws)∧ixN ws.length k=some j∧Q (put M a (.lst (ws.set j v))))∨
   (∃ kvs k,i=wK k∧M a=some (.dK kvs)∧kvs.length < sizeLine∧Q (put M a (.dK (putW kvs k v))))∨
   ∃ kvs k,i=.tup (k.map wK)∧M a=some (.dT kvs)∧kvs.length < sizeLine∧Q (put M a (.dT (putW kvs k v)))
 | _=>False
def zxK(K:PySem.W.Frag):TSet:=fun o i v H Q=>∃ wo wi wv M R,AV K H M o wo∧AV K H M i wi∧AV K H M v wv∧AM K H M∧zll wo wi wv M R∧∀ H' M',Kp H M H' M'→AM K H' M'→R M'→Q H'
theorem znz(hu:X.A.units + 1 < cLine):PSet X (fun o i v H Q=>∃ a H',o=.ref a∧DPut H a i v H'∧Q H'):=by
 intro pins s σ H o i v ov iv u Q I ro ri rv h
 obtain⟨a,H',rfl,d,q⟩:=h
 cases ro
 exact zph hu I d ri rv fun s4 I4=>⟨H',I4,q⟩
theorem zvQ(hu:X.A.units + 1 < cLine):PSet X (zxK X.K):=by
 rintro pins s σ H o i v ov iv u Q I ro ri rv ⟨wo,wi,wv,M,R,ao,ai,av,am,h,k⟩
 cases ao <;> first | exact(show False from h).elim | skip
 case ref a=>
  rcases h with⟨ws,n,j,rfl,e,hj,r⟩ | ⟨kvs,n,rfl,e,hl,r⟩ | ⟨kvs,n,rfl,e,hl,r⟩
  ·cases ai
   obtain⟨vs,f,q⟩:=am.lst e
   obtain⟨am2,k2⟩:=am.write (o:=.lst (ws.set j wv)) (u:=.lst (vs.set j v)) e ⟨_,zar,(AVs.set av j q).wr am e⟩
   exact zq5 pins s σ H _ _ v ov iv u Q I ro ri rv ⟨a,vs,n,j,rfl,rfl,f,by rw[q.length];exact hj,k _ _ k2 am2 r⟩
  ·obtain⟨ks,f,q⟩:=am _ _ e
   rw[ai.key] at ri
   have z:AO X.K (upd H a (.dK (putK ks n v))) (put M a (.dK (putW kvs n wv))) a (.dK (putW kvs n wv)):=⟨_,zar,Paired.mapP (zir q n av) fun p q z=>⟨z.1,z.2.wr am e⟩⟩
   obtain⟨am2,k2⟩:=am.write e z
   exact znz hu pins s σ H _ _ v ov iv u Q I ro ri rv ⟨a,_,rfl,DPut.k f (by rw[Paired.length q];exact hl),k _ _ k2 am2 r⟩
  ·obtain⟨ks,f,q⟩:=am _ _ e
   cases ai with
   | tup eb qb=>
    have eb':=eb
    rw[qb.keys] at eb'
    have z:AO X.K (upd H a (.dT (putK ks n v))) (put M a (.dT (putW kvs n wv))) a (.dT (putW kvs n wv)):=⟨_,zar,Paired.mapP (zir q n av) fun p q z=>⟨z.1,z.2.wr am e⟩⟩
    obtain⟨am2,k2⟩:=am.write e z
    exact znz hu pins s σ H _ _ v ov iv u Q I ro ri rv ⟨a,_,rfl,DPut.t f eb' (by rw[Paired.length q];exact hl),k _ _ k2 am2 r⟩
def wSub(to ti:TE3):TG3:=fun w τ M R=>to τ M fun o M1=>ti τ M1 fun i M2=>zll o i w M2 fun M3=>R τ M3
theorem zja{o i:Expr}{to ti:TE3}(hu:X.A.units + 1 < cLine)(ho:E3 X o to)(hi:E3 X i ti)
  (ha:∀ v,assign (.Subscript o i pos) X.env v=(do
   let ov ←holding [v] (eval o X.env)
   let iv ←holding [v,ov] (eval i X.env)
   standAt pos
   holding [v,ov,iv] (setItem ov iv v)
   release [v,ov,iv] []):=by intro _;rfl):PG X (.Subscript o i pos) (upG X.K (wSub to ti)):=
 (zvj ho hi (zvQ hu) ha).weak fun v σ H Q ⟨w,τ,M,R,av,as,am,h,k⟩=>⟨τ,M,_,as,am,h,fun o H1 wo M1 k1 am1 ao h1=>⟨τ,M1,_,as.kp am k1,am1,h1,fun i H2 wi M2 k2 am2 ai h2=>
  ⟨wo,wi,w,M2,_,ao.kp am1 k2,ai,(av.kp am k1).kp am1 k2,am2,h2,fun H' M' k' am' r=>k _ _ _ _ ((k1.trans k2).trans k') am' (((as.kp am k1).kp am1 k2).kp am2 k') r⟩⟩⟩
def zc4:TS3:=fun D τ M=>D.nx τ M
def vSeq(t u:TS3):TS3:=fun D τ M=>t {D with nx:=u D} τ M
variable {st:Stmt}{rest:List Stmt}{t u:TS3}{e:Expr}{te:TE3}
theorem zbD:Ps3 X [] zc4:=zsZ.weak fun D σ H ⟨τ,M,D',as,am,h,k⟩=>k.nx.at am as h
theorem zae(h1:P3 X st t)(h2:Ps3 X rest u):Ps3 X (st :: rest) (vSeq t u):=(zqR h1 h2).weak fun D σ H ⟨τ,M,D',as,am,h,k⟩=>
 ⟨τ,M,_,as,am,h,⟨fun σ' H' τ' M' k' am' as' h'=>⟨τ',M',D',as',am',h',k.kp k'⟩,k.rt,k.bk,k.ct⟩⟩
theorem zah(h1:P3 X st t):Ps3 X [st] t:=zs0 h1
def zcL(te:TE3):TS3:=fun D τ M=>te τ M fun _ M1=>D.nx τ M1
theorem zbm(he:E3 X e te)(hs:swapsWith e none pos.line X.env=pure false:=by rfl):P3 X (.Expr e pos) (zcL te):=(zs1 he hs).weak fun D σ H ⟨τ,M,D',as,am,h,k⟩=>
 ⟨τ,M,_,as,am,h,fun v H' w M' k' am' av r=>k.nx _ _ _ _ k' am' (as.kp am k') r⟩
def vRet(te:TE3):TS3:=fun D τ M=>te τ M D.rt
theorem zch(he:E3 X e te):P3 X (.Return (some e) pos) (vRet te):=(zvh he).weak fun D σ H ⟨τ,M,D',as,am,h,k⟩=>⟨τ,M,_,as,am,h,k.rt⟩
def ztI:TS3:=fun D _ M=>D.rt .non M
theorem zsH:P3 X (.Return none pos) ztI:=zs2.weak fun D σ H ⟨τ,M,D',as,am,h,k⟩=>k.rt.at am .non h
def vIfS(c:TT3)(t u:TS3):TS3:=fun D τ M=>c τ M fun b M1=>if b=true then t D τ M1 else u D τ M1
theorem s_if{c:Expr}{a b:List Stmt}{tc:TT3}(hc:T3 X c tc)(ha:Ps3 X a t)(hb:Ps3 X b u):P3 X (.If c a b pos) (vIfS tc t u):=(zxe hc ha hb).weak fun D σ H ⟨τ,M,D',as,am,h,k⟩=>
 ⟨τ,M,_,as,am,h,fun b H1 M1 k1 am1 h1=>by
  cases b with
  | true=>exact⟨τ,M1,D',as.kp am k1,am1,h1,k.kp k1⟩
  | false=>exact⟨τ,M1,D',as.kp am k1,am1,h1,k.kp k1⟩⟩
def zgy(c:TT3)(tb:TS3):TS3:=fun D τ M=>∃ Pv:Nat→S3→Mm→Prop,(∃ m,Pv m τ M)∧∀ m τ M,Pv m τ M→
 c τ M fun b M1=>if b=true then tb {D with nx:=fun τ' M'=>∃ m' M'',m' < m∧Sub M'' M'∧Pv m' τ' M'',ct:=fun τ' M'=>∃ m' M'',m' < m∧Sub M'' M'∧Pv m' τ' M'',bk:=D.nx} τ M1 else D.nx τ M1
theorem zj5{c:Expr}{body:List Stmt}{tc:TT3}{tb:TS3}(hp:PassesOwn (model X.prog X.w) X.A X.env X.xe)(hc:T3 X c tc)(hb:Ps3 X body tb):P3 X (.While c body [] pos) (zgy tc tb):=
 (zqT hp hc hb).weak fun D σ H ⟨τ,M,D',as,am,⟨Pv,⟨m,h0⟩,h⟩,k⟩=>by
  refine⟨fun m σ' H'=>∃ τ' M',Kp H M H' M'∧AM X.K H' M'∧AS X.K H' M' σ' τ'∧Pv m τ' M',⟨m,τ,M,Kp.refl am,am,as,h0⟩,?_⟩
  rintro m σ1 H1 ⟨τ1,M1,k1,am1,as1,p1⟩
  refine⟨τ1,M1,_,as1,am1,h m τ1 M1 p1,fun b H2 M2 k2 am2 h2=>?_⟩
  cases b with
  | false=>exact k.nx _ _ _ _ (k1.trans k2) am2 (as1.kp am1 k2) h2
  | true=>
   have h2:tb {D' with nx:=fun τ' M'=>∃ m' M'',m' < m∧Sub M'' M'∧Pv m' τ' M'',ct:=fun τ' M'=>∃ m' M'',m' < m∧Sub M'' M'∧Pv m' τ' M'',bk:=D'.nx} τ1 M2:=h2
   refine⟨fun σ' H'=>∃ m' τ' M',m' < m∧Kp H M H' M'∧AM X.K H' M'∧AS X.K H' M' σ' τ'∧Pv m' τ' M',fun σ' H' ⟨m',τ',M',q1,q2,q3,q4,q5⟩=>⟨m',q1,τ',M',q2,q3,q4,q5⟩,τ1,M2,_,as1.kp am1 k2,am2,h2,?_⟩
   have again:UpS X.K H2 M2 (fun τ' M'=>∃ m' M'',m' < m∧Sub M'' M'∧Pv m' τ' M'') (fun σ' H'=>∃ m' τ' M',m' < m∧Kp H M H' M'∧AM X.K H' M'∧AS X.K H' M' σ' τ'∧Pv m' τ' M'):=
    fun σ' H' τ' M' k' am' as' ⟨m',M'',q1,q2,q3⟩=>⟨m',τ',M'',q1,((k1.trans k2).trans k').sub q2,am'.sub q2,as'.sub q2,q3⟩
   exact⟨again,(k.rt.kp k1).kp k2,(k.nx.kp k1).kp k2,again⟩
abbrev TI3:=S3→Mm→(List W→(Mm→Prop)→Mm→Prop)→Prop
structure ItOk(K:PySem.W.Frag)(H0:Hp)(M0:Mm)(J:It)(ws:List W)(keep:Mm→Prop):Prop where
 go:∀ i H M,Kp H0 M0 H M→AM K H M→keep M→i < ws.length→J.go i H
 stop:∀ H M,Kp H0 M0 H M→AM K H M→keep M→J.stop ws.length H
 yld:∀ i H M x H',Kp H0 M0 H M→AM K H M→keep M→i < ws.length→J.yld i H x H'→∃ w,ws[i]? = some w∧Kp H M H' M∧AM K H' M∧AV K H' M x w
def upI(K:PySem.W.Frag)(wi:TI3):TI:=fun σ H R'=>∃ (τ:S3) (M:Mm) (R:List W→(Mm→Prop)→Mm→Prop),AS K H M σ τ∧AM K H M∧wi τ M R∧∀ J H' ws keep M',Kp H M H' M'→AM K H' M'→ItOk K H' M' J ws keep→R ws keep M'→R' J H'
theorem _root_.L2.PI.weak{tg iter:Expr}{t t':TI}(h:PI X tg iter t)(k:∀ σ H R,t' σ H R→t σ H R):PI X tg iter t':=fun pins s σ H R I q=>h pins s σ H R I (k σ H R q)
def zvR(ws:List W)(keep:Mm→Prop)(g:TG3)(tb:TS3)(D:D3)(τ:S3)(M:Mm):Prop:=
 ∃ Pv:Nat→S3→Mm→Prop,Pv 0 τ M∧(∀ i τ M,i≤ws.length→Pv i τ M→keep M)∧
  (∀ i w τ M,ws[i]? = some w→Pv i τ M→g w τ M fun τ2 M2=>tb {D with nx:=fun τ' M'=>∃ M'',Sub M'' M'∧Pv (i + 1) τ' M'',ct:=fun τ' M'=>∃ M'',Sub M'' M'∧Pv (i + 1) τ' M'',bk:=D.nx} τ2 M2)∧
  ∀ τ M,Pv ws.length τ M→D.nx τ M
def vFor(wi:TI3)(g:TG3)(tb:TS3):TS3:=fun D τ M=>wi τ M fun ws keep M1=>zvR ws keep g tb D τ M1
theorem zdI{tg iter:Expr}{body:List Stmt}{wi:TI3}{g:TG3}{tb:TS3}{pos:Pos}(hp:PassesOwn (model X.prog X.w) X.A X.env X.xe)(hc:X.calm=true)(hi:PI X tg iter (upI X.K wi))(hg:PG X tg (upG X.K g))(hb:Ps3 X body tb)
  (hs:∀ x,foldedSetIterable iter X.env x=pure x:=by intro _;rfl):P3 X (.For tg iter body [] pos) (vFor wi g tb):=
 (zvn hp hc hi hg hb hs).weak fun D σ H ⟨τ,M,D',as,am,h,k⟩=>by
  refine⟨τ,M,_,as,am,h,fun J H1 ws keep M1 k1 am1 it ⟨Pv,h0,hk,hs,hd⟩=>?_⟩
  refine⟨fun i m σ' H'=>m=ws.length - i∧i≤ws.length∧∃ τ' M',Kp H1 M1 H' M'∧AM X.K H' M'∧AS X.K H' M' σ' τ'∧Pv i τ' M',⟨_,rfl,Nat.zero_le _,τ,M1,Kp.refl am1,am1,as.kp am k1,h0⟩,?_⟩
  rintro i m σ2 H2 ⟨rfl,hi,τ2,M2,k2,am2,as2,p2⟩
  by_cases hlt:i < ws.length
  ·refine .inr ⟨it.go i H2 M2 k2 am2 (hk i τ2 M2 hi p2) hlt,fun σ' H'=>∃ τ' M',Kp H1 M1 H' M'∧AM X.K H' M'∧AS X.K H' M' σ' τ'∧Pv (i + 1) τ' M',fun σ' H' q=>⟨ws.length - (i + 1),by omega,rfl,hlt,q⟩,fun x H3 y=>?_⟩
   obtain⟨w,hw,k3,am3,ax⟩:=it.yld i H2 M2 x H3 k2 am2 (hk i τ2 M2 hi p2) hlt y
   refine⟨w,τ2,M2,_,ax,as2.kp am2 k3,am3,hs i w τ2 M2 hw p2,fun σ4 H4 τ4 M4 k4 am4 as4 h4=>⟨τ4,M4,_,as4,am4,h4,?_⟩⟩
   have kk:=((k2.trans k3).trans k4)
   have again:UpS X.K H4 M4 (fun τ' M'=>∃ M'',Sub M'' M'∧Pv (i + 1) τ' M'') (fun σ' H'=>∃ τ' M',Kp H1 M1 H' M'∧AM X.K H' M'∧AS X.K H' M' σ' τ'∧Pv (i + 1) τ' M'):=
    fun σ' H' τ' M' k' am' as' ⟨M'',q2,q3⟩=>⟨τ',M'',(kk.trans k').sub q2,am'.sub q2,as'.sub q2,q3⟩
   exact⟨again,k.rt.kp (k1.trans kk),k.nx.kp (k1.trans kk),again⟩
  ·have e:i=ws.length:=by omega
   subst e
   exact .inl ⟨it.stop H2 M2 k2 am2 (hk _ τ2 M2 hi p2),k.nx _ _ _ _ (k1.trans k2) am2 as2 (hd τ2 M2 p2)⟩
theorem for3{ws:List W}{keep:Mm→Prop}{g:TG3}{tb:TS3}{D:D3}{τ:S3}{M:Mm}(Pv:Nat→S3→Mm→Prop)(h0:Pv 0 τ M)(hk:∀ i τ M,i≤ws.length→Pv i τ M→keep M)
  (hs:∀ i w τ M,ws[i]? = some w→Pv i τ M→g w τ M fun τ2 M2=>tb {D with nx:=fun τ' M'=>∃ M'',Sub M'' M'∧Pv (i + 1) τ' M'',ct:=fun τ' M'=>∃ M'',Sub M'' M'∧Pv (i + 1) τ' M'',bk:=D.nx} τ2 M2)
  (hd:∀ τ M,Pv ws.length τ M→D.nx τ M):zvR ws keep g tb D τ M:=⟨Pv,h0,hk,hs,hd⟩
variable {tg l a b:Expr}{tl ta tb':TE3}
theorem zpA{K:PySem.W.Frag}{H0:Hp}{M0:Mm}{p:Addr}{ws:List W}:ItOk K H0 M0 (Itl K p) ws fun M=>M p=some (.lst ws) where
 go:=fun i H M _ am e hi=>by
  obtain⟨vs,f,q⟩:=am.lst e
  exact⟨vs,vs[i]'(by rw[q.length];exact hi),SqL.of f,by simp⟩
 stop:=fun H M _ am e=>by
  obtain⟨vs,f,q⟩:=am.lst e
  exact⟨vs,SqL.of f,by rw[q.length];exact Nat.le_refl _⟩
 yld:=fun i H M x H' _ am e hi y=>by
  obtain⟨rfl,y⟩:=y
  obtain⟨vs,f,q⟩:=am.lst e
  obtain⟨w,hw,av⟩:=q.getV (y vs (SqL.of f))
  exact⟨w,hw,Kp.refl am,am,av⟩
theorem zvS{K:PySem.W.Frag}{H0:Hp}{M0:Mm}{p:Addr}{vs:List V}{ws:List W}(am0:AM K H0 M0)(st:∀ H M,Kp H0 M0 H M→SqL K H p vs)(q0:AVs K H0 M0 vs ws):ItOk K H0 M0 (Itl K p) ws fun _=>True:=by
 refine⟨fun i H M k am _ hi=>⟨vs,vs[i]'(by rw[q0.length];exact hi),st H M k,by simp⟩,fun H M k am _=>⟨vs,st H M k,by rw[q0.length];exact Nat.le_refl _⟩,fun i H M x H' k am _ hi y=>?_⟩
 obtain⟨rfl,y⟩:=y
 obtain⟨w,hw,av⟩:=(q0.kp am0 k).getV (y vs (st _ M k))
 exact⟨w,hw,Kp.refl am,am,av⟩
theorem zvT{K:PySem.W.Frag}{H0:Hp}{M0:Mm}{p:Addr}{vs:List V}{ws:List W}(am0:AM K H0 M0)(e:SqR K H0 p vs)(q0:AVs K H0 M0 vs ws):ItOk K H0 M0 (Itl K p) ws fun _=>True:=
 zvS am0 (fun H M k=>by
  refine SqR.sq ?_
  rcases e with⟨o,e⟩ | e
  ·exact .inl ⟨o,(k.fr _ _ (am0.noFrz e) e).1⟩
  ·exact .inr e) q0
theorem zvU{K:PySem.W.Frag}{H0:Hp}{M0:Mm}{p:Addr}{vs:List V}{ws:List W}(am0:AM K H0 M0)(e:H0 p=some (.lst vs))(n:M0 p=none)(q0:AVs K H0 M0 vs ws):ItOk K H0 M0 (Itl K p) ws fun _=>True:=
 zvS am0 (fun H M k=>SqL.of (k.fr _ _ n e).1) q0
theorem zsI{K:PySem.W.Frag}{H0:Hp}{M0:Mm}{p:Addr}{vs:List V}{ws:List W}(am0:AM K H0 M0)(e:H0 p=some (.tup vs))(q0:AVs K H0 M0 vs ws):ItOk K H0 M0 (Itt K p) ws fun _=>True:=by
 have st:∀ H M,Kp H0 M0 H M→SqT K H p vs:=fun H M k=>SqT.of (k.fr _ _ (am0.noTup e) e).1
 refine⟨fun i H M k am _ hi=>⟨vs,vs[i]'(by rw[q0.length];exact hi),st H M k,by simp⟩,fun H M k am _=>⟨vs,st H M k,by rw[q0.length];exact Nat.le_refl _⟩,fun i H M x H' k am _ hi y=>?_⟩
 obtain⟨rfl,y⟩:=y
 obtain⟨w,hw,av⟩:=(q0.kp am0 k).getV (y vs (st _ M k))
 exact⟨w,hw,Kp.refl am,am,av⟩
theorem zvV{K:PySem.W.Frag}{H0:Hp}{M0:Mm}{lo:Int}{n:Nat}:ItOk K H0 M0 (Itr lo n) ((List.range n).map fun i=>W.int (lo + (i:Nat))) fun _=>True where
 go:=fun i H M _ am _ hi=>by show i < n;simpa using hi
 stop:=fun H M _ am _=>by show n≤_;simp
 yld:=fun i H M x H' _ am _ hi y=>by
  obtain⟨rfl,rfl⟩:=y
  have hi:i < n:=by simpa using hi
  exact⟨.int (lo + i),by simp[hi],Kp.refl am,am,.int _⟩
theorem zvW{K:PySem.W.Frag}{H0:Hp}{M0:Mm}{z:Str}:ItOk K H0 M0 (Its z) (z.cps.toList.map fun c=>W.str ⟨#[c]⟩) fun _=>True where
 go:=fun i H M _ am _ hi=>by show i < z.cps.size;simpa using hi
 stop:=fun H M _ am _=>by show z.cps.size≤_;simp
 yld:=fun i H M x H' _ am _ hi y=>by
  obtain⟨rfl,c,hc,rfl⟩:=y
  exact⟨.str ⟨#[c]⟩,by rw[List.getElem?_map,hc];rfl,Kp.refl am,am,.str _⟩
def ItR(X:Cx)(tg:Expr)(r:V→Hp→(It→Hp→Prop)→Prop):Prop:=
 ∀ (pins:List (Addr×Obj)) (s:Shared) (σ:SV) (H:Hp) (x:V) (u:Value) (R:It→Hp→Prop),Inv X pins σ H s→RelV x u→r x H R→wpAny (model X.prog X.w) X.A (pyIter u) (PIE X pins σ tg R) X.xe s
theorem zhb:ItR X tg (fun x H R=>∃ a,x=.ref a∧(∃ xs,SqL X.K H a xs)∧R (Itl X.K a) H):=by
 rintro pins s1 σ H1 x u R I1 r1 ⟨a,rfl,⟨xs,hq⟩,q⟩
 cases r1
 obtain⟨its,rv,p,hz⟩:=I1.list hq
 refine wpAny_pyIter_list p.isList ?_
 refine⟨s1.heap.objs.size,[s1.heap.objs.size],_,_,H1,rfl,I1.kept (t':=s1.toks) fun b o e=>Heap.get?_push_of_some _ e,zoX a _,⟨_,Heap.get?_push_size _ rfl,rfl,rfl⟩,fun b hb=>?_,q⟩
 have e:b=s1.heap.objs.size:=by simpa using hb
 subst e
 exact I1.fpOk (Nat.le_refl _) (I1.hok.fresh (Nat.le_refl _))
theorem zsJ:ItR X tg (fun x H R=>∃ a,x=.ref a∧(∃ xs,SqT X.K H a xs)∧R (Itt X.K a) H):=by
 rintro pins s1 σ H1 x u R I1 r1 ⟨a,rfl,⟨xs,hq⟩,q⟩
 cases r1
 obtain⟨its,rv,p,hz⟩:=I1.tuple hq
 refine wpAny_pyIter_tuple (show s1.heap.IsTuple a its.toArray from p) ?_
 refine⟨s1.heap.objs.size,[s1.heap.objs.size],_,_,H1,rfl,I1.kept (t':=s1.toks) fun b o e=>Heap.get?_push_of_some _ e,zod a _,⟨_,Heap.get?_push_size _ rfl,rfl,rfl⟩,fun b hb=>?_,q⟩
 have e:b=s1.heap.objs.size:=by simpa using hb
 subst e
 exact I1.fpOk (Nat.le_refl _) (I1.hok.fresh (Nat.le_refl _))
theorem zvX{x:Str}{px:Pos}:ItR X (.Name x px) (fun x H R=>∃ z,x=.str z∧R (Its z) H):=by
 rintro pins s1 σ H1 x u R I1 r1 ⟨z,rfl,q⟩
 obtain⟨t,rfl⟩:=r1
 have fp:∀ b∈[s1.heap.objs.size],FpOk X pins H1 b:=fun b hb=>by
  have e:b=s1.heap.objs.size:=by simpa using hb
  subst e
  exact I1.fpOk (Nat.le_refl _) (I1.hok.fresh (Nat.le_refl _))
 cases ha:z.cps.all (· < 128)
 ·refine wpAny_pyIter_wide ha ?_
  exact⟨s1.heap.objs.size,[s1.heap.objs.size],_,_,H1,rfl,I1.kept (t':=s1.toks) fun b o e=>Heap.get?_push_of_some _ e,
   zns z _ "str_iterator" t (fun A s i c Q E a b d=>wpAny_pyNext_wide_item a b d) (fun A s i Q E a b c d=>wpAny_pyNext_wide_end a b c d) (fun A i s Q E a b=>wpAny_pyIter_striter_wide a b),⟨_,Heap.get?_push_size _ rfl,rfl,rfl⟩,fp,q⟩
 ·refine wpAny_pyIter_ascii ha ?_
  exact⟨s1.heap.objs.size,[s1.heap.objs.size],_,_,H1,rfl,I1.kept (t':=s1.toks) fun b o e=>Heap.get?_push_of_some _ e,
   zns z _ "str_ascii_iterator" t (fun A s i c Q E a b d=>wpAny_pyNext_ascii_item a b d) (fun A s i Q E a b c d=>wpAny_pyNext_ascii_end a b c d) (fun A i s Q E a b=>wpAny_pyIter_striter_ascii a b),⟨_,Heap.get?_push_size _ rfl,rfl,rfl⟩,fp,q⟩
theorem _root_.L2.PI.of{r:V→Hp→(It→Hp→Prop)→Prop}{tl:TE}(hl:PE X l tl)(hr:ItR X tg r):PI X tg l (fun σ H R=>tl σ H fun x H1=>r x H1 R):=fun pins s σ H R I h=>
 thn (hl pins s σ H _ I h) fun u s1 ⟨x,H1,I1,r1,q1⟩=>hr pins s1 σ H1 x u R I1 r1 q1
def upIr(K:PySem.W.Frag)(r:W→Mm→(List W→(Mm→Prop)→Mm→Prop)→Prop):V→Hp→(It→Hp→Prop)→Prop:=fun x H R'=>∃ (wx:W) (M:Mm) (R:List W→(Mm→Prop)→Mm→Prop),AV K H M x wx∧AM K H M∧r wx M R∧
 ∀ J H' ws keep M',Kp H M H' M'→AM K H' M'→ItOk K H' M' J ws keep→R ws keep M'→R' J H'
def rIt:W→Mm→(List W→(Mm→Prop)→Mm→Prop)→Prop
 | .tup ws,M1,R=>R ws (fun _=>True) M1
 | .rl ws,M1,R=>R ws (fun _=>True) M1
 | .sc ws,M1,R=>R ws (fun _=>True) M1
 | .ref a,M1,R=>∃ ws,M1 a=some (.lst ws)∧R ws (fun M=>M a=some (.lst ws)) M1
 | _,_,_=>False
def rItN:W→Mm→(List W→(Mm→Prop)→Mm→Prop)→Prop
 | .tup ws,M1,R=>R ws (fun _=>True) M1
 | .rl ws,M1,R=>R ws (fun _=>True) M1
 | .sc ws,M1,R=>R ws (fun _=>True) M1
 | .str z,M1,R=>R (z.cps.toList.map fun c=>W.str ⟨#[c]⟩) (fun _=>True) M1
 | .ref a,M1,R=>∃ ws,M1 a=some (.lst ws)∧R ws (fun M=>M a=some (.lst ws)) M1
 | _,_,_=>False
theorem zvY:ItR X tg (upIr X.K rIt):=by
 rintro pins s σ H x u R' I r1 ⟨wx,M,R,ax,am,h,k⟩
 cases ax <;> first | exact(show False from h).elim | skip
 case tup a xs ws e q=>exact zsJ pins s σ H _ u R' I r1 ⟨a,rfl,⟨xs,SqT.of e⟩,k _ _ _ _ _ (Kp.refl am) am (zsI am e q) h⟩
 case rl a xs ws e n q=>exact zhb pins s σ H _ u R' I r1 ⟨a,rfl,⟨xs,SqL.of e⟩,k _ _ _ _ _ (Kp.refl am) am (zvU am e n q) h⟩
 case sc a xs ws e q=>exact zhb pins s σ H _ u R' I r1 ⟨a,rfl,⟨xs,e.sq⟩,k _ _ _ _ _ (Kp.refl am) am (zvT am e q) h⟩
 case ref a=>
  obtain⟨ws,e,r⟩:=h
  obtain⟨vs,f,q⟩:=am.lst e
  exact zhb pins s σ H _ u R' I r1 ⟨a,rfl,⟨vs,SqL.of f⟩,k _ _ _ _ _ (Kp.refl am) am zpA r⟩
theorem ztJ{y:Str}{py:Pos}:ItR X (.Name y py) (upIr X.K rItN):=by
 rintro pins s σ H x u R' I r1 ⟨wx,M,R,ax,am,h,k⟩
 cases ax <;> first | exact(show False from h).elim | skip
 case str z=>exact zvX pins s σ H _ u R' I r1 ⟨z,rfl,k _ _ _ _ _ (Kp.refl am) am zvW h⟩
 case tup a xs ws e q=>exact zsJ pins s σ H _ u R' I r1 ⟨a,rfl,⟨xs,SqT.of e⟩,k _ _ _ _ _ (Kp.refl am) am (zsI am e q) h⟩
 case rl a xs ws e n q=>exact zhb pins s σ H _ u R' I r1 ⟨a,rfl,⟨xs,SqL.of e⟩,k _ _ _ _ _ (Kp.refl am) am (zvU am e n q) h⟩
 case sc a xs ws e q=>exact zhb pins s σ H _ u R' I r1 ⟨a,rfl,⟨xs,e.sq⟩,k _ _ _ _ _ (Kp.refl am) am (zvT am e q) h⟩
 case ref a=>
  obtain⟨ws,e,r⟩:=h
  obtain⟨vs,f,q⟩:=am.lst e
  exact zhb pins s σ H _ u R' I r1 ⟨a,rfl,⟨vs,SqL.of f⟩,k _ _ _ _ _ (Kp.refl am) am zpA r⟩
def iIt(r:W→Mm→(List W→(Mm→Prop)→Mm→Prop)→Prop)(tl:TE3):TI3:=fun τ M R=>tl τ M fun w M1=>r w M1 R
theorem zpB{r:W→Mm→(List W→(Mm→Prop)→Mm→Prop)→Prop}(hl:E3 X l tl)(hr:ItR X tg (upIr X.K r)):PI X tg l (upI X.K (iIt r tl)):=(PI.of hl hr).weak fun σ H R' ⟨τ,M,R,as,am,h,k⟩=>
 ⟨τ,M,_,as,am,h,fun x H1 wx M1 k1 am1 ax h1=>⟨wx,M1,R,ax,am1,h1,fun J H' ws keep M' k' am' it r=>k J H' ws keep M' (k1.trans k') am' it r⟩⟩
theorem zot(hl:E3 X l tl):PI X tg l (upI X.K (iIt rIt tl)):=zpB hl zvY
theorem za3{y:Str}{py:Pos}(hl:E3 X l tl):PI X (.Name y py) l (upI X.K (iIt rItN tl)):=zpB hl ztJ
def zeY(lo:Int)(n:Nat):List W:=(List.range n).map fun i=>W.int (lo + (i:Nat))
def iR1(ta:TA3):TI3:=fun τ M R=>ta τ M fun ws M1=>∃ j:Int,ws=[.int j]∧-(2 ^ 62)≤j∧j < 2 ^ 62∧R (zeY 0 j.toNat) (fun _=>True) M1
def iR2(ta:TA3):TI3:=fun τ M R=>ta τ M fun ws M1=>∃ i j:Int,ws=[.int i,.int j]∧(-(2 ^ 62)≤i∧i < 2 ^ 62∧-(2 ^ 62)≤j∧j < 2 ^ 62)∧R (zeY i (j - i).toNat) (fun _=>True) M1
theorem zgz{tA:TA3}{p pos:Pos}(hg:Gl X "range")(hm:X.mg "range" = none)(ha:A3 X [a] tA)(hs:starEach [a] X.env=[(false,eval a X.env)]:=by rfl):PI X tg (.Call (.Name "range" p) [a] [] pos) (upI X.K (iR1 tA)):=
 (zoY hg hm ha hs).weak fun σ H R' ⟨τ,M,R,as,am,h,k⟩=>⟨τ,M,_,as,am,h,fun vs H1 ws M1 k1 am1 ax ⟨j,e,h1,h2,r⟩=>by
  subst e
  obtain⟨v,rfl,av⟩:=ax.one
  cases av
  exact⟨j,rfl,h1,h2,k _ _ _ _ _ k1 am1 zvV r⟩⟩
def zgA(ws:List W)(keep:Mm→Prop)(g:TG3)(tt:TT3)(te:TE3)(τ₀:S3)(M1:Mm)(R:K3):Prop:=
 ∀ p,M1 p=none→∃ Pv:Nat→S3→List W→Mm→Prop,Pv 0 τ₀ [] M1∧(∀ vs i τ acc M,i≤ws.length→M p=none→Pv i τ acc M→keep (put M p (.fix vs)))∧
  (∀ vs i w τ acc M,ws[i]? = some w→M p=none→Pv i τ acc M→g w τ (put M p (.fix vs)) fun τ2 M2=>tt τ2 M2 fun b M3=>
   if b=true then te τ2 M3 fun y M4=>M4 p=some (.fix vs)∧acc.length < sizeLine∧∃ M5,Sub M5 (del M4 p)∧Pv (i + 1) τ2 (acc ++ [y]) M5
   else M3 p=some (.fix vs)∧∃ M5,Sub M5 (del M3 p)∧Pv (i + 1) τ2 acc M5)∧
  ∀ τ acc M,M p=none→Pv ws.length τ acc M→R (.ref p) (put M p (.lst acc))
def zrr(js:List (Option Nat))(τ:S3):S3:=js.map fun o=>o.bind fun j=>(τ[j]?).join
theorem AS.cmap{K:PySem.W.Frag}{H:Hp}{M:Mm}{σ:SV}{τ:S3}(h:AS K H M σ τ):∀ js:List (Option Nat),AS K H M (cmap js σ) (zrr js τ)
 | []=>.nil
 | none :: r=>.cons (fun _ e=>nomatch e) (AS.cmap h r)
 | some j :: r=>.cons (fun w e=>by
   have e:(τ[j]?).join=some w:=e
   cases q:τ[j]? with
   | none=>rw[q] at e;cases e
   | some z=>
    rw[q] at e
    have e:z=some w:=e
    subst e
    obtain⟨v,h1,h2⟩:=h.get q
    exact⟨v,by show(σ[j]?).join=some v;rw[h1];rfl,h2⟩) (AS.cmap h r)
def zcM(wi:TI3)(g:TG3)(tt:TT3)(te:TE3)(js:List (Option Nat)):TE3:=fun τ M R=>wi τ M fun ws keep M1=>zgA ws keep g tt te (zrr js τ) M1 R
theorem znA{wi:TI3}{g:TG3}{tt:TT3}{te:TE3}{js:List (Option Nat)}{σ:SV}{H:Hp}{Q:VK}(h:up X.K (zcM wi g tt te js) σ H Q):zts (upI X.K wi) (fun _=>upG X.K g) (fun _=>upT X.K tt) (fun _=>up X.K te) js σ H Q:=by
 obtain⟨τ,M,R,as,am,h,k⟩:=h
 refine⟨τ,M,_,as,am,h,fun J H1 ws keep M1 k1 am1 it hall p hp B=>?_⟩
 obtain⟨Pv,h0,hk,hs,hd⟩:=hall p (am1.nonM hp)
 obtain⟨amp,kp⟩:=am1.laid (o:=.fix []) (u:=.lst []) hp zar
 have hMp:=am1.nonM hp
 refine ztu ws.length (fun i σ' acc' H'=>∃ τ' acc M',M' p=none∧Kp H1 M1 H' (put M' p (.fix acc'))∧AM X.K H' (put M' p (.fix acc'))∧AS X.K H' (put M' p (.fix acc')) σ' τ'∧AVs X.K H' (put M' p (.fix acc')) acc' acc∧Pv i τ' acc M') ?_ ?_ ?_
 ·exact⟨zrr js τ,[],M1,hMp,kp,amp,((as.kp am k1).kp am1 kp).cmap js,.nil,h0⟩
 ·rintro σ' acc' H' ⟨τ',acc,M',mp,k',am',as',av,pv⟩
  refine⟨it.stop H' _ k' am' (hk _ _ _ _ _ (Nat.le_refl _) mp pv),?_⟩
  have hp':H' p=some (.lst acc'):=am' p _ zad
  refine k _ H' _ (put M' p (.lst acc)) (k1.trans ⟨fun a o n e=>?_,k'.dom⟩) (fun a o e=>?_) (.ref p) (hd τ' acc M' mp pv)
  ·obtain⟨x,y⟩:=k'.fr a o n e
   exact⟨x,by rw[zaf (zap e hp)] at y ⊢;exact y⟩
  ·by_cases ha:a=p
   ·subst ha;rw[zad] at e;cases e;exact⟨acc',hp',av.go zvN⟩
   ·rw[zaf ha] at e;exact(am' a o (by rw[zaf ha];exact e)).go zvN rfl
 ·rintro i σ' acc' H' hi ⟨τ',acc,M',mp,k',am',as',av,pv⟩
  have hkp:=hk acc' i τ' acc M' (Nat.le_of_lt hi) mp pv
  refine⟨it.go i H' _ k' am' hkp hi,fun x H3 y=>?_⟩
  obtain⟨w,hw,k3,am3,ax⟩:=it.yld i H' _ x H3 k' am' hkp hi y
  refine⟨w,τ',_,_,ax,as'.kp am' k3,am3,hs acc' i w τ' acc M' hw mp pv,fun σ4 H4 τ4 M4 k4 am4 as4 h4=>⟨τ4,M4,_,as4,am4,h4,fun b H5 M5 k5 am5 h5=>?_⟩⟩
  have kk:Kp H' (put M' p (.fix acc')) H5 M5:=(k3.trans k4).trans k5
  cases b with
  | false=>
   obtain⟨m5,M6,sb,pv6⟩:M5 p=some (.fix acc')∧∃ M6,Sub M6 (del M5 p)∧Pv (i + 1) τ4 acc M6:=h5
   have sb':Sub (put M6 p (.fix acc')) M5:=by
    have:=(sb.trans Sub.del).put (a:=p) (o:=.fix acc')
    rwa [zri m5] at this
   exact iteF ⟨τ4,acc,M6,sb.non zfz,(k'.trans kk).sub sb',am5.sub sb',(as4.kp am4 k5).sub sb',(av.kp am' kk).sub sb',pv6⟩
  | true=>
   have h5:te τ4 M5 fun y M4=>M4 p=some (.fix acc')∧acc.length < sizeLine∧∃ M5,Sub M5 (del M4 p)∧Pv (i + 1) τ4 (acc ++ [y]) M5:=h5
   refine iteT ⟨τ4,M5,_,as4.kp am4 k5,am5,h5,fun y H6 wy M6 k6 am6 ay ⟨m6,hl,M7,sb,pv7⟩=>?_⟩
   have kk6:=kk.trans k6
   have hp6:H6 p=some (.lst acc'):=am6 p _ m6
   obtain⟨am8,k8⟩:=am6.write (o:=.fix (acc' ++ [y])) (u:=.lst (acc' ++ [y])) m6 zar
   have sb':Sub (put M7 p (.fix (acc' ++ [y]))) (put M6 p (.fix (acc' ++ [y]))):=(sb.trans Sub.del).put
   refine⟨hp6,by rw[av.length];exact hl,τ4,acc ++ [wy],M7,sb.non zfz,((k'.trans kk6).trans k8).sub sb',am8.sub sb',(((as4.kp am4 k5).kp am5 k6).kp am6 k8).sub sb',?_,pv7⟩
   exact(((av.kp am' kk6).append (.cons ay .nil)).kp am6 k8).sub sb'
variable {sc:Scope}{N':List Str}{js:List (Option Nat)}{iter elt:Expr}{ifs:List Expr}{wi:TI3}{g:TG3}{tt:TT3}
def zc5:TT3:=fun _ M Q=>Q true M
theorem zc6:PIfs X [] (upT X.K zc5):=zrc.weak fun σ H Q ⟨τ,M,R,as,am,h,k⟩=>k true H M (Kp.refl am) am h
theorem zlm{c:Expr}{t:TT3}(h:T3 X c t):PIfs X [c] (upT X.K t):=zrd h
theorem zbV(N':List Str)(js:List (Option Nat))(hi:PI X tg iter (upI X.K wi))
  (hg:∀ B,PG (cxB X sc N' B) tg (upG X.K g)) (ht:∀ B,PIfs (cxB X sc N' B) ifs (upT X.K tt)) (he:∀ B,PE (cxB X sc N' B) elt (up X.K te))
  (S0:zf5 N' sc X.env.scope=true:=by kernel_rfl) (hj:jsOk N' X.N sc js N'=true:=by kernel_rfl) (hc:X.calm=true:=by rfl) (hs:∀ x,foldedSetIterable iter X.env x=pure x:=by intro _;rfl) :
  E3 X (.ListComp elt [⟨tg,iter,ifs,0⟩] sc pos) (zcM wi g tt te js):=(ztt N' js hi hg ht he S0 hj hc hs).weak fun _ _ _ h=>znA h
end
def zaP(N:List Str)(ws:List W):S3:=ws.map some ++ List.replicate (N.length - ws.length) none
def zax(R:K3):D3:={nx:=fun _ M'=>∃ M'',Sub M'' M'∧R .non M'',rt:=fun w M'=>∃ M'',Sub M'' M'∧R w M''}
section
variable {P:Program}{w:World}{K:PySem.W.Frag}{mg:Str→Option Value}{base:Heap}
theorem ok3{x qual:Str}{st:Stmt}{f:Addr}{fd:FuncData}{N ps:List Str}{k:Nat}{sp:Sp3}(F:Fun K x qual st f fd)(S:zas N ps (zab st))(len:∀ ws M R,sp ws M R→ws.length=ps.length)
  (hbody:∀ (cdv:Value) (A:Around) (outer:List Env) (s:Shared) (H:Hp) (E:XK) (ws:List W) (M:Mm) (R:K3),Room k (A.deeper (envOfC qual (zab st) s.heap.objs.size f cdv))→sp ws M R→
   ∃ t,Ps3 (cxOf CX0 P w K mg base N qual (zab st) f cdv A outer s H E).nox (zao st) t∧t (zax R) (zaP N ws) M):FnOk P w K mg base CX0 (k + 1) f fd ps (upSp K sp):=by
 refine F.ok S (fun vs H Q E ⟨ws,M,R,am,av,h,_⟩=>by rw[av.length];exact len ws M R h) fun cdv A outer s H vs Q E hr ⟨ws,M,R,am,av,h,kk⟩=>?_
 obtain⟨t,ht,h'⟩:=hbody cdv A outer s H E ws M R hr h
 refine⟨_,ht,zaP N ws,M,zax R,?_,am,h',⟨fun σ' H' τ' M' k' am' as' ⟨M'',sb,r⟩=>kk _ H' _ M'' (k'.sub sb) (am'.sub sb) .non r,fun v H' w M' k' am' av' ⟨M'',sb,r⟩=>kk v H' w M'' (k'.sub sb) (am'.sub sb) (av'.sub sb) r,fun _ _ _ _ _ _ _ z=>z.elim,fun _ _ _ _ _ _ _ z=>z.elim⟩⟩
 unfold L2.start zaP
 rw[av.length]
 exact AS.start av _
def zln:Sp3:=fun ws M R=>∃ ns:List Int,ws=[.sc (ns.map W.int)]∧ns.length≤63∧(M=fun _=>none)∧∀ M',R (.bl true) M'
theorem zvZ{H:Hp}{a:Addr}{ns:List Int}(hl:ns.length≤63)(ho:Only H)(hs:SqL K H a (ns.map V.int)):upSp K zln [.ref a] H (fun v _=>v=.bl true) fun _ _ _=>False:=by
 have hr:SqR K H a (ns.map V.int):=by
  rcases hs with(e | ⟨o,e⟩) | e
  ·rcases ho a with z | ⟨o,xs,z⟩
   ·rw[z] at e;cases e
   ·rw[z] at e;cases e
  ·exact .inl ⟨o,e⟩
  ·exact .inr e
 exact⟨[.sc (ns.map W.int)],fun _=>none,fun w _=>w=.bl true,fun a o e=>(nomatch e),.cons (.sc hr (AVs.int ns)) .nil,⟨ns,rfl,hl,rfl,fun _=>rfl⟩,fun v H' w M' _ _ av r=>by subst r;exact av.bl_inv⟩
end
end L3
namespace L3
open PySem PySem.Spec PyProof.Rows L2
section
variable {X:Cx}{a b c:Expr}{ta tb tc:TE3}{pos:Pos}
def zv0:TS3:=fun _ _ _=>False
def zv1(M:Mm):W→String→Prop
 | .non,T=>T = "NoneType"
 | .bl _,T=>T = "bool"
 | .int _,T=>T = "int"
 | .str _,T=>T = "str"
 | .tup _,T=>T = "tuple"
 | .rl _,T=>T = "list"
 | .dk _,T=>T = "dict"
 | .ref a,T=>(T = "list"∧∃ ws,M a=some (.lst ws))∨(T = "dict"∧((∃ kvs,M a=some (.dK kvs))∨∃ kvs,M a=some (.dT kvs)))
 | _,_=>False
def subL:List (String×String×Bool):=[("int","int",true),("int","bool",false),("int","str",false),("int","tuple",false),("int","list",false),("bool","bool",true),("bool","int",true),("bool","str",false),("bool","list",false),("bool","tuple",false),("str","str",true),("str","int",false),("str","tuple",false),("str","list",false),("str","bool",false),("tuple","tuple",true),("tuple","list",false),("tuple","str",false),("tuple","int",false),("tuple","bool",false),("list","list",true),("list","tuple",false),("list","str",false),("list","int",false),("list","bool",false),("NoneType","list",false),("NoneType","tuple",false),("NoneType","int",false),("NoneType","str",false),("NoneType","bool",false),("dict","dict",true),("dict","list",false)]
def subT(n T:String):Option Bool:=(subL.find? fun p=>p.1 == n && p.2.1 == T).map fun p=>p.2.2
def zsK(K:PySem.W.Frag):List (String×String×Bool)→Prop
 | []=>True
 | p :: l=>PySem.W.kitOne K (.type p.1) (.type p.2.1)=some p.2.2∧zsK K l
theorem zpC{K:PySem.W.Frag}:∀ {l:List (String×String×Bool)},zsK K l→∀ p∈l,PySem.W.kitOne K (.type p.1) (.type p.2.1)=some p.2.2
 | _ :: _,h,_,m=>by
  cases m with
  | head=>exact h.1
  | tail _ m=>exact zpC h.2 _ m
theorem ztK(K:PySem.W.Frag):∀ p∈subL,PySem.W.kitOne K (.type p.1) (.type p.2.1)=some p.2.2:=by
 refine zpC ?_
 refine⟨by kernel_rfl,by kernel_rfl,by kernel_rfl,by kernel_rfl,by kernel_rfl,by kernel_rfl,by kernel_rfl,by kernel_rfl,by kernel_rfl,by kernel_rfl,by kernel_rfl,by kernel_rfl,by kernel_rfl,by kernel_rfl,by kernel_rfl,by kernel_rfl,by kernel_rfl,by kernel_rfl,by kernel_rfl,by kernel_rfl,by kernel_rfl,by kernel_rfl,by kernel_rfl,by kernel_rfl,by kernel_rfl,by kernel_rfl,by kernel_rfl,by kernel_rfl,by kernel_rfl,by kernel_rfl,by kernel_rfl,by kernel_rfl,trivial⟩
theorem ztL(K:PySem.W.Frag){n T:String}{b:Bool}(h:subT n T=some b):PySem.W.kitOne K (.type n) (.type T)=some b:=by
 obtain⟨p,hp,e⟩:=Option.map_eq_some_iff.mp h
 have h1:=List.find?_some hp
 have h2:=ztK K p (List.mem_of_find?_eq_some hp)
 rw[Bool.and_eq_true,beq_iff_eq,beq_iff_eq] at h1
 rw[←h1.1,←h1.2,h2,e]
def rIsi:List W→Mm→K3→Prop
 | [w,.ty T],M,R=>∃ n b,zv1 M w n∧subT n T=some b∧R (.bl b) M
 | _,_,_=>False
theorem ztM:zbx X (.builtin "isinstance") (upC X.K rIsi):=by
 rintro pins s σ H xs us Q I rs ⟨ws,M,R,am,axs,h,k⟩
 match ws,h with
 | [w,.ty T],h=>
  obtain⟨v,u,rfl,av,au⟩:=axs.two
  cases au
  obtain⟨n,b,hn,hs,r⟩:=h
  have ty:TyOf X.K H v (.type n):=by
   cases av <;> first | exact(show False from hn).elim | skip
   case non=>cases (show n=_ from hn);exact .non
   case bl b=>cases (show n=_ from hn);exact .bl b
   case int i=>cases (show n=_ from hn);exact .int i
   case str x=>cases (show n=_ from hn);exact .str x
   case tup e q=>cases (show n=_ from hn);exact .tup e
   case rl e _ q=>cases (show n=_ from hn);exact .lst e
   case dk e _ _ q=>cases (show n=_ from hn);exact .dK e
   case ref a=>
    rcases hn with⟨e,ws,h⟩ | ⟨e,h⟩
    ·subst e
     obtain⟨vs,f,_⟩:=am.lst h
     exact .lst f
    ·subst e
     rcases h with⟨kvs,h⟩ | ⟨kvs,h⟩
     ·obtain⟨ks,f,_⟩:=am _ _ h;exact .dK f
     ·obtain⟨ks,f,_⟩:=am _ _ h;exact .dT f
  exact zmt pins s σ H _ us Q I rs ⟨v,T,_,b,rfl,ty,ztL X.K hs,k.at am (.bl b) r⟩
end
end L3
namespace L3
open PySem PySem.Spec PyProof.Rows L2
section
variable {X:Cx}{a b:Expr}{ta tb:TE3}{pos:Pos}{es:List Expr}{t:TA3}
theorem zxL{K:PySem.W.Frag}{H:Hp}{M:Mm}{R:K3}{Q:VK}{p:Addr}{xs:List V}{ws:List W}(am:AM K H M)(k:Up K H M R Q)(hp:H p=none)(ax:AVs K H M xs ws)(r:R (.rl ws) M):Q (.ref p) (upd H p (.lst xs)):=by
 obtain⟨am2,k2⟩:=am.tup (u:=.lst xs) hp
 exact k _ _ _ _ k2 am2 (.rl zar (am.nonM hp) (ax.newT hp)) r
def zd3(t:TA3):TE3:=fun τ M R=>t τ M fun ws M1=>ws.length≤sizeLine∧R (.rl ws) M1
theorem zcr(h:A3 X es t):E3 X (.List es pos) (zd3 t):=
 (zst h).weak fun σ H Q ⟨τ,M,R,as,am,h,k⟩=>⟨τ,M,_,as,am,h,fun xs H1 ws M1 k1 am1 axs ⟨hl,r⟩=>⟨by rw[axs.length];exact hl,fun p hp=>zxL am1 (k.kp k1) hp axs r⟩⟩
theorem opw{f:Value→Value→Sem Value}{r r':R3}(h:OpR X f (upO X.K r))(k:∀ x y M R,r' x y M R→r x y M fun w M'=>frz w M' R):OpR X f (upO X.K r'):=fun pins s σ H x y v u Q I rx ry ⟨wx,wy,M,R,am,ax,ay,h',kk⟩=>
 h pins s σ H x y v u Q I rx ry ⟨wx,wy,M,_,am,ax,ay,k _ _ _ _ h',kk.frz⟩
theorem clw{f:Value}{r r':List W→Mm→K3→Prop}(h:zbx X f (upC X.K r))(k:∀ x M R,r' x M R→r x M fun w M'=>frz w M' R):zbx X f (upC X.K r'):=fun pins s σ H xs us Q I rs ⟨ws,M,R,am,ax,h',kk⟩=>
 h pins s σ H xs us Q I rs ⟨ws,M,_,am,ax,k _ _ _ h',kk.frz⟩
def zci:R3
 | .int i,.int j,M,R=>R (.int (i + j)) M
 | .str i,.str j,M,R=>i.length + j.length≤sizeLine∧R (.str (i ++ j)) M
 | .tup xs,.tup ys,M,R=>xs≠[]∧xs.length + ys.length≤sizeLine∧R (.tup (xs ++ ys)) M
 | .ref a,.ref b,M,R=>∃ xs ys,M a=some (.lst xs)∧M b=some (.lst ys)∧xs.length + ys.length≤sizeLine∧R (.rl (xs ++ ys)) M
 | .rl xs,.ref b,M,R=>∃ ys,M b=some (.lst ys)∧xs.length + ys.length≤sizeLine∧R (.rl (xs ++ ys)) M
 | .ref a,.rl ys,M,R=>∃ xs,M a=some (.lst xs)∧xs.length + ys.length≤sizeLine∧R (.rl (xs ++ ys)) M
 | .rl xs,.rl ys,M,R=>xs.length + ys.length≤sizeLine∧R (.rl (xs ++ ys)) M
 | _,_,_,_=>False
theorem zbW:OpR X (binaryOp .Add) (upO X.K zci):=opw zxC fun x y M R h=>by
 cases x <;> cases y <;> first | exact(show False from h).elim | skip
 case int.int i j=>exact h
 case str.str i j=>exact h
 case tup.tup i j=>exact h
 case ref.ref i j=>obtain⟨xs,ys,h1,h2,h3,r⟩:=h;exact⟨xs,ys,h1,h2,h3,New.frz r⟩
 case rl.ref i j=>obtain⟨ys,h2,h3,r⟩:=h;exact⟨ys,h2,h3,New.frz r⟩
 case ref.rl i j=>obtain⟨ys,h2,h3,r⟩:=h;exact⟨ys,h2,h3,New.frz r⟩
 case rl.rl i j=>exact⟨h.1,New.frz h.2⟩
def zj6:R3
 | .int i,.int j,M,R=>(CMul i j∨CBig i j)∧R (.int (i * j)) M
 | .str z,.int n,M,R=>z.length≤16∧-(2 ^ 63)≤n∧n≤1048576∧R (.str (Txt.mul z n)) M
 | .ref a,.int n,M,R=>∃ xs,M a=some (.lst xs)∧-(2 ^ 63)≤n∧n < 2 ^ 63∧xs.length * n.toNat≤sizeLine∧R (.rl (List.replicate n.toNat xs).flatten) M
 | .rl xs,.int n,M,R=>-(2 ^ 63)≤n∧n < 2 ^ 63∧xs.length * n.toNat≤sizeLine∧R (.rl (List.replicate n.toNat xs).flatten) M
 | _,_,_,_=>False
theorem znB:OpR X (binaryOp .Mult) (upO X.K zj6):=opw zxE fun x y M R h=>by
 cases x <;> cases y <;> first | exact(show False from h).elim | skip
 case int.int i j=>exact h
 case str.int i j=>exact h
 case ref.int i j=>obtain⟨xs,h1,h2,h3,h4,r⟩:=h;exact⟨xs,h1,h2,h3,h4,New.frz r⟩
 case rl.int i j=>obtain⟨h2,h3,h4,r⟩:=h;exact⟨h2,h3,h4,New.frz r⟩
def ziv:List W→Mm→K3→Prop
 | [.tup ws],M,R=>R (.rl ws) M
 | [.rl ws],M,R=>R (.rl ws) M
 | [.sc ws],M,R=>R (.rl ws) M
 | [.dk kvs],M,R=>R (.rl (kvs.map fun kv=>wK kv.1)) M
 | [.ref a],M,R=>(∃ ws,M a=some (.lst ws)∧R (.rl ws) M)∨∃ kvs,M a=some (.dK kvs)∧R (.rl (kvs.map fun kv=>wK kv.1)) M
 | _,_,_=>False
theorem ztN(hc:X.calm=true):zbx X (.type "list") (upC X.K ziv):=clw (zsF hc) fun x M R h=>by
 match x,h with
 | [.tup ws],h=>exact New.frz h
 | [.rl ws],h=>exact New.frz h
 | [.sc ws],h=>exact New.frz h
 | [.dk kvs],h=>exact New.frz h
 | [.ref a],h=>
  rcases h with⟨ws,e,r⟩ | ⟨kvs,e,r⟩
  ·exact .inl ⟨ws,e,New.frz r⟩
  ·exact .inr ⟨kvs,e,New.frz r⟩
def rSlF:W→Option Int→Option Int→Mm→K3→Prop
 | .rl ws,lo,hi,M,R=>R (.rl (cutW ws lo hi)) M
 | .sc ws,lo,hi,M,R=>R (.rl (cutW ws lo hi)) M
 | .ref a,lo,hi,M,R=>∃ ws,M a=some (.lst ws)∧R (.rl (cutW ws lo hi)) M
 | .tup ws,lo,hi,M,R=>¬ (HT.sIx ws.length 0 lo=0∧HT.sIx ws.length ws.length hi=ws.length)∧R (.tup (cutW ws lo hi)) M
 | _,_,_,_,_=>False
theorem zrs{x:W}{l u:Option Int}{M:Mm}{R:K3}(h:rSlF x l u M R):rSl x l u M fun w M'=>frz w M' R:=by
 cases x <;> first | exact(show False from h).elim | skip
 case tup ws=>exact h
 case rl ws=>exact New.frz h
 case sc ws=>exact New.frz h
 case ref a=>obtain⟨ws,e,r⟩:=h;exact⟨ws,e,New.frz r⟩
def vSlF(ta:TE3)(tl th:TO3):TE3:=fun τ M R=>ta τ M fun x M1=>tl τ M1 fun l M2=>th τ M2 fun u M3=>rSlF x l u M3 R
theorem zj7{lo hi:Option Expr}{tl th:TO3}{p2:Pos}(he:E3 X a ta)(hl:PO X lo (upOp X.K tl))(hu:PO X hi (upOp X.K th)):E3 X (.Subscript a (.Slice lo hi none p2) pos) (vSlF ta tl th):=
 (zq4 zxG he hl hu).weak fun σ H Q ⟨τ,M,R,as,am,h,k⟩=>⟨τ,M,_,as,am,h,fun x H1 wx M1 k1 am1 ax h1=>⟨τ,M1,_,as.kp am k1,am1,h1,fun l H2 M2 k2 am2 h2=>⟨τ,M2,_,(as.kp am k1).kp am1 k2,am2,h2,fun u H3 M3 k3 am3 h3=>
  ⟨wx,M3,_,am3,(ax.kp am1 k2).kp am2 k3,zrs h3,(((k.kp k1).kp k2).kp k3).frz⟩⟩⟩⟩
variable {sc:Scope}{N':List Str}{js:List (Option Nat)}{tg iter elt:Expr}{ifs:List Expr}{wi:TI3}{g:TG3}{tt:TT3}{te:TE3}
theorem zou{i:Nat}{x:Str}{px spos:Pos}(hN:X.N.Nodup)(hi0:X.N[i]? = some x)(hx:Loc X.env.scope x)(N':List Str)(js:List (Option Nat))(hi:PI X tg iter (upI X.K wi))
  (hg:∀ B,PG (cxB X sc N' B) tg (upG X.K g)) (ht:∀ B,PIfs (cxB X sc N' B) ifs (upT X.K tt)) (he:∀ B,PE (cxB X sc N' B) elt (up X.K te))
  (S0:zf5 N' sc X.env.scope=true:=by kernel_rfl) (hj:jsOk N' X.N sc js N'=true:=by kernel_rfl) (hc:X.calm=true:=by rfl) (hsw:swapsWith (.ListComp elt [⟨tg,iter,ifs,0⟩] sc pos) (some (.Name x px)) spos.line X.env=pure true:=by rfl)
  (hf:X.fn x=true∨X.env.scope.names.lookup x=some .local:=by first | exact .inl rfl | exact .inr rfl | assumption)
  (hs:∀ x,foldedSetIterable iter X.env x=pure x:=by intro _;rfl):P3 X (.Assign [.Name x px] (.ListComp elt [⟨tg,iter,ifs,0⟩] sc pos) spos) (vSet i (vFrz (zcM wi g tt te js))):=
 (zor hN hi0 hx N' js hi hg ht he S0 hj hc hsw hf hs).weak fun D σ H ⟨τ,M,D',as,am,h,k⟩=>znA ⟨τ,M,_,as,am,h,Up.frz fun y H1 wy M1 k1 am1 ay h1=>k.nx _ _ _ _ k1 am1 ((as.kp am k1).set ay i) h1⟩
end
def Pl:Nat→W→Prop
 | _,.non=>True
 | _,.int _=>True
 | _,.str x=>PyData.strOk x=true
 | n + 1,.tup ws=>∀ w∈ws,Pl n w
 | n + 1,.rl ws=>∀ w∈ws,Pl n w
 | _,_=>False
def der(M:Mm):W→W
 | .ref a=>match M a with
  | some (.lst ws)=>.rl ws
  | _=>.ref a
 | w=>w
section
variable {M:Mm}
theorem zj8{n:Nat}(ih:∀ {w:W},Pl n w→∃ d,Snap M w d∧d.canLay0=true∧d.depth≤n):∀ {ws:List W},(∀ w∈ws,Pl n w)→∃ ds,zfJ M ws ds∧PyData.canLayAll0 ds=true∧PyData.depthAll ds≤n
 | [],_=>⟨[],.nil,rfl,by simp[PyData.depthAll]⟩
 | w :: ws,h=>by
  obtain⟨d,s,c,e⟩:=ih (h w List.mem_cons_self)
  obtain⟨ds,ss,cc,ee⟩:=zj8 ih fun z hz=>h z (List.mem_cons_of_mem _ hz)
  exact⟨d :: ds,.cons s ss,by simp[PyData.canLayAll0,c,cc],by simp only[PyData.depthAll];omega⟩
theorem ztO:∀ {n:Nat} {w:W},Pl n w→∃ d,Snap M w d∧d.canLay0=true∧d.depth≤n:=by
 intro n
 induction n with
 | zero=>
  intro w h
  cases w <;> first | exact(show False from h).elim | skip
  case non=>exact⟨_,.non,rfl,by simp[PyData.depth]⟩
  case int i=>exact⟨_,.int i,rfl,by simp[PyData.depth]⟩
  case str x=>exact⟨_,.str x,h,by simp[PyData.depth]⟩
 | succ n ih=>
  intro w h
  cases w <;> first | exact(show False from h).elim | skip
  case non=>exact⟨_,.non,rfl,by simp[PyData.depth]⟩
  case int i=>exact⟨_,.int i,rfl,by simp[PyData.depth]⟩
  case str x=>exact⟨_,.str x,h,by simp[PyData.depth]⟩
  case tup ws=>
   obtain⟨ds,s,c,e⟩:=zj8 ih h
   exact⟨_,.tup s,by simpa [PyData.canLay0] using c,by simp only[PyData.depth];omega⟩
  case rl ws=>
   obtain⟨ds,s,c,e⟩:=zj8 ih h
   exact⟨_,.rl s,by simpa [PyData.canLay0] using c,by simp only[PyData.depth];omega⟩
theorem znC{n:Nat}{w:W}(h:Pl n (der M w)):∃ d,Snap M w d∧Snap M (der M w) d∧d.canLay0=true∧d.depth≤n:=by
 obtain⟨d,s,c,e⟩:=ztO (M:=M) h
 refine⟨d,?_,s,c,e⟩
 cases w <;> first | exact s | skip
 case ref a=>
  cases q:M a with
  | none=>
   have e:der M (.ref a)=.ref a:=by simp[der,q]
   rw[e] at s;exact s
  | some o=>
   cases o with
   | lst ws=>
    have e:der M (.ref a)=.rl ws:=by simp[der,q]
    rw[e] at s
    cases s with
    | rl r=>exact .ref q r
   | dK _=>
    have e:der M (.ref a)=.ref a:=by simp[der,q]
    rw[e] at s;exact s
   | dT _=>
    have e:der M (.ref a)=.ref a:=by simp[der,q]
    rw[e] at s;exact s
   | fix _=>
    have e:der M (.ref a)=.ref a:=by simp[der,q]
    rw[e] at s;exact s
   | ins _ _ _=>
    have e:der M (.ref a)=.ref a:=by simp[der,q]
    rw[e] at s;exact s
theorem zmz{n:Nat}(ih:∀ {x y:W} {dx dy:PyData},Pl n x→Pl n y→Snap M x dx→Snap M y dy→(PyData.eqv dx dy=true↔x=y)):∀ {xs ys:List W} {dx dy:List PyData},(∀ w∈xs,Pl n w)→(∀ w∈ys,Pl n w)→zfJ M xs dx→zfJ M ys dy→(PyData.eqvAll dx dy=true↔xs=ys)
 | [],[],_,_,_,_,.nil,.nil=>by simp[PyData.eqvAll]
 | [],_ :: _,_,_,_,_,.nil,.cons _ _=>by simp[PyData.eqvAll]
 | _ :: _,[],_,_,_,_,.cons _ _,.nil=>by simp[PyData.eqvAll]
 | x :: xs,y :: ys,_,_,hx,hy,.cons s1 r1,.cons s2 r2=>by
  rw[PyData.eqvAll,Bool.and_eq_true,ih (hx x List.mem_cons_self) (hy y List.mem_cons_self) s1 s2,zmz ih (fun z hz=>hx z (List.mem_cons_of_mem _ hz)) (fun z hz=>hy z (List.mem_cons_of_mem _ hz)) r1 r2]
  simp
theorem zv2:∀ {n:Nat} {x y:W} {dx dy:PyData},Pl n x→Pl n y→Snap M x dx→Snap M y dy→(PyData.eqv dx dy=true↔x=y):=by
 intro n
 induction n with
 | zero=>
  intro x y dx dy hx hy sx sy
  cases sx <;> first | exact(show False from hx).elim | skip
  all_goals cases sy <;> first | exact(show False from hy).elim | simp[PyData.eqv]
 | succ n ih=>
  intro x y dx dy hx hy sx sy
  cases sx <;> first | exact(show False from hx).elim | skip
  all_goals cases sy <;> first | exact(show False from hy).elim | skip
  all_goals first | (simp[PyData.eqv];done) | skip
  case tup.tup r1 _ _ r2=>rw[PyData.eqv,zmz ih hx hy r1 r2];simp
  case rl.rl r1 _ _ r2=>rw[PyData.eqv,zmz ih hx hy r1 r2];simp
theorem ztP{neg:Bool}{x y:W}{R:K3}(n:Nat)(hn:n≤60)(hx:Pl n (der M x))(hy:Pl n (der M y))(h:∀ b:Bool,(b=true↔der M x=der M y)→R (.bl (if neg then !b else b)) M):rEqD neg x y M R:=by
 obtain⟨dx,s1,s1',c1,e1⟩:=znC hx
 obtain⟨dy,s2,s2',c2,e2⟩:=znC hy
 exact⟨dx,dy,s1,s2,⟨c1,by omega⟩,⟨c2,by omega⟩,h _ (zv2 hx hy s1' s2')⟩
theorem zpD{neg:Bool}{x y:W}{R:K3}(n:Nat)(hn:n≤60)(hx:Pl n (der M x))(hy:Pl n (der M y))(h:∀ b:Bool,(b=true↔der M x=der M y)→R (.bl (if neg then !b else b)) M):rEq neg x y M R:=by
 have d:=ztP n hn hx hy h
 cases x <;> first | exact d | skip
 case int i=>
  cases y <;> first | exact d | skip
  case int j=>exact h (decide (i=j)) (by simp[der])
 case str i=>
  cases y <;> first | exact d | skip
  case str j=>exact h (decide (i=j)) (by simp[der])
 case bl i=>
  cases y <;> first | exact d | skip
  case bl j=>exact(show False by cases n <;> exact hx).elim
end
theorem ztQ{ws:List W}{keep:Mm→Prop}{g:TG3}{tt:TT3}{te:TE3}{τ₀:S3}{M1:Mm}{R:K3}(St:S3→Prop)(tgt:W→S3)(Rel:W→Option W→Prop)(hl:ws.length≤sizeLine)(hk:∀ M,Sub M1 M→keep M)
  (h0:St τ₀) (ht:∀ w∈ws,St (tgt w)) (hg:∀ w∈ws,∀ τ M (C:S3→Mm→Prop),St τ→C (tgt w) M→g w τ M C)
  (hs:∀ w∈ws,∀ M (C:K3) (D:Mm→Prop),Sub M1 M→(∀ y,Rel w (some y)→C y M)→(Rel w none→D M)→tt (tgt w) M fun b M3=>if b=true then te (tgt w) M3 C else D M3)
  (r:∀ os,Paired Rel ws os→New (os.filterMap id) M1 R):zgA ws keep g tt te τ₀ M1 R:=by
 intro p hp
 refine⟨fun i τ acc M=>St τ∧(∃ os,Paired Rel (ws.take i) os∧acc=os.filterMap id)∧M=M1,⟨h0,⟨[],by simp;exact .nil,rfl⟩,rfl⟩,?_,?_,?_⟩
 ·rintro vs i τ acc M _ mp ⟨_,_,rfl⟩;exact hk _ (Sub.new hp)
 ·rintro vs i w τ acc M hw mp ⟨st,⟨os,po,rfl⟩,rfl⟩
  have hm:w∈ws:=List.mem_of_getElem? hw
  have hi:i < ws.length:=(List.getElem?_eq_some_iff.mp hw).1
  have htk:ws.take (i + 1)=ws.take i ++ [w]:=by rw[List.take_add_one,hw];rfl
  have snoc:∀ o,Rel w o→Paired Rel (ws.take (i + 1)) (os ++ [o]):=fun o ro=>by
   rw[htk]
   clear hw mp st htk
   revert os
   generalize ws.take i=l
   intro os po
   induction po with
   | nil=>exact .cons ro .nil
   | cons a b ih=>exact .cons a ih
  have hlen:(os.filterMap id).length < sizeLine:=by
   have h1:=List.length_filterMap_le id os
   have h2:=Paired.length po
   rw[List.length_take] at h2
   omega
  refine hg w hm τ _ _ st (hs w hm _ _ _ (Sub.new hp) (fun y hy=>⟨zad,hlen,M,?_,ht w hm,⟨_,snoc _ hy,?_⟩,rfl⟩) fun hn=>⟨zad,M,?_,ht w hm,⟨_,snoc _ hn,?_⟩,rfl⟩)
  ·rw[zha hp];exact Sub.refl _
  ·simp
  ·rw[zha hp];exact Sub.refl _
  ·simp
 ·rintro τ acc M mp ⟨_,⟨os,po,rfl⟩,rfl⟩
  rw[List.take_length] at po
  exact r os po p hp
def hdSt(rest:S3):S3→Prop:=fun τ=>∃ o,τ=o :: rest
theorem map1{ws:List W}{keep:Mm→Prop}{te:TE3}{o:Option W}{rest:S3}{M1:Mm}{R:K3}(f:W→W)(hl:ws.length≤sizeLine)(hk:∀ M,Sub M1 M→keep M)
  (hs:∀ w∈ws,∀ M (C:K3),Sub M1 M→C (f w) M→te (some w :: rest) M C) (r:New (ws.map f) M1 R):zgA ws keep (zaw 0) zc5 te (o :: rest) M1 R:=by
 refine ztQ (hdSt rest) (fun w=>some w :: rest) (fun w o=>o=some (f w)) hl hk ⟨_,rfl⟩ (fun w _=>⟨_,rfl⟩) ?_ ?_ ?_
 ·rintro w _ τ M C ⟨o,rfl⟩ h;exact h
 ·intro w hw M C D sb h1 _
  show(if true=true then te (some w :: rest) M C else D M)
  rw[if_pos rfl]
  exact hs w hw M C sb (h1 _ rfl)
 ·intro os po
  have:os.filterMap id=ws.map f:=by
   clear r hs hl hk
   induction po with
   | nil=>rfl
   | cons a b ih=>subst a;simp[ih]
  rw[this];exact r
theorem zrt{ws:List W}{keep:Mm→Prop}{tt:TT3}{te:TE3}{o:Option W}{rest:S3}{M1:Mm}{R:K3}(f:W→Option W)(hl:ws.length≤sizeLine)(hk:∀ M,Sub M1 M→keep M)
  (hs:∀ w∈ws,∀ M (C:K3) (D:Mm→Prop),Sub M1 M→(∀ y,f w=some y→C y M)→(f w=none→D M)→tt (some w :: rest) M fun b M3=>if b=true then te (some w :: rest) M3 C else D M3)
  (r:New (ws.filterMap f) M1 R):zgA ws keep (zaw 0) tt te (o :: rest) M1 R:=by
 refine ztQ (hdSt rest) (fun w=>some w :: rest) (fun w o=>o=f w) hl hk ⟨_,rfl⟩ (fun w _=>⟨_,rfl⟩) ?_ ?_ ?_
 ·rintro w _ τ M C ⟨o,rfl⟩ h;exact h
 ·intro w hw M C D sb h1 h2
  exact hs w hw M C D sb (fun y e=>h1 y e.symm) fun e=>h2 e.symm
 ·intro os po
  have:os.filterMap id=ws.filterMap f:=by
   clear r hs hl hk
   induction po with
   | nil=>rfl
   | @cons a b c d e _ ih=>
    subst e
    cases q:f a <;> simp[q,ih]
  rw[this];exact r
theorem zv3{ws:List W}{keep:Mm→Prop}{te:TE3}{o:Option W}{rest:S3}{M1:Mm}{R:K3}(P:W→W→Prop)(hl:ws.length≤sizeLine)(hk:∀ M,Sub M1 M→keep M)
  (hs:∀ w∈ws,∀ M (C:K3),Sub M1 M→(∀ y,P w y→C y M)→te (some w :: rest) M C) (r:∀ ys,Paired P ws ys→New ys M1 R):zgA ws keep (zaw 0) zc5 te (o :: rest) M1 R:=by
 refine ztQ (hdSt rest) (fun w=>some w :: rest) (fun w o=>∃ y,o=some y∧P w y) hl hk ⟨_,rfl⟩ (fun w _=>⟨_,rfl⟩) ?_ ?_ ?_
 ·rintro w _ τ M C ⟨o,rfl⟩ h;exact h
 ·intro w hw M C D sb h1 _
  show(if true=true then te (some w :: rest) M C else D M)
  rw[if_pos rfl]
  exact hs w hw M C sb fun y py=>h1 y ⟨y,rfl,py⟩
 ·intro os po
  have:∃ ys,os=ys.map some∧Paired P ws ys:=by
   clear r hs hl hk
   induction po with
   | nil=>exact⟨[],rfl,.nil⟩
   | cons a b ih=>
    obtain⟨y,rfl,py⟩:=a
    obtain⟨ys,rfl,h⟩:=ih
    exact⟨y :: ys,rfl,.cons py h⟩
  obtain⟨ys,rfl,py⟩:=this
  rw[List.filterMap_map]
  have:(ys.filterMap (id ∘ some))=ys:=by simp
  rw[this]
  exact r ys py
theorem Paired.all{P:W→W→Prop}{Q:W→Prop}{xs ys:List W}(h:Paired P xs ys)(k:∀ x y,P x y→Q y):∀ y∈ys,Q y:=by
 induction h with
 | nil=>intro y hy;cases hy
 | cons a b ih=>
  intro y hy
  rcases List.mem_cons.mp hy with rfl | hy
  ·exact k _ _ a
  ·exact ih y hy
end L3
namespace L3
open PySem PySem.Spec PyProof.Rows L2
structure Df(K:PySem.W.Frag)(mg:Str→Option Value)(x:Str)(st:Stmt)(ps:List Str)(f:Addr)(fd:FuncData):Prop where
 fn:Fun K x x st f fd
 at_:mg x=some (.ref f)
 bi:zeO K fd ps []
theorem zaM{K:PySem.W.Frag}{x:Str}{st:Stmt}{f:Addr}{fd:FuncData}{ps:List Str}{mg:Str→Option Value}(F:Fun K x x st f fd)(hm:mg x=some (.ref f))
  (h:∀ (kV doc pm:Value) (an:Option Addr) (cdv ct:Value) (us:List Value),us.length=ps.length→bindArgs (PySem.W.fnOf x x (zeU st) (zao st) (zab st) .none kV doc pm an cdv ct) ⟨us,[]⟩=pure (ps.zip us)):Df K mg x st ps f fd:=⟨F,hm,F.binds h⟩
theorem zcR:bootBuiltins "len" = some (.builtin "len"):=PySem.boot_len
theorem zj9:bootBuiltins "list" = some (.type "list"):=by decide +kernel
theorem znD:bootBuiltins "tuple" = some (.type "tuple"):=by decide +kernel
theorem zmA:bootBuiltins "dict" = some (.type "dict"):=by decide +kernel
theorem zd4:bootBuiltins "isinstance" = some (.builtin "isinstance"):=by decide +kernel
theorem zv4:bootBuiltins "all" = some (.builtin "all"):=by decide +kernel
theorem zv5:bootBuiltins "any" = some (.builtin "any"):=by decide +kernel
theorem zpE:bootBuiltins "sum" = some (.builtin "sum"):=by decide +kernel
theorem zv6:bootBuiltins "min" = some (.builtin "min"):=by decide +kernel
theorem zv7:bootBuiltins "abs" = some (.builtin "abs"):=by decide +kernel
theorem zpF:bootBuiltins "sorted" = some (.builtin "sorted"):=by decide +kernel
theorem atI0{α:Type}(x:α)(xs:List α):atI (x :: xs) 0=some x:=by simp[atI,ixN]
theorem atI1{α:Type}(x y:α)(xs:List α):atI (x :: y :: xs) 1=some y:=zg9 (j:=1) rfl
theorem atI2{α:Type}(x y z:α)(xs:List α):atI (x :: y :: z :: xs) 2=some z:=zg9 (j:=2) rfl
theorem zv8{α:Type}{xs:List α}{i:Int}(h0:0≤i)(h1:i < xs.length):∃ x,atI xs i=some x∧xs[i.toNat]? = some x∧x∈xs:=by
 have hlt:i.toNat < xs.length:=by omega
 refine⟨xs[i.toNat],?_,List.getElem?_eq_getElem hlt,List.getElem_mem hlt⟩
 simp[atI,ixN,h0,h1,hlt]
theorem zru{ws:List W}{lo hi:Option Int}{w:W}(h:w∈cutW ws lo hi):w∈ws:=List.mem_of_mem_drop (List.mem_of_mem_take h)
theorem zrv{ws:List W}{lo hi:Option Int}:(cutW ws lo hi).length≤ws.length:=by
 unfold cutW;rw[List.length_take,List.length_drop];omega
end L3
namespace L3
open PySem PySem.Spec PyProof.Rows L2
theorem cdiv{i j:Int}(h0:0 < j)(h1:j≤1000000000):zre i j:=⟨h0,Int.lt_of_le_of_lt h1 (by decide +kernel)⟩
theorem zxM{i j:Int}(h0:0 < j)(h1:j≤1000000000):zre i j↔True:=iff_true_intro (cdiv h0 h1)
def sOk(x:Str):Prop:=PyData.strOk x=true
def Ints(ws:List W):Prop:=∀ w∈ws,∃ i,w=W.int i
theorem zrw(ns:List Int):Ints (ns.map W.int):=fun w h=>by
 obtain⟨i,_,e⟩:=List.mem_map.mp h
 exact⟨i,e.symm⟩
theorem zd5{n:Nat}(h:n≤10000000):n≤sizeLine:=Nat.le_trans h (by decide)
theorem zbE{n:Nat}(h:n < 10000000):n < sizeLine:=Nat.lt_of_lt_of_le h (by decide)
theorem zpG{S:List W}{i:Int}(h0:0≤i)(h1:i≤S.length):cutW S none (some i)=S.take i.toNat:=by
 unfold cutW HT.sIx
 simp only[List.drop_zero,Nat.sub_zero]
 rw[if_neg (by omega),Nat.min_eq_left (by omega)]
end L3
namespace L3
open PySem PySem.Spec PyProof.Rows L2
theorem zaS{w:W}{T n:String}{b:Bool}{M:Mm}{R:K3}(hn:∀ m,zv1 M w m↔m=n)(hs:subT n T=some b):rIsi [w,.ty T] M R↔R (.bl b) M:=
 ⟨fun⟨_,_,h1,h2,h3⟩=>by cases (hn _).mp h1;cases hs.symm.trans h2;exact h3,fun h=>⟨n,b,(hn n).mpr rfl,hs,h⟩⟩
theorem zlo{M:Mm}{R:K3}:rIsi [W.non,.ty "list"] M R↔R (.bl false) M:=zaS (fun _=>Iff.rfl) (by decide)
theorem zka{M:Mm}{R:K3}:rIsi [W.non,.ty "tuple"] M R↔R (.bl false) M:=zaS (fun _=>Iff.rfl) (by decide)
theorem zmB{M:Mm}{R:K3}:rIsi [W.non,.ty "int"] M R↔R (.bl false) M:=zaS (fun _=>Iff.rfl) (by decide)
theorem zmC{M:Mm}{R:K3}:rIsi [W.non,.ty "str"] M R↔R (.bl false) M:=zaS (fun _=>Iff.rfl) (by decide)
theorem zlp{M:Mm}{R:K3}:rIsi [W.non,.ty "bool"] M R↔R (.bl false) M:=zaS (fun _=>Iff.rfl) (by decide)
theorem zmD{b:Bool}{M:Mm}{R:K3}:rIsi [W.bl b,.ty "bool"] M R↔R (.bl true) M:=zaS (fun _=>Iff.rfl) (by decide)
theorem zov{b:Bool}{M:Mm}{R:K3}:rIsi [W.bl b,.ty "int"] M R↔R (.bl true) M:=zaS (fun _=>Iff.rfl) (by decide)
theorem zow{b:Bool}{M:Mm}{R:K3}:rIsi [W.bl b,.ty "str"] M R↔R (.bl false) M:=zaS (fun _=>Iff.rfl) (by decide)
theorem zmE{b:Bool}{M:Mm}{R:K3}:rIsi [W.bl b,.ty "list"] M R↔R (.bl false) M:=zaS (fun _=>Iff.rfl) (by decide)
theorem zlq{b:Bool}{M:Mm}{R:K3}:rIsi [W.bl b,.ty "tuple"] M R↔R (.bl false) M:=zaS (fun _=>Iff.rfl) (by decide)
theorem zmF{i:Int}{M:Mm}{R:K3}:rIsi [W.int i,.ty "int"] M R↔R (.bl true) M:=zaS (fun _=>Iff.rfl) (by decide)
theorem zlr{i:Int}{M:Mm}{R:K3}:rIsi [W.int i,.ty "bool"] M R↔R (.bl false) M:=zaS (fun _=>Iff.rfl) (by decide)
theorem zmG{i:Int}{M:Mm}{R:K3}:rIsi [W.int i,.ty "str"] M R↔R (.bl false) M:=zaS (fun _=>Iff.rfl) (by decide)
theorem zkb{i:Int}{M:Mm}{R:K3}:rIsi [W.int i,.ty "tuple"] M R↔R (.bl false) M:=zaS (fun _=>Iff.rfl) (by decide)
theorem zls{i:Int}{M:Mm}{R:K3}:rIsi [W.int i,.ty "list"] M R↔R (.bl false) M:=zaS (fun _=>Iff.rfl) (by decide)
theorem zmH{x:Str}{M:Mm}{R:K3}:rIsi [W.str x,.ty "str"] M R↔R (.bl true) M:=zaS (fun _=>Iff.rfl) (by decide)
theorem zmI{x:Str}{M:Mm}{R:K3}:rIsi [W.str x,.ty "int"] M R↔R (.bl false) M:=zaS (fun _=>Iff.rfl) (by decide)
theorem zkc{x:Str}{M:Mm}{R:K3}:rIsi [W.str x,.ty "tuple"] M R↔R (.bl false) M:=zaS (fun _=>Iff.rfl) (by decide)
theorem zlt{x:Str}{M:Mm}{R:K3}:rIsi [W.str x,.ty "list"] M R↔R (.bl false) M:=zaS (fun _=>Iff.rfl) (by decide)
theorem zlu{x:Str}{M:Mm}{R:K3}:rIsi [W.str x,.ty "bool"] M R↔R (.bl false) M:=zaS (fun _=>Iff.rfl) (by decide)
theorem zkd{ws:List W}{M:Mm}{R:K3}:rIsi [W.tup ws,.ty "tuple"] M R↔R (.bl true) M:=zaS (fun _=>Iff.rfl) (by decide)
theorem zlv{ws:List W}{M:Mm}{R:K3}:rIsi [W.tup ws,.ty "list"] M R↔R (.bl false) M:=zaS (fun _=>Iff.rfl) (by decide)
theorem zmJ{ws:List W}{M:Mm}{R:K3}:rIsi [W.tup ws,.ty "str"] M R↔R (.bl false) M:=zaS (fun _=>Iff.rfl) (by decide)
theorem zmK{ws:List W}{M:Mm}{R:K3}:rIsi [W.tup ws,.ty "int"] M R↔R (.bl false) M:=zaS (fun _=>Iff.rfl) (by decide)
theorem zlw{ws:List W}{M:Mm}{R:K3}:rIsi [W.tup ws,.ty "bool"] M R↔R (.bl false) M:=zaS (fun _=>Iff.rfl) (by decide)
theorem zmL{ws:List W}{M:Mm}{R:K3}:rIsi [W.rl ws,.ty "list"] M R↔R (.bl true) M:=zaS (fun _=>Iff.rfl) (by decide)
theorem zlx{ws:List W}{M:Mm}{R:K3}:rIsi [W.rl ws,.ty "tuple"] M R↔R (.bl false) M:=zaS (fun _=>Iff.rfl) (by decide)
theorem zox{ws:List W}{M:Mm}{R:K3}:rIsi [W.rl ws,.ty "str"] M R↔R (.bl false) M:=zaS (fun _=>Iff.rfl) (by decide)
theorem zoy{ws:List W}{M:Mm}{R:K3}:rIsi [W.rl ws,.ty "int"] M R↔R (.bl false) M:=zaS (fun _=>Iff.rfl) (by decide)
theorem zmM{ws:List W}{M:Mm}{R:K3}:rIsi [W.rl ws,.ty "bool"] M R↔R (.bl false) M:=zaS (fun _=>Iff.rfl) (by decide)
theorem ztR{p:Addr}{ws:List W}{M:Mm}{R:K3}:rIsi [.ref p,.ty "list"] (put M p (.lst ws)) R↔R (.bl true) (put M p (.lst ws)):=
 zaS (n:="list") (fun m=>Iff.intro (fun h=>h.elim And.left (fun h=>h.2.elim (fun⟨_,e⟩=>nomatch zad.symm.trans e) (fun⟨_,e⟩=>nomatch zad.symm.trans e))) (fun e=>Or.inl ⟨e,ws,zad⟩)) (by decide)
theorem zv9{neg:Bool}{i j:Int}{M:Mm}{R:K3}:L3.rEq neg (.int i) (.int j) M R=R (.bl (if neg then !decide (i=j) else decide (i=j))) M:=rfl
theorem zwa{neg:Bool}{i j:Str}{M:Mm}{R:K3}:L3.rEq neg (.str i) (.str j) M R=R (.bl (if neg then !decide (i=j) else decide (i=j))) M:=rfl
theorem zwb{neg:Bool}{i j:Bool}{M:Mm}{R:K3}:L3.rEq neg (.bl i) (.bl j) M R=R (.bl (if neg then !decide (i=j) else decide (i=j))) M:=rfl
theorem zfB{M:Mm}{a:Addr}{k:Str}{v:W}{kvs:List (Key×W)}{Q:Mm→Prop}(h:M a=some (.dK kvs))(hl:kvs.length < sizeLine)(q:Q (put M a (.dK (putW kvs (Sum.inr k) v)))):zll (.ref a) (.str k) v M Q:=.inr (.inl ⟨kvs,.inr k,rfl,h,hl,q⟩)
theorem setT{M:Mm}{a:Addr}{k:List Key}{v:W}{kvs:List (List Key×W)}{Q:Mm→Prop}(h:M a=some (.dT kvs))(hl:kvs.length < sizeLine)(q:Q (put M a (.dT (putW kvs k v)))):zll (.ref a) (.tup (k.map wK)) v M Q:=.inr (.inr ⟨kvs,k,rfl,h,hl,q⟩)
theorem setL{M:Mm}{a:Addr}{k:Int}{v:W}{ws:List W}{Q:Mm→Prop}(h:M a=some (.lst ws))(h0:0≤k)(h1:k < ws.length)(q:Q (put M a (.lst (ws.set k.toNat v)))):zll (.ref a) (.int k) v M Q:=
 .inl ⟨ws,k,k.toNat,rfl,h,by unfold ixN;rw[if_pos h0,if_pos h1],q⟩
end L3
namespace L3
open PySem PySem.Spec PyProof.Rows L2
section
variable {X:Cx}{a b c:Expr}{ta tb tc:TE3}{pos:Pos}
def rAbs:List W→Mm→K3→Prop
 | [.int i],M,R=>R (.int (if i < 0 then -i else i)) M
 | _,_,_=>False
theorem zxN:zbx X (.builtin "abs") (upC X.K rAbs):=by
 rintro pins s σ H xs us Q I rs ⟨ws,M,R,am,axs,h,k⟩
 match ws,h with
 | [.int i],h=>
  obtain⟨v,rfl,av⟩:=axs.one
  cases av
  exact zqX pins s σ H _ us Q I rs ⟨i,rfl,k.at am (.int _) h⟩
theorem zpH{bs:List Bool}:(List.range bs.length).any (fun i=>bs.getD i false)=bs.any id:=by
 induction bs with
 | nil=>rfl
 | cons b r ih=>
  rw[List.length_cons,List.range_succ_eq_map,List.any_cons,List.any_map,List.any_cons]
  have:((fun i=>(b :: r).getD i false) ∘ Nat.succ)=fun i=>r.getD i false:=by
   funext i;simp[List.getD]
  rw[this,ih]
  simp
theorem zly(hc:X.calm=true):zbx X (.builtin "any") (fun xs H Q=>∃ (p:Addr) (bs:List Bool),xs=[.ref p]∧SqL X.K H p (bs.map V.bl)∧Q (.bl (bs.any id)) H):=by
 intro pins s σ H xs us Q I r h
 obtain⟨p,bs,rfl,hq,q⟩:=h
 obtain⟨u,rfl,ru⟩:=zf4 r
 cases ru
 obtain⟨its,rv,pl,hz⟩:=I.list hq
 have hlt:p < s.heap.objs.size:=by obtain⟨_,e,_⟩:=pl.isList;exact Heap.lt_size e
 refine call_any_walk (wpAny_pyIter_list pl.isList ?_)
 have hA:X.A.in1.handled=none:=I.ok.hd hc
 refine⟨s.heap.objs.size,[s.heap.objs.size,p],[s.heap.objs.size],its.toArray.size,(fun i v=>its.toArray[i]? = some v),_,(fun i=>bs.getD i false),rfl,Walks.list hA s.heap.objs.size p (Nat.ne_of_lt hlt) its.toArray,
  ⟨⟨_,Heap.get?_push_size _ rfl,rfl,rfl⟩,pl.isList.push _⟩,?_,fun h' tk hk=>?_⟩
 ·intro i v s' Q' E' hv hQ'
  have hv':its[i]? = some v:=by simpa using hv
  have hi:i < its.length:=(List.getElem?_eq_some_iff.mp hv').1
  have hl:=rv.length
  rw[List.length_map] at hl
  have hb:bs[i]? = some (bs.getD i false):=by
   have hi':i < bs.length:=by omega
   simp[List.getD,List.getElem?_eq_getElem hi']
  obtain⟨u,hu,ru⟩:=rv.get (i:=i) (x:=.bl (bs.getD i false)) (by rw[List.getElem?_map,hb];rfl)
  rw[hv'] at hu;cases hu
  cases (show v=Value.bool (bs.getD i false) from ru)
  exact wpAny_pure hQ'
 ·have hl:=rv.length
  rw[List.length_map] at hl
  have e:(List.range its.toArray.size).any (fun i=>bs.getD i false)=bs.any id:=by
   rw[List.size_toArray,←hl,zpH]
  rw[e]
  refine⟨.bl (bs.any id),H,?_,rfl,q⟩
  exact I.kept (t':=tk) fun b o eb=>hk b o (fun z=>by
   have:b=s.heap.objs.size:=by simpa using z
   exact absurd (Heap.lt_size eb) (by rw[this];exact Nat.lt_irrefl _)) (Heap.get?_push_of_some _ eb)
def rAny:List W→Mm→K3→Prop
 | [.ref a],M,R=>∃ bs,M a=some (.lst (bools bs))∧R (.bl (bs.any id)) M
 | [.rl ws],M,R=>∃ bs,ws=bools bs∧R (.bl (bs.any id)) M
 | _,_,_=>False
theorem zxO(hc:X.calm=true):zbx X (.builtin "any") (upC X.K rAny):=by
 rintro pins s σ H xs us Q I rs ⟨ws,M,R,am,axs,h,k⟩
 match ws,h with
 | [.ref a],h=>
  obtain⟨v,rfl,av⟩:=axs.one
  cases av
  obtain⟨bs,e,r⟩:=h
  obtain⟨vs,f,q⟩:=am.lst e
  rw[q.bools] at f
  exact zly hc pins s σ H _ us Q I rs ⟨a,bs,rfl,SqL.of f,k.at am (.bl _) r⟩
 | [.rl ws],h=>
  obtain⟨v,rfl,av⟩:=axs.one
  obtain⟨bs,rfl,r⟩:=h
  cases av with
  | rl f _ q=>
   rw[q.bools] at f
   exact zly hc pins s σ H _ us Q I rs ⟨_,bs,rfl,SqL.of f,k.at am (.bl _) r⟩
def rRev:W→List W→Mm→K3→Prop
 | .ref l,[],M,R=>∃ ws,M l=some (.lst ws)∧R .non (put M l (.lst ws.reverse))
 | _,_,_,_=>False
theorem zpI:MtR X "list.reverse" (upM X.K rRev):=by
 rintro pins s σ H x xs v us Q I rx rs ⟨wx,ws,M,R,am,ax,axs,h,k⟩
 match wx,ws,h with
 | .ref l,[],h=>
  cases axs
  cases ax
  obtain⟨ws,e,r⟩:=h
  obtain⟨vs,f,q⟩:=am.lst e
  exact zoq pins s σ H _ _ v us Q I rx rs ⟨l,vs,rfl,rfl,f,zjD am k e q.reverse .non r⟩
end
end L3
namespace L3
open PySem PySem.Spec PyProof.Rows L2
def zgB:Nat→List W→List W
 | _,[]=>[]
 | n,w :: r=>.tup [.int n,w] :: zgB (n + 1) r
theorem ziw:∀ {ws:List W} {n:Nat},(zgB n ws).length=ws.length
 | [],_=>rfl
 | _ :: r,n=>by simp[zgB,ziw (ws:=r)]
theorem zix:∀ {ws:List W} {n i:Nat},(zgB n ws)[i]? = (ws[i]?).map fun w=>W.tup [.int ((n + i:Nat):Int),w]
 | [],_,_=>by simp[zgB]
 | w :: r,n,0=>by simp[zgB]
 | w :: r,n,i + 1=>by
  rw[zgB,List.getElem?_cons_succ,List.getElem?_cons_succ,zix]
  congr 2
  funext w
  congr 4
  omega
section
variable {X:Cx}{a b c:Expr}{ta tb tc:TE3}{pos:Pos}
theorem zpJ{K:PySem.W.Frag}{H0:Hp}{M0:Mm}{p:Addr}{vs:List V}{ws:List W}{keep:Mm→Prop}(q0:AVs K H0 M0 vs ws)(am0:AM K H0 M0)(st:∀ H M,Kp H0 M0 H M→AM K H M→keep M→SqL K H p vs):ItOk K H0 M0 (Ite K p vs) (zgB 0 ws) keep:=by
 refine⟨fun i H M k am kp hi=>⟨st H M k am kp,by rw[ziw] at hi;rw[q0.length];exact hi⟩,fun H M k am kp=>⟨st H M k am kp,by rw[ziw,q0.length];exact Nat.le_refl _⟩,fun i H M x H' k am kp hi y=>?_⟩
 obtain⟨pp,u,hu,hn,rfl,rfl⟩:=y
 obtain⟨w,hw,av⟩:=(q0.kp am0 k).getV hu
 obtain⟨am2,k2⟩:=am.tup (u:=.tup [.int (i:Nat),u]) hn
 refine⟨.tup [.int ((i:Nat):Int),w],by rw[zix,hw];simp,k2,am2,.tup zar (.cons (.int _) (.cons (av.go (zmv hn)) .nil))⟩
def zdP(ta:TA3):TI3:=fun τ M R=>ta τ M fun ws M1=>match ws with
 | [.rl zs]=>R (zgB 0 zs) (fun _=>True) M1
 | [.sc zs]=>R (zgB 0 zs) (fun _=>True) M1
 | [.ref p]=>∃ zs,M1 p=some (.lst zs)∧False
 | _=>False
theorem ziy{tA:TA3}{p pos:Pos}{es:List Expr}{kx:Nat}{px:Pos}(hg:Gl X "enumerate")(hm:X.mg "enumerate" = none)(ha:A3 X [a] tA)(hs:starEach [a] X.env=[(false,eval a X.env)]:=by rfl):PI X (.Tuple es kx px) (.Call (.Name "enumerate" p) [a] [] pos) (upI X.K (zdP tA)):=
 (ztx hg hm ha hs).weak fun σ H R' ⟨τ,M,R,as,am,h,k⟩=>⟨τ,M,_,as,am,h,fun vs H1 ws M1 k1 am1 ax r=>by
  match ws,r with
  | [.rl zs],r=>
   obtain⟨v,rfl,av⟩:=ax.one
   cases av with
   | rl e n q=>exact⟨_,_,rfl,SqL.of e,k _ _ _ _ _ k1 am1 (zpJ q am1 fun H M k _ _=>SqL.of (k.fr _ _ n e).1) r⟩
  | [.sc zs],r=>
   obtain⟨v,rfl,av⟩:=ax.one
   cases av with
   | sc e q=>exact⟨_,_,rfl,e.sq,k _ _ _ _ _ k1 am1 (zpJ q am1 fun H M k _ _=>by
     refine SqR.sq ?_
     rcases e with⟨o,e⟩ | e
     ·exact .inl ⟨o,(k.fr _ _ (am1.noFrz e) e).1⟩
     ·exact .inr e) r⟩
  | [.ref p],r=>obtain⟨_,_,f⟩:=r;exact f.elim⟩
end
end L3
namespace L3
open PySem PySem.Spec PyProof.Rows L2
theorem ztS:∀ (z0:Mm) (z1:Bool→Mm→Prop),vTru W.non z0 z1=z1 Bool.false z0:=by intros;rfl
theorem ztT:∀ (z0:Mm) (z1:Bool→Mm→Prop) (b:Bool),vTru (W.bl b) z0 z1=z1 b z0:=by intros;rfl
theorem ztU:∀ (z0:Mm) (z1:Bool→Mm→Prop) (i:Int),vTru (W.int i) z0 z1=z1 (i != 0) z0:=by intros;rfl
theorem ztV:∀ (z0:Mm) (z1:Bool→Mm→Prop) (y:PySem.Str),vTru (W.str y) z0 z1=(Str.length y≤PySem.sizeLine∧z1 ((↑(Str.length y):Int) != 0) z0):=by intros;rfl
theorem ztW:∀ (z0:Mm) (z1:Bool→Mm→Prop) (ws:List W),vTru (W.tup ws) z0 z1=z1 (!List.isEmpty ws) z0:=by intros;rfl
theorem ztX:∀ (z0:Mm) (z1:Bool→Mm→Prop) (ws:List W),vTru (W.rl ws) z0 z1=z1 (!List.isEmpty ws) z0:=by intros;rfl
theorem ztY:∀ (z0:Mm) (z1:Bool→Mm→Prop) (ws:List W),vTru (W.sc ws) z0 z1=z1 (!List.isEmpty ws) z0:=by intros;rfl
theorem ztZ:∀ (z0:Mm) (z1:Bool→Mm→Prop) (kvs:List (L2.Key×W)),vTru (W.dk kvs) z0 z1=z1 (!List.isEmpty kvs) z0:=by intros;rfl
theorem zt0:∀ (z0:Mm) (z1:Bool→Mm→Prop) (p:PySem.Addr),vTru (W.ref p) z0 z1=((∃ (ws:List W),z0 p=Option.some (MO.lst ws)∧z1 (!List.isEmpty ws) z0)∨∃ (kvs:List (L2.Key×W)),z0 p=Option.some (MO.dK kvs)∧z1 (!List.isEmpty kvs) z0):=by intros;rfl
theorem zt1:∀ (z0:Mm) (z1:List W→(Mm→Prop)→Mm→Prop) (ws:List W),rItN (W.tup ws) z0 z1=z1 ws (fun(x:Mm)=>True) z0:=by intros;rfl
theorem zt2:∀ (z0:Mm) (z1:List W→(Mm→Prop)→Mm→Prop) (ws:List W),rItN (W.rl ws) z0 z1=z1 ws (fun(x:Mm)=>True) z0:=by intros;rfl
theorem zt3:∀ (z0:Mm) (z1:List W→(Mm→Prop)→Mm→Prop) (ws:List W),rItN (W.sc ws) z0 z1=z1 ws (fun(x:Mm)=>True) z0:=by intros;rfl
theorem zt4:∀ (z0:Mm) (z1:List W→(Mm→Prop)→Mm→Prop) (z:PySem.Str),rItN (W.str z) z0 z1=z1 (List.map (fun(c:Nat)=>W.str {cps:=#[c]}) (Array.toList (PySem.Str.cps z))) (fun(x:Mm)=>True) z0:=by intros;rfl
theorem zt5:∀ (z0:Mm) (z1:List W→(Mm→Prop)→Mm→Prop) (a:PySem.Addr),rItN (W.ref a) z0 z1 = ∃ (ws:List W),z0 a=Option.some (MO.lst ws)∧z1 ws (fun(M:Mm)=>M a=Option.some (MO.lst ws)) z0:=by intros;rfl
theorem zwc:∀ (z0:Mm) (z1:List W→(Mm→Prop)→Mm→Prop) (ws:List W),rIt (W.tup ws) z0 z1=z1 ws (fun(x:Mm)=>True) z0:=by intros;rfl
theorem zwd:∀ (z0:Mm) (z1:List W→(Mm→Prop)→Mm→Prop) (ws:List W),rIt (W.rl ws) z0 z1=z1 ws (fun(x:Mm)=>True) z0:=by intros;rfl
theorem zwe:∀ (z0:Mm) (z1:List W→(Mm→Prop)→Mm→Prop) (ws:List W),rIt (W.sc ws) z0 z1=z1 ws (fun(x:Mm)=>True) z0:=by intros;rfl
theorem zwf:∀ (z0:Mm) (z1:List W→(Mm→Prop)→Mm→Prop) (a:PySem.Addr),rIt (W.ref a) z0 z1 = ∃ (ws:List W),z0 a=Option.some (MO.lst ws)∧z1 ws (fun(M:Mm)=>M a=Option.some (MO.lst ws)) z0:=by intros;rfl
theorem zt6:∀ (z0:Mm) (z1:K3) (i j:Int),rAdd (W.int i) (W.int j) z0 z1=z1 (W.int (i + j)) z0:=by intros;rfl
theorem zt7:∀ (z0:Mm) (z1:K3) (i j:PySem.Str),rAdd (W.str i) (W.str j) z0 z1=(Str.length i + Str.length j≤PySem.sizeLine∧z1 (W.str (i ++ j)) z0):=by intros;rfl
theorem zt8:∀ (z0:Mm) (z1:K3) (xs ys:List W),rAdd (W.tup xs) (W.tup ys) z0 z1=(xs≠[]∧List.length xs + List.length ys≤PySem.sizeLine∧z1 (W.tup (xs ++ ys)) z0):=by intros;rfl
theorem zt9:∀ (z0:Mm) (z1:K3) (a b:PySem.Addr),rAdd (W.ref a) (W.ref b) z0 z1 = ∃ (xs:List W),∃ (ys:List W),z0 a=Option.some (MO.lst xs)∧z0 b=Option.some (MO.lst ys)∧List.length xs + List.length ys≤PySem.sizeLine∧New (xs ++ ys) z0 z1:=by intros;rfl
theorem zua:∀ (z0:Mm) (z1:K3) (xs:List W) (b:PySem.Addr),rAdd (W.rl xs) (W.ref b) z0 z1 = ∃ (ys:List W),z0 b=Option.some (MO.lst ys)∧List.length xs + List.length ys≤PySem.sizeLine∧New (xs ++ ys) z0 z1:=by intros;rfl
theorem zub:∀ (z0:Mm) (z1:K3) (a:PySem.Addr) (ys:List W),rAdd (W.ref a) (W.rl ys) z0 z1 = ∃ (xs:List W),z0 a=Option.some (MO.lst xs)∧List.length xs + List.length ys≤PySem.sizeLine∧New (xs ++ ys) z0 z1:=by intros;rfl
theorem zuc:∀ (z0:Mm) (z1:K3) (xs ys:List W),rAdd (W.rl xs) (W.rl ys) z0 z1=(List.length xs + List.length ys≤PySem.sizeLine∧New (xs ++ ys) z0 z1):=by intros;rfl
theorem zrx:∀ (z0:Mm) (z1:K3) (i j:Int),zci (W.int i) (W.int j) z0 z1=z1 (W.int (i + j)) z0:=by intros;rfl
theorem zry:∀ (z0:Mm) (z1:K3) (i j:PySem.Str),zci (W.str i) (W.str j) z0 z1=(Str.length i + Str.length j≤PySem.sizeLine∧z1 (W.str (i ++ j)) z0):=by intros;rfl
theorem zrz:∀ (z0:Mm) (z1:K3) (xs ys:List W),zci (W.tup xs) (W.tup ys) z0 z1=(xs≠[]∧List.length xs + List.length ys≤PySem.sizeLine∧z1 (W.tup (xs ++ ys)) z0):=by intros;rfl
theorem zrA:∀ (z0:Mm) (z1:K3) (a b:PySem.Addr),zci (W.ref a) (W.ref b) z0 z1 = ∃ (xs:List W),∃ (ys:List W),z0 a=Option.some (MO.lst xs)∧z0 b=Option.some (MO.lst ys)∧List.length xs + List.length ys≤PySem.sizeLine∧z1 (W.rl (xs ++ ys)) z0:=by intros;rfl
theorem zrB:∀ (z0:Mm) (z1:K3) (xs:List W) (b:PySem.Addr),zci (W.rl xs) (W.ref b) z0 z1 = ∃ (ys:List W),z0 b=Option.some (MO.lst ys)∧List.length xs + List.length ys≤PySem.sizeLine∧z1 (W.rl (xs ++ ys)) z0:=by intros;rfl
theorem zrC:∀ (z0:Mm) (z1:K3) (a:PySem.Addr) (ys:List W),zci (W.ref a) (W.rl ys) z0 z1 = ∃ (xs:List W),z0 a=Option.some (MO.lst xs)∧List.length xs + List.length ys≤PySem.sizeLine∧z1 (W.rl (xs ++ ys)) z0:=by intros;rfl
theorem zrD:∀ (z0:Mm) (z1:K3) (xs ys:List W),zci (W.rl xs) (W.rl ys) z0 z1=(List.length xs + List.length ys≤PySem.sizeLine∧z1 (W.rl (xs ++ ys)) z0):=by intros;rfl
theorem zud:∀ (g:Int→Int→W) (z1:Mm) (z2:K3) (i j:Int),rII0 g (W.int i) (W.int j) z1 z2=z2 (g i j) z1:=by intros;rfl
theorem zwg:∀ (C:Int→Int→Prop) (g:Int→Int→W) (z2:Mm) (z3:K3) (i j:Int),rII C g (W.int i) (W.int j) z2 z3=(C i j∧z3 (g i j) z2):=by intros;rfl
theorem zwh:∀ (z0:Mm) (z1:K3) (i j:Int),rLt (W.int i) (W.int j) z0 z1=z1 (W.bl (Decidable.decide (i < j))) z0:=by intros;rfl
theorem zwi:∀ (z0:Mm) (z1:K3) (i j:PySem.Str),rLt (W.str i) (W.str j) z0 z1=z1 (W.bl (zj4 i j)) z0:=by intros;rfl
theorem zue:∀ (z0:Mm) (z1:K3) (i:Int),rNeg (W.int i) z0 z1=z1 (W.int (-i)) z0:=by intros;rfl
theorem zwj:∀ (z0:Mm) (z1:K3) (ws:List W) (i:Int),rIx (W.tup ws) (W.int i) z0 z1 = ∃ (w:W),L2.atI ws i=Option.some w∧z1 w z0:=by intros;rfl
theorem zwk:∀ (z0:Mm) (z1:K3) (ws:List W) (i:Int),rIx (W.rl ws) (W.int i) z0 z1 = ∃ (w:W),L2.atI ws i=Option.some w∧z1 w z0:=by intros;rfl
theorem zwl:∀ (z0:Mm) (z1:K3) (ws:List W) (i:Int),rIx (W.sc ws) (W.int i) z0 z1 = ∃ (w:W),L2.atI ws i=Option.some w∧z1 w z0:=by intros;rfl
theorem zwm:∀ (z0:W) (z1:Mm) (z2:K3) (kvs:List (L2.Key×W)),rIx (W.dk kvs) z0 z1 z2 = ∃ (w:W),dGet z1 (W.dk kvs) z0 (Option.some w)∧z2 w z1:=by intros;rfl
theorem zwn:∀ (z0:W) (z1:Mm) (z2:K3) (kvs:List (List L2.Key×W)),rIx (W.dt kvs) z0 z1 z2 = ∃ (w:W),dGet z1 (W.dt kvs) z0 (Option.some w)∧z2 w z1:=by intros;rfl
theorem zwo:∀ (z0:Mm) (z1:K3) (z:PySem.Str) (i:Int),rIx (W.str z) (W.int i) z0 z1=(Str.length z≤PySem.sizeLine∧∃ (c:Nat),L2.atI (Array.toList (PySem.Str.cps z)) i=Option.some c∧z1 (W.str {cps:=#[c]}) z0):=by intros;rfl
theorem zwp:∀ (z0:Mm) (z1:K3) (a:PySem.Addr) (i:Int),rIx (W.ref a) (W.int i) z0 z1=((∃ (ws:List W),∃ (w:W),z0 a=Option.some (MO.lst ws)∧L2.atI ws i=Option.some w∧z1 w z0)∨∃ (w:W),dGet z0 (W.ref a) (W.int i) (Option.some w)∧z1 w z0):=by intros;rfl
theorem zwq:∀ (z0:W) (z1:Mm) (z2:K3) (a:PySem.Addr),(∀ (i:Int),z0=W.int i→False)→rIx (W.ref a) z0 z1 z2 = ∃ (w:W),dGet z1 (W.ref a) z0 (Option.some w)∧z2 w z1:=by
 intro x M R a h;cases x <;> first | rfl | exact(h _ rfl).elim
theorem zuf:∀ (z0:Mm) (z1:K3) (ws:List W),rLen [W.tup ws] z0 z1=z1 (W.int (↑(List.length ws):Int)) z0:=by intros;rfl
theorem zug:∀ (z0:Mm) (z1:K3) (ws:List W),rLen [W.rl ws] z0 z1=z1 (W.int (↑(List.length ws):Int)) z0:=by intros;rfl
theorem zuh:∀ (z0:Mm) (z1:K3) (ws:List W),rLen [W.sc ws] z0 z1=z1 (W.int (↑(List.length ws):Int)) z0:=by intros;rfl
theorem zui:∀ (z0:Mm) (z1:K3) (kvs:List (L2.Key×W)),rLen [W.dk kvs] z0 z1=z1 (W.int (↑(List.length kvs):Int)) z0:=by intros;rfl
theorem zuj:∀ (z0:Mm) (z1:K3) (z:PySem.Str),rLen [W.str z] z0 z1=(Str.length z≤PySem.sizeLine∧z1 (W.int (↑(Str.length z):Int)) z0):=by intros;rfl
theorem zuk:∀ (z0:Mm) (z1:K3) (a:PySem.Addr),rLen [W.ref a] z0 z1=((∃ (ws:List W),z0 a=Option.some (MO.lst ws)∧z1 (W.int (↑(List.length ws):Int)) z0)∨∃ (kvs:List (L2.Key×W)),z0 a=Option.some (MO.dK kvs)∧z1 (W.int (↑(List.length kvs):Int)) z0):=by intros;rfl
theorem zrE:∀ (z0:Mm) (z1:K3) (ws:List W),zmw [W.tup ws] z0 z1=New ws z0 z1:=by intros;rfl
theorem zrF:∀ (z0:Mm) (z1:K3) (ws:List W),zmw [W.rl ws] z0 z1=New ws z0 z1:=by intros;rfl
theorem zrG:∀ (z0:Mm) (z1:K3) (ws:List W),zmw [W.sc ws] z0 z1=New ws z0 z1:=by intros;rfl
theorem zrH:∀ (z0:Mm) (z1:K3) (kvs:List (L2.Key×W)),zmw [W.dk kvs] z0 z1=New (List.map (fun(kv:L2.Key×W)=>wK (Prod.fst kv)) kvs) z0 z1:=by intros;rfl
theorem zrI:∀ (z0:Mm) (z1:K3) (a:PySem.Addr),zmw [W.ref a] z0 z1=((∃ (ws:List W),z0 a=Option.some (MO.lst ws)∧New ws z0 z1)∨∃ (kvs:List (L2.Key×W)),z0 a=Option.some (MO.dK kvs)∧New (List.map (fun(kv:L2.Key×W)=>wK (Prod.fst kv)) kvs) z0 z1):=by intros;rfl
theorem zpK:∀ (z0:Mm) (z1:K3) (ws:List W),ziv [W.tup ws] z0 z1=z1 (W.rl ws) z0:=by intros;rfl
theorem zpL:∀ (z0:Mm) (z1:K3) (ws:List W),ziv [W.rl ws] z0 z1=z1 (W.rl ws) z0:=by intros;rfl
theorem zpM:∀ (z0:Mm) (z1:K3) (ws:List W),ziv [W.sc ws] z0 z1=z1 (W.rl ws) z0:=by intros;rfl
theorem zpN:∀ (z0:Mm) (z1:K3) (kvs:List (L2.Key×W)),ziv [W.dk kvs] z0 z1=z1 (W.rl (List.map (fun(kv:L2.Key×W)=>wK (Prod.fst kv)) kvs)) z0:=by intros;rfl
theorem zpO:∀ (z0:Mm) (z1:K3) (a:PySem.Addr),ziv [W.ref a] z0 z1=((∃ (ws:List W),z0 a=Option.some (MO.lst ws)∧z1 (W.rl ws) z0)∨∃ (kvs:List (L2.Key×W)),z0 a=Option.some (MO.dK kvs)∧z1 (W.rl (List.map (fun(kv:L2.Key×W)=>wK (Prod.fst kv)) kvs)) z0):=by intros;rfl
theorem zpP:∀ (z0:Mm) (z1:K3) (ws:List W),zli [W.tup ws] z0 z1=z1 (W.tup ws) z0:=by intros;rfl
theorem zpQ:∀ (z0:Mm) (z1:K3) (ws:List W),zli [W.rl ws] z0 z1=z1 (W.tup ws) z0:=by intros;rfl
theorem zpR:∀ (z0:Mm) (z1:K3) (a:PySem.Addr),zli [W.ref a] z0 z1 = ∃ (ws:List W),z0 a=Option.some (MO.lst ws)∧z1 (W.tup ws) z0:=by intros;rfl
theorem zul:∀ (z0 z1:Option Int) (z2:Mm) (z3:K3) (ws:List W),rSlF (W.rl ws) z0 z1 z2 z3=z3 (W.rl (cutW ws z0 z1)) z2:=by intros;rfl
theorem zum:∀ (z0 z1:Option Int) (z2:Mm) (z3:K3) (ws:List W),rSlF (W.sc ws) z0 z1 z2 z3=z3 (W.rl (cutW ws z0 z1)) z2:=by intros;rfl
theorem zun:∀ (z0 z1:Option Int) (z2:Mm) (z3:K3) (a:PySem.Addr),rSlF (W.ref a) z0 z1 z2 z3 = ∃ (ws:List W),z2 a=Option.some (MO.lst ws)∧z3 (W.rl (cutW ws z0 z1)) z2:=by intros;rfl
theorem zuo:∀ (z0 z1:Option Int) (z2:Mm) (z3:K3) (ws:List W),rSlF (W.tup ws) z0 z1 z2 z3=(¬(HT.sIx (List.length ws) 0 z0=0∧HT.sIx (List.length ws) (List.length ws) z1=List.length ws)∧z3 (W.tup (cutW ws z0 z1)) z2):=by intros;rfl
theorem zwr:∀ (z0 z1:Option Int) (z2:Mm) (z3:K3) (ws:List W),rSl (W.rl ws) z0 z1 z2 z3=New (cutW ws z0 z1) z2 z3:=by intros;rfl
theorem zws:∀ (z0 z1:Option Int) (z2:Mm) (z3:K3) (ws:List W),rSl (W.sc ws) z0 z1 z2 z3=New (cutW ws z0 z1) z2 z3:=by intros;rfl
theorem zwt:∀ (z0 z1:Option Int) (z2:Mm) (z3:K3) (a:PySem.Addr),rSl (W.ref a) z0 z1 z2 z3 = ∃ (ws:List W),z2 a=Option.some (MO.lst ws)∧New (cutW ws z0 z1) z2 z3:=by intros;rfl
theorem zwu:∀ (z0 z1:Option Int) (z2:Mm) (z3:K3) (ws:List W),rSl (W.tup ws) z0 z1 z2 z3=(¬(HT.sIx (List.length ws) 0 z0=0∧HT.sIx (List.length ws) (List.length ws) z1=List.length ws)∧z3 (W.tup (cutW ws z0 z1)) z2):=by intros;rfl
theorem zup:∀ (z0:Mm) (z1:K3) (l:PySem.Addr) (y:W),rApp (W.ref l) [y] z0 z1 = ∃ (ws:List W),z0 l=Option.some (MO.lst ws)∧List.length ws < PySem.sizeLine∧z1 W.non (put z0 l (MO.lst (ws ++ [y]))):=by intros;rfl
theorem zuq:∀ (z0:Mm) (z1:K3) (l b:PySem.Addr),rExt (W.ref l) [W.ref b] z0 z1 = ∃ (ws:List W),∃ (zs:List W),z0 l=Option.some (MO.lst ws)∧z0 b=Option.some (MO.lst zs)∧List.length ws + List.length zs≤PySem.sizeLine∧z1 W.non (put z0 l (MO.lst (ws ++ zs))):=by intros;rfl
theorem zur:∀ (z0:Mm) (z1:K3) (l:PySem.Addr) (zs:List W),rExt (W.ref l) [W.rl zs] z0 z1 = ∃ (ws:List W),z0 l=Option.some (MO.lst ws)∧List.length ws + List.length zs≤PySem.sizeLine∧z1 W.non (put z0 l (MO.lst (ws ++ zs))):=by intros;rfl
theorem zus:∀ (z0:Mm) (z1:K3) (l:PySem.Addr),rPop (W.ref l) [] z0 z1 = ∃ (ws:List W),∃ (w:W),z0 l=Option.some (MO.lst (ws ++ [w]))∧z1 w (put z0 l (MO.lst ws)):=by intros;rfl
theorem zwv:∀ (T:String) (z1:Mm) (x_2:PySem.Str),tyW T (W.str x_2) z1=(T = "str"):=by intros;rfl
theorem zww:∀ (T:String) (z1:Mm) (i:Int),tyW T (W.int i) z1=(T = "int"):=by intros;rfl
theorem zwx:∀ (T:String) (z1:Mm) (ws:List W),tyW T (W.rl ws) z1=(T = "list"):=by intros;rfl
theorem zwy:∀ (T:String) (z1:Mm) (ws:List W),tyW T (W.sc ws) z1=(T = "list"):=by intros;rfl
theorem zwz:∀ (T:String) (z1:Mm) (kvs:List (L2.Key×W)),tyW T (W.dk kvs) z1=(T = "dict"):=by intros;rfl
theorem zwA:∀ (T:String) (z1:Mm) (kvs:List (List L2.Key×W)),tyW T (W.dt kvs) z1=(T = "dict"):=by intros;rfl
theorem zwB:∀ (T:String) (z1:Mm) (p:PySem.Addr),tyW T (W.ref p) z1=((T = "list"∧∃ (ws:List W),z1 p=Option.some (MO.lst ws))∨T = "dict"∧((∃ (kvs:List (L2.Key×W)),z1 p=Option.some (MO.dK kvs))∨∃ (kvs:List (List L2.Key×W)),z1 p=Option.some (MO.dT kvs))):=by intros;rfl
theorem zut:∀ (z0:Mm) (z1:K3) (i j:Int),rMul (W.int i) (W.int j) z0 z1=((L2.CMul i j∨L2.CBig i j)∧z1 (W.int (i * j)) z0):=by intros;rfl
theorem zuu:∀ (z0:Mm) (z1:K3) (z:PySem.Str) (n:Int),rMul (W.str z) (W.int n) z0 z1=(Str.length z≤16∧-2 ^ 63≤n∧n≤1048576∧z1 (W.str (PySem.Txt.mul z n)) z0):=by intros;rfl
theorem zuv:∀ (z0:Mm) (z1:K3) (a:PySem.Addr) (n:Int),rMul (W.ref a) (W.int n) z0 z1 = ∃ (xs:List W),z0 a=Option.some (MO.lst xs)∧-2 ^ 63≤n∧n < 2 ^ 63∧List.length xs * Int.toNat n≤PySem.sizeLine∧New (List.flatten (List.replicate (Int.toNat n) xs)) z0 z1:=by intros;rfl
theorem zuw:∀ (z0:Mm) (z1:K3) (xs:List W) (n:Int),rMul (W.rl xs) (W.int n) z0 z1=(-2 ^ 63≤n∧n < 2 ^ 63∧List.length xs * Int.toNat n≤PySem.sizeLine∧New (List.flatten (List.replicate (Int.toNat n) xs)) z0 z1):=by intros;rfl
theorem zrJ:∀ (z0:Mm) (z1:K3) (i j:Int),zj6 (W.int i) (W.int j) z0 z1=((L2.CMul i j∨L2.CBig i j)∧z1 (W.int (i * j)) z0):=by intros;rfl
theorem zrK:∀ (z0:Mm) (z1:K3) (z:PySem.Str) (n:Int),zj6 (W.str z) (W.int n) z0 z1=(Str.length z≤16∧-2 ^ 63≤n∧n≤1048576∧z1 (W.str (PySem.Txt.mul z n)) z0):=by intros;rfl
theorem zrL:∀ (z0:Mm) (z1:K3) (a:PySem.Addr) (n:Int),zj6 (W.ref a) (W.int n) z0 z1 = ∃ (xs:List W),z0 a=Option.some (MO.lst xs)∧-2 ^ 63≤n∧n < 2 ^ 63∧List.length xs * Int.toNat n≤PySem.sizeLine∧z1 (W.rl (List.flatten (List.replicate (Int.toNat n) xs))) z0:=by intros;rfl
theorem zrM:∀ (z0:Mm) (z1:K3) (xs:List W) (n:Int),zj6 (W.rl xs) (W.int n) z0 z1=(-2 ^ 63≤n∧n < 2 ^ 63∧List.length xs * Int.toNat n≤PySem.sizeLine∧z1 (W.rl (List.flatten (List.replicate (Int.toNat n) xs))) z0):=by intros;rfl
end L3
namespace L3
open PySem PySem.Spec PyProof.Rows L2
section
variable {X:Cx}{a b c:Expr}{ta tb tc:TE3}{pos:Pos}
end
end L3
namespace L3
open PySem PySem.Spec PyProof.Rows L2
section
variable {X:Cx}
theorem AVs.intsL{K:PySem.W.Frag}{H:Hp}{M:Mm}{ns:List Int}{vs:List V}(h:AVs K H M vs (ns.map W.int)):vs=ns.map V.int:=h.ints
def rSum:List W→Mm→K3→Prop
 | [.rl ws],M,R=>∃ ns:List Int,ws=ns.map W.int∧R (.int ns.sum) M
 | _,_,_=>False
theorem zux(hc:X.calm=true):zbx X (.builtin "sum") (upC X.K rSum):=by
 rintro pins s σ H xs us Q I rs ⟨ws,M,R,am,axs,h,k⟩
 match ws,h with
 | [.rl ws],h=>
  obtain⟨v,rfl,av⟩:=axs.one
  obtain⟨ns,rfl,r⟩:=h
  cases av with
  | rl f _ q=>
   rw[q.intsL] at f
   exact zpt hc pins s σ H _ us Q I rs ⟨_,ns,rfl,SqL.of f,k.at am (.int _) r⟩
def zwC:List W→Mm→K3→Prop
 | [.dk kvs],M,R=>∃ ks:List Str,kvs.map Prod.fst=ks.map Sum.inr∧ks.length < 64∧∀ ss:List Str,ss.Perm ks→New (ss.map W.str) M R
 | _,_,_=>False
def zmN:List W→Mm→K3→Prop
 | [.dk kvs],M,R=>∃ ks:List Str,kvs.map Prod.fst=ks.map Sum.inr∧ks.length < 64∧∀ ss:List Str,ss.Perm ks→R (.rl (ss.map W.str)) M
 | _,_,_=>False
theorem zrN{K:PySem.W.Frag}{H:Hp}{M:Mm}(ss:List Str):AVs K H M (ss.map V.str) (ss.map W.str):=by
 induction ss with
 | nil=>exact .nil
 | cons s r ih=>exact .cons (.str s) ih
theorem zuy(hc:X.calm=true):zbx X (.builtin "sorted") (upC X.K zwC):=by
 rintro pins s σ H xs us Q I rs ⟨ws,M,R,am,axs,h,k⟩
 match ws,h with
 | [.dk kvs],h=>
  obtain⟨v,rfl,av⟩:=axs.one
  obtain⟨ks,hk,h64,r⟩:=h
  cases av with
  | dk e n ke q=>exact zhQ hc pins s σ H _ us Q I rs ⟨_,_,ks,rfl,e,ke.trans hk,h64,fun ss hp p hp'=>zeX am k hp' (zrN ss) (r ss hp)⟩
theorem zrO(hc:X.calm=true):zbx X (.builtin "sorted") (upC X.K zmN):=clw (zuy hc) fun x M R h=>by
 match x,h with
 | [.dk kvs],⟨ks,h1,h2,r⟩=>exact⟨ks,h1,h2,fun ss hp=>New.frz (r ss hp)⟩
end
end L3
namespace Rg
open PySem PySem.Spec PyProof.Rows L2 L3
structure Rule where
 name:Str
 parts:List Str
 cost:Int
def addN(acc:List Str)(t:Str):List Str:=if t∈acc then acc else acc ++ [t]
def zc7(acc:List Str)(rs:List Rule):List Str:=(rs.map Rule.name).foldl addN acc
def zak(rs:List Rule):List Str:=zc7 [] rs
theorem zgC{acc:List Str}{t u:Str}:u∈addN acc t↔u∈acc∨u=t:=by
 unfold addN
 split
 ·rename_i h
  constructor
  ·exact .inl
  ·rintro(q | q)
   ·exact q
   ·rw[q];exact h
 ·rw[List.mem_append,List.mem_singleton]
theorem zrP{acc:List Str}{t:Str}:(addN acc t).length≤acc.length + 1:=by
 unfold addN
 split
 ·omega
 ·rw[List.length_append];exact Nat.le_refl _
theorem ziz:∀ {ts acc:List Str} {u:Str},u∈ts.foldl addN acc↔u∈acc∨u∈ts
 | [],acc,u=>by simp
 | t :: r,acc,u=>by
  rw[List.foldl_cons,ziz,zgC,List.mem_cons]
  constructor
  ·rintro((h | h) | h)
   ·exact .inl h
   ·exact .inr (.inl h)
   ·exact .inr (.inr h)
  ·rintro(h | h | h)
   ·exact .inl (.inl h)
   ·exact .inl (.inr h)
   ·exact .inr h
theorem zbN{rs:List Rule}{u:Str}:u∈zak rs↔∃ r∈rs,r.name=u:=by
 unfold zak zc7
 rw[ziz]
 simp
theorem zd6:∀ (ts acc:List Str),(ts.foldl addN acc).length≤acc.length + ts.length
 | [],acc=>by simp
 | t :: r,acc=>by
  rw[List.foldl_cons,List.length_cons]
  have:=zd6 r (addN acc t)
  have:=zrP (acc:=acc) (t:=t)
  omega
def zav(r:Rule):W:=.tup [.str r.name,.tup (r.parts.map W.str),.int r.cost]
def rlW(rs:List Rule):W:=.rl (rs.map zav)
end Rg
namespace Rg
open PySem PySem.Spec PyProof.Rows L2 L3
abbrev Cost:=Int×Int
def ltc(a b:Cost):Bool:=decide (a.1 < b.1) || (decide (a.1=b.1) && decide (a.2 < b.2))
theorem zhc{a b:Cost}:ltc a b=true↔a.1 < b.1∨a.1=b.1∧a.2 < b.2:=by simp[ltc]
def Le(a b:Cost):Prop:=a.1 < b.1∨a.1=b.1∧a.2≤b.2
theorem zpS{a b:Cost}:Le a b↔¬ ltc b a=true:=by
 rw[zhc];unfold Le;omega
theorem Le.refl(a:Cost):Le a a:=.inr ⟨rfl,Int.le_refl _⟩
theorem Le.trans{a b c:Cost}(h:Le a b)(h':Le b c):Le a c:=by unfold Le at *;omega
theorem Le.of_lt{a b:Cost}(h:ltc a b=true):Le a b:=by rw[zhc] at h;unfold Le;omega
theorem Le.antisymm{a b:Cost}(h:Le a b)(h':Le b a):a=b:=by
 unfold Le at *
 exact Prod.ext (by omega) (by omega)
theorem zlz{a:Cost}:¬ ltc a a=true:=by rw[zhc];omega
theorem zpT{a b c:Cost}(h:ltc a b=true)(h':Le b c):ltc a c=true:=by rw[zhc] at *;unfold Le at h';omega
def addc(a b:Cost):Cost:=(a.1 + b.1,a.2 + b.2)
theorem zpU{a b c d:Cost}(h:Le a b)(h':Le c d):Le (addc a c) (addc b d):=by unfold Le addc at *;simp only;omega
section
variable {κ β:Type}[DecidableEq κ]
def aget(t:List (κ×β))(k:κ):Option β:=(t.find? fun e=>decide (e.1=k)).map (·.2)
def aput(t:List (κ×β))(k:κ)(v:β):List (κ×β):=if (t.any fun e=>decide (e.1=k))=true then t.map (fun e=>if e.1=k then(e.1,v) else e) else t ++ [(k,v)]
theorem zai(e:κ×β)(t:List (κ×β))(k:κ):aget (e :: t) k=if e.1=k then some e.2 else aget t k:=by
 unfold aget
 rw[List.find?_cons]
 by_cases h:e.1=k
 ·rw[decide_eq_true h,if_pos h];rfl
 ·rw[decide_eq_false h,if_neg h]
theorem zcj(t:List (κ×β))(k:κ):(t.any fun e=>decide (e.1=k))=(aget t k).isSome:=by
 induction t with
 | nil=>rfl
 | cons e t ih=>
  rw[List.any_cons,zai,ih]
  by_cases h:e.1=k
  ·rw[decide_eq_true h,if_pos h];rfl
  ·rw[decide_eq_false h,if_neg h];rfl
theorem zke(t:List (κ×β))(k j:κ)(v:β):aget (t ++ [(k,v)]) j=(aget t j).or (if k=j then some v else none):=by
 induction t with
 | nil=>rw[List.nil_append,zai];rfl
 | cons e t ih=>
  rw[List.cons_append,zai,zai,ih]
  split <;> rfl
theorem zrQ(t:List (κ×β))(k j:κ)(v:β)(h:(aget t k).isSome=true):aget (t.map (fun e=>if e.1=k then(e.1,v) else e)) j=if k=j then some v else aget t j:=by
 induction t with
 | nil=>cases h
 | cons e t ih=>
  rw[List.map_cons,zai,zai]
  rw[zai] at h
  by_cases hk:e.1=k
  ·rw[if_pos hk]
   by_cases hj:k=j
   ·rw[if_pos (by rw[hk,hj]:(e.1,v).1=j),if_pos hj]
   ·rw[if_neg (by rw[hk];exact hj),if_neg hj,if_neg (by rw[hk];exact hj)]
    by_cases ht:(aget t k).isSome=true
    ·rw[ih ht,if_neg hj]
    ·have:∀ {t:List (κ×β)},¬ (aget t k).isSome=true→t.map (fun e=>if e.1=k then(e.1,v) else e)=t:=by
      intro t
      induction t with
      | nil=>intro _;rfl
      | cons a t ih=>
       intro h
       rw[zai] at h
       by_cases ha:a.1=k
       ·rw[if_pos ha] at h;exact absurd rfl h
       ·rw[if_neg ha] at h
        rw[List.map_cons,if_neg ha,ih h]
     rw[this ht]
  ·rw[if_neg hk] at h ⊢
   by_cases hj:e.1=j
   ·rw[if_pos hj,if_pos hj,if_neg (fun z=>hk (by rw[hj,z]))]
   ·rw[if_neg hj,if_neg hj]
    exact ih h
theorem zay(t:List (κ×β))(k j:κ)(v:β):aget (aput t k v) j=if k=j then some v else aget t j:=by
 unfold aput
 rw[zcj]
 split
 ·rename_i h
  exact zrQ t k j v h
 ·rename_i h
  rw[zke]
  by_cases hj:k=j
  ·subst hj
   rw[if_pos rfl,if_pos rfl]
   cases e:aget t k with
   | none=>rfl
   | some z=>rw[e] at h;exact absurd rfl h
  ·rw[if_neg hj,if_neg hj,Option.or_none]
theorem zh9(t:List (κ×β))(k:κ)(v:β):(aput t k v).length≤t.length + 1:=by
 unfold aput
 split
 ·rw[List.length_map];omega
 ·simp
def zc8{γ:Type}(t:List (κ×List γ))(k:κ)(v:γ):List (κ×List γ):=aput t k ((aget t k).getD [] ++ [v])
theorem zeZ{γ:Type}(t:List (κ×List γ))(k j:κ)(v:γ):(aget (zc8 t k v) j).getD []=if k=j then(aget t j).getD [] ++ [v] else(aget t j).getD []:=by
 unfold zc8
 rw[zay]
 by_cases h:k=j
 ·subst h;rw[if_pos rfl,if_pos rfl];rfl
 ·rw[if_neg h,if_neg h]
end
section
variable {α:Type}
def qput(c:Cost)(x:α):List (Cost×List α)→List (Cost×List α)
 | []=>[(c,[x])]
 | (d,xs) :: r=>if ltc c d=true then(d,xs) :: qput c x r else if d=c then(d,xs ++ [x]) :: r else(c,[x]) :: (d,xs) :: r
def els:List (Cost×List α)→List (Cost×α)
 | []=>[]
 | (d,xs) :: r=>xs.map (fun x=>(d,x)) ++ els r
theorem zd7(c:Cost)(x:α):∀ q:List (Cost×List α),(els (qput c x q)).length=(els q).length + 1
 | []=>rfl
 | (d,xs) :: r=>by
  rw[qput]
  split
  ·rw[els,els,List.length_append,List.length_append,zd7 c x r];omega
  ·split
   ·rw[els,els,List.length_append,List.length_append,List.map_append,List.length_append];simp;omega
   ·simp[els]
def Fall:List (Cost×List α)→Prop
 | []=>True
 | (d,xs) :: r=>xs≠[]∧(∀ e∈r,ltc e.1 d=true)∧Fall r
theorem znE(c:Cost)(x:α):∀ q:List (Cost×List α),∀ e∈qput c x q,e.1=c∨∃ e'∈q,e'.1=e.1
 | [],e,h=>by simp[qput] at h;exact .inl (by rw[h])
 | (d,xs) :: r,e,h=>by
  rw[qput] at h
  split at h
  ·rcases List.mem_cons.mp h with z | z
   ·exact .inr ⟨(d,xs),by simp,by rw[z]⟩
   ·rcases znE c x r e z with q | ⟨e',q1,q2⟩
    ·exact .inl q
    ·exact .inr ⟨e',List.mem_cons_of_mem _ q1,q2⟩
  ·split at h
   ·rcases List.mem_cons.mp h with z | z
    ·exact .inr ⟨(d,xs),by simp,by rw[z]⟩
    ·exact .inr ⟨e,List.mem_cons_of_mem _ z,rfl⟩
   ·rcases List.mem_cons.mp h with z | z
    ·exact .inl (by rw[z])
    ·exact .inr ⟨e,z,rfl⟩
theorem zkf(c:Cost)(x:α):∀ {q:List (Cost×List α)},Fall q→Fall (qput c x q)
 | [],_=>⟨by simp,by simp,trivial⟩
 | (d,xs) :: r,h=>by
  obtain⟨h1,h2,h3⟩:=h
  rw[qput]
  split
  ·rename_i hlt
   refine⟨h1,fun e he=>?_,zkf c x h3⟩
   rcases znE c x r e he with z | ⟨e',z1,z2⟩
   ·rw[z];exact hlt
   ·rw[←z2];exact h2 e' z1
  ·rename_i hlt
   split
   ·rename_i hd
    subst hd
    exact⟨by simp,h2,h3⟩
   ·rename_i hd
    have hdc:ltc d c=true:=by
     have hlt':¬ (c.1 < d.1∨c.1=d.1∧c.2 < d.2):=by rw[←zhc];exact hlt
     rw[zhc]
     by_cases h1:d.1=c.1
     ·refine .inr ⟨h1,?_⟩
      have:d.2≠c.2:=fun h2=>hd (Prod.ext h1 h2)
      omega
     ·left;omega
    refine⟨by simp,fun e he=>?_,h1,h2,h3⟩
    rcases List.mem_cons.mp he with z | z
    ·rw[z];exact hdc
    ·exact zpT (h2 e z) (Le.of_lt hdc)
def zf7:List (Cost×List α)→Option (Cost×α×List (Cost×List α))
 | []=>none
 | [(d,xs)]=>match xs.getLast? with
  | none=>none
  | some x=>some (d,x,if xs.dropLast.isEmpty then [] else [(d,xs.dropLast)])
 | e :: e2 :: r=>match zf7 (e2 :: r) with
  | none=>none
  | some (d,x,q)=>some (d,x,e :: q)
theorem zck:∀ {q:List (Cost×List α)},Fall q→q≠[]→∃ d x q',zf7 q=some (d,x,q')∧Fall q'∧(∀ e,e∈els q↔e=(d,x)∨e∈els q')∧(els q).length=(els q').length + 1∧(∀ e∈q,Le d e.1)∧∀ e∈q',∃ e'∈q,e'.1=e.1
 | [],_,h=>absurd rfl h
 | [(d,xs)],h,_=>by
  obtain⟨h1,_,_⟩:=h
  rcases List.eq_nil_or_concat xs with z | ⟨ys,y,z⟩
  ·exact absurd z h1
  ·rw[List.concat_eq_append] at z
   subst z
   refine⟨d,y,if ys.isEmpty then [] else [(d,ys)],by simp[zf7],?_,fun e=>?_,?_,fun e he=>?_,fun e he=>?_⟩
   ·cases ys with
    | nil=>trivial
    | cons a b=>exact⟨by simp,by simp,trivial⟩
   ·cases ys with
    | nil=>simp[els]
    | cons a b=>simp[els];constructor <;> (intro h;rcases h with h | h | h <;> simp[h])
   ·cases ys with
    | nil=>simp[els]
    | cons a b=>simp[els]
   ·rw[List.mem_singleton.mp he];exact Le.refl _
   ·cases ys with
    | nil=>cases he
    | cons a b=>simp at he;exact⟨(d,a :: b ++ [y]),by simp,by rw[he]⟩
 | e :: e2 :: r,h,_=>by
  obtain⟨h1,h2,h3⟩:=h
  obtain⟨d,x,q',e1,f1,m1,l1,c1,k1⟩:=zck h3 (by simp)
  refine⟨d,x,e :: q',by rw[zf7,e1],⟨h1,fun z hz=>?_,f1⟩,fun z=>?_,?_,fun z hz=>?_,fun z hz=>?_⟩
  ·obtain⟨z',hz',ez⟩:=k1 z hz
   rw[←ez];exact h2 z' hz'
  ·rw[els,List.mem_append,m1,els,List.mem_append]
   constructor
   ·rintro(h | h | h)
    ·exact .inr (.inl h)
    ·exact .inl h
    ·exact .inr (.inr h)
   ·rintro(h | h | h)
    ·exact .inr (.inl h)
    ·exact .inl h
    ·exact .inr (.inr h)
  ·rw[els,List.length_append,l1,els,List.length_append];omega
  ·rcases List.mem_cons.mp hz with q | q
   ·rw[q]
    have:=c1 e2 List.mem_cons_self
    exact this.trans (Le.of_lt (h2 e2 List.mem_cons_self))
   ·exact c1 z q
  ·rcases List.mem_cons.mp hz with q | q
   ·exact⟨e,List.mem_cons_self,by rw[q]⟩
   ·obtain⟨z',hz',ez⟩:=k1 z q
    exact⟨z',List.mem_cons_of_mem _ hz',ez⟩
theorem znF{q:List (Cost×List α)}{e:Cost×α}(h:e∈els q):∃ b∈q,b.1=e.1:=by
 induction q with
 | nil=>cases h
 | cons b r ih=>
  obtain⟨d,xs⟩:=b
  rw[els] at h
  rcases List.mem_append.mp h with z | z
  ·obtain⟨x,_,rfl⟩:=List.mem_map.mp z
   exact⟨(d,xs),List.mem_cons_self,rfl⟩
  ·obtain⟨b,hb,e1⟩:=ih z
   exact⟨b,List.mem_cons_of_mem _ hb,e1⟩
end
end Rg
namespace Rg
open PySem PySem.Spec PyProof.Rows L2 L3
section
variable {α:Type}
theorem znG(c:Cost)(x:α):∀ q:List (Cost×List α),(els (qput c x q)).Perm ((c,x) :: els q)
 | []=>.refl _
 | (d,xs) :: r=>by
  rw[qput]
  split
  ·rw[els,els]
   exact(List.Perm.append_left _ (znG c x r)).trans List.perm_middle
  ·split
   ·rename_i hd
    subst hd
    rw[els,els,List.map_append,List.append_assoc]
    exact List.perm_middle
   ·exact .refl _
theorem ziA:∀ {q q':List (Cost×List α)} {d:Cost} {x:α},Fall q→zf7 q=some (d,x,q')→(els q).Perm ((d,x) :: els q')
 | [],q',d,x,_,h=>by cases h
 | [(d0,xs)],q',d,x,hf,h=>by
  obtain⟨h1,_,_⟩:=hf
  rcases List.eq_nil_or_concat xs with z | ⟨ys,y,z⟩
  ·exact absurd z h1
  ·rw[List.concat_eq_append] at z
   subst z
   simp[zf7] at h
   obtain⟨rfl,rfl,rfl⟩:=h
   cases ys with
   | nil=>exact .refl _
   | cons a b=>
    rw[if_neg (by simp)]
    simp only[els,List.append_nil,List.map_append,List.map_cons,List.map_nil]
    exact List.perm_append_singleton _ _
 | e :: e2 :: r,q',d,x,hf,h=>by
  obtain⟨_,_,h3⟩:=hf
  rw[zf7] at h
  split at h
  ·cases h
  ·rename_i d1 x1 q1 e1
   simp only[Option.some.injEq,Prod.mk.injEq] at h
   obtain⟨rfl,rfl,rfl⟩:=h
   have ih:=ziA h3 e1
   obtain⟨d0,xs⟩:=e
   rw[els,els]
   exact(List.Perm.append_left _ ih).trans List.perm_middle
end
structure Sr where
 rs:List Rule
 own:Str→Bool
 places:List Int
 steps:Str→Int→List (Int×Int)
 wt:Nat→Int
structure SrOk(G:Sr):Prop where
 wt:∀ n,0≤G.wt n
 pr:∀ t p e c,(e,c)∈G.steps t p→0≤c
abbrev K4:=Nat×Nat×Int×Int
abbrev Fact:=Str×Int×Int
abbrev It3:=Nat×List Int×Cost
def zaz(n:Nat)(cut:List Int):K4:=(n,cut.length,cut.headD 0,cut.getLastD 0)
def kOf(y:It3):K4:=zaz y.1 y.2.1
abbrev Best:=List (Fact×Cost×Nat×List Int)
structure SS where
 q:List (Cost×List (Nat×List Int))
 reached:List (K4×Cost)
 best:Best
 ends:List ((Str×Int)×List (Int×Cost))
 begun:List ((Str×Int)×List It3)
def reach(st:SS)(n:Nat)(cut:List Int)(c:Cost):SS:=match aget st.reached (zaz n cut) with
 | some d=>if ltc c d=true then {st with reached:=aput st.reached (zaz n cut) c,q:=qput c (n,cut) st.q} else st
 | none=>{st with reached:=aput st.reached (zaz n cut) c,q:=qput c (n,cut) st.q}
inductive GI(G:Sr)(B:Best):Nat→List Int→Cost→Prop
 | start {n:Nat} {r:Rule} {p:Int}:G.rs[n]? = some r→p∈G.places→GI G B n [p] (G.wt n,1)
 | word {n:Nat} {r:Rule} {cut:List Int} {c:Cost} {part:Str} {e pr:Int}:GI G B n cut c→G.rs[n]? = some r→r.parts[cut.length - 1]? = some part→G.own part=false→(e,pr)∈G.steps part (cut.getLastD 0)→GI G B n (cut ++ [e]) (c.1 + pr,c.2)
 | name {n:Nat} {r:Rule} {cut:List Int} {c m:Cost} {part:Str} {e:Int} {k:Nat×List Int}:GI G B n cut c→G.rs[n]? = some r→r.parts[cut.length - 1]? = some part→G.own part=true→aget B (part,cut.getLastD 0,e)=some (m,k)→GI G B n (cut ++ [e]) (addc c m)
theorem GI.mono{G:Sr}{B B':Best}(h:∀ f v,aget B f=some v→aget B' f=some v){n:Nat}{cut:List Int}{c:Cost}(g:GI G B n cut c):GI G B' n cut c:=by
 induction g with
 | start a b=>exact .start a b
 | word _ a b c d ih=>exact .word ih a b c d
 | name _ a b c d ih=>exact .name ih a b c (h _ _ d)
theorem GI.ne{G:Sr}{B:Best}{n:Nat}{cut:List Int}{c:Cost}(g:GI G B n cut c):cut≠[]:=by cases g <;> simp
def qk(e:Cost×(Nat×List Int)):Cost×K4:=(e.1,zaz e.2.1 e.2.2)
def RLe(st:SS)(k:K4)(c:Cost):Prop:=∃ d,aget st.reached k=some d∧Le d c
structure Inv0(G:Sr)(st:SS)(P:List It3)(cur:Cost):Prop where
 fall:Fall st.q
 item:∀ e∈els st.q,GI G st.best e.2.1 e.2.2 e.1
 ge:∀ e∈els st.q,∃ d,aget st.reached (zaz e.2.1 e.2.2)=some d∧Le d e.1
 nd:((els st.q).map qk).Nodup
 once:(P.map kOf).Nodup
 pr:∀ y∈P,aget st.reached (kOf y)=some y.2.2∧Le y.2.2 cur∧GI G st.best y.1 y.2.1 y.2.2
 fresh:∀ e∈els st.q,∀ y∈P,kOf y=zaz e.2.1 e.2.2→ltc y.2.2 e.1=true
 curq:∀ e∈els st.q,Le cur e.1
 hit:∀ k d,aget st.reached k=some d→(∃ e∈els st.q,e.1=d∧zaz e.2.1 e.2.2=k)∨∃ y∈P,kOf y=k∧y.2.2=d
structure Grow(st st':SS):Prop where
 best:st'.best=st.best
 ends:st'.ends=st.ends
 begun:st'.begun=st.begun
 le:∀ k c,RLe st k c→RLe st' k c
theorem Grow.refl(st:SS):Grow st st:=⟨rfl,rfl,rfl,fun _ _ h=>h⟩
theorem Grow.trans{a b c:SS}(x:Grow a b)(y:Grow b c):Grow a c:=⟨y.best.trans x.best,y.ends.trans x.ends,y.begun.trans x.begun,fun k c h=>y.le k c (x.le k c h)⟩
theorem zrR{G:Sr}{st:SS}{P:List It3}{cur:Cost}{n:Nat}{cut:List Int}{c:Cost}(I:Inv0 G st P cur)(g:GI G st.best n cut c)(hc:Le cur c) :
  Inv0 G (reach st n cut c) P cur∧Grow st (reach st n cut c)∧RLe (reach st n cut c) (zaz n cut) c:=by
 have push:(∀ d,aget st.reached (zaz n cut)=some d→ltc c d=true)→Inv0 G {st with reached:=aput st.reached (zaz n cut) c,q:=qput c (n,cut) st.q} P cur∧Grow st {st with reached:=aput st.reached (zaz n cut) c,q:=qput c (n,cut) st.q}∧RLe {st with reached:=aput st.reached (zaz n cut) c,q:=qput c (n,cut) st.q} (zaz n cut) c:=by
  intro hlt
  have hp:=znG c (n,cut) st.q
  have hm:∀ e,e∈els (qput c (n,cut) st.q)↔e=(c,(n,cut))∨e∈els st.q:=fun e=>by rw[hp.mem_iff,List.mem_cons]
  have noP:∀ y∈P,kOf y≠zaz n cut:=fun y hy e=>by
   obtain⟨h1,h2,_⟩:=I.pr y hy
   rw[e] at h1
   have:=zpT (hlt _ h1) (h2.trans hc)
   exact zlz this
  have le:∀ k d,RLe st k d→RLe {st with reached:=aput st.reached (zaz n cut) c,q:=qput c (n,cut) st.q} k d:=fun k d h=>by
   obtain⟨z,h1,h2⟩:=h
   by_cases e:zaz n cut=k
   ·subst e
    exact⟨c,by show aget (aput _ _ _) _=_;rw[zay,if_pos rfl],(Le.of_lt (hlt z h1)).trans h2⟩
   ·exact⟨z,by show aget (aput _ _ _) _=_;rw[zay,if_neg e];exact h1,h2⟩
  refine⟨⟨zkf _ _ I.fall,fun e he=>?_,fun e he=>?_,?_,I.once,fun y hy=>?_,fun e he y hy ek=>?_,fun e he=>?_,fun k d hd=>?_⟩,⟨rfl,rfl,rfl,le⟩,c,by show aget (aput _ _ _) _=_;rw[zay,if_pos rfl],Le.refl c⟩
  ·rcases(hm e).mp he with z | z
   ·rw[z];exact g
   ·exact I.item e z
  ·show ∃ d,aget (aput _ _ _) _=_∧_
   rw[zay]
   rcases(hm e).mp he with z | z
   ·rw[z,if_pos rfl];exact⟨c,rfl,Le.refl _⟩
   ·obtain⟨d,h1,h2⟩:=I.ge e z
    by_cases ek:zaz n cut=zaz e.2.1 e.2.2
    ·rw[if_pos ek]
     rw[←ek] at h1
     exact⟨c,rfl,(Le.of_lt (hlt d h1)).trans h2⟩
    ·rw[if_neg ek];exact⟨d,h1,h2⟩
  ·rw[(hp.map qk).nodup_iff,List.map_cons,List.nodup_cons]
   refine⟨fun z=>?_,I.nd⟩
   obtain⟨e,he,eq⟩:=List.mem_map.mp z
   obtain⟨d,h1,h2⟩:=I.ge e he
   unfold qk at eq
   rw[Prod.mk.injEq] at eq
   rw[eq.2] at h1
   rw[eq.1] at h2
   exact zlz (zpT (hlt d h1) h2)
  ·obtain⟨h1,h2,h3⟩:=I.pr y hy
   refine⟨?_,h2,h3⟩
   show aget (aput _ _ _) _=_
   rw[zay,if_neg (Ne.symm (noP y hy))];exact h1
  ·rcases(hm e).mp he with z | z
   ·rw[z] at ek;exact absurd ek (noP y hy)
   ·exact I.fresh e z y hy ek
  ·rcases(hm e).mp he with z | z
   ·rw[z];exact hc
   ·exact I.curq e z
  ·have hd:aget (aput st.reached (zaz n cut) c) k=some d:=hd
   rw[zay] at hd
   by_cases e:zaz n cut=k
   ·rw[if_pos e] at hd
    cases hd
    exact .inl ⟨(c,(n,cut)),(hm _).mpr (.inl rfl),rfl,e⟩
   ·rw[if_neg e] at hd
    rcases I.hit k d hd with⟨x,h1,h2,h3⟩ | h
    ·exact .inl ⟨x,(hm _).mpr (.inr h1),h2,h3⟩
    ·exact .inr h
 unfold reach
 cases h:aget st.reached (zaz n cut) with
 | none=>exact push fun d e=>by rw[h] at e;cases e
 | some d=>
  simp only
  split
  ·rename_i hl
   exact push fun d' e=>by rw[h] at e;cases e;exact hl
  ·rename_i hl
   exact⟨I,Grow.refl st,d,h,zpS.mpr hl⟩
theorem zdQ{G:Sr}{P:List It3}{cur:Cost}{α:Type}(f:α→Nat×List Int×Cost):∀ (xs:List α) {st:SS},Inv0 G st P cur→(∀ x∈xs,GI G st.best (f x).1 (f x).2.1 (f x).2.2∧Le cur (f x).2.2)→
  Inv0 G (xs.foldl (fun st x=>reach st (f x).1 (f x).2.1 (f x).2.2) st) P cur∧Grow st (xs.foldl (fun st x=>reach st (f x).1 (f x).2.1 (f x).2.2) st)∧∀ x∈xs,RLe (xs.foldl (fun st x=>reach st (f x).1 (f x).2.1 (f x).2.2) st) (zaz (f x).1 (f x).2.1) (f x).2.2
 | [],st,I,_=>⟨I,Grow.refl st,fun x hx=>nomatch hx⟩
 | x :: xs,st,I,h=>by
  obtain⟨h1,h2⟩:=h x List.mem_cons_self
  obtain⟨I1,g1,r1⟩:=zrR I h1 h2
  obtain⟨I2,g2,r2⟩:=zdQ f xs I1 fun y hy=>by
   have:=h y (List.mem_cons_of_mem _ hy)
   rw[g1.best];exact this
  refine⟨I2,g1.trans g2,fun y hy=>?_⟩
  rcases List.mem_cons.mp hy with z | z
  ·rw[z];exact g2.le _ _ r1
  ·exact r2 y z
end Rg
namespace Rg
open PySem PySem.Spec PyProof.Rows L2 L3
def fnm(G:Sr)(n:Nat):Str:=match G.rs[n]? with
 | some r=>r.name
 | none=>""
def zaQ(G:Sr)(n:Nat)(cut:List Int):Option Str:=match G.rs[n]? with
 | some r=>r.parts[cut.length - 1]?
 | none=>none
def zaF(G:Sr)(n:Nat)(cut:List Int):Fact:=(fnm G n,cut.headD 0,cut.getLastD 0)
def zer(G:Sr)(st:SS)(n:Nat)(cut:List Int)(c:Cost):SS:=match aget st.best (zaF G n cut) with
 | some _=>st
 | none=>((aget st.begun (fnm G n,cut.headD 0)).getD []).foldl (fun st y=>reach st y.1 (y.2.1 ++ [cut.getLastD 0]) (addc y.2.2 c)) {st with best:=st.best ++ [(zaF G n cut,c,n,cut)],ends:=zc8 st.ends (fnm G n,cut.headD 0) (cut.getLastD 0,c)}
def zaN(st:SS)(n:Nat)(cut:List Int)(c:Cost)(part:Str):SS:=((aget st.ends (part,cut.getLastD 0)).getD []).foldl (fun st z=>reach st n (cut ++ [z.1]) (addc c z.2)) {st with begun:=zc8 st.begun (part,cut.getLastD 0) (n,cut,c)}
def zaO(G:Sr)(st:SS)(n:Nat)(cut:List Int)(c:Cost)(part:Str):SS:=(G.steps part (cut.getLastD 0)).foldl (fun st z=>reach st n (cut ++ [z.1]) (c.1 + z.2,c.2)) st
def process(G:Sr)(st:SS)(n:Nat)(cut:List Int)(c:Cost):SS:=match zaQ G n cut with
 | none=>zer G st n cut c
 | some part=>if G.own part=true then zaN st n cut c part else zaO G st n cut c part
structure Ob(G:Sr)(st:SS)(P:List It3)(cur:Cost):Prop where
 zero:Le (0,0) cur
 fin:∀ y∈P,zaQ G y.1 y.2.1=none→∃ m k,aget st.best (zaF G y.1 y.2.1)=some (m,k)∧Le m y.2.2
 wrd:∀ y∈P,∀ part,zaQ G y.1 y.2.1=some part→G.own part=false→∀ z∈G.steps part (y.2.1.getLastD 0),RLe st (zaz y.1 (y.2.1 ++ [z.1])) (y.2.2.1 + z.2,y.2.2.2)
 nam:∀ y∈P,∀ part,zaQ G y.1 y.2.1=some part→G.own part=true→y∈(aget st.begun (part,y.2.1.getLastD 0)).getD []
 pair:∀ key,∀ y∈(aget st.begun key).getD [],∀ z∈(aget st.ends key).getD [],RLe st (zaz y.1 (y.2.1 ++ [z.1])) (addc y.2.2 z.2)
 bgn:∀ key,∀ y∈(aget st.begun key).getD [],y∈P∧zaQ G y.1 y.2.1=some key.1∧G.own key.1=true∧y.2.1.getLastD 0=key.2∧Le (0,0) y.2.2
 ends:∀ nm b e m,(e,m)∈(aget st.ends (nm,b)).getD []↔∃ k,aget st.best (nm,b,e)=some (m,k)
 bst:∀ f m n cut,aget st.best f=some (m,n,cut)→zaQ G n cut=none∧f=zaF G n cut∧Le (0,0) m∧Le m cur
 ord:∀ pre e post,st.best=pre ++ e :: post→GI G pre e.2.2.1 e.2.2.2 e.2.1∧aget pre e.1=none
theorem zwD{a b:Cost}(h:Le (0,0) b):Le a (addc a b):=by unfold Le addc at *;simp only at *;omega
theorem zuz{a b:Cost}(h:Le (0,0) b):Le a (addc b a):=by unfold Le addc at *;simp only at *;omega
theorem zrS{G:Sr}{st:SS}{P:List It3}{cur c:Cost}{n:Nat}{cut:List Int}{q':List (Cost×List (Nat×List Int))}(I:Inv0 G st P cur)(ht:zf7 st.q=some (c,(n,cut),q'))(hr:aget st.reached (zaz n cut)=some c):Inv0 G {st with q:=q'} (P ++ [(n,cut,c)]) c∧Le cur c∧GI G st.best n cut c:=by
 have hne:st.q≠[]:=fun e=>by rw[e] at ht;cases ht
 obtain⟨d,x,q1,e1,f1,m1,l1,c1,_⟩:=zck I.fall hne
 rw[ht] at e1
 simp only[Option.some.injEq,Prod.mk.injEq] at e1
 obtain⟨rfl,rfl,rfl⟩:=e1
 have hp:=ziA I.fall ht
 have hin:(c,(n,cut))∈els st.q:=(m1 _).mpr (.inl rfl)
 have sub:∀ e∈els q',e∈els st.q:=fun e he=>(m1 e).mpr (.inr he)
 have hcur:=I.curq _ hin
 have hnd:=I.nd
 rw[(hp.map qk).nodup_iff,List.map_cons,List.nodup_cons] at hnd
 have hmin:∀ e∈els q',Le c e.1:=fun e he=>by
  obtain⟨b,hb,eb⟩:=znF (sub e he)
  rw[←eb];exact c1 b hb
 have noP:∀ y∈P,kOf y≠zaz n cut:=fun y hy e=>by
  have h1:=I.fresh _ hin y hy e
  obtain⟨h2,_,_⟩:=I.pr y hy
  rw[e,hr] at h2
  cases h2
  exact zlz h1
 refine⟨⟨f1,fun e he=>I.item e (sub e he),fun e he=>I.ge e (sub e he),hnd.2,?_,fun y hy=>?_,fun e he y hy ek=>?_,hmin,fun k d hd=>?_⟩,hcur,I.item _ hin⟩
 ·rw[List.map_append,List.nodup_append]
  refine⟨I.once,by simp,fun a ha b hb e=>?_⟩
  obtain⟨y,hy,rfl⟩:=List.mem_map.mp ha
  rw[List.map_singleton,List.mem_singleton] at hb
  exact noP y hy (by rw[e,hb];rfl)
 ·rcases List.mem_append.mp hy with z | z
  ·obtain⟨h1,h2,h3⟩:=I.pr y z
   exact⟨h1,h2.trans hcur,h3⟩
  ·rw[List.mem_singleton.mp z]
   exact⟨hr,Le.refl _,I.item _ hin⟩
 ·rcases List.mem_append.mp hy with z | z
  ·exact I.fresh e (sub e he) y z ek
  ·have hy':=List.mem_singleton.mp z
   subst hy'
   have h1:=hmin e he
   have hne:e.1≠c:=fun e1=>hnd.1 (List.mem_map.mpr ⟨e,he,by
    have ek':zaz n cut=zaz e.2.1 e.2.2:=ek
    show(e.1,zaz e.2.1 e.2.2)=(c,zaz n cut)
    rw[e1,ek']⟩)
   show ltc c e.1=true
   cases hh:ltc c e.1 with
   | true=>rfl
   | false=>exact absurd (Le.antisymm (zpS.mpr (by rw[hh];decide)) h1) hne
 ·rcases I.hit k d hd with⟨e,h1,h2,h3⟩ | ⟨y,h1,h2⟩
  ·rcases(m1 e).mp h1 with z | z
   ·subst z
    exact .inr ⟨(n,cut,c),List.mem_append_right _ (List.mem_singleton.mpr rfl),h3,h2⟩
   ·exact .inl ⟨e,z,h2,h3⟩
  ·exact .inr ⟨y,List.mem_append_left _ h1,h2⟩
theorem zrT{G:Sr}{st:SS}{P:List It3}{cur c d:Cost}{n:Nat}{cut:List Int}{q':List (Cost×List (Nat×List Int))}(I:Inv0 G st P cur)(ht:zf7 st.q=some (c,(n,cut),q'))(hr:aget st.reached (zaz n cut)=some d)(hd:ltc d c=true):Inv0 G {st with q:=q'} P c∧Le cur c:=by
 have hne:st.q≠[]:=fun e=>by rw[e] at ht;cases ht
 obtain⟨d1,x,q1,e1,f1,m1,l1,c1,_⟩:=zck I.fall hne
 rw[ht] at e1
 simp only[Option.some.injEq,Prod.mk.injEq] at e1
 obtain⟨rfl,rfl,rfl⟩:=e1
 have hp:=ziA I.fall ht
 have hin:(c,(n,cut))∈els st.q:=(m1 _).mpr (.inl rfl)
 have sub:∀ e∈els q',e∈els st.q:=fun e he=>(m1 e).mpr (.inr he)
 have hcur:=I.curq _ hin
 have hnd:=I.nd
 rw[(hp.map qk).nodup_iff,List.map_cons,List.nodup_cons] at hnd
 refine⟨⟨f1,fun e he=>I.item e (sub e he),fun e he=>I.ge e (sub e he),hnd.2,I.once,fun y hy=>?_,fun e he y hy ek=>I.fresh e (sub e he) y hy ek,fun e he=>?_,fun k d2 hd2=>?_⟩,hcur⟩
 ·obtain⟨h1,h2,h3⟩:=I.pr y hy
  exact⟨h1,h2.trans hcur,h3⟩
 ·obtain⟨b,hb,eb⟩:=znF (sub e he)
  rw[←eb];exact c1 b hb
 ·rcases I.hit k d2 hd2 with⟨e,h1,h2,h3⟩ | h
  ·rcases(m1 e).mp h1 with z | z
   ·subst z
    have h3:zaz n cut=k:=h3
    have h2:c=d2:=h2
    have hd2':aget st.reached k=some d2:=hd2
    rw[←h3,hr] at hd2'
    cases hd2'
    rw[←h2] at hd
    exact absurd hd zlz
   ·exact .inl ⟨e,z,h2,h3⟩
  ·exact .inr h
theorem Ob.later{G:Sr}{st:SS}{P:List It3}{cur c:Cost}(o:Ob G st P cur)(h:Le cur c)(q':List (Cost×List (Nat×List Int))):Ob G {st with q:=q'} P c:=
 ⟨o.zero.trans h,o.fin,o.wrd,o.nam,o.pair,o.bgn,o.ends,fun f m n cut e=>let ⟨h1,h2,h3,h4⟩:=o.bst f m n cut e;⟨h1,h2,h3,h4.trans h⟩,o.ord⟩
end Rg
namespace Rg
open PySem PySem.Spec PyProof.Rows L2 L3
theorem GI.rule{G:Sr}{B:Best}{n:Nat}{cut:List Int}{c:Cost}(g:GI G B n cut c):∃ r,G.rs[n]? = some r:=by
 cases g with
 | start a _=>exact⟨_,a⟩
 | word _ a _ _ _=>exact⟨_,a⟩
 | name _ a _ _ _=>exact⟨_,a⟩
theorem ze0{G:Sr}{n:Nat}{cut:List Int}{r:Rule}(h:G.rs[n]? = some r):zaQ G n cut=r.parts[cut.length - 1]?:=by unfold zaQ;rw[h]
theorem zbI{α:Type}{P:List α}{x y:α}(h:y∈P ++ [x]):y∈P∨y=x:=by
 rcases List.mem_append.mp h with z | z
 ·exact .inl z
 ·exact .inr (List.mem_singleton.mp z)
theorem zuA{G:Sr}(ok:SrOk G){st:SS}{P:List It3}{c:Cost}{n:Nat}{cut:List Int}{part:Str}(I:Inv0 G st (P ++ [(n,cut,c)]) c)(o:Ob G st P c)(g:GI G st.best n cut c)(hp:zaQ G n cut=some part)(ho:G.own part=false) :
  Inv0 G (zaO G st n cut c part) (P ++ [(n,cut,c)]) c∧Ob G (zaO G st n cut c part) (P ++ [(n,cut,c)]) c∧∀ k d,RLe st k d→RLe (zaO G st n cut c part) k d:=by
 obtain⟨r,hr⟩:=g.rule
 rw[ze0 hr] at hp
 obtain⟨I1,g1,r1⟩:=zdQ (fun z:Int×Int=>(n,cut ++ [z.1],(c.1 + z.2,c.2))) (G.steps part (cut.getLastD 0)) I fun z hz=>⟨.word g hr hp ho hz,by
  have:=ok.pr _ _ _ _ hz
  show Le c (c.1 + z.2,c.2)
  unfold Le;simp only;omega⟩
 refine⟨I1,⟨o.zero,fun y hy hn=>?_,fun y hy pt h1 h2 z hz=>?_,fun y hy pt h1 h2=>?_,fun key y hy z hz=>?_,fun key y hy=>?_,fun nm b e m=>?_,fun f m n' cut' e=>?_,fun pre e post h=>?_⟩,g1.le⟩
 ·rcases zbI hy with z | z
  ·obtain⟨m,k,h1,h2⟩:=o.fin y z hn
   exact⟨m,k,by rw[show(zaO G st n cut c part).best=st.best from g1.best];exact h1,h2⟩
  ·subst z
   rw[ze0 hr,hp] at hn;cases hn
 ·rcases zbI hy with q | q
  ·exact g1.le _ _ (o.wrd y q pt h1 h2 z hz)
  ·subst q
   rw[ze0 hr,hp] at h1
   cases h1
   exact r1 z hz
 ·rcases zbI hy with q | q
  ·rw[show(zaO G st n cut c part).begun=st.begun from g1.begun]
   exact o.nam y q pt h1 h2
  ·subst q
   rw[ze0 hr,hp] at h1
   cases h1
   rw[ho] at h2;cases h2
 ·rw[show(zaO G st n cut c part).begun=st.begun from g1.begun] at hy
  rw[show(zaO G st n cut c part).ends=st.ends from g1.ends] at hz
  exact g1.le _ _ (o.pair key y hy z hz)
 ·rw[show(zaO G st n cut c part).begun=st.begun from g1.begun] at hy
  obtain⟨h1,h2⟩:=o.bgn key y hy
  exact⟨List.mem_append_left _ h1,h2⟩
 ·rw[show(zaO G st n cut c part).ends=st.ends from g1.ends,show(zaO G st n cut c part).best=st.best from g1.best]
  exact o.ends nm b e m
 ·rw[show(zaO G st n cut c part).best=st.best from g1.best] at e
  exact o.bst f m n' cut' e
 ·rw[show(zaO G st n cut c part).best=st.best from g1.best] at h
  exact o.ord pre e post h
theorem zuB{G:Sr}{st:SS}{P:List It3}{c:Cost}{n:Nat}{cut:List Int}{part:Str}(I:Inv0 G st (P ++ [(n,cut,c)]) c)(o:Ob G st P c)(g:GI G st.best n cut c)(hp:zaQ G n cut=some part)(ho:G.own part=true) :
  Inv0 G (zaN st n cut c part) (P ++ [(n,cut,c)]) c∧Ob G (zaN st n cut c part) (P ++ [(n,cut,c)]) c∧∀ k d,RLe st k d→RLe (zaN st n cut c part) k d:=by
 obtain⟨r,hr⟩:=g.rule
 have hp0:=hp
 rw[ze0 hr] at hp
 obtain⟨I1,g1,r1⟩:=zdQ (G:=G) (P:=P ++ [(n,cut,c)]) (cur:=c) (st:={st with begun:=zc8 st.begun (part,cut.getLastD 0) (n,cut,c)}) (fun z:Int×Cost=>(n,cut ++ [z.1],addc c z.2)) ((aget st.ends (part,cut.getLastD 0)).getD []) ⟨I.fall,I.item,I.ge,I.nd,I.once,I.pr,I.fresh,I.curq,I.hit⟩ fun z hz=>by
  obtain⟨k,hk⟩:=(o.ends part (cut.getLastD 0) z.1 z.2).mp hz
  exact⟨.name g hr hp ho hk,zwD (o.bst _ _ _ _ hk).2.2.1⟩
 have hb:(zaN st n cut c part).best=st.best:=g1.best
 have he:(zaN st n cut c part).ends=st.ends:=g1.ends
 have hg:(zaN st n cut c part).begun=zc8 st.begun (part,cut.getLastD 0) (n,cut,c):=g1.begun
 have hbeg:∀ key y,y∈(aget (zaN st n cut c part).begun key).getD []↔y∈(aget st.begun key).getD []∨(part,cut.getLastD 0)=key∧y=(n,cut,c):=fun key y=>by
  rw[hg,zeZ]
  by_cases h:(part,cut.getLastD 0)=key
  ·rw[if_pos h,List.mem_append,List.mem_singleton]
   exact⟨fun z=>z.imp id fun q=>⟨h,q⟩,fun z=>z.imp id fun q=>q.2⟩
  ·rw[if_neg h]
   exact⟨.inl,fun z=>z.elim id fun q=>absurd q.1 h⟩
 refine⟨I1,⟨o.zero,fun y hy hn=>?_,fun y hy pt h1 h2 z hz=>?_,fun y hy pt h1 h2=>?_,fun key y hy z hz=>?_,fun key y hy=>?_,fun nm b e m=>?_,fun f m n' cut' e=>?_,fun pre e post h=>?_⟩,g1.le⟩
 ·rcases zbI hy with z | z
  ·rw[hb];exact o.fin y z hn
  ·subst z
   rw[hp0] at hn;cases hn
 ·rcases zbI hy with q | q
  ·exact g1.le _ _ (o.wrd y q pt h1 h2 z hz)
  ·subst q
   rw[hp0] at h1
   cases h1
   rw[ho] at h2;cases h2
 ·rw[hbeg]
  rcases zbI hy with q | q
  ·exact .inl (o.nam y q pt h1 h2)
  ·subst q
   rw[hp0] at h1
   cases h1
   exact .inr ⟨rfl,rfl⟩
 ·rw[he] at hz
  rcases(hbeg key y).mp hy with q | ⟨q1,q2⟩
  ·exact g1.le _ _ (o.pair key y q z hz)
  ·subst q2
   rw[←q1] at hz
   exact r1 z hz
 ·rcases(hbeg key y).mp hy with q | ⟨q1,q2⟩
  ·obtain⟨h1,h2⟩:=o.bgn key y q
   exact⟨List.mem_append_left _ h1,h2⟩
  ·subst q2
   rw[←q1]
   exact⟨List.mem_append_right _ (List.mem_singleton.mpr rfl),hp0,ho,rfl,o.zero⟩
 ·rw[he,hb];exact o.ends nm b e m
 ·rw[hb] at e;exact o.bst f m n' cut' e
 ·rw[hb] at h;exact o.ord pre e post h
theorem zpV{G:Sr}{st:SS}{P:List It3}{c:Cost}{n:Nat}{cut:List Int}(I:Inv0 G st (P ++ [(n,cut,c)]) c)(o:Ob G st P c)(g:GI G st.best n cut c)(hp:zaQ G n cut=none) :
  Inv0 G (zer G st n cut c) (P ++ [(n,cut,c)]) c∧Ob G (zer G st n cut c) (P ++ [(n,cut,c)]) c∧∀ k d,RLe st k d→RLe (zer G st n cut c) k d:=by
 unfold zer
 cases hf:aget st.best (zaF G n cut) with
 | some v=>
  obtain⟨m,k⟩:=v
  obtain⟨_,_,_,hm⟩:=o.bst _ _ _ _ hf
  refine⟨I,⟨o.zero,fun y hy hn=>?_,fun y hy pt h1 h2 z hz=>?_,fun y hy pt h1 h2=>?_,o.pair,fun key y hy=>?_,o.ends,o.bst,o.ord⟩,fun _ _ h=>h⟩
  ·rcases zbI hy with z | z
   ·exact o.fin y z hn
   ·subst z;exact⟨m,k,hf,hm⟩
  ·rcases zbI hy with q | q
   ·exact o.wrd y q pt h1 h2 z hz
   ·subst q;rw[hp] at h1;cases h1
  ·rcases zbI hy with q | q
   ·exact o.nam y q pt h1 h2
   ·subst q;rw[hp] at h1;cases h1
  ·obtain⟨h1,h2⟩:=o.bgn key y hy
   exact⟨List.mem_append_left _ h1,h2⟩
 | none=>
  simp only
  have new:∀ f,aget (st.best ++ [(zaF G n cut,c,n,cut)]) f=if zaF G n cut=f then some (c,n,cut) else aget st.best f:=fun f=>by
   rw[zke]
   by_cases h:zaF G n cut=f
   ·subst h;rw[if_pos rfl,if_pos rfl,hf];rfl
   ·rw[if_neg h,if_neg h,Option.or_none]
  have mono:∀ f v,aget st.best f=some v→aget (st.best ++ [(zaF G n cut,c,n,cut)]) f=some v:=fun f v h=>by
   rw[new,if_neg (fun e=>by rw[←e,hf] at h;cases h)];exact h
  obtain⟨st1,hst1⟩:∃ z:SS,z = {st with best:=st.best ++ [(zaF G n cut,c,n,cut)],ends:=zc8 st.ends (fnm G n,cut.headD 0) (cut.getLastD 0,c)}:=⟨_,rfl⟩
  have b1:st1.best=st.best ++ [(zaF G n cut,c,n,cut)]:=by rw[hst1]
  have e1:st1.ends=zc8 st.ends (fnm G n,cut.headD 0) (cut.getLastD 0,c):=by rw[hst1]
  have n1:st1.begun=st.begun:=by rw[hst1]
  have r0:st1.reached=st.reached:=by rw[hst1]
  have q0:st1.q=st.q:=by rw[hst1]
  have I0:Inv0 G st1 (P ++ [(n,cut,c)]) c:=by
   rw[hst1]
   exact⟨I.fall,fun e he=>(I.item e he).mono mono,I.ge,I.nd,I.once,fun y hy=>let ⟨h1,h2,h3⟩:=I.pr y hy;⟨h1,h2,h3.mono mono⟩,I.fresh,I.curq,I.hit⟩
  rw[←hst1]
  obtain⟨I1,g1,r1⟩:=zdQ (fun y:It3=>(y.1,y.2.1 ++ [cut.getLastD 0],addc y.2.2 c)) ((aget st.begun (fnm G n,cut.headD 0)).getD []) I0 fun y hy=>by
   obtain⟨h1,h2,h3,h4,h5⟩:=o.bgn _ y hy
   obtain⟨_,_,gy⟩:=I.pr y (List.mem_append_left _ h1)
   obtain⟨ry,hry⟩:=gy.rule
   rw[ze0 hry] at h2
   refine⟨.name (k:=(n,cut)) (by rw[b1];exact gy.mono mono) hry h2 h3 ?_,zuz h5⟩
   rw[b1,new,if_pos (by show(fnm G n,cut.headD 0,cut.getLastD 0)=(fnm G n,y.2.1.getLastD 0,cut.getLastD 0);rw[h4])]
  obtain⟨st2,hst2⟩:∃ z,z=((aget st.begun (fnm G n,cut.headD 0)).getD []).foldl (fun st y=>reach st y.1 (y.2.1 ++ [cut.getLastD 0]) (addc y.2.2 c)) st1:=⟨_,rfl⟩
  rw[←hst2] at I1 g1 r1 ⊢
  have B:st2.best=st.best ++ [(zaF G n cut,c,n,cut)]:=g1.best.trans b1
  have E:st2.ends=zc8 st.ends (fnm G n,cut.headD 0) (cut.getLastD 0,c):=g1.ends.trans e1
  have N:st2.begun=st.begun:=g1.begun.trans n1
  have le:∀ k d,RLe st k d→RLe st2 k d:=fun k d h=>g1.le k d (by
   obtain⟨z,h1,h2⟩:=h
   exact⟨z,by rw[r0];exact h1,h2⟩)
  have hends:∀ key z,z∈(aget st2.ends key).getD []↔z∈(aget st.ends key).getD []∨(fnm G n,cut.headD 0)=key∧z=(cut.getLastD 0,c):=fun key z=>by
   rw[E,zeZ]
   by_cases h:(fnm G n,cut.headD 0)=key
   ·rw[if_pos h,List.mem_append,List.mem_singleton]
    exact⟨fun z=>z.imp id fun q=>⟨h,q⟩,fun z=>z.imp id fun q=>q.2⟩
   ·rw[if_neg h]
    exact⟨.inl,fun z=>z.elim id fun q=>absurd q.1 h⟩
  refine⟨I1,⟨o.zero,fun y hy hn=>?_,fun y hy pt h1 h2 z hz=>?_,fun y hy pt h1 h2=>?_,fun key y hy z hz=>?_,fun key y hy=>?_,fun nm b e m=>?_,fun f m n' cut' e=>?_,fun pre e post h=>?_⟩,le⟩
  ·rw[B]
   rcases zbI hy with z | z
   ·obtain⟨m,k,h1,h2⟩:=o.fin y z hn
    exact⟨m,k,mono _ _ h1,h2⟩
   ·subst z
    exact⟨c,(n,cut),by rw[new,if_pos rfl],Le.refl _⟩
  ·rcases zbI hy with q | q
   ·exact le _ _ (o.wrd y q pt h1 h2 z hz)
   ·subst q;rw[hp] at h1;cases h1
  ·rw[N]
   rcases zbI hy with q | q
   ·exact o.nam y q pt h1 h2
   ·subst q;rw[hp] at h1;cases h1
  ·rw[N] at hy
   rcases(hends key z).mp hz with q | ⟨q1,q2⟩
   ·exact le _ _ (o.pair key y hy z q)
   ·subst q2
    rw[←q1] at hy
    exact r1 y hy
  ·rw[N] at hy
   obtain⟨h1,h2⟩:=o.bgn key y hy
   exact⟨List.mem_append_left _ h1,h2⟩
  ·rw[hends,B,new,o.ends]
   by_cases h:zaF G n cut=(nm,b,e)
   ·rw[if_pos h]
    unfold zaF at h
    simp only[Prod.mk.injEq] at h
    obtain⟨rfl,rfl,rfl⟩:=h
    constructor
    ·rintro(⟨k,hk⟩ | ⟨_,hk⟩)
     ·rw[show(fnm G n,cut.headD 0,cut.getLastD 0)=zaF G n cut from rfl,hf] at hk;cases hk
     ·cases hk;exact⟨(n,cut),rfl⟩
    ·rintro⟨k,hk⟩
     cases hk
     exact .inr ⟨rfl,rfl⟩
   ·rw[if_neg h]
    constructor
    ·rintro(hk | ⟨h1,h2⟩)
     ·exact hk
     ·cases h1;cases h2;exact absurd rfl h
    ·exact .inl
  ·rw[B,new] at e
   by_cases h:zaF G n cut=f
   ·rw[if_pos h] at e
    cases e
    exact⟨hp,h.symm,o.zero,Le.refl _⟩
   ·rw[if_neg h] at e
    exact o.bst f m n' cut' e
  ·rw[B] at h
   rcases List.eq_nil_or_concat post with z | ⟨ps,p,z⟩
   ·subst z
    have h':=List.append_inj' h rfl
    have h2:=h'.2
    simp only[List.cons.injEq,and_true] at h2
    rw[←h'.1,←h2]
    exact⟨g,hf⟩
   ·rw[List.concat_eq_append] at z
    subst z
    rw[show pre ++ e :: (ps ++ [p])=(pre ++ e :: ps) ++ [p] by simp] at h
    have h':=List.append_inj' h rfl
    exact o.ord pre e ps h'.1
theorem zoz{G:Sr}(ok:SrOk G){st:SS}{P:List It3}{c:Cost}{n:Nat}{cut:List Int}(I:Inv0 G st (P ++ [(n,cut,c)]) c)(o:Ob G st P c)(g:GI G st.best n cut c) :
  Inv0 G (process G st n cut c) (P ++ [(n,cut,c)]) c∧Ob G (process G st n cut c) (P ++ [(n,cut,c)]) c∧∀ k d,RLe st k d→RLe (process G st n cut c) k d:=by
 unfold process
 cases hp:zaQ G n cut with
 | none=>exact zpV I o g hp
 | some part=>
  simp only
  cases ho:G.own part with
  | true=>rw[if_pos rfl];exact zuB I o g hp ho
  | false=>rw[if_neg (by decide)];exact zuA ok I o g hp ho
end Rg
namespace Rg
open PySem PySem.Spec PyProof.Rows L2 L3
inductive DI(G:Sr):Nat→List Int→Cost→Prop
 | start {n:Nat} {r:Rule} {p:Int}:G.rs[n]? = some r→p∈G.places→DI G n [p] (G.wt n,1)
 | word {n:Nat} {r:Rule} {cut:List Int} {c:Cost} {part:Str} {e pr:Int}:DI G n cut c→G.rs[n]? = some r→r.parts[cut.length - 1]? = some part→G.own part=false→(e,pr)∈G.steps part (cut.getLastD 0)→DI G n (cut ++ [e]) (c.1 + pr,c.2)
 | name {n n':Nat} {r:Rule} {cut cut':List Int} {c m:Cost} {part:Str}:DI G n cut c→G.rs[n]? = some r→r.parts[cut.length - 1]? = some part→G.own part=true→DI G n' cut' m→zaQ G n' cut'=none→fnm G n'=part→cut'.headD 0=cut.getLastD 0→DI G n (cut ++ [cut'.getLastD 0]) (addc c m)
theorem DI.ne{G:Sr}{n:Nat}{cut:List Int}{c:Cost}(h:DI G n cut c):cut≠[]:=by cases h <;> simp
theorem zpW{n:Nat}{a b:List Int}{e:Int}(h:zaz n a=zaz n b)(ha:a≠[])(hb:b≠[]):zaz n (a ++ [e])=zaz n (b ++ [e]):=by
 unfold zaz at *
 simp only[Prod.mk.injEq,true_and] at h
 obtain⟨h1,h2,h3⟩:=h
 have hl:∀ l:List Int,(l ++ [e]).getLastD 0=e:=fun l=>by simp[List.getLastD_eq_getLast?]
 rw[hl,hl,List.length_append,List.length_append,h1]
 cases a with
 | nil=>exact absurd rfl ha
 | cons x a=>
  cases b with
  | nil=>exact absurd rfl hb
  | cons y b=>
   simp only[List.headD_cons] at h2
   subst h2
   rfl
theorem zia{G:Sr}{n n':Nat}{a b:List Int}(h:zaz n a=zaz n' b):n=n'∧zaQ G n a=zaQ G n' b∧zaF G n a=zaF G n' b∧a.getLastD 0=b.getLastD 0:=by
 unfold zaz at h
 simp only[Prod.mk.injEq] at h
 obtain⟨rfl,h1,h2,h3⟩:=h
 refine⟨rfl,?_,?_,h3⟩
 ·unfold zaQ;rw[h1]
 ·unfold zaF;rw[h2,h3]
def Ini(G:Sr)(st:SS):Prop:=∀ n r p,G.rs[n]? = some r→p∈G.places→RLe st (zaz n [p]) (G.wt n,1)
theorem zmO{G:Sr}{st:SS}{P:List It3}{cur:Cost}(I:Inv0 G st P cur)(o:Ob G st P cur)(hi:Ini G st)(hq:st.q=[]){n:Nat}{cut:List Int}{c:Cost}(h:DI G n cut c):RLe st (zaz n cut) c:=by
 have done:∀ {n:Nat} {cut:List Int} {c:Cost},RLe st (zaz n cut) c→∃ y∈P,kOf y=zaz n cut∧Le y.2.2 c:=fun {n cut c} h=>by
  obtain⟨d,h1,h2⟩:=h
  rcases I.hit _ _ h1 with⟨e,he,_⟩ | ⟨y,hy,e1,e2⟩
  ·rw[hq] at he;cases he
  ·exact⟨y,hy,e1,by rw[e2];exact h2⟩
 induction h with
 | start a b=>exact hi _ _ _ a b
 | @word n r cut c part e pr hd hr hp ho hs ih=>
  obtain⟨y,hy,ek,hle⟩:=done ih
  obtain⟨hn,hpt,_,hlast⟩:=zia (G:=G) ek
  have hyn:=(I.pr y hy).2.2.ne
  have:=o.wrd y hy part (by rw[hpt,ze0 hr];exact hp) ho (e,pr) (by rw[hlast];exact hs)
  obtain⟨d,h1,h2⟩:=this
  refine⟨d,?_,h2.trans ?_⟩
  ·have ek':zaz n y.2.1=zaz n cut:=by rw[←ek];unfold kOf;rw[hn]
   rw[←zpW ek' hyn hd.ne,←hn];exact h1
  ·unfold Le at hle ⊢;simp only at *;omega
 | @name n n' r cut cut' c m part hd hr hp ho hd' hfin hnm hhd ih ih'=>
  obtain⟨y,hy,ek,hle⟩:=done ih
  obtain⟨hn,hpt,_,hlast⟩:=zia (G:=G) ek
  obtain⟨y',hy',ek',hle'⟩:=done ih'
  obtain⟨hn',hpt',hfact,_⟩:=zia (G:=G) ek'
  obtain⟨m0,k0,hb,hm0⟩:=o.fin y' hy' (by rw[hpt'];exact hfin)
  rw[hfact] at hb
  have hb':aget st.best (part,cut.getLastD 0,cut'.getLastD 0)=some (m0,k0):=by
   have:zaF G n' cut'=(part,cut.getLastD 0,cut'.getLastD 0):=by unfold zaF;rw[hnm,hhd]
   rw[←this];exact hb
  have hz:=(o.ends part (cut.getLastD 0) (cut'.getLastD 0) m0).mpr ⟨k0,hb'⟩
  have hyb:=o.nam y hy part (by rw[hpt,ze0 hr];exact hp) ho
  rw[hlast] at hyb
  have hyn:=(I.pr y hy).2.2.ne
  obtain⟨d,h1,h2⟩:=o.pair _ y hyb _ hz
  refine⟨d,?_,h2.trans (zpU hle (hm0.trans hle'))⟩
  have ek2:zaz n y.2.1=zaz n cut:=by rw[←ek];unfold kOf;rw[hn]
  rw[←zpW ek2 hyn hd.ne,←hn];exact h1
theorem zrU{G:Sr}{st:SS}{P:List It3}{cur:Cost}(I:Inv0 G st P cur)(o:Ob G st P cur)(hi:Ini G st)(hq:st.q=[]){n:Nat}{cut:List Int}{c:Cost}(h:DI G n cut c)(hf:zaQ G n cut=none):∃ m k,aget st.best (zaF G n cut)=some (m,k)∧Le m c:=by
 obtain⟨d,h1,h2⟩:=zmO I o hi hq h
 rcases I.hit _ _ h1 with⟨e,he,_⟩ | ⟨y,hy,e1,e2⟩
 ·rw[hq] at he;cases he
 ·obtain⟨_,hpt,hfact,_⟩:=zia (G:=G) e1
  obtain⟨m,k,hb,hm⟩:=o.fin y hy (by rw[hpt];exact hf)
  rw[hfact] at hb
  exact⟨m,k,hb,hm.trans (by rw[e2];exact h2)⟩
theorem zuC{G:Sr}{B:Best}(h:∀ f m n cut,aget B f=some (m,n,cut)→DI G n cut m∧zaQ G n cut=none∧f=zaF G n cut){n:Nat}{cut:List Int}{c:Cost}(g:GI G B n cut c):DI G n cut c:=by
 induction g with
 | start a b=>exact .start a b
 | word _ a b c d ih=>exact .word ih a b c d
 | name hgi hr hp ho hb ih=>
  rename_i k
  obtain⟨n',cut'⟩:=k
  obtain⟨h1,h2,h3⟩:=h _ _ _ _ hb
  unfold zaF at h3
  simp only[Prod.mk.injEq] at h3
  obtain⟨e1,e2,e3⟩:=h3
  rw[e3]
  exact .name ih hr hp ho h1 h2 e1.symm e2.symm
theorem zc9{κ β:Type}[DecidableEq κ]{t:List (κ×β)}{k:κ}{v:β}(h:aget t k=some v):∃ a b,t=a ++ (k,v) :: b:=by
 induction t with
 | nil=>cases h
 | cons e t ih=>
  rw[zai] at h
  by_cases hk:e.1=k
  ·rw[if_pos hk] at h
   cases h
   exact⟨[],t,by rw[←hk];rfl⟩
  ·rw[if_neg hk] at h
   obtain⟨a,b,rfl⟩:=ih h
   exact⟨e :: a,b,rfl⟩
theorem zuD{G:Sr}{st:SS}{P:List It3}{cur:Cost}(o:Ob G st P cur):∀ (k:Nat) (pre:Best) (e:Fact×Cost×Nat×List Int) (post:Best),pre.length=k→st.best=pre ++ e :: post→DI G e.2.2.1 e.2.2.2 e.2.1:=by
 intro k
 induction k using Nat.strongRecOn with
 | _ k ih=>
  intro pre e post hk hb
  obtain⟨g,_⟩:=o.ord pre e post hb
  refine zuC (B:=pre) (fun f m n cut hf=>?_) g
  obtain⟨a,b,hab⟩:=zc9 hf
  have hb2:st.best=a ++ (f,m,n,cut) :: (b ++ e :: post):=by rw[hb,hab];simp
  have hlen:a.length < k:=by rw[←hk,hab];simp
  have hd:=ih a.length hlen a _ _ rfl hb2
  have hnone:=(o.ord a _ _ hb2).2
  have hf2:aget st.best f=some (m,n,cut):=by
   rw[hb2]
   have:∀ {a:Best} {x:Fact×Cost×Nat×List Int} {r:Best},aget a x.1=none→aget (a ++ x :: r) x.1=some x.2:=by
    intro a
    induction a with
    | nil=>intro x r _;rw[List.nil_append,zai,if_pos rfl]
    | cons y a ih2=>
     intro x r h
     rw[zai] at h
     rw[List.cons_append,zai]
     by_cases hy:y.1=x.1
     ·rw[if_pos hy] at h;cases h
     ·rw[if_neg hy] at h ⊢
      exact ih2 h
   exact this (x:=(f,m,n,cut)) hnone
  obtain⟨h1,h2,_⟩:=o.bst f m n cut hf2
  exact⟨hd,h1,h2⟩
theorem ziB{G:Sr}{st:SS}{P:List It3}{cur:Cost}(o:Ob G st P cur){f:Fact}{m:Cost}{n:Nat}{cut:List Int}(h:aget st.best f=some (m,n,cut)):DI G n cut m∧zaQ G n cut=none∧f=zaF G n cut:=by
 obtain⟨a,b,hab⟩:=zc9 h
 obtain⟨h1,h2,_⟩:=o.bst f m n cut h
 exact⟨zuD o a.length a _ b rfl hab,h1,h2⟩
end Rg
namespace Rg
open PySem PySem.Spec PyProof.Rows L2 L3
theorem zlA(st:SS)(n:Nat)(cut:List Int)(c:Cost):∃ j,j≤1∧(els (reach st n cut c).q).length=(els st.q).length + j∧(reach st n cut c).reached.length≤st.reached.length + j:=by
 have push:∃ j,j≤1∧(els (qput c (n,cut) st.q)).length=(els st.q).length + j∧(aput st.reached (zaz n cut) c).length≤st.reached.length + j:=⟨1,Nat.le_refl _,zd7 _ _ _,zh9 _ _ _⟩
 unfold reach
 cases aget st.reached (zaz n cut) with
 | none=>exact push
 | some d=>
  simp only
  split
  ·exact push
  ·exact⟨0,by omega,rfl,by omega⟩
theorem zda{α:Type}(f:α→Nat×List Int×Cost):∀ (xs:List α) (st:SS),∃ j,j≤xs.length∧(els (xs.foldl (fun st x=>reach st (f x).1 (f x).2.1 (f x).2.2) st).q).length=(els st.q).length + j∧(xs.foldl (fun st x=>reach st (f x).1 (f x).2.1 (f x).2.2) st).reached.length≤st.reached.length + j
 | [],st=>⟨0,Nat.le_refl _,rfl,Nat.le_refl _⟩
 | x :: xs,st=>by
  obtain⟨j1,h1,h2,h3⟩:=zlA st (f x).1 (f x).2.1 (f x).2.2
  obtain⟨j2,g1,g2,g3⟩:=zda f xs (reach st (f x).1 (f x).2.1 (f x).2.2)
  refine⟨j1 + j2,by rw[List.length_cons];omega,?_,?_⟩
  ·rw[List.foldl_cons,g2,h2];omega
  ·rw[List.foldl_cons];omega
def deg(G:Sr)(S:Nat)(st:SS)(y:It3):Nat:=match zaQ G y.1 y.2.1 with
 | none=>0
 | some part=>if G.own part=true then((aget st.ends (part,y.2.1.getLastD 0)).getD []).length else S
structure Cn(G:Sr)(S I0:Nat)(st:SS)(P:List It3)(T:Nat):Prop where
 put:(els st.q).length + T≤I0 + (P.map (deg G S st)).sum
 rch:st.reached.length≤(els st.q).length + T
 bnd:∀ key,((aget st.begun key).getD []).Nodup
 enn:∀ key,(((aget st.ends key).getD []).map Prod.fst).Nodup
theorem zib(f:It3→Nat)(P:List It3)(x:It3):((P ++ [x]).map f).sum=(P.map f).sum + f x:=by simp
theorem zkg{G:Sr}{S:Nat}{st st':SS}(h:st'.ends=st.ends):deg G S st'=deg G S st:=by
 funext y;unfold deg;rw[h]
theorem zuE{G:Sr}{S I0 T:Nat}{st:SS}{P:List It3}{c:Cost}{n:Nat}{cut:List Int}{part:Str}(C:Cn G S I0 st P T)(hS:∀ t p,(G.steps t p).length≤S)(hp:zaQ G n cut=some part)(ho:G.own part=false):Cn G S I0 (zaO G st n cut c part) (P ++ [(n,cut,c)]) T:=by
 obtain⟨j,h1,h2,h3⟩:=zda (fun z:Int×Int=>(n,cut ++ [z.1],(c.1 + z.2,c.2))) (G.steps part (cut.getLastD 0)) st
 have keep:∀ (xs:List (Int×Int)) (st:SS),(xs.foldl (fun st z=>reach st n (cut ++ [z.1]) (c.1 + z.2,c.2)) st).ends=st.ends∧(xs.foldl (fun st z=>reach st n (cut ++ [z.1]) (c.1 + z.2,c.2)) st).begun=st.begun:=by
  intro xs
  induction xs with
  | nil=>intro st;exact⟨rfl,rfl⟩
  | cons x xs ih=>
   intro st
   rw[List.foldl_cons]
   obtain⟨e1,e2⟩:=ih (reach st n (cut ++ [x.1]) (c.1 + x.2,c.2))
   have hr:(reach st n (cut ++ [x.1]) (c.1 + x.2,c.2)).ends=st.ends∧(reach st n (cut ++ [x.1]) (c.1 + x.2,c.2)).begun=st.begun:=by
    unfold reach
    split
    ·split <;> exact⟨rfl,rfl⟩
    ·exact⟨rfl,rfl⟩
   exact⟨e1.trans hr.1,e2.trans hr.2⟩
 obtain⟨k1,k2⟩:=keep (G.steps part (cut.getLastD 0)) st
 have k1':(zaO G st n cut c part).ends=st.ends:=k1
 have k2':(zaO G st n cut c part).begun=st.begun:=k2
 have h2':(els (zaO G st n cut c part).q).length=(els st.q).length + j:=h2
 have h3':(zaO G st n cut c part).reached.length≤st.reached.length + j:=h3
 have hs:=hS part (cut.getLastD 0)
 have hput:=C.put
 have hrch:=C.rch
 refine⟨?_,by omega,fun key=>by rw[k2'];exact C.bnd key,fun key=>by rw[k1'];exact C.enn key⟩
 rw[zkg k1',zib,h2']
 have:deg G S st (n,cut,c)=S:=by
  unfold deg
  rw[hp]
  simp only
  rw[if_neg (by rw[ho];decide)]
 omega
theorem zoA(st:SS)(n:Nat)(cut:List Int)(c:Cost):(reach st n cut c).ends=st.ends∧(reach st n cut c).begun=st.begun∧(reach st n cut c).best=st.best:=by
 unfold reach
 split
 ·split <;> exact⟨rfl,rfl,rfl⟩
 ·exact⟨rfl,rfl,rfl⟩
theorem ze1{α:Type}(f:α→Nat×List Int×Cost):∀ (xs:List α) (st:SS),(xs.foldl (fun st x=>reach st (f x).1 (f x).2.1 (f x).2.2) st).ends=st.ends∧(xs.foldl (fun st x=>reach st (f x).1 (f x).2.1 (f x).2.2) st).begun=st.begun∧(xs.foldl (fun st x=>reach st (f x).1 (f x).2.1 (f x).2.2) st).best=st.best
 | [],st=>⟨rfl,rfl,rfl⟩
 | x :: xs,st=>by
  rw[List.foldl_cons]
  obtain⟨h1,h2,h3⟩:=ze1 f xs (reach st (f x).1 (f x).2.1 (f x).2.2)
  obtain⟨g1,g2,g3⟩:=zoA st (f x).1 (f x).2.1 (f x).2.2
  exact⟨h1.trans g1,h2.trans g2,h3.trans g3⟩
theorem zuF{G:Sr}{S I0 T:Nat}{st:SS}{P:List It3}{cur c:Cost}{n:Nat}{cut:List Int}{part:Str}(C:Cn G S I0 st P T)(o:Ob G st P cur)(hnew:(n,cut,c)∉P)(hp:zaQ G n cut=some part)(ho:G.own part=true):Cn G S I0 (zaN st n cut c part) (P ++ [(n,cut,c)]) T:=by
 obtain⟨st1,hst1⟩:∃ z:SS,z = {st with begun:=zc8 st.begun (part,cut.getLastD 0) (n,cut,c)}:=⟨_,rfl⟩
 obtain⟨j,h1,h2,h3⟩:=zda (fun z:Int×Cost=>(n,cut ++ [z.1],addc c z.2)) ((aget st.ends (part,cut.getLastD 0)).getD []) st1
 obtain⟨k1,k2,_⟩:=ze1 (fun z:Int×Cost=>(n,cut ++ [z.1],addc c z.2)) ((aget st.ends (part,cut.getLastD 0)).getD []) st1
 have k1':(zaN st n cut c part).ends=st.ends:=by
  have:(zaN st n cut c part).ends=st1.ends:=by rw[hst1] at k1 ⊢;exact k1
  rw[this,hst1]
 have k2':(zaN st n cut c part).begun=zc8 st.begun (part,cut.getLastD 0) (n,cut,c):=by
  have:(zaN st n cut c part).begun=st1.begun:=by rw[hst1] at k2 ⊢;exact k2
  rw[this,hst1]
 have h2':(els (zaN st n cut c part).q).length=(els st.q).length + j:=by rw[hst1] at h2;exact h2
 have h3':(zaN st n cut c part).reached.length≤st.reached.length + j:=by rw[hst1] at h3;exact h3
 have hput:=C.put
 have hrch:=C.rch
 refine⟨?_,by omega,fun key=>?_,fun key=>by rw[k1'];exact C.enn key⟩
 ·rw[zkg k1',zib,h2']
  have:deg G S st (n,cut,c)=((aget st.ends (part,cut.getLastD 0)).getD []).length:=by
   unfold deg
   rw[hp]
   simp only
   rw[if_pos ho]
  omega
 ·rw[k2',zeZ]
  split
  ·rename_i h
   rw[List.nodup_append]
   refine⟨C.bnd key,by simp,fun a ha b hb e=>?_⟩
   rw[List.mem_singleton] at hb
   rw[e,hb] at ha
   exact hnew (o.bgn key _ ha).1
  ·exact C.bnd key
theorem zcN{α:Type}[DecidableEq α]:∀ {a b:List α},a.Nodup→(∀ x∈a,x∈b)→a.length≤b.length
 | [],b,_,_=>Nat.zero_le _
 | x :: a,b,hn,hs=>by
  rw[List.nodup_cons] at hn
  have hx:=hs x List.mem_cons_self
  have ih:=zcN (a:=a) (b:=b.erase x) hn.2 fun y hy=>by
   have hne:y≠x:=fun e=>hn.1 (by rw[←e];exact hy)
   exact(List.mem_erase_of_ne hne).mpr (hs y (List.mem_cons_of_mem _ hy))
  rw[List.length_erase_of_mem hx] at ih
  have:=List.length_pos_of_mem hx
  rw[List.length_cons];omega
theorem znH{f g:It3→Nat}{p:It3→Bool}:∀ {P:List It3},(∀ y∈P,g y=f y + if p y=true then 1 else 0)→(P.map g).sum=(P.map f).sum + (P.filter p).length
 | [],_=>rfl
 | y :: P,h=>by
  have ih:=znH (P:=P) fun z hz=>h z (List.mem_cons_of_mem _ hz)
  rw[List.map_cons,List.map_cons,List.sum_cons,List.sum_cons,ih,h y List.mem_cons_self,List.filter_cons]
  split <;> simp <;> omega
theorem zpX{G:Sr}{S I0 T:Nat}{st:SS}{P:List It3}{cur c:Cost}{n:Nat}{cut:List Int}(C:Cn G S I0 st P T)(o:Ob G st P cur)(hp:zaQ G n cut=none):Cn G S I0 (zer G st n cut c) (P ++ [(n,cut,c)]) T:=by
 have hdeg0:∀ st',deg G S st' (n,cut,c)=0:=fun st'=>by unfold deg;rw[hp]
 have hput:=C.put
 have hrch:=C.rch
 unfold zer
 cases hf:aget st.best (zaF G n cut) with
 | some v=>
  simp only
  refine⟨?_,C.rch,C.bnd,C.enn⟩
  rw[zib,hdeg0];omega
 | none=>
  simp only
  obtain⟨st1,hst1⟩:∃ z:SS,z = {st with best:=st.best ++ [(zaF G n cut,c,n,cut)],ends:=zc8 st.ends (fnm G n,cut.headD 0) (cut.getLastD 0,c)}:=⟨_,rfl⟩
  rw[←hst1]
  obtain⟨j,h1,h2,h3⟩:=zda (fun y:It3=>(y.1,y.2.1 ++ [cut.getLastD 0],addc y.2.2 c)) ((aget st.begun (fnm G n,cut.headD 0)).getD []) st1
  obtain⟨k1,k2,_⟩:=ze1 (fun y:It3=>(y.1,y.2.1 ++ [cut.getLastD 0],addc y.2.2 c)) ((aget st.begun (fnm G n,cut.headD 0)).getD []) st1
  obtain⟨st2,hst2⟩:∃ z,z=((aget st.begun (fnm G n,cut.headD 0)).getD []).foldl (fun st y=>reach st y.1 (y.2.1 ++ [cut.getLastD 0]) (addc y.2.2 c)) st1:=⟨_,rfl⟩
  rw[←hst2] at h2 h3 k1 k2 ⊢
  have E:st2.ends=zc8 st.ends (fnm G n,cut.headD 0) (cut.getLastD 0,c):=by rw[k1,hst1]
  have N:st2.begun=st.begun:=by rw[k2,hst1]
  have q1:(els st1.q).length=(els st.q).length:=by rw[hst1]
  have r1:st1.reached.length=st.reached.length:=by rw[hst1]
  obtain⟨pk,hpk⟩:∃ pk:It3→Bool,pk=fun y=>decide (zaQ G y.1 y.2.1=some (fnm G n)∧G.own (fnm G n)=true∧y.2.1.getLastD 0=cut.headD 0):=⟨_,rfl⟩
  have hsum:(P.map (deg G S st2)).sum=(P.map (deg G S st)).sum + (P.filter pk).length:=znH fun y hy=>by
   unfold deg
   cases hpt:zaQ G y.1 y.2.1 with
   | none=>rw[hpk];simp[hpt]
   | some part=>
    simp only
    cases ho:G.own part with
    | false=>
     rw[hpk]
     simp only[hpt,Option.some.injEq]
     rw[if_neg (by decide),if_neg (by decide),if_neg (by rw[decide_eq_true_eq];rintro⟨h1,h2,_⟩;rw[←h1,ho] at h2;cases h2)]
     rfl
    | true=>
     rw[if_pos rfl,if_pos rfl,E,zeZ]
     by_cases h:(fnm G n,cut.headD 0)=(part,y.2.1.getLastD 0)
     ·rw[if_pos h]
      simp only[Prod.mk.injEq] at h
      rw[hpk]
      simp only[hpt,Option.some.injEq]
      rw[if_pos (by rw[decide_eq_true_eq];exact⟨h.1.symm,by rw[h.1];exact ho,h.2.symm⟩)]
      simp
     ·rw[if_neg h]
      rw[hpk]
      simp only[hpt,Option.some.injEq]
      rw[if_neg (by rw[decide_eq_true_eq];rintro⟨h1,_,h3⟩;exact h (by rw[h1,h3]))]
      omega
  have hbl:((aget st.begun (fnm G n,cut.headD 0)).getD []).length≤(P.filter pk).length:=zcN (C.bnd _) fun y hy=>by
   obtain⟨g1,g2,g3,g4,_⟩:=o.bgn _ y hy
   rw[List.mem_filter,hpk]
   exact⟨g1,decide_eq_true ⟨g2,g3,g4⟩⟩
  refine⟨?_,by omega,fun key=>by rw[N];exact C.bnd key,fun key=>?_⟩
  ·rw[zib,hdeg0,hsum];omega
  ·rw[E,zeZ]
   split
   ·rename_i h
    rw[List.map_append,List.nodup_append]
    refine⟨C.enn key,by simp,fun a ha b hb e=>?_⟩
    obtain⟨z,hz,rfl⟩:=List.mem_map.mp ha
    rw[List.map_singleton,List.mem_singleton] at hb
    rw[←h] at hz
    obtain⟨k,hk⟩:=(o.ends _ _ z.1 z.2).mp hz
    rw[e,hb] at hk
    have:aget st.best (zaF G n cut)=some (z.2,k):=hk
    rw[hf] at this;cases this
   ·exact C.enn key
end Rg
namespace Rg
open PySem PySem.Spec PyProof.Rows L2 L3
def zdu(G:Sr)(st:SS):SS:=match zf7 st.q with
 | none=>st
 | some (c,(n,cut),q')=>match aget st.reached (zaz n cut) with
  | some d=>if ltc d c=true then {st with q:=q'} else process G {st with q:=q'} n cut c
  | none=>{st with q:=q'}
structure All(G:Sr)(S I0:Nat)(st:SS)(P:List It3)(cur:Cost)(T:Nat):Prop where
 inv:Inv0 G st P cur
 ob:Ob G st P cur
 ini:Ini G st
 cn:Cn G S I0 st P T
theorem Cn.q{G:Sr}{S I0 T:Nat}{st:SS}{P:List It3}{q':List (Cost×List (Nat×List Int))}(C:Cn G S I0 st P T)(h:(els st.q).length=(els q').length + 1):Cn G S I0 {st with q:=q'} P (T + 1):=by
 have h1:=C.put
 have h2:=C.rch
 refine⟨?_,?_,C.bnd,C.enn⟩
 ·show(els q').length + (T + 1)≤_
  rw[zkg (st':={st with q:=q'}) (st:=st) rfl]
  omega
 ·show st.reached.length≤(els q').length + (T + 1)
  omega
theorem zoB{G:Sr}{S I0 T:Nat}{st:SS}{P:List It3}{cur c:Cost}{n:Nat}{cut:List Int}(C:Cn G S I0 st P T)(o:Ob G st P cur)(hS:∀ t p,(G.steps t p).length≤S)(hnew:(n,cut,c)∉P):Cn G S I0 (process G st n cut c) (P ++ [(n,cut,c)]) T:=by
 unfold process
 cases hp:zaQ G n cut with
 | none=>exact zpX C o hp
 | some part=>
  simp only
  cases ho:G.own part with
  | true=>rw[if_pos rfl];exact zuF C o hnew hp ho
  | false=>rw[if_neg (by decide)];exact zuE C hS hp ho
theorem zpY{G:Sr}(ok:SrOk G){S I0 T:Nat}{st:SS}{P:List It3}{cur:Cost}(A:All G S I0 st P cur T)(hS:∀ t p,(G.steps t p).length≤S)(hq:st.q≠[]):∃ P' cur',All G S I0 (zdu G st) P' cur' (T + 1):=by
 obtain⟨c,x,q',e1,f1,m1,l1,c1,_⟩:=zck A.inv.fall hq
 obtain⟨n,cut⟩:=x
 have hin:(c,(n,cut))∈els st.q:=(m1 _).mpr (.inl rfl)
 obtain⟨d,hd,hle⟩:=A.inv.ge _ hin
 unfold zdu
 rw[e1]
 simp only
 rw[hd]
 simp only
 by_cases hl:ltc d c=true
 ·rw[if_pos hl]
  obtain⟨I1,hc⟩:=zrT A.inv e1 hd hl
  exact⟨P,c,I1,A.ob.later hc q',A.ini,A.cn.q l1⟩
 ·rw[if_neg hl]
  have hdc:d=c:=Le.antisymm hle (zpS.mpr hl)
  subst hdc
  obtain⟨I1,hc,g⟩:=zrS A.inv e1 hd
  have o1:=A.ob.later hc q'
  obtain⟨I2,o2,le2⟩:=zoz ok I1 o1 g
  refine⟨_,_,I2,o2,fun n r p h1 h2=>le2 _ _ (A.ini n r p h1 h2),zoB (A.cn.q l1) o1 hS fun hm=>?_⟩
  have hn:=I1.once
  rw[List.map_append,List.nodup_append] at hn
  exact hn.2.2 _ (List.mem_map.mpr ⟨_,hm,rfl⟩) _ (by simp) rfl
def st0:SS:=⟨[],[],[],[],[]⟩
def zf8(G:Sr):List (Nat×Int):=(List.range G.rs.length).flatMap fun n=>G.places.map fun p=>(n,p)
def zgD(G:Sr):SS:=(zf8 G).foldl (fun st x=>reach st x.1 [x.2] (G.wt x.1,1)) st0
theorem znI{G:Sr}(ok:SrOk G)(S:Nat):All G S (zf8 G).length (zgD G) [] (0,0) 0:=by
 have I0:Inv0 G st0 [] (0,0):=⟨trivial,(fun e he=>nomatch he),(fun e he=>nomatch he),List.nodup_nil,List.nodup_nil,(fun y hy=>nomatch hy),(fun e he=>nomatch he),(fun e he=>nomatch he),(fun k d hd=>nomatch hd)⟩
 have hmem:∀ x∈zf8 G,(∃ r,G.rs[x.1]? = some r)∧x.2∈G.places:=fun x hx=>by
  obtain⟨n,hn,hx⟩:=List.mem_flatMap.mp hx
  obtain⟨p,hp,rfl⟩:=List.mem_map.mp hx
  exact⟨⟨_,List.getElem?_eq_getElem (List.mem_range.mp hn)⟩,hp⟩
 obtain⟨I1,g1,r1⟩:=zdQ (fun x:Nat×Int=>(x.1,[x.2],(G.wt x.1,(1:Int)))) (zf8 G) I0 fun x hx=>by
  obtain⟨⟨r,hr⟩,hp⟩:=hmem x hx
  refine⟨.start hr hp,?_⟩
  have:=ok.wt x.1
  show Le (0,0) (G.wt x.1,1)
  unfold Le;simp only;omega
 obtain⟨j,h1,h2,h3⟩:=zda (fun x:Nat×Int=>(x.1,[x.2],(G.wt x.1,(1:Int)))) (zf8 G) st0
 have b0:(zgD G).best=[]:=g1.best
 have e0:(zgD G).ends=[]:=g1.ends
 have n0:(zgD G).begun=[]:=g1.begun
 refine⟨I1,⟨Le.refl _,(fun y hy=>nomatch hy),(fun y hy=>nomatch hy),(fun y hy=>nomatch hy),fun key y hy=>?_,fun key y hy=>?_,fun nm b e m=>?_,fun f m n cut e=>?_,fun pre e post h=>?_⟩,fun n r p hr hp=>?_,⟨?_,?_,fun key=>?_,fun key=>?_⟩⟩
 ·rw[n0] at hy;cases hy
 ·rw[n0] at hy;cases hy
 ·rw[e0,b0]
  exact⟨(fun z=>nomatch z),(fun⟨k,hk⟩=>nomatch hk)⟩
 ·rw[b0] at e;cases e
 ·rw[b0] at h
  cases pre <;> cases h
 ·exact r1 (n,p) (List.mem_flatMap.mpr ⟨n,List.mem_range.mpr (List.getElem?_eq_some_iff.mp hr).1,List.mem_map.mpr ⟨p,hp,rfl⟩⟩)
 ·have h2:(els (zgD G).q).length=(els st0.q).length + j:=h2
  have:(els st0.q).length=0:=rfl
  simp only[List.map_nil,List.sum_nil]
  omega
 ·have h2:(els (zgD G).q).length=(els st0.q).length + j:=h2
  have h3:(zgD G).reached.length≤st0.reached.length + j:=h3
  have e1:(els st0.q).length=0:=rfl
  have e2:st0.reached.length=0:=rfl
  omega
 ·rw[n0];exact List.nodup_nil
 ·rw[e0];exact List.nodup_nil
structure SrV(G:Sr)(V:List Int)(N L:Nat):Prop where
 pl:∀ p∈G.places,p∈V
 st:∀ t p e c,p∈V→(e,c)∈G.steps t p→e∈V
 few:G.rs.length≤N
 len:∀ r∈G.rs,r.parts.length + 1≤L
theorem zgE{l:List Int}(h:l≠[]):l.getLastD 0∈l:=by
 rcases List.eq_nil_or_concat l with z | ⟨a,b,z⟩
 ·exact absurd z h
 ·rw[z,List.concat_eq_append];simp[List.getLastD_eq_getLast?]
theorem zrV{l:List Int}(h:l≠[]):l.headD 0∈l:=by
 cases l with
 | nil=>exact absurd rfl h
 | cons a b=>simp
theorem zpZ{G:Sr}{V:List Int}{N L:Nat}(v:SrV G V N L){n:Nat}{cut:List Int}{c:Cost}(h:DI G n cut c):(∀ x∈cut,x∈V)∧n < N∧cut.length≤L:=by
 induction h with
 | @start n r p hr hp=>
  have hn:=(List.getElem?_eq_some_iff.mp hr).1
  have:=v.len r (List.mem_of_getElem? hr)
  have:=v.few
  exact⟨fun x hx=>by rw[List.mem_singleton.mp hx];exact v.pl p hp,by omega,by simp;omega⟩
 | @word n r cut c part e pr hd hr hp ho hs ih=>
  obtain⟨h1,h2,h3⟩:=ih
  have hl:=(List.getElem?_eq_some_iff.mp hp).1
  have:=v.len r (List.mem_of_getElem? hr)
  have hne:=List.length_pos_iff.mpr hd.ne
  refine⟨fun x hx=>?_,h2,by rw[List.length_append,List.length_singleton];omega⟩
  rcases List.mem_append.mp hx with z | z
  ·exact h1 x z
  ·rw[List.mem_singleton.mp z];exact v.st _ _ _ _ (h1 _ (zgE hd.ne)) hs
 | @name n n' r cut cut' c m part hd hr hp ho hd' hf hn hh ih ih'=>
  obtain⟨h1,h2,h3⟩:=ih
  obtain⟨g1,_,_⟩:=ih'
  have hl:=(List.getElem?_eq_some_iff.mp hp).1
  have:=v.len r (List.mem_of_getElem? hr)
  have hne:=List.length_pos_iff.mpr hd.ne
  refine⟨fun x hx=>?_,h2,by rw[List.length_append,List.length_singleton];omega⟩
  rcases List.mem_append.mp hx with z | z
  ·exact h1 x z
  ·rw[List.mem_singleton.mp z];exact g1 _ (zgE hd'.ne)
def uni(V:List Int)(N L:Nat):List K4:=(List.range N).flatMap fun n=>(List.range (L + 1)).flatMap fun l=>V.flatMap fun a=>V.map fun b=>(n,l,a,b)
theorem zgF{α β:Type}{f:α→List β}{k:Nat}:∀ {l:List α},(∀ x∈l,(f x).length=k)→(l.flatMap f).length=l.length * k
 | [],_=>by simp
 | x :: l,h=>by
  rw[List.flatMap_cons,List.length_append,h x List.mem_cons_self,zgF fun y hy=>h y (List.mem_cons_of_mem _ hy),List.length_cons,Nat.succ_mul];omega
theorem zuG(V:List Int)(N L:Nat):(uni V N L).length=N * ((L + 1) * (V.length * V.length)):=by
 unfold uni
 rw[zgF (k:=(L + 1) * (V.length * V.length)) fun n _=>?_,List.length_range]
 rw[zgF (k:=V.length * V.length) fun l _=>?_,List.length_range]
 rw[zgF (k:=V.length) fun a _=>by rw[List.length_map]]
theorem zmP{G:Sr}{V:List Int}{N L S I0 T:Nat}{st:SS}{P:List It3}{cur:Cost}(v:SrV G V N L)(A:All G S I0 st P cur T):P.length≤N * ((L + 1) * (V.length * V.length))∧(∀ key,((aget st.ends key).getD []).length≤V.length)∧(els st.q).length + T≤I0 + N * ((L + 1) * (V.length * V.length)) * (S + V.length):=by
 have hin:∀ {B:Best} {n cut c},B=st.best→GI G B n cut c→DI G n cut c:=fun {B n cut c} e g=>zuC (B:=B) (fun f m n' cut' h=>ziB A.ob (by rw[←e];exact h)) g
 have hP:P.length≤N * ((L + 1) * (V.length * V.length)):=by
  have:=zcN (b:=uni V N L) A.inv.once fun k hk=>by
   obtain⟨y,hy,rfl⟩:=List.mem_map.mp hk
   have hd:=hin rfl (A.inv.pr y hy).2.2
   obtain⟨h1,h2,h3⟩:=zpZ v hd
   unfold uni
   refine List.mem_flatMap.mpr ⟨y.1,List.mem_range.mpr h2,List.mem_flatMap.mpr ⟨y.2.1.length,List.mem_range.mpr (by omega),List.mem_flatMap.mpr ⟨_,h1 _ (zrV hd.ne),List.mem_map.mpr ⟨_,h1 _ (zgE hd.ne),rfl⟩⟩⟩⟩
  rw[List.length_map,zuG] at this
  exact this
 have hE:∀ key,((aget st.ends key).getD []).length≤V.length:=fun key=>by
  have:=zcN (b:=V) (A.cn.enn key) fun e he=>by
   obtain⟨z,hz,rfl⟩:=List.mem_map.mp he
   obtain⟨k,hk⟩:=(A.ob.ends key.1 key.2 z.1 z.2).mp hz
   obtain⟨n,cut⟩:=k
   obtain⟨hd,_,hf⟩:=ziB A.ob hk
   unfold zaF at hf
   simp only[Prod.mk.injEq] at hf
   rw[hf.2.2]
   exact(zpZ v hd).1 _ (zgE hd.ne)
  rw[List.length_map] at this
  exact this
 refine⟨hP,hE,?_⟩
 have hsum:(P.map (deg G S st)).sum≤P.length * (S + V.length):=by
  have hd:∀ y,deg G S st y≤S + V.length:=fun y=>by
   unfold deg
   split
   ·omega
   ·rename_i part _
    split
    ·have:=hE (part,y.2.1.getLastD 0)
     omega
    ·omega
  have:∀ l:List It3,(l.map (deg G S st)).sum≤l.length * (S + V.length):=by
   intro l
   induction l with
   | nil=>simp
   | cons y l ih=>rw[List.map_cons,List.sum_cons,List.length_cons,Nat.succ_mul];have:=hd y;omega
  exact this P
 have h1:=A.cn.put
 have h2:P.length * (S + V.length)≤N * ((L + 1) * (V.length * V.length)) * (S + V.length):=Nat.mul_le_mul_right _ hP
 omega
end Rg
namespace Rg
open PySem PySem.Spec PyProof.Rows L2 L3
def ownB(rs:List Rule)(t:Str):Bool:=decide (t∈zak rs)
theorem zp0{rs:List Rule}{r:Rule}(h:r∈rs):ownB rs r.name=true:=decide_eq_true (zbN.mpr ⟨r,h,rfl⟩)
mutual
inductive LD(rs:List Rule):Str→Int→Prop
 | mk {r:Rule} {l:Int}:r∈rs→LDs rs r.parts l→LD rs r.name l
inductive LDs(rs:List Rule):List Str→Int→Prop
 | nil:LDs rs [] 0
 | word {t:Str} {ts:List Str} {l:Int}:ownB rs t=false→LDs rs ts l→LDs rs (t :: ts) (1 + l)
 | name {t:Str} {ts:List Str} {a l:Int}:ownB rs t=true→LD rs t a→LDs rs ts l→LDs rs (t :: ts) (a + l)
end
theorem LDs.append{rs:List Rule}:∀ {xs ys:List Str} {a b:Int},LDs rs xs a→LDs rs ys b→LDs rs (xs ++ ys) (a + b)
 | [],ys,_,b,.nil,h=>by rw[List.nil_append,Int.zero_add];exact h
 | t :: xs,ys,_,b,.word h1 h2,h=>by rw[Int.add_assoc];exact .word h1 (LDs.append h2 h)
 | t :: xs,ys,_,b,.name h1 h3 h2,h=>by rw[Int.add_assoc];exact .name h1 h3 (LDs.append h2 h)
theorem LDs.one{rs:List Rule}{t:Str}(h:ownB rs t=false):LDs rs [t] 1:=.word h .nil
theorem LDs.oneN{rs:List Rule}{t:Str}{a:Int}(h:ownB rs t=true)(d:LD rs t a):LDs rs [t] a:=by
 have:=LDs.name h d .nil
 rwa [Int.add_zero] at this
abbrev LT:=List (Str×Int)
def zf9(T:LT)(t:Str):Int:=(aget T t).getD 1
def lackT{β:Type}(rs:List Rule)(T:List (Str×β))(ps:List Str):Bool:=ps.any fun t=>ownB rs t && (aget T t).isNone
def sumL(T:LT)(ps:List Str):Int:=(ps.map (zf9 T)).sum
def zp1(i j:Int):Int:=if j < i then j else i
def zcc(rs:List Rule)(T:LT)(r:Rule):LT:=if lackT rs T r.parts=true then T else aput T r.name (zp1 (sumL T r.parts) ((aget T r.name).getD (sumL T r.parts)))
def zwE(rs:List Rule)(T:LT):LT:=rs.foldl (zcc rs) T
def zbn(rs:List Rule):Nat→LT
 | 0=>[]
 | k + 1=>zwE rs (zbn rs k)
def lawL(rs:List Rule):LT:=zbn rs (rs.length + 1)
structure zdJ(rs:List Rule)(T:LT):Prop where
 own:∀ X l,aget T X=some l→ownB rs X=true
 ld:∀ X l,aget T X=some l→LD rs X l
theorem zlB{β:Type}{rs:List Rule}{T:List (Str×β)}{t:Str}{ts:List Str}:lackT rs T (t :: ts)=false↔(ownB rs t=true→∃ l,aget T t=some l)∧lackT rs T ts=false:=by
 unfold lackT
 rw[List.any_cons,Bool.or_eq_false_iff,Bool.and_eq_false_iff]
 constructor
 ·rintro⟨h,h2⟩
  refine⟨fun ho=>?_,h2⟩
  rcases h with z | z
  ·rw[ho] at z;cases z
  ·cases q:aget T t with
   | none=>rw[q] at z;cases z
   | some l=>exact⟨l,rfl⟩
 ·rintro⟨h,h2⟩
  refine⟨?_,h2⟩
  cases ho:ownB rs t with
  | false=>exact .inl rfl
  | true=>obtain⟨l,e⟩:=h ho;rw[e];exact .inr rfl
theorem zp2{T:LT}{t:Str}{ts:List Str}:sumL T (t :: ts)=zf9 T t + sumL T ts:=by unfold sumL;rw[List.map_cons,List.sum_cons]
theorem zdJ.sum{rs:List Rule}{T:LT}(g:zdJ rs T):∀ {ps:List Str},lackT rs T ps=false→LDs rs ps (sumL T ps)
 | [],_=>.nil
 | t :: ts,h=>by
  obtain⟨h1,h2⟩:=zlB.mp h
  rw[zp2]
  cases ho:ownB rs t with
  | true=>
   obtain⟨l,e⟩:=h1 ho
   have:zf9 T t=l:=by unfold zf9;rw[e];rfl
   rw[this]
   exact .name ho (g.ld _ _ e) (g.sum h2)
  | false=>
   have:zf9 T t=1:=by
    unfold zf9
    cases e:aget T t with
    | none=>rfl
    | some l=>rw[g.own _ _ e] at ho;cases ho
   rw[this]
   exact .word ho (g.sum h2)
theorem zdJ.step{rs:List Rule}{T:LT}(g:zdJ rs T){r:Rule}(hr:r∈rs):zdJ rs (zcc rs T r):=by
 unfold zcc
 split
 ·exact g
 ·rename_i h
  have h:lackT rs T r.parts=false:=by simpa using h
  have hs:LD rs r.name (sumL T r.parts):=.mk hr (g.sum h)
  refine⟨fun X l e=>?_,fun X l e=>?_⟩
  ·rw[zay] at e
   by_cases hx:r.name=X
   ·rw[←hx];exact zp0 hr
   ·rw[if_neg hx] at e;exact g.own X l e
  ·rw[zay] at e
   by_cases hx:r.name=X
   ·rw[if_pos hx] at e
    cases e
    subst hx
    unfold zp1
    cases q:aget T r.name with
    | none=>rw[Option.getD_none,if_neg (by omega)];exact hs
    | some l=>
     rw[Option.getD_some]
     split
     ·exact g.ld _ _ q
     ·exact hs
   ·rw[if_neg hx] at e;exact g.ld X l e
theorem zdJ.steps{rs:List Rule}:∀ {qs:List Rule} {T:LT},zdJ rs T→(∀ r∈qs,r∈rs)→zdJ rs (qs.foldl (zcc rs) T)
 | [],T,g,_=>g
 | r :: qs,T,g,h=>zdJ.steps (qs:=qs) (T:=zcc rs T r) (g.step (h r List.mem_cons_self)) fun x hx=>h x (List.mem_cons_of_mem _ hx)
theorem zdJ.rounds(rs:List Rule):∀ k,zdJ rs (zbn rs k)
 | 0=>⟨(fun _ _ e=>nomatch e),(fun _ _ e=>nomatch e)⟩
 | k + 1=>(zdJ.rounds rs k).steps fun _ h=>h
def TLe(T' T:LT):Prop:=∀ X l,aget T X=some l→∃ l',aget T' X=some l'∧l'≤l
theorem TLe.refl(T:LT):TLe T T:=fun _ l e=>⟨l,e,Int.le_refl _⟩
theorem TLe.trans{a b c:LT}(x:TLe a b)(y:TLe b c):TLe a c:=fun X l e=>by
 obtain⟨l1,e1,h1⟩:=y X l e
 obtain⟨l2,e2,h2⟩:=x X l1 e1
 exact⟨l2,e2,by omega⟩
theorem TLe.step(rs:List Rule)(T:LT)(r:Rule):TLe (zcc rs T r) T:=fun X l e=>by
 unfold zcc
 split
 ·exact⟨l,e,Int.le_refl _⟩
 ·rw[zay]
  by_cases hx:r.name=X
  ·subst hx
   rw[if_pos rfl,e,Option.getD_some]
   refine⟨_,rfl,?_⟩
   unfold zp1;split <;> omega
  ·rw[if_neg hx];exact⟨l,e,Int.le_refl _⟩
theorem TLe.steps(rs:List Rule):∀ (qs:List Rule) (T:LT),TLe (qs.foldl (zcc rs) T) T
 | [],T=>TLe.refl T
 | r :: qs,T=>(TLe.steps rs qs (zcc rs T r)).trans (TLe.step rs T r)
theorem zrW{rs:List Rule}{T:LT}{r:Rule}(h:lackT rs T r.parts=false):∃ l,aget (zcc rs T r) r.name=some l∧l≤sumL T r.parts:=by
 unfold zcc
 rw[if_neg (by rw[h];decide),zay,if_pos rfl]
 refine⟨_,rfl,?_⟩
 unfold zp1;split <;> omega
def zbo(rs:List Rule)(ws:List Str):Sr:=⟨rs,ownB rs,[0],fun t p=>if p=0∧t∈ws then [(0,1)] else [],fun _=>0⟩
theorem zlC{β:Type}{rs:List Rule}{T:List (Str×β)}{t:Str}{ts:List Str}:lackT rs T (ts ++ [t])=(lackT rs T ts || (ownB rs t && (aget T t).isNone)):=by
 unfold lackT;rw[List.any_append];simp
theorem zlD{T:LT}{t:Str}{ts:List Str}:sumL T (ts ++ [t])=sumL T ts + zf9 T t:=by
 unfold sumL;rw[List.map_append,List.sum_append];simp
theorem zaL{α:Type}{l:List α}{k:Nat}{x:α}(h:l[k]? = some x):l.take (k + 1)=l.take k ++ [x]:=by
 rw[List.take_succ,h];rfl
theorem zwF{rs:List Rule}{ws:List Str}{pre:Best}{T:LT}(g:zdJ rs T)(ht:∀ nm b e m k,aget pre (nm,b,e)=some (m,k)→∃ l,aget T nm=some l∧l≤m.1){n:Nat}{cut:List Int}{c:Cost}(h:GI (zbo rs ws) pre n cut c) :
  ∃ r,rs[n]? = some r∧cut.length - 1≤r.parts.length∧lackT rs T (r.parts.take (cut.length - 1))=false∧sumL T (r.parts.take (cut.length - 1))≤c.1:=by
 induction h with
 | @start r p hr _=>exact⟨r,hr,by simp,by simp[lackT],by simp[sumL,zbo]⟩
 | @word r cut c part e pr hg hr hp ho hs ih=>
  obtain⟨r',hr',h1,h2,h3⟩:=ih
  have hr:rs[n]? = some r:=hr
  rw[hr'] at hr
  cases hr
  have hne:=List.length_pos_iff.mpr hg.ne
  have hl:=(List.getElem?_eq_some_iff.mp hp).1
  have hk:(cut ++ [e]).length - 1=(cut.length - 1) + 1:=by rw[List.length_append,List.length_singleton];omega
  have ho':ownB rs part=false:=ho
  refine⟨r,hr',by omega,?_,?_⟩
  ·rw[hk,zaL hp,zlC,h2,ho'];rfl
  ·rw[hk,zaL hp,zlD]
   have hpr:pr=1:=by
    have hs:(e,pr)∈(if cut.getLastD 0=0∧part∈ws then [((0:Int),(1:Int))] else []):=hs
    split at hs
    ·simp at hs;exact hs.2
    ·cases hs
   have:zf9 T part=1:=by
    unfold zf9
    cases q:aget T part with
    | none=>rfl
    | some l=>rw[g.own _ _ q] at ho';cases ho'
   show _≤c.1 + pr
   omega
 | @name r cut c m part e k hg hr hp ho hb ih=>
  obtain⟨r',hr',h1,h2,h3⟩:=ih
  have hr:rs[n]? = some r:=hr
  rw[hr'] at hr
  cases hr
  have hne:=List.length_pos_iff.mpr hg.ne
  have hl:=(List.getElem?_eq_some_iff.mp hp).1
  have hk:(cut ++ [e]).length - 1=(cut.length - 1) + 1:=by rw[List.length_append,List.length_singleton];omega
  obtain⟨l,q,hle⟩:=ht _ _ _ _ _ hb
  refine⟨r,hr',by omega,?_,?_⟩
  ·rw[hk,zaL hp,zlC,h2,q];simp
  ·rw[hk,zaL hp,zlD]
   have:zf9 T part=l:=by unfold zf9;rw[q];rfl
   show _≤c.1 + m.1
   omega
theorem zwG{rs:List Rule}{ws:List Str}{pre:Best}{b:Int}(hb:1≤b)(ht:∀ f m k,aget pre f=some (m,k)→m.1≤b){n:Nat}{cut:List Int}{c:Cost}(h:GI (zbo rs ws) pre n cut c):c.1≤b * ((cut.length - 1:Nat):Int):=by
 induction h with
 | start hr _=>show(0:Int)≤_;simp
 | @word r cut c part e pr hg hr hp ho hs ih=>
  have hne:=List.length_pos_iff.mpr hg.ne
  have hk:((cut ++ [e]).length - 1:Nat)=(cut.length - 1) + 1:=by rw[List.length_append,List.length_singleton];omega
  have hpr:pr=1:=by
   have hs:(e,pr)∈(if cut.getLastD 0=0∧part∈ws then [((0:Int),(1:Int))] else []):=hs
   split at hs
   ·simp at hs;exact hs.2
   ·cases hs
  rw[hk,Int.natCast_add,Int.mul_add]
  show c.1 + pr≤_
  simp only[Int.natCast_one,Int.mul_one]
  omega
 | @name r cut c m part e k hg hr hp ho hm ih=>
  have hne:=List.length_pos_iff.mpr hg.ne
  have hk:((cut ++ [e]).length - 1:Nat)=(cut.length - 1) + 1:=by rw[List.length_append,List.length_singleton];omega
  have:=ht _ _ _ hm
  rw[hk,Int.natCast_add,Int.mul_add]
  show c.1 + m.1≤_
  simp only[Int.natCast_one,Int.mul_one]
  omega
end Rg
namespace Rg
open PySem PySem.Spec PyProof.Rows L2 L3
section
variable {rs:List Rule}{ws:List Str}
theorem zp3{n:Nat}{r:Rule}(h:rs[n]? = some r):fnm (zbo rs ws) n=r.name:=by
 unfold fnm;rw[show(zbo rs ws).rs[n]? = some r from h]
theorem ziC{n:Nat}{r:Rule}{cut:List Int}(h:rs[n]? = some r):zaQ (zbo rs ws) n cut=r.parts[cut.length - 1]?:=by
 unfold zaQ;rw[show(zbo rs ws).rs[n]? = some r from h]
def AllW(rs:List Rule)(ws:List Str):Prop:=∀ r∈rs,∀ t∈r.parts,ownB rs t=false→t∈ws
theorem zga{n:Nat}{cut:List Int}{c:Cost}(h:DI (zbo rs ws) n cut c):∀ x∈cut,x=0:=by
 have v:SrV (zbo rs ws) [0] rs.length ((rs.map fun r=>r.parts.length).foldr max 0 + 1):=by
  refine⟨fun p hp=>hp,fun t p e c hp hs=>?_,Nat.le_refl _,fun r hr=>?_⟩
  ·have hs:(e,c)∈(if p=0∧t∈ws then [((0:Int),(1:Int))] else []):=hs
   split at hs
   ·simp at hs;simp[hs.1]
   ·cases hs
  ·have:∀ {l:List Rule} {r:Rule},r∈l→r.parts.length≤(l.map fun r=>r.parts.length).foldr max 0:=by
    intro l
    induction l with
    | nil=>intro r h;cases h
    | cons a l ih=>
     intro r h
     rw[List.map_cons,List.foldr_cons]
     rcases List.mem_cons.mp h with z | z
     ·rw[z];omega
     ·have:=ih z;omega
   have:=this (l:=rs) hr
   omega
 intro x hx
 have:=(zpZ v h).1 x hx
 simpa using this
theorem zgG{cut:List Int}(h:∀ x∈cut,x=0):cut.getLastD 0=0:=by
 cases cut with
 | nil=>rfl
 | cons a l=>exact h _ (zgE (by simp))
theorem ziD{cut:List Int}(h:∀ x∈cut,x=0):cut.headD 0=0:=by
 cases cut with
 | nil=>rfl
 | cons a l=>exact h a List.mem_cons_self
theorem zwH{n:Nat}{cut:List Int}{c:Cost}(h:DI (zbo rs ws) n cut c):∃ r,rs[n]? = some r∧cut.length - 1≤r.parts.length∧LDs rs (r.parts.take (cut.length - 1)) c.1:=by
 induction h with
 | @start n r p hr _=>exact⟨r,hr,by simp,by simp;exact .nil⟩
 | @word n r cut c part e pr hd hr hp ho hs ih=>
  obtain⟨r',hr',h1,h2⟩:=ih
  have hr:rs[n]? = some r:=hr
  rw[hr'] at hr
  cases hr
  have hne:=List.length_pos_iff.mpr hd.ne
  have hl:=(List.getElem?_eq_some_iff.mp hp).1
  have hk:(cut ++ [e]).length - 1=(cut.length - 1) + 1:=by rw[List.length_append,List.length_singleton];omega
  have hpr:pr=1:=by
   have hs:(e,pr)∈(if cut.getLastD 0=0∧part∈ws then [((0:Int),(1:Int))] else []):=hs
   split at hs
   ·simp at hs;exact hs.2
   ·cases hs
  refine⟨r,hr',by omega,?_⟩
  rw[hk,zaL hp,hpr]
  exact h2.append (.one ho)
 | @name n n' r cut cut' c m part hd hr hp ho hd' hfin hnm hhd ih ih'=>
  obtain⟨r',hr',h1,h2⟩:=ih
  obtain⟨r2,hr2,g1,g2⟩:=ih'
  have hr:rs[n]? = some r:=hr
  rw[hr'] at hr
  cases hr
  have hne:=List.length_pos_iff.mpr hd.ne
  have hl:=(List.getElem?_eq_some_iff.mp hp).1
  have hk:(cut ++ [cut'.getLastD 0]).length - 1=(cut.length - 1) + 1:=by rw[List.length_append,List.length_singleton];omega
  refine⟨r,hr',by omega,?_⟩
  rw[hk,zaL hp]
  refine h2.append (.oneN ho ?_)
  rw[ziC hr2] at hfin
  rw[zp3 hr2] at hnm
  rw[List.take_of_length_le (List.getElem?_eq_none_iff.mp hfin)] at g2
  rw[←hnm]
  exact .mk (List.mem_of_getElem? hr2) g2
mutual
theorem zwI(aw:AllW rs ws):∀ {X:Str} {l:Int},LD rs X l→∃ n cut c,DI (zbo rs ws) n cut c∧zaQ (zbo rs ws) n cut=none∧fnm (zbo rs ws) n=X∧c.1=l
 | _,_,.mk (r:=r) (l:=l) hr hp=>by
  obtain⟨n,hn⟩:=List.getElem?_of_mem hr
  obtain⟨cut,c,h1,h2,h3⟩:=zp4 aw hp n r [0] (0,1) hn (.start hn (by simp[zbo])) (by simp) (by simp)
  exact⟨n,cut,c,h1,by rw[ziC hn];exact h2,zp3 hn,by rw[h3];simp⟩
theorem zp4(aw:AllW rs ws):∀ {ps:List Str} {l:Int},LDs rs ps l→∀ (n:Nat) (r:Rule) (cut:List Int) (c:Cost),rs[n]? = some r→DI (zbo rs ws) n cut c→r.parts.drop (cut.length - 1)=ps→cut.length - 1≤r.parts.length→
  ∃ cut' c',DI (zbo rs ws) n cut' c'∧r.parts[cut'.length - 1]? = none∧c'.1=c.1 + l
 | _,_,.nil,n,r,cut,c,hr,hd,hp,hl=>⟨cut,c,hd,by
   have:=congrArg List.length hp
   rw[List.length_drop,List.length_nil] at this
   exact List.getElem?_eq_none_iff.mpr (by omega),by simp⟩
 | _,_,.word (t:=t) (ts:=ts) (l:=l) ho h,n,r,cut,c,hr,hd,hp,hl=>by
  have hpt:r.parts[cut.length - 1]? = some t:=by
   have:=congrArg (fun x=>x[0]?) hp
   simpa using this
  have hne:=List.length_pos_iff.mpr hd.ne
  have hlt:=(List.getElem?_eq_some_iff.mp hpt).1
  have hk:(cut ++ [(0:Int)]).length - 1=(cut.length - 1) + 1:=by rw[List.length_append,List.length_singleton];omega
  have hz:=zgG (zga hd)
  have hw:t∈ws:=aw r (List.mem_of_getElem? hr) t (List.mem_of_getElem? hpt) ho
  obtain⟨cut',c',h1,h2,h3⟩:=zp4 aw h n r (cut ++ [0]) (c.1 + 1,c.2) hr (.word hd hr hpt ho (by show((0:Int),(1:Int))∈(if cut.getLastD 0=0∧t∈ws then [((0:Int),(1:Int))] else []);rw[if_pos ⟨hz,hw⟩];simp)) (by
   rw[hk,←List.drop_drop,hp];rfl) (by omega)
  exact⟨cut',c',h1,h2,by rw[h3];show c.1 + 1 + l=_;omega⟩
 | _,_,.name (t:=t) (ts:=ts) (a:=a) (l:=l) ho hld h,n,r,cut,c,hr,hd,hp,hl=>by
  have hpt:r.parts[cut.length - 1]? = some t:=by
   have:=congrArg (fun x=>x[0]?) hp
   simpa using this
  have hne:=List.length_pos_iff.mpr hd.ne
  have hlt:=(List.getElem?_eq_some_iff.mp hpt).1
  obtain⟨n2,cut2,c2,g1,g2,g3,g4⟩:=zwI aw hld
  have hz:=zgG (zga hd)
  have hz2:=ziD (zga g1)
  have hk:(cut ++ [cut2.getLastD 0]).length - 1=(cut.length - 1) + 1:=by rw[List.length_append,List.length_singleton];omega
  obtain⟨cut',c',h1,h2,h3⟩:=zp4 aw h n r (cut ++ [cut2.getLastD 0]) (addc c c2) hr (.name hd hr hpt ho g1 g2 g3 (by rw[hz2,hz])) (by
   rw[hk,←List.drop_drop,hp];rfl) (by omega)
  exact⟨cut',c',h1,h2,by rw[h3];show c.1 + c2.1 + l=_;omega⟩
end
variable {S I0 T:Nat}{st:SS}{P:List It3}{cur:Cost}
theorem zmQ(A:All (zbo rs ws) S I0 st P cur T):(st.best.map (·.1)).Nodup:=by
 have:∀ (k:Nat),k≤st.best.length→((st.best.take k).map (·.1)).Nodup:=by
  intro k
  induction k with
  | zero=>intro _;simp
  | succ k ih=>
   intro hk
   have hlt:k < st.best.length:=hk
   have e:st.best[k]? = some st.best[k]:=List.getElem?_eq_getElem hlt
   rw[zaL e,List.map_append,List.nodup_append]
   refine⟨ih (by omega),by simp,fun a ha b hb=>?_⟩
   have hb:b=st.best[k].1:=by simpa using hb
   subst hb
   have hs:st.best=st.best.take k ++ st.best[k] :: st.best.drop (k + 1):=by rw[List.getElem_cons_drop,List.take_append_drop]
   have hn:=(A.ob.ord _ _ _ hs).2
   intro hab
   obtain⟨x,hx,rfl⟩:=List.mem_map.mp ha
   have:∀ {t:Best} {x},x∈t→(aget t x.1).isSome=true:=by
    intro t
    induction t with
    | nil=>intro x h;cases h
    | cons y t ih2=>
     intro x h
     rw[zai]
     by_cases hy:y.1=x.1
     ·rw[if_pos hy];rfl
     ·rw[if_neg hy]
      rcases List.mem_cons.mp h with z | z
      ·exact absurd (by rw[z]) hy
      ·exact ih2 z
   have:=this hx
   rw[hab,hn] at this
   cases this
 have:=this st.best.length (Nat.le_refl _)
 rwa [List.take_length] at this
theorem zhd(A:All (zbo rs ws) S I0 st P cur T){e:Fact×Cost×Nat×List Int}(h:e∈st.best):aget st.best e.1=some e.2:=by
 have nd:=zmQ A
 have:∀ {t:Best},(t.map (·.1)).Nodup→e∈t→aget t e.1=some e.2:=by
  intro t
  induction t with
  | nil=>intro _ h;cases h
  | cons y t ih=>
   intro nd h
   rw[List.map_cons,List.nodup_cons] at nd
   rw[zai]
   rcases List.mem_cons.mp h with z | z
   ·subst z;rw[if_pos rfl]
   ·rw[if_neg (fun z2=>nd.1 (by rw[z2];exact List.mem_map.mpr ⟨e,z,rfl⟩))]
    exact ih nd.2 z
 exact this nd h
theorem zgH(A:All (zbo rs ws) S I0 st P cur T){e:Fact×Cost×Nat×List Int}(h:e∈st.best):∃ r,rs[e.2.2.1]? = some r∧e.1=(r.name,0,0):=by
 obtain⟨f,m,n,cut⟩:=e
 have hb:aget st.best f=some (m,n,cut):=zhd A h
 obtain⟨h1,h2,h3⟩:=ziB A.ob hb
 obtain⟨r,hr,_⟩:=zwH h1
 refine⟨r,hr,?_⟩
 rw[h3]
 unfold zaF
 rw[zp3 hr,ziD (zga h1),zgG (zga h1)]
theorem zkh(A:All (zbo rs ws) S I0 st P cur T):st.best.length≤(zak rs).length:=by
 have nd:=zmQ A
 have:=zcN (a:=st.best.map (·.1)) (b:=(zak rs).map fun x=>((x,0,0):Fact)) nd fun f hf=>by
  obtain⟨e,he,rfl⟩:=List.mem_map.mp hf
  obtain⟨r,hr,e1⟩:=zgH A he
  exact List.mem_map.mpr ⟨r.name,zbN.mpr ⟨r,List.mem_of_getElem? hr,rfl⟩,e1.symm⟩
 rwa [List.length_map,List.length_map] at this
theorem znJ{k:Nat}{B:Best}{f:Fact}{v:Cost×Nat×List Int}(h:aget (B.take k) f=some v):∃ i,i < k∧B[i]? = some (f,v):=by
 obtain⟨a,b,e⟩:=zc9 h
 have hm:(f,v)∈B.take k:=by rw[e];simp
 obtain⟨i,hi⟩:=List.getElem?_of_mem hm
 rw[List.getElem?_take] at hi
 split at hi
 ·exact⟨i,by assumption,hi⟩
 ·cases hi
theorem zmR(A:All (zbo rs ws) S I0 st P cur T):∀ (k i:Nat) (e:Fact×Cost×Nat×List Int),i < k→st.best[i]? = some e→∃ l,aget (zbn rs k) e.1.1=some l∧l≤e.2.1.1:=by
 intro k
 induction k with
 | zero=>intro i e h;omega
 | succ k ih=>
  intro i e hi he
  have g:=zdJ.rounds rs k
  by_cases hik:i < k
  ·obtain⟨l,h1,h2⟩:=ih i e hik he
   obtain⟨l',g1,g2⟩:=TLe.steps rs rs (zbn rs k) _ _ h1
   exact⟨l',g1,by omega⟩
  ·have hik:i=k:=by omega
   subst hik
   have hlt:=(List.getElem?_eq_some_iff.mp he).1
   have hs:st.best=st.best.take i ++ e :: st.best.drop (i + 1):=by
    have:st.best[i]=e:=(List.getElem?_eq_some_iff.mp he).2
    rw[←this,List.getElem_cons_drop,List.take_append_drop]
   obtain⟨hg,_⟩:=A.ob.ord _ _ _ hs
   obtain⟨r,hr,hf⟩:=zgH A (List.mem_of_getElem? he)
   obtain⟨f,m,n,cut⟩:=e
   have hn:=(List.getElem?_eq_some_iff.mp hr).1
   have hr':rs[n]=r:=(List.getElem?_eq_some_iff.mp hr).2
   have hsplit:rs=rs.take n ++ r :: rs.drop (n + 1):=by
    rw[←hr',List.getElem_cons_drop,List.take_append_drop]
   have gT:zdJ rs ((rs.take n).foldl (zcc rs) (zbn rs i)):=g.steps fun x hx=>List.mem_of_mem_take hx
   have lT:=TLe.steps rs (rs.take n) (zbn rs i)
   obtain⟨r2,hr2,q1,q2,q3⟩:=zwF gT (fun nm b e m k hk=>by
    obtain⟨j,hj,ej⟩:=znJ hk
    obtain⟨l,h1,h2⟩:=ih j _ hj ej
    obtain⟨l',g1,g2⟩:=lT _ _ h1
    have h2:l≤m.1:=h2
    exact⟨l',g1,by omega⟩) hg
   rw[hr] at hr2
   cases hr2
   have hb:aget st.best f=some (m,n,cut):=zhd A (List.mem_of_getElem? he)
   obtain⟨p1,p2,_⟩:=A.ob.bst f m n cut hb
   rw[ziC hr] at p1
   have htake:r.parts.take (cut.length - 1)=r.parts:=List.take_of_length_le (List.getElem?_eq_none_iff.mp p1)
   rw[htake] at q2 q3
   obtain⟨l,z1,z2⟩:=zrW q2
   have e2:zbn rs (i + 1)=(rs.drop (n + 1)).foldl (zcc rs) (zcc rs ((rs.take n).foldl (zcc rs) (zbn rs i)) r):=by
    have:∀ qs:List Rule,qs=rs.take n ++ r :: rs.drop (n + 1)→qs.foldl (zcc rs) (zbn rs i)=(rs.drop (n + 1)).foldl (zcc rs) (zcc rs ((rs.take n).foldl (zcc rs) (zbn rs i)) r):=fun qs e=>by
     rw[e,List.foldl_append,List.foldl_cons]
    exact this rs hsplit
   obtain⟨l',y1,y2⟩:=TLe.steps rs (rs.drop (n + 1)) _ _ _ z1
   refine⟨l',?_,?_⟩
   ·have hf:f=(r.name,0,0):=hf
    show aget (zbn rs (i + 1)) f.1=_
    rw[e2,hf];exact y1
   ·show l'≤m.1
    have q3:sumL _ r.parts≤m.1:=q3
    omega
theorem za8(rs:List Rule):(zak rs).length≤rs.length:=by
 have:∀ (qs:List Rule) (acc:List Str),(zc7 acc qs).length≤acc.length + qs.length:=by
  intro qs
  induction qs with
  | nil=>intro acc;exact Nat.le_refl _
  | cons r qs ih=>
   intro acc
   have h1:=ih (addN acc r.name)
   have h2:(addN acc r.name).length≤acc.length + 1:=by unfold addN;split <;> simp
   show(zc7 (addN acc r.name) qs).length≤_
   rw[List.length_cons];omega
 have:=this rs []
 rw[List.length_nil,Nat.zero_add] at this
 exact this
def zki(B:Best)(X:Str):Option Int:=(aget B (X,0,0)).map fun v=>v.1.1
theorem zlE(aw:AllW rs ws)(A:All (zbo rs ws) S I0 st P cur T)(hq:st.q=[]){X:Str}{l:Int}(h:LD rs X l):∃ l',zki st.best X=some l'∧l'≤l:=by
 obtain⟨n,cut,c,h1,h2,h3,h4⟩:=zwI aw h
 obtain⟨m,k,hb,hle⟩:=zrU A.inv A.ob A.ini hq h1 h2
 have:zaF (zbo rs ws) n cut=(X,0,0):=by unfold zaF;rw[h3,ziD (zga h1),zgG (zga h1)]
 rw[this] at hb
 refine⟨m.1,by unfold zki;rw[hb];rfl,?_⟩
 unfold Le at hle
 omega
theorem zhe(aw:AllW rs ws)(A:All (zbo rs ws) S I0 st P cur T)(hq:st.q=[])(X:Str):aget (lawL rs) X=zki st.best X:=by
 have g:=zdJ.rounds rs (rs.length + 1)
 have told:∀ l,zki st.best X=some l→∃ l',aget (lawL rs) X=some l'∧l'≤l:=by
  intro l h
  unfold zki at h
  obtain⟨v,hv,rfl⟩:=Option.map_eq_some_iff.mp h
  obtain⟨a,b,e⟩:=zc9 hv
  have hm:(((X,0,0):Fact),v)∈st.best:=by rw[e];simp
  obtain⟨i,hi⟩:=List.getElem?_of_mem hm
  have hl:=(List.getElem?_eq_some_iff.mp hi).1
  have:=zkh A
  have:=za8 rs
  exact zmR A (rs.length + 1) i _ (by omega) hi
 cases e:aget (lawL rs) X with
 | some l=>
  obtain⟨l1,h1,h2⟩:=zlE aw A hq (g.ld X l e)
  obtain⟨l2,h3,h4⟩:=told l1 h1
  rw[e] at h3
  cases h3
  rw[h1]
  congr 1;omega
 | none=>
  cases q:zki st.best X with
  | none=>rfl
  | some l=>obtain⟨l2,h3,_⟩:=told l q;rw[e] at h3;cases h3
theorem zrX(A:All (zbo rs ws) S I0 st P cur T){p:Nat}(hp:1≤p)(hl:∀ r∈rs,r.parts.length≤p):∀ (i:Nat) (e:Fact×Cost×Nat×List Int),st.best[i]? = some e→e.2.1.1≤(p:Int) ^ (i + 1):=by
 intro i
 induction i using Nat.strongRecOn with
 | _ i ih=>
  intro e he
  have hlt:=(List.getElem?_eq_some_iff.mp he).1
  have hs:st.best=st.best.take i ++ e :: st.best.drop (i + 1):=by
   have:st.best[i]=e:=(List.getElem?_eq_some_iff.mp he).2
   rw[←this,List.getElem_cons_drop,List.take_append_drop]
  obtain⟨hg,_⟩:=A.ob.ord _ _ _ hs
  have pp:∀ k:Nat,(1:Int)≤(p:Int) ^ k:=fun k=>by
   have:1≤p ^ k:=Nat.one_le_pow _ _ hp
   exact_mod_cast this
  have pm:∀ a b:Nat,a≤b→(p:Int) ^ a≤(p:Int) ^ b:=fun a b h=>by
   have:p ^ a≤p ^ b:=Nat.pow_le_pow_right hp h
   exact_mod_cast this
  have h1:=zwG (b:=(p:Int) ^ i) (pp i) (fun f m k hk=>by
   obtain⟨j,hj,ej⟩:=znJ hk
   have:=ih j hj _ ej
   exact Int.le_trans this (pm _ _ hj)) hg
  obtain⟨f,m,n,cut⟩:=e
  have hb:aget st.best f=some (m,n,cut):=zhd A (List.mem_of_getElem? he)
  obtain⟨d1,_,_⟩:=ziB A.ob hb
  obtain⟨r,hr,hc,_⟩:=zwH d1
  have:=hl r (List.mem_of_getElem? hr)
  have hc2:((cut.length - 1:Nat):Int)≤p:=by exact_mod_cast Nat.le_trans hc this
  rw[Int.pow_succ]
  exact Int.le_trans h1 (Int.mul_le_mul_of_nonneg_left hc2 (Int.le_trans (by decide) (pp i)))
end
end Rg
namespace Rg
open PySem PySem.Spec PyProof.Rows L2 L3
def zdR:List Str→List Str→Bool
 | [],[]=>false
 | [],_ :: _=>true
 | _ :: _,[]=>false
 | a :: as,b :: bs=>if a=b then zdR as bs else zj4 a b
theorem zp5(a:Str):zj4 a a=false:=by
 unfold zj4
 exact decide_eq_false (List.lt_irrefl _)
theorem zmS{a b c:Str}(h:zj4 a b=true)(h':zj4 b c=true):zj4 a c=true:=by
 unfold zj4 at *
 rw[decide_eq_true_eq] at *
 exact List.lt_trans h h'
theorem zlF:∀ a:List Str,zdR a a=false
 | []=>rfl
 | a :: as=>by rw[zdR,if_pos rfl];exact zlF as
theorem ziE:∀ {a b c:List Str},zdR a b=true→zdR b c=true→zdR a c=true
 | [],[],_,h,_=>by cases h
 | [],_ :: _,[],_,h=>by cases h
 | [],_ :: _,_ :: _,_,_=>rfl
 | _ :: _,[],_,h,_=>by cases h
 | _ :: _,_ :: _,[],_,h=>by cases h
 | a :: as,b :: bs,c :: cs,h,h'=>by
  rw[zdR] at *
  by_cases h1:a=b
  ·rw[if_pos h1] at h
   subst h1
   by_cases h2:a=c
   ·rw[if_pos h2] at h' ⊢;exact ziE h h'
   ·rw[if_neg h2] at h' ⊢;exact h'
  ·rw[if_neg h1] at h
   by_cases h2:b=c
   ·subst h2;rw[if_neg h1];exact h
   ·rw[if_neg h2] at h'
    have h3:=zmS h h'
    by_cases h4:a=c
    ·subst h4;rw[zp5] at h3;cases h3
    ·rw[if_neg h4];exact h3
def zbp(ws:List Str):Nat→List (List Str)
 | 0=>[[]]
 | n + 1=>[] :: ws.flatMap fun w=>(zbp ws n).map (w :: ·)
theorem zgb{ws:List Str}:∀ {n:Nat} {row:List Str},row.length≤n→(∀ w∈row,w∈ws)→row∈zbp ws n
 | 0,[],_,_=>by simp[zbp]
 | 0,_ :: _,h,_=>by simp at h
 | n + 1,[],_,_=>by simp[zbp]
 | n + 1,w :: row,h,h2=>by
  rw[zbp]
  refine List.mem_cons_of_mem _ (List.mem_flatMap.mpr ⟨w,h2 w List.mem_cons_self,List.mem_map.mpr ⟨row,zgb (by simpa using h) fun x hx=>h2 x (List.mem_cons_of_mem _ hx),rfl⟩⟩)
def zmT(cs:List (List Str))(o:Option (List Str)):Nat:=match o with
 | none=>cs.length + 1
 | some row=>cs.countP fun c=>zdR c row
theorem zrY{cs:List (List Str)}{new:List Str}{o:Option (List Str)}(hm:new∈cs)(h:∀ old,o=some old→zdR new old=true):zmT cs (some new) < zmT cs o:=by
 cases o with
 | none=>
  show cs.countP _ < cs.length + 1
  have:=List.countP_le_length (p:=fun c=>zdR c new) (l:=cs)
  omega
 | some old=>
  have hlt:=h old rfl
  show cs.countP _ < cs.countP _
  have:∀ {cs:List (List Str)},cs.countP (fun c=>zdR c new)≤cs.countP (fun c=>zdR c old):=by
   intro cs
   exact List.countP_mono_left fun x _ hx=>ziE hx hlt
  obtain⟨a,b,rfl⟩:=List.append_of_mem hm
  rw[List.countP_append,List.countP_append,List.countP_cons,List.countP_cons,zlF,hlt]
  have h1:=this (cs:=a)
  have h2:=this (cs:=b)
  simp only[Bool.false_eq_true,if_false,if_true]
  omega
abbrev RT:=List (Str×List Str)
def za9(T:RT)(ps:List Str):List Str:=ps.flatMap fun t=>(aget T t).getD [t]
def fitB(rs:List Rule)(L:Str→Option Int)(r:Rule):Bool:=!(r.parts.any fun t=>ownB rs t && (L t).isNone) && decide (L r.name=some ((r.parts.map fun t=>(L t).getD 1).sum))
def zcs(rs:List Rule)(L:Str→Option Int)(T:RT)(r:Rule):Bool:=fitB rs L r && (!lackT rs T r.parts && (match aget T r.name with
 | none=>true
 | some old=>zdR (za9 T r.parts) old))
def zbX(rs:List Rule)(L:Str→Option Int)(s:RT×Bool)(r:Rule):RT×Bool:=if zcs rs L s.1 r=true then(aput s.1 r.name (za9 s.1 r.parts),true) else s
def zce(rs:List Rule)(L:Str→Option Int)(T:RT):RT×Bool:=rs.foldl (zbX rs L) (T,false)
def zct(rs:List Rule)(L:Str→Option Int):Nat→RT
 | 0=>[]
 | k + 1=>(zce rs L (zct rs L k)).1
structure zdr(rs:List Rule)(L:Str→Option Int)(ws:List Str)(T:RT):Prop where
 own:∀ X row,aget T X=some row→ownB rs X=true
 len:∀ X row,aget T X=some row→L X=some (row.length:Int)
 wrd:∀ X row,aget T X=some row→∀ w∈row,w∈ws
 nd:(T.map (·.1)).Nodup
theorem zjE{κ β:Type}[DecidableEq κ]{t:List (κ×β)}{k:κ}{v:β}(h:(t.map (·.1)).Nodup):((aput t k v).map (·.1)).Nodup:=by
 unfold aput
 split
 ·rw[List.map_map]
  have:((fun x:κ×β=>x.1) ∘ fun e=>if e.1=k then(e.1,v) else e)=fun e=>e.1:=by
   funext e;simp only[Function.comp];split <;> rfl
  rw[this];exact h
 ·rename_i hn
  rw[List.map_append,List.nodup_append]
  refine⟨h,by simp,fun a ha b hb e=>hn ?_⟩
  have hb:b=k:=by simpa using hb
  obtain⟨x,hx,rfl⟩:=List.mem_map.mp ha
  exact List.any_eq_true.mpr ⟨x,hx,by rw[e,hb];simp⟩
theorem znK{κ β:Type}[DecidableEq κ]{t:List (κ×β)}{e:κ×β}(h:e∈t):∃ v,aget t e.1=some v:=by
 induction t with
 | nil=>cases h
 | cons y t ih=>
  rw[zai]
  by_cases hy:y.1=e.1
  ·exact⟨_,if_pos hy⟩
  ·rw[if_neg hy]
   rcases List.mem_cons.mp h with z | z
   ·exact absurd (by rw[z]) hy
   ·exact ih z
theorem zdr.few{rs:List Rule}{L:Str→Option Int}{ws:List Str}{T:RT}(g:zdr rs L ws T):T.length≤rs.length:=by
 have:=zcN (a:=T.map (·.1)) (b:=zak rs) g.nd fun x hx=>by
  obtain⟨e,he,rfl⟩:=List.mem_map.mp hx
  obtain⟨v,hv⟩:=znK he
  exact of_decide_eq_true (g.own _ _ hv)
 rw[List.length_map] at this
 exact Nat.le_trans this (za8 rs)
section
variable {rs:List Rule}{L:Str→Option Int}{ws:List Str}
theorem zhf{T:RT}{t:Str}{ts:List Str}:za9 T (t :: ts)=(aget T t).getD [t] ++ za9 T ts:=by unfold za9;rw[List.flatMap_cons]
theorem zdr.row{T:RT}(g:zdr rs L ws T)(hL:∀ X,ownB rs X=false→L X=none):∀ {ps:List Str},lackT rs T ps=false→(∀ t∈ps,ownB rs t=false→t∈ws)→((za9 T ps).length:Int)=(ps.map fun t=>(L t).getD 1).sum∧∀ w∈za9 T ps,w∈ws
 | [],_,_=>⟨rfl,fun w hw=>nomatch hw⟩
 | t :: ts,h,hw=>by
  obtain⟨h1,h2⟩:=zlB.mp h
  obtain⟨i1,i2⟩:=g.row hL h2 fun x hx=>hw x (List.mem_cons_of_mem _ hx)
  rw[zhf,List.map_cons,List.sum_cons,List.length_append,Int.natCast_add,i1]
  cases ho:ownB rs t with
  | true=>
   obtain⟨row,e⟩:=h1 ho
   rw[e,g.len _ _ e]
   refine⟨rfl,fun w hw'=>?_⟩
   rcases List.mem_append.mp hw' with z | z
   ·exact g.wrd _ _ e w z
   ·exact i2 w z
  | false=>
   have e:aget T t=none:=by
    cases q:aget T t with
    | none=>rfl
    | some row=>rw[g.own _ _ q] at ho;cases ho
   rw[e,hL t ho]
   refine⟨rfl,fun w hw'=>?_⟩
   rcases List.mem_append.mp hw' with z | z
   ·have:w=t:=by simpa using z
    rw[this];exact hw t List.mem_cons_self ho
   ·exact i2 w z
theorem zjF{T:RT}{r:Rule}:zcs rs L T r=true↔fitB rs L r=true∧lackT rs T r.parts=false∧∀ old,aget T r.name=some old→zdR (za9 T r.parts) old=true:=by
 unfold zcs
 rw[Bool.and_eq_true,Bool.and_eq_true,Bool.not_eq_true']
 cases aget T r.name with
 | none=>simp
 | some old=>simp
theorem zdr.step{T:RT}(g:zdr rs L ws T)(hL:∀ X,ownB rs X=false→L X=none)(aw:AllW rs ws){r:Rule}(hr:r∈rs)(hb:zcs rs L T r=true):zdr rs L ws (aput T r.name (za9 T r.parts))∧((za9 T r.parts).length:Int)=(L r.name).getD 0∧∀ w∈za9 T r.parts,w∈ws:=by
 obtain⟨h1,h2,_⟩:=zjF.mp hb
 obtain⟨e1,e2⟩:=g.row hL h2 (aw r hr)
 have hf:L r.name=some ((r.parts.map fun t=>(L t).getD 1).sum):=by
  unfold fitB at h1
  rw[Bool.and_eq_true,decide_eq_true_eq] at h1
  exact h1.2
 have e3:L r.name=some ((za9 T r.parts).length:Int):=by rw[hf,e1]
 refine⟨⟨fun X row e=>?_,fun X row e=>?_,fun X row e=>?_,zjE g.nd⟩,by rw[e3];rfl,e2⟩
 ·rw[zay] at e
  by_cases hx:r.name=X
  ·rw[←hx];exact zp0 hr
  ·rw[if_neg hx] at e;exact g.own X row e
 ·rw[zay] at e
  by_cases hx:r.name=X
  ·rw[if_pos hx] at e;cases e;rw[←hx];exact e3
  ·rw[if_neg hx] at e;exact g.len X row e
 ·rw[zay] at e
  by_cases hx:r.name=X
  ·rw[if_pos hx] at e;cases e;exact e2
  ·rw[if_neg hx] at e;exact g.wrd X row e
def left(ns:List Str)(cs:List (List Str))(T:RT):Nat:=(ns.map fun X=>zmT cs (aget T X)).sum
theorem zuH{cs:List (List Str)}{T:RT}{X:Str}{new:List Str}(hc:new∈cs)(h:∀ old,aget T X=some old→zdR new old=true):∀ {ns:List Str},X∈ns→left ns cs (aput T X new) < left ns cs T:=by
 have one:∀ Y,zmT cs (aget (aput T X new) Y)≤zmT cs (aget T Y)∧(X=Y→zmT cs (aget (aput T X new) Y) < zmT cs (aget T Y)):=fun Y=>by
  rw[zay]
  by_cases hx:X=Y
  ·subst hx
   rw[if_pos rfl]
   have:=zrY hc h
   exact⟨by omega,fun _=>this⟩
  ·rw[if_neg hx]
   exact⟨Nat.le_refl _,fun e=>absurd e hx⟩
 have le:∀ ns:List Str,left ns cs (aput T X new)≤left ns cs T:=by
  intro ns
  induction ns with
  | nil=>exact Nat.le_refl _
  | cons Y ns ih=>
   unfold left at *
   rw[List.map_cons,List.sum_cons,List.map_cons,List.sum_cons]
   have:=(one Y).1
   omega
 intro ns hm
 induction ns with
 | nil=>cases hm
 | cons Y ns ih=>
  have l1:=le ns
  have h1:=one Y
  unfold left at *
  rw[List.map_cons,List.sum_cons,List.map_cons,List.sum_cons]
  rcases List.mem_cons.mp hm with z | z
  ·have:=h1.2 z;omega
  ·have:=ih z;omega
theorem zfC{cs:List (List Str)}{N:Nat}(hL:∀ X,ownB rs X=false→L X=none)(aw:AllW rs ws)(hc:∀ row:List Str,row.length≤N→(∀ w∈row,w∈ws)→row∈cs)(hN:∀ X l,L X=some l→l≤N) :
  ∀ {qs:List Rule} {s:RT×Bool},(∀ r∈qs,r∈rs)→zdr rs L ws s.1→
   zdr rs L ws (qs.foldl (zbX rs L) s).1∧(((qs.foldl (zbX rs L) s)=s)∨((qs.foldl (zbX rs L) s).2=true∧left (zak rs) cs (qs.foldl (zbX rs L) s).1 < left (zak rs) cs s.1))
 | [],s,_,g=>⟨g,.inl rfl⟩
 | r :: qs,s,hq,g=>by
  have hr:=hq r List.mem_cons_self
  rw[List.foldl_cons]
  by_cases hb:zcs rs L s.1 r=true
  ·have e:zbX rs L s r=(aput s.1 r.name (za9 s.1 r.parts),true):=by unfold zbX;rw[if_pos hb]
   rw[e]
   obtain⟨g1,l1,w1⟩:=g.step hL aw hr hb
   obtain⟨h1,h2,h3⟩:=zjF.mp hb
   have hlen:(za9 s.1 r.parts).length≤N:=by
    have hf:L r.name=some ((r.parts.map fun t=>(L t).getD 1).sum):=by
     unfold fitB at h1
     rw[Bool.and_eq_true,decide_eq_true_eq] at h1
     exact h1.2
    have:=hN _ _ hf
    rw[hf] at l1
    have l1:((za9 s.1 r.parts).length:Int)=(r.parts.map fun t=>(L t).getD 1).sum:=l1
    omega
   have lt:=zuH (hc _ hlen w1) h3 (show r.name∈zak rs from zbN.mpr ⟨r,hr,rfl⟩)
   obtain⟨g2,i2⟩:=zfC hL aw hc hN (qs:=qs) (s:=(aput s.1 r.name (za9 s.1 r.parts),true)) (fun x hx=>hq x (List.mem_cons_of_mem _ hx)) g1
   refine⟨g2,.inr ?_⟩
   rcases i2 with z | ⟨z1,z2⟩
   ·rw[z];exact⟨rfl,lt⟩
   ·exact⟨z1,Nat.lt_trans z2 lt⟩
  ·have e:zbX rs L s r=s:=by unfold zbX;rw[if_neg hb]
   rw[e]
   exact zfC hL aw hc hN (fun x hx=>hq x (List.mem_cons_of_mem _ hx)) g
theorem zoC{i j:Nat}(hi:(zce rs L (zct rs L i)).1=zct rs L i)(hj:(zce rs L (zct rs L j)).1=zct rs L j):zct rs L i=zct rs L j:=by
 have up:∀ {i:Nat},(zce rs L (zct rs L i)).1=zct rs L i→∀ k,zct rs L (i + k)=zct rs L i:=by
  intro i h k
  induction k with
  | zero=>rfl
  | succ k ih=>
   show(zce rs L (zct rs L (i + k))).1=_
   rw[ih];exact h
 rcases Nat.le_total i j with h | h
 ·obtain⟨k,rfl⟩:=Nat.le.dest h
  exact(up hi k).symm
 ·obtain⟨k,rfl⟩:=Nat.le.dest h
  exact up hj k
def Rest(rs:List Rule)(L:Str→Option Int)(T:RT):Prop:=∃ k,T=zct rs L k∧(zce rs L T).1=T
theorem Rest.alike{T T':RT}(h:Rest rs L T)(h':Rest rs L T'):T=T':=by
 obtain⟨i,rfl,hi⟩:=h
 obtain⟨j,rfl,hj⟩:=h'
 exact zoC hi hj
end
end Rg
namespace PySem
namespace Rl
open PyProof.Rows L2 PySem.Spec
section
variable {prog:Program}{w:World}{A:Around}{E:Value→Shared→Prop}{s:Shared}
end
end Rl
end PySem
namespace L2
open PySem PySem.Spec PyProof.Rows
section
variable {X:Cx}{a:Expr}{ta:TA}{p p2 pos pos2:Pos}
end
end L2
namespace L3
open PySem PySem.Spec PyProof.Rows L2
section
variable {X:Cx}{a:Expr}{ta:TE3}{pos:Pos}
end
end L3
namespace PySem
namespace Dp
open PyProof.Rows L2 PySem.Spec
section
variable {prog:Program}{w:World}{A:Around}{E:Value→Shared→Prop}{s:Shared}
theorem zjb:typeLookup (.type "list") "keys" = pure none:=by rw[typeLookup_type,builtinLookup_eq_fast];kernel_rfl
theorem keys_miss{a:Addr}{xs:Array Value}{k:Nat}{Q:Option Value→Shared→Prop}(hx:s.heap.get? a=some {cls:=.type "list",data:=.seq xs k})(hA:A.handled=none)
  (h:∀ h' tk,(∀ b o,s.heap.get? b=some o→h'.get? b=some o)→Q none {s with heap:=h',toks:=tk}):wpAny (model prog w) A (getAttr? (.ref a) (Str.ofString "keys")) Q E s:=by
 obtain⟨hp,g,d,tk,os⟩:=s
 have hT:∀ tk',(⟨hp,g,d,tk',os⟩:Shared).TypeIs (.ref a) "list":=fun _=>⟨_,hx,rfl⟩
 have f1:=sub_AttributeError
 have f3:=F.slot_list_getattribute.lookup
 have f4:=F.slot_list_getattribute.bind (.ref a)
 have f5:=am_list_getattr_none
 unfold getAttr? getAttrBy? getAttrBy
 repeat (any_goals (first | assumption | exact hT _ | ((with_reducible show wpAny _ _ (call (Value.builtin "list.__getattribute__") _ _) _ _ _);refine call_meets F.slot_list_getattribute (hT _) am_entry_list_getattribute (F.args_list_getattribute_2 _ _) (meets_getattribute_miss_list a xs k #[] (Str.ofString "keys") _ zjb (by decide +kernel) (by decide +kernel)) ⟨hx,hA,fun h' tk' e hx'=>?_⟩) | wp_step))
 obtain⟨t',u',he⟩:=hx'.there
 have hx2:=hx'.of.keeps
 show wpAny _ _ (getattributeRaised _ _ _ _ _ _ _) _ _ _
 unfold getattributeRaised
 repeat (any_goals (first | assumption | wp_step))
 exact h _ _ hx2
theorem entry_loop:entryFor table "dict.update.loop" = some Builtin.«dict.update.loop»:=entryFor_of_tree (by kernel_rfl)
theorem plain_loop:plainId "dict.update.loop" = true:=by decide +kernel
variable {K:Type}[DecidableEq K]{knd:KeyKind prog w K}
theorem zoD(kvs:List (K×Value))(k:K)(v:Value):(stored kvs k v).length≤kvs.length + 1:=by
 unfold stored
 split
 ·rw[List.length_map];omega
 ·rw[List.length_append,List.length_singleton];exact Nat.le_refl _
def all(kvs:List (K×Value))(ps:List (K×Value)):List (K×Value):=ps.foldl (fun kvs p=>stored kvs p.1 p.2) kvs
theorem loop{d I l:Addr}{items:Array Value}{ps:List (K×Value)}{R:Result→Shared→Prop}(hh:A.handled=none)(hdI:d≠I)(hdl:d≠l)(hlI:l≠I)(hn:ps.length=items.size)(hz:items.size≤sizeLine) :
  ∀ (k i:Nat) (s:Shared) (kvs:List (K×Value)),items.size - i=k→i≤items.size→kvs.length≤i→s.heap.IsListIter I l i→s.heap.IsList l items→s.heap.DictOf knd d kvs→
  (∀ (j:Nat) (p:K×Value),ps[j]? = some p→∃ (a:Addr) (key:Value),items[j]? = some (.ref a)∧a≠d∧a≠I∧s.heap.IsTuple a #[key,p.2]∧knd.is p.1 key=true)→
  (∀ h' tk,(∀ b o,b≠d→b≠I→s.heap.get? b=some o→h'.get? b=some o)→h'.DictOf knd d (all kvs (ps.drop i))→R (.ok (.ret .none)) {s with heap:=h',toks:=tk})→
  codeAny (model prog w) A (.builtin "dict.update.loop" ⟨[.ref d,.ref I,rawInt (i:Int),.none],[]⟩) R s:=by
 intro k
 induction k with
 | zero=>
  intro i s kvs hk hi hl hit hls hd hp hR
  have hin:i=items.size:=by omega
  refine codeAny_builtin entry_loop ?_
  rw[Around.under_plainId plain_loop _]
  show wpAny _ A.in1 (pyNext (.ref I) >>= _) _ _ s
  have W:=Walks.list (prog:=prog) (w:=w) (A:=A.in1) hh I l hlI items
  refine wpAny_bind (W.done s _ _ (by rw[←hin];exact⟨hit,hls⟩) fun h' tk hm=>?_)
  show wpAny _ A.in1 (Builtin.Dict.addKeywords d [] >>= _) _ _ _
  have hd':h'.DictOf knd d kvs:=by
   obtain⟨o,es,ep,ho,rest⟩:=hd
   exact⟨o,es,ep,hm d o (by simp[hdI]) ho,rest⟩
  refine wpAny_bind (wpAny_pure (wpAny_pure (hR h' tk (fun b o _ hb e=>hm b o (by simp[hb]) e) ?_)))
  rw[List.drop_of_length_le (by omega)]
  exact hd'
 | succ k ih=>
  intro i s kvs hk hi hl hit hls hd hp hR
  have hlt:i < items.size:=by omega
  refine codeAny_builtin entry_loop ?_
  rw[Around.under_plainId plain_loop _]
  show wpAny _ A.in1 (pyNext (.ref I) >>= _) _ _ s
  have W:=Walks.list (prog:=prog) (w:=w) (A:=A.in1) hh I l hlI items
  refine wpAny_bind (W.item i s _ _ hlt ⟨hit,hls⟩ fun v h' tk hv hst hm=>?_)
  obtain⟨p,hpi⟩:∃ p,ps[i]? = some p:=⟨_,List.getElem?_eq_getElem (by omega)⟩
  obtain⟨a,key,ha,had,haI,hat,hkey⟩:=hp i p hpi
  rw[ha] at hv
  cases hv
  have hd':h'.DictOf knd d kvs:=by
   obtain⟨o,es,ep,ho,rest⟩:=hd
   exact⟨o,es,ep,hm d o (by simp[hdI]) ho,rest⟩
  have hat':h'.IsTuple a #[key,p.2]:=by
   obtain⟨o,ho,rest⟩:=hat
   exact⟨o,hm a o (by simp[haI]) ho,rest⟩
  show wpAny _ A.in1 (holding [Value.ref a] _ >>= _) _ _ _
  refine wpAny_bind (wpAny_holding (wpAny_bind (wpAny_tryCatch ?_)))
  unfold Builtin.Dict.pairItems
  obtain⟨o,ho,hc,n,hd2⟩:=hat'
  refine wpAny_bind (wpAny_typeOf (T:="tuple") ⟨o,ho,hc⟩ ?_)
  rw[if_pos (by decide)]
  refine wpAny_bind (wpAny_seqItems ho hd2 (wpAny_pure ?_))
  show wpAny _ _ (holding [key,p.2] (dictSet d key p.2)) _ _ _
  refine wpAny_holding (wpAny_dictSet_pairs hkey hd' (hsz:=by omega) fun h2 hd3 hs2=>?_)
  have e1:ps.drop i=p :: ps.drop (i + 1):=by rw[List.drop_eq_getElem_cons (by omega)];congr 1;exact(List.getElem?_eq_some_iff.mp hpi).2
  refine wpAny_pure ⟨plainId_quiet plain_loop _,?_⟩
  refine ih (i + 1) _ (stored kvs p.1 p.2) (by omega) hlt (by have:=zoD kvs p.1 p.2;omega) (hst.1.at fun o e=>(hs2.2 I (Ne.symm hdI)).trans e) (hst.2.at fun o e=>(hs2.2 l (Ne.symm hdl)).trans e) hd3 (fun j q hq=>?_) fun h3 tk3 hk3 hd4=>?_
  ·obtain⟨a,key,g1,g2,g3,⟨o,g4,g5⟩,g6⟩:=hp j q hq
   exact⟨a,key,g1,g2,g3,⟨o,(hs2.2 a g2).trans (hm a o (by simp[g3]) g4),g5⟩,g6⟩
  ·refine hR h3 tk3 (fun b o h1 h2 e=>hk3 b o h1 h2 ((hs2.2 b h1).trans (hm b o (by simp[h2]) e))) ?_
   rw[e1];exact hd4
theorem call_pairs{l:Addr}{items:Array Value}{c:Nat}{ps:List (K×Value)}{Q:Value→Shared→Prop}(hh:A.handled=none)(hx:s.heap.get? l=some {cls:=.type "list",data:=.seq items c})(hn:ps.length=items.size)(hz:items.size≤sizeLine)
  (hp:∀ (j:Nat) (p:K×Value),ps[j]? = some p→∃ (a:Addr) (key:Value),items[j]? = some (.ref a)∧s.heap.IsTuple a #[key,p.2]∧knd.is p.1 key=true)
  (h:∀ h' tk,(∀ b o,s.heap.get? b=some o→h'.get? b=some o)→h'.DictOf knd s.heap.objs.size (all [] ps)→Q (.ref s.heap.objs.size) {s with heap:=h',toks:=tk}) :
  wpAny (model prog w) A (call (.type "dict") [.ref l]) Q E s:=by
 refine callType_codes (Q₁:=fun obj s₁=>obj=.ref s.heap.objs.size∧s₁ = {s with heap:=s.heap.push {cls:=.type "dict",data:=.dict #[]}}) F.kt_called_dict (F.kt_typeCall_dict_1 _) F.entry_dict_init (kt_code_dict_new _ ⟨rfl,rfl⟩) ?_
 rintro obj s₁ ⟨rfl,rfl⟩
 have lt:l < s.heap.objs.size:=Heap.lt_size hx
 have hnew:(s.heap.push {cls:=.type "dict",data:=.dict #[]}).DictOf knd s.heap.objs.size []:=Heap.DictOf.new s.heap
 have hx':(s.heap.push {cls:=.type "dict",data:=.dict #[]}).get? l=some {cls:=.type "list",data:=.seq items c}:=Heap.get?_push_of_some _ hx
 refine⟨hnew.typeIs,F.args_dict_init_2 _ _,?_⟩
 unfold Builtin.«dict.__init__»
 refine wpAny_bind ?_
 unfold Builtin.Dict.selfAndRest
 refine wpAny_bind (wpAny_notOrdered_dict hnew.typeIs ?_)
 show wpAny _ _ (pure (s.heap.objs.size,[Value.ref l])) _ _ _
 refine wpAny_pure ?_
 show wpAny _ _ (Builtin.Dict.updateFrom "dict.__init__" s.heap.objs.size (.ref l) [] .none) _ _ _
 unfold Builtin.Dict.updateFrom
 refine wpAny_bind (wpAny_typeOf (T:="list") ⟨_,hx',rfl⟩ ?_)
 rw[if_pos (by decide)]
 refine wpAny_bind (keys_miss hx' hh fun h1 tk1 hk1=>?_)
 rw[if_pos (by decide)]
 have hx1:=hk1 _ _ hx'
 have hd1:h1.DictOf knd s.heap.objs.size []:=by
  obtain⟨o,es,ep,ho,rest⟩:=hnew
  exact⟨o,es,ep,hk1 _ o ho,rest⟩
 refine wpAny_bind (wpAny_rule (wpAny_bind (wpAny_pyIter_list (items:=items) ⟨_,hx1,rfl,c,rfl⟩ ?_)))
 have gI:(h1.push {cls:=.type "list_iterator",data:=.fields #[.ref l,.int 0 0]}).IsListIter h1.objs.size l 0:=⟨_,Heap.get?_push_size _ rfl,rfl,rfl⟩
 have up:∀ b o,s.heap.get? b=some o→(h1.push {cls:=.type "list_iterator",data:=.fields #[.ref l,.int 0 0]}).get? b=some o:=fun b o e=>Heap.get?_push_of_some _ (hk1 b o (Heap.get?_push_of_some _ e))
 have l1:s.heap.objs.size < h1.objs.size:=by
  obtain⟨o,es,ep,ho,rest⟩:=hd1
  exact Heap.lt_size ho
 refine wpAny_pure ⟨plainId_quiet plain_loop _,?_⟩
 refine loop (A:=A.in1) (knd:=knd) (d:=s.heap.objs.size) (I:=h1.objs.size) (l:=l) (items:=items) (ps:=ps) hh (Nat.ne_of_lt l1) (Nat.ne_of_gt lt) (Nat.ne_of_lt (Nat.lt_trans lt l1)) hn hz items.size 0 _ [] rfl (Nat.zero_le _) (Nat.le_refl _) gI ⟨_,Heap.get?_push_of_some _ hx1,rfl,c,rfl⟩ (by
  obtain⟨o,es,ep,ho,rest⟩:=hd1
  exact⟨o,es,ep,Heap.get?_push_of_some _ ho,rest⟩) (fun j p hj=>?_) fun h2 tk2 hk2 hd2=>?_
 ·obtain⟨a,key,g1,⟨o,g2,g3⟩,g4⟩:=hp j p hj
  have la:=Heap.lt_size g2
  exact⟨a,key,g1,Nat.ne_of_lt la,Nat.ne_of_lt (Nat.lt_trans la l1),⟨o,up a o g2,g3⟩,g4⟩
 ·exact⟨rfl,h h2 tk2 (fun b o e=>hk2 b o (Nat.ne_of_lt (Heap.lt_size e)) (Nat.ne_of_lt (Nat.lt_trans (Heap.lt_size e) l1)) (up b o e)) hd2⟩
end
end Dp
end PySem
namespace L3
open PySem PySem.Spec PyProof.Rows L2
section
variable {X:Cx}
def zjc(kvs:List (Key×W))(ps:List (Key×W)):List (Key×W):=ps.foldl (fun kvs p=>putW kvs p.1 p.2) kvs
def zhC(ps:List (Key×W)):List W:=ps.map fun p=>.tup [wK p.1,p.2]
def zuI:List W→Mm→K3→Prop
 | [.rl ws],M,R=>∃ ps:List (Key×W),ws=zhC ps∧ws.length≤sizeLine∧NewK (zjc [] ps) M R
 | _,_,_=>False
theorem zkj{pins:List (Addr×Obj)}{σ:L2.St}{H:Hp}{M:Mm}{s:Shared}(I:L2.Inv X pins σ H s):∀ {ps:List (Key×W)} {vs:List V} {its:List Value},AVs X.K H M vs (zhC ps)→Vals vs its→
  ∃ (ks:List (Key×V)) (rs:List (Key×Value)),PKV X.K H M Key ks ps∧KV ks rs∧rs.length=its.length∧
   ∀ (j:Nat) (p:Key×Value),rs[j]? = some p→∃ (a:Addr) (key:Value),its[j]? = some (.ref a)∧s.heap.IsTuple a #[key,p.2]∧(zaq X.prog X.w).is p.1 key=true
 | [],_,_,.nil,.nil=>⟨[],[],.nil,.nil,rfl,fun j p h=>by simp at h⟩
 | (k,w) :: ps,_,_,.cons av avs,.cons rv rvs=>by
  obtain⟨ks,rs,h1,h2,h3,h4⟩:=zkj I avs rvs
  cases av with
  | tup e q=>
   cases rv
   obtain⟨u1,u2,rfl,a1,a2⟩:=q.two
   have ek:=a1.key
   subst ek
   obtain⟨its2,r2,pl,_⟩:=I.tuple (SqT.of e)
   cases r2 with
   | cons x1 r3=>cases r3 with
    | cons x2 r4=>
     cases r4
     refine⟨(k,u2) :: ks,(k,_) :: rs,.cons ⟨rfl,a2⟩ h1,.cons ⟨rfl,x2⟩ h2,by simp[h3],fun j p hj=>?_⟩
     cases j with
     | zero=>simp at hj;subst hj;exact⟨_,_,rfl,pl,zk8 x1⟩
     | succ j=>exact h4 j p (by simpa using hj)
theorem zmU{H:Hp}{M:Mm}:∀ {ps:List (Key×W)} {ks:List (Key×V)} {rs:List (Key×Value)} {kvs:List (Key×W)} {ls:List (Key×V)} {us:List (Key×Value)},PKV X.K H M Key ks ps→KV ks rs→PKV X.K H M Key ls kvs→KV ls us→
  ∃ ls':List (Key×V),PKV X.K H M Key ls' (zjc kvs ps)∧KV ls' (Dp.all us rs)∧ls'.length≤ls.length + ps.length
 | [],_,_,_,ls,_,.nil,.nil,h1,h2=>⟨ls,h1,h2,Nat.le_refl _⟩
 | p :: ps,_,_,_,ls,_,.cons (a:=a) x r,.cons (b:=b) y t,h1,h2=>by
  obtain⟨k,w⟩:=p
  obtain⟨k1,v⟩:=a
  obtain⟨k2,u⟩:=b
  obtain⟨x1,x2⟩:=x
  obtain⟨y1,y2⟩:=y
  cases x1;cases y1
  obtain⟨ls',g1,g2,g3⟩:=zmU (kvs:=putW _ k w) r t (zir h1 k x2) (h2.put k y2)
  have:=zc2 ls k v
  exact⟨ls',g1,g2,by simp at g3 ⊢;omega⟩
theorem zwJ(hc:X.calm=true):zbx X (.type "dict") (upC X.K zuI):=by
 rintro pins s σ H xs us Q I rs ⟨ws,M,R,am,axs,h,k⟩
 match ws,h with
 | [.rl ws],h=>
  obtain⟨v,rfl,av⟩:=axs.one
  obtain⟨ps,rfl,hz,r⟩:=h
  obtain⟨u,rfl,ru⟩:=zf4 rs
  cases av with
  | rl f n q=>
   cases ru
   obtain⟨z,its,c,rv,hl,e⟩:=I.lstM f
   obtain⟨ks,rs',h1,h2,h3,h4⟩:=zkj I q rv
   obtain⟨ls,g1,g2,g3⟩:=zmU h1 h2 .nil .nil
   refine Dp.call_pairs (knd:=zaq X.prog X.w) (items:=its.toArray) (ps:=rs') (I.ok.hd hc) e (by simpa using h3) (by rw[List.size_toArray];omega) (fun j p hj=>by simpa using h4 j p hj) fun h' tk hk hd=>?_
   have hz2:ps.length≤sizeLine:=by simpa [zhC] using hz
   have hfr:=I.hok.fresh (Nat.le_refl _)
   refine⟨.ref s.heap.objs.size,upd H s.heap.objs.size (.dK ls),I.laid (o:=.dK ls) (t':=tk) hk (Nat.le_refl _) ⟨by simp at g3;omega,beq_eq_false_iff_ne.mpr (Ne.symm (Nat.ne_of_lt I.big)),_,g2,hd⟩,rfl,?_⟩
   obtain⟨am2,k2⟩:=am.laid (o:=.dK (zjc [] ps)) (u:=.dK ls) hfr ⟨ls,zar,pkv_new hfr g1⟩
   exact k _ _ _ _ k2 am2 (.ref _) (r _ (am.nonM hfr))
where
 pkv_new:∀ {H:Hp} {M:Mm} {p:Addr} {ks ls:List (Key×V)} {kvs kus:List (Key×W)},H p=none→PKV X.K H M Key ks kvs→PKV X.K (upd H p (.dK ls)) (put M p (.dK kus)) Key ks kvs:=fun hp h=>zfQ h.keys (h.vals.newL hp)
def zp6:List W→Mm→K3→Prop
 | [.rl ws],M,R=>∃ ps:List (Key×W),ws=zhC ps∧ws.length≤sizeLine∧R (.dk (zjc [] ps)) M
 | _,_,_=>False
theorem zuJ(hc:X.calm=true):zbx X (.type "dict") (upC X.K zp6):=by
 rintro pins s σ H xs us Q I rs ⟨ws,M,R,am,axs,h,k⟩
 match ws,h with
 | [.rl ws],h=>
  obtain⟨v,rfl,av⟩:=axs.one
  obtain⟨ps,rfl,hz,r⟩:=h
  obtain⟨u,rfl,ru⟩:=zf4 rs
  cases av with
  | rl f n q=>
   cases ru
   obtain⟨z,its,c,rv,hl,e⟩:=I.lstM f
   obtain⟨ks,rs',h1,h2,h3,h4⟩:=zkj I q rv
   obtain⟨ls,g1,g2,g3⟩:=zmU h1 h2 .nil .nil
   refine Dp.call_pairs (knd:=zaq X.prog X.w) (items:=its.toArray) (ps:=rs') (I.ok.hd hc) e (by simpa using h3) (by rw[List.size_toArray];omega) (fun j p hj=>by simpa using h4 j p hj) fun h' tk hk hd=>?_
   have hz2:ps.length≤sizeLine:=by simpa [zhC] using hz
   have hfr:=I.hok.fresh (Nat.le_refl _)
   refine⟨.ref s.heap.objs.size,upd H s.heap.objs.size (.dK ls),I.laid (o:=.dK ls) (t':=tk) hk (Nat.le_refl _) ⟨by simp at g3;omega,beq_eq_false_iff_ne.mpr (Ne.symm (Nat.ne_of_lt I.big)),_,g2,hd⟩,rfl,?_⟩
   obtain⟨am2,k2⟩:=am.tup (u:=.dK ls) hfr
   exact k _ _ _ _ k2 am2 (.dk zar (am.nonM hfr) g1.keys (g1.vals.newT hfr)) r
end
end L3
namespace L3
open PySem PySem.Spec PyProof.Rows L2
section
variable {X:Cx}
end
end L3
namespace L3
open PySem PySem.Spec PyProof.Rows L2
end L3
namespace L3
open PySem PySem.Spec PyProof.Rows L2
def putG(f:Str)(w:W):List (Str×W)→List (Str×W)
 | []=>[(f,w)]
 | (k,x) :: r=>if k=f then(k,w) :: r else(k,x) :: putG f w r
section
variable {K:PySem.W.Frag}{H:Hp}{M:Mm}
theorem PKV.look{f:Str}{w:W}:∀ {gs:List (Str×V)} {fs:List (Str×W)},PKV K H M Str gs fs→fs.lookup f=some w→∃ v,gs.lookup f=some v∧AV K H M v w
 | _,_,.nil,h=>by cases h
 | _,_,.cons (a:=(k,v)) (b:=(k',w')) r t,h=>by
  obtain⟨rfl,av⟩:=r
  by_cases hk:(f == k)=true
  ·simp only[List.lookup,hk] at h ⊢
   cases h
   exact⟨v,rfl,av⟩
  ·have hk':(f == k)=false:=by simpa using hk
   simp only[List.lookup,hk'] at h ⊢
   exact PKV.look t h
theorem PKV.lookN{f:Str}:∀ {gs:List (Str×V)} {fs:List (Str×W)},PKV K H M Str gs fs→fs.lookup f=none→gs.lookup f=none
 | _,_,.nil,_=>rfl
 | _,_,.cons (a:=(k,v)) (b:=(k',w')) r t,h=>by
  obtain⟨rfl,av⟩:=r
  by_cases hk:(f == k)=true
  ·simp only[List.lookup,hk] at h
   cases h
  ·have hk':(f == k)=false:=by simpa using hk
   simp only[List.lookup,hk'] at h ⊢
   exact PKV.lookN t h
theorem PKV.putF{f:Str}{v:V}{w:W}(av:AV K H M v w):∀ {gs:List (Str×V)} {fs:List (Str×W)},PKV K H M Str gs fs→PKV K H M Str (L2.putF f v gs) (putG f w fs)
 | _,_,.nil=>.cons ⟨rfl,av⟩ .nil
 | _,_,.cons (a:=(k,v')) (b:=(k',w')) r t=>by
  obtain⟨rfl,av'⟩:=r
  show PKV K H M Str (if k=f then(k,v) :: _ else(k,v') :: L2.putF f v _) (if k=f then(k,w) :: _ else(k,w') :: putG f w _)
  by_cases hk:k=f
  ·rw[if_pos hk,if_pos hk];exact .cons ⟨rfl,av⟩ t
  ·rw[if_neg hk,if_neg hk];exact .cons ⟨rfl,av'⟩ (PKV.putF av t)
theorem PKV.len{κ:Type}{gs:List (κ×V)}{fs:List (κ×W)}(h:PKV K H M κ gs fs):gs.length=fs.length:=by
 have:=congrArg List.length h.keys
 simpa using this
end
section
variable {X:Cx}{C:Addr}{f m:Str}{pos apos cpos:Pos}{ta tv:TE3}{o e value:Expr}{es:List Expr}{t:TA3}{sp:Sp3}
def vFld(C:Addr)(ta:TE3)(f:Str):TE3:=fun τ M R=>ta τ M fun x M1=>∃ a dx fs w,x=.ref a∧M1 a=some (.ins C dx fs)∧fs.lookup f=some w∧R w M1
theorem zbY(c:Cls X.K C)(n:zcd X.K C f)(he:E3 X o ta)(hb:attributeBase o f X.env (eval o X.env)=eval o X.env:=by rfl):E3 X (.Attribute o f pos) (vFld C ta f):=
 (zvv he hb).weak fun σ H Q ⟨τ,M,R,as,am,h,k⟩=>⟨τ,M,_,as,am,h,fun x H1 wx M1 k1 am1 ax ⟨a,dx,fs,w,e1,e2,e3,r⟩=>by
  subst e1
  cases ax
  obtain⟨gs,e4,q⟩:=am1 a _ e2
  obtain⟨v,e5,av⟩:=q.look e3
  exact⟨a,C,dx,gs,v,rfl,e4,c,n,e5,k _ _ _ _ k1 am1 av r⟩⟩
def zgc(C:Addr)(ta:TE3)(f:Str)(tv:TE3):TS3:=fun D τ M=>tv τ M fun y M1=>ta τ M1 fun x M2=>∃ a dx fs,x=.ref a∧M2 a=some (.ins C dx fs)∧fs.length < 1000∧D.nx τ (put M2 a (.ins C dx (putG f y fs)))
theorem zjd(c:Cls X.K C)(n:zcd X.K C f)(ha:E3 X o ta)(hv:E3 X value tv)(hs:swapsWith value (some (.Attribute o f apos)) pos.line X.env=pure false:=by rfl):P3 X (.Assign [.Attribute o f apos] value pos) (zgc C ta f tv):=
 (zvw ha hv hs).weak fun D σ H ⟨τ,M,D',as,am,h,k⟩=>⟨τ,M,_,as,am,h,fun y H1 wy M1 k1 am1 ay h1=>⟨τ,M1,_,as.kp am k1,am1,h1,fun x H2 wx M2 k2 am2 ax ⟨a,dx,fs,e1,e2,hl,r⟩=>by
  subst e1
  cases ax
  obtain⟨gs,e4,q⟩:=am2 a _ e2
  refine⟨a,C,dx,gs,rfl,e4,c,n,by rw[q.len];exact hl,?_⟩
  obtain⟨am3,k3⟩:=am2.write (o:=.ins C dx (putG f wy fs)) (u:=.ins C dx (L2.putF f y gs)) e2 ⟨_,zar,((q.putF (ay.kp am1 k2))).go (zos am2 e2)⟩
  exact k.nx _ _ _ _ ((k1.trans k2).trans k3) am3 (((as.kp am k1).kp am1 k2).kp am2 k3) r⟩⟩
variable {k:Nat}{g:Addr}{fd:FuncData}{ps:List Str}
def zcu(C:Addr)(m:Str)(sp:Sp3)(ta:TE3)(t:TA3):TE3:=fun τ M R=>ta τ M fun x M1=>∃ a dx fs,x=.ref a∧M1 a=some (.ins C dx fs)∧fs.lookup m=none∧t τ M1 fun ws M2=>sp (.ref a :: ws) M2 R
theorem zrZ{σ:SV}{H:Hp}{Q:VK}(h:up X.K (zcu C m sp ta t) σ H Q):ztf C m (upSp X.K sp) [] E0 (up X.K ta) (upA X.K t) σ H Q:=by
 obtain⟨τ,M,R,as,am,h,k⟩:=h
 refine⟨τ,M,_,as,am,h,fun x H1 wx M1 k1 am1 ax ⟨a,dx,fs,e1,e2,e3,h1⟩=>?_⟩
 subst e1
 cases ax
 obtain⟨gs,e4,q⟩:=am1 a _ e2
 refine⟨a,dx,gs,rfl,e4,q.lookN e3,τ,M1,_,as.kp am k1,am1,h1,fun vs H2 ws M2 k2 am2 avs h2=>⟨.ref a :: ws,M2,R,am2,?_,h2,k.kp (k1.trans k2)⟩⟩
 rw[List.append_nil]
 exact .cons (.ref a) avs
theorem zhD{pl:Sem Bool}(c:Cls X.K C)(hm:Meth X.K C m g)(F:FnOk X.prog X.w X.K X.mg X.base CX0 k g fd ps (upSp X.K sp))(hr:Room k X.A)(hb:zeO X.K fd ps [])(he:E3 X o ta)(ha:A3 X (e :: es) t)
  (hst:starEach (e :: es) X.env=(false,eval e X.env) :: starEach es X.env:=by rfl) (hpl:(backTo pos (starEach es X.env)).any (·.1)=false:=by rfl)
  (ht:eval (.Call (.Attribute o m apos) (e :: es) [] pos) X.env=(do
   let ov ←eval o X.env
   standAt apos.atName
   let (f,first) ←holding [ov] (getMethod ov m pl)
   callWith pos f first (backTo pos (starEach (e :: es) X.env)) (backToKw pos (keywordEach [] X.env))):=by rfl) :
  E3 X (.Call (.Attribute o m apos) (e :: es) [] pos) (zcu C m sp ta t):=(zth (pl:=pl) he c hm F hr hb .nil zpk ha hst hpl ht).weak fun _ _ _ h=>zrZ h
theorem zmV{pl:Sem Bool}(c:Cls X.K C)(hm:Meth X.K C m g)(F:FnOk X.prog X.w X.K X.mg X.base CX0 k g fd ps (upSp X.K sp))(hr:Room k X.A)(hb:zeO X.K fd ps [])(he:E3 X o ta)
  (ht:eval (.Call (.Attribute o m apos) [] [] pos) X.env=(do
   let ov ←eval o X.env
   standAt apos.atName
   let (f,first) ←holding [ov] (getMethod ov m pl)
   callWith pos f first (backTo pos (starEach [] X.env)) (backToKw pos (keywordEach [] X.env))):=by rfl) :
  E3 X (.Call (.Attribute o m apos) [] [] pos) (zcu C m sp ta aNil):=(zq0 (pl:=pl) he c hm F hr hb .nil zpk ht).weak fun σ H Q h=>by
 obtain⟨τ,M,R,as,am,h,k⟩:=h
 refine⟨τ,M,_,as,am,h,fun x H1 wx M1 k1 am1 ax ⟨a,dx,fs,e1,e2,e3,h1⟩=>?_⟩
 subst e1
 cases ax
 obtain⟨gs,e4,q⟩:=am1 a _ e2
 exact⟨a,dx,gs,rfl,e4,q.lookN e3,[.ref a],M1,R,am1,.cons (.ref a) .nil,h1,k.kp k1⟩
def zoE(C:Addr)(sp:Sp3)(t:TA3):TE3:=fun τ M R=>t τ M fun ws M1=>∀ a dx,M1 a=none→M1 dx=none→dx≠a→sp (.ref a :: ws) (put M1 a (.ins C dx [])) fun w M2=>w=.non∧R (.ref a) M2
theorem AM.made{K:PySem.W.Frag}{H:Hp}{M:Mm}{x dx:Addr}(am:AM K H M)(hx:H x=none)(hd:H dx=none)(ne:dx≠x):AM K (upd (upd H dx (.own x)) x (.ins C dx [])) (put M x (.ins C dx []))∧Kp H M (upd (upd H dx (.own x)) x (.ins C dx [])) (put M x (.ins C dx [])):=by
 obtain⟨am1,k1⟩:=am.tup (u:=.own x) hd
 have hx1:upd H dx (.own x) x=none:=by rw[zal (Ne.symm ne)];exact hx
 obtain⟨am2,k2⟩:=am1.laid (o:=.ins C dx []) (u:=.ins C dx []) hx1 ⟨[],zar,.nil⟩
 exact⟨am2,k1.trans k2⟩
theorem zp7{H:Hp}{M:Mm}{R:K3}{Q:VK}{vs:List V}{ws:List W}(am:AM X.K H M)(avs:AVs X.K H M vs ws)(h:∀ a dx,M a=none→M dx=none→dx≠a→sp (.ref a :: ws) (put M a (.ins C dx [])) fun w M2=>w=.non∧R (.ref a) M2)(k:Up X.K H M R Q) :
  ∀ x dx,H x=none→H dx=none→dx≠x→upSp X.K sp (.ref x :: (vs ++ [])) (upd (upd H dx (.own x)) x (.ins C dx [])) (fun v H2=>v=.non∧Q (.ref x) H2) E0:=by
 intro x dx hx hd ne
 obtain⟨am1,k1⟩:=am.made (C:=C) hx hd ne
 refine⟨.ref x :: ws,_,_,am1,?_,h x dx (am.nonM hx) (am.nonM hd) ne,fun v H2 w M2 k2 am2 av r=>?_⟩
 ·rw[List.append_nil];exact .cons (.ref x) (avs.kp am k1)
 ·obtain⟨rfl,r⟩:=r
  cases av
  exact⟨rfl,k _ _ _ _ (k1.trans k2) am2 (.ref x) r⟩
theorem zwK{x:Str}{p:Pos}(M:Mk X.K C g)(F:FnOk X.prog X.w X.K X.mg X.base CX0 k g fd ps (upSp X.K sp))(hr:Room (k + 1) X.A)(hg:Gl X x)(hm:X.mg x=some (.ref C))(hb:zeO X.K fd ps [])(ha:A3 X (e :: es) t)
  (hdb:(x == ("__debug__" : Str))=false:=by decide) (he:starEach (e :: es) X.env=(false,eval e X.env) :: starEach es X.env:=by rfl) (hpl:(backTo pos (starEach es X.env)).any (·.1)=false:=by rfl) :
  E3 X (.Call (.Name x p) (e :: es) [] pos) (zoE C sp t):=(zti M F hr hg hm hb .nil zpk ha hdb he hpl).weak fun σ H Q ⟨τ,M,R,as,am,h,k⟩=>⟨τ,M,_,as,am,h,fun vs H1 ws M1 k1 am1 avs h1=>zp7 am1 avs h1 (k.kp k1)⟩
theorem zuK{x:Str}{p:Pos}(M:Mk X.K C g)(F:FnOk X.prog X.w X.K X.mg X.base CX0 k g fd ps (upSp X.K sp))(hr:Room (k + 1) X.A)(hg:Gl X x)(hm:X.mg x=some (.ref C))(hb:zeO X.K fd ps [])
  (hdb:(x == ("__debug__" : Str))=false:=by decide):E3 X (.Call (.Name x p) [] [] pos) (zoE C sp aNil):=(zq1 M F hr hg hm hb .nil zpk hdb).weak fun σ H Q ⟨τ,M,R,as,am,h,k⟩=>zp7 am .nil h k
end
end L3
namespace L2
open PySem PySem.Spec PyProof.Rows
section
variable {prog:Program}{w:World}{K:Type}[DecidableEq K]{knd:HeapKind prog w K}{A:Around}{E:Value→Shared→Prop}{s:Shared}{d a:Addr}{k:K}{xs:List (K×Addr×Value)}
theorem zp8{y:Value}{Q:Value→Shared→Prop}(hu:knd.room A)(hkey:knd.is s.heap k a)(hm:s.heap.DictOfH knd d xs)(hsz:xs.length≤sizeLine)
  (h1:∀ p,atKey xs k=some p→Q p.2 {s with toks:=s.toks + knd.draws k})
  (h2:atKey xs k=none→∀ h',h'.DictOfH knd d (storedH xs k a y)→Heap.SameBut d s.heap h'→Q y {s with heap:=h',toks:=s.toks + knd.draws k}) :
  wpAny (model prog w) A (dictSetDefault d (.ref a) y) Q E s:=by
 obtain⟨o,es,ep,ho,hc,hd,he,his,hn⟩:=hm
 unfold dictSetDefault
 refine wpAny_holding (wpAny_bind (knd.pyHash hu hkey (wpAny_bind (wpAny_dictFind_heap (s:={s with toks:=s.toks + knd.draws k}) hu hkey ho hd he his hn (fun hno=>?_) fun j p hj=>?_))))
 ·have hk:=atKey_none_of_get hno
  have hnot:k∉xs.map (·.1):=not_mem_keys_of_get hno
  refine wpAny_bind (wpAny_rule (wpAny_bind (wpAny_updateDictKeys (hz:=by have e:=size_of_entries he;omega) (s:={s with toks:=s.toks + knd.draws k}) ho hd (wpAny_pure (h2 hk _ ⟨_,_,ep + 1,Heap.get?_update_self _ ho (Obj.isFreed_of_dict (Obj.data_mapDictKeys hd _)),
   hc.mapDictKeys _,Obj.data_mapDictKeys hd _,?_,fun x hx=>?_,?_⟩ (Heap.SameBut.update ..))))))
  ·rw[storedH_new hk]
   simp[he,entryOfKey]
  ·rw[storedH_new hk] at hx
   rcases List.mem_append.mp hx with q | q
   ·exact knd.keeps (his x q) ho hd (Heap.SameBut.update ..)
   ·obtain rfl:=List.mem_singleton.mp q
    exact knd.keeps hkey ho hd (Heap.SameBut.update ..)
  ·rw[storedH_new hk,List.map_append,List.nodup_append]
   refine⟨hn,by simp,fun x hx y hy=>?_⟩
   simp only[List.map_cons,List.map_nil,List.mem_singleton] at hy
   subst hy
   exact fun e=>hnot (e ▸ hx)
 ·refine wpAny_bind (wpAny_dictEntries (s:={s with toks:=s.toks + knd.draws k}) ho hd ?_)
  rw[entry_at he j,hj]
  exact wpAny_bind (wpAny_rule (wpAny_pure (h1 p (atKey_of_get hn hj))))
theorem zlG:∀ {xs:List (K×Addr×Value)} {j:Nat} {p:Addr×Value},(xs.map (·.1)).Nodup→xs[j]? = some (k,p)→xs.eraseIdx j=xs.filter fun x=>decide (x.1≠k)
 | [],j,p,_,h=>by simp at h
 | x :: r,0,p,hn,h=>by
  have e:x=(k,p):=by simpa using h
  subst e
  rw[List.map_cons,List.nodup_cons] at hn
  rw[List.eraseIdx_zero,List.tail_cons,List.filter_cons_of_neg (by simp)]
  refine(List.filter_eq_self.mpr fun y hy=>?_).symm
  rw[decide_eq_true_eq]
  exact fun e=>hn.1 (List.mem_map.mpr ⟨y,hy,e⟩)
 | x :: r,j + 1,p,hn,h=>by
  rw[List.map_cons,List.nodup_cons] at hn
  have hj:r[j]? = some (k,p):=by simpa using h
  have hx:x.1≠k:=fun e=>hn.1 (List.mem_map.mpr ⟨(k,p),List.mem_of_getElem? hj,e.symm⟩)
  rw[List.eraseIdx_cons_succ,zlG hn.2 hj,List.filter_cons_of_pos (by simpa using hx)]
theorem zuL{v:Value}{b:Addr}{Q:Option DictEntry→Shared→Prop}(hu:knd.room A)(hkey:knd.is s.heap k a)(hm:s.heap.DictOfH knd d xs)(hsz:xs.length≤sizeLine)(hv:atKey xs k=some (b,v))
  (h:∀ h',h'.DictOfH knd d (xs.filter fun x=>decide (x.1≠k))→Heap.SameBut d s.heap h'→Q (some ⟨knd.hash k,.ref b,v⟩) {s with heap:=h',toks:=s.toks + knd.draws k}) :
  wpAny (model prog w) A (Builtin.Dict.takeOut d (.ref a)) Q E s:=by
 obtain⟨o,es,ep,ho,hc,hd,he,his,hn⟩:=hm
 unfold Builtin.Dict.takeOut
 refine wpAny_holding (wpAny_bind (knd.pyHash hu hkey (wpAny_bind (wpAny_dictFind_heap (s:={s with toks:=s.toks + knd.draws k}) hu hkey ho hd he his hn (fun hno=>?_) fun j p hj=>?_))))
 ·rw[atKey_none_of_get hno] at hv;cases hv
 ·rw[atKey_of_get hn hj] at hv
  cases hv
  have hej:=zlG hn hj
  refine wpAny_bind (wpAny_dictEntries (s:={s with toks:=s.toks + knd.draws k}) ho hd ?_)
  rw[entry_at he j,hj]
  refine wpAny_bind (wpAny_updateDictKeys (hz:=by have e:=size_of_entries he;omega) (s:={s with toks:=s.toks + knd.draws k}) ho hd (wpAny_pure (h _ ⟨_,_,ep + 1,Heap.get?_update_self _ ho (Obj.isFreed_of_dict (Obj.data_mapDictKeys hd _)),
   hc.mapDictKeys _,Obj.data_mapDictKeys hd _,?_,fun x hx=>knd.keeps (his x (List.mem_filter.mp hx).1) ho hd (Heap.SameBut.update ..),?_⟩ (Heap.SameBut.update ..))))
  ·rw[←hej]
   have e2:(xs.eraseIdx j).map (entryOfKey knd)=(xs.map (entryOfKey knd)).eraseIdx j:=by simp[List.eraseIdx_eq_take_drop_succ,List.map_take,List.map_drop]
   rw[e2,←he]
   obtain⟨l⟩:=es
   simp
  ·exact hn.sublist (List.filter_sublist.map _)
end
section
variable {X:Cx}{pins:List (Addr×Obj)}{σ:St}{H:Hp}{s:Shared}{a b:Addr}{v:V}{r:Value}{A:Around}{E:Value→Shared→Prop}{kvs:List (List Key×V)}{k:List Key}
theorem KT.drop{xs:List (List Key×Addr×Value)}(rel:KT H kvs xs)(k:List Key):KT H (zmq kvs k) (xs.filter fun x=>decide (x.1≠k)):=by
 induction rel with
 | nil=>exact .nil
 | @cons p q ps qs h t ih=>
  unfold zmq at ih ⊢
  rw[List.filter_cons,List.filter_cons,←h.1]
  split
  ·exact .cons h ih
  ·exact ih
theorem zp9{Q:Value→Shared→Prop}(hu:A.units + 1 < cLine)(I:Inv X pins σ H s)(e:H a=some (.dT kvs))(eb:H b=some (.tup (k.map kV)))(rv:RelV v r)(hl:kvs.length < sizeLine)
  (h1:∀ v0 w' s',valV kvs k=some v0→Inv X pins σ H s'→RelV v0 w'→Q w' s') (h2:valV kvs k=none→∀ s',Inv X pins σ (upd H a (.dT (putK kvs k v))) s'→Q r s') :
  wpAny (model X.prog X.w) A (call (.builtin "dict.setdefault") [.ref a,.ref b,r]) Q E s:=by
 obtain⟨z,hd,xs,rel,dd⟩:=zto I.hok e
 have hz:xs.length≤sizeLine:=by rw[←Paired.length rel];exact z
 have hv:=rel.val k
 refine call_meetsIn PySem.F.slot_dict_setdefault dd.typeIs PySem.F.entry_dict_setdefault (PySem.F.args_dict_setdefault_3 _ _ _)
  (S:=fun A R s1=>(tupleKind (zaq X.prog X.w)).room A.in1∧(tupleKind (zaq X.prog X.w)).is s1.heap k b∧s1.heap.DictOfH (tupleKind (zaq X.prog X.w)) a xs∧
   (∀ p,atKey xs k=some p→R (.ok (.ret p.2)) {s1 with toks:=s1.toks + (k.length + 1)})∧
   (atKey xs k=none→∀ h',h'.DictOfH (tupleKind (zaq X.prog X.w)) a (storedH xs k b r)→Heap.SameBut a s1.heap h'→R (.ok (.ret r)) {s1 with heap:=h',toks:=s1.toks + (k.length + 1)}))
  (.of_wp fun A R s1 ⟨q0,q1,q2,q3,q4⟩=>?_) ⟨tupleKind_room_in1 hu,zfO I.hok eb,dd,fun p hp=>?_,fun hn h' dd' hs=>?_⟩
 ·unfold Builtin.«dict.setdefault»
  refine wpAny_bind ?_
  unfold Builtin.Dict.keyAndDefault
  refine wpAny_bind (wpAny_notOrdered_dict q2.typeIs ?_)
  refine wpAny_pure ?_
  dsimp only
  rw[if_neg (by rw[hd];exact Bool.false_ne_true)]
  exact wpAny_bind (zp8 q0 q1 q2 hz (fun p hp=>wpAny_pure ⟨_,rfl,q3 p hp⟩) fun hn h' hm' hs'=>wpAny_pure ⟨_,rfl,q4 hn h' hm' hs'⟩)
 ·rw[hp] at hv
  cases q:valV kvs k with
  | none=>rw[q] at hv;exact(show False from hv).elim
  | some v0=>rw[q] at hv;exact h1 v0 _ _ q (I.tok _) hv
 ·rw[hn] at hv
  have q:valV kvs k=none:=by
   cases q:valV kvs k with
   | none=>rfl
   | some v0=>rw[q] at hv;exact(show False from hv).elim
  have hl':(putK kvs k v).length≤sizeLine:=by have:=zc2 kvs k v;omega
  obtain⟨q1,es,ep,hq,g2,g3,g4,_,g5⟩:=dd'
  refine h2 q _ (zjZ (t':=s.toks + (k.length + 1)) I (by rw[e];exact True.intro) hs ⟨q1,hq⟩ ⟨hl',hd,_,(rel.put k eb rv).keeps fun c ys ec=>?_,q1,es,ep,hq,g2,g3,g4,g5⟩)
  rw[zal (zsV ec e (fun z=>nomatch z))]
  exact ec
theorem zwL{Q:Value→Shared→Prop}(hu:A.units + 1 < cLine)(I:Inv X pins σ H s)(e:H a=some (.dT kvs))(eb:H b=some (.tup (k.map kV)))(l:valV kvs k=some v)
  (h:∀ w' s',Inv X pins σ (upd H a (.dT (zmq kvs k))) s'→RelV v w'→Q w' s'):wpAny (model X.prog X.w) A (call (.builtin "dict.pop") [.ref a,.ref b]) Q E s:=by
 obtain⟨z,hd,xs,rel,dd⟩:=zto I.hok e
 have hz:xs.length≤sizeLine:=by rw[←Paired.length rel];exact z
 obtain⟨w',hw,rw'⟩:=RelO.some_of (v:=v) (o:=(atKey xs k).map (·.2)) (by rw[←l];exact rel.val k)
 obtain⟨⟨c,w2⟩,hc,rfl⟩:=Option.map_eq_some_iff.mp hw
 refine call_meetsIn PySem.F.slot_dict_pop dd.typeIs PySem.F.entry_dict_pop (PySem.F.args_dict_pop_2 _ _)
  (S:=fun A R s1=>(tupleKind (zaq X.prog X.w)).room A.in1∧(tupleKind (zaq X.prog X.w)).is s1.heap k b∧s1.heap.DictOfH (tupleKind (zaq X.prog X.w)) a xs∧
   ∀ h',h'.DictOfH (tupleKind (zaq X.prog X.w)) a (xs.filter fun x=>decide (x.1≠k))→Heap.SameBut a s1.heap h'→R (.ok (.ret w2)) {s1 with heap:=h',toks:=s1.toks + (k.length + 1)})
  (.of_wp fun A R s1 ⟨q0,q1,q2,q3⟩=>?_) ⟨tupleKind_room_in1 hu,zfO I.hok eb,dd,fun h' dd' hs=>?_⟩
 ·unfold Builtin.«dict.pop»
  refine wpAny_bind ?_
  unfold Builtin.Dict.keyAndDefault
  refine wpAny_bind (wpAny_notOrdered_dict q2.typeIs ?_)
  refine wpAny_pure ?_
  dsimp only
  rw[if_neg (show ¬ ((keyPart (Value.ref b)).isSome=true) from Bool.false_ne_true)]
  obtain⟨o,es,ep,ho,hc',hd',he,his,hn⟩:=id q2
  have hne:es.isEmpty=false:=by
   have h1:=size_of_entries he
   cases xs with
   | nil=>cases hc
   | cons x r=>rw[Array.isEmpty_eq_false_iff];intro z;rw[z] at h1;simp at h1
  refine wpAny_bind (wpAny_dictEntries ho hd' ?_)
  refine wpAny_bind (wpAny_pure ?_)
  rw[hne,if_neg Bool.false_ne_true]
  refine wpAny_bind (zuL q0 q1 q2 hz hc fun h' hm' hs'=>?_)
  rw[if_neg (by simp)]
  exact wpAny_bind (wpAny_letGo (wpAny_pure ⟨_,rfl,q3 h' hm' hs'⟩))
 ·obtain⟨q1,es,ep,hq,g2,g3,g4,_,g5⟩:=dd'
  refine h w2 _ (zjZ (t':=s.toks + (k.length + 1)) I (by rw[e];exact True.intro) hs ⟨q1,hq⟩ ⟨Nat.le_trans (zq6 kvs k) z,hd,_,(rel.drop k).keeps fun c ys ec=>?_,q1,es,ep,hq,g2,g3,g4,g5⟩) rw'
  rw[zal (zsV ec e (fun z=>nomatch z))]
  exact ec
end
end L2
namespace L3
open PySem PySem.Spec PyProof.Rows L2
section
variable {X:Cx}
def rGet:W→List W→Mm→K3→Prop
 | d,[y],M,R=>∃ o,dGet M d y o∧R (o.getD .non) M
 | d,[y,v],M,R=>∃ o,dGet M d y o∧R (o.getD v) M
 | _,_,_,_=>False
theorem zlH(hu:X.A.units + 1 < cLine):MtR X "dict.get" (upM X.K rGet):=by
 rintro pins s σ H x xs v us Q I rx rs ⟨wx,ws,M,R,am,ax,axs,h,k⟩
 match ws,h with
 | [y],h=>
  obtain⟨z,rfl,az⟩:=axs.one
  obtain⟨o,g,r⟩:=h
  obtain⟨a,rfl,g2⟩:=zis am ax az g
  cases rx
  obtain⟨u,rfl,ru⟩:=rs.one
  rcases g2 with⟨rfl,g3⟩ | ⟨v0,w0,rfl,g3,av⟩
  ·exact zsx hu I g3 ru fun w' s' I' rw'=>⟨_,H,I',rw',k.at am .non r⟩
  ·exact zsx hu I g3 ru fun w' s' I' rw'=>⟨_,H,I',rw',k.at am av r⟩
 | [y,v1],h=>
  obtain⟨z,z1,rfl,az,az1⟩:=axs.two
  obtain⟨o,g,r⟩:=h
  obtain⟨a,rfl,g2⟩:=zis am ax az g
  cases rx
  obtain⟨u,u1,rfl,ru,ru1⟩:=zoh rs
  rcases g2 with⟨rfl,g3⟩ | ⟨v0,w0,rfl,g3,av⟩
  ·exact zsy hu I g3 ru ru1 fun w' s' I' rw'=>⟨_,H,I',rw',k.at am az1 r⟩
  ·exact zsy hu I g3 ru ru1 fun w' s' I' rw'=>⟨_,H,I',rw',k.at am av r⟩
def ziF:W→List W→Mm→K3→Prop
 | .ref a,[.tup ks,v],M,R=>∃ kvs k,M a=some (.dT kvs)∧ks=k.map wK∧kvs.length < sizeLine∧(∀ w,zam kvs k=some w→R w M)∧(zam kvs k=none→R v (put M a (.dT (putW kvs k v))))
 | _,_,_,_=>False
theorem znL(hu:X.A.units + 1 < cLine):MtR X "dict.setdefault" (upM X.K ziF):=by
 rintro pins s σ H x xs v us Q I rx rs ⟨wx,ws,M,R,am,ax,axs,h,k⟩
 match wx,ws,h with
 | .ref a,[.tup ks,v1],h=>
  obtain⟨z,z1,rfl,az,az1⟩:=axs.two
  obtain⟨kvs,kk,e,rfl,hl,h1,h2⟩:=h
  cases ax
  cases rx
  obtain⟨u,u1,rfl,ru,ru1⟩:=zoh rs
  obtain⟨gs,e1,q⟩:=am _ _ e
  cases az with
  | @tup b vs _ eb qb=>
   cases (show u=Value.ref b from ru)
   rw[qb.keys] at eb
   have lk:=zh8 q kk
   refine zp9 hu I e1 eb ru1 (by rw[q.len];exact hl) (fun v0 w' s' e2 I' rw'=>?_) fun e2 s' I'=>?_
   ·rcases lk with⟨_,l2⟩ | ⟨v2,w2,l1,l2,av⟩
    ·rw[l2] at e2;cases e2
    ·rw[l2] at e2;cases e2
     exact⟨_,H,I',rw',k.at am av (h1 w2 l1)⟩
   ·rcases lk with⟨l1,l2⟩ | ⟨v2,w2,l1,l2,av⟩
    ·obtain⟨am3,k3⟩:=am.write (o:=.dT (putW kvs kk v1)) (u:=.dT (putK gs kk z1)) e ⟨_,zar,(zir q kk az1).go (zos am e)⟩
     exact⟨_,_,I',ru1,k _ _ _ _ k3 am3 (az1.wr am e) (h2 l1)⟩
    ·rw[l2] at e2;cases e2
def zhS{κ:Type}[DecidableEq κ](kvs:List (κ×W))(k:κ):List (κ×W):=kvs.filter fun kv=>decide (kv.1≠k)
theorem zr0{κ:Type}[DecidableEq κ]{K:PySem.W.Frag}{H:Hp}{M:Mm}{gs:List (κ×V)}{kvs:List (κ×W)}(h:PKV K H M κ gs kvs)(k:κ):PKV K H M κ (zmq gs k) (zhS kvs k):=by
 induction h with
 | nil=>exact .nil
 | @cons p q ps qs r t ih=>
  unfold zmq zhS at ih ⊢
  rw[List.filter_cons,List.filter_cons,←r.1]
  split
  ·exact .cons r ih
  ·exact ih
def zwM:W→List W→Mm→K3→Prop
 | .ref a,[.tup ks],M,R=>∃ kvs k w,M a=some (.dT kvs)∧ks=k.map wK∧zam kvs k=some w∧R w (put M a (.dT (zhS kvs k)))
 | _,_,_,_=>False
theorem zwN(hu:X.A.units + 1 < cLine):MtR X "dict.pop" (upM X.K zwM):=by
 rintro pins s σ H x xs v us Q I rx rs ⟨wx,ws,M,R,am,ax,axs,h,k⟩
 match wx,ws,h with
 | .ref a,[.tup ks],h=>
  obtain⟨z,rfl,az⟩:=axs.one
  obtain⟨kvs,kk,w,e,rfl,l,r⟩:=h
  cases ax
  cases rx
  obtain⟨u,rfl,ru⟩:=rs.one
  obtain⟨gs,e1,q⟩:=am _ _ e
  cases az with
  | @tup b vs _ eb qb=>
   cases (show u=Value.ref b from ru)
   rw[qb.keys] at eb
   rcases zh8 q kk with⟨l1,l2⟩ | ⟨v2,w2,l1,l2,av⟩
   ·rw[l1] at l;cases l
   ·rw[l1] at l;cases l
    obtain⟨am3,k3⟩:=am.write (o:=.dT (zhS kvs kk)) (u:=.dT (zmq gs kk)) e ⟨_,zar,(zr0 q kk).go (zos am e)⟩
    exact zwL hu I e1 eb l2 fun w' s' I' rw'=>⟨_,_,I',rw',k _ _ _ _ k3 am3 (av.wr am e) r⟩
end
end L3
namespace L2
open PySem PySem.Spec PyProof.Rows
section
variable {X:Cx}{pins:List (Addr×Obj)}{σ:St}{H:Hp}{s:Shared}{a b:Addr}{v:V}{r:Value}{A:Around}{E:Value→Shared→Prop}{es:List (NKey×Addr×V)}{tl:List Int}{x:NKey}
end
end L2
namespace L3
open PySem PySem.Spec PyProof.Rows L2
section
variable {K:PySem.W.Frag}{H:Hp}{M:Mm}
theorem zwO(k:Key):AV K H M (kV k) (wK k):=by cases k <;> first | exact .int _ | exact .str _
theorem znM:∀ ks:List Key,AVs K H M (ks.map kV) (ks.map wK)
 | []=>.nil
 | k :: r=>.cons (zwO k) (znM r)
end
section
variable {X:Cx}
end
end L3
namespace L2
open PySem PySem.Spec PyProof.Rows
section
variable {X:Cx}{pins:List (Addr×Obj)}{σ:St}{H:Hp}{s:Shared}{a d:Addr}{es:List (NKey×Addr×V)}{tl:List Int}{A:Around}{E:Value→Shared→Prop}
end
end L2
namespace L3
open PySem PySem.Spec PyProof.Rows L2
section
variable {X:Cx}
end
end L3
namespace PySem
namespace Tr
open AutoSeq1 (wpAny_loadPart')
section
variable {prog:Program}{w:World}{A:Around}{E:Value→Shared→Prop}{s:Shared}
end
end Tr
end PySem
namespace L2
open PySem PySem.Spec PyProof.Rows
section
variable {X:Cx}{a:Expr}{ta:TA}{p p2 pos pos2:Pos}
end
end L2
namespace L3
open PySem PySem.Spec PyProof.Rows L2
section
variable {X:Cx}{a:Expr}{ta:TE3}
end
end L3
namespace PySem
namespace Zd
open PyProof.Rows L2 PySem.Spec Zt
section
variable {prog:Program}{w:World}{A:Around}{E:Value→Shared→Prop}{s:Shared}
variable {z TI TO i1 i2 l1 l2:Addr}{xs ys:Array Value}{S1 S2:Nat→Heap→Prop}
abbrev TK(prog:Program)(w:World):=tupleKind (zaq prog w)
def allH(es:List (List Key×Addr×Value))(ps:List (List Key×Addr×Value)):List (List Key×Addr×Value):=ps.foldl (fun es p=>storedH es p.1 p.2.1 p.2.2) es
theorem ziG(es:List (List Key×Addr×Value))(k:List Key)(a:Addr)(v:Value):(storedH es k a v).length≤es.length + 1:=by
 unfold storedH
 split
 ·rw[List.length_map];omega
 ·rw[List.length_append,List.length_singleton];exact Nat.le_refl _
theorem zlI{h h':Heap}{k:List Key}{a:Addr}(x:(TK prog w).is h k a)(e:∀ o,h.get? a=some o→h'.get? a=some o):(TK prog w).is h' k a:=by
 obtain⟨o,items,n,ho,r⟩:=x
 exact⟨o,items,n,e o ho,r⟩
end
end Zd
end PySem
namespace PySem
namespace Zd
open PyProof.Rows L2 PySem.Spec Zt
open Sem (wp)
section
variable {prog:Program}{w:World}{A:Around}{E:Value→Shared→Prop}{s:Shared}
end
end Zd
end PySem
namespace L2
open PySem PySem.Spec PyProof.Rows
def zmW(ks:List (List Key×V))(ps:List (List Key×V)):List (List Key×V):=ps.foldl (fun k p=>putK k p.1 p.2) ks
theorem zuM{H:Hp}{qs:List (List Key×Addr×V)}{ps:List (List Key×Addr×Value)}(h:Paired (fun(q:List Key×Addr×V) (p:List Key×Addr×Value)=>q.1=p.1∧q.2.1=p.2.1∧RelV q.2.2 p.2.2) qs ps) :
  ∀ {kvs:List (List Key×V)} {es:List (List Key×Addr×Value)},(∀ q∈qs,H q.2.1=some (.tup (q.1.map kV)))→KT H kvs es→KT H (zmW kvs (qs.map fun q=>(q.1,q.2.2))) (Zd.allH es ps):=by
 induction h with
 | nil=>intro kvs es _ k;exact k
 | @cons q p qs ps r t ih=>
  intro kvs es hq k
  obtain⟨q1,q2,q3⟩:=q
  obtain⟨p1,p2,p3⟩:=p
  obtain⟨rfl,rfl,r3⟩:=r
  exact ih (fun z hz=>hq z (List.mem_cons_of_mem _ hz)) (k.put q1 (hq _ List.mem_cons_self) r3)
theorem zlJ:∀ (ps:List (List Key×V)) (ks:List (List Key×V)),(zmW ks ps).length≤ks.length + ps.length
 | [],ks=>Nat.le_refl _
 | p :: ps,ks=>by
  have h1:=zlJ ps (putK ks p.1 p.2)
  have h2:=zc2 ks p.1 p.2
  show(zmW (putK ks p.1 p.2) ps).length≤ks.length + (ps.length + 1)
  omega
section
variable {X:Cx}{a b:Expr}{ta:TA}{p p2 pos pos2:Pos}
end
end L2
namespace L3
open PySem PySem.Spec PyProof.Rows L2
def zoF(kvs:List (List Key×W))(ps:List (List Key×W)):List (List Key×W):=ps.foldl (fun kvs p=>putW kvs p.1 p.2) kvs
section
variable {X:Cx}{a b:Expr}{ta:TA3}
end
end L3
namespace L3
open PySem PySem.Spec PyProof.Rows L2
structure Dm(K:PySem.W.Frag)(C:Addr)(x qual:Str)(st:Stmt)(ps:List Str)(f:Addr)(fd:FuncData):Prop where
 fn:Fun K x qual st f fd
 me:Meth K C x f
 bi:zeO K fd ps []
structure Di(K:PySem.W.Frag)(C:Addr)(x qual:Str)(st:Stmt)(ps:List Str)(f:Addr)(fd:FuncData):Prop where
 fn:Fun K x qual st f fd
 mak:Mk K C f
 bi:zeO K fd ps []
theorem zwP{A:Around}{k:Nat}(hr:Room k A):A.units + 2 < cLine:=by have:=hr.un;omega
end L3
namespace L2
open PySem PySem.Spec PyProof.Rows
def ltC(a b:Int×Int):Bool:=decide (a.1 < b.1) || (decide (a.1=b.1) && decide (a.2 < b.2))
section
variable {prog:Program}{w:World}{A:Around}{E:Value→Shared→Prop}{s:Shared}
theorem zuN{a b:Addr}{oa ob:Obj}{xs ys:Array Value}{na nb:Nat}{x1 x2 y1 y2:Int}{t1 t2 u1 u2:Tok}{Q:Value→Shared→Prop}(hu:A.units + 1 < cLine)(hoa:s.heap.get? a=some oa)(hca:oa.cls=.type "tuple")(hda:oa.data=.seq xs na)(hob:s.heap.get? b=some ob)(hcb:ob.cls=.type "tuple")(hdb:ob.data=.seq ys nb)
  (ex:xs.toList=[.int x1 t1,.int x2 t2]) (ey:ys.toList=[.int y1 u1,.int y2 u2]) (h:Q (.bool (ltC (x1,x2) (y1,y2))) s):wpAny (model prog w) A (compareOp .Lt (.ref a) (.ref b)) Q E s:=by
 have hTa:s.TypeIs (.ref a) "tuple":=⟨oa,hoa,hca⟩
 have hTb:s.TypeIs (.ref b) "tuple":=⟨ob,hob,hcb⟩
 show wpAny _ _ (richCompare .Lt (.ref a) (.ref b)) Q E s
 refine wpAny_richCompare_same_room (op:=.Lt) hTa hTb PySem.F.slot_tuple_lt (wpAny_call_entry PySem.F.slot_tuple_lt hTa PySem.F.entry_tuple_lt ?_ (PySem.F.args_tuple_lt_2 _ _)) (Nat.lt_of_succ_lt hu)
 show wpAny _ _ (isInstance (.ref b) (.type "tuple") >>= _) _ _ s
 refine wpAny_bind (wpAny_isInstance hTb isSubtype_tuple_tuple ?_)
 simp only[Bool.not_true,Bool.false_eq_true,if_false]
 refine wpAny_bind (wpAny_tupleItemsOf hoa hda ?_)
 refine wpAny_bind (wpAny_tupleItemsOf hob hdb ?_)
 refine wpAny_bind ?_
 rw[ex,ey]
 show wpAny _ _ (forIn [(Value.int x1 t1,Value.int y1 u1),(Value.int x2 t2,Value.int y2 u2)] _ _) _ _ s
 have hsz:xs.size=2∧ys.size=2:=by
  have h1:=congrArg List.length ex
  have h2:=congrArg List.length ey
  simp at h1 h2
  exact⟨h1,h2⟩
 refine wpAny_forIn_list _
  (fun rest q s'=>q.1=none∧s'=s∧(rest=[(Value.int x1 t1,Value.int y1 u1),(Value.int x2 t2,Value.int y2 u2)]∨(rest=[(Value.int x2 t2,Value.int y2 u2)]∧x1=y1)∨(rest=[]∧x1=y1∧x2=y2)))
  _ ?_ ?_ _ _ ⟨rfl,rfl,.inl rfl⟩
 ·rintro⟨u,v⟩ rest q s' ⟨hq,rfl,hc⟩
  rcases hc with z | ⟨z,e1⟩ | ⟨z,_⟩
  ·simp only[List.cons.injEq,Prod.mk.injEq] at z
   obtain⟨⟨rfl,rfl⟩,rfl⟩:=z
   refine wpAny_bind (wpAny_eqBool_int ?_)
   by_cases e1:x1=y1
   ·rw[show(x1 == y1)=true by simpa using e1]
    simp only[Bool.not_true,Bool.false_eq_true,if_false]
    exact wpAny_pure ⟨rfl,rfl,by simp[e1]⟩
   ·rw[show(x1 == y1)=false by simpa using e1]
    simp only[Bool.not_false,if_true]
    have e:ltC (x1,x2) (y1,y2)=decide (x1 < y1):=by simp[ltC,e1]
    rw[e] at h
    refine wpAny_bind (wpAny_rule (wpAny_bind (PyProof.Rows.lt_int ?_)))
    exact wpAny_bind (wpAny_pure (wpAny_pure (wpAny_pure ⟨_,rfl,(fun e=>nomatch e),h⟩)))
  ·simp only[List.cons.injEq,Prod.mk.injEq] at z
   obtain⟨⟨rfl,rfl⟩,rfl⟩:=z
   refine wpAny_bind (wpAny_eqBool_int ?_)
   by_cases e2:x2=y2
   ·rw[show(x2 == y2)=true by simpa using e2]
    simp only[Bool.not_true,Bool.false_eq_true,if_false]
    exact wpAny_pure ⟨rfl,rfl,by simp[e1,e2]⟩
   ·rw[show(x2 == y2)=false by simpa using e2]
    simp only[Bool.not_false,if_true]
    have e:ltC (x1,x2) (y1,y2)=decide (x2 < y2):=by simp[ltC,e1]
    rw[e] at h
    refine wpAny_bind (wpAny_rule (wpAny_bind (PyProof.Rows.lt_int ?_)))
    exact wpAny_bind (wpAny_pure (wpAny_pure (wpAny_pure ⟨_,rfl,(fun e=>nomatch e),h⟩)))
  ·cases z
 ·rintro⟨q1,q2⟩ s' ⟨hq,rfl,hc⟩
  simp only at hq
  subst hq
  rcases hc with z | ⟨z,_⟩ | ⟨_,e1,e2⟩
  ·cases z
  ·cases z
  ·refine wpAny_pure ⟨_,rfl,(fun e=>nomatch e),?_⟩
   subst e1;subst e2
   have e:ltC (x1,x2) (x1,x2)=decide (xs.size < ys.size):=by rw[hsz.1,hsz.2];simp[ltC]
   rw[e] at h
   exact h
theorem zuO{a b:Addr}{oa ob:Obj}{xs ys:Array Value}{na nb:Nat}{x1 x2 y1 y2:Int}{t1 t2 u1 u2:Tok}{Q:Value→Shared→Prop}(hu:A.units + 1 < cLine)(hoa:s.heap.get? a=some oa)(hca:oa.cls=.type "tuple")(hda:oa.data=.seq xs na)(hob:s.heap.get? b=some ob)(hcb:ob.cls=.type "tuple")(hdb:ob.data=.seq ys nb)
  (ex:xs.toList=[.int x1 t1,.int x2 t2]) (ey:ys.toList=[.int y1 u1,.int y2 u2]) (h:Q (.bool (ltC (y1,y2) (x1,x2))) s):wpAny (model prog w) A (compareOp .Gt (.ref a) (.ref b)) Q E s:=by
 have hTa:s.TypeIs (.ref a) "tuple":=⟨oa,hoa,hca⟩
 have hTb:s.TypeIs (.ref b) "tuple":=⟨ob,hob,hcb⟩
 show wpAny _ _ (richCompare .Gt (.ref a) (.ref b)) Q E s
 refine wpAny_richCompare_same_room (op:=.Gt) hTa hTb PySem.F.slot_tuple_gt (wpAny_call_entry PySem.F.slot_tuple_gt hTa PySem.F.entry_tuple_gt ?_ (PySem.F.args_tuple_gt_2 _ _)) (Nat.lt_of_succ_lt hu)
 show wpAny _ _ (isInstance (.ref b) (.type "tuple") >>= _) _ _ s
 refine wpAny_bind (wpAny_isInstance hTb isSubtype_tuple_tuple ?_)
 simp only[Bool.not_true,Bool.false_eq_true,if_false]
 refine wpAny_bind (wpAny_tupleItemsOf hoa hda ?_)
 refine wpAny_bind (wpAny_tupleItemsOf hob hdb ?_)
 refine wpAny_bind ?_
 rw[ex,ey]
 show wpAny _ _ (forIn [(Value.int x1 t1,Value.int y1 u1),(Value.int x2 t2,Value.int y2 u2)] _ _) _ _ s
 have hsz:xs.size=2∧ys.size=2:=by
  have h1:=congrArg List.length ex
  have h2:=congrArg List.length ey
  simp at h1 h2
  exact⟨h1,h2⟩
 refine wpAny_forIn_list _
  (fun rest q s'=>q.1=none∧s'=s∧(rest=[(Value.int x1 t1,Value.int y1 u1),(Value.int x2 t2,Value.int y2 u2)]∨(rest=[(Value.int x2 t2,Value.int y2 u2)]∧x1=y1)∨(rest=[]∧x1=y1∧x2=y2)))
  _ ?_ ?_ _ _ ⟨rfl,rfl,.inl rfl⟩
 ·rintro⟨u,v⟩ rest q s' ⟨hq,rfl,hc⟩
  rcases hc with z | ⟨z,e1⟩ | ⟨z,_⟩
  ·simp only[List.cons.injEq,Prod.mk.injEq] at z
   obtain⟨⟨rfl,rfl⟩,rfl⟩:=z
   refine wpAny_bind (wpAny_eqBool_int ?_)
   by_cases e1:x1=y1
   ·rw[show(x1 == y1)=true by simpa using e1]
    simp only[Bool.not_true,Bool.false_eq_true,if_false]
    exact wpAny_pure ⟨rfl,rfl,by simp[e1]⟩
   ·rw[show(x1 == y1)=false by simpa using e1]
    simp only[Bool.not_false,if_true]
    have e:ltC (y1,y2) (x1,x2)=decide (y1 < x1):=by simp[ltC,Ne.symm e1]
    rw[e] at h
    refine wpAny_bind (wpAny_rule (wpAny_bind (PyProof.Rows.gt_int ?_)))
    exact wpAny_bind (wpAny_pure (wpAny_pure (wpAny_pure ⟨_,rfl,(fun e=>nomatch e),h⟩)))
  ·simp only[List.cons.injEq,Prod.mk.injEq] at z
   obtain⟨⟨rfl,rfl⟩,rfl⟩:=z
   refine wpAny_bind (wpAny_eqBool_int ?_)
   by_cases e2:x2=y2
   ·rw[show(x2 == y2)=true by simpa using e2]
    simp only[Bool.not_true,Bool.false_eq_true,if_false]
    exact wpAny_pure ⟨rfl,rfl,by simp[e1,e2]⟩
   ·rw[show(x2 == y2)=false by simpa using e2]
    simp only[Bool.not_false,if_true]
    have e:ltC (y1,y2) (x1,x2)=decide (y2 < x2):=by simp[ltC,e1]
    rw[e] at h
    refine wpAny_bind (wpAny_rule (wpAny_bind (PyProof.Rows.gt_int ?_)))
    exact wpAny_bind (wpAny_pure (wpAny_pure (wpAny_pure ⟨_,rfl,(fun e=>nomatch e),h⟩)))
  ·cases z
 ·rintro⟨q1,q2⟩ s' ⟨hq,rfl,hc⟩
  simp only at hq
  subst hq
  rcases hc with z | ⟨z,_⟩ | ⟨_,e1,e2⟩
  ·cases z
  ·cases z
  ·refine wpAny_pure ⟨_,rfl,(fun e=>nomatch e),?_⟩
   subst e1;subst e2
   have e:ltC (x1,x2) (x1,x2)=decide (xs.size > ys.size):=by rw[hsz.1,hsz.2];simp[ltC]
   rw[e] at h
   exact h
end
end L2
namespace L2
open PySem PySem.Spec PyProof.Rows
section
variable {X:Cx}
def rInsert:V→List V→Hp→VK→Prop:=fun x vs H Q=>∃ l xs y i,x=.ref l∧vs=[.int (i:Nat),y]∧H l=some (.lst xs)∧xs.length < sizeLine∧i≤xs.length∧Q .non (upd H l (.lst (xs.take i ++ y :: xs.drop i)))
theorem Vals.splitAt:∀ {xs:List V} {us:List Value} (i:Nat),Vals xs us→Vals (xs.take i) (us.take i)∧Vals (xs.drop i) (us.drop i)
 | _,_,0,h=>⟨.nil,h⟩
 | _,_,i + 1,.nil=>⟨.nil,.nil⟩
 | _,_,i + 1,.cons r t=>by
  obtain⟨h1,h2⟩:=Vals.splitAt i t
  exact⟨.cons r h1,h2⟩
theorem zqa:MtM X "list.insert" rInsert:=by
 intro pins s σ H x vs v us Q I rx rv h
 obtain⟨l,xs,y,i,rfl,rfl,hH,hz,hi,q⟩:=h
 cases rx
 obtain⟨u1,u2,rfl,r1,r2⟩:=zoh rv
 obtain⟨tk,rfl⟩:=r1
 obtain⟨z,its,n,r,hl,e⟩:=I.lstM hH
 have hlen:its.length=xs.length:=r.length.symm
 have hs:sizeLine=16777216:=sizeLine_eq
 have hc0:¬ (!Builtin.List.listFitsIndex ((i:Nat):Int))=true:=by
  have h1:Builtin.List.listFitsIndex ((i:Nat):Int)=true:=by
   unfold Builtin.List.listFitsIndex
   rw[Bool.and_eq_true,decide_eq_true_eq,decide_eq_true_eq]
   omega
  rw[h1];decide
 have hs1:its.toArray.size≤sizeLine:=by rw[List.size_toArray];omega
 generalize hj:((i:Nat):Int)=j at hc0 e ⊢
 have hm:=PySem.AutoSeq1.list_insert_list_int_val_1 l its.toArray n j tk u2 hc0 hs1
 refine call_meets F.slot_list_insert ⟨_,e,rfl⟩ F.entry_list_insert (F.args_list_insert_3 _ _ _) hm ⟨e,?_⟩
 obtain⟨h1,h2⟩:=Vals.splitAt i r
 refine⟨.non,_,I.lset (its':=its.take i ++ u2 :: its.drop i) hH e ?_ (h1.append (.cons r2 h2)) ?_,rfl,q⟩
 ·have hk:(if j < 0 then(j + (its.toArray.size:Int)).toNat else min j.toNat its.toArray.size)=i:=by
   rw[←hj,if_neg (by omega),Int.toNat_natCast,List.size_toArray];omega
  show(its.toArray.extract 0 (if j < 0 then(j + (its.toArray.size:Int)).toNat else min j.toNat its.toArray.size)).push u2 ++ its.toArray.extract (if j < 0 then(j + (its.toArray.size:Int)).toNat else min j.toNat its.toArray.size)=_
  rw[hk]
  apply Array.toList_inj.mp
  simp[Array.toList_append,Array.toList_push]
  rw[List.take_of_length_le (by rw[List.length_drop];omega)]
 ·rw[List.length_append,List.length_cons,List.length_take,List.length_drop]
  omega
end
end L2
namespace L3
open PySem PySem.Spec PyProof.Rows L2
section
variable {X:Cx}
def rLtT:R3:=fun x y M R=>∃ a b c d:Int,x=.tup [.int a,.int b]∧y=.tup [.int c,.int d]∧R (.bl (ltC (a,b) (c,d))) M
def rGtT:R3:=fun x y M R=>∃ a b c d:Int,x=.tup [.int a,.int b]∧y=.tup [.int c,.int d]∧R (.bl (ltC (c,d) (a,b))) M
theorem zkk{pins:List (Addr×Obj)}{σ:SV}{H:Hp}{M:Mm}{s:Shared}{x:V}{v:Value}{a b:Int}(I:Inv X pins σ H s)(rx:RelV x v)(ax:AV X.K H M x (.tup [.int a,.int b])):∃ p o its n t u,v=.ref p∧s.heap.get? p=some o∧o.cls=.type "tuple"∧o.data=.seq its n∧its.toList=[.int a t,.int b u]:=by
 cases ax with
 | @tup p xs _ e q=>
  cases (show v=Value.ref p from rx)
  obtain⟨y,z,rfl,ay,az⟩:=q.two
  cases ay
  cases az
  obtain⟨_,its,r,o,h1,h2,m,h3⟩:=(show zbl X.prog X.w H s.heap p (.tup [.int a,.int b]) from I.hok p _ e)
  obtain⟨u1,u2,rfl,r1,r2⟩:=zoh r
  obtain⟨t1,rfl⟩:=r1
  obtain⟨t2,rfl⟩:=r2
  exact⟨p,o,_,m,t1,t2,rfl,h1,h2,h3,by simp⟩
theorem zwQ(hu:X.A.units + 1 < cLine):OpR X (compareOp .Lt) (upO X.K rLtT):=by
 rintro pins s σ H x y v u Q I rx ry ⟨wx,wy,M,R,am,ax,ay,⟨a,b,c,d,rfl,rfl,r⟩,k⟩
 obtain⟨p,o,its,n,t1,t2,rfl,h1,h2,h3,h4⟩:=zkk I rx ax
 obtain⟨p',o',its',n',t1',t2',rfl,g1,g2,g3,g4⟩:=zkk I ry ay
 exact zuN hu h1 h2 h3 g1 g2 g3 h4 g4 ⟨.bl _,H,I,rfl,k.at am (.bl _) r⟩
theorem zxP(hu:X.A.units + 1 < cLine):OpR X (compareOp .Gt) (upO X.K rGtT):=by
 rintro pins s σ H x y v u Q I rx ry ⟨wx,wy,M,R,am,ax,ay,⟨a,b,c,d,rfl,rfl,r⟩,k⟩
 obtain⟨p,o,its,n,t1,t2,rfl,h1,h2,h3,h4⟩:=zkk I rx ax
 obtain⟨p',o',its',n',t1',t2',rfl,g1,g2,g3,g4⟩:=zkk I ry ay
 exact zuO hu h1 h2 h3 g1 g2 g3 h4 g4 ⟨.bl _,H,I,rfl,k.at am (.bl _) r⟩
def rIns:W→List W→Mm→K3→Prop
 | .ref l,[.int i,y],M,R=>∃ ws,M l=some (.lst ws)∧ws.length < sizeLine∧0≤i∧i≤ws.length∧R .non (put M l (.lst (ws.take i.toNat ++ y :: ws.drop i.toNat)))
 | _,_,_,_=>False
theorem znN{K:PySem.W.Frag}{H:Hp}{M:Mm}:∀ {vs:List V} {ws:List W} (i:Nat),AVs K H M vs ws→AVs K H M (vs.take i) (ws.take i)∧AVs K H M (vs.drop i) (ws.drop i)
 | _,_,0,h=>⟨.nil,h⟩
 | _,_,i + 1,.nil=>⟨.nil,.nil⟩
 | _,_,i + 1,.cons r t=>by
  obtain⟨h1,h2⟩:=znN i t
  exact⟨.cons r h1,h2⟩
theorem zr1:MtR X "list.insert" (upM X.K rIns):=by
 rintro pins s σ H x xs v us Q I rx rs ⟨wx,ws,M,R,am,ax,axs,h,k⟩
 match wx,ws,h with
 | .ref l,[.int i,y],h=>
  obtain⟨u,z,rfl,au,az⟩:=axs.two
  cases ax
  cases au
  obtain⟨ws,e,hl,h0,h1,r⟩:=h
  obtain⟨i,rfl⟩:=Int.eq_ofNat_of_zero_le h0
  obtain⟨vs,f,q⟩:=am.lst e
  obtain⟨q1,q2⟩:=znN i q
  rw[Int.toNat_natCast] at r
  exact zqa pins s σ H _ _ v us Q I rx rs ⟨l,vs,z,i,rfl,rfl,f,by rw[q.length];exact hl,by rw[q.length];omega,zjD am k e (q1.append (.cons az q2)) .non r⟩
end
end L3
namespace Rg
open PySem PySem.Spec PyProof.Rows L2 L3
theorem zdS{κ:Type}[DecidableEq κ]{kvs:List (κ×W)}{k j:κ}{w:W}:zam (putW kvs k w) j=if k=j then some w else zam kvs j:=zay kvs k j w
theorem zbz{κ:Type}[DecidableEq κ](e:κ×W)(t:List (κ×W))(k:κ):zam (e :: t) k=if e.1=k then some e.2 else zam t k:=zai e t k
theorem zfD{κ:Type}[DecidableEq κ]{k j:κ}:∀ {kvs:List (κ×W)},zam (zhS kvs k) j=if k=j then none else zam kvs j
 | []=>by unfold zhS;rw[List.filter_nil];split <;> rfl
 | e :: t=>by
  have ih:=zfD (k:=k) (j:=j) (kvs:=t)
  unfold zhS at ih ⊢
  rw[List.filter_cons]
  by_cases h:e.1=k
  ·rw[if_neg (by simp[h]),ih,zbz]
   by_cases hj:k=j
   ·rw[if_pos hj,if_pos hj]
   ·rw[if_neg hj,if_neg hj,if_neg (by rw[h];exact hj)]
  ·rw[if_pos (by simp[h]),zbz,ih,zbz]
   by_cases hj:k=j
   ·rw[if_pos hj,if_pos hj,if_neg (by rw[←hj];exact h)]
   ·rw[if_neg hj,if_neg hj]
theorem zkl{κ:Type}[DecidableEq κ](kvs:List (κ×W))(k:κ)(w:W):(putW kvs k w).length≤kvs.length + 1:=zh9 kvs k w
theorem zlK{κ:Type}[DecidableEq κ]{k:κ}:∀ {kvs:List (κ×W)},(zam kvs k).isSome=true→(zhS kvs k).length < kvs.length
 | [],h=>by cases h
 | e :: t,h=>by
  unfold zhS
  rw[List.filter_cons]
  have hle:(t.filter fun kv=>decide (kv.1≠k)).length≤t.length:=List.length_filter_le _ _
  by_cases he:e.1=k
  ·rw[if_neg (by simp[he]),List.length_cons];omega
  ·rw[if_pos (by simp[he]),List.length_cons,List.length_cons]
   rw[zbz,if_neg he] at h
   have:=zlK h
   unfold zhS at this
   omega
structure Tab{κ:Type}(kk:κ→List Key)(M0 M:Mm)(a:Addr)(kvs:List (List Key×W))(g:κ→Option (List W)):Prop where
 sub:L3.Sub M0 M
 new:M0 a=none
 at_:M a=some (.dT kvs)
 non:∀ k,g k=none→zam kvs (kk k)=none
 som:∀ k ws,g k=some ws→∃ p,zam kvs (kk k)=some (.ref p)∧p≠a∧M0 p=none∧M p=some (.lst ws)
 inj:∀ k j p,zam kvs (kk k)=some (.ref p)→zam kvs (kk j)=some (.ref p)→k=j
theorem zbq{M0 M:Mm}{p:Addr}{o:MO}(h:L3.Sub M0 M)(n:M0 p=none):L3.Sub M0 (put M p o):=fun a u e=>by
 rw[zaf (fun z=>by rw[z,n] at e;cases e)];exact h a u e
section
variable {κ:Type}[DecidableEq κ]{kk:κ→List Key}{M0 M:Mm}{a p:Addr}{kvs:List (List Key×W)}{g:κ→Option (List W)}{o:MO}{k:κ}{ws:List W}
theorem Tab.lift(h:Tab kk M0 M a kvs g)(hp:M p=none∨∃ u,M0 p=some u):Tab kk (put M0 p o) (put M p o) a kvs g:=by
 have ne:∀ {b:Addr},M0 b=none→(∃ u,M b=some u)→b≠p:=fun {b} h0 ⟨u,h1⟩ e=>by
  subst e
  rcases hp with z | ⟨v,z⟩
  ·rw[h1] at z;cases z
  ·rw[h0] at z;cases z
 refine⟨Sub.put h.sub,?_,?_,h.non,fun k ws e=>?_,h.inj⟩
 ·rw[zaf (ne h.new ⟨_,h.at_⟩)];exact h.new
 ·rw[zaf (ne h.new ⟨_,h.at_⟩)];exact h.at_
 ·obtain⟨q,h1,h2,h3,h4⟩:=h.som k ws e
  have:=ne h3 ⟨_,h4⟩
  exact⟨q,h1,h2,by rw[zaf this];exact h3,by rw[zaf this];exact h4⟩
theorem Tab.more(h:Tab kk M0 M a kvs g)(hp:M p=none):Tab kk M0 (put M p o) a kvs g:=by
 have ne:∀ {b:Addr},(∃ u,M b=some u)→b≠p:=fun {b} ⟨u,h1⟩ e=>by subst e;rw[hp] at h1;cases h1
 refine⟨zbq h.sub (h.sub.non hp),h.new,by rw[zaf (ne ⟨_,h.at_⟩)];exact h.at_,h.non,fun k ws e=>?_,h.inj⟩
 obtain⟨q,h1,h2,h3,h4⟩:=h.som k ws e
 exact⟨q,h1,h2,h3,by rw[zaf (ne ⟨_,h4⟩)];exact h4⟩
theorem Tab.has(h:Tab kk M0 M a kvs g)(e:g k=some ws):∃ p,zam kvs (kk k)=some (.ref p)∧M p=some (.lst ws):=by
 obtain⟨q,h1,_,_,h4⟩:=h.som k ws e
 exact⟨q,h1,h4⟩
theorem Tab.look(h:Tab kk M0 M a kvs g)(k:κ):(zam kvs (kk k)).isSome=(g k).isSome:=by
 cases e:g k with
 | none=>rw[h.non k e];rfl
 | some ws=>obtain⟨q,h1,_⟩:=h.has e;rw[h1];rfl
theorem Tab.wr(h:Tab kk M0 M a kvs g)(hk:zam kvs (kk k)=some (.ref p)):Tab kk M0 (put M p (.lst ws)) a kvs (fun j=>if k=j then some ws else g j):=by
 obtain⟨ws0,e0⟩:∃ ws0,g k=some ws0:=by
  cases e:g k with
  | none=>rw[h.non k e] at hk;cases hk
  | some ws=>exact⟨_,rfl⟩
 obtain⟨q,h1,h2,h3,h4⟩:=h.som k ws0 e0
 rw[hk] at h1
 cases h1
 refine⟨zbq h.sub h3,h.new,by rw[zaf (Ne.symm h2)];exact h.at_,fun j e=>?_,fun j us e=>?_,h.inj⟩
 ·by_cases hj:k=j
  ·rw[if_pos hj] at e;cases e
  ·rw[if_neg hj] at e;exact h.non j e
 ·by_cases hj:k=j
  ·rw[if_pos hj] at e;cases e
   subst hj
   exact⟨p,hk,h2,h3,zad⟩
  ·rw[if_neg hj] at e
   obtain⟨q,g1,g2,g3,g4⟩:=h.som j us e
   refine⟨q,g1,g2,g3,?_⟩
   rw[zaf (fun z=>hj (h.inj k j p hk (by rw[←z];exact g1)))];exact g4
theorem Tab.add(hkk:∀ k j,kk k=kk j→k=j)(h:Tab kk M0 M a kvs g)(hg:g k=none)(hp:M p=none):Tab kk M0 (put (put M p (.lst ws)) a (.dT (putW kvs (kk k) (.ref p)))) a (putW kvs (kk k) (.ref p)) (fun j=>if k=j then some ws else g j):=by
 have ne:∀ {b:Addr},(∃ u,M b=some u)→b≠p:=fun {b} ⟨u,h1⟩ e=>by subst e;rw[hp] at h1;cases h1
 have hpa:p≠a:=Ne.symm (ne ⟨_,h.at_⟩)
 have refs:∀ j q,zam kvs (kk j)=some (.ref q)→∃ u,M q=some u:=fun j q e=>by
  cases eg:g j with
  | none=>rw[h.non j eg] at e;cases e
  | some us=>
   obtain⟨q',g1,_,_,g4⟩:=h.som j us eg
   rw[e] at g1;cases g1
   exact⟨_,g4⟩
 refine⟨zbq (zbq h.sub (h.sub.non hp)) h.new,h.new,zad,fun j e=>?_,fun j us e=>?_,fun i j q e1 e2=>?_⟩
 ·by_cases hj:k=j
  ·rw[if_pos hj] at e;cases e
  ·rw[if_neg hj] at e
   rw[zdS,if_neg (fun z=>hj (hkk _ _ z))];exact h.non j e
 ·by_cases hj:k=j
  ·rw[if_pos hj] at e;cases e
   subst hj
   exact⟨p,by rw[zdS,if_pos rfl],hpa,h.sub.non hp,by rw[zaf hpa,zad]⟩
  ·rw[if_neg hj] at e
   obtain⟨q,g1,g2,g3,g4⟩:=h.som j us e
   exact⟨q,by rw[zdS,if_neg (fun z=>hj (hkk _ _ z))];exact g1,g2,g3,by rw[zaf g2,zaf (ne ⟨_,g4⟩)];exact g4⟩
 ·rw[zdS] at e1 e2
  by_cases h1:kk k=kk i
  ·by_cases h2:kk k=kk j
   ·exact(hkk _ _ h1).symm.trans (hkk _ _ h2)
   ·rw[if_pos h1] at e1;rw[if_neg h2] at e2;cases e1
    obtain⟨u,z⟩:=refs j p e2;rw[hp] at z;cases z
  ·by_cases h2:kk k=kk j
   ·rw[if_neg h1] at e1;rw[if_pos h2] at e2;cases e2
    obtain⟨u,z⟩:=refs i p e1;rw[hp] at z;cases z
   ·rw[if_neg h1] at e1;rw[if_neg h2] at e2
    exact h.inj i j q e1 e2
theorem Tab.del(hkk:∀ k j,kk k=kk j→k=j)(h:Tab kk M0 M a kvs g):Tab kk M0 (put M a (.dT (zhS kvs (kk k)))) a (zhS kvs (kk k)) (fun j=>if k=j then none else g j):=by
 refine⟨zbq h.sub h.new,h.new,zad,fun j e=>?_,fun j us e=>?_,fun i j q e1 e2=>?_⟩
 ·rw[zfD]
  by_cases hj:k=j
  ·rw[if_pos (by rw[hj])]
  ·rw[if_neg hj] at e
   rw[if_neg (fun z=>hj (hkk _ _ z))];exact h.non j e
 ·by_cases hj:k=j
  ·rw[if_pos hj] at e;cases e
  ·rw[if_neg hj] at e
   obtain⟨q,g1,g2,g3,g4⟩:=h.som j us e
   exact⟨q,by rw[zfD,if_neg (fun z=>hj (hkk _ _ z))];exact g1,g2,g3,by rw[zaf g2];exact g4⟩
 ·rw[zfD] at e1 e2
  split at e1
  ·cases e1
  ·split at e2
   ·cases e2
   ·exact h.inj i j q e1 e2
theorem Tab.same{g':κ→Option (List W)}(h:Tab kk M0 M a kvs g)(e:∀ k,g' k=g k):Tab kk M0 M a kvs g':=by
 have:g'=g:=funext e
 rw[this];exact h
end
end Rg
namespace Rg
open PySem PySem.Spec PyProof.Rows L2 L3
structure Cc where
 q:Addr
 s:Addr
def cW(c:Cost):W:=.tup [.int c.1,.int c.2]
def cK(c:Cost):List Key:=[Sum.inl c.1,Sum.inl c.2]
theorem zqb(c:Cost):cW c=.tup ((cK c).map wK):=rfl
theorem zsL:∀ a b:Cost,cK a=cK b→a=b:=fun a b h=>by
 unfold cK at h
 simp only[List.cons.injEq,Sum.inl.injEq,and_true] at h
 exact Prod.ext h.1 h.2
def zdK(cut:List Int):W:=.tup (cut.map W.int)
def itW(x:Nat×List Int):W:=.tup [.int x.1,zdK x.2]
section
variable {α:Type}
theorem ze2{κ β:Type}[DecidableEq κ]{t:List (κ×β)}{k:κ}(h:∀ e∈t,e.1≠k):aget t k=none:=by
 induction t with
 | nil=>rfl
 | cons e t ih=>rw[zai,if_neg (h e List.mem_cons_self)];exact ih fun x hx=>h x (List.mem_cons_of_mem _ hx)
theorem znO{a b:Cost}(h:ltc a b=true):a≠b:=fun e=>by subst e;exact zlz h
theorem zlL(c:Cost)(x:α)(d:Cost):∀ {q:List (Cost×List α)},Fall q→aget (qput c x q) d=if c=d then some ((aget q c).getD [] ++ [x]) else aget q d
 | [],_=>by rw[qput,zai];rfl
 | (e,xs) :: r,h=>by
  obtain⟨_,h2,h3⟩:=h
  rw[qput]
  by_cases h1:ltc c e=true
  ·rw[if_pos h1,zai,zlL c x d h3,zai,zai,if_neg (Ne.symm (znO h1))]
   by_cases hd:e=d
   ·rw[if_pos hd,if_pos hd,if_neg (fun z=>znO h1 (z.trans hd.symm))]
   ·rw[if_neg hd,if_neg hd]
  ·rw[if_neg h1]
   by_cases h4:e=c
   ·subst h4
    rw[if_pos rfl,zai,zai,zai,if_pos rfl]
    by_cases hd:e=d
    ·rw[if_pos hd,if_pos hd];rfl
    ·rw[if_neg hd,if_neg hd,if_neg hd]
   ·rw[if_neg h4,zai]
    have hn:aget ((e,xs) :: r) c=none:=ze2 fun z hz=>by
     rcases List.mem_cons.mp hz with y | y
     ·rw[y];exact h4
     ·intro e1
      have:=h2 z y
      rw[e1] at this
      exact h1 this
    rw[hn];rfl
def pos(c:Cost):List Cost→Nat
 | []=>0
 | d :: r=>if ltc c d=true then pos c r + 1 else 0
theorem zsM(c:Cost):∀ cs:List Cost,pos c cs≤cs.length
 | []=>Nat.le_refl _
 | d :: r=>by
  rw[pos]
  split
  ·have:=zsM c r;simp;omega
  ·simp
theorem zhg(c:Cost)(x:α):∀ {q:List (Cost×List α)},Fall q→(aget q c).isSome=false→(qput c x q).map (·.1)=(q.map (·.1)).take (pos c (q.map (·.1))) ++ c :: (q.map (·.1)).drop (pos c (q.map (·.1)))
 | [],_,_=>rfl
 | (e,xs) :: r,h,hn=>by
  obtain⟨_,h2,h3⟩:=h
  rw[zai] at hn
  by_cases h4:e=c
  ·rw[if_pos h4] at hn;cases hn
  ·rw[if_neg h4] at hn
   rw[qput,List.map_cons,pos]
   by_cases h1:ltc c e=true
   ·rw[if_pos h1,if_pos h1,List.map_cons,zhg c x h3 hn];rfl
   ·rw[if_neg h1,if_neg h1,if_neg h4];rfl
theorem znP(c:Cost)(x:α):∀ {q:List (Cost×List α)},Fall q→(aget q c).isSome=true→(qput c x q).map (·.1)=q.map (·.1)
 | [],_,h=>by cases h
 | (e,xs) :: r,h,hn=>by
  obtain⟨_,h2,h3⟩:=h
  rw[zai] at hn
  rw[qput]
  by_cases h1:ltc c e=true
  ·rw[if_neg (Ne.symm (znO h1))] at hn
   rw[if_pos h1,List.map_cons,znP c x h3 hn];rfl
  ·rw[if_neg h1]
   by_cases h4:e=c
   ·rw[if_pos h4];rfl
   ·rw[if_neg h4] at hn
    obtain⟨ys,hy⟩:=Option.isSome_iff_exists.mp hn
    have:∃ z∈r,z.1=c:=by
     have:∀ {t:List (Cost×List α)},aget t c=some ys→∃ z∈t,z.1=c:=by
      intro t
      induction t with
      | nil=>intro e;cases e
      | cons b t ih=>
       intro e
       rw[zai] at e
       by_cases hb:b.1=c
       ·exact⟨b,List.mem_cons_self,hb⟩
       ·rw[if_neg hb] at e
        obtain⟨z,h1,h2⟩:=ih e
        exact⟨z,List.mem_cons_of_mem _ h1,h2⟩
     exact this hy
    obtain⟨z,hz,e1⟩:=this
    have:=h2 z hz
    rw[e1] at this
    exact absurd this h1
theorem zr2:∀ {q:List (Cost×List α)},Fall q→q.length≤(els q).length
 | [],_=>Nat.le_refl _
 | (e,xs) :: r,h=>by
  obtain⟨h1,_,h3⟩:=h
  have:=zr2 h3
  have:=List.length_pos_iff.mpr h1
  rw[els,List.length_append,List.length_map,List.length_cons];omega
theorem zsN:∀ {q:List (Cost×List α)} {c:Cost},((aget q c).getD []).length≤(els q).length
 | [],_=>Nat.le_refl _
 | (e,xs) :: r,c=>by
  rw[zai,els,List.length_append,List.length_map]
  split
  ·show xs.length≤_;omega
  ·have:=zsN (q:=r) (c:=c);omega
theorem zjG:∀ {q q':List (Cost×List α)} {c:Cost} {x:α},Fall q→zf7 q=some (c,x,q')→∃ r ys,q=r ++ [(c,ys ++ [x])]∧q'=(if ys.isEmpty then r else r ++ [(c,ys)])
 | [],q',c,x,_,h=>by cases h
 | [(d,xs)],q',c,x,hf,h=>by
  obtain⟨h1,_,_⟩:=hf
  rcases List.eq_nil_or_concat xs with z | ⟨ys,y,z⟩
  ·exact absurd z h1
  ·rw[List.concat_eq_append] at z
   subst z
   simp[zf7] at h
   obtain⟨rfl,rfl,rfl⟩:=h
   refine⟨[],ys,rfl,?_⟩
   cases ys <;> simp
 | e :: e2 :: r,q',c,x,hf,h=>by
  obtain⟨_,_,h3⟩:=hf
  rw[zf7] at h
  split at h
  ·cases h
  ·rename_i d1 x1 q1 e1
   simp only[Option.some.injEq,Prod.mk.injEq] at h
   obtain⟨rfl,rfl,rfl⟩:=h
   obtain⟨r',ys,z1,z2⟩:=zjG h3 e1
   refine⟨e :: r',ys,by rw[z1];rfl,?_⟩
   rw[z2]
   split <;> rfl
theorem zgI{κ β:Type}[DecidableEq κ]{t:List (κ×β)}{k:κ}{v:β}(h:∀ e∈t,e.1≠k)(j:κ):aget (t ++ [(k,v)]) j=if k=j then some v else aget t j:=by
 rw[zke]
 by_cases hj:k=j
 ·subst hj;rw[if_pos rfl,if_pos rfl,ze2 h];rfl
 ·rw[if_neg hj,if_neg hj,Option.or_none]
theorem zlM:∀ {r:List (Cost×List α)} {c:Cost} {ys:List α},Fall (r ++ [(c,ys)])→∀ e∈r,e.1≠c
 | [],_,_,_,e,h=>nomatch h
 | b :: r,c,ys,h,e,he=>by
  obtain⟨_,h2,h3⟩:=h
  rcases List.mem_cons.mp he with z | z
  ·rw[z];exact Ne.symm (znO (h2 (c,ys) (by simp)))
  ·exact zlM h3 e z
theorem zqc:∀ {q:List (Cost×List α)},Fall q→(q.map (·.1)).Pairwise fun a b=>ltc b a=true
 | [],_=>.nil
 | (e,xs) :: r,h=>by
  obtain⟨_,h2,h3⟩:=h
  rw[List.map_cons,List.pairwise_cons]
  refine⟨fun a ha=>?_,zqc h3⟩
  obtain⟨z,hz,rfl⟩:=List.mem_map.mp ha
  exact h2 z hz
end
theorem zsO{c:Cost}:∀ {cs:List Cost} {k:Nat},k≤cs.length→(∀ i d,i < k→cs[i]? = some d→ltc c d=true)→(∀ i d,k≤i→cs[i]? = some d→ltc c d=false)→pos c cs=k
 | [],k,h,_,_=>by simp at h;subst h;rfl
 | d :: r,k,h,h1,h2=>by
  rw[pos]
  cases k with
  | zero=>rw[if_neg (by rw[h2 0 d (Nat.le_refl _) rfl];decide)]
  | succ k=>
   rw[if_pos (h1 0 d (by omega) rfl),zsO (k:=k) (by simpa using h) (fun i e hi he=>h1 (i + 1) e (by omega) (by simpa using he)) fun i e hi he=>h2 (i + 1) e (by omega) (by simpa using he)]
structure Aq where
 o:Addr
 d:Addr
 c:Addr
 w:Addr
def qf(A:Aq):List (Str×W):=[("costs",.ref A.c),("waiting",.ref A.w)]
theorem zfE{A:Aq}:List.lookup ("costs" : Str) (qf A)=some (W.ref A.c):=by
 unfold qf;rw[List.lookup_cons,show(("costs" : Str) == ("costs" : Str))=true by decide +kernel]
theorem zhh{A:Aq}:List.lookup ("waiting" : Str) (qf A)=some (W.ref A.w):=by
 unfold qf
 rw[List.lookup_cons,show(("waiting" : Str) == ("costs" : Str))=false by decide +kernel]
 rw[List.lookup_cons,show(("waiting" : Str) == ("waiting" : Str))=true by decide +kernel]
theorem zr3{A:Aq}:List.lookup ("place_of" : Str) (qf A)=none:=by
 unfold qf
 rw[List.lookup_cons,show(("place_of" : Str) == ("costs" : Str))=false by decide +kernel]
 rw[List.lookup_cons,show(("place_of" : Str) == ("waiting" : Str))=false by decide +kernel];rfl
theorem zwR{A:Aq}:List.lookup ("put" : Str) (qf A)=none:=by
 unfold qf
 rw[List.lookup_cons,show(("put" : Str) == ("costs" : Str))=false by decide +kernel]
 rw[List.lookup_cons,show(("put" : Str) == ("waiting" : Str))=false by decide +kernel];rfl
theorem zuP{A:Aq}:List.lookup ("take" : Str) (qf A)=none:=by
 unfold qf
 rw[List.lookup_cons,show(("take" : Str) == ("costs" : Str))=false by decide +kernel]
 rw[List.lookup_cons,show(("take" : Str) == ("waiting" : Str))=false by decide +kernel];rfl
theorem zuQ{A:Aq}:List.lookup ("is_done" : Str) (qf A)=none:=by
 unfold qf
 rw[List.lookup_cons,show(("is_done" : Str) == ("costs" : Str))=false by decide +kernel]
 rw[List.lookup_cons,show(("is_done" : Str) == ("waiting" : Str))=false by decide +kernel];rfl
structure Qm(C:Cc)(M0 M:Mm)(A:Aq)(cs:List Cost):Prop where
 sub:L3.Sub M0 M
 no:M0 A.o=none
 nc:M0 A.c=none
 ne:A.o≠A.c
 ob:M A.o=some (.ins C.q A.d (qf A))
 co:M A.c=some (.lst (cs.map cW))
abbrev Qu:=List (Cost×List (Nat×List Int))
abbrev wG(q:Qu):Cost→Option (List W):=fun c=>(aget q c).map fun xs=>xs.map itW
structure QR(C:Cc)(M0 M:Mm)(A:Aq)(q:Qu):Prop where
 fall:Fall q
 ex:∃ M1 kvs,Qm C M0 M1 A (q.map (·.1))∧Tab cK M1 M A.w kvs (wG q)∧kvs.length≤q.length
theorem Qm.lift{C:Cc}{M0 M:Mm}{A:Aq}{cs:List Cost}{p:Addr}{o:MO}(h:Qm C M0 M A cs)(hp:M p=none∨∃ u,M0 p=some u):Qm C (put M0 p o) (put M p o) A cs:=by
 have ne:∀ {b:Addr},M0 b=none→(∃ u,M b=some u)→b≠p:=fun {b} h0 ⟨u,h1⟩ e=>by
  subst e
  rcases hp with z | ⟨v,z⟩
  ·rw[h1] at z;cases z
  ·rw[h0] at z;cases z
 have n1:=ne h.no ⟨_,h.ob⟩
 have n2:=ne h.nc ⟨_,h.co⟩
 exact⟨Sub.put h.sub,by rw[zaf n1];exact h.no,by rw[zaf n2];exact h.nc,h.ne,by rw[zaf n1];exact h.ob,by rw[zaf n2];exact h.co⟩
theorem Qm.costs{C:Cc}{M0 M:Mm}{A:Aq}{cs cs':List Cost}(h:Qm C M0 M A cs):Qm C M0 (put M A.c (.lst (cs'.map cW))) A cs':=
 ⟨zbq h.sub h.nc,h.no,h.nc,h.ne,by rw[zaf h.ne];exact h.ob,zad⟩
theorem QR.lift{C:Cc}{M0 M:Mm}{A:Aq}{q:Qu}{p:Addr}{o:MO}(h:QR C M0 M A q)(hp:M p=none∨∃ u,M0 p=some u):QR C (put M0 p o) (put M p o) A q:=by
 obtain⟨M1,kvs,h1,h2,h3⟩:=h.ex
 refine⟨h.fall,put M1 p o,kvs,h1.lift ?_,h2.lift ?_,h3⟩
 ·rcases hp with z | z
  ·exact .inl (h2.sub.non z)
  ·exact .inr z
 ·rcases hp with z | ⟨u,z⟩
  ·exact .inl z
  ·exact .inr ⟨u,h1.sub _ _ z⟩
theorem QR.more{C:Cc}{M0 M:Mm}{A:Aq}{q:Qu}{p:Addr}{o:MO}(h:QR C M0 M A q)(hp:M p=none):QR C M0 (put M p o) A q:=by
 obtain⟨M1,kvs,h1,h2,h3⟩:=h.ex
 exact⟨h.fall,M1,kvs,h1,h2.more hp,h3⟩
theorem QR.sub{C:Cc}{M0 M:Mm}{A:Aq}{q:Qu}(h:QR C M0 M A q):L3.Sub M0 M:=by
 obtain⟨M1,kvs,h1,h2,h3⟩:=h.ex
 exact h1.sub.trans h2.sub
theorem QR.ob{C:Cc}{M0 M:Mm}{A:Aq}{q:Qu}(h:QR C M0 M A q):M A.o=some (.ins C.q A.d (qf A)):=by
 obtain⟨M1,kvs,h1,h2,h3⟩:=h.ex
 exact h2.sub _ _ h1.ob
theorem QR.co{C:Cc}{M0 M:Mm}{A:Aq}{q:Qu}(h:QR C M0 M A q):M A.c=some (.lst ((q.map (·.1)).map cW)):=by
 obtain⟨M1,kvs,h1,h2,h3⟩:=h.ex
 exact h2.sub _ _ h1.co
end Rg
set_option hygiene false in
local macro_rules | `(tactic| simp? only [$xs,*] $[$l:location]?) => `(tactic| simp only [L3.vAsg, L3.wSub, L3.wTup, L3.zdq, L3.wNil, L3.zmx, L3.zmy, L3.zv0, L3.vSeq, L3.vSet, L3.vVar, L3.vC, L3.vOp, L3.za2, L3.vUn, L3.vCB, L3.zbf, L3.aNil, L3.zac, L3.vTup, L3.vLst, L3.zd3, L3.vIf, L3.vIfS, L3.vAnd, L3.vOr, L3.vNot, L3.ztz, L3.vOrV, L3.zxz, L3.zeq, L3.ztS, L3.ztT, L3.ztU, L3.ztV, L3.ztW, L3.ztX, L3.ztY, L3.ztZ, L3.zt0, L3.vRet, L3.zcL, L3.zc4, L3.vBM, L3.vBM0, L3.vSl, L3.vSlF, L3.sNo, L3.sPt, L3.vFor, L3.iIt, L3.iR1, L3.iR2, L3.zaw, L3.zcM, L3.vFrz, L3.zc5, L3.zt1, L3.zt2, L3.zt3, L3.zt4, L3.zt5, L3.zwc, L3.zwd, L3.zwe, L3.zwf, L3.zt6, L3.zt7, L3.zt8, L3.zt9, L3.zua, L3.zub, L3.zuc, L3.zrx, L3.zry, L3.zrz, L3.zrA, L3.zrB, L3.zrC, L3.zrD, L3.zud, L3.zwg, L3.zv9, L3.zwa, L3.zwb, zlo, zka, zmB, zmC, zlp, zmD, zov, zow, zmE, zlq, zmF, zlr, zmG, zkb, zls, zmH, zmI, zkc, zlt, zlu, zkd, zlv, zmJ, zmK, zlw, zmL, zlx, zox, zoy, zmM, ztR, L3.zwh, L3.zwi, L3.zue, L3.zwj, L3.zwk, L3.zwl, L3.zwm, L3.zwn, L3.zwo, L3.zwp, L3.zwq, L3.zuf, L3.zug, L3.zuh, L3.zui, L3.zuj, L3.zuk, L3.zrE, L3.zrF, L3.zrG, L3.zrH, L3.zrI, L3.zpK, L3.zpL, L3.zpM, L3.zpN, L3.zpO, L3.zpP, L3.zpQ, L3.zpR, L3.zul, L3.zum, L3.zun, L3.zuo, L3.zwr, L3.zws, L3.zwt, L3.zwu, L3.zup, L3.zuq, L3.zur, L3.zus, L3.zwv, L3.zww, L3.zwx, L3.zwy, L3.zwz, L3.zwA, L3.zwB, L3.zut, L3.zuu, L3.zuv, L3.zuw, L3.zrJ, L3.zrK, L3.zrL, L3.zrM, L3.zax, L3.zrr, atI0, atI1, atI2, List.map_cons, List.map_nil, Option.bind_some, Option.bind_none, Option.join_some, List.getElem?_cons_zero, List.getElem?_cons_succ, List.set_cons_zero, List.set_cons_succ, Option.some.injEq, exists_eq_left', exists_eq_left, W.bl.injEq, W.int.injEq, W.str.injEq, Bool.false_eq_true, if_true, if_false, ↓reduceIte, true_and, and_true, sizeLine, zad, zd2, MO.lst.injEq, MO.dK.injEq, MO.dT.injEq, exists_eq', exists_eq, true_or, or_true, false_and, and_false, or_false, false_or, reduceCtorEq, String.reduceEq, exists_false, zxM, decide_eq_true_eq, Bool.not_eq_true', Bool.not_true, Bool.not_false, Classical.not_not, decide_eq_false_iff_not, Int.reduceLT, Int.reduceLE, Nat.reduceLT, Nat.reduceLeDiff, Nat.reducePow, List.length_cons, List.length_nil, Nat.reduceAdd, Nat.zero_add, Nat.zero_le, $xs,*] $[$l:location]?)
namespace Rg
open PySem PySem.Spec PyProof.Rows L2 L3
def zcT(C:Cc):Sp3:=fun ws M R=>∃ M0 a dx,ws=[.ref a]∧M=put M0 a (.ins C.q dx [])∧M0 a=none∧∀ M' (A:Aq),A.o=a→QR C M0 M' A []→R .non M'
def zbJ(C:Cc):Sp3:=fun ws M R=>∃ M0 A q,ws=[.ref A.o]∧QR C M0 M A q∧R (.bl (decide (q=[]))) M
def zbA(C:Cc):Sp3:=fun ws M R=>∃ (A:Aq) (cs:List Cost) (c:Cost),ws=[.ref A.o,cW c]∧M A.o=some (.ins C.q A.d (qf A))∧M A.c=some (.lst (cs.map cW))∧cs.Pairwise (fun a b=>ltc b a=true)∧cs.length < 10000000∧R (.int (pos c cs:Nat)) M
def zcv(C:Cc):Sp3:=fun ws M R=>∃ M0 A q c x,ws=[.ref A.o,cW c,itW x]∧QR C M0 M A q∧(els (qput c x q)).length < 10000000∧∀ M',QR C M0 M' A (qput c x q)→R .non M'
def zcU(C:Cc):Sp3:=fun ws M R=>∃ M0 A q c x q',ws=[.ref A.o]∧QR C M0 M A q∧zf7 q=some (c,x,q')∧∀ M',QR C M0 M' A q'→R (.tup [cW c,itW x]) M'
abbrev ze3:List Str:=["self"]
def zbZ(C:Cc):TS3:=
   (vSeq (zgc C.q (vVar 0) "costs" (vLst aNil))
   (zgc C.q (vVar 0) "waiting" zmy))
abbrev zdb:List Str:=["self"]
def zbg(C:Cc):TS3:=
   (vRet (vOp (rEq false) (vCB rLen (zac (vFld C.q (vVar 0) "costs") aNil)) (vC (.int 0))))
abbrev zgd:List Str:=["self","cost","thing"]
def zcw(C:Cc):TS3:=
   (vSeq (vIfS (za2 (vOp (rIn true) (vVar 1) (vFld C.q (vVar 0) "waiting")))
    (vSeq (vAsg (vLst aNil) (wSub (vFld C.q (vVar 0) "waiting") (vVar 1)))
   (zcL (vBM "list" rIns (vFld C.q (vVar 0) "costs") (zac (zcu C.q "place_of" (zbA C) (vVar 0) (zac (vVar 1) aNil)) (zac (vVar 1) aNil)))))
    zc4)
   (zcL (vBM "list" rApp (vOp rIx (vFld C.q (vVar 0) "waiting") (vVar 1)) (zac (vVar 2) aNil))))
abbrev zcO:List Str:=["self","cost","low","high","middle"]
def zdc(C:Cc):TS3:=
   (vSet 2 (vC (.int 0)))
def zdd(C:Cc):TS3:=
   (vSet 3 (vCB rLen (zac (vFld C.q (vVar 0) "costs") aNil)))
def zcS(C:Cc):TS3:=
   (vSeq (vSet 4 (vOp ztA (vOp zci (vVar 2) (vVar 3)) (vC (.int 2))))
   (vIfS (za2 (vOp rGtT (vOp rIx (vFld C.q (vVar 0) "costs") (vVar 4)) (vVar 1)))
    (vSet 2 (vOp zci (vVar 4) (vC (.int 1))))
    (vSet 3 (vVar 4))))
def zde(C:Cc):TS3:=
   (zgy (za2 (vOp rLt (vVar 2) (vVar 3))) (zcS C))
def zdf(C:Cc):TS3:=
   (vRet (vVar 2))
def za4(C:Cc):TS3:=(vSeq (zdc C) (vSeq (zdd C) (vSeq (zde C) (zdf C))))
abbrev ze4:List Str:=["self","cost","things","thing"]
def ze5(C:Cc):TS3:=
   (vSet 1 (vOp rIx (vFld C.q (vVar 0) "costs") (vUn rNeg (vC (.int 1)))))
def ze6(C:Cc):TS3:=
   (vSet 2 (vOp rIx (vFld C.q (vVar 0) "waiting") (vVar 1)))
def ze7(C:Cc):TS3:=
   (vSet 3 (vBM0 "list" rPop (vVar 2)))
def ze8(C:Cc):TS3:=
   (vIfS (za2 (vOp (rEq false) (vCB rLen (zac (vVar 2) aNil)) (vC (.int 0))))
    (vSeq (zcL (vBM0 "list" rPop (vFld C.q (vVar 0) "costs")))
   (zcL (vBM "dict" zwM (vFld C.q (vVar 0) "waiting") (zac (vVar 1) aNil))))
    zc4)
def zdg(C:Cc):TS3:=
   (vRet (vTup (zac (vVar 1) (zac (vVar 3) aNil))))
def zb0(C:Cc):TS3:=(vSeq (ze5 C) (vSeq (ze6 C) (vSeq (ze7 C) (vSeq (ze8 C) (zdg C)))))
theorem zje{C:Cc}:∀ ws M R,zcT C ws M R→ws.length=1:=by rintro ws M R ⟨_,_,_,rfl,_⟩;rfl
theorem zhi{C:Cc}:∀ ws M R,zbJ C ws M R→ws.length=1:=by rintro ws M R ⟨_,_,_,rfl,_⟩;rfl
theorem zgJ{C:Cc}:∀ ws M R,zbA C ws M R→ws.length=2:=by rintro ws M R ⟨_,_,_,rfl,_⟩;rfl
theorem zkm{C:Cc}:∀ ws M R,zcv C ws M R→ws.length=3:=by rintro ws M R ⟨_,_,_,_,_,rfl,_⟩;rfl
theorem zjf{C:Cc}:∀ ws M R,zcU C ws M R→ws.length=1:=by rintro ws M R ⟨_,_,_,_,_,_,rfl,_⟩;rfl
theorem zgK{C:Cc}{ws:List W}{M:Mm}{R:K3}(h:zbJ C ws M R):zbg C (zax R) (zaP zdb ws) M:=by
 obtain⟨M0,A,q,rfl,hq,r⟩:=h
 show zbg C (zax R) [some (.ref A.o)] M
 simp? only[zbg,L3.vFld]
 refine⟨A.o,A.d,qf A,_,rfl,hq.ob,zfE,?_⟩
 simp? only[]
 refine .inl ⟨_,hq.co,M,Sub.refl _,?_⟩
 have e:decide (((List.map cW (q.map fun x=>x.1)).length:Int)=0)=decide (q=[]):=by
  cases q <;> simp
  omega
 rw[e];exact r
theorem ziH{C:Cc}{ws:List W}{M:Mm}{R:K3}(h:zcT C ws M R):zbZ C (zax R) (zaP ze3 ws) M:=by
 obtain⟨M0,a,dx,rfl,rfl,ha,r⟩:=h
 show zbZ C (zax R) [some (.ref a)] (put M0 a (.ins C.q dx []))
 simp? only[zbZ,L3.zgc]
 intro p hp
 have hpa:p≠a:=fun e=>by rw[e,zad] at hp;cases hp
 have hp0:M0 p=none:=by rw[zaf hpa] at hp;exact hp
 refine⟨a,dx,[],rfl,by rw[zaf (Ne.symm hpa),zad],by decide,?_⟩
 intro w hw
 have hwa:w≠a:=fun e=>by rw[e,zad] at hw;cases hw
 have hwp:w≠p:=fun e=>by rw[e,zaf hpa,zad] at hw;cases hw
 have hw0:M0 w=none:=by rw[zaf hwa,zaf hwp,zaf hwa] at hw;exact hw
 refine⟨a,dx,putG "costs" (.ref p) [],rfl,by rw[zaf (Ne.symm hwa),zad],(show(1:Nat) < 1000 by decide),_,Sub.refl _,r _ ⟨a,dx,p,w⟩ rfl ⟨trivial,put (put M0 p (.lst [])) a (.ins C.q dx (qf ⟨a,dx,p,w⟩)),[],⟨zbq (zbq (Sub.refl _) hp0) ha,ha,hp0,Ne.symm hpa,zad,by rw[zaf hpa,zad];rfl⟩,?_,Nat.le_refl _⟩⟩
 have e:put (put (put (put (put M0 a (.ins C.q dx [])) p (.lst [])) a (.ins C.q dx (putG "costs" (.ref p) []))) w (.dT [])) a (.ins C.q dx (putG "waiting" (.ref w) (putG "costs" (.ref p) [])))=put (put (put M0 p (.lst [])) a (.ins C.q dx (qf ⟨a,dx,p,w⟩))) w (.dT []):=by
  have eq:putG "waiting" (.ref w) (putG "costs" (.ref p) [])=qf ⟨a,dx,p,w⟩:=by
   show(if (("costs" : Str)=("waiting" : Str)) then _ else _)=_
   rw[if_neg (by decide +kernel)];rfl
  rw[eq]
  funext b
  unfold put
  by_cases h1:b=a <;> by_cases h2:b=w <;> by_cases h3:b=p <;> simp_all
 rw[e]
 exact⟨zbq (Sub.refl _) (by rw[zaf hwa,zaf hwp];exact hw0),by rw[zaf hwa,zaf hwp];exact hw0,zad,(fun _ _=>rfl),(fun k ws e=>nomatch e),(fun k j p e=>nomatch e)⟩
theorem zge{C:Cc}{ws:List W}{M:Mm}{R:K3}(h:zbA C ws M R):za4 C (zax R) (zaP zcO ws) M:=by
 obtain⟨A,cs,c,rfl,ho,hc,pw,hl,r⟩:=h
 show za4 C (zax R) [some (.ref A.o),some (cW c),none,none,none] M
 simp? only[za4,zdc,zdd,L3.vFld]
 refine⟨A.o,A.d,qf A,_,rfl,ho,zfE,?_⟩
 simp? only[]
 refine .inl ⟨_,hc,?_⟩
 unfold zde L3.zgy
 refine⟨fun m τ M'=>∃ lo hi:Nat,∃ o,τ=[some (.ref A.o),some (cW c),some (.int lo),some (.int hi),o]∧M'=M∧lo≤hi∧hi≤cs.length∧(∀ i d,i < lo→cs[i]? = some d→ltc c d=true)∧(∀ i d,hi≤i→cs[i]? = some d→ltc c d=false)∧m=hi - lo,⟨_,0,cs.length,none,by rw[List.length_map];rfl,rfl,Nat.zero_le _,Nat.le_refl _,(fun i d hi=>absurd hi (Nat.not_lt_zero _)),(fun i d hi e=>by rw[List.getElem?_eq_none hi] at e;cases e),rfl⟩,?_⟩
 rintro m τ M' ⟨lo,hi,o,rfl,rfl,h1,h2,h3,h4,rfl⟩
 simp? only[]
 by_cases hlt:lo < hi
 ·rw[if_pos (by simpa using hlt)]
  simp? only[zcS,L3.vFld]
  obtain⟨mid,hm⟩:∃ mid,mid=(lo + hi) / 2:=⟨_,rfl⟩
  have em:((lo:Int) + (hi:Int)) / 2=(mid:Nat):=by omega
  rw[em]
  obtain⟨d,hd⟩:∃ d,cs[mid]? = some d:=⟨_,List.getElem?_eq_getElem (by omega)⟩
  refine⟨A.o,A.d,qf A,_,rfl,ho,zfE,.inl ⟨_,cW d,hc,zg9 (by rw[List.getElem?_map,hd];rfl),d.1,d.2,c.1,c.2,rfl,rfl,_,rfl,?_⟩⟩
  have pg:∀ i j a b,i < j→cs[i]? = some a→cs[j]? = some b→ltc b a=true:=fun i j a b hij hi' hj'=>by
   obtain⟨q1,e1⟩:=List.getElem?_eq_some_iff.mp hi'
   obtain⟨q2,e2⟩:=List.getElem?_eq_some_iff.mp hj'
   rw[←e1,←e2]
   exact List.pairwise_iff_getElem.mp pw i j q1 q2 hij
  show if ltc c d=true then _ else _
  by_cases hcd:ltc c d=true
  ·rw[if_pos hcd]
   refine⟨_,_,?_,Sub.refl _,mid + 1,hi,_,rfl,rfl,by omega,h2,fun i e hi' he=>?_,h4,rfl⟩
   ·omega
   ·by_cases hi2:i < mid
    ·exact zpT hcd (Le.of_lt (pg i mid e d hi2 he hd))
    ·have:i=mid:=by omega
     rw[this,hd] at he;cases he;exact hcd
  ·rw[if_neg hcd]
   refine⟨_,_,?_,Sub.refl _,lo,mid,_,rfl,rfl,by omega,by omega,h3,fun i e hi' he=>?_,rfl⟩
   ·omega
   ·by_cases hi2:mid < i
    ·have h5:=pg mid i d e hi2 hd he
     cases h6:ltc c e with
     | false=>rfl
     | true=>exact absurd (zpT h6 (Le.of_lt h5)) hcd
    ·have:i=mid:=by omega
     rw[this,hd] at he;cases he
     simpa using hcd
 ·rw[if_neg (by simpa using hlt)]
  simp? only[zdf]
  have:lo=hi:=by omega
  subst this
  refine⟨_,Sub.refl _,?_⟩
  rw[←zsO (c:=c) (cs:=cs) (k:=lo) h2 h3 h4];exact r
theorem ixT{M:Mm}{a:Addr}{kvs:List (List Key×W)}{k:List Key}{w:W}{R:K3}(h:M a=some (.dT kvs))(hl:zam kvs k=some w)(r:R w M):L3.rIx (.ref a) (.tup (k.map wK)) M R:=⟨w,.inr ⟨kvs,k,h,rfl,hl.symm⟩,r⟩
theorem tyL{M:Mm}{a:Addr}{ws:List W}(h:M a=some (.lst ws)):tyW "list" (.ref a) M:=.inl ⟨rfl,_,h⟩
theorem tyD{M:Mm}{a:Addr}{kvs:List (List Key×W)}(h:M a=some (.dT kvs)):tyW "dict" (.ref a) M:=.inr ⟨rfl,.inr ⟨_,h⟩⟩
theorem zjg{C:Cc}{ws:List W}{M:Mm}{R:K3}(h:zcv C ws M R):zcw C (zax R) (zaP zgd ws) M:=by
 obtain⟨M0,A,q,c,x,rfl,hq,hl,r⟩:=h
 have hle:=zd7 c x q
 have hf:=hq.fall
 have hql:=zr2 hf
 have hil:=zsN (q:=q) (c:=c)
 have hfp:=zkf c x hf
 obtain⟨M1,kvs,m1,t1,l1⟩:=hq.ex
 show zcw C (zax R) [some (.ref A.o),some (cW c),some (itW x)] M
 simp? only[zcw,L3.vFld]
 refine⟨A.o,A.d,qf A,_,rfl,hq.ob,zhh,.inr ⟨_,.inr ⟨kvs,cK c,t1.at_,zqb c,rfl⟩,_,rfl,?_⟩⟩
 rw[t1.look c]
 have wgp:∀ j,wG (qput c x q) j=if c=j then some (((aget q c).getD []).map itW ++ [itW x]) else wG q j:=fun j=>by
  show(aget (qput c x q) j).map _=_
  rw[zlL c x j hf]
  by_cases hj:c=j
  ·rw[if_pos hj,if_pos hj,Option.map_some,List.map_append];rfl
  ·rw[if_neg hj,if_neg hj]
 cases hg:aget q c with
 | some xs=>
  have hgw:wG q c=some (xs.map itW):=by show(aget q c).map _=_;rw[hg];rfl
  rw[hgw]
  rw[hg] at hil wgp
  have hil:xs.length≤(els q).length:=hil
  simp? only[]
  rw[if_neg (by simp)]
  obtain⟨p,hp1,hp2⟩:=t1.has hgw
  have hold:=znP c x hf (by rw[hg];rfl)
  refine⟨A.o,A.d,qf A,_,rfl,hq.ob,zhh,ixT t1.at_ hp1 ⟨tyL hp2,_,hp2,zbE (by rw[List.length_map];omega),_,Sub.refl _,r _ ⟨hfp,M1,kvs,?_,(t1.wr hp1).same wgp,?_⟩⟩⟩
  ·rw[hold];exact m1
  ·have:=congrArg List.length hold
   rw[List.length_map,List.length_map] at this
   rw[this];exact l1
 | none=>
  have hgw:wG q c=none:=by show(aget q c).map _=_;rw[hg];rfl
  rw[hgw]
  rw[hg] at wgp
  simp? only[]
  rw[if_pos (by decide)]
  intro p hp
  have t2:=t1.add zsL (ws:=[]) hgw hp
  have hpo:A.o≠p:=fun e=>by rw[←e,hq.ob] at hp;cases hp
  have hll:((q.map (·.1)).map cW).length=q.length:=by rw[List.length_map,List.length_map]
  have hpl:=zsM c (q.map (·.1))
  rw[List.length_map] at hpl
  refine⟨A.o,A.d,qf A,_,rfl,by rw[zaf hpo];exact hq.ob,zhh,?_⟩
  rw[zqb]
  refine setT (kvs:=kvs) (by rw[zaf (fun e=>by rw[←e,t1.at_] at hp;cases hp)];exact t1.at_) (zbE (by omega)) ?_
  rw[←zqb]
  refine⟨A.o,A.d,qf A,_,rfl,t2.sub _ _ m1.ob,zfE,tyL (t2.sub _ _ m1.co),?_⟩
  simp? only[L3.zcu]
  have t3:=t2.lift (p:=A.c) (o:=.lst ((((q.map (·.1)).take (pos c (q.map (·.1))) ++ c :: (q.map (·.1)).drop (pos c (q.map (·.1)))).map cW))) (.inr ⟨_,m1.co⟩)
  have m3:=m1.costs (cs':=(q.map (·.1)).take (pos c (q.map (·.1))) ++ c :: (q.map (·.1)).drop (pos c (q.map (·.1))))
  refine⟨A.o,A.d,qf A,rfl,t2.sub _ _ m1.ob,zr3,A,q.map (·.1),c,rfl,t2.sub _ _ m1.ob,t2.sub _ _ m1.co,zqc hf,by rw[List.length_map];omega,_,t2.sub _ _ m1.co,zbE (by rw[hll];omega),by omega,by rw[hll];omega,?_⟩
  have ew:((q.map (·.1)).map cW).take (Int.toNat (pos c (q.map (·.1)):Nat)) ++ cW c :: ((q.map (·.1)).map cW).drop (Int.toNat (pos c (q.map (·.1)):Nat))=(((q.map (·.1)).take (pos c (q.map (·.1))) ++ c :: (q.map (·.1)).drop (pos c (q.map (·.1)))).map cW):=by
   rw[Int.toNat_natCast,List.map_append,List.map_cons,List.map_take,List.map_drop]
  rw[ew]
  obtain⟨p',hp1,hp2⟩:=t3.has (k:=c) (ws:=[]) (by rw[if_pos rfl])
  refine⟨A.o,A.d,qf A,_,rfl,t3.sub _ _ m3.ob,zhh,ixT t3.at_ hp1 ⟨tyL hp2,_,hp2,zbE (by simp),_,Sub.refl _,r _ ⟨hfp,_,_,?_,(t3.wr hp1).same (fun j=>?_),?_⟩⟩⟩
  ·rw[zhg c x hf (by rw[hg];rfl)];exact m3
  ·rw[wgp j]
   by_cases hj:c=j
   ·rw[if_pos hj,if_pos hj];rfl
   ·rw[if_neg hj,if_neg hj,if_neg hj]
  ·have h1:=congrArg List.length (zhg c x hf (by rw[hg];rfl))
   have h2:=zkl kvs (cK c) (W.ref p)
   rw[List.length_map,List.length_append,List.length_cons,List.length_take,List.length_drop,List.length_map] at h1
   omega
theorem ziI{C:Cc}{ws:List W}{M:Mm}{R:K3}(h:zcU C ws M R):zb0 C (zax R) (zaP ze4 ws) M:=by
 obtain⟨M0,A,q,c,x,q',rfl,hq,ht,r⟩:=h
 have hf:=hq.fall
 have ⟨_,_,_,e0,hf',_,_,_,_⟩:=zck hf (fun e=>by rw[e] at ht;cases ht)
 rw[ht] at e0
 cases e0
 obtain⟨M1,kvs,m1,t1,l1⟩:=hq.ex
 obtain⟨r0,ys,e1,e2⟩:=zjG hf ht
 show zb0 C (zax R) [some (.ref A.o),none,none,none] M
 simp? only[zb0,ze5,ze6,ze7,ze8,L3.vFld]
 have hnl:∀ e∈r0,e.1≠c:=by rw[e1] at hf;exact zlM hf
 have hgw:wG q c=some (ys.map itW ++ [itW x]):=by
  show(aget q c).map _=_
  rw[e1,zgI hnl,if_pos rfl,Option.map_some,List.map_append];rfl
 obtain⟨p,hp1,hp2⟩:=t1.has hgw
 have hc:M A.c=some (.lst (((r0.map (·.1)).map cW) ++ [cW c])):=by rw[hq.co,e1];simp
 refine⟨A.o,A.d,qf A,_,rfl,hq.ob,zfE,.inl ⟨_,_,hc,znn _ _,A.o,A.d,qf A,_,rfl,hq.ob,zhh,ixT t1.at_ hp1 ⟨tyL hp2,⟨_,_,hp2,.inl ⟨_,zad,?_⟩⟩⟩⟩⟩
 have t2:=t1.wr (ws:=ys.map itW) hp1
 simp? only[]
 cases ys with
 | nil=>
  rw[if_pos (by simp)]
  have hm1:M1 A.c=some (.lst (((r0.map (·.1)).map cW) ++ [cW c])):=by rw[m1.co,e1];simp
  have m2:=m1.costs (cs':=r0.map (·.1))
  have t3:=t2.lift (p:=A.c) (o:=.lst ((r0.map (·.1)).map cW)) (.inr ⟨_,hm1⟩)
  have t4:=t3.del (k:=c) zsL
  refine⟨A.o,A.d,qf A,_,rfl,t2.sub _ _ m1.ob,zfE,tyL (t2.sub _ _ hm1),_,_,t2.sub _ _ hm1,A.o,A.d,qf A,_,rfl,t3.sub _ _ m2.ob,zhh,tyD t3.at_,_,cK c,_,t3.at_,rfl,hp1,?_⟩
  simp? only[zdg]
  refine⟨_,Sub.refl _,r _ ⟨hf',_,_,?_,t4.same (fun j=>?_),?_⟩⟩
  ·rw[e2];exact m2
  ·show(aget q' j).map _=_
   rw[e2,if_pos (by rfl:([]:List (Nat×List Int)).isEmpty=true)]
   by_cases hj:c=j
   ·subst hj;rw[if_pos rfl,ze2 hnl];rfl
   ·rw[if_neg hj,if_neg hj]
    show _=(aget q j).map _
    rw[e1,zgI hnl,if_neg hj]
  ·have h1:=zlK (kvs:=kvs) (k:=cK c) (by rw[hp1];rfl)
   rw[e1,List.length_append,List.length_singleton] at l1
   rw[e2,if_pos (by rfl:([]:List (Nat×List Int)).isEmpty=true)];omega
 | cons y ys=>
  rw[if_neg (by simp;omega)]
  simp? only[zdg]
  refine⟨_,Sub.refl _,r _ ⟨hf',_,_,?_,t2.same (fun j=>?_),?_⟩⟩
  ·rw[e2,if_neg (by simp)];rw[e1] at m1;simpa using m1
  ·show(aget q' j).map _=_
   rw[e2,if_neg (by simp),zgI hnl]
   by_cases hj:c=j
   ·rw[if_pos hj,if_pos hj];rfl
   ·rw[if_neg hj,if_neg hj]
    show _=(aget q j).map _
    rw[e1,zgI hnl,if_neg hj]
  ·rw[e1] at l1;rw[e2,if_neg (by simp)];simpa using l1
end Rg
namespace Rg
open PySem PySem.Spec PyProof.Rows L2 L3
def zdv:Sp3:=fun ws M R=>∃ rs:List Rule,ws=[.rl (rs.map zav)]∧rs.length≤100∧New ((zak rs).map W.str) M R
abbrev zmX:List Str:=["grammar","found","rule"]
def zjH:TS3:=
   (vSet 1 zmx)
def ziJ:TS3:=
   (vAsg (vC (.bl true)) (wSub (vVar 1) (vOp rIx (vVar 2) (vC (.int 0)))))
def zjI:TS3:=
   (vFor (iIt rItN (vVar 0)) (zaw 2) ziJ)
def zjJ:TS3:=
   (vRet (vCB zmw (zac (vVar 1) aNil)))
def zgL:TS3:=(vSeq zjH (vSeq zjI zjJ))
end Rg
namespace Rg
open PySem PySem.Spec PyProof.Rows L2 L3
theorem zqd:∀ ws M R,zdv ws M R→ws.length=1:=by rintro ws M R ⟨_,rfl,_⟩;rfl
def nkw(t:Str):Key×W:=(Sum.inr t,.bl true)
theorem zhj(acc:List Str)(t:Str):putW (acc.map nkw) (Sum.inr t:Key) (.bl true)=(addN acc t).map nkw:=by
 unfold putW addN
 have e:((acc.map nkw).any fun kv=>decide (kv.1=Sum.inr t))=decide (t∈acc):=by
  rw[List.any_map,Bool.eq_iff_iff]
  simp[nkw,Function.comp]
 rw[e]
 by_cases h:t∈acc
 ·rw[if_pos (decide_eq_true h),if_pos h,List.map_map]
  refine List.map_congr_left fun u hu=>?_
  simp[nkw,Function.comp]
 ·rw[if_neg (by simpa using h),if_neg h,List.map_append];rfl
theorem zoG{ws:List W}{M:Mm}{R:K3}(h:zdv ws M R):zgL (zax R) (zaP zmX ws) M:=by
 obtain⟨rs,rfl,hl,r⟩:=h
 show zgL (zax R) [some (.rl (rs.map zav)),none,none] M
 simp? only[zgL,zjH,zjI]
 intro p hp
 refine for3 (fun i τ M'=>∃ o,τ=[some (.rl (rs.map zav)),some (.ref p),o]∧M'=put M p (.dK ((zak (rs.take i)).map nkw))) ⟨_,rfl,rfl⟩ (fun _ _ _ _ _=>trivial) ?_ ?_
 ·rintro i w τ M' hw ⟨o,rfl,rfl⟩
  rw[List.getElem?_map] at hw
  obtain⟨q,hq,rfl⟩:=Option.map_eq_some_iff.mp hw
  have hi:i < rs.length:=(List.getElem?_eq_some_iff.mp hq).1
  simp? only[ziJ,zav]
  have e:zak (rs.take (i + 1))=addN (zak (rs.take i)) q.name:=by
   rw[List.take_add_one,hq]
   unfold zak zc7
   simp
  have hlen:(zak (rs.take i)).length≤i:=by
   have:=zd6 ((rs.take i).map Rule.name) []
   unfold zak zc7
   simp at this
   simp;omega
  refine zfB zad (by rw[List.length_map];exact zbE (by omega)) ⟨_,Sub.refl _,_,rfl,?_⟩
  rw[zd2,zhj,e]
 ·rintro τ M' ⟨o,rfl,rfl⟩
  rw[List.length_map,List.take_length]
  simp? only[zjJ]
  intro q hq
  have hpq:q≠p:=fun e=>by subst e;rw[zad] at hq;cases hq
  rw[zaf hpq] at hq
  refine⟨_,?_,r q hq⟩
  rw[List.map_map]
  exact Sub.put (Sub.new hp)
theorem zkn{t:Str}{ts:List Str}:inW (.str t) (ts.map W.str)=decide (t∈ts):=by
 unfold inW
 rw[List.any_map,Bool.eq_iff_iff]
 simp[Function.comp,eqW]
theorem zdT(ts:List Str):(ts.map W.str).all zby=true:=by
 rw[List.all_map,List.all_eq_true];intro t _;rfl
end Rg
namespace Rg
open PySem PySem.Spec PyProof.Rows L2 L3
def eK(k:Str×Int):List Key:=[Sum.inr k.1,Sum.inl k.2]
def endW(z:Int×Cost):W:=.tup [.int z.1,cW z.2]
def begW(y:It3):W:=.tup [.int y.1,zdK y.2.1,cW y.2.2]
def k4K(k:K4):List Key:=[Sum.inl k.1,Sum.inl k.2.1,Sum.inl k.2.2.1,Sum.inl k.2.2.2]
def fK(f:Fact):List Key:=[Sum.inr f.1,Sum.inl f.2.1,Sum.inl f.2.2]
def zgM(e:Cost×Nat×List Int):W:=.tup [cW e.1,.int e.2.1,zdK e.2.2]
theorem zsP:∀ a b:Str×Int,eK a=eK b→a=b:=fun a b h=>by
 unfold eK at h
 simp only[List.cons.injEq,Sum.inl.injEq,Sum.inr.injEq,and_true] at h
 exact Prod.ext h.1 h.2
theorem zko:∀ a b:K4,k4K a=k4K b→a=b:=fun a b h=>by
 unfold k4K at h
 simp only[List.cons.injEq,Sum.inl.injEq,and_true,Int.natCast_inj] at h
 obtain⟨a1,a2,a3,a4⟩:=a
 obtain⟨b1,b2,b3,b4⟩:=b
 simp only at h
 obtain⟨h1,h2,h3,h4⟩:=h
 rw[h1,h2,h3,h4]
theorem znQ:∀ a b:Fact,fK a=fK b→a=b:=fun a b h=>by
 unfold fK at h
 simp only[List.cons.injEq,Sum.inl.injEq,Sum.inr.injEq,and_true] at h
 obtain⟨a1,a2,a3⟩:=a
 obtain⟨b1,b2,b3⟩:=b
 simp only at h
 obtain⟨h1,h2,h3⟩:=h
 rw[h1,h2,h3]
section
variable {κ β:Type}[DecidableEq κ]{kk:κ→List Key}{f:β→W}
abbrev tabW(kk:κ→List Key)(f:β→W)(t:List (κ×β)):List (List Key×W):=t.map fun e=>(kk e.1,f e.2)
theorem zfF(hkk:∀ a b,kk a=kk b→a=b)(t:List (κ×β))(k:κ):zam (tabW kk f t) (kk k)=(aget t k).map f:=by
 induction t with
 | nil=>rfl
 | cons e t ih=>
  show zam ((kk e.1,f e.2) :: tabW kk f t) (kk k)=_
  rw[zbz,zai,ih]
  by_cases h:e.1=k
  ·rw[if_pos (by rw[h]),if_pos h];rfl
  ·rw[if_neg (fun z=>h (hkk _ _ z)),if_neg h]
theorem zqe(hkk:∀ a b,kk a=kk b→a=b)(t:List (κ×β))(k:κ)(v:β):putW (tabW kk f t) (kk k) (f v)=tabW kk f (aput t k v):=by
 unfold putW aput
 rw[show((tabW kk f t).any fun kv=>decide (kv.1=kk k))=(zam (tabW kk f t) (kk k)).isSome from zcj _ _,zfF hkk,zcj]
 cases aget t k with
 | none=>simp
 | some w=>
  simp only[Option.map_some,Option.isSome_some,if_true,List.map_map]
  apply List.map_congr_left
  intro e _
  simp only[Function.comp]
  by_cases h:e.1=k
  ·rw[if_pos (by rw[h]),if_pos h]
  ·rw[if_neg (fun z=>h (hkk _ _ z)),if_neg h]
end
structure Env where
 rs:List Rule
 own:List (Key×W)
 stp:List (List Key×W)
structure Ad where
 s:Addr
 d:Addr
 Q:Aq
 r:Addr
 b:Addr
 e:Addr
 g:Addr
def sf(E:Env)(A:Ad):List (Str×W):=[("grammar",(rlW E.rs)),("own",(.dk E.own)),("steps",(.dt E.stp)),("queue",(.ref A.Q.o)),("reached",(.ref A.r)),("best",(.ref A.b)),("ends",(.ref A.e)),("begun",(.ref A.g))]
theorem zjK{E:Env}{A:Ad}:List.lookup ("grammar" : Str) (sf E A)=some (rlW E.rs):=by
 unfold sf
 rw[List.lookup_cons,show(("grammar" : Str) == ("grammar" : Str))=true by decide +kernel]
theorem zwS{E:Env}{A:Ad}:List.lookup ("own" : Str) (sf E A)=some (W.dk E.own):=by
 unfold sf
 rw[List.lookup_cons,show(("own" : Str) == ("grammar" : Str))=false by decide +kernel]
 rw[List.lookup_cons,show(("own" : Str) == ("own" : Str))=true by decide +kernel]
theorem zr4{E:Env}{A:Ad}:List.lookup ("steps" : Str) (sf E A)=some (W.dt E.stp):=by
 unfold sf
 rw[List.lookup_cons,show(("steps" : Str) == ("grammar" : Str))=false by decide +kernel]
 rw[List.lookup_cons,show(("steps" : Str) == ("own" : Str))=false by decide +kernel]
 rw[List.lookup_cons,show(("steps" : Str) == ("steps" : Str))=true by decide +kernel]
theorem zkp{E:Env}{A:Ad}:List.lookup ("queue" : Str) (sf E A)=some (W.ref A.Q.o):=by
 unfold sf
 rw[List.lookup_cons,show(("queue" : Str) == ("grammar" : Str))=false by decide +kernel]
 rw[List.lookup_cons,show(("queue" : Str) == ("own" : Str))=false by decide +kernel]
 rw[List.lookup_cons,show(("queue" : Str) == ("steps" : Str))=false by decide +kernel]
 rw[List.lookup_cons,show(("queue" : Str) == ("queue" : Str))=true by decide +kernel]
theorem zfG{E:Env}{A:Ad}:List.lookup ("reached" : Str) (sf E A)=some (W.ref A.r):=by
 unfold sf
 rw[List.lookup_cons,show(("reached" : Str) == ("grammar" : Str))=false by decide +kernel]
 rw[List.lookup_cons,show(("reached" : Str) == ("own" : Str))=false by decide +kernel]
 rw[List.lookup_cons,show(("reached" : Str) == ("steps" : Str))=false by decide +kernel]
 rw[List.lookup_cons,show(("reached" : Str) == ("queue" : Str))=false by decide +kernel]
 rw[List.lookup_cons,show(("reached" : Str) == ("reached" : Str))=true by decide +kernel]
theorem zmY{E:Env}{A:Ad}:List.lookup ("best" : Str) (sf E A)=some (W.ref A.b):=by
 unfold sf
 rw[List.lookup_cons,show(("best" : Str) == ("grammar" : Str))=false by decide +kernel]
 rw[List.lookup_cons,show(("best" : Str) == ("own" : Str))=false by decide +kernel]
 rw[List.lookup_cons,show(("best" : Str) == ("steps" : Str))=false by decide +kernel]
 rw[List.lookup_cons,show(("best" : Str) == ("queue" : Str))=false by decide +kernel]
 rw[List.lookup_cons,show(("best" : Str) == ("reached" : Str))=false by decide +kernel]
 rw[List.lookup_cons,show(("best" : Str) == ("best" : Str))=true by decide +kernel]
theorem zqf{E:Env}{A:Ad}:List.lookup ("ends" : Str) (sf E A)=some (W.ref A.e):=by
 unfold sf
 rw[List.lookup_cons,show(("ends" : Str) == ("grammar" : Str))=false by decide +kernel]
 rw[List.lookup_cons,show(("ends" : Str) == ("own" : Str))=false by decide +kernel]
 rw[List.lookup_cons,show(("ends" : Str) == ("steps" : Str))=false by decide +kernel]
 rw[List.lookup_cons,show(("ends" : Str) == ("queue" : Str))=false by decide +kernel]
 rw[List.lookup_cons,show(("ends" : Str) == ("reached" : Str))=false by decide +kernel]
 rw[List.lookup_cons,show(("ends" : Str) == ("best" : Str))=false by decide +kernel]
 rw[List.lookup_cons,show(("ends" : Str) == ("ends" : Str))=true by decide +kernel]
theorem znR{E:Env}{A:Ad}:List.lookup ("begun" : Str) (sf E A)=some (W.ref A.g):=by
 unfold sf
 rw[List.lookup_cons,show(("begun" : Str) == ("grammar" : Str))=false by decide +kernel]
 rw[List.lookup_cons,show(("begun" : Str) == ("own" : Str))=false by decide +kernel]
 rw[List.lookup_cons,show(("begun" : Str) == ("steps" : Str))=false by decide +kernel]
 rw[List.lookup_cons,show(("begun" : Str) == ("queue" : Str))=false by decide +kernel]
 rw[List.lookup_cons,show(("begun" : Str) == ("reached" : Str))=false by decide +kernel]
 rw[List.lookup_cons,show(("begun" : Str) == ("best" : Str))=false by decide +kernel]
 rw[List.lookup_cons,show(("begun" : Str) == ("ends" : Str))=false by decide +kernel]
 rw[List.lookup_cons,show(("begun" : Str) == ("begun" : Str))=true by decide +kernel]
theorem zic{E:Env}{A:Ad}:List.lookup ("reach" : Str) (sf E A)=none:=by
 unfold sf
 rw[List.lookup_cons,show(("reach" : Str) == ("grammar" : Str))=false by decide +kernel]
 rw[List.lookup_cons,show(("reach" : Str) == ("own" : Str))=false by decide +kernel]
 rw[List.lookup_cons,show(("reach" : Str) == ("steps" : Str))=false by decide +kernel]
 rw[List.lookup_cons,show(("reach" : Str) == ("queue" : Str))=false by decide +kernel]
 rw[List.lookup_cons,show(("reach" : Str) == ("reached" : Str))=false by decide +kernel]
 rw[List.lookup_cons,show(("reach" : Str) == ("best" : Str))=false by decide +kernel]
 rw[List.lookup_cons,show(("reach" : Str) == ("ends" : Str))=false by decide +kernel]
 rw[List.lookup_cons,show(("reach" : Str) == ("begun" : Str))=false by decide +kernel]
 rfl
theorem zlN{E:Env}{A:Ad}:List.lookup ("take_next" : Str) (sf E A)=none:=by
 unfold sf
 rw[List.lookup_cons,show(("take_next" : Str) == ("grammar" : Str))=false by decide +kernel]
 rw[List.lookup_cons,show(("take_next" : Str) == ("own" : Str))=false by decide +kernel]
 rw[List.lookup_cons,show(("take_next" : Str) == ("steps" : Str))=false by decide +kernel]
 rw[List.lookup_cons,show(("take_next" : Str) == ("queue" : Str))=false by decide +kernel]
 rw[List.lookup_cons,show(("take_next" : Str) == ("reached" : Str))=false by decide +kernel]
 rw[List.lookup_cons,show(("take_next" : Str) == ("best" : Str))=false by decide +kernel]
 rw[List.lookup_cons,show(("take_next" : Str) == ("ends" : Str))=false by decide +kernel]
 rw[List.lookup_cons,show(("take_next" : Str) == ("begun" : Str))=false by decide +kernel]
 rfl
theorem ziK{E:Env}{A:Ad}:List.lookup ("step_by_name" : Str) (sf E A)=none:=by
 unfold sf
 rw[List.lookup_cons,show(("step_by_name" : Str) == ("grammar" : Str))=false by decide +kernel]
 rw[List.lookup_cons,show(("step_by_name" : Str) == ("own" : Str))=false by decide +kernel]
 rw[List.lookup_cons,show(("step_by_name" : Str) == ("steps" : Str))=false by decide +kernel]
 rw[List.lookup_cons,show(("step_by_name" : Str) == ("queue" : Str))=false by decide +kernel]
 rw[List.lookup_cons,show(("step_by_name" : Str) == ("reached" : Str))=false by decide +kernel]
 rw[List.lookup_cons,show(("step_by_name" : Str) == ("best" : Str))=false by decide +kernel]
 rw[List.lookup_cons,show(("step_by_name" : Str) == ("ends" : Str))=false by decide +kernel]
 rw[List.lookup_cons,show(("step_by_name" : Str) == ("begun" : Str))=false by decide +kernel]
 rfl
theorem zqg{E:Env}{A:Ad}:List.lookup ("settle" : Str) (sf E A)=none:=by
 unfold sf
 rw[List.lookup_cons,show(("settle" : Str) == ("grammar" : Str))=false by decide +kernel]
 rw[List.lookup_cons,show(("settle" : Str) == ("own" : Str))=false by decide +kernel]
 rw[List.lookup_cons,show(("settle" : Str) == ("steps" : Str))=false by decide +kernel]
 rw[List.lookup_cons,show(("settle" : Str) == ("queue" : Str))=false by decide +kernel]
 rw[List.lookup_cons,show(("settle" : Str) == ("reached" : Str))=false by decide +kernel]
 rw[List.lookup_cons,show(("settle" : Str) == ("best" : Str))=false by decide +kernel]
 rw[List.lookup_cons,show(("settle" : Str) == ("ends" : Str))=false by decide +kernel]
 rw[List.lookup_cons,show(("settle" : Str) == ("begun" : Str))=false by decide +kernel]
 rfl
structure Mn(C:Cc)(E:Env)(M0 M:Mm)(A:Ad)(rc:List (K4×Cost))(bs:Best):Prop where
 sub:L3.Sub M0 M
 ns:M0 A.s=none
 nr:M0 A.r=none
 nb:M0 A.b=none
 sr:A.s≠A.r
 sb:A.s≠A.b
 rb:A.r≠A.b
 os:M A.s=some (.ins C.s A.d (sf E A))
 or:M A.r=some (.dT (tabW k4K cW rc))
 ob:M A.b=some (.dT (tabW fK zgM bs))
abbrev eG(t:List ((Str×Int)×List (Int×Cost))):Str×Int→Option (List W):=fun k=>(aget t k).map fun xs=>xs.map endW
abbrev gG(t:List ((Str×Int)×List It3)):Str×Int→Option (List W):=fun k=>(aget t k).map fun xs=>xs.map begW
def Kept(M:Mm):Option (Addr×List W)→Prop
 | none=>True
 | some x=>M x.1=some (.lst x.2)
structure SK(C:Cc)(E:Env)(M0 M:Mm)(A:Ad)(st:SS)(kp:Option (Addr×List W)):Prop where
 ex:∃ M1 M2 M3 e g,Mn C E M0 M1 A st.reached st.best∧Tab eK M1 M2 A.e e (eG st.ends)∧Tab eK M2 M3 A.g g (gG st.begun)∧QR C M3 M A.Q st.q∧e.length≤st.ends.length∧g.length≤st.begun.length∧Kept M3 kp
abbrev SR(C:Cc)(E:Env)(M0 M:Mm)(A:Ad)(st:SS):Prop:=SK C E M0 M A st none
section
variable {C:Cc}{E:Env}{M0 M:Mm}{A:Ad}{st:SS}{kp:Option (Addr×List W)}
theorem SK.os(h:SK C E M0 M A st kp):M A.s=some (.ins C.s A.d (sf E A)):=by
 obtain⟨M1,M2,M3,e,g,h1,h2,h3,h4,_⟩:=h.ex
 exact h4.sub _ _ (h3.sub _ _ (h2.sub _ _ h1.os))
theorem SK.or(h:SK C E M0 M A st kp):M A.r=some (.dT (tabW k4K cW st.reached)):=by
 obtain⟨M1,M2,M3,e,g,h1,h2,h3,h4,_⟩:=h.ex
 exact h4.sub _ _ (h3.sub _ _ (h2.sub _ _ h1.or))
theorem SK.ob(h:SK C E M0 M A st kp):M A.b=some (.dT (tabW fK zgM st.best)):=by
 obtain⟨M1,M2,M3,e,g,h1,h2,h3,h4,_⟩:=h.ex
 exact h4.sub _ _ (h3.sub _ _ (h2.sub _ _ h1.ob))
theorem SK.fall(h:SK C E M0 M A st kp):Fall st.q:=by
 obtain⟨M1,M2,M3,e,g,h1,h2,h3,h4,_⟩:=h.ex
 exact h4.fall
theorem SK.free(h:SK C E M0 M A st kp):SR C E M0 M A st:=by
 obtain⟨M1,M2,M3,e,g,h1,h2,h3,h4,h5,h6,_⟩:=h.ex
 exact⟨M1,M2,M3,e,g,h1,h2,h3,h4,h5,h6,trivial⟩
theorem SK.kept{p:Addr}{ws:List W}(h:SK C E M0 M A st (some (p,ws))):M p=some (.lst ws):=by
 obtain⟨M1,M2,M3,e,g,h1,h2,h3,h4,h5,h6,h7⟩:=h.ex
 exact h4.sub _ _ h7
theorem Mn.rput{M1:Mm}{rc:List (K4×Cost)}{bs:Best}(h:Mn C E M0 M1 A rc bs)(rc':List (K4×Cost)):Mn C E M0 (put M1 A.r (.dT (tabW k4K cW rc'))) A rc' bs:=
 ⟨zbq h.sub h.nr,h.ns,h.nr,h.nb,h.sr,h.sb,h.rb,by rw[zaf h.sr];exact h.os,zad,by rw[zaf (Ne.symm h.rb)];exact h.ob⟩
theorem Mn.bput{M1:Mm}{rc:List (K4×Cost)}{bs:Best}(h:Mn C E M0 M1 A rc bs)(bs':Best):Mn C E M0 (put M1 A.b (.dT (tabW fK zgM bs'))) A rc bs':=
 ⟨zbq h.sub h.nb,h.ns,h.nr,h.nb,h.sr,h.sb,h.rb,by rw[zaf h.sb];exact h.os,by rw[zaf h.rb];exact h.or,zad⟩
theorem SK.rput(h:SK C E M0 M A st kp)(rc':List (K4×Cost)):SK C E M0 (put M A.r (.dT (tabW k4K cW rc'))) A {st with reached:=rc'} kp:=by
 obtain⟨M1,M2,M3,e,g,h1,h2,h3,h4,h5,h6,h7⟩:=h.ex
 have k2:=h2.sub _ _ h1.or
 have k3:=h3.sub _ _ k2
 refine⟨_,_,_,e,g,h1.rput rc',h2.lift (.inr ⟨_,h1.or⟩),h3.lift (.inr ⟨_,k2⟩),h4.lift (.inr ⟨_,k3⟩),h5,h6,?_⟩
 cases kp with
 | none=>trivial
 | some x=>
  have h7:M3 x.1=some (.lst x.2):=h7
  show put M3 A.r _ x.1=some (.lst x.2)
  rw[zaf (fun z=>by rw[z,k3] at h7;cases h7)];exact h7
theorem SK.bput(h:SR C E M0 M A st)(bs':Best):SR C E M0 (put M A.b (.dT (tabW fK zgM bs'))) A {st with best:=bs'}:=by
 obtain⟨M1,M2,M3,e,g,h1,h2,h3,h4,h5,h6,h7⟩:=h.ex
 have k2:=h2.sub _ _ h1.ob
 have k3:=h3.sub _ _ k2
 exact⟨_,_,_,e,g,h1.bput bs',h2.lift (.inr ⟨_,h1.ob⟩),h3.lift (.inr ⟨_,k2⟩),h4.lift (.inr ⟨_,k3⟩),h5,h6,trivial⟩
theorem SK.que(h:SK C E M0 M A st kp):∃ M3,QR C M3 M A.Q st.q∧∀ M' q',QR C M3 M' A.Q q'→SK C E M0 M' A {st with q:=q'} kp:=by
 obtain⟨M1,M2,M3,e,g,h1,h2,h3,h4,h5,h6,h7⟩:=h.ex
 exact⟨M3,h4,fun M' q' hq=>⟨M1,M2,M3,e,g,h1,h2,h3,hq,h5,h6,h7⟩⟩
theorem zlO{κ β:Type}[DecidableEq κ]{t:List (κ×β)}{k:κ}{v:β}(h:(aget t k).isSome=true):(aput t k v).length=t.length:=by
 unfold aput
 rw[zcj,if_pos h,List.length_map]
theorem ziL{κ β:Type}[DecidableEq κ]{t:List (κ×β)}{k:κ}{v:β}(h:aget t k=none):aput t k v=t ++ [(k,v)]:=by
 unfold aput
 rw[zcj,h,if_neg (by simp)]
theorem zr5{γ:Type}(f:γ→W)(t:List ((Str×Int)×List γ))(k:Str×Int)(z:γ)(j:Str×Int):((aget (zc8 t k z) j).map fun xs=>xs.map f)=if k=j then some (((aget t k).getD []).map f ++ [f z]) else(aget t j).map fun xs=>xs.map f:=by
 unfold zc8
 rw[zay]
 by_cases h:k=j
 ·rw[if_pos h,if_pos h,Option.map_some,List.map_append];rfl
 ·rw[if_neg h,if_neg h]
theorem SK.epush(h:SR C E M0 M A st){k:Str×Int}{z:Int×Cost}{R:K3}(hn:st.ends.length < 10000000)(hl:((aget st.ends k).getD []).length < 10000000)(r:∀ M',SR C E M0 M' A {st with ends:=zc8 st.ends k z}→R .non M') :
  ∃ kvs,M A.e=some (.dT kvs)∧kvs.length < sizeLine∧∀ p,M p=none→put M p (.lst []) A.e=some (.dT kvs)∧(∀ w,zam kvs (eK k)=some w→tyW "list" w (put M p (.lst []))∧rApp w [endW z] (put M p (.lst [])) R)∧
   (zam kvs (eK k)=none→tyW "list" (.ref p) (put (put M p (.lst [])) A.e (.dT (putW kvs (eK k) (.ref p))))∧rApp (.ref p) [endW z] (put (put M p (.lst [])) A.e (.dT (putW kvs (eK k) (.ref p)))) R):=by
 obtain⟨M1,M2,M3,e,g,h1,h2,h3,h4,h5,h6,h7⟩:=h.ex
 have ha:M A.e=some (.dT e):=h4.sub _ _ (h3.sub _ _ h2.at_)
 refine⟨e,ha,zbE (by omega),fun p hp=>⟨by rw[zaf (fun z=>by rw[←z,ha] at hp;cases hp)];exact ha,fun w hw=>?_,fun hw=>?_⟩⟩
 ·obtain⟨xs,hx⟩:∃ xs,aget st.ends k=some xs:=by
   cases q:aget st.ends k with
   | none=>have:=h2.non k (by show(aget _ _).map _=_;rw[q];rfl);rw[hw] at this;cases this
   | some xs=>exact⟨_,rfl⟩
  have hxw:eG st.ends k=some (xs.map endW):=by show(aget _ _).map _=_;rw[hx];rfl
  obtain⟨p',hp1,hp2⟩:=h2.has hxw
  rw[hw] at hp1;cases hp1
  have k3:=h3.sub _ _ hp2
  have h4':=h4.more (o:=.lst []) hp
  have k4:=h4'.sub _ _ k3
  rw[hx] at hl
  refine⟨tyL k4,_,k4,zbE (by rw[List.length_map];exact hl),r _ ⟨_,_,_,e,g,h1,(h2.wr (ws:=xs.map endW ++ [endW z]) hw).same fun j=>?_,h3.lift (.inr ⟨_,hp2⟩),h4'.lift (.inr ⟨_,k3⟩),?_,h6,trivial⟩⟩
  ·refine(zr5 _ _ k z j).trans ?_;rw[hx];rfl
  ·show _≤(aput _ _ _).length
   rw[zlO (by rw[hx];rfl)];exact h5
 ·have hx:aget st.ends k=none:=by
   cases q:aget st.ends k with
   | none=>rfl
   | some xs=>obtain⟨p',hp1,_⟩:=h2.has (k:=k) (ws:=xs.map endW) (by show(aget _ _).map _=_;rw[q];rfl);rw[hw] at hp1;cases hp1
  have hxw:eG st.ends k=none:=by show(aget _ _).map _=_;rw[hx];rfl
  have p3:=h4.sub.non hp
  have p2:=h3.sub.non p3
  have t2:=h2.add zsP (ws:=[]) hxw p2
  have hpa:p≠A.e:=fun z=>by rw[z,ha] at hp;cases hp
  have t3:=(h3.lift (o:=.lst []) (.inl p3)).lift (p:=A.e) (o:=.dT (putW e (eK k) (.ref p))) (.inr ⟨.dT e,by rw[zaf (Ne.symm hpa)];exact h2.at_⟩)
  have t4:=(h4.lift (o:=.lst []) (.inl hp)).lift (p:=A.e) (o:=.dT (putW e (eK k) (.ref p))) (.inr ⟨.dT e,by rw[zaf (Ne.symm hpa)];exact h3.sub _ _ h2.at_⟩)
  have lp:zam (putW e (eK k) (.ref p)) (eK k)=some (.ref p):=by rw[zdS,if_pos rfl]
  have g2:put (put M2 p (.lst [])) A.e (.dT (putW e (eK k) (.ref p))) p=some (.lst []):=by rw[zaf hpa,zad]
  have k3:=t3.sub _ _ g2
  have k4:=t4.sub _ _ k3
  refine⟨tyL k4,_,k4,zbE (by simp),r _ ⟨_,_,_,_,g,h1,(t2.wr (ws:=[endW z]) lp).same fun j=>?_,t3.lift (.inr ⟨_,g2⟩),t4.lift (.inr ⟨_,k3⟩),?_,h6,trivial⟩⟩
  ·refine(zr5 _ _ k z j).trans ?_
   rw[hx]
   by_cases hj:k=j
   ·rw[if_pos hj,if_pos hj];rfl
   ·rw[if_neg hj,if_neg hj,if_neg hj]
  ·show _≤(aput _ _ _).length
   rw[ziL hx,List.length_append,List.length_singleton]
   have:=zkl e (eK k) (W.ref p)
   omega
theorem SK.gpush(h:SR C E M0 M A st){k:Str×Int}{z:It3}{R:K3}(hn:st.begun.length < 10000000)(hl:((aget st.begun k).getD []).length < 10000000)(r:∀ M',SR C E M0 M' A {st with begun:=zc8 st.begun k z}→R .non M') :
  ∃ kvs,M A.g=some (.dT kvs)∧kvs.length < sizeLine∧∀ p,M p=none→put M p (.lst []) A.g=some (.dT kvs)∧(∀ w,zam kvs (eK k)=some w→tyW "list" w (put M p (.lst []))∧rApp w [begW z] (put M p (.lst [])) R)∧
   (zam kvs (eK k)=none→tyW "list" (.ref p) (put (put M p (.lst [])) A.g (.dT (putW kvs (eK k) (.ref p))))∧rApp (.ref p) [begW z] (put (put M p (.lst [])) A.g (.dT (putW kvs (eK k) (.ref p)))) R):=by
 obtain⟨M1,M2,M3,e,g,h1,h2,h3,h4,h5,h6,h7⟩:=h.ex
 have ha:M A.g=some (.dT g):=h4.sub _ _ h3.at_
 refine⟨g,ha,zbE (by omega),fun p hp=>⟨by rw[zaf (fun z=>by rw[←z,ha] at hp;cases hp)];exact ha,fun w hw=>?_,fun hw=>?_⟩⟩
 ·obtain⟨xs,hx⟩:∃ xs,aget st.begun k=some xs:=by
   cases q:aget st.begun k with
   | none=>have:=h3.non k (by show(aget _ _).map _=_;rw[q];rfl);rw[hw] at this;cases this
   | some xs=>exact⟨_,rfl⟩
  have hxw:gG st.begun k=some (xs.map begW):=by show(aget _ _).map _=_;rw[hx];rfl
  obtain⟨p',hp1,hp2⟩:=h3.has hxw
  rw[hw] at hp1;cases hp1
  have h4':=h4.more (o:=.lst []) hp
  have k4:=h4'.sub _ _ hp2
  rw[hx] at hl
  refine⟨tyL k4,_,k4,zbE (by rw[List.length_map];exact hl),r _ ⟨_,_,_,e,g,h1,h2,(h3.wr (ws:=xs.map begW ++ [begW z]) hw).same fun j=>?_,h4'.lift (.inr ⟨_,hp2⟩),h5,?_,trivial⟩⟩
  ·refine(zr5 _ _ k z j).trans ?_;rw[hx];rfl
  ·show _≤(aput _ _ _).length
   rw[zlO (by rw[hx];rfl)];exact h6
 ·have hx:aget st.begun k=none:=by
   cases q:aget st.begun k with
   | none=>rfl
   | some xs=>obtain⟨p',hp1,_⟩:=h3.has (k:=k) (ws:=xs.map begW) (by show(aget _ _).map _=_;rw[q];rfl);rw[hw] at hp1;cases hp1
  have hxw:gG st.begun k=none:=by show(aget _ _).map _=_;rw[hx];rfl
  have p3:=h4.sub.non hp
  have t3:=h3.add zsP (ws:=[]) hxw p3
  have hpa:p≠A.g:=fun z=>by rw[z,ha] at hp;cases hp
  have t4:=(h4.lift (o:=.lst []) (.inl hp)).lift (p:=A.g) (o:=.dT (putW g (eK k) (.ref p))) (.inr ⟨.dT g,by rw[zaf (Ne.symm hpa)];exact h3.at_⟩)
  have lp:zam (putW g (eK k) (.ref p)) (eK k)=some (.ref p):=by rw[zdS,if_pos rfl]
  have g2:put (put M3 p (.lst [])) A.g (.dT (putW g (eK k) (.ref p))) p=some (.lst []):=by rw[zaf hpa,zad]
  have k4:=t4.sub _ _ g2
  refine⟨tyL k4,_,k4,zbE (by simp),r _ ⟨_,_,_,e,_,h1,h2,(t3.wr (ws:=[begW z]) lp).same fun j=>?_,t4.lift (.inr ⟨_,g2⟩),h5,?_,trivial⟩⟩
  ·refine(zr5 _ _ k z j).trans ?_
   rw[hx]
   by_cases hj:k=j
   ·rw[if_pos hj,if_pos hj];rfl
   ·rw[if_neg hj,if_neg hj,if_neg hj]
  ·show _≤(aput _ _ _).length
   rw[ziL hx,List.length_append,List.length_singleton]
   have:=zkl g (eK k) (W.ref p)
   omega
theorem SK.ends_at(h:SR C E M0 M A st)(k:Str×Int):∃ kvs,M A.e=some (.dT kvs)∧((zam kvs (eK k)=none∧aget st.ends k=none)∨∃ p xs,zam kvs (eK k)=some (.ref p)∧aget st.ends k=some xs∧SK C E M0 M A st (some (p,xs.map endW))):=by
 obtain⟨M1,M2,M3,e,g,h1,h2,h3,h4,h5,h6,h7⟩:=h.ex
 refine⟨e,h4.sub _ _ (h3.sub _ _ h2.at_),?_⟩
 cases q:aget st.ends k with
 | none=>exact .inl ⟨h2.non k (by show(aget _ _).map _=_;rw[q];rfl),rfl⟩
 | some xs=>
  obtain⟨p,hp1,hp2⟩:=h2.has (k:=k) (ws:=xs.map endW) (by show(aget _ _).map _=_;rw[q];rfl)
  exact .inr ⟨p,xs,hp1,rfl,M1,M2,M3,e,g,h1,h2,h3,h4,h5,h6,h3.sub _ _ hp2⟩
theorem SK.begun_at(h:SR C E M0 M A st)(k:Str×Int):∃ kvs,M A.g=some (.dT kvs)∧((zam kvs (eK k)=none∧aget st.begun k=none)∨∃ p xs,zam kvs (eK k)=some (.ref p)∧aget st.begun k=some xs∧SK C E M0 M A st (some (p,xs.map begW))):=by
 obtain⟨M1,M2,M3,e,g,h1,h2,h3,h4,h5,h6,h7⟩:=h.ex
 refine⟨g,h4.sub _ _ h3.at_,?_⟩
 cases q:aget st.begun k with
 | none=>exact .inl ⟨h3.non k (by show(aget _ _).map _=_;rw[q];rfl),rfl⟩
 | some xs=>
  obtain⟨p,hp1,hp2⟩:=h3.has (k:=k) (ws:=xs.map begW) (by show(aget _ _).map _=_;rw[q];rfl)
  exact .inr ⟨p,xs,hp1,rfl,M1,M2,M3,e,g,h1,h2,h3,h4,h5,h6,hp2⟩
theorem SK.eput(h:SR C E M0 M A st){nm:Str}{b:Int}{z:Int×Cost}{R:K3}(hn:st.ends.length < 10000000)(hl:((aget st.ends (nm,b)).getD []).length < 10000000)(r:∀ M',SR C E M0 M' A {st with ends:=zc8 st.ends (nm,b) z}→R .non M') :
  tyW "dict" (.ref A.e) M∧New [] M fun x M1=>ziF (.ref A.e) [.tup [.str nm,.int b],x] M1 fun x M1=>tyW "list" x M1∧rApp x [endW z] M1 R:=by
 obtain⟨kvs,h1,h2,h3⟩:=h.epush hn hl r
 refine⟨tyD h1,fun p hp=>?_⟩
 obtain⟨h4,h5,h6⟩:=h3 p hp
 exact⟨kvs,eK (nm,b),h4,rfl,h2,h5,h6⟩
theorem SK.gput(h:SR C E M0 M A st){nm:Str}{b:Int}{z:It3}{R:K3}(hn:st.begun.length < 10000000)(hl:((aget st.begun (nm,b)).getD []).length < 10000000)(r:∀ M',SR C E M0 M' A {st with begun:=zc8 st.begun (nm,b) z}→R .non M') :
  tyW "dict" (.ref A.g) M∧New [] M fun x M1=>ziF (.ref A.g) [.tup [.str nm,.int b],x] M1 fun x M1=>tyW "list" x M1∧rApp x [begW z] M1 R:=by
 obtain⟨kvs,h1,h2,h3⟩:=h.gpush hn hl r
 refine⟨tyD h1,fun p hp=>?_⟩
 obtain⟨h4,h5,h6⟩:=h3 p hp
 exact⟨kvs,eK (nm,b),h4,rfl,h2,h5,h6⟩
end
end Rg
namespace Rg
open PySem PySem.Spec PyProof.Rows L2 L3
def zd8:Sp3:=fun ws M R=>∃ ts:List Str,ws=[.rl (ts.map W.str)]∧ts.length≤400∧R (.dk ((ts.foldl addN []).map nkw)) M
def zhk(rs:List Rule):List (Key×W):=((zak rs).foldl addN []).map nkw
def zgN:Sp3:=fun ws M R=>∃ a b:Cost,ws=[cW a,cW b]∧R (cW (addc a b)) M
structure Sm(st:SS)(k:Nat):Prop where
 q:(els st.q).length + k < 10000000
 r:st.reached.length + k < 10000000
def zaT(C:Cc):Sp3:=fun ws M R=>∃ (E:Env) (M0:Mm) (A:Ad) (st:SS) (n:Nat) (cut:List Int) (c:Cost) (kp:Option (Addr×List W)),ws=[.ref A.s,.int n,zdK cut,cW c]∧SK C E M0 M A st kp∧cut≠[]∧Sm st 1∧∀ M',SK C E M0 M' A (reach st n cut c) kp→R .non M'
def zaX(C:Cc):Sp3:=fun ws M R=>∃ (E:Env) (M0:Mm) (A:Ad) (st:SS) (n:Nat) (cut:List Int) (c:Cost) (part:Str),ws=[.ref A.s,.int n,zdK cut,cW c,.tup [.str part,.int (cut.getLastD 0)]]∧SR C E M0 M A st∧cut≠[]∧cut.length < 1000∧Sm st ((aget st.ends (part,cut.getLastD 0)).getD []).length∧st.begun.length < 10000000∧((aget st.begun (part,cut.getLastD 0)).getD []).length < 10000000∧∀ M',SR C E M0 M' A (zaN st n cut c part)→R .non M'
def zbK(C:Cc):Sp3:=fun ws M R=>∃ (G:Sr) (E:Env) (M0:Mm) (A:Ad) (st:SS) (n:Nat) (cut:List Int) (c:Cost),ws=[.ref A.s,.int n,zdK cut,cW c]∧SR C E M0 M A st∧G.rs=E.rs∧n < E.rs.length∧cut≠[]∧(∀ key,∀ y∈(aget st.begun key).getD [],y.2.1.length < 1000∧y.2.1≠[])∧Sm st ((aget st.begun (fnm G n,cut.headD 0)).getD []).length∧st.best.length < 10000000∧st.ends.length < 10000000∧((aget st.ends (fnm G n,cut.headD 0)).getD []).length < 10000000∧∀ M',SR C E M0 M' A (zer G st n cut c)→R .non M'
structure EvOk(G:Sr)(E:Env):Prop where
 rs:G.rs=E.rs
 own:∀ t,(zam E.own (Sum.inr t:Key)).isSome=G.own t
 stp:∀ t p,(zam E.stp (eK (t,p))=none∧G.steps t p=[])∨zam E.stp (eK (t,p))=some (.rl ((G.steps t p).map fun z=>.tup [.int z.1,.int z.2]))
structure Rm(G:Sr)(st:SS):Prop where
 item:∀ c n cut q',zf7 st.q=some (c,(n,cut),q')→cut≠[]∧cut.length < 1000∧n < G.rs.length∧∃ d,aget st.reached (zaz n cut)=some d
 bg:∀ key,∀ y∈(aget st.begun key).getD [],y.2.1.length < 1000∧y.2.1≠[]
 b:st.best.length < 10000000
 e:st.ends.length < 10000000
 g:st.begun.length < 10000000
 el:∀ key,((aget st.ends key).getD []).length < 10000000∧Sm st ((aget st.ends key).getD []).length
 gl:∀ key,((aget st.begun key).getD []).length < 10000000∧Sm st ((aget st.begun key).getD []).length
 sl:∀ t p,Sm st (G.steps t p).length
def zba(C:Cc):Sp3:=fun ws M R=>∃ (G:Sr) (E:Env) (M0:Mm) (A:Ad) (st:SS),ws=[.ref A.s]∧SR C E M0 M A st∧EvOk G E∧st.q≠[]∧Rm G st∧∀ M',SR C E M0 M' A (zdu G st)→R .non M'
def zcn(C:Cc):Sp3:=fun ws M R=>∃ (M0:Mm) (s dx:Addr) (rs:List Rule) (stp:List (List Key×W)),ws=[.ref s,rlW rs,.dt stp]∧rs.length≤100∧M=put M0 s (.ins C.s dx [])∧M0 s=none∧∀ M' (A:Ad),A.s=s→SR C ⟨rs,zhk rs,stp⟩ M0 M' A st0→R .non M'
def Done(G:Sr)(B:Best):Prop:=∃ (S I0:Nat) (st:SS) (P:List It3) (cur:Cost) (T:Nat),All G S I0 st P cur T∧st.q=[]∧st.best=B
def zco(C:Cc):Sp3:=fun ws M R=>∃ (G:Sr) (E:Env) (V:List Int) (L S:Nat),ws=[rlW E.rs,.rl (G.places.map W.int),.dt E.stp,.rl ((List.range G.rs.length).map fun n=>.int (G.wt n))]∧E.rs.length≤100∧E.own=zhk E.rs∧EvOk G E∧SrOk G∧SrV G V G.rs.length L∧L < 1000∧G.places.length≤1000∧(∀ t p,(G.steps t p).length≤S)∧
 (zf8 G).length + G.rs.length * ((L + 1) * (V.length * V.length)) * (S + V.length) + G.rs.length * ((L + 1) * (V.length * V.length)) + V.length + S + 1 < 10000000∧∀ B,Done G B→NewT (tabW fK zgM B) M R
abbrev zmZ:List Str:=["things"]
def zgO:TS3:=
   (vRet (vCB zp6 (zac (vFrz (zcM (iIt rItN (vVar 0)) (zaw 0) zc5 (vTup (zac (vVar 0) (zac (vC (.bl true)) aNil))) [none])) aNil)))
abbrev zm0:List Str:=["cost","other"]
def zgP:TS3:=
   (vRet (vTup (zac (vOp zci (vOp rIx (vVar 0) (vC (.int 0))) (vOp rIx (vVar 1) (vC (.int 0)))) (zac (vOp zci (vOp rIx (vVar 0) (vC (.int 1))) (vOp rIx (vVar 1) (vC (.int 1)))) aNil))))
abbrev zd9:List Str:=["self","grammar","steps"]
def zes(C:Cc):TS3:=
   (zgc C.s (vVar 0) "grammar" (vVar 1))
def zet(C:Cc):TS3:=
   (zgc C.s (vVar 0) "own" (zbf zd8 (zac (vFrz (zbf zdv (zac (vVar 1) aNil))) aNil)))
def zeu(C:Cc):TS3:=
   (zgc C.s (vVar 0) "steps" (vVar 2))
def zcP(C:Cc):TS3:=
   (zgc C.s (vVar 0) "queue" (zoE C.q (zcT C) aNil))
def zev(C:Cc):TS3:=
   (zgc C.s (vVar 0) "reached" zmy)
def zew(C:Cc):TS3:=
   (zgc C.s (vVar 0) "best" zmy)
def zex(C:Cc):TS3:=
   (zgc C.s (vVar 0) "ends" zmy)
def zey(C:Cc):TS3:=
   (zgc C.s (vVar 0) "begun" zmy)
def zbF(C:Cc):TS3:=(vSeq (zes C) (vSeq (zet C) (vSeq (zeu C) (vSeq (zcP C) (vSeq (zev C) (vSeq (zew C) (vSeq (zex C) (zey C))))))))
abbrev zdL:List Str:=["self","number","cut","cost","key"]
def zbr(C:Cc):TS3:=
   (vSeq (vSet 4 (vTup (zac (vVar 1) (zac (vCB rLen (zac (vVar 2) aNil)) (zac (vOp rIx (vVar 2) (vC (.int 0))) (zac (vOp rIx (vVar 2) (vUn rNeg (vC (.int 1)))) aNil))))))
   (vIfS (vOr (za2 (vOp (rIn true) (vVar 4) (vFld C.s (vVar 0) "reached"))) (za2 (vOp rLtT (vVar 3) (vOp rIx (vFld C.s (vVar 0) "reached") (vVar 4)))))
    (vSeq (vAsg (vVar 3) (wSub (vFld C.s (vVar 0) "reached") (vVar 4)))
   (zcL (zcu C.q "put" (zcv C) (vFld C.s (vVar 0) "queue") (zac (vVar 3) (zac (vTup (zac (vVar 1) (zac (vVar 2) aNil))) aNil)))))
    zc4))
abbrev zb1:List Str:=["self","taken","cost","number","cut","parts","end","price"]
def zcx(C:Cc):TS3:=
   (vSet 1 (zcu C.q "take" (zcU C) (vFld C.s (vVar 0) "queue") aNil))
def zcy(C:Cc):TS3:=
   (vSet 2 (vOp rIx (vVar 1) (vC (.int 0))))
def zcz(C:Cc):TS3:=
   (vSet 3 (vOp rIx (vOp rIx (vVar 1) (vC (.int 1))) (vC (.int 0))))
def zcA(C:Cc):TS3:=
   (vSet 4 (vOp rIx (vOp rIx (vVar 1) (vC (.int 1))) (vC (.int 1))))
def zcB(C:Cc):TS3:=
   (vIfS (za2 (vOp rLtT (vOp rIx (vFld C.s (vVar 0) "reached") (vTup (zac (vVar 3) (zac (vCB rLen (zac (vVar 4) aNil)) (zac (vOp rIx (vVar 4) (vC (.int 0))) (zac (vOp rIx (vVar 4) (vUn rNeg (vC (.int 1)))) aNil)))))) (vVar 2)))
    ztI
    zc4)
def zcC(C:Cc):TS3:=
   (vSet 5 (vOp rIx (vOp rIx (vFld C.s (vVar 0) "grammar") (vVar 3)) (vC (.int 1))))
def zcD(C:Cc):TS3:=
   (vIfS (za2 (vOp rGt (vCB rLen (zac (vVar 4) aNil)) (vCB rLen (zac (vVar 5) aNil))))
    (zcL (zcu C.s "settle" (zbK C) (vVar 0) (zac (vVar 3) (zac (vVar 4) (zac (vVar 2) aNil)))))
    (vIfS (za2 (vOp (rIn false) (vOp rIx (vVar 5) (vOp rSub (vCB rLen (zac (vVar 4) aNil)) (vC (.int 1)))) (vFld C.s (vVar 0) "own")))
    (zcL (zcu C.s "step_by_name" (zaX C) (vVar 0) (zac (vVar 3) (zac (vVar 4) (zac (vVar 2) (zac (vTup (zac (vOp rIx (vVar 5) (vOp rSub (vCB rLen (zac (vVar 4) aNil)) (vC (.int 1)))) (zac (vOp rIx (vVar 4) (vUn rNeg (vC (.int 1)))) aNil))) aNil))))))
    (vFor (iIt rIt (vBM "dict" rGet (vFld C.s (vVar 0) "steps") (zac (vTup (zac (vOp rIx (vVar 5) (vOp rSub (vCB rLen (zac (vVar 4) aNil)) (vC (.int 1)))) (zac (vOp rIx (vVar 4) (vUn rNeg (vC (.int 1)))) aNil))) (zac (zd3 aNil) aNil)))) (wTup 2 (zdq (zaw 6) (zdq (zaw 7) wNil)))
    (zcL (zcu C.s "reach" (zaT C) (vVar 0) (zac (vVar 3) (zac (vOp zci (vVar 4) (vTup (zac (vVar 6) aNil))) (zac (vTup (zac (vOp zci (vOp rIx (vVar 2) (vC (.int 0))) (vVar 7)) (zac (vOp rIx (vVar 2) (vC (.int 1))) aNil))) aNil))))))))
def zaU(C:Cc):TS3:=(vSeq (zcx C) (vSeq (zcy C) (vSeq (zcz C) (vSeq (zcA C) (vSeq (zcB C) (vSeq (zcC C) (zcD C)))))))
abbrev zbs:List Str:=["self","number","cut","cost","key","end","more"]
def zaC(C:Cc):TS3:=
   (vSeq (zcL (vBM "list" rApp (vBM "dict" ziF (vFld C.s (vVar 0) "begun") (zac (vVar 4) (zac (vLst aNil) aNil))) (zac (vTup (zac (vVar 1) (zac (vVar 2) (zac (vVar 3) aNil)))) aNil)))
   (vFor (iIt rIt (vBM "dict" rGet (vFld C.s (vVar 0) "ends") (zac (vVar 4) (zac (zd3 aNil) aNil)))) (wTup 2 (zdq (zaw 5) (zdq (zaw 6) wNil)))
    (zcL (zcu C.s "reach" (zaT C) (vVar 0) (zac (vVar 1) (zac (vOp zci (vVar 2) (vTup (zac (vVar 5) aNil))) (zac (zbf zgN (zac (vVar 3) (zac (vVar 6) aNil))) aNil)))))))
abbrev zdh:List Str:=["self","number","cut","cost","key","fact","other","before","paid"]
def zdw(C:Cc):TS3:=
   (vSet 4 (vTup (zac (vOp rIx (vOp rIx (vFld C.s (vVar 0) "grammar") (vVar 1)) (vC (.int 0))) (zac (vOp rIx (vVar 2) (vC (.int 0))) aNil))))
def zdx(C:Cc):TS3:=
   (vSet 5 (vOp zci (vVar 4) (vTup (zac (vOp rIx (vVar 2) (vUn rNeg (vC (.int 1)))) aNil))))
def zdy(C:Cc):TS3:=
   (vIfS (za2 (vOp (rIn false) (vVar 5) (vFld C.s (vVar 0) "best")))
    ztI
    zc4)
def zdz(C:Cc):TS3:=
   (vAsg (vTup (zac (vVar 3) (zac (vVar 1) (zac (vVar 2) aNil)))) (wSub (vFld C.s (vVar 0) "best") (vVar 5)))
def zdA(C:Cc):TS3:=
   (zcL (vBM "list" rApp (vBM "dict" ziF (vFld C.s (vVar 0) "ends") (zac (vVar 4) (zac (vLst aNil) aNil))) (zac (vTup (zac (vOp rIx (vVar 2) (vUn rNeg (vC (.int 1)))) (zac (vVar 3) aNil))) aNil)))
def zdi(C:Cc):TS3:=
   (zcL (zcu C.s "reach" (zaT C) (vVar 0) (zac (vVar 6) (zac (vOp zci (vVar 7) (vTup (zac (vOp rIx (vVar 2) (vUn rNeg (vC (.int 1)))) aNil))) (zac (zbf zgN (zac (vVar 8) (zac (vVar 3) aNil))) aNil)))))
def zdB(C:Cc):TS3:=
   (vFor (iIt rIt (vBM "dict" rGet (vFld C.s (vVar 0) "begun") (zac (vVar 4) (zac (zd3 aNil) aNil)))) (wTup 3 (zdq (zaw 6) (zdq (zaw 7) (zdq (zaw 8) wNil)))) (zdi C))
def zbh(C:Cc):TS3:=(vSeq (zdw C) (vSeq (zdx C) (vSeq (zdy C) (vSeq (zdz C) (vSeq (zdA C) (zdB C))))))
abbrev zea:List Str:=["grammar","places","steps","weights","search","number","place"]
def zez(C:Cc):TS3:=
   (vSet 4 (zoE C.s (zcn C) (zac (vVar 0) (zac (vVar 2) aNil))))
def zdU(C:Cc):TS3:=
   (vFor (iIt rItN (vVar 1)) (zaw 6)
    (zcL (zcu C.s "reach" (zaT C) (vVar 4) (zac (vVar 5) (zac (vTup (zac (vVar 6) aNil)) (zac (vTup (zac (vOp rIx (vVar 3) (vVar 5)) (zac (vC (.int 1)) aNil))) aNil))))))
def zeA(C:Cc):TS3:=
   (vFor (iR1 (zac (vCB rLen (zac (vVar 0) aNil)) aNil)) (zaw 5) (zdU C))
def zdV(C:Cc):TS3:=
   (zcL (zcu C.s "take_next" (zba C) (vVar 4) aNil))
def zeB(C:Cc):TS3:=
   (zgy (vNot (zeq (zcu C.q "is_done" (zbJ C) (vFld C.s (vVar 4) "queue") aNil))) (zdV C))
def zeC(C:Cc):TS3:=
   (vRet (vFld C.s (vVar 4) "best"))
def zbG(C:Cc):TS3:=(vSeq (zez C) (vSeq (zeA C) (vSeq (zeB C) (zeC C))))
theorem zqh:∀ ws M R,zd8 ws M R→ws.length=1:=by rintro ws M R ⟨_,rfl,_⟩;rfl
theorem zqi:∀ ws M R,zgN ws M R→ws.length=2:=by rintro ws M R ⟨_,_,rfl,_⟩;rfl
theorem zhT{C:Cc}:∀ ws M R,zaT C ws M R→ws.length=4:=by rintro ws M R ⟨_,_,_,_,_,_,_,_,rfl,_⟩;rfl
theorem zeb{C:Cc}:∀ ws M R,zaX C ws M R→ws.length=5:=by rintro ws M R ⟨_,_,_,_,_,_,_,_,rfl,_⟩;rfl
theorem zhl{C:Cc}:∀ ws M R,zbK C ws M R→ws.length=4:=by rintro ws M R ⟨_,_,_,_,_,_,_,_,rfl,_⟩;rfl
theorem zfL{C:Cc}:∀ ws M R,zba C ws M R→ws.length=1:=by rintro ws M R ⟨_,_,_,_,_,rfl,_⟩;rfl
theorem ziM{C:Cc}:∀ ws M R,zcn C ws M R→ws.length=3:=by rintro ws M R ⟨_,_,_,_,_,rfl,_⟩;rfl
theorem ziN{C:Cc}:∀ ws M R,zco C ws M R→ws.length=4:=by rintro ws M R ⟨_,_,_,_,_,rfl,_⟩;rfl
theorem zjL:∀ (ts acc:List Str),zjc (acc.map nkw) (ts.map nkw)=(ts.foldl addN acc).map nkw
 | [],acc=>rfl
 | t :: r,acc=>by
  show zjc (putW (acc.map nkw) (Sum.inr t) (.bl true)) (r.map nkw)=_
  rw[zhj,zjL,List.foldl_cons]
theorem zoH{ws:List W}{M:Mm}{R:K3}(h:zd8 ws M R):zgO (zax R) (zaP zmZ ws) M:=by
 obtain⟨ts,rfl,hl,r⟩:=h
 show zgO (zax R) [some (.rl (ts.map W.str))] M
 simp? only[zgO]
 refine map1 (rest:=[]) (fun w=>.tup [w,.bl true]) (zd5 (by rw[List.length_map];omega)) (fun _ _=>trivial) (fun w hw M' C sb h1=>?_) (New.frz ?_)
 ·simp? only[]
  exact h1
 ·simp? only[L3.zp6]
  refine⟨ts.map nkw,?_,zd5 (by simp;omega),_,Sub.refl _,?_⟩
  ·unfold zhC
   rw[List.map_map,List.map_map];rfl
  ·rw[show([]:List (Key×W))=([]:List Str).map nkw from rfl,zjL]
   exact r
theorem zoI{ws:List W}{M:Mm}{R:K3}(h:zgN ws M R):zgP (zax R) (zaP zm0 ws) M:=by
 obtain⟨a,b,rfl,r⟩:=h
 show zgP (zax R) [some (cW a),some (cW b)] M
 simp? only[zgP,cW]
 exact⟨_,Sub.refl _,r⟩
end Rg
namespace Rg
open PySem PySem.Spec PyProof.Rows L2 L3
variable {α:Type}
theorem zkq{cut:List Int}(h:cut≠[]):atI (cut.map W.int) 0=some (.int (cut.headD 0)):=by
 cases cut with
 | nil=>exact absurd rfl h
 | cons a t=>exact atI0 _ _
theorem zec{cut:List Int}(h:cut≠[]):atI (cut.map W.int) (-1)=some (.int (cut.getLastD 0)):=by
 rcases List.eq_nil_or_concat cut with z | ⟨a,b,z⟩
 ·exact absurd z h
 ·rw[z,List.concat_eq_append,List.map_append]
  refine(znn _ _).trans ?_
  simp[List.getLastD_eq_getLast?]
theorem k4W{n:Nat}{cut:List Int}:W.tup [.int n,.int (cut.map W.int).length,.int (cut.headD 0),.int (cut.getLastD 0)]=.tup ((k4K (zaz n cut)).map wK):=by
 rw[List.length_map];rfl
theorem zjM{C:Cc}{E:Env}{M0 M:Mm}{A:Ad}{st:SS}{n:Nat}{cut:List Int}{c:Cost}{R:K3}{kp:Option (Addr×List W)}(hs:SK C E M0 M A st kp)(sm:Sm st 1)(r:∀ M',SK C E M0 M' A {st with reached:=aput st.reached (zaz n cut) c,q:=qput c (n,cut) st.q} kp→R .non M') :
  ∃ a dx fs w,W.ref A.s=W.ref a∧M a=some (MO.ins C.s dx fs)∧List.lookup ("reached" : Str) fs=some w∧zll w (W.tup (List.map wK (k4K (zaz n cut)))) (cW c) M fun M3=>
   zcu C.q "put" (zcv C) (vFld C.s (vVar 0) "queue") (zac (vVar 3) (zac (vTup (zac (vVar 1) (zac (vVar 2) aNil))) aNil)) [some (W.ref A.s),some (W.int n),some (W.tup (List.map W.int cut)),some (cW c),some (W.tup (List.map wK (k4K (zaz n cut))))] M3 fun x M1=>∃ M'',L3.Sub M'' M1∧R W.non M'':=by
 have h1:=sm.q
 have h2:=sm.r
 refine⟨A.s,A.d,_,_,rfl,hs.os,zfG,setT hs.or (zbE (by rw[List.length_map];omega)) ?_⟩
 rw[zqe zko]
 have hs1:=hs.rput (aput st.reached (zaz n cut) c)
 obtain⟨M3,hq,back⟩:=hs1.que
 simp? only[L3.zcu,L3.vFld]
 exact⟨A.s,A.d,_,_,rfl,hs1.os,zkp,A.Q.o,A.Q.d,qf A.Q,rfl,hq.ob,zwR,M3,A.Q,_,c,(n,cut),rfl,hq,(by rw[zd7];exact h1),fun M' h'=>⟨M',Sub.refl _,r M' (back M' _ h')⟩⟩
theorem zhm{C:Cc}{ws:List W}{M:Mm}{R:K3}(h:zaT C ws M R):zbr C (zax R) (zaP zdL ws) M:=by
 obtain⟨E,M0,A,st,n,cut,c,kp,rfl,hs,hcut,sm,r⟩:=h
 show zbr C (zax R) [some (.ref A.s),some (.int n),some (zdK cut),some (cW c),none] M
 simp? only[zbr,zdK,L3.vFld]
 refine⟨_,zkq hcut,_,zec hcut,?_⟩
 rw[k4W]
 refine⟨A.s,A.d,_,_,rfl,hs.os,zfG,.inr ⟨_,.inr ⟨_,_,hs.or,rfl,rfl⟩,_,rfl,?_⟩⟩
 rw[zfF zko]
 cases hr:aget st.reached (zaz n cut) with
 | none=>
  rw[if_pos (by rfl)]
  refine zjM hs sm fun M' h'=>r M' ?_
  unfold reach;rw[hr];exact h'
 | some d=>
  rw[if_neg (by rw[if_pos rfl];simp)]
  refine⟨A.s,A.d,_,_,rfl,hs.os,zfG,ixT hs.or (by rw[zfF zko,hr];rfl) ⟨c.1,c.2,d.1,d.2,rfl,rfl,_,rfl,?_⟩⟩
  show if ltc c d=true then _ else _
  by_cases hl:ltc c d=true
  ·rw[if_pos hl]
   refine zjM hs sm fun M' h'=>r M' ?_
   unfold reach;rw[hr];simp only;rw[if_pos hl];exact h'
  ·rw[if_neg hl]
   refine⟨M,Sub.refl _,r M ?_⟩
   unfold reach;rw[hr];simp only;rw[if_neg hl];exact hs
theorem Sm.reach{st:SS}{k:Nat}(h:Sm st (k + 1))(n:Nat)(cut:List Int)(c:Cost):Sm (Rg.reach st n cut c) k:=by
 obtain⟨j,h1,h2,h3⟩:=zlA st n cut c
 have:=h.q
 have:=h.r
 exact⟨by omega,by omega⟩
theorem Sm.le{st:SS}{k j:Nat}(h:Sm st k)(hj:j≤k):Sm st j:=⟨by have:=h.q;omega,by have:=h.r;omega⟩
def zaG(f:α→Nat×List Int×Cost)(xs:List α)(st:SS):SS:=xs.foldl (fun st x=>reach st (f x).1 (f x).2.1 (f x).2.2) st
theorem zdC{f:α→Nat×List Int×Cost}{xs:List α}{st:SS}{i:Nat}{x:α}(h:xs[i]? = some x):zaG f (xs.take (i + 1)) st=reach (zaG f (xs.take i) st) (f x).1 (f x).2.1 (f x).2.2:=by
 unfold zaG
 rw[List.take_add_one,h,List.foldl_append];rfl
theorem zcZ{f:α→Nat×List Int×Cost}:∀ {xs:List α} {st:SS} {k:Nat},Sm st (xs.length + k)→Sm (zaG f xs st) k
 | [],st,k,h=>by simp at h;exact h
 | x :: xs,st,k,h=>by
  show Sm (zaG f xs (reach st (f x).1 (f x).2.1 (f x).2.2)) k
  exact zcZ (Sm.reach (by rw[List.length_cons] at h;exact h.le (by omega)) _ _ _)
theorem zcE{f:α→Nat×List Int×Cost}:∀ {xs:List α} {st:SS},(zaG f xs st).ends=st.ends∧(zaG f xs st).begun=st.begun∧(zaG f xs st).best=st.best
 | [],st=>⟨rfl,rfl,rfl⟩
 | x :: xs,st=>by
  have h1:=zcE (f:=f) (xs:=xs) (st:=reach st (f x).1 (f x).2.1 (f x).2.2)
  have h2:∀ n cut c,(reach st n cut c).ends=st.ends∧(reach st n cut c).begun=st.begun∧(reach st n cut c).best=st.best:=by
   intro n cut c
   unfold reach
   split
   ·split <;> exact⟨rfl,rfl,rfl⟩
   ·exact⟨rfl,rfl,rfl⟩
  obtain⟨a1,a2,a3⟩:=h2 (f x).1 (f x).2.1 (f x).2.2
  exact⟨h1.1.trans a1,h1.2.1.trans a2,h1.2.2.trans a3⟩
theorem zdW{C:Cc}{ws:List W}{M:Mm}{R:K3}(h:zaX C ws M R):zaC C (zax R) (zaP zbs ws) M:=by
 obtain⟨E,M0,A,st,n,cut,c,part,rfl,hs,hcut,hcl,sm,hb,hb2,r⟩:=h
 show zaC C (zax R) [some (.ref A.s),some (.int n),some (zdK cut),some (cW c),some (.tup [.str part,.int (cut.getLastD 0)]),none,none] M
 simp? only[zaC,L3.vFld]
 refine⟨A.s,A.d,_,_,rfl,hs.os,znR,hs.gput (z:=(n,cut,c)) hb hb2 fun M1 hs1=>?_⟩
 have hf:=hs1.ends_at (part,cut.getLastD 0)
 obtain⟨kvs,he,hc⟩:=hf
 refine⟨A.s,A.d,_,_,rfl,hs1.os,zqf,tyD he,_,.inr ⟨kvs,eK (part,cut.getLastD 0),he,rfl,rfl⟩,?_⟩
 rcases hc with⟨h1,h2⟩ | ⟨p,xs,h1,h2,hk⟩
 ·rw[h1]
  refine for3 (fun i τ M'=>M'=M1) rfl (fun _ _ _ _ _=>trivial) (fun i w τ M' hw=>nomatch hw) ?_
  rintro τ M' rfl
  refine⟨_,Sub.refl _,r _ ?_⟩
  unfold zaN
  rw[show aget st.ends (part,cut.getLastD 0)=none from h2]
  exact hs1
 ·rw[h1]
  obtain⟨f,hf⟩:∃ f:Int×Cost→Nat×List Int×Cost,f=fun z=>(n,cut ++ [z.1],addc c z.2):=⟨_,rfl⟩
  obtain⟨st1,hst1⟩:∃ st1,st1 = {st with begun:=zc8 st.begun (part,cut.getLastD 0) (n,cut,c)}:=⟨_,rfl⟩
  rw[←hst1] at hk
  have sm1:Sm st1 xs.length:=by
   rw[show aget st.ends (part,cut.getLastD 0)=some xs from h2] at sm
   rw[hst1];exact⟨sm.q,sm.r⟩
  refine⟨_,hk.kept,for3 (fun i τ M'=>∃ o5 o6,τ=[some (.ref A.s),some (.int n),some (zdK cut),some (cW c),some (.tup [.str part,.int (cut.getLastD 0)]),o5,o6]∧SK C E M0 M' A (zaG f (xs.take i) st1) (some (p,xs.map endW))) ⟨_,_,rfl,hk⟩ (fun i τ M' _ ⟨_,_,_,h⟩=>h.kept) ?_ ?_⟩
  ·rintro i w τ M' hw ⟨o5,o6,rfl,hk'⟩
   rw[List.getElem?_map] at hw
   obtain⟨z,hz,rfl⟩:=Option.map_eq_some_iff.mp hw
   have hi:=(List.getElem?_eq_some_iff.mp hz).1
   simp? only[endW,L3.zcu,zdK]
   have smi:Sm (zaG f (xs.take i) st1) 1:=zcZ (sm1.le (by rw[List.length_take];omega))
   have e1:W.tup (List.map W.int cut ++ [W.int z.1])=zdK (cut ++ [z.1]):=by unfold zdK;rw[List.map_append];rfl
   refine⟨A.s,A.d,_,rfl,hk'.os,zic,by simpa using hcut,by rw[List.length_map];omega,c,z.2,rfl,E,M0,A,_,n,cut ++ [z.1],addc c z.2,_,by rw[e1],hk',by simp,smi,fun M2 hk2=>⟨M2,Sub.refl _,_,_,rfl,?_⟩⟩
   rw[zdC hz,hf]
   rw[hf] at hk2
   exact hk2
  ·rintro τ M' ⟨o5,o6,rfl,hk'⟩
   rw[List.length_map,List.take_length] at hk'
   refine⟨_,Sub.refl _,r _ ?_⟩
   unfold zaN
   rw[show aget st.ends (part,cut.getLastD 0)=some xs from h2]
   rw[hst1,hf] at hk'
   exact hk'.free
end Rg
namespace Rg
open PySem PySem.Spec PyProof.Rows L2 L3
theorem zqj{rs:List Rule}{n:Nat}(h:n < rs.length):∃ r,rs[n]? = some r∧atI (rs.map zav) (n:Int)=some (zav r):=by
 refine⟨rs[n],List.getElem?_eq_getElem h,zg9 ?_⟩
 rw[List.getElem?_map,List.getElem?_eq_getElem h];rfl
theorem zr6{bs:Best}{k:Fact}{v:Cost×Nat×List Int}(h:aget bs k=none):putW (tabW fK zgM bs) (fK k) (zgM v)=tabW fK zgM (bs ++ [(k,v)]):=by
 rw[zqe znQ,ziL h]
theorem zgQ{C:Cc}{ws:List W}{M:Mm}{R:K3}(h:zbK C ws M R):zbh C (zax R) (zaP zdh ws) M:=by
 obtain⟨G,E,M0,A,st,n,cut,c,rfl,hs,hG,hn,hcut,hbg,sm,hb,he,hel,r⟩:=h
 show zbh C (zax R) [some (.ref A.s),some (.int n),some (zdK cut),some (cW c),none,none,none,none,none] M
 obtain⟨ru,hr1,hr2⟩:=zqj hn
 obtain⟨nm,hnm⟩:∃ nm,nm=ru.name:=⟨_,rfl⟩
 have hfn:fnm G n=nm:=by unfold fnm;rw[hG,hr1,hnm]
 simp? only[zbh,zdw,zdx,zdy,zdK,L3.vFld]
 refine⟨A.s,A.d,_,_,rfl,hs.os,zjK,_,hr2,?_⟩
 simp? only[zav]
 rw[←hnm]
 obtain⟨hd,hhd⟩:∃ hd,hd=cut.headD 0:=⟨_,rfl⟩
 obtain⟨la,hla⟩:∃ la,la=cut.getLastD 0:=⟨_,rfl⟩
 have hfact:zaF G n cut=(nm,hd,la):=by unfold zaF;rw[hfn,hhd,hla]
 refine⟨_,zkq hcut,_,zec hcut,by simp,A.s,A.d,_,_,rfl,hs.os,zmY,?_⟩
 rw[hfn,←hhd] at sm hel
 rw[←hhd,←hla]
 refine .inr ⟨_,.inr ⟨_,fK (nm,hd,la),hs.ob,rfl,rfl⟩,_,rfl,?_⟩
 rw[zfF znQ]
 cases hbst:aget st.best (nm,hd,la) with
 | some v=>
  rw[if_pos (by simp)]
  refine⟨M,Sub.refl _,r M ?_⟩
  unfold zer;rw[hfact,hbst];exact hs
 | none=>
  rw[if_neg (by simp)]
  simp? only[zdz,L3.vFld]
  refine⟨A.s,A.d,_,_,rfl,hs.os,zmY,?_⟩
  refine setT (k:=fK (nm,hd,la)) hs.ob (zbE (by rw[List.length_map];exact hb)) ?_
  have eb:W.tup [cW c,W.int n,W.tup (List.map W.int cut)]=zgM (c,n,cut):=rfl
  rw[eb,zr6 hbst]
  have hs1:=hs.bput (st.best ++ [((nm,hd,la),c,n,cut)])
  simp? only[zdA,L3.vFld]
  refine⟨A.s,A.d,_,_,rfl,hs1.os,zqf,?_⟩
  simp only[zec hcut,Option.some.injEq,exists_eq_left']
  rw[←hla]
  refine hs1.eput (z:=(la,c)) he hel fun M1 hs2=>?_
  obtain⟨st1,hst1⟩:∃ st1:SS,st1 = {st with best:=st.best ++ [((nm,hd,la),c,n,cut)],ends:=zc8 st.ends (nm,hd) (la,c)}:=⟨_,rfl⟩
  have hs2:SR C E M0 M1 A st1:=by rw[hst1];exact hs2
  have hset:∀ xs,(aget st.begun (nm,hd)).getD []=xs→zer G st n cut c=zaG (fun y:It3=>(y.1,y.2.1 ++ [la],addc y.2.2 c)) xs st1:=fun xs hx=>by
   unfold zer
   rw[hfact,hbst,hfn,←hhd,←hla,hx,hst1];rfl
  have hbeg:st1.begun=st.begun:=by rw[hst1]
  simp? only[zdB,L3.vFld]
  obtain⟨kvs,hg,hc⟩:=hs2.begun_at (nm,hd)
  refine⟨A.s,A.d,_,_,rfl,hs2.os,znR,tyD hg,_,.inr ⟨kvs,eK (nm,hd),hg,rfl,rfl⟩,?_⟩
  rcases hc with⟨h1,h2⟩ | ⟨p,xs,h1,h2,hk⟩
  ·rw[h1]
   refine for3 (fun i τ M'=>M'=M1) rfl (fun _ _ _ _ _=>trivial) (fun i w τ M' hw=>nomatch hw) ?_
   rintro τ M' rfl
   refine⟨_,Sub.refl _,r _ ?_⟩
   rw[hset [] (by rw[hbeg] at h2;rw[h2];rfl)]
   exact hs2
  ·rw[h1]
   rw[hbeg] at h2
   obtain⟨f,hf⟩:∃ f:It3→Nat×List Int×Cost,f=fun y=>(y.1,y.2.1 ++ [la],addc y.2.2 c):=⟨_,rfl⟩
   have sm1:Sm st1 xs.length:=by
    rw[h2] at sm
    rw[hst1];exact⟨sm.q,sm.r⟩
   have hbx:∀ y∈xs,y.2.1.length < 1000∧y.2.1≠[]:=fun y hy=>hbg (nm,hd) y (by rw[h2];exact hy)
   refine⟨_,hk.kept,for3 (fun i τ M'=>∃ o6 o7 o8,τ=[some (.ref A.s),some (.int n),some (.tup (cut.map W.int)),some (cW c),some (.tup [.str nm,.int hd]),some (.tup ([.str nm,.int hd] ++ [.int la])),o6,o7,o8]∧SK C E M0 M' A (zaG f (xs.take i) st1) (some (p,xs.map begW))) ⟨_,_,_,rfl,hk⟩ (fun i τ M' _ ⟨_,_,_,_,h⟩=>h.kept) ?_ ?_⟩
   ·rintro i w τ M' hw ⟨o6,o7,o8,rfl,hk'⟩
    rw[List.getElem?_map] at hw
    obtain⟨y,hy,rfl⟩:=Option.map_eq_some_iff.mp hw
    have hi:=(List.getElem?_eq_some_iff.mp hy).1
    obtain⟨hyl,hyn⟩:=hbx y (List.mem_of_getElem? hy)
    simp? only[begW,zdi,L3.zcu,zdK]
    have smi:Sm (zaG f (xs.take i) st1) 1:=zcZ (sm1.le (by rw[List.length_take];omega))
    have e1:W.tup (List.map W.int y.2.1 ++ [W.int la])=zdK (y.2.1 ++ [la]):=by unfold zdK;rw[List.map_append];rfl
    refine⟨A.s,A.d,_,rfl,hk'.os,zic,_,zec hcut,by simpa using hyn,by rw[List.length_map];omega,y.2.2,c,rfl,E,M0,A,_,y.1,y.2.1 ++ [la],addc y.2.2 c,_,by rw[←hla,e1],hk',by simp,smi,fun M2 hk2=>⟨M2,Sub.refl _,_,_,_,rfl,?_⟩⟩
    rw[zdC hy,hf]
    rw[hf] at hk2
    exact hk2
   ·rintro τ M' ⟨o6,o7,o8,rfl,hk'⟩
    rw[List.length_map,List.take_length] at hk'
    refine⟨_,Sub.refl _,r _ ?_⟩
    rw[hset xs (by rw[h2];rfl),←hf]
    exact hk'.free
end Rg
namespace Rg
open PySem PySem.Spec PyProof.Rows L2 L3
theorem ze9{C:Cc}{ws:List W}{M:Mm}{R:K3}(h:zba C ws M R):zaU C (zax R) (zaP zb1 ws) M:=by
 obtain⟨G,E,M0,A,st,rfl,hs,ev,hq,rm,r⟩:=h
 show zaU C (zax R) [some (.ref A.s),none,none,none,none,none,none,none] M
 obtain⟨c,x,q',e1,f1,m1,l1,_,_⟩:=zck hs.fall hq
 obtain⟨n,cut⟩:=x
 obtain⟨hcut,hcl,hn,d,hd⟩:=rm.item c n cut q' e1
 obtain⟨M3,hQ,back⟩:=hs.que
 obtain⟨st1,hst1⟩:∃ st1:SS,st1 = {st with q:=q'}:=⟨_,rfl⟩
 simp? only[zaU,zcx,zcy,zcz,zcA,zcB,L3.zcu,L3.vFld]
 refine⟨A.s,A.d,_,_,rfl,hs.os,zkp,A.Q.o,A.Q.d,_,rfl,hQ.ob,zuP,M3,A.Q,_,c,(n,cut),q',rfl,hQ,e1,fun M1 hQ1=>?_⟩
 have hs1:SR C E M0 M1 A st1:=by rw[hst1];exact back M1 q' hQ1
 simp? only[itW,zdK]
 have smq:∀ k,Sm st k→Sm st1 k:=fun k h=>by
  have:=h.q
  have:=h.r
  rw[hst1]
  exact⟨by show(els q').length + k < _;omega,by show st.reached.length + k < _;omega⟩
 refine⟨A.s,A.d,_,_,rfl,hs1.os,zfG,_,zkq hcut,_,zec hcut,?_⟩
 rw[k4W]
 refine ixT hs1.or (by rw[zfF zko,hst1];show(aget st.reached _).map _=_;rw[hd];rfl) ⟨d.1,d.2,c.1,c.2,rfl,rfl,_,rfl,?_⟩
 show if ltc d c=true then _ else _
 by_cases hl:ltc d c=true
 ·rw[if_pos hl]
  refine⟨M1,Sub.refl _,r M1 ?_⟩
  unfold zdu
  rw[e1]
  simp only
  rw[hd]
  simp only
  rw[if_pos hl,←hst1];exact hs1
 rw[if_neg hl]
 have htn:zdu G st=process G st1 n cut c:=by
  unfold zdu
  rw[e1]
  simp only
  rw[hd]
  simp only
  rw[if_neg hl,←hst1]
 rw[htn] at r
 rw[ev.rs] at hn
 obtain⟨ru,hr1,hr2⟩:=zqj hn
 simp? only[zcC,L3.vFld]
 refine⟨A.s,A.d,_,_,rfl,hs1.os,zjK,_,hr2,?_⟩
 simp? only[zav,zcD]
 have hpart:zaQ G n cut=ru.parts[cut.length - 1]?:=by unfold zaQ;rw[ev.rs,hr1]
 have hpos:=List.length_pos_iff.mpr hcut
 by_cases hlen:ru.parts.length < cut.length
 ·rw[if_pos (by rw[List.length_map,List.length_map];omega)]
  simp? only[L3.zcu]
  have hp:zaQ G n cut=none:=by rw[hpart];exact List.getElem?_eq_none (by omega)
  refine⟨A.s,A.d,_,rfl,hs1.os,zqg,G,E,M0,A,st1,n,cut,c,rfl,hs1,ev.rs,hn,hcut,?_,?_,?_,?_,?_,fun M2 hs2=>⟨M2,Sub.refl _,r M2 ?_⟩⟩
  ·rw[hst1];exact rm.bg
  ·rw[show st1.begun=st.begun by rw[hst1]];exact smq _ (rm.gl _).2
  ·rw[hst1];exact rm.b
  ·rw[hst1];exact rm.e
  ·rw[hst1];exact(rm.el _).1
  ·unfold process;rw[hp];exact hs2
 ·rw[if_neg (by rw[List.length_map,List.length_map];omega)]
  obtain⟨part,hp⟩:∃ part,ru.parts[cut.length - 1]? = some part:=⟨_,List.getElem?_eq_getElem (by omega)⟩
  rw[hp] at hpart
  have hat:atI (ru.parts.map W.str) ((List.map W.int cut).length - 1)=some (.str part):=by
   rw[List.length_map,show((cut.length:Int) - 1)=((cut.length - 1:Nat):Int) by omega]
   exact zg9 (by rw[List.getElem?_map,hp];rfl)
  simp only[hat,Option.some.injEq,exists_eq_left',zec hcut]
  simp? only[L3.vFld,L3.zcu,hat,zec hcut,Option.some.injEq,exists_eq_left']
  refine⟨A.s,A.d,_,_,rfl,hs1.os,zwS,_,⟨Sum.inr part,rfl,rfl⟩,_,rfl,?_⟩
  rw[show(if false=true then !(zam E.own (Sum.inr part:Key)).isSome else(zam E.own (Sum.inr part:Key)).isSome)=G.own part by rw[←ev.own];rfl]
  cases ho:G.own part with
  | true=>
   rw[if_pos rfl]
   refine⟨A.s,A.d,_,rfl,hs1.os,ziK,E,M0,A,st1,n,cut,c,part,rfl,hs1,hcut,hcl,?_,?_,?_,fun M2 hs2=>⟨M2,Sub.refl _,r M2 ?_⟩⟩
   ·rw[show st1.ends=st.ends by rw[hst1]];exact smq _ (rm.el _).2
   ·rw[hst1];exact rm.g
   ·rw[hst1];exact(rm.gl _).1
   ·unfold process;rw[hpart];simp only;rw[if_pos ho];exact hs2
  | false=>
   rw[if_neg (by decide)]
   have hpr:process G st1 n cut c=zaG (fun z:Int×Int=>(n,cut ++ [z.1],(c.1 + z.2,c.2))) (G.steps part (cut.getLastD 0)) st1:=by
    unfold process;rw[hpart];simp only;rw[if_neg (by rw[ho];decide)];rfl
   rw[hpr] at r
   obtain⟨xs,hxs⟩:∃ xs,xs=G.steps part (cut.getLastD 0):=⟨_,rfl⟩
   obtain⟨f,hf⟩:∃ f:Int×Int→Nat×List Int×Cost,f=fun z=>(n,cut ++ [z.1],(c.1 + z.2,c.2)):=⟨_,rfl⟩
   rw[←hxs,←hf] at r
   have sm1:Sm st1 xs.length:=by rw[hxs];exact smq _ (rm.sl _ _)
   refine⟨A.s,A.d,_,_,rfl,hs1.os,zr4,rfl,_,⟨eK (part,cut.getLastD 0),rfl,rfl⟩,?_⟩
   have hval:(zam E.stp (eK (part,cut.getLastD 0))).getD (.rl [])=.rl (xs.map fun z=>.tup [.int z.1,.int z.2]):=by
    rcases ev.stp part (cut.getLastD 0) with⟨h1,h2⟩ | h1
    ·rw[h1,hxs,h2];rfl
    ·rw[h1,hxs];rfl
   rw[hval]
   refine for3 (fun i τ M'=>∃ o6 o7,τ=[some (.ref A.s),some (.tup [cW c,.tup [.int n,.tup (cut.map W.int)]]),some (cW c),some (.int n),some (.tup (cut.map W.int)),some (.tup (ru.parts.map W.str)),o6,o7]∧SR C E M0 M' A (zaG f (xs.take i) st1)) ⟨_,_,rfl,hs1⟩ (fun _ _ _ _ _=>trivial) ?_ ?_
   ·rintro i w τ M' hw ⟨o6,o7,rfl,hk'⟩
    rw[List.getElem?_map] at hw
    obtain⟨z,hz,rfl⟩:=Option.map_eq_some_iff.mp hw
    have hi:=(List.getElem?_eq_some_iff.mp hz).1
    simp? only[cW,L3.zcu]
    have smi:Sm (zaG f (xs.take i) st1) 1:=zcZ (sm1.le (by rw[List.length_take];omega))
    have e1:W.tup (List.map W.int cut ++ [W.int z.1])=zdK (cut ++ [z.1]):=by unfold zdK;rw[List.map_append];rfl
    refine⟨A.s,A.d,_,rfl,hk'.os,zic,by simpa using hcut,by rw[List.length_map];omega,E,M0,A,_,n,cut ++ [z.1],(c.1 + z.2,c.2),_,by rw[e1];rfl,hk',by simp,smi,fun M2 hk2=>⟨M2,Sub.refl _,_,_,rfl,?_⟩⟩
    rw[zdC hz,hf]
    rw[hf] at hk2
    exact hk2
   ·rintro τ M' ⟨o6,o7,rfl,hk'⟩
    rw[List.length_map,List.take_length] at hk'
    exact⟨_,Sub.refl _,r _ hk'⟩
end Rg
namespace Rg
open PySem PySem.Spec PyProof.Rows L2 L3
theorem zdD{f:Str}{w:W}:∀ {fs:List (Str×W)},f∉fs.map Prod.fst→putG f w fs=fs ++ [(f,w)]
 | [],_=>rfl
 | (k,x) :: r,h=>by
  rw[List.map_cons,List.mem_cons,not_or] at h
  rw[putG,if_neg (Ne.symm h.1),zdD h.2];rfl
theorem zqk{E:Env}{A:Ad}:putG "queue" (W.ref A.Q.o) ([("grammar",(rlW E.rs)),("own",(W.dk E.own)),("steps",(W.dt E.stp))]:List (Str×W))=([("grammar",(rlW E.rs)),("own",(W.dk E.own)),("steps",(W.dt E.stp)),("queue",(W.ref A.Q.o))]:List (Str×W)):=zdD (by show("queue" : Str)∉[("grammar" : Str),("own" : Str),("steps" : Str)];decide +kernel)
theorem zm1{E:Env}{A:Ad}:putG "reached" (W.ref A.r) ([("grammar",(rlW E.rs)),("own",(W.dk E.own)),("steps",(W.dt E.stp)),("queue",(W.ref A.Q.o))]:List (Str×W))=([("grammar",(rlW E.rs)),("own",(W.dk E.own)),("steps",(W.dt E.stp)),("queue",(W.ref A.Q.o)),("reached",(W.ref A.r))]:List (Str×W)):=zdD (by show("reached" : Str)∉[("grammar" : Str),("own" : Str),("steps" : Str),("queue" : Str)];decide +kernel)
theorem zr7{E:Env}{A:Ad}:putG "best" (W.ref A.b) ([("grammar",(rlW E.rs)),("own",(W.dk E.own)),("steps",(W.dt E.stp)),("queue",(W.ref A.Q.o)),("reached",(W.ref A.r))]:List (Str×W))=([("grammar",(rlW E.rs)),("own",(W.dk E.own)),("steps",(W.dt E.stp)),("queue",(W.ref A.Q.o)),("reached",(W.ref A.r)),("best",(W.ref A.b))]:List (Str×W)):=zdD (by show("best" : Str)∉[("grammar" : Str),("own" : Str),("steps" : Str),("queue" : Str),("reached" : Str)];decide +kernel)
theorem zr8{E:Env}{A:Ad}:putG "ends" (W.ref A.e) ([("grammar",(rlW E.rs)),("own",(W.dk E.own)),("steps",(W.dt E.stp)),("queue",(W.ref A.Q.o)),("reached",(W.ref A.r)),("best",(W.ref A.b))]:List (Str×W))=([("grammar",(rlW E.rs)),("own",(W.dk E.own)),("steps",(W.dt E.stp)),("queue",(W.ref A.Q.o)),("reached",(W.ref A.r)),("best",(W.ref A.b)),("ends",(W.ref A.e))]:List (Str×W)):=zdD (by show("ends" : Str)∉[("grammar" : Str),("own" : Str),("steps" : Str),("queue" : Str),("reached" : Str),("best" : Str)];decide +kernel)
theorem zql{E:Env}{A:Ad}:putG "begun" (W.ref A.g) ([("grammar",(rlW E.rs)),("own",(W.dk E.own)),("steps",(W.dt E.stp)),("queue",(W.ref A.Q.o)),("reached",(W.ref A.r)),("best",(W.ref A.b)),("ends",(W.ref A.e))]:List (Str×W))=([("grammar",(rlW E.rs)),("own",(W.dk E.own)),("steps",(W.dt E.stp)),("queue",(W.ref A.Q.o)),("reached",(W.ref A.r)),("best",(W.ref A.b)),("ends",(W.ref A.e)),("begun",(W.ref A.g))]:List (Str×W)):=zdD (by show("begun" : Str)∉[("grammar" : Str),("own" : Str),("steps" : Str),("queue" : Str),("reached" : Str),("best" : Str),("ends" : Str)];decide +kernel)
theorem zuR{E:Env}{A:Ad}:putG "begun" (.ref A.g) (putG "ends" (.ref A.e) (putG "best" (.ref A.b) (putG "reached" (.ref A.r) (putG "queue" (.ref A.Q.o) ([("grammar",(rlW E.rs)),("own",(W.dk E.own)),("steps",(W.dt E.stp))]:List (Str×W))))))=sf E A:=by
 rw[zqk,zm1,zr7,zr8,zql];rfl
theorem zgR{C:Cc}{B Mt:Mm}{A:Aq}{q:Qu}{s dx p:Addr}{fs fs':List (Str×W)}(hQ:QR C B Mt A q)(hB:B s=some (.ins C.s dx fs))(hp:Mt p=none):p≠s∧B p=none∧put Mt p (.dT []) s=some (.ins C.s dx fs)∧QR C (put (put B p (.dT [])) s (.ins C.s dx fs')) (put (put Mt p (.dT [])) s (.ins C.s dx fs')) A q:=by
 have hs:=hQ.sub _ _ hB
 have ne:p≠s:=fun e=>by rw[e,hs] at hp;cases hp
 exact⟨ne,hQ.sub.non hp,by rw[zaf (Ne.symm ne)];exact hs,(hQ.lift (.inl hp)).lift (.inr ⟨_,by rw[zaf (Ne.symm ne)];exact hB⟩)⟩
theorem zgS(f:Str)(w:W):∀ fs:List (Str×W),(putG f w fs).length≤fs.length + 1
 | []=>Nat.le_refl _
 | (k,x) :: r=>by
  rw[putG]
  split
  ·simp
  ·have:=zgS f w r
   simp only[List.length_cons];omega
theorem zhU{C:Cc}{ws:List W}{M:Mm}{R:K3}(h:zcn C ws M R):zbF C (zax R) (zaP zd9 ws) M:=by
 obtain⟨M0,s,dx,rs,stp,rfl,hl,rfl,h0,r⟩:=h
 show zbF C (zax R) [some (.ref s),some (rlW rs),some (.dt stp)] (put M0 s (.ins C.s dx []))
 simp? only[zbF,zes,zet,zeu,rlW,L3.zgc]
 refine⟨s,dx,_,rfl,zad,by decide,?_⟩
 rw[zd2]
 have e2:∀ w:W,putG "own" w (putG "grammar" (.rl (rs.map zav)) [])=([("grammar",rlW rs),("own",w)]:List (Str×W)):=fun w=>zdD (by show("own" : Str)∉[("grammar" : Str)];decide +kernel)
 have e3:∀ w:W,putG "steps" w ([("grammar",rlW rs),("own",.dk (zhk rs))]:List (Str×W))=([("grammar",rlW rs),("own",.dk (zhk rs)),("steps",w)]:List (Str×W)):=fun w=>zdD (by show("steps" : Str)∉[("grammar" : Str),"own"];decide +kernel)
 refine⟨rs,rfl,hl,New.frz ⟨zak rs,rfl,?_,s,dx,_,rfl,zad,(show(1:Nat) < 1000 by decide),s,dx,_,rfl,zad,?_,?_⟩⟩
 ·have:=zd6 (rs.map Rule.name) []
  rw[List.length_map] at this
  unfold zak zc7
  simp at this
  simp;omega
 ·rw[e2];exact(show(2:Nat) < 1000 by decide)
 rw[zd2,zd2,e2]
 show zcP C _ _ (put M0 s (.ins C.s dx (putG "steps" (.dt stp) [("grammar",rlW rs),("own",.dk (zhk rs))])))
 rw[e3]
 simp? only[zcP,L3.zgc,L3.zoE]
 intro a da ha hda hne
 have hsa:s≠a:=fun e=>by rw[←e,zad] at ha;cases ha
 obtain⟨F3,hF3⟩:∃ F:List (Str×W),F=([("grammar",rlW rs),("own",.dk (zhk rs)),("steps",.dt stp)]:List (Str×W)):=⟨_,rfl⟩
 rw[←hF3] at ha hda ⊢
 refine⟨_,a,da,rfl,rfl,ha,fun M1 Aq hAq hQ=>⟨rfl,s,dx,F3,rfl,hQ.sub _ _ zad,by rw[hF3];exact(show(3:Nat) < 1000 by decide),?_⟩⟩
 have hQ1:=hQ.lift (p:=s) (o:=.ins C.s dx (putG "queue" (.ref a) F3)) (.inr ⟨_,zad⟩)
 rw[zd2] at hQ1
 obtain⟨F4,hF4⟩:∃ F:List (Str×W),F=putG "queue" (.ref a) F3:=⟨_,rfl⟩
 have l4:F4.length≤4:=by rw[hF4];have:=zgS "queue" (.ref a) F3;rw[hF3] at this ⊢;exact this
 rw[←hF4] at hQ1 ⊢
 obtain⟨Mt,hMt⟩:∃ m,m=put M1 s (.ins C.s dx F4):=⟨_,rfl⟩
 rw[←hMt] at hQ1 ⊢
 simp? only[zev,zew,zex,zey,L3.zgc]
 intro p1 hp1
 obtain⟨n1,b1,o1,hQ2⟩:=zgR (fs':=putG "reached" (.ref p1) F4) hQ1 zad hp1
 refine⟨s,dx,F4,rfl,o1,by omega,?_⟩
 intro p2 hp2
 obtain⟨n2,b2,o2,hQ3⟩:=zgR (fs':=putG "best" (.ref p2) (putG "reached" (.ref p1) F4)) hQ2 zad hp2
 have l5:=zgS "reached" (.ref p1) F4
 refine⟨s,dx,_,rfl,o2,by omega,?_⟩
 intro p3 hp3
 obtain⟨n3,b3,o3,hQ4⟩:=zgR (fs':=putG "ends" (.ref p3) (putG "best" (.ref p2) (putG "reached" (.ref p1) F4))) hQ3 zad hp3
 have l6:=zgS "best" (.ref p2) (putG "reached" (.ref p1) F4)
 refine⟨s,dx,_,rfl,o3,by omega,?_⟩
 intro p4 hp4
 obtain⟨n4,b4,o4,hQ5⟩:=zgR (fs':=putG "begun" (.ref p4) (putG "ends" (.ref p3) (putG "best" (.ref p2) (putG "reached" (.ref p1) F4)))) hQ4 zad hp4
 have l7:=zgS "ends" (.ref p3) (putG "best" (.ref p2) (putG "reached" (.ref p1) F4))
 refine⟨s,dx,_,rfl,o4,by omega,_,Sub.refl _,r _ ⟨s,dx,Aq,p1,p2,p3,p4⟩ rfl ?_⟩
 obtain⟨A,hA⟩:∃ A:Ad,A=⟨s,dx,Aq,p1,p2,p3,p4⟩:=⟨_,rfl⟩
 obtain⟨E,hE⟩:∃ E:Env,E=⟨rs,zhk rs,stp⟩:=⟨_,rfl⟩
 have hsf:putG "begun" (.ref p4) (putG "ends" (.ref p3) (putG "best" (.ref p2) (putG "reached" (.ref p1) F4)))=sf E A:=by
  rw[←zuR,hF4,hF3,hA,hE,←hAq]
 rw[hsf] at hQ5 ⊢
 rw[←hA,←hE]
 have c21:p2≠p1:=fun e=>by rw[e,zaf n1,zad] at b2;cases b2
 have c31:p3≠p1:=fun e=>by rw[e,zaf n1,zaf (Ne.symm c21),zaf n1,zad] at b3;cases b3
 have c32:p3≠p2:=fun e=>by rw[e,zaf n2,zad] at b3;cases b3
 have c41:p4≠p1:=fun e=>by rw[e,zaf n1,zaf (Ne.symm c31),zaf n1,zaf (Ne.symm c21),zaf n1,zad] at b4;cases b4
 have c42:p4≠p2:=fun e=>by rw[e,zaf n2,zaf (Ne.symm c32),zaf n2,zad] at b4;cases b4
 have c43:p4≠p3:=fun e=>by rw[e,zaf n3,zad] at b4;cases b4
 have z1:M0 p1=none:=by rw[zaf n1] at b1;exact b1
 have z2:M0 p2=none:=by rw[zaf n2,zaf c21,zaf n2] at b2;exact b2
 have z3:M0 p3=none:=by rw[zaf n3,zaf c32,zaf n3,zaf c31,zaf n3] at b3;exact b3
 have z4:M0 p4=none:=by rw[zaf n4,zaf c43,zaf n4,zaf c42,zaf n4,zaf c41,zaf n4] at b4;exact b4
 obtain⟨N1,hN1⟩:∃ m,m=put (put (put M0 s (.ins C.s dx (sf E A))) p1 (.dT [])) p2 (.dT []):=⟨_,rfl⟩
 have hB:put (put (put (put (put (put (put (put (put M0 s (.ins C.s dx F4)) p1 (.dT [])) s (.ins C.s dx (putG "reached" (.ref p1) F4))) p2 (.dT [])) s (.ins C.s dx (putG "best" (.ref p2) (putG "reached" (.ref p1) F4)))) p3 (.dT [])) s (.ins C.s dx (putG "ends" (.ref p3) (putG "best" (.ref p2) (putG "reached" (.ref p1) F4))))) p4 (.dT [])) s (.ins C.s dx (sf E A))=put (put N1 p3 (.dT [])) p4 (.dT []):=by
  rw[hN1]
  funext b
  unfold put
  by_cases g0:b=s
  ·subst g0;simp[Ne.symm n1,Ne.symm n2,Ne.symm n3,Ne.symm n4]
  ·simp only[if_neg g0]
 rw[hB] at hQ5
 have mn:Mn C E M0 N1 A [] []:=by
  rw[hN1,hA]
  exact⟨zbq (zbq (zbq (Sub.refl _) h0) z1) z2,h0,z1,z2,Ne.symm n1,Ne.symm n2,Ne.symm c21,by rw[zaf (Ne.symm n2),zaf (Ne.symm n1),zad],by rw[zaf (Ne.symm c21),zad];rfl,by rw[zad];rfl⟩
 have y3:N1 p3=none:=by rw[hN1,zaf c32,zaf c31,zaf n3];exact z3
 have y4:N1 p4=none:=by rw[hN1,zaf c42,zaf c41,zaf n4];exact z4
 have t1:Tab eK N1 (put N1 p3 (.dT [])) A.e [] (eG []):=by rw[hA];exact⟨Sub.new y3,y3,zad,(fun _ _=>rfl),(fun k ws e=>nomatch e),(fun k j p e=>nomatch e)⟩
 have x4:put N1 p3 (.dT []) p4=none:=by rw[zaf c43];exact y4
 have t2:Tab eK (put N1 p3 (.dT [])) (put (put N1 p3 (.dT [])) p4 (.dT [])) A.g [] (gG []):=by rw[hA];exact⟨Sub.new x4,x4,zad,(fun _ _=>rfl),(fun k ws e=>nomatch e),(fun k j p e=>nomatch e)⟩
 have hAQ:A.Q=Aq:=by rw[hA]
 rw[←hAQ] at hQ5
 exact⟨N1,_,_,[],[],mn,t1,t2,hQ5,Nat.le_refl _,Nat.le_refl _,trivial⟩
end Rg
namespace Rg
open PySem PySem.Spec PyProof.Rows L2 L3
structure Ln(st:SS)(T:Nat):Prop where
 b:st.best.length≤T
 e:st.ends.length≤T
 g:st.begun.length≤T
theorem Ln.process{G:Sr}{st:SS}{T:Nat}(h:Ln st T)(n:Nat)(cut:List Int)(c:Cost):Ln (Rg.process G st n cut c) (T + 1):=by
 have h1:=h.b
 have h2:=h.e
 have h3:=h.g
 have keep:Ln st (T + 1):=⟨by omega,by omega,by omega⟩
 unfold Rg.process
 split
 ·unfold zer
  split
  ·exact keep
  ·obtain⟨a1,a2,a3⟩:=zcE (f:=fun y:It3=>(y.1,y.2.1 ++ [cut.getLastD 0],addc y.2.2 c)) (xs:=(aget st.begun (fnm G n,cut.headD 0)).getD []) (st:={st with best:=st.best ++ [(zaF G n cut,c,n,cut)],ends:=zc8 st.ends (fnm G n,cut.headD 0) (cut.getLastD 0,c)})
   refine⟨?_,?_,?_⟩
   ·refine Nat.le_trans (Nat.le_of_eq (congrArg List.length a3)) ?_
    show(st.best ++ [_]).length≤_
    rw[List.length_append,List.length_singleton];omega
   ·refine Nat.le_trans (Nat.le_of_eq (congrArg List.length a1)) ?_
    have:=zh9 st.ends (fnm G n,cut.headD 0) ((aget st.ends (fnm G n,cut.headD 0)).getD [] ++ [(cut.getLastD 0,c)])
    show(aput _ _ _).length≤_
    omega
   ·refine Nat.le_trans (Nat.le_of_eq (congrArg List.length a2)) ?_
    exact keep.g
 ·rename_i part _
  split
  ·unfold zaN
   obtain⟨a1,a2,a3⟩:=zcE (f:=fun z:Int×Cost=>(n,cut ++ [z.1],addc c z.2)) (xs:=(aget st.ends (part,cut.getLastD 0)).getD []) (st:={st with begun:=zc8 st.begun (part,cut.getLastD 0) (n,cut,c)})
   refine⟨?_,?_,?_⟩
   ·exact Nat.le_trans (Nat.le_of_eq (congrArg List.length a3)) keep.b
   ·exact Nat.le_trans (Nat.le_of_eq (congrArg List.length a1)) keep.e
   ·refine Nat.le_trans (Nat.le_of_eq (congrArg List.length a2)) ?_
    have:=zh9 st.begun (part,cut.getLastD 0) ((aget st.begun (part,cut.getLastD 0)).getD [] ++ [(n,cut,c)])
    show(aput _ _ _).length≤_
    omega
  ·unfold zaO
   obtain⟨a1,a2,a3⟩:=zcE (f:=fun z:Int×Int=>(n,cut ++ [z.1],(c.1 + z.2,c.2))) (xs:=G.steps part (cut.getLastD 0)) (st:=st)
   exact⟨Nat.le_trans (Nat.le_of_eq (congrArg List.length a3)) keep.b,Nat.le_trans (Nat.le_of_eq (congrArg List.length a1)) keep.e,Nat.le_trans (Nat.le_of_eq (congrArg List.length a2)) keep.g⟩
theorem Ln.next{G:Sr}{st:SS}{T:Nat}(h:Ln st T):Ln (zdu G st) (T + 1):=by
 have h1:=h.b
 have h2:=h.e
 have h3:=h.g
 have keep:Ln st (T + 1):=⟨by omega,by omega,by omega⟩
 have hq:∀ q',Ln {st with q:=q'} T:=fun q'=>⟨h1,h2,h3⟩
 unfold zdu
 split
 ·exact keep
 ·split
  ·split
   ·exact⟨keep.b,keep.e,keep.g⟩
   ·exact(hq _).process _ _ _
  ·exact⟨keep.b,keep.e,keep.g⟩
theorem zxQ{G:Sr}{V:List Int}{L S I0 T:Nat}{st:SS}{P:List It3}{cur:Cost}(v:SrV G V G.rs.length L)(hL:L < 1000)(A:All G S I0 st P cur T)(hS:∀ t p,(G.steps t p).length≤S)(ln:Ln st T)
  (hb:I0 + G.rs.length * ((L + 1) * (V.length * V.length)) * (S + V.length) + G.rs.length * ((L + 1) * (V.length * V.length)) + V.length + S + 1 < 10000000):Rm G st:=by
 obtain⟨f1,f2,f3⟩:=zmP v A
 have hin:∀ {n cut c},GI G st.best n cut c→DI G n cut c:=fun {n cut c} g=>zuC (B:=st.best) (fun f m n' cut' h=>ziB A.ob h) g
 have hr:=A.cn.rch
 generalize G.rs.length * ((L + 1) * (V.length * V.length))=X at *
 generalize X * (S + V.length)=Y at *
 have h1:=ln.b
 have h2:=ln.e
 have h3:=ln.g
 have hg:∀ key,((aget st.begun key).getD []).length≤X:=fun key=>by
  have:=zcN (b:=P) (A.cn.bnd key) fun y hy=>(A.ob.bgn key y hy).1
  omega
 refine⟨fun c n cut q' e=>?_,fun key y hy=>?_,by omega,by omega,by omega,fun key=>?_,fun key=>?_,fun t p=>?_⟩
 ·have hne:st.q≠[]:=fun z=>by rw[z] at e;cases e
  obtain⟨_,_,_,e1,_,m1,_⟩:=zck A.inv.fall hne
  rw[e] at e1
  cases e1
  have hm:(c,(n,cut))∈els st.q:=(m1 _).mpr (.inl rfl)
  have hd:=hin (A.inv.item _ hm)
  obtain⟨_,g2,g3⟩:=zpZ v hd
  obtain⟨d,g4,_⟩:=A.inv.ge _ hm
  exact⟨hd.ne,by have g3:cut.length≤L:=g3;omega,g2,d,g4⟩
 ·have hd:=hin (A.inv.pr y (A.ob.bgn key y hy).1).2.2
  obtain⟨_,g2,g3⟩:=zpZ v hd
  exact⟨by omega,hd.ne⟩
 ·have:=f2 key
  exact⟨by omega,⟨by omega,by omega⟩⟩
 ·have:=hg key
  exact⟨by omega,⟨by omega,by omega⟩⟩
 ·have:=hS t p
  exact⟨by omega,by omega⟩
def zdM(G:Sr)(i:Nat):List (Nat×Int):=(List.range i).flatMap fun n=>G.places.map fun p=>(n,p)
theorem zlP(G:Sr)(i:Nat):zdM G (i + 1)=zdM G i ++ G.places.map fun p=>(i,p):=by
 unfold zdM
 rw[List.range_succ,List.flatMap_append];simp
theorem zgf(G:Sr)(i:Nat):(zdM G i).length=i * G.places.length:=by
 unfold zdM
 rw[zgF (k:=G.places.length) fun n _=>by rw[List.length_map],List.length_range]
abbrev fIn(G:Sr):Nat×Int→Nat×List Int×Cost:=fun x=>(x.1,[x.2],(G.wt x.1,1))
theorem zm2{α:Type}{f:α→Nat×List Int×Cost}{xs ys:List α}{st:SS}:zaG f (xs ++ ys) st=zaG f ys (zaG f xs st):=by
 unfold zaG;rw[List.foldl_append]
theorem SK.told{C:Cc}{E:Env}{M0 M:Mm}{A:Ad}{st:SS}{kp:Option (Addr×List W)}(h:SK C E M0 M A st kp):M0 A.b=none∧L3.Sub (put M0 A.b (.dT (tabW fK zgM st.best))) M:=by
 obtain⟨M1,M2,M3,e,g,h1,h2,h3,h4,h5,h6,h7⟩:=h.ex
 refine⟨h1.nb,fun b u e=>?_⟩
 by_cases hb:b=A.b
 ·subst hb;rw[zad] at e;cases e;exact h.ob
 ·rw[zaf hb] at e;exact h4.sub _ _ (h3.sub _ _ (h2.sub _ _ (h1.sub _ _ e)))
theorem zwT{n i:Nat}{w:W}(h:(zeY 0 n)[i]? = some w):i < n∧w=.int (i:Nat):=by
 unfold zeY at h
 rw[List.getElem?_map] at h
 obtain⟨j,hj,rfl⟩:=Option.map_eq_some_iff.mp h
 obtain⟨h1,h2⟩:=List.getElem?_eq_some_iff.mp hj
 rw[List.getElem_range] at h2
 rw[List.length_range] at h1
 exact⟨h1,by rw[←h2,Int.zero_add]⟩
theorem zwU{lo:Int}{n:Nat}:(zeY lo n).length=n:=by unfold zeY;simp
theorem zhV{C:Cc}{ws:List W}{M:Mm}{R:K3}(h:zco C ws M R):zbG C (zax R) (zaP zea ws) M:=by
 obtain⟨G,E,V,L,S,rfl,hrs,hown,ev,ok,v,hL,hpl,hS,hb,r⟩:=h
 obtain⟨wts,hwts⟩:∃ w:W,w=.rl ((List.range G.rs.length).map fun n=>.int (G.wt n)):=⟨_,rfl⟩
 obtain⟨pls,hpls⟩:∃ w:W,w=.rl (G.places.map W.int):=⟨_,rfl⟩
 rw[←hwts,←hpls]
 show zbG C (zax R) [some (rlW E.rs),some pls,some (.dt E.stp),some wts,none,none,none] M
 simp? only[zbG,zez,L3.zoE]
 intro a dx ha hdx hne
 refine⟨M,a,dx,E.rs,E.stp,rfl,hrs,rfl,ha,fun M1 A hA hs=>⟨rfl,?_⟩⟩
 rw[←hown] at hs
 have hs:SR C E M M1 A st0:=hs
 rw[←hA]
 have hil:(zf8 G).length=G.rs.length * G.places.length:=zgf G G.rs.length
 simp? only[zeA,rlW]
 refine⟨_,rfl,by omega,by rw[List.length_map];omega,?_⟩
 obtain⟨N,hN⟩:∃ N,N=G.rs.length:=⟨_,rfl⟩
 have hNE:E.rs.length=N:=by rw[hN,ev.rs]
 rw[List.length_map,Int.toNat_natCast,hNE]
 have sm0:Sm st0 ((zf8 G).length + 1):=⟨by show 0 + _ < _;omega,by show 0 + _ < _;omega⟩
 refine for3 (fun i τ M'=>∃ o5 o6,τ=[some (W.rl (List.map zav E.rs)),some pls,some (.dt E.stp),some wts,some (.ref A.s),o5,o6]∧SR C E M M' A (zaG (fIn G) (zdM G i) st0)) ⟨_,_,rfl,hs⟩ (fun _ _ _ _ _=>trivial) ?_ ?_
 ·rintro i w τ M2 hw ⟨o5,o6,rfl,hs2⟩
  obtain⟨hi,rfl⟩:=zwT hw
  simp? only[zdU]
  rw[hpls]
  simp? only[]
  have hmul:(i + 1) * G.places.length≤N * G.places.length:=Nat.mul_le_mul_right _ hi
  rw[←hN] at hil
  refine for3 (fun j τ M'=>∃ o6,τ=[some (W.rl (List.map zav E.rs)),some (.rl (G.places.map W.int)),some (.dt E.stp),some wts,some (.ref A.s),some (.int i),o6]∧SR C E M M' A (zaG (fIn G) ((G.places.map fun p=>(i,p)).take j) (zaG (fIn G) (zdM G i) st0))) ⟨_,rfl,hs2⟩ (fun _ _ _ _ _=>trivial) ?_ ?_
  ·rintro j w τ M3 hw ⟨o6,rfl,hs3⟩
   rw[List.getElem?_map] at hw
   obtain⟨pl,hpl',rfl⟩:=Option.map_eq_some_iff.mp hw
   have hj:=(List.getElem?_eq_some_iff.mp hpl').1
   have hx:(G.places.map fun p=>(i,p))[j]? = some (i,pl):=by rw[List.getElem?_map,hpl'];rfl
   simp? only[L3.zcu]
   rw[hwts]
   simp? only[]
   have hwt:atI ((List.range G.rs.length).map fun n=>W.int (G.wt n)) (i:Int)=some (.int (G.wt i)):=zg9 (by rw[List.getElem?_map,List.getElem?_range (by omega)];rfl)
   have smj:Sm (zaG (fIn G) ((G.places.map fun p=>(i,p)).take j) (zaG (fIn G) (zdM G i) st0)) 1:=by
    refine zcZ (zcZ (sm0.le ?_))
    rw[zgf,List.length_take,List.length_map,hil,Nat.succ_mul] at *
    omega
   refine⟨A.s,A.d,_,rfl,hs3.os,zic,_,hwt,E,M,A,_,i,[pl],(G.wt i,1),none,rfl,hs3,by simp,smj,fun M4 hs4=>⟨M4,Sub.refl _,_,rfl,?_⟩⟩
   rw[zdC hx]
   exact hs4
  ·rintro τ M3 ⟨o6,rfl,hs3⟩
   refine⟨M3,Sub.refl _,_,_,rfl,?_⟩
   rw[zlP,zm2]
   rw[List.length_map,List.take_of_length_le (by rw[List.length_map];exact Nat.le_refl _)] at hs3
   exact hs3
 ·rintro τ M2 ⟨o5,o6,rfl,hs2⟩
  rw[zwU] at hs2
  have hst:zaG (fIn G) (zdM G N) st0=zgD G:=by rw[hN];rfl
  rw[hst] at hs2
  have A0:=znI ok S
  have ln0:Ln (zgD G) 0:=by
   obtain⟨a1,a2,a3⟩:=zcE (f:=fIn G) (xs:=zdM G N) (st:=st0)
   rw[hst] at a1 a2 a3
   exact⟨by rw[a3];exact Nat.le_refl _,by rw[a1];exact Nat.le_refl _,by rw[a2];exact Nat.le_refl _⟩
  simp? only[zeB]
  obtain⟨Bm,hBm⟩:∃ Bm,Bm=(zf8 G).length + G.rs.length * ((L + 1) * (V.length * V.length)) * (S + V.length):=⟨_,rfl⟩
  unfold L3.zgy
  refine⟨fun m τ M'=>∃ st P cur T o5 o6,τ=[some (W.rl (List.map zav E.rs)),some pls,some (.dt E.stp),some wts,some (.ref A.s),o5,o6]∧SR C E M M' A st∧All G S (zf8 G).length st P cur T∧Ln st T∧m=Bm - T,⟨_,_,_,_,_,_,_,rfl,hs2,A0,ln0,rfl⟩,?_⟩
  rintro m τ M3 ⟨st,P,cur,T,o5,o6,rfl,hs3,A3,ln3,rfl⟩
  obtain⟨M4,hQ,back⟩:=hs3.que
  simp? only[L3.zcu,L3.vFld]
  refine⟨A.s,A.d,_,_,rfl,hs3.os,zkp,A.Q.o,A.Q.d,_,rfl,hQ.ob,zuQ,M4,A.Q,st.q,rfl,hQ,?_⟩
  by_cases hq:st.q=[]
  ·rw[decide_eq_true hq]
   simp? only[]
   simp? only[zeC,L3.vFld]
   obtain⟨y1,y2⟩:=hs3.told
   exact⟨A.s,A.d,_,_,rfl,hs3.os,zmY,_,y2,r st.best ⟨S,_,st,P,cur,T,A3,hq,rfl⟩ A.b y1⟩
  ·rw[decide_eq_false hq]
   simp? only[zdV,L3.zcu]
   have rm:=zxQ v hL A3 hS ln3 hb
   obtain⟨_,_,f3⟩:=zmP v A3
   rw[←hBm] at f3
   have hpos:=List.length_pos_iff.mpr hq
   have hql:=zr2 hs3.fall
   obtain⟨P',cur',A4⟩:=zpY ok A3 hS hq
   exact⟨A.s,A.d,_,rfl,hs3.os,zlN,G,E,M,A,st,rfl,hs3,ev,hq,rm,fun M5 hs5=>⟨_,M5,(by omega:Bm - (T + 1) < Bm - T),Sub.refl _,_,P',cur',T + 1,_,_,rfl,hs5,A4,ln3.next,rfl⟩⟩
end Rg
namespace L2
open PySem PySem.Spec PyProof.Rows
section
variable {X:Cx}{pins:List (Addr×Obj)}{σ:St}{H:Hp}{s:Shared}{a:Addr}{u:HO}
def zqm(u:HO):Prop:=(∃ ks,u=.dK ks)∨∃ ks,u=.dT ks
theorem Inv.frzD(I:Inv X pins σ H s)(e:H a=some u)(hd:zqm u):∃ o,Inv X pins σ (upd H a (.frz o u)) s:=by
 obtain⟨o,ho⟩:∃ o,s.heap.get? a=some o:=by
  have:=I.hok a u e
  rcases hd with⟨ks,rfl⟩ | ⟨ks,rfl⟩
  ·obtain⟨_,_,_,_,o,_,_,e,_⟩:=this;exact⟨o,e⟩
  ·obtain⟨_,_,_,_,o,_,_,e,_⟩:=this;exact⟨o,e⟩
 refine⟨o,?_⟩
 have ne:∀ {b:Addr} {v:HO},H b=some v→v≠u→b≠a:=fun {b v} e1 h z=>by subst z;rw[e] at e1;exact h (Option.some.inj e1).symm
 have nn:∀ {b:Addr},H b=none→b≠a:=fun {b} e1 z=>by subst z;rw[e] at e1;cases e1
 have kt:∀ b xs,H b=some (.tup xs)→upd H a (.frz o u) b=some (.tup xs):=fun b xs eb=>by
  rw[zal (ne eb (fun z=>by rcases hd with⟨ks,rfl⟩ | ⟨ks,rfl⟩ <;> cases z))];exact eb
 have ko:∀ b y,H b=some (.own y)→upd H a (.frz o u) b=some (.own y):=fun b y eb=>by
  rw[zal (ne eb (fun z=>by rcases hd with⟨ks,rfl⟩ | ⟨ks,rfl⟩ <;> cases z))];exact eb
 refine I.step (h':=s.heap) (g':=s.gens) (d':=s.drawn) (t':=s.toks) (ch:=[]) (fun _ z=>nomatch z) (fun b o _ _ _ e1 _=>e1) (fun b o _ _ _ e1 _=>⟨o.slots,e1⟩) (fun b o _ _ n=>by rw[zal (nn n)];exact n) (fun b o _ e1=>⟨o,e1⟩) kt
  (fun b ob v eb=>?_) (fun b ps eb=>⟨#[],?_⟩) (fun m hm=>hm) (fun b v eb=>?_) I.bare
 ·rw[zal (ne eb (fun z=>by rcases hd with⟨ks,rfl⟩ | ⟨ks,rfl⟩ <;> cases z))];exact eb
 ·rw[zal (ne eb (fun z=>by rcases hd with⟨ks,rfl⟩ | ⟨ks,rfl⟩ <;> cases z)),eb];simp
 ·by_cases hb:b=a
  ·subst hb
   rw[zar] at eb
   cases eb
   exact⟨ho,(I.hok b u e).stay (fun _ _ _ q=>q) (fun c q=>ko c b q) kt⟩
  ·rw[zal hb] at eb
   exact(I.hok b v eb).stay (fun _ _ _ q=>q) (fun c q=>ko c b q) kt
def FrzQ(Q:VK):VK:=fun v H=>∃ a u,v=.ref a∧H a=some u∧zqm u∧∀ o,Q v (upd H a (.frz o u))
theorem zuS{e:Expr}{t:TE}(h:PE X e t):PE X e (fun σ H Q=>t σ H (FrzQ Q)):=fun pins s σ H Q I q=>
 thn (h pins s σ H _ I q) fun v s1 ⟨x,H1,I1,r1,a,u,e1,e2,e3,q1⟩=>by
  obtain⟨o,I2⟩:=I1.frzD e2 e3
  exact⟨x,_,I2,r1,q1 o⟩
def Itd(a:Addr)(o:Obj)(u:HO)(xs:List V):It:=
 ⟨fun i H=>H a=some (.frz o u)∧i < xs.length,fun i H x H'=>H'=H∧xs[i]? = some x,fun i H=>H a=some (.frz o u)∧xs.length≤i⟩
theorem zlQ{P:Program}{w:World}{K:PySem.W.Frag}{tg:Expr}(a it:Addr)(o:Obj)(u:HO)(xs:List V)(es:Array DictEntry)(ep:Nat)(hd:o.data=.dict es ep)(hn:es.size=xs.length)(hx:∀ (i:Nat) (e:DictEntry),es[i]? = some e→∃ x,xs[i]? = some x∧RelV x e.key) :
  Turn P w K tg (Itd a o u xs) [it] it (fun i h=>h.IsKeyIter it a i es.size ep) where
 mem:=by simp
 obj:=fun i h st b hb=>by
  have e:b=it:=by simpa using hb
  subst e
  obtain⟨o,e,c,d⟩:=st
  exact⟨o,e,fun v z=>by rw[d] at z;cases z⟩
 keep:=fun i h h' st k=>st.at fun o e=>k it (by simp) o e
 item:=by
  intro X hP hw hK hc i pins s σ H E I hf st hg
  subst hP hw hK
  obtain⟨e1,hi⟩:=hg
  have ho:s.heap.get? a=some o:=(show zbl X.prog X.w H s.heap a (.frz o u) from I.hok a _ e1).1
  have hi2:i < es.size:=by omega
  obtain⟨x,hx1,rx⟩:=hx i es[i] (by simp[hi2])
  obtain⟨f0,f1,f2,f3,f4,f5⟩:=hf it (by simp)
  refine zps st ho hd hi2 fun h' st' sb=>?_
  have I1:Inv X pins σ H {s with heap:=h'}:=I.turned (t':=s.toks) (fun b o hb e=>(sb.2 b hb).trans e) f0 f1 f3 f4 f5
  obtain⟨o',e,c,d⟩:=id st'
  exact⟨_,rfl,zqU (s:={s with heap:=h'}) e c d (by decide) ⟨x,H,I1,rx,⟨rfl,hx1⟩,st',fun b hb=>(hf b hb).1⟩⟩
 done:=by
  intro X hP hw hK hc i pins s σ H E I hf st hg
  subst hP hw hK
  obtain⟨e1,hi⟩:=hg
  have ho:s.heap.get? a=some o:=(show zbl X.prog X.w H s.heap a (.frz o u) from I.hok a _ e1).1
  refine zrg (I.ok.hd hc) st ho hd (by omega) fun h' hk=>⟨rfl,?_⟩
  exact I.turnedT (tk:=s.toks) hf fun q o hq eq=>hk q o (fun z=>hq (by simp[z])) eq
 self:=fun _ _ _ _ _ st h=>wpAny_pyIter_keyiter st h
end
end L2
namespace L3
open PySem PySem.Spec PyProof.Rows L2
section
variable {X:Cx}{e:Expr}{te:TE3}
def zuT(t:TE3):TE3:=fun τ M R=>t τ M fun w M'=>∃ p,w=.ref p∧((∃ kvs,M' p=some (.dK kvs)∧R (.fk kvs) (del M' p))∨∃ kvs,M' p=some (.dT kvs)∧R (.ft kvs) (del M' p))
theorem zsQ{K:PySem.W.Frag}{H:Hp}{M:Mm}{p:Addr}{o:Obj}{u:HO}{x:MO}(am:AM K H M)(e:M p=some x)(hd:zqm u)(hu:H p=some u):Go H M (upd H p (.frz o u)) (del M p)∧AM K (upd H p (.frz o u)) (del M p)∧Kp H M (upd H p (.frz o u)) (del M p):=by
 have nn:∀ {b:Addr},M b=none→b≠p:=fun {b} h z=>by subst z;rw[e] at h;cases h
 have go:Go H M (upd H p (.frz o u)) (del M p):=by
  refine⟨fun b xs eb=>?_,fun b ob v eb=>?_,fun b v n eb=>?_⟩
  ·rw[zal (nn (am.noTup eb))];exact eb
  ·rw[zal (nn (am.noFrz eb))];exact eb
  ·rw[zal (nn n),zjC (nn n)];exact⟨eb,n⟩
 refine⟨go,fun a o2 ea=>?_,fun a v n ea=>?_,fun a v ea=>?_⟩
 ·have ne:a≠p:=fun z=>by rw[z,zfz] at ea;cases ea
  rw[zjC ne] at ea
  exact(am a o2 ea).go go (zal ne)
 ·rw[zal (nn n),zjC (nn n)];exact⟨ea,n⟩
 ·by_cases ha:a=p
  ·subst ha;exact⟨_,zar⟩
  ·obtain⟨y,q⟩:=(am a v ea).has
   exact⟨y,by rw[zal ha];exact q⟩
theorem zwV(h:E3 X e te):E3 X e (zuT te):=
 (zuS h).weak fun σ H Q ⟨τ,M,R,as,am,h,k⟩=>⟨τ,M,_,as,am,h,fun v H' w M' k' am' av ⟨p,hw,r⟩=>by
  subst hw
  cases av
  rcases r with⟨kvs,e,r⟩ | ⟨kvs,e,r⟩
  ·obtain⟨ks,f,q⟩:=am' _ _ e
   refine⟨p,.dK ks,rfl,f,.inl ⟨_,rfl⟩,fun o=>?_⟩
   obtain⟨g,am2,k2⟩:=zsQ (o:=o) am' e (.inl ⟨_,rfl⟩) f
   exact k _ _ _ _ (k'.trans k2) am2 (.fk zar q.keys (q.vals.go g)) r
  ·obtain⟨ks,f,q⟩:=am' _ _ e
   refine⟨p,.dT ks,rfl,f,.inr ⟨_,rfl⟩,fun o=>?_⟩
   obtain⟨g,am2,k2⟩:=zsQ (o:=o) am' e (.inr ⟨_,rfl⟩) f
   exact k _ _ _ _ (k'.trans k2) am2 (.ft zar q.keys (q.vals.go g)) r⟩
def rItD:W→Mm→(List W→(Mm→Prop)→Mm→Prop)→Prop
 | .fk kvs,M1,R=>R (kvs.map fun p=>wK p.1) (fun _=>True) M1
 | .ft kvs,M1,R=>R (kvs.map fun p=>.tup (p.1.map wK)) (fun _=>True) M1
 | _,_,_=>False
theorem zqn{K:PySem.W.Frag}{H0:Hp}{M0:Mm}{a:Addr}{o:Obj}{u:HO}{xs:List V}{ws:List W}(am0:AM K H0 M0)(e:H0 a=some (.frz o u))(q0:AVs K H0 M0 xs ws):ItOk K H0 M0 (Itd a o u xs) ws fun _=>True:=by
 have st:∀ H M,Kp H0 M0 H M→H a=some (.frz o u):=fun H M k=>(k.fr _ _ (am0.noFrz e) e).1
 refine⟨fun i H M k am _ hi=>⟨st H M k,by rw[q0.length];exact hi⟩,fun H M k am _=>⟨st H M k,by rw[q0.length];exact Nat.le_refl _⟩,fun i H M x H' k am _ hi y=>?_⟩
 obtain⟨rfl,y⟩:=y
 obtain⟨w,hw,av⟩:=(q0.kp am0 k).getV y
 exact⟨w,hw,Kp.refl am,am,av⟩
theorem zxR{K:PySem.W.Frag}{H:Hp}{M:Mm}:∀ k:Key,AV K H M (kV k) (wK k)
 | .inl i=>.int i
 | .inr x=>.str x
theorem zuU{P:Program}{w:World}{H:Hp}{h:Heap}{a:Addr}{ks:List (Key×V)}{o:Obj}(ok:HOk P w H h)(e:H a=some (.frz o (.dK ks))) :
  ∃ es ep,RawD h a es ep∧o.data=.dict es ep∧(a == sysModules)=false∧es.size=ks.length∧∀ (i:Nat) (en:DictEntry),es[i]? = some en→∃ p,ks[i]? = some p∧RelV (kV p.1) en.key∧RelV p.2 en.val:=by
 obtain⟨ho,hz,hne,vs,rkv,o2,es,ep,h1,h2,h3,h4,h5,h6⟩:=(show zbl P w H h a (.frz o (.dK ks)) from ok a _ e)
 rw[ho] at h1
 cases h1
 have l1:=rkv.length
 have l2:=h5.length
 rw[Array.length_toList] at l2
 refine⟨es,ep,⟨o,ho,h2,h3⟩,h3,hne,by omega,fun i en hen=>?_⟩
 have hi:=(Array.getElem?_eq_some_iff.mp hen).1
 obtain⟨⟨k,x⟩,hv⟩:∃ v,vs[i]? = some v:=⟨_,List.getElem?_eq_getElem (by omega)⟩
 obtain⟨z1,z2⟩:=h5.get? (by rw[Array.getElem?_toList];exact hen) hv
 have:∀ {ks:List (Key×V)} {vs:List (Key×Value)} {i:Nat},KV ks vs→vs[i]? = some (k,x)→∃ v,ks[i]? = some (k,v)∧RelV v x:=by
  intro ks vs i r
  induction r generalizing i with
  | nil=>intro h;simp at h
  | @cons p q ps qs hq t ih=>
   intro h
   cases i with
   | zero=>simp at h;subst h;obtain⟨p1,p2⟩:=p;cases hq.1;exact⟨p2,rfl,hq.2⟩
   | succ i=>rw[List.getElem?_cons_succ] at h ⊢;exact ih h
 obtain⟨v,q1,q2⟩:=this rkv hv
 exact⟨(k,v),q1,zpo z1,by rw[z2];exact q2⟩
theorem zuV{P:Program}{w:World}{H:Hp}{h:Heap}{a:Addr}{ks:List (List Key×V)}{o:Obj}(ok:HOk P w H h)(e:H a=some (.frz o (.dT ks))) :
  ∃ es ep,RawD h a es ep∧o.data=.dict es ep∧(a == sysModules)=false∧es.size=ks.length∧∃ as:List Addr,as.length=ks.length∧(∀ (i:Nat) (p:List Key×V) (b:Addr),ks[i]? = some p→as[i]? = some b→H b=some (.tup (p.1.map kV)))∧
   ∀ (i:Nat) (en:DictEntry),es[i]? = some en→∃ p b,ks[i]? = some p∧as[i]? = some b∧en.key=.ref b∧RelV p.2 en.val:=by
 obtain⟨ho,hz,hne,xs,rel,o2,es,ep,h1,h2,h3,h4,h5⟩:=(show zbl P w H h a (.frz o (.dT ks)) from ok a _ e)
 rw[ho] at h1
 cases h1
 have l1:=size_of_entries h4
 have l2:=Paired.length rel
 refine⟨es,ep,⟨o,ho,h2,h3⟩,h3,hne,by omega,xs.map fun x=>x.2.1,by rw[List.length_map];omega,fun i p b hp hb=>?_,fun i en hen=>?_⟩
 ·rw[List.getElem?_map] at hb
  obtain⟨x,hx,rfl⟩:=Option.map_eq_some_iff.mp hb
  have:∀ {ks:List (List Key×V)} {xs:List (List Key×Addr×Value)} {i:Nat},Paired (fun(p:List Key×V) (q:List Key×Addr×Value)=>p.1=q.1∧H q.2.1=some (.tup (p.1.map kV))∧RelV p.2 q.2.2) ks xs→ks[i]? = some p→xs[i]? = some x→H x.2.1=some (.tup (p.1.map kV)):=by
   intro ks xs i r
   induction r generalizing i with
   | nil=>intro h;simp at h
   | @cons p q ps qs hq t ih=>
    intro h g
    cases i with
    | zero=>simp at h g;subst h;subst g;exact hq.2.1
    | succ i=>rw[List.getElem?_cons_succ] at h g;exact ih h g
  exact this rel hp hx
 ·rw[entry_at h4 i] at hen
  obtain⟨x,hx,rfl⟩:=Option.map_eq_some_iff.mp hen
  have:∀ {ks:List (List Key×V)} {xs:List (List Key×Addr×Value)} {i:Nat},Paired (fun(p:List Key×V) (q:List Key×Addr×Value)=>p.1=q.1∧H q.2.1=some (.tup (p.1.map kV))∧RelV p.2 q.2.2) ks xs→xs[i]? = some x→∃ p,ks[i]? = some p∧RelV p.2 x.2.2:=by
   intro ks xs i r
   induction r generalizing i with
   | nil=>intro h;simp at h
   | @cons p q ps qs hq t ih=>
    intro h
    cases i with
    | zero=>simp at h;subst h;exact⟨p,rfl,hq.2.2⟩
    | succ i=>rw[List.getElem?_cons_succ] at h ⊢;exact ih h
  obtain⟨p,q1,q2⟩:=this rel hx
  exact⟨p,x.2.1,q1,by rw[List.getElem?_map,hx];rfl,rfl,q2⟩
theorem zuW{tg:Expr}:ItR X tg (upIr X.K rItD):=by
 rintro pins s σ H x u R' I r1 ⟨wx,M,R,ax,am,h,k⟩
 cases ax <;> first | exact(show False from h).elim | skip
 case fk a o ks kvs e ke q=>
  cases (show u=Value.ref a from r1)
  obtain⟨es,ep,hr,hd,hne,hsz,hen⟩:=zuU I.hok e
  have fp:∀ b∈[s.heap.objs.size],FpOk X pins H b:=fun b hb=>by
   have e:b=s.heap.objs.size:=by simpa using hb
   subst e
   exact I.fpOk (Nat.le_refl _) (I.hok.fresh (Nat.le_refl _))
  refine znt hne hr ⟨s.heap.objs.size,[s.heap.objs.size],_,Itd a o (.dK ks) (ks.map fun p=>kV p.1),H,rfl,I.kept (t':=s.toks) fun b o e=>Heap.get?_push_of_some _ e,zlQ a _ o _ _ es ep hd (by rw[List.length_map];exact hsz) (fun i en he=>?_),⟨_,Heap.get?_push_size _ rfl,rfl,rfl⟩,fp,k _ _ _ _ _ (Kp.refl am) am (zqn am e ?_) h⟩
  ·obtain⟨p,h1,h2,_⟩:=hen i en he
   exact⟨kV p.1,by rw[List.getElem?_map,h1];rfl,h2⟩
  ·have hk:(ks.map fun p=>kV p.1)=(ks.map Prod.fst).map kV:=by rw[List.map_map];rfl
   have hw:(kvs.map fun p=>wK p.1)=(kvs.map Prod.fst).map wK:=by rw[List.map_map];rfl
   rw[hk,hw,ke]
   generalize kvs.map Prod.fst=l
   induction l with
   | nil=>exact .nil
   | cons z l ih=>exact .cons (zxR z) ih
 case ft a o ks kvs e ke q=>
  cases (show u=Value.ref a from r1)
  obtain⟨es,ep,hr,hd,hne,hsz,as,hl,hat,hen⟩:=zuV I.hok e
  have fp:∀ b∈[s.heap.objs.size],FpOk X pins H b:=fun b hb=>by
   have e:b=s.heap.objs.size:=by simpa using hb
   subst e
   exact I.fpOk (Nat.le_refl _) (I.hok.fresh (Nat.le_refl _))
  refine znt hne hr ⟨s.heap.objs.size,[s.heap.objs.size],_,Itd a o (.dT ks) (as.map V.ref),H,rfl,I.kept (t':=s.toks) fun b o e=>Heap.get?_push_of_some _ e,zlQ a _ o _ _ es ep hd (by rw[List.length_map];omega) (fun i en he=>?_),⟨_,Heap.get?_push_size _ rfl,rfl,rfl⟩,fp,k _ _ _ _ _ (Kp.refl am) am (zqn am e ?_) h⟩
  ·obtain⟨p,b,h1,h2,h3,_⟩:=hen i en he
   exact⟨.ref b,by rw[List.getElem?_map,h2];rfl,by rw[h3];rfl⟩
  ·have hw:(kvs.map fun p=>W.tup (p.1.map wK))=(ks.map Prod.fst).map fun z=>W.tup (z.map wK):=by rw[ke,List.map_map];rfl
   rw[hw]
   have:∀ (ks:List (List Key×V)) (as:List Addr),as.length=ks.length→(∀ (i:Nat) (p:List Key×V) (b:Addr),ks[i]? = some p→as[i]? = some b→H b=some (.tup (p.1.map kV)))→AVs X.K H M (as.map V.ref) ((ks.map Prod.fst).map fun z=>W.tup (z.map wK)):=by
    intro ks
    induction ks with
    | nil=>intro as hl _;cases as with
     | nil=>exact .nil
     | cons b r=>simp at hl
    | cons p ks ih=>
     intro as hl hat
     cases as with
     | nil=>simp at hl
     | cons b r=>
      refine .cons (.tup (hat 0 p b rfl rfl) (znM p.1)) (ih r (by simpa using hl) fun i p b h1 h2=>hat (i + 1) p b (by simpa using h1) (by simpa using h2))
   exact this ks as hl hat
theorem zwW{tg l:Expr}{tl:TE3}(hl:E3 X l tl):PI X tg l (upI X.K (iIt rItD tl)):=zpB hl zuW
end
end L3
namespace PySem
namespace Ll
open PyProof.Rows L2 PySem.Spec
open AutoSeq1 (wpAny_loadPart')
open MeetsSeq3 (plain_eq_loop entry_eq_loop)
def rLt:List Str→List Str→Bool
 | [],[]=>false
 | [],_ :: _=>true
 | _ :: _,[]=>false
 | a :: as,b :: bs=>if a=b then rLt as bs else decide (a.cps.toList < b.cps.toList)
def Txts(xs:List Str)(its:Array Value):Prop:=its.size=xs.length∧∀ i:Nat,∀ x,xs[i]? = some x→∃ t,its[i]? = some (.str x t)
theorem zuX(l b:Addr)(xs ys:List Str)(items items2:Array Value)(n n2:Nat)(hx:Txts xs items)(hy:Txts ys items2)(k:Nat) :
  ∀ i:Nat,items.size - i=k→i≤items.size→i≤items2.size→Meets (Builtin.«list.__eq__.loop» ⟨[.ref l,.ref b,rawInt i,rawInt 0],[]⟩)
   (fun _ R s=>s.heap.get? l=some {cls:=.type "list",dict:=none,data:=.seq items n,slots:=#[]}∧s.heap.get? b=some {cls:=.type "list",dict:=none,data:=.seq items2 n2,slots:=#[]}∧
    R (.ok (.ret (.bool (rLt (xs.drop i) (ys.drop i))))) s):=by
 induction k with
 | zero=>
  intro i hk hi hi' prog w A R s h
  obtain⟨hp,g,d,tk,os⟩:=s;obtain⟨hl,hb,h⟩:=h
  wp_walk using wpAny_loadPart' hl,wpAny_loadPart' hb
  have hi1:items[((i:Nat):Int).toNat]? = none:=by simp;omega
  rw[hi1]
  wp_walk using wpAny_loadPart' hl,wpAny_loadPart' hb
  show R (.ok (.ret (.bool (decide (items.size < items2.size))))) _
  have hd:xs.drop i=[]:=List.drop_of_length_le (by have:=hx.1;omega)
  rw[hd] at h
  cases e:ys.drop i with
  | nil=>
   have:=congrArg List.length e
   rw[List.length_drop,List.length_nil] at this
   have h2:=hy.1
   rw[decide_eq_false (by omega)]
   rw[e] at h;exact h
  | cons y r=>
   have:=congrArg List.length e
   rw[List.length_drop,List.length_cons] at this
   have h2:=hy.1
   rw[decide_eq_true (by omega)]
   rw[e] at h;exact h
 | succ k ih=>
  intro i hk hi hi' prog w A R s h
  obtain⟨hp,g,d,tk,os⟩:=s;obtain⟨hl,hb,h⟩:=h
  have hlt:i < items.size:=by omega
  have hx1:=hx.1
  have hy1:=hy.1
  obtain⟨x,ex⟩:∃ x,xs[i]? = some x:=⟨_,List.getElem?_eq_getElem (by omega)⟩
  obtain⟨t,et⟩:=hx.2 i x ex
  have hi1:items[((i:Nat):Int).toNat]? = some (.str x t):=by rw[Int.toNat_natCast];exact et
  have hdx:xs.drop i=x :: xs.drop (i + 1):=by rw[List.drop_eq_getElem_cons (by omega)];congr 1;exact(List.getElem?_eq_some_iff.mp ex).2
  have hc:((i:Int) + 1)=((i + 1:Nat):Int):=by push_cast;rfl
  wp_walk using wpAny_loadPart' hl,wpAny_loadPart' hb
  rw[hi1]
  by_cases hlt2:i < items2.size
  ·obtain⟨y,ey⟩:∃ y,ys[i]? = some y:=⟨_,List.getElem?_eq_getElem (by omega)⟩
   obtain⟨u,eu⟩:=hy.2 i y ey
   have hi2:items2[((i:Nat):Int).toNat]? = some (.str y u):=by rw[Int.toNat_natCast];exact eu
   have hdy:ys.drop i=y :: ys.drop (i + 1):=by rw[List.drop_eq_getElem_cons (by omega)];congr 1;exact(List.getElem?_eq_some_iff.mp ey).2
   rw[hdx,hdy,rLt] at h
   rw[hi2]
   refine wpAny_bind (wpAny_eqBool_str ?_)
   by_cases hxy:x=y
   ·rw[if_pos hxy] at h
    rw[decide_eq_true hxy]
    wp_walk
    rw[hc]
    exact⟨plainId_quiet plain_eq_loop _,codeAny_builtin entry_eq_loop (by
     rw[Around.under_plainId plain_eq_loop _]
     exact ih (i + 1) (by omega) (by omega) (by omega) prog w A R _ ⟨hl,hb,h⟩)⟩
   ·rw[if_neg hxy] at h
    rw[decide_eq_false hxy]
    wp_walk using wpAny_loadPart' hl,wpAny_loadPart' hb
    rw[hi1,hi2]
    show wpAny _ _ (compareOp .Lt (.str x t) (.str y u) >>= _) _ _ _
    refine wpAny_bind (PyProof.Rows.lt_str ?_)
    wp_walk
    exact h
  ·have hi2:items2[((i:Nat):Int).toNat]? = none:=by simp;omega
   rw[hi2]
   wp_walk using wpAny_loadPart' hl,wpAny_loadPart' hb
   show R (.ok (.ret (.bool (decide (items.size < items2.size))))) _
   rw[decide_eq_false (by omega)]
   have hdy:ys.drop i=[]:=List.drop_of_length_le (by omega)
   rw[hdx,hdy] at h
   exact h
theorem list_lt(l b:Addr)(xs ys:List Str)(items items2:Array Value)(n n2:Nat)(hx:Txts xs items)(hy:Txts ys items2) :
  Meets (Builtin.«list.__lt__» ⟨[.ref l,.ref b],[]⟩)
   (fun _ R s=>s.heap.get? l=some {cls:=.type "list",dict:=none,data:=.seq items n,slots:=#[]}∧s.heap.get? b=some {cls:=.type "list",dict:=none,data:=.seq items2 n2,slots:=#[]}∧
    R (.ok (.ret (.bool (rLt xs ys)))) s):=by
 intro prog w A R s h
 obtain⟨hp,g,d,tk,os⟩:=s;obtain⟨hl,hb,h⟩:=h
 have f3:=AutoSeq1.sub_list_list
 wp_walk using wpAny_loadPart' hl,wpAny_loadPart' hb
 exact⟨plainId_quiet plain_eq_loop _,codeAny_builtin entry_eq_loop (by
  rw[Around.under_plainId plain_eq_loop _]
  exact zuX l b xs ys items items2 n n2 hx hy _ 0 rfl (Nat.zero_le _) (Nat.zero_le _) prog w A R _ ⟨hl,hb,by simpa using h⟩)⟩
end Ll
end PySem
namespace L3
open PySem PySem.Spec PyProof.Rows L2
section
variable {X:Cx}
def zlR(M:Mm)(w:W)(xs:List Str):Prop:=w=.rl (xs.map W.str)∨∃ a,w=.ref a∧M a=some (.lst (xs.map W.str))
def rLtL:R3:=fun x y M R=>∃ xs ys:List Str,zlR M x xs∧zlR M y ys∧R (.bl (Ll.rLt xs ys)) M
theorem zsR{pins:List (Addr×Obj)}{σ:SV}{H:Hp}{M:Mm}{s:Shared}{x:V}{v:Value}{w:W}{xs:List Str}(I:Inv X pins σ H s)(am:AM X.K H M)(rx:RelV x v)(ax:AV X.K H M x w)(h:zlR M w xs) :
  ∃ p its n,v=.ref p∧s.heap.get? p=some {cls:=.type "list",data:=.seq its n}∧Ll.Txts xs its:=by
 have key:∀ {p:Addr} {vs:List V},H p=some (.lst vs)→AVs X.K H M vs (xs.map W.str)→∃ its n,s.heap.get? p=some {cls:=.type "list",data:=.seq its n}∧Ll.Txts xs its:=by
  intro p vs e q
  obtain⟨z,its,n,r,hl,e1⟩:=I.lstM e
  refine⟨its.toArray,n,e1,?_,fun i t ht=>?_⟩
  ·have h1:=q.length
   have h2:=r.length
   rw[List.length_map] at h1
   rw[List.size_toArray];omega
  ·obtain⟨y,h1,h2⟩:=q.getW (i:=i) (w:=W.str t) (by rw[List.getElem?_map,ht];rfl)
   cases h2
   obtain⟨u,h3,h4⟩:=r.get h1
   obtain⟨tk,rfl⟩:=h4
   exact⟨tk,by simpa using h3⟩
 rcases h with rfl | ⟨a,rfl,e⟩
 ·cases ax with
  | @rl p vs _ e n q=>
   cases (show v=Value.ref p from rx)
   obtain⟨its,n,h1,h2⟩:=key e q
   exact⟨p,its,n,rfl,h1,h2⟩
 ·cases ax
  cases (show v=Value.ref a from rx)
  obtain⟨vs,f,q⟩:=am.lst e
  obtain⟨its,n,h1,h2⟩:=key f q
  exact⟨a,its,n,rfl,h1,h2⟩
theorem zwX(hu:X.A.units + 1 < cLine):OpR X (compareOp .Lt) (upO X.K rLtL):=by
 rintro pins s σ H x y v u Q I rx ry ⟨wx,wy,M,R,am,ax,ay,⟨xs,ys,hx,hy,r⟩,k⟩
 obtain⟨p,its,n,rfl,h1,h2⟩:=zsR I am rx ax hx
 obtain⟨p',its',n',rfl,g1,g2⟩:=zsR I am ry ay hy
 have hT:s.TypeIs (.ref p) "list":=⟨_,h1,rfl⟩
 have hT':s.TypeIs (.ref p') "list":=⟨_,g1,rfl⟩
 show wpAny _ _ (richCompare .Lt (.ref p) (.ref p')) _ _ s
 refine wpAny_richCompare_same_room (op:=.Lt) hT hT' PySem.F.slot_list_lt (call_meets PySem.F.slot_list_lt hT PySem.F.entry_list_lt (PySem.F.args_list_lt_2 _ _) (Ll.list_lt p p' xs ys its its' n n' h2 g2) ⟨h1,g1,?_⟩) (Nat.lt_of_succ_lt hu)
 exact(show _∧_ from⟨(fun e=>nomatch e),⟨.bl _,H,I,rfl,k.at am (.bl _) r⟩⟩)
end
end L3
namespace PySem
namespace Dt
open PyProof.Rows L2 PySem.Spec
open Zd (TK allH ziG zlI)
section
variable {prog:Program}{w:World}{A:Around}{E:Value→Shared→Prop}{s:Shared}
theorem loop{d I l:Addr}{items:Array Value}{ps:List (List Key×Addr×Value)}{R:Result→Shared→Prop}(hh:A.handled=none)(hu:(TK prog w).room A.in1)(hdI:d≠I)(hdl:d≠l)(hlI:l≠I)(hn:ps.length=items.size)(hz:items.size≤sizeLine)(hk:∀ p∈ps,p.2.1≠I∧p.2.1≠d) :
  ∀ (k i:Nat) (s:Shared) (es:List (List Key×Addr×Value)),items.size - i=k→i≤items.size→es.length≤i→s.heap.IsListIter I l i→s.heap.IsList l items→s.heap.DictOfH (TK prog w) d es→(∀ e∈es,e∈ps∨∃ p∈ps,p.2.1=e.2.1)→
  (∀ p∈ps,(TK prog w).is s.heap p.1 p.2.1)→
  (∀ (j:Nat) (p:List Key×Addr×Value),ps[j]? = some p→∃ (a:Addr),items[j]? = some (.ref a)∧a≠d∧a≠I∧s.heap.IsTuple a #[.ref p.2.1,p.2.2])→
  (∀ h' tk,(∀ b o,b≠d→b≠I→s.heap.get? b=some o→h'.get? b=some o)→h'.DictOfH (TK prog w) d (allH es (ps.drop i))→R (.ok (.ret .none)) {s with heap:=h',toks:=tk})→
  codeAny (model prog w) A (.builtin "dict.update.loop" ⟨[.ref d,.ref I,rawInt (i:Int),.none],[]⟩) R s:=by
 intro k
 have dictAt:∀ {h h':Heap} {es:List (List Key×Addr×Value)},h.DictOfH (TK prog w) d es→(∀ e∈es,e∈ps∨∃ p∈ps,p.2.1=e.2.1)→(∀ c o,c≠I→h.get? c=some o→h'.get? c=some o)→h'.DictOfH (TK prog w) d es:=by
  rintro h h' es ⟨o,en,ep,ho,hc,hdd,he,his,hn⟩ hes hm
  refine⟨o,en,ep,hm d o hdI ho,hc,hdd,he,fun x hx'=>zlI (his x hx') fun o' e=>?_,hn⟩
  have:x.2.1≠I:=by
   rcases hes x hx' with q | ⟨p,q,e'⟩
   ·exact(hk x q).1
   ·have:=(hk p q).1;rw[e'] at this;exact this
  exact hm _ _ this e
 induction k with
 | zero=>
  intro i s es hm hi hl hit hls hd hes hkeys hp hR
  have hin:i=items.size:=by omega
  refine codeAny_builtin Dp.entry_loop ?_
  rw[Around.under_plainId Dp.plain_loop _]
  show wpAny _ A.in1 (pyNext (.ref I) >>= _) _ _ s
  have W:=Walks.list (prog:=prog) (w:=w) (A:=A.in1) hh I l hlI items
  refine wpAny_bind (W.done s _ _ (by rw[←hin];exact⟨hit,hls⟩) fun h' tk hm=>?_)
  show wpAny _ A.in1 (Builtin.Dict.addKeywords d [] >>= _) _ _ _
  refine wpAny_bind (wpAny_pure (wpAny_pure (hR h' tk (fun b o _ hb e=>hm b o (by simp[hb]) e) ?_)))
  rw[List.drop_of_length_le (by omega)]
  exact dictAt hd hes fun c o hc e=>hm c o (by simp[hc]) e
 | succ k ih=>
  intro i s es hm hi hl hit hls hd hes hkeys hp hR
  have hlt:i < items.size:=by omega
  refine codeAny_builtin Dp.entry_loop ?_
  rw[Around.under_plainId Dp.plain_loop _]
  show wpAny _ A.in1 (pyNext (.ref I) >>= _) _ _ s
  have W:=Walks.list (prog:=prog) (w:=w) (A:=A.in1) hh I l hlI items
  refine wpAny_bind (W.item i s _ _ hlt ⟨hit,hls⟩ fun v h' tk hv hst hm=>?_)
  obtain⟨p,hpi⟩:∃ p,ps[i]? = some p:=⟨_,List.getElem?_eq_getElem (by omega)⟩
  have hpm:p∈ps:=List.mem_of_getElem? hpi
  obtain⟨a,ha,had,haI,hat⟩:=hp i p hpi
  rw[ha] at hv
  cases hv
  have hd':=dictAt hd hes fun c o hc e=>hm c o (by simp[hc]) e
  have hkeys':∀ q∈ps,(TK prog w).is h' q.1 q.2.1:=fun q hq=>zlI (hkeys q hq) fun o e=>hm _ o (by simp[(hk q hq).1]) e
  have hat':h'.IsTuple a #[.ref p.2.1,p.2.2]:=by
   obtain⟨o,ho,rest⟩:=hat
   exact⟨o,hm a o (by simp[haI]) ho,rest⟩
  show wpAny _ A.in1 (holding [Value.ref a] _ >>= _) _ _ _
  refine wpAny_bind (wpAny_holding (wpAny_bind (wpAny_tryCatch ?_)))
  unfold Builtin.Dict.pairItems
  obtain⟨o,ho,hc,n,hd2⟩:=hat'
  refine wpAny_bind (wpAny_typeOf (T:="tuple") ⟨o,ho,hc⟩ ?_)
  rw[if_pos (by decide)]
  refine wpAny_bind (wpAny_seqItems ho hd2 (wpAny_pure ?_))
  show wpAny _ _ (holding [Value.ref p.2.1,p.2.2] (dictSet d (.ref p.2.1) p.2.2)) _ _ _
  refine wpAny_holding (wpAny_dictSet_heap (knd:=TK prog w) hu (hkeys' p hpm) hd' (hsz:=by omega) fun h2 hd3 hs2=>?_)
  have e1:ps.drop i=p :: ps.drop (i + 1):=by rw[List.drop_eq_getElem_cons (by omega)];congr 1;exact(List.getElem?_eq_some_iff.mp hpi).2
  refine wpAny_pure ⟨plainId_quiet Dp.plain_loop _,?_⟩
  refine ih (i + 1) _ (storedH es p.1 p.2.1 p.2.2) (by omega) hlt (by have:=ziG es p.1 p.2.1 p.2.2;omega) (hst.1.at fun o e=>(hs2.2 I (Ne.symm hdI)).trans e) (hst.2.at fun o e=>(hs2.2 l (Ne.symm hdl)).trans e) hd3 (fun e he=>?_) (fun q hq=>zlI (hkeys' q hq) fun o e=>(hs2.2 _ (hk q hq).2).trans e) (fun j q hq=>?_) fun h3 tk3 hk3 hd4=>?_
  ·unfold storedH at he
   split at he
   ·obtain⟨e0,he0,rfl⟩:=List.mem_map.mp he
    have:(putAt p.1 p.2.2 e0).2.1=e0.2.1:=by unfold putAt;split <;> rfl
    rw[this]
    rcases hes e0 he0 with q | ⟨p',q,e'⟩
    ·exact .inr ⟨e0,q,rfl⟩
    ·exact .inr ⟨p',q,e'⟩
   ·rcases List.mem_append.mp he with q | q
    ·exact hes e q
    ·obtain rfl:=List.mem_singleton.mp q
     exact .inl hpm
  ·obtain⟨a,g1,g2,g3,⟨o,g4,g5⟩⟩:=hp j q hq
   exact⟨a,g1,g2,g3,⟨o,(hs2.2 a g2).trans (hm a o (by simp[g3]) g4),g5⟩⟩
  ·refine hR h3 tk3 (fun b o h1 h2 e=>hk3 b o h1 h2 ((hs2.2 b h1).trans (hm b o (by simp[h2]) e))) ?_
   rw[e1];exact hd4
theorem call_pairs{l:Addr}{items:Array Value}{c:Nat}{ps:List (List Key×Addr×Value)}{Q:Value→Shared→Prop}(hh:A.handled=none)(hu:A.units + 2 < cLine)(hx:s.heap.get? l=some {cls:=.type "list",data:=.seq items c})(hn:ps.length=items.size)(hz:items.size≤sizeLine)
  (hkeys:∀ p∈ps,(TK prog w).is s.heap p.1 p.2.1)
  (hp:∀ (j:Nat) (p:List Key×Addr×Value),ps[j]? = some p→∃ (a:Addr),items[j]? = some (.ref a)∧s.heap.IsTuple a #[.ref p.2.1,p.2.2])
  (h:∀ h' tk,(∀ b o,s.heap.get? b=some o→h'.get? b=some o)→h'.DictOfH (TK prog w) s.heap.objs.size (allH [] ps)→Q (.ref s.heap.objs.size) {s with heap:=h',toks:=tk}) :
  wpAny (model prog w) A (call (.type "dict") [.ref l]) Q E s:=by
 refine callType_codes (Q₁:=fun obj s₁=>obj=.ref s.heap.objs.size∧s₁ = {s with heap:=s.heap.push {cls:=.type "dict",data:=.dict #[]}}) F.kt_called_dict (F.kt_typeCall_dict_1 _) F.entry_dict_init (kt_code_dict_new _ ⟨rfl,rfl⟩) ?_
 rintro obj s₁ ⟨rfl,rfl⟩
 have lt:l < s.heap.objs.size:=Heap.lt_size hx
 have hnew:(s.heap.push {cls:=.type "dict",data:=.dict #[]}).DictOfH (TK prog w) s.heap.objs.size []:=Heap.DictOfH.new s.heap
 have hx':(s.heap.push {cls:=.type "dict",data:=.dict #[]}).get? l=some {cls:=.type "list",data:=.seq items c}:=Heap.get?_push_of_some _ hx
 have hty:({s with heap:=s.heap.push {cls:=.type "dict",data:=.dict #[]}}:Shared).TypeIs (.ref s.heap.objs.size) "dict":=hnew.typeIs
 refine⟨hty,F.args_dict_init_2 _ _,?_⟩
 unfold Builtin.«dict.__init__»
 refine wpAny_bind ?_
 unfold Builtin.Dict.selfAndRest
 refine wpAny_bind (wpAny_notOrdered_dict hty ?_)
 show wpAny _ _ (pure (s.heap.objs.size,[Value.ref l])) _ _ _
 refine wpAny_pure ?_
 show wpAny _ _ (Builtin.Dict.updateFrom "dict.__init__" s.heap.objs.size (.ref l) [] .none) _ _ _
 unfold Builtin.Dict.updateFrom
 refine wpAny_bind (wpAny_typeOf (T:="list") ⟨_,hx',rfl⟩ ?_)
 rw[if_pos (by decide)]
 refine wpAny_bind (Dp.keys_miss hx' hh fun h1 tk1 hk1=>?_)
 rw[if_pos (by decide)]
 have hx1:=hk1 _ _ hx'
 have hd1:h1.DictOfH (TK prog w) s.heap.objs.size []:=by
  obtain⟨o,es,ep,ho,r1,r2,r3,r4,r5⟩:=hnew
  exact⟨o,es,ep,hk1 _ o ho,r1,r2,r3,(fun x hx=>nomatch hx),r5⟩
 refine wpAny_bind (wpAny_rule (wpAny_bind (wpAny_pyIter_list (items:=items) ⟨_,hx1,rfl,c,rfl⟩ ?_)))
 have gI:(h1.push {cls:=.type "list_iterator",data:=.fields #[.ref l,.int 0 0]}).IsListIter h1.objs.size l 0:=⟨_,Heap.get?_push_size _ rfl,rfl,rfl⟩
 have up:∀ b o,s.heap.get? b=some o→(h1.push {cls:=.type "list_iterator",data:=.fields #[.ref l,.int 0 0]}).get? b=some o:=fun b o e=>Heap.get?_push_of_some _ (hk1 b o (Heap.get?_push_of_some _ e))
 have l1:s.heap.objs.size < h1.objs.size:=by
  obtain⟨o,es,ep,ho,rest⟩:=hd1
  exact Heap.lt_size ho
 have lk:∀ p∈ps,@LT.lt Nat _ p.2.1 s.heap.objs.size:=fun p hp=>by
  obtain⟨o,items,n,e,_⟩:=hkeys p hp
  exact Heap.lt_size e
 refine wpAny_pure ⟨plainId_quiet Dp.plain_loop _,?_⟩
 refine loop (A:=A.in1) (d:=s.heap.objs.size) (I:=h1.objs.size) (l:=l) (items:=items) (ps:=ps) hh (tupleKind_room_in1 (A:=A.in1) (show(A.units + 1) + 1 < cLine from hu)) (Nat.ne_of_lt l1) (Nat.ne_of_gt lt) (Nat.ne_of_lt (Nat.lt_trans lt l1)) hn hz (fun p hp=>⟨Nat.ne_of_lt (Nat.lt_trans (lk p hp) l1),Nat.ne_of_lt (lk p hp)⟩) items.size 0 _ [] rfl (Nat.zero_le _) (Nat.le_refl _) gI ⟨_,Heap.get?_push_of_some _ hx1,rfl,c,rfl⟩ (by
  obtain⟨o,es,ep,ho,r1,r2,r3,r4,r5⟩:=hd1
  exact⟨o,es,ep,Heap.get?_push_of_some _ ho,r1,r2,r3,(fun x hx=>nomatch hx),r5⟩) (fun e he=>nomatch he) (fun p hp=>zlI (hkeys p hp) (up _)) (fun j p hj=>?_) fun h2 tk2 hk2 hd2=>?_
 ·obtain⟨a,g1,⟨o,g2,g3⟩⟩:=hp j p hj
  have la:=Heap.lt_size g2
  exact⟨a,g1,Nat.ne_of_lt la,Nat.ne_of_lt (Nat.lt_trans la l1),⟨o,up a o g2,g3⟩⟩
 ·exact⟨rfl,h h2 tk2 (fun b o e=>hk2 b o (Nat.ne_of_lt (Heap.lt_size e)) (Nat.ne_of_lt (Nat.lt_trans (Heap.lt_size e) l1)) (up b o e)) hd2⟩
end
end Dt
end PySem
namespace L3
open PySem PySem.Spec PyProof.Rows L2
section
variable {X:Cx}
def znS(ps:List (List Key×W)):List W:=ps.map fun p=>.tup [.tup (p.1.map wK),p.2]
theorem zlS{pins:List (Addr×Obj)}{σ:L2.St}{H:Hp}{M:Mm}{s:Shared}(I:L2.Inv X pins σ H s):∀ {ps:List (List Key×W)} {vs:List V} {its:List Value},AVs X.K H M vs (znS ps)→Vals vs its→
  ∃ (qs:List (List Key×Addr×V)) (rs:List (List Key×Addr×Value)),PKV X.K H M (List Key) (qs.map fun q=>(q.1,q.2.2)) ps∧(∀ q∈qs,H q.2.1=some (.tup (q.1.map kV)))∧Paired (fun(q:List Key×Addr×V) (p:List Key×Addr×Value)=>q.1=p.1∧q.2.1=p.2.1∧RelV q.2.2 p.2.2) qs rs∧rs.length=its.length∧
   (∀ z∈rs,H z.2.1=some (.tup (z.1.map kV)))∧∀ (j:Nat) (p:List Key×Addr×Value),rs[j]? = some p→∃ (a:Addr),its[j]? = some (.ref a)∧s.heap.IsTuple a #[.ref p.2.1,p.2.2]
 | [],_,_,.nil,.nil=>⟨[],[],.nil,(fun q hq=>nomatch hq),.nil,rfl,(fun q hq=>nomatch hq),fun j p h=>by simp at h⟩
 | (k,w) :: ps,_,_,.cons av avs,.cons rv rvs=>by
  obtain⟨qs,rs,h1,h2,h3,h4,h5,h6⟩:=zlS I avs rvs
  cases av with
  | tup e q=>
   cases rv
   obtain⟨u1,u2,rfl,a1,a2⟩:=q.two
   cases a1 with
   | @tup b zs _ eb qb=>
    rw[qb.keys] at eb
    obtain⟨its2,r2,pl,_⟩:=I.tuple (SqT.of e)
    cases r2 with
    | @cons _ x1v _ _ x1 r3=>cases r3 with
     | cons x2 r4=>
      cases r4
      cases (show x1v=Value.ref b from x1)
      refine⟨(k,b,u2) :: qs,(k,b,_) :: rs,.cons ⟨rfl,a2⟩ h1,fun z hz=>?_,.cons ⟨rfl,rfl,x2⟩ h3,by simp[h4],fun z hz=>?_,fun j p hj=>?_⟩
      ·rcases List.mem_cons.mp hz with rfl | hz
       ·exact eb
       ·exact h2 z hz
      ·rcases List.mem_cons.mp hz with rfl | hz
       ·exact eb
       ·exact h5 z hz
      ·cases j with
       | zero=>simp at hj;subst hj;exact⟨_,rfl,pl⟩
       | succ j=>exact h6 j p (by simpa using hj)
def zqo:List W→Mm→K3→Prop
 | [.rl ws],M,R=>∃ ps:List (List Key×W),ws=znS ps∧ws.length≤sizeLine∧NewT (zoF [] ps) M R
 | _,_,_=>False
theorem zuY(hc:X.calm=true)(hu:X.A.units + 2 < cLine):zbx X (.type "dict") (upC X.K zqo):=by
 rintro pins s σ H xs us Q I rs ⟨ws,M,R,am,axs,h,k⟩
 match ws,h with
 | [.rl ws],h=>
  obtain⟨v,rfl,av⟩:=axs.one
  obtain⟨ps,rfl,hz,r⟩:=h
  obtain⟨u,rfl,ru⟩:=zf4 rs
  cases av with
  | rl f n q=>
   cases ru
   obtain⟨z,its,c,rv,hl,e⟩:=I.lstM f
   obtain⟨qs,rs',h1,h2,h3,h4,h5,h6⟩:=zlS I q rv
   have hz2:ps.length≤sizeLine:=by simpa [znS] using hz
   have hql:qs.length=ps.length:=by have:=Paired.length h1;rwa [List.length_map] at this
   refine Dt.call_pairs (items:=its.toArray) (ps:=rs') (I.ok.hd hc) hu e (by simpa using h4) (by rw[List.size_toArray];omega) (fun p hp=>zfO I.hok (h5 p hp)) (fun j p hj=>by simpa using h6 j p hj) fun h' tk hk dd=>?_
   have hfr:=I.hok.fresh (Nat.le_refl _)
   have len:=zlJ (qs.map fun q=>(q.1,q.2.2)) []
   rw[List.length_map] at len
   have puts:∀ {ps:List (List Key×W)} {qs:List (List Key×V)} {ks:List (List Key×V)} {kvs:List (List Key×W)},PKV X.K H M (List Key) qs ps→PKV X.K H M (List Key) ks kvs→PKV X.K H M (List Key) (zmW ks qs) (zoF kvs ps):=by
    intro ps qs ks kvs h
    induction h generalizing ks kvs with
    | nil=>intro h;exact h
    | @cons q p qs ps r t ih=>
     intro h
     obtain⟨q1,q2⟩:=q
     obtain⟨p1,p2⟩:=p
     obtain⟨rfl,r2⟩:=r
     exact ih (zir h q1 r2)
   have g:=puts (ks:=[]) (kvs:=[]) h1 .nil
   refine⟨.ref s.heap.objs.size,upd H s.heap.objs.size (.dT (zmW [] (qs.map fun q=>(q.1,q.2.2)))),I.laid (o:=.dT (zmW [] (qs.map fun q=>(q.1,q.2.2)))) (t':=tk) hk (Nat.le_refl _) ⟨by simp at len;omega,beq_eq_false_iff_ne.mpr (Ne.symm (Nat.ne_of_lt I.big)),_,(zuM h3 h2 .nil).keeps fun c ys ec=>?_,?_⟩,rfl,?_⟩
   ·rw[zal (zap ec hfr)];exact ec
   ·obtain⟨o,en,ep,r1,r2,r3,r4,_,r5⟩:=dd
    exact⟨o,en,ep,r1,r2,r3,r4,r5⟩
   ·obtain⟨am2,k2⟩:=am.laid (o:=.dT (zoF [] ps)) (u:=.dT (zmW [] (qs.map fun q=>(q.1,q.2.2)))) hfr ⟨_,zar,zfQ g.keys (g.vals.newL hfr)⟩
    exact k _ _ _ _ k2 am2 (.ref _) (r _ (am.nonM hfr))
end
end L3
namespace Rg
open PySem PySem.Spec PyProof.Rows L2 L3
theorem ziO{G:Sr}{V:List Int}{N L S:Nat}(ok:SrOk G)(v:SrV G V N L)(hS:∀ t p,(G.steps t p).length≤S):∃ st P cur T,All G S (zf8 G).length st P cur T∧st.q=[]:=by
 have:∀ (k:Nat) (st:SS) (P:List It3) (cur:Cost) (T:Nat),All G S (zf8 G).length st P cur T→(zf8 G).length + N * ((L + 1) * (V.length * V.length)) * (S + V.length) - T=k→∃ st P cur T,All G S (zf8 G).length st P cur T∧st.q=[]:=by
  intro k
  induction k with
  | zero=>
   intro st P cur T A hk
   refine⟨st,P,cur,T,A,?_⟩
   obtain⟨_,_,f3⟩:=zmP v A
   have hl:=zr2 A.inv.fall
   exact List.length_eq_zero_iff.mp (by omega)
  | succ k ih=>
   intro st P cur T A hk
   by_cases hq:st.q=[]
   ·exact⟨st,P,cur,T,A,hq⟩
   ·obtain⟨P',cur',A'⟩:=zpY ok A hS hq
    exact ih _ _ _ _ A' (by omega)
 exact this _ _ _ _ _ (znI ok S) rfl
def N4:List Str:=["S","A","LONGNAME","B_1"]
def W5:List Str:=["b","a","ab","zz","aa"]
structure G39(rs:List Rule):Prop where
 few:rs.length≤12
 prt:∀ r∈rs,r.parts.length≤4
 nam:∀ r∈rs,r.name∈N4
 wrd:∀ r∈rs,∀ t∈r.parts,ownB rs t=true∨t∈W5
theorem zlT{acc:List Str}{t:Str}(h:acc.Nodup):(addN acc t).Nodup:=by
 unfold addN
 split
 ·exact h
 ·rename_i hn
  rw[List.nodup_append]
  refine⟨h,by simp,fun a ha b hb e=>hn ?_⟩
  have:b=t:=by simpa using hb
  rw[←this,←e];exact ha
theorem zm3(rs:List Rule):(zak rs).Nodup:=by
 have:∀ (ts acc:List Str),acc.Nodup→(ts.foldl addN acc).Nodup:=by
  intro ts
  induction ts with
  | nil=>intro acc h;exact h
  | cons t ts ih=>intro acc h;exact ih _ (zlT h)
 exact this _ _ List.nodup_nil
theorem G39.names{rs:List Rule}(g:G39 rs):(zak rs).length≤4:=by
 have:=zcN (a:=zak rs) (b:=N4) (zm3 rs) fun x hx=>by
  obtain⟨r,hr,rfl⟩:=zbN.mp hx
  exact g.nam r hr
 exact this
theorem G39.all{rs:List Rule}(g:G39 rs):AllW rs W5:=fun r hr t ht ho=>by
 rcases g.wrd r hr t ht with z | z
 ·rw[ho] at z;cases z
 ·exact z
theorem zkr(rs:List Rule)(ws:List Str):SrOk (zbo rs ws):=⟨fun _=>Int.le_refl _,fun t p e c h=>by
 have h:(e,c)∈(if p=0∧t∈ws then [((0:Int),(1:Int))] else []):=h
 split at h
 ·simp at h;omega
 ·cases h⟩
theorem zm4{rs:List Rule}(ws:List Str){k:Nat}(hk:∀ r∈rs,r.parts.length≤k):SrV (zbo rs ws) [0] (zbo rs ws).rs.length (k + 1):=by
 refine⟨fun p hp=>hp,fun t p e c hp hs=>?_,Nat.le_refl _,fun r hr=>by have:=hk r hr;omega⟩
 have hs:(e,c)∈(if p=0∧t∈ws then [((0:Int),(1:Int))] else []):=hs
 split at hs
 ·simp at hs;simp[hs.1]
 ·cases hs
theorem zgg(rs:List Rule)(ws:List Str)(t:Str)(p:Int):((zbo rs ws).steps t p).length≤1:=by
 show(if p=0∧t∈ws then [((0:Int),(1:Int))] else []).length≤1
 split <;> simp
theorem zm5{rs:List Rule}(g:G39 rs){X:Str}{l:Int}(h:aget (lawL rs) X=some l):l≤256:=by
 obtain⟨st,P,cur,T,A,hq⟩:=ziO (zkr rs W5) (zm4 W5 g.prt) (zgg rs W5)
 rw[zhe g.all A hq] at h
 unfold zki at h
 obtain⟨v,hv,rfl⟩:=Option.map_eq_some_iff.mp h
 obtain⟨a,b,e⟩:=zc9 hv
 have hm:(((X,0,0):Fact),v)∈st.best:=by rw[e];simp
 obtain⟨i,hi⟩:=List.getElem?_of_mem hm
 have hl:=(List.getElem?_eq_some_iff.mp hi).1
 have hb:=zrX A (p:=4) (by decide) g.prt i _ hi
 have h4:=zkh A
 have h5:=g.names
 have:(4:Int) ^ (i + 1)≤4 ^ 4:=by
  have:4 ^ (i + 1)≤4 ^ 4:=Nat.pow_le_pow_right (by decide) (by omega)
  exact_mod_cast this
 have hb:v.1.1≤(4:Int) ^ (i + 1):=hb
 have e4:(4:Int) ^ 4=256:=by decide
 omega
theorem zjN{rs:List Rule}(g:G39 rs){r:Rule}(hr:r∈rs)(h:lackT rs (lawL rs) r.parts=false):∃ l,aget (lawL rs) r.name=some l:=by
 obtain⟨st,P,cur,T,A,hq⟩:=ziO (zkr rs W5) (zm4 W5 g.prt) (zgg rs W5)
 have gd:=zdJ.rounds rs (rs.length + 1)
 obtain⟨l,h1,_⟩:=zlE g.all A hq (LD.mk hr (gd.sum h))
 exact⟨l,by rw[zhe g.all A hq];exact h1⟩
theorem zqp{rs:List Rule}{X:Str}(h:ownB rs X=false):aget (lawL rs) X=none:=by
 cases e:aget (lawL rs) X with
 | none=>rfl
 | some l=>rw[(zdJ.rounds rs (rs.length + 1)).own X l e] at h;cases h
abbrev lwL(rs:List Rule):Str→Option Int:=fun X=>aget (lawL rs) X
theorem zlU{κ:Type}:∀ {ps acc:List (Key×W)},((acc ++ ps).map (·.1)).Nodup→zjc acc ps=acc ++ ps
 | [],acc,_=>by simp[zjc]
 | p :: ps,acc,h=>by
  have hn:zam acc p.1=none:=by
   rw[List.map_append,List.nodup_append] at h
   exact ze2 fun e he z=>h.2.2 _ (List.mem_map.mpr ⟨e,he,rfl⟩) p.1 (by simp) z
  have e:putW acc p.1 p.2=acc ++ [p]:=by
   unfold putW
   rw[if_neg (by rw[show(acc.any fun kv=>decide (kv.1=p.1))=(zam acc p.1).isSome from zcj acc p.1,hn];decide)]
  show zjc (putW acc p.1 p.2) ps=_
  rw[e,zlU (κ:=κ) (by rw[List.append_assoc];exact h),List.append_assoc];rfl
def zm6(B:Best):List (Key×W):=B.map fun e=>(Sum.inr e.1.1,W.int e.2.1.1)
theorem zoJ{rs:List Rule}{ws:List Str}{S I0 T:Nat}{st:SS}{P:List It3}{cur:Cost}(A:All (zbo rs ws) S I0 st P cur T)(X:Str):zam (zjc [] (zm6 st.best)) (Sum.inr X:Key)=(zki st.best X).map W.int:=by
 have nd:((zm6 st.best).map (·.1)).Nodup:=by
  have h1:=zmQ A
  have h2:∀ e∈st.best,e.1=(e.1.1,0,0):=fun e he=>by
   obtain⟨r,hr,e1⟩:=zgH A he
   rw[e1]
  unfold zm6
  rw[List.map_map]
  have:∀ {B:Best},(∀ e∈B,e.1=(e.1.1,0,0))→(B.map (·.1)).Nodup→(B.map ((fun x:Key×W=>x.1) ∘ fun e=>(Sum.inr e.1.1,W.int e.2.1.1))).Nodup:=by
   intro B
   induction B with
   | nil=>intro _ _;simp
   | cons b B ih=>
    intro hf nd
    rw[List.map_cons,List.nodup_cons] at nd ⊢
    refine⟨fun hm=>?_,ih (fun e he=>hf e (List.mem_cons_of_mem _ he)) nd.2⟩
    obtain⟨e,he,e1⟩:=List.mem_map.mp hm
    apply nd.1
    have e1:e.1.1=b.1.1:=by simpa using e1
    rw[hf b List.mem_cons_self,←e1,←hf e (List.mem_cons_of_mem _ he)]
    exact List.mem_map.mpr ⟨e,he,rfl⟩
  exact this h2 h1
 rw[zlU (κ:=Key) (by simpa using nd),List.nil_append]
 unfold zki zm6
 have:∀ {B:Best},(∀ e∈B,e.1=(e.1.1,0,0))→zam (B.map fun e=>((Sum.inr e.1.1:Key),W.int e.2.1.1)) (Sum.inr X)=((aget B (X,0,0)).map fun v=>v.1.1).map W.int:=by
  intro B
  induction B with
  | nil=>intro _;rfl
  | cons b B ih=>
   intro hf
   rw[List.map_cons,zbz,zai,ih fun e he=>hf e (List.mem_cons_of_mem _ he)]
   have hb:=hf b List.mem_cons_self
   by_cases h:b.1.1=X
   ·rw[if_pos (by rw[h]),if_pos (by rw[hb,h])];rfl
   ·rw[if_neg (fun z=>h (Sum.inr.inj z)),if_neg (fun z=>h (by rw[hb] at z;exact congrArg Prod.fst z))]
 exact this fun e he=>by
  obtain⟨r,hr,e1⟩:=zgH A he
  rw[e1]
def zfa(P:Str→Bool)(a:List Str)(t:Str):List Str:=if P t=true∧t∉a then a ++ [t] else a
theorem znT(P:Str→Bool):∀ (ts acc:List Str),ts.foldl (zfa P) (acc.filter P)=(ts.foldl addN acc).filter P
 | [],acc=>rfl
 | t :: ts,acc=>by
  rw[List.foldl_cons,List.foldl_cons,←znT P ts (addN acc t)]
  congr 1
  unfold zfa addN
  by_cases ha:t∈acc
  ·rw[if_pos ha]
   by_cases hp:P t=true
   ·rw[if_neg (fun z=>z.2 (List.mem_filter.mpr ⟨ha,hp⟩))]
   ·rw[if_neg (fun z=>hp z.1)]
  ·rw[if_neg ha,List.filter_append]
   by_cases hp:P t=true
   ·rw[if_pos ⟨hp,fun z=>ha (List.mem_filter.mp z).1⟩];simp[hp]
   ·rw[if_neg (fun z=>hp z.1)];simp[hp]
end Rg
namespace Rg
open PySem PySem.Spec PyProof.Rows L2 L3
def Dk(d n:Addr)(M:Mm):Prop:=d≠n∧∃ (ns:List Int) (v:Int),M d=some (.lst [.ref n,.int v])∧M n=some (.lst (ns.map W.int))
def Oth(d n:Addr)(M M':Mm):Prop:=∀ p o,p≠d→p≠n→M p=some o→M' p=some o
theorem Oth.refl{d n:Addr}{M:Mm}:Oth d n M M:=fun _ _ _ _ h=>h
theorem Oth.trans{d n:Addr}{M M1 M2:Mm}(h:Oth d n M M1)(g:Oth d n M1 M2):Oth d n M M2:=fun p o h1 h2 e=>g p o h1 h2 (h p o h1 h2 e)
theorem Dk.put{d n p:Addr}{M:Mm}{o:MO}(h:Dk d n M)(h1:p≠d)(h2:p≠n):Dk d n (put M p o):=by
 obtain⟨a,ns,v,b,c⟩:=h
 exact⟨a,ns,v,by rw[zaf (Ne.symm h1)];exact b,by rw[zaf (Ne.symm h2)];exact c⟩
theorem Dk.ne{d n p:Addr}{M:Mm}(h:Dk d n M)(hp:M p=none):p≠d∧p≠n:=by
 obtain⟨a,ns,v,b,c⟩:=h
 refine⟨fun e=>?_,fun e=>?_⟩
 ·rw[e,b] at hp;cases hp
 ·rw[e,c] at hp;cases hp
def zaZ:Sp3:=fun ws M R=>∃ (ls:List W) (xss:List (List Str)),ws=[.rl ls]∧ls.length≤1000∧Paired (zlR M) ls xss∧xss.flatten.length≤1000000∧New (xss.flatten.map W.str) M R
def zcV:Sp3:=fun ws M R=>∃ rs:List Rule,ws=[rlW rs]∧rs.length≤100∧New (rs.map fun _=>W.int 0) M R
def zed:Sp3:=fun ws M R=>∃ (rs:List Rule) (U:List Str),ws=[rlW rs]∧rs.length≤100∧U.length < 64∧AllW rs U∧∀ ss:List Str,AllW rs ss→ss.Nodup→(∀ t∈ss,t∈U)→R (.rl (ss.map W.str)) M
def zbb:Sp3:=fun ws M R=>∃ rs:List Rule,ws=[rlW rs]∧G39 rs∧∀ kvs:List (Key×W),(∀ X:Str,zam kvs (Sum.inr X:Key)=(lwL rs X).map W.int)→NewK kvs M R
def LenT(rs:List Rule)(kvs:List (Key×W)):Prop:=∀ X:Str,zam kvs (Sum.inr X:Key)=(lwL rs X).map W.int
def zcp:Sp3:=fun ws M R=>∃ (rs:List Rule) (kvs:List (Key×W)),ws=[rlW rs,.dk kvs]∧G39 rs∧LenT rs kvs∧New ((rs.filter (fitB rs (lwL rs))).map zav) M R
structure zhn(M0 M:Mm)(a:Addr)(T:RT):Prop where
 sub:L3.Sub M0 M
 new:M0 a=none
 ex:∃ ps:List (Str×Addr),M a=some (.dK (ps.map fun e=>(Sum.inr e.1,W.ref e.2)))∧(∀ X,(aget ps X).isSome=(aget T X).isSome)∧ps.length≤T.length∧
  (∀ X row,aget T X=some row→∃ p,aget ps X=some p∧p≠a∧M0 p=none∧M p=some (.lst (row.map W.str)))∧∀ X Y p,aget ps X=some p→aget ps Y=some p→X=Y
def zgT:Sp3:=fun ws M R=>∃ (rs:List Rule) (M0:Mm) (a:Addr) (T:RT) (parts:List Str),ws=[.dk (zhk rs),.ref a,.tup (parts.map W.str)]∧zhn M0 M a T∧(∀ X row,aget T X=some row→ownB rs X=true∧row.length≤256)∧parts.length≤4∧
 (lackT rs T parts=true→R .non M)∧(lackT rs T parts=false→New ((za9 T parts).map W.str) M R)
def zcW:Sp3:=fun ws M R=>∃ (rs:List Rule) (kvs:List (Key×W)),ws=[rlW rs,.dk kvs]∧G39 rs∧LenT rs kvs∧∀ a M' T,Rest rs (lwL rs) T→zdr rs (lwL rs) W5 T→zhn M M' a T→R (.ref a) M'
def zbk(rs:List Rule)(T:RT):List (Str×List Str):=(zak rs).filterMap fun X=>(aget T X).map fun row=>(X,row)
def zbi:Sp3:=fun ws M R=>∃ rs:List Rule,ws=[rlW rs]∧G39 rs∧∀ p M' T (as:List (Str×Addr×List Str)),Rest rs (lwL rs) T→zdr rs (lwL rs) W5 T→M p=none→L3.Sub M M'→M' p=some (.lst (as.map fun x=>.tup [.str x.1,.ref x.2.1]))→(as.map fun x=>(x.1,x.2.2))=zbk rs T→
 (∀ x∈as,M x.2.1=none∧x.2.1≠p∧M' x.2.1=some (.lst (x.2.2.map W.str)))→R (.ref p) M'
def zdE:Sp3:=fun ws M R=>∃ zs:List Int,ws=[.sc (zs.map W.int)]∧∀ d n M',Dk d n M'→L3.Sub M M'→M d=none→M n=none→R (.ref d) M'
def za5:Sp3:=fun ws M R=>∃ (d n:Addr) (many:Int),ws=[.ref d,.int many]∧0 < many∧many≤1000∧Dk d n M∧∀ z M',0≤z→z < many→Dk d n M'→Oth d n M M'→R (.int z) M'
def zfH:Sp3:=fun ws M R=>∃ (d n:Addr),ws=[.ref d]∧Dk d n M∧∀ rs a M',G39 rs→0 < rs.length→M' a=some (.lst (rs.map zav))→R (.ref a) M'
def zdF:Sp3:=fun ws M R=>∃ rs:List Rule,ws=[rlW rs]∧G39 rs∧∀ kvs:List (Key×W),LenT rs kvs→NewK kvs M R
def zgU:Sp3:=fun ws M R=>∃ (rs:List Rule) (kvs:List (Key×W)) (r:Rule),ws=[rlW rs,.dk kvs,.tup (r.parts.map W.str),.str r.name]∧G39 rs∧LenT rs kvs∧r∈rs∧R (.bl (fitB rs (lwL rs) r)) M
def zwY(T:RT):List (Key×W):=T.map fun e=>(Sum.inr e.1,W.rl (e.2.map W.str))
def zid:Sp3:=fun ws M R=>∃ rs:List Rule,ws=[rlW rs]∧G39 rs∧∀ T,Rest rs (lwL rs) T→zdr rs (lwL rs) W5 T→NewK (zwY T) M R
abbrev zqq:Sp3:=zln
abbrev zbC:List Str:=["lists","whole","one"]
def zb2:TS3:=
   (vSet 1 (vLst aNil))
def zbS:TS3:=
   (zcL (vBM "list" rExt (vVar 1) (zac (vVar 2) aNil)))
def zb3:TS3:=
   (vFor (iIt rItN (vVar 0)) (zaw 2) zbS)
def zb4:TS3:=
   (vRet (vVar 1))
def zaH:TS3:=(vSeq zb2 (vSeq zb3 zb4))
abbrev zfb:List Str:=["grammar"]
def zb5:TS3:=
   (vRet (zcM (iIt rItN (vVar 0)) (zaw 0) zc5 (vC (.int 0)) [none]))
abbrev zho:List Str:=["grammar","own","found","rule","part"]
def zgV:TS3:=
   (vSet 1 (zbf zd8 (zac (vFrz (zbf zdv (zac (vVar 0) aNil))) aNil)))
def zgW:TS3:=
   (vSet 2 zmx)
def zfR:TS3:=
   (vFor (iIt rItN (vOp rIx (vVar 3) (vC (.int 1)))) (zaw 4)
    (vIfS (za2 (vOp (rIn true) (vVar 4) (vVar 1)))
    (vAsg (vC (.bl true)) (wSub (vVar 2) (vVar 4)))
    zc4))
def zgX:TS3:=
   (vFor (iIt rItN (vVar 0)) (zaw 3) zfR)
def zgY:TS3:=
   (vRet (vCB zmN (zac (vFrz (vVar 2)) aNil)))
def zdj:TS3:=(vSeq zgV (vSeq zgW (vSeq zgX zgY)))
abbrev zb6:List Str:=["grammar","steps","best"]
def zcF(C:Cc):TS3:=
   (vSet 1 (vFrz (vCB zqo (zac (vFrz (zcM (iIt rItN (zbf zed (zac (vVar 0) aNil))) (zaw 0) zc5 (vTup (zac (vTup (zac (vVar 0) (zac (vC (.int 0)) aNil))) (zac (zd3 (zac (vTup (zac (vC (.int 0)) (zac (vC (.int 1)) aNil))) aNil)) aNil))) [none])) aNil))))
def zcG(C:Cc):TS3:=
   (vSet 2 (zuT (zbf (zco C) (zac (vVar 0) (zac (zd3 (zac (vC (.int 0)) aNil)) (zac (vVar 1) (zac (vFrz (zbf zcV (zac (vVar 0) aNil))) aNil)))))))
def zcH(C:Cc):TS3:=
   (vRet (vCB zuI (zac (vFrz (zcM (iIt rItD (vVar 2)) (zaw 0) zc5 (vTup (zac (vOp rIx (vVar 0) (vC (.int 0))) (zac (vOp rIx (vOp rIx (vOp rIx (vVar 1) (vVar 0)) (vC (.int 0))) (vC (.int 0))) aNil))) [none,some 2])) aNil)))
def zaV(C:Cc):TS3:=(vSeq (zcF C) (vSeq (zcG C) (zcH C)))
abbrev zee:List Str:=["grammar","lengths","own","found","rule"]
def zeD:TS3:=
   (vSet 2 (zbf zd8 (zac (vFrz (zbf zdv (zac (vVar 0) aNil))) aNil)))
def zeE:TS3:=
   (vSet 3 (vLst aNil))
def zdX:TS3:=
   (vIfS (zeq (vCB rAll (zac (vFrz (zcM (iIt rItN (vOp rIx (vVar 4) (vC (.int 1)))) (zaw 0) (za2 (vOp (rIn false) (vVar 0) (vVar 1))) (vOp (rIn false) (vVar 0) (vVar 2)) [none,some 2,some 1])) aNil)))
    (vIfS (za2 (vOp (rEq false) (vCB rSum (zac (vFrz (zcM (iIt rItN (vOp rIx (vVar 4) (vC (.int 1)))) (zaw 0) zc5 (vBM "dict" rGet (vVar 1) (zac (vVar 0) (zac (vC (.int 1)) aNil))) [none,some 1])) aNil)) (vOp rIx (vVar 1) (vOp rIx (vVar 4) (vC (.int 0))))))
    (zcL (vBM "list" rApp (vVar 3) (zac (vVar 4) aNil)))
    zc4)
    zc4)
def zeF:TS3:=
   (vFor (iIt rItN (vVar 0)) (zaw 4) zdX)
def zeG:TS3:=
   (vRet (vVar 3))
def zbH:TS3:=(vSeq zeD (vSeq zeE (vSeq zeF zeG)))
abbrev zks:List Str:=["own","rows","parts"]
def zfc:TS3:=
   (vSeq (vIfS (zeq (vCB rAny (zac (vFrz (zcM (iIt rItN (vVar 2)) (zaw 0) zc5 (ztz (vOp (rIn false) (vVar 0) (vVar 1)) (vOp (rIn true) (vVar 0) (vVar 2))) [none,some 0,some 1])) aNil)))
    (vRet (vC .non))
    zc4)
   (vRet (zbf zaZ (zac (vFrz (zcM (iIt rItN (vVar 2)) (zaw 0) zc5 (vIf (za2 (vOp (rIn false) (vVar 0) (vVar 1))) (vOp rIx (vVar 2) (vVar 0)) (zd3 (zac (vVar 0) aNil))) [none,some 0,some 1])) aNil))))
abbrev zfd:List Str:=["grammar","lengths","own","tight","rows","changed","rule","row"]
def zfe:TS3:=
   (vSet 2 (zbf zd8 (zac (vFrz (zbf zdv (zac (vVar 0) aNil))) aNil)))
def zff:TS3:=
   (vSet 3 (vFrz (zbf zcp (zac (vVar 0) (zac (vVar 1) aNil)))))
def zfg:TS3:=
   (vSet 4 zmx)
def zfh:TS3:=
   (vSet 5 (vC (.bl true)))
def zeH:TS3:=
   (vSeq (vSet 5 (vC (.bl false)))
   (vFor (iIt rItN (vVar 3)) (zaw 6)
    (vSeq (vSet 7 (zbf zgT (zac (vVar 2) (zac (vVar 4) (zac (vOp rIx (vVar 6) (vC (.int 1))) aNil)))))
   (vIfS (vAnd (za2 (vOp (rIs true) (vVar 7) (vC .non))) (vOr (za2 (vOp (rIn true) (vOp rIx (vVar 6) (vC (.int 0))) (vVar 4))) (za2 (vOp rLtL (vVar 7) (vOp rIx (vVar 4) (vOp rIx (vVar 6) (vC (.int 0))))))))
    (vSeq (vAsg (vVar 7) (wSub (vVar 4) (vOp rIx (vVar 6) (vC (.int 0)))))
   (vSet 5 (vC (.bl true))))
    zc4))))
def zfi:TS3:=
   (zgy (zeq (vVar 5)) zeH)
def zfj:TS3:=
   (vRet (vVar 4))
def zb7:TS3:=(vSeq zfe (vSeq zff (vSeq zfg (vSeq zfh (vSeq zfi zfj)))))
abbrev zdk:List Str:=["grammar","rows"]
def zbj:TS3:=
   (vSeq (vSet 1 (zbf zcW (zac (vVar 0) (zac (vFrz (zbf zbb (zac (vVar 0) aNil))) aNil))))
   (vRet (zcM (iIt rItN (vFrz (zbf zdv (zac (vVar 0) aNil)))) (zaw 0) (za2 (vOp (rIn false) (vVar 0) (vVar 1))) (vTup (zac (vVar 0) (zac (vOp rIx (vVar 1) (vVar 0)) aNil))) [none,some 1])))
abbrev zgh:List Str:=["script","numbers","k","cell","number","turn","one"]
def zfS:TS3:=
   (vSet 1 (vLst aNil))
def zfk:TS3:=
   (vSeq (vSet 4 (vCB rAbs (zac (vVar 3) aNil)))
   (vSeq (vIfS (za2 (vOp rLt (vVar 4) (vOp rPow (vC (.int 10)) (vC (.int 18)))))
    (vFor (iR1 (zac (vC (.int 6)) aNil)) (zaw 5)
    (vSeq (vSet 6 (vOp rMod (vOp zci (vOp zci (vOp zci (vVar 4) (vOp zj6 (vC (.int 7919)) (vVar 2))) (vVar 5)) (vC (.int 2))) (vC (.int 2305843009213693951))))
   (vSeq (vSet 6 (vOp rMod (vOp zj6 (vVar 6) (vVar 6)) (vC (.int 2305843009213693951))))
   (vSet 4 (vOp zci (vOp zj6 (vVar 4) (vC (.int 2305843009213693951))) (vOp rMod (vOp zj6 (vVar 6) (vC (.int 3037000493))) (vC (.int 2305843009213693951))))))))
    zc4)
   (zcL (vBM "list" rApp (vVar 1) (zac (vVar 4) aNil)))))
def zfT:TS3:=
   (vFor (zdP (zac (vSlF (vVar 0) sNo (sPt (vC (.int 63)))) aNil)) (wTup 2 (zdq (zaw 2) (zdq (zaw 3) wNil))) zfk)
def zfU:TS3:=
   (zcL (vBM0 "list" rRev (vVar 1)))
def zfV:TS3:=
   (vRet (vLst (zac (vVar 1) (zac (vC (.int 0)) aNil))))
def zcI:TS3:=(vSeq zfS (vSeq zfT (vSeq zfU zfV)))
abbrev zkt:List Str:=["deck","many","taken"]
def ziP:TS3:=
   (vIfS (vAnd (za2 (vOp (rEq false) (vOp rIx (vVar 0) (vC (.int 1))) (vC (.int 0)))) (za2 (vOp (rEq true) (vOp rIx (vVar 0) (vC (.int 0))) (zd3 aNil))))
    (vAsg (vBM0 "list" rPop (vOp rIx (vVar 0) (vC (.int 0)))) (wSub (vVar 0) (vC (.int 1))))
    zc4)
def zef:TS3:=
   (vSet 2 (vOp rMod (vOp rIx (vVar 0) (vC (.int 1))) (vVar 1)))
def zeg:TS3:=
   (vAsg (vOp ztA (vOp rIx (vVar 0) (vC (.int 1))) (vVar 1)) (wSub (vVar 0) (vC (.int 1))))
def zeh:TS3:=
   (vRet (vVar 2))
def zfl:TS3:=(vSeq ziP (vSeq zef (vSeq zeg zeh)))
abbrev ziQ:List Str:=["deck","some","heads","chained","rules","k","head","parts","turn","part"]
def zhE:TS3:=
   (vSet 1 (vSlF (zd3 (zac (vC (.str "S")) (zac (vC (.str "A")) (zac (vC (.str "LONGNAME")) (zac (vC (.str "B_1")) aNil))))) sNo (sPt (vOp zci (vC (.int 1)) (zbf za5 (zac (vVar 0) (zac (vC (.int 4)) aNil)))))))
def zhF:TS3:=
   (vSet 2 (vOp zci (zd3 (zac (vOp rIx (vVar 1) (vC (.int 0))) aNil)) (vFrz (zcM (iR1 (zac (zbf za5 (zac (vVar 0) (zac (vC (.int 12)) aNil))) aNil)) (zaw 0) zc5 (vOp rIx (vVar 1) (zbf za5 (zac (vVar 2) (zac (vCB rLen (zac (vVar 1) aNil)) aNil)))) [none,some 1,some 0]))))
def zhG:TS3:=
   (vSet 3 (vOp (rEq false) (zbf za5 (zac (vVar 0) (zac (vC (.int 3)) aNil))) (vC (.int 0))))
def zhH:TS3:=
   (vSet 4 (vLst aNil))
def zgZ:TS3:=
   (vSeq (vSet 7 (vLst aNil))
   (vSeq (vFor (iR1 (zac (zbf za5 (zac (vVar 0) (zac (vOp rIx (zd3 (zac (vC (.int 5)) (zac (vC (.int 5)) (zac (vC (.int 5)) (zac (vC (.int 4)) aNil))))) (vOp rSub (vCB rLen (zac (vVar 1) aNil)) (vC (.int 1)))) aNil))) aNil)) (zaw 8)
    (vSeq (vSet 9 (vOp rIx (zd3 (zac (vC (.str "b")) (zac (vC (.str "a")) (zac (vC (.str "ab")) (zac (vC (.str "zz")) (zac (vC (.str "aa")) aNil)))))) (zbf za5 (zac (vVar 0) (zac (vC (.int 5)) aNil)))))
   (zcL (vBM "list" rApp (vVar 7) (zac (vOp rIx (zd3 (zac (vVar 9) (zac (vOp rIx (vVar 2) (zbf za5 (zac (vVar 0) (zac (vCB rLen (zac (vVar 2) aNil)) aNil)))) aNil))) (zbf za5 (zac (vVar 0) (zac (vC (.int 2)) aNil)))) aNil)))))
   (vSeq (vIfS (vAnd (zeq (vVar 3)) (vAnd (za2 (vOp (rIn true) (vVar 6) (vSlF (vVar 2) sNo (sPt (vVar 5))))) (za2 (vOp rLt (vOp zci (vVar 5) (vC (.int 1))) (vCB rLen (zac (vVar 2) aNil))))))
    (vSet 7 (vLst (zac (vOp rIx (vVar 2) (vOp zci (vVar 5) (vC (.int 1)))) aNil)))
    zc4)
   (zcL (vBM "list" rApp (vVar 4) (zac (vTup (zac (vVar 6) (zac (vCB zli (zac (vVar 7) aNil)) (zac (zbf za5 (zac (vVar 0) (zac (vC (.int 3)) aNil))) aNil)))) aNil))))))
def zhI:TS3:=
   (vFor (zdP (zac (vVar 2) aNil)) (wTup 2 (zdq (zaw 5) (zdq (zaw 6) wNil))) zgZ)
def zhJ:TS3:=
   (vRet (vVar 4))
def zdY:TS3:=(vSeq zhE (vSeq zhF (vSeq zhG (vSeq zhH (vSeq zhI zhJ)))))
abbrev zgi:List Str:=["rules","lengths","heads","turn","head","parts","cost","length"]
def zfW:TS3:=
   (vSet 1 zmx)
def zfX:TS3:=
   (vSet 2 (vFrz (zcM (iIt rItN (vVar 0)) (zaw 0) zc5 (vOp rIx (vVar 0) (vC (.int 0))) [none])))
def zfm:TS3:=
   (vFor (iIt rIt (vVar 0)) (wTup 3 (zdq (zaw 4) (zdq (zaw 5) (zdq (zaw 6) wNil))))
    (vIfS (za2 (vOp (rEq false) (vFrz (zcM (iIt rItN (vVar 5)) (zaw 0) (vAnd (za2 (vOp (rIn false) (vVar 0) (vVar 1))) (za2 (vOp (rIn true) (vVar 0) (vVar 2)))) (vVar 0) [none,some 2,some 1])) (zd3 aNil)))
    (vSeq (vSet 7 (vCB rSum (zac (vFrz (zcM (iIt rItN (vVar 5)) (zaw 0) zc5 (vBM "dict" rGet (vVar 1) (zac (vVar 0) (zac (vC (.int 1)) aNil))) [none,some 1])) aNil)))
   (vAsg (vCB rMin (zac (vVar 7) (zac (vBM "dict" rGet (vVar 1) (zac (vVar 4) (zac (vVar 7) aNil))) aNil))) (wSub (vVar 1) (vVar 4))))
    zc4))
def zfY:TS3:=
   (vFor (iR1 (zac (vOp zci (vCB rLen (zac (vVar 0) aNil)) (vC (.int 1))) aNil)) (zaw 3) zfm)
def zfZ:TS3:=
   (vRet (vVar 1))
def zcJ:TS3:=(vSeq zfW (vSeq zfX (vSeq zfY zfZ)))
abbrev zm7:List Str:=["rules","lengths","heads","rows","more","head","parts","cost","lacking","row","part"]
def zjO:TS3:=
   (vSet 1 (vFrz (zbf zdF (zac (vVar 0) aNil))))
def zjP:TS3:=
   (vSet 2 (vFrz (zcM (iIt rItN (vVar 0)) (zaw 0) zc5 (vOp rIx (vVar 0) (vC (.int 0))) [none])))
def zjQ:TS3:=
   (vSet 3 zmx)
def zjR:TS3:=
   (vSet 4 (vC (.bl true)))
def ziR:TS3:=
   (vSeq (vSet 4 (vC (.bl false)))
   (vFor (iIt rIt (vVar 0)) (wTup 3 (zdq (zaw 5) (zdq (zaw 6) (zdq (zaw 7) wNil))))
    (vSeq (vSet 8 (vFrz (zcM (iIt rItN (vVar 6)) (zaw 0) (vAnd (za2 (vOp (rIn false) (vVar 0) (vVar 1))) (za2 (vOp (rIn true) (vVar 0) (vVar 2)))) (vVar 0) [none,some 2,some 3])))
   (vIfS (vAnd (za2 (vOp (rEq false) (vVar 8) (zd3 aNil))) (zeq (zbf zgU (zac (vVar 0) (zac (vVar 1) (zac (vVar 6) (zac (vVar 5) aNil)))))))
    (vSeq (vSet 9 (zd3 aNil))
   (vSeq (vFor (iIt rItN (vVar 6)) (zaw 10)
    (vSet 9 (vOp zci (vVar 9) (vBM "dict" rGet (vVar 3) (zac (vVar 10) (zac (zd3 (zac (vVar 10) aNil)) aNil))))))
   (vIfS (vOr (za2 (vOp (rIn true) (vVar 5) (vVar 3))) (za2 (vOp rLtL (vVar 9) (vOp rIx (vVar 3) (vVar 5)))))
    (vSeq (vAsg (vVar 9) (wSub (vVar 3) (vVar 5)))
   (vSet 4 (vC (.bl true))))
    zc4)))
    zc4))))
def zjS:TS3:=
   (zgy (zeq (vVar 4)) ziR)
def zjT:TS3:=
   (vRet (vVar 3))
def zg0:TS3:=(vSeq zjO (vSeq zjP (vSeq zjQ (vSeq zjR (vSeq zjS zjT)))))
abbrev zku:List Str:=["rules","lengths","parts","head","heads"]
def ziS:TS3:=
   (vSet 4 (vFrz (zcM (iIt rItN (vVar 0)) (zaw 0) zc5 (vOp rIx (vVar 0) (vC (.int 0))) [none])))
def ziT:TS3:=
   (vIfS (za2 (vOp (rEq true) (vFrz (zcM (iIt rItN (vVar 2)) (zaw 0) (vAnd (za2 (vOp (rIn false) (vVar 0) (vVar 1))) (za2 (vOp (rIn true) (vVar 0) (vVar 2)))) (vVar 0) [none,some 4,some 1])) (zd3 aNil)))
    (vRet (vC (.bl false)))
    zc4)
def ziU:TS3:=
   (vRet (vOp (rEq false) (vCB rSum (zac (vFrz (zcM (iIt rItN (vVar 2)) (zaw 0) zc5 (vBM "dict" rGet (vVar 1) (zac (vVar 0) (zac (vC (.int 1)) aNil))) [none,some 1])) aNil)) (vOp rIx (vVar 1) (vVar 3))))
def zfn:TS3:=(vSeq ziS (vSeq ziT ziU))
abbrev zuZ:List Str:=["script","rules","due","order","head","parts","cost","handed","found","one"]
def znU:TS3:=
   (vSet 1 (vFrz (zbf zfH (zac (zbf zdE (zac (vVar 0) aNil)) aNil))))
def znV:TS3:=
   (vSet 2 (vFrz (zbf zid (zac (vVar 1) aNil))))
def znW:TS3:=
   (vSet 3 (vLst aNil))
def zlV:TS3:=
   (vIfS (vAnd (za2 (vOp (rIn false) (vVar 4) (vVar 2))) (za2 (vOp (rIn true) (vVar 4) (vVar 3))))
    (zcL (vBM "list" rApp (vVar 3) (zac (vVar 4) aNil)))
    zc4)
def znX:TS3:=
   (vFor (iIt rIt (vVar 1)) (wTup 3 (zdq (zaw 4) (zdq (zaw 5) (zdq (zaw 6) wNil)))) zlV)
def znY:TS3:=
   (vSet 7 (vCB ziv (zac (vVar 1) aNil)))
def znZ:TS3:=
   (vSet 8 (zbf zbi (zac (vVar 7) aNil)))
def zn0:TS3:=
   (vIfS (vOr (vNot (zeq (vCB rIsi (zac (vVar 8) (zac (vC (.ty "list")) aNil))))) (za2 (vOp (rEq true) (vVar 7) (vVar 1))))
    (vRet (vC (.bl false)))
    zc4)
def zn1:TS3:=
   (vIfS (za2 (vOp (rEq true) (vVar 8) (vFrz (zcM (iIt rItN (vVar 3)) (zaw 0) zc5 (vTup (zac (vVar 0) (zac (vOp rIx (vVar 1) (vVar 0)) aNil))) [none,some 2]))))
    (vRet (vC (.bl false)))
    zc4)
def zlW:TS3:=
   (vSeq (vIfS (vOr (vNot (zeq (vCB rIsi (zac (vVar 9) (zac (vC (.ty "tuple")) aNil))))) (vNot (zeq (vCB rIsi (zac (vOp rIx (vVar 9) (vC (.int 1))) (zac (vC (.ty "list")) aNil))))))
    (vRet (vC (.bl false)))
    zc4)
   (zcL (vBM "list" rApp (vOp rIx (vVar 9) (vC (.int 1))) (zac (vC (.str "a")) aNil))))
def zn2:TS3:=
   (vFor (iIt rItN (vVar 8)) (zaw 9) zlW)
def zn3:TS3:=
   (zcL (vBM "list" rApp (vVar 8) (zac (vTup aNil) aNil)))
def zlX:TS3:=
   (vRet (vOp (rEq false) (zbf zbi (zac (vVar 7) aNil)) (vFrz (zcM (iIt rItN (vVar 3)) (zaw 0) zc5 (vTup (zac (vVar 0) (zac (vOp rIx (vVar 1) (vVar 0)) aNil))) [none,some 2]))))
def zlY:TS3:=(vSeq znU (vSeq znV (vSeq znW (vSeq znX (vSeq znY (vSeq znZ (vSeq zn0 (vSeq zn1 (vSeq zn2 (vSeq zn3 zlX))))))))))
theorem zeP:∀ ws M R,zaZ ws M R→ws.length=1:=by rintro ws M R ⟨_,_,rfl,_⟩;rfl
theorem zjh:∀ ws M R,zcV ws M R→ws.length=1:=by rintro ws M R ⟨_,rfl,_⟩;rfl
theorem zlZ:∀ ws M R,zed ws M R→ws.length=1:=by rintro ws M R ⟨_,_,rfl,_⟩;rfl
theorem zfM:∀ ws M R,zbb ws M R→ws.length=1:=by rintro ws M R ⟨_,rfl,_⟩;rfl
theorem ziV:∀ ws M R,zcp ws M R→ws.length=2:=by rintro ws M R ⟨_,_,rfl,_⟩;rfl
theorem zoK:∀ ws M R,zgT ws M R→ws.length=3:=by rintro ws M R ⟨_,_,_,_,_,rfl,_⟩;rfl
theorem zji:∀ ws M R,zcW ws M R→ws.length=2:=by rintro ws M R ⟨_,_,rfl,_⟩;rfl
theorem zhp:∀ ws M R,zbi ws M R→ws.length=1:=by rintro ws M R ⟨_,rfl,_⟩;rfl
theorem zkv:∀ ws M R,zdE ws M R→ws.length=1:=by rintro ws M R ⟨_,rfl,_⟩;rfl
theorem zoL:∀ ws M R,za5 ws M R→ws.length=2:=by rintro ws M R ⟨_,_,_,rfl,_⟩;rfl
theorem zm8:∀ ws M R,zfH ws M R→ws.length=1:=by rintro ws M R ⟨_,_,rfl,_⟩;rfl
theorem zkw:∀ ws M R,zdF ws M R→ws.length=1:=by rintro ws M R ⟨_,rfl,_⟩;rfl
theorem zoM:∀ ws M R,zgU ws M R→ws.length=4:=by rintro ws M R ⟨_,_,_,rfl,_⟩;rfl
theorem zqr:∀ ws M R,zid ws M R→ws.length=1:=by rintro ws M R ⟨_,rfl,_⟩;rfl
theorem zu0:∀ ws M R,zqq ws M R→ws.length=1:=by rintro ws M R ⟨_,rfl,_⟩;rfl
end Rg
namespace Rg
open PySem PySem.Spec PyProof.Rows L2 L3
theorem zwZ{ws:List W}{M:Mm}{q:Addr}{R:K3}(neg:Bool)(hq:M q=some (.lst ws))(hw:∀ w∈ws,Pl 1 w)(h:R (.bl (if neg then !ws.isEmpty else ws.isEmpty)) M):rEq neg (.ref q) (.rl []) M R:=by
 have e:der M (.ref q)=.rl ws:=by simp[der,hq]
 refine zpD 2 (by decide) (by rw[e];exact hw) (by intro w hw;simp at hw) fun b hb=>?_
 rw[e] at hb
 have:b=ws.isEmpty:=by
  rw[Bool.eq_iff_iff,hb]
  show W.rl ws=W.rl []↔_
  cases ws <;> simp
 rw[this];exact h
theorem zw0{xs:List Str}(h:∀ x∈xs,sOk x):∀ w∈xs.map W.str,Pl 1 w:=fun w hw=>by
 obtain⟨x,hx,rfl⟩:=List.mem_map.mp hw;exact h x hx
theorem zw1{xs:List Int}:∀ w∈xs.map W.int,Pl 1 w:=fun w hw=>by
 obtain⟨x,hx,rfl⟩:=List.mem_map.mp hw;trivial
theorem zm9{ws:List W}{M:Mm}{R:K3}(h:za5 ws M R):zfl (zax R) (zaP zkt ws) M:=by
 obtain⟨d,n,many,rfl,h0,h1,dk,r⟩:=h
 show zfl (zax R) [some (.ref d),some (.int many),none] M
 have rest:∀ M2,Dk d n M2→Oth d n M M2→(vSeq zef (vSeq zeg zeh)) (zax R) [some (.ref d),some (.int many),none] M2:=fun M2 dk2 o2=>by
  obtain⟨dn,ns,v,hd,hn⟩:=dk2
  simp? only[zef]
  refine .inl ⟨_,_,hd,atI1 _ _ _,?_⟩
  simp? only[]
  refine⟨h0,?_⟩
  simp? only[zeg]
  refine .inl ⟨_,_,hd,atI1 _ _ _,?_⟩
  simp? only[]
  refine⟨cdiv h0 (by omega),?_⟩
  refine setL hd (by decide) (by simp) ?_
  simp? only[zeh]
  refine⟨_,Sub.refl _,r _ _ (Int.emod_nonneg _ (by omega)) (Int.emod_lt_of_pos _ h0) ⟨dn,ns,v / many,zad,by rw[zaf (Ne.symm dn)];exact hn⟩ fun p o p1 p2 e=>?_⟩
  rw[zaf p1];exact o2 p o p1 p2 e
 obtain⟨dn,ns,v,hd,hn⟩:=id dk
 obtain⟨rst,hrest⟩:∃ x,x=(vSeq zef (vSeq zeg zeh)):=⟨_,rfl⟩
 simp only[zfl]
 rw[←hrest] at rest ⊢
 simp? only[ziP]
 refine .inl ⟨_,_,hd,atI1 _ _ _,?_⟩
 simp? only[]
 by_cases hv:v=0
 ·rw[if_pos hv]
  refine .inl ⟨_,_,hd,atI0 _ _,?_⟩
  refine zwZ true hn zw1 ?_
  simp? only[]
  rcases List.eq_nil_or_concat ns with rfl | ⟨ns,x,rfl⟩
  ·exact rest _ dk Oth.refl
  ·simp only[List.concat_eq_append,List.map_append] at hn ⊢
   rw[if_pos (by cases ns.map W.int <;> rfl)]
   refine .inl ⟨_,_,hd,atI0 _ _,?_⟩
   simp? only[hn]
   refine⟨_,_,rfl,?_⟩
   refine setL (by rw[zaf dn];exact hd) (by decide) (by simp) ?_
   refine rest _ ⟨dn,ns,x,by rw[zad];rfl,by rw[zaf (Ne.symm dn),zad]⟩ fun p o p1 p2 e=>?_
   rw[zaf p1,zaf p2];exact e
 ·rw[if_neg hv]
  exact rest _ dk Oth.refl
theorem zhq{lo:Int}{n i:Nat}{w:W}(h:(zeY lo n)[i]? = some w):i < n∧w=.int (lo + i):=by
 unfold zeY at h
 rw[List.getElem?_map] at h
 obtain⟨j,hj,rfl⟩:=Option.map_eq_some_iff.mp h
 obtain⟨h1,h2⟩:=List.getElem?_eq_some_iff.mp hj
 simp at h1 h2
 subst h2
 exact⟨h1,rfl⟩
theorem zhr{lo:Int}{n:Nat}:(zeY lo n).length=n:=by unfold zeY;simp
theorem zn4{zs:List W}{i:Nat}{w:W}(h:(zgB 0 zs)[i]? = some w):∃ z,zs[i]? = some z∧w=.tup [.int (i:Int),z]:=by
 rw[zix] at h
 obtain⟨z,hz,rfl⟩:=Option.map_eq_some_iff.mp h
 exact⟨z,hz,by simp⟩
theorem zjj{ws:List W}{M:Mm}{R:K3}(h:zdE ws M R):zcI (zax R) (zaP zgh ws) M:=by
 obtain⟨zs,rfl,r⟩:=h
 show zcI (zax R) [some (.sc (zs.map W.int)),none,none,none,none,none,none] M
 have hi:=L3.zrw zs
 simp? only[zcI,zfS,zfT,L3.zdP]
 intro n hn
 have hcm:(cutW (zs.map W.int) none (some 63)).length≤63:=by
  by_cases hz:(63:Int)≤(zs.map W.int).length
  ·rw[zpG (by decide) hz,List.length_take];exact Nat.min_le_left _ _
  ·exact Nat.le_trans zrv (by omega)
 generalize hcut:cutW (zs.map W.int) none (some 63)=cells at hcm
 have hc:Ints cells:=fun w hw=>by rw[←hcut] at hw;exact hi w (zru hw)
 refine for3 (fun i τ M'=>∃ (ns:List Int) (o2 o3 o4 o5 o6:Option W),τ=[some (.sc (zs.map W.int)),some (.ref n),o2,o3,o4,o5,o6]∧M'=put M n (.lst (ns.map W.int))∧ns.length≤i) ⟨[],_,_,_,_,_,rfl,rfl,Nat.le_refl _⟩ (fun _ _ _ _ _=>trivial) ?_ ?_
 ·rintro i w τ M' hw ⟨ns,o2,o3,o4,o5,o6,rfl,rfl,hl⟩
  obtain⟨z,hz,rfl⟩:=zn4 hw
  obtain⟨c,rfl⟩:=hc z (List.mem_of_getElem? hz)
  have hil:i < 63:=by have:=(List.getElem?_eq_some_iff.mp hz).1;omega
  simp? only[zfk,rAbs.eq_1]
  refine⟨⟨by decide,by decide,by decide⟩,?_⟩
  have fin:∀ (x:Int) (o5 o6:Option W),ns.length < sizeLine∧∃ M'',L3.Sub M'' (put M n (.lst (ns.map W.int ++ [.int x])))∧∃ (ns:List Int) (o2 o3 o4 o5' o6':Option W),[some (W.sc (zs.map W.int)),some (.ref n),some (.int (i:Int)),some (.int c),some (.int x),o5,o6]=[some (W.sc (zs.map W.int)),some (.ref n),o2,o3,o4,o5',o6']∧M''=put M n (.lst (ns.map W.int))∧ns.length≤i + 1:=fun x o5 o6=>
   ⟨zbE (by omega),_,Sub.refl _,ns ++ [x],_,_,_,_,_,rfl,by rw[List.map_append];rfl,by rw[List.length_append];simp;omega⟩
  generalize (if c < 0 then -c else c)=x0
  split
  ·refine⟨_,rfl,by decide,by decide,?_⟩
   refine for3 (fun j τ M2=>∃ (x:Int) (o5 o6:Option W),τ=[some (W.sc (zs.map W.int)),some (.ref n),some (.int (i:Int)),some (.int c),some (.int x),o5,o6]∧M2=put M n (.lst (ns.map W.int))) ⟨_,_,_,rfl,rfl⟩ (fun _ _ _ _ _=>trivial) ?_ ?_
   ·rintro j w τ M2 hw ⟨x,o5,o6,rfl,rfl⟩
    obtain⟨hj,rfl⟩:=zhq hw
    simp? only[]
    have b1:=Int.emod_nonneg (x + 7919 * (i:Int) + (0 + (j:Int)) + 2) (show(2305843009213693951:Int)≠0 by decide)
    have b2:=Int.emod_lt_of_pos (x + 7919 * (i:Int) + (0 + (j:Int)) + 2) (show(0:Int) < 2305843009213693951 by decide)
    refine⟨.inl (.inl ⟨by decide,by decide⟩),.inl (.inl ⟨by omega,by omega⟩),.inl (.inr ⟨by decide,by decide⟩),.inl (.inr ⟨by decide,by decide⟩),_,Sub.refl _,_,_,_,rfl,rfl⟩
   ·rintro τ M2 ⟨x,o5,o6,rfl,rfl⟩
    simp? only[]
    exact⟨by rw[List.length_map];exact(fin x o5 o6).1,(fin x o5 o6).2⟩
  ·exact⟨by rw[List.length_map];exact(fin x0 o5 o6).1,(fin x0 o5 o6).2⟩
 ·rintro τ M' ⟨ns,o2,o3,o4,o5,o6,rfl,rfl,hl⟩
  simp? only[zfU,rRev.eq_1]
  simp? only[zfV]
  intro d hd
  have hdn:d≠n:=fun e=>by subst e;rw[zad] at hd;cases hd
  have hdM:M d=none:=by rw[zaf hdn] at hd;exact hd
  refine⟨_,Sub.refl _,r d n _ ⟨hdn,ns.reverse,0,zad,by rw[zaf (Ne.symm hdn),zad,List.map_reverse]⟩ ?_ hdM hn⟩
  exact(Sub.new hn).trans (Sub.new hd)
theorem Dk.del{d n p:Addr}{M:Mm}(h:Dk d n M)(h1:p≠d)(h2:p≠n):Dk d n (del M p):=by
 obtain⟨a,ns,v,b,c⟩:=h
 exact⟨a,ns,v,by rw[zjC (Ne.symm h1)];exact b,by rw[zjC (Ne.symm h2)];exact c⟩
theorem zu1{α:Type}{f:α→W}(xs:List α)(lo hi:Option Int):∃ ys:List α,cutW (xs.map f) lo hi=ys.map f∧ys.length≤xs.length∧∀ y∈ys,y∈xs:=by
 refine⟨(xs.drop (HT.sIx xs.length 0 lo)).take (HT.sIx xs.length xs.length hi - HT.sIx xs.length 0 lo),?_,?_,fun y hy=>List.mem_of_mem_drop (List.mem_of_mem_take hy)⟩
 ·unfold cutW;rw[List.length_map,List.map_take,List.map_drop]
 ·rw[List.length_take,List.length_drop];omega
theorem zqs{xs:List W}{z:Int}(h0:0≤z)(h1:z < (xs.length:Int)):∃ x,atI xs z=some x∧x∈xs:=by
 obtain⟨x,e,_,m⟩:=zv8 h0 h1
 exact⟨x,e,m⟩
end Rg
namespace Rg
open PySem PySem.Spec PyProof.Rows L2 L3
theorem zu2{d n:Addr}{k:Nat}{te:TE3}{keep:Mm→Prop}{o:Option W}{rest:S3}{M1:Mm}{R:K3}(P:W→Prop)(hk:k≤1000)(hkeep:∀ M,keep M)(dk:Dk d n M1)
  (hte:∀ (o:Option W) M (C:K3),Dk d n M→(∀ w M',P w→Dk d n M'→Oth d n M M'→C w M')→te (o :: rest) M C)
  (r:∀ (xs:List W) M',xs.length=k→(∀ x∈xs,P x)→Dk d n M'→Oth d n M1 M'→R (.rl xs) M') :
  zgA (zeY 0 k) keep (zaw 0) zc5 te (o :: rest) M1 fun w M'=>frz w M' R:=by
 intro p hp
 refine⟨fun i τ acc M=>∃ (o:Option W),τ=o :: rest∧acc.length=i∧(∀ x∈acc,P x)∧Dk d n M∧Oth d n M1 M,⟨o,rfl,rfl,by simp,dk,Oth.refl⟩,fun _ _ _ _ _ _ _ _=>hkeep _,?_,?_⟩
 ·rintro vs i w τ acc M hw hMp ⟨o,rfl,hl,hP,dk2,o2⟩
  obtain⟨hi,rfl⟩:=zhq hw
  obtain⟨p1,p2⟩:=dk2.ne hMp
  simp? only[zc5]
  refine hte _ _ _ (dk2.put p1 p2) fun z M' hz dk3 o3=>?_
  have e1:=o3 p _ p1 p2 zad
  refine⟨e1,zbE (by omega),_,Sub.refl _,_,rfl,by rw[List.length_append];simp[hl],fun x hx=>?_,dk3.del p1 p2,fun q u q1 q2 e=>?_⟩
  ·rcases List.mem_append.mp hx with z1 | z1
   ·exact hP x z1
   ·rw[List.mem_singleton.mp z1];exact hz
  ·have hq:q≠p:=fun z=>by subst z;rw[hp] at e;cases e
   rw[zjC hq]
   exact o3 q u q1 q2 (by rw[zaf hq];exact o2 q u q1 q2 e)
 ·rintro τ acc M hMp ⟨o,rfl,hl,hP,dk2,o2⟩
  rw[zhr] at hl
  exact New.frz (r acc M hl hP dk2 o2) p hMp
theorem zqt{P:Str→Prop}:∀ {ws:List W},(∀ w∈ws,∃ t,P t∧w=W.str t)→∃ ts:List Str,ws=ts.map W.str∧∀ t∈ts,P t
 | [],_=>⟨[],rfl,by simp⟩
 | w :: ws,h=>by
  obtain⟨t,ht,rfl⟩:=h w List.mem_cons_self
  obtain⟨ts,rfl,hts⟩:=zqt fun x hx=>h x (List.mem_cons_of_mem _ hx)
  exact⟨t :: ts,rfl,by intro x hx;rcases List.mem_cons.mp hx with rfl | hx;exact ht;exact hts x hx⟩
theorem zhs{ts:List Str}{z:Int}(h0:0≤z)(h1:z < (ts.length:Int)):∃ t,atI (ts.map W.str) z=some (.str t)∧t∈ts:=by
 obtain⟨x,e,m⟩:=zqs (xs:=ts.map W.str) h0 (by rw[List.length_map];exact h1)
 obtain⟨t,ht,rfl⟩:=List.mem_map.mp m
 exact⟨t,e,ht⟩
theorem zl0{ws:List W}{M:Mm}{R:K3}(h:zfH ws M R):zdY (zax R) (zaP ziQ ws) M:=by
 obtain⟨d,n,rfl,dk,r⟩:=h
 show zdY (zax R) [some (.ref d),none,none,none,none,none,none,none,none,none] M
 simp? only[zdY,zhE]
 refine⟨d,n,4,rfl,by decide,by decide,dk,fun z1 M1 z10 z11 dk1 o1=>?_⟩
 obtain⟨sm,hsm,hs4,hs1,hsN⟩:∃ sm:List Str,cutW [W.str "S",W.str "A",W.str "LONGNAME",W.str "B_1"] none (some (1 + z1))=sm.map W.str∧sm.length≤4∧1≤sm.length∧∀ t∈sm,t∈N4:=by
  have e:cutW [W.str "S",W.str "A",W.str "LONGNAME",W.str "B_1"] none (some (1 + z1))=(N4.take (1 + z1).toNat).map W.str:=by
   rw[zpG (by omega) (by simp;omega),List.map_take];rfl
  have hl:N4.length=4:=rfl
  exact⟨_,e,by rw[List.length_take];omega,by rw[List.length_take];omega,fun t ht=>List.mem_of_mem_take ht⟩
 simp? only[hsm,zhF]
 obtain⟨t0,et0,mt0⟩:=zhs (ts:=sm) (z:=0) (by decide) (by omega)
 refine⟨_,et0,d,n,12,rfl,by decide,by decide,dk1,fun z2 M2 z20 z21 dk2 o2=>?_⟩
 simp? only[]
 refine⟨_,rfl,by omega,by omega,?_⟩
 refine zu2 (rest:=[some (.rl (sm.map W.str)),some (.ref d)]) (fun w=>∃ t,t∈N4∧w=W.str t) (by omega) (fun _=>trivial) dk2 (fun o M C dkM hC=>?_) fun xs M3 hxs hP dk3 o3=>?_
 ·simp? only[List.length_map]
  refine⟨d,n,_,rfl,by omega,by omega,dkM,fun z M' z0 z1 dk' o'=>?_⟩
  obtain⟨t,et,mt⟩:=zhs (ts:=sm) z0 (by omega)
  exact⟨_,et,hC _ _ ⟨t,hsN t mt,rfl⟩ dk' o'⟩
 obtain⟨hs',rfl,hN'⟩:=zqt hP
 rw[List.length_map] at hxs
 obtain⟨hs,hhs,hhl,hhN⟩:∃ hs:List Str,[W.str t0] ++ hs'.map W.str=hs.map W.str∧(1≤hs.length∧hs.length≤12)∧∀ t∈hs,t∈N4:=by
  refine⟨t0 :: hs',rfl,⟨by simp,by simp;omega⟩,fun t ht=>?_⟩
  rcases List.mem_cons.mp ht with rfl | ht
  ·exact hsN _ mt0
  ·exact hN' t ht
 have om3:=(o1.trans o2).trans o3
 simp? only[]
 refine⟨by simp only[List.length_map,List.length_append,List.length_cons,List.length_nil];exact zd5 (by omega),?_⟩
 rw[hhs]
 simp? only[zhG]
 refine⟨d,n,3,rfl,by decide,by decide,dk3,fun z4 M4 z40 z41 dk4 o4=>?_⟩
 simp? only[zhH]
 intro a ha
 generalize decide (z4=0)=ch
 obtain⟨a1,a2⟩:=dk4.ne ha
 simp? only[zhI,L3.zdP]
 refine for3 (fun i τ M'=>∃ (xs:List Rule) (o5 o6 o7 o8 o9:Option W),τ=[some (.ref d),some (.rl (sm.map W.str)),some (.rl (hs.map W.str)),some (.bl ch),some (.ref a),o5,o6,o7,o8,o9]∧M' a=some (.lst (xs.map zav))∧xs.map Rule.name=hs.take i∧(∀ x∈xs,x.parts.length≤4∧∀ t∈x.parts,t∈hs∨t∈W5)∧Dk d n M') ⟨[],_,_,_,_,_,rfl,zad,rfl,by simp,dk4.put a1 a2⟩ (fun _ _ _ _ _=>trivial) ?_ ?_
 ·rintro i w τ M' hw ⟨xs,p5,p6,p7,p8,p9,rfl,hMa,hnm,hok,dk5⟩
  obtain⟨z,hz,rfl⟩:=zn4 hw
  rw[List.getElem?_map] at hz
  obtain⟨hd,hhd,rfl⟩:=Option.map_eq_some_iff.mp hz
  have hi:=(List.getElem?_eq_some_iff.mp hhd).1
  have hxl:xs.length≤12:=by
   have:=congrArg List.length hnm
   rw[List.length_map,List.length_take] at this
   omega
  simp? only[zgZ]
  intro q hq
  have hqa:q≠a:=fun e=>by subst e;rw[hMa] at hq;cases hq
  obtain⟨q1,q2⟩:=dk5.ne hq
  simp? only[List.length_map]
  obtain⟨x,ex,mx⟩:=zqs (xs:=[W.int 5,W.int 5,W.int 5,W.int 4]) (z:=(sm.length:Int) - 1) (by omega) (by simp;omega)
  obtain⟨top,rfl,ht⟩:∃ top:Int,x=.int top∧(top=5∨top=4):=by
   simp at mx
   rcases mx with rfl | rfl
   ·exact⟨5,rfl,.inl rfl⟩
   ·exact⟨4,rfl,.inr rfl⟩
  refine⟨_,ex,d,n,top,rfl,by omega,by omega,dk5.put q1 q2,fun z6 M6 z60 z61 dk6 o6=>?_⟩
  simp? only[]
  refine⟨_,rfl,by omega,by omega,?_⟩
  refine for3 (fun j τ M'=>∃ (ps:List Str) (o8 o9:Option W),τ=[some (.ref d),some (.rl (sm.map W.str)),some (.rl (hs.map W.str)),some (.bl ch),some (.ref a),some (.int (i:Int)),some (.str hd),some (.ref q),o8,o9]∧M' a=some (.lst (xs.map zav))∧M' q=some (.lst (ps.map W.str))∧ps.length≤j∧(∀ t∈ps,t∈hs∨t∈W5)∧Dk d n M') ⟨[],_,_,rfl,o6 a _ a1 a2 (by rw[zaf (Ne.symm hqa)];exact hMa),o6 q _ q1 q2 zad,Nat.le_refl _,by simp,dk6⟩ (fun _ _ _ _ _=>trivial) ?_ ?_
  ·rintro j w τ M7 hw ⟨ps,p8,p9,rfl,hMa7,hMq7,hpl,hpp,dk7⟩
   obtain⟨hj,rfl⟩:=zhq hw
   simp? only[]
   refine⟨d,n,5,rfl,by decide,by decide,dk7,fun z8 M8 z80 z81 dk8 o8=>?_⟩
   obtain⟨pt,ept,mpt⟩:=zhs (ts:=W5) (z:=z8) z80 z81
   refine⟨_,ept,?_⟩
   refine⟨⟨_,o8 q _ q1 q2 hMq7⟩,?_⟩
   simp? only[List.length_map]
   refine⟨d,n,_,rfl,by omega,by omega,dk8,fun z9 M9 z90 z91 dk9 o9=>?_⟩
   obtain⟨ht,eht,mht⟩:=zhs (ts:=hs) (z:=z9) z90 z91
   refine⟨_,eht,?_⟩
   refine⟨d,n,2,rfl,by decide,by decide,dk9,fun z10 M10 z100 z101 dk10 o10=>?_⟩
   obtain⟨ch2,ech2,mch2⟩:=zhs (ts:=[pt,ht]) (z:=z10) z100 z101
   refine⟨_,ech2,?_⟩
   have hM10:=o10 q _ q1 q2 (o9 q _ q1 q2 (o8 q _ q1 q2 hMq7))
   have hA10:=o10 a _ a1 a2 (o9 a _ a1 a2 (o8 a _ a1 a2 hMa7))
   simp? only[hM10]
   refine⟨by rw[List.length_map];exact zbE (by omega),_,Sub.refl _,ps ++ [ch2],_,_,rfl,by rw[zaf (Ne.symm hqa)];exact hA10,by rw[zad,List.map_append];rfl,by rw[List.length_append];simp;omega,fun t ht'=>?_,dk10.put q1 q2⟩
   rcases List.mem_append.mp ht' with z | z
   ·exact hpp t z
   ·rw[List.mem_singleton.mp z]
    simp at mch2
    rcases mch2 with rfl | rfl
    ·exact .inr mpt
    ·exact .inl mht
  ·rintro τ M7 ⟨ps,p8,p9,rfl,hMa7,hMq7,hpl,hpp,dk7⟩
   rw[zhr] at hpl
   have hpl:ps.length≤4:=by omega
   have fin:∀ (q:Addr) (ps:List Str) M7,M7 a=some (.lst (xs.map zav))→ps.length≤4→(∀ t∈ps,t∈hs∨t∈W5)→Dk d n M7→za5 [.ref d,.int 3] M7 fun x M1=>∃ ws1,M1 a=some (.lst ws1)∧ws1.length < 16777216∧∃ M'',L3.Sub M'' (put M1 a (.lst (ws1 ++ [.tup [.str hd,.tup (ps.map W.str),x]])))∧∃ (xs:List Rule) (o5 o6 o7 o8 o9:Option W),[some (W.ref d),some (.rl (sm.map W.str)),some (.rl (hs.map W.str)),some (.bl ch),some (.ref a),some (.int (i:Int)),some (.str hd),some (.ref q),p8,p9]=[some (.ref d),some (.rl (sm.map W.str)),some (.rl (hs.map W.str)),some (.bl ch),some (.ref a),o5,o6,o7,o8,o9]∧M'' a=some (.lst (xs.map zav))∧xs.map Rule.name=hs.take (i + 1)∧(∀ x∈xs,x.parts.length≤4∧∀ t∈x.parts,t∈hs∨t∈W5)∧Dk d n M'':=by
    intro q ps M7 hMa7 hpl hpp dk7
    refine⟨d,n,3,rfl,by decide,by decide,dk7,fun zc M8 zc0 zc1 dk8 o8=>?_⟩
    have hA:=o8 a _ a1 a2 hMa7
    refine⟨_,hA,by rw[List.length_map];omega,_,Sub.refl _,xs ++ [⟨hd,ps,zc⟩],_,_,_,_,_,rfl,by rw[zad,List.map_append];rfl,?_,fun y hy=>?_,dk8.put a1 a2⟩
    ·rw[List.map_append,hnm,zaL hhd];rfl
    ·rcases List.mem_append.mp hy with z | z
     ·exact hok y z
     ·rw[List.mem_singleton.mp z];exact⟨hpl,hpp⟩
   obtain⟨ys,ey,ly,my⟩:=zu1 (f:=W.str) hs none (some (i:Int))
   simp? only[ey,L3.rIn,zkn,zdT,zby,List.length_map]
   have e1:=fin q ps M7 hMa7 hpl hpp dk7
   split
   ·split
    ·split
     ·rename_i hlt
      obtain⟨nx,enx,mnx⟩:=zhs (ts:=hs) (z:=(i:Int) + 1) (by omega) hlt
      refine⟨_,enx,fun q' hq'=>?_⟩
      obtain⟨b1,b2⟩:=dk7.ne hq'
      have hqa':q'≠a:=fun e=>by subst e;rw[hMa7] at hq';cases hq'
      have hA:put M7 q' (.lst [W.str nx]) a=some (.lst (xs.map zav)):=by rw[zaf (Ne.symm hqa')];exact hMa7
      refine⟨⟨_,hA⟩,?_⟩
      simp? only[]
      refine fin q' [nx] _ hA (by simp) (fun t ht=>?_) (dk7.put b1 b2)
      rw[List.mem_singleton.mp ht];exact .inl mnx
     ·exact⟨⟨_,hMa7⟩,_,hMq7,e1⟩
    ·exact⟨⟨_,hMa7⟩,_,hMq7,e1⟩
   ·exact⟨⟨_,hMa7⟩,_,hMq7,e1⟩
 ·rintro τ M' ⟨xs,p5,p6,p7,p8,p9,rfl,hMa,hnm,hok,dk5⟩
  have hlen:(zgB 0 (hs.map W.str)).length=hs.length:=by
   have:∀ (ws:List W) (k:Nat),(zgB k ws).length=ws.length:=by
    intro ws
    induction ws with
    | nil=>intro k;rfl
    | cons w ws ih=>intro k;show(zgB (k + 1) ws).length + 1=_;rw[ih];rfl
   rw[this,List.length_map]
  rw[hlen,List.take_length] at hnm
  simp? only[zhJ]
  refine⟨_,Sub.refl _,r xs a M' ?_ ?_ hMa⟩
  ·have hxl:xs.length=hs.length:=by rw[←hnm,List.length_map]
   have own:∀ t∈hs,ownB xs t=true:=fun t ht=>by
    rw[←hnm] at ht
    obtain⟨x,hx,rfl⟩:=List.mem_map.mp ht
    exact zp0 hx
   refine⟨by omega,fun x hx=>(hok x hx).1,fun x hx=>?_,fun x hx t ht=>?_⟩
   ·exact hhN _ (by rw[←hnm];exact List.mem_map.mpr ⟨x,hx,rfl⟩)
   ·rcases(hok x hx).2 t ht with z | z
    ·exact .inl (own t z)
    ·exact .inr z
  ·have:xs.length=hs.length:=by rw[←hnm,List.length_map]
   omega
end Rg
namespace Rg
open PySem PySem.Spec PyProof.Rows L2 L3
theorem Paired.getP{α β:Type}{F:α→β→Prop}:∀ {l₁:List α} {l₂:List β} {i:Nat} {a:α},Paired F l₁ l₂→l₁[i]? = some a→∃ b,l₂[i]? = some b∧F a b
 | _,_,_,_,.nil,e=>by simp at e
 | _,_,0,_,.cons r _,e=>by simp at e;subst e;exact⟨_,rfl,r⟩
 | _,_,i + 1,_,.cons _ t,e=>by
  obtain⟨b,h1,h2⟩:=Paired.getP (i:=i) t (by simpa using e)
  exact⟨b,by simpa using h1,h2⟩
theorem zfo{α:Type}{xss:List (List α)}{i:Nat}{xs:List α}(h:xss[i]? = some xs):(xss.take (i + 1)).flatten=(xss.take i).flatten ++ xs:=by
 rw[zaL h,List.flatten_append];simp
theorem zoN{α:Type}{xss:List (List α)}{i:Nat}{xs:List α}(h:xss[i]? = some xs):(xss.take i).flatten.length + xs.length≤xss.flatten.length:=by
 have e:xss=xss.take (i + 1) ++ xss.drop (i + 1):=(List.take_append_drop _ _).symm
 have:=congrArg (fun z=>(List.flatten z).length) e
 simp only[List.flatten_append,List.length_append] at this
 rw[zfo h,List.length_append] at this
 omega
theorem zei{ws:List W}{M:Mm}{R:K3}(h:zaZ ws M R):zaH (zax R) (zaP zbC ws) M:=by
 obtain⟨ls,xss,rfl,hl,hp,ht,r⟩:=h
 show zaH (zax R) [some (.rl ls),none,none] M
 simp? only[zaH,zb2,zb3]
 intro p hpn
 have hlen:=Paired.length hp
 refine for3 (fun i τ M'=>∃ o,τ=[some (.rl ls),some (.ref p),o]∧M'=put M p (.lst ((xss.take i).flatten.map W.str))) ⟨_,rfl,rfl⟩ (fun _ _ _ _ _=>trivial) ?_ ?_
 ·rintro i w τ M' hw ⟨o,rfl,rfl⟩
  obtain⟨xs,hxs,hat⟩:=Paired.getP hp hw
  have hfl:=zoN hxs
  simp? only[zbS]
  rcases hat with rfl | ⟨a,rfl,e⟩
  ·simp? only[List.length_map]
   refine⟨by omega,_,Sub.refl _,_,rfl,?_⟩
   rw[zfo hxs,List.map_append]
  ·have hap:a≠p:=fun z=>by rw[z,hpn] at e;cases e
   simp? only[]
   refine⟨_,_,rfl,by rw[zaf hap];exact e,by rw[List.length_map,List.length_map];omega,_,Sub.refl _,_,rfl,?_⟩
   rw[zfo hxs,List.map_append]
 ·rintro τ M' ⟨o,rfl,rfl⟩
  rw[hlen,List.take_length]
  simp? only[zb4]
  exact⟨_,Sub.refl _,r p hpn⟩
theorem ziW{ws:List W}{M:Mm}{R:K3}(h:zcV ws M R):zb5 (zax R) (zaP zfb ws) M:=by
 obtain⟨rs,rfl,hl,r⟩:=h
 show zb5 (zax R) [some (rlW rs)] M
 simp? only[zb5,rlW]
 refine map1 (rest:=[]) (fun _=>.int 0) (zd5 (by rw[List.length_map];omega)) (fun _ _=>trivial) (fun w hw M' C sb h1=>?_) ?_
 ·simp? only[];exact h1
 ·intro p hp
  refine⟨_,Sub.refl _,?_⟩
  have e:(rs.map zav).map (fun _=>W.int 0)=rs.map fun _=>W.int 0:=by rw[List.map_map];rfl
  rw[e]
  exact r p hp
theorem zr9(ts:List Str)(n:Str):(zam (ts.map nkw) (Sum.inr n:Key)).isSome=decide (n∈ts):=by
 induction ts with
 | nil=>rfl
 | cons t ts ih=>
  unfold zam at ih ⊢
  rw[List.map_cons,List.find?_cons]
  by_cases h:t=n
  ·subst h;simp[nkw]
  ·rw[show decide ((nkw t).1=(Sum.inr n:Key))=false by simp[nkw,h]]
   rw[ih]
   have h2:¬ n=t:=fun e=>h e.symm
   simp[h2]
theorem zie(rs:List Rule)(t:Str):(zam (zhk rs) (Sum.inr t:Key)).isSome=ownB rs t:=by
 unfold zhk ownB
 rw[zr9,Bool.eq_iff_iff]
 simp only[decide_eq_true_eq]
 rw[ziz];simp
theorem zkx{ws:List W}{M:Mm}{R:K3}(h:zed ws M R):zdj (zax R) (zaP zho ws) M:=by
 obtain⟨rs,U,rfl,hl,hU,aU,r⟩:=h
 show zdj (zax R) [some (rlW rs),none,none,none,none] M
 simp? only[zdj,zgV,rlW]
 refine⟨rs,rfl,hl,New.frz ?_⟩
 refine⟨zak rs,rfl,by have:=za8 rs;omega,?_⟩
 obtain⟨ow,how⟩:∃ ow,ow=(((zak rs).foldl addN []).map nkw):=⟨_,rfl⟩
 have lo:∀ t,(zam ow (Sum.inr t:Key)).isSome=ownB rs t:=fun t=>by rw[how];exact zie rs t
 rw[←how]
 simp? only[zgW]
 intro p hp
 simp? only[zgX]
 refine for3 (fun i τ M'=>∃ (ss:List Str) (o3 o4:Option W),τ=[some (.rl (rs.map zav)),some (.dk ow),some (.ref p),o3,o4]∧M'=put M p (.dK (ss.map nkw))∧ss.Nodup∧(∀ t∈ss,t∈U)∧∀ q∈rs.take i,∀ t∈q.parts,ownB rs t=false→t∈ss) ⟨[],_,_,rfl,rfl,List.nodup_nil,by simp,by simp⟩ (fun _ _ _ _ _=>trivial) ?_ ?_
 ·rintro i w τ M' hw ⟨ss,o3,o4,rfl,rfl,nd,hsU,hin⟩
  rw[List.getElem?_map] at hw
  obtain⟨q,hq,rfl⟩:=Option.map_eq_some_iff.mp hw
  simp? only[zfR,zav]
  refine for3 (fun j τ M'=>∃ (s2:List Str) (o4:Option W),τ=[some (.rl (rs.map zav)),some (.dk ow),some (.ref p),some (zav q),o4]∧M'=put M p (.dK (s2.map nkw))∧s2.Nodup∧(∀ t∈s2,t∈U)∧(∀ t∈ss,t∈s2)∧∀ t∈q.parts.take j,ownB rs t=false→t∈s2) ⟨ss,_,rfl,rfl,nd,hsU,fun _ h=>h,by simp⟩ (fun _ _ _ _ _=>trivial) ?_ ?_
  ·rintro j w τ M' hw ⟨s2,o4,rfl,rfl,nd2,hsU2,hs2,hin2⟩
   rw[List.getElem?_map] at hw
   obtain⟨t,ht,rfl⟩:=Option.map_eq_some_iff.mp hw
   simp? only[L3.rIn]
   refine⟨_,⟨Sum.inr t,rfl,rfl⟩,?_⟩
   rw[lo t]
   cases ho:ownB rs t with
   | true=>
    simp? only[]
    refine⟨_,Sub.refl _,s2,_,rfl,rfl,nd2,hsU2,hs2,fun x hx hox=>?_⟩
    rw[zaL ht] at hx
    rcases List.mem_append.mp hx with z | z
    ·exact hin2 x z hox
    ·rw[List.mem_singleton.mp z,ho] at hox;cases hox
   | false=>
    simp? only[]
    have hl2:s2.length≤U.length:=zcN nd2 hsU2
    refine zfB zad (by rw[List.length_map];exact zbE (by omega)) ⟨_,Sub.refl _,addN s2 t,_,rfl,by rw[zd2,zhj],zlT nd2,fun x hx=>?_,fun x hx=>zgC.mpr (.inl (hs2 x hx)),fun x hx hox=>?_⟩
    ·rcases zgC.mp hx with z | z
     ·exact hsU2 x z
     ·rw[z];exact aU q (List.mem_of_getElem? hq) t (List.mem_of_getElem? ht) ho
    ·rw[zaL ht] at hx
     rcases List.mem_append.mp hx with z | z
     ·exact zgC.mpr (.inl (hin2 x z hox))
     ·exact zgC.mpr (.inr (by simpa using z))
  ·rintro τ M' ⟨s2,o4,rfl,rfl,nd2,hsU2,hs2,hin2⟩
   rw[List.length_map,List.take_length] at hin2
   refine⟨_,Sub.refl _,s2,_,_,rfl,rfl,nd2,hsU2,fun x hx t ht ho=>?_⟩
   rw[zaL hq] at hx
   rcases List.mem_append.mp hx with z | z
   ·exact hs2 t (hin x z t ht ho)
   ·rw[List.mem_singleton.mp z] at ht
    exact hin2 t ht ho
 ·rintro τ M' ⟨ss,o3,o4,rfl,rfl,nd,hsU,hin⟩
  rw[List.length_map,List.take_length] at hin
  simp? only[zgY]
  refine znu hp ?_
  simp? only[zmN]
  have hl2:ss.length≤U.length:=zcN nd hsU
  refine⟨ss,by rw[List.map_map];rfl,by omega,fun s3 hperm=>⟨_,Sub.refl _,r s3 (fun q hq t ht ho=>hperm.mem_iff.mpr (hin q hq t ht ho)) (hperm.nodup_iff.mpr nd) fun t ht=>hsU t (hperm.mem_iff.mp ht)⟩⟩
end Rg
namespace Rg
open PySem PySem.Spec PyProof.Rows L2 L3
def zky(ss:List Str):List (List Key×W):=ss.map fun t=>([Sum.inr t,Sum.inl 0],.rl [.tup [.int 0,.int 1]])
theorem zl1:∀ {ps acc:List (List Key×W)},((acc ++ ps).map (·.1)).Nodup→zoF acc ps=acc ++ ps
 | [],acc,_=>by simp[zoF]
 | p :: ps,acc,h=>by
  have hn:zam acc p.1=none:=by
   rw[List.map_append,List.nodup_append] at h
   exact ze2 fun e he z=>h.2.2 _ (List.mem_map.mpr ⟨e,he,rfl⟩) p.1 (by simp) z
  have e:putW acc p.1 p.2=acc ++ [p]:=by
   unfold putW
   rw[if_neg (by rw[show(acc.any fun kv=>decide (kv.1=p.1))=(zam acc p.1).isSome from zcj acc p.1,hn];decide)]
  show zoF (putW acc p.1 p.2) ps=_
  rw[e,zl1 (by rw[List.append_assoc];exact h),List.append_assoc];rfl
theorem zw2{ss:List Str}(h:ss.Nodup):((zky ss).map (·.1)).Nodup:=by
 unfold zky
 rw[List.map_map]
 induction ss with
 | nil=>simp
 | cons t ss ih=>
  rw[List.nodup_cons] at h
  rw[List.map_cons,List.nodup_cons]
  refine⟨fun hm=>?_,ih h.2⟩
  obtain⟨x,hx,e⟩:=List.mem_map.mp hm
  have:x=t:=by simpa using e
  exact h.1 (by rw[←this];exact hx)
theorem zsa(ss:List Str)(t:Str)(p:Int):zam (zky ss) (eK (t,p))=if p=0∧t∈ss then some (.rl [.tup [.int 0,.int 1]]) else none:=by
 unfold zky eK
 induction ss with
 | nil=>simp[zam]
 | cons x ss ih=>
  rw[List.map_cons,zbz,ih]
  by_cases h1:p=0
  ·subst h1
   by_cases h2:x=t
   ·subst h2;rw[if_pos rfl,if_pos ⟨rfl,by simp⟩]
   ·rw[if_neg (fun z=>h2 (by simpa using z))]
    by_cases h3:t∈ss
    ·rw[if_pos ⟨rfl,h3⟩,if_pos ⟨rfl,List.mem_cons_of_mem _ h3⟩]
    ·rw[if_neg (fun z=>h3 z.2),if_neg (fun z=>by rcases List.mem_cons.mp z.2 with q | q;exact h2 q.symm;exact h3 q)]
  ·rw[if_neg (fun z=>h1 (by simp at z;exact z.2.symm)),if_neg (fun z=>h1 z.1),if_neg (fun z=>h1 z.1)]
theorem zfp{C:Cc}{ws:List W}{M:Mm}{R:K3}(h:zbb ws M R):zaV C (zax R) (zaP zb6 ws) M:=by
 obtain⟨rs,rfl,g,r⟩:=h
 show zaV C (zax R) [some (rlW rs),none,none] M
 have hf:=g.few
 simp? only[zaV,zcF]
 refine⟨rs,W5,rfl,by omega,by decide,g.all,fun ss aw nd hss=>?_⟩
 have hsl:ss.length≤W5.length:=zcN nd hss
 have hsl:ss.length≤5:=hsl
 simp? only[]
 refine map1 (rest:=[]) (fun w=>.tup [.tup [w,.int 0],.rl [.tup [.int 0,.int 1]]]) (zd5 (by rw[List.length_map];omega)) (fun _ _=>trivial) (fun w hw M' C sb h1=>?_) (New.frz ?_)
 ·simp? only[];exact h1
 simp? only[zqo]
 refine⟨zky ss,?_,zd5 (by rw[List.length_map,List.length_map];omega),?_⟩
 ·unfold znS zky
  rw[List.map_map,List.map_map];rfl
 rw[zl1 (by simpa using zw2 nd),List.nil_append]
 refine NewT.frz ?_
 obtain⟨rw',hrw⟩:∃ w,w=rlW rs:=⟨_,rfl⟩
 rw[←hrw]
 simp? only[zcG,L3.zuT]
 refine⟨rs,hrw ▸ rfl,by omega,New.frz ?_⟩
 have ew:(rs.map fun _=>W.int 0)=(List.range (zbo rs ss).rs.length).map fun n=>W.int ((zbo rs ss).wt n):=by
  show(rs.map fun _=>W.int 0)=(List.range rs.length).map fun n=>W.int 0
  rw[List.map_const',List.map_const',List.length_range]
 have hnm:=g.names
 refine⟨zbo rs ss,⟨rs,zhk rs,zky ss⟩,[0],5,1,by rw[ew,hrw];rfl,by show rs.length≤100;omega,rfl,⟨rfl,fun t=>zie rs t,fun t p=>?_⟩,zkr rs ss,zm4 ss g.prt,by decide,by show 1≤1000;decide,zgg rs ss,?_,fun B hB=>?_⟩
 ·show(zam (zky ss) (eK (t,p))=none∧(if p=0∧t∈ss then [((0:Int),(1:Int))] else [])=[])∨zam (zky ss) (eK (t,p))=some (.rl ((if p=0∧t∈ss then [((0:Int),(1:Int))] else []).map fun z=>.tup [.int z.1,.int z.2]))
  rw[zsa]
  by_cases h:p=0∧t∈ss
  ·right;rw[if_pos h,if_pos h];rfl
  ·left;rw[if_neg h,if_neg h];exact⟨rfl,rfl⟩
 ·have e1:(zf8 (zbo rs ss)).length=rs.length * 1:=zgf (zbo rs ss) rs.length
  rw[e1]
  show rs.length * 1 + rs.length * ((5 + 1) * (1 * 1)) * (1 + 1) + rs.length * ((5 + 1) * (1 * 1)) + 1 + 1 + 1 < 10000000
  omega
 ·obtain⟨S,I0,st,P,cur,T,A,hq,rfl⟩:=hB
  intro p0 hp0
  refine⟨p0,rfl,.inr ⟨_,zad,?_⟩⟩
  rw[zha hp0]
  have hbl:=zkh A
  simp? only[zcH,L3.rItD]
  refine zv3 (rest:=[some (.ft (tabW fK zgM st.best))]) (fun w y=>∃ e∈st.best,w=.tup ((fK e.1).map wK)∧y=.tup [.str e.1.1,.int e.2.1.1]) (zd5 (by rw[List.length_map,List.length_map];omega)) (fun _ _=>trivial) (fun w hw M' C sb h1=>?_) fun ys hys=>New.frz ?_
  ·rw[List.map_map] at hw
   obtain⟨e,he,rfl⟩:=List.mem_map.mp hw
   obtain⟨⟨nm,b,z⟩,m,n,cut⟩:=e
   have hb:aget st.best (nm,b,z)=some (m,n,cut):=zhd A he
   simp? only[Function.comp,fK,wK,List.map_cons,List.map_nil]
   refine⟨zgM (m,n,cut),⟨fK (nm,b,z),rfl,?_⟩,?_⟩
   ·rw[zfF znQ,hb];rfl
   ·simp? only[zgM,cW]
    exact h1 _ ⟨_,he,rfl,rfl⟩
  ·simp? only[zuI]
   have hy:ys=zhC (zm6 st.best):=by
    have:∀ {B:Best} {ys:List W},(∀ e∈B,e∈st.best)→Paired (fun w y=>∃ e∈st.best,w=W.tup ((fK e.1).map wK)∧y=W.tup [.str e.1.1,.int e.2.1.1]) ((tabW fK zgM B).map fun p=>W.tup (p.1.map wK)) ys→ys=zhC (zm6 B):=by
     intro B
     induction B with
     | nil=>intro ys _ h;cases h;rfl
     | cons e B ih=>
      intro ys hB h
      cases h with
      | cons h t=>
       obtain⟨e',he',h1,h2⟩:=h
       have hk:fK e.1=fK e'.1:=by
        have h1:W.tup ((fK e.1).map wK)=W.tup ((fK e'.1).map wK):=h1
        have:=W.tup.inj h1
        unfold fK at this ⊢
        simp[wK] at this
        rw[this.1,this.2.1,this.2.2]
       have hee:e.1=e'.1:=znQ _ _ hk
       have h3:=zhd A (hB e List.mem_cons_self)
       have h4:=zhd A he'
       rw[hee,h4] at h3
       have h5:e'.2=e.2:=Option.some.inj h3
       rw[ih (fun x hx=>hB x (List.mem_cons_of_mem _ hx)) t,h2,←hee,h5]
       rfl
    exact this (fun _ h=>h) hys
   have hyl:=Paired.length hys
   rw[List.length_map,List.length_map] at hyl
   refine⟨zm6 st.best,hy,zd5 (by omega),fun p hp=>⟨_,Sub.refl _,r _ (fun X=>?_) p hp⟩⟩
   rw[zoJ A,←zhe aw A hq]
end Rg
namespace Rg
open PySem PySem.Spec PyProof.Rows L2 L3
theorem zjU{P Q:Str→Bool}:∀ {ps:List Str},(ps.map W.str).filterMap (fun w=>match w with | .str t=>if P t=true then some (W.bl (Q t)) else none | _=>none)=bools ((ps.filter P).map Q)
 | []=>rfl
 | t :: ps=>by
  have ih:=zjU (P:=P) (Q:=Q) (ps:=ps)
  rw[List.map_cons,List.filterMap_cons,List.filter_cons]
  by_cases h:P t=true
  ·simp only[h,if_true]
   rw[ih];rfl
  ·simp only[h,if_false]
   rw[ih];rfl
theorem zu3{rs:List Rule}{L:Str→Option Int}(ps:List Str):((ps.filter (ownB rs)).map fun t=>(L t).isSome).all id = !(ps.any fun t=>ownB rs t && (L t).isNone):=by
 induction ps with
 | nil=>rfl
 | cons t ps ih=>
  rw[List.filter_cons,List.any_cons,Bool.not_or,←ih]
  cases h:ownB rs t with
  | true=>cases e:L t with
   | none=>simp[e]
   | some l=>simp[e]
  | false=>simp
theorem zhW{ws:List W}{M:Mm}{R:K3}(h:zcp ws M R):zbH (zax R) (zaP zee ws) M:=by
 obtain⟨rs,kvs,rfl,g,hk,r⟩:=h
 show zbH (zax R) [some (rlW rs),some (.dk kvs),none,none,none] M
 have hf:=g.few
 simp? only[zbH,zeD,rlW]
 refine⟨rs,rfl,by omega,New.frz ?_⟩
 refine⟨zak rs,rfl,by have:=za8 rs;omega,?_⟩
 obtain⟨ow,how⟩:∃ ow,ow=(((zak rs).foldl addN []).map nkw):=⟨_,rfl⟩
 have lo:∀ t,(zam ow (Sum.inr t:Key)).isSome=ownB rs t:=fun t=>by rw[how];exact zie rs t
 rw[←how]
 simp? only[zeE]
 intro p hp
 simp? only[zeF]
 refine for3 (fun i τ M'=>∃ (o4:Option W),τ=[some (.rl (rs.map zav)),some (.dk kvs),some (.dk ow),some (.ref p),o4]∧M'=put M p (.lst (((rs.take i).filter (fitB rs (lwL rs))).map zav))) ⟨_,rfl,rfl⟩ (fun _ _ _ _ _=>trivial) ?_ ?_
 ·rintro i w τ M' hw ⟨o4,rfl,rfl⟩
  rw[List.getElem?_map] at hw
  obtain⟨q,hq,rfl⟩:=Option.map_eq_some_iff.mp hw
  have hqm:=List.mem_of_getElem? hq
  have hpl:=g.prt q hqm
  have hne:(rs.take (i + 1)).filter (fitB rs (lwL rs))=(rs.take i).filter (fitB rs (lwL rs)) ++ if fitB rs (lwL rs) q=true then [q] else []:=by
   rw[zaL hq,List.filter_append]
   congr 1
   by_cases h:fitB rs (lwL rs) q=true
   ·rw[if_pos h];simp[h]
   ·rw[if_neg h];simp[h]
  have stay:fitB rs (lwL rs) q=false→∃ M'',L3.Sub M'' (put M p (.lst (((rs.take i).filter (fitB rs (lwL rs))).map zav)))∧∃ (o4:Option W),[some (W.rl (rs.map zav)),some (.dk kvs),some (.dk ow),some (.ref p),some (zav q)]=[some (.rl (rs.map zav)),some (.dk kvs),some (.dk ow),some (.ref p),o4]∧M''=put M p (.lst (((rs.take (i + 1)).filter (fitB rs (lwL rs))).map zav)):=fun hfit=>by
   refine⟨_,Sub.refl _,_,rfl,?_⟩
   rw[hne,hfit];simp
  simp? only[zdX,zav]
  refine zrt (rest:=[some (.dk ow),some (.dk kvs)]) (fun w=>match w with | .str t=>if ownB rs t=true then some (W.bl (lwL rs t).isSome) else none | _=>none) (zd5 (by rw[List.length_map];omega)) (fun _ _=>trivial) (fun w hw M' C D sb h1 h2=>?_) (New.frz ?_)
  ·obtain⟨t,_,rfl⟩:=List.mem_map.mp hw
   simp? only[L3.rIn]
   refine⟨_,⟨Sum.inr t,rfl,rfl⟩,?_⟩
   rw[lo t]
   simp only at h1 h2
   cases ho:ownB rs t with
   | true=>
    rw[ho] at h1
    simp? only[]
    refine⟨_,⟨Sum.inr t,rfl,rfl⟩,h1 _ ?_⟩
    rw[hk t,Option.isSome_map];rfl
   | false=>
    rw[ho] at h2
    simp? only[]
    exact h2 rfl
  ·rw[zjU]
   simp? only[rAll]
   refine⟨_,rfl,?_⟩
   rw[zu3]
   cases hlk:(q.parts.any fun t=>ownB rs t && (lwL rs t).isNone) with
   | true=>
    simp? only[]
    exact stay (by unfold fitB;rw[hlk];rfl)
   | false=>
    simp? only[]
    refine map1 (rest:=[some (.dk kvs)]) (fun w=>match w with | .str t=>.int ((lwL rs t).getD 1) | _=>.non) (zd5 (by rw[List.length_map];omega)) (fun _ _=>trivial) (fun w hw M' C sb h1=>?_) (New.frz ?_)
    ·obtain⟨t,_,rfl⟩:=List.mem_map.mp hw
     simp? only[rGet]
     refine⟨_,⟨Sum.inr t,rfl,rfl⟩,?_⟩
     rw[hk t]
     simp only at h1
     cases e:lwL rs t with
     | none=>rw[e] at h1;exact h1
     | some l=>rw[e] at h1;exact h1
    ·simp? only[rSum]
     refine⟨q.parts.map fun t=>(lwL rs t).getD 1,by rw[List.map_map,List.map_map];rfl,?_⟩
     obtain⟨l,hl⟩:=zjN g hqm (show lackT rs (lawL rs) q.parts=false from hlk)
     refine⟨.int l,⟨Sum.inr q.name,rfl,by rw[hk q.name,show lwL rs q.name=some l from hl];rfl⟩,?_⟩
     simp? only[]
     have hfit:fitB rs (lwL rs) q=decide ((q.parts.map fun t=>(lwL rs t).getD 1).sum=l):=by
      unfold fitB
      rw[hlk,show lwL rs q.name=some l from hl,Bool.not_false,Bool.true_and,Bool.eq_iff_iff]
      simp only[decide_eq_true_eq,Option.some.injEq]
      exact⟨Eq.symm,Eq.symm⟩
     by_cases hs:(q.parts.map fun t=>(lwL rs t).getD 1).sum=l
     ·rw[if_pos hs]
      rw[decide_eq_true hs] at hfit
      refine⟨?_,_,Sub.refl _,_,rfl,?_⟩
      ·rw[List.length_map]
       have:=List.length_filter_le (fitB rs (lwL rs)) (rs.take i)
       rw[List.length_take] at this
       omega
      ·rw[hne,hfit];simp[zav]
     ·rw[if_neg hs]
      rw[decide_eq_false hs] at hfit
      exact stay hfit
 ·rintro τ M' ⟨o4,rfl,rfl⟩
  rw[List.length_map,List.take_length]
  simp? only[zeG]
  exact⟨_,Sub.refl _,r p hp⟩
abbrev zfN(ps:List (Str×Addr)):List (Key×W):=ps.map fun e=>(Sum.inr e.1,W.ref e.2)
theorem zej(ps:List (Str×Addr))(X:Str):zam (zfN ps) (Sum.inr X:Key)=(aget ps X).map W.ref:=by
 induction ps with
 | nil=>rfl
 | cons e ps ih=>
  rw[show zfN (e :: ps)=(Sum.inr e.1,W.ref e.2) :: zfN ps from rfl,zbz,zai,ih]
  by_cases h:e.1=X
  ·rw[if_pos (by rw[h]),if_pos h];rfl
  ·rw[if_neg (fun z=>h (Sum.inr.inj z)),if_neg h]
theorem zqu(ps:List (Str×Addr))(X:Str)(q:Addr):putW (zfN ps) (Sum.inr X:Key) (.ref q)=zfN (aput ps X q):=by
 unfold putW aput
 rw[show((zfN ps).any fun kv=>decide (kv.1=(Sum.inr X:Key)))=(zam (zfN ps) (Sum.inr X:Key)).isSome from zcj _ _,zej,zcj]
 cases aget ps X with
 | none=>simp
 | some w=>
  simp only[Option.map_some,Option.isSome_some,if_true,List.map_map]
  apply List.map_congr_left
  intro e _
  simp only[Function.comp]
  by_cases h:e.1=X
  ·rw[if_pos (by rw[h]),if_pos h]
  ·rw[if_neg (fun z=>h (Sum.inr.inj z)),if_neg h]
theorem zhn.more{M0 M:Mm}{a p:Addr}{T:RT}{o:MO}(h:zhn M0 M a T)(hp:M p=none):zhn M0 (put M p o) a T:=by
 obtain⟨ps,h1,h2,h3,h4,h5⟩:=h.ex
 have ne:∀ {b:Addr} {u:MO},M b=some u→b≠p:=fun {b u} e z=>by subst z;rw[hp] at e;cases e
 refine⟨zbq h.sub (h.sub.non hp),h.new,ps,by rw[zaf (ne h1)];exact h1,h2,h3,fun X row e=>?_,h5⟩
 obtain⟨q,q1,q2,q3,q4⟩:=h4 X row e
 exact⟨q,q1,q2,q3,by rw[zaf (ne q4)];exact q4⟩
theorem zqv{κ β γ:Type}[DecidableEq κ]{t:List (κ×β)}{u:List (κ×γ)}{k:κ}{v:β}{w:γ}(h:t.length≤u.length)(e:(aget t k).isSome=(aget u k).isSome):(aput t k v).length≤(aput u k w).length:=by
 unfold aput
 rw[zcj,zcj,e]
 split
 ·rw[List.length_map,List.length_map];exact h
 ·rw[List.length_append,List.length_append];simpa using h
theorem zhn.set{M0 M:Mm}{a q:Addr}{T:RT}{X:Str}{row:List Str}{ps:List (Str×Addr)}(h:zhn M0 M a T)(hq:M q=none)(hps:M a=some (.dK (zfN ps))):zhn M0 (put (put M q (.lst (row.map W.str))) a (.dK (zfN (aput ps X q)))) a (aput T X row):=by
 obtain⟨ps',h1,h2,h3,h4,h5⟩:=h.ex
 rw[hps] at h1
 have hpp:ps=ps':=by
  have h1:zfN ps=zfN ps':=by simpa using h1
  have:∀ {x y:List (Str×Addr)},zfN x=zfN y→x=y:=by
   intro x
   induction x with
   | nil=>intro y e;cases y with
    | nil=>rfl
    | cons b y=>cases e
   | cons b x ih=>intro y e;cases y with
    | nil=>cases e
    | cons c y=>
     have e:(Sum.inr b.1,W.ref b.2) :: zfN x=(Sum.inr c.1,W.ref c.2) :: zfN y:=e
     rw[List.cons.injEq,Prod.mk.injEq] at e
     obtain⟨b1,b2⟩:=b
     obtain⟨c1,c2⟩:=c
     have h1:b1=c1:=Sum.inr.inj e.1.1
     have h2:b2=c2:=W.ref.inj e.1.2
     rw[h1,h2,ih e.2]
  exact this h1
 subst hpp
 have ne:∀ {b:Addr} {u:MO},M b=some u→b≠q:=fun {b u} e z=>by subst z;rw[hq] at e;cases e
 have hqa:q≠a:=Ne.symm (ne hps)
 refine⟨zbq (zbq h.sub (h.sub.non hq)) h.new,h.new,aput ps X q,zad,fun Y=>?_,?_,fun Y r e=>?_,fun Y Z p e1 e2=>?_⟩
 ·rw[zay,zay]
  split
  ·rfl
  ·exact h2 Y
 ·exact zqv h3 (h2 X)
 ·rw[zay] at e
  by_cases hy:X=Y
  ·rw[if_pos hy] at e;cases e
   exact⟨q,by rw[zay,if_pos hy],hqa,h.sub.non hq,by rw[zaf hqa,zad]⟩
  ·rw[if_neg hy] at e
   obtain⟨p,q1,q2,q3,q4⟩:=h4 Y r e
   exact⟨p,by rw[zay,if_neg hy];exact q1,q2,q3,by rw[zaf q2,zaf (ne q4)];exact q4⟩
 ·rw[zay] at e1 e2
  have told:∀ Y p,aget ps Y=some p→∃ u,M p=some u:=fun Y p e=>by
   have:=h2 Y
   rw[e] at this
   obtain⟨r,hr⟩:=Option.isSome_iff_exists.mp this.symm
   obtain⟨p',q1,_,_,q4⟩:=h4 Y r hr
   rw[e] at q1;cases q1
   exact⟨_,q4⟩
  by_cases hy:X=Y
  ·by_cases hz:X=Z
   ·exact hy.symm.trans hz
   ·rw[if_pos hy] at e1;rw[if_neg hz] at e2;cases e1
    obtain⟨u,z⟩:=told Z q e2;rw[hq] at z;cases z
  ·by_cases hz:X=Z
   ·rw[if_neg hy] at e1;rw[if_pos hz] at e2;cases e2
    obtain⟨u,z⟩:=told Y q e1;rw[hq] at z;cases z
   ·rw[if_neg hy] at e1;rw[if_neg hz] at e2
    exact h5 Y Z p e1 e2
end Rg
namespace Rg
open PySem PySem.Spec PyProof.Rows L2 L3
theorem zl2{rs:List Rule}{T:RT}(ps:List Str):(ps.map fun t=>ownB rs t && !(aget T t).isSome).any id=lackT rs T ps:=by
 unfold lackT
 rw[List.any_map]
 congr 1
 funext t
 show(ownB rs t && !(aget T t).isSome)=_
 cases aget T t <;> rfl
theorem zna{ws:List W}{M:Mm}{R:K3}(h:zgT ws M R):zfc (zax R) (zaP zks ws) M:=by
 obtain⟨rs,M0,a,T,parts,rfl,hr,hT,hl,r1,r2⟩:=h
 obtain⟨ow,how⟩:∃ ow,ow=zhk rs:=⟨_,rfl⟩
 have lo:∀ t,(zam ow (Sum.inr t:Key)).isSome=ownB rs t:=fun t=>by rw[how];exact zie rs t
 rw[←how]
 show zfc (zax R) [some (.dk ow),some (.ref a),some (.tup (parts.map W.str))] M
 obtain⟨ps,h1,h2,h3,h4,h5⟩:=hr.ex
 simp? only[zfc]
 refine map1 (rest:=[some (.dk ow),some (.ref a)]) (fun w=>match w with | .str t=>.bl (ownB rs t && !(aget T t).isSome) | _=>.non) (zd5 (by rw[List.length_map];omega)) (fun _ _=>trivial) (fun w hw M' C sb c1=>?_) (New.frz ?_)
 ·obtain⟨t,_,rfl⟩:=List.mem_map.mp hw
  simp? only[L3.rIn]
  refine⟨_,⟨Sum.inr t,rfl,rfl⟩,?_⟩
  rw[lo t]
  simp only at c1
  cases ho:ownB rs t with
  | false=>rw[ho] at c1;exact c1
  | true=>
   rw[ho] at c1
   refine .inr ⟨_,.inl ⟨_,Sum.inr t,sb _ _ h1,rfl,rfl⟩,?_⟩
   rw[zej,Option.isSome_map,h2]
   exact c1
 ·simp? only[rAny]
  refine⟨parts.map fun t=>ownB rs t && !(aget T t).isSome,by unfold bools;rw[List.map_map,List.map_map];rfl,?_⟩
  rw[zl2]
  cases hlk:lackT rs T parts with
  | true=>
   simp? only[]
   exact⟨_,Sub.refl _,r1 hlk⟩
  | false=>
   simp? only[]
   have inn:∀ t∈parts,ownB rs t=true→∃ row p,aget T t=some row∧aget ps t=some p∧M p=some (.lst (row.map W.str)):=fun t ht ho=>by
    have:¬ (ownB rs t && (aget T t).isNone)=true:=fun z=>by
     have:lackT rs T parts=true:=List.any_eq_true.mpr ⟨t,ht,z⟩
     rw[hlk] at this;cases this
    rw[ho,Bool.true_and] at this
    cases e:aget T t with
    | none=>rw[e] at this;exact absurd rfl this
    | some row=>
     obtain⟨p,q1,_,_,q4⟩:=h4 t row e
     exact⟨row,p,rfl,q1,q4⟩
   refine zv3 (rest:=[some (.dk ow),some (.ref a)]) (fun w y=>∃ t∈parts,w=.str t∧zlR M y ((aget T t).getD [t])) (zd5 (by rw[List.length_map];omega)) (fun _ _=>trivial) (fun w hw M' C sb c1=>?_) fun ys hys=>New.frz ?_
   ·obtain⟨t,ht,rfl⟩:=List.mem_map.mp hw
    simp? only[L3.rIn]
    refine⟨_,⟨Sum.inr t,rfl,rfl⟩,?_⟩
    rw[lo t]
    cases ho:ownB rs t with
    | true=>
     simp? only[]
     obtain⟨row,p,e1,e2,e3⟩:=inn t ht ho
     refine⟨.ref p,.inl ⟨_,Sum.inr t,sb _ _ h1,rfl,by rw[zej,e2];rfl⟩,c1 _ ⟨t,ht,rfl,?_⟩⟩
     rw[e1];exact .inr ⟨p,rfl,e3⟩
    | false=>
     simp? only[]
     have e:aget T t=none:=by
      cases q:aget T t with
      | none=>rfl
      | some row=>rw[(hT t row q).1] at ho;cases ho
     refine c1 _ ⟨t,ht,rfl,?_⟩
     rw[e];exact .inl rfl
   ·have hpr:Paired (zlR M) ys (parts.map fun t=>(aget T t).getD [t]):=by
     have:∀ {qs:List Str} {ys:List W},Paired (fun w y=>∃ t∈parts,w=W.str t∧zlR M y ((aget T t).getD [t])) (qs.map W.str) ys→Paired (zlR M) ys (qs.map fun t=>(aget T t).getD [t]):=by
      intro qs
      induction qs with
      | nil=>intro ys h;cases h;exact .nil
      | cons t qs ih=>
       intro ys h
       cases h with
       | cons x y=>
        obtain⟨t',_,e,hx⟩:=x
        cases e
        exact .cons hx (ih y)
     exact this hys
    have hyl:=Paired.length hys
    rw[List.length_map] at hyl
    have hfl:(parts.map fun t=>(aget T t).getD [t]).flatten=za9 T parts:=by unfold za9;rw[List.flatMap_def]
    have hlen:∀ qs:List Str,(za9 T qs).length≤qs.length * 256:=by
     intro qs
     induction qs with
     | nil=>simp[za9]
     | cons t qs ih=>
      rw[zhf,List.length_append,List.length_cons,Nat.succ_mul]
      have:((aget T t).getD [t]).length≤256:=by
       cases e:aget T t with
       | none=>simp
       | some row=>exact(hT t row e).2
      omega
    have:=hlen parts
    refine⟨ys,_,rfl,by omega,hpr,by rw[hfl];omega,?_⟩
    rw[hfl]
    intro q hq
    exact⟨_,Sub.refl _,r2 hlk q hq⟩
theorem zkz{rs:List Rule}{L:Str→Option Int}:∀ (qs:List Rule) (s:RT×Bool),qs.foldl (zbX rs L) s=(qs.filter (fitB rs L)).foldl (zbX rs L) s
 | [],s=>rfl
 | q :: qs,s=>by
  rw[List.foldl_cons,List.filter_cons]
  by_cases h:fitB rs L q=true
  ·rw[if_pos h,List.foldl_cons];exact zkz qs _
  ·rw[if_neg h]
   have:zbX rs L s q=s:=by
    unfold zbX zcs
    have h:fitB rs L q=false:=by simpa using h
    rw[h,Bool.false_and,if_neg (by decide)]
   rw[this];exact zkz qs s
theorem ziX{rs:List Rule}{L:Str→Option Int}{T:RT}{r:Rule}(h:lackT rs T r.parts=true):zcs rs L T r=false:=by simp[zcs,h]
theorem zjV{rs:List Rule}{L:Str→Option Int}{T:RT}{r:Rule}(h:fitB rs L r=true)(h2:lackT rs T r.parts=false)(h3:aget T r.name=none):zcs rs L T r=true:=by simp[zcs,h,h2,h3]
theorem zfI{rs:List Rule}{L:Str→Option Int}{T:RT}{r:Rule}{old:List Str}(h:fitB rs L r=true)(h2:lackT rs T r.parts=false)(h3:aget T r.name=some old):zcs rs L T r=zdR (za9 T r.parts) old:=by simp[zcs,h,h2,h3]
theorem zqw:∀ a b:List Str,Ll.rLt a b=zdR a b
 | [],[]=>rfl
 | [],_ :: _=>rfl
 | _ :: _,[]=>rfl
 | a :: as,b :: bs=>by rw[Ll.rLt,zdR,zqw as bs];rfl
theorem zht{α β:Type}{f:β→α→β}{l:List α}{i:Nat}{x:α}{s:β}(h:l[i]? = some x):(l.take (i + 1)).foldl f s=f ((l.take i).foldl f s) x:=by
 rw[zaL h,List.foldl_append];rfl
theorem ziY{ws:List W}{M:Mm}{R:K3}(h:zcW ws M R):zb7 (zax R) (zaP zfd ws) M:=by
 obtain⟨rs,kvs,rfl,g,hk,r⟩:=h
 show zb7 (zax R) [some (rlW rs),some (.dk kvs),none,none,none,none,none,none] M
 have hf:=g.few
 simp? only[zb7,zfe,rlW]
 refine⟨rs,rfl,by omega,New.frz ?_⟩
 refine⟨zak rs,rfl,by have:=za8 rs;omega,?_⟩
 obtain⟨ow,how⟩:∃ ow,ow=zhk rs:=⟨_,rfl⟩
 rw[show((zak rs).foldl addN []).map nkw=ow from how.symm]
 simp? only[zff]
 refine⟨rs,kvs,rfl,g,hk,New.frz ?_⟩
 obtain⟨tg,htg⟩:∃ tg,tg=rs.filter (fitB rs (lwL rs)):=⟨_,rfl⟩
 have tgm:∀ q∈tg,q∈rs∧fitB rs (lwL rs) q=true:=fun q hq=>by rw[htg] at hq;exact List.mem_filter.mp hq
 rw[←htg]
 obtain⟨gw,hgw⟩:∃ w:W,w=.rl (rs.map zav):=⟨_,rfl⟩
 rw[←hgw]
 simp? only[zfg]
 intro a ha
 simp? only[zfh,zfi]
 have hL:=fun X h=>zqp (rs:=rs) (X:=X) h
 have hc:∀ row:List Str,row.length≤256→(∀ w∈row,w∈W5)→row∈zbp W5 256:=fun row=>zgb
 have hN:∀ X l,lwL rs X=some l→l≤((256:Nat):Int):=fun X l h=>zm5 g h
 have g0:zdr rs (lwL rs) W5 []:=⟨(fun _ _ e=>nomatch e),(fun _ _ e=>nomatch e),(fun _ _ e=>nomatch e),List.nodup_nil⟩
 unfold L3.zgy
 refine⟨fun m τ M'=>∃ (k:Nat) (T:RT) (ch:Bool) (o6 o7:Option W),τ=[some gw,some (.dk kvs),some (.dk ow),some (.rl (tg.map zav)),some (.ref a),some (.bl ch),o6,o7]∧zhn M M' a T∧zdr rs (lwL rs) W5 T∧T=zct rs (lwL rs) k∧(ch=false→(zce rs (lwL rs) T).1=T)∧m=2 * left (zak rs) (zbp W5 256) T + (if ch=true then 1 else 0),
  ⟨_,0,[],true,_,_,rfl,⟨Sub.new ha,ha,[],zad,fun _=>rfl,Nat.le_refl _,(fun _ _ e=>nomatch e),(fun _ _ _ e=>nomatch e)⟩,g0,rfl,(fun e=>nomatch e),rfl⟩,?_⟩
 rintro m τ M1 ⟨k,T,ch,o6,o7,rfl,hr,gT,eT,hch,rfl⟩
 simp? only[]
 cases ch with
 | false=>
  simp? only[zfj]
  exact⟨_,Sub.refl _,r a M1 T ⟨k,eT,hch rfl⟩ gT hr⟩
 | true=>
  simp? only[zeH]
  refine for3 (fun j τ M'=>∃ (s:RT×Bool) (o6 o7:Option W),τ=[some gw,some (.dk kvs),some (.dk ow),some (.rl (tg.map zav)),some (.ref a),some (.bl s.2),o6,o7]∧s=(tg.take j).foldl (zbX rs (lwL rs)) (T,false)∧zhn M M' a s.1∧zdr rs (lwL rs) W5 s.1) ⟨(T,false),_,_,rfl,rfl,hr,gT⟩ (fun _ _ _ _ _=>trivial) ?_ ?_
  ·rintro j w τ M2 hw ⟨s,p6,p7,rfl,es,hr2,gs⟩
   rw[List.getElem?_map] at hw
   obtain⟨q,hq,rfl⟩:=Option.map_eq_some_iff.mp hw
   obtain⟨hqr,hfit⟩:=tgm q (List.mem_of_getElem? hq)
   have hpl:=g.prt q hqr
   have es1:(tg.take (j + 1)).foldl (zbX rs (lwL rs)) (T,false)=zbX rs (lwL rs) s q:=by rw[zht hq,←es]
   have small':∀ X row,aget s.1 X=some row→ownB rs X=true∧row.length≤256:=fun X row e=>⟨gs.own X row e,by
    have:=hN X _ (gs.len X row e)
    omega⟩
   have stay:∀ (M3:Mm) (p7:Option W),zhn M M3 a s.1→zcs rs (lwL rs) s.1 q=false→∃ M'',L3.Sub M'' M3∧∃ (s':RT×Bool) (o6 o7:Option W),[some gw,some (W.dk kvs),some (.dk ow),some (.rl (tg.map zav)),some (.ref a),some (.bl s.2),some (zav q),p7]=[some gw,some (.dk kvs),some (.dk ow),some (.rl (tg.map zav)),some (.ref a),some (.bl s'.2),o6,o7]∧s'=(tg.take (j + 1)).foldl (zbX rs (lwL rs)) (T,false)∧zhn M M'' a s'.1∧zdr rs (lwL rs) W5 s'.1:=fun M3 p7 hr3 hb=>by
    refine⟨_,Sub.refl _,s,_,_,rfl,?_,hr3,gs⟩
    rw[es1]
    unfold zbX
    rw[hb,if_neg (by decide)]
   simp? only[zav]
   rw[how]
   refine⟨rs,M,a,s.1,q.parts,rfl,hr2,small',hpl,fun hlk=>?_,fun hlk=>?_⟩
   ·simp? only[rIs,isNon]
    rw[←how]
    exact stay M2 _ hr2 (ziX hlk)
   ·intro z hz
    obtain⟨ps,h1,h2,h3,h4,h5⟩:=hr2.ex
    have hza:a≠z:=fun e=>by subst e;rw[h1] at hz;cases hz
    simp? only[rIs,isNon,L3.rIn]
    rw[←how]
    have hdo:zcs rs (lwL rs) s.1 q=true→∃ M'',L3.Sub M'' (put (put M2 z (.lst ((za9 s.1 q.parts).map W.str))) a (.dK (zfN (aput ps q.name z))))∧∃ (s':RT×Bool) (o6 o7:Option W),[some gw,some (W.dk kvs),some (.dk ow),some (.rl (tg.map zav)),some (.ref a),some (.bl true),some (zav q),some (.ref z)]=[some gw,some (.dk kvs),some (.dk ow),some (.rl (tg.map zav)),some (.ref a),some (.bl s'.2),o6,o7]∧s'=(tg.take (j + 1)).foldl (zbX rs (lwL rs)) (T,false)∧zhn M M'' a s'.1∧zdr rs (lwL rs) W5 s'.1:=fun hb=>by
     have e2:zbX rs (lwL rs) s q=(aput s.1 q.name (za9 s.1 q.parts),true):=by unfold zbX;rw[if_pos hb]
     refine⟨_,Sub.refl _,(aput s.1 q.name (za9 s.1 q.parts),true),_,_,rfl,by rw[es1,e2],hr2.set hz h1,(gs.step hL g.all hqr hb).1⟩
    have hps:ps.length < 10000000:=by
     have:ps.length≤s.1.length:=h3
     have hs1:=gs.few
     omega
    refine .inr ⟨_,.inl ⟨_,Sum.inr q.name,by rw[zaf hza];exact h1,rfl,rfl⟩,?_⟩
    rw[zej,Option.isSome_map,h2]
    cases e:aget s.1 q.name with
    | none=>
     simp? only[Option.isSome_none]
     refine zfB (by rw[zaf hza];exact h1) (by rw[List.length_map];exact zbE hps) ?_
     rw[zqu]
     exact hdo (zjV hfit hlk e)
    | some old=>
     simp? only[Option.isSome_some]
     obtain⟨po,q1,q2,q3,q4⟩:=h4 _ _ e
     have hpz:po≠z:=fun e=>by subst e;rw[hz] at q4;cases q4
     refine⟨.ref po,.inl ⟨_,Sum.inr q.name,by rw[zaf hza];exact h1,rfl,by rw[zej,q1];rfl⟩,?_⟩
     refine⟨za9 s.1 q.parts,old,.inr ⟨z,rfl,zad⟩,.inr ⟨po,rfl,by rw[zaf hpz];exact q4⟩,?_⟩
     rw[zqw]
     cases hlt:zdR (za9 s.1 q.parts) old with
     | true=>
      simp? only[]
      refine zfB (by rw[zaf hza];exact h1) (by rw[List.length_map];exact zbE hps) ?_
      rw[zqu]
      exact hdo (by rw[zfI hfit hlk e];exact hlt)
     | false=>
      simp? only[]
      exact stay _ _ (hr2.more hz) (by rw[zfI hfit hlk e];exact hlt)
  ·rintro τ M2 ⟨s,p6,p7,rfl,es,hr2,gs⟩
   rw[List.length_map,List.take_length,htg,←zkz] at es
   have es:s=zce rs (lwL rs) T:=es
   obtain⟨_,sl⟩:=zfC (cs:=zbp W5 256) (N:=256) hL g.all hc hN (qs:=rs) (s:=(T,false)) (fun _ h=>h) gT
   have sl:zce rs (lwL rs) T=(T,false)∨(zce rs (lwL rs) T).2=true∧left (zak rs) (zbp W5 256) (zce rs (lwL rs) T).1 < left (zak rs) (zbp W5 256) T:=sl
   rw[←es] at sl
   refine⟨2 * left (zak rs) (zbp W5 256) s.1 + (if s.2=true then 1 else 0),M2,?_,Sub.refl _,k + 1,s.1,s.2,_,_,rfl,hr2,gs,?_,fun hs2=>?_,rfl⟩
   ·rcases sl with z | ⟨z1,z2⟩
    ·rw[z];simp
    ·rw[z1];simp;omega
   ·show s.1=(zce rs (lwL rs) (zct rs (lwL rs) k)).1
    rw[←eT,←es]
   ·rcases sl with z | ⟨z1,_⟩
    ·have e2:s.1=T:=by rw[z]
     rw[e2,←es,e2]
    ·rw[hs2] at z1;cases z1
end Rg
namespace Rg
open PySem PySem.Spec PyProof.Rows L2 L3
theorem zg1{ws:List W}{M:Mm}{R:K3}(h:zbi ws M R):zbj (zax R) (zaP zdk ws) M:=by
 obtain⟨rs,rfl,g,r⟩:=h
 have hf:=g.few
 obtain⟨gw,hgw⟩:∃ w:W,w=rlW rs:=⟨_,rfl⟩
 rw[←hgw]
 show zbj (zax R) [some gw,none] M
 simp? only[zbj]
 refine⟨rs,by rw[hgw],g,fun kvs hk=>NewK.frz ?_⟩
 refine⟨rs,kvs,by rw[hgw],g,hk,fun a M1 T hT gT hr=>?_⟩
 refine⟨rs,by rw[hgw];rfl,by omega,New.frz ?_⟩
 simp? only[]
 obtain⟨ps,h1,h2,h3,h4,h5⟩:=hr.ex
 have hnl:=za8 rs
 refine zrt (rest:=[some (.ref a)]) (fun w=>match w with | .str X=>(aget ps X).map fun p=>.tup [.str X,.ref p] | _=>none) (zd5 (by rw[List.length_map];omega)) (fun _ _=>trivial) (fun w hw M' C D sb c1 c2=>?_) ?_
 ·obtain⟨X,_,rfl⟩:=List.mem_map.mp hw
  simp? only[L3.rIn]
  simp only at c1 c2
  refine .inr ⟨_,.inl ⟨_,Sum.inr X,sb _ _ h1,rfl,rfl⟩,?_⟩
  rw[zej,Option.isSome_map]
  cases e:aget ps X with
  | none=>
   simp? only[Option.isSome_none]
   exact c2 (by rw[e];rfl)
  | some p=>
   simp? only[Option.isSome_some]
   exact⟨.ref p,.inl ⟨_,Sum.inr X,sb _ _ h1,rfl,by rw[zej,e];rfl⟩,c1 _ (by rw[e];rfl)⟩
 ·intro p hp
  refine⟨_,Sub.refl _,?_⟩
  have pick:∀ ns:List Str,∃ as:List (Str×Addr×List Str),(ns.map W.str).filterMap (fun w=>match w with | .str X=>(aget ps X).map fun p=>W.tup [.str X,.ref p] | _=>none)=as.map (fun x=>.tup [.str x.1,.ref x.2.1])∧(as.map fun x=>(x.1,x.2.2))=(ns.filterMap fun X=>(aget T X).map fun row=>(X,row))∧∀ x∈as,M x.2.1=none∧M1 x.2.1=some (.lst (x.2.2.map W.str)):=by
   intro ns
   induction ns with
   | nil=>exact⟨[],rfl,rfl,by simp⟩
   | cons X ns ih=>
    obtain⟨as,e1,e2,e3⟩:=ih
    have hs:=h2 X
    cases e:aget T X with
    | none=>
     rw[e] at hs
     have en:aget ps X=none:=by
      cases q:aget ps X with
      | none=>rfl
      | some z=>rw[q] at hs;cases hs
     refine⟨as,?_,?_,e3⟩
     ·rw[List.map_cons,List.filterMap_cons]
      simp only[en,Option.map_none]
      exact e1
     ·rw[List.filterMap_cons]
      simp only[e,Option.map_none]
      exact e2
    | some row=>
     obtain⟨q,q1,q2,q3,q4⟩:=h4 X row e
     refine⟨(X,q,row) :: as,?_,?_,fun x hx=>?_⟩
     ·rw[List.map_cons,List.filterMap_cons]
      simp only[q1,Option.map_some]
      rw[e1];rfl
     ·rw[List.filterMap_cons]
      simp only[e,Option.map_some]
      rw[←e2];rfl
     ·rcases List.mem_cons.mp hx with rfl | hx
      ·exact⟨q3,q4⟩
      ·exact e3 x hx
  obtain⟨as,e1,e2,e3⟩:=pick (zak rs)
  rw[e1]
  refine r p _ T as hT gT (hr.sub.non hp) (hr.sub.trans (Sub.new hp)) zad e2 fun x hx=>?_
  obtain⟨x1,x2⟩:=e3 x hx
  have:x.2.1≠p:=fun z=>by rw[z,hp] at x2;cases x2
  exact⟨x1,this,by rw[zaf this];exact x2⟩
theorem zqx(rs:List Rule):(rs.map zav).map (fun w=>match w with | .tup (x :: _)=>x | _=>.non)=(rs.map Rule.name).map W.str:=by
 rw[List.map_map,List.map_map];rfl
theorem zkA{rs:List Rule}{t:Str}:inW (.str t) ((rs.map Rule.name).map W.str)=ownB rs t:=by
 rw[zkn]
 unfold ownB
 rw[Bool.eq_iff_iff]
 simp only[decide_eq_true_eq]
 rw[zbN];simp
theorem zhu{rs:List Rule}{keep:Mm→Prop}{o:Option W}{M1:Mm}{R:K3}(hl:rs.length≤100)(hk:∀ M,L3.Sub M1 M→keep M)(r:R (.rl ((rs.map Rule.name).map W.str)) M1) :
  zgA (rs.map zav) keep (zaw 0) zc5 (vOp rIx (vVar 0) (vC (.int 0))) [o] M1 fun w M'=>frz w M' R:=by
 refine map1 (rest:=[]) (fun w=>match w with | .tup (x :: _)=>x | _=>.non) (zd5 (by rw[List.length_map];omega)) hk (fun w hw M' C sb h1=>?_) (New.frz ?_)
 ·obtain⟨q,_,rfl⟩:=List.mem_map.mp hw
  simp? only[zav]
  exact h1
 ·rw[zqx];exact r
def znb(rs:List Rule)(kn:Str→Bool):W→Option W
 | .str t=>if (ownB rs t && !kn t)=true then some (W.str t) else none
 | _=>none
theorem ziZ{rs:List Rule}{kn:Str→Bool}:∀ {ps:List Str},(ps.map W.str).filterMap (znb rs kn)=(ps.filter fun t=>ownB rs t && !kn t).map W.str
 | []=>rfl
 | t :: ps=>by
  have ih:=ziZ (rs:=rs) (kn:=kn) (ps:=ps)
  rw[List.map_cons,List.filterMap_cons,List.filter_cons]
  by_cases h:(ownB rs t && !kn t)=true
  ·simp only[znb,h,if_true]
   rw[ih];rfl
  ·simp only[znb,h,if_false]
   rw[ih];rfl
theorem zkB{rs:List Rule}{kn:Str→Bool}(ps:List Str):(ps.filter fun t=>ownB rs t && !kn t).isEmpty = !(ps.any fun t=>ownB rs t && !kn t):=by
 induction ps with
 | nil=>rfl
 | cons t ps ih=>
  rw[List.filter_cons,List.any_cons]
  by_cases h:(ownB rs t && !kn t)=true
  ·rw[if_pos h,h];rfl
  ·rw[if_neg h,ih]
   have h:(ownB rs t && !kn t)=false:=by simpa using h
   rw[h];rfl
theorem zgj{xs:List Str}{M:Mm}{R:K3}(neg:Bool)(h:∀ x∈xs,sOk x)(r:R (.bl (if neg then !xs.isEmpty else xs.isEmpty)) M):rEq neg (.rl (xs.map W.str)) (.rl []) M R:=by
 refine zpD 2 (by decide) (fun w hw=>?_) (by intro w hw;simp at hw) fun b hb=>?_
 ·exact zw0 h w hw
 ·have:b=xs.isEmpty:=by
   rw[Bool.eq_iff_iff,hb]
   show W.rl (xs.map W.str)=W.rl []↔_
   cases xs <;> simp
  rw[this];exact r
theorem G39.ok{rs:List Rule}(g:G39 rs){r:Rule}(hr:r∈rs):sOk r.name∧∀ t∈r.parts,sOk t:=by
 have n4:∀ t∈N4,sOk t:=by unfold N4 sOk;decide +kernel
 have w5:∀ t∈W5,sOk t:=by unfold W5 sOk;decide +kernel
 refine⟨n4 _ (g.nam r hr),fun t ht=>?_⟩
 rcases g.wrd r hr t ht with z | z
 ·obtain⟨q,hq,rfl⟩:=zbN.mp (of_decide_eq_true z)
  exact n4 _ (g.nam q hq)
 ·exact w5 t z
end Rg
namespace Rg
open PySem PySem.Spec PyProof.Rows L2 L3
abbrev kvS{β:Type}(f:β→W)(T:List (Str×β)):List (Key×W):=T.map fun e=>(Sum.inr e.1,f e.2)
theorem zdl{β:Type}{f:β→W}(T:List (Str×β))(X:Str):zam (kvS f T) (Sum.inr X:Key)=(aget T X).map f:=by
 induction T with
 | nil=>rfl
 | cons e ps ih=>
  rw[show kvS f (e :: ps)=(Sum.inr e.1,f e.2) :: kvS f ps from rfl,zbz,zai,ih]
  by_cases h:e.1=X
  ·rw[if_pos (by rw[h]),if_pos h];rfl
  ·rw[if_neg (fun z=>h (Sum.inr.inj z)),if_neg h]
theorem zsS{β:Type}{f:β→W}(T:List (Str×β))(X:Str)(v:β):putW (kvS f T) (Sum.inr X:Key) (f v)=kvS f (aput T X v):=by
 unfold putW aput
 rw[show((kvS f T).any fun kv=>decide (kv.1=(Sum.inr X:Key)))=(zam (kvS f T) (Sum.inr X:Key)).isSome from zcj _ _,zdl,zcj]
 cases aget T X with
 | none=>simp
 | some w=>
  simp only[Option.map_some,Option.isSome_some,if_true,List.map_map]
  apply List.map_congr_left
  intro e _
  simp only[Function.comp]
  by_cases h:e.1=X
  ·rw[if_pos (by rw[h]),if_pos h]
  ·rw[if_neg (fun z=>h (Sum.inr.inj z)),if_neg h]
theorem znc{β:Type}{rs:List Rule}{T:List (Str×β)}(ps:List Str):(ps.any fun t=>ownB rs t && !(aget T t).isSome)=lackT rs T ps:=by
 unfold lackT
 congr 1
 funext t
 cases aget T t <;> rfl
theorem zkC{rs:List Rule}:∀ {qs:List Rule} {T:LT},(T.map (·.1)).Nodup→((qs.foldl (zcc rs) T).map (·.1)).Nodup
 | [],T,h=>h
 | q :: qs,T,h=>by
  rw[List.foldl_cons]
  refine zkC ?_
  unfold zcc
  split
  ·exact h
  ·exact zjE h
theorem zhK(rs:List Rule):∀ k,((zbn rs k).map (·.1)).Nodup
 | 0=>List.nodup_nil
 | k + 1=>zkC (zhK rs k)
theorem zw3{rs:List Rule}{T:LT}(g:zdJ rs T)(nd:(T.map (·.1)).Nodup):T.length≤rs.length:=by
 have:=zcN (a:=T.map (·.1)) (b:=zak rs) nd fun x hx=>by
  obtain⟨e,he,rfl⟩:=List.mem_map.mp hx
  obtain⟨v,hv⟩:=znK he
  exact of_decide_eq_true (g.own _ _ hv)
 rw[List.length_map] at this
 exact Nat.le_trans this (za8 rs)
theorem zjk{ws:List W}{M:Mm}{R:K3}(h:zdF ws M R):zcJ (zax R) (zaP zgi ws) M:=by
 obtain⟨rs,rfl,g,r⟩:=h
 have hf:=g.few
 show zcJ (zax R) [some (rlW rs),none,none,none,none,none,none,none] M
 simp? only[zcJ,zfW,rlW]
 intro p hp
 simp? only[zfX]
 refine zhu (by omega) (fun _ _=>trivial) ?_
 obtain⟨hd,hhd⟩:∃ hd,hd=(rs.map Rule.name).map W.str:=⟨_,rfl⟩
 have hin:∀ t,inW (.str t) hd=ownB rs t:=fun t=>by rw[hhd];exact zkA
 have hfl:hd.all zby=true:=by rw[hhd];exact zdT _
 rw[←hhd]
 simp? only[zfY,List.length_map]
 refine⟨_,rfl,by omega,by omega,?_⟩
 have e1:((rs.length:Int) + 1).toNat=rs.length + 1:=by omega
 rw[e1]
 refine for3 (fun i τ M'=>∃ (o3 o4 o5 o6 o7:Option W),τ=[some (.rl (rs.map zav)),some (.ref p),some (.rl hd),o3,o4,o5,o6,o7]∧M'=put M p (.dK (kvS W.int (zbn rs i)))) ⟨_,_,_,_,_,rfl,rfl⟩ (fun _ _ _ _ _=>trivial) ?_ ?_
 ·rintro i w τ M' hw ⟨o3,o4,o5,o6,o7,rfl,rfl⟩
  simp? only[zfm]
  refine for3 (fun j τ M'=>∃ (o4 o5 o6 o7:Option W),τ=[some (.rl (rs.map zav)),some (.ref p),some (.rl hd),some w,o4,o5,o6,o7]∧M'=put M p (.dK (kvS W.int ((rs.take j).foldl (zcc rs) (zbn rs i))))) ⟨_,_,_,_,rfl,rfl⟩ (fun _ _ _ _ _=>trivial) ?_ ?_
  ·rintro j w2 τ M' hw2 ⟨o4,o5,o6,o7,rfl,rfl⟩
   rw[List.getElem?_map] at hw2
   obtain⟨q,hq,rfl⟩:=Option.map_eq_some_iff.mp hw2
   have hqm:=List.mem_of_getElem? hq
   have hpl:=g.prt q hqm
   obtain⟨T,hT⟩:∃ T,T=(rs.take j).foldl (zcc rs) (zbn rs i):=⟨_,rfl⟩
   have gT:zdJ rs T:=by rw[hT];exact(zdJ.rounds rs i).steps fun x hx=>List.mem_of_mem_take hx
   have nT:(T.map (·.1)).Nodup:=by rw[hT];exact zkC (zhK rs i)
   have lT:=zw3 gT nT
   have hT1:(rs.take (j + 1)).foldl (zcc rs) (zbn rs i)=zcc rs T q:=by rw[zht hq,←hT]
   rw[←hT,hT1]
   simp? only[zav]
   refine zrt (rest:=[some (.rl hd),some (.ref p)]) (znb rs fun t=>(aget T t).isSome) (zd5 (by rw[List.length_map];omega)) (fun _ _=>trivial) (fun w hw M' C D sb c1 c2=>?_) (New.frz ?_)
   ·obtain⟨t,_,rfl⟩:=List.mem_map.mp hw
    simp? only[L3.rIn,zby,hin,hfl]
    simp only[znb] at c1 c2
    cases ho:ownB rs t with
    | false=>
     simp? only[]
     exact c2 (by rw[ho];rfl)
    | true=>
     simp? only[]
     refine .inr ⟨_,.inl ⟨_,Sum.inr t,sb _ _ zad,rfl,rfl⟩,?_⟩
     rw[zdl,Option.isSome_map]
     cases e:(aget T t).isSome with
     | true=>simp? only[];exact c2 (by simp[ho,e])
     | false=>simp? only[];exact c1 _ (by simp[ho,e])
   ·rw[ziZ]
    refine zgj false (fun x hx=>(g.ok hqm).2 x (List.mem_filter.mp hx).1) ?_
    rw[zkB,znc]
    cases hlk:lackT rs T q.parts with
    | true=>
     simp? only[]
     refine⟨_,Sub.refl _,_,_,_,_,rfl,?_⟩
     unfold zcc;rw[if_pos hlk]
    | false=>
     simp? only[]
     refine map1 (rest:=[some (.ref p)]) (fun w=>match w with | .str t=>.int (zf9 T t) | _=>.non) (zd5 (by rw[List.length_map];omega)) (fun _ _=>trivial) (fun w hw M' C sb h1=>?_) (New.frz ?_)
     ·obtain⟨t,_,rfl⟩:=List.mem_map.mp hw
      have hat:M' p=some (.dK (kvS W.int T)):=sb _ _ zad
      simp? only[rGet]
      refine⟨.inl ⟨_,hat⟩,_,.inl ⟨_,Sum.inr t,hat,rfl,rfl⟩,?_⟩
      rw[zdl]
      simp only[zf9] at h1
      cases e:aget T t with
      | none=>rw[e] at h1;exact h1
      | some l=>rw[e] at h1;exact h1
     ·simp? only[rSum]
      refine⟨q.parts.map (zf9 T),by rw[List.map_map,List.map_map];rfl,?_⟩
      rw[show(q.parts.map (zf9 T)).sum=sumL T q.parts from rfl]
      simp? only[rGet]
      refine⟨_,.inl ⟨_,Sum.inr q.name,zad,rfl,rfl⟩,?_⟩
      rw[zdl]
      have fin:zll (.ref p) (.str q.name) (.int (zp1 (sumL T q.parts) ((aget T q.name).getD (sumL T q.parts)))) (put M p (.dK (kvS W.int T))) fun M'=>∃ M'',L3.Sub M'' M'∧∃ (o4 o5 o6 o7:Option W),[some (W.rl (rs.map zav)),some (.ref p),some (.rl hd),some w,some (.str q.name),some (.tup (q.parts.map W.str)),some (.int q.cost),some (.int (sumL T q.parts))]=[some (.rl (rs.map zav)),some (.ref p),some (.rl hd),some w,o4,o5,o6,o7]∧M''=put M p (.dK (kvS W.int (zcc rs T q))):=by
       refine zfB zad (by rw[List.length_map];exact zbE (by omega)) ⟨_,Sub.refl _,_,_,_,_,rfl,?_⟩
       rw[zd2,zsS]
       unfold zcc;rw[if_neg (by rw[hlk];decide)]
      cases e:aget T q.name with
      | none=>rw[e] at fin;exact fin
      | some l=>rw[e] at fin;exact fin
  ·rintro τ M' ⟨o4,o5,o6,o7,rfl,rfl⟩
   rw[List.length_map,List.take_length]
   exact⟨_,Sub.refl _,_,_,_,_,_,rfl,rfl⟩
 ·rintro τ M' ⟨o3,o4,o5,o6,o7,rfl,rfl⟩
  rw[zhr]
  simp? only[zfZ]
  exact⟨_,Sub.refl _,r _ (fun X=>zdl _ X) p hp⟩
theorem zl3{rs:List Rule}{hd:List W}{kw:W}{kn:Str→Bool}{keep:Mm→Prop}{o:Option W}{M1:Mm}{R:K3}{ps:List Str}(hin:∀ t,inW (.str t) hd=ownB rs t)(hfl:hd.all zby=true)(hl:ps.length≤1000)(hkeep:∀ M,L3.Sub M1 M→keep M)
  (hk:∀ M t (C:K3),L3.Sub M1 M→C (.bl (!kn t)) M→L3.rIn true (.str t) kw M C) (r:R (.rl ((ps.filter fun t=>ownB rs t && !kn t).map W.str)) M1) :
  zgA (ps.map W.str) keep (zaw 0) (vAnd (za2 (vOp (L3.rIn false) (vVar 0) (vVar 1))) (za2 (vOp (L3.rIn true) (vVar 0) (vVar 2)))) (vVar 0) [o,some (.rl hd),some kw] M1 fun w M'=>frz w M' R:=by
 refine zrt (rest:=[some (.rl hd),some kw]) (znb rs kn) (zd5 (by rw[List.length_map];omega)) hkeep (fun w hw M' C D sb c1 c2=>?_) (New.frz ?_)
 ·obtain⟨t,_,rfl⟩:=List.mem_map.mp hw
  simp only[znb] at c1 c2
  simp? only[rIn.eq_3,zby,hin,hfl]
  cases ho:ownB rs t with
  | false=>
   simp? only[]
   exact c2 (by simp[ho])
  | true=>
   simp? only[]
   refine hk M' t _ sb ?_
   cases e:kn t with
   | true=>simp? only[];exact c2 (by simp[ho,e])
   | false=>simp? only[];exact c1 _ (by simp[ho,e])
 ·rw[ziZ];exact r
end Rg
namespace Rg
open PySem PySem.Spec PyProof.Rows L2 L3
theorem zsb{kvs:List (Key×W)}{kn:Str→Bool}(h:∀ t:Str,(zam kvs (Sum.inr t:Key)).isSome=kn t)(M:Mm)(t:Str)(C:K3)(c:C (.bl (!kn t)) M):L3.rIn true (.str t) (.dk kvs) M C:=by
 show ∃ o,dGet M (.dk kvs) (.str t) o∧C (.bl (if true then !o.isSome else o.isSome)) M
 refine⟨_,⟨Sum.inr t,rfl,rfl⟩,?_⟩
 rw[h t];exact c
theorem zqy{kvs:List (Key×W)}{kn:Str→Bool}{p:Addr}(h:∀ t:Str,(zam kvs (Sum.inr t:Key)).isSome=kn t){M:Mm}(hp:M p=some (.dK kvs))(t:Str)(C:K3)(c:C (.bl (!kn t)) M):L3.rIn true (.str t) (.ref p) M C:=by
 show(∃ ws,M p=some (.lst ws)∧zby (.str t)=true∧ws.all zby=true∧C (.bl (if true then !inW (.str t) ws else inW (.str t) ws)) M)∨∃ o,dGet M (.ref p) (.str t) o∧C (.bl (if true then !o.isSome else o.isSome)) M
 refine .inr ⟨_,.inl ⟨_,Sum.inr t,hp,rfl,rfl⟩,?_⟩
 rw[h t];exact c
theorem znd{ws:List W}{M:Mm}{R:K3}(h:zgU ws M R):zfn (zax R) (zaP zku ws) M:=by
 obtain⟨rs,kvs,q,rfl,g,hk,hqm,r⟩:=h
 have hf:=g.few
 have hpl:=g.prt q hqm
 show zfn (zax R) [some (rlW rs),some (.dk kvs),some (.tup (q.parts.map W.str)),some (.str q.name),none] M
 simp? only[zfn,ziS,rlW]
 refine zhu (by omega) (fun _ _=>trivial) ?_
 obtain⟨hd,hhd⟩:∃ hd,hd=(rs.map Rule.name).map W.str:=⟨_,rfl⟩
 have hin:∀ t,inW (.str t) hd=ownB rs t:=fun t=>by rw[hhd];exact zkA
 have hfl:hd.all zby=true:=by rw[hhd];exact zdT _
 rw[←hhd]
 have hks:∀ t:Str,(zam kvs (Sum.inr t:Key)).isSome=(aget (lawL rs) t).isSome:=fun t=>by rw[hk t,Option.isSome_map]
 simp? only[ziT]
 refine zl3 (kn:=fun t=>(aget (lawL rs) t).isSome) hin hfl (by omega) (fun _ _=>trivial) (fun M t C _ c=>zsb hks M t C c) ?_
 refine zgj true (fun x hx=>(g.ok hqm).2 x (List.mem_filter.mp hx).1) ?_
 rw[zkB,znc,Bool.not_not]
 cases hlk:lackT rs (lawL rs) q.parts with
 | true=>
  simp? only[]
  refine⟨_,Sub.refl _,?_⟩
  have:fitB rs (lwL rs) q=false:=by
   unfold fitB
   rw[show(q.parts.any fun t=>ownB rs t && (lwL rs t).isNone)=true from hlk];rfl
  rw[this] at r;exact r
 | false=>
  simp? only[ziU]
  refine map1 (rest:=[some (.dk kvs)]) (fun w=>match w with | .str t=>.int ((lwL rs t).getD 1) | _=>.non) (zd5 (by rw[List.length_map];omega)) (fun _ _=>trivial) (fun w hw M' C sb h1=>?_) (New.frz ?_)
  ·obtain⟨t,_,rfl⟩:=List.mem_map.mp hw
   simp? only[rGet]
   refine⟨_,⟨Sum.inr t,rfl,rfl⟩,?_⟩
   rw[hk t]
   simp only at h1
   cases e:lwL rs t with
   | none=>rw[e] at h1;exact h1
   | some l=>rw[e] at h1;exact h1
  ·simp? only[rSum]
   refine⟨q.parts.map fun t=>(lwL rs t).getD 1,by rw[List.map_map,List.map_map];rfl,?_⟩
   obtain⟨l,hl⟩:=zjN g hqm hlk
   refine⟨.int l,⟨Sum.inr q.name,rfl,by rw[hk q.name,show lwL rs q.name=some l from hl];rfl⟩,?_⟩
   simp? only[]
   have hfit:fitB rs (lwL rs) q=decide ((q.parts.map fun t=>(lwL rs t).getD 1).sum=l):=by
    unfold fitB
    rw[show(q.parts.any fun t=>ownB rs t && (lwL rs t).isNone)=false from hlk,show lwL rs q.name=some l from hl,Bool.not_false,Bool.true_and,Bool.eq_iff_iff]
    simp only[decide_eq_true_eq,Option.some.injEq]
    exact⟨Eq.symm,Eq.symm⟩
   rw[hfit] at r
   exact⟨_,Sub.refl _,r⟩
abbrev rowW(row:List Str):W:=.rl (row.map W.str)
theorem zsc(T:RT):zwY T=kvS rowW T:=rfl
theorem zoO{ws:List W}{M:Mm}{R:K3}(h:zid ws M R):zg0 (zax R) (zaP zm7 ws) M:=by
 obtain⟨rs,rfl,g,r⟩:=h
 have hf:=g.few
 show zg0 (zax R) [some (rlW rs),none,none,none,none,none,none,none,none,none,none] M
 simp? only[zg0,zjO]
 refine⟨rs,rfl,g,fun kvs hk=>NewK.frz ?_⟩
 simp? only[zjP,rlW]
 refine zhu (by omega) (fun _ _=>trivial) ?_
 obtain⟨hd,hhd⟩:∃ hd,hd=(rs.map Rule.name).map W.str:=⟨_,rfl⟩
 have hin:∀ t,inW (.str t) hd=ownB rs t:=fun t=>by rw[hhd];exact zkA
 have hfl:hd.all zby=true:=by rw[hhd];exact zdT _
 rw[←hhd]
 simp? only[zjQ]
 intro a ha
 simp? only[zjR,zjS]
 have hL:=fun X h=>zqp (rs:=rs) (X:=X) h
 have hc:∀ row:List Str,row.length≤256→(∀ w∈row,w∈W5)→row∈zbp W5 256:=fun row=>zgb
 have hN:∀ X l,lwL rs X=some l→l≤((256:Nat):Int):=fun X l h=>zm5 g h
 have g0:zdr rs (lwL rs) W5 []:=⟨(fun _ _ e=>nomatch e),(fun _ _ e=>nomatch e),(fun _ _ e=>nomatch e),List.nodup_nil⟩
 unfold L3.zgy
 refine⟨fun m τ M'=>∃ (k:Nat) (T:RT) (ch:Bool) (o5 o6 o7 o8 o9 o10:Option W),τ=[some (.rl (rs.map zav)),some (.dk kvs),some (.rl hd),some (.ref a),some (.bl ch),o5,o6,o7,o8,o9,o10]∧M'=put M a (.dK (kvS rowW T))∧zdr rs (lwL rs) W5 T∧T=zct rs (lwL rs) k∧(ch=false→(zce rs (lwL rs) T).1=T)∧m=2 * left (zak rs) (zbp W5 256) T + (if ch=true then 1 else 0),
  ⟨_,0,[],true,_,_,_,_,_,_,rfl,rfl,g0,rfl,(fun e=>nomatch e),rfl⟩,?_⟩
 rintro m τ M1 ⟨k,T,ch,o5,o6,o7,o8,o9,o10,rfl,rfl,gT,eT,hch,rfl⟩
 simp? only[]
 cases ch with
 | false=>
  simp? only[zjT]
  exact⟨_,Sub.refl _,r T ⟨k,eT,hch rfl⟩ gT a ha⟩
 | true=>
  simp? only[ziR]
  refine for3 (fun j τ M'=>∃ (s:RT×Bool) (o5 o6 o7 o8 o9 o10:Option W),τ=[some (.rl (rs.map zav)),some (.dk kvs),some (.rl hd),some (.ref a),some (.bl s.2),o5,o6,o7,o8,o9,o10]∧s=(rs.take j).foldl (zbX rs (lwL rs)) (T,false)∧M'=put M a (.dK (kvS rowW s.1))∧zdr rs (lwL rs) W5 s.1) ⟨(T,false),_,_,_,_,_,_,rfl,rfl,rfl,gT⟩ (fun _ _ _ _ _=>trivial) ?_ ?_
  ·rintro j w τ M2 hw ⟨s,p5,p6,p7,p8,p9,p10,rfl,es,rfl,gs⟩
   rw[List.getElem?_map] at hw
   obtain⟨q,hq,rfl⟩:=Option.map_eq_some_iff.mp hw
   have hqm:=List.mem_of_getElem? hq
   have hpl:=g.prt q hqm
   have es1:(rs.take (j + 1)).foldl (zbX rs (lwL rs)) (T,false)=zbX rs (lwL rs) s q:=by rw[zht hq,←es]
   have hks:∀ t:Str,(zam (kvS rowW s.1) (Sum.inr t:Key)).isSome=(aget s.1 t).isSome:=fun t=>by rw[zdl,Option.isSome_map]
   have stay:∀ (p8 p9 p10:Option W),zcs rs (lwL rs) s.1 q=false→∃ M'',L3.Sub M'' (put M a (.dK (kvS rowW s.1)))∧∃ (s':RT×Bool) (o5 o6 o7 o8 o9 o10:Option W),[some (W.rl (rs.map zav)),some (W.dk kvs),some (.rl hd),some (.ref a),some (.bl s.2),some (.str q.name),some (.tup (q.parts.map W.str)),some (.int q.cost),p8,p9,p10]=[some (.rl (rs.map zav)),some (.dk kvs),some (.rl hd),some (.ref a),some (.bl s'.2),o5,o6,o7,o8,o9,o10]∧s'=(rs.take (j + 1)).foldl (zbX rs (lwL rs)) (T,false)∧M''=put M a (.dK (kvS rowW s'.1))∧zdr rs (lwL rs) W5 s'.1:=fun p8 p9 p10 hb=>by
    refine⟨_,Sub.refl _,s,_,_,_,_,_,_,rfl,?_,rfl,gs⟩
    rw[es1]
    unfold zbX
    rw[hb,if_neg (by decide)]
   simp? only[zav]
   refine zl3 (kn:=fun t=>(aget s.1 t).isSome) hin hfl (by omega) (fun _ _=>trivial) (fun M t C sb c=>zqy hks (sb _ _ zad) t C c) ?_
   refine zgj false (fun x hx=>(g.ok hqm).2 x (List.mem_filter.mp hx).1) ?_
   rw[zkB,znc]
   cases hlk:lackT rs s.1 q.parts with
   | true=>
    simp? only[]
    exact stay _ _ _ (ziX hlk)
   | false=>
    simp? only[]
    refine⟨rs,kvs,q,rfl,g,hk,hqm,?_⟩
    cases hfit:fitB rs (lwL rs) q with
    | false=>
     simp? only[]
     exact stay _ _ _ (by simp[zcs,hfit])
    | true=>
     simp? only[]
     obtain⟨lk,hlkw⟩:∃ w:W,w=.rl ((q.parts.filter fun t=>ownB rs t && !(aget s.1 t).isSome).map W.str):=⟨_,rfl⟩
     rw[←hlkw]
     have lens:∀ X row,aget s.1 X=some row→row.length≤256:=fun X row e=>by
      have:=hN X _ (gs.len X row e)
      omega
     have rlen:∀ qs:List Str,(za9 s.1 qs).length≤qs.length * 256:=by
      intro qs
      induction qs with
      | nil=>simp[za9]
      | cons t qs ih=>
       rw[zhf,List.length_append,List.length_cons,Nat.succ_mul]
       have:((aget s.1 t).getD [t]).length≤256:=by
        cases e:aget s.1 t with
        | none=>simp
        | some row=>exact lens t row e
       omega
     refine for3 (fun i τ M'=>∃ (o10:Option W),τ=[some (.rl (rs.map zav)),some (.dk kvs),some (.rl hd),some (.ref a),some (.bl s.2),some (.str q.name),some (.tup (q.parts.map W.str)),some (.int q.cost),some lk,some (rowW (za9 s.1 (q.parts.take i))),o10]∧M'=put M a (.dK (kvS rowW s.1))) ⟨_,rfl,rfl⟩ (fun _ _ _ _ _=>trivial) ?_ ?_
     ·rintro i w τ M' hw ⟨o10,rfl,rfl⟩
      rw[List.getElem?_map] at hw
      obtain⟨t,ht,rfl⟩:=Option.map_eq_some_iff.mp hw
      have hi:=(List.getElem?_eq_some_iff.mp ht).1
      simp? only[rGet,rowW]
      refine⟨_,.inl ⟨_,Sum.inr t,zad,rfl,rfl⟩,?_⟩
      rw[zdl]
      have e1:za9 s.1 (q.parts.take (i + 1))=za9 s.1 (q.parts.take i) ++ (aget s.1 t).getD [t]:=by
       rw[zaL ht]
       unfold za9
       rw[List.flatMap_append];simp
      have e2:((aget s.1 t).map rowW).getD (.rl [.str t])=rowW ((aget s.1 t).getD [t]):=by
       cases aget s.1 t <;> rfl
      rw[e2]
      simp? only[rowW,List.length_map]
      have h1:=rlen (q.parts.take i)
      have h2:((aget s.1 t).getD [t]).length≤256:=by
       cases e:aget s.1 t with
       | none=>simp
       | some row=>exact lens t row e
      rw[List.length_take] at h1
      have h3:min i q.parts.length * 256≤4 * 256:=Nat.mul_le_mul_right _ (by omega)
      refine⟨by omega,_,Sub.refl _,some (.str t),?_,rfl⟩
      rw[e1,List.map_append]
     ·rintro τ M' ⟨o10,rfl,rfl⟩
      rw[List.length_map,List.take_length]
      simp? only[L3.rIn]
      have hTl:=gs.few
      have hdo:zcs rs (lwL rs) s.1 q=true→zll (.ref a) (.str q.name) (rowW (za9 s.1 q.parts)) (put M a (.dK (kvS rowW s.1))) fun M3=>∃ M'',L3.Sub M'' M3∧∃ (s':RT×Bool) (o5 o6 o7 o8 o9 o10':Option W),[some (W.rl (rs.map zav)),some (W.dk kvs),some (.rl hd),some (.ref a),some (.bl true),some (.str q.name),some (.tup (q.parts.map W.str)),some (.int q.cost),some lk,some (rowW (za9 s.1 q.parts)),o10]=[some (.rl (rs.map zav)),some (.dk kvs),some (.rl hd),some (.ref a),some (.bl s'.2),o5,o6,o7,o8,o9,o10']∧s'=(rs.take (j + 1)).foldl (zbX rs (lwL rs)) (T,false)∧M''=put M a (.dK (kvS rowW s'.1))∧zdr rs (lwL rs) W5 s'.1:=fun hb=>by
       have e2:zbX rs (lwL rs) s q=(aput s.1 q.name (za9 s.1 q.parts),true):=by unfold zbX;rw[if_pos hb]
       refine zfB zad (by rw[List.length_map];exact zbE (by omega)) ⟨_,Sub.refl _,(aput s.1 q.name (za9 s.1 q.parts),true),_,_,_,_,_,_,rfl,by rw[es1,e2],?_,(gs.step hL g.all hqm hb).1⟩
       rw[zd2,zsS]
      refine⟨_,.inl ⟨_,Sum.inr q.name,zad,rfl,rfl⟩,?_⟩
      rw[zdl,Option.isSome_map]
      cases e:aget s.1 q.name with
      | none=>
       simp? only[Option.isSome_none]
       exact hdo (zjV hfit hlk e)
      | some old=>
       simp? only[Option.isSome_some]
       refine⟨rowW old,.inl ⟨_,Sum.inr q.name,zad,rfl,by rw[zdl,e];rfl⟩,?_⟩
       refine⟨za9 s.1 q.parts,old,.inl rfl,.inl rfl,?_⟩
       rw[zqw]
       cases hlt:zdR (za9 s.1 q.parts) old with
       | true=>
        simp? only[]
        exact hdo (by rw[zfI hfit hlk e];exact hlt)
       | false=>
        simp? only[]
        exact stay _ _ _ (by rw[zfI hfit hlk e];exact hlt)
  ·rintro τ M2 ⟨s,p5,p6,p7,p8,p9,p10,rfl,es,rfl,gs⟩
   rw[List.length_map,List.take_length] at es
   have es:s=zce rs (lwL rs) T:=es
   obtain⟨_,sl⟩:=zfC (cs:=zbp W5 256) (N:=256) hL g.all hc hN (qs:=rs) (s:=(T,false)) (fun _ h=>h) gT
   have sl:zce rs (lwL rs) T=(T,false)∨(zce rs (lwL rs) T).2=true∧left (zak rs) (zbp W5 256) (zce rs (lwL rs) T).1 < left (zak rs) (zbp W5 256) T:=sl
   rw[←es] at sl
   refine⟨2 * left (zak rs) (zbp W5 256) s.1 + (if s.2=true then 1 else 0),_,?_,Sub.refl _,k + 1,s.1,s.2,_,_,_,_,_,_,rfl,rfl,gs,?_,fun hs2=>?_,rfl⟩
   ·rcases sl with z | ⟨z1,z2⟩
    ·rw[z];simp
    ·rw[z1];simp;omega
   ·show s.1=(zce rs (lwL rs) (zct rs (lwL rs) k)).1
    rw[←eT,←es]
   ·rcases sl with z | ⟨z1,_⟩
    ·have e2:s.1=T:=by rw[z]
     rw[e2,←es,e2]
    ·rw[hs2] at z1;cases z1
end Rg
namespace Rg
open PySem PySem.Spec PyProof.Rows L2 L3
def zqz(xs:List (Str×List Str)):PyData:=.list (xs.map fun x=>.tuple [.str x.1,.list (x.2.map PyData.str)])
theorem zhv{M:Mm}:∀ ts:List Str,zfJ M (ts.map W.str) (ts.map PyData.str)
 | []=>.nil
 | t :: ts=>.cons (.str t) (zhv ts)
theorem zn5{M:Mm}{p:Addr}{as:List (Str×Addr×List Str)}(hp:M p=some (.lst (as.map fun x=>.tup [.str x.1,.ref x.2.1])))(h:∀ x∈as,M x.2.1=some (.lst (x.2.2.map W.str))):Snap M (.ref p) (zqz (as.map fun x=>(x.1,x.2.2))):=by
 refine .ref hp ?_
 rw[List.map_map]
 clear hp
 induction as with
 | nil=>exact .nil
 | cons x as ih=>
  exact .cons (.tup (.cons (.str _) (.cons (.ref (h x List.mem_cons_self) (zhv _)) .nil))) (ih fun y hy=>h y (List.mem_cons_of_mem _ hy))
theorem zqA{M:Mm}(xs:List (Str×List Str)):Snap M (.rl (xs.map fun x=>.tup [.str x.1,rowW x.2])) (zqz xs):=by
 refine .rl ?_
 induction xs with
 | nil=>exact .nil
 | cons x as ih=>exact .cons (.tup (.cons (.str _) (.cons (.rl (zhv _)) .nil))) ih
theorem zn6:∀ {ts:List Str},(∀ t∈ts,sOk t)→PyData.canLayAll0 (ts.map PyData.str)=true∧PyData.depthAll (ts.map PyData.str)≤0
 | [],_=>⟨rfl,by simp[PyData.depthAll]⟩
 | t :: ts,h=>by
  obtain⟨h1,h2⟩:=zn6 fun x hx=>h x (List.mem_cons_of_mem _ hx)
  have h0:PyData.strOk t=true:=h t List.mem_cons_self
  refine⟨by simp[PyData.canLayAll0,PyData.canLay0,h0];simpa using h1,?_⟩
  simp only[List.map_cons,PyData.depthAll,PyData.depth]
  omega
theorem zn7{xs:List (Str×List Str)}(h:∀ x∈xs,sOk x.1∧∀ w∈x.2,sOk w):Flt (zqz xs):=by
 have all:∀ {xs:List (Str×List Str)},(∀ x∈xs,sOk x.1∧∀ w∈x.2,sOk w)→PyData.canLayAll0 (xs.map fun x=>.tuple [.str x.1,.list (x.2.map PyData.str)])=true∧PyData.depthAll (xs.map fun x=>.tuple [.str x.1,.list (x.2.map PyData.str)])≤10:=by
  intro xs
  induction xs with
  | nil=>intro _;exact⟨rfl,by simp[PyData.depthAll]⟩
  | cons x xs ih=>
   intro h
   obtain⟨h1,h2⟩:=ih fun y hy=>h y (List.mem_cons_of_mem _ hy)
   obtain⟨g1,g2⟩:=zn6 (h x List.mem_cons_self).2
   have g0:PyData.strOk x.1=true:=(h x List.mem_cons_self).1
   refine⟨?_,?_⟩
   ·rw[List.map_cons]
    simp only[PyData.canLayAll0,PyData.canLay0,g0,g1,Bool.true_and,Bool.and_true]
    exact h1
   ·rw[List.map_cons]
    simp only[PyData.depthAll,PyData.depth]
    omega
 obtain⟨h1,h2⟩:=all h
 refine⟨?_,?_⟩
 ·show PyData.canLay0 (.list _)=true
  simp only[PyData.canLay0];exact h1
 ·show PyData.depth (.list _)≤60
  simp only[PyData.depth];omega
theorem zqB{neg:Bool}{x y:W}{M:Mm}{R:K3}{d:PyData}(hx:Snap M x d)(hy:Snap M y d)(hf:Flt d)(hk:rEqD neg x y M R→rEq neg x y M R)(r:R (.bl (!neg)) M):rEq neg x y M R:=by
 refine hk ⟨d,d,hx,hy,hf,hf,?_⟩
 rw[SeqAt.eqv_refl d hf.1]
 cases neg <;> exact r
end Rg
namespace Rg
open PySem PySem.Spec PyProof.Rows L2 L3
theorem zqC{p:Addr}{ws:List W}{M:Mm}{R:K3}(h:M p=some (.lst ws))(r:R (.bl true) M):rIsi [.ref p,.ty "list"] M R:=⟨"list",true,.inl ⟨rfl,_,h⟩,by decide,r⟩
theorem zoP(rs:List Rule)(T:RT):((zak rs).filter fun X=>(aget T X).isSome).map (fun X=>W.tup [.str X,((aget T X).map rowW).getD .non])=(zbk rs T).map fun x=>.tup [.str x.1,rowW x.2]:=by
 unfold zbk
 generalize zak rs=ns
 induction ns with
 | nil=>rfl
 | cons X ns ih=>
  rw[List.filter_cons,List.filterMap_cons]
  cases e:aget T X with
  | none=>simp only[Option.isSome_none,Bool.false_eq_true,if_false,Option.map_none];exact ih
  | some row=>simp only[Option.isSome_some,if_true,Option.map_some,List.map_cons,e,Option.getD_some];rw[ih]
theorem zqD{rs:List Rule}(g:G39 rs):∀ w∈rs.map zav,Pl 2 w:=fun w hw=>by
 obtain⟨q,hq,rfl⟩:=List.mem_map.mp hw
 obtain⟨h1,h2⟩:=g.ok hq
 intro z hz
 simp only[List.mem_cons,List.not_mem_nil,or_false] at hz
 rcases hz with rfl | rfl | rfl
 ·exact h1
 ·intro y hy
  obtain⟨t,ht,rfl⟩:=List.mem_map.mp hy
  exact h2 t ht
 ·trivial
theorem zsd{ws:List W}{M:Mm}{R:K3}(h:zqq ws M R):zlY (zax R) (zaP zuZ ws) M:=by
 obtain⟨zs,rfl,hz,_,r⟩:=h
 show zlY (zax R) [some (.sc (zs.map W.int)),none,none,none,none,none,none,none,none,none] M
 obtain⟨sc,hsc⟩:∃ w:W,w=.sc (zs.map W.int):=⟨_,rfl⟩
 rw[←hsc]
 simp? only[zlY,znU]
 refine⟨zs,by rw[hsc],fun d n M1 dk _ _ _=>?_⟩
 refine⟨d,n,rfl,dk,fun rs a M2 g hpos hMa=>.inl ⟨_,hMa,?_⟩⟩
 generalize del M2 a=M3
 have hf:=g.few
 obtain⟨gw,hgw⟩:∃ w:W,w=.rl (rs.map zav):=⟨_,rfl⟩
 rw[←hgw]
 simp? only[znV]
 refine⟨rs,by rw[hgw];rfl,g,fun T hT gT=>NewK.frz ?_⟩
 rw[zsc]
 simp? only[znW]
 intro p hp
 rw[hgw]
 simp? only[znX]
 obtain⟨P,hP⟩:∃ P:Str→Bool,P=fun X=>(aget T X).isSome:=⟨_,rfl⟩
 have lk:∀ X:Str,(zam (kvS rowW T) (Sum.inr X:Key)).isSome=P X:=fun X=>by rw[zdl,Option.isSome_map,hP]
 refine for3 (fun i τ M'=>∃ (os:List Str) (o4 o5 o6:Option W),τ=[some sc,some (.rl (rs.map zav)),some (.dk (kvS rowW T)),some (.ref p),o4,o5,o6,none,none,none]∧M'=put M3 p (.lst (os.map W.str))∧os=((rs.take i).map Rule.name).foldl (zfa P) []∧os.length≤i) ⟨[],_,_,_,rfl,rfl,rfl,Nat.le_refl _⟩ (fun _ _ _ _ _=>trivial) ?_ ?_
 ·rintro i w τ M' hw ⟨os,o4,o5,o6,rfl,rfl,hos,hol⟩
  rw[List.getElem?_map] at hw
  obtain⟨q,hq,rfl⟩:=Option.map_eq_some_iff.mp hw
  have hi:=(List.getElem?_eq_some_iff.mp hq).1
  have e1:((rs.take (i + 1)).map Rule.name).foldl (zfa P) []=zfa P os q.name:=by
   rw[zaL hq,List.map_append,List.foldl_append,←hos];rfl
  simp? only[zlV,zav,L3.rIn]
  refine⟨_,⟨Sum.inr q.name,rfl,rfl⟩,?_⟩
  rw[lk]
  cases hPq:P q.name with
  | false=>
   simp? only[]
   exact⟨_,Sub.refl _,os,_,_,_,rfl,rfl,by rw[e1];unfold zfa;rw[hPq,if_neg (by simp)],by omega⟩
  | true=>
   simp? only[zkn,zdT,zby]
   refine .inl ?_
   by_cases hm:q.name∈os
   ·rw[if_neg (by simpa using hm)]
    exact⟨_,Sub.refl _,os,_,_,_,rfl,rfl,by rw[e1];unfold zfa;rw[if_neg (fun z=>z.2 hm)],by omega⟩
   ·rw[if_pos (by simpa using hm)]
    refine⟨by rw[List.length_map];omega,_,Sub.refl _,os ++ [q.name],_,_,_,rfl,by rw[List.map_append];rfl,by rw[e1];unfold zfa;rw[if_pos ⟨hPq,hm⟩],by rw[List.length_append];simp;omega⟩
 ·rintro τ M' ⟨os,o4,o5,o6,rfl,rfl,hos,hol⟩
  rw[List.length_map] at hol hos
  rw[List.take_length] at hos
  have hos:os=(zak rs).filter P:=by rw[hos];exact znT P (rs.map Rule.name) []
  simp? only[znY]
  obtain⟨gw,hgw⟩:∃ w:W,w=.rl (rs.map zav):=⟨_,rfl⟩
  rw[←hgw]
  have gok:∀ x∈zbk rs T,sOk x.1∧∀ w∈x.2,sOk w:=fun x hx=>by
   unfold zbk at hx
   obtain⟨X,hX,e⟩:=List.mem_filterMap.mp hx
   obtain⟨row,hr,rfl⟩:=Option.map_eq_some_iff.mp e
   obtain⟨q,hq,rfl⟩:=zbN.mp hX
   have w5:∀ t∈W5,sOk t:=by unfold W5 sOk;decide +kernel
   exact⟨(g.ok hq).1,fun w hw=>w5 w (gT.wrd _ _ hr w hw)⟩
  have dueC:∀ {keep:Mm→Prop} {o:Option W} {M1:Mm} {R:K3},(∀ M,L3.Sub M1 M→keep M)→R (.rl ((zbk rs T).map fun x=>.tup [.str x.1,rowW x.2])) M1→zgA (os.map W.str) keep (zaw 0) zc5 (vTup (zac (vVar 0) (zac (vOp rIx (vVar 1) (vVar 0)) aNil))) [o,some (.dk (kvS rowW T))] M1 fun w M'=>frz w M' R:=by
   intro keep o M1 R hk r
   refine map1 (rest:=[some (.dk (kvS rowW T))]) (fun w=>match w with | .str X=>.tup [.str X,((aget T X).map rowW).getD .non] | _=>.non) (zd5 (by rw[List.length_map];omega)) hk (fun w hw M' C sb h1=>?_) (New.frz ?_)
   ·obtain⟨X,hX,rfl⟩:=List.mem_map.mp hw
    rw[hos] at hX
    have hPX:=(List.mem_filter.mp hX).2
    rw[hP] at hPX
    obtain⟨row,e⟩:=Option.isSome_iff_exists.mp hPX
    simp? only[]
    refine⟨rowW row,⟨Sum.inr X,rfl,by rw[zdl,e];rfl⟩,?_⟩
    simp only[e,Option.map_some,Option.getD_some] at h1
    exact h1
   ·rw[List.map_map]
    have:((fun w=>match w with | .str X=>W.tup [.str X,((aget T X).map rowW).getD .non] | _=>.non) ∘ W.str)=fun X=>W.tup [.str X,((aget T X).map rowW).getD .non]:=by funext X;rfl
    rw[this,hos,hP,zoP];exact r
  simp? only[znZ]
  refine⟨rs,by rw[hgw];rfl,g,fun q M5 T' as hT' gT' hq hsub hMq has hall=>?_⟩
  have hTT:T'=T:=hT'.alike hT
  rw[hTT] at has
  have hqp:q≠p:=fun e=>by rw[e,zad] at hq;cases hq
  have hMp5:M5 p=some (.lst (os.map W.str)):=hsub _ _ zad
  simp? only[zn0]
  refine zqC hMq ?_
  simp? only[]
  rw[hgw]
  refine zpD 3 (by decide) (zqD g) (zqD g) fun b hb=>?_
  have hb:b=true:=hb.mpr rfl
  subst hb
  rw[←hgw]
  simp? only[zn1]
  refine⟨_,hMp5,?_⟩
  refine dueC (fun M sb=>sb _ _ hMp5) ?_
  have sn:Snap M5 (.ref q) (zqz (zbk rs T)):=by rw[←has];exact zn5 hMq fun x hx=>(hall x hx).2.2
  refine zqB (neg:=true) sn (zqA _) (zn7 gok) (fun h=>h) ?_
  simp? only[zn2]
  refine⟨_,hMq,?_⟩
  refine for3 (fun i τ M'=>∃ (o9:Option W),τ=[some sc,some gw,some (.dk (kvS rowW T)),some (.ref p),o4,o5,o6,some gw,some (.ref q),o9]∧M' p=some (.lst (os.map W.str))∧M' q=some (.lst (as.map fun x=>.tup [.str x.1,.ref x.2.1]))∧∀ x∈as,∃ ws,M' x.2.1=some (.lst ws)∧ws.length≤1000 + i) ⟨_,rfl,hMp5,hMq,fun x hx=>⟨_,(hall x hx).2.2,?_⟩⟩ (fun i τ M' _ h=>by obtain⟨_,_,_,h,_⟩:=h;exact h) ?_ ?_
  ·have hx2:(x.1,x.2.2)∈zbk rs T:=by rw[←has];exact List.mem_map.mpr ⟨x,hx,rfl⟩
   unfold zbk at hx2
   obtain⟨X,hX,e⟩:=List.mem_filterMap.mp hx2
   obtain⟨row,hr,e2⟩:=Option.map_eq_some_iff.mp e
   have:x.2.2=row:=by cases e2;rfl
   have hl:=zm5 g (gT.len X row hr)
   rw[List.length_map,this]
   omega
  ·rintro i w τ M' hw ⟨o9,rfl,m1,m2,m3⟩
   rw[List.getElem?_map] at hw
   obtain⟨x,hx,rfl⟩:=Option.map_eq_some_iff.mp hw
   have hxm:=List.mem_of_getElem? hx
   obtain⟨wsx,mx,lx⟩:=m3 x hxm
   have hi:=(List.getElem?_eq_some_iff.mp hx).1
   have hal:as.length≤1000:=by
    have:=congrArg List.length has
    rw[List.length_map] at this
    have h2:(zbk rs T).length≤(zak rs).length:=by unfold zbk;exact List.length_filterMap_le ..
    have h3:=za8 rs
    omega
   have hxp:x.2.1≠p:=fun e=>by
    have:=(hall x hxm).1
    rw[e,zad] at this;cases this
   simp? only[zlW]
   refine zqC mx ?_
   simp? only[]
   refine⟨⟨_,mx⟩,_,mx,by omega,_,Sub.refl _,_,rfl,by rw[zaf (Ne.symm hxp)];exact m1,by rw[zaf (Ne.symm (hall x hxm).2.1)];exact m2,fun y hy=>?_⟩
   by_cases hyx:y.2.1=x.2.1
   ·rw[hyx,zad]
    exact⟨_,rfl,by rw[List.length_append];simp;omega⟩
   ·rw[zaf hyx]
    obtain⟨wsy,my,ly⟩:=m3 y hy
    exact⟨wsy,my,by omega⟩
  ·rintro τ M' ⟨o9,rfl,m1,m2,m3⟩
   simp? only[zn3]
   refine⟨⟨_,m2⟩,_,m2,?_,?_⟩
   ·rw[List.length_map]
    have:=congrArg List.length has
    rw[List.length_map] at this
    have h2:(zbk rs T).length≤(zak rs).length:=by unfold zbk;exact List.length_filterMap_le ..
    have h3:=za8 rs
    omega
   ·simp? only[zlX]
    refine⟨rs,by rw[hgw];rfl,g,fun q2 M7 T2 as2 hT2 gT2 hq2 hsub2 hMq2 has2 hall2=>?_⟩
    have hTT2:T2=T:=hT2.alike hT
    rw[hTT2] at has2
    have hMp7:M7 p=some (.lst (os.map W.str)):=hsub2 _ _ (by rw[zaf (Ne.symm hqp)];exact m1)
    refine⟨_,hMp7,?_⟩
    refine dueC (fun M sb=>sb _ _ hMp7) ?_
    have sn2:Snap M7 (.ref q2) (zqz (zbk rs T)):=by rw[←has2];exact zn5 hMq2 fun x hx=>(hall2 x hx).2.2
    refine zqB (neg:=false) sn2 (zqA _) (zn7 gok) (fun h=>h) ?_
    exact⟨_,Sub.refl _,r _⟩
end Rg
namespace L3
open PySem PySem.Spec PyProof.Rows L2
section
variable {X:Cx}{pos:Pos}{a b:Expr}{ta tb te:TE3}
theorem w_nm{i:Nat}{x:Str}(hN:X.N.Nodup)(hi:X.N[i]? = some x:=by rfl)(hx:Loc X.env.scope x:=by first | exact Or.inl rfl | exact Or.inr rfl)(hf:X.fn x=true∨X.env.scope.names.lookup x=some .local:=by first | exact .inl rfl | exact .inr rfl | assumption):PG X (.Name x pos) (upG X.K (zaw i)):=zsG hN hi hx hf
theorem w_nc{i:Nat}{x:Str}(hi:X.N[i]? = some x:=by rfl)(hx:Loc X.env.scope x:=by first | exact Or.inl rfl | exact Or.inr rfl)(hN:X.N.Nodup:=by exact of_decide_eq_true (by kernel_rfl))(hf:X.fn x=true∨X.env.scope.names.lookup x=some .local:=by first | exact .inl rfl | exact .inr rfl | assumption):PG X (.Name x pos) (upG X.K (zaw i)):=zsG hN hi hx hf
theorem s_st{i:Nat}{x:Str}{e:Expr}{pos':Pos}(hN:X.N.Nodup)(he:E3 X e te)(hi:X.N[i]? = some x:=by rfl)(hx:Loc X.env.scope x:=by first | exact Or.inl rfl | exact Or.inr rfl)(hs:swapsWith e (some (.Name x pos')) pos.line X.env=pure false:=by rfl)(hf:X.fn x=true∨X.env.scope.names.lookup x=some .local:=by first | exact .inl rfl | exact .inr rfl | assumption) :
  P3 X (.Assign [.Name x pos'] e pos) (vSet i te):=zxJ hN hi hx he hs hf
theorem v_cm{op:CmpOp}{r:R3}(ho:OpR X (compareOp op) (upO X.K r))(ha:E3 X a ta)(hb:E3 X b tb)(hm:behindInMarks op b=false:=by first | exact zss _ | with_unfolding_all rfl):E3 X (.Compare a [op] [b] pos) (vOp r ta tb):=zxx ho ha hb hm
theorem t_cm{op:CmpOp}{r:R3}(ho:OpR X (compareOp op) (upO X.K r))(ha:E3 X a ta)(hb:E3 X b tb)(hm:behindInMarks op b=false:=by first | exact zss _ | with_unfolding_all rfl):T3 X (.Compare a [op] [b] pos) (za2 (vOp r ta tb)):=zxy ho ha hb hm
variable {tg iter elt:Expr}{ifs:List Expr}{sc:Scope}{wi:TI3}{g:TG3}{tt:TT3}
theorem zxS{i:Nat}{x:Str}{px spos:Pos}(hN:X.N.Nodup)(N':List Str)(js:List (Option Nat))(hi:PI X tg iter (upI X.K wi))
  (hg:∀ B,PG (cxB X sc N' B) tg (upG X.K g)) (ht:∀ B,PIfs (cxB X sc N' B) ifs (upT X.K tt)) (he:∀ B,PE (cxB X sc N' B) elt (up X.K te)) (hi0:X.N[i]? = some x:=by rfl) (hx:Loc X.env.scope x:=by first | exact Or.inl rfl | exact Or.inr rfl)
  (S0:zf5 N' sc X.env.scope=true:=by kernel_rfl) (hj:jsOk N' X.N sc js N'=true:=by kernel_rfl) (hc:X.calm=true:=by rfl) (hsw:swapsWith (.ListComp elt [⟨tg,iter,ifs,0⟩] sc pos) (some (.Name x px)) spos.line X.env=pure true:=by rfl)
  (hf:X.fn x=true∨X.env.scope.names.lookup x=some .local:=by first | exact .inl rfl | exact .inr rfl | assumption)
  (hs:∀ x,foldedSetIterable iter X.env x=pure x:=by intro _;rfl):P3 X (.Assign [.Name x px] (.ListComp elt [⟨tg,iter,ifs,0⟩] sc pos) spos) (vSet i (vFrz (zcM wi g tt te js))):=zou hN hi0 hx N' js hi hg ht he S0 hj hc hsw hf hs
end
end L3
namespace L3
open PySem PySem.Spec PyProof.Rows L2
theorem scOf{N ps:List Str}{sc:Scope}(a:sc.kind=.function:=by rfl)(b:sc.isCoroutine=false:=by rfl)(c:sc.isGenerator=false:=by rfl)(d:N.Nodup:=by decide +kernel)(e:N.take ps.length=ps:=by rfl)(f:∀ x∈ps,sc.names.lookup x=some .local∨sc.names.lookup x=some .cell:=by decide +kernel)(g:∀ y∈sc.names,y.2≠.free:=by decide +kernel):zas N ps sc:=⟨a,b,c,d,e,f,g⟩
end L3
namespace L2
open PySem PySem.Spec PyProof.Rows
theorem fnMk{K:PySem.W.Frag}{x qual:Str}{st:Stmt}{f:Addr}{an:Option Addr}{kV doc pm cdv ct:Value}(l:K.lookup f=some ⟨.type "function",none,.func (PySem.W.fnOf x qual (zeU st) (zao st) (zab st) .none kV doc pm an cdv ct),#[]⟩:=by kernel_rfl)
  (c:PySem.W.codeIn K cdv qual=true:=by kernel_rfl) (k:PySem.W.keepIn K (.ref f)=true:=by kernel_rfl):Fun K x qual st f (PySem.W.fnOf x qual (zeU st) (zao st) (zab st) .none kV doc pm an cdv ct):=zvM l c k
end L2
namespace Rg
open PySem PySem.Spec PyProof.Rows L2 L3
noncomputable def top(i:Nat):Stmt:=PySem.Challenge.pw_readgrove_k39_shortest_rows.main.body.getD i (.Pass ⟨0,0,0,0⟩)
noncomputable abbrev zgk:Stmt:=top 1
noncomputable abbrev zgl:Stmt:=top 3
noncomputable abbrev za6:Stmt:=zdH (top 5) 0
noncomputable abbrev zaI:Stmt:=zdH (top 5) 1
noncomputable abbrev zbt:Stmt:=zdH (top 5) 2
noncomputable abbrev zaB:Stmt:=zdH (top 5) 3
noncomputable abbrev za7:Stmt:=zdH (top 5) 4
noncomputable abbrev zgm:Stmt:=top 7
noncomputable abbrev za0:Stmt:=zdH (top 8) 0
noncomputable abbrev zaR:Stmt:=zdH (top 8) 1
noncomputable abbrev zau:Stmt:=zdH (top 8) 2
noncomputable abbrev zan:Stmt:=zdH (top 8) 3
noncomputable abbrev zaJ:Stmt:=zdH (top 8) 4
noncomputable abbrev zbc:Stmt:=top 9
noncomputable abbrev zat:Stmt:=top 10
noncomputable abbrev zbu:Stmt:=top 12
noncomputable abbrev zcl:Stmt:=top 14
noncomputable abbrev zaA:Stmt:=top 15
noncomputable abbrev zbd:Stmt:=top 16
noncomputable abbrev zek:Stmt:=top 17
noncomputable abbrev zbv:Stmt:=top 18
noncomputable abbrev zaW:Stmt:=top 19
noncomputable abbrev zbO:Stmt:=top 21
noncomputable abbrev zel:Stmt:=top 22
noncomputable abbrev zdm:Stmt:=top 23
noncomputable abbrev zbP:Stmt:=top 24
noncomputable abbrev zgn:Stmt:=top 25
noncomputable abbrev zem:Stmt:=top 26
noncomputable abbrev zne:Stmt:=top 27
structure Tx(mg:Str→Option Value):Prop where
 abs_:mg "abs" = none
 all_:mg "all" = none
 any_:mg "any" = none
 dict_:mg "dict" = none
 enumerate_:mg "enumerate" = none
 isinstance_:mg "isinstance" = none
 len_:mg "len" = none
 list_:mg "list" = none
 min_:mg "min" = none
 range_:mg "range" = none
 sorted_:mg "sorted" = none
 sum_:mg "sum" = none
 tuple_:mg "tuple" = none
structure Kc(K:PySem.W.Frag)(mg:Str→Option Value)(C:Cc):Prop where
 cls_Queue:Cls K C.q
 at__Queue:mg "Queue" = some (.ref C.q)
 cls_Search:Cls K C.s
 at__Search:mg "Search" = some (.ref C.s)
 na_costs:zcd K C.q "costs"
 na_waiting:zcd K C.q "waiting"
 na_grammar:zcd K C.s "grammar"
 na_own:zcd K C.s "own"
 na_steps:zcd K C.s "steps"
 na_queue:zcd K C.s "queue"
 na_reached:zcd K C.s "reached"
 na_best:zcd K C.s "best"
 na_ends:zcd K C.s "ends"
 na_begun:zcd K C.s "begun"
structure Al(K:PySem.W.Frag)(mg:Str→Option Value)(C:Cc)(fa:Nat→Addr)(fb:Nat→FuncData):Prop where
 x0:Df K mg "names" zgk ["grammar"] (fa 0) (fb 0)
 x1:Df K mg "marks" zgl ["things"] (fa 1) (fb 1)
 x2:Di K C.q "__init__" "Queue.__init__" za6 ["self"] (fa 2) (fb 2)
 x3:Dm K C.q "is_done" "Queue.is_done" zaI ["self"] (fa 3) (fb 3)
 x4:Dm K C.q "place_of" "Queue.place_of" zaB ["self","cost"] (fa 4) (fb 4)
 x5:Dm K C.q "put" "Queue.put" zbt ["self","cost","thing"] (fa 5) (fb 5)
 x6:Dm K C.q "take" "Queue.take" za7 ["self"] (fa 6) (fb 6)
 x7:Df K mg "added" zgm ["cost","other"] (fa 7) (fb 7)
 x8:Di K C.s "__init__" "Search.__init__" za0 ["self","grammar","steps"] (fa 8) (fb 8)
 x9:Dm K C.s "reach" "Search.reach" zaR ["self","number","cut","cost"] (fa 9) (fb 9)
 x10:Dm K C.s "settle" "Search.settle" zaJ ["self","number","cut","cost"] (fa 10) (fb 10)
 x11:Dm K C.s "step_by_name" "Search.step_by_name" zan ["self","number","cut","cost","key"] (fa 11) (fb 11)
 x12:Dm K C.s "take_next" "Search.take_next" zau ["self"] (fa 12) (fb 12)
 x13:Df K mg "least_trees" zbc ["grammar","places","steps","weights"] (fa 13) (fb 13)
 x14:Df K mg "one_behind_another" zat ["lists"] (fa 14) (fb 14)
 x15:Df K mg "no_weights" zbu ["grammar"] (fa 15) (fb 15)
 x16:Df K mg "words_of" zcl ["grammar"] (fa 16) (fb 16)
 x17:Df K mg "shortest_lengths" zaA ["grammar"] (fa 17) (fb 17)
 x18:Df K mg "tight_rules" zbd ["grammar","lengths"] (fa 18) (fb 18)
 x19:Df K mg "row_by" zek ["own","rows","parts"] (fa 19) (fb 19)
 x20:Df K mg "first_rows" zbv ["grammar","lengths"] (fa 20) (fb 20)
 x21:Df K mg "shortest_rows" zaW ["grammar"] (fa 21) (fb 21)
 x22:Df K mg "_law_numbers" zbO ["script"] (fa 22) (fb 22)
 x23:Df K mg "_law_take" zel ["deck","many"] (fa 23) (fb 23)
 x24:Df K mg "_law_rules" zdm ["deck"] (fa 24) (fb 24)
 x25:Df K mg "_law_lengths" zbP ["rules"] (fa 25) (fb 25)
 x26:Df K mg "_law_fits" zem ["rules","lengths","parts","head"] (fa 26) (fb 26)
 x27:Df K mg "_law_due" zgn ["rules"] (fa 27) (fb 27)
 x28:Df K mg "law" zne ["script"] (fa 28) (fb 28)
section
theorem zn8:zas zmX ["grammar"] (zab zgk):=scOf
theorem zn9:zas zmZ ["things"] (zab zgl):=scOf
theorem zg2:zas ze3 ["self"] (zab za6):=scOf
theorem zeI:zas zdb ["self"] (zab zaI):=scOf
theorem zdZ:zas zcO ["self","cost"] (zab zaB):=scOf
theorem zhL:zas zgd ["self","cost","thing"] (zab zbt):=scOf
theorem zg3:zas ze4 ["self"] (zab za7):=scOf
theorem zoa:zas zm0 ["cost","other"] (zab zgm):=scOf
theorem zf0:zas zd9 ["self","grammar","steps"] (zab za0):=scOf
theorem zfq:zas zdL ["self","number","cut","cost"] (zab zaR):=scOf
theorem zeJ:zas zdh ["self","number","cut","cost"] (zab zaJ):=scOf
theorem zcf:zas zbs ["self","number","cut","cost","key"] (zab zan):=scOf
theorem zdn:zas zb1 ["self"] (zab zau):=scOf
theorem zf1:zas zea ["grammar","places","steps","weights"] (zab zbc):=scOf
theorem zcK:zas zbC ["lists"] (zab zat):=scOf
theorem zg4:zas zfb ["grammar"] (zab zbu):=scOf
theorem zi0:zas zho ["grammar"] (zab zcl):=scOf
theorem zdo:zas zb6 ["grammar"] (zab zaA):=scOf
theorem zf2:zas zee ["grammar","lengths"] (zab zbd):=scOf
theorem zl4:zas zks ["own","rows","parts"] (zab zek):=scOf
theorem zg5:zas zfd ["grammar","lengths"] (zab zbv):=scOf
theorem zeK:zas zdk ["grammar"] (zab zaW):=scOf
theorem zhM:zas zgh ["script"] (zab zbO):=scOf
theorem zl5:zas zkt ["deck","many"] (zab zel):=scOf
theorem zjW:zas ziQ ["deck"] (zab zdm):=scOf
theorem zhN:zas zgi ["rules"] (zab zbP):=scOf
theorem zl6:zas zku ["rules","lengths","parts","head"] (zab zem):=scOf
theorem zob:zas zm7 ["rules"] (zab zgn):=scOf
theorem zsT:zas zuZ ["script"] (zab zne):=scOf
variable {P:Program}{w:World}{K:PySem.W.Frag}{mg:Str→Option Value}{base:Heap}{C:Cc}{fa:Nat→Addr}{fb:Nat→FuncData}{f:Addr}{cdv:Value}{A:Around}{outer:List PySem.Env}{s:Shared}{H:Hp}{E:XK}(T:Tx mg)(Z:Kc K mg C)(Y:Al K mg C fa fb)
include T Z Y
seal L2.PE L2.PA L2.PS L2.PSs L2.PT L2.PG L2.PI L2.PO
theorem zse(hr:Room 0 (A.deeper (envOfC "names" (zab zgk) s.heap.objs.size f cdv))):Ps3 (cxOf CX0 P w K mg base zmX "names" (zab zgk) f cdv A outer s H E).nox (zao zgk) zgL:=by
 have nd:=zn8.nd
 have hu:=zbU hr
 exact(zae (s_st (i:=1) nd zit)
   (zae (zdI PassesOwn.never rfl (za3 (v 0)) (w_nm (i:=2) nd)
    (zah (zi9 v_bl (zja hu (v 1) (v_ix hu (v 2) zaj)))))
   (zah (zch (zfA (zsF rfl) (by rfl) T.list_ zj9 (zaa (v 1) zag))))))
theorem zg6:FnOk P w K mg base CX0 1 (fa 0) (fb 0) ["grammar"] (upSp K zdv):=ok3 Y.x0.fn zn8 zqd fun _ _ _ _ _ _ _ _ _ hr h=>⟨zgL,zse T Z Y hr,zoG h⟩
theorem zsf(hr:Room 0 (A.deeper (envOfC "marks" (zab zgl) s.heap.objs.size f cdv))):Ps3 (cxOf CX0 P w K mg base zmZ "marks" (zab zgl) f cdv A outer s H E).nox (zao zgl) zgO:=by
 have nd:=zn9.nd
 have hu:=zbU hr
 exact(zah (zch (zfA (zuJ rfl) (by rfl) T.dict_ zmA (zaa (zbT (zbV ["thing"] [none] (za3 (v 0)) (fun B=>(w_nc (i:=0))) (fun B=>zc6) (fun B=>(zcb (zaa (v 0) (zaa v_bl zag)))))) zag))))
theorem zif:FnOk P w K mg base CX0 1 (fa 1) (fb 1) ["things"] (upSp K zd8):=ok3 Y.x1.fn zn9 zqh fun _ _ _ _ _ _ _ _ _ hr h=>⟨zgO,zsf T Z Y hr,zoH h⟩
theorem zkD(hr:Room 0 (A.deeper (envOfC "Queue.__init__" (zab za6) s.heap.objs.size f cdv))):Ps3 (cxOf CX0 P w K mg base ze3 "Queue.__init__" (zab za6) f cdv A outer s H E).nox (zao za6) (zbZ C):=by
 have nd:=zg2.nd
 have hu:=zbU hr
 exact(zae (zjd Z.cls_Queue Z.na_costs (v 0) (zhR zag))
   (zah (zjd Z.cls_Queue Z.na_waiting (v 0) ziu)))
theorem zkE:FnOk P w K mg base CX0 1 (fa 2) (fb 2) ["self"] (upSp K (zcT C)):=ok3 Y.x2.fn zg2 zje fun _ _ _ _ _ _ _ _ _ hr h=>⟨(zbZ C),zkD T Z Y hr,ziH h⟩
theorem zhX(hr:Room 0 (A.deeper (envOfC "Queue.is_done" (zab zaI) s.heap.objs.size f cdv))):Ps3 (cxOf CX0 P w K mg base zdb "Queue.is_done" (zab zaI) f cdv A outer s H E).nox (zao zaI) (zbg C):=by
 have nd:=zeI.nd
 have hu:=zbU hr
 exact(zah (zch (v_cm (o_eq hr.units) (zaD zfK (by rfl) T.len_ zcR (zaa (zbY Z.cls_Queue Z.na_costs (v 0)) zag)) zaj)))
theorem zhY:FnOk P w K mg base CX0 1 (fa 3) (fb 3) ["self"] (upSp K (zbJ C)):=ok3 Y.x3.fn zeI zhi fun _ _ _ _ _ _ _ _ _ hr h=>⟨(zbg C),zhX T Z Y hr,zgK h⟩
theorem zhw(hr:Room 0 (A.deeper (envOfC "Queue.place_of" (zab zaB) s.heap.objs.size f cdv))):Ps3 (cxOf CX0 P w K mg base zcO "Queue.place_of" (zab zaB) f cdv A outer s H E).nox (zao zaB) (za4 C):=by
 have nd:=zdZ.nd
 have hu:=zbU hr
 exact(zae (s_st (i:=2) nd zaj)
   (zae (s_st (i:=3) nd (zaD zfK (by rfl) T.len_ zcR (zaa (zbY Z.cls_Queue Z.na_costs (v 0)) zag)))
   (zae (zj5 PassesOwn.never (t_cm o_lt (v 2) (v 3))
    (zae (s_st (i:=4) nd (v_op zsE (v_op zbW (v 2) (v 3)) zaj))
   (zah (s_if (t_cm (zxP hu) (v_ix hu (zbY Z.cls_Queue Z.na_costs (v 0)) (v 4)) (v 1))
    (zah (s_st (i:=2) nd (v_op zbW (v 4) zaj)))
    (zah (s_st (i:=3) nd (v 4)))))))
   (zah (zch (v 2))))))
theorem zhx:FnOk P w K mg base CX0 1 (fa 4) (fb 4) ["self","cost"] (upSp K (zbA C)):=ok3 Y.x4.fn zdZ zgJ fun _ _ _ _ _ _ _ _ _ hr h=>⟨(za4 C),zhw T Z Y hr,zge h⟩
theorem zl7(hr:Room 1 (A.deeper (envOfC "Queue.put" (zab zbt) s.heap.objs.size f cdv))):Ps3 (cxOf CX0 P w K mg base zgd "Queue.put" (zab zbt) f cdv A outer s H E).nox (zao zbt) (zcw C):=by
 have nd:=zhL.nd
 have hu:=zbU hr
 exact(zae (s_if (t_cm (zc3 hu) (v 1) (zbY Z.cls_Queue Z.na_waiting (v 0)))
    (zae (zi9 (zhR zag) (zja hu (zbY Z.cls_Queue Z.na_waiting (v 0)) (v 1)))
   (zah (zbm (v_bm F.plainAttrs_list F.slot_list_insert F.type_list_insert zr1 (zbY Z.cls_Queue Z.na_costs (v 0)) (zaa (zhD Z.cls_Queue Y.x4.me (zhx T Z Y) (hr.mono (by decide)) Y.x4.bi (v 0) (zaa (v 1) zag)) (zaa (v 1) zag))))))
    zbD)
   (zah (zbm (v_bm F.plainAttrs_list F.slot_list_append F.type_list_append zcm (v_ix hu (zbY Z.cls_Queue Z.na_waiting (v 0)) (v 1)) (zaa (v 2) zag)))))
theorem zl8:FnOk P w K mg base CX0 2 (fa 5) (fb 5) ["self","cost","thing"] (upSp K (zcv C)):=ok3 Y.x5.fn zhL zkm fun _ _ _ _ _ _ _ _ _ hr h=>⟨(zcw C),zl7 T Z Y hr,zjg h⟩
theorem zkF(hr:Room 0 (A.deeper (envOfC "Queue.take" (zab za7) s.heap.objs.size f cdv))):Ps3 (cxOf CX0 P w K mg base ze4 "Queue.take" (zab za7) f cdv A outer s H E).nox (zao za7) (zb0 C):=by
 have nd:=zg3.nd
 have hu:=zbU hr
 exact(zae (s_st (i:=1) nd (v_ix hu (zbY Z.cls_Queue Z.na_costs (v 0)) (v_un zlh zaj)))
   (zae (s_st (i:=2) nd (v_ix hu (zbY Z.cls_Queue Z.na_waiting (v 0)) (v 1)))
   (zae (s_st (i:=3) nd (zrm F.plainAttrs_list F.slot_list_pop F.type_list_pop ztG (v 2)))
   (zae (s_if (t_cm (o_eq hr.units) (zaD zfK (by rfl) T.len_ zcR (zaa (v 2) zag)) zaj)
    (zae (zbm (zrm F.plainAttrs_list F.slot_list_pop F.type_list_pop ztG (zbY Z.cls_Queue Z.na_costs (v 0))))
   (zah (zbm (v_bm F.plainAttrs_dict F.slot_dict_pop F.type_dict_pop (zwN hu) (zbY Z.cls_Queue Z.na_waiting (v 0)) (zaa (v 1) zag)))))
    zbD)
   (zah (zch (zcb (zaa (v 1) (zaa (v 3) zag)))))))))
theorem zkG:FnOk P w K mg base CX0 1 (fa 6) (fb 6) ["self"] (upSp K (zcU C)):=ok3 Y.x6.fn zg3 zjf fun _ _ _ _ _ _ _ _ _ hr h=>⟨(zb0 C),zkF T Z Y hr,ziI h⟩
theorem zsg(hr:Room 0 (A.deeper (envOfC "added" (zab zgm) s.heap.objs.size f cdv))):Ps3 (cxOf CX0 P w K mg base zm0 "added" (zab zgm) f cdv A outer s H E).nox (zao zgm) zgP:=by
 have nd:=zoa.nd
 have hu:=zbU hr
 exact(zah (zch (zcb (zaa (v_op zbW (v_ix hu (v 0) zaj) (v_ix hu (v 1) zaj)) (zaa (v_op zbW (v_ix hu (v 0) zaj) (v_ix hu (v 1) zaj)) zag)))))
theorem zoc:FnOk P w K mg base CX0 1 (fa 7) (fb 7) ["cost","other"] (upSp K zgN):=ok3 Y.x7.fn zoa zqi fun _ _ _ _ _ _ _ _ _ hr h=>⟨zgP,zsg T Z Y hr,zoI h⟩
theorem zjl(hr:Room 2 (A.deeper (envOfC "Search.__init__" (zab za0) s.heap.objs.size f cdv))):Ps3 (cxOf CX0 P w K mg base zd9 "Search.__init__" (zab za0) f cdv A outer s H E).nox (zao za0) (zbF C):=by
 have nd:=zf0.nd
 have hu:=zbU hr
 exact(zae (zjd Z.cls_Search Z.na_grammar (v 0) (v 1))
   (zae (zjd Z.cls_Search Z.na_own (v 0) (zaE (zif T Z Y) (hr.mono (by decide)) (by rfl) Y.x1.at_ Y.x1.fn.kp Y.x1.bi (zaa (zbT (zaE (zg6 T Z Y) (hr.mono (by decide)) (by rfl) Y.x0.at_ Y.x0.fn.kp Y.x0.bi (zaa (v 1) zag))) zag)))
   (zae (zjd Z.cls_Search Z.na_steps (v 0) (v 2))
   (zae (zjd Z.cls_Search Z.na_queue (v 0) (zuK Y.x2.mak (zkE T Z Y) (hr.mono (by decide)) (by rfl) Z.at__Queue Y.x2.bi))
   (zae (zjd Z.cls_Search Z.na_reached (v 0) ziu)
   (zae (zjd Z.cls_Search Z.na_best (v 0) ziu)
   (zae (zjd Z.cls_Search Z.na_ends (v 0) ziu)
   (zah (zjd Z.cls_Search Z.na_begun (v 0) ziu)))))))))
theorem zjm:FnOk P w K mg base CX0 3 (fa 8) (fb 8) ["self","grammar","steps"] (upSp K (zcn C)):=ok3 Y.x8.fn zf0 ziM fun _ _ _ _ _ _ _ _ _ hr h=>⟨(zbF C),zjl T Z Y hr,zhU h⟩
theorem zi1(hr:Room 2 (A.deeper (envOfC "Search.reach" (zab zaR) s.heap.objs.size f cdv))):Ps3 (cxOf CX0 P w K mg base zdL "Search.reach" (zab zaR) f cdv A outer s H E).nox (zao zaR) (zbr C):=by
 have nd:=zfq.nd
 have hu:=zbU hr
 exact(zae (s_st (i:=4) nd (zcb (zaa (v 1) (zaa (zaD zfK (by rfl) T.len_ zcR (zaa (v 2) zag)) (zaa (v_ix hu (v 2) zaj) (zaa (v_ix hu (v 2) (v_un zlh zaj)) zag))))))
   (zah (s_if (PW.pt (t_or (t_cm (zc3 hu) (v 4) (zbY Z.cls_Search Z.na_reached (v 0))) (zpv (t_cm (zwQ hu) (v 3) (v_ix hu (zbY Z.cls_Search Z.na_reached (v 0)) (v 4))))))
    (zae (zi9 (v 3) (zja hu (zbY Z.cls_Search Z.na_reached (v 0)) (v 4)))
   (zah (zbm (zhD Z.cls_Queue Y.x5.me (zl8 T Z Y) (hr.mono (by decide)) Y.x5.bi (zbY Z.cls_Search Z.na_queue (v 0)) (zaa (v 3) (zaa (zcb (zaa (v 1) (zaa (v 2) zag))) zag))))))
    zbD)))
theorem zb8:FnOk P w K mg base CX0 3 (fa 9) (fb 9) ["self","number","cut","cost"] (upSp K (zaT C)):=ok3 Y.x9.fn zfq zhT fun _ _ _ _ _ _ _ _ _ hr h=>⟨(zbr C),zi1 T Z Y hr,zhm h⟩
theorem zhZ(hr:Room 3 (A.deeper (envOfC "Search.settle" (zab zaJ) s.heap.objs.size f cdv))):Ps3 (cxOf CX0 P w K mg base zdh "Search.settle" (zab zaJ) f cdv A outer s H E).nox (zao zaJ) (zbh C):=by
 have nd:=zeJ.nd
 have hu:=zbU hr
 exact(zae (s_st (i:=4) nd (zcb (zaa (v_ix hu (v_ix hu (zbY Z.cls_Search Z.na_grammar (v 0)) (v 1)) zaj) (zaa (v_ix hu (v 2) zaj) zag))))
   (zae (s_st (i:=5) nd (v_op zbW (v 4) (zcb (zaa (v_ix hu (v 2) (v_un zlh zaj)) zag))))
   (zae (s_if (t_cm (o_in hu) (v 5) (zbY Z.cls_Search Z.na_best (v 0)))
    (zah zsH)
    zbD)
   (zae (zi9 (zcb (zaa (v 3) (zaa (v 1) (zaa (v 2) zag)))) (zja hu (zbY Z.cls_Search Z.na_best (v 0)) (v 5)))
   (zae (zbm (v_bm F.plainAttrs_list F.slot_list_append F.type_list_append zcm (v_bm F.plainAttrs_dict F.slot_dict_setdefault F.type_dict_setdefault (znL hu) (zbY Z.cls_Search Z.na_ends (v 0)) (zaa (v 4) (zaa (zhR zag) zag))) (zaa (zcb (zaa (v_ix hu (v 2) (v_un zlh zaj)) (zaa (v 3) zag))) zag)))
   (zah (zdI PassesOwn.never rfl (zot (v_bm F.plainAttrs_dict F.slot_dict_get F.type_dict_get (zlH hu) (zbY Z.cls_Search Z.na_begun (v 0)) (zaa (v 4) (zaa (zcr zag) zag)))) (zlk rfl (zbR (w_nm (i:=6) nd) (zbR (w_nm (i:=7) nd) (zbR (w_nm (i:=8) nd) zlj))))
    (zah (zbm (zhD Z.cls_Search Y.x9.me (zb8 T Z Y) (hr.mono (by decide)) Y.x9.bi (v 0) (zaa (v 6) (zaa (v_op zbW (v 7) (zcb (zaa (v_ix hu (v 2) (v_un zlh zaj)) zag))) (zaa (zaE (zoc T Z Y) (hr.mono (by decide)) (by rfl) Y.x7.at_ Y.x7.fn.kp Y.x7.bi (zaa (v 8) (zaa (v 3) zag))) zag)))))))))))))
theorem zh0:FnOk P w K mg base CX0 4 (fa 10) (fb 10) ["self","number","cut","cost"] (upSp K (zbK C)):=ok3 Y.x10.fn zeJ zhl fun _ _ _ _ _ _ _ _ _ hr h=>⟨(zbh C),zhZ T Z Y hr,zgQ h⟩
theorem zeQ(hr:Room 3 (A.deeper (envOfC "Search.step_by_name" (zab zan) s.heap.objs.size f cdv))):Ps3 (cxOf CX0 P w K mg base zbs "Search.step_by_name" (zab zan) f cdv A outer s H E).nox (zao zan) (zaC C):=by
 have nd:=zcf.nd
 have hu:=zbU hr
 exact(zae (zbm (v_bm F.plainAttrs_list F.slot_list_append F.type_list_append zcm (v_bm F.plainAttrs_dict F.slot_dict_setdefault F.type_dict_setdefault (znL hu) (zbY Z.cls_Search Z.na_begun (v 0)) (zaa (v 4) (zaa (zhR zag) zag))) (zaa (zcb (zaa (v 1) (zaa (v 2) (zaa (v 3) zag)))) zag)))
   (zah (zdI PassesOwn.never rfl (zot (v_bm F.plainAttrs_dict F.slot_dict_get F.type_dict_get (zlH hu) (zbY Z.cls_Search Z.na_ends (v 0)) (zaa (v 4) (zaa (zcr zag) zag)))) (zlk rfl (zbR (w_nm (i:=5) nd) (zbR (w_nm (i:=6) nd) zlj)))
    (zah (zbm (zhD Z.cls_Search Y.x9.me (zb8 T Z Y) (hr.mono (by decide)) Y.x9.bi (v 0) (zaa (v 1) (zaa (v_op zbW (v 2) (zcb (zaa (v 5) zag))) (zaa (zaE (zoc T Z Y) (hr.mono (by decide)) (by rfl) Y.x7.at_ Y.x7.fn.kp Y.x7.bi (zaa (v 3) (zaa (v 6) zag))) zag)))))))))
theorem zeR:FnOk P w K mg base CX0 4 (fa 11) (fb 11) ["self","number","cut","cost","key"] (upSp K (zaX C)):=ok3 Y.x11.fn zcf zeb fun _ _ _ _ _ _ _ _ _ hr h=>⟨(zaC C),zeQ T Z Y hr,zdW h⟩
theorem zgo(hr:Room 4 (A.deeper (envOfC "Search.take_next" (zab zau) s.heap.objs.size f cdv))):Ps3 (cxOf CX0 P w K mg base zb1 "Search.take_next" (zab zau) f cdv A outer s H E).nox (zao zau) (zaU C):=by
 have nd:=zdn.nd
 have hu:=zbU hr
 exact(zae (s_st (i:=1) nd (zmV Z.cls_Queue Y.x6.me (zkG T Z Y) (hr.mono (by decide)) Y.x6.bi (zbY Z.cls_Search Z.na_queue (v 0))))
   (zae (s_st (i:=2) nd (v_ix hu (v 1) zaj))
   (zae (s_st (i:=3) nd (v_ix hu (v_ix hu (v 1) zaj) zaj))
   (zae (s_st (i:=4) nd (v_ix hu (v_ix hu (v 1) zaj) zaj))
   (zae (s_if (t_cm (zwQ hu) (v_ix hu (zbY Z.cls_Search Z.na_reached (v 0)) (zcb (zaa (v 3) (zaa (zaD zfK (by rfl) T.len_ zcR (zaa (v 4) zag)) (zaa (v_ix hu (v 4) zaj) (zaa (v_ix hu (v 4) (v_un zlh zaj)) zag)))))) (v 2))
    (zah zsH)
    zbD)
   (zae (s_st (i:=5) nd (v_ix hu (v_ix hu (zbY Z.cls_Search Z.na_grammar (v 0)) (v 3)) zaj))
   (zah (s_if (t_cm o_gt (zaD zfK (by rfl) T.len_ zcR (zaa (v 4) zag)) (zaD zfK (by rfl) T.len_ zcR (zaa (v 5) zag)))
    (zah (zbm (zhD Z.cls_Search Y.x10.me (zh0 T Z Y) (hr.mono (by decide)) Y.x10.bi (v 0) (zaa (v 3) (zaa (v 4) (zaa (v 2) zag))))))
    (zah (s_if (t_cm (o_in hu) (v_ix hu (v 5) (v_op zrn (zaD zfK (by rfl) T.len_ zcR (zaa (v 4) zag)) zaj)) (zbY Z.cls_Search Z.na_own (v 0)))
    (zah (zbm (zhD Z.cls_Search Y.x11.me (zeR T Z Y) (hr.mono (by decide)) Y.x11.bi (v 0) (zaa (v 3) (zaa (v 4) (zaa (v 2) (zaa (zcb (zaa (v_ix hu (v 5) (v_op zrn (zaD zfK (by rfl) T.len_ zcR (zaa (v 4) zag)) zaj)) (zaa (v_ix hu (v 4) (v_un zlh zaj)) zag))) zag)))))))
    (zah (zdI PassesOwn.never rfl (zot (v_bm F.plainAttrs_dict F.slot_dict_get F.type_dict_get (zlH hu) (zbY Z.cls_Search Z.na_steps (v 0)) (zaa (zcb (zaa (v_ix hu (v 5) (v_op zrn (zaD zfK (by rfl) T.len_ zcR (zaa (v 4) zag)) zaj)) (zaa (v_ix hu (v 4) (v_un zlh zaj)) zag))) (zaa (zcr zag) zag)))) (zlk rfl (zbR (w_nm (i:=6) nd) (zbR (w_nm (i:=7) nd) zlj)))
    (zah (zbm (zhD Z.cls_Search Y.x9.me (zb8 T Z Y) (hr.mono (by decide)) Y.x9.bi (v 0) (zaa (v 3) (zaa (v_op zbW (v 4) (zcb (zaa (v 6) zag))) (zaa (zcb (zaa (v_op zbW (v_ix hu (v 2) zaj) (v 7)) (zaa (v_ix hu (v 2) zaj) zag))) zag))))))))))))))))))
theorem zgp:FnOk P w K mg base CX0 5 (fa 12) (fb 12) ["self"] (upSp K (zba C)):=ok3 Y.x12.fn zdn zfL fun _ _ _ _ _ _ _ _ _ hr h=>⟨(zaU C),zgo T Z Y hr,ze9 h⟩
theorem zjn(hr:Room 5 (A.deeper (envOfC "least_trees" (zab zbc) s.heap.objs.size f cdv))):Ps3 (cxOf CX0 P w K mg base zea "least_trees" (zab zbc) f cdv A outer s H E).nox (zao zbc) (zbG C):=by
 have nd:=zf1.nd
 have hu:=zbU hr
 exact(zae (s_st (i:=4) nd (zwK Y.x8.mak (zjm T Z Y) (hr.mono (by decide)) (by rfl) Z.at__Search Y.x8.bi (zaa (v 0) (zaa (v 2) zag))))
   (zae (zdI PassesOwn.never rfl (zgz (by rfl) T.range_ (zaa (zaD zfK (by rfl) T.len_ zcR (zaa (v 0) zag)) zag)) (w_nm (i:=5) nd)
    (zah (zdI PassesOwn.never rfl (za3 (v 1)) (w_nm (i:=6) nd)
    (zah (zbm (zhD Z.cls_Search Y.x9.me (zb8 T Z Y) (hr.mono (by decide)) Y.x9.bi (v 4) (zaa (v 5) (zaa (zcb (zaa (v 6) zag)) (zaa (zcb (zaa (v_ix hu (v 3) (v 5)) (zaa zaj zag))) zag)))))))))
   (zae (zj5 PassesOwn.never (zrk (zi8 (zmV Z.cls_Queue Y.x3.me (zhY T Z Y) (hr.mono (by decide)) Y.x3.bi (zbY Z.cls_Search Z.na_queue (v 4)))))
    (zah (zbm (zmV Z.cls_Search Y.x12.me (zgp T Z Y) (hr.mono (by decide)) Y.x12.bi (v 4)))))
   (zah (zch (zbY Z.cls_Search Z.na_best (v 4)))))))
theorem zjo:FnOk P w K mg base CX0 6 (fa 13) (fb 13) ["grammar","places","steps","weights"] (upSp K (zco C)):=ok3 Y.x13.fn zf1 ziN fun _ _ _ _ _ _ _ _ _ hr h=>⟨(zbG C),zjn T Z Y hr,zhV h⟩
theorem zfr(hr:Room 0 (A.deeper (envOfC "one_behind_another" (zab zat) s.heap.objs.size f cdv))):Ps3 (cxOf CX0 P w K mg base zbC "one_behind_another" (zab zat) f cdv A outer s H E).nox (zao zat) zaH:=by
 have nd:=zcK.nd
 have hu:=zbU hr
 exact(zae (s_st (i:=1) nd (zhR zag))
   (zae (zdI PassesOwn.never rfl (za3 (v 0)) (w_nm (i:=2) nd)
    (zah (zbm (v_bm F.plainAttrs_list F.slot_list_extend F.type_list_extend zrq (v 1) (zaa (v 2) zag)))))
   (zah (zch (v 1)))))
theorem zfs:FnOk P w K mg base CX0 1 (fa 14) (fb 14) ["lists"] (upSp K zaZ):=ok3 Y.x14.fn zcK zeP fun _ _ _ _ _ _ _ _ _ hr h=>⟨zaH,zfr T Z Y hr,zei h⟩
theorem zkH(hr:Room 0 (A.deeper (envOfC "no_weights" (zab zbu) s.heap.objs.size f cdv))):Ps3 (cxOf CX0 P w K mg base zfb "no_weights" (zab zbu) f cdv A outer s H E).nox (zao zbu) zb5:=by
 have nd:=zg4.nd
 have hu:=zbU hr
 exact(zah (zch (zbV ["rule"] [none] (za3 (v 0)) (fun B=>(w_nc (i:=0))) (fun B=>zc6) (fun B=>zaj))))
theorem zkI:FnOk P w K mg base CX0 1 (fa 15) (fb 15) ["grammar"] (upSp K zcV):=ok3 Y.x15.fn zg4 zjh fun _ _ _ _ _ _ _ _ _ hr h=>⟨zb5,zkH T Z Y hr,ziW h⟩
theorem znf(hr:Room 1 (A.deeper (envOfC "words_of" (zab zcl) s.heap.objs.size f cdv))):Ps3 (cxOf CX0 P w K mg base zho "words_of" (zab zcl) f cdv A outer s H E).nox (zao zcl) zdj:=by
 have nd:=zi0.nd
 have hu:=zbU hr
 exact(zae (s_st (i:=1) nd (zaE (zif T Z Y) (hr.mono (by decide)) (by rfl) Y.x1.at_ Y.x1.fn.kp Y.x1.bi (zaa (zbT (zaE (zg6 T Z Y) (hr.mono (by decide)) (by rfl) Y.x0.at_ Y.x0.fn.kp Y.x0.bi (zaa (v 0) zag))) zag)))
   (zae (s_st (i:=2) nd zit)
   (zae (zdI PassesOwn.never rfl (za3 (v 0)) (w_nm (i:=3) nd)
    (zah (zdI PassesOwn.never rfl (za3 (v_ix hu (v 3) zaj)) (w_nm (i:=4) nd)
    (zah (s_if (t_cm (zc3 hu) (v 4) (v 1))
    (zah (zi9 v_bl (zja hu (v 2) (v 4))))
    zbD)))))
   (zah (zch (zaD (zrO rfl) (by rfl) T.sorted_ zpF (zaa (zbT (v 2)) zag)))))))
theorem zng:FnOk P w K mg base CX0 2 (fa 16) (fb 16) ["grammar"] (upSp K zed):=ok3 Y.x16.fn zi0 zlZ fun _ _ _ _ _ _ _ _ _ hr h=>⟨zdj,znf T Z Y hr,zkx h⟩
theorem zgq(hr:Room 6 (A.deeper (envOfC "shortest_lengths" (zab zaA) s.heap.objs.size f cdv))):Ps3 (cxOf CX0 P w K mg base zb6 "shortest_lengths" (zab zaA) f cdv A outer s H E).nox (zao zaA) (zaV C):=by
 have nd:=zdo.nd
 have hu:=zbU hr
 exact(zae (s_st (i:=1) nd (zbT (zfA (zuY rfl (zwP hr)) (by rfl) T.dict_ zmA (zaa (zbT (zbV ["word"] [none] (za3 (zaE (zng T Z Y) (hr.mono (by decide)) (by rfl) Y.x16.at_ Y.x16.fn.kp Y.x16.bi (zaa (v 0) zag))) (fun B=>(w_nc (i:=0))) (fun B=>zc6) (fun B=>(zcb (zaa (zcb (zaa (v 0) (zaa zaj zag))) (zaa (zcr (zaa (zcb (zaa zaj (zaa zaj zag))) zag)) zag)))))) zag))))
   (zae (s_st (i:=2) nd (zwV (zaE (zjo T Z Y) (hr.mono (by decide)) (by rfl) Y.x13.at_ Y.x13.fn.kp Y.x13.bi (zaa (v 0) (zaa (zcr (zaa zaj zag)) (zaa (v 1) (zaa (zbT (zaE (zkI T Z Y) (hr.mono (by decide)) (by rfl) Y.x15.at_ Y.x15.fn.kp Y.x15.bi (zaa (v 0) zag))) zag)))))))
   (zah (zch (zfA (zwJ rfl) (by rfl) T.dict_ zmA (zaa (zbT (zbV ["fact","best"] [none,some 2] (zwW (v 2)) (fun B=>(w_nc (i:=0))) (fun B=>zc6) (fun B=>(zcb (zaa (v_ix hu (v 0) zaj) (zaa (v_ix hu (v_ix hu (v_ix hu (v 1) (v 0)) zaj) zaj) zag)))))) zag))))))
theorem zgr:FnOk P w K mg base CX0 7 (fa 17) (fb 17) ["grammar"] (upSp K zbb):=ok3 Y.x17.fn zdo zfM fun _ _ _ _ _ _ _ _ _ hr h=>⟨(zaV C),zgq T Z Y hr,zfp h⟩
theorem zjp(hr:Room 1 (A.deeper (envOfC "tight_rules" (zab zbd) s.heap.objs.size f cdv))):Ps3 (cxOf CX0 P w K mg base zee "tight_rules" (zab zbd) f cdv A outer s H E).nox (zao zbd) zbH:=by
 have nd:=zf2.nd
 have hu:=zbU hr
 exact(zae (s_st (i:=2) nd (zaE (zif T Z Y) (hr.mono (by decide)) (by rfl) Y.x1.at_ Y.x1.fn.kp Y.x1.bi (zaa (zbT (zaE (zg6 T Z Y) (hr.mono (by decide)) (by rfl) Y.x0.at_ Y.x0.fn.kp Y.x0.bi (zaa (v 0) zag))) zag)))
   (zae (s_st (i:=3) nd (zhR zag))
   (zae (zdI PassesOwn.never rfl (za3 (v 0)) (w_nm (i:=4) nd)
    (zah (s_if (zi8 (zaD (zxI rfl) (by rfl) T.all_ zv4 (zaa (zbT (zbV ["part","own","lengths"] [none,some 2,some 1] (za3 (v_ix hu (v 4) zaj)) (fun B=>(w_nc (i:=0))) (fun B=>(zlm (t_cm (o_in hu) (v 0) (v 1)))) (fun B=>(v_cm (o_in hu) (v 0) (v 2))))) zag)))
    (zah (s_if (t_cm (o_eq hr.units) (zaD (zux rfl) (by rfl) T.sum_ zpE (zaa (zbT (zbV ["part","lengths"] [none,some 1] (za3 (v_ix hu (v 4) zaj)) (fun B=>(w_nc (i:=0))) (fun B=>zc6) (fun B=>(v_bm F.plainAttrs_dict F.slot_dict_get F.type_dict_get (zlH hu) (v 1) (zaa (v 0) (zaa zaj zag)))))) zag)) (v_ix hu (v 1) (v_ix hu (v 4) zaj)))
    (zah (zbm (v_bm F.plainAttrs_list F.slot_list_append F.type_list_append zcm (v 3) (zaa (v 4) zag))))
    zbD))
    zbD)))
   (zah (zch (v 3))))))
theorem zjq:FnOk P w K mg base CX0 2 (fa 18) (fb 18) ["grammar","lengths"] (upSp K zcp):=ok3 Y.x18.fn zf2 ziV fun _ _ _ _ _ _ _ _ _ hr h=>⟨zbH,zjp T Z Y hr,zhW h⟩
theorem zqE(hr:Room 1 (A.deeper (envOfC "row_by" (zab zek) s.heap.objs.size f cdv))):Ps3 (cxOf CX0 P w K mg base zks "row_by" (zab zek) f cdv A outer s H E).nox (zao zek) zfc:=by
 have nd:=zl4.nd
 have hu:=zbU hr
 exact(zae (s_if (zi8 (zaD (zxO rfl) (by rfl) T.any_ zv5 (zaa (zbT (zbV ["part","own","rows"] [none,some 0,some 1] (za3 (v 2)) (fun B=>(w_nc (i:=0))) (fun B=>zc6) (fun B=>(zxB (v_cm (o_in hu) (v 0) (v 1)) (zxA (v_cm (zc3 hu) (v 0) (v 2))))))) zag)))
    (zah (zch zvO))
    zbD)
   (zah (zch (zaE (zfs T Z Y) (hr.mono (by decide)) (by rfl) Y.x14.at_ Y.x14.fn.kp Y.x14.bi (zaa (zbT (zbV ["part","own","rows"] [none,some 0,some 1] (za3 (v 2)) (fun B=>(w_nc (i:=0))) (fun B=>zc6) (fun B=>(v_if (t_cm (o_in hu) (v 0) (v 1)) (v_ix hu (v 2) (v 0)) (zcr (zaa (v 0) zag)))))) zag)))))
theorem zqF:FnOk P w K mg base CX0 2 (fa 19) (fb 19) ["own","rows","parts"] (upSp K zgT):=ok3 Y.x19.fn zl4 zoK fun _ _ _ _ _ _ _ _ _ hr h=>⟨zfc,zqE T Z Y hr,zna h⟩
theorem zkJ(hr:Room 2 (A.deeper (envOfC "first_rows" (zab zbv) s.heap.objs.size f cdv))):Ps3 (cxOf CX0 P w K mg base zfd "first_rows" (zab zbv) f cdv A outer s H E).nox (zao zbv) zb7:=by
 have nd:=zg5.nd
 have hu:=zbU hr
 exact(zae (s_st (i:=2) nd (zaE (zif T Z Y) (hr.mono (by decide)) (by rfl) Y.x1.at_ Y.x1.fn.kp Y.x1.bi (zaa (zbT (zaE (zg6 T Z Y) (hr.mono (by decide)) (by rfl) Y.x0.at_ Y.x0.fn.kp Y.x0.bi (zaa (v 0) zag))) zag)))
   (zae (s_st (i:=3) nd (zbT (zaE (zjq T Z Y) (hr.mono (by decide)) (by rfl) Y.x18.at_ Y.x18.fn.kp Y.x18.bi (zaa (v 0) (zaa (v 1) zag)))))
   (zae (s_st (i:=4) nd zit)
   (zae (s_st (i:=5) nd v_bl)
   (zae (zj5 PassesOwn.never (zi8 (v 5))
    (zae (s_st (i:=5) nd v_bl)
   (zah (zdI PassesOwn.never rfl (za3 (v 3)) (w_nm (i:=6) nd)
    (zae (s_st (i:=7) nd (zaE (zqF T Z Y) (hr.mono (by decide)) (by rfl) Y.x19.at_ Y.x19.fn.kp Y.x19.bi (zaa (v 2) (zaa (v 4) (zaa (v_ix hu (v 6) zaj) zag)))))
   (zah (s_if (PW.pt (zj3 (t_cm ztB (v 7) zvO) (zhB (PW.pt (t_or (t_cm (zc3 hu) (v_ix hu (v 6) zaj) (v 4)) (zpv (t_cm (zwX hu) (v 7) (v_ix hu (v 4) (v_ix hu (v 6) zaj)))))))))
    (zae (zi9 (v 7) (zja hu (v 4) (v_ix hu (v 6) zaj)))
   (zah (s_st (i:=5) nd v_bl)))
    zbD)))))))
   (zah (zch (v 4))))))))
theorem zkK:FnOk P w K mg base CX0 3 (fa 20) (fb 20) ["grammar","lengths"] (upSp K zcW):=ok3 Y.x20.fn zg5 zji fun _ _ _ _ _ _ _ _ _ hr h=>⟨zb7,zkJ T Z Y hr,ziY h⟩
theorem zh1(hr:Room 7 (A.deeper (envOfC "shortest_rows" (zab zaW) s.heap.objs.size f cdv))):Ps3 (cxOf CX0 P w K mg base zdk "shortest_rows" (zab zaW) f cdv A outer s H E).nox (zao zaW) zbj:=by
 have nd:=zeK.nd
 have hu:=zbU hr
 exact(zae (s_st (i:=1) nd (zaE (zkK T Z Y) (hr.mono (by decide)) (by rfl) Y.x20.at_ Y.x20.fn.kp Y.x20.bi (zaa (v 0) (zaa (zbT (zaE (zgr T Z Y) (hr.mono (by decide)) (by rfl) Y.x17.at_ Y.x17.fn.kp Y.x17.bi (zaa (v 0) zag))) zag))))
   (zah (zch (zbV ["name","rows"] [none,some 1] (za3 (zbT (zaE (zg6 T Z Y) (hr.mono (by decide)) (by rfl) Y.x0.at_ Y.x0.fn.kp Y.x0.bi (zaa (v 0) zag)))) (fun B=>(w_nc (i:=0))) (fun B=>(zlm (t_cm (o_in hu) (v 0) (v 1)))) (fun B=>(zcb (zaa (v 0) (zaa (v_ix hu (v 1) (v 0)) zag))))))))
theorem zeL:FnOk P w K mg base CX0 8 (fa 21) (fb 21) ["grammar"] (upSp K zbi):=ok3 Y.x21.fn zeK zhp fun _ _ _ _ _ _ _ _ _ hr h=>⟨zbj,zh1 T Z Y hr,zg1 h⟩
theorem zl9(hr:Room 0 (A.deeper (envOfC "_law_numbers" (zab zbO) s.heap.objs.size f cdv))):Ps3 (cxOf CX0 P w K mg base zgh "_law_numbers" (zab zbO) f cdv A outer s H E).nox (zao zbO) zcI:=by
 have nd:=zhM.nd
 have hu:=zbU hr
 exact(zae (s_st (i:=1) nd (zhR zag))
   (zae (zdI PassesOwn.never rfl (ziy (by rfl) T.enumerate_ (zaa (zj7 (v 0) zpy (zpz zaj)) zag)) (zlk rfl (zbR (w_nm (i:=2) nd) (zbR (w_nm (i:=3) nd) zlj)))
    (zae (s_st (i:=4) nd (zaD zxN (by rfl) T.abs_ zv7 (zaa (v 3) zag)))
   (zae (s_if (t_cm o_lt (v 4) (v_op zxD zaj zaj))
    (zah (zdI PassesOwn.never rfl (zgz (by rfl) T.range_ (zaa zaj zag)) (w_nm (i:=5) nd)
    (zae (s_st (i:=6) nd (v_op zro (v_op zbW (v_op zbW (v_op zbW (v 4) (v_op znB zaj (v 2))) (v 5)) zaj) zaj))
   (zae (s_st (i:=6) nd (v_op zro (v_op znB (v 6) (v 6)) zaj))
   (zah (s_st (i:=4) nd (v_op zbW (v_op znB (v 4) zaj) (v_op zro (v_op znB (v 6) zaj) zaj))))))))
    zbD)
   (zah (zbm (v_bm F.plainAttrs_list F.slot_list_append F.type_list_append zcm (v 1) (zaa (v 4) zag)))))))
   (zae (zbm (zrm F.plainAttrs_list F.slot_list_reverse F.type_list_reverse zpI (v 1)))
   (zah (zch (zhR (zaa (v 1) (zaa zaj zag))))))))
theorem zma:FnOk P w K mg base CX0 1 (fa 22) (fb 22) ["script"] (upSp K zdE):=ok3 Y.x22.fn zhM zkv fun _ _ _ _ _ _ _ _ _ hr h=>⟨zcI,zl9 T Z Y hr,zjj h⟩
theorem zqG(hr:Room 0 (A.deeper (envOfC "_law_take" (zab zel) s.heap.objs.size f cdv))):Ps3 (cxOf CX0 P w K mg base zkt "_law_take" (zab zel) f cdv A outer s H E).nox (zao zel) zfl:=by
 have nd:=zl5.nd
 have hu:=zbU hr
 exact(zae (s_if (PW.pt (zj3 (t_cm (o_eq hr.units) (v_ix hu (v 0) zaj) zaj) (zhB (t_cm (o_ne hr.units) (v_ix hu (v 0) zaj) (zcr zag)))))
    (zah (zi9 (zrm F.plainAttrs_list F.slot_list_pop F.type_list_pop ztG (v_ix hu (v 0) zaj)) (zja hu (v 0) zaj)))
    zbD)
   (zae (s_st (i:=2) nd (v_op zro (v_ix hu (v 0) zaj) (v 1)))
   (zae (zi9 (v_op zsE (v_ix hu (v 0) zaj) (v 1)) (zja hu (v 0) zaj))
   (zah (zch (v 2))))))
theorem zb9:FnOk P w K mg base CX0 1 (fa 23) (fb 23) ["deck","many"] (upSp K za5):=ok3 Y.x23.fn zl5 zoL fun _ _ _ _ _ _ _ _ _ hr h=>⟨zfl,zqG T Z Y hr,zm9 h⟩
theorem zoQ(hr:Room 1 (A.deeper (envOfC "_law_rules" (zab zdm) s.heap.objs.size f cdv))):Ps3 (cxOf CX0 P w K mg base ziQ "_law_rules" (zab zdm) f cdv A outer s H E).nox (zao zdm) zdY:=by
 have nd:=zjW.nd
 have hu:=zbU hr
 exact(zae (s_st (i:=1) nd (zj7 (zcr (zaa zi7 (zaa zi7 (zaa zi7 (zaa zi7 zag))))) zpy (zpz (v_op zbW zaj (zaE (zb9 T Z Y) (hr.mono (by decide)) (by rfl) Y.x23.at_ Y.x23.fn.kp Y.x23.bi (zaa (v 0) (zaa zaj zag)))))))
   (zae (s_st (i:=2) nd (v_op zbW (zcr (zaa (v_ix hu (v 1) zaj) zag)) (zbT (zbV ["k","some","deck"] [none,some 1,some 0] (zgz (by rfl) T.range_ (zaa (zaE (zb9 T Z Y) (hr.mono (by decide)) (by rfl) Y.x23.at_ Y.x23.fn.kp Y.x23.bi (zaa (v 0) (zaa zaj zag))) zag)) (fun B=>(w_nc (i:=0))) (fun B=>zc6) (fun B=>(v_ix hu (v 1) (zaE (zb9 T Z Y) (hr.mono (by decide)) (by rfl) Y.x23.at_ Y.x23.fn.kp Y.x23.bi (zaa (v 2) (zaa (zaD zfK (by rfl) T.len_ zcR (zaa (v 1) zag)) zag)))))))))
   (zae (s_st (i:=3) nd (v_cm (o_eq hr.units) (zaE (zb9 T Z Y) (hr.mono (by decide)) (by rfl) Y.x23.at_ Y.x23.fn.kp Y.x23.bi (zaa (v 0) (zaa zaj zag))) zaj))
   (zae (s_st (i:=4) nd (zhR zag))
   (zae (zdI PassesOwn.never rfl (ziy (by rfl) T.enumerate_ (zaa (v 2) zag)) (zlk rfl (zbR (w_nm (i:=5) nd) (zbR (w_nm (i:=6) nd) zlj)))
    (zae (s_st (i:=7) nd (zhR zag))
   (zae (zdI PassesOwn.never rfl (zgz (by rfl) T.range_ (zaa (zaE (zb9 T Z Y) (hr.mono (by decide)) (by rfl) Y.x23.at_ Y.x23.fn.kp Y.x23.bi (zaa (v 0) (zaa (v_ix hu (zcr (zaa zaj (zaa zaj (zaa zaj (zaa zaj zag))))) (v_op zrn (zaD zfK (by rfl) T.len_ zcR (zaa (v 1) zag)) zaj)) zag))) zag)) (w_nm (i:=8) nd)
    (zae (s_st (i:=9) nd (v_ix hu (zcr (zaa zi7 (zaa zi7 (zaa zi7 (zaa zi7 (zaa zi7 zag)))))) (zaE (zb9 T Z Y) (hr.mono (by decide)) (by rfl) Y.x23.at_ Y.x23.fn.kp Y.x23.bi (zaa (v 0) (zaa zaj zag)))))
   (zah (zbm (v_bm F.plainAttrs_list F.slot_list_append F.type_list_append zcm (v 7) (zaa (v_ix hu (zcr (zaa (v 9) (zaa (v_ix hu (v 2) (zaE (zb9 T Z Y) (hr.mono (by decide)) (by rfl) Y.x23.at_ Y.x23.fn.kp Y.x23.bi (zaa (v 0) (zaa (zaD zfK (by rfl) T.len_ zcR (zaa (v 2) zag)) zag)))) zag))) (zaE (zb9 T Z Y) (hr.mono (by decide)) (by rfl) Y.x23.at_ Y.x23.fn.kp Y.x23.bi (zaa (v 0) (zaa zaj zag)))) zag))))))
   (zae (s_if (PW.pt (zj3 (zi8 (v 3)) (zj3 (t_cm (zc3 hu) (v 6) (zj7 (v 2) zpy (zpz (v 5)))) (zhB (t_cm o_lt (v_op zbW (v 5) zaj) (zaD zfK (by rfl) T.len_ zcR (zaa (v 2) zag)))))))
    (zah (s_st (i:=7) nd (zhR (zaa (v_ix hu (v 2) (v_op zbW (v 5) zaj)) zag))))
    zbD)
   (zah (zbm (v_bm F.plainAttrs_list F.slot_list_append F.type_list_append zcm (v 4) (zaa (zcb (zaa (v 6) (zaa (zfA ztF (by rfl) T.tuple_ znD (zaa (v 7) zag)) (zaa (zaE (zb9 T Z Y) (hr.mono (by decide)) (by rfl) Y.x23.at_ Y.x23.fn.kp Y.x23.bi (zaa (v 0) (zaa zaj zag))) zag)))) zag))))))))
   (zah (zch (v 4))))))))
theorem zoR:FnOk P w K mg base CX0 2 (fa 24) (fb 24) ["deck"] (upSp K zfH):=ok3 Y.x24.fn zjW zm8 fun _ _ _ _ _ _ _ _ _ hr h=>⟨zdY,zoQ T Z Y hr,zl0 h⟩
theorem zmb(hr:Room 0 (A.deeper (envOfC "_law_lengths" (zab zbP) s.heap.objs.size f cdv))):Ps3 (cxOf CX0 P w K mg base zgi "_law_lengths" (zab zbP) f cdv A outer s H E).nox (zao zbP) zcJ:=by
 have nd:=zhN.nd
 have hu:=zbU hr
 exact(zae (s_st (i:=1) nd zit)
   (zae (s_st (i:=2) nd (zbT (zbV ["rule"] [none] (za3 (v 0)) (fun B=>(w_nc (i:=0))) (fun B=>zc6) (fun B=>(v_ix hu (v 0) zaj)))))
   (zae (zdI PassesOwn.never rfl (zgz (by rfl) T.range_ (zaa (v_op zbW (zaD zfK (by rfl) T.len_ zcR (zaa (v 0) zag)) zaj) zag)) (w_nm (i:=3) nd)
    (zah (zdI PassesOwn.never rfl (zot (v 0)) (zlk rfl (zbR (w_nm (i:=4) nd) (zbR (w_nm (i:=5) nd) (zbR (w_nm (i:=6) nd) zlj))))
    (zah (s_if (t_cm (o_eq hr.units) (zbT (zbV ["part","heads","lengths"] [none,some 2,some 1] (za3 (v 5)) (fun B=>(w_nc (i:=0))) (fun B=>(zlm (PW.pt (zj3 (t_cm (o_in hu) (v 0) (v 1)) (zhB (t_cm (zc3 hu) (v 0) (v 2))))))) (fun B=>(v 0)))) (zcr zag))
    (zae (s_st (i:=7) nd (zaD (zux rfl) (by rfl) T.sum_ zpE (zaa (zbT (zbV ["part","lengths"] [none,some 1] (za3 (v 5)) (fun B=>(w_nc (i:=0))) (fun B=>zc6) (fun B=>(v_bm F.plainAttrs_dict F.slot_dict_get F.type_dict_get (zlH hu) (v 1) (zaa (v 0) (zaa zaj zag)))))) zag)))
   (zah (zi9 (zaD (zxH rfl) (by rfl) T.min_ zv6 (zaa (v 7) (zaa (v_bm F.plainAttrs_dict F.slot_dict_get F.type_dict_get (zlH hu) (v 1) (zaa (v 4) (zaa (v 7) zag))) zag))) (zja hu (v 1) (v 4)))))
    zbD)))))
   (zah (zch (v 1))))))
theorem zmc:FnOk P w K mg base CX0 1 (fa 25) (fb 25) ["rules"] (upSp K zdF):=ok3 Y.x25.fn zhN zkw fun _ _ _ _ _ _ _ _ _ hr h=>⟨zcJ,zmb T Z Y hr,zjk h⟩
theorem zqH(hr:Room 0 (A.deeper (envOfC "_law_fits" (zab zem) s.heap.objs.size f cdv))):Ps3 (cxOf CX0 P w K mg base zku "_law_fits" (zab zem) f cdv A outer s H E).nox (zao zem) zfn:=by
 have nd:=zl6.nd
 have hu:=zbU hr
 exact(zae (s_st (i:=4) nd (zbT (zbV ["rule"] [none] (za3 (v 0)) (fun B=>(w_nc (i:=0))) (fun B=>zc6) (fun B=>(v_ix hu (v 0) zaj)))))
   (zae (s_if (t_cm (o_ne hr.units) (zbT (zbV ["part","heads","lengths"] [none,some 4,some 1] (za3 (v 2)) (fun B=>(w_nc (i:=0))) (fun B=>(zlm (PW.pt (zj3 (t_cm (o_in hu) (v 0) (v 1)) (zhB (t_cm (zc3 hu) (v 0) (v 2))))))) (fun B=>(v 0)))) (zcr zag))
    (zah (zch v_bl))
    zbD)
   (zah (zch (v_cm (o_eq hr.units) (zaD (zux rfl) (by rfl) T.sum_ zpE (zaa (zbT (zbV ["part","lengths"] [none,some 1] (za3 (v 2)) (fun B=>(w_nc (i:=0))) (fun B=>zc6) (fun B=>(v_bm F.plainAttrs_dict F.slot_dict_get F.type_dict_get (zlH hu) (v 1) (zaa (v 0) (zaa zaj zag)))))) zag)) (v_ix hu (v 1) (v 3)))))))
theorem zqI:FnOk P w K mg base CX0 1 (fa 26) (fb 26) ["rules","lengths","parts","head"] (upSp K zgU):=ok3 Y.x26.fn zl6 zoM fun _ _ _ _ _ _ _ _ _ hr h=>⟨zfn,zqH T Z Y hr,znd h⟩
theorem zsh(hr:Room 1 (A.deeper (envOfC "_law_due" (zab zgn) s.heap.objs.size f cdv))):Ps3 (cxOf CX0 P w K mg base zm7 "_law_due" (zab zgn) f cdv A outer s H E).nox (zao zgn) zg0:=by
 have nd:=zob.nd
 have hu:=zbU hr
 exact(zae (s_st (i:=1) nd (zbT (zaE (zmc T Z Y) (hr.mono (by decide)) (by rfl) Y.x25.at_ Y.x25.fn.kp Y.x25.bi (zaa (v 0) zag))))
   (zae (s_st (i:=2) nd (zbT (zbV ["rule"] [none] (za3 (v 0)) (fun B=>(w_nc (i:=0))) (fun B=>zc6) (fun B=>(v_ix hu (v 0) zaj)))))
   (zae (s_st (i:=3) nd zit)
   (zae (s_st (i:=4) nd v_bl)
   (zae (zj5 PassesOwn.never (zi8 (v 4))
    (zae (s_st (i:=4) nd v_bl)
   (zah (zdI PassesOwn.never rfl (zot (v 0)) (zlk rfl (zbR (w_nm (i:=5) nd) (zbR (w_nm (i:=6) nd) (zbR (w_nm (i:=7) nd) zlj))))
    (zae (zxS (i:=8) nd ["part","heads","rows"] [none,some 2,some 3] (za3 (v 6)) (fun B=>(w_nc (i:=0))) (fun B=>(zlm (PW.pt (zj3 (t_cm (o_in hu) (v 0) (v 1)) (zhB (t_cm (zc3 hu) (v 0) (v 2))))))) (fun B=>(v 0)))
   (zah (s_if (PW.pt (zj3 (t_cm (o_eq hr.units) (v 8) (zcr zag)) (zhB (zi8 (zaE (zqI T Z Y) (hr.mono (by decide)) (by rfl) Y.x26.at_ Y.x26.fn.kp Y.x26.bi (zaa (v 0) (zaa (v 1) (zaa (v 6) (zaa (v 5) zag)))))))))
    (zae (s_st (i:=9) nd (zcr zag))
   (zae (zdI PassesOwn.never rfl (za3 (v 6)) (w_nm (i:=10) nd)
    (zah (s_st (i:=9) nd (v_op zbW (v 9) (v_bm F.plainAttrs_dict F.slot_dict_get F.type_dict_get (zlH hu) (v 3) (zaa (v 10) (zaa (zcr (zaa (v 10) zag)) zag)))))))
   (zah (s_if (PW.pt (t_or (t_cm (zc3 hu) (v 5) (v 3)) (zpv (t_cm (zwX hu) (v 9) (v_ix hu (v 3) (v 5))))))
    (zae (zi9 (v 9) (zja hu (v 3) (v 5)))
   (zah (s_st (i:=4) nd v_bl)))
    zbD))))
    zbD)))))))
   (zah (zch (v 3))))))))
theorem zsi:FnOk P w K mg base CX0 2 (fa 27) (fb 27) ["rules"] (upSp K zid):=ok3 Y.x27.fn zob zqr fun _ _ _ _ _ _ _ _ _ hr h=>⟨zg0,zsh T Z Y hr,zoO h⟩
theorem zw4(hr:Room 8 (A.deeper (envOfC "law" (zab zne) s.heap.objs.size f cdv))):Ps3 (cxOf CX0 P w K mg base zuZ "law" (zab zne) f cdv A outer s H E).nox (zao zne) zlY:=by
 have nd:=zsT.nd
 have hu:=zbU hr
 exact(zae (s_st (i:=1) nd (zbT (zaE (zoR T Z Y) (hr.mono (by decide)) (by rfl) Y.x24.at_ Y.x24.fn.kp Y.x24.bi (zaa (zaE (zma T Z Y) (hr.mono (by decide)) (by rfl) Y.x22.at_ Y.x22.fn.kp Y.x22.bi (zaa (v 0) zag)) zag))))
   (zae (s_st (i:=2) nd (zbT (zaE (zsi T Z Y) (hr.mono (by decide)) (by rfl) Y.x27.at_ Y.x27.fn.kp Y.x27.bi (zaa (v 1) zag))))
   (zae (s_st (i:=3) nd (zhR zag))
   (zae (zdI PassesOwn.never rfl (zot (v 1)) (zlk rfl (zbR (w_nm (i:=4) nd) (zbR (w_nm (i:=5) nd) (zbR (w_nm (i:=6) nd) zlj))))
    (zah (s_if (PW.pt (zj3 (t_cm (o_in hu) (v 4) (v 2)) (zhB (t_cm (zc3 hu) (v 4) (v 3)))))
    (zah (zbm (v_bm F.plainAttrs_list F.slot_list_append F.type_list_append zcm (v 3) (zaa (v 4) zag))))
    zbD)))
   (zae (s_st (i:=7) nd (zfA (ztN rfl) (by rfl) T.list_ zj9 (zaa (v 1) zag)))
   (zae (s_st (i:=8) nd (zaE (zeL T Z Y) (hr.mono (by decide)) (by rfl) Y.x21.at_ Y.x21.fn.kp Y.x21.bi (zaa (v 7) zag)))
   (zae (s_if (PW.pt (t_or (zrk (zi8 (zaD ztM (by rfl) T.isinstance_ zd4 (zaa (v 8) (zaa (zpu (by rfl) T.list_ zj9 (y:=.ty "list") rfl (fun _ _=>.ty _)) zag))))) (zpv (t_cm (o_ne hr.units) (v 7) (v 1)))))
    (zah (zch v_bl))
    zbD)
   (zae (s_if (t_cm (o_ne hr.units) (v 8) (zbT (zbV ["name","due"] [none,some 2] (za3 (v 3)) (fun B=>(w_nc (i:=0))) (fun B=>zc6) (fun B=>(zcb (zaa (v 0) (zaa (v_ix hu (v 1) (v 0)) zag)))))))
    (zah (zch v_bl))
    zbD)
   (zae (zdI PassesOwn.never rfl (za3 (v 8)) (w_nm (i:=9) nd)
    (zae (s_if (PW.pt (t_or (zrk (zi8 (zaD ztM (by rfl) T.isinstance_ zd4 (zaa (v 9) (zaa (zpu (by rfl) T.tuple_ znD (y:=.ty "tuple") rfl (fun _ _=>.ty _)) zag))))) (zpv (zrk (zi8 (zaD ztM (by rfl) T.isinstance_ zd4 (zaa (v_ix hu (v 9) zaj) (zaa (zpu (by rfl) T.list_ zj9 (y:=.ty "list") rfl (fun _ _=>.ty _)) zag))))))))
    (zah (zch v_bl))
    zbD)
   (zah (zbm (v_bm F.plainAttrs_list F.slot_list_append F.type_list_append zcm (v_ix hu (v 9) zaj) (zaa zi7 zag))))))
   (zae (zbm (v_bm F.plainAttrs_list F.slot_list_append F.type_list_append zcm (v 8) (zaa (zcb zag) zag)))
   (zah (zch (v_cm (o_eq hr.units) (zaE (zeL T Z Y) (hr.mono (by decide)) (by rfl) Y.x21.at_ Y.x21.fn.kp Y.x21.bi (zaa (v 7) zag)) (zbT (zbV ["name","due"] [none,some 2] (za3 (v 3)) (fun B=>(w_nc (i:=0))) (fun B=>zc6) (fun B=>(zcb (zaa (v 0) (zaa (v_ix hu (v 1) (v 0)) zag)))))))))))))))))))
theorem zw5:FnOk P w K mg base CX0 9 (fa 28) (fb 28) ["script"] (upSp K zqq):=ok3 Y.x28.fn zsT zu0 fun _ _ _ _ _ _ _ _ _ hr h=>⟨zlY,zw4 T Z Y hr,zsd h⟩
end
end Rg
namespace Rg
open PySem PySem.Spec PyProof.Rows L2 L3
noncomputable def en(P:Params)(x:String)(t:Tok)(v:Value):DictEntry:=⟨PyData.keyHash P (Str.ofString x),.str (Str.ofString x) t,v⟩
abbrev sT(x:String)(t:Tok):Value:=.str (Str.ofString x) t
abbrev cO(x:String)(a:Tok)(q:String)(b c:Tok)(l n:Int)(r:Addr)(u v w y z:Value)(k:Int)(d:Tok):Obj:=⟨.type "code",none,.fields #[sT x a,sT q b,sT "/claim/cut.py" c,.int l 0,.int n 0,.int 0 0,.int 0 0,.int 3 0,.ref r,.bool true,.int 181 0,u,v,w,y,z,.int k 0,.int l 0,sT "/claim/cut.py" d],#[]⟩
abbrev fO(x q:Str)(s:Stmt)(m c:Value):FuncData:=PySem.W.fnOf x q (zeU s) (zao s) (zab s) .none .none .none m none c .none
noncomputable abbrev zkL:FuncData:=fO "names" "names" zgk (sT "readgrove.grammars" 187) (.ref 20)
noncomputable abbrev zkM:FuncData:=fO "marks" "marks" zgl (sT "readgrove.covers" 198) (.ref 25)
noncomputable abbrev zcX:FuncData:=fO "__init__" "Queue.__init__" za6 (sT "readgrove.queues" 206) (.ref 39)
noncomputable abbrev zbL:FuncData:=fO "is_done" "Queue.is_done" zaI (sT "readgrove.queues" 206) (.ref 46)
noncomputable abbrev zdG:FuncData:=fO "put" "Queue.put" zbt (sT "readgrove.queues" 206) (.ref 53)
noncomputable abbrev zbB:FuncData:=fO "place_of" "Queue.place_of" zaB (sT "readgrove.queues" 206) (.ref 60)
noncomputable abbrev zcY:FuncData:=fO "take" "Queue.take" za7 (sT "readgrove.queues" 206) (.ref 67)
noncomputable abbrev zkN:FuncData:=fO "added" "added" zgm (sT "readgrove.leasts" 274) (.ref 81)
noncomputable abbrev zcq:FuncData:=fO "__init__" "Search.__init__" za0 (sT "readgrove.leasts" 274) (.ref 95)
noncomputable abbrev zca:FuncData:=fO "reach" "Search.reach" zaR (sT "readgrove.leasts" 274) (.ref 102)
noncomputable abbrev zbe:FuncData:=fO "take_next" "Search.take_next" zau (sT "readgrove.leasts" 274) (.ref 109)
noncomputable abbrev zaY:FuncData:=fO "step_by_name" "Search.step_by_name" zan (sT "readgrove.leasts" 274) (.ref 116)
noncomputable abbrev zbM:FuncData:=fO "settle" "Search.settle" zaJ (sT "readgrove.leasts" 274) (.ref 123)
noncomputable abbrev zdN:FuncData:=fO "least_trees" "least_trees" zbc (sT "readgrove.leasts" 274) (.ref 137)
noncomputable abbrev zbw:FuncData:=fO "one_behind_another" "one_behind_another" zat (sT "readgrove.leasts" 274) (.ref 144)
noncomputable abbrev zen:FuncData:=fO "no_weights" "no_weights" zbu (sT "readgrove.spans" 396) (.ref 149)
noncomputable abbrev zgs:FuncData:=fO "words_of" "words_of" zcl (sT "readgrove.nexts" 404) (.ref 156)
noncomputable abbrev zbQ:FuncData:=fO "shortest_lengths" "shortest_lengths" zaA (sT "readgrove.nexts" 404) (.ref 161)
noncomputable abbrev zdO:FuncData:=fO "tight_rules" "tight_rules" zbd (sT "readgrove.nexts" 404) (.ref 166)
noncomputable abbrev zi2:FuncData:=fO "row_by" "row_by" zek (sT "readgrove.nexts" 404) (.ref 171)
noncomputable abbrev zeo:FuncData:=fO "first_rows" "first_rows" zbv (sT "readgrove.nexts" 404) (.ref 178)
noncomputable abbrev zcQ:FuncData:=fO "shortest_rows" "shortest_rows" zaW (sT "readgrove.nexts" 404) (.ref 183)
noncomputable abbrev zft:FuncData:=fO "_law_numbers" "_law_numbers" zbO (sT "law_readgrove_k39_shortest_rows" 455) (.ref 190)
noncomputable abbrev zi3:FuncData:=fO "_law_take" "_law_take" zel (sT "law_readgrove_k39_shortest_rows" 455) (.ref 197)
noncomputable abbrev zhy:FuncData:=fO "_law_rules" "_law_rules" zdm (sT "law_readgrove_k39_shortest_rows" 455) (.ref 202)
noncomputable abbrev zfu:FuncData:=fO "_law_lengths" "_law_lengths" zbP (sT "law_readgrove_k39_shortest_rows" 455) (.ref 207)
noncomputable abbrev zkO:FuncData:=fO "_law_due" "_law_due" zgn (sT "law_readgrove_k39_shortest_rows" 455) (.ref 212)
noncomputable abbrev zi4:FuncData:=fO "_law_fits" "_law_fits" zem (sT "law_readgrove_k39_shortest_rows" 455) (.ref 217)
noncomputable abbrev zmd:FuncData:=fO "law" "law" zne (sT "law_readgrove_k39_shortest_rows" 455) (.ref 222)
noncomputable def hpK:Params→PySem.W.Frag:=fun P=>[(nat_lit 3,⟨(.type "dict"),none,.dict [en P "__name__" 165 (sT "law_readgrove_k39_shortest_rows" 455),en P "__doc__" 166 .none,en P "__package__" 167 .none,en P "__loader__" 168 (.builtin "__main__.__loader__#opaque"),en P "__spec__" 169 .none,en P "__annotations__" 170 (.ref 6),en P "__builtins__" 171 (.ref 4),en P "__file__" 173 (sT "/claim/cut.py" 172),en P "__cached__" 174 .none,en P "names" 197 (.ref 21),en P "marks" 205 (.ref 26),en P "Queue" 273 (.ref 71),en P "added" 283 (.ref 82),en P "Search" 373 (.ref 127),en P "least_trees" 386 (.ref 138),en P "one_behind_another" 395 (.ref 145),en P "no_weights" 403 (.ref 150),en P "words_of" 416 (.ref 157),en P "shortest_lengths" 422 (.ref 162),en P "tight_rules" 428 (.ref 167),en P "row_by" 434 (.ref 172),en P "first_rows" 448 (.ref 179),en P "shortest_rows" 454 (.ref 184),en P "_law_numbers" 469 (.ref 191),en P "_law_take" 478 (.ref 198),en P "_law_rules" 484 (.ref 203),en P "_law_lengths" 490 (.ref 208),en P "_law_due" 496 (.ref 213),en P "_law_fits" 502 (.ref 218),en P "law" 508 (.ref 223)].toArray 30,#[]⟩),
 (nat_lit 20,cO "names" 189 "names" 190 191 2 1 15 (.ref 16) .none (.ref 17) (.ref 18) (.ref 19) 195 196),
 (nat_lit 21,⟨(.type "function"),none,.func zkL,#[]⟩),
 (nat_lit 25,cO "marks" 200 "marks" 201 202 8 1 22 (.ref 23) .none .none .none (.ref 24) 203 204),
 (nat_lit 26,⟨(.type "function"),none,.func zkM,#[]⟩),
 (nat_lit 39,cO "__init__" 220 "Queue.__init__" 221 222 13 1 34 (.ref 35) .none (.ref 36) (.ref 37) (.ref 38) 224 225),
 (nat_lit 40,⟨(.type "function"),none,.func zcX,#[]⟩),
 (nat_lit 46,cO "is_done" 227 "Queue.is_done" 228 229 17 1 41 (.ref 42) .none (.ref 43) (.ref 44) (.ref 45) 231 232),
 (nat_lit 47,⟨(.type "function"),none,.func zbL,#[]⟩),
 (nat_lit 53,cO "put" 234 "Queue.put" 235 236 20 3 48 (.ref 49) .none (.ref 50) (.ref 51) (.ref 52) 240 241),
 (nat_lit 54,⟨(.type "function"),none,.func zdG,#[]⟩),
 (nat_lit 60,cO "place_of" 243 "Queue.place_of" 244 245 26 2 55 (.ref 56) .none (.ref 57) (.ref 58) (.ref 59) 251 252),
 (nat_lit 61,⟨(.type "function"),none,.func zbB,#[]⟩),
 (nat_lit 67,cO "take" 254 "Queue.take" 255 256 37 1 62 (.ref 63) .none (.ref 64) (.ref 65) (.ref 66) 261 262),
 (nat_lit 68,⟨(.type "function"),none,.func zcY,#[]⟩),
 (nat_lit 70,⟨(.type "dict"),none,.dict [en P "__module__" 215 (sT "readgrove.queues" 206),en P "__firstlineno__" 219 (.int 11 218),en P "__init__" 226 (.ref 40),en P "is_done" 233 (.ref 47),en P "put" 242 (.ref 54),en P "place_of" 253 (.ref 61),en P "take" 263 (.ref 68),en P "__static_attributes__" 266 (.ref 69),en P "__dict__" 268 (.ref 72),en P "__weakref__" 270 (.ref 73),en P "__doc__" 271 .none].toArray 4,#[]⟩),
 (nat_lit 71,⟨(.type "type"),none,.cls ⟨(Str.ofString "Queue"),[(.type "object")],[(.ref 71),(.type "object")],70,(Str.ofString "Queue"),true,[],[],false,none,false⟩,#[none,none,some (sT "Queue" 208),some (sT "Queue" 216),some (.builtin "object.__new__"),some (.bool true)]⟩),
 (nat_lit 81,cO "added" 276 "added" 277 278 46 2 76 (.ref 77) .none (.ref 78) (.ref 79) (.ref 80) 281 282),
 (nat_lit 82,⟨(.type "function"),none,.func zkN,#[]⟩),
 (nat_lit 95,cO "__init__" 296 "Search.__init__" 297 298 50 3 90 (.ref 91) .none (.ref 92) (.ref 93) (.ref 94) 302 303),
 (nat_lit 96,⟨(.type "function"),none,.func zcq,#[]⟩),
 (nat_lit 102,cO "reach" 305 "Search.reach" 306 307 60 4 97 (.ref 98) .none (.ref 99) (.ref 100) (.ref 101) 313 314),
 (nat_lit 103,⟨(.type "function"),none,.func zca,#[]⟩),
 (nat_lit 109,cO "take_next" 316 "Search.take_next" 317 318 66 1 104 (.ref 105) .none (.ref 106) (.ref 107) (.ref 108) 327 328),
 (nat_lit 110,⟨(.type "function"),none,.func zbe,#[]⟩),
 (nat_lit 116,cO "step_by_name" 330 "Search.step_by_name" 331 332 82 5 111 (.ref 112) .none (.ref 113) (.ref 114) (.ref 115) 340 341),
 (nat_lit 117,⟨(.type "function"),none,.func zaY,#[]⟩),
 (nat_lit 123,cO "settle" 343 "Search.settle" 344 345 87 4 118 (.ref 119) .none (.ref 120) (.ref 121) (.ref 122) 355 356),
 (nat_lit 124,⟨(.type "function"),none,.func zbM,#[]⟩),
 (nat_lit 126,⟨(.type "dict"),none,.dict [en P "__module__" 291 (sT "readgrove.leasts" 274),en P "__firstlineno__" 295 (.int 48 294),en P "__init__" 304 (.ref 96),en P "reach" 315 (.ref 103),en P "take_next" 329 (.ref 110),en P "step_by_name" 342 (.ref 117),en P "settle" 357 (.ref 124),en P "__static_attributes__" 366 (.ref 125),en P "__dict__" 368 (.ref 128),en P "__weakref__" 370 (.ref 129),en P "__doc__" 371 .none].toArray 4,#[]⟩),
 (nat_lit 127,⟨(.type "type"),none,.cls ⟨(Str.ofString "Search"),[(.type "object")],[(.ref 127),(.type "object")],126,(Str.ofString "Search"),true,[],[],false,none,false⟩,#[none,none,some (sT "Search" 284),some (sT "Search" 292),some (.builtin "object.__new__"),some (.bool true)]⟩),
 (nat_lit 137,cO "least_trees" 374 "least_trees" 375 376 96 4 132 (.ref 133) .none (.ref 134) (.ref 135) (.ref 136) 384 385),
 (nat_lit 138,⟨(.type "function"),none,.func zdN,#[]⟩),
 (nat_lit 144,cO "one_behind_another" 387 "one_behind_another" 388 389 104 1 139 (.ref 140) .none (.ref 141) (.ref 142) (.ref 143) 393 394),
 (nat_lit 145,⟨(.type "function"),none,.func zbw,#[]⟩),
 (nat_lit 149,cO "no_weights" 398 "no_weights" 399 400 110 1 146 (.ref 147) .none .none .none (.ref 148) 401 402),
 (nat_lit 150,⟨(.type "function"),none,.func zen,#[]⟩),
 (nat_lit 156,cO "words_of" 406 "words_of" 407 408 113 1 151 (.ref 152) .none (.ref 153) (.ref 154) (.ref 155) 414 415),
 (nat_lit 157,⟨(.type "function"),none,.func zgs,#[]⟩),
 (nat_lit 161,cO "shortest_lengths" 417 "shortest_lengths" 418 419 121 1 158 (.ref 159) .none .none .none (.ref 160) 420 421),
 (nat_lit 162,⟨(.type "function"),none,.func zbQ,#[]⟩),
 (nat_lit 166,cO "tight_rules" 423 "tight_rules" 424 425 125 2 163 (.ref 164) .none .none .none (.ref 165) 426 427),
 (nat_lit 167,⟨(.type "function"),none,.func zdO,#[]⟩),
 (nat_lit 171,cO "row_by" 429 "row_by" 430 431 133 3 168 (.ref 169) .none .none .none (.ref 170) 432 433),
 (nat_lit 172,⟨(.type "function"),none,.func zi2,#[]⟩),
 (nat_lit 178,cO "first_rows" 435 "first_rows" 436 437 137 2 173 (.ref 174) .none (.ref 175) (.ref 176) (.ref 177) 446 447),
 (nat_lit 179,⟨(.type "function"),none,.func zeo,#[]⟩),
 (nat_lit 183,cO "shortest_rows" 449 "shortest_rows" 450 451 150 1 180 (.ref 181) .none .none .none (.ref 182) 452 453),
 (nat_lit 184,⟨(.type "function"),none,.func zcQ,#[]⟩),
 (nat_lit 190,cO "_law_numbers" 457 "_law_numbers" 458 459 154 1 185 (.ref 186) .none (.ref 187) (.ref 188) (.ref 189) 467 468),
 (nat_lit 191,⟨(.type "function"),none,.func zft,#[]⟩),
 (nat_lit 197,cO "_law_take" 470 "_law_take" 471 472 166 2 192 (.ref 193) .none (.ref 194) (.ref 195) (.ref 196) 476 477),
 (nat_lit 198,⟨(.type "function"),none,.func zi3,#[]⟩),
 (nat_lit 202,cO "_law_rules" 479 "_law_rules" 480 481 172 1 199 (.ref 200) .none .none .none (.ref 201) 482 483),
 (nat_lit 203,⟨(.type "function"),none,.func zhy,#[]⟩),
 (nat_lit 207,cO "_law_lengths" 485 "_law_lengths" 486 487 186 1 204 (.ref 205) .none .none .none (.ref 206) 488 489),
 (nat_lit 208,⟨(.type "function"),none,.func zfu,#[]⟩),
 (nat_lit 212,cO "_law_due" 491 "_law_due" 492 493 195 1 209 (.ref 210) .none .none .none (.ref 211) 494 495),
 (nat_lit 213,⟨(.type "function"),none,.func zkO,#[]⟩),
 (nat_lit 217,cO "_law_fits" 497 "_law_fits" 498 499 212 4 214 (.ref 215) .none .none .none (.ref 216) 500 501),
 (nat_lit 218,⟨(.type "function"),none,.func zi4,#[]⟩),
 (nat_lit 222,cO "law" 503 "law" 504 505 217 1 219 (.ref 220) .none .none .none (.ref 221) 506 507),
 (nat_lit 223,⟨(.type "function"),none,.func zmd,#[]⟩)]
noncomputable def hpA:List Addr:=[nat_lit 3,nat_lit 20,nat_lit 21,nat_lit 25,nat_lit 26,nat_lit 39,nat_lit 40,nat_lit 46,nat_lit 47,nat_lit 53,nat_lit 54,nat_lit 60,nat_lit 61,nat_lit 67,nat_lit 68,nat_lit 70,nat_lit 71,nat_lit 81,nat_lit 82,nat_lit 95,nat_lit 96,nat_lit 102,nat_lit 103,nat_lit 109,nat_lit 110,nat_lit 116,nat_lit 117,nat_lit 123,nat_lit 124,nat_lit 126,nat_lit 127,nat_lit 137,nat_lit 138,nat_lit 144,nat_lit 145,nat_lit 149,nat_lit 150,nat_lit 156,nat_lit 157,nat_lit 161,nat_lit 162,nat_lit 166,nat_lit 167,nat_lit 171,nat_lit 172,nat_lit 178,nat_lit 179,nat_lit 183,nat_lit 184,nat_lit 190,nat_lit 191,nat_lit 197,nat_lit 198,nat_lit 202,nat_lit 203,nat_lit 207,nat_lit 208,nat_lit 212,nat_lit 213,nat_lit 217,nat_lit 218,nat_lit 222,nat_lit 223]
noncomputable def qv:Program:={PySem.Challenge.pw_readgrove_k39_shortest_rows with main:={PySem.Challenge.pw_readgrove_k39_shortest_rows.main with body:=[top 1,top 3,top 5,top 7,top 8,top 9,top 10,top 12,top 14,top 15,top 16,top 17,top 18,top 19,top 21,top 22,top 23,top 24,top 25,top 26,top 27]}}
noncomputable def hk:PySem.W.Hook:=PySem.W.kHook hpK hpA (fun _=>by kernel_rfl)
theorem ar0{C:List Value→Prop}(h:C []):∀ us:List Value,us.length=0→C us:=fun us e=>by cases us with | nil=>exact h | cons a l=>exact nomatch e
theorem ar1{C:List Value→Prop}(h:∀ a0,C [a0]):∀ us:List Value,us.length=1→C us:=fun us e=>by cases us with | nil=>exact nomatch e | cons a l=>exact ar0 (C:=fun l=>C (a :: l)) (h a) l (Nat.succ.inj e)
theorem ar2{C:List Value→Prop}(h:∀ a0 a1,C [a0,a1]):∀ us:List Value,us.length=2→C us:=fun us e=>by cases us with | nil=>exact nomatch e | cons a l=>exact ar1 (C:=fun l=>C (a :: l)) (h a) l (Nat.succ.inj e)
theorem ar3{C:List Value→Prop}(h:∀ a0 a1 a2,C [a0,a1,a2]):∀ us:List Value,us.length=3→C us:=fun us e=>by cases us with | nil=>exact nomatch e | cons a l=>exact ar2 (C:=fun l=>C (a :: l)) (h a) l (Nat.succ.inj e)
theorem ar4{C:List Value→Prop}(h:∀ a0 a1 a2 a3,C [a0,a1,a2,a3]):∀ us:List Value,us.length=4→C us:=fun us e=>by cases us with | nil=>exact nomatch e | cons a l=>exact ar3 (C:=fun l=>C (a :: l)) (h a) l (Nat.succ.inj e)
theorem ar5{C:List Value→Prop}(h:∀ a0 a1 a2 a3 a4,C [a0,a1,a2,a3,a4]):∀ us:List Value,us.length=5→C us:=fun us e=>by cases us with | nil=>exact nomatch e | cons a l=>exact ar4 (C:=fun l=>C (a :: l)) (h a) l (Nat.succ.inj e)
def zep(K:Params→PySem.W.Frag)(a:Addr)(x:Str):Prop:=∀ P,PySem.W.nsIn (K P) mainGlobals x=some (some (.ref a))
section
variable {w:World}{h:Heap}{mg:Str→Option Value}
theorem zsj:zep hpK 21 "names":=fun _=>by kernel_rfl
theorem zsk(X:(hpK w.params).In h)(G:h.Ns mainGlobals mg):Df (hpK w.params) mg "names" zgk ["grammar"] 21 zkL:=zaM (ps:=["grammar"]) (fnMk) (PySem.W.mg_of X G (zsj _)) fun _ _ _ _ _ _=>ar1 fun _=>rfl
theorem zsl:zep hpK 26 "marks":=fun _=>by kernel_rfl
theorem zsm(X:(hpK w.params).In h)(G:h.Ns mainGlobals mg):Df (hpK w.params) mg "marks" zgl ["things"] 26 zkM:=zaM (ps:=["things"]) (fnMk) (PySem.W.mg_of X G (zsl _)) fun _ _ _ _ _ _=>ar1 fun _=>rfl
theorem zg7:Fun (hpK w.params) "__init__" "Queue.__init__" za6 40 zcX:=fnMk
theorem zkP:Di (hpK w.params) 71 "__init__" "Queue.__init__" za6 ["self"] 40 zcX:=⟨zg7,⟨by kernel_rfl,by kernel_rfl,by kernel_rfl,by kernel_rfl⟩,zg7.binds (ps:=["self"]) fun _ _ _ _ _ _=>ar1 fun _=>rfl⟩
theorem zeM:Fun (hpK w.params) "is_done" "Queue.is_done" zaI 47 zbL:=fnMk
theorem zh2:Dm (hpK w.params) 71 "is_done" "Queue.is_done" zaI ["self"] 47 zbL:=⟨zeM,⟨by kernel_rfl,by kernel_rfl,by kernel_rfl⟩,zeM.binds (ps:=["self"]) fun _ _ _ _ _ _=>ar1 fun _=>rfl⟩
theorem zhO:Fun (hpK w.params) "put" "Queue.put" zbt 54 zdG:=fnMk
theorem zme:Dm (hpK w.params) 71 "put" "Queue.put" zbt ["self","cost","thing"] 54 zdG:=⟨zhO,⟨by kernel_rfl,by kernel_rfl,by kernel_rfl⟩,zhO.binds (ps:=["self","cost","thing"]) fun _ _ _ _ _ _=>ar3 fun _ _ _=>rfl⟩
theorem zd0:Fun (hpK w.params) "place_of" "Queue.place_of" zaB 61 zbB:=fnMk
theorem zhz:Dm (hpK w.params) 71 "place_of" "Queue.place_of" zaB ["self","cost"] 61 zbB:=⟨zd0,⟨by kernel_rfl,by kernel_rfl,by kernel_rfl⟩,zd0.binds (ps:=["self","cost"]) fun _ _ _ _ _ _=>ar2 fun _ _=>rfl⟩
theorem zg8:Fun (hpK w.params) "take" "Queue.take" za7 68 zcY:=fnMk
theorem zkQ:Dm (hpK w.params) 71 "take" "Queue.take" za7 ["self"] 68 zcY:=⟨zg8,⟨by kernel_rfl,by kernel_rfl,by kernel_rfl⟩,zg8.binds (ps:=["self"]) fun _ _ _ _ _ _=>ar1 fun _=>rfl⟩
theorem zsn:zep hpK 82 "added":=fun _=>by kernel_rfl
theorem zso(X:(hpK w.params).In h)(G:h.Ns mainGlobals mg):Df (hpK w.params) mg "added" zgm ["cost","other"] 82 zkN:=zaM (ps:=["cost","other"]) (fnMk) (PySem.W.mg_of X G (zsn _)) fun _ _ _ _ _ _=>ar2 fun _ _=>rfl
theorem zf3:Fun (hpK w.params) "__init__" "Search.__init__" za0 96 zcq:=fnMk
theorem zjr:Di (hpK w.params) 127 "__init__" "Search.__init__" za0 ["self","grammar","steps"] 96 zcq:=⟨zf3,⟨by kernel_rfl,by kernel_rfl,by kernel_rfl,by kernel_rfl⟩,zf3.binds (ps:=["self","grammar","steps"]) fun _ _ _ _ _ _=>ar3 fun _ _ _=>rfl⟩
theorem zfv:Fun (hpK w.params) "reach" "Search.reach" zaR 103 zca:=fnMk
theorem zi5:Dm (hpK w.params) 127 "reach" "Search.reach" zaR ["self","number","cut","cost"] 103 zca:=⟨zfv,⟨by kernel_rfl,by kernel_rfl,by kernel_rfl⟩,zfv.binds (ps:=["self","number","cut","cost"]) fun _ _ _ _ _ _=>ar4 fun _ _ _ _=>rfl⟩
theorem zdp:Fun (hpK w.params) "take_next" "Search.take_next" zau 110 zbe:=fnMk
theorem zgt:Dm (hpK w.params) 127 "take_next" "Search.take_next" zau ["self"] 110 zbe:=⟨zdp,⟨by kernel_rfl,by kernel_rfl,by kernel_rfl⟩,zdp.binds (ps:=["self"]) fun _ _ _ _ _ _=>ar1 fun _=>rfl⟩
theorem zcg:Fun (hpK w.params) "step_by_name" "Search.step_by_name" zan 117 zaY:=fnMk
theorem zeS:Dm (hpK w.params) 127 "step_by_name" "Search.step_by_name" zan ["self","number","cut","cost","key"] 117 zaY:=⟨zcg,⟨by kernel_rfl,by kernel_rfl,by kernel_rfl⟩,zcg.binds (ps:=["self","number","cut","cost","key"]) fun _ _ _ _ _ _=>ar5 fun _ _ _ _ _=>rfl⟩
theorem zeN:Fun (hpK w.params) "settle" "Search.settle" zaJ 124 zbM:=fnMk
theorem zh3:Dm (hpK w.params) 127 "settle" "Search.settle" zaJ ["self","number","cut","cost"] 124 zbM:=⟨zeN,⟨by kernel_rfl,by kernel_rfl,by kernel_rfl⟩,zeN.binds (ps:=["self","number","cut","cost"]) fun _ _ _ _ _ _=>ar4 fun _ _ _ _=>rfl⟩
theorem zjs:zep hpK 138 "least_trees":=fun _=>by kernel_rfl
theorem zjt(X:(hpK w.params).In h)(G:h.Ns mainGlobals mg):Df (hpK w.params) mg "least_trees" zbc ["grammar","places","steps","weights"] 138 zdN:=zaM (ps:=["grammar","places","steps","weights"]) (fnMk) (PySem.W.mg_of X G (zjs _)) fun _ _ _ _ _ _=>ar4 fun _ _ _ _=>rfl
theorem zfw:zep hpK 145 "one_behind_another":=fun _=>by kernel_rfl
theorem zfx(X:(hpK w.params).In h)(G:h.Ns mainGlobals mg):Df (hpK w.params) mg "one_behind_another" zat ["lists"] 145 zbw:=zaM (ps:=["lists"]) (fnMk) (PySem.W.mg_of X G (zfw _)) fun _ _ _ _ _ _=>ar1 fun _=>rfl
theorem zkR:zep hpK 150 "no_weights":=fun _=>by kernel_rfl
theorem zkS(X:(hpK w.params).In h)(G:h.Ns mainGlobals mg):Df (hpK w.params) mg "no_weights" zbu ["grammar"] 150 zen:=zaM (ps:=["grammar"]) (fnMk) (PySem.W.mg_of X G (zkR _)) fun _ _ _ _ _ _=>ar1 fun _=>rfl
theorem znh:zep hpK 157 "words_of":=fun _=>by kernel_rfl
theorem zni(X:(hpK w.params).In h)(G:h.Ns mainGlobals mg):Df (hpK w.params) mg "words_of" zcl ["grammar"] 157 zgs:=zaM (ps:=["grammar"]) (fnMk) (PySem.W.mg_of X G (znh _)) fun _ _ _ _ _ _=>ar1 fun _=>rfl
theorem zgu:zep hpK 162 "shortest_lengths":=fun _=>by kernel_rfl
theorem zgv(X:(hpK w.params).In h)(G:h.Ns mainGlobals mg):Df (hpK w.params) mg "shortest_lengths" zaA ["grammar"] 162 zbQ:=zaM (ps:=["grammar"]) (fnMk) (PySem.W.mg_of X G (zgu _)) fun _ _ _ _ _ _=>ar1 fun _=>rfl
theorem zju:zep hpK 167 "tight_rules":=fun _=>by kernel_rfl
theorem zjv(X:(hpK w.params).In h)(G:h.Ns mainGlobals mg):Df (hpK w.params) mg "tight_rules" zbd ["grammar","lengths"] 167 zdO:=zaM (ps:=["grammar","lengths"]) (fnMk) (PySem.W.mg_of X G (zju _)) fun _ _ _ _ _ _=>ar2 fun _ _=>rfl
theorem zqJ:zep hpK 172 "row_by":=fun _=>by kernel_rfl
theorem zqK(X:(hpK w.params).In h)(G:h.Ns mainGlobals mg):Df (hpK w.params) mg "row_by" zek ["own","rows","parts"] 172 zi2:=zaM (ps:=["own","rows","parts"]) (fnMk) (PySem.W.mg_of X G (zqJ _)) fun _ _ _ _ _ _=>ar3 fun _ _ _=>rfl
theorem zkT:zep hpK 179 "first_rows":=fun _=>by kernel_rfl
theorem zkU(X:(hpK w.params).In h)(G:h.Ns mainGlobals mg):Df (hpK w.params) mg "first_rows" zbv ["grammar","lengths"] 179 zeo:=zaM (ps:=["grammar","lengths"]) (fnMk) (PySem.W.mg_of X G (zkT _)) fun _ _ _ _ _ _=>ar2 fun _ _=>rfl
theorem zh4:zep hpK 184 "shortest_rows":=fun _=>by kernel_rfl
theorem zh5(X:(hpK w.params).In h)(G:h.Ns mainGlobals mg):Df (hpK w.params) mg "shortest_rows" zaW ["grammar"] 184 zcQ:=zaM (ps:=["grammar"]) (fnMk) (PySem.W.mg_of X G (zh4 _)) fun _ _ _ _ _ _=>ar1 fun _=>rfl
theorem zmf:zep hpK 191 "_law_numbers":=fun _=>by kernel_rfl
theorem zmg(X:(hpK w.params).In h)(G:h.Ns mainGlobals mg):Df (hpK w.params) mg "_law_numbers" zbO ["script"] 191 zft:=zaM (ps:=["script"]) (fnMk) (PySem.W.mg_of X G (zmf _)) fun _ _ _ _ _ _=>ar1 fun _=>rfl
theorem zqL:zep hpK 198 "_law_take":=fun _=>by kernel_rfl
theorem zqM(X:(hpK w.params).In h)(G:h.Ns mainGlobals mg):Df (hpK w.params) mg "_law_take" zel ["deck","many"] 198 zi3:=zaM (ps:=["deck","many"]) (fnMk) (PySem.W.mg_of X G (zqL _)) fun _ _ _ _ _ _=>ar2 fun _ _=>rfl
theorem zoS:zep hpK 203 "_law_rules":=fun _=>by kernel_rfl
theorem zoT(X:(hpK w.params).In h)(G:h.Ns mainGlobals mg):Df (hpK w.params) mg "_law_rules" zdm ["deck"] 203 zhy:=zaM (ps:=["deck"]) (fnMk) (PySem.W.mg_of X G (zoS _)) fun _ _ _ _ _ _=>ar1 fun _=>rfl
theorem zmh:zep hpK 208 "_law_lengths":=fun _=>by kernel_rfl
theorem zmi(X:(hpK w.params).In h)(G:h.Ns mainGlobals mg):Df (hpK w.params) mg "_law_lengths" zbP ["rules"] 208 zfu:=zaM (ps:=["rules"]) (fnMk) (PySem.W.mg_of X G (zmh _)) fun _ _ _ _ _ _=>ar1 fun _=>rfl
theorem zsp:zep hpK 213 "_law_due":=fun _=>by kernel_rfl
theorem zsq(X:(hpK w.params).In h)(G:h.Ns mainGlobals mg):Df (hpK w.params) mg "_law_due" zgn ["rules"] 213 zkO:=zaM (ps:=["rules"]) (fnMk) (PySem.W.mg_of X G (zsp _)) fun _ _ _ _ _ _=>ar1 fun _=>rfl
theorem zqN:zep hpK 218 "_law_fits":=fun _=>by kernel_rfl
theorem zqO(X:(hpK w.params).In h)(G:h.Ns mainGlobals mg):Df (hpK w.params) mg "_law_fits" zem ["rules","lengths","parts","head"] 218 zi4:=zaM (ps:=["rules","lengths","parts","head"]) (fnMk) (PySem.W.mg_of X G (zqN _)) fun _ _ _ _ _ _=>ar4 fun _ _ _ _=>rfl
theorem zsU:zep hpK 223 "law":=fun _=>by kernel_rfl
theorem zw6(X:(hpK w.params).In h)(G:h.Ns mainGlobals mg):Df (hpK w.params) mg "law" zne ["script"] 223 zmd:=zaM (ps:=["script"]) (fnMk) (PySem.W.mg_of X G (zsU _)) fun _ _ _ _ _ _=>ar1 fun _=>rfl
theorem mn{x:Str}(X:(hpK w.params).In h)(G:h.Ns mainGlobals mg)(e:PySem.W.nsIn (hpK w.params) mainGlobals x=some none:=by kernel_rfl):mg x=none:=PySem.W.mg_none_of X G e
theorem zxT(X:(hpK w.params).In h)(G:h.Ns mainGlobals mg):Tx mg:=⟨mn X G,mn X G,mn X G,mn X G,mn X G,mn X G,mn X G,mn X G,mn X G,mn X G,mn X G,mn X G,mn X G⟩
theorem zxU(X:(hpK w.params).In h)(G:h.Ns mainGlobals mg):Kc (hpK w.params) mg ⟨71,127⟩:=⟨⟨by kernel_rfl,by kernel_rfl,by kernel_rfl,by kernel_rfl⟩,PySem.W.mg_of (v:=.ref 71) X G (by kernel_rfl),⟨by kernel_rfl,by kernel_rfl,by kernel_rfl,by kernel_rfl⟩,PySem.W.mg_of (v:=.ref 127) X G (by kernel_rfl),(show PySem.W.findIn (hpK w.params) (.ref 71) "costs" = some none by kernel_rfl),(show PySem.W.findIn (hpK w.params) (.ref 71) "waiting" = some none by kernel_rfl),(show PySem.W.findIn (hpK w.params) (.ref 127) "grammar" = some none by kernel_rfl),(show PySem.W.findIn (hpK w.params) (.ref 127) "own" = some none by kernel_rfl),(show PySem.W.findIn (hpK w.params) (.ref 127) "steps" = some none by kernel_rfl),(show PySem.W.findIn (hpK w.params) (.ref 127) "queue" = some none by kernel_rfl),(show PySem.W.findIn (hpK w.params) (.ref 127) "reached" = some none by kernel_rfl),(show PySem.W.findIn (hpK w.params) (.ref 127) "best" = some none by kernel_rfl),(show PySem.W.findIn (hpK w.params) (.ref 127) "ends" = some none by kernel_rfl),(show PySem.W.findIn (hpK w.params) (.ref 127) "begun" = some none by kernel_rfl)⟩
def faL(i:Nat):Addr:=([21,26,40,47,61,54,68,82,96,103,124,117,110,138,145,150,157,162,167,172,179,184,191,198,203,208,218,213,223]:List Addr).getD i 0
noncomputable def fbL:Nat→FuncData
 | 0=>zkL
 | 1=>zkM
 | 2=>zcX
 | 3=>zbL
 | 4=>zbB
 | 5=>zdG
 | 6=>zcY
 | 7=>zkN
 | 8=>zcq
 | 9=>zca
 | 10=>zbM
 | 11=>zaY
 | 12=>zbe
 | 13=>zdN
 | 14=>zbw
 | 15=>zen
 | 16=>zgs
 | 17=>zbQ
 | 18=>zdO
 | 19=>zi2
 | 20=>zeo
 | 21=>zcQ
 | 22=>zft
 | 23=>zi3
 | 24=>zhy
 | 25=>zfu
 | 26=>zi4
 | 27=>zkO
 | 28=>zmd
 | _=>zmd
theorem zxV(X:(hpK w.params).In h)(G:h.Ns mainGlobals mg):Al (hpK w.params) mg ⟨71,127⟩ faL fbL:=⟨zsk X G,zsm X G,zkP,zh2,zhz,zme,zkQ,zso X G,zjr,zi5,zh3,zeS,zgt,zjt X G,zfx X G,zkS X G,zni X G,zgv X G,zjv X G,zqK X G,zkU X G,zh5 X G,zmg X G,zqM X G,zoT X G,zmi X G,zqO X G,zsq X G,zw6 X G⟩
end
theorem zw7{l:PySem.W.OpenLaw}{w:World}{h:Heap}{mg:Str→Option Value}{fa:Addr}(X:(hpK w.params).In h)(G:h.Ns mainGlobals mg)(hfa:mg "law" = some (.ref fa)) :
  ∃ fd:FuncData,(∀ (s:Shared) (v:Value),BindsTo s fd ⟨[v],[]⟩ [("script",v)])∧∀ base:Heap,(hpK w.params).In base→base.Ns mainGlobals mg→FnOk l.prog w (hpK w.params) mg base CX0 9 fa fd ["script"] (upSp (hpK w.params) zln):=by
 have e:=hfa.symm.trans (PySem.W.mg_of X G (zsU _))
 cases e
 exact⟨zmd,fun s v=>.of_eq rfl,fun base _ _=>zw5 (zxT X G) (zxU X G) (zxV X G)⟩
theorem walk{l:PySem.W.OpenLaw}{q:Program}{loose:List Str}{XP:(Str→Option Value)→Heap→Prop}{YP:World→Heap→Prop}{d:DefRec}{K:Params→PySem.W.Frag}(hn:l.most=some 63)(hdf:d.params.defaults=[])
  (hY:∀ (w:World) (h:Heap),YP w h→(K w.params).In h)
  (F:∀ (w:World) (mg:Str→Option Value) (fa:Addr) (h:Heap),(K w.params).In h→h.Ns mainGlobals mg→mg d.name=some (.ref fa)→
   ∃ fd:FuncData,(∀ (s:Shared) (u:Value),BindsTo s fd ⟨[u],[]⟩ [("script",u)])∧∀ base:Heap,(K w.params).In base→base.Ns mainGlobals mg→FnOk l.prog w (K w.params) mg base CX0 9 fa fd ["script"] (upSp (K w.params) zln)) :
  PySem.W.WalkO q loose XP YP l.row.toRowW d [] (fun f vs=>PySem.call f vs):=
 L2.ztp (n:=63) (k:=9) (x:="script") (CX:=fun _=>CX0) (sp:=fun w=>upSp (K w.params) zln) hn (by decide) hdf ⟨rfl,by decide,by decide⟩ hY F (fun _ _ a ns hl ho hS=>zvZ hl ho hS) fun _ _ _ _ _ z=>z
end Rg
open PySem PySem.W PyProof.Rows
set_option maxRecDepth 100000 in
set_option maxHeartbeats 0 in
theorem PySem.Challenge.cw_readgrove_k39_shortest_rows_holds : PySem.Challenge.rw_readgrove_k39_shortest_rows.Holds := by
 w_on; o_law
 refine PySem.W.holds_open (r := PySem.Challenge.rw_readgrove_k39_shortest_rows.row) (q := Rg.qv) (loose := []) (N := 2816)
  (Xt := fun s => xlAt Rg.qv [] s && recOk (RowW.records (OpenRow.toRowW PySem.Challenge.rw_readgrove_k39_shortest_rows.row)) s)
  (XP := XL Rg.qv []) (Yf := Rg.hk.obs) (Ya := Rg.hk.val) (YP := Rg.hk.says) ?hl Rg.hk.of Rg.hk.keeps
  (fun s e => xl_of s (Bool.and_eq_true_iff.mp e).1) XL.keeps (by rfl) (by rfl) (by rfl) (fun s e => recFacts_of (Bool.and_eq_true_iff.mp e).2)
  (by rfl) (by assumption) (by decide +kernel) ⟨rfl, rfl, rfl, rfl, rfl, by decide +kernel⟩ ?hw ?hc
 case hw => w_witness2
 case hc => exact Rg.walk (l := PySem.Challenge.rw_readgrove_k39_shortest_rows) rfl rfl (fun w h Y => PySem.W.kIn_of Y) (fun w mg fa h KX G hmg => Rg.zw7 KX G hmg)
 case hl => intro w; kernel_rfl
